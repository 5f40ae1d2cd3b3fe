import PyProof.Rows.All
import Wide.All
import OpenK.AllK
import Wide.FinOn
import Lean
import PyProof.EqAt
import PyProof.EqKinds
import PyProof.TupleCall
import KE.KTryMore
import PyProof.NsDelKeeps
import PyProof.EnumStmt
import KE.KRevIter
import PyProof.ListNew
import PyProof.Rows.SortRuns
import KE.KIntText
import PyProof.ListRange
import PyProof.Rows.Range3
import PyProof.Rows.TupDisplay
import KE.KSortTup
import PySem.Challenge.RW_sowring_k45_whole_rows_march_in_rounds
open List renaming getD_eq_getElem?_getD->Zte,getElem?_eq_getElem->Ztf,mem_of_getElem?->Ztg,mem_append_right->Zth,getElem?_eq_some_iff->Zti,mem_append->Ztk,getElem?_append_left->Ztl,getElem?_append_right->Ztm,length_map->Zto,size_toArray->Ztp,append_assoc->Ztq,mem_append_left->Zts,mem_cons->Ztt,mem_range->Ztu,map_cons->Ztv,pairwise_append->Ztx,drop_eq_getElem_cons->Zty,getElem?_map->Ztz,all_eq_true->Zt1,getElem?_eq_none->Zt2,sum_cons->Zt3,map_append->Zt4,take_append_drop->Zt6,length_take->Zt7,length_append->Zt8,getElem?_range->Zt9,mem_map->ZtA,length_cons->ZtC,take_of_length_le->ZtD,mem_cons_of_mem->ZtF,range_succ->ZtG,mem_singleton->ZtI,mem_of_mem_drop->ZtJ,map_nil->ZtK,getElem?_drop->ZtL,sum_append->ZtM,getElem?_eq_none_iff->ZtN,extract_eq_take_drop->ZtO,getElem?_set_self->ZtP,mem_of_mem_take->ZtQ,length_drop->ZtR,getElem?_take->ZtS,drop_eq_nil_of_le->ZtW,lookup_cons->ZtX,getElem?_set_ne->ZtY,map_map->ZtZ,append_nil->Zub,nil_append->Zuc,replicate_succ->Zud,length_pos_iff->Zue,mem_filter->Zuf,pairwise_cons->Zug,getElem?_of_mem->Zui,sum_nil->Zuj,drop_of_length_le->Zuk,perm_append_comm->Zul,getElem?_replicate->Zun,map_congr_left->Zuq,filter_cons->Zus,length_replicate->Zut,singleton_append->Zuu,getElem?_take_of_lt->Zuw,flatten_cons->Zux,pairwise_singleton->Zuz,drop_zero->Zu2,ext_getElem?->Zu5,length_range->Zu7,getElem?_mapIdx->Zu8,pairwise_iff_getElem->Zu9,ext_getElem->ZuB,getElem_mem->ZuC,find?_range_eq_some->ZuI,mem_cons_self->ZuJ,getElem?_cons_zero->ZuK,pairwise_map->ZuP,contains_iff_mem->ZuR,set_append_right->ZuS,length_filter_le->ZuU,mem_reverse->ZuV,getElem?_replicate_of_lt->ZuW,eq_nil_of_length_eq_zero->ZuX,filterMap_cons->ZuZ,nodup_cons->Zva,length_set->Zvb,getElem_of_mem->Zvd,length_nil->Zvf,getD_cons_succ->Zvh,mem_filterMap->Zvl,find?_eq_none->Zvn,any_cons->Zvp,drop_length->Zvr,cons_append->Zvs,of_mem_zip->Zvu,filter_nil->Zvv
open Nat renaming le_refl->Ztj,lt_of_lt_of_le->Ztw,ne_of_lt->Zt0,le_trans->Zt5,zero_le->ZtB,zero_add->ZtT,lt_irrefl->ZtU,mod_eq_of_lt->ZtV,add_sub_cancel->Zua,lt_succ_of_lt->Zup,add_zero->Zuy,lt_succ_self->Zu0,lt_of_le_of_lt->Zu3,ne_of_gt->Zu4,add_mul_mod_self_left->ZuA,mod_lt->ZuH,not_lt->ZuN,sub_self->ZuQ,succ_pos->ZuT,pow_le_pow_right->ZuY,le_succ->Zvc,min_le_left->Zve,mod_add_mod->Zvi,add_comm->Zvm,add_mod_right->Zvo,add_assoc->Zvq
open Int renaming toNat_natCast->Ztr,toNat_of_nonneg->ZtE,emod_lt_of_pos->Zuh,emod_nonneg->Zum,zero_add->Zuo,natCast_emod->Zu1,mul_one->ZuD,add_mul->ZuE,mul_add->ZuF,one_mul->ZuG,eq_ofNat_of_zero_le->ZuM
open Array renaming length_toList->Ztn,getElem?_toList->ZtH,toList_extract->Zuv,toList_push->ZuO,toList_append->Zvg,toList_setIfInBounds->Zvj,perm_iff_toList_perm->Zvk,toList_map->Zvt
open Option renaming getD_some->Zur,toList->Zu6,map_some->ZuL
set_option Elab.async false
set_option linter.all false
set_option maxRecDepth 100000
namespace L2
open PySem PySem.Spec PyProof.Rows
noncomputable abbrev Key:=Sum Int Str
noncomputable def ZqM:Key->Value->Bool
 |.inl k,v=>Value.isInt k v
 |.inr x,v=>Value.isStrOf x v
noncomputable def ZsT (w:World):Key->Int
 |.inl k=>hashInt k
 |.inr x=>hashStr w x
theorem WA:∀{k:Key}{v:Value},ZqM k v=true->(∃i t,k=Sum.inl i/\v=Value.int i t)\/(∃x t,k=Sum.inr x/\v=Value.str x t)
 |.inl i,v,h=>by
  obtain⟨t,e⟩:=Value.isInt_shape (k:=i) (v:=v) h
  exact .inl ⟨i,t,rfl,e⟩
 |.inr x,v,h=>by
  obtain⟨t,e⟩:=Value.isStrOf_shape (x:=x) (v:=v) h
  exact .inr ⟨x,t,rfl,e⟩
theorem ZqL (a b:Int):decide ((Sum.inl a:Key)=Sum.inl b)=(a==b):=by
 by_cases e:a=b
 ·subst e;simp
 ·have h:¬(Sum.inl a:Key)=Sum.inl b:=fun q=>e (Sum.inl.inj q)
  rw[decide_eq_false h]
  exact(beq_eq_false_iff_ne.mpr e).symm
theorem ZqI (a b:Str):decide ((Sum.inr a:Key)=Sum.inr b)=decide (a=b):=by
 by_cases e:a=b
 ·subst e;simp
 ·have h:¬(Sum.inr a:Key)=Sum.inr b:=fun q=>e (Sum.inr.inj q)
  rw[decide_eq_false h,decide_eq_false e]
theorem ZqK (a:Int) (b:Str):decide ((Sum.inl a:Key)=Sum.inr b)=false:=decide_eq_false (fun q=>nomatch q)
theorem ZqJ (a:Str) (b:Int):decide ((Sum.inr a:Key)=Sum.inl b)=false:=decide_eq_false (fun q=>nomatch q)
noncomputable def ZlB (prog:Program) (w:World):PySem.KeyKind prog w Key where
 is:=ZqM
 hash:=ZsT w
 inj:=fun v a b ha hb=>by
  rcases WA ha with ⟨i,t,rfl,rfl⟩|⟨x,t,rfl,rfl⟩
  ·rcases WA hb with ⟨j,u,rfl,e⟩|⟨y,u,rfl,e⟩
   ·injection e with e1 _;rw[e1]
   ·exact nomatch e
  ·rcases WA hb with ⟨j,u,rfl,e⟩|⟨y,u,rfl,e⟩
   ·exact nomatch e
   ·injection e with e1 _;rw[e1]
 byValue:=fun k v h=>by
  rcases WA h with ⟨i,t,rfl,rfl⟩|⟨x,t,rfl,rfl⟩<;>rfl
 pyHash:=fun hv h=>by
  rcases WA hv with ⟨i,t,rfl,rfl⟩|⟨x,t,rfl,rfl⟩
  ·exact wpAny_pyHash_int h
  ·exact wpAny_pyHash_str h
 eqBool:=fun hu hv h=>by
  rcases WA hu with ⟨i,t,rfl,rfl⟩|⟨x,t,rfl,rfl⟩
  ·rcases WA hv with ⟨j,u,rfl,rfl⟩|⟨y,u,rfl,rfl⟩
   ·rw[ZqL] at h;exact wpAny_eqBool_int h
   ·rw[ZqK] at h;exact SeqAt.EqAt.int_str i t y u _ _ _ _ h
  ·rcases WA hv with ⟨j,u,rfl,rfl⟩|⟨y,u,rfl,rfl⟩
   ·rw[ZqJ] at h;exact SeqAt.EqAt.str_int x t j u _ _ _ _ h
   ·rw[ZqI] at h;exact wpAny_eqBool_str h
 «strs»:=fun k x t v h=>by
  rcases WA h with ⟨i,u,rfl,e⟩|⟨y,u,rfl,e⟩
  ·exact nomatch e
  ·injection e with e1 _
   subst e1
   cases v<;>rfl
inductive V where
 |non|bl (b:Bool)|int (i:Int)|str (x:Str)|byt (b:Array UInt8)|flt (b:UInt64)|ref (a:Addr)|ty (n:String)
 deriving DecidableEq
noncomputable def U1:V->Value->Prop
 |.non,u=>u=Value.none
 |.bl b,u=>u=Value.bool b
 |.int i,u=>∃t,u=Value.int i t
 |.str x,u=>∃t,u=Value.str x t
 |.byt b,u=>∃t,u=Value.bytes b t
 |.flt b,u=>∃t,u=Value.float b t
 |.ref a,u=>u=Value.ref a
 |.ty n,u=>u=Value.type n
noncomputable abbrev Wy:List V->List Value->Prop:=Paired U1
theorem Wy.length {xs:List V}{us:List Value} (r:Wy xs us):xs.length=us.length:=Paired.length r
theorem Wy.get:∀{xs:List V}{us:List Value}{i:Nat}{x:V},Wy xs us->xs[i]?=some x->∃u,us[i]?=some u/\U1 x u
 |_,_,_,_,.nil,e=>by simp at e
 |_,_,0,_,.cons r _,e=>by simp at e;subst e;exact⟨_,rfl,r⟩
 |_,_,i+1,x,.cons _ t,e=>by
  obtain⟨u,h1,h2⟩:=Wy.get (i:=i) (x:=x) t (by simpa using e)
  exact⟨u,by simpa using h1,h2⟩
theorem Wy.set {x:V}{u:Value} (r:U1 x u):∀{xs:List V}{us:List Value} (i:Nat),Wy xs us->Wy (xs.set i x) (us.set i u)
 |_,_,_,.nil=>.nil
 |_,_,0,.cons _ t=>.cons r t
 |_,_,i+1,.cons q t=>.cons q (Wy.set r i t)
theorem Wy.append:∀{xs ys:List V}{us ws:List Value},Wy xs us->Wy ys ws->Wy (xs++ys) (us++ws)
 |_,_,_,_,.nil,s=>s
 |_,_,_,_,.cons r t,s=>.cons r (Wy.append t s)
theorem Wy.take:∀{xs:List V}{us:List Value} (n:Nat),Wy xs us->Wy (xs.take n) (us.take n)
 |_,_,0,_=>.nil
 |_,_,_+1,.nil=>.nil
 |_,_,n+1,.cons r t=>.cons r (Wy.take n t)
theorem Wy.drop:∀{xs:List V}{us:List Value} (n:Nat),Wy xs us->Wy (xs.drop n) (us.drop n)
 |_,_,0,r=>r
 |_,_,_+1,.nil=>.nil
 |_,_,n+1,.cons _ t=>Wy.drop n t
noncomputable def ZsB:Option V->Option Value->Prop
 |some v,some u=>U1 v u
 |none,none=>True
 |_,_=>False
def KV {κ:Type}:List (κ×V)->List (κ×Value)->Prop:=Paired fun(p:κ×V) (q:κ×Value)=>p.1=q.1/\U1 p.2 q.2
noncomputable def kV:Key->V
 |.inl i=>.int i
 |.inr x=>.str x
inductive HO where
  |lst (xs:List V)
  |tup (xs:List V)
  |dK (kvs:List (Key×V))|dT (kvs:List (List Key×V))
  |set (S:Int->Bool) (n:Nat)
  |ins (C dx:Addr) (fs:List (Str×V))
  |own (x:Addr)
  |xd (fs:List (Str×V))
  |met (f x:Addr)
  |rng (lo hi:Int)
  |frz (o:Obj) (u:HO)
  |tbl (ps:Array Value)
  |ext (φ:Heap->Prop)
noncomputable abbrev Hp:=Addr->Option HO
noncomputable def upd (H:Hp) (a:Addr) (o:HO):Hp:=fun b=>if b=a then some o else H b
theorem YL {H:Hp}{a:Addr}{o:HO}:upd H a o a=some o:=by unfold upd;rw[if_pos rfl]
theorem ZQ {H:Hp}{a b:Addr}{o:HO} (h:b≠a):upd H a o b=H b:=by unfold upd;rw[if_neg h]
theorem ZrU {H:Hp}{a b:Addr}{o u:HO} (h:H a=some o) (h':H b=some u) (d:o≠u):a≠b:=by
 intro e;subst e;rw[h] at h';exact d (Option.some.inj h')
theorem Yd {H:Hp}{a b:Addr}{o:HO} (h:H a=some o) (h':H b=none):a≠b:=by
 intro e;subst e;rw[h] at h';cases h'
section
variable (P:Program) (w:World)
noncomputable def Zb4 (H:Hp) (h:Heap) (a:Addr):HO->Prop
 |.lst xs=>xs.length<=sizeLine/\∃(its:List Value) (n:Nat),Wy xs its/\h.get? a=some { cls:=.type "list",data:=.seq its.toArray n }
 |.tup xs=>xs.length<=sizeLine/\∃its:List Value,Wy xs its/\IsTup h a its.toArray
 |.dK kvs=>kvs.length<=sizeLine/\(a==sysModules)=false/\∃vs,KV kvs vs/\h.DictOf (ZlB P w) a vs
 |.dT kvs=>kvs.length<=sizeLine/\(a==sysModules)=false/\∃xs:List (List Key×Addr×Value),
   Paired (fun(p:List Key×V) (q:List Key×Addr×Value)=>p.1=q.1/\H q.2.1=some (.tup (p.1.map kV))/\U1 p.2 q.2.2) kvs xs /\
   ∃o es ep,h.get? a=some o/\o.ExactDict/\o.data=.dict es ep/\es.toList=xs.map (entryOfKey (tupleKind (ZlB P w)))/\(xs.map (·.1)).Nodup
 |.set S n=>h.SetOf (intKind P w) a S n
 |.ins C dx fs=>H dx=some (.own a)/\fs.length<=1000/\dx≠a/\h.get? a=some (PySem.W.instObj C dx) /\
   ∃mA,h.Ns1 dx mA/\(∀f,ZsB (fs.lookup f) (mA f))/\PySem.Within mA (fs.map (·.1))
 |.own _=>∃o,h.get? a=some o
 |.xd fs=>∃mA,h.Ns1 a mA/\∀f,ZsB (fs.lookup f) (mA f)
 |.rng lo hi=>∃t u v,h.get? a=some { cls:=.type "range",data:=.fields #[.int lo t,.int hi u,.int 1 v] }
 |.frz o u=>h.get? a=some o/\Zb4 H h a u
 |.tbl ps=>h.get? a=some { cls:=.none,data:=.fields ps }
 |.met f x=>h.get? a=some (PySem.W.methodObj (.ref f) (.ref x))
 |.ext φ=>φ h/\(∃o,h.get? a=some o)/\∀h1 h2:Heap,φ h1->(∀o,h1.get? a=some o->h2.get? a=some o)->φ h2
def HOk (H:Hp) (h:Heap):Prop:=∀a o,H a=some o->Zb4 P w H h a o
end
section
variable {P:Program}{w:World}{H H':Hp}{h h':Heap}{a:Addr}{o:HO}
theorem Zb4.lt (x:Zb4 P w H h a o):a<h.objs.size:=by
 cases o with
 |lst xs=>obtain⟨_,_,_,_,e⟩:=x;exact Heap.lt_size e
 |tup xs=>obtain⟨_,_,_,p⟩:=x;exact p.lt
 |dK kvs=>obtain⟨_,_,_,_,o,_,_,e,_⟩:=x;exact Heap.lt_size e
 |dT kvs=>obtain⟨_,_,_,_,o,_,_,e,_⟩:=x;exact Heap.lt_size e
 |set S n=>obtain⟨o,_,_,_,e,_⟩:=x;exact Heap.lt_size e
 |ins C dx fs=>obtain⟨_,_,_,e,_⟩:=x;exact Heap.lt_size e
 |own y=>obtain⟨_,e⟩:=x;exact Heap.lt_size e
 |xd fs=>obtain⟨_,⟨_,_,_,e,_⟩,_⟩:=x;exact Heap.lt_size e
 |rng lo hi=>obtain⟨_,_,_,e⟩:=x;exact Heap.lt_size e
 |frz ob u=>obtain⟨e,_⟩:=x;exact Heap.lt_size e
 |tbl ps=>exact Heap.lt_size (show h.get? a=some _ from x)
 |met f y=>exact Heap.lt_size (show h.get? a=some _ from x)
 |ext φ=>obtain⟨_,⟨_,e⟩,_⟩:=x;exact Heap.lt_size e
theorem Paired.mapP {α β:Type}{F G:α->β->Prop}:∀{l₁:List α}{l₂:List β},Paired F l₁ l₂->(∀a b,F a b->G a b)->Paired G l₁ l₂
 |_,_,.nil,_=>.nil
 |_,_,.cons r t,f=>.cons (f _ _ r) (Paired.mapP t f)
theorem Zb4.stay (x:Zb4 P w H h a o) (k:∀b u,(b=a\/H b=some (.own a))->h.get? b=some u->h'.get? b=some u)
  (ho:∀b,H b=some (.own a)->H' b=some (.own a)) (ht:∀b xs,H b=some (.tup xs)->H' b=some (.tup xs)):Zb4 P w H' h' a o:=by
 induction o with
 |lst xs=>obtain⟨z,its,n,r,e⟩:=x;exact⟨z,its,n,r,k _ _ (.inl rfl) e⟩
 |tup xs=>obtain⟨z,its,r,ob,e,c⟩:=x;exact⟨z,its,r,ob,k _ _ (.inl rfl) e,c⟩
 |dK kvs=>obtain⟨z,y,vs,r,ob,es,ep,e,c⟩:=x;exact⟨z,y,vs,r,ob,es,ep,k _ _ (.inl rfl) e,c⟩
 |dT kvs =>
  obtain⟨z,y,xs,r,ob,es,ep,e,c⟩:=x
  exact⟨z,y,xs,Paired.mapP r fun p q z=>⟨z.1,ht _ _ z.2.1,z.2.2⟩,ob,es,ep,k _ _ (.inl rfl) e,c⟩
 |set S n=>obtain⟨ob,es,ep,t,e,c⟩:=x;exact⟨ob,es,ep,t,k _ _ (.inl rfl) e,c⟩
 |ins C dx fs =>
  obtain⟨d,z,ne,e,mA,⟨od,es,ep,e2,c⟩,r⟩:=x
  exact⟨ho _ d,z,ne,k _ _ (.inl rfl) e,mA,⟨od,es,ep,k _ _ (.inr d) e2,c⟩,r⟩
 |own y=>obtain⟨ob,e⟩:=x;exact⟨ob,k _ _ (.inl rfl) e⟩
 |xd fs=>obtain⟨mA,⟨od,es,ep,e,c⟩,r⟩:=x;exact⟨mA,⟨od,es,ep,k _ _ (.inl rfl) e,c⟩,r⟩
 |rng lo hi=>obtain⟨t,u,v,e⟩:=x;exact⟨t,u,v,k _ _ (.inl rfl) e⟩
 |frz ob u ih=>obtain⟨e,q⟩:=x;exact⟨k _ _ (.inl rfl) e,ih q⟩
 |tbl ps =>
  have e:h.get? a=some { cls:=.none,data:=.fields ps }:=x
  show h'.get? a=some { cls:=.none,data:=.fields ps }
  exact k a _ (.inl rfl) e
 |met f y =>
  have e:h.get? a=some (PySem.W.methodObj (.ref f) (.ref y)):=x
  show h'.get? a=some (PySem.W.methodObj (.ref f) (.ref y))
  exact k a _ (.inl rfl) e
 |ext φ=>obtain⟨p,⟨o,e⟩,st⟩:=x;exact⟨st _ _ p fun o q=>k _ _ (.inl rfl) q,⟨o,k _ _ (.inl rfl) e⟩,st⟩
theorem HOk.lt (x:HOk P w H h) (e:H a=some o):a<h.objs.size:=(x a o e).lt
theorem HOk.fresh (x:HOk P w H h) (e:h.objs.size<=a):H a=none:=by
 cases q:H a with
 |none=>rfl
 |some u=>exact absurd (Ztw (x.lt q) e) (ZtU _)
theorem HOk.kept (x:HOk P w H h) (k:∀b u,h.get? b=some u->h'.get? b=some u):HOk P w H h':=fun a o e =>
 (x a o e).stay (fun b u _ q=>k b u q) (fun _ q=>q) fun _ _ q=>q
theorem HOk.laid (x:HOk P w H h) (k:∀b u,h.get? b=some u->h'.get? b=some u) (hp:h.objs.size<=a) (new:Zb4 P w (upd H a o) h' a o):HOk P w (upd H a o) h':=fun b u e=>by
 have hn:=x.fresh hp
 by_cases hb:b=a
 ·subst hb;rw[YL] at e;cases e;exact new
 ·rw[ZQ hb] at e
  exact(x b u e).stay (fun c v _ q=>k c v q) (fun c q=>by rw[ZQ (Yd q hn)];exact q) fun c xs q=>by rw[ZQ (Yd q hn)];exact q
end
def Rd (H:Hp) (a:Addr) (u:HO):Prop:=H a=some u\/∃o,H a=some (.frz o u)
theorem Rd.ok {P:Program}{w:World}{H:Hp}{h:Heap}{a:Addr}{u:HO} (r:Rd H a u) (x:HOk P w H h):Zb4 P w H h a u:=by
 rcases r with r|⟨o,r⟩
 ·exact x a u r
 ·obtain⟨_,q⟩:=x a _ r
  exact q
noncomputable def Mut:Option HO->Prop
 |some (.lst _)=>True
 |some (.dK _)=>True
 |some (.dT _)=>True
 |some (.set _ _)=>True
 |some (.ins _ _ _)=>True
 |some (.ext _)=>True
 |_=>False
section
variable {P:Program}{w:World}{H:Hp}{h h':Heap}{x e:Addr}{o':HO}
theorem HOk.write (ok:HOk P w H h) (mu:Mut (H x)) (he:e=x\/H e=some (.own x)) (k:∀b u,b≠e->h.get? b=some u->h'.get? b=some u) (heo:∃u,h'.get? e=some u)
  (new:Zb4 P w (upd H x o') h' x o'):HOk P w (upd H x o') h':=fun b u q=>by
 have nown:∀c y,H c=some (.own y)->c≠x:=fun c y r z=>by subst z;rw[r] at mu;exact mu
 have ntup:∀c xs,H c=some (.tup xs)->c≠x:=fun c xs r z=>by subst z;rw[r] at mu;exact mu
 by_cases hb:b=x
 ·subst hb;rw[YL] at q;cases q;exact new
 ·rw[ZQ hb] at q
  by_cases hbe:b=e
  ·have q':H b=some (.own x):=by
    rcases he with z|z
    ·exact absurd (hbe.trans z) hb
    ·rw[hbe];exact z
   rw[q] at q';cases q'
   obtain⟨v,hv⟩:=heo
   exact⟨v,by rw[hbe];exact hv⟩
  ·refine(ok b u q).stay (fun c v hc r=>k c v ?_ r) (fun c r=>by rw[ZQ (nown c b r)];exact r) fun c xs r=>by rw[ZQ (ntup c xs r)];exact r
   rcases hc with rfl|hc
   ·exact hbe
   ·rintro rfl
    rcases he with z|z
    ·exact nown c b hc z
    ·rw[hc] at z;cases z;exact hb rfl
end
structure Un (fs ex:List Addr) (H H':Hp) (h h':Heap):Prop where
 keep:∀b o,h.get? b=some o->H b=none->b ∉ fs->b ∉ ex->h'.get? b=some o
 slot:∀b o,h.get? b=some o->H b=none->b∈fs->b ∉ ex->∃sl,h'.get? b=some { o with slots:=sl }
 free:∀b o,h.get? b=some o->H b=none->b ∉ ex->H' b=none
 there:∀b o,h.get? b=some o->b ∉ ex->∃o',h'.get? b=some o'
 tups:∀b xs,H b=some (.tup xs)->H' b=some (.tup xs)
 frzs:∀b o u,H b=some (.frz o u)->H' b=some (.frz o u)
 tbls:∀b ps,H b=some (.tbl ps)->∃more,H' b=some (.tbl (ps++more))
section
variable {fs fs' ex ex':List Addr}{H H1 H2:Hp}{h h1 h2 h':Heap}{a x e:Addr}{o:HO}
theorem Un.any (u:Un fs ex H H1 h h1) {b:Addr}{ob:Obj} (q:h.get? b=some ob) (n:H b=none) (hx:b ∉ ex):∃sl,h1.get? b=some { ob with slots:=sl }:=by
 by_cases hb:b∈fs
 ·exact u.slot b ob q n hb hx
 ·exact⟨ob.slots,u.keep b ob q n hb hx⟩
theorem Un.kept (k:∀b u,h.get? b=some u->h'.get? b=some u):Un fs ex H H h h':=
 ⟨fun b ob q _ _ _=>k b ob q,fun b ob q _ _ _=>⟨ob.slots,k b ob q⟩,fun _ _ _ n _=>n,fun b ob q _=>⟨ob,k b ob q⟩,fun _ _ q=>q,fun _ _ _ q=>q,fun _ ps q=>⟨#[],by rw[q];simp⟩⟩
theorem Un.refl:Un fs ex H H h h:=Un.kept fun _ _ q=>q
theorem Un.laid (k:∀b u,h.get? b=some u->h'.get? b=some u) (hp:h.objs.size<=a) (hn:H a=none):Un fs ex H (upd H a o) h h' where
 keep:=fun b u q _ _ _=>k b u q
 slot:=fun b u q _ _ _=>⟨u.slots,k b u q⟩
 free:=fun b u q n _=>by rw[ZQ (Zt0 (Ztw (Heap.lt_size q) hp))];exact n
 there:=fun b u q _=>⟨u,k b u q⟩
 tups:=fun b xs q=>by rw[ZQ (Yd q hn)];exact q
 frzs:=fun b u xs q=>by rw[ZQ (Yd q hn)];exact q
 tbls:=fun b ps q=>⟨#[],by rw[ZQ (Yd q hn),q];simp⟩
theorem Un.write (mu:Mut (H x)) (he:e=x\/H e=some (.own x)) (k:∀b u,b≠e->h.get? b=some u->h'.get? b=some u) (heo:∃u,h'.get? e=some u):Un fs ex H (upd H x o) h h':=by
 have hx:∀b,H b=none->b≠x:=fun b n z=>by subst z;rw[n] at mu;exact mu
 have hb:∀b,H b=none->b≠e:=fun b n z=>by
  subst z
  rcases he with r|r
  ·exact hx b n r
  ·rw[n] at r;cases r
 have hm:∀b u,H b=some u->¬Mut (some u)->b≠x:=fun b u q nm z=>by subst z;rw[q] at mu;exact nm mu
 refine⟨fun b u q n _ _=>k b u (hb b n) q,fun b u q n _ _=>⟨u.slots,k b u (hb b n) q⟩,fun b u q n _=>by rw[ZQ (hx b n)];exact n,fun b u q _=>?_,
  fun b xs q=>by rw[ZQ (hm b _ q fun z=>z)];exact q,fun b u xs q=>by rw[ZQ (hm b _ q fun z=>z)];exact q,fun b ps q=>⟨#[],by rw[ZQ (hm b _ q fun z=>z),q];simp⟩⟩
 by_cases hbe:b=e
 ·subst hbe;exact heo
 ·exact⟨u,k b u hbe q⟩
end
noncomputable def trk (h:Heap) (H:Hp):List Addr:=(List.range h.objs.size).filter fun a=>(H a).isSome
noncomputable def Zn0 (h:Heap) (H:Hp):Heap:=PySem.W.hideAll h (trk h H)
theorem ZlV (h:Heap) (H:Hp):(Zn0 h H).objs.size=h.objs.size:=PySem.W.hideAll_size _ _
theorem Znz {h:Heap}{H:Hp}{b:Addr}{o:Obj} (e:h.get? b=some o) (n:H b=none):(Zn0 h H).get? b=some o:=
 PySem.W.hideAll_get _ e fun hm=>by
  have q:(H b).isSome=true:=(Zuf.mp hm).2
  rw[n] at q;simp at q
theorem Zpd {h:Heap}{H:Hp}{b:Addr}{o:Obj} (e:(Zn0 h H).get? b=some o):h.get? b=some o/\H b=none:=by
 have e':h.get? b=some o:=PySem.W.of_hideAll (trk h H) e
 refine⟨e', ?_⟩
 cases q:H b with
 |none=>rfl
 |some x =>
  have hm:b∈trk h H:=Zuf.mpr ⟨Ztu.mpr (Heap.lt_size e'),by simp[q]⟩
  have z:(Zn0 h H).get? b=none:=PySem.W.hideAll_none (trk h H) hm
  rw[z] at e;cases e
noncomputable def ZpG (g h:Heap) (L:Addr):List (Addr×Obj):=(List.range h.objs.size).filterMap fun a=>if a=L\/(g.get? a).isSome=true then none else (h.get? a).map fun o=>(a,o)
noncomputable def Zhb (g h:Heap) (L d:Addr):List (Addr×Obj):=(ZpG g h L).filter fun p=>decide (p.1≠d)
structure Mod (K:PySem.W.Frag) (mg:Str->Option Value) (base:Heap):Prop where
 kin:K.In base
 glob:base.Ns mainGlobals mg
 blt:∃mb,base.Ns builtinsNs mb/\∀x:Str,x ≠ "__name__"->mb x=bootBuiltins x
 nolimit:base.NoLimit
structure Cx where
 prog:Program
 w:World
 K:PySem.W.Frag
 mg:Str->Option Value
 base:Heap
 A:Around
 N:List Str
 s₀:Shared
 H₀:Hp
 env:Env
 outer:List Env
 stack:List Env
 ex:List Addr
 fn:Str->Bool
 calm:Bool
 pn:List (Addr×Obj)
 xe:Value->Shared->Prop
noncomputable def frs (l:List Env):List Addr:=l.filterMap (·.frame)
noncomputable abbrev Cx.fs (X:Cx):List Addr:=frs X.outer
def Vis (sc:Scope) (x:Str):Prop:=sc.names.lookup x=some .local\/sc.names.lookup x=some .cell\/sc.names.lookup x=some .free
def Loc (sc:Scope) (x:Str):Prop:=sc.names.lookup x=some .local\/sc.names.lookup x=some .cell
def Ztb (env:Env) (h:Heap) (m:Str->Option Value) (x:Str) (u:Value):Prop:=
 (env.kindOf x=some .local/\m x=some u)\/((env.kindOf x=some .cell\/env.kindOf x=some .free)/\∃c,env.cells.lookup x=some c/\h.IsCell c (some u))
structure Cx.Ok (X:Cx):Prop where
 mod:Mod X.K X.mg X.base
 kind:X.env.scope.kind=.function
 glob:X.env.globals=mainGlobals
 blt:X.env.builtins=builtinsNs
 above:X.s₀.heap.objs.size<=X.env.locals
 inj:∀x y c,X.env.cells.lookup x=some c->X.env.cells.lookup y=some c->x=y
 has:∀x,(X.env.kindOf x=some .cell\/X.env.kindOf x=some .free)->∃c,X.env.cells.lookup x=some c
 cab:∀x c,X.fn x=true->X.env.cells.lookup x=some c->X.s₀.heap.objs.size<=c
 hd:X.calm=true->X.A.handled=none
 frames:X.A.frames=some X.stack
 stk:X.stack=X.outer\/(X.stack=X.env::X.outer/\X.env.frame=some X.env.locals)
 exf:∀b∈X.ex,b≠X.env.locals/\∀x c,X.env.cells.lookup x=some c->c≠b
 bs:∀b o,X.base.get? b=some o->X.s₀.heap.get? b=some o/\X.H₀ b=none
 bsz:X.base.objs.size<=X.s₀.heap.objs.size
 noex:∀b o,X.base.get? b=some o->b ∉ X.ex
 exfs:∀b∈X.ex,b ∉ X.fs
 funs:X.s₀.heap.FunFrames X.base X.outer
 frf:∀b∈X.fs,X.H₀ b=none
structure Inv (X:Cx) (pins:List (Addr×Obj)) (σ:List (Option V)) (H:Hp) (s:Shared):Prop where
 ok:X.Ok
 os:s.os=X.s₀.os
 bare:AllBare s.gens
 base:Un X.fs X.ex X.H₀ H X.s₀.heap s.heap
 loc:∃m,s.heap.Ns X.env.locals m/\∀(i:Nat) (x:Str) (v:V),X.N[i]?=some x->σ[i]?=some (some v)->Vis X.env.scope x->∃u,U1 v u/\Ztb X.env s.heap m x u
 cell:∀x c,X.env.cells.lookup x=some c->∃v,s.heap.IsCell c v
 free:H X.env.locals=none
 freeC:∀x c,X.env.cells.lookup x=some c->H c=none
 pin:∀p∈X.pn++pins,s.heap.get? p.1=some p.2/\H p.1=none/\p.1≠X.env.locals/\p.1 ∉ X.fs/\∀v,p.2.data≠.cell v
 hok:HOk X.prog X.w H s.heap
 len:σ.length=X.N.length
section
variable {X:Cx}{pins:List (Addr×Obj)}{σ:List (Option V)}{H H':Hp}{s:Shared}{h':Heap}
theorem Cx.Ok.nofr (ok:X.Ok) {b:Addr}{o:Obj} (e:X.base.get? b=some o):b ∉ X.fs:=fun hb=>by
 have:=(ok.funs.mem hb).1
 rw[e] at this;cases this
theorem Inv.bs (I:Inv X pins σ H s):∀b o,X.base.get? b=some o->s.heap.get? b=some o/\H b=none:=fun b o e =>
 ⟨I.base.keep b o (I.ok.bs b o e).1 (I.ok.bs b o e).2 (I.ok.nofr e) (I.ok.noex b o e),I.base.free b o (I.ok.bs b o e).1 (I.ok.bs b o e).2 (I.ok.noex b o e)⟩
theorem Inv.bk (I:Inv X pins σ H s):∀b o,X.base.get? b=some o->s.heap.get? b=some o:=fun b o e=>(I.bs b o e).1
theorem Inv.mod (I:Inv X pins σ H s):Mod X.K X.mg X.base:=I.ok.mod
theorem Inv.kIn (I:Inv X pins σ H s):X.K.In s.heap:=I.ok.mod.kin.keeps I.bk
theorem Inv.lt (I:Inv X pins σ H s):X.env.locals<s.heap.objs.size:=let ⟨_,hn,_⟩:=I.loc;hn.lt
theorem Inv.sz (I:Inv X pins σ H s):X.s₀.heap.objs.size<=s.heap.objs.size:=Zt5 I.ok.above (Nat.le_of_lt I.lt)
theorem Inv.nofs (I:Inv X pins σ H s) {a:Addr} (h:s.heap.objs.size<=a):a ∉ X.fs:=fun hb=>by
 obtain⟨_,o,ho,_⟩:=I.ok.funs.mem hb
 exact absurd (Ztw (Heap.lt_size ho) (Zt5 I.sz h)) (ZtU _)
theorem Inv.cne (I:Inv X pins σ H s):∀x c,X.env.cells.lookup x=some c->c≠X.env.locals:=fun x c e z=>by
 obtain⟨v,o,ho,hd⟩:=I.cell x c e
 obtain⟨m,⟨o',es,ep,ho',hd',_⟩,_⟩:=I.loc
 rw[z,ho'] at ho;cases ho;rw[hd'] at hd;cases hd
theorem Inv.funs (I:Inv X pins σ H s):s.heap.FunFrames X.base X.outer:=by
 have all:∀(l:List Env),(∀b∈frs l,b∈X.fs)->X.s₀.heap.FunFrames X.base l->s.heap.FunFrames X.base l:=by
  intro l
  induction l with
  |nil=>intro _ _;trivial
  |cons env r ih =>
   intro hs hl
   obtain⟨hk,⟨L,o,hf,hn,ho,hd⟩,hr⟩:=hl
   have hL:L∈X.fs:=hs L (by unfold frs;rw[ZuZ,hf];exact ZuJ)
   obtain⟨sl,e⟩:=I.base.slot L o ho (I.ok.frf L hL) hL fun z=>I.ok.exfs L z hL
   exact⟨hk,⟨L,_,hf,hn,e,hd⟩,ih (fun b hb=>hs b (by unfold frs;rw[ZuZ,hf];exact ZtF _ hb)) hr⟩
 exact all X.outer (fun _ hb=>hb) I.ok.funs
theorem Inv.stack (I:Inv X pins σ H s):s.heap.FunFrames X.base X.stack:=by
 rcases I.ok.stk with e|⟨e,hf⟩
 ·rw[e];exact I.funs
 ·rw[e]
  obtain⟨m,hn,_⟩:=I.loc
  refine .cons (by rw[I.ok.kind];decide) hf hn ?_ I.funs
  exact Heap.get?_none_of_le (Zt5 I.ok.bsz I.ok.above)
theorem Inv.stkSub (I:Inv X pins σ H s):∀b∈frs X.stack,b∈X.env.locals::X.fs:=fun b hb=>by
 rcases I.ok.stk with e|⟨e,hf⟩
 ·rw[e] at hb;exact ZtF _ hb
 ·rw[e] at hb
  unfold frs at hb
  rw[ZuZ,hf] at hb
  exact hb
theorem Inv.stkFree (I:Inv X pins σ H s):∀b∈frs X.stack,H b=none:=fun b hb=>by
 rcases Ztt.mp (I.stkSub b hb) with e|hb
 ·rw[e];exact I.free
 ·obtain⟨_,o,ho,_⟩:=I.ok.funs.mem hb
  exact I.base.free b o ho (I.ok.frf b hb) fun z=>I.ok.exfs b z hb
theorem Inv.step {g':Array GenState}{t':Nat}{d':Drawn}{ch:List Addr} (I:Inv X pins σ H s)
  (hch:∀b∈ch,(b∈X.ex\/X.s₀.heap.objs.size<=b)/\b≠X.env.locals/\(∀x c,X.env.cells.lookup x=some c->c≠b)/\∀p∈X.pn++pins,p.1≠b)
  (keep:∀b o,b≠X.env.locals->b ∉ X.fs->b ∉ ch->s.heap.get? b=some o->H b=none->h'.get? b=some o)
  (slot:∀b o,b≠X.env.locals->b∈X.fs->b ∉ ch->s.heap.get? b=some o->H b=none->∃sl,h'.get? b=some { o with slots:=sl }) (free:∀b o,b ∉ ch->s.heap.get? b=some o->H b=none->H' b=none)
  (there:∀b o,b ∉ ch->s.heap.get? b=some o->∃o',h'.get? b=some o')
  (tups:∀b xs,H b=some (.tup xs)->H' b=some (.tup xs)) (frzs:∀b o u,H b=some (.frz o u)->H' b=some (.frz o u)) (tbls:∀b ps,H b=some (.tbl ps)->∃more,H' b=some (.tbl (ps++more)))
  (ns:∀m,s.heap.Ns X.env.locals m->h'.Ns X.env.locals m) (hok:HOk X.prog X.w H' h') (hg:AllBare g') :
  Inv X pins σ H' { s with heap:=h',gens:=g',drawn:=d',toks:=t' }:=by
 have neL:∀b o,X.s₀.heap.get? b=some o->b≠X.env.locals:=fun b o e=>Zt0 (Ztw (Heap.lt_size e) I.ok.above)
 have neC:∀b o,X.s₀.heap.get? b=some o->b ∉ X.ex->b ∉ ch:=fun b o e hx hb=>by
  rcases (hch b hb).1 with z|z
  ·exact hx z
  ·exact absurd (Ztw (Heap.lt_size e) z) (ZtU _)
 have cellK:∀x c,X.env.cells.lookup x=some c->∀v,s.heap.IsCell c v->h'.IsCell c v:=fun x c e v ⟨o,ho,hd⟩=>by
  have nch:c ∉ ch:=fun z=>(hch c z).2.2.1 x c e rfl
  by_cases hc:c∈X.fs
  ·obtain⟨sl,q⟩:=slot c o (I.cne x c e) hc nch ho (I.freeC x c e)
   exact⟨_,q,hd⟩
  ·exact⟨o,keep c o (I.cne x c e) hc nch ho (I.freeC x c e),hd⟩
 refine⟨I.ok,I.os,hg,⟨fun b o e n hb hx=>?_,fun b o e n hb hx=>?_,fun b o e n hx=>?_,fun b o e hx=>?_,fun b xs e=>tups b xs (I.base.tups b xs e),fun b o xs e=>frzs b o xs (I.base.frzs b o xs e),fun b ps e=>?_⟩, ?_,fun x c e=>?_, ?_,fun x c e=>?_,fun p hp=>?_,hok,I.len⟩
 ·exact keep b o (neL b o e) hb (neC b o e hx) (I.base.keep b o e n hb hx) (I.base.free b o e n hx)
 ·obtain⟨sl,e1⟩:=I.base.slot b o e n hb hx
  obtain⟨sl',e2⟩:=slot b _ (neL b o e) hb (neC b o e hx) e1 (I.base.free b o e n hx)
  exact⟨sl',e2⟩
 ·obtain⟨o',e1⟩:=I.base.there b o e hx
  exact free b o' (neC b o e hx) e1 (I.base.free b o e n hx)
 ·obtain⟨o',e1⟩:=I.base.there b o e hx
  exact there b o' (neC b o e hx) e1
 ·obtain⟨m1,e1⟩:=I.base.tbls b ps e
  obtain⟨m2,e2⟩:=tbls b _ e1
  exact⟨m1++m2,by rw[e2,Array.append_assoc]⟩
 ·obtain⟨m,hn,hl⟩:=I.loc
  refine⟨m,ns m hn,fun i x v e1 e2 e3=>?_⟩
  obtain⟨u,r,l⟩:=hl i x v e1 e2 e3
  refine⟨u,r, ?_⟩
  rcases l with l|⟨k,c,e,z⟩
  ·exact .inl l
  ·exact .inr ⟨k,c,e,cellK x c e _ z⟩
 ·obtain⟨v,z⟩:=I.cell x c e
  exact⟨v,cellK x c e v z⟩
 ·obtain⟨m,⟨o,_,_,ho,_⟩,_⟩:=I.loc
  exact free _ o (fun z=>(hch _ z).2.1 rfl) ho I.free
 ·obtain⟨v,o,ho,hd⟩:=I.cell x c e
  exact free c o (fun z=>(hch c z).2.2.1 x c e rfl) ho (I.freeC x c e)
 ·obtain⟨e,n,ne,nf,d⟩:=I.pin p hp
  have nch:p.1 ∉ ch:=fun z=>(hch p.1 z).2.2.2 p hp rfl
  exact⟨keep p.1 p.2 ne nf nch e n,free p.1 p.2 nch e n,ne,nf,d⟩
theorem Inv.un {t':Nat} (I:Inv X pins σ H s) (u:Un X.fs [] H H' s.heap h') (hok:HOk X.prog X.w H' h'):Inv X pins σ H' { s with heap:=h',toks:=t' }:=by
 obtain⟨m,⟨o,es,ep,ho,r⟩,_⟩:=id I.loc
 obtain⟨sl,hL⟩:=u.any ho I.free (by simp)
 exact I.step (g':=s.gens) (d':=s.drawn) (ch:=[]) (fun _ z=>nomatch z) (fun b o _ hb _ e n=>u.keep b o e n hb (by simp)) (fun b o _ hb _ e n=>u.slot b o e n hb (by simp)) (fun b o _ e n=>u.free b o e n (by simp)) (fun b o _ e=>u.there b o e (by simp)) u.tups u.frzs u.tbls (fun m' hm=>by
  obtain⟨o',es',ep',ho',r'⟩:=hm
  rw[ho] at ho';cases ho'
  exact⟨_,es',ep',hL,r'⟩) hok I.bare
theorem Inv.call {g':Array GenState}{t':Nat}{d':Drawn}{ch:List Addr} (I:Inv X pins σ H s) (u:Un (frs X.stack) ch H H' s.heap h') (hok:HOk X.prog X.w H' h') (hg:AllBare g')
  (hch:∀b∈ch,(b∈X.ex\/X.s₀.heap.objs.size<=b)/\b≠X.env.locals/\(∀x c,X.env.cells.lookup x=some c->c≠b)/\∀p∈X.pn++pins,p.1≠b) :
  Inv X pins σ H' { s with heap:=h',gens:=g',drawn:=d',toks:=t' }:=by
 obtain⟨m,⟨o,es,ep,ho,r⟩,_⟩:=id I.loc
 obtain⟨sl,hL⟩:=u.any ho I.free fun z=>(hch _ z).2.1 rfl
 exact I.step (ch:=ch) hch (fun b o hL hb hc e n=>u.keep b o e n (fun z=>(Ztt.mp (I.stkSub b z)).elim hL hb) hc) (fun b o _ _ hc e n=>u.any e n hc) (fun b o hc e n=>u.free b o e n hc) (fun b o hc e=>u.there b o e hc) u.tups u.frzs u.tbls (fun m' hm=>by
  obtain⟨o',es',ep',ho',r'⟩:=hm
  rw[ho] at ho';cases ho'
  exact⟨_,es',ep',hL,r'⟩) hok hg
theorem Inv.turned {t':Nat}{it:Addr} (I:Inv X pins σ H s) (k:∀b o,b≠it->s.heap.get? b=some o->h'.get? b=some o) (hn:H it=none) (hL:it≠X.env.locals)
  (h1:it∈X.ex\/X.s₀.heap.objs.size<=it) (h2:∀x c,X.env.cells.lookup x=some c->c≠it) (h3:∀p∈X.pn++pins,p.1≠it):Inv X pins σ H { s with heap:=h',toks:=t' }:=by
 have nit:∀b u,H b=some u->b≠it:=fun b u e z=>by rw[z,hn] at e;cases e
 refine I.step (g':=s.gens) (d':=s.drawn) (ch:=[it]) (fun b hb=>?_) (fun b o _ _ hc e _=>k b o (fun z=>hc (by simp[z])) e) (fun b o _ _ hc e _=>⟨o.slots,k b o (fun z=>hc (by simp[z])) e⟩) (fun _ _ _ _ n=>n)
  (fun b o hc e=>⟨o,k b o (fun z=>hc (by simp[z])) e⟩) (fun _ _ e=>e) (fun _ _ _ e=>e) (fun b ps e=>⟨#[],by rw[e];simp⟩) (fun m hm=>?_) (fun b u e=>?_) I.bare
 ·have e:b=it:=by simpa using hb
  subst e
  exact⟨h1,hL,h2,h3⟩
 ·obtain⟨o,es,ep,ho,r⟩:=hm
  exact⟨o,es,ep,k _ o (Ne.symm hL) ho,r⟩
 ·refine(I.hok b u e).stay (fun c v hc q=>k c v ?_ q) (fun _ q=>q) fun _ _ q=>q
  rcases hc with z|z
  ·rw[z];exact nit b u e
  ·exact nit c _ z
theorem Inv.tok (I:Inv X pins σ H s) (t:Nat):Inv X pins σ H { s with toks:=t }:=I.un (h':=s.heap) (t':=t) Un.refl I.hok
theorem Inv.kept {t':Nat} (I:Inv X pins σ H s) (k:∀b u,s.heap.get? b=some u->h'.get? b=some u):Inv X pins σ H { s with heap:=h',toks:=t' }:=I.un (Un.kept k) (I.hok.kept k)
theorem Inv.laid {a:Addr}{o:HO}{t':Nat} (I:Inv X pins σ H s) (k:∀b u,s.heap.get? b=some u->h'.get? b=some u) (hp:s.heap.objs.size<=a) (new:Zb4 X.prog X.w (upd H a o) h' a o) :
  Inv X pins σ (upd H a o) { s with heap:=h',toks:=t' }:=I.un (Un.laid k hp (I.hok.fresh hp)) (I.hok.laid k hp new)
theorem Inv.write {x e:Addr}{o:HO}{t':Nat} (I:Inv X pins σ H s) (mu:Mut (H x)) (he:e=x\/H e=some (.own x)) (k:∀b u,b≠e->s.heap.get? b=some u->h'.get? b=some u) (heo:∃u,h'.get? e=some u)
  (new:Zb4 X.prog X.w (upd H x o) h' x o):Inv X pins σ (upd H x o) { s with heap:=h',toks:=t' }:=I.un (Un.write mu he k heo) (I.hok.write mu he k heo new)
theorem Inv.pins_of {pins':List (Addr×Obj)} (I:Inv X pins σ H s) (h:∀p∈pins',s.heap.get? p.1=some p.2/\H p.1=none/\p.1≠X.env.locals/\p.1 ∉ X.fs/\∀v,p.2.data≠.cell v):Inv X pins' σ H s:=
 ⟨I.ok,I.os,I.bare,I.base,I.loc,I.cell,I.free,I.freeC,fun p hp=>(Ztk.mp hp).elim (fun z=>I.pin p (Zts _ z)) (h p),I.hok,I.len⟩
theorem Zjy {N:List Str} (hN:N.Nodup) {i j:Nat}{x:Str} (a:N[i]?=some x) (b:N[j]?=some x):i=j:=by
 obtain⟨h1,e1⟩:=Zti.mp a
 obtain⟨h2,e2⟩:=Zti.mp b
 exact(List.getElem_inj hN).mp (e1.trans e2.symm)
theorem Zel {M:Model}{A:Around}{E:Value->Shared->Prop}{i:Nat}{x:Str}{v:V}{u:Value}{Q:Unit->Shared->Prop} (I:Inv X pins σ H s) (hN:X.N.Nodup) (hi:X.N[i]?=some x) (hx:Loc X.env.scope x) (r:U1 v u)
  (h:∀s',Inv X pins (σ.set i (some v)) H s'->(∃a,Heap.SameBut a s.heap s'.heap/\(a=X.env.locals\/X.env.cells.lookup x=some a))->Q () s') (hf:X.fn x=true\/X.env.scope.names.lookup x=some .local):wpAny M A (storeName X.env x u) Q E s:=by
 obtain⟨m,hn,hl⟩:=id I.loc
 have hcls:(X.env.scope.kind==.class || (X.env.scope.kind==.module&&X.env.locals != X.env.globals))=false:=by rw[I.ok.kind];rfl
 have hiσ:i<σ.length:=by rw[I.len];exact(Zti.mp hi).1
 have cne:=I.cne
 have tracked:∀{a:Addr}{h':Heap},(∃o,s.heap.get? a=some o/\H a=none)->Heap.SameBut a s.heap h'->HOk X.prog X.w H h':=fun {a h'} ha hs b ob e=>by
  obtain⟨_,_,hfree⟩:=ha
  refine(I.hok b ob e).stay (fun c w' hc q=>(hs.2 c ?_).trans q) (fun _ q=>q) fun _ _ q=>q
  rintro rfl
  rcases hc with rfl|hc
  ·rw[hfree] at e;cases e
  ·rw[hfree] at hc;cases hc
 rcases hx with hk|hk
 ·refine wpAny_storeName_local hk hn (fun h' hn' hs=>?_) hcls
  obtain⟨oL,_,_,hoL,_⟩:=id hn
  refine h _ ⟨I.ok,I.os,I.bare,⟨fun b o e n hb hx=>?_,fun b o e n hb hx=>?_,I.base.free,fun b o e hx=>?_,I.base.tups,I.base.frzs,I.base.tbls⟩,⟨_,hn',fun j y v' e1 e2 e3=>?_⟩,fun y c e=>?_,I.free,I.freeC,fun p hp=>?_,tracked ⟨oL,hoL,I.free⟩ hs,by simpa using I.len⟩ ⟨_,hs,.inl rfl⟩
  ·exact(hs.2 b (Zt0 (Ztw (Heap.lt_size e) I.ok.above))).trans (I.base.keep b o e n hb hx)
  ·obtain⟨sl,e1⟩:=I.base.slot b o e n hb hx
   exact⟨sl,(hs.2 b (Zt0 (Ztw (Heap.lt_size e) I.ok.above))).trans e1⟩
  ·obtain⟨o',e1⟩:=I.base.there b o e hx
   exact⟨o',(hs.2 b (Zt0 (Ztw (Heap.lt_size e) I.ok.above))).trans e1⟩
  ·by_cases hj:j=i
   ·subst hj
    rw[hi] at e1;cases e1
    rw[ZtP hiσ] at e2
    cases e2
    exact⟨u,r,.inl ⟨hk,by simp⟩⟩
   ·rw[ZtY (Ne.symm hj)] at e2
    obtain⟨u',r',q⟩:=hl j y v' e1 e2 e3
    refine⟨u',r', ?_⟩
    rcases q with ⟨k,e⟩|⟨k,c,e,z⟩
    ·refine .inl ⟨k, ?_⟩
     have:y≠x:=fun e=>hj (Zjy hN e1 (e▸hi))
     simp[this,e]
    ·exact .inr ⟨k,c,e,z.sameBut hs (cne y c e)⟩
  ·obtain⟨w',z⟩:=I.cell y c e
   exact⟨w',z.sameBut hs (cne y c e)⟩
  ·obtain⟨e,n,ne,nf,d⟩:=I.pin p hp
   exact⟨(hs.2 p.1 ne).trans e,n,ne,nf,d⟩
 ·have hfn:X.fn x=true:=by
   rcases hf with z|z
   ·exact z
   ·rw[z] at hk;cases hk
  obtain⟨c,hc⟩:=I.ok.has x (.inl hk)
  obtain⟨w',z⟩:=I.cell x c hc
  refine wpAny_storeName_cell I.ok.kind hk hc z (fun h' hc' hs=>?_)
  obtain⟨oc,hoc,hocd⟩:=id z
  refine h { s with heap:=h' } ⟨I.ok,I.os,I.bare,⟨fun b o e n hb hx=>?_,fun b o e n hb hx=>?_,I.base.free,fun b o e hx=>?_,I.base.tups,I.base.frzs,I.base.tbls⟩,⟨m,hn.sameBut hs (Ne.symm (cne x c hc)),fun j y v' e1 e2 e3=>?_⟩,fun y c' e=>?_,I.free,I.freeC,fun p hp=>?_,tracked ⟨oc,hoc,I.freeC x c hc⟩ hs,by simpa using I.len⟩ ⟨c,hs,.inr hc⟩
  ·exact(hs.2 b (Zt0 (Ztw (Heap.lt_size e) (I.ok.cab x c hfn hc)))).trans (I.base.keep b o e n hb hx)
  ·obtain⟨sl,e1⟩:=I.base.slot b o e n hb hx
   exact⟨sl,(hs.2 b (Zt0 (Ztw (Heap.lt_size e) (I.ok.cab x c hfn hc)))).trans e1⟩
  ·obtain⟨o',e1⟩:=I.base.there b o e hx
   exact⟨o',(hs.2 b (Zt0 (Ztw (Heap.lt_size e) (I.ok.cab x c hfn hc)))).trans e1⟩
  ·by_cases hj:j=i
   ·subst hj
    rw[hi] at e1;cases e1
    rw[ZtP hiσ] at e2
    cases e2
    exact⟨u,r,.inr ⟨.inl hk,c,hc,hc'⟩⟩
   ·rw[ZtY (Ne.symm hj)] at e2
    obtain⟨u',r',q⟩:=hl j y v' e1 e2 e3
    refine⟨u',r', ?_⟩
    rcases q with q|⟨k,c',e,z'⟩
    ·exact .inl q
    ·refine .inr ⟨k,c',e,z'.sameBut hs ?_⟩
     rintro rfl
     exact hj (Zjy hN e1 (I.ok.inj _ _ _ e hc▸hi))
  ·by_cases hcc:c'=c
   ·subst hcc;exact⟨_,hc'⟩
   ·obtain⟨w2,z2⟩:=I.cell y c' e
    exact⟨w2,z2.sameBut hs hcc⟩
  ·obtain⟨e,n,ne,nf,d⟩:=I.pin p hp
   refine⟨(hs.2 p.1 ?_).trans e,n,ne,nf,d⟩
   intro q
   rw[q,hoc] at e
   have q':oc=p.2:=Option.some.inj e
   exact d w' (by rw[<- q'];exact hocd)
theorem Zcf {M:Model}{A:Around}{E:Value->Shared->Prop}{i:Nat}{x:Str}{v:V}{u:Value}{Q:Unit->Shared->Prop} (I:Inv X pins σ H s) (hN:X.N.Nodup) (hi:X.N[i]?=some x) (hx:Loc X.env.scope x) (r:U1 v u)
  (h:∀s',Inv X pins (σ.set i (some v)) H s'->Q () s') (hf:X.fn x=true\/X.env.scope.names.lookup x=some .local):wpAny M A (storeName X.env x u) Q E s:=
 Zel I hN hi hx r (fun s' I' _=>h s' I') hf
theorem Inv.call' {s':Shared}{ch:List Addr} (I:Inv X pins σ H s) (ho:s'.os=s.os) (u:Un (frs X.stack) ch H H' s.heap s'.heap) (hok:HOk X.prog X.w H' s'.heap) (hg:AllBare s'.gens)
  (hch:∀b∈ch,(b∈X.ex\/X.s₀.heap.objs.size<=b)/\b≠X.env.locals/\(∀x c,X.env.cells.lookup x=some c->c≠b)/\∀p∈X.pn++pins,p.1≠b):Inv X pins σ H' s':=by
 obtain⟨h',g',d',t',o'⟩:=s'
 have e:o'=s.os:=ho
 subst e
 exact I.call (g':=g') (t':=t') (d':=d') u hok hg hch
end
noncomputable abbrev XK:=Value->Option Addr->Hp->Prop
noncomputable abbrev St:=List (Option V)
noncomputable abbrev VK:=V->Hp->Prop
noncomputable abbrev TE:=St->Hp->VK->Prop
noncomputable abbrev TT:=St->Hp->(Bool->Hp->Prop)->Prop
noncomputable abbrev TA:=St->Hp->(List V->Hp->Prop)->Prop
structure Zk3 where
 nx:St->Hp->Prop
 rt:VK
 bk:St->Hp->Prop:=fun _ _=>False
 ct:St->Hp->Prop:=fun _ _=>False
noncomputable abbrev TS:=Zk3->St->Hp->Prop
def EP (X:Cx) (pins:List (Addr×Obj)) (σ:St) (Q:VK) (u:Value) (s':Shared):Prop:=∃v H',Inv X pins σ H' s'/\U1 v u/\Q v H'
def TP (X:Cx) (pins:List (Addr×Obj)) (σ:St) (Q:Bool->Hp->Prop) (b:Bool) (s':Shared):Prop:=∃H',Inv X pins σ H' s'/\Q b H'
def AP (X:Cx) (pins:List (Addr×Obj)) (σ:St) (Q:List V->Hp->Prop) (us:List Value) (s':Shared):Prop:=∃vs H',Inv X pins σ H' s'/\Wy vs us/\Q vs H'
def SP (X:Cx) (pins:List (Addr×Obj)) (D:Zk3) (f:Flow) (s':Shared):Prop:=
 match f with
 |.next=>∃σ' H',Inv X pins σ' H' s'/\D.nx σ' H'
 |.brk=>∃σ' H',Inv X pins σ' H' s'/\D.bk σ' H'
 |.cont=>∃σ' H',Inv X pins σ' H' s'/\D.ct σ' H'
 |.ret u=>∃v σ' H',Inv X pins σ' H' s'/\U1 v u/\D.rt v H'
def PE (X:Cx) (e:Expr) (t:TE):Prop:=
 ∀(pins:List (Addr×Obj)) (s:Shared) (σ:St) (H:Hp) (Q:VK),Inv X pins σ H s->t σ H Q->wpAny (model X.prog X.w) X.A (eval e X.env) (EP X pins σ Q) X.xe s
def PT (X:Cx) (e:Expr) (t:TT):Prop:=
 ∀(pins:List (Addr×Obj)) (s:Shared) (σ:St) (H:Hp) (Q:Bool->Hp->Prop),Inv X pins σ H s->t σ H Q->wpAny (model X.prog X.w) X.A (isTrue e X.env (eval e X.env)) (TP X pins σ Q) X.xe s
def PW (X:Cx) (e:Expr) (t:TT):Prop:=
 ∀(whole:Sem Value) (pins:List (Addr×Obj)) (s:Shared) (σ:St) (H:Hp) (Q:Bool->Hp->Prop),Inv X pins σ H s->t σ H Q->wpAny (model X.prog X.w) X.A (isTrue e X.env whole) (TP X pins σ Q) X.xe s
theorem PW.pt {X:Cx}{e:Expr}{t:TT} (h:PW X e t):PT X e t:=h _
def PA (X:Cx) (es:List Expr) (t:TA):Prop:=
 ∀(pos:Pos) (pins:List (Addr×Obj)) (s:Shared) (σ:St) (H:Hp) (Q:List V->Hp->Prop),Inv X pins σ H s->t σ H Q->wpAny (model X.prog X.w) X.A (spliced (backTo pos (starEach es X.env))) (AP X pins σ Q) X.xe s
def PS (X:Cx) (st:Stmt) (t:TS):Prop:=
 ∀(pins:List (Addr×Obj)) (s:Shared) (σ:St) (H:Hp) (D:Zk3),Inv X pins σ H s->t D σ H->wpAny (model X.prog X.w) X.A (exec st X.env) (SP X pins D) X.xe s
def PSs (X:Cx) (st:List Stmt) (t:TS):Prop:=
 ∀(pins:List (Addr×Obj)) (s:Shared) (σ:St) (H:Hp) (D:Zk3),Inv X pins σ H s->t D σ H->wpAny (model X.prog X.w) X.A (execs st X.env) (SP X pins D) X.xe s
theorem thn {α:Type}{t:Sem α}{Q Q':α->Shared->Prop}{M:Model}{A:Around}{E:Value->Shared->Prop}{s:Shared} (h:wpAny M A t Q E s) (hQ:∀a s,Q a s->Q' a s):wpAny M A t Q' E s:=wpAny_mono h hQ fun _ _ x=>x
section
variable {X:Cx}
theorem bin {a b:Expr}{ta tb:TE} (ha:PE X a ta) (hb:PE X b tb) {pins:List (Addr×Obj)}{s:Shared}{σ:St}{H:Hp}{R:V->V->Hp->Prop} (I:Inv X pins σ H s) (h:ta σ H fun x H1=>tb σ H1 fun y H2=>R x y H2)
  {α:Type}{Q:α->Shared->Prop}{f:Value->Value->Sem α}
  (hf:∀v u s2 x y H2,Inv X pins σ H2 s2->U1 x v->U1 y u->R x y H2->wpAny (model X.prog X.w) X.A (f v u) Q X.xe s2) :
  wpAny (model X.prog X.w) X.A (eval a X.env) (fun v s₁=>wpAny (model X.prog X.w) X.A (eval b X.env) (fun u s₂=>wpAny (model X.prog X.w) X.A (f v u) Q X.xe s₂) X.xe s₁) X.xe s:=by
 refine thn (ha pins s σ H _ I h) fun v s1 ⟨x,H1,I1,r1,q1⟩=>?_
 refine thn (hb pins s1 σ H1 _ I1 q1) fun u s2 ⟨y,H2,I2,r2,q2⟩=>?_
 exact hf v u s2 x y H2 I2 r1 r2 q2
noncomputable def ZjS (i:Nat):TE:=fun σ H Q=>∃v,σ[i]?=some (some v)/\Q v H
noncomputable def tC (v:V):TE:=fun _ H Q=>Q v H
theorem Zqq {i:Nat}{x:Str}{pos:Pos} (hN:X.N[i]?=some x) (hv:Vis X.env.scope x) (hd:(x==("__debug__":Str))=false:=by decide) (hcd:(x==("__classdict__":Str))=false:=by decide):PE X (.Name x pos) (ZjS i):=by
 intro pins s σ H Q I h
 obtain⟨v,e,h⟩:=h
 obtain⟨m,hn,hl⟩:=I.loc
 obtain⟨u,r,l⟩:=hl i x v hN e hv
 have fin:EP X pins σ Q u s:=⟨v,H,I,r,h⟩
 rcases l with ⟨hk,hm⟩|⟨hk,c,hc,hcell⟩
 ·exact wpAny_Name (wpAny_loadName_local I.ok.kind hk hn hm fin) hd
 ·rcases hk with hk|hk
  ·exact wpAny_Name (wpAny_loadName_cell I.ok.kind hk hc hcell fin) hd
  ·exact wpAny_Name (wpAny_loadName_free I.ok.kind hk hc hcell fin hcd) hd
theorem Zl {i j pos}:PE X (.Constant (.int i) j pos) (tC (.int i)):=fun _ _ _ H _ I h=>wpAny_Constant_int ⟨.int i,H,I.tok _,⟨_,rfl⟩,h⟩
theorem ZoM {b j pos}:PE X (.Constant (.bool b) j pos) (tC (.bl b)):=fun _ _ _ H _ I h=>Constant_bool ⟨.bl b,H,I,rfl,h⟩
theorem Zb7 {j pos}:PE X (.Constant .none j pos) (tC .non):=fun _ _ _ H _ I h=>Constant_none ⟨.non,H,I,rfl,h⟩
theorem ZfG {x j pos}:PE X (.Constant (.str x) j pos) (tC (.str x)):=fun _ _ _ H _ I h=>Calls.Constant_str ⟨.str x,H,I.tok _,⟨_,rfl⟩,h⟩
def Gl (X:Cx) (x:Str):Prop:=X.env.kindOf x=some .globalImplicit
theorem Ze0 {E:Value->Shared->Prop}{pins:List (Addr×Obj)}{s:Shared}{σ:St}{H:Hp}{x:Str}{u:Value}{pos:Pos}{Q:Value->Shared->Prop} (I:Inv X pins σ H s) (hg:Gl X x) (hm:X.mg x=some u) (h:Q u s)
  (hd:(x==("__debug__":Str))=false:=by decide):wpAny (model X.prog X.w) X.A (eval (.Name x pos) X.env) Q E s:=
 Calls.Name_function_global I.ok.kind hg (Calls.loadGlobal_global (by rw[I.ok.glob];exact I.mod.glob.keeps I.bk) hm h) hd
theorem ZfJ {E:Value->Shared->Prop}{pins:List (Addr×Obj)}{s:Shared}{σ:St}{H:Hp}{x:Str}{u:Value}{pos:Pos}{Q:Value->Shared->Prop} (I:Inv X pins σ H s) (hg:Gl X x) (hm:X.mg x=none) (hv:bootBuiltins x=some u) (h:Q u s)
  (hn:x ≠ "__name__":=by decide) (hd:(x==("__debug__":Str))=false:=by decide):wpAny (model X.prog X.w) X.A (eval (.Name x pos) X.env) Q E s:=by
 obtain⟨mb,h1,h2⟩:=I.mod.blt
 exact Calls.Name_function_global I.ok.kind hg (Calls.loadGlobal_builtin (by rw[I.ok.glob];exact I.mod.glob.keeps I.bk) hm (by rw[I.ok.blt];exact h1.keeps I.bk) ((h2 x hn).trans hv) h) hd
theorem ZoK {x:Str}{v:V}{u:Value}{pos:Pos} (hg:Gl X x) (hm:X.mg x=some u) (r:U1 v u) (hd:(x==("__debug__":Str))=false:=by decide):PE X (.Name x pos) (tC v):=
 fun _ _ _ H _ I h=>Ze0 I hg hm ⟨v,H,I,r,h⟩ hd
theorem Zik {x:Str}{v:V}{u:Value}{pos:Pos} (hg:Gl X x) (hm:X.mg x=none) (hv:bootBuiltins x=some u) (r:U1 v u) (hn:x ≠ "__name__":=by decide) (hd:(x==("__debug__":Str))=false:=by decide):PE X (.Name x pos) (tC v):=
 fun _ _ _ H _ I h=>ZfJ I hg hm hv ⟨v,H,I,r,h⟩ hn hd
variable {a b:Expr}{ta tb:TE}{pos:Pos}
noncomputable def tB (t:TE):TT:=fun σ H Q=>t σ H fun x H1=>∃c,x=.bl c/\Q c H1
theorem ZfE {e:Expr}{t:TE} (h:PE X e t) (he:∀whole,isTrue e X.env whole=(do let v <- whole;standAt e.pos;holding [v] (truthy v)):=by exact fun _=>rfl):PT X e (tB t):=by
 intro pins s σ H Q I hw
 refine isTrue_plain (thn (h pins s σ H _ I hw) fun v s1 ⟨x,H1,I1,r1,q1⟩=>?_) (he _)
 obtain⟨d,rfl,q⟩:=q1
 cases r1
 exact wpAny_truthy_bool ⟨H1,I1,q⟩
variable {tA tB':TT}{Zhb:List Expr}
noncomputable def Zsu (t u:TT):TT:=fun σ H Q=>t σ H fun c H1=>if c=true then u σ H1 Q else Q false H1
noncomputable def tOr (t u:TT):TT:=fun σ H Q=>t σ H fun c H1=>if c=true then Q true H1 else u σ H1 Q
noncomputable def Zsq (t:TT):TT:=fun σ H Q=>t σ H fun c H1=>Q (!c) H1
theorem Zeq (ha:PT X a tA):PW X (.BoolOp .And [a] pos) tA:=by
 intro wh pins s σ H Q I h
 refine isTrue_and (thn (ha pins s σ H Q I h) fun c s1 e=>?_)
 cases c with
 |true=>exact isTrue_and_nil e
 |false=>exact e
theorem Zd3 (ha:PT X a tA):PW X (.BoolOp .Or [a] pos) tA:=by
 intro wh pins s σ H Q I h
 refine isTrue_or (thn (ha pins s σ H Q I h) fun c s1 e=>?_)
 cases c with
 |false=>exact isTrue_or_nil e
 |true=>exact e
theorem Zhe (ha:PT X a tA) (hb:PW X (.BoolOp .And (b::Zhb) pos) tB'):PW X (.BoolOp .And (a::b::Zhb) pos) (Zsu tA tB'):=by
 intro wh pins s σ H Q I h
 refine isTrue_and (thn (ha pins s σ H _ I h) fun c s1 ⟨H1,I1,q1⟩=>?_)
 cases c with
 |true=>exact hb wh pins s1 σ H1 Q I1 q1
 |false=>exact⟨H1,I1,q1⟩
theorem Zfl (ha:PT X a tA) (hb:PW X (.BoolOp .Or (b::Zhb) pos) tB'):PW X (.BoolOp .Or (a::b::Zhb) pos) (tOr tA tB'):=by
 intro wh pins s σ H Q I h
 refine isTrue_or (thn (ha pins s σ H _ I h) fun c s1 ⟨H1,I1,q1⟩=>?_)
 cases c with
 |true=>exact⟨H1,I1,q1⟩
 |false=>exact hb wh pins s1 σ H1 Q I1 q1
theorem Zhf (ha:PT X a tA):PT X (.UnaryOp .Not a pos) (Zsq tA):=by
 intro pins s σ H Q I h
 exact isTrue_not (ha pins s σ H (fun c H1=>Q (!c) H1) I h)
noncomputable def Zqf (ta tb:TE):TE:=fun σ H Q=>ta σ H fun x H1=>∃c,x=.bl c/\if c=true then tb σ H1 Q else Q (.bl false) H1
noncomputable def Zqc (ta:TE):TE:=fun σ H Q=>ta σ H fun x H1=>∃c,x=.bl c/\Q (.bl (!c)) H1
theorem Zjm {op}{t:TE} (h:PE X a t):PE X (.BoolOp op [a] pos) t:=fun pins s σ H Q I hw=>BoolOp_one (h pins s σ H Q I hw)
theorem Zjo (ha:PE X a ta) (hb:PE X (.BoolOp .And (b::Zhb) pos) tb):PE X (.BoolOp .And (a::b::Zhb) pos) (Zqf ta tb):=by
 intro pins s σ H Q I h
 refine BoolOp_and (thn (ha pins s σ H _ I h) fun v s1 ⟨x,H1,I1,r1,q1⟩=>?_)
 obtain⟨c,rfl,q1⟩:=q1
 cases r1
 refine wpAny_truthy_bool ?_
 cases c with
 |true=>exact hb pins s1 σ H1 Q I1 q1
 |false=>exact⟨.bl false,H1,I1,rfl,q1⟩
theorem Zqr (ha:PE X a ta):PE X (.UnaryOp .Not a pos) (Zqc ta):=by
 intro pins s σ H Q I h
 refine UnaryOp_ (thn (ha pins s σ H _ I h) fun v s1 ⟨x,H1,I1,r1,q1⟩=>?_)
 obtain⟨c,rfl,q1⟩:=q1
 cases r1
 exact not_of (wpAny_truthy_bool ⟨.bl (!c),H1,I1,rfl,q1⟩)
noncomputable def tIf (t:TT) (ta tb:TE):TE:=fun σ H Q=>t σ H fun c H1=>if c=true then ta σ H1 Q else tb σ H1 Q
theorem Zjn {c:Expr} (hc:PT X c tA) (ha:PE X a ta) (hb:PE X b tb):PE X (.IfExp c a b pos) (tIf tA ta tb):=by
 intro pins s σ H Q I h
 refine wpAny_IfExp (thn (hc pins s σ H _ I h) fun d s1 ⟨H1,I1,q1⟩=>?_)
 cases d with
 |true=>exact ha pins s1 σ H1 Q I1 q1
 |false=>exact hb pins s1 σ H1 Q I1 q1
end
def SqL (K:W.Frag) (H:Hp) (a:Addr) (xs:List V):Prop:=
 Rd H a (.lst xs) \/
  ∃(o:Obj) (its:Array Value) (n:Nat),K.lookup a=some o/\o.cls=.type "list"/\o.dict=none/\o.data=.seq its n/\its.size<=sizeLine/\Wy xs its.toList
def SqT (K:W.Frag) (H:Hp) (a:Addr) (xs:List V):Prop:=
 Rd H a (.tup xs) \/
  ∃(o:Obj) (its:Array Value) (n:Nat),K.lookup a=some o/\o.cls=.type "tuple"/\o.data=.seq its n/\its.size<=sizeLine/\Wy xs its.toList
noncomputable def Zta:Value->Option V
 |.none=>some .non
 |.bool b=>some (.bl b)
 |.int i _=>some (.int i)
 |.str x _=>some (.str x)
 |.bytes b _=>some (.byt b)
 |.float b _=>some (.flt b)
 |.ref a=>some (.ref a)
 |.type n=>some (.ty n)
 |_=>none
theorem U1.abs {x:V}{u:Value} (r:U1 x u):Zta u=some x:=by
 cases x with
 |non=>cases r;rfl
 |bl _=>cases r;rfl
 |int _=>obtain⟨t,rfl⟩:=r;rfl
 |str _=>obtain⟨t,rfl⟩:=r;rfl
 |byt _=>obtain⟨t,rfl⟩:=r;rfl
 |flt _=>obtain⟨t,rfl⟩:=r;rfl
 |ref _=>cases r;rfl
 |ty _=>cases r;rfl
theorem U1.inj {x y:V}{u:Value} (r:U1 x u) (q:U1 y u):x=y:=Option.some.inj (r.abs.symm.trans q.abs)
theorem Wy.inj:∀{xs ys:List V}{us:List Value},Wy xs us->Wy ys us->xs=ys
 |_,_,_,.nil,.nil=>rfl
 |_,_,_,.cons r t,.cons r' t'=>by rw[r.inj r',Wy.inj t t']
section
variable {X:Cx}{pins:List (Addr×Obj)}{σ:St}{H:Hp}{s:Shared}{a:Addr}{xs ys:List V}
theorem SqL.of {K:W.Frag} (h:H a=some (.lst xs)):SqL K H a xs:=.inl (.inl h)
theorem Inv.list (I:Inv X pins σ H s) (h:SqL X.K H a xs):∃its:List Value,Wy xs its/\PlainL s.heap a its.toArray/\xs.length<=sizeLine:=by
 rcases h with h|⟨o,its,n,hk,hc,hd,hs,hz,r⟩
 ·obtain⟨z,its,n,r,e⟩:=h.ok I.hok
  exact⟨its,r,⟨_,n,e,rfl,rfl,rfl⟩,z⟩
 ·refine⟨its.toList,r,⟨o,n,I.kIn a o hk,hc,hd,by simpa using hs⟩, ?_⟩
  have e:=r.length
  simp only[Ztn] at e
  omega
theorem Inv.tuple (I:Inv X pins σ H s) (h:SqT X.K H a xs):∃its:List Value,Wy xs its/\IsTup s.heap a its.toArray/\xs.length<=sizeLine:=by
 rcases h with h|⟨o,its,n,hk,hc,hs,hz,r⟩
 ·obtain⟨z,its,r,p⟩:=h.ok I.hok
  exact⟨its,r,p,z⟩
 ·refine⟨its.toList,r,⟨o,I.kIn a o hk,hc,n,by simpa using hs⟩, ?_⟩
  have e:=r.length
  simp only[Ztn] at e
  omega
theorem Inv.list_inj (I:Inv X pins σ H s) (h:SqL X.K H a xs) (h':SqL X.K H a ys):xs=ys:=by
 obtain⟨its,r,⟨o,n,e,_,_,d⟩,_⟩:=I.list h
 obtain⟨its',r',⟨o',n',e',_,_,d'⟩,_⟩:=I.list h'
 rw[e] at e';cases e'
 rw[d] at d'
 injection d' with d1 _
 have:its=its':=by simpa using congrArg Array.toList d1
 subst this
 exact r.inj r'
end
noncomputable abbrev Cx.wish (X:Cx) (E:Value->Shared->Prop):Cx:={ X with xe:=E }
noncomputable abbrev Cx.nox (X:Cx):Cx:=X.wish fun _ _=>False
theorem Cx.Ok.wish {X:Cx} (ok:X.Ok) (E:Value->Shared->Prop):(X.wish E).Ok:=
 ⟨ok.mod,ok.kind,ok.glob,ok.blt,ok.above,ok.inj,ok.has,ok.cab,ok.hd,ok.frames,ok.stk,ok.exf,ok.bs,ok.bsz,ok.noex,ok.exfs,ok.funs,ok.frf⟩
theorem Cx.Ok.unwish {X:Cx}{E:Value->Shared->Prop} (ok:(X.wish E).Ok):X.Ok:=
 ⟨ok.mod,ok.kind,ok.glob,ok.blt,ok.above,ok.inj,ok.has,ok.cab,ok.hd,ok.frames,ok.stk,ok.exf,ok.bs,ok.bsz,ok.noex,ok.exfs,ok.funs,ok.frf⟩
section
variable {X:Cx}{pins:List (Addr×Obj)}{σ:St}{H:Hp}{s:Shared}{E:Value->Shared->Prop}
theorem Inv.wish (I:Inv X pins σ H s) (E:Value->Shared->Prop):Inv (X.wish E) pins σ H s:=⟨I.ok.wish E,I.os,I.bare,I.base,I.loc,I.cell,I.free,I.freeC,I.pin,I.hok,I.len⟩
theorem Inv.unwish (I:Inv (X.wish E) pins σ H s):Inv X pins σ H s:=⟨I.ok.unwish,I.os,I.bare,I.base,I.loc,I.cell,I.free,I.freeC,I.pin,I.hok,I.len⟩
theorem SP.unwish {D:Zk3}{f:Flow}{s':Shared} (h:SP (X.wish E) pins D f s'):SP X pins D f s':=by
 cases f with
 |next=>obtain⟨σ',H',I,q⟩:=h;exact⟨σ',H',I.unwish,q⟩
 |brk=>obtain⟨σ',H',I,q⟩:=h;exact⟨σ',H',I.unwish,q⟩
 |cont=>obtain⟨σ',H',I,q⟩:=h;exact⟨σ',H',I.unwish,q⟩
 |ret u=>obtain⟨v,σ',H',I,r,q⟩:=h;exact⟨v,σ',H',I.unwish,r,q⟩
theorem PSs.nox {st:List Stmt}{t:TS} (h:PSs X.nox st t):PSs X st t:=fun pins s σ H D I hw =>
 wpAny_mono (h pins s σ H D (I.wish _) hw) (fun _ _ q=>q.unwish) fun _ _ z=>False.elim z
end
section
variable {X:Cx}{st:Stmt}{Zhb:List Stmt}{t u:TS}{e:Expr}{te:TE}{pos:Pos}
noncomputable def Zqd:TS:=fun D σ H=>D.nx σ H
noncomputable def Zsp (t u:TS):TS:=fun D σ H=>t { D with nx:=u D } σ H
theorem Y6:PSs X [] Zqd:=fun _ _ σ H _ I h=>wpAny_execs_nil ⟨σ,H,I,h⟩
theorem Zg (h1:PS X st t) (h2:PSs X Zhb u):PSs X (st::Zhb) (Zsp t u):=by
 intro pins s σ H D I h
 refine wpAny_execs_cons (thn (h1 pins s σ H { D with nx:=u D } I h) fun f s1 q=>?_)
 cases f with
 |next =>
  obtain⟨σ',H',I',q⟩:=q
  exact h2 pins s1 σ' H' D I' q
 |ret v=>exact q
 |brk=>exact q
 |cont=>exact q
theorem Zk (h1:PS X st t):PSs X [st] t:=by
 intro pins s σ H D I h
 refine wpAny_execs_cons (thn (h1 pins s σ H D I h) fun f s1 q=>?_)
 cases f with
 |next=>exact wpAny_execs_nil q
 |ret v=>exact q
 |brk=>exact q
 |cont=>exact q
theorem Inv.quiet {pins:List (Addr×Obj)}{σ:St}{H:Hp}{s:Shared} (I:Inv X pins σ H s):interactive X.env=false:=by simp[interactive,I.ok.kind]
noncomputable def ZkO (te:TE):TS:=fun D σ H=>te σ H fun _ H1=>D.nx σ H1
theorem W7 (he:PE X e te) (hs:swapsWith e none pos.line X.env=pure false:=by rfl):PS X (.Expr e pos) (ZkO te):=by
 intro pins s σ H D I h
 exact wpAny_Expr_any (thn (he pins s σ H _ I h) fun v s1 ⟨x,H1,I1,r1,q1⟩=>⟨σ,H1,I1,q1⟩) I.quiet hs
noncomputable def Zrx (te:TE):TS:=fun D σ H=>te σ H D.rt
theorem Z9 (he:PE X e te):PS X (.Return (some e) pos) (Zrx te):=by
 intro pins s σ H D I h
 exact wpAny_Return_some (thn (he pins s σ H _ I h) fun v s1 ⟨x,H1,I1,r1,q1⟩=>⟨x,σ,H1,I1,r1,q1⟩)
noncomputable def Zsr (c:TT) (t u:TS):TS:=fun D σ H=>c σ H fun b H1=>if b=true then t D σ H1 else u D σ H1
theorem VR {c:Expr}{a b:List Stmt}{tc:TT} (hc:PT X c tc) (ha:PSs X a t) (hb:PSs X b u):PS X (.If c a b pos) (Zsr tc t u):=by
 intro pins s σ H D I h
 refine wpAny_If (thn (hc pins s σ H _ I h) fun d s1 ⟨H1,I1,q1⟩=>?_)
 cases d with
 |true=>exact ha pins s1 σ H1 D I1 q1
 |false=>exact hb pins s1 σ H1 D I1 q1
end
noncomputable abbrev TG:=V->St->Hp->(St->Hp->Prop)->Prop
noncomputable abbrev TGs:=List V->St->Hp->(St->Hp->Prop)->Prop
def PG (X:Cx) (target:Expr) (t:TG):Prop:=
 ∀(pins:List (Addr×Obj)) (s:Shared) (σ:St) (H:Hp) (v:V) (u:Value) (Q:St->Hp->Prop),Inv X pins σ H s->U1 v u->t v σ H Q ->
  wpAny (model X.prog X.w) X.A (assign target X.env u) (fun _ s'=>∃σ' H',Inv X pins σ' H' s'/\Q σ' H') X.xe s
def PGs (X:Cx) (ts:List Expr) (t:TGs):Prop:=
 ∀(pins:List (Addr×Obj)) (s:Shared) (σ:St) (H:Hp) (vs:List V) (us:List Value) (Q:St->Hp->Prop),Inv X pins σ H s->Wy vs us->t vs σ H Q ->
  wpAny (model X.prog X.w) X.A (assignInOrder ((assignEach ts X.env).map (·.2)) us) (fun _ s'=>∃σ' H',Inv X pins σ' H' s'/\Q σ' H') X.xe s
noncomputable abbrev Zsm:=V->V->V->Hp->(Hp->Prop)->Prop
def ZsD (X:Cx) (t:Zsm):Prop:=
 ∀(pins:List (Addr×Obj)) (s:Shared) (σ:St) (H:Hp) (o i v:V) (ov iv u:Value) (Q:Hp->Prop),Inv X pins σ H s->U1 o ov->U1 i iv->U1 v u->t o i v H Q ->
  wpAny (model X.prog X.w) X.A (setItem ov iv u) (fun _ s'=>∃H',Inv X pins σ H' s'/\Q H') X.xe s
noncomputable abbrev TIp:=V->V->Hp->VK->Prop
def PIp (X:Cx) (op:Operator) (t:TIp):Prop:=
 ∀(pins:List (Addr×Obj)) (s:Shared) (σ:St) (H:Hp) (x y:V) (v u:Value) (Q:VK),Inv X pins σ H s->U1 x v->U1 y u->t x y H Q ->
  wpAny (model X.prog X.w) X.A (inplaceOp op v u) (EP X pins σ Q) X.xe s
section
variable {X:Cx}{pos:Pos}
noncomputable def Zcq (i:Nat):TG:=fun v σ H Q=>Q (σ.set i (some v)) H
theorem JJ {i:Nat}{x:Str} (hN:X.N.Nodup) (hi:X.N[i]?=some x) (hx:Loc X.env.scope x) (hf:X.fn x=true\/X.env.scope.names.lookup x=some .local:=by first|exact .inl rfl|exact .inr rfl|assumption):PG X (.Name x pos) (Zcq i):=by
 intro pins s σ H v u Q I r h
 exact wpAny_assign_Name (Zcf I hN hi hx r (fun s' I'=>⟨_,H,I',h⟩) hf)
noncomputable def Zr4:TGs:=fun vs σ H Q=>vs=[]/\Q σ H
noncomputable def ZlZ (t:TG) (u:TGs):TGs:=fun vs σ H Q=>∃v r,vs=v::r/\t v σ H fun σ' H'=>u r σ' H' Q
theorem Zij:PGs X [] Zr4:=by
 intro pins s σ H vs us Q I r h
 obtain⟨e,h⟩:=h
 subst e
 cases r
 exact assignInOrder_nil ⟨σ,H,I,h⟩
theorem Zbs {e:Expr}{es:List Expr}{t:TG}{u:TGs} (h1:PG X e t) (h2:PGs X es u)
  (hs:(assignEach (e::es) X.env).map (·.2)=assign e X.env::(assignEach es X.env).map (·.2):=by rfl):PGs X (e::es) (ZlZ t u):=by
 intro pins s σ H vs us Q I r h
 obtain⟨v,vr,e1,h⟩:=h
 subst e1
 cases r with
 |cons r rr =>
  rw[hs]
  refine assignInOrder_cons (thn (h1 pins s σ H _ _ _ I r h) fun _ s1 ⟨σ1,H1,I1,q1⟩=>?_)
  exact h2 pins s1 σ1 H1 _ _ Q I1 rr q1
noncomputable def Zr3 (K:W.Frag) (n:Nat) (t:TGs):TG:=fun v σ H Q=>∃a xs,v=.ref a/\SqT K H a xs/\xs.length=n/\t xs σ H Q
theorem Zlm {es:List Expr}{k:Nat}{t:TGs}{n:Nat} (hc:X.calm=true) (h:PGs X es t)
  (hn:(assignEach es X.env).length=n:=by rfl) (hst:(assignEach es X.env).findIdx? (·.1)=none:=by rfl):PG X (.Tuple es k pos) (Zr3 X.K n t):=by
 intro pins s σ H v u Q I r hw
 obtain⟨a,xs,e1,hq,hl,hw⟩:=hw
 subst e1
 cases r
 obtain⟨its,rv,ht,hz⟩:=I.tuple hq
 refine assign_Tuple_tuple (I.ok.hd hc) ht (by simp[hn,<- hl,rv.length]) hst fun h' hx=>?_
 have I1:Inv X pins σ H { s with heap:=h' }:=I.kept (t':=s.toks) fun b o e=>hx b o (Zt0 (Heap.lt_size e)) e
 exact h pins _ σ H xs _ Q I1 (by simpa using rv) hw
noncomputable def Zs7 (to ti:TE) (t:Zsm):TG:=fun v σ H Q=>to σ H fun o H1=>ti σ H1 fun i H2=>t o i v H2 fun H3=>Q σ H3
theorem ZnZ {o i:Expr}{to ti:TE}{t:Zsm} (ho:PE X o to) (hi:PE X i ti) (hs:ZsD X t)
  (ha:∀v,assign (.Subscript o i pos) X.env v=(do
   let ov <- holding [v] (eval o X.env)
   let iv <- holding [v,ov] (eval i X.env)
   standAt pos
   holding [v,ov,iv] (setItem ov iv v)
   release [v,ov,iv] []):=by exact fun _=>rfl):PG X (.Subscript o i pos) (Zs7 to ti t):=by
 intro pins s σ H v u Q I r h
 rw[ha]
 refine wpAny_bind (wpAny_holding (thn (ho pins s σ H _ I h) fun ov s1 ⟨x,H1,I1,r1,q1⟩=>?_))
 refine wpAny_bind (wpAny_holding (thn (hi pins s1 σ H1 _ I1 q1) fun iv s2 ⟨y,H2,I2,r2,q2⟩=>?_))
 refine wpAny_bind (wpAny_standAt (wpAny_bind (wpAny_holding (thn (hs pins s2 σ H2 x y v ov iv u _ I2 r1 r2 r q2) fun _ s3 ⟨H3,I3,q3⟩=>?_))))
 exact wpAny_release ⟨σ,H3,I3,q3⟩
noncomputable def ZnT (te:TE) (g:TG):TS:=fun D σ H=>te σ H fun x H1=>g x σ H1 D.nx
theorem Zlh {tg e:Expr}{te:TE}{g:TG} (he:PE X e te) (hg:PG X tg g) (hs:swapsWithSole [tg] e pos.line X.env=pure false:=by rfl) (hw:swappedStores [tg] e X.env=pure none:=by rfl)
  (h1:(assignEach [tg] X.env).map (·.2)=[assign tg X.env]:=by rfl):PS X (.Assign [tg] e pos) (ZnT te g):=by
 intro pins s σ H D I h
 refine wpAny_Assign_stores (thn (he pins s σ H _ I h) fun v s1 ⟨x,H1,I1,r1,q1⟩=>?_) hs hw
 rw[h1]
 exact thn (hg pins s1 σ H1 x v _ I1 r1 q1) fun _ s2 q=>q
theorem Zz {i:Nat}{x:Str}{e:Expr}{te:TE}{pos':Pos} (hN:X.N.Nodup) (hi:X.N[i]?=some x) (hx:Loc X.env.scope x) (he:PE X e te) (hs:swapsWith e (some (.Name x pos')) pos.line X.env=pure false:=by rfl) (hf:X.fn x=true\/X.env.scope.names.lookup x=some .local:=by first|exact .inl rfl|exact .inr rfl|assumption) :
  PS X (.Assign [.Name x pos'] e pos) (ZnT te (Zcq i)):=by
 intro pins s σ H D I h
 refine wpAny_Assign_Name (thn (he pins s σ H _ I h) fun v s1 ⟨y,H1,I1,r1,q1⟩=>?_) hs
 exact Zcf I1 hN hi hx r1 (fun s2 I2=>⟨_,H1,I2,q1⟩) hf
noncomputable def Zst (i:Nat) (te:TE) (ti:TIp):TS:=fun D σ H=>∃x,σ[i]?=some (some x)/\te σ H fun y H1=>ti x y H1 fun z H2=>D.nx (σ.set i (some z)) H2
theorem ZaO {i:Nat}{x:Str}{e:Expr}{te:TE}{op:Operator}{ti:TIp}{pos':Pos} (hN:X.N.Nodup) (hi:X.N[i]?=some x) (hx:Loc X.env.scope x) (he:PE X e te) (ho:PIp X op ti) (hf:X.fn x=true\/X.env.scope.names.lookup x=some .local:=by first|exact .inl rfl|exact .inr rfl|assumption) :
  PS X (.AugAssign (.Name x pos') op e pos) (Zst i te ti):=by
 intro pins s σ H D I h
 obtain⟨v,e1,h⟩:=h
 obtain⟨m,hn,hl⟩:=I.loc
 have vis:Vis X.env.scope x:=by rcases hx with k|k;exact .inl k;exact .inr (.inl k)
 obtain⟨u,r,l⟩:=hl i x v hi e1 vis
 refine wpAny_AugAssign_Name ?_
 have go:wpAny (model X.prog X.w) X.A (eval e X.env) (fun w s₂=>wpAny (model X.prog X.w) X.A (inplaceOp op u w) (fun r s₃=>wpAny (model X.prog X.w) X.A (storeName X.env x r) (fun _=>SP X pins D .next) X.xe s₃) X.xe s₂) X.xe s:=by
  refine thn (he pins s σ H _ I h) fun w s1 ⟨y,H1,I1,r1,q1⟩=>?_
  refine thn (ho pins s1 σ H1 v y u w _ I1 r r1 q1) fun z s2 ⟨zv,H2,I2,r2,q2⟩=>?_
  exact Zcf I2 hN hi hx r2 (fun s3 I3=>⟨_,H2,I3,q2⟩) hf
 rcases l with ⟨hk,hm⟩|⟨hk,c,hc,hcell⟩
 ·exact wpAny_loadName_local I.ok.kind hk hn hm go
 ·rcases hk with hk|hk
  ·exact wpAny_loadName_cell I.ok.kind hk hc hcell go
  ·rcases hx with k|k
   ·have:X.env.scope.names.lookup x=some .free:=hk
    rw[k] at this;cases this
   ·have:X.env.scope.names.lookup x=some .free:=hk
    rw[k] at this;cases this
noncomputable def ipI (f:Int->Int->Int):TIp:=fun x y H Q=>∃i j,x=.int i/\y=.int j/\Q (.int (f i j)) H
theorem Zhr:PIp X .Add (ipI fun i j=>i+j):=by
 intro pins s σ H x y v u Q I r1 r2 h
 obtain⟨i,j,e1,e2,q⟩:=h
 subst e1;subst e2
 obtain⟨t,rfl⟩:=r1
 obtain⟨t',rfl⟩:=r2
 exact iadd_int ⟨.int _,H,I.tok _,⟨_,rfl⟩,q⟩
theorem ZfL:PIp X .Sub (ipI fun i j=>i-j):=by
 intro pins s σ H x y v u Q I r1 r2 h
 obtain⟨i,j,e1,e2,q⟩:=h
 subst e1;subst e2
 obtain⟨t,rfl⟩:=r1
 obtain⟨t',rfl⟩:=r2
 exact isub_int ⟨.int _,H,I.tok _,⟨_,rfl⟩,q⟩
end
section
variable {X:Cx}{pos:Pos}
noncomputable def ZnQ (c:TT) (tb:TS):TS:=fun D σ H=>∃W:Nat->St->Hp->Prop,(∃m,W m σ H)/\∀m σ H,W m σ H ->
 c σ H fun b H1=>if b=true then ∃N:St->Hp->Prop,(∀σ' H',N σ' H'->∃m',m'<m/\W m' σ' H')/\tb { D with nx:=N,ct:=N,bk:=D.nx } σ H1 else D.nx σ H1
theorem Vz {c:Expr}{body:List Stmt}{tc:TT}{tb:TS} (hp:PassesOwn (model X.prog X.w) X.A X.env X.xe) (hc:PT X c tc) (hb:PSs X body tb):PS X (.While c body [] pos) (ZnQ tc tb):=by
 intro pins s σ H D I h
 obtain⟨W,⟨m0,w0⟩,turn⟩:=h
 refine wpAny_While (codeAny_whileLoop (fun n s'=>∃σ' H',Inv X pins σ' H' s'/\W n σ' H') ?_ m0 ⟨σ,H,I,w0⟩)
 rintro n s1 ⟨σ1,H1,I1,w1⟩
 refine wpAny_passesOwn hp (thn (hc pins s1 σ1 H1 _ I1 (turn n σ1 H1 w1)) fun b s2 ⟨H2,I2,q2⟩=>?_)
 cases b with
 |true =>
  obtain⟨N,hN,q2⟩:=q2
  rw[if_pos rfl]
  refine wpAny_passesOwn hp (thn (hb pins s2 σ1 H2 _ I2 q2) fun f s3 q3=>?_)
  cases f with
  |next =>
   obtain⟨σ3,H3,I3,n3⟩:=q3
   obtain⟨m',hm,w3⟩:=hN σ3 H3 n3
   exact⟨m',hm,σ3,H3,I3,w3⟩
  |cont =>
   obtain⟨σ3,H3,I3,n3⟩:=q3
   obtain⟨m',hm,w3⟩:=hN σ3 H3 n3
   exact⟨m',hm,σ3,H3,I3,w3⟩
  |brk=>exact q3
  |ret v=>exact q3
 |false =>
  rw[if_neg Bool.false_ne_true]
  exact wpAny_execs_nil ⟨σ1,H2,I2,q2⟩
end
structure It where
 go:Nat->Hp->Prop
 yld:Nat->Hp->V->Hp->Prop
 stop:Nat->Hp->Prop
def Zk9 (X:Cx) (pins:List (Addr×Obj)) (H:Hp) (b:Addr):Prop:=
 H b=none/\b≠X.env.locals/\b ∉ X.fs/\(b∈X.ex\/X.s₀.heap.objs.size<=b)/\(∀x c,X.env.cells.lookup x=some c->c≠b)/\∀p∈X.pn++pins,p.1≠b
theorem Inv.fpOk {X:Cx}{pins:List (Addr×Obj)}{σ:St}{H H':Hp}{s:Shared}{b:Addr} (I:Inv X pins σ H s) (hb:s.heap.objs.size<=b) (hn:H' b=none):Zk9 X pins H' b:=by
 refine⟨hn,Zu4 (Ztw I.lt hb),I.nofs hb,.inr (Zt5 I.sz hb),fun x c e z=>?_,fun p hp z=>?_⟩
 ·obtain⟨v,q⟩:=I.cell x c e
  exact absurd (Ztw q.lt (by rw[z];exact hb)) (ZtU _)
 ·exact absurd (Ztw (Heap.lt_size (I.pin p hp).1) (by rw[z];exact hb)) (ZtU _)
structure ZpU (P:Program) (w:World) (K:PySem.W.Frag) (tg:Expr) (J:It) (fp:List Addr) (it:Addr) (tn:Nat->Heap->Prop):Prop where
 mem:it∈fp
 obj:∀i h,tn i h->∀b∈fp,∃o,h.get? b=some o/\∀v,o.data≠.cell v
 keep:∀i h h',tn i h->(∀b∈fp,∀o,h.get? b=some o->h'.get? b=some o)->tn i h'
 item:∀(X:Cx),X.prog=P->X.w=w->X.K=K->X.calm=true->∀(i:Nat) (pins:List (Addr×Obj)) (s:Shared) (σ:St) (H:Hp) (E:Value->Shared->Prop),Inv X pins σ H s->(∀b∈fp,Zk9 X pins H b)->tn i s.heap->J.go i H ->
  wpAny (model P w) X.A (pyNext (.ref it)) (fun r s1=>∃u,r=some u /\
   wpAny (model P w) X.A (letOwnedTupleGo tg (.ref it) u) (fun _ s2=>∃x H',Inv X pins σ H' s2/\U1 x u/\J.yld i H x H'/\tn (i+1) s2.heap/\∀b∈fp,H' b=none) E s1) E s
 done:∀(X:Cx),X.prog=P->X.w=w->X.K=K->X.calm=true->∀(i:Nat) (pins:List (Addr×Obj)) (s:Shared) (σ:St) (H:Hp) (E:Value->Shared->Prop),Inv X pins σ H s->(∀b∈fp,Zk9 X pins H b)->tn i s.heap->J.stop i H ->
  wpAny (model P w) X.A (pyNext (.ref it)) (fun r s1=>r=none/\Inv X pins σ H s1) E s
 self:∀(A:Around) (i:Nat) (s:Shared) (Q:Value->Shared->Prop) (E:Value->Shared->Prop),tn i s.heap->Q (.ref it) s->wpAny (model P w) A (pyIter (.ref it)) Q E s
noncomputable abbrev TI:=St->Hp->(It->Hp->Prop)->Prop
def PIE (X:Cx) (pins:List (Addr×Obj)) (σ:St) (tg:Expr) (R:It->Hp->Prop) (itv:Value) (s2:Shared):Prop:=
 ∃(it:Addr) (fp:List Addr) (tn:Nat->Heap->Prop) (J:It) (H':Hp),itv=.ref it/\Inv X pins σ H' s2/\ZpU X.prog X.w X.K tg J fp it tn/\tn 0 s2.heap/\(∀b∈fp,Zk9 X pins H' b)/\R J H'
def PI (X:Cx) (tg iter:Expr) (wi:TI):Prop:=
 ∀(pins:List (Addr×Obj)) (s:Shared) (σ:St) (H:Hp) (R:It->Hp->Prop),Inv X pins σ H s->wi σ H R ->
  wpAny (model X.prog X.w) X.A (eval iter X.env) (fun v s1=>wpAny (model X.prog X.w) X.A (pyIter v) (PIE X pins σ tg R) X.xe s1) X.xe s
theorem ZqV {M:Model}{A:Around}{E:Value->Shared->Prop}{s:Shared}{tg:Expr}{it:Addr}{u:Value}{o:Obj}{n:String}{vs:Array Value}{Q:Unit->Shared->Prop} (ho:s.heap.get? it=some o) (hc:o.cls=.type n) (hd:o.data=.fields vs)
  (hn:["enumerate", "zip", "dict_itemiterator", "dict_reverseitemiterator", "odict_iterator", "itertools.zip_longest", "itertools.pairwise"].contains n=false) (hQ:Q () s):wpAny M A (letOwnedTupleGo tg (.ref it) u) Q E s:=by
 unfold letOwnedTupleGo
 cases tg<;>first
  |exact wpAny_pure hQ
  |(cases u<;>first
    |exact wpAny_pure hQ
    |(refine wpAny_bind (wpAny_load ho ?_)
      rw[hc,hd]
      show wpAny M A (if (["enumerate", "zip", "dict_itemiterator", "dict_reverseitemiterator", "odict_iterator", "itertools.zip_longest", "itertools.pairwise"].contains n&&vs[0]?==some (rawInt _))=true then _ else _) Q E s
      rw[if_neg (by intro h;rw[hn,Bool.false_and] at h;cases h)]
      exact wpAny_pure hQ))
noncomputable def Itl (K:W.Frag) (a:Addr):It:=
 ⟨fun i H=>∃xs x,SqL K H a xs/\xs[i]?=some x,fun i H x H'=>H'=H/\∀xs,SqL K H a xs->xs[i]?=some x,fun i H=>∃xs,SqL K H a xs/\xs.length<=i⟩
noncomputable def Itr (lo:Int) (n:Nat):It:=⟨fun i _=>i<n,fun i H x H'=>H'=H/\x=.int (lo+i),fun i _=>n<=i⟩
theorem ZkD {P:Program}{w:World}{K:W.Frag}{tg:Expr} (a it:Addr):ZpU P w K tg (Itl K a) [it] it (fun i h=>h.IsListIter it a i) where
 mem:=by simp
 obj:=fun i h st b hb=>by
  have e:b=it:=by simpa using hb
  subst e
  obtain⟨o,e,c,d⟩:=st
  exact⟨o,e,fun v z=>by rw[d] at z;cases z⟩
 keep:=fun i h h' st k=>st.at fun o e=>k it (by simp) o e
 item:=by
  intro X hP hw hK hc i pins s σ H E I hf st hg
  subst hP hw hK
  obtain⟨xs,x,hq,hx⟩:=hg
  obtain⟨its,rv,p,hz⟩:=I.list hq
  obtain⟨u,hu,ru⟩:=rv.get hx
  obtain⟨f0,f1,f2,f3,f4,f5⟩:=hf it (by simp)
  refine wpAny_pyNext_list_item st p.isList (x:=u) (by simpa using hu) fun h' st' sb=>?_
  have I1:Inv X pins σ H { s with heap:=h' }:=I.turned (t':=s.toks) (fun b o hb e=>(sb.2 b hb).trans e) f0 f1 f3 f4 f5
  obtain⟨o,e,c,d⟩:=id st'
  exact⟨u,rfl,ZqV (s:={ s with heap:=h' }) e c d (by decide) ⟨x,H,I1,ru,⟨rfl,fun ys hy=>by rw[I.list_inj hy hq];exact hx⟩,st',fun b hb=>(hf b hb).1⟩⟩
 done:=by
  intro X hP hw hK hc i pins s σ H E I hf st hg
  subst hP hw hK
  obtain⟨xs,hq,hx⟩:=hg
  obtain⟨its,rv,p,hz⟩:=I.list hq
  obtain⟨f0,f1,f2,f3,f4,f5⟩:=hf it (by simp)
  have hl:=rv.length
  exact wpAny_pyNext_list_end (I.ok.hd hc) st p.isList (by simp;omega) fun h' eb=>⟨rfl,I.turned (t':=s.toks) (fun b o hb e=>eb b o hb e) f0 f1 f3 f4 f5⟩
 self:=fun _ _ _ _ _ st h=>wpAny_pyIter_listiter st h
theorem ZjO {P:Program}{w:World}{K:W.Frag}{tg:Expr} (it:Addr) (lo:Int) (n:Nat):ZpU P w K tg (Itr lo n) [it] it (fun i h=>IsRangeIter h it (lo+(i:Nat)*1) ((n:Int)-(i:Nat)) 1) where
 mem:=by simp
 obj:=fun i h st b hb=>by
  have e:b=it:=by simpa using hb
  subst e
  exact⟨_,st,fun v z=>by
   have z':Data.fields _=Data.cell v:=z
   cases z'⟩
 keep:=fun i h h' st k=>k it (by simp) _ st
 item:=by
  intro X hP hw hK hc i pins s σ H E I hf st hg
  subst hP hw hK
  obtain⟨f0,f1,f2,f3,f4,f5⟩:=hf it (by simp)
  have W:=Walks.range (prog:=X.prog) (w:=X.w) (I.ok.hd hc) it lo 1 n
  refine W.item i s _ _ hg st fun v h' tk hv st' kk=>?_
  obtain⟨t,rfl⟩:=hv
  have I1:Inv X pins σ H { s with heap:=h',toks:=tk }:=I.turned (fun b o hb e=>kk b o (by simpa using hb) e) f0 f1 f3 f4 f5
  refine⟨_,rfl,ZqV (s:={ s with heap:=h',toks:=tk }) (n := "range_iterator") st' rfl rfl (by decide) ⟨.int (lo+i),H,I1,⟨t, ?_⟩,⟨rfl,rfl⟩,st',fun b hb=>(hf b hb).1⟩⟩
  rw[ZuD]
 done:=by
  intro X hP hw hK hc i pins s σ H E I hf st hg
  subst hP hw hK
  obtain⟨f0,f1,f2,f3,f4,f5⟩:=hf it (by simp)
  exact wpAny_pyNext_range_end (I.ok.hd hc) st (by have:n<=i:=hg;omega) fun h' eb=>⟨rfl,I.turned (t':=s.toks) (fun b o hb e=>eb b o hb e) f0 f1 f3 f4 f5⟩
 self:=fun _ _ _ _ _ st h=>wpAny_pyIter_rangeiter st h
section
variable {X:Cx}{tg:Expr}
noncomputable def ZlU (K:W.Frag) (tl:TE):TI:=fun σ H R=>tl σ H fun x H1=>∃a,x=.ref a/\(∃xs,SqL K H1 a xs)/\R (Itl K a) H1
theorem ZoI {l:Expr}{tl:TE} (hl:PE X l tl):PI X tg l (ZlU X.K tl):=by
 intro pins s σ H R I h
 refine thn (hl pins s σ H _ I h) fun v s1 ⟨x,H1,I1,r1,q1⟩=>?_
 obtain⟨a,e,⟨xs,hq⟩,q⟩:=q1
 subst e
 cases r1
 obtain⟨its,rv,p,hz⟩:=I1.list hq
 refine wpAny_pyIter_list p.isList ?_
 refine⟨s1.heap.objs.size,[s1.heap.objs.size],_,_,H1,rfl,I1.kept (t':=s1.toks) fun b o e=>Heap.get?_push_of_some _ e,ZkD a _,⟨_,Heap.get?_push_size _ rfl,rfl,rfl⟩,fun b hb=>?_,q⟩
 have e:b=s1.heap.objs.size:=by simpa using hb
 subst e
 exact I1.fpOk (Ztj _) (I1.hok.fresh (Ztj _))
theorem Zjj {pins:List (Addr×Obj)}{σ:St}{H:Hp}{s:Shared}{R:It->Hp->Prop}{E:Value->Shared->Prop}{lo hi:Int}{t u v:Tok}{tk:Nat} (I:Inv X pins σ H s) (h1:-(2^62)<=lo) (h2:lo<2^62) (h3:-(2^62)<=hi) (h4:hi<2^62)
  (q:R (Itr lo (hi-lo).toNat) H):wpAny (model X.prog X.w) X.A (pyIter (.ref s.heap.objs.size)) (PIE X pins σ tg R) E { s with heap:=s.heap.push { cls:=.type "range",data:=.fields #[.int lo t,.int hi u,.int 1 v] },toks:=tk }:=by
 refine wpAny_pyIter_range (IsRange.new ..) (small_one h1 h2 h3 h4) ?_
 have I1:Inv X pins σ H { s with heap:=s.heap.push { cls:=.type "range",data:=.fields #[.int lo t,.int hi u,.int 1 v] },toks:=tk }:=I.kept fun b o e=>Heap.get?_push_of_some _ e
 refine⟨(s.heap.push { cls:=.type "range",data:=.fields #[.int lo t,.int hi u,.int 1 v] }).objs.size,[(s.heap.push { cls:=.type "range",data:=.fields #[.int lo t,.int hi u,.int 1 v] }).objs.size],_,_,H,rfl,
  I1.kept (t':=tk) fun b o e=>Heap.get?_push_of_some _ e,ZjO _ lo (hi-lo).toNat, ?_,fun b hb=>?_,q⟩
 ·have e1:lo+((0:Nat):Int)*1=lo:=by simp
  have e2:(((hi-lo).toNat:Nat):Int)-((0:Nat):Int)=Builtin.Range.rangeSize lo hi 1:=by rw[rangeSize_one];split<;>omega
  show IsRangeIter _ _ (lo+((0:Nat):Int)*1) ((((hi-lo).toNat:Nat):Int)-((0:Nat):Int)) 1
  rw[e1,e2]
  exact Heap.get?_push_size _ rfl
 ·have e:b=(s.heap.push { cls:=.type "range",data:=.fields #[.int lo t,.int hi u,.int 1 v] }).objs.size:=by simpa using hb
  subst e
  exact I1.fpOk (Ztj _) (I1.hok.fresh (Ztj _))
noncomputable def ZqU (ta:TA):TI:=fun σ H R=>ta σ H fun vs H1=>∃j:Int,vs=[.int j]/\-(2^62)<=j/\j<2^62/\R (Itr 0 j.toNat) H1
noncomputable def ZqT (ta:TA):TI:=fun σ H R=>ta σ H fun vs H1=>∃i j:Int,vs=[.int i,.int j]/\(-(2^62)<=i/\i<2^62/\-(2^62)<=j/\j<2^62)/\R (Itr i (j-i).toNat) H1
theorem WV {a:Expr}{ta:TA}{p pos:Pos} (hg:Gl X "range") (hm:X.mg "range"=none) (ha:PA X [a] ta) (hs:starEach [a] X.env=[(false,eval a X.env)]:=by rfl):PI X tg (.Call (.Name "range" p) [a] [] pos) (ZqU ta):=by
 intro pins s σ H R I h
 refine Call_ (ZfJ I hg hm boot_range (PyProof.Rows.callWith_type1 (thn (ha pos pins s σ H _ I h) fun us s1 ⟨vs,H1,I1,r1,q1⟩=>?_) hs rfl))
 obtain⟨j,e,q1,q2,q⟩:=q1
 subst e
 cases r1 with
 |cons r rr =>
  cases rr
  obtain⟨t,rfl⟩:=r
  exact call_range_1 (Zjj I1 (by omega) (by omega) q1 q2 (by simpa using q))
theorem Zll {a b:Expr}{ta:TA}{p pos:Pos} (hg:Gl X "range") (hm:X.mg "range"=none) (ha:PA X [a,b] ta) (hs:starEach [a,b] X.env=[(false,eval a X.env),(false,eval b X.env)]:=by rfl) (hs2:starEach [b] X.env=[(false,eval b X.env)]:=by rfl) :
  PI X tg (.Call (.Name "range" p) [a,b] [] pos) (ZqT ta):=by
 intro pins s σ H R I h
 refine Call_ (ZfJ I hg hm boot_range (PyProof.Rows.callWith_type1 (thn (ha pos pins s σ H _ I h) fun us s1 ⟨vs,H1,I1,r1,q1⟩=>?_) (by rw[hs,hs2]) (by rw[hs2];rfl)))
 obtain⟨i,j,e,⟨q1,q2,q3,q4⟩,q⟩:=q1
 subst e
 cases r1 with
 |cons r rr =>
  cases rr with
  |cons r' rr =>
   cases rr
   obtain⟨t,rfl⟩:=r
   obtain⟨t',rfl⟩:=r'
   exact call_range_2 (Zjj I1 q1 q2 q3 q4 q)
noncomputable def Zss (wi:TI) (g:TG) (tb:TS):TS:=fun D σ H=>wi σ H fun J H1=>∃W:Nat->Nat->St->Hp->Prop,(∃m,W 0 m σ H1)/\∀i m σ H,W i m σ H ->
 (J.stop i H/\D.nx σ H)\/(J.go i H/\∃N:St->Hp->Prop,(∀σ' H',N σ' H'->∃m',m'<m/\W (i+1) m' σ' H')/\∀x H',J.yld i H x H'->g x σ H' fun σ2 H2=>tb { D with nx:=N,ct:=N,bk:=D.nx } σ2 H2)
noncomputable def Zjk (fp:List Addr) (h:Heap):List (Addr×Obj):=fp.filterMap fun b=>(h.get? b).map fun o=>(b,o)
theorem J9 {fp:List Addr}{h:Heap}{b:Addr}{o:Obj} (hb:b∈fp) (e:h.get? b=some o):(b,o)∈Zjk fp h:=Zvl.mpr ⟨b,hb,by rw[e];rfl⟩
theorem Zl3 {fp:List Addr}{h:Heap}{p:Addr×Obj} (hp:p∈Zjk fp h):p.1∈fp/\h.get? p.1=some p.2:=by
 obtain⟨b,hb,e⟩:=Zvl.mp hp
 cases q:h.get? b with
 |none=>rw[q] at e;cases e
 |some o =>
  rw[q] at e
  have e':(b,o)=p:=Option.some.inj e
  subst e'
  exact⟨hb,q⟩
theorem Inv.pinned {pins:List (Addr×Obj)}{σ:St}{H:Hp}{s:Shared}{fp:List Addr} (I:Inv X pins σ H s) (hf:∀b∈fp,Zk9 X pins H b) (ho:∀b∈fp,∃o,s.heap.get? b=some o/\∀v,o.data≠.cell v):Inv X (pins++Zjk fp s.heap) σ H s:=
 I.pins_of fun p hp=>(Ztk.mp hp).elim (fun z=>I.pin p (Zth _ z)) fun z=>by
  obtain⟨hb,e⟩:=Zl3 z
  obtain⟨f0,f1,f2,_⟩:=hf p.1 hb
  obtain⟨o,e',d⟩:=ho p.1 hb
  rw[e] at e';cases e'
  exact⟨e,f0,f1,f2,d⟩
theorem Inv.unpinned {pins pl:List (Addr×Obj)}{σ:St}{H:Hp}{s:Shared} (I:Inv X (pins++pl) σ H s):Inv X pins σ H s:=I.pins_of fun p hp=>I.pin p (Zth _ (Zts _ hp))
theorem Zch {iter:Expr}{body:List Stmt}{wi:TI}{g:TG}{tb:TS}{pos:Pos} (hp:PassesOwn (model X.prog X.w) X.A X.env X.xe) (hc:X.calm=true) (hi:PI X tg iter wi) (hg:PG X tg g) (hb:PSs X body tb)
  (hs:∀x,foldedSetIterable iter X.env x=pure x:=by exact fun _=>rfl):PS X (.For tg iter body [] pos) (Zss wi g tb):=by
 intro pins s σ H D I h
 refine wpAny_For (thn (hi pins s σ H _ I h) fun v s1 h1=>thn h1 fun itv s2 h2=>?_) hs
 obtain⟨it,fp,tn,J,H2,e,I2,T,st2,f2,W,⟨m0,w0⟩,turn⟩:=h2
 subst e
 have stat:∀{H':Hp},(∀b∈fp,H' b=none)->∀b∈fp,Zk9 X pins H' b:=fun hn b hb=>⟨hn b hb,(f2 b hb).2⟩
 refine codeAny_forLoop_any (fun n s'=>∃i σ' H',Inv X pins σ' H' s'/\tn i s'.heap/\(∀b∈fp,H' b=none)/\W i n σ' H') ?_ m0 ⟨0,σ,H2,I2,st2,fun b hb=>(f2 b hb).1,w0⟩
 rintro n s3 ⟨i,σ3,H3,I3,st3,fr3,w3⟩
 rcases turn i n σ3 H3 w3 with ⟨stop,qn⟩|⟨go,N,hN,step⟩
 ·refine wpAny_passesOwn hp (thn (T.done X rfl rfl rfl hc i pins s3 σ3 H3 X.xe I3 (stat fr3) st3 stop) fun r s4 ⟨hr,I4⟩=>?_)
  subst hr
  exact wpAny_execs_nil ⟨σ3,H3,I4,qn⟩
 ·refine wpAny_passesOwn hp (thn (T.item X rfl rfl rfl hc i pins s3 σ3 H3 X.xe I3 (stat fr3) st3 go) fun r s4 ⟨u,hr,h4⟩=>?_)
  subst hr
  refine wpAny_passesOwn hp (thn h4 fun _ s5 ⟨x,H5,I5,r5,y5,st5,fr5⟩=>?_)
  have I5':=I5.pinned (stat fr5) (T.obj _ _ st5)
  refine wpAny_passesOwn hp (thn (hg _ s5 σ3 H5 x u _ I5' r5 (step x H5 y5)) fun _ s6 ⟨σ6,H6,I6,q6⟩=>?_)
  refine wpAny_passesOwn hp (thn (hb _ s6 σ6 H6 _ I6 q6) fun f s7 q7=>?_)
  have again:∀{σ7:St}{H7:Hp},Inv X (pins++Zjk fp s5.heap) σ7 H7 s7->N σ7 H7->∃m,m<n/\∃i σ' H',Inv X pins σ' H' s7/\tn i s7.heap/\(∀b∈fp,H' b=none)/\W i m σ' H':=fun {σ7 H7} I7 n7=>by
   obtain⟨m',hm,w7⟩:=hN σ7 H7 n7
   refine⟨m',hm,i+1,σ7,H7,I7.unpinned,T.keep _ _ _ st5 fun b hb o e=>(I7.pin (b,o) (Zth _ (Zth _ (J9 hb e)))).1,fun b hb=>?_,w7⟩
   obtain⟨o,e,d⟩:=T.obj _ _ st5 b hb
   exact(I7.pin (b,o) (Zth _ (Zth _ (J9 hb e)))).2.1
  cases f with
  |next=>obtain⟨σ7,H7,I7,n7⟩:=q7;exact again I7 n7
  |cont=>obtain⟨σ7,H7,I7,n7⟩:=q7;exact again I7 n7
  |brk=>obtain⟨σ7,H7,I7,q7⟩:=q7;exact⟨σ7,H7,I7.unpinned,q7⟩
  |ret v=>obtain⟨x7,σ7,H7,I7,r7,q7⟩:=q7;exact⟨x7,σ7,H7,I7.unpinned,r7,q7⟩
end
noncomputable abbrev R2:=V->V->Hp->VK->Prop
def OpR (X:Cx) (f:Value->Value->Sem Value) (r:R2):Prop:=
 ∀(pins:List (Addr×Obj)) (s:Shared) (σ:St) (H:Hp) (x y:V) (v u:Value) (Q:VK),Inv X pins σ H s->U1 x v->U1 y u->r x y H Q ->
  wpAny (model X.prog X.w) X.A (f v u) (EP X pins σ Q) X.xe s
def UnR (X:Cx) (f:Value->Sem Value) (r:V->Hp->VK->Prop):Prop:=
 ∀(pins:List (Addr×Obj)) (s:Shared) (σ:St) (H:Hp) (x:V) (v:Value) (Q:VK),Inv X pins σ H s->U1 x v->r x H Q ->
  wpAny (model X.prog X.w) X.A (f v) (EP X pins σ Q) X.xe s
def QD (X:Cx) (f:Value) (r:List V->Hp->VK->Prop):Prop:=
 ∀(pins:List (Addr×Obj)) (s:Shared) (σ:St) (H:Hp) (xs:List V) (us:List Value) (Q:VK),Inv X pins σ H s->Wy xs us->r xs H Q ->
  wpAny (model X.prog X.w) X.A (call f us) (EP X pins σ Q) X.xe s
noncomputable def tOp (r:R2) (ta tb:TE):TE:=fun σ H Q=>ta σ H fun x H1=>tb σ H1 fun y H2=>r x y H2 Q
noncomputable def tUn (r:V->Hp->VK->Prop) (ta:TE):TE:=fun σ H Q=>ta σ H fun x H1=>r x H1 Q
noncomputable def rI (C:Int->Int->Prop) (g:Int->Int->V):R2:=fun x y H Q=>∃i j,x=.int i/\y=.int j/\C i j/\Q (g i j) H
noncomputable def rI0 (g:Int->Int->V):R2:=fun x y H Q=>∃i j,x=.int i/\y=.int j/\Q (g i j) H
def rU (g:Int->V):V->Hp->VK->Prop:=fun x H Q=>∃i,x=.int i/\Q (g i) H
section
variable {X:Cx}{a b c:Expr}{ta tb tc:TE}{pos:Pos}
theorem Zsj (ha:PE X a ta) (hb:PE X b tb) {pins:List (Addr×Obj)}{s:Shared}{σ:St}{H:Hp}{R:V->V->Hp->Prop} (I:Inv X pins σ H s)
  (h:ta σ H fun x H1=>tb σ H1 fun y H2=>R x y H2) {Q:Value->Shared->Prop}{f:Value->Value->Sem Value}
  (hf:∀v u s2 x y H2,Inv X pins σ H2 s2->U1 x v->U1 y u->R x y H2->wpAny (model X.prog X.w) X.A (f v u) Q X.xe s2) :
  wpAny (model X.prog X.w) X.A (eval a X.env) (fun v s₁=>wpAny (model X.prog X.w) X.A (eval b X.env) (fun u s₂=>wpAny (model X.prog X.w) X.A (f v u) Q X.xe s₂) X.xe s₁) X.xe s:=by
 refine thn (ha pins s σ H _ I h) fun v s1 ⟨x,H1,I1,r1,q1⟩=>?_
 refine thn (hb pins s1 σ H1 _ I1 q1) fun u s2 ⟨y,H2,I2,r2,q2⟩=>?_
 exact hf v u s2 x y H2 I2 r1 r2 q2
theorem ZD {op:Operator}{r:R2} (ho:OpR X (binaryOp op) r) (ha:PE X a ta) (hb:PE X b tb):PE X (.BinOp a op b pos) (tOp r ta tb):=by
 intro pins s σ H Q I h
 exact wpAny_BinOp (Zsj ha hb I h fun v u s2 x y H2 I2 rx ry q=>ho pins s2 σ H2 x y v u Q I2 rx ry q)
theorem Zln {op:UnaryOp}{r:V->Hp->VK->Prop} (ho:UnR X (unaryOp op) r) (ha:PE X a ta):PE X (.UnaryOp op a pos) (tUn r ta):=by
 intro pins s σ H Q I h
 exact UnaryOp_ (thn (ha pins s σ H _ I h) fun v s1 ⟨x,H1,I1,r1,q1⟩=>ho pins s1 σ H1 x v Q I1 r1 q1)
theorem opI {f:Value->Value->Sem Value}{C:Int->Int->Prop}{g:Int->Int->Int}
  (rule:∀(i j:Int) (t u:Tok) (s:Shared) (Q:Value->Shared->Prop) (E:Value->Shared->Prop),C i j->Q (.int (g i j) s.toks) { s with toks:=s.toks+1 }->wpAny (model X.prog X.w) X.A (f (.int i t) (.int j u)) Q E s) :
  OpR X f (rI C fun i j=>.int (g i j)):=by
 intro pins s σ H x y v u Q I rx ry h
 obtain⟨i,j,rfl,rfl,hc,q⟩:=h
 obtain⟨t,rfl⟩:=rx
 obtain⟨t',rfl⟩:=ry
 exact rule i j t t' s _ _ hc ⟨.int (g i j),H,I.tok _,⟨_,rfl⟩,q⟩
theorem Zs5 {f:Value->Value->Sem Value}{g:Int->Int->Int}
  (rule:∀(i j:Int) (t u:Tok) (s:Shared) (Q:Value->Shared->Prop) (E:Value->Shared->Prop),Q (.int (g i j) s.toks) { s with toks:=s.toks+1 }->wpAny (model X.prog X.w) X.A (f (.int i t) (.int j u)) Q E s) :
  OpR X f (rI0 fun i j=>.int (g i j)):=by
 intro pins s σ H x y v u Q I rx ry h
 obtain⟨i,j,rfl,rfl,q⟩:=h
 obtain⟨t,rfl⟩:=rx
 obtain⟨t',rfl⟩:=ry
 exact rule i j t t' s _ _ ⟨.int (g i j),H,I.tok _,⟨_,rfl⟩,q⟩
theorem Zr2 {f:Value->Value->Sem Value}{g:Int->Int->Bool}
  (rule:∀(i j:Int) (t u:Tok) (s:Shared) (Q:Value->Shared->Prop) (E:Value->Shared->Prop),Q (.bool (g i j)) s->wpAny (model X.prog X.w) X.A (f (.int i t) (.int j u)) Q E s) :
  OpR X f (rI0 fun i j=>.bl (g i j)):=by
 intro pins s σ H x y v u Q I rx ry h
 obtain⟨i,j,rfl,rfl,q⟩:=h
 obtain⟨t,rfl⟩:=rx
 obtain⟨t',rfl⟩:=ry
 exact rule i j t t' s _ _ ⟨.bl (g i j),H,I,rfl,q⟩
def ZpV (i j:Int):Prop:=0<=j/\j<=1000000/\i.natAbs<2^64
theorem VC:OpR X (binaryOp .Add) (rI0 fun i j=>.int (i+j)):=Zs5 fun _ _ _ _ _ _ _ q=>add_int q
theorem Va:OpR X (binaryOp .Sub) (rI0 fun i j=>.int (i-j)):=Zs5 fun _ _ _ _ _ _ _ q=>sub_int q
theorem Vb:OpR X (binaryOp .Mod) (rI (fun _ j=>0<j) fun i j=>.int (i%j)):=opI fun i j _ _ _ _ _ hc q=>by
 have h1:(0:Int)<j:=hc
 exact mod_int' (by omega) (by rw[Int.fmod_eq_emod_of_nonneg i (by omega)];exact q)
theorem Zob:OpR X (binaryOp .Pow) (rI ZpV fun i j=>.int (i^j.toNat)):=opI fun _ _ _ _ _ _ _ hc q=>pow_int_small hc.1 hc.2.1 hc.2.2 q
theorem unI {f:Value->Sem Value}{g:Int->Int}
  (rule:∀(i:Int) (t:Tok) (s:Shared) (Q:Value->Shared->Prop) (E:Value->Shared->Prop),Q (.int (g i) s.toks) { s with toks:=s.toks+1 }->wpAny (model X.prog X.w) X.A (f (.int i t)) Q E s) :
  UnR X f (rU fun i=>.int (g i)):=by
 intro pins s σ H x v Q I rx h
 obtain⟨i,rfl,q⟩:=h
 obtain⟨t,rfl⟩:=rx
 exact rule i t s _ _ ⟨.int (g i),H,I.tok _,⟨_,rfl⟩,q⟩
theorem ZgQ:UnR X (unaryOp .USub) (rU fun i=>.int (-i)):=unI fun _ _ _ _ _ q=>neg_int q
end
section
variable {X:Cx}{a b c:Expr}{ta tb tc:TE}{pos:Pos}
theorem Zoj {pins:List (Addr×Obj)}{σ:St}{H:Hp}{s:Shared}{Q:VK}{k k':Bool} (I:Inv X pins σ H s) (q:Q (.bl k) H) (e:k=k'):EP X pins σ Q (.bool k') s:=by
 subst e
 exact⟨.bl k,H,I,rfl,q⟩
theorem Zl1:OpR X (compareOp .Lt) (rI0 fun i j=>.bl (decide (i<j))):=Zr2 fun _ _ _ _ _ _ _ q=>lt_int q
theorem Zno:OpR X (compareOp .LtE) (rI0 fun i j=>.bl (decide (i<=j))):=Zr2 fun _ _ _ _ _ _ _ q=>le_int q
theorem ZbH:OpR X (compareOp .Gt) (rI0 fun i j=>.bl (decide (j<i))):=Zr2 fun _ _ _ _ _ _ _ q=>gt_int q
theorem Zq6:OpR X (compareOp .GtE) (rI0 fun i j=>.bl (decide (j<=i))):=Zr2 fun _ _ _ _ _ _ _ q=>ge_int q
theorem Zjt:OpR X (compareOp .Is) (fun x y H Q=>y=.non/\Q (.bl (decide (x=.non))) H):=by
 intro pins s σ H x y v u Q I rx ry h
 obtain⟨rfl,q⟩:=h
 cases ry
 refine is_none_gen (Zoj I q ?_)
 cases x<;>first
  |(cases rx;rfl)
  |(obtain⟨t,rfl⟩:=rx;rfl)
theorem Zpc:OpR X (compareOp .IsNot) (fun x y H Q=>y=.non/\Q (.bl (!decide (x=.non))) H):=by
 intro pins s σ H x y v u Q I rx ry h
 obtain⟨rfl,q⟩:=h
 cases ry
 refine isnot_none_gen (Zoj I q ?_)
 cases x<;>first
  |(cases rx;rfl)
  |(obtain⟨t,rfl⟩:=rx;rfl)
theorem Z8 (b:Expr) {op:CmpOp} (h:op≠.In:=by decide) (h2:op≠.NotIn:=by decide):behindInMarks op b=false:=by
 have e1:(op==CmpOp.In)=false:=by cases op<;>first|rfl|exact absurd rfl h
 have e2:(op==CmpOp.NotIn)=false:=by cases op<;>first|rfl|exact absurd rfl h2
 cases b<;>simp[behindInMarks,e1,e2]
theorem ZcL {op:CmpOp}{r:R2} (ho:OpR X (compareOp op) r) (ha:PE X a ta) (hb:PE X b tb) (hm:behindInMarks op b=false):PE X (.Compare a [op] [b] pos) (tOp r ta tb):=by
 intro pins s σ H Q I h
 exact wpAny_Compare1 (Zsj ha hb I h fun v u s2 x y H2 I2 rx ry q=>ho pins s2 σ H2 x y v u Q I2 rx ry q) hm
noncomputable def Zqa (t:TE):TT:=fun σ H Q=>t σ H fun x H'=>∃k,x=.bl k/\Q k H'
theorem Zu {op:CmpOp}{r:R2} (ho:OpR X (compareOp op) r) (ha:PE X a ta) (hb:PE X b tb) (hm:behindInMarks op b=false):PT X (.Compare a [op] [b] pos) (Zqa (tOp r ta tb)):=by
 intro pins s σ H Q I h
 refine wpAny_isTrue_Compare1 (thn (ha pins s σ H _ I h) fun v s1 ⟨x,H1,I1,r1,q1⟩=>thn (hb pins s1 σ H1 _ I1 q1) fun u s2 ⟨y,H2,I2,r2,q2⟩ =>
  thn (ho pins s2 σ H2 x y v u _ I2 r1 r2 q2) fun c s3 ⟨z,H3,I3,r3,k,e,q3⟩=>?_) hm
 subst e
 cases r3
 exact wpAny_truthy_bool ⟨H3,I3,q3⟩
theorem Zho:(sizeLine:Nat)<2^63:=by rw[sizeLine_eq];decide
theorem Zid {x:V}{us:List Value} (r:Wy [x] us):∃u,us=[u]/\U1 x u:=by
 cases r with
 |cons r1 r2=>cases r2;exact⟨_,rfl,r1⟩
theorem ZpX {x y:V}{us:List Value} (r:Wy [x,y] us):∃u w',us=[u,w']/\U1 x u/\U1 y w':=by
 cases r with
 |cons r1 r2 =>
  cases r2 with
  |cons r3 r4=>cases r4;exact⟨_,_,rfl,r1,r3⟩
end
section
variable {prog:Program}{w:World}{A:Around}{E:Value->Shared->Prop}{s:Shared}{K:W.Frag}{x dx C f:Addr}{mA:Str->Option Value}{name:Str}{v:Value}
end
section
variable {P:Program}{w:World}{H H':Hp}{h h':Heap}{a C dx:Addr}{fs fs':List (Str×V)}
end
structure Cls (K:PySem.W.Frag) (C:Addr):Prop where
 pg:PySem.W.plainGet K C Str.empty=true
 hd:PySem.W.hasDictIn K C=true
 po:PySem.W.plainOver K C=true
 sa:PySem.W.findIn K (.ref C) "__setattr__"=some (some (.builtin "object.__setattr__"))
section
variable {X:Cx}{pins:List (Addr×Obj)}{σ:St}{H:Hp}{s:Shared}{a C dx:Addr}{fs:List (Str×V)}{f:Str}{v:V}{A:Around}{E:Value->Shared->Prop}
end
section
variable {X:Cx}{o e value:Expr}{f:Str}{pos pos' tpos:Pos}{ta tv:TE}
end
section
variable {X:Cx}{pins:List (Addr×Obj)}{σ:St}{H:Hp}{s:Shared}{A:Around}{E:Value->Shared->Prop}{Q:Value->Shared->Prop}{c:Value}{b:Bool}
end
structure Zef (k:Nat) (A:Around):Prop where
 hd:A.handled=none
 dp:A.depth+3*k+5<recursionLimit
 un:A.units+16*k+200<cLine
theorem Zef.mono {j k:Nat}{A:Around} (r:Zef k A) (h:j<=k):Zef j A:=⟨r.hd,by have:=r.dp;omega,by have:=r.un;omega⟩
theorem Zef.deeper {k:Nat}{A:Around} (r:Zef (k+1) A) (env:Env):Zef k (A.deeper env):=
 ⟨r.hd,by have:=r.dp;show A.depth+1+3*k+5<_;omega,by have:=r.un;show A.units+3+16*k+200<_;omega⟩
theorem Zef.depth {k:Nat}{A:Around} (r:Zef k A):A.depth<recursionLimit:=by have:=r.dp;omega
theorem Zef.units {k:Nat}{A:Around} (r:Zef k A):A.units+64<cLine:=by have:=r.un;omega
noncomputable def ZiU:TA:=fun _ H Q=>Q [] H
noncomputable def ZdF (ta:TE) (tr:TA):TA:=fun σ H Q=>ta σ H fun x H1=>tr σ H1 fun xs H2=>Q (x::xs) H2
section
variable {X:Cx}{e:Expr}{es:List Expr}{te:TE}{t:TA}{pos:Pos}
theorem Zf:PA X [] ZiU:=fun _ _ _ _ H Q I h=>Calls.spliced_nil ⟨[],H,I,.nil,h⟩
theorem Zb (ha:PE X e te) (hr:PA X es t) (hs:starEach (e::es) X.env=(false,eval e X.env)::starEach es X.env:=by rfl):PA X (e::es) (ZdF te t):=by
 intro pos pins s σ H Q I h
 rw[hs]
 show wpAny _ _ (spliced ((false,eval e X.env)::backTo pos (starEach es X.env))) _ _ s
 refine Calls.spliced_cons (thn (ha pins s σ H _ I h) fun u s1 ⟨x,H1,I1,r1,q1⟩=>?_)
 exact thn (hr pos pins s1 σ H1 _ I1 q1) fun us s2 ⟨xs,H2,I2,r2,q2⟩=>⟨x::xs,H2,I2,.cons r1 r2,q2⟩
noncomputable def Zrw (t:TA):TE:=fun σ H Q=>t σ H fun xs H1=>xs.length<=sizeLine/\∀p,H1 p=none->Q (.ref p) (upd H1 p (.tup xs))
noncomputable def Zry (t:TA):TE:=fun σ H Q=>t σ H fun xs H1=>xs.length<=sizeLine/\∀p,H1 p=none->Q (.ref p) (upd H1 p (.lst xs))
theorem Zd4 {x1} (h:PA X es t):PE X (.Tuple es x1 pos) (Zrw t):=by
 intro pins s σ H Q I hq
 refine wpAny_Tuple_spliced (thn (h pos pins s σ H _ I hq) fun us s1 ⟨xs,H1,I1,r,z,q⟩=>⟨by rw[<- r.length];exact z, ?_⟩)
 have hf:H1 s1.heap.objs.size=none:=I1.hok.fresh (Ztj _)
 refine⟨.ref s1.heap.objs.size,upd H1 s1.heap.objs.size (.tup xs),I1.laid (t':=s1.toks) (fun b u e=>Heap.get?_push_of_some _ e) (Ztj _) ?_,rfl,q _ hf⟩
 exact⟨z,us,r,⟨_,Heap.get?_push_size _ rfl,rfl,_,rfl⟩⟩
theorem J8 (h:PA X es t):PE X (.List es pos) (Zry t):=by
 intro pins s σ H Q I hq
 refine wpAny_List_spliced (thn (h pos pins s σ H _ I hq) fun us s1 ⟨xs,H1,I1,r,z,q⟩=>⟨by rw[<- r.length];exact z, ?_⟩)
 have hf:H1 s1.heap.objs.size=none:=I1.hok.fresh (Ztj _)
 refine⟨.ref s1.heap.objs.size,upd H1 s1.heap.objs.size (.lst xs),I1.laid (t':=s1.toks) (fun b u e=>Heap.get?_push_of_some _ e) (Ztj _) ?_,rfl,q _ hf⟩
 exact⟨z,us,0,r,Heap.get?_push_size _ rfl⟩
end
noncomputable abbrev Sp:=List V->Hp->VK->XK->Prop
noncomputable abbrev CXT:=List Env->Hp->Shared->XK->Value->Shared->Prop
structure ZrA (P:Program) (w:World) (K:PySem.W.Frag) (mg:Str->Option Value) (base:Heap) (A:Around) (outer:List Env) (s:Shared) (H:Hp):Prop where
 frames:A.frames=some outer
 mod:Mod K mg base
 bs:∀b o,base.get? b=some o->s.heap.get? b=some o/\H b=none
 bsz:base.objs.size<=s.heap.objs.size
 funs:s.heap.FunFrames base outer
 frf:∀b∈frs outer,H b=none
 hok:HOk P w H s.heap
 bare:AllBare s.gens
def CE (outer:List Env) (P:Program) (w:World) (H:Hp) (s:Shared) (Q:VK) (u:Value) (s':Shared):Prop:=
 ∃v H',s'.os=s.os/\AllBare s'.gens/\Un (frs outer) [] H H' s.heap s'.heap/\HOk P w H' s'.heap/\U1 v u/\Q v H'
def CR (CX:CXT) (outer:List Env) (P:Program) (w:World) (H:Hp) (s:Shared) (Q:VK) (E:XK) (r:Result) (s':Shared):Prop:=
 match r with
 |.ok (.ret u)=>CE outer P w H s Q u s'
 |.ok _=>False
 |.error e=>CX outer H s E e s'
structure Vi (P:Program) (w:World) (K:PySem.W.Frag) (mg:Str->Option Value) (base:Heap) (CX:CXT) (k:Nat) (f:Addr) (fd:FuncData) (ps:List Str) (sp:Sp):Prop where
 len:∀vs H Q E,sp vs H Q E->vs.length=ps.length
 run:∀(A:Around) (outer:List Env) (s:Shared) (H:Hp) (args:Args) (us:List Value) (vs:List V) (Q:VK) (E:XK),Zef k A->ZrA P w K mg base A outer s H->BindsTo s fd args (ps.zip us)->Wy vs us->sp vs H Q E ->
  codeAny (model P w) A (.call (.ref f) args) (CR CX outer P w H s Q E) s
section
variable {X:Cx}{pins:List (Addr×Obj)}{σ:St}{H:Hp}{s s':Shared}
theorem Inv.env0 (I:Inv X pins σ H s):ZrA X.prog X.w X.K X.mg X.base X.A X.stack s H:=
 ⟨I.ok.frames,I.ok.mod,I.bs,Zt5 I.ok.bsz I.sz,I.stack,I.stkFree,I.hok,I.bare⟩
theorem Inv.after {Q:VK}{u:Value} (I:Inv X pins σ H s) (h:CE X.stack X.prog X.w H s Q u s'):EP X pins σ Q u s':=by
 obtain⟨v,H',os,bare,un,hok,r,q⟩:=h
 obtain⟨hh,g,d,t,os'⟩:=s'
 obtain rfl:os'=s.os:=os
 exact⟨v,H',I.call (h':=hh) (g':=g) (d':=d) (t':=t) (ch:=[]) un hok bare (fun b z=>absurd z (by simp)),r,q⟩
end
noncomputable def Zqe (sp:Sp) (dvs:List V) (E:XK) (t:TA):TE:=fun σ H Q=>t σ H fun vs H1=>sp (vs++dvs) H1 Q E
def ZhU (K:W.Frag) (fd:FuncData) (ps:List Str) (ds:List Value):Prop:=
 ∀(s:Shared) (us:List Value),K.In s.heap->(us++ds).length=ps.length->BindsTo s fd ⟨us,[]⟩ (ps.zip (us++ds))
theorem ZhU.all {K:W.Frag}{fd:FuncData}{ps:List Str} (h:∀us:List Value,us.length=ps.length->bindArgs fd ⟨us,[]⟩=pure (ps.zip us)):ZhU K fd ps []:=fun s us _ hl=>by
 rw[Zub] at hl ⊢
 exact .of_eq (h us hl)
def ZjL (CX:CXT) (X:Cx) (E:XK):Prop:=∀(pins:List (Addr×Obj)) (σ:St) (H:Hp) (s:Shared) (e:Value) (s':Shared),Inv X pins σ H s->CX X.stack H s E e s'->X.xe e s'
section
variable {X:Cx}{CX:CXT}{k:Nat}{f C:Addr}{fd:FuncData}{ps:List Str}{sp:Sp}{dvs:List V}{ds:List Value}{E:XK}{x m:Str}{p pos apos:Pos}{e o:Expr}{es:List Expr}{ta:TE}{t:TA}
theorem ZnV {pins:List (Addr×Obj)}{σ:St}{H:Hp}{s:Shared}{Q:VK}{us:List Value}{vs:List V} (F:Vi X.prog X.w X.K X.mg X.base CX k f fd ps sp) (hr:Zef k X.A) (hb:ZhU X.K fd ps ds) (hd:Wy dvs ds) (hx:ZjL CX X E)
  (I:Inv X pins σ H s) (r:Wy vs us) (h:sp (vs++dvs) H Q E):wpAny (model X.prog X.w) X.A (call (.ref f) us) (EP X pins σ Q) X.xe s:=by
 have r2:Wy (vs++dvs) (us++ds):=r.append hd
 have hl:(us++ds).length=ps.length:=by rw[<- r2.length];exact F.len _ _ _ _ h
 refine wpAny_call (codeAny_mono (F.run X.A X.stack s H ⟨us,[]⟩ (us++ds) (vs++dvs) Q E hr I.env0 (hb s us I.kIn hl) r2 h) fun r s' hq=>?_)
 cases r with
 |error e=>exact hx pins σ H s e s' I hq
 |ok fl =>
  cases fl with
  |ret u=>exact I.after hq
  |next=>exact False.elim hq
  |brk=>exact False.elim hq
  |cont=>exact False.elim hq
theorem ZoL (F:Vi X.prog X.w X.K X.mg X.base CX k f fd ps sp) (hr:Zef k X.A) (hg:Gl X x) (hm:X.mg x=some (.ref f)) (hk:PySem.W.keepIn X.K (.ref f)=true) (hb:ZhU X.K fd ps ds) (hd:Wy dvs ds) (hx:ZjL CX X E)
  (ha:PA X (e::es) t) (hdb:(x==("__debug__":Str))=false:=by decide) (he:starEach (e::es) X.env=(false,eval e X.env)::starEach es X.env:=by rfl) (hpl:(backTo pos (starEach es X.env)).any (·.1)=false:=by rfl) :
  PE X (.Call (.Name x p) (e::es) [] pos) (Zqe sp dvs E t):=by
 intro pins s σ H Q I h
 refine wpAny_Call_Name_kw (Ze0 I hg hm ?_ hdb)
 refine PySem.W.callWith_K (h₀:=X.base) I.ok.mod.kin hk (thn (ha pos pins s σ H _ I h) fun us s1 ⟨vs,H1,I1,r,q⟩=>⟨I1.kIn, ?_⟩) he hpl
 exact ZnV F hr hb hd hx I1 r q
theorem ZmP (F:Vi X.prog X.w X.K X.mg X.base CX k f fd ps sp) (hr:Zef k X.A) (hg:Gl X x) (hm:X.mg x=some (.ref f)) (hk:PySem.W.keepIn X.K (.ref f)=true) (hb:ZhU X.K fd ps ds) (hd:Wy dvs ds) (hx:ZjL CX X E)
  (hdb:(x==("__debug__":Str))=false:=by decide):PE X (.Call (.Name x p) [] [] pos) (Zqe sp dvs E ZiU):=by
 intro pins s σ H Q I h
 refine wpAny_Call_Name_kw (Ze0 I hg hm ?_ hdb)
 exact PySem.W.callWith_K0 I.kIn hk (ZnV (us:=[]) F hr hb hd hx I .nil h)
end
section
variable {X:Cx}{CX:CXT}{k:Nat}{f C:Addr}{fd:FuncData}{ps ks:List Str}{sp:Sp}{E:XK}{x m:Str}{p pos apos kpos:Pos}{e o:Expr}{es:List Expr}{kws:List Keyword}{te ta:TE}{t tk:TA}{nm:Option Str}
variable {g:List Value->List Value->List Value}{gV:List V->List V->List V}
end
structure Zx (N P:List Str) (sc:Scope):Prop where
 kind:sc.kind=.function
 co:sc.isCoroutine=false
 gen:sc.isGenerator=false
 nd:N.Nodup
 pre:N.take P.length=P
 par:∀x∈P,sc.names.lookup x=some .local\/sc.names.lookup x=some .cell
 nofree:∀y∈sc.names,y.2≠.free
theorem ZhN {kindOf:Str->Option NameKind}{x:Str}:∀{binds:List (Str×Value)}{m:Str->Option Value},(∀v,(x,v) ∉ binds)->bindL kindOf binds m x=m x
 |[],_,_=>rfl
 |(n,v)::r,m,h=>by
  unfold bindL
  rw[ZhN fun w hw=>h w (ZtF _ hw)]
  split
  ·have:x≠n:=by rintro rfl;exact h v ZuJ
   simp[this]
  ·rfl
theorem ZhP {kindOf:Str->Option NameKind}{x:Str}:∀{binds:List (Str×Value)}{m:Str->Option Value},(∀v,(x,v) ∉ binds)->bindC kindOf binds m x=m x
 |[],_,_=>rfl
 |(n,v)::r,m,h=>by
  unfold bindC
  rw[ZhP fun w hw=>h w (ZtF _ hw)]
  split
  ·rfl
  ·have:x≠n:=by rintro rfl;exact h v ZuJ
   simp[this]
theorem ZhO {kindOf:Str->Option NameKind}{x:Str}{v:Value}:∀{P:List Str}{vs:List Value}{i:Nat}{m:Str->Option Value},P.Nodup->P[i]?=some x->vs[i]?=some v->kindOf x=some .local ->
  bindL kindOf (P.zip vs) m x=some v
 |[],_,_,_,_,h,_,_=>by simp at h
 |_::_,[],_,_,_,_,h,_=>by simp at h
 |p::P,w::vs,0,m,nd,h1,h2,hk=>by
  simp at h1 h2;subst h1;subst h2
  show bindL kindOf ((p,w)::P.zip vs) m p=_
  unfold bindL
  rw[ZhN fun v hv=>(Zva.mp nd).1 (Zvu hv).1,if_pos hk]
  simp
 |p::P,w::vs,i+1,m,nd,h1,h2,hk=>by
  show bindL kindOf ((p,w)::P.zip vs) m x=_
  unfold bindL
  exact ZhO (i:=i) (Zva.mp nd).2 (by simpa using h1) (by simpa using h2) hk
theorem ZhQ {kindOf:Str->Option NameKind}{x:Str}{v:Value}:∀{P:List Str}{vs:List Value}{i:Nat}{m:Str->Option Value},P.Nodup->P[i]?=some x->vs[i]?=some v->kindOf x≠some .local ->
  bindC kindOf (P.zip vs) m x=some v
 |[],_,_,_,_,h,_,_=>by simp at h
 |_::_,[],_,_,_,_,h,_=>by simp at h
 |p::P,w::vs,0,m,nd,h1,h2,hk=>by
  simp at h1 h2;subst h1;subst h2
  show bindC kindOf ((p,w)::P.zip vs) m p=_
  unfold bindC
  rw[ZhP fun v hv=>(Zva.mp nd).1 (Zvu hv).1,if_neg hk]
  simp
 |p::P,w::vs,i+1,m,nd,h1,h2,hk=>by
  show bindC kindOf ((p,w)::P.zip vs) m x=_
  unfold bindC
  exact ZhQ (i:=i) (Zva.mp nd).2 (by simpa using h1) (by simpa using h2) hk
noncomputable def ZdG (N:List Str) (vs:List V):St:=vs.map some++List.replicate (N.length-vs.length) none
noncomputable def ZhY (CX:CXT) (P:Program) (w:World) (K:W.Frag) (mg:Str->Option Value) (base:Heap) (N:List Str) (qual:Str) (scope:Scope) (f:Addr) (cd:Value) (A:Around) (outer:List Env) (s:Shared) (H:Hp) (E:XK):Cx where
 prog:=P
 w:=w
 K:=K
 mg:=mg
 base:=base
 A:=A.deeper (envOfC qual scope s.heap.objs.size f cd)
 N:=N
 s₀:=s
 H₀:=H
 env:=envOfC qual scope s.heap.objs.size f cd
 outer:=outer
 stack:=envOfC qual scope s.heap.objs.size f cd::outer
 ex:=[]
 calm:=true
 fn:=fun _=>true
 pn:=[]
 xe:=fun e s'=>wpAny (model P w) (A.deeper (envOfC qual scope s.heap.objs.size f cd)) (leaving (envOfC qual scope s.heap.objs.size f cd) e) (fun _ s''=>CX outer H s E e s'') (fun e' s''=>CX outer H s E e' s'') s'
theorem ZjJ {sc:Scope}{n:Nat}{x:Str} (h:sc.names.lookup x=some .cell):∃c,(cellsFrom n sc.names []).lookup x=some c:=by
 have q:=PySem.W.cellsFrom_some sc.names n [] (.inl h)
 exact Option.isSome_iff_exists.mp q
theorem ZlS {CX:CXT}{P:Program}{w:World}{K:W.Frag}{mg:Str->Option Value}{base:Heap}{N ps:List Str}{qual:Str}{scope:Scope}{f:Addr}{cd:Value}{A:Around}{outer:List Env}{s s1:Shared}{H:Hp}{E:XK}{us:List Value}{vs:List V}
  (S:Zx N ps scope) (hd:A.handled=none) (e0:ZrA P w K mg base A outer s H) (hl:vs.length=ps.length) (r:Wy vs us)
  (x:InCallC s s.heap.objs.size (bindL (envOfC qual scope s.heap.objs.size f cd).kindOf (ps.zip us) fun _=>none) (cellsFrom (s.heap.objs.size+1) scope.names []) (bindC (envOfC qual scope s.heap.objs.size f cd).kindOf (ps.zip us) fun _=>none) s1) :
  Inv (ZhY CX P w K mg base N qual scope f cd A outer s H E) [] (ZdG N vs) H s1:=by
 have hpl:ps.length<=N.length:=by have:=congrArg List.length S.pre;rw[Zt7] at this;omega
 obtain⟨h1,tk,rfl,hk⟩:=x.done
 have noA:∀b:Addr,b ∉ (ZhY CX P w K mg base N qual scope f cd A outer s H E).ex:=fun b z=>absurd (show b∈([]:List Addr) from z) (by simp)
 refine⟨⟨e0.mod,S.kind,rfl,rfl,Ztj _,fun y z c h1 h2=>?_,fun y hy=>?_,fun y c _ h=>?_,fun _=>hd,Around.frames_deeper e0.frames,.inr ⟨rfl,rfl⟩,fun b z=>absurd z (noA b),e0.bs,e0.bsz,fun b _ _=>noA b,fun b z=>absurd z (noA b),e0.funs,e0.frf⟩,
  rfl,e0.bare,Un.kept hk,⟨_,x.toInCall.ns,fun i y v h1 h2 h3=>?_⟩,fun y c h=>⟨_,x.cell y c h⟩,e0.hok.fresh (Ztj _),fun y c h=>?_,fun p hp=>absurd (show p∈([]:List (Addr×Obj)) from hp) (by simp),e0.hok.kept hk, ?_⟩
 ·exact name_of_addr x.apart (PySem.mem_of_lookup h1) (PySem.mem_of_lookup h2)
 ·have hy:scope.names.lookup y=some .cell\/scope.names.lookup y=some .free:=hy
  rcases hy with hy|hy
  ·exact ZjJ hy
  ·exact absurd rfl (S.nofree _ (PySem.mem_of_lookup hy))
 ·exact Nat.le_of_lt (x.above y c (PySem.mem_of_lookup h))
 ·have hi:i<vs.length:=by
   unfold ZdG at h2
   by_cases hi:i<vs.length
   ·exact hi
   ·rw[Ztm (by simpa using hi)] at h2
    rw[Zun] at h2
    split at h2<;>cases h2
  have ha:vs[i]?=some v:=by
   unfold ZdG at h2
   rw[Ztl (by simpa using hi),Ztz] at h2
   cases e:vs[i]? with
   |none=>rw[e] at h2;cases h2
   |some a=>rw[e] at h2;cases h2;rfl
  obtain⟨u,hu,rv⟩:=r.get ha
  have hp:ps[i]?=some y:=by
   rw[<- S.pre,Zuw (by omega)];exact h1
  have ndP:ps.Nodup:=by rw[<- S.pre];exact S.nd.sublist (List.take_sublist _ _)
  refine⟨u,rv, ?_⟩
  rcases S.par y (Ztg hp) with k|k
  ·exact .inl ⟨k,ZhO ndP hp hu k⟩
  ·obtain⟨c,e⟩:=ZjJ (n:=s.heap.objs.size+1) k
   refine .inr ⟨.inl k,c,e, ?_⟩
   have q:=x.cell y c e
   rw[ZhQ ndP hp hu (by show scope.names.lookup y≠_;rw[k];decide)] at q
   exact q
 ·exact e0.hok.fresh (Nat.le_of_lt (x.above y c (PySem.mem_of_lookup h)))
 ·unfold ZdG
  show _=N.length
  rw[Zt8,Zto,Zut]
  omega
theorem ZqX {CX:CXT}{P:Program}{w:World}{K:W.Frag}{mg:Str->Option Value}{base:Heap}{k:Nat}{f:Addr}{name qual:Str}{params:Arguments}{body:List Stmt}{scope:Scope}{dV kV doc pm cdv ct oc:Value}{an od:Option Addr}
  {osl:Array (Option Value)}{N ps:List Str}{sp:Sp} (lk:K.lookup f=some ⟨oc,od,.func (PySem.W.fnOf name qual params body scope dV kV doc pm an cdv ct),osl⟩) (hcd:PySem.W.codeIn K cdv qual=true) (S:Zx N ps scope)
  (len:∀vs H Q E,sp vs H Q E->vs.length=ps.length)
  (hbody:∀(A:Around) (outer:List Env) (s:Shared) (H:Hp) (vs:List V) (Q:VK) (E:XK),Zef k (A.deeper (envOfC qual scope s.heap.objs.size f cdv))->sp vs H Q E ->
   ∃t,PSs (ZhY CX P w K mg base N qual scope f cdv A outer s H E) body t/\t { nx:=fun _ H'=>Q .non H',rt:=Q } (ZdG N vs) H) :
  Vi P w K mg base CX (k+1) f (PySem.W.fnOf name qual params body scope dV kV doc pm an cdv ct) ps sp:=by
 refine⟨len,fun A outer s H args us vs Q E hr e0 hb r hsp=>?_⟩
 have hl:=len _ _ _ _ hsp
 have KX:K.In s.heap:=e0.mod.kin.keeps fun b o e=>(e0.bs b o e).1
 have lim:s.heap.NoLimit:=e0.mod.nolimit.keeps fun b o e=>(e0.bs b o e).1
 have hkind:∀y∈ps.zip us,scope.names.lookup y.1=some .local\/(scope.names.lookup y.1=some .cell/\((cellsFrom (s.heap.objs.size+1) scope.names []).lookup y.1).isSome=true):=fun⟨n,v⟩ hy=>by
  rcases S.par n (Zvu hy).1 with q|q
  ·exact .inl q
  ·exact .inr ⟨q,PySem.W.cellsFrom_some _ _ _ (.inl q)⟩
 refine codeAny_call_function hr.depth (KX _ _ lk) rfl S.co S.gen rfl (PySem.W.codeRec_of KX hcd) (hb _ _ _ _ ?_)
 refine wpAny_newFunctionEnv_cells S.kind hkind fun env he s1 x=>?_
 subst he
 refine⟨lim.keeps x.toInCall.keep,codeAny_func ?_⟩
 obtain⟨t,ht,hq⟩:=hbody A outer s H vs Q E (hr.deeper _) hsp
 have I:Inv (ZhY CX P w K mg base N qual scope f cdv A outer s H E) [] (ZdG N vs) H s1:=ZlS S hr.hd e0 hl r x
 refine wpAny_mono (ht [] s1 (ZdG N vs) H _ I hq) (fun fl s' hs=>?_) fun e s' hs=>hs
 have fin:∀{σ':St}{H':Hp}{v:V}{u:Value},Inv (ZhY CX P w K mg base N qual scope f cdv A outer s H E) [] σ' H' s'->U1 v u->Q v H'->CE outer P w H s Q u s':=
  fun {σ' H' v u} J rv q=>⟨v,H',J.os,J.bare,J.base,J.hok,rv,q⟩
 cases fl with
 |ret u =>
  obtain⟨v,σ',H',J,rv,q⟩:=hs
  exact fin J rv q
 |next =>
  obtain⟨σ',H',J,q⟩:=hs
  exact fin (v:=V.non) (u:=Value.none) J rfl q
 |brk =>
  obtain⟨_,_,_,q⟩:=hs
  exact False.elim q
 |cont =>
  obtain⟨_,_,_,q⟩:=hs
  exact False.elim q
section
variable {X:Cx}{x:Str}{p pos:Pos}{e:Expr}{es:List Expr}{t:TA}{id T:String}{r:List V->Hp->VK->Prop}
noncomputable def tCB (r:List V->Hp->VK->Prop) (t:TA):TE:=fun σ H Q=>t σ H fun vs H1=>r vs H1 Q
theorem Zr (hc:QD X (.builtin id) r) (hg:Gl X x) (hm:X.mg x=none) (hv:bootBuiltins x=some (.builtin id)) (ha:PA X (e::es) t) (hn:x ≠ "__name__":=by decide) (hdb:(x==("__debug__":Str))=false:=by decide)
  (he:starEach (e::es) X.env=(false,eval e X.env)::starEach es X.env:=by rfl) (hpl:(backTo pos (starEach es X.env)).any (·.1)=false:=by rfl):PE X (.Call (.Name x p) (e::es) [] pos) (tCB r t):=by
 intro pins s σ H Q I h
 refine wpAny_Call_Name_kw (ZfJ I hg hm hv ?_ hn hdb)
 exact PyProof.Rows.callWith_builtin1 (thn (ha pos pins s σ H _ I h) fun us s1 ⟨vs,H1,I1,r1,q1⟩=>hc pins s1 σ H1 vs us Q I1 r1 q1) he hpl
theorem Wl (hc:QD X (.type T) r) (hg:Gl X x) (hm:X.mg x=none) (hv:bootBuiltins x=some (.type T)) (ha:PA X (e::es) t) (hn:x ≠ "__name__":=by decide) (hdb:(x==("__debug__":Str))=false:=by decide)
  (he:starEach (e::es) X.env=(false,eval e X.env)::starEach es X.env:=by rfl) (hpl:(backTo pos (starEach es X.env)).any (·.1)=false:=by rfl):PE X (.Call (.Name x p) (e::es) [] pos) (tCB r t):=by
 intro pins s σ H Q I h
 refine wpAny_Call_Name_kw (ZfJ I hg hm hv ?_ hn hdb)
 exact PyProof.Rows.callWith_type1 (thn (ha pos pins s σ H _ I h) fun us s1 ⟨vs,H1,I1,r1,q1⟩=>hc pins s1 σ H1 vs us Q I1 r1 q1) he hpl
end
end L2
namespace HT
open PySem PyProof.Rows
noncomputable def Ye:List Int->List Int->Bool
 |[],[]=>false
 |[],_::_=>true
 |_::_,[]=>false
 |x::xs,y::ys=>if x=y then Ye xs ys else decide (x<y)
theorem JB (x y:Int) (xs ys:List Int):Ye (x::xs) (y::ys)=if x=y then Ye xs ys else decide (x<y):=rfl
theorem Zgr:Ye [] []=false:=rfl
theorem Zfn (y:Int) (ys:List Int):Ye [] (y::ys)=true:=rfl
theorem Zfo (x:Int) (xs:List Int):Ye (x::xs) []=false:=rfl
theorem Zj9 (A:Around) (s:Shared) (a:Int) (t:Tok) (c:Int) (u:Tok):∃e,SeqAt.EqAt A s (.int a t) (.int c u) e/\(e=true ↔ a=c):=
 ⟨(a==c),SeqAt.EqAt.int_int a t c u,by simp⟩
theorem Zji (A:Around) (s:Shared) (a:Int) (t:Tok) (c:Int) (u:Tok) (prog:Program) (w:World) (E:Value->Shared->Prop) (Q:Value->Shared->Prop) (h:Q (.bool (decide (a<c))) s) :
  wpAny (model prog w) A (richCompare .Lt (.int a t) (.int c u)) Q E s:=
 (PyProof.Rows.lt_int h:wpAny (model prog w) A (compareOp .Lt (.int a t) (.int c u)) Q E s)
section
open PySem.SeqAt
open PySem.AutoSeq1 (wpAny_loadPart')
open PySem.MeetsSeq PySem.MeetsSeq2 PySem.MeetsSeq3
end
section
variable {prog:Program}{w:World}{A:Around}{E:Value->Shared->Prop}{s:Shared}
noncomputable def sIx (n d:Nat):Option Int->Nat
 |none=>d
 |some v=>if v<0 then (v+(n:Int)).toNat else min v.toNat n
end
end HT
namespace L2
open PySem PySem.Spec PyProof.Rows
noncomputable abbrev TO:=St->Hp->(Option Int->Hp->Prop)->Prop
def PO (X:Cx) (e:Option Expr) (t:TO):Prop:=
 ∀(pins:List (Addr×Obj)) (s:Shared) (σ:St) (H:Hp) (Q:Option Int->Hp->Prop),Inv X pins σ H s->t σ H Q ->
  wpAny (model X.prog X.w) X.A (evalPart e X.env) (fun u s'=>∃o H',Inv X pins σ H' s'/\IsPart u o/\Q o H') X.xe s
noncomputable def ZkN:TO:=fun _ H Q=>Q none H
noncomputable def Zqb (t:TE):TO:=fun σ H Q=>t σ H fun x H1=>∃i,x=.int i/\Q (some i) H1
theorem U0 {ns:List Int}:∀{us:List Value},Wy (ns.map V.int) us->IntsAre us ns:=by
 induction ns with
 |nil=>intro us r;rw[ZtK] at r;cases r;exact .nil
 |cons n ns ih =>
  intro us r
  rw[Ztv] at r
  cases r with
  |cons r1 r2 =>
   obtain⟨t,e⟩:=r1
   subst e
   exact .cons n t (ih r2)
section
variable {X:Cx}{e:Expr}{te:TE}{lo hi:Option Expr}{tl th:TO}{pos p2:Pos}
theorem Zlk:PO X none ZkN:=by
 intro pins s σ H Q I h
 rw[evalPart_none]
 exact wpAny_pure ⟨none,H,I,.none,h⟩
theorem Zlj (h:PE X e te):PO X (some e) (Zqb te):=by
 intro pins s σ H Q I hw
 rw[evalPart_some]
 refine thn (h pins s σ H _ I hw) fun u s1 ⟨x,H1,I1,r1,q1⟩=>?_
 obtain⟨i,rfl,q⟩:=q1
 obtain⟨t,rfl⟩:=r1
 exact⟨some i,H1,I1,.int i t,q⟩
def SlR (X:Cx) (r:V->Option Int->Option Int->Hp->VK->Prop):Prop:=
 ∀(pins:List (Addr×Obj)) (s:Shared) (σ:St) (H:Hp) (x:V) (v vl vu:Value) (lo hi:Option Int) (sl:Addr) (Q:VK),Inv X pins σ H s->U1 x v->s.heap.IsSliceOf sl vl vu .none->IsPart vl lo->IsPart vu hi->r x lo hi H Q ->
  ∃T id,typeLookup (.type T) "__getitem__"=pure (some (.builtin id))/\s.TypeIs v T/\wpAny (model X.prog X.w) X.A (getItem v (.ref sl)) (EP X pins σ Q) X.xe s
noncomputable def tSl (r:V->Option Int->Option Int->Hp->VK->Prop) (te:TE) (tl th:TO):TE:=fun σ H Q=>te σ H fun x H1=>tl σ H1 fun l H2=>th σ H2 fun u H3=>r x l u H3 Q
theorem Zjl {r:V->Option Int->Option Int->Hp->VK->Prop} (hr:SlR X r) (he:PE X e te) (hl:PO X lo tl) (hu:PO X hi th):PE X (.Subscript e (.Slice lo hi none p2) pos) (tSl r te tl th):=by
 intro pins s σ H Q I h
 refine Subscript_ (thn (he pins s σ H _ I h) fun v s1 ⟨x,H1,I1,r1,q1⟩=>?_)
 refine wpAny_Slice (thn (hl pins s1 σ H1 _ I1 q1) fun vl s2 ⟨l,H2,I2,pl,q2⟩=>thn (hu pins s2 σ H2 _ I2 q2) fun vu s3 ⟨u,H3,I3,pu,q3⟩=>?_)
 rw[evalPart_none]
 refine wpAny_pure ?_
 have I4:Inv X pins σ H3 { s3 with heap:=s3.heap.push { cls:=.type "slice",data:=.fields #[vl,vu,.none] } }:=I3.kept (t':=s3.toks) fun b ob q=>Heap.get?_push_of_some _ q
 obtain⟨T,id,hT,ht,hg⟩:=hr pins { s3 with heap:=s3.heap.push { cls:=.type "slice",data:=.fields #[vl,vu,.none] } } σ H3 x v vl vu l u s3.heap.objs.size Q I4 r1 (Heap.IsSliceOf.new ..) pl pu q3
 show wpAny (model X.prog X.w) X.A (subscriptTail e (.Slice lo hi none p2) v (.ref s3.heap.objs.size)) (EP X pins σ Q) X.xe { s3 with heap:=s3.heap.push { cls:=.type "slice",data:=.fields #[vl,vu,.none] } }
 exact tail_any (ops:=[.ref s3.heap.objs.size,v]) ht hT hg (by with_unfolding_all rfl)
noncomputable def ZpS (xs:List V) (lo hi:Option Int):List V:=(xs.drop (HT.sIx xs.length 0 lo)).take (HT.sIx xs.length xs.length hi-HT.sIx xs.length 0 lo)
theorem Zi7 (xs:List V) (lo hi:Option Int):(ZpS xs lo hi).length<=xs.length:=by
 unfold ZpS
 rw[Zt7,ZtR]
 omega
end
noncomputable def ixN (n:Nat) (i:Int):Option Nat:=if 0<=i then (if i<n then some i.toNat else none) else if -(n:Int)<=i then some (i+n).toNat else none
noncomputable def atI {α:Type} (xs:List α) (i:Int):Option α:=(ixN xs.length i).bind fun j=>xs[j]?
theorem ZlO {n:Nat}{i:Int}{j:Nat} (h:ixN n i=some j):seqIndex? i n=some j/\j<n/\-(n:Int)<=i/\i<n:=by
 unfold ixN at h
 by_cases h0:0<=i
 ·rw[if_pos h0] at h
  by_cases h1:i<n
  ·rw[if_pos h1] at h
   have e:i.toNat=j:=Option.some.inj h
   exact⟨by rw[seqIndex_of h0 h1,e],by omega,by omega,h1⟩
  ·rw[if_neg h1] at h;cases h
 ·rw[if_neg h0] at h
  by_cases h1:-(n:Int)<=i
  ·rw[if_pos h1] at h
   have e:(i+n).toNat=j:=Option.some.inj h
   exact⟨by rw[seqIndex_neg (by omega) h1,e],by omega,h1,by omega⟩
  ·rw[if_neg h1] at h;cases h
theorem ZiH {α:Type}{xs:List α}{i:Int}{v:α} (h:atI xs i=some v):∃j,seqIndex? i xs.length=some j/\xs[j]?=some v/\j<xs.length/\-(xs.length:Int)<=i/\i<xs.length:=by
 unfold atI at h
 cases e:ixN xs.length i with
 |none=>rw[e] at h;cases h
 |some j =>
  rw[e] at h
  obtain⟨h1,h2,h3,h4⟩:=ZlO e
  exact⟨j,h1,h,h2,h3,h4⟩
def ZpN (b:Expr):Prop:=∀o i,subscripted b false o i=operate [o,i] (getItem o i)
def IxR (X:Cx) (r:R2):Prop:=
 ∀(value slice:Expr) (pins:List (Addr×Obj)) (s:Shared) (σ:St) (H:Hp) (x y:V) (v u:Value) (Q:VK),Inv X pins σ H s->U1 x v->U1 y u->r x y H Q ->
  subscripted slice false v u=operate [v,u] (getItem v u)->wpAny (model X.prog X.w) X.A (subscriptTail value slice v u) (EP X pins σ Q) X.xe s
def MtR (X:Cx) (id:String) (r:V->List V->Hp->VK->Prop):Prop:=
 ∀(pins:List (Addr×Obj)) (s:Shared) (σ:St) (H:Hp) (x:V) (xs:List V) (v:Value) (us:List Value) (Q:VK),Inv X pins σ H s->U1 x v->Wy xs us->r x xs H Q ->
  wpAny (model X.prog X.w) X.A (call (.builtin id) (v::us)) (EP X pins σ Q) X.xe s
section
variable {X:Cx}{a b:Expr}{ta tb:TE}{pos:Pos}
theorem IxR.or {r r':R2} (h:IxR X r) (h':IxR X r'):IxR X (fun x y H Q=>r x y H Q\/r' x y H Q):=by
 intro value slice pins s σ H x y v u Q I rx ry q hs
 rcases q with q|q
 ·exact h value slice pins s σ H x y v u Q I rx ry q hs
 ·exact h' value slice pins s σ H x y v u Q I rx ry q hs
theorem WD {r:R2} (hr:IxR X r) (ha:PE X a ta) (hb:PE X b tb) (hs:ZpN b):PE X (.Subscript a b pos) (tOp r ta tb):=by
 intro pins s σ H Q I h
 exact Subscript_ (Zsj ha hb I h fun v u s2 x y H2 I2 rx ry q=>hr a b pins s2 σ H2 x y v u Q I2 rx ry q (hs _ _))
noncomputable def Zsz (K:W.Frag):R2:=fun x y H Q=>∃p xs i v,x=.ref p/\y=.int i/\SqL K H p xs/\atI xs i=some v/\Q v H
noncomputable def Zsx (K:W.Frag):R2:=fun x y H Q=>∃p xs i v,x=.ref p/\y=.int i/\SqT K H p xs/\atI xs i=some v/\Q v H
noncomputable def Zsy:R2:=fun x y H Q=>∃z i c,x=.str z/\y=.int i/\z.length<=sizeLine/\atI z.cps.toList i=some c/\Q (.str ⟨#[c]⟩) H
theorem Zpk:IxR X (Zsz X.K):=by
 intro value slice pins s σ H x y v u Q I rx ry h hs
 obtain⟨p,xs,i,z,rfl,rfl,hq,he,q⟩:=h
 cases rx
 obtain⟨t,rfl⟩:=ry
 obtain⟨its,r,pl,hz⟩:=I.list hq
 obtain⟨j,h1,h2,h3,h4,h5⟩:=ZiH he
 obtain⟨w,ew,rw'⟩:=r.get h2
 have hl:=r.length
 have hn:=Zho
 have fin:EP X pins σ Q w s:=⟨z,H,I,rw',q⟩
 by_cases h0:0<=i
 ·have hj:i.toNat=j:=by
   rw[seqIndex_of h0 h5] at h1
   exact Option.some.inj h1
  exact item_listR pl.isList h0 (by omega) (by rw[hj];simpa using ew) fin hs
 ·have hj:(i+(its.toArray.size:Int)).toNat=j:=by
   rw[seqIndex_neg (by omega) h4] at h1
   rw[Ztp,<- hl]
   exact Option.some.inj h1
  exact subscriptTail_builtinR (x:=w) pl.isList.typeIs slot_list_getitem.lookup
   (wpAny_getItem_list_neg (Q:=fun r s'=>r=w/\EP X pins σ Q r s') pl.isList (by omega) (by rw[Ztp]<;>omega) (by omega) (by rw[hj];simpa using ew) ⟨rfl,fin⟩) hs
theorem ZqP:IxR X (Zsx X.K):=by
 intro value slice pins s σ H x y v u Q I rx ry h hs
 obtain⟨p,xs,i,z,rfl,rfl,hq,he,q⟩:=h
 cases rx
 obtain⟨t,rfl⟩:=ry
 obtain⟨its,r,pl,hz⟩:=I.tuple hq
 obtain⟨j,h1,h2,h3,h4,h5⟩:=ZiH he
 obtain⟨w,ew,rw'⟩:=r.get h2
 have hl:=r.length
 have hn:=Zho
 have fin:EP X pins σ Q w s:=⟨z,H,I,rw',q⟩
 exact subscriptTail_builtinR (x:=w) pl.typeIs slot_tuple_getitem.lookup
  (getItem_tuple (j:=j) (Q:=fun r s'=>r=w/\EP X pins σ Q r s') pl (by omega) (by omega) (by rw[Ztp,<- hl];exact h1) (by simpa using ew) ⟨rfl,fin⟩) hs
theorem ZqQ:IxR X Zsy:=by
 intro value slice pins s σ H x y v u Q I rx ry h hs
 obtain⟨z,i,c,rfl,rfl,hz,he,q⟩:=h
 obtain⟨t,rfl⟩:=rx
 obtain⟨t',rfl⟩:=ry
 obtain⟨j,h1,h2,h3,h4,h5⟩:=ZiH he
 have hl:z.cps.toList.length=z.length:=by simp[Str.length]
 rw[hl] at h1 h4 h5
 have hn:=Zho
 exact tail_any (typeIs_str s z t) slot_str_getitem.lookup (getItem_str (c:=c) (by
  have e1:decide (i < -(2^63:Int))=false:=decide_eq_false (by omega)
  have e2:decide (i ≥ 2^63)=false:=decide_eq_false (by omega)
  rw[e1,e2,Bool.or_false]) (by rw[h1];simpa using h2) ⟨.str ⟨#[c]⟩,H,I.tok _,⟨_,rfl⟩,q⟩) hs
noncomputable def rIx (K:W.Frag):R2:=fun x y H Q=>Zsz K x y H Q\/Zsx K x y H Q\/Zsy x y H Q
theorem ZqR:IxR X (rIx X.K):=Zpk.or (ZqP.or ZqQ)
theorem Zkh (its:List Value) (n j:Nat) (u:Value):Obj.mapSeq (·.setIfInBounds j u) { cls:=.type "list",data:=.seq its.toArray n }={ cls:=.type "list",data:=.seq (its.set j u).toArray n }:=by
 simp[Obj.mapSeq]
theorem Inv.lst {pins:List (Addr×Obj)}{σ:St}{H:Hp}{s:Shared}{p:Addr}{xs:List V} (I:Inv X pins σ H s) (h:H p=some (.lst xs)) :
  ∃(its:List Value) (n:Nat),Wy xs its/\s.heap.get? p=some { cls:=.type "list",data:=.seq its.toArray n }/\xs.length<=sizeLine:=by
 obtain⟨z,its,n,r,e⟩:=I.hok p _ h
 exact⟨its,n,r,e,z⟩
theorem Inv.lstUpd {pins:List (Addr×Obj)}{σ:St}{H:Hp}{s:Shared}{p:Addr}{xs ys:List V}{its its':List Value}{n n':Nat}{f:Obj->Obj} (I:Inv X pins σ H s) (h:H p=some (.lst xs))
  (ho:s.heap.get? p=some { cls:=.type "list",data:=.seq its.toArray n }) (hf:f { cls:=.type "list",data:=.seq its.toArray n }={ cls:=.type "list",data:=.seq its'.toArray n' }) (r:Wy ys its') (hz:ys.length<=sizeLine) (t:Nat) :
  Inv X pins σ (upd H p (.lst ys)) { s with heap:=s.heap.update p f,toks:=t }:=by
 have e:(s.heap.update p f).get? p=some { cls:=.type "list",data:=.seq its'.toArray n' }:=by
  rw[Heap.get?_update_self f ho (by rw[hf]<;>rfl),hf]
 refine I.write (x:=p) (e:=p) (by rw[h];trivial) (.inl rfl) (fun b u hb q=>(Heap.get?_update_other _ _ (Ne.symm hb)).trans q) ⟨_,e⟩ ?_
 exact⟨hz,its',n',r,e⟩
def Zqm:V->V->V->Hp->(Hp->Prop)->Prop:=fun o i v H Q=>∃p xs k j,o=.ref p/\i=.int k/\H p=some (.lst xs)/\ixN xs.length k=some j/\Q (upd H p (.lst (xs.set j v)))
theorem Zja:ZsD X Zqm:=by
 intro pins s σ H o i v ov iv u Q I ro ri rv h
 obtain⟨p,xs,k,j,rfl,rfl,hp,hj,q⟩:=h
 cases ro
 obtain⟨t,rfl⟩:=ri
 obtain⟨its,n,r,ho,hz⟩:=I.lst hp
 obtain⟨h1,h2,h3,h4⟩:=ZlO hj
 have hl:=r.length
 have hn:=Zho
 have I':Inv X pins σ (upd H p (.lst (xs.set j v))) { s with heap:=s.heap.update p (Obj.mapSeq (·.setIfInBounds j u)) }:=
  I.lstUpd hp ho (Zkh its n j u) (r.set rv j) (by rw[Zvb];exact hz) s.toks
 by_cases h0:0<=k
 ·have hk:k.toNat=j:=by
   rw[seqIndex_of h0 h4] at h1
   exact Option.some.inj h1
  exact PySem.W.ki_setAt ho h0 (by omega) (by rw[Ztp,<- hl];exact h4) (by rw[hk];exact⟨_,I',q⟩)
 ·have hk:(k+(its.toArray.size:Int)).toNat=j:=by
   rw[seqIndex_neg (by omega) h3] at h1
   rw[Ztp,<- hl]
   exact Option.some.inj h1
  exact PySem.W.ki_setBack ho (by omega) (by rw[Ztp,<- hl];exact h3) (by omega) (by rw[hk];exact⟨_,I',q⟩)
theorem ZgX (lo hi:Option Int) (n:Nat):(sliceBounds lo hi none n).1=((HT.sIx n 0 lo:Nat):Int)/\(sliceBounds lo hi none n).2.1=((HT.sIx n n hi:Nat):Int)/\(sliceBounds lo hi none n).2.2=1:=by
 refine⟨?_, ?_,rfl⟩
 ·cases lo with
  |none=>simp[sliceBounds,HT.sIx]
  |some i =>
   simp only[sliceBounds,HT.sIx,Option.getD_none,show (1:Int)>0 by decide,if_true]
   by_cases h:i<0
   ·simp only[h,if_true]<;>omega
   ·simp only[h,if_false]<;>omega
 ·cases hi with
  |none=>simp[sliceBounds,HT.sIx]
  |some i =>
   simp only[sliceBounds,HT.sIx,Option.getD_none,show (1:Int)>0 by decide,if_true]
   by_cases h:i<0
   ·simp only[h,if_true]<;>omega
   ·simp only[h,if_false]<;>omega
theorem Zgb (its:List Value) (lo hi:Option Int):slicePick its.toArray lo hi none=((its.drop (HT.sIx its.length 0 lo)).take (HT.sIx its.length its.length hi-HT.sIx its.length 0 lo)).toArray:=by
 obtain⟨h1,h2,h3⟩:=ZgX lo hi its.toArray.size
 unfold slicePick
 rw[h1,h2,h3]
 simp only[sliceRange_one,pick_run,Ztp]<;>rfl
def ZrJ (K:W.Frag):V->Option Int->Option Int->Hp->VK->Prop:=fun x lo hi H Q=>∃a xs,x=.ref a/\SqL K H a xs/\∀p,H p=none->Q (.ref p) (upd H p (.lst (ZpS xs lo hi)))
theorem ZoC:SlR X (ZrJ X.K):=by
 intro pins s σ H x v vl vu lo hi sl Q I rx hs pl pu h
 obtain⟨a,xs,rfl,hx,q⟩:=h
 cases rx
 obtain⟨its,r,ht,hz⟩:=I.list hx
 have hlen:=r.length
 refine⟨"list",_,slot_list_getitem.lookup,ht.isList.typeIs, ?_⟩
 refine wpAny_getItem_list_slice ht.isList hs pl pu .none (by simp) ?_ (by rw[Ztp]<;>omega)
 rw[Zgb,<- hlen]
 refine⟨.ref s.heap.objs.size,_,I.laid (t':=s.toks) (o:=.lst (ZpS xs lo hi)) (fun b ob q=>Heap.get?_push_of_some _ q) (Ztj _) ?_,rfl,q _ (I.hok.fresh (Ztj _))⟩
 exact⟨Zt5 (Zi7 xs lo hi) hz,_,0,(r.drop (HT.sIx xs.length 0 lo)).take (HT.sIx xs.length xs.length hi-HT.sIx xs.length 0 lo),Heap.get?_push_size _ rfl⟩
theorem ZhK:QD X (.builtin "len") (fun xs H Q=>∃p ys,xs=[.ref p]/\(SqL X.K H p ys\/SqT X.K H p ys)/\Q (.int ys.length) H):=by
 intro pins s σ H xs us Q I r h
 obtain⟨p,ys,rfl,hq,q⟩:=h
 obtain⟨u,rfl,rx⟩:=Zid r
 cases rx
 have hn:=Zho
 rcases hq with hq|hq
 ·obtain⟨its,r',pl,hz⟩:=I.list hq
  have hlen:=r'.length
  exact Calls.call_len_list pl.isList (by simp only[Ztp]<;>omega) ⟨.int ys.length,H,I.tok _,⟨s.toks+1,by rw[Ztp,hlen]⟩,q⟩
 ·obtain⟨its,r',pl,hz⟩:=I.tuple hq
  have hlen:=r'.length
  exact len_tuple pl (by simp only[Ztp]<;>omega) ⟨.int ys.length,H,I.tok _,⟨s.toks+1,by rw[Ztp,hlen]⟩,q⟩
theorem ZhI:QD X (.type "list") (fun xs H Q=>∃p ys,xs=[.ref p]/\(SqL X.K H p ys\/SqT X.K H p ys)/\∀l,H l=none->Q (.ref l) (upd H l (.lst ys))):=by
 intro pins s σ H xs us Q I r h
 obtain⟨p,ys,rfl,hq,q⟩:=h
 obtain⟨u,rfl,rx⟩:=Zid r
 cases rx
 have fin:∀(its:List Value),Wy ys its->ys.length<=sizeLine->∀(h':Heap) (c':Nat),(∀b o',s.heap.get? b=some o'->h'.get? b=some o') ->
   h'.get? s.heap.objs.size=some { cls:=.type "list",dict:=none,data:=.seq its.toArray c',slots:=#[] }->EP X pins σ Q (.ref s.heap.objs.size) { s with heap:=h' }:=fun its r' hz h' c' kp e =>
  ⟨.ref s.heap.objs.size,_,I.laid (t':=s.toks) kp (Ztj _) (show Zb4 X.prog X.w _ h' _ (.lst ys) from ⟨hz,its,c',r',e⟩),rfl,q _ (I.hok.fresh (Ztj _))⟩
 rcases hq with hq|hq
 ·obtain⟨its,r',pl,hz⟩:=I.list hq
  have hlen:=r'.length
  obtain⟨o,ho,hc,n,hd⟩:=pl.isList
  exact call_list_seq p (.inl rfl) ho hc hd (fun h' c' kp e=>fin its r' hz h' c' kp e) (by simp only[Ztp]<;>omega)
 ·obtain⟨its,r',pl,hz⟩:=I.tuple hq
  have hlen:=r'.length
  obtain⟨o,ho,hc,n,hd⟩:=pl
  exact call_list_seq p (.inr rfl) ho hc hd (fun h' c' kp e=>fin its r' hz h' c' kp e) (by simp only[Ztp]<;>omega)
def tyV (K:W.Frag) (T:String) (x:V) (H:Hp):Prop:=match x with
 |.str _=>T = "str"
 |.int _=>T = "int"
 |.ref p=>(T = "list"/\∃xs,SqL K H p xs)\/(T = "tuple"/\∃o,K.lookup p=some o/\o.cls=.type "tuple"/\o.dict=none) \/
   (T = "dict"/\((∃kvs,H p=some (.dK kvs))\/∃kvs,H p=some (.dT kvs)))\/(T = "set"/\∃S n,H p=some (.set S n))
 |_=>False
theorem ZpY {pins:List (Addr×Obj)}{σ:St}{H:Hp}{s:Shared}{T:String}{x:V}{v:Value} (I:Inv X pins σ H s) (r:U1 x v) (ty:tyV X.K T x H) :
  s.TypeIs v T/\∀a,v=.ref a->∃ob,s.heap.get? a=some ob/\ob.dict=none:=by
 cases x with
 |str z =>
  obtain⟨t,rfl⟩:=r
  cases (show T = "str" from ty)
  exact⟨typeIs_str s z t,fun _ e=>nomatch e⟩
 |int i =>
  obtain⟨t,rfl⟩:=r
  cases (show T = "int" from ty)
  exact⟨typeIs_int s i t,fun _ e=>nomatch e⟩
 |ref p =>
  cases r
  rcases ty with ⟨rfl,xs,hq⟩|⟨rfl,o,hk,hc,hd⟩|⟨rfl,hk⟩|⟨rfl,S,n,hk⟩
  ·obtain⟨its,_,pl,_⟩:=I.list hq
   refine⟨pl.isList.typeIs,fun a e=>?_⟩
   cases e
   obtain⟨o,n,e,c,hd,_⟩:=pl
   exact⟨o,e,hd⟩
  ·refine⟨⟨o,I.kIn p o hk,hc⟩,fun a e=>?_⟩
   cases e
   exact⟨o,I.kIn _ o hk,hd⟩
  ·have z:∃o,s.heap.get? p=some o/\o.ExactDict:=by
    rcases hk with ⟨kvs,hk⟩|⟨kvs,hk⟩
    ·obtain⟨_,_,_,_,o,_,_,e,ex,_⟩:=I.hok p _ hk
     exact⟨o,e,ex⟩
    ·obtain⟨_,_,_,_,o,_,_,e,ex,_⟩:=I.hok p _ hk
     exact⟨o,e,ex⟩
   obtain⟨o,e,ex⟩:=z
   refine⟨⟨o,e,ex.1⟩,fun a e2=>?_⟩
   cases e2
   exact⟨o,e,ex.2.1⟩
  ·obtain⟨o,_,_,_,e,ex,_⟩:=I.hok p _ hk
   refine⟨⟨o,e,ex.1⟩,fun a e2=>?_⟩
   cases e2
   exact⟨o,e,ex.2.1⟩
 |_=>exact False.elim ty
noncomputable def tBM (K:W.Frag) (T:String) (r:V->List V->Hp->VK->Prop) (to:TE) (t:TA):TE:=fun σ H Q=>to σ H fun x H1=>tyV K T x H1/\t σ H1 fun xs H2=>r x xs H2 Q
variable {o e:Expr}{es:List Expr}{to:TE}{t:TA}{name:Str}{apos cpos:Pos}{T id:String}{r:V->List V->Hp->VK->Prop}
theorem Zgg (pa:PlainAttrs T) (slot:Slot T name id) (hty:typeOf (.builtin id)=pure (.type "method_descriptor")) (hm:MtR X id r) (ho:PE X o to) (ha:PA X (e::es) t)
  (hbase:attributeBase o name X.env (eval o X.env)=eval o X.env:=by rfl)
  (hfew:((backTo cpos (starEach (e::es) X.env)).all (fun x=>!x.1)&&(backToKw cpos (keywordEach [] X.env)).all (fun x=>x.1.isSome)
   && decide ((e::es).length+([]:List Keyword).length+(if ([]:List Keyword).isEmpty then 0 else 1)<30))=true:=by rfl)
  (hline:(apos.endLine==cpos.line)=true:=by rfl) (hs:starEach (e::es) X.env=(false,eval e X.env)::starEach es X.env:=by rfl) (hplain:(backTo cpos (starEach es X.env)).any (·.1)=false:=by rfl) :
  PE X (.Call (.Attribute o name apos) (e::es) [] cpos) (tBM X.K T r to t):=by
 intro pins s σ H Q I h
 refine wpAny_Call_method_late hbase hfew hline rfl (thn (ho pins s σ H _ I h) fun v s1 ⟨x,H1,I1,r1,ty,q1⟩=>?_)
 obtain⟨h1,h2⟩:=ZpY I1 r1 ty
 refine⟨T,id,pa,slot,hty,h1,h2, ?_⟩
 have hA:=ha cpos pins s1 σ H1 _ I1 q1
 rw[hs] at hA ⊢
 refine Calls.callWith_builtin (by show (false || (backTo cpos (starEach es X.env)).any (·.1))=false;rw[hplain]<;>rfl) (Calls.evalArgs_plain ?_)
 exact thn hA fun us s2 ⟨vs,H2,I2,r2,q2⟩=>hm pins s2 σ H2 x vs v us Q I2 r1 r2 q2
end
def MtM (X:Cx) (id:String) (r:V->List V->Hp->VK->Prop):Prop:=
 ∀(pins:List (Addr×Obj)) (s:Shared) (σ:St) (H:Hp) (x:V) (xs:List V) (v:Value) (us:List Value) (Q:VK),Inv X pins σ H s->U1 x v->Wy xs us->r x xs H Q ->
  wpAny (model X.prog X.w) X.A (call (.builtin id) (v::us)) (EP X pins σ Q) X.xe s
theorem Wy.one:∀{x:V}{us:List Value},Wy [x] us->∃u,us=[u]/\U1 x u
 |_,_,.cons r .nil=>⟨_,rfl,r⟩
theorem Wy.rep {xs:List V}{us:List Value} (h:Wy xs us):∀k:Nat,Wy (List.replicate k xs).flatten (List.replicate k us).flatten
 |0=>.nil
 |k+1=>by
  rw[Zud,Zud,Zux,Zux]
  exact Wy.append h (Wy.rep h k)
theorem Zhw (its:List Value):∀(k:Nat) (acc:List Value),
  List.foldl (fun x1 x2=>x1++x2) acc.toArray (List.replicate k its.toArray)=(acc++(List.replicate k its).flatten).toArray
 |0,acc=>by simp
 |k+1,acc=>by
  have e:acc.toArray++its.toArray=(acc++its).toArray:=by simp
  have e2:(acc++its)++(List.replicate k its).flatten=acc++(List.replicate (k+1) its).flatten:=by
   rw[Zud,Zux,Ztq]
  rw[<- e2,<- Zhw its k (acc++its),<- e,Zud,List.foldl_cons]
section
variable {X:Cx}{pins:List (Addr×Obj)}{σ:St}{H:Hp}{s:Shared}{l b:Addr}{xs ys zs:List V}
theorem Inv.lset {its its':List Value}{n:Nat}{f:Array Value->Array Value}{t':Nat} (I:Inv X pins σ H s) (hH:H l=some (.lst xs))
  (e:s.heap.get? l=some { cls:=.type "list",data:=.seq its.toArray n }) (hf:f its.toArray=its'.toArray) (hv:Wy ys its') (hz:ys.length<=sizeLine) :
  Inv X pins σ (upd H l (.lst ys)) { s with heap:=s.heap.update l (Obj.mapSeq f),toks:=t' }:=by
 have q:=PySem.IsL.update e f
 rw[hf] at q
 refine I.write (x:=l) (e:=l) (by rw[hH];exact trivial) (.inl rfl) (fun b' u hb hu=>(Heap.get?_update_other s.heap (Obj.mapSeq f) (Ne.symm hb)).trans hu) ⟨_,q⟩ ?_
 exact⟨hz,its',_,hv,q⟩
theorem Inv.lnew {its:List Value}{t':Nat} (I:Inv X pins σ H s) (hv:Wy ys its) (hz:ys.length<=sizeLine) :
  Inv X pins σ (upd H s.heap.objs.size (.lst ys)) { s with heap:=s.heap.push { cls:=.type "list",data:=.seq its.toArray },toks:=t' }:=
 I.laid (fun _ _ q=>Heap.get?_push_of_some _ q) (Ztj _) ⟨hz,its,0,hv,Heap.get?_push_size _ rfl⟩
theorem Inv.fresh (I:Inv X pins σ H s):H s.heap.objs.size=none:=I.hok.fresh (Ztj _)
theorem Inv.lstM (I:Inv X pins σ H s) (hH:H l=some (.lst xs)):xs.length<=sizeLine/\∃(its:List Value) (n:Nat),Wy xs its/\xs.length=its.length/\s.heap.get? l=some { cls:=.type "list",data:=.seq its.toArray n }:=by
 obtain⟨z,its,n,r,e⟩:=I.hok l _ hH
 exact⟨z,its,n,r,r.length,e⟩
theorem Zjx {n:Nat} (h:n<=sizeLine):Builtin.List.listTooLong n=false:=by
 unfold Builtin.List.listTooLong
 exact decide_eq_false (by omega)
end
section
variable {X:Cx}
def Zii:V->List V->Hp->VK->Prop:=fun x vs H Q=>∃l xs y,x=.ref l/\vs=[y]/\H l=some (.lst xs)/\xs.length<sizeLine/\Q .non (upd H l (.lst (xs++[y])))
theorem VD:MtM X "list.append" Zii:=by
 intro pins s σ H x vs v us Q I rx rv h
 obtain⟨l,xs,y,rfl,rfl,hH,hz,q⟩:=h
 cases rx
 obtain⟨u,rfl,ru⟩:=rv.one
 obtain⟨z,its,n,r,hl,e⟩:=I.lstM hH
 refine call_meets F.slot_list_append ⟨_,e,rfl⟩ F.entry_list_append (F.args_list_append_2 _ _) (PySem.list_append l its.toArray n u (by rw[Ztp];omega)) ⟨e, ?_⟩
 refine⟨.non,_,I.lset (its':=its++[u]) hH e (by simp) (r.append (.cons ru .nil)) ?_,rfl,q⟩
 rw[Zt8,List.length_singleton]
 omega
def Zlg:V->List V->Hp->VK->Prop:=fun x vs H Q=>∃l b xs zs,x=.ref l/\vs=[.ref b]/\H l=some (.lst xs)/\H b=some (.lst zs)/\xs.length+zs.length<=sizeLine/\Q .non (upd H l (.lst (xs++zs)))
theorem Zl7:MtM X "list.extend" Zlg:=by
 intro pins s σ H x vs v us Q I rx rv h
 obtain⟨l,b,xs,zs,rfl,rfl,hH,hB,hz,q⟩:=h
 cases rx
 obtain⟨u,rfl,ru⟩:=rv.one
 cases ru
 obtain⟨z,its,n,r,hl,e⟩:=I.lstM hH
 obtain⟨z2,its2,n2,r2,hl2,e2⟩:=I.lstM hB
 have hsz:its.toArray.size+its2.toArray.size<=sizeLine:=by rw[Ztp,Ztp];omega
 have hlong:¬(!its.toArray.isEmpty&&Builtin.List.listTooLong (its.toArray.size+its2.toArray.size))=true:=by
  rw[Zjx hsz,Bool.and_false]
  exact Bool.false_ne_true
 refine call_meets F.slot_list_extend ⟨_,e,rfl⟩ F.entry_list_extend (F.args_list_extend_2 _ _)
  (AutoSeq1.list_extend_list_list_0 l its.toArray n b its2.toArray n2 hlong (by rw[Ztp];omega) (by omega)) ⟨e,e2, ?_⟩
 refine⟨.non,_,I.lset (its':=its++its2) hH e (by simp) (r.append r2) ?_,rfl,q⟩
 rw[Zt8]
 omega
noncomputable def Zsw:R2:=fun x y H Q=>∃l k xs,x=.ref l/\y=.int k/\H l=some (.lst xs)/\-(2^63)<=k/\k<2^63/\xs.length*k.toNat<=sizeLine /\
 ∀p,H p=none->Q (.ref p) (upd H p (.lst (List.replicate k.toNat xs).flatten))
theorem ZlJ {α:Type} (xs:List α) (k:Nat):(List.replicate k xs).flatten.length=k*xs.length:=by
 induction k with
 |zero=>simp
 |succ k ih=>rw[Zud,Zux,Zt8,ih,Nat.succ_mul,Zvm]
theorem Zoa:OpR X (binaryOp .Mult) Zsw:=by
 intro pins s σ H x y v u Q I rx ry h
 obtain⟨l,k,xs,rfl,rfl,hH,h1,h2,hz,q⟩:=h
 cases rx
 obtain⟨t,rfl⟩:=ry
 obtain⟨z,its,n,r,hl,e⟩:=I.lstM hH
 have hlen:its.toArray.size*k.toNat<=sizeLine:=by rw[Ztp,<- hl];exact hz
 have hcap:¬its.toArray.size*k.toNat>(2^63-1)/8:=by
  have:(sizeLine:Nat)<=(2^63-1)/8:=by decide
  omega
 have hfit:¬(!Builtin.List.listFitsIndex k)=true:=by
  rw[fitsIndex_both h1 h2]
  exact Bool.false_ne_true
 have hlong:¬Builtin.List.listTooLong (its.toArray.size*k.toNat)=true:=by
  rw[Zjx hlen]
  exact Bool.false_ne_true
 have hnew:List.foldl (fun x1 x2=>x1++x2) #[] (List.replicate (if its.toArray.isEmpty=true then 0 else k.toNat) its.toArray)=(List.replicate k.toNat its).flatten.toArray:=by
  have f0:∀m:Nat,List.foldl (fun x1 x2=>x1++x2) #[] (List.replicate m its.toArray)=(List.replicate m its).flatten.toArray:=fun m=>by
   have:=Zhw its m []
   rw[Zuc] at this
   exact this
  rw[f0]
  cases its with
  |nil=>simp
  |cons a r'=>rw[if_neg (by simp)]
 refine wpAny_binaryOp_repeat_ref (T := "list") (U := "int") (by decide) ⟨_,e,rfl⟩ (fun s'=>typeIs_int s' k t) noFill_list_mul F.fills_int_mul F.slot_int_rmul repeat_list F.slot_int_index.lookup
  (call_meets F.slot_int_rmul (typeIs_int s k t) F.entry_int_rmul (F.args_int_rmul_2 _ _) (int___rmul___int_list k t l its.toArray n)
   ⟨e,rfl,⟨_,e,rfl⟩,call_meets F.slot_list_mul ⟨_,e,rfl⟩ F.entry_list_mul (F.args_list_mul_2 _ _) (AutoListH.list___mul___list_int_3 l its.toArray n k t hfit hcap hlong) ⟨e, ?_⟩⟩)
 rw[hnew]
 exact⟨.ref _,_,I.lnew (t':=s.toks) (r.rep k.toNat) (by rw[ZlJ,Nat.mul_comm];exact hz),rfl,q _ I.fresh⟩
end
section
variable {prog:Program}{w:World}{A:Around}{E:Value->Shared->Prop}{s:Shared}
set_option maxRecDepth 100000 in
end
section
variable {X:Cx}
end
end L2
namespace Att
open PySem PySem.W PySem.Calls PyProof.Rows
theorem Ze7 {P:Params}{h:Heap}:∀(ns:List Int) (vs:List Value),WellAll P h vs (ns.map WData.int)->IntsAre vs ns:=by
 intro ns
 induction ns with
 |nil =>
  intro vs w
  rw[ZtK] at w
  cases w
  exact .nil
 |cons n ns ih =>
  intro vs w
  rw[Ztv] at w
  cases w with
  |cons a b =>
   cases a
   exact .cons _ _ (ih _ b)
theorem ZkS {l:OpenLaw}{n:Nat} (hn:l.most=some n) {P:Params}{h:Heap}{args:List WData}{vals:List Value}
  (hpre:l.row.toRowW.claim.pre args=true) (hwl:WellAll P h vals args) :
  ∃a vs ns,vals=[Value.ref a]/\args=[WData.list (ns.map WData.int)]/\h.get? a=some { cls:=.type "list",data:=.seq vs.toArray }/\IntsAre vs ns/\ns.length<=n:=by
 have hsh:WShape.hasAll [] args [.list .int]=true:=(pre_splitW hpre).1
 have hc:l.pre.holds [] { args:=args }=true:=(pre_splitW hpre).2
 obtain⟨d,r,rfl,h1,h2⟩:=hasAllW_cons hsh
 obtain rfl:=hasAllW_nil h2
 obtain⟨xs,rfl,h3⟩:=hasW_list h1
 obtain⟨ns,rfl⟩:=items_int h3
 have hlen:ns.length<=n:=by
  unfold OpenLaw.pre at hc
  have h4:(WTm.not (.lt (.lit (.int (n:Int))) (.len (.arg 0)))).holds [] { args:=[.list (ns.map .int)] }=true:=by
   have h4:=(holds_andW hc).1
   rw[hn] at h4
   exact h4
  have h5:=condW_of h4 (w_not (w_lt w_lit (w_len_list (w_arg rfl))))
  rw[Zto] at h5
  refine Nat.le_of_not_lt fun q=>?_
  have q':(n:Int)<((ns.length:Nat):Int):=by omega
  first
   |(rw[decide_eq_true q'] at h5;exact absurd h5 (by decide))
   |(simp at h5;omega)
 cases hwl with
 |cons w1 w2 =>
  cases w2
  cases w1 with
  |list ho hall=>exact⟨_,_,ns,rfl,rfl,ho,Ze7 ns _ hall,hlen⟩
theorem Zli (l:OpenLaw) (args:List WData):l.row.toRowW.claim.post args (.bool true) args=true:=
 postW_of (r:=l.row.toRowW) (X:=(true==true))
  (show WShape.has [] (.bool true) .bool=true by first|rfl|decide|simp[WShape.has,WShape.arms,WShape.armsAll])
  (show (WTm.eq .res (.lit (.bool true))).value [] { args:=args,res:=some (.bool true),after:=args }=some (.bool (true==true)) from w_eq_bool (w_res rfl) w_lit) rfl
theorem ZiG {l:OpenLaw}{n:Nat}{q:Program}{loose:List Str}{XP:(Str->Option Value)->Heap->Prop}{YP:World->Heap->Prop}{d:DefRec}
  (hn:l.most=some n) (hdf:d.params.defaults=[])
  (call:∀(w:World) (s₀ s₁:Shared) (mg mb:Str->Option Value) (fa:Addr) (o:Obj) (pm cd doc:Value) (a:Addr) (vs:List Value) (ns:List Int),
   Ground q loose [] XP w s₀ mg mb s₁.heap->YP w s₁.heap ->
   s₁.heap.get? fa=some o->o.data=.func (docDef d.name d.params d.body d.scope pm cd doc)->s₁.heap.CodeRec cd d.name->mg d.name=some (.ref fa) ->
   s₁.heap.get? a=some { cls:=.type "list",data:=.seq vs.toArray }->IntsAre vs ns->ns.length<=n->s₁.gens=#[] ->
   codeAny (model l.prog w) callerA (.call (.ref fa) ⟨[.ref a],[]⟩) (fun r s'=>r=.ok (.ret (.bool true))/\OldK s₁.heap s'.heap/\s'.os=s₁.os/\AllBare s'.gens) s₁) :
  WalkO q loose XP YP l.row.toRowW d [] (fun f vs=>PySem.call f vs):=by
 intro w s₀ s₁ mg mb G Y fa o pm cd doc dV kV ho hd hcd hD hmg hg args vals as hpre hlay hrd hwl hlo
 obtain rfl:dV=.none:=Dflts.none hD hdf
 obtain rfl:kV=.none:=Dflts.noKw hD
 obtain⟨a,vs,ns,rfl,rfl,hobj,hints,hlen⟩:=ZkS hn hpre hwl
 refine enter_call (codeAny_mono (call w s₀ s₁ mg mb fa o pm cd doc a vs ns G Y ho (fd_plain hd) hcd hmg hobj hints hlen hg) fun r s' hq=>?_)
 obtain⟨rfl,h2,h3,h4⟩:=hq
 exact⟨.inl ⟨.bool true,.bool true,[],rfl,fun _=>rfl,.bool true,Zli l _,fun _=>⟨List.Pairwise.nil,fun _ hm=>(nomatch hm)⟩⟩,h2,h3,h4⟩
section
variable {prog:Program}{w:World}{A:Around}{E:Value->Shared->Prop}{s:Shared}{K:Frag}
end
end Att
namespace L2
open PySem PySem.Spec PyProof.Rows
theorem ZgP:∀{vs:List Value}{ns:List Int},IntsAre vs ns->Wy (ns.map V.int) vs
 |_,_,.nil=>.nil
 |_,_,.cons n t h=>.cons ⟨t,rfl⟩ (ZgP h)
def Zrr (H:Hp):Prop:=∀b,H b=none\/∃o xs,H b=some (.frz o (.lst xs))
theorem Znr {P:Program}{w:World}{K:W.Frag}{mg mb:Str->Option Value}{CX:CXT}{k:Nat}{fa a:Addr}{fd:FuncData}{x:Str}{sp:Sp}{s₁:Shared}{vs:List Value}{ns:List Int}
  (KX:K.In s₁.heap) (hns:s₁.heap.Ns mainGlobals mg) (hb:s₁.heap.Ns builtinsNs mb) (hbb:∀x:Str,x ≠ "__name__"->mb x=bootBuiltins x) (hlim:s₁.heap.NoLimit) (hg:s₁.gens=#[])
  (ha:s₁.heap.get? a=some { cls:=.type "list",data:=.seq vs.toArray }) (hi:IntsAre vs ns) (hl:ns.length<=sizeLine) (hr:Zef k callerA)
  (F:∀base:Heap,K.In base->base.Ns mainGlobals mg->Vi P w K mg base CX k fa fd [x] sp) (hbind:∀(s:Shared) (u:Value),BindsTo s fd ⟨[u],[]⟩ [(x,u)])
  (hsp:∀H:Hp,Zrr H->SqL K H a (ns.map V.int)->sp [.ref a] H (fun v _=>v=.bl true) fun _ _ _=>False)
  (hCX:∀H e s',CX [] H s₁ (fun _ _ _=>False) e s'->False) :
  codeAny (model P w) callerA (.call (.ref fa) ⟨[.ref a],[]⟩) (fun r s'=>r=.ok (.ret (.bool true))/\OldK s₁.heap s'.heap/\s'.os=s₁.os/\AllBare s'.gens) s₁:=by
 have rv:=ZgP hi
 have lenV:=hi.length
 have core:∀H:Hp,Zrr H->SqL K H a (ns.map V.int)->HOk P w H s₁.heap->(∀b,H b≠none->b=a)->(H a≠none->K.lookup a=none) ->
   codeAny (model P w) callerA (.call (.ref fa) ⟨[.ref a],[]⟩) (fun r s'=>r=.ok (.ret (.bool true))/\OldK s₁.heap s'.heap/\s'.os=s₁.os/\AllBare s'.gens) s₁:=by
  intro H hO hS hok hA hK
  have base_of:∀{b:Addr}{o:Obj},s₁.heap.get? b=some o->H b=none->(Zn0 s₁.heap H).get? b=some o:=fun e n=>Znz e n
  have noA:∀{b:Addr}{o:Obj}{es:Array DictEntry}{ep:Nat},s₁.heap.get? b=some o->o.data=.dict es ep->H b=none:=fun {b o es ep} e d=>by
   cases q:H b with
   |none=>rfl
   |some u =>
    have e':b=a:=hA b (by rw[q];simp)
    subst e'
    rw[ha] at e;cases e
    have d':Data.seq vs.toArray _=Data.dict es ep:=d
    cases d'
  have nsK:∀{b:Addr}{m:Str->Option Value},s₁.heap.Ns b m->(Zn0 s₁.heap H).Ns b m:=fun {b m} ⟨o,es,ep,e,d,r⟩=>⟨o,es,ep,base_of e (noA e d),d,r⟩
  have hKb:K.In (Zn0 s₁.heap H):=fun b o e=>base_of (KX b o e) (by
   cases q:H b with
   |none=>rfl
   |some u =>
    have e':b=a:=hA b (by rw[q];simp)
    subst e'
    rw[hK (by rw[q];simp)] at e;cases e)
  have hM:Mod K mg (Zn0 s₁.heap H):=⟨hKb,nsK hns,⟨mb,nsK hb,hbb⟩,let ⟨mc,h1,h2⟩:=hlim;⟨mc,nsK h1,h2⟩⟩
  have e0:ZrA P w K mg (Zn0 s₁.heap H) callerA [] s₁ H:=⟨rfl,hM,fun b o e=>Zpd e,Nat.le_of_eq (ZlV _ _),trivial,fun b hb=>absurd (show b∈([]:List Addr) from hb) (by simp),hok,.of_eq hg⟩
  refine codeAny_mono ((F _ hKb (nsK hns)).run callerA [] s₁ H ⟨[.ref a],[]⟩ [.ref a] [.ref a] _ _ hr e0 (hbind s₁ (.ref a)) (.cons rfl .nil) (hsp H hO hS)) fun r s' h=>?_
  cases r with
  |error e=>exact(hCX H e s' h).elim
  |ok fl =>
   cases fl with
   |next=>exact False.elim h
   |brk=>exact False.elim h
   |cont=>exact False.elim h
   |ret u =>
    obtain⟨v,H',os,bare,un,hok',r',q⟩:=h
    have q':v=.bl true:=q
    subst q'
    obtain rfl:u=Value.bool true:=r'
    refine⟨rfl,OldK.of_keep fun b o e=>?_,os,bare⟩
    cases q:H b with
    |none=>exact un.keep b o e q (by intro z;exact absurd (show b∈([]:List Addr) from z) (by simp)) (by simp)
    |some u =>
     rcases hO b with z|⟨ob,xs,z⟩
     ·rw[q] at z;cases z
     ·have z2:=un.frzs b ob _ z
      obtain⟨e1,_⟩:=hok b _ z
      obtain⟨e2,_⟩:=hok' b _ z2
      rw[e] at e1;cases e1
      exact e2
 cases hk:K.lookup a with
 |some o =>
  have e:=KX a o hk
  rw[ha] at e
  cases e
  refine core (fun _=>none) (fun _=>.inl rfl) (.inr ⟨_,vs.toArray,_,hk,rfl,rfl,rfl,by rw[Ztp,lenV];exact hl,by simpa using rv⟩) (fun b u z=>by have z':(none:Option HO)=some u:=z;cases z') (fun b z=>absurd rfl z) fun z=>absurd rfl z
 |none =>
  refine core (fun b=>if b=a then some (.frz { cls:=.type "list",data:=.seq vs.toArray } (.lst (ns.map V.int))) else none) (fun b=>?_) (.inl (.inr ⟨{ cls:=.type "list",data:=.seq vs.toArray },if_pos rfl⟩)) (fun b u z=>?_) (fun b z=>?_) fun _=>hk
  ·by_cases hb:b=a
   ·exact .inr ⟨_,_,if_pos hb⟩
   ·exact .inl (if_neg hb)
  ·by_cases hb:b=a
   ·have z':=(if_pos hb).symm.trans z
    cases z'
    subst hb
    exact⟨ha,by rw[Zto];exact hl,vs,_,rv,ha⟩
   ·have z':=(if_neg hb).symm.trans z
    cases z'
  ·by_cases hb:b=a
   ·exact hb
   ·exact absurd (if_neg hb) z
noncomputable abbrev KOf {K:W.Frag}{h:Heap} (_:K.In h):W.Frag:=K
theorem Zo4 {l:PySem.W.OpenLaw}{n k:Nat}{q:Program}{loose:List Str}{XP:(Str->Option Value)->Heap->Prop}{YP:World->Heap->Prop}{d:DefRec}{K:Params->W.Frag}{CX:World->CXT}{sp:World->Sp}{x:Str}
  (hn:l.most=some n) (hn2:n<=sizeLine) (hdf:d.params.defaults=[]) (hr:Zef k callerA)
  (hY:∀(w:World) (h:Heap),YP w h->(K w.params).In h)
  (F:∀(w:World) (mg:Str->Option Value) (fa:Addr) (h:Heap),(K w.params).In h->h.Ns mainGlobals mg->mg d.name=some (.ref fa) ->
   ∃fd:FuncData,(∀(s:Shared) (u:Value),BindsTo s fd ⟨[u],[]⟩ [(x,u)]) /\
    ∀base:Heap,(K w.params).In base->base.Ns mainGlobals mg->Vi l.prog w (K w.params) mg base (CX w) k fa fd [x] (sp w))
  (hsp:∀(w:World) (H:Hp) (a:Addr) (ns:List Int),ns.length<=n->Zrr H->SqL (K w.params) H a (ns.map V.int)->sp w [.ref a] H (fun v _=>v=.bl true) fun _ _ _=>False)
  (hCX:∀(w:World) (H:Hp) (s:Shared) (e:Value) (s':Shared),CX w [] H s (fun _ _ _=>False) e s'->False) :
  PySem.W.WalkO q loose XP YP l.row.toRowW d [] (fun f vs=>PySem.call f vs):=by
 refine Att.ZiG hn hdf fun w s₀ s₁ mg mb fa o pm cd doc a vs ns G Y ho hd hcd hmg hobj hints hlen hg=>?_
 have KX:=hY w _ Y
 obtain⟨fd,hb,hF⟩:=F w mg fa _ KX G.T.g hmg
 exact Znr KX G.T.g G.T.b G.T.builtins G.T.nolimit hg hobj hints (Zt5 hlen hn2) hr hF hb (fun H hO hS=>hsp w H a ns hlen hO hS) fun H e s'=>hCX w H s₁ e s'
theorem ZmC {l:PySem.W.OpenLaw}{n k:Nat}{q:Program}{loose:List Str}{XP:(Str->Option Value)->Heap->Prop}{YP:World->Heap->Prop}{d:DefRec}{K:Params->W.Frag}{CX:CXT}{sp:W.Frag->Sp}{x:Str}
  (hn:l.most=some n) (hn2:n<=sizeLine) (hdf:d.params.defaults=[]) (hr:Zef k callerA)
  (hY:∀(w:World) (h:Heap),YP w h->(K w.params).In h)
  (F:∀(w:World) (mg:Str->Option Value) (fa:Addr) (h:Heap),(K w.params).In h->h.Ns mainGlobals mg->mg d.name=some (.ref fa) ->
   ∃fd:FuncData,(∀(s:Shared) (u:Value),BindsTo s fd ⟨[u],[]⟩ [(x,u)]) /\
    ∀base:Heap,(K w.params).In base->base.Ns mainGlobals mg->Vi l.prog w (K w.params) mg base CX k fa fd [x] (sp (K w.params)))
  (hsp:∀(K:PySem.W.Frag) (H:Hp) (a:Addr) (ns:List Int),ns.length<=n->Zrr H->SqL K H a (ns.map V.int)->sp K [.ref a] H (fun v _=>v=.bl true) fun _ _ _=>False)
  (hCX:∀(H:Hp) (s:Shared) (e:Value) (s':Shared),CX [] H s (fun _ _ _=>False) e s'->False) :
  PySem.W.WalkO q loose XP YP l.row.toRowW d [] (fun f vs=>PySem.call f vs):=
 Zo4 (K:=K) (CX:=fun _=>CX) (sp:=fun w=>sp (K w.params)) hn hn2 hdf hr hY F (fun w H a ns h1 h2 h3=>hsp (K w.params) H a ns h1 h2 h3) fun _ H s e s'=>hCX H s e s'
noncomputable def Zw (s:Stmt):Arguments:=match s with
 |.FunctionDef _ a _ _ _ _ _ _ _ _=>a
 |_=>{ posonlyargs:=[],args:=[],vararg:=none,kwonlyargs:=[],kw_defaults:=[],kwarg:=none,defaults:=[] }
noncomputable def Zv (s:Stmt):List Stmt:=match s with
 |.FunctionDef _ _ b _ _ _ _ _ _ _=>b
 |_=>[]
noncomputable def Zh (s:Stmt):Scope:=match s with
 |.FunctionDef _ _ _ _ _ _ sc _ _ _=>sc
 |_=>{ kind:=.function,names:=[],isGenerator:=false,isCoroutine:=false }
noncomputable abbrev CX0:CXT:=fun _ _ _ _ _ _=>False
noncomputable abbrev E0:XK:=fun _ _ _=>False
theorem Zqt {X:Cx}:ZjL CX0 X E0:=fun _ _ _ _ _ _ _ h=>h.elim
structure Fun (K:PySem.W.Frag) (x qual:Str) (st:Stmt) (f:Addr) (fd:FuncData):Prop where
 ex:∃(oc:Value) (od:Option Addr) (kV doc pm:Value) (an:Option Addr) (cdv ct:Value) (osl:Array (Option Value)),
  fd=PySem.W.fnOf x qual (Zw st) (Zv st) (Zh st) .none kV doc pm an cdv ct/\K.lookup f=some ⟨oc,od,.func fd,osl⟩/\PySem.W.codeIn K cdv qual=true
 kp:PySem.W.keepIn K (.ref f)=true
section
variable {P:Program}{w:World}{K:W.Frag}{mg:Str->Option Value}{base:Heap}
theorem Fun.ok {x qual:Str}{st:Stmt}{f:Addr}{fd:FuncData}{N ps:List Str}{k:Nat}{sp:Sp} (F:Fun K x qual st f fd) (S:Zx N ps (Zh st)) (len:∀vs H Q E,sp vs H Q E->vs.length=ps.length)
  (hbody:∀(cdv:Value) (A:Around) (outer:List Env) (s:Shared) (H:Hp) (vs:List V) (Q:VK) (E:XK),Zef k (A.deeper (envOfC qual (Zh st) s.heap.objs.size f cdv))->sp vs H Q E ->
   ∃t,PSs (ZhY CX0 P w K mg base N qual (Zh st) f cdv A outer s H E).nox (Zv st) t/\t { nx:=fun _ H'=>Q .non H',rt:=Q } (ZdG N vs) H):Vi P w K mg base CX0 (k+1) f fd ps sp:=by
 obtain⟨oc,od,kV,doc,pm,an,cdv,ct,osl,rfl,lk,hcd⟩:=F.ex
 refine ZqX lk hcd S len fun A outer s H vs Q E hr hsp=>?_
 obtain⟨t,h,q⟩:=hbody cdv A outer s H vs Q E hr hsp
 exact⟨t,h.nox,q⟩
theorem Fun.binds {x qual:Str}{st:Stmt}{f:Addr}{fd:FuncData}{ps:List Str} (F:Fun K x qual st f fd)
  (h:∀(kV doc pm:Value) (an:Option Addr) (cdv ct:Value) (us:List Value),us.length=ps.length->bindArgs (PySem.W.fnOf x qual (Zw st) (Zv st) (Zh st) .none kV doc pm an cdv ct) ⟨us,[]⟩=pure (ps.zip us)):ZhU K fd ps []:=by
 obtain⟨oc,od,kV,doc,pm,an,cdv,ct,osl,rfl,lk,hcd⟩:=F.ex
 exact .all (h kV doc pm an cdv ct)
theorem ZX {x qual:Str}{st:Stmt}{f:Addr}{oc:Value}{od an:Option Addr}{osl:Array (Option Value)}{kV doc pm cdv ct:Value} (l:K.lookup f=some ⟨oc,od,.func (PySem.W.fnOf x qual (Zw st) (Zv st) (Zh st) .none kV doc pm an cdv ct),osl⟩)
  (c:PySem.W.codeIn K cdv qual=true) (k:PySem.W.keepIn K (.ref f)=true):Fun K x qual st f (PySem.W.fnOf x qual (Zw st) (Zv st) (Zh st) .none kV doc pm an cdv ct):=⟨⟨oc,od,kV,doc,pm,an,cdv,ct,osl,rfl,l,c⟩,k⟩
end
section
variable {X:Cx}
theorem pv (i:Nat) {x:Str}{pos:Pos} (hN:X.N[i]?=some x:=by rfl) (hv:Vis X.env.scope x:=by first|exact Or.inl rfl|exact Or.inr (Or.inl rfl)|exact Or.inr (Or.inr rfl)) (hd:(x==("__debug__":Str))=false:=by decide)
  (hcd:(x==("__classdict__":Str))=false:=by decide):PE X (.Name x pos) (ZjS i):=Zqq hN hv hd hcd
end
def ZF (H H':Hp):Prop:=∀b o,H b=some o->H' b=some o
theorem ZF.refl (H:Hp):ZF H H:=fun _ _ h=>h
theorem ZF.trans {H H1 H2:Hp} (a:ZF H H1) (b:ZF H1 H2):ZF H H2:=fun c o h=>b c o (a c o h)
theorem ZF.free {H H':Hp} (e:ZF H H') {l:Addr} (h:H' l=Option.none):H l=Option.none:=by
 cases q:H l with
 |none=>rfl
 |some o =>
  rw[e l o q] at h
  cases h
end L2
set_option maxHeartbeats 4000000
namespace L2
open PySem PySem.Spec PyProof.Rows
noncomputable def ZhG (scope:Scope) (env:Env):List (Str×Addr):=
 ((scope.names.filter fun p=>p.2==.free).reverse).map fun p=>(p.1,(env.cells.lookup p.1).getD 0)
theorem Zcp {β:Type}:∀{l:List (Str×β)}{a:Str}{b:β},(a,b)∈l->∃c,l.lookup a=some c
 |[],_,_,h=>absurd h (by simp)
 |(n,v)::r,a,b,h=>by
  cases e:a==n with
  |true=>exact⟨v,by simp[ZtX,e]⟩
  |false =>
   rcases Ztt.mp h with z|z
   ·cases z;simp at e
   ·obtain⟨c,hc⟩:=Zcp z
    exact⟨c,by simp[ZtX,e,hc]⟩
theorem ZJ {env:Env}:∀{names:List (Str×NameKind)}{y:Str}{k:NameKind},(∀p∈names,p.2≠.cell) ->
  (names.map fun(n,k)=>if (k==NameKind.free&&env.scope.kind==.function&&env.kindOf n==some .cell) then (n,NameKind.cell) else (n,k)).lookup y=some k ->
  (k=.local->names.lookup y=some .local)/\(k=.cell\/k=.free->names.lookup y=some .free)
 |[],_,_,_,h=>by simp at h
 |(n,k0)::r,y,k,nc,h=>by
  have ih:=@ZJ env r y k (fun p hp=>nc p (ZtF _ hp))
  have nc0:=nc (n,k0) ZuJ
  have h':List.lookup y ((if (k0==NameKind.free&&env.scope.kind==.function&&env.kindOf n==some .cell)=true then (n,NameKind.cell) else (n,k0))::(r.map fun(n,k)=>if (k==NameKind.free&&env.scope.kind==.function&&env.kindOf n==some .cell) then (n,NameKind.cell) else (n,k)))=some k:=h
  cases hx:y==n with
  |true =>
   by_cases hc:(k0==NameKind.free&&env.scope.kind==.function&&env.kindOf n==some .cell)=true
   ·rw[if_pos hc] at h'
    simp only[ZtX,hx] at h'
    have hk:NameKind.cell=k:=Option.some.inj h'
    subst hk
    have hf:k0=.free:=by
     simp only[Bool.and_eq_true] at hc
     exact beq_iff_eq.mp hc.1.1
    subst hf
    exact⟨(fun z=>nomatch z),fun _=>by simp[ZtX,hx]⟩
   ·rw[if_neg hc] at h'
    simp only[ZtX,hx] at h'
    have hk:k0=k:=Option.some.inj h'
    subst hk
    refine⟨fun z=>by subst z;simp[ZtX,hx],fun z=>?_⟩
    rcases z with z|z
    ·exact absurd z nc0
    ·subst z;simp[ZtX,hx]
  |false =>
   by_cases hc:(k0==NameKind.free&&env.scope.kind==.function&&env.kindOf n==some .cell)=true
   ·rw[if_pos hc] at h'
    simp only[ZtX,hx] at h'
    have:=ih h'
    simpa[ZtX,hx] using this
   ·rw[if_neg hc] at h'
    simp only[ZtX,hx] at h'
    have:=ih h'
    simpa[ZtX,hx] using this
noncomputable def blk (X:Cx) (scope:Scope) (x:Str) (C:Addr) (ex:List Addr) (s₂:Shared) (H₂:Hp):Cx:=
 { X with N:=X.N++[x],s₀:=s₂,H₀:=H₂,env:=compEnvC scope (ZhG scope X.env) C X.env,outer:=X.stack,ex:=ex,fn:=fun _=>false,pn:=[],xe:=fun _ _=>False }
noncomputable def ZeS (N:List Str) (sc scope:Scope) (x:Str):Bool:=
 (scope.names.all fun p=>!(p.2==.cell))&&(scope.kind==.function)&&(scope.names.all fun p=>!(p.2==.local) || scope.names.lookup p.1==some .local)&&(scope.names.lookup x==some .local)
  && (N.all fun y=>!(scope.names.lookup y==some .local))&&(scope.names.all fun p=>!(p.2==.free) || sc.names.lookup p.1==some .cell || sc.names.lookup p.1==some .free)
structure Zbn (N:List Str) (sc scope:Scope) (x:Str):Prop where
 nc:∀p∈scope.names,p.2≠.cell
 kind:scope.kind=.function
 locs:∀p∈scope.names,p.2=.local->scope.names.lookup p.1=some .local
 var:scope.names.lookup x=some .local
 noN:∀y∈N,scope.names.lookup y≠some .local
 fr:∀p∈scope.names,p.2=.free->sc.names.lookup p.1=some .cell\/sc.names.lookup p.1=some .free
theorem Zbn.of {N:List Str}{sc scope:Scope}{x:Str} (h:ZeS N sc scope x=true):Zbn N sc scope x:=by
 unfold ZeS at h
 simp only[Bool.and_eq_true,Zt1,Bool.or_eq_true,Bool.not_eq_true',beq_iff_eq,beq_eq_false_iff_ne] at h
 obtain⟨⟨⟨⟨⟨h1,h2⟩,h3⟩,h4⟩,h5⟩,h6⟩:=h
 refine⟨h1,h2,fun p hp e=>?_,h4,h5,fun p hp e=>?_⟩
 ·rcases h3 p hp with z|z
  ·exact absurd e z
  ·exact z
 ·rcases h6 p hp with (z|z)|z
  ·exact absurd e z
  ·exact .inl z
  ·exact .inr z
section
variable {X:Cx}{pins:List (Addr×Obj)}{σ:St}{H:Hp}{s:Shared}
theorem Inv.adopt {D:Addr}{ys:List V}{its:List Value}{n:Nat} (I:Inv X pins σ H s) (hn:H D=none) (h1:X.s₀.heap.objs.size<=D) (hL:D≠X.env.locals) (hc:∀x c,X.env.cells.lookup x=some c->c≠D)
  (hp:∀p∈X.pn++pins,p.1≠D) (ho:s.heap.get? D=some { cls:=.type "list",data:=.seq its.toArray n }) (r:Wy ys its) (hz:ys.length<=sizeLine):Inv X pins σ (upd H D (.lst ys)) s:=by
 refine I.step (h':=s.heap) (g':=s.gens) (d':=s.drawn) (t':=s.toks) (ch:=[D]) (fun b hb=>?_) (fun b o _ _ _ e _=>e) (fun b o _ _ _ e _=>⟨o.slots,e⟩) (fun b o hb _ e=>?_) (fun b o _ e=>⟨o,e⟩)
  (fun b xs e=>?_) (fun b o u e=>?_) (fun b ps e=>⟨#[], ?_⟩) (fun m hm=>hm) (fun b u e=>?_) I.bare
 ·have e:b=D:=by simpa using hb
  subst e
  exact⟨.inr h1,hL,hc,hp⟩
 ·rw[ZQ (by simpa using hb)];exact e
 ·rw[ZQ (Yd e hn)];exact e
 ·rw[ZQ (Yd e hn)];exact e
 ·rw[ZQ (Yd e hn),e];simp
 ·by_cases hb:b=D
  ·subst hb
   rw[YL] at e;cases e
   exact⟨hz,its,n,r,ho⟩
  ·rw[ZQ hb] at e
   exact(I.hok b u e).stay (fun c v _ q=>q) (fun c q=>by rw[ZQ (Yd q hn)];exact q) fun c xs q=>by rw[ZQ (Yd q hn)];exact q
end
section
variable {X:Cx}{pins:List (Addr×Obj)}{σ:St}{s₂:Shared}{H₂:Hp}{scope:Scope}{x:Str}{px:Pos}{elt iter:Expr}{pos:Pos}{te:TE}{J:It}{fp:List Addr}{it:Addr}{tn:Nat->Heap->Prop}
theorem UM {sc:Zbn X.N X.env.scope scope x} (ok:X.Ok) {y:Str}{c:Addr} (h:(ZhG scope X.env).lookup y=some c):X.env.cells.lookup y=some c:=by
 have hm:=PySem.mem_of_lookup h
 unfold ZhG at hm
 obtain⟨p,hp,e⟩:=ZtA.mp hm
 have hp':=Zuf.mp (ZuV.mp hp)
 obtain⟨e1,e2⟩:=Prod.mk.inj e
 have hk:=sc.fr p hp'.1 (beq_iff_eq.mp hp'.2)
 obtain⟨c',hc'⟩:=ok.has p.1 hk
 rw[hc'] at e2
 rw[<- e1,hc']
 exact congrArg some e2
theorem Zed {y:Str} (h:scope.names.lookup y=some .free):∃c,(ZhG scope X.env).lookup y=some c:=by
 have hm:=PySem.mem_of_lookup h
 refine Zcp (b:=(X.env.cells.lookup y).getD 0) ?_
 unfold ZhG
 exact ZtA.mpr ⟨(y,.free),ZuV.mpr (Zuf.mpr ⟨hm,rfl⟩),rfl⟩
theorem Zrm (I:Inv X pins σ H₂ s₂) (sc:Zbn X.N X.env.scope scope x) {C:Addr} (hC:s₂.heap.objs.size<=C) (ff:∀b∈fp,Zk9 X pins H₂ b) (fo:∀b∈fp,∃o,s₂.heap.get? b=some o):(blk X scope x C fp s₂ H₂).Ok where
 mod:=I.ok.mod
 kind:=sc.kind
 glob:=I.ok.glob
 blt:=I.ok.blt
 above:=hC
 inj:=fun y z c h1 h2=>I.ok.inj y z c (UM (sc:=sc) I.ok h1) (UM (sc:=sc) I.ok h2)
 has:=fun y hy=>by
  have hy':(relabel scope X.env).names.lookup y=some .cell\/(relabel scope X.env).names.lookup y=some .free:=hy
  have hf:scope.names.lookup y=some .free:=by
   rcases hy' with z|z
   ·exact(ZJ sc.nc z).2 (.inl rfl)
   ·exact(ZJ sc.nc z).2 (.inr rfl)
  exact Zed hf
 cab:=fun y c h=>by cases h
 hd:=I.ok.hd
 frames:=I.ok.frames
 stk:=.inl rfl
 exf:=fun b hb=>by
  obtain⟨f0,f1,f2,f3,f4,f5⟩:=ff b hb
  obtain⟨o,ho⟩:=fo b hb
  exact⟨Zt0 (Ztw (Heap.lt_size ho) hC),fun y c h=>f4 y c (UM (sc:=sc) I.ok h)⟩
 bs:=I.bs
 bsz:=Zt5 I.ok.bsz I.sz
 noex:=fun b o e hb=>by
  obtain⟨f0,f1,f2,f3,f4,f5⟩:=ff b hb
  rcases f3 with z|z
  ·exact I.ok.noex b o e z
  ·exact absurd (Ztw (Heap.lt_size e) (Zt5 I.ok.bsz z)) (ZtU _)
 exfs:=fun b hb z=>by
  obtain⟨f0,f1,f2,f3,f4,f5⟩:=ff b hb
  rcases Ztt.mp (I.stkSub b z) with e|e
  ·exact f1 e
  ·exact f2 e
 funs:=I.stack
 frf:=I.stkFree
end
def ZnS (σ:St) (te:TE) (J:It) (H1:Hp) (Q:VK):Prop:=∃W:Nat->Nat->List V->Hp->Prop,(∃m,W 0 m [] H1)/\∀i m ys H2,W i m ys H2->ys.length<=sizeLine /\
 ((J.stop i H2/\∀p,H2 p=none->Q (.ref p) (upd H2 p (.lst ys))) \/
  (J.go i H2/\∃N:List V->Hp->Prop,(∀ys' H',N ys' H'->∃m',m'<m/\W (i+1) m' ys' H')/\∀x H3,J.yld i H2 x H3->te (σ++[some x]) H3 fun y H4=>N (ys++[y]) H4))
noncomputable def ZmG (wi:TI) (te:TE):TE:=fun σ H Q=>wi σ H fun J H1=>ZnS σ te J H1 Q
section
variable {X:Cx}{pins:List (Addr×Obj)}{σ:St}{s₂:Shared}{H₂:Hp}{scope:Scope}{x:Str}{px:Pos}{elt iter:Expr}{pos:Pos}{te:TE}{J:It}{fp:List Addr}{it:Addr}{tn:Nat->Heap->Prop}
theorem ZjH {E:Value->Shared->Prop}{Q:VK}{RR:Value->Addr->Result->Shared->Prop} (I:Inv X pins σ H₂ s₂) (sc:Zbn X.N X.env.scope scope x) (hNd:X.N.Nodup) (hc:X.calm=true)
  (T:ZpU X.prog X.w X.K (.Name x px) J fp it tn) (st:tn 0 s₂.heap) (ff:∀b∈fp,Zk9 X pins H₂ b) (hw:ZnS σ te J H₂ Q)
  (he:∀C s₂ H₂ ex,PE (blk X scope x C ex s₂ H₂) elt te)
  (hRR:∀D C s' H' m',s₂.heap.objs.size<=C->Inv X pins σ H' s'->s'.heap.Ns C m'->H' C=none->Q (.ref D) H'->RR (.ref D) C (.ok .next) s') :
  wpAny (model X.prog X.w) X.A (newList []) (fun acc s₃=>wpAny (model X.prog X.w) X.A (newFunctionEnv scope X.env.globals (ZhG scope X.env) [] X.env.qual none .none (some X.env)) (fun cenv s₄ =>
   codeAny (model X.prog X.w) X.A (.compStart (.ListComp elt [⟨.Name x px,iter,[],0⟩] scope pos) 0 (.ref it) acc { cenv with scope:=relabel scope X.env }) (RR acc cenv.locals) s₄) E s₃) E s₂:=by
 refine wpAny_newObj_type (wpAny_newFunctionEnv sc.nc (by intro y hy;simp at hy) (fun h₁ hns₁ hsb₁=>?_) sc.kind)
 dsimp only at hns₁ hsb₁ ⊢
 generalize hP2:s₂.heap.push { cls:=.type "list",dict:=none,data:=.seq ([]:List Value).toArray }=P2 at hns₁ hsb₁ ⊢
 have hCs:P2.objs.size=s₂.heap.objs.size+1:=by rw[<- hP2,Heap.size_push]
 have hCle:s₂.heap.objs.size<=P2.objs.size:=by rw[hCs];exact Zvc _
 have hDC:s₂.heap.objs.size≠P2.objs.size:=by rw[hCs];exact Zt0 (Zu0 _)
 generalize hCe:P2.objs.size=C at hns₁ hsb₁ hCs hCle hDC ⊢
 generalize hDe:s₂.heap.objs.size=D at hCs hCle hDC ⊢
 have fo:∀b∈fp,∃o,s₂.heap.get? b=some o:=fun b hb=>let ⟨o,e,_⟩:=T.obj _ _ st b hb;⟨o,e⟩
 have flt:∀b∈fp,b<D:=fun b hb=>by obtain⟨o,e⟩:=fo b hb;rw[<- hDe];exact Heap.lt_size e
 have old:∀b o,s₂.heap.get? b=some o->h₁.get? b=some o:=fun b o e=>by
  have hb:=Heap.lt_size e
  exact hsb₁.extBut b o (Zt0 (by rw[hCs];exact Zup (hDe▸hb))) (Heap.get?_push_of_some _ (hP2▸Heap.get?_push_of_some _ e))
 have hacc:h₁.get? D=some { cls:=.type "list",data:=.seq ([]:List Value).toArray 0 }:=hsb₁.extBut _ _ hDC (Heap.get?_push_of_some _ (hP2▸hDe▸Heap.get?_push_size _ rfl))
 have okB:=Zrm (x:=x) (C:=C) I sc (by rw[hDe];exact hCle) ff fo
 have hfreshD:H₂ D=none:=I.hok.fresh (by rw[hDe];exact Ztj _)
 have hfreshC:H₂ C=none:=I.hok.fresh (by rw[hDe];exact hCle)
 have hxN:x ∉ X.N:=fun z=>sc.noN x z sc.var
 have ndB:(X.N++[x]).Nodup:=List.nodup_append.mpr ⟨hNd,by simp,fun a ha b hb=>by
  have:b=x:=by simpa using hb
  subst this;rintro rfl;exact hxN ha⟩
 have I0:Inv (blk X scope x C fp s₂ H₂) [(D,{ cls:=.type "list",data:=.seq ([]:List Value).toArray 0 })] (σ++[none]) H₂ { s₂ with heap:=h₁,toks:=s₂.toks+([]:List (Str×Value)).length }:=by
  refine⟨okB,rfl,I.bare,Un.kept old,⟨_,hns₁,fun i y v e1 e2 e3=>?_⟩,fun y c e=>?_,hfreshC,fun y c e=>I.freeC y c (UM (sc:=sc) I.ok e),fun p hp=>?_,I.hok.kept old,by simp[blk,I.len]⟩
  ·have hi:i<σ.length:=by
    by_cases hi:i<σ.length
    ·exact hi
    ·rw[Ztm (by omega)] at e2
     have:([none]:St)[i-σ.length]?=some (some v):=e2
     cases hj:i-σ.length with
     |zero=>rw[hj] at this;simp at this
     |succ j=>rw[hj] at this;simp at this
   rw[Ztl hi] at e2
   have e1':(X.N++[x])[i]?=some y:=e1
   rw[Ztl (by rw[<- I.len];exact hi)] at e1'
   have yN:y∈X.N:=Ztg e1'
   have e3':(relabel scope X.env).names.lookup y=some .local\/(relabel scope X.env).names.lookup y=some .cell\/(relabel scope X.env).names.lookup y=some .free:=e3
   have hcf:(relabel scope X.env).names.lookup y=some .cell\/(relabel scope X.env).names.lookup y=some .free:=by
    rcases e3' with z|z
    ·exact absurd ((ZJ sc.nc z).1 rfl) (sc.noN y yN)
    ·exact z
   have hfree:scope.names.lookup y=some .free:=by
    rcases hcf with z|z
    ·exact(ZJ sc.nc z).2 (.inl rfl)
    ·exact(ZJ sc.nc z).2 (.inr rfl)
   obtain⟨c,hcl⟩:=Zed (X:=X) hfree
   have hcx:=UM (sc:=sc) I.ok hcl
   have hvis:=sc.fr _ (PySem.mem_of_lookup hfree) rfl
   obtain⟨m,hn,hl⟩:=I.loc
   obtain⟨u,ru,hlook⟩:=hl i y v e1' e2 (.inr hvis)
   refine⟨u,ru,.inr ⟨hcf,c,hcl, ?_⟩⟩
   rcases hlook with ⟨k,_⟩|⟨k,c',ec,hcell⟩
   ·have k':X.env.scope.names.lookup y=some .local:=k
    have hv':X.env.scope.names.lookup y=some .cell\/X.env.scope.names.lookup y=some .free:=hvis
    rw[k'] at hv'
    rcases hv' with z|z<;>cases z
   ·rw[hcx] at ec;cases ec
    obtain⟨o,ho,hd⟩:=hcell
    exact⟨o,old _ _ ho,hd⟩
  ·obtain⟨v,o,ho,hd⟩:=I.cell y c (UM (sc:=sc) I.ok e)
   exact⟨v,o,old _ _ ho,hd⟩
  ·have e:p=(D,{ cls:=.type "list",data:=.seq ([]:List Value).toArray 0 }):=by simpa[blk] using hp
   subst e
   exact⟨hacc,hfreshD,hDC,(fun z=>by
    rcases Ztt.mp (I.stkSub D z) with e|e
    ·exact absurd I.lt (by rw[<- e,hDe];exact ZtU _)
    ·exact I.nofs (by rw[hDe];exact Ztj _) e),fun v z=>nomatch z⟩
 obtain⟨W,⟨m0,w0⟩,turn⟩:=hw
 have fpB:∀{H':Hp}{o:Obj},(∀b∈fp,H' b=none)->∀b∈fp,Zk9 (blk X scope x C fp s₂ H₂) [(D,o)] H' b:=fun {H' o} hn b hb=>by
  obtain⟨f0,f1,f2,f3,f4,f5⟩:=ff b hb
  obtain⟨g1,g2⟩:=okB.exf b hb
  exact⟨hn b hb,g1,okB.exfs b hb,.inl hb,g2,fun p hp=>by
   have e:p=(D,o):=by simpa[blk] using hp
   subst e
   exact(Zt0 (flt b hb)).symm⟩
 have hσ:σ.length=X.N.length:=I.len
 have loop:∀s₃:Shared,s₃={ s₂ with heap:=h₁,toks:=s₂.toks+([]:List (Str×Value)).length } ->
   codeAny (model X.prog X.w) X.A (.compLoop (.ListComp elt [⟨.Name x px,iter,[],0⟩] scope pos) 0 (.ref it) (.ref D) (compEnvC scope (ZhG scope X.env) C X.env)) (RR (.ref D) C) s₃:=by
  rintro s₃ rfl
  refine codeAny_compLoop_tests
   (fun n s'=>∃i ys its k σx H',Inv (blk X scope x C fp s₂ H₂) [(D,{ cls:=.type "list",data:=.seq (List.toArray its) k })] (σ++[σx]) H' s'/\tn i s'.heap/\(∀b∈fp,H' b=none)/\Wy ys its/\W i n ys H') ?_ m0
   ⟨0,[],[],0,none,H₂,I0,T.keep _ _ _ st (fun b hb o e=>old b o e),fun b hb=>(ff b hb).1,.nil,w0⟩
  rintro n s' ⟨i,ys,its,k,σx,H',I',st',fr',rv,w'⟩
  obtain⟨hz,hcase⟩:=turn i n ys H' w'
  have hpinD:=I'.pin (D,{ cls:=.type "list",data:=.seq (List.toArray its) k }) (by simp[blk])
  rcases hcase with ⟨stop,q⟩|⟨go,N,hN,step⟩
  ·refine thn (T.done (blk X scope x C fp s₂ H₂) rfl rfl rfl hc i _ s' _ H' _ I' (fpB fr') st' stop) fun r s4 ⟨hr,I4⟩=>?_
   subst hr
   have pD:=I4.pin (D,{ cls:=.type "list",data:=.seq (List.toArray its) k }) (by simp[blk])
   obtain⟨m4,hn4,_⟩:=I4.loc
   have IX:Inv X pins σ H' s4:=I.call' I4.os I4.base I4.hok I4.bare fun b hb=>by
    obtain⟨f0,f1,f2,f3,f4,f5⟩:=ff b hb
    exact⟨f3,f1,f4,f5⟩
   have IX2:=IX.adopt (D:=D) (ys:=ys) (its:=its) (n:=k) hpinD.2.1 (by rw[<- hDe];exact I.sz) (by rw[<- hDe];exact Zu4 I.lt)
    (fun y c e z=>by
     obtain⟨v,o,ho,hd⟩:=I.cell y c e
     have:=Heap.lt_size ho
     rw[hDe,z] at this
     exact ZtU _ this)
    (fun p hp z=>by
     have:=Heap.lt_size (I.pin p hp).1
     rw[hDe,z] at this
     exact ZtU _ this) pD.1 rv hz
   refine hRR D C s4 _ m4 (by rw[hDe];exact hCle) IX2 hn4 ?_ (q D hpinD.2.1)
   rw[ZQ (Ne.symm hDC)]
   exact I4.free
  ·refine thn (T.item (blk X scope x C fp s₂ H₂) rfl rfl rfl hc i _ s' _ H' _ I' (fpB fr') st' go) fun r s4 ⟨u,hr,h4⟩=>?_
   subst hr
   show wpAny _ _ (letOwnedTupleGo (.Name x px) (.ref it) u >>= fun _=>assign (.Name x px) (compEnvC scope (ZhG scope X.env) C X.env) u) _ _ s4
   refine wpAny_bind (thn h4 fun _ s5 ⟨y,H5,I5,r5,y5,st5,fr5⟩=>?_)
   have I5':=I5.pinned (fpB fr5) (T.obj _ _ st5)
   refine wpAny_assign_Name ?_
   refine Zcf (X:=blk X scope x C fp s₂ H₂) (i:=X.N.length) (x:=x) (v:=y) I5' ndB (by simp[blk]) (.inl (lookup_relabel_local sc.var)) r5 (fun s6 I6=>?_) (.inr (lookup_relabel_local sc.var))
   have eσ:(σ++[σx]).set X.N.length (some y)=σ++[some y]:=by
    rw[<- hσ];simp
   rw[eσ] at I6
   refine wpAny_tests_nil ?_
   simp only[if_true]
   refine wpAny_mono (he C s₂ H₂ fp _ s6 _ H5 _ I6 (step y H5 y5)) (fun u7 s7 h7=>?_) fun _ _ f=>f.elim
   obtain⟨v7,H7,I7,r7,n7⟩:=h7
   have pD7:=I7.pin (D,{ cls:=.type "list",data:=.seq (List.toArray its) k }) (by simp[blk])
   have hlen:=rv.length
   refine append_at (hsz:=by show its.toArray.size<=sizeLine;rw[Ztp,<- hlen];exact hz) pD7.1 fun h8 hs8 hD8=>?_
   obtain⟨m',hm,w8⟩:=hN _ _ n7
   have hD8':h8.get? D=some { cls:=.type "list",data:=.seq (its++[u7]).toArray (k+1) }:=by rw[hD8,List.push_toArray]
   have I8:Inv (blk X scope x C fp s₂ H₂) [] (σ++[some y]) H7 { s7 with heap:=h8 }:=by
    refine(I7.pins_of (pins':=[]) fun p hp=>absurd hp (by simp)).turned (t':=s7.toks) (it:=D) (fun b o hb e=>(hs8.2 b hb).trans e) pD7.2.1 pD7.2.2.1 (.inr (by show s₂.heap.objs.size<=D;rw[hDe];exact Ztj _)) (fun y' c' e' z=>?_) fun p hp=>absurd (show p∈([]:List (Addr×Obj)) from by simpa[blk] using hp) (by simp)
    obtain⟨v,o,ho,hd⟩:=I.cell y' c' (UM (sc:=sc) I.ok e')
    have:=Heap.lt_size ho
    rw[hDe,z] at this
    exact ZtU _ this
   refine⟨m',hm,i+1,ys++[v7],its++[u7],k+1,some y,H7,I8.pins_of fun p hp=>?_, ?_,fun b hb=>?_,rv.append (.cons r7 .nil),w8⟩
   ·have e:p=(D,{ cls:=.type "list",data:=.seq (its++[u7]).toArray (k+1) }):=by simpa using hp
    subst e
    exact⟨hD8',pD7.2.1,pD7.2.2.1,pD7.2.2.2.1,fun v z=>nomatch z⟩
   ·refine T.keep _ _ _ st5 fun b hb o e=>?_
    have hpb:=I7.pin (b,o) (Zth _ (Zth _ (J9 hb e)))
    exact(hs8.2 b (Zt0 (flt b hb))).trans hpb.1
   ·obtain⟨o,e,d⟩:=T.obj _ _ st5 b hb
    exact(I7.pin (b,o) (Zth _ (Zth _ (J9 hb e)))).2.1
 exact codeAny_compStart_list (loop _ rfl) (T.self _ 0 _ _ _ (T.keep _ _ _ st fun b hb o e=>old b o e) (loop _ rfl))
theorem ZcK {wi:TI} (hi:PI X (.Name x px) iter wi) (he:∀C s₂ H₂ ex,PE (blk X scope x C ex s₂ H₂) elt te) (hNd:X.N.Nodup) (hc:X.calm=true)
  (hclos:closureFor scope X.env=pure (ZhG scope X.env):=by rfl) (hchk:ZeS X.N X.env.scope scope x=true:=by rfl) (hs:∀x,foldedSetIterable iter X.env x=pure x:=by exact fun _=>rfl) :
  PE X (.ListComp elt [⟨.Name x px,iter,[],0⟩] scope pos) (ZmG wi te):=by
 intro pins s σ H Q I h
 have sc:=Zbn.of hchk
 rw[eval_ListComp]
 refine wpAny_comprehension_free (use:=none) rfl hs hclos sc.kind sc.locs (thn (hi pins s σ H _ I h) fun xv s₁ h₁=>thn h₁ fun itv s₂ h₂=>?_)
 obtain⟨it,fp,tn,J,H2,e,I2,T,st2,f2,q⟩:=h₂
 subst e
 refine ZjH (RR:=fun acc C=>compPost (model X.prog X.w) X.A X.xe none (EP X pins σ Q) acc C) I2 sc hNd hc T st2 f2 q he ?_
 intro D C s' H' m' hC I' hn hC0 hq
 refine⟨m',hn,fun h'' hs''=>⟨.ref D,H', ?_,rfl,hq⟩⟩
 refine I'.turned (t':=s'.toks) (it:=C) (fun b o hb e=>(hs''.2 b hb).trans e) hC0 (Zu4 (Ztw I2.lt hC)) (.inr (Zt5 I2.sz hC)) (fun y c e z=>?_) fun p hp z=>?_
 ·obtain⟨v,o,ho,hd⟩:=I2.cell y c e
  exact absurd (Heap.lt_size ho) (ZuN.mpr (by rw[z];exact hC))
 ·exact absurd (Heap.lt_size (I2.pin p hp).1) (ZuN.mpr (by rw[z];exact hC))
noncomputable def ZiT (i:Nat) (wi:TI) (te:TE):TS:=fun D σ H=>ZmG wi te σ H fun v H'=>D.nx (σ.set i (some v)) H'
theorem ZfF {i:Nat}{y:Str}{py spos:Pos}{wi:TI} (hN:X.N.Nodup) (hi:X.N[i]?=some y) (hit:PI X (.Name x px) iter wi) (he:∀C s₂ H₂ ex,PE (blk X scope x C ex s₂ H₂) elt te) (hc:X.calm=true)
  (hsw:swapsWith (.ListComp elt [⟨.Name x px,iter,[],0⟩] scope pos) (some (.Name y py)) spos.line X.env=pure true:=by rfl) (hy:X.env.scope.names.lookup y=some .local:=by rfl)
  (hclos:closureFor scope X.env=pure (ZhG scope X.env):=by rfl) (hchk:ZeS X.N X.env.scope scope x=true:=by rfl) (hs:∀x,foldedSetIterable iter X.env x=pure x:=by exact fun _=>rfl) :
  PS X (.Assign [.Name y py] (.ListComp elt [⟨.Name x px,iter,[],0⟩] scope pos) spos) (ZiT i wi te):=by
 intro pins s σ H D0 I h
 have sc:=Zbn.of hchk
 rw[exec_Assign_Name_used _ _ _ _ hsw]
 refine wpAny_bind (wpAny_standAt (wpAny_bind ?_))
 show wpAny _ X.A (do let _ <- comprehension (.ListComp elt [⟨.Name x px,iter,[],0⟩] scope pos) scope X.env _ (newList []) false (eval iter X.env) (some (assign (.Name y py) X.env))) _ _ s
 refine wpAny_bind (wpAny_mono (wpAny_comprehension_free (use:=some (assign (.Name y py) X.env)) (Q:=fun _ s'=>SP X pins D0 .next s') rfl hs hclos sc.kind sc.locs
  (thn (hit pins s σ H _ I h) fun xv s₁ h₁=>thn h₁ fun itv s₂ h₂=>?_)) (fun _ s' hq=>wpAny_pure (wpAny_pure hq)) fun _ _ e=>e)
 obtain⟨it,fp,tn,J,H2,e,I2,T,st2,f2,q⟩:=h₂
 subst e
 refine ZjH (RR:=fun acc C=>compPost (model X.prog X.w) X.A X.xe (some (assign (.Name y py) X.env)) (fun _ s'=>SP X pins D0 .next s') acc C) I2 sc hN hc T st2 f2 q he ?_
 intro D C s' H' m' hC I' hn hC0 hq
 show wpAny _ X.A (assign (.Name y py) X.env (.ref D)) _ _ _
 have cellC:∀y c,X.env.cells.lookup y=some c->c≠C:=fun y c e z=>by
  obtain⟨v,o,ho,hd⟩:=I2.cell y c e
  exact absurd (Heap.lt_size ho) (ZuN.mpr (by rw[z];exact hC))
 have locC:C≠X.env.locals:=Zu4 (Ztw I2.lt hC)
 refine wpAny_assign_Name (Zel (i:=i) (v:=.ref D) I' hN hi (.inl hy) rfl (fun s'' I'' ⟨a,hsa,ha⟩=>?_) (.inr hy))
 have hCa:C≠a:=by
  rcases ha with z|z
  ·rw[z];exact locC
  ·exact(cellC _ _ z).symm
 refine⟨m',hn.sameBut hsa hCa,fun h'' hs''=>⟨σ.set i (some (.ref D)),H', ?_,hq⟩⟩
 refine I''.turned (t':=s''.toks) (it:=C) (fun b o hb e=>(hs''.2 b hb).trans e) hC0 locC (.inr (Zt5 I2.sz hC)) cellC fun p hp z=>?_
 exact absurd (Heap.lt_size (I2.pin p hp).1) (ZuN.mpr (by rw[z];exact hC))
end
end L2
namespace HL
open PySem PyProof.Rows
section
open PySem.SeqAt
open PySem.AutoSeq1 (wpAny_loadPart')
open PySem.MeetsSeq PySem.MeetsSeq2 PySem.MeetsSeq3 SeqRoads2
theorem Zah:∀{vs:List Value}{ns:List Int}{i:Nat} (_:IntsAre vs ns) (h1:i<vs.length) (h2:i<ns.length),∃t,vs[i]=Value.int ns[i] t
 |_,_,0,.cons n t _,_,_=>⟨t,rfl⟩
 |_,_,i+1,.cons n t h,h1,h2=>by
  obtain⟨u,e⟩:=Zah (i:=i) h (by simpa using h1) (by simpa using h2)
  exact⟨u,by simpa using e⟩
theorem Zpf (l b:Addr) (items items2:Array Value) (n n2:Nat) (dd dd2:Option Addr) (sl sl2:Array (Option Value)) (ns ms:List Int) (hi:IntsAre items.toList ns) (hj:IntsAre items2.toList ms) (k:Nat) :
  ∀i:Nat,min items.size items2.size-i=k->i<=min items.size items2.size->Meets (Builtin.«list.__eq__.loop» ⟨[.ref l,.ref b,rawInt i,rawInt 0],[]⟩)
   (fun A R s=>s.heap.get? l=some { cls:=.type "list",dict:=dd,data:=.seq items n,slots:=sl }/\s.heap.get? b=some { cls:=.type "list",dict:=dd2,data:=.seq items2 n2,slots:=sl2 } /\
    R (.ok (.ret (.bool (HT.Ye (ns.drop i) (ms.drop i))))) s):=by
 have z1:items.size=ns.length:=by rw[<- hi.length];simp
 have z2:items2.size=ms.length:=by rw[<- hj.length];simp
 induction k with
 |zero =>
  intro i hk hle prog w A R s h
  obtain⟨hp,g,d,tk,os⟩:=s;obtain⟨hl,hb,h⟩:=h
  have hmin:min items.size items2.size=i:=by omega
  have fin:HT.Ye (ns.drop i) (ms.drop i)=decide (items.size<items2.size):=by
   rw[z1,z2] at hmin ⊢
   by_cases h1:ns.length<=i
   ·rw[Zuk h1]
    by_cases h2:ms.length<=i
    ·rw[Zuk h2,HT.Zgr]
     exact(decide_eq_false (by omega)).symm
    ·rw[Zty (by omega),HT.Zfn]
     exact(decide_eq_true (by omega)).symm
   ·rw[Zty (by omega),Zuk (l:=ms) (by omega),HT.Zfo]
    exact(decide_eq_false (by omega)).symm
  rw[fin] at h
  wp_walk using wpAny_loadPart' hl,wpAny_loadPart' hb
  by_cases h1:items.size<=i
  ·have hi1:items[((i:Nat):Int).toNat]?=none:=by simp;omega
   rw[hi1]
   cases h2:items2[((i:Nat):Int).toNat]? <;>
   ·wp_walk using wpAny_loadPart' hl,wpAny_loadPart' hb
    exact h
  ·have hi1:items[((i:Nat):Int).toNat]?=some (items[i]'(by omega)):=by simp
   have hi2:items2[((i:Nat):Int).toNat]?=none:=by simp;omega
   rw[hi1,hi2]
   wp_walk using wpAny_loadPart' hl,wpAny_loadPart' hb
   exact h
 |succ k ih =>
  intro i hk hle prog w A R s h
  obtain⟨hp,g,d,tk,os⟩:=s;obtain⟨hl,hb,h⟩:=h
  wp_walk using wpAny_loadPart' hl,wpAny_loadPart' hb
  have hlt:i<items.size:=by omega
  have hlt2:i<items2.size:=by omega
  have hn1:i<ns.length:=by omega
  have hn2:i<ms.length:=by omega
  have hi1:items[((i:Nat):Int).toNat]?=some items[i]:=by simp[hlt]
  have hi2:items2[((i:Nat):Int).toNat]?=some items2[i]:=by simp[hlt2]
  have hc:((i:Int)+1)=((i+1:Nat):Int):=by push_cast;rfl
  obtain⟨t,e1⟩:∃t,items[i]=Value.int ns[i] t:=by
   obtain⟨t,e⟩:=Zah hi (i:=i) (by simpa using hlt) hn1
   exact⟨t,by simpa using e⟩
  obtain⟨u,e2⟩:∃t,items2[i]=Value.int ms[i] t:=by
   obtain⟨t,e⟩:=Zah hj (i:=i) (by simpa using hlt2) hn2
   exact⟨t,by simpa using e⟩
  rw[Zty hn1,Zty hn2,HT.JB] at h
  rw[hi1,hi2,e1,e2]
  obtain⟨e,he,hiff⟩:=HT.Zj9 A.in1 ⟨hp,g,d,tk,os⟩ ns[i] t ms[i] u
  refine wpAny_bind (he prog w _ _ ?_)
  cases e with
  |true =>
   rw[if_pos (hiff.mp rfl)] at h
   wp_walk
   rw[hc]
   exact⟨plainId_quiet plain_eq_loop _,codeAny_builtin entry_eq_loop (by
    rw[Around.under_plainId plain_eq_loop _]
    exact ih (i+1) (by omega) (by omega) prog w A R _ ⟨hl,hb,h⟩)⟩
  |false =>
   rw[if_neg (fun q=>absurd (hiff.mpr q) Bool.false_ne_true)] at h
   wp_walk using wpAny_loadPart' hl,wpAny_loadPart' hb
   rw[hi1,hi2,e1,e2]
   have hri:=HT.Zji A.in1 ⟨hp,g,d,tk,os⟩ ns[i] t ms[i] u prog w
   wp_walk using hri
   exact h
theorem Zhn (l b:Addr) (items items2:Array Value) (n n2:Nat) (dd dd2:Option Addr) (sl sl2:Array (Option Value)) (ns ms:List Int) (hi:IntsAre items.toList ns) (hj:IntsAre items2.toList ms) :
  Meets (Builtin.«list.__lt__» ⟨[.ref l,.ref b],[]⟩)
   (fun _ R s=>s.heap.get? l=some { cls:=.type "list",dict:=dd,data:=.seq items n,slots:=sl }/\s.heap.get? b=some { cls:=.type "list",dict:=dd2,data:=.seq items2 n2,slots:=sl2 } /\
    R (.ok (.ret (.bool (HT.Ye ns ms)))) s):=by
 intro prog w A R s h
 obtain⟨hp,g,d,tk,os⟩:=s;obtain⟨hl,hb,h⟩:=h
 have f3:=AutoSeq1.sub_list_list
 wp_walk using wpAny_loadPart' hl,wpAny_loadPart' hb
 exact⟨plainId_quiet plain_eq_loop _,codeAny_builtin entry_eq_loop (by
  rw[Around.under_plainId plain_eq_loop _]
  exact Zpf l b items items2 n n2 dd dd2 sl sl2 ns ms hi hj _ 0 rfl (ZtB _) prog w A R _ ⟨hl,hb,by simpa using h⟩)⟩
end
section
variable {prog:Program}{w:World}{A:Around}{E:Value->Shared->Prop}{s:Shared}
theorem ZfC {l b:Addr}{items items2:Array Value}{ns ms:List Int}{Q:Value->Shared->Prop} (hl:s.heap.IsList l items) (hb:s.heap.IsList b items2) (hi:IntsAre items.toList ns) (hj:IntsAre items2.toList ms)
  (hu:A.units<cLine) (h:Q (.bool (HT.Ye ns ms)) s):wpAny (model prog w) A (richCompare .Lt (.ref l) (.ref b)) Q E s:=by
 obtain⟨⟨cls,dd,data,sl⟩,ho,hc,n,hd⟩:=id hl
 obtain⟨⟨cls2,dd2,data2,sl2⟩,ho2,hc2,n2,hd2⟩:=id hb
 simp only at hc hd hc2 hd2
 subst hc hd hc2 hd2
 exact richCompare_meets_room (op:=.Lt) ⟨_,ho,rfl⟩ ⟨_,ho2,rfl⟩ PySem.F.slot_list_lt PySem.F.entry_list_lt (PySem.F.args_list_lt_2 _ _) (Zhn l b items items2 n n2 dd dd2 sl sl2 ns ms hi hj)
  ⟨ho,ho2,show Value.bool (HT.Ye ns ms)≠Value.notImplemented/\Q (.bool (HT.Ye ns ms)) s from ⟨(fun x=>nomatch x),h⟩⟩ hu
end
end HL
namespace L2
open PySem PySem.Spec PyProof.Rows
section
variable {X:Cx}
theorem ZgO {ns:List Int}{its:List Value} (r:Wy (ns.map V.int) its) {j:Nat} (h:j<its.length):∃t,its[j]=Value.int (ns.getD j 0) t:=by
 have hl:=r.length
 rw[Zto] at hl
 obtain⟨t,e⟩:=HL.Zah (U0 r) h (by omega)
 exact⟨t,by rw[e,Zte,Ztf (by omega)];rfl⟩
theorem Zko {A:Around}{s:Shared}{ns ms:List Int}{its its2:List Value} (r:Wy (ns.map V.int) its) (r2:Wy (ms.map V.int) its2) (j:Nat) (h1:j<its.toArray.size) (h2:j<its2.toArray.size) :
  SeqAt.EqAt A s its.toArray[j] its2.toArray[j] (ns.getD j 0==ms.getD j 0):=by
 obtain⟨t,e⟩:=ZgO r (j:=j) (by simpa using h1)
 obtain⟨u,e2⟩:=ZgO r2 (j:=j) (by simpa using h2)
 have a1:its.toArray[j]=Value.int (ns.getD j 0) t:=by simpa using e
 have a2:its2.toArray[j]=Value.int (ms.getD j 0) u:=by simpa using e2
 rw[a1,a2]
 exact SeqAt.EqAt.int_int _ t _ u
theorem ZiI:∀{ns ms:List Int},ns.length=ms.length->((List.range ns.length).all fun j=>ns.getD j 0==ms.getD j 0)=decide (ns=ms):=by
 intro ns ms hl
 rw[Bool.eq_iff_iff,Zt1,decide_eq_true_iff]
 constructor
 ·intro h
  apply ZuB hl
  intro i h1 h2
  have:=beq_iff_eq.mp (h i (Ztu.mpr h1))
  rw[Zte,Zte,Ztf h1,Ztf h2] at this
  exact this
 ·intro h i _
  rw[h];simp
theorem Zi4 {s:Shared}{a b:Addr}{ns ms:List Int}{its its2:List Value}{A:Around} (hu:A.units<cLine) (p1:s.heap.IsList a its.toArray) (p2:s.heap.IsList b its2.toArray) (r1:Wy (ns.map V.int) its) (r2:Wy (ms.map V.int) its2) :
  SeqAt.RcAt A s (.ref a) (.ref b) (decide (ns=ms)):=by
 have l1:=r1.length
 have l2:=r2.length
 rw[Zto] at l1 l2
 by_cases hl:ns.length=ms.length
 ·have:=SeqAt.RcAt.lists (A:=A) p1 p2 (by simp;omega) hu (fun j h1 h2=>Zko (A:=A.in1) (s:=s) r1 r2 j h1 h2)
  rw[Ztp,<- l1,ZiI hl] at this
  exact this
 ·have:=SeqAt.RcAt.lists_lengths (A:=A) p1 p2 (by simp;omega) hu
  rw[show decide (ns=ms)=false from decide_eq_false (fun e=>hl (by rw[e]))]
  exact this
theorem Zhi {l:Addr}{i:Int}{its:List Value} (r:Wy [V.ref l,V.int i] its):∃t,its=[Value.ref l,Value.int i t]:=by
 obtain⟨u,w',rfl,r1,t,rfl⟩:=ZpX r
 cases r1
 exact⟨t,rfl⟩
theorem ZnG (hc:X.calm=true):QD X (.builtin "sum") (fun xs H Q=>∃p,∃ns:List Int,xs=[.ref p]/\SqL X.K H p (ns.map V.int)/\Q (.int ns.sum) H):=by
 intro pins s σ H xs us Q I r h
 obtain⟨p,ns,rfl,hq,q⟩:=h
 obtain⟨u,rfl,rx⟩:=Zid r
 cases rx
 obtain⟨its,r',pl,hz⟩:=I.list hq
 have hi:IntsAre its ns:=U0 r'
 obtain⟨xs,hx⟩:=hi.allInts.items
 have hl':s.heap.IsList p (intItems xs):=hx▸pl.isList
 refine sum_intListG (I.ok.hd hc) hl' fun h' tk t' hk=>?_
 have e1:ns=xs.toList.map (·.1):=by
  rw[<- nums_intItems,<- hx]
  exact(show numsOf its.toArray.toList=ns from hi.numsOf).symm
 have e2:preSum (numAt xs) xs.size=ns.sum:=by
  rw[preSum_eq,ZtD (by simp),e1]
 rw[e2]
 exact⟨.int ns.sum,H,I.kept hk,⟨_,rfl⟩,q⟩
theorem ZeV:∀{bs:List Bool}{us:List Value},Wy (bs.map V.bl) us->LSm.BoolsAre us bs
 |[],_,.nil=>.nil
 |b::bs,_,.cons r t=>by
  cases r
  exact .cons b (ZeV t)
theorem ZnH (hc:X.calm=true):QD X (.builtin "all") (fun xs H Q=>∃p,∃bs:List Bool,xs=[.ref p]/\SqL X.K H p (bs.map V.bl)/\Q (.bl (bs.all id)) H):=by
 intro pins s σ H xs us Q I r h
 obtain⟨p,bs,rfl,hq,q⟩:=h
 obtain⟨u,rfl,rx⟩:=Zid r
 cases rx
 obtain⟨its,r',pl,hz⟩:=I.list hq
 have hb:=ZeV r'
 have hlt:p<s.heap.objs.size:=by obtain⟨_,e,_⟩:=pl.isList;exact Heap.lt_size e
 refine call_all_walk (wpAny_pyIter_list pl.isList ?_)
 refine⟨s.heap.objs.size,[s.heap.objs.size,p],[s.heap.objs.size],its.toArray.size,_,_,fun i=>(bs[i]?).getD true,rfl,Walks.list (A:=X.A.in1) (I.ok.hd hc) _ p (Zt0 hlt) its.toArray,
  ⟨⟨_,Heap.get?_push_size _ rfl,rfl,rfl⟩,pl.isList.push _⟩,fun i v s' Q' E' hP hQ=>?_,fun h' tk hk=>?_⟩
 ·obtain⟨b,e,rfl⟩:=hb.get i v (by simpa using hP)
  dsimp only at hQ
  rw[e,Zur] at hQ
  exact wpAny_truthy_bool hQ
 ·rw[Ztp,hb.length,LSm.range_all]
  exact⟨.bl (bs.all id),H,I.kept (LSm.kept_iter hk),rfl,q⟩
end
end L2
namespace HL
open PySem PyProof.Rows
section
variable {prog:Program}{w:World}{A:Around}{R:Result->Shared->Prop}{I:Addr}{fp wr:List Addr}{n:Nat}{P:Nat->Value->Prop}{St:Nat->Heap->Prop}
def ZsF (prog:Program) (w:World) (A:Around) (P:Nat->Value->Prop) (bt:Nat->Nat->Bool) (wr:List Addr) (S:Addr) (hb:Heap):Prop:=
 ∀i j vi vj (s:Shared) (Q:Value->Shared->Prop) (E:Value->Shared->Prop),P i vi->P j vj->(∀b o,b ∉ wr->b≠S->hb.get? b=some o->s.heap.get? b=some o)->Q (.bool (bt i j)) s ->
  wpAny (model prog w) A (richCompare .Lt vi vj) Q E s
theorem ZlC (W:Walks prog w A.in1 I fp wr n P St) (bt:Nat->Nat->Bool) (S:Addr) (hSf:S ∉ fp) (hb:Heap) (hcmp:ZsF prog w A.in1 P bt wr S hb) :
  ∀(k j:Nat) (s:Shared) (vb:Value) (c:Nat),n-(j+1)=k->j+1<=n->St (j+1) s.heap->P (argBest bt j) vb ->
  s.heap.get? S=some { cls:=.type "list",dict:=none,data:=.seq #[vb,vb] c,slots:=#[] }->(∀b o,b ∉ wr->b≠S->hb.get? b=some o->s.heap.get? b=some o) ->
  (∀v h' tk,P (argBest bt (n-1)) v->(∀b o,b ∉ wr->b≠S->hb.get? b=some o->h'.get? b=some o)->R (.ok (.ret v)) { s with heap:=h',toks:=tk }) ->
  codeAny (model prog w) A (.builtin "min.loop" ⟨[.ref I,.none,.ref S],[]⟩) R s:=by
 have hSw:S ∉ wr:=by intro h;exact hSf (W.sub _ h)
 have hnm:(toString "min" ++ toString ".loop":String) = "min.loop":=by decide
 intro k
 induction k with
 |zero =>
  intro j s vb c hk hj hst hPb hS hold hR
  have hjn:j+1=n:=by omega
  refine codeAny_builtin F.entry_min_loop ?_
  rw[Around.under_plainId F.plain_min_loop]
  show wpAny _ A.in1 (seqItems? (.ref S) >>= _) _ _ s
  refine wpAny_bind (wpAny_seqItems hS rfl ?_)
  show wpAny _ A.in1 (tryCatch (pyNext (.ref I)) _ >>= _) _ _ s
  refine wpAny_bind (wpAny_tryCatch (W.done s _ _ (hjn▸hst) fun h' tk hk'=>?_))
  have hS':=hk' S _ hSw hS
  show wpAny _ A.in1 (updateSeq S (fun _=>#[]) >>= _) _ _ _
  refine wpAny_bind (wpAny_updateSeq hS' rfl (wpAny_bind (wpAny_letGo (wpAny_pure ?_))))
  refine hR vb _ tk (by rw[<- hjn];exact hPb) fun b o hbw hbS e=>?_
  exact(Heap.get?_update_other _ _ (Ne.symm hbS)).trans (hk' b o hbw (hold b o hbw hbS e))
 |succ k ih =>
  intro j s vb c hk hj hst hPb hS hold hR
  have hltn:j+1<n:=by omega
  refine codeAny_builtin F.entry_min_loop ?_
  rw[Around.under_plainId F.plain_min_loop]
  show wpAny _ A.in1 (seqItems? (.ref S) >>= _) _ _ s
  refine wpAny_bind (wpAny_seqItems hS rfl ?_)
  show wpAny _ A.in1 (tryCatch (pyNext (.ref I)) _ >>= _) _ _ s
  refine wpAny_bind (wpAny_tryCatch (W.item (j+1) s _ _ hltn hst fun v h' tk hP hst' hk'=>?_))
  have hS':=hk' S _ hSw hS
  have hold':∀b o,b ∉ wr->b≠S->hb.get? b=some o->h'.get? b=some o:=fun b o hbw hbS e=>hk' b o hbw (hold b o hbw hbS e)
  show wpAny _ A.in1 (tryCatch (holding [v,v] (richCompare .Lt v vb >>= _)) _ >>= _) _ _ _
  refine wpAny_bind (wpAny_tryCatch (wpAny_holding (wpAny_bind (hcmp (j+1) (argBest bt j) v vb { s with heap:=h',toks:=tk } _ _ hP hPb hold' ?_))))
  refine wpAny_bind (wpAny_holding (wpAny_truthy_bool ?_))
  refine wpAny_bind (wpAny_letGo (wpAny_pure ?_))
  cases hbt:bt (j+1) (argBest bt j) with
  |true =>
   simp only[if_true]
   refine wpAny_bind (wpAny_updateSeq hS' rfl (wpAny_bind (wpAny_letGo ?_)))
   rw[hnm]
   refine wpAny_pure ⟨plainId_quiet F.plain_min_loop _,ih (j+1) _ v _ (by omega) hltn (W.frame _ _ _ hst' fun b hbf o e=>?_) (by simp only[argBest,hbt,if_true];exact hP) (Heap.get?_update_self _ hS' rfl) (fun b o hbw hbS e=>?_)
    fun v' h'' tk'' hP' hk''=>hR v' h'' tk'' hP' hk''⟩
   ·exact(Heap.get?_update_other _ _ (fun z:S=b=>hSf (by rw[z];exact hbf))).trans e
   ·exact(Heap.get?_update_other _ _ (Ne.symm hbS)).trans (hold' b o hbw hbS e)
  |false =>
   simp only[Bool.false_eq_true,if_false]
   refine wpAny_bind (wpAny_letGo ?_)
   rw[hnm]
   exact wpAny_pure ⟨plainId_quiet F.plain_min_loop _,ih (j+1) _ vb c (by omega) hltn hst' (by simp only[argBest,hbt,Bool.false_eq_true,if_false];exact hPb) hS' hold' fun v' h'' tk'' hP' hk''=>hR v' h'' tk'' hP' hk''⟩
end
section
variable {prog:Program}{w:World}{A:Around}{E:Value->Shared->Prop}{s:Shared}
theorem ZhH {x:Value}{Q:Value->Shared->Prop}
  (h:wpAny (model prog w) A.in1 (pyIter x) (fun it s₂=>∃I fp wr n P St bt,it=.ref I/\Walks prog w A.in1 I fp wr n P St/\St 0 s₂.heap/\(∀b∈fp,b<s₂.heap.objs.size)/\0<n/\ZsF prog w A.in1 P bt wr s₂.heap.objs.size s₂.heap /\
   ∀v h' tk,P (argBest bt (n-1)) v->(∀b o,b ∉ wr->s₂.heap.get? b=some o->h'.get? b=some o)->Q v { s₂ with heap:=h',toks:=tk }) E s) :
  wpAny (model prog w) A (call (.builtin "min") [x]) Q E s:=by
 have hnm:(toString "min" ++ toString ".loop":String) = "min.loop":=by decide
 refine call_function_tree F.kind_min F.plain_min F.entry_min (F.args_min1 _) ?_
 show wpAny _ A.in1 (Builtin.Builtins.bindParams "min" ["key", "default"] 0 ⟨[],[]⟩ >>= _) _ _ s
 refine wpAny_bind (wpAny_of_eq (show Builtin.Builtins.bindParams "min" ["key", "default"] 0 ⟨[],[]⟩=pure [none,none] from rfl) (wpAny_bind (wpAny_pure ?_)))
 refine wpAny_bind (wpAny_mono h (fun it s₂ h₂=>?_) fun _ _ e=>e)
 obtain⟨I,fp,wr,n,P,St,bt,rfl,W,hst,hfp,hn,hcmp,hQ⟩:=h₂
 refine wpAny_bind (wpAny_newObj_type ?_)
 have hSf:s₂.heap.objs.size ∉ fp:=fun z=>absurd (hfp _ z) (ZtU _)
 have hSw:s₂.heap.objs.size ∉ wr:=fun z=>hSf (W.sub _ z)
 rw[hnm]
 refine wpAny_pure ⟨plainId_quiet F.plain_min_loop _, ?_⟩
 generalize hs3:({ s₂ with heap:=s₂.heap.push { cls:=.type "list",dict:=none,data:=.seq ([]:List Value).toArray } }:Shared)=s3
 have k3:∀b o,s₂.heap.get? b=some o->s3.heap.get? b=some o:=fun b o e=>by rw[<- hs3];exact Heap.get?_push_of_some _ e
 have st3:St 0 s3.heap:=W.frame _ _ _ hst fun b _ o e=>k3 b o e
 have hS3:s3.heap.get? s₂.heap.objs.size=some { cls:=.type "list",dict:=none,data:=.seq #[] 0,slots:=#[] }:=by rw[<- hs3];exact Heap.get?_push_size _ rfl
 have e3:∀h' tk,({ s3 with heap:=h',toks:=tk }:Shared)={ s₂ with heap:=h',toks:=tk }:=fun h' tk=>by rw[<- hs3]
 refine codeAny_builtin F.entry_min_loop ?_
 rw[Around.under_plainId F.plain_min_loop]
 show wpAny _ A.in1 (seqItems? (.ref s₂.heap.objs.size) >>= _) _ _ s3
 refine wpAny_bind (wpAny_seqItems hS3 rfl ?_)
 show wpAny _ A.in1 (tryCatch (pyNext (.ref I)) _ >>= _) _ _ s3
 refine wpAny_bind (wpAny_tryCatch (W.item 0 s3 _ _ hn st3 fun v h' tk hP hst' hk'=>?_))
 have hS':=hk' _ _ hSw hS3
 show wpAny _ A.in1 (updateSeq s₂.heap.objs.size (fun _=>#[v,v]) >>= _) _ _ _
 refine wpAny_bind (wpAny_updateSeq hS' rfl ?_)
 rw[hnm]
 refine wpAny_pure ⟨plainId_quiet F.plain_min_loop _,ZlC W bt s₂.heap.objs.size hSf s₂.heap hcmp _ 0 _ v _ rfl hn (W.frame _ _ _ hst' fun b hbf o e=>?_) hP (Heap.get?_update_self _ hS' rfl) (fun b o hbw hbS e=>?_) fun v' h'' tk'' hP' hk''=>?_⟩
 ·exact(Heap.get?_update_other _ _ (fun z:s₂.heap.objs.size=b=>hSf (by rw[z];exact hbf))).trans e
 ·exact(Heap.get?_update_other _ _ (Ne.symm hbS)).trans (hk' b o hbw (k3 b o e))
 ·have:=hQ v' h'' tk'' hP' fun b o hbw e=>hk'' b o hbw (Zt0 (Heap.lt_size e)) e
  rw[<- e3] at this
  exact this
end
section
open PySem.SeqAt
open PySem.AutoSeq1 (wpAny_loadPart')
open PySem.MeetsSeq PySem.MeetsSeq2 PySem.MeetsSeq3
theorem ZoO (l b a1 a2:Addr) (i j:Int) (t u:Tok) (n n2:Nat) (dd dd2:Option Addr) (sl sl2:Array (Option Value)) (e c:Bool) :
  Meets (Builtin.«tuple.__lt__» ⟨[.ref l,.ref b],[]⟩)
   (fun A R s=>s.heap.get? l=some { cls:=.type "tuple",dict:=dd,data:=.seq #[.ref a1,.int i t] n,slots:=sl }/\s.heap.get? b=some { cls:=.type "tuple",dict:=dd2,data:=.seq #[.ref a2,.int j u] n2,slots:=sl2 } /\
    EqAt A.in1 s (.ref a1) (.ref a2) e/\(∀(prog:Program) (w:World) (E:Value->Shared->Prop) (Q:Value->Shared->Prop),Q (.bool c) s->wpAny (model prog w) A.in1 (richCompare .Lt (.ref a1) (.ref a2)) Q E s) /\
    R (.ok (.ret (.bool (if e=true then decide (i<j) else c)))) s):=
 .of_wp fun prog w A R s h=>by
  obtain⟨hp,g,d,tk,os⟩:=s;obtain⟨hl,hb,he,hc,h⟩:=h
  have f2:=AutoSeq1.sub_tuple_tuple
  wp_walk using wpAny_loadPart' hl,wpAny_loadPart' hb,wpAny_forIn_list _ (fun Zhb b s'=>b.1=none/\s'=⟨hp,g,d,tk,os⟩ /\
   ((Zhb=[(Value.ref a1,Value.ref a2),(Value.int i t,Value.int j u)])\/(e=true/\Zhb=[(Value.int i t,Value.int j u)])\/(e=true/\i=j/\Zhb=[]))) _
  case turn =>
   rintro⟨y,x⟩ Zhb b s' ⟨hb',rfl,h1|⟨h0,h1⟩|⟨_,_,h1⟩⟩
   ·injection h1 with hyx hrest
    injection hyx with hy hx
    subst hy hx
    refine wpAny_bind (he prog w _ _ ?_)
    cases e with
    |true =>
     wp_walk
     exact⟨rfl,rfl,.inr (.inl ⟨rfl,hrest⟩)⟩
    |false =>
     have hri:=hc prog w
     wp_walk using hri
     exact⟨_,rfl,by simpa using h⟩
   ·injection h1 with hyx hrest
    injection hyx with hy hx
    subst hy hx
    rw[if_pos h0] at h
    obtain⟨e',he',hiff⟩:=HT.Zj9 A.in1 ⟨hp,g,d,tk,os⟩ i t j u
    refine wpAny_bind (he' prog w _ _ ?_)
    cases e' with
    |true =>
     wp_walk
     exact⟨rfl,rfl,.inr (.inr ⟨h0,hiff.mp rfl,hrest⟩)⟩
    |false =>
     have hri:=HT.Zji A.in1 ⟨hp,g,d,tk,os⟩ i t j u prog w
     wp_walk using hri
     exact⟨_,rfl,by simpa using h⟩
   ·cases h1
  case fin =>
   rintro⟨b1,b2⟩ s' ⟨hb',rfl,h1|⟨h0,h1⟩|⟨h0,hij,h1⟩⟩
   ·cases h1
   ·cases h1
   ·simp only at hb'
    subst hb'
    rw[if_pos h0] at h
    wp_walk
    exact⟨_,rfl,by simpa[Builtin.Tuple.tupleCompareSizes,hij] using h⟩
  case h =>
   exact⟨rfl,rfl,.inl rfl⟩
end
end HL
namespace HL
open PySem
theorem JA:∀a:List Int,HT.Ye a a=false
 |[]=>rfl
 |x::xs=>by rw[HT.JB,if_pos rfl];exact JA xs
theorem QR:∀{a b c:List Int},HT.Ye a b=true->HT.Ye b c=true->HT.Ye a c=true
 |[],[],_,h,_=>by simp[HT.Ye] at h
 |[],_::_,[],_,h=>by simp[HT.Ye] at h
 |[],_::_,_::_,_,_=>rfl
 |_::_,[],_,h,_=>by simp[HT.Ye] at h
 |_::_,_::_,[],_,h=>by simp[HT.Ye] at h
 |x::xs,y::ys,z::zs,h1,h2=>by
  rw[HT.JB] at h1 h2 ⊢
  by_cases e1:x=y
  ·rw[if_pos e1] at h1
   subst e1
   by_cases e2:x=z
   ·rw[if_pos e2] at h2 ⊢
    exact QR h1 h2
   ·rw[if_neg e2] at h2 ⊢
    exact h2
  ·rw[if_neg e1] at h1
   have h1':=of_decide_eq_true h1
   by_cases e2:y=z
   ·subst e2
    rw[if_neg e1]
    exact h1
   ·rw[if_neg e2] at h2
    have h2':=of_decide_eq_true h2
    rw[if_neg (by omega)]
    exact decide_eq_true (by omega)
theorem QS:∀{a b:List Int},HT.Ye a b=false->HT.Ye b a=false->a=b
 |[],[],_,_=>rfl
 |[],_::_,h,_=>by simp[HT.Ye] at h
 |_::_,[],_,h=>by simp[HT.Ye] at h
 |x::xs,y::ys,h1,h2=>by
  rw[HT.JB] at h1 h2
  by_cases e:x=y
  ·subst e
   rw[if_pos rfl] at h1 h2
   rw[QS h1 h2]
  ·rw[if_neg e] at h1
   rw[if_neg (Ne.symm e)] at h2
   have:=of_decide_eq_false h1
   have:=of_decide_eq_false h2
   omega
noncomputable def WE (a b:List Int×Int):Bool:=if a.1=b.1 then decide (a.2<b.2) else HT.Ye a.1 b.1
theorem Ux (a:List Int×Int):WE a a=false:=by unfold WE;rw[if_pos rfl];exact decide_eq_false (by omega)
theorem ZaP {a b c:List Int×Int} (h1:WE a b=true) (h2:WE b c=true):WE a c=true:=by
 unfold WE at *
 by_cases e1:a.1=b.1
 ·rw[if_pos e1] at h1
  rw[e1]
  by_cases e2:b.1=c.1
  ·rw[if_pos e2] at h2 ⊢
   have:=of_decide_eq_true h1
   have:=of_decide_eq_true h2
   exact decide_eq_true (by omega)
  ·rw[if_neg e2] at h2 ⊢
   exact h2
 ·rw[if_neg e1] at h1
  by_cases e2:b.1=c.1
  ·rw[if_pos e2] at h2
   rw[<- e2,if_neg e1]
   exact h1
  ·rw[if_neg e2] at h2
   have h3:=QR h1 h2
   by_cases e3:a.1=c.1
   ·rw[e3,JA] at h3;cases h3
   ·rw[if_neg e3];exact h3
theorem ZbZ {bt:Nat->Nat->Bool} (irr:∀i,bt i i=false) (tr:∀i j k,bt i j=true->bt j k=true->bt i k=true):∀n,argBest bt n<=n/\∀j,j<=n->bt j (argBest bt n)=false
 |0=>⟨Ztj _,fun j hj=>by rw[Nat.le_zero.mp hj];exact irr 0⟩
 |n+1=>by
  obtain⟨h1,h2⟩:=ZbZ irr tr n
  unfold argBest
  by_cases hb:bt (n+1) (argBest bt n)=true
  ·rw[if_pos hb]
   refine⟨Ztj _,fun j hj=>?_⟩
   by_cases hj':j=n+1
   ·rw[hj'];exact irr _
   ·cases hc:bt j (n+1) with
    |false=>rfl
    |true=>have:=tr _ _ _ hc hb;rw[h2 j (by omega)] at this;cases this
  ·rw[if_neg hb]
   refine⟨Nat.le_succ_of_le h1,fun j hj=>?_⟩
   by_cases hj':j=n+1
   ·rw[hj'];exact Bool.eq_false_iff.mpr hb
   ·exact h2 j (by omega)
end HL
namespace L2
open PySem PySem.Spec PyProof.Rows
section
variable {X:Cx}
theorem Znx {ns ms:List Int} (e:ns.map V.int=ms.map V.int):ns=ms:=by
 have:=congrArg (List.map fun v=>match v with|V.int i=>i|_=>0) e
 simpa[ZtZ,Function.comp_def] using this
noncomputable abbrev PT4:=Addr×Addr×List Int×Int
theorem Zms (hu:X.A.units+1<cLine) (hc:X.calm=true) (hu3:X.A.units+3<cLine):QD X (.builtin "min") (fun xs H Q=>∃p,∃ts:List PT4,xs=[.ref p]/\SqL X.K H p (ts.map fun t=>V.ref t.1) /\
  (∀t∈ts,SqT X.K H t.1 [.ref t.2.1,.int t.2.2.2]/\SqL X.K H t.2.1 (t.2.2.1.map V.int))/\0<ts.length/\∀t,t∈ts->(∀u∈ts,HL.WE (u.2.2.1,u.2.2.2) (t.2.2.1,t.2.2.2)=false)->Q (.ref t.1) H):=by
 intro pins s σ H xs us Q I r h
 obtain⟨p,ts,rfl,hq,hall,hne,q⟩:=h
 obtain⟨u,rfl,rx⟩:=Zid r
 cases rx
 obtain⟨its,r',pl,hz⟩:=I.list hq
 have hlen:=r'.length
 rw[Zto] at hlen
 have hlt:p<s.heap.objs.size:=by obtain⟨_,e,_⟩:=pl.isList;exact Heap.lt_size e
 have item:∀i v,its[i]?=some v->∃t:PT4,ts[i]?=some t/\v=Value.ref t.1:=fun i v hv=>by
  have hi:i<its.length:=(Zti.mp hv).1
  have hx:(ts.map fun t=>V.ref t.1)[i]?=some (V.ref (ts[i]'(by omega)).1):=by simp[Ztf (show i<ts.length by omega)]
  obtain⟨w,hw,rw'⟩:=r'.get hx
  rw[hv] at hw;cases hw
  exact⟨ts[i]'(by omega),Ztf (by omega),rw'⟩
 let d0:PT4:=(0,0,[],0)
 let key:Nat->List Int×Int:=fun i=>((ts.getD i d0).2.2.1,(ts.getD i d0).2.2.2)
 refine HL.ZhH (wpAny_pyIter_list pl.isList ?_)
 refine⟨s.heap.objs.size,[s.heap.objs.size,p],[s.heap.objs.size],its.toArray.size,_,_,fun i j=>HL.WE (key i) (key j),rfl,Walks.list (A:=X.A.in1) (I.ok.hd hc) _ p (Zt0 hlt) its.toArray,
  ⟨⟨_,Heap.get?_push_size _ rfl,rfl,rfl⟩,pl.isList.push _⟩,fun b hb=>?_,by rw[Ztp];omega, ?_,fun v h' tk hv hk=>?_⟩
 ·show b<(s.heap.push _).objs.size
  rw[Heap.size_push]
  rcases Ztt.mp hb with rfl|hb
  ·exact Zu0 _
  ·rw[ZtI.mp hb];exact Zup hlt
 ·intro i j vi vj s' Q' E' hi hj hk hQ
  obtain⟨t,et,rfl⟩:=item i vi (by simpa using hi)
  obtain⟨t',et',rfl⟩:=item j vj (by simpa using hj)
  have k':∀b o,s.heap.get? b=some o->s'.heap.get? b=some o:=fun b o e=>by
   have hb:=Heap.lt_size e
   exact hk b o (by simp;exact Zt0 hb) (by show b≠(s.heap.push _).objs.size;rw[Heap.size_push];exact Zt0 (Zup hb)) (Heap.get?_push_of_some _ e)
  obtain⟨hT,hL⟩:=hall t (Ztg et)
  obtain⟨hT',hL'⟩:=hall t' (Ztg et')
  have I':Inv X pins σ H { s with heap:=s'.heap,toks:=s'.toks }:=I.kept k'
  obtain⟨z,r1,p1,_⟩:=I'.tuple hT
  obtain⟨z2,r2,p2,_⟩:=I'.tuple hT'
  obtain⟨c,rfl⟩:=Zhi r1
  obtain⟨c',rfl⟩:=Zhi r2
  obtain⟨m,r3,p3,_⟩:=I'.list hL
  obtain⟨m2,r4,p4,_⟩:=I'.list hL'
  have ek:key i=(t.2.2.1,t.2.2.2):=by show ((ts.getD i d0).2.2.1,(ts.getD i d0).2.2.2)=_;rw[Zte,et];rfl
  have ek':key j=(t'.2.2.1,t'.2.2.2):=by show ((ts.getD j d0).2.2.1,(ts.getD j d0).2.2.2)=_;rw[Zte,et'];rfl
  have hEq:SeqAt.EqAt X.A.in1.in1 s' (.ref t.2.1) (.ref t'.2.1) (decide (t.2.2.1=t'.2.2.1)):=by
   by_cases hab:t.2.1=t'.2.1
   ·rw[<- hab] at hL' ⊢
    rw[decide_eq_true (Znx (I'.list_inj hL hL'))]
    exact SeqAt.EqAt.same _
   ·exact SeqAt.EqAt.of_refs hab (Zi4 (by show X.A.units+1+1<cLine;omega) p3.isList p4.isList r3 r4)
  have hLt:∀(prog:Program) (w:World) (E:Value->Shared->Prop) (Q:Value->Shared->Prop),Q (.bool (HT.Ye t.2.2.1 t'.2.2.1)) s'->wpAny (model prog w) X.A.in1.in1 (richCompare .Lt (.ref t.2.1) (.ref t'.2.1)) Q E s':=fun prog w E Q hq =>
   HL.ZfC p3.isList p4.isList (by simpa using U0 r3) (by simpa using U0 r4) (by show X.A.units+1+1<cLine;omega) hq
  obtain⟨⟨cls,dd,data,sl⟩,ho,hc1,n,hd⟩:=id p1
  obtain⟨⟨cls2,dd2,data2,sl2⟩,ho2,hc2,n2,hd2⟩:=id p2
  simp only at hc1 hd hc2 hd2
  subst hc1 hd hc2 hd2
  have hv:(if decide (t.2.2.1=t'.2.2.1)=true then decide (t.2.2.2<t'.2.2.2) else HT.Ye t.2.2.1 t'.2.2.1)=HL.WE (key i) (key j):=by
   rw[ek,ek']
   unfold HL.WE
   by_cases e:t.2.2.1=t'.2.2.1
   ·rw[if_pos (decide_eq_true e),if_pos e]
   ·rw[if_neg (by simp[e]),if_neg e]
  have hQ2:Q' (Value.bool (if decide (t.2.2.1=t'.2.2.1)=true then decide (t.2.2.2<t'.2.2.2) else HT.Ye t.2.2.1 t'.2.2.1)) s':=by rw[hv];exact hQ
  exact richCompare_meets_room (op:=.Lt) ⟨_,ho,rfl⟩ ⟨_,ho2,rfl⟩ PySem.F.slot_tuple_lt PySem.F.entry_tuple_lt (PySem.F.args_tuple_lt_2 _ _)
   (HL.ZoO t.1 t'.1 t.2.1 t'.2.1 t.2.2.2 t'.2.2.2 c c' n n2 dd dd2 sl sl2 (decide (t.2.2.1=t'.2.2.1)) (HT.Ye t.2.2.1 t'.2.2.1))
   ⟨ho,ho2,hEq,hLt,⟨(fun x=>nomatch x),hQ2⟩⟩ (by show X.A.units+1<cLine;omega)
 ·obtain⟨t,et,rfl⟩:=item _ v (by simpa using hv)
  obtain⟨b1,b2⟩:=HL.ZbZ (bt:=fun i j=>HL.WE (key i) (key j)) (fun i=>HL.Ux _) (fun i j k=>HL.ZaP) (its.toArray.size-1)
  rw[Ztp] at b1 b2
  refine⟨.ref t.1,H,I.kept (LSm.kept_iter hk),rfl,q t (Ztg et) fun u hu=>?_⟩
  obtain⟨j,hj,rfl⟩:=Zvd hu
  have:=b2 j (by omega)
  have ek:key (argBest (fun i j=>HL.WE (key i) (key j)) (its.length-1))=(t.2.2.1,t.2.2.2):=by
   show ((ts.getD _ d0).2.2.1,(ts.getD _ d0).2.2.2)=_
   rw[Zte,et];rfl
  rw[ek] at this
  have ej:key j=(ts[j].2.2.1,ts[j].2.2.2):=by
   show ((ts.getD j d0).2.2.1,(ts.getD j d0).2.2.2)=_
   rw[Zte,Ztf hj];rfl
  rw[ej] at this
  exact this
def Zqo (K:W.Frag):List V->Hp->VK->Prop:=fun xs H Q=>∃p,∃ts:List PT4,xs=[.ref p]/\SqL K H p (ts.map fun t=>V.ref t.1) /\
  (∀t∈ts,SqT K H t.1 [.ref t.2.1,.int t.2.2.2]/\SqL K H t.2.1 (t.2.2.1.map V.int))/\0<ts.length/\∀t,t∈ts->(∀u∈ts,HL.WE (u.2.2.1,u.2.2.2) (t.2.2.1,t.2.2.2)=false)->Q (.ref t.1) H
end
def Dfn (K:W.Frag) (mg:Str->Option Value) (x:Str) (st:Stmt):Prop:=∃f fd,Fun K x x st f fd/\mg x=some (.ref f)
noncomputable abbrev Zq (x:Str) (st:Stmt) (ps:List Str):Prop:=∀(kV doc pm:Value) (an:Option Addr) (cdv ct:Value) (us:List Value),us.length=ps.length ->
 bindArgs (PySem.W.fnOf x x (Zw st) (Zv st) (Zh st) .none kV doc pm an cdv ct) ⟨us,[]⟩=pure (ps.zip us)
def Ok (P:Program) (w:World) (K:W.Frag) (mg:Str->Option Value) (base:Heap) (k:Nat) (x:Str) (ps:List Str) (sp:Sp):Prop:=
 ∃f fd,Vi P w K mg base CX0 k f fd ps sp/\mg x=some (.ref f)/\PySem.W.keepIn K (.ref f)=true/\ZhU K fd ps []
theorem VT {P:Program}{w:World}{K:W.Frag}{mg:Str->Option Value}{base:Heap}{k:Nat}{x:Str}{st:Stmt}{ps:List Str}{sp:Sp} (d:Dfn K mg x st) (b:Zq x st ps)
  (h:∀{f fd},Fun K x x st f fd->Vi P w K mg base CX0 k f fd ps sp):Ok P w K mg base k x ps sp:=by
 obtain⟨f,fd,F,hm⟩:=d
 exact⟨f,fd,h F,hm,F.kp,F.binds b⟩
section
variable {X:Cx}{k:Nat}{x:Str}{ps:List Str}{sp:Sp}{p pos:Pos}{e:Expr}{es:List Expr}{t:TA}
noncomputable def Zd2 (sp:Sp) (t:TA):TE:=fun σ H Q=>t σ H fun vs H1=>sp vs H1 Q E0
theorem Zo (G:Ok X.prog X.w X.K X.mg X.base k x ps sp) (hr:Zef k X.A) (hg:Gl X x) (ha:PA X (e::es) t) (hdb:(x==("__debug__":Str))=false:=by decide)
  (he:starEach (e::es) X.env=(false,eval e X.env)::starEach es X.env:=by rfl) (hpl:(backTo pos (starEach es X.env)).any (·.1)=false:=by rfl):PE X (.Call (.Name x p) (e::es) [] pos) (Zd2 sp t):=by
 obtain⟨f,fd,F,hm,hk,hb⟩:=G
 intro pins s σ H Q I h
 refine ZoL (CX:=CX0) (E:=E0) (dvs:=[]) F hr hg hm hk hb .nil Zqt ha hdb he hpl pins s σ H Q I ?_
 have e:(fun vs H1=>sp (vs++[]) H1 Q E0)=fun vs H1=>sp vs H1 Q E0:=by funext vs H1;rw[Zub]
 show t σ H (fun vs H1=>sp (vs++[]) H1 Q E0)
 rw[e]
 exact h
theorem Zlo (G:Ok X.prog X.w X.K X.mg X.base k x ps sp) (hr:Zef k X.A) (hg:Gl X x) (hdb:(x==("__debug__":Str))=false:=by decide):PE X (.Call (.Name x p) [] [] pos) (Zd2 sp ZiU):=by
 obtain⟨f,fd,F,hm,hk,hb⟩:=G
 exact ZmP (CX:=CX0) (E:=E0) (dvs:=[]) F hr hg hm hk hb .nil Zqt hdb
theorem QO {i:Int} (hm:∃t,X.mg x=some (.int i t)) (hg:Gl X x) (hd:(x==("__debug__":Str))=false:=by decide):PE X (.Name x pos) (tC (.int i)):=by
 obtain⟨t,hm⟩:=hm
 exact ZoK (v:=.int i) hg hm ⟨t,rfl⟩ hd
end
theorem Zmu {X:Cx}:QD X (.builtin "len") (fun xs H Q=>∃p ys,xs=[.ref p]/\(SqL X.K H p ys\/SqT X.K H p ys)/\Q (.int ys.length) H):=ZhK
theorem Wt:bootBuiltins "len"=some (.builtin "len"):=by decide +kernel
theorem Zax:bootBuiltins "isinstance"=some (.builtin "isinstance"):=by decide +kernel
theorem ZeY:bootBuiltins "sum"=some (.builtin "sum"):=by decide +kernel
theorem Zow:bootBuiltins "all"=some (.builtin "all"):=by decide +kernel
theorem Zov:bootBuiltins "min"=some (.builtin "min"):=by decide +kernel
theorem Vu:bootBuiltins "list"=some (.type "list"):=by decide +kernel
theorem Zrl:bootBuiltins "int"=some (.type "int"):=by decide +kernel
theorem ZpC:bootBuiltins "bool"=some (.type "bool"):=by decide +kernel
section
variable {t u:TS}{ta tb tc te:TE}{c d:TT}{D:Zk3}{σ:St}{H:Hp}{Q:VK}{B:Bool->Hp->Prop}{a b:TA}{S:List V->Hp->Prop}
end
section
variable {t u:TS}{ta tb tc te:TE}{c d:TT}{D:Zk3}{σ:St}{H:Hp}{Q:VK}{B:Bool->Hp->Prop}{a b:TA}{S:List V->Hp->Prop}{g:TG}
end
section
variable {X:Cx}{K:W.Frag}
theorem ZA (e:X.K=K:=by rfl):IxR X (rIx K):=by subst e;exact ZqR
theorem Z3 (e:X.K=K:=by rfl):QD X (.builtin "len") (fun xs H Q=>∃p ys,xs=[.ref p]/\(SqL K H p ys\/SqT K H p ys)/\Q (.int ys.length) H):=by subst e;exact Zmu
theorem UN (hc:X.calm=true) (e:X.K=K:=by rfl):QD X (.builtin "sum") (fun xs H Q=>∃p,∃ns:List Int,xs=[.ref p]/\SqL K H p (ns.map V.int)/\Q (.int ns.sum) H):=by subst e;exact ZnG hc
theorem ZhL (hc:X.calm=true) (e:X.K=K:=by rfl):QD X (.builtin "all") (fun xs H Q=>∃p,∃bs:List Bool,xs=[.ref p]/\SqL K H p (bs.map V.bl)/\Q (.bl (bs.all id)) H):=by subst e;exact ZnH hc
theorem Wo (e:X.K=K:=by rfl):QD X (.type "list") (fun xs H Q=>∃p ys,xs=[.ref p]/\(SqL K H p ys\/SqT K H p ys)/\∀l,H l=none->Q (.ref l) (upd H l (.lst ys))):=by subst e;exact ZhI
theorem ZiZ (e:X.K=K:=by rfl):SlR X (ZrJ K):=by subst e;exact ZoC
theorem Qa {tg l:Expr}{tl:TE} (hl:PE X l tl) (e:X.K=K:=by rfl):PI X tg l (ZlU K tl):=by subst e;exact ZoI hl
end
section
variable {t u:TS}{ta tb tc te:TE}{c d:TT}{D:Zk3}{σ:St}{H:Hp}{Q:VK}{B:Bool->Hp->Prop}{a b:TA}{S:List V->Hp->Prop}{g:TG}
theorem Zj5 {n:Nat}{k:Int} (h0:0<=k) (h1:k<n):ixN n k=some k.toNat:=by unfold ixN;rw[if_pos h0,if_pos h1]
theorem ZF.upd {H H':Hp}{p:Addr}{o:HO} (h:ZF H H') (hp:H p=none):ZF H (upd H' p o):=fun b u e=>by
 rw[ZQ (Yd e hp)]
 exact h b u e
theorem ZF.new {H:Hp}{p:Addr}{o:HO} (hp:H p=none):ZF H (L2.upd H p o):=ZF.upd (ZF.refl H) hp
theorem Zbv {n:Nat} (h:n<=1000):n<=sizeLine:=Zt5 h (by decide)
end
inductive Sh where
 |dk (ks:List Key)|dt (ks:List (List Key))|ob (n:Str) (fs:List Str)
inductive PV where
 |non|bl (b:Bool)|int (i:Int)|str (x:Str)|lst (xs:List PV)|tup (xs:List PV)
  |exc (n:Str)
  |exa (n:Str) (i:Int)
  |box (p:Option Addr) (s:Sh) (xs:List PV)
mutual
noncomputable def PV.flat:PV->Bool
 |.lst _=>false
 |.tup xs=>PV.flats xs
 |.non=>true
 |.bl _=>true
 |.int _=>true
 |.str _=>true
 |.exc _=>true
 |.exa _ _=>true
 |.box _ _ _=>false
noncomputable def PV.flats:List PV->Bool
 |[]=>true
 |x::xs=>x.flat&&PV.flats xs
end
def KL (K:W.Frag) (a:Addr) (xs:List V):Prop:=
 ∃(o:Obj) (its:Array Value) (n:Nat),K.lookup a=some o/\o.cls=.type "list"/\o.dict=none/\o.data=.seq its n/\its.size<=sizeLine/\Wy xs its.toList
noncomputable def ImO:HO->Prop
 |.tup _=>True
 |.frz _ _=>True
 |.xd _=>True
 |_=>False
def Im (K:W.Frag) (H:Hp) (a:Addr) (u:HO):Prop:=H a=some u/\ImO u
noncomputable def Lvo:HO->Prop
 |.lst _=>True
 |.dK _=>True
 |.dT _=>True
 |.ins _ _ _=>True
 |_=>False
noncomputable abbrev LvO:={ u:HO // Lvo u }
def ZpM (K:W.Frag) (n:Str) (C:Addr):Prop:=PySem.W.nsIn K mainGlobals n=some (some (.ref C))
def Zrt (K:W.Frag) (H:Hp) (n:Str) (v:V):Prop:=∃a o C,v=.ref a/\Im K H a (.frz o (.own a))/\o.cls=.ref C/\o.dict=none/\PySem.W.notCls o=true/\ZpM K n C
def Zru (K:W.Frag) (H:Hp) (n:Str) (i:Int) (v:V):Prop:=∃a o C d fs,v=.ref a/\Im K H a (.frz o (.own a))/\Im K H d (.xd fs)/\o.cls=.ref C/\o.dict=some d/\PySem.W.notCls o=true/\ZpM K n C/\fs=[(("at":Str),V.int i)]
noncomputable def ZrC (K:W.Frag):Sh->List V->HO->Prop
 |.dk ks,vs,u=>ks.length=vs.length/\u=.dK (ks.zip vs)
 |.dt ks,vs,u=>ks.length=vs.length/\u=.dT (ks.zip vs)
 |.ob n fs,vs,u=>fs.length=vs.length/\∃C dx,u=.ins C dx (fs.zip vs)/\ZpM K n C
def ZsC (p:Option Addr) (a:Addr):Prop:=match p with
 |none=>True
 |some b=>a=b
theorem ZrC.lv {K:W.Frag}{s:Sh}{vs:List V}{u:HO} (h:ZrC K s vs u):Lvo u:=by
 cases s with
 |dk ks=>obtain⟨_,rfl⟩:=h;trivial
 |dt ks=>obtain⟨_,rfl⟩:=h;trivial
 |ob n fs=>obtain⟨_,C,dx,rfl,_⟩:=h;trivial
theorem Zj1 {u o:HO} (h:Lvo u) (h':ImO o):o≠u:=by
 intro e;subst e
 cases o<;>first|exact h|exact h'
mutual
noncomputable def Rep (K:W.Frag) (H:Hp) (S:Addr->Prop):PV->V->Prop
 |.non,v=>v=.non
 |.bl b,v=>v=.bl b
 |.int i,v=>v=.int i
 |.str x,v=>v=.str x
 |.exc n,v=>Zrt K H n v
 |.exa n i,v=>Zru K H n i v
 |.box p s xs,v=>∃a vs u,v=.ref a/\(Rd H a u/\S a)/\(ZsC p a/\ZrC K s vs u)/\Y1 K H S xs vs
 |.lst xs,v=>∃a vs,v=.ref a/\((Rd H a (.lst vs)/\S a)\/KL K a vs)/\Y1 K H S xs vs
 |.tup xs,v=>∃a vs,v=.ref a/\Im K H a (.tup vs)/\Y1 K H S xs vs
noncomputable def Y1 (K:W.Frag) (H:Hp) (S:Addr->Prop):List PV->List V->Prop
 |[],vs=>vs=[]
 |x::xs,vs=>∃v r,vs=v::r/\Rep K H S x v/\Y1 K H S xs r
end
mutual
noncomputable def Zcd (K:W.Frag) (H:Hp):PV->V->List Addr->Prop
 |.non,v,F=>v=.non/\F=[]
 |.bl b,v,F=>v=.bl b/\F=[]
 |.int i,v,F=>v=.int i/\F=[]
 |.str x,v,F=>v=.str x/\F=[]
 |.exc n,v,F=>Zrt K H n v/\F=[]
 |.exa n i,v,F=>Zru K H n i v/\F=[]
 |.box p s xs,v,F=>∃a vs u G,v=.ref a/\H a=some u/\(ZsC p a/\ZrC K s vs u)/\ZE K H xs vs G/\a ∉ G/\F=a::G
 |.lst xs,v,F=>∃a vs G,v=.ref a/\H a=some (.lst vs)/\ZE K H xs vs G/\a ∉ G/\F=a::G
 |.tup xs,v,F=>∃a vs,v=.ref a/\Im K H a (.tup vs)/\ZE K H xs vs F
noncomputable def ZE (K:W.Frag) (H:Hp):List PV->List V->List Addr->Prop
 |[],vs,F=>vs=[]/\F=[]
 |x::xs,vs,F=>∃v r G1 G2,vs=v::r/\Zcd K H x v G1/\ZE K H xs r G2/\(∀a∈G1,a ∉ G2)/\F=G1++G2
end
section
variable {K:W.Frag}{H H':Hp}{S S':Addr->Prop}
mutual
theorem Rep.mono (h1:∀a u,S a->Rd H a u->Rd H' a u/\S' a) (h2:∀a u,Im K H a u->Im K H' a u):∀{x:PV}{v:V},Rep K H S x v->Rep K H' S' x v
 |.non,_,h=>h
 |.bl _,_,h=>h
 |.int _,_,h=>h
 |.str _,_,h=>h
 |.exc n,_,h=>let ⟨a,o,C,e1,e2,e3⟩:=h;⟨a,o,C,e1,h2 a _ e2,e3⟩
 |.exa n i,_,h=>let ⟨a,o,C,d,fs,e1,e2,e2',e3⟩:=h;⟨a,o,C,d,fs,e1,h2 a _ e2,h2 d _ e2',e3⟩
 |.box p s xs,_,h=>by
  obtain⟨a,vs,u,rfl,⟨n1,n2⟩,hb,hr⟩:=h
  exact⟨a,vs,u,rfl,h1 a u n2 n1,hb,Y1.mono h1 h2 hr⟩
 |.lst xs,_,h=>by
  obtain⟨a,vs,rfl,hn,hr⟩:=h
  refine⟨a,vs,rfl, ?_,Y1.mono h1 h2 hr⟩
  rcases hn with ⟨n1,n2⟩|n
  ·exact .inl (h1 a _ n2 n1)
  ·exact .inr n
 |.tup xs,_,h=>by
  obtain⟨a,vs,rfl,hn,hr⟩:=h
  exact⟨a,vs,rfl,h2 a _ hn,Y1.mono h1 h2 hr⟩
theorem Y1.mono (h1:∀a u,S a->Rd H a u->Rd H' a u/\S' a) (h2:∀a u,Im K H a u->Im K H' a u):∀{xs:List PV}{vs:List V},Y1 K H S xs vs->Y1 K H' S' xs vs
 |[],_,h=>h
 |x::xs,_,h=>by
  obtain⟨v,r,rfl,h3,h4⟩:=h
  exact⟨v,r,rfl,Rep.mono h1 h2 h3,Y1.mono h1 h2 h4⟩
end
mutual
theorem Zcd.mono:∀{x:PV}{v:V}{F:List Addr},(∀a∈F,∀o,H a=some o->H' a=some o)->(∀a vs,Im K H a vs->Im K H' a vs)->Zcd K H x v F->Zcd K H' x v F
 |.non,_,_,_,_,h=>h
 |.bl _,_,_,_,_,h=>h
 |.int _,_,_,_,_,h=>h
 |.str _,_,_,_,_,h=>h
 |.exc n,_,_,_,h2,h=>let ⟨⟨a,o,C,e1,e2,e3⟩,e4⟩:=h;⟨⟨a,o,C,e1,h2 a _ e2,e3⟩,e4⟩
 |.exa n i,_,_,_,h2,h=>let ⟨⟨a,o,C,d,fs,e1,e2,e2',e3⟩,e4⟩:=h;⟨⟨a,o,C,d,fs,e1,h2 a _ e2,h2 d _ e2',e3⟩,e4⟩
 |.box p s xs,_,_,h1,h2,h=>by
  obtain⟨a,vs,u,G,rfl,ha,hb,ht,hn,rfl⟩:=h
  exact⟨a,vs,u,G,rfl,h1 a (by simp) _ ha,hb,ZE.mono (fun b hb o e=>h1 b (by simp[hb]) o e) h2 ht,hn,rfl⟩
 |.lst xs,_,_,h1,h2,h=>by
  obtain⟨a,vs,G,rfl,ha,ht,hn,rfl⟩:=h
  exact⟨a,vs,G,rfl,h1 a (by simp) _ ha,ZE.mono (fun b hb o e=>h1 b (by simp[hb]) o e) h2 ht,hn,rfl⟩
 |.tup xs,_,_,h1,h2,h=>by
  obtain⟨a,vs,rfl,ha,ht⟩:=h
  exact⟨a,vs,rfl,h2 a _ ha,ZE.mono h1 h2 ht⟩
theorem ZE.mono:∀{xs:List PV}{vs:List V}{F:List Addr},(∀a∈F,∀o,H a=some o->H' a=some o)->(∀a vs,Im K H a vs->Im K H' a vs)->ZE K H xs vs F->ZE K H' xs vs F
 |[],_,_,_,_,h=>h
 |x::xs,_,_,h1,h2,h=>by
  obtain⟨v,r,G1,G2,rfl,h3,h4,hd,rfl⟩:=h
  exact⟨v,r,G1,G2,rfl,Zcd.mono (fun b hb o e=>h1 b (by simp[hb]) o e) h2 h3,ZE.mono (fun b hb o e=>h1 b (by simp[hb]) o e) h2 h4,hd,rfl⟩
end
mutual
theorem Zcd.rep:∀{x:PV}{v:V}{F:List Addr},(∀a∈F,S a)->Zcd K H x v F->Rep K H S x v
 |.non,_,_,_,h=>h.1
 |.bl _,_,_,_,h=>h.1
 |.int _,_,_,_,h=>h.1
 |.str _,_,_,_,h=>h.1
 |.exc _,_,_,_,h=>h.1
 |.exa _ _,_,_,_,h=>h.1
 |.box p s xs,_,_,h1,h=>by
  obtain⟨a,vs,u,G,rfl,ha,hb,ht,hn,rfl⟩:=h
  exact⟨a,vs,u,rfl,⟨.inl ha,h1 a (by simp)⟩,hb,ZE.reps (fun b hb=>h1 b (by simp[hb])) ht⟩
 |.lst xs,_,_,h1,h=>by
  obtain⟨a,vs,G,rfl,ha,ht,hn,rfl⟩:=h
  exact⟨a,vs,rfl,.inl ⟨.inl ha,h1 a (by simp)⟩,ZE.reps (fun b hb=>h1 b (by simp[hb])) ht⟩
 |.tup xs,_,_,h1,h=>by
  obtain⟨a,vs,rfl,ha,ht⟩:=h
  exact⟨a,vs,rfl,ha,ZE.reps h1 ht⟩
theorem ZE.reps:∀{xs:List PV}{vs:List V}{F:List Addr},(∀a∈F,S a)->ZE K H xs vs F->Y1 K H S xs vs
 |[],_,_,_,h=>h.1
 |x::xs,_,_,h1,h=>by
  obtain⟨v,r,G1,G2,rfl,h3,h4,hd,rfl⟩:=h
  exact⟨v,r,rfl,Zcd.rep (fun b hb=>h1 b (by simp[hb])) h3,ZE.reps (fun b hb=>h1 b (by simp[hb])) h4⟩
end
mutual
theorem Zcd.alive:∀{x:PV}{v:V}{F:List Addr},Zcd K H x v F->∀a∈F,∃vs:LvO,H a=some vs.1
 |.non,_,_,h=>by rw[h.2];simp
 |.bl _,_,_,h=>by rw[h.2];simp
 |.int _,_,_,h=>by rw[h.2];simp
 |.str _,_,_,h=>by rw[h.2];simp
 |.exc _,_,_,h=>by rw[h.2];simp
 |.exa _ _,_,_,h=>by rw[h.2];simp
 |.box p s xs,_,_,h=>by
  obtain⟨a,vs,u,G,rfl,ha,hb,ht,hn,rfl⟩:=h
  intro b hb'
  rcases Ztt.mp hb' with rfl|hb'
  ·exact⟨⟨u,hb.2.lv⟩,ha⟩
  ·exact ZE.alive ht b hb'
 |.lst xs,_,_,h=>by
  obtain⟨a,vs,G,rfl,ha,ht,hn,rfl⟩:=h
  intro b hb
  rcases Ztt.mp hb with rfl|hb
  ·exact⟨⟨.lst vs,trivial⟩,ha⟩
  ·exact ZE.alive ht b hb
 |.tup xs,_,_,h=>by
  obtain⟨a,vs,rfl,ha,ht⟩:=h
  exact ZE.alive ht
theorem ZE.alive:∀{xs:List PV}{vs:List V}{F:List Addr},ZE K H xs vs F->∀a∈F,∃vs:LvO,H a=some vs.1
 |[],_,_,h=>by rw[h.2];simp
 |x::xs,_,_,h=>by
  obtain⟨v,r,G1,G2,rfl,h3,h4,hd,rfl⟩:=h
  intro b hb
  rcases Ztk.mp hb with hb|hb
  ·exact Zcd.alive h3 b hb
  ·exact ZE.alive h4 b hb
end
mutual
theorem Rep.tree:∀{x:PV}{v:V},x.flat=true->Rep K H S x v->Zcd K H x v []
 |.non,_,_,h=>⟨h,rfl⟩
 |.bl _,_,_,h=>⟨h,rfl⟩
 |.int _,_,_,h=>⟨h,rfl⟩
 |.str _,_,_,h=>⟨h,rfl⟩
 |.exc _,_,_,h=>⟨h,rfl⟩
 |.exa _ _,_,_,h=>⟨h,rfl⟩
 |.box p s xs,_,f,_=>by simp[PV.flat] at f
 |.lst xs,_,f,_=>by simp[PV.flat] at f
 |.tup xs,_,f,h=>by
  obtain⟨a,vs,rfl,ha,ht⟩:=h
  exact⟨a,vs,rfl,ha,Y1.trees (by simpa[PV.flat] using f) ht⟩
theorem Y1.trees:∀{xs:List PV}{vs:List V},PV.flats xs=true->Y1 K H S xs vs->ZE K H xs vs []
 |[],_,_,h=>⟨h,rfl⟩
 |x::xs,_,f,h=>by
  obtain⟨v,r,rfl,h3,h4⟩:=h
  simp only[PV.flats,Bool.and_eq_true] at f
  exact⟨v,r,[],[],rfl,Rep.tree f.1 h3,Y1.trees f.2 h4,by simp,rfl⟩
end
theorem Rep.any (h:Rep K H S x v):Rep K H (fun _=>True) x v:=Rep.mono (fun a vs _ r=>⟨r,trivial⟩) (fun a vs r=>r) h
theorem Y1.any (h:Y1 K H S xs vs):Y1 K H (fun _=>True) xs vs:=Y1.mono (fun a vs _ r=>⟨r,trivial⟩) (fun a vs r=>r) h
theorem Rep.flatS {x:PV}{v:V} (f:x.flat=true) (h:Rep K H S x v):Rep K H S' x v:=Zcd.rep (F:=[]) (by simp) (Rep.tree f h)
theorem Y1.length:∀{xs:List PV}{vs:List V},Y1 K H S xs vs->vs.length=xs.length
 |[],_,h=>by rw[h];rfl
 |x::xs,_,h=>by
  obtain⟨v,r,rfl,h3,h4⟩:=h
  simp[Y1.length h4]
theorem ZE.length {xs:List PV}{vs:List V}{F:List Addr} (h:ZE K H xs vs F):vs.length=xs.length:=(ZE.reps (S:=fun _=>True) (fun _ _=>trivial) h).length
theorem Y1.get:∀{xs:List PV}{vs:List V}{i:Nat}{x:PV},Y1 K H S xs vs->xs[i]?=some x->∃v,vs[i]?=some v/\Rep K H S x v
 |[],_,_,_,_,e=>by simp at e
 |y::xs,_,0,x,h,e=>by
  obtain⟨v,r,rfl,h3,h4⟩:=h
  simp at e;subst e
  exact⟨v,rfl,h3⟩
 |y::xs,_,i+1,x,h,e=>by
  obtain⟨v,r,rfl,h3,h4⟩:=h
  obtain⟨w,e1,e2⟩:=Y1.get (i:=i) h4 (by simpa using e)
  exact⟨w,by simpa using e1,e2⟩
theorem Y1.append:∀{xs ys:List PV}{vs ws:List V},Y1 K H S xs vs->Y1 K H S ys ws->Y1 K H S (xs++ys) (vs++ws)
 |[],_,_,_,h,h'=>by rw[h];exact h'
 |x::xs,_,_,_,h,h'=>by
  obtain⟨v,r,rfl,h3,h4⟩:=h
  exact⟨v,r++_,rfl,h3,Y1.append h4 h'⟩
theorem Y1.one {x:PV}{v:V} (h:Rep K H S x v):Y1 K H S [x] [v]:=⟨v,[],rfl,h,rfl⟩
theorem Y1.take:∀{xs:List PV}{vs:List V} (n:Nat),Y1 K H S xs vs->Y1 K H S (xs.take n) (vs.take n)
 |_,_,0,_=>by simp[Y1]
 |[],_,n+1,h=>by rw[h];rfl
 |y::xs,_,n+1,h=>by
  obtain⟨w,r,rfl,h3,h4⟩:=h
  exact⟨w,r.take n,rfl,h3,Y1.take n h4⟩
theorem Y1.drop:∀{xs:List PV}{vs:List V} (n:Nat),Y1 K H S xs vs->Y1 K H S (xs.drop n) (vs.drop n)
 |_,_,0,h=>h
 |[],_,n+1,h=>by rw[h];rfl
 |y::xs,_,n+1,h=>by
  obtain⟨w,r,rfl,h3,h4⟩:=h
  exact Y1.drop n h4
theorem ZE.append:∀{xs ys:List PV}{vs ws:List V}{F G:List Addr},ZE K H xs vs F->ZE K H ys ws G->(∀a∈F,a ∉ G)->ZE K H (xs++ys) (vs++ws) (F++G)
 |[],_,_,_,_,_,h,h',_=>by rw[h.1,h.2];exact h'
 |x::xs,_,_,_,_,_,h,h',hd=>by
  obtain⟨v,r,G1,G2,rfl,h3,h4,hd',rfl⟩:=h
  refine⟨v,r++_,G1,G2++_,rfl,h3,ZE.append h4 h' (fun a ha=>hd a (by simp[ha])),fun a ha z=>?_,by simp⟩
  rcases Ztk.mp z with z|z
  ·exact hd' a ha z
  ·exact hd a (by simp[ha]) z
theorem ZE.one {x:PV}{v:V}{F:List Addr} (h:Zcd K H x v F):ZE K H [x] [v] F:=⟨v,[],F,[],rfl,h,⟨rfl,rfl⟩,by simp,by simp⟩
theorem PV.flats_all:∀{xs:List PV},PV.flats xs=true ↔ ∀x∈xs,x.flat=true
 |[]=>by simp[PV.flats]
 |x::xs=>by simp[PV.flats,PV.flats_all (xs:=xs)]
theorem PV.flats_ints (ns:List Int):PV.flats (ns.map PV.int)=true:=PV.flats_all.mpr (by simp[PV.flat])
theorem Rd.same (e:ZF H H') (h:Rd H a u):Rd H' a u:=by
 rcases h with h|⟨o,h⟩
 ·exact .inl (e _ _ h)
 ·exact .inr ⟨o,e _ _ h⟩
theorem ZF.im (e:ZF H H') {k:HO} (h:Im K H a k):Im K H' a k:=⟨e _ _ h.1,h.2⟩
theorem Im.sqT {vs:List V} (h:Im K H a (.tup vs)):SqT K H a vs:=.inl (.inl h.1)
theorem Rep.same (e:ZF H H') (h:Rep K H S x v):Rep K H' S x v:=Rep.mono (fun a vs s r=>⟨r.same e,s⟩) (fun a vs r=>e.im r) h
theorem Y1.same (e:ZF H H') (h:Y1 K H S xs vs):Y1 K H' S xs vs:=Y1.mono (fun a vs s r=>⟨r.same e,s⟩) (fun a vs r=>e.im r) h
theorem Zcd.same (e:ZF H H') (h:Zcd K H x v F):Zcd K H' x v F:=Zcd.mono (fun a _ o q=>e a o q) (fun a vs r=>e.im r) h
theorem ZE.same (e:ZF H H') (h:ZE K H xs vs F):ZE K H' xs vs F:=ZE.mono (fun a _ o q=>e a o q) (fun a vs r=>e.im r) h
theorem Im.putL {p:Addr}{us:LvO}{o:HO}{k:HO} (hp:H p=some us.1) (h:Im K H a k):Im K (upd H p o) a k:=
 ⟨by rw[ZQ (ZrU h.1 hp (Zj1 us.2 h.2))];exact h.1,h.2⟩
theorem Y1.putL {p:Addr}{us:LvO}{o:HO} (hp:H p=some us.1) (hS:¬S p) (h:Y1 K H S xs vs):Y1 K (upd H p o) S xs vs:=
 Y1.mono (fun a vs s r=>⟨by
  have hne:a≠p:=fun z=>hS (z▸s)
  rcases r with r|⟨o',r⟩
  ·exact .inl (by rw[ZQ hne];exact r)
  ·exact .inr ⟨o',by rw[ZQ hne];exact r⟩,s⟩) (fun a vs r=>Im.putL hp r) h
theorem ZE.putL {p:Addr}{us:LvO}{o:HO} (hp:H p=some us.1) (hS:p ∉ F) (h:ZE K H xs vs F):ZE K (upd H p o) xs vs F:=
 ZE.mono (fun a ha o q=>by
  have hne:a≠p:=fun z=>hS (z▸ha)
  rw[ZQ hne];exact q) (fun a vs r=>Im.putL hp r) h
theorem Y1.put {p:Addr}{us:List V}{o:HO} (hp:H p=some (.lst us)) (hS:¬S p) (h:Y1 K H S xs vs):Y1 K (upd H p o) S xs vs:=Y1.putL (us:=⟨.lst us,trivial⟩) hp hS h
theorem ZE.put {p:Addr}{us:List V}{o:HO} (hp:H p=some (.lst us)) (hS:p ∉ F) (h:ZE K H xs vs F):ZE K (upd H p o) xs vs F:=ZE.putL (us:=⟨.lst us,trivial⟩) hp hS h
end
inductive Md|U|P|S|T|O
 deriving DecidableEq
def NO (B:Addr->Prop) (F:Nat->List Addr) (R:List Addr) (a:Addr):Prop:=B a/\a ∉ R/\∀i,a ∉ F i
def Zc6 (K:W.Frag) (H:Hp) (S:Addr->Prop) (m:Md) (x:PV) (o:Option (Option V)) (G:List Addr):Prop:=match m with
 |.U=>G=[]
 |.P=>G=[]/\∃v,o=some (some v)/\x.flat=true/\Rep K H (fun _=>True) x v
 |.S=>G=[]/\∃v,o=some (some v)/\Rep K H S x v
 |.T=>∃a vs xs,o=some (some (.ref a))/\x=.lst xs/\H a=some (.lst vs)/\Y1 K H S xs vs/\G=[a]
 |.O=>∃v,o=some (some v)/\Zcd K H x v G
structure Ag (K:PySem.W.Frag) (B:Addr->Prop) (H0 H:Hp) (σ:St) (Γ:List Md) (ρ:List PV) (F:Nat->List Addr) (R:List Addr):Prop where
 same:ZF H0 H
 own:∀a,H0 a=none->B a
 young:∀i,∀a∈F i,H0 a=none
 youngR:∀a∈R,H0 a=none
 live:∀i,∀a∈F i,∃vs:LvO,H a=some vs.1
 liveR:∀a∈R,∃vs:LvO,H a=some vs.1
 disj:∀i j,i≠j->∀a∈F i,a ∉ F j
 disjR:∀i,∀a∈F i,a ∉ R
 lenS:σ.length=Γ.length
 lenR:ρ.length=Γ.length
 slot:∀i,Zc6 K H (NO B F R) (Γ.getD i .U) (ρ.getD i .non) σ[i]? (F i)
theorem Zc6.mono {K:W.Frag}{H H':Hp}{S S':Addr->Prop}{m:Md}{x:PV}{o:Option (Option V)}{G:List Addr} (h:Zc6 K H S m x o G) (h1:∀a u,S a->Rd H a u->Rd H' a u/\S' a)
  (h2:∀a u,Im K H a u->Im K H' a u) (h3:∀a∈G,∀u,H a=some u->H' a=some u):Zc6 K H' S' m x o G:=by
 cases m with
 |U=>exact h
 |P =>
  obtain⟨e,v,h4,h5,h6⟩:=h
  exact⟨e,v,h4,h5,Zcd.rep (F:=[]) (by simp) (Zcd.mono (by simp) h2 (Rep.tree h5 h6))⟩
 |S =>
  obtain⟨e,v,h4,h5⟩:=h
  exact⟨e,v,h4,Rep.mono h1 h2 h5⟩
 |T =>
  obtain⟨a,vs,xs,h4,h5,h6,h7,rfl⟩:=h
  exact⟨a,vs,xs,h4,h5,h3 a (by simp) _ h6,Y1.mono h1 h2 h7,rfl⟩
 |O =>
  obtain⟨v,h4,h5⟩:=h
  exact⟨v,h4,Zcd.mono (fun a ha o q=>h3 a ha o q) h2 h5⟩
section
variable {K:W.Frag}{B:Addr->Prop}{H0 H H':Hp}{σ:St}{Γ:List Md}{ρ:List PV}{F:Nat->List Addr}{R R':List Addr}
theorem Ag.grow (A:Ag K B H0 H σ Γ ρ F R) (e:ZF H H'):Ag K B H0 H' σ Γ ρ F R:=
 ⟨A.same.trans e,A.own,A.young,A.youngR,fun i a ha=>let ⟨vs,q⟩:=A.live i a ha;⟨vs,e _ _ q⟩,fun a ha=>let ⟨vs,q⟩:=A.liveR a ha;⟨vs,e _ _ q⟩,A.disj,A.disjR,A.lenS,A.lenR,
  fun i=>(A.slot i).mono (fun a vs s r=>⟨r.same e,s⟩) (fun a vs r=>e.im r) fun a ha vs q=>e _ _ q⟩
theorem Ag.less (A:Ag K B H0 H σ Γ ρ F R) (h:∀a∈R',a∈R):Ag K B H0 H σ Γ ρ F R':=
 ⟨A.same,A.own,A.young,fun a ha=>A.youngR a (h a ha),A.live,fun a ha=>A.liveR a (h a ha),A.disj,fun i a ha z=>A.disjR i a ha (h a z),A.lenS,A.lenR,
  fun i=>(A.slot i).mono (fun a vs s r=>⟨r,s.1,fun z=>s.2.1 (h a z),s.2.2⟩) (fun a vs r=>r) fun a ha vs q=>q⟩
theorem Ag.more {G:List Addr} (A:Ag K B H0 H σ Γ ρ F R) (e:ZF H H') (hf:∀a∈G,H a=none) (hl:∀a∈G,∃vs:LvO,H' a=some vs.1):Ag K B H0 H' σ Γ ρ F (G++R):=by
 refine⟨A.same.trans e,A.own,A.young,fun a ha=>?_,fun i a ha=>let ⟨vs,q⟩:=A.live i a ha;⟨vs,e _ _ q⟩,fun a ha=>?_,A.disj,fun i a ha z=>?_,A.lenS,A.lenR,fun i=>?_⟩
 ·rcases Ztk.mp ha with z|z
  ·exact A.same.free (hf a z)
  ·exact A.youngR a z
 ·rcases Ztk.mp ha with z|z
  ·exact hl a z
  ·obtain⟨vs,q⟩:=A.liveR a z
   exact⟨vs,e _ _ q⟩
 ·rcases Ztk.mp z with z|z
  ·obtain⟨vs,q⟩:=A.live i a ha
   rw[hf a z] at q;cases q
  ·exact A.disjR i a ha z
 ·refine(A.slot i).mono (fun a vs s r=>⟨r.same e,s.1,fun z=>?_,s.2.2⟩) (fun a vs r=>e.im r) fun a ha vs q=>e _ _ q
  rcases Ztk.mp z with z|z
  ·have:=hf a z
   rcases r with r|⟨o,r⟩<;>(rw[this] at r;cases r)
  ·exact s.2.1 z
theorem Ag.fresh (A:Ag K B H0 H σ Γ ρ F R) {p:Addr} (hp:H p=none):p ∉ R/\(∀i,p ∉ F i)/\H0 p=none/\B p:=by
 refine⟨fun z=>?_,fun i z=>?_,A.same.free hp,A.own p (A.same.free hp)⟩
 ·obtain⟨vs,q⟩:=A.liveR p z
  rw[hp] at q;cases q
 ·obtain⟨vs,q⟩:=A.live i p z
  rw[hp] at q;cases q
theorem Ag.new {p:Addr}{xs:List V} (A:Ag K B H0 H σ Γ ρ F R) (hp:H p=none):Ag K B H0 (upd H p (.lst xs)) σ Γ ρ F (p::R):=
 A.more (G:=[p]) (ZF.new hp) (fun a ha=>by rw[ZtI.mp ha];exact hp) fun a ha=>⟨⟨.lst xs,trivial⟩,by rw[ZtI.mp ha,YL]⟩
theorem Ag.getO {i:Nat} (A:Ag K B H0 H σ Γ ρ F R) (h:Γ[i]?=some .O):∃v,σ[i]?=some (some v)/\Zcd K H (ρ.getD i .non) v (F i):=by
 have:=A.slot i
 rw[Zte,h] at this
 exact this
theorem Ag.getT {i:Nat} (A:Ag K B H0 H σ Γ ρ F R) (h:Γ[i]?=some .T):∃a vs xs,σ[i]?=some (some (.ref a))/\ρ.getD i .non=.lst xs/\H a=some (.lst vs)/\Y1 K H (NO B F R) xs vs/\F i=[a]:=by
 have:=A.slot i
 rw[Zte (l:=Γ),h] at this
 exact this
theorem Ag.getS {i:Nat} (A:Ag K B H0 H σ Γ ρ F R) (h:Γ[i]?=some .S):∃v,σ[i]?=some (some v)/\Rep K H (NO B F R) (ρ.getD i .non) v:=by
 have:=A.slot i
 rw[Zte (l:=Γ),h] at this
 exact this.2
theorem Ag.getP {i:Nat} (A:Ag K B H0 H σ Γ ρ F R) (h:Γ[i]?=some .P):∃v,σ[i]?=some (some v)/\(ρ.getD i .non).flat=true/\Rep K H (fun _=>True) (ρ.getD i .non) v:=by
 have:=A.slot i
 rw[Zte (l:=Γ),h] at this
 exact this.2
theorem Ag.getA {i:Nat}{m:Md} (A:Ag K B H0 H σ Γ ρ F R) (h:Γ[i]?=some m) (hm:m≠.U):∃v,σ[i]?=some (some v)/\Rep K H (fun _=>True) (ρ.getD i .non) v:=by
 cases m with
 |U=>exact absurd rfl hm
 |P=>obtain⟨v,h1,h2,h3⟩:=A.getP h;exact⟨v,h1,h3⟩
 |S=>obtain⟨v,h1,h2⟩:=A.getS h;exact⟨v,h1,h2.any⟩
 |T =>
  obtain⟨a,vs,xs,h1,h2,h3,h4,h5⟩:=A.getT h
  exact⟨_,h1,by rw[h2];exact⟨a,vs,rfl,.inl ⟨.inl h3,trivial⟩,h4.any⟩⟩
 |O=>obtain⟨v,h1,h2⟩:=A.getO h;exact⟨v,h1,h2.rep (fun _ _=>trivial)⟩
theorem Ag.lt {i:Nat}{m:Md} (A:Ag K B H0 H σ Γ ρ F R) (h:Γ[i]?=some m):i<Γ.length:=(Zti.mp h).1
noncomputable def ZbG (F:Nat->List Addr) (i:Nat) (G:List Addr):Nat->List Addr:=fun j=>if j=i then G else F j
theorem Z1 {i:Nat}{G:List Addr}:ZbG F i G i=G:=if_pos rfl
theorem ZP {i j:Nat}{G:List Addr} (h:j≠i):ZbG F i G j=F j:=if_neg h
theorem Ag.put {i:Nat}{m:Md}{x:PV}{v:V}{G:List Addr} (A:Ag K B H0 H σ Γ ρ F (G++R)) (hi:i<Γ.length) (hG:∀a∈G,a ∉ R) (hs:Zc6 K H (NO B (ZbG F i G) R) m x (some (some v)) G) :
  Ag K B H0 H (σ.set i (some v)) (Γ.set i m) (ρ.set i x) (ZbG F i G) R:=by
 refine⟨A.same,A.own,fun j a ha=>?_,fun a ha=>A.youngR a (Zth _ ha),fun j a ha=>?_,fun a ha=>A.liveR a (Zth _ ha),fun j k hjk a ha z=>?_,fun j a ha z=>?_,by simp[A.lenS],by simp[A.lenR],fun j=>?_⟩
 ·by_cases h:j=i
  ·subst h;rw[Z1] at ha;exact A.youngR a (Zts _ ha)
  ·rw[ZP h] at ha;exact A.young j a ha
 ·by_cases h:j=i
  ·subst h;rw[Z1] at ha;exact A.liveR a (Zts _ ha)
  ·rw[ZP h] at ha;exact A.live j a ha
 ·by_cases h:j=i
  ·subst h
   rw[Z1] at ha
   rw[ZP (Ne.symm hjk)] at z
   exact A.disjR k a z (Zts _ ha)
  ·rw[ZP h] at ha
   by_cases h':k=i
   ·subst h'
    rw[Z1] at z
    exact A.disjR j a ha (Zts _ z)
   ·rw[ZP h'] at z
    exact A.disj j k hjk a ha z
 ·by_cases h:j=i
  ·subst h;rw[Z1] at ha;exact hG a ha z
  ·rw[ZP h] at ha;exact A.disjR j a ha (Zth _ z)
 ·by_cases h:j=i
  ·subst h
   rw[Z1,Zte,Zte,ZtP hi,ZtP (by rw[A.lenR];exact hi),ZtP (by rw[A.lenS];exact hi)]
   exact hs
  ·rw[ZP h,Zte,Zte,ZtY (Ne.symm h),ZtY (Ne.symm h),ZtY (Ne.symm h),<- Zte,<- Zte]
   refine(A.slot j).mono (fun a vs s r=>⟨r,s.1,fun z=>s.2.1 (Zth _ z),fun k z=>?_⟩) (fun a vs r=>r) fun a ha vs q=>q
   by_cases h':k=i
   ·subst h';rw[Z1] at z;exact s.2.1 (Zts _ z)
   ·rw[ZP h'] at z;exact s.2.2 k z
theorem Ag.turn {i:Nat}{m m':Md}{G:List Addr} (A:Ag K B H0 H σ Γ ρ F R) (h:Γ[i]?=some m) (hG:∀a∈G,a∈F i) (hs:Zc6 K H (NO B (ZbG F i []) (G++R)) m' (ρ.getD i .non) σ[i]? []) :
  Ag K B H0 H σ (Γ.set i m') ρ (ZbG F i []) (G++R):=by
 have hi:=A.lt h
 refine⟨A.same,A.own,fun j a ha=>?_,fun a ha=>?_,fun j a ha=>?_,fun a ha=>?_,fun j k hjk a ha z=>?_,fun j a ha z=>?_,by simp[A.lenS],by simp[A.lenR],fun j=>?_⟩
 ·by_cases h:j=i
  ·subst h;rw[Z1] at ha;simp at ha
  ·rw[ZP h] at ha;exact A.young j a ha
 ·rcases Ztk.mp ha with z|z
  ·exact A.young i a (hG a z)
  ·exact A.youngR a z
 ·by_cases h:j=i
  ·subst h;rw[Z1] at ha;simp at ha
  ·rw[ZP h] at ha;exact A.live j a ha
 ·rcases Ztk.mp ha with z|z
  ·exact A.live i a (hG a z)
  ·exact A.liveR a z
 ·by_cases h:j=i
  ·subst h;rw[Z1] at ha;simp at ha
  ·by_cases h':k=i
   ·subst h';rw[Z1] at z;simp at z
   ·rw[ZP h] at ha;rw[ZP h'] at z;exact A.disj j k hjk a ha z
 ·by_cases h:j=i
  ·subst h;rw[Z1] at ha;simp at ha
  ·rw[ZP h] at ha
   rcases Ztk.mp z with z|z
   ·exact A.disj j i h a ha (hG a z)
   ·exact A.disjR j a ha z
 ·by_cases h:j=i
  ·subst h
   rw[Z1,Zte (l:=Γ.set _ _),ZtP hi]
   exact hs
  ·rw[ZP h,Zte (l:=Γ.set _ _),ZtY (Ne.symm h),<- Zte]
   refine(A.slot j).mono (fun a vs s r=>⟨r,s.1,fun z=>?_,fun k z=>?_⟩) (fun a vs r=>r) fun a ha vs q=>q
   ·rcases Ztk.mp z with z|z
    ·exact s.2.2 i (hG a z)
    ·exact s.2.1 z
   ·by_cases h':k=i
    ·subst h';rw[Z1] at z;simp at z
    ·rw[ZP h'] at z;exact s.2.2 k z
theorem Ag.noF (A:Ag K B H0 H σ Γ ρ F R) {i:Nat}{a:Addr} (ha:a∈F i):NO B (ZbG F i []) R a:=⟨A.own a (A.young i a ha),A.disjR i a ha,fun j z=>by
 by_cases h:j=i
 ·subst h;rw[Z1] at z;simp at z
 ·rw[ZP h] at z;exact A.disj j i h a z ha⟩
theorem Ag.freeze {i:Nat}{m:Md} (A:Ag K B H0 H σ Γ ρ F R) (h:Γ[i]?=some m) (hm:m≠.U):Ag K B H0 H σ (Γ.set i .S) ρ (ZbG F i []) R:=by
 refine A.turn (G:=[]) h (by simp) ?_
 show Zc6 K H (NO B (ZbG F i []) R) .S (ρ.getD i .non) σ[i]? []
 have up:∀{a vs},NO B F R a->Rd H a vs->Rd H a vs/\NO B (ZbG F i []) R a:=fun {a vs} s r=>⟨r,s.1,s.2.1,fun j z=>by
  by_cases h:j=i
  ·subst h;rw[Z1] at z;simp at z
  ·rw[ZP h] at z;exact s.2.2 j z⟩
 cases m with
 |U=>exact absurd rfl hm
 |P=>obtain⟨v,h1,h2,h3⟩:=A.getP h;exact⟨rfl,v,h1,h3.flatS h2⟩
 |S=>obtain⟨v,h1,h2⟩:=A.getS h;exact⟨rfl,v,h1,Rep.mono (fun a vs s r=>up s r) (fun a vs r=>r) h2⟩
 |T =>
  obtain⟨a,vs,xs,h1,h2,h3,h4,h5⟩:=A.getT h
  refine⟨rfl,_,h1, ?_⟩
  rw[h2]
  exact⟨a,vs,rfl,.inl ⟨.inl h3,A.noF (by rw[h5];simp)⟩,Y1.mono (fun a vs s r=>up s r) (fun a vs r=>r) h4⟩
 |O =>
  obtain⟨v,h1,h2⟩:=A.getO h
  exact⟨rfl,v,h1,h2.rep fun a ha=>A.noF ha⟩
theorem Ag.move {i:Nat} (A:Ag K B H0 H σ Γ ρ F R) (h:Γ[i]?=some .O):Ag K B H0 H σ (Γ.set i .U) ρ (ZbG F i []) (F i++R):=A.turn (G:=F i) h (fun a ha=>ha) rfl
end
noncomputable abbrev PX:=Str×PV
inductive Rr (α:Type) where
 |ok (a:α)|exc (e:PX)|bad
noncomputable def Rr.bind {α β:Type}:Rr α->(α->Rr β)->Rr β
 |.ok a,f=>f a
 |.exc e,_=>.exc e
 |.bad,_=>.bad
def Dn {α:Type} (r:Rr α) (ok:α->Prop) (ex:PX->Prop):Prop:=match r with
 |.ok a=>ok a
 |.exc e=>ex e
 |.bad=>False
theorem Dn.bind {α β:Type}{r:Rr α}{f:α->Rr β}{ok:β->Prop}{ex:PX->Prop} (h:Dn (r.bind f) ok ex):Dn r (fun a=>Dn (f a) ok ex) ex:=by
 cases r with
 |ok a=>exact h
 |exc e=>exact h
 |bad=>exact h
theorem Dn.imp {α:Type}{r:Rr α}{ok ok':α->Prop}{ex ex':PX->Prop} (h:Dn r ok ex) (h1:∀a,r=.ok a->ok a->ok' a) (h2:∀e,ex e->ex' e):Dn r ok' ex':=by
 cases r with
 |ok a=>exact h1 a rfl h
 |exc e=>exact h2 e h
 |bad=>exact h
@[simp] theorem Rr.bind_ok {α β:Type}{a:α}{f:α->Rr β}:(Rr.ok a).bind f=f a:=rfl
@[simp] theorem Rr.bind_exc {α β:Type}{e:PX}{f:α->Rr β}:(Rr.exc e:Rr α).bind f=.exc e:=rfl
@[simp] theorem Rr.bind_bad {α β:Type}{f:α->Rr β}:(Rr.bad:Rr α).bind f=.bad:=rfl
inductive Kd|P|F|T|Z|A|N
def Res (K:W.Frag) (B:Addr->Prop) (H0 H:Hp) (σ:St) (Γ':List Md) (ρ:List PV) (F:Nat->List Addr) (R:List Addr) (k:Kd) (x:PV) (v:V) (H':Hp):Prop:=
 ∃F',(∀i,∀a∈F' i,a∈F i)/\match k with
 |.P=>x.flat=true/\Rep K H' (fun _=>True) x v/\Ag K B H0 H' σ Γ' ρ F' R
 |.F=>∃G,Zcd K H' x v G/\(∀a∈G,a ∉ R/\(H a=none\/∃i,a∈F i))/\Ag K B H0 H' σ Γ' ρ F' (G++R)
 |.T=>∃a vs xs,x=.lst xs/\v=.ref a/\H' a=some (.lst vs)/\Y1 K H' (NO B F' (a::R)) xs vs/\a ∉ R/\(H a=none\/∃i,a∈F i)/\Ag K B H0 H' σ Γ' ρ F' (a::R)
 |.Z=>Rep K H' (NO B F' R) x v/\Ag K B H0 H' σ Γ' ρ F' R
 |.A=>Rep K H' (fun _=>True) x v/\Ag K B H0 H' σ Γ' ρ F' R
 |.N=>False
def DE (K:W.Frag) (EX:PX->Hp->Prop) (Γ Γ':List Md) (k:Kd) (te:TE) (f:List PV->Rr PV):Prop:=
 ∀(B:Addr->Prop) (H0 H:Hp) (σ:St) (ρ:List PV) (F:Nat->List Addr) (R:List Addr) (Q:VK),Ag K B H0 H σ Γ ρ F R ->
  Dn (f ρ) (fun x=>∀v H',ZF H H'->Res K B H0 H σ Γ' ρ F R k x v H'->Q v H') (fun e=>∀H',ZF H0 H'->EX e H')->te σ H Q
def DT (K:W.Frag) (EX:PX->Hp->Prop) (Γ Γ':List Md) (tt:TT) (f:List PV->Rr Bool):Prop:=
 ∀(B:Addr->Prop) (H0 H:Hp) (σ:St) (ρ:List PV) (F:Nat->List Addr) (R:List Addr) (Q:Bool->Hp->Prop),Ag K B H0 H σ Γ ρ F R ->
  Dn (f ρ) (fun b=>∀H' F',ZF H H'->(∀i,∀a∈F' i,a∈F i)->Ag K B H0 H' σ Γ' ρ F' R->Q b H') (fun e=>∀H',ZF H0 H'->EX e H')->tt σ H Q
section
variable {K:W.Frag}{B:Addr->Prop}{EX:PX->Hp->Prop}{H0 H H':Hp}{σ:St}{Γ Γ' Γ1 Γ2 Γ3:List Md}{ρ:List PV}{F F':Nat->List Addr}{R:List Addr}{k:Kd}{x:PV}{v:V}{te ta tb tc:TE}{f fa fb fc:List PV->Rr PV}
theorem Res.ag (h:Res K B H0 H σ Γ' ρ F R k x v H'):∃F',(∀i,∀a∈F' i,a∈F i)/\Rep K H' (fun _=>True) x v/\Ag K B H0 H' σ Γ' ρ F' R:=by
 obtain⟨F',hF,h⟩:=h
 refine⟨F',hF, ?_⟩
 cases k with
 |P=>exact⟨h.2.1,h.2.2⟩
 |F=>obtain⟨G,h1,h2,h3⟩:=h;exact⟨h1.rep fun _ _=>trivial,h3.less fun a ha=>Zth _ ha⟩
 |T=>obtain⟨a,vs,xs,rfl,rfl,h1,h2,h3,h4,h5⟩:=h;exact⟨⟨a,vs,rfl,.inl ⟨.inl h1,trivial⟩,h2.any⟩,h5.less fun a ha=>ZtF _ ha⟩
 |Z=>exact⟨h.1.any,h.2⟩
 |A=>exact h
 |N=>exact h.elim
theorem Res.toA (h:Res K B H0 H σ Γ' ρ F R k x v H'):Res K B H0 H σ Γ' ρ F R .A x v H':=let ⟨F',a,b,c⟩:=h.ag;⟨F',a,b,c⟩
theorem Res.PF (h:Res K B H0 H σ Γ' ρ F R .P x v H'):Res K B H0 H σ Γ' ρ F R .F x v H':=by
 obtain⟨F',hF,h1,h2,h3⟩:=h
 exact⟨F',hF,[],h2.tree h1,by simp,h3⟩
theorem Res.PZ (h:Res K B H0 H σ Γ' ρ F R .P x v H'):Res K B H0 H σ Γ' ρ F R .Z x v H':=by
 obtain⟨F',hF,h1,h2,h3⟩:=h
 exact⟨F',hF,h2.flatS h1,h3⟩
theorem Res.TZ (h:Res K B H0 H σ Γ' ρ F R .T x v H'):Res K B H0 H σ Γ' ρ F R .Z x v H':=by
 obtain⟨F',hF,a,vs,xs,rfl,rfl,h1,h2,h3,h4,h5⟩:=h
 refine⟨F',hF,⟨a,vs,rfl,.inl ⟨.inl h1,h5.own a (h5.youngR a (by simp)),h3,fun i z=>h5.disjR i a z (by simp)⟩, ?_⟩,h5.less fun a ha=>ZtF _ ha⟩
 exact Y1.mono (fun b us s r=>⟨r,s.1,fun z=>s.2.1 (ZtF _ z),s.2.2⟩) (fun b us r=>r) h2
theorem DE.imp {k':Kd} (h:DE K EX Γ Γ' k te f) (hr:∀{B:Addr->Prop}{H0 H H':Hp}{σ:St}{ρ:List PV}{F:Nat->List Addr}{R:List Addr}{x:PV}{v:V},Res K B H0 H σ Γ' ρ F R k x v H'->Res K B H0 H σ Γ' ρ F R k' x v H'):DE K EX Γ Γ' k' te f:=
 fun B H0 H σ ρ F R Q A d=>h B H0 H σ ρ F R Q A (d.imp (fun x _ q v H' s r=>q v H' s (hr r)) fun e q=>q)
theorem DE.toA (h:DE K EX Γ Γ' k te f):DE K EX Γ Γ' .A te f:=h.imp Res.toA
theorem DE.PF (h:DE K EX Γ Γ' .P te f):DE K EX Γ Γ' .F te f:=h.imp Res.PF
theorem DE.PZ (h:DE K EX Γ Γ' .P te f):DE K EX Γ Γ' .Z te f:=h.imp Res.PZ
theorem DE.TZ (h:DE K EX Γ Γ' .T te f):DE K EX Γ Γ' .Z te f:=h.imp Res.TZ
noncomputable def grd (x:PV):Rr PV:=if x.flat=true then .ok x else .bad
theorem DE.grd (h:DE K EX Γ Γ' .A te f):DE K EX Γ Γ' .P te (fun ρ=>(f ρ).bind grd):=fun B H0 H σ ρ F R Q A d=>by
 refine h B H0 H σ ρ F R Q A (d.bind.imp (fun x _ q v H' s r=>?_) fun e q=>q)
 unfold L2.grd at q
 by_cases hx:x.flat=true
 ·rw[if_pos hx] at q
  obtain⟨F',h1,h2,h3⟩:=r
  exact q v H' s ⟨F',h1,hx,h2,h3⟩
 ·rw[if_neg hx] at q;exact q.elim
theorem Zr5 {v:V} (hf:x.flat=true) (hr:∀H,Rep K H (fun _=>True) x v):DE K EX Γ Γ .P (tC v) (fun _=>.ok x):=fun B H0 H σ ρ F R Q A d =>
 d v H (ZF.refl H) ⟨F,fun _ _ h=>h,hf,hr H,A⟩
theorem Zj {i:Int}:DE K EX Γ Γ .P (tC (.int i)) (fun _=>.ok (.int i)):=Zr5 rfl fun _=>rfl
theorem Zp5 {b:Bool}:DE K EX Γ Γ .P (tC (.bl b)) (fun _=>.ok (.bl b)):=Zr5 rfl fun _=>rfl
theorem Zh6:DE K EX Γ Γ .P (tC .non) (fun _=>.ok .non):=Zr5 rfl fun _=>rfl
theorem ZfT {x:Str}:DE K EX Γ Γ .P (tC (.str x)) (fun _=>.ok (.str x)):=Zr5 rfl fun _=>rfl
noncomputable def gv (i:Nat) (ρ:List PV):PV:=ρ.getD i .non
theorem Zc {i:Nat}{m:Md} (h:Γ[i]?=some m) (hm:m≠.U):DE K EX Γ Γ .A (ZjS i) (fun ρ=>.ok (gv i ρ)):=fun B H0 H σ ρ F R Q A d=>by
 obtain⟨v,h1,h2⟩:=A.getA h hm
 exact⟨v,h1,d v H (ZF.refl H) ⟨F,fun _ _ h=>h,h2,A⟩⟩
theorem Zn {i:Nat} (h:Γ[i]?=some .P):DE K EX Γ Γ .P (ZjS i) (fun ρ=>.ok (gv i ρ)):=fun B H0 H σ ρ F R Q A d=>by
 obtain⟨v,h1,h2,h3⟩:=A.getP h
 exact⟨v,h1,d v H (ZF.refl H) ⟨F,fun _ _ h=>h,h2,h3,A⟩⟩
theorem ZbS {i:Nat} (h:Γ[i]?=some .S):DE K EX Γ Γ .Z (ZjS i) (fun ρ=>.ok (gv i ρ)):=fun B H0 H σ ρ F R Q A d=>by
 obtain⟨v,h1,h2⟩:=A.getS h
 exact⟨v,h1,d v H (ZF.refl H) ⟨F,fun _ _ h=>h,h2,A⟩⟩
theorem Qc {i:Nat}{F:Nat->List Addr}:∀j,∀a∈ZbG F i [] j,a∈F j:=fun j a ha=>by
 by_cases h:j=i
 ·subst h;rw[Z1] at ha;simp at ha
 ·rw[ZP h] at ha;exact ha
theorem ZbT {i:Nat} (h:Γ[i]?=some .O):DE K EX Γ (Γ.set i .U) .F (ZjS i) (fun ρ=>.ok (gv i ρ)):=fun B H0 H σ ρ F R Q A d=>by
 obtain⟨v,h1,h2⟩:=A.getO h
 exact⟨v,h1,d v H (ZF.refl H) ⟨ZbG F i [],Qc,F i,h2,fun a ha=>⟨A.disjR i a ha,.inr ⟨i,ha⟩⟩,A.move h⟩⟩
theorem Zdm {i:Nat}{m:Md} (h:Γ[i]?=some m) (hm:m≠.U):DE K EX Γ (Γ.set i .S) .Z (ZjS i) (fun ρ=>.ok (gv i ρ)):=fun B H0 H σ ρ F R Q A d=>by
 have A':=A.freeze h hm
 obtain⟨v,h1,h2⟩:=A'.getS (ZtP (A.lt h))
 exact⟨v,h1,d v H (ZF.refl H) ⟨ZbG F i [],Qc,h2,A'⟩⟩
def OpP (K:W.Frag) (r:R2) (o:PV->PV->Rr PV):Prop:=∀{H:Hp}{x y:PV}{v w:V}{Q:VK},Rep K H (fun _=>True) x v->Rep K H (fun _=>True) y w ->
 (∃z,o x y=.ok z/\(z.flat=true->∀u,Rep K H (fun _=>True) z u->Q u H))->r v w H Q
theorem Dn.bind2 {α β γ:Type}{r:Rr α}{q:Rr β}{f:α->β->Rr γ}{ok:γ->Prop}{ex:PX->Prop} (h:Dn (r.bind fun a=>q.bind fun b=>f a b) ok ex):Dn r (fun a=>Dn q (fun b=>Dn (f a b) ok ex) ex) ex:=
 h.bind.imp (fun a _ h=>h.bind) fun e h=>h
theorem two {Q:V->V->Hp->Prop}{ok:PV->PV->Prop} (ha:DE K EX Γ Γ1 .A ta fa) (hb:DE K EX Γ1 Γ2 .A tb fb) (A:Ag K B H0 H σ Γ ρ F R)
  (d:Dn (fa ρ) (fun x=>Dn (fb ρ) (fun y=>ok x y) (fun e=>∀H',ZF H0 H'->EX e H')) (fun e=>∀H',ZF H0 H'->EX e H'))
  (hq:∀x y v w H' F',ok x y->ZF H H'->(∀i,∀a∈F' i,a∈F i)->Rep K H' (fun _=>True) x v->Rep K H' (fun _=>True) y w->Ag K B H0 H' σ Γ2 ρ F' R->Q v w H') :
  ta σ H fun v H1=>tb σ H1 fun w H2=>Q v w H2:=by
 refine ha B H0 H σ ρ F R _ A (d.imp (fun x _ d v H1 s1 r1=>?_) fun e q=>q)
 obtain⟨F1,f1,p1,A1⟩:=r1
 refine hb B H0 H1 σ ρ F1 R _ A1 (d.imp (fun y _ q w H2 s2 r2=>?_) fun e q=>q)
 obtain⟨F2,f2,p2,A2⟩:=r2
 exact hq x y v w H2 F2 q (s1.trans s2) (fun i a h=>f1 i a (f2 i a h)) (p1.same s2) p2 A2
theorem Zn9 {r:R2}{o:PV->PV->Rr PV} (hr:OpP K r o) (ho:∀x y z,o x y=.ok z->z.flat=true) (hx:∀x y e,o x y≠.exc e) (ha:DE K EX Γ Γ1 .A ta fa) (hb:DE K EX Γ1 Γ2 .A tb fb) :
  DE K EX Γ Γ2 .P (tOp r ta tb) (fun ρ=>(fa ρ).bind fun x=>(fb ρ).bind fun y=>o x y):=fun B H0 H σ ρ F R Q A d=>by
 refine two ha hb A d.bind2 fun x y v w H' F' d s hF p1 p2 A'=>?_
 cases e:o x y with
 |ok z=>rw[e] at d;exact hr p1 p2 ⟨z,e,fun hf u hu=>d u H' s ⟨F',hF,hf,hu,A'⟩⟩
 |exc q=>exact absurd e (hx x y q)
 |bad=>rw[e] at d;exact d.elim
def UnP (K:W.Frag) (r:V->Hp->VK->Prop) (o:PV->Rr PV):Prop:=∀{H:Hp}{x:PV}{v:V}{Q:VK},Rep K H (fun _=>True) x v->(∃z,o x=.ok z/\(z.flat=true->∀u,Rep K H (fun _=>True) z u->Q u H))->r v H Q
theorem Zse {r:V->Hp->VK->Prop}{o:PV->Rr PV} (hr:UnP K r o) (hx:∀x e,o x≠.exc e) (ha:DE K EX Γ Γ1 .A ta fa):DE K EX Γ Γ1 .P (tUn r ta) (fun ρ=>(fa ρ).bind o):=fun B H0 H σ ρ F R Q A d=>by
 refine ha B H0 H σ ρ F R _ A (d.bind.imp (fun x _ d v H1 s1 r1=>?_) fun e q=>q)
 obtain⟨F1,f1,p1,A1⟩:=r1
 cases e:o x with
 |ok z=>rw[e] at d;exact hr p1 ⟨z,e,fun hf u hu=>d u H1 s1 ⟨F1,f1,hf,hu,A1⟩⟩
 |exc q=>exact absurd e (hx x q)
 |bad=>rw[e] at d;exact d.elim
noncomputable def oI (C:Int->Int->Bool) (g:Int->Int->PV) (x y:PV):Rr PV:=match x,y with
 |.int i,.int j=>if C i j=true then .ok (g i j) else .bad
 |_,_=>.bad
theorem Zjw {C:Int->Int->Bool}{g:Int->Int->PV}{i j:Int} (h:C i j=true):oI C g (.int i) (.int j)=.ok (g i j):=if_pos h
theorem ZsR {C:Int->Int->Bool}{D:Int->Int->Prop}{g:Int->Int->PV}{g':Int->Int->V} (hC:∀i j,C i j=true->D i j) (hg:∀H i j,Rep K H (fun _=>True) (g i j) (g' i j)) (hf:∀i j,(g i j).flat=true):OpP K (rI D g') (oI C g):=by
 intro H x y v w Q rx ry ⟨z,e,q⟩
 cases x<;>cases y<;>first|(simp only[oI] at e;cases e;done)|skip
 rename_i i j
 simp only[oI] at e
 by_cases h:C i j=true
 ·rw[if_pos h] at e;cases e
  cases rx;cases ry
  exact⟨i,j,rfl,rfl,hC i j h,q (hf i j) _ (hg H i j)⟩
 ·rw[if_neg h] at e;cases e
theorem ZrS {g:Int->Int->PV}{g':Int->Int->V} (hg:∀H i j,Rep K H (fun _=>True) (g i j) (g' i j)) (hf:∀i j,(g i j).flat=true):OpP K (rI0 g') (oI (fun _ _=>true) g):=by
 intro H x y v w Q rx ry ⟨z,e,q⟩
 cases x<;>cases y<;>first|(simp only[oI] at e;cases e;done)|skip
 rename_i i j
 simp only[oI,if_true] at e
 cases e;cases rx;cases ry
 exact⟨i,j,rfl,rfl,q (hf i j) _ (hg H i j)⟩
theorem Zjv {C:Int->Int->Bool}{g:Int->Int->PV} (x y:PV) (e:PX):oI C g x y≠.exc e:=by
 cases x<;>cases y<;>first|(intro h;simp only[oI] at h;cases h;done)|skip
 intro h
 simp only[oI] at h
 split at h<;>cases h
theorem Zl5 {C:Int->Int->Bool}{g:Int->Int->PV} (hf:∀i j,(g i j).flat=true) (x y z:PV) (h:oI C g x y=.ok z):z.flat=true:=by
 cases x<;>cases y<;>first|(simp only[oI] at h;cases h;done)|skip
 simp only[oI] at h
 split at h
 ·cases h;exact hf _ _
 ·cases h
end
mutual
noncomputable def PV.noX:PV->Bool
 |.exc _=>false
 |.exa _ _=>false
 |.box _ _ _=>false
 |.lst xs=>PV.noXs xs
 |.tup xs=>PV.noXs xs
 |.non=>true
 |.bl _=>true
 |.int _=>true
 |.str _=>true
noncomputable def PV.noXs:List PV->Bool
 |[]=>true
 |x::xs=>x.noX&&PV.noXs xs
end
theorem PV.noXs_ints:∀(ns:List Int),PV.noXs (ns.map PV.int)=true
 |[]=>rfl
 |n::ns=>by simp[PV.noXs,PV.noX,PV.noXs_ints ns]
mutual
noncomputable def PV.dat:PV->PyData
 |.non=>.none
 |.bl b=>.bool b
 |.int i=>.int i
 |.str x=>.str x
 |.exc _=>.none
 |.exa _ _=>.none
 |.box _ _ _=>.none
 |.lst xs=>.list (PV.dats xs)
 |.tup xs=>.tuple (PV.dats xs)
noncomputable def PV.dats:List PV->List PyData
 |[]=>[]
 |x::xs=>x.dat::PV.dats xs
end
section
variable {X:Cx}{pins:List (Addr×Obj)}{σ:St}{H:Hp}{s:Shared}{S:Addr->Prop}
theorem Qg {K:W.Frag}{a:Addr}{vs:List V} (h:(Rd H a (.lst vs)/\S a)\/KL K a vs):SqL K H a vs:=by
 rcases h with h|h
 ·exact .inl h.1
 ·exact .inr h
mutual
theorem Rep.reads (I:Inv X pins σ H s):∀{x:PV}{v:V}{u:Value},x.noX=true->Rep X.K H S x v->U1 v u->∃as,Reads s.heap u x.dat as
 |.non,_,_,_,h,r=>by cases h;cases r;exact⟨_,.none⟩
 |.bl _,_,_,_,h,r=>by cases h;cases r;exact⟨_,.bool _⟩
 |.int _,_,_,_,h,r=>by cases h;obtain⟨t,rfl⟩:=r;exact⟨_,.int _ _⟩
 |.str _,_,_,_,h,r=>by cases h;obtain⟨t,rfl⟩:=r;exact⟨_,.str _ _⟩
 |.exc _,_,_,z,_,_=>by simp[PV.noX] at z
 |.exa _ _,_,_,z,_,_=>by simp[PV.noX] at z
 |.box _ _ _,_,_,z,_,_=>by simp[PV.noX] at z
 |.lst xs,_,_,z,h,r=>by
  obtain⟨a,vs,rfl,hn,hr⟩:=h
  cases r
  obtain⟨its,rv,pl,_⟩:=I.list (Qg hn)
  obtain⟨as,ra⟩:=Y1.reads I (by simpa[PV.noX] using z) hr rv
  obtain⟨o,ho,hc,n,hd⟩:=pl.isList
  exact⟨_,.list ho hc hd (by simpa using ra)⟩
 |.tup xs,_,_,z,h,r=>by
  obtain⟨a,vs,rfl,hn,hr⟩:=h
  cases r
  obtain⟨its,rv,⟨o,ho,hc,n,hd⟩,_⟩:=I.tuple hn.sqT
  obtain⟨as,ra⟩:=Y1.reads I (by simpa[PV.noX] using z) hr rv
  exact⟨_,.tuple ho hc hd (by simpa using ra)⟩
theorem Y1.reads (I:Inv X pins σ H s):∀{xs:List PV}{vs:List V}{us:List Value},PV.noXs xs=true->Y1 X.K H S xs vs->Wy vs us->∃as,ReadsAll s.heap us (PV.dats xs) as
 |[],_,_,_,h,r=>by rw[h] at r;cases r;exact⟨_,.nil⟩
 |x::xs,_,_,z,h,r=>by
  simp only[PV.noXs,Bool.and_eq_true] at z
  obtain⟨v,vs,rfl,h1,h2⟩:=h
  cases r with
  |cons r1 r2 =>
   obtain⟨as,a1⟩:=Rep.reads I z.1 h1 r1
   obtain⟨bs,b1⟩:=Y1.reads I z.2 h2 r2
   exact⟨_,.cons a1 b1⟩
end
noncomputable def okD (x:PV):Bool:=x.noX&&x.dat.canLay0&&decide (x.dat.depth<=64)
noncomputable def ZrL (K:W.Frag) (g:Bool->Bool):R2:=fun x y H Q=>∃p q,Rep K H (fun _=>True) p x/\Rep K H (fun _=>True) q y/\okD p=true/\okD q=true/\Q (.bl (g (PyData.eqv p.dat q.dat))) H
theorem Zb8 {K:W.Frag} (hu:X.A.units+64<cLine) (e:X.K=K:=by rfl):OpR X (compareOp .Eq) (ZrL K id):=by
 subst e
 intro pins s σ H x y v u Q I rx ry h
 obtain⟨p,q,h1,h2,h3,h4,hq⟩:=h
 simp only[okD,Bool.and_eq_true,decide_eq_true_eq] at h3 h4
 obtain⟨as,ra⟩:=h1.reads I h3.1.1 rx
 obtain⟨bs,rb⟩:=h2.reads I h4.1.1 ry
 exact SeqAt.rcAt_reads ra rb h3.1.2 h4.1.2 (by have:=Zve p.dat.depth q.dat.depth;omega) _ _ _ _ ⟨.bl (PyData.eqv p.dat q.dat),H,I,rfl,hq⟩
theorem Za8 {K:W.Frag} (hu:X.A.units+64<cLine) (e:X.K=K:=by rfl):OpR X (compareOp .NotEq) (ZrL K (!·)):=by
 subst e
 intro pins s σ H x y v u Q I rx ry h
 obtain⟨p,q,h1,h2,h3,h4,hq⟩:=h
 simp only[okD,Bool.and_eq_true,decide_eq_true_eq] at h3 h4
 obtain⟨as,ra⟩:=h1.reads I h3.1.1 rx
 obtain⟨bs,rb⟩:=h2.reads I h4.1.1 ry
 exact SeqAt.rcNeAt_reads ra rb h3.1.2 h4.1.2 (by have:=Zve p.dat.depth q.dat.depth;omega) _ _ _ _ ⟨.bl (!PyData.eqv p.dat q.dat),H,I,rfl,hq⟩
end
noncomputable def Zhk (g:Bool->Bool) (x y:PV):Rr PV:=if (okD x&&okD y)=true then .ok (.bl (g (PyData.eqv x.dat y.dat))) else .bad
def ZiM (i j:Int):Prop:=i.natAbs<2^60000/\j.natAbs<2^60000
def ZiN (i j:Int):Prop:=0<j/\j.natAbs<2^9000
noncomputable instance (i j:Int):Decidable (ZiM i j):=by unfold ZiM;infer_instance
noncomputable instance (i j:Int):Decidable (ZiN i j):=by unfold ZiN;infer_instance
noncomputable instance (i j:Int):Decidable (ZpV i j):=by unfold ZpV;infer_instance
theorem Zmw {i:Int}{n:Nat} (h:i.natAbs<2^n):Builtin.Int.intBits i<=n:=by
 unfold Builtin.Int.intBits
 split
 ·exact ZtB _
 ·rename_i h0
  have:i.natAbs≠0:=by simpa using h0
  exact Nat.succ_le_of_lt ((Nat.log2_lt this).mpr h)
section
variable {X:Cx}
theorem ZcN:OpR X (binaryOp .Mult) (rI ZiM fun i j=>.int (i*j)):=opI fun _ _ _ _ _ _ _ hc q=>mul_int q (PyProof.Rows.mulOk_of_bits (Zmw hc.1) (Zmw hc.2) (by decide))
theorem QQ:OpR X (binaryOp .FloorDiv) (rI ZiN fun i j=>.int (i/j)):=opI fun i j _ _ _ _ _ hc q=>by
 refine floordiv_int (by have:=hc.1;omega) ?_ (.inl (PyProof.noPylong_of_log2 ?_))
 ·rw[Int.fdiv_eq_ediv_of_nonneg _ (by have:=hc.1;omega)];exact q
 ·have h0:j.natAbs≠0:=by have:=hc.1;omega
  exact(Nat.log2_lt h0).mpr hc.2
end
section
variable {K:W.Frag}{B:Addr->Prop}{EX:PX->Hp->Prop}{H0 H H':Hp}{σ:St}{Γ Γ' Γ1 Γ2 Γ3:List Md}{ρ:List PV}{F F':Nat->List Addr}{R:List Addr}{k:Kd}{x:PV}{v:V}{te ta tb tc:TE}{f fa fb fc:List PV->Rr PV}
noncomputable abbrev Zs4:PV->PV->Rr PV:=oI (fun _ _=>true) fun i j=>.int (i+j)
noncomputable abbrev Zs2:PV->PV->Rr PV:=oI (fun _ _=>true) fun i j=>.int (i-j)
noncomputable abbrev ZrO:PV->PV->Rr PV:=oI (fun i j=>decide (ZiM i j)) fun i j=>.int (i*j)
noncomputable abbrev ZrQ:PV->PV->Rr PV:=oI (fun i j=>decide (ZiN i j)) fun i j=>.int (i/j)
noncomputable abbrev Zs3:PV->PV->Rr PV:=oI (fun _ j=>decide (0<j)) fun i j=>.int (i%j)
noncomputable abbrev ZrN:PV->PV->Rr PV:=oI (fun i j=>decide (ZpV i j)) fun i j=>.int (i^j.toNat)
noncomputable abbrev pLt:PV->PV->Rr PV:=oI (fun _ _=>true) fun i j=>.bl (decide (i<j))
noncomputable abbrev pLe:PV->PV->Rr PV:=oI (fun _ _=>true) fun i j=>.bl (decide (i<=j))
noncomputable abbrev pGt:PV->PV->Rr PV:=oI (fun _ _=>true) fun i j=>.bl (decide (j<i))
noncomputable abbrev pGe:PV->PV->Rr PV:=oI (fun _ _=>true) fun i j=>.bl (decide (j<=i))
theorem ZnA {D:Int->Int->Prop}{C:Int->Int->Bool}{g:Int->Int->PV}{g':Int->Int->V} (hC:∀i j,C i j=true->D i j) (hg:∀H i j,Rep K H (fun _=>True) (g i j) (g' i j)) (hf:∀i j,(g i j).flat=true)
  (ha:DE K EX Γ Γ1 .A ta fa) (hb:DE K EX Γ1 Γ2 .A tb fb):DE K EX Γ Γ2 .P (tOp (rI D g') ta tb) (fun ρ=>(fa ρ).bind fun x=>(fb ρ).bind fun y=>oI C g x y):=
 Zn9 (ZsR hC hg hf) (Zl5 hf) Zjv ha hb
theorem ZfU {g:Int->Int->PV}{g':Int->Int->V} (hg:∀H i j,Rep K H (fun _=>True) (g i j) (g' i j)) (hf:∀i j,(g i j).flat=true)
  (ha:DE K EX Γ Γ1 .A ta fa) (hb:DE K EX Γ1 Γ2 .A tb fb):DE K EX Γ Γ2 .P (tOp (rI0 g') ta tb) (fun ρ=>(fa ρ).bind fun x=>(fb ρ).bind fun y=>oI (fun _ _=>true) g x y):=
 Zn9 (ZrS hg hf) (Zl5 hf) Zjv ha hb
theorem VG (ha:DE K EX Γ Γ1 .A ta fa) (hb:DE K EX Γ1 Γ2 .A tb fb):DE K EX Γ Γ2 .P (tOp (rI0 fun i j=>.int (i+j)) ta tb) (fun ρ=>(fa ρ).bind fun x=>(fb ρ).bind fun y=>Zs4 x y):=ZfU (fun _ _ _=>rfl) (fun _ _=>rfl) ha hb
theorem Vd (ha:DE K EX Γ Γ1 .A ta fa) (hb:DE K EX Γ1 Γ2 .A tb fb):DE K EX Γ Γ2 .P (tOp (rI0 fun i j=>.int (i-j)) ta tb) (fun ρ=>(fa ρ).bind fun x=>(fb ρ).bind fun y=>Zs2 x y):=ZfU (fun _ _ _=>rfl) (fun _ _=>rfl) ha hb
theorem Zmm (ha:DE K EX Γ Γ1 .A ta fa) (hb:DE K EX Γ1 Γ2 .A tb fb):DE K EX Γ Γ2 .P (tOp (rI0 fun i j=>.bl (decide (i<j))) ta tb) (fun ρ=>(fa ρ).bind fun x=>(fb ρ).bind fun y=>pLt x y):=ZfU (fun _ _ _=>rfl) (fun _ _=>rfl) ha hb
theorem ZnC (ha:DE K EX Γ Γ1 .A ta fa) (hb:DE K EX Γ1 Γ2 .A tb fb):DE K EX Γ Γ2 .P (tOp (rI0 fun i j=>.bl (decide (i<=j))) ta tb) (fun ρ=>(fa ρ).bind fun x=>(fb ρ).bind fun y=>pLe x y):=ZfU (fun _ _ _=>rfl) (fun _ _=>rfl) ha hb
theorem ZbU (ha:DE K EX Γ Γ1 .A ta fa) (hb:DE K EX Γ1 Γ2 .A tb fb):DE K EX Γ Γ2 .P (tOp (rI0 fun i j=>.bl (decide (j<i))) ta tb) (fun ρ=>(fa ρ).bind fun x=>(fb ρ).bind fun y=>pGt x y):=ZfU (fun _ _ _=>rfl) (fun _ _=>rfl) ha hb
theorem Zrh (ha:DE K EX Γ Γ1 .A ta fa) (hb:DE K EX Γ1 Γ2 .A tb fb):DE K EX Γ Γ2 .P (tOp (rI0 fun i j=>.bl (decide (j<=i))) ta tb) (fun ρ=>(fa ρ).bind fun x=>(fb ρ).bind fun y=>pGe x y):=ZfU (fun _ _ _=>rfl) (fun _ _=>rfl) ha hb
theorem ZfV (ha:DE K EX Γ Γ1 .A ta fa) (hb:DE K EX Γ1 Γ2 .A tb fb):DE K EX Γ Γ2 .P (tOp (rI ZiM fun i j=>.int (i*j)) ta tb) (fun ρ=>(fa ρ).bind fun x=>(fb ρ).bind fun y=>ZrO x y):=ZnA (fun _ _ h=>of_decide_eq_true h) (fun _ _ _=>rfl) (fun _ _=>rfl) ha hb
theorem ZeL (ha:DE K EX Γ Γ1 .A ta fa) (hb:DE K EX Γ1 Γ2 .A tb fb):DE K EX Γ Γ2 .P (tOp (rI ZiN fun i j=>.int (i/j)) ta tb) (fun ρ=>(fa ρ).bind fun x=>(fb ρ).bind fun y=>ZrQ x y):=ZnA (fun _ _ h=>of_decide_eq_true h) (fun _ _ _=>rfl) (fun _ _=>rfl) ha hb
theorem Ve (ha:DE K EX Γ Γ1 .A ta fa) (hb:DE K EX Γ1 Γ2 .A tb fb):DE K EX Γ Γ2 .P (tOp (rI (fun _ j=>0<j) fun i j=>.int (i%j)) ta tb) (fun ρ=>(fa ρ).bind fun x=>(fb ρ).bind fun y=>Zs3 x y):=ZnA (fun _ _ h=>of_decide_eq_true h) (fun _ _ _=>rfl) (fun _ _=>rfl) ha hb
theorem Zon (ha:DE K EX Γ Γ1 .A ta fa) (hb:DE K EX Γ1 Γ2 .A tb fb):DE K EX Γ Γ2 .P (tOp (rI ZpV fun i j=>.int (i^j.toNat)) ta tb) (fun ρ=>(fa ρ).bind fun x=>(fb ρ).bind fun y=>ZrN x y):=ZnA (fun _ _ h=>of_decide_eq_true h) (fun _ _ _=>rfl) (fun _ _=>rfl) ha hb
noncomputable def Zrz (x:PV):Rr PV:=match x with
 |.int i=>.ok (.int (-i))
 |_=>.bad
theorem Zh7 (ha:DE K EX Γ Γ1 .A ta fa):DE K EX Γ Γ1 .P (tUn (rU fun i=>.int (-i)) ta) (fun ρ=>(fa ρ).bind Zrz):=by
 refine Zse (fun {H x v Q} rx ⟨z,e,q⟩=>?_) (fun x e h=>?_) ha
 ·cases x<;>first|(simp only[Zrz] at e;cases e;done)|skip
  cases e;cases rx
  exact⟨_,rfl,q rfl _ rfl⟩
 ·cases x<;>(simp only[Zrz] at h;cases h)
theorem Zkc {g:Bool->Bool} (x y:PV) (e:PX):Zhk g x y≠.exc e:=by
 unfold Zhk
 intro h
 split at h<;>cases h
theorem Zlz {g:Bool->Bool} (x y z:PV) (h:Zhk g x y=.ok z):z.flat=true:=by
 unfold Zhk at h
 split at h
 ·cases h;rfl
 ·cases h
theorem Jo {g:Bool->Bool} (ha:DE K EX Γ Γ1 .A ta fa) (hb:DE K EX Γ1 Γ2 .A tb fb):DE K EX Γ Γ2 .P (tOp (ZrL K g) ta tb) (fun ρ=>(fa ρ).bind fun x=>(fb ρ).bind fun y=>Zhk g x y):=by
 refine Zn9 (fun {H x y v w Q} rx ry ⟨z,e,q⟩=>?_) Zlz Zkc ha hb
 unfold Zhk at e
 by_cases h:(okD x&&okD y)=true
 ·rw[if_pos h] at e;cases e
  rw[Bool.and_eq_true] at h
  exact⟨x,y,rx,ry,h.1,h.2,q rfl _ rfl⟩
 ·rw[if_neg h] at e;cases e
noncomputable def Zr1 (g:Bool->Bool) (x:PV):Rr PV:=match x with
 |.non=>.ok (.bl (g true))
 |_=>.ok (.bl (g false))
theorem Zlc {x:PV}{v:V}{S:Addr->Prop} (h:Rep K H S x v):decide (v=.non)=match x with|.non=>true|_=>false:=by
 cases x<;>first|(cases h;rfl)|(obtain⟨a,vs,rfl,_⟩:=h;rfl)|(obtain⟨a,vs,c,rfl,_⟩:=h;rfl)|(obtain⟨a,o,c,d,fs,rfl,_⟩:=h;rfl)
theorem ZjE (ha:DE K EX Γ Γ1 .A ta fa):DE K EX Γ Γ1 .P (tOp (fun x y H Q=>y=.non/\Q (.bl (decide (x=.non))) H) ta (tC .non)) (fun ρ=>(fa ρ).bind (Zr1 id)):=fun B H0 H σ ρ F R Q A d=>by
 refine ha B H0 H σ ρ F R _ A (d.bind.imp (fun x _ d v H1 s1 r1=>?_) fun e q=>q)
 obtain⟨F1,f1,p1,A1⟩:=r1
 have e:=Zlc p1
 refine⟨rfl, ?_⟩
 rw[e]
 cases x<;>exact d _ H1 s1 ⟨F1,f1,rfl,rfl,A1⟩
theorem Zp1 (ha:DE K EX Γ Γ1 .A ta fa):DE K EX Γ Γ1 .P (tOp (fun x y H Q=>y=.non/\Q (.bl (!decide (x=.non))) H) ta (tC .non)) (fun ρ=>(fa ρ).bind (Zr1 (!·))):=fun B H0 H σ ρ F R Q A d=>by
 refine ha B H0 H σ ρ F R _ A (d.bind.imp (fun x _ d v H1 s1 r1=>?_) fun e q=>q)
 obtain⟨F1,f1,p1,A1⟩:=r1
 have e:=Zlc p1
 refine⟨rfl, ?_⟩
 rw[e]
 cases x<;>exact d _ H1 s1 ⟨F1,f1,rfl,rfl,A1⟩
noncomputable def asB (x:PV):Rr Bool:=match x with
 |.bl b=>.ok b
 |_=>.bad
theorem Dn.asB {x:PV}{ok:Bool->Prop}{ex:PX->Prop} (d:Dn (asB x) ok ex):∃b,x=.bl b/\ok b:=by
 cases x with
 |bl b=>exact⟨b,rfl,d⟩
 |_=>exact d.elim
theorem Zrf (ha:DE K EX Γ Γ1 .A ta fa):DE K EX Γ Γ1 .P (Zqc ta) (fun ρ=>(fa ρ).bind fun x=>(asB x).bind fun b=>.ok (.bl (!b))):=fun B H0 H σ ρ F R Q A d=>by
 refine ha B H0 H σ ρ F R _ A (d.bind.imp (fun x _ d v H1 s1 r1=>?_) fun e q=>q)
 obtain⟨b,rfl,d⟩:=d.bind.asB
 obtain⟨F1,f1,p1,A1⟩:=r1
 cases p1
 exact⟨b,rfl,d _ H1 s1 ⟨F1,f1,rfl,rfl,A1⟩⟩
theorem Res.shift {H1:Hp}{F1:Nat->List Addr}{k:Kd}{Γ2:List Md}{y:PV}{w:V}{H2:Hp} (s1:ZF H H1) (f1:∀i,∀a∈F1 i,a∈F i) (h:Res K B H0 H1 σ Γ2 ρ F1 R k y w H2):Res K B H0 H σ Γ2 ρ F R k y w H2:=by
 obtain⟨F2,f2,h⟩:=h
 refine⟨F2,fun i a ha=>f1 i a (f2 i a ha), ?_⟩
 have org:∀a,(H1 a=none\/∃i,a∈F1 i)->(H a=none\/∃i,a∈F i):=fun a h=>h.elim (fun z=>.inl (s1.free z)) fun⟨i,z⟩=>.inr ⟨i,f1 i a z⟩
 cases k with
 |P=>exact h
 |F=>obtain⟨G,h1,h2,h3⟩:=h;exact⟨G,h1,fun a ha=>⟨(h2 a ha).1,org a (h2 a ha).2⟩,h3⟩
 |T=>obtain⟨a,vs,xs,h1,h2,h3,h4,h5,h6,h7⟩:=h;exact⟨a,vs,xs,h1,h2,h3,h4,h5,org a h6,h7⟩
 |Z=>exact h
 |A=>exact h
 |N=>exact h.elim
theorem ZjF (ha:DE K EX Γ Γ .A ta fa) (hb:DE K EX Γ Γ .P tb fb):DE K EX Γ Γ .P (Zqf ta tb) (fun ρ=>(fa ρ).bind fun x=>(asB x).bind fun b=>if b=true then fb ρ else .ok (.bl false)):=fun B H0 H σ ρ F R Q A d=>by
 refine ha B H0 H σ ρ F R _ A (d.bind.imp (fun x _ d v H1 s1 r1=>?_) fun e q=>q)
 obtain⟨b,rfl,d⟩:=d.bind.asB
 obtain⟨F1,f1,p1,A1⟩:=r1
 cases p1
 refine⟨b,rfl, ?_⟩
 cases b with
 |true=>exact hb B H0 H1 σ ρ F1 R _ A1 (d.imp (fun y _ q w H2 s2 r2=>q w H2 (s1.trans s2) (r2.shift s1 f1)) fun e q=>q)
 |false=>exact d _ H1 s1 ⟨F1,f1,rfl,rfl,A1⟩
theorem Zt (ha:DE K EX Γ Γ' .A ta fa):DT K EX Γ Γ' (Zqa ta) (fun ρ=>(fa ρ).bind asB):=fun B H0 H σ ρ F R Q A d=>by
 refine ha B H0 H σ ρ F R _ A (d.bind.imp (fun x _ d v H1 s1 r1=>?_) fun e q=>q)
 obtain⟨b,rfl,d⟩:=d.asB
 obtain⟨F1,f1,p1,A1⟩:=r1
 cases p1
 exact⟨b,rfl,d H1 F1 s1 f1 A1⟩
theorem ZpR (ha:DE K EX Γ Γ' .A ta fa):DT K EX Γ Γ' (tB ta) (fun ρ=>(fa ρ).bind asB):=Zt ha
theorem Zh3 {c d:TT}{fc fd:List PV->Rr Bool} (hc:DT K EX Γ Γ c fc) (hd:DT K EX Γ Γ d fd):DT K EX Γ Γ (Zsu c d) (fun ρ=>(fc ρ).bind fun b=>if b=true then fd ρ else .ok false):=fun B H0 H σ ρ F R Q A dn=>by
 refine hc B H0 H σ ρ F R _ A (dn.bind.imp (fun b _ dn H1 F1 s1 f1 A1=>?_) fun e q=>q)
 cases b with
 |true=>exact hd B H0 H1 σ ρ F1 R _ A1 (dn.imp (fun y _ q H2 F2 s2 f2 A2=>q H2 F2 (s1.trans s2) (fun i a h=>f1 i a (f2 i a h)) A2) fun e q=>q)
 |false=>exact dn H1 F1 s1 f1 A1
theorem Zfv {c d:TT}{fc fd:List PV->Rr Bool} (hc:DT K EX Γ Γ c fc) (hd:DT K EX Γ Γ d fd):DT K EX Γ Γ (tOr c d) (fun ρ=>(fc ρ).bind fun b=>if b=true then .ok true else fd ρ):=fun B H0 H σ ρ F R Q A dn=>by
 refine hc B H0 H σ ρ F R _ A (dn.bind.imp (fun b _ dn H1 F1 s1 f1 A1=>?_) fun e q=>q)
 cases b with
 |false=>exact hd B H0 H1 σ ρ F1 R _ A1 (dn.imp (fun y _ q H2 F2 s2 f2 A2=>q H2 F2 (s1.trans s2) (fun i a h=>f1 i a (f2 i a h)) A2) fun e q=>q)
 |true=>exact dn H1 F1 s1 f1 A1
theorem Zh2 {c:TT}{fc:List PV->Rr Bool} (hc:DT K EX Γ Γ' c fc):DT K EX Γ Γ' (Zsq c) (fun ρ=>(fc ρ).bind fun b=>.ok (!b)):=fun B H0 H σ ρ F R Q A dn =>
 hc B H0 H σ ρ F R _ A (dn.bind.imp (fun b _ dn H1 F1 s1 f1 A1=>dn H1 F1 s1 f1 A1) fun e q=>q)
theorem Zrg {c:TT}{fc:List PV->Rr Bool} (hc:DT K EX Γ Γ c fc) (ha:DE K EX Γ Γ' k ta fa) (hb:DE K EX Γ Γ' k tb fb):DE K EX Γ Γ' k (tIf c ta tb) (fun ρ=>(fc ρ).bind fun b=>if b=true then fa ρ else fb ρ):=fun B H0 H σ ρ F R Q A dn=>by
 refine hc B H0 H σ ρ F R _ A (dn.bind.imp (fun b _ dn H1 F1 s1 f1 A1=>?_) fun e q=>q)
 cases b with
 |true=>exact ha B H0 H1 σ ρ F1 R _ A1 (dn.imp (fun y _ q w H2 s2 r2=>q w H2 (s1.trans s2) (r2.shift s1 f1)) fun e q=>q)
 |false=>exact hb B H0 H1 σ ρ F1 R _ A1 (dn.imp (fun y _ q w H2 s2 r2=>q w H2 (s1.trans s2) (r2.shift s1 f1)) fun e q=>q)
end
def DAA (K:W.Frag) (EX:PX->Hp->Prop) (Γ Γ':List Md) (ta:TA) (f:List PV->Rr (List PV)):Prop:=
 ∀(B:Addr->Prop) (H0 H:Hp) (σ:St) (ρ:List PV) (F:Nat->List Addr) (R:List Addr) (Q:List V->Hp->Prop),Ag K B H0 H σ Γ ρ F R ->
  Dn (f ρ) (fun xs=>∀vs H' F',ZF H H'->(∀i,∀a∈F' i,a∈F i)->Y1 K H' (fun _=>True) xs vs->Ag K B H0 H' σ Γ' ρ F' R->Q vs H') (fun e=>∀H',ZF H0 H'->EX e H')->ta σ H Q
def DAF (K:W.Frag) (EX:PX->Hp->Prop) (Γ Γ':List Md) (ta:TA) (f:List PV->Rr (List PV)):Prop:=
 ∀(B:Addr->Prop) (H0 H:Hp) (σ:St) (ρ:List PV) (F:Nat->List Addr) (R:List Addr) (Q:List V->Hp->Prop),Ag K B H0 H σ Γ ρ F R ->
  Dn (f ρ) (fun xs=>∀vs H' F' G,ZF H H'->(∀i,∀a∈F' i,a∈F i)->ZE K H' xs vs G->(∀a∈G,a ∉ R/\(H a=none\/∃i,a∈F i))->Ag K B H0 H' σ Γ' ρ F' (G++R)->Q vs H') (fun e=>∀H',ZF H0 H'->EX e H')->ta σ H Q
def DAZ (K:W.Frag) (EX:PX->Hp->Prop) (Γ Γ':List Md) (ta:TA) (f:List PV->Rr (List PV)):Prop:=
 ∀(B:Addr->Prop) (H0 H:Hp) (σ:St) (ρ:List PV) (F:Nat->List Addr) (R:List Addr) (Q:List V->Hp->Prop),Ag K B H0 H σ Γ ρ F R ->
  Dn (f ρ) (fun xs=>∀vs H' F',ZF H H'->(∀i,∀a∈F' i,a∈F i)->Y1 K H' (NO B F' R) xs vs->Ag K B H0 H' σ Γ' ρ F' R->Q vs H') (fun e=>∀H',ZF H0 H'->EX e H')->ta σ H Q
section
variable {K:W.Frag}{B:Addr->Prop}{EX:PX->Hp->Prop}{H0 H H':Hp}{σ:St}{Γ Γ' Γ1 Γ2 Γ3:List Md}{ρ:List PV}{F F':Nat->List Addr}{R:List Addr}{k:Kd}{x:PV}{v:V}{te tb tc:TE}{ta:TA}{f fb fc:List PV->Rr PV}{fa:List PV->Rr (List PV)}
theorem Ze:DAA K EX Γ Γ ZiU (fun _=>.ok []):=fun B H0 H σ ρ F R Q A d=>d [] H F (ZF.refl H) (fun _ _ h=>h) rfl A
theorem Za (he:DE K EX Γ Γ1 .A te f) (ha:DAA K EX Γ1 Γ2 ta fa):DAA K EX Γ Γ2 (ZdF te ta) (fun ρ=>(f ρ).bind fun x=>(fa ρ).bind fun xs=>.ok (x::xs)):=fun B H0 H σ ρ F R Q A d=>by
 refine he B H0 H σ ρ F R _ A (d.bind.imp (fun x _ d v H1 s1 r1=>?_) fun e q=>q)
 obtain⟨F1,f1,p1,A1⟩:=r1
 refine ha B H0 H1 σ ρ F1 R _ A1 (d.bind.imp (fun xs _ d vs H2 F2 s2 f2 p2 A2=>?_) fun e q=>q)
 exact d (v::vs) H2 F2 (s1.trans s2) (fun i a h=>f1 i a (f2 i a h)) ⟨v,vs,rfl,p1.same s2,p2⟩ A2
theorem YQ:DAF K EX Γ Γ ZiU (fun _=>.ok []):=fun B H0 H σ ρ F R Q A d=>d [] H F [] (ZF.refl H) (fun _ _ h=>h) ⟨rfl,rfl⟩ (by simp) A
theorem YN (he:DE K EX Γ Γ1 .F te f) (ha:DAF K EX Γ1 Γ2 ta fa):DAF K EX Γ Γ2 (ZdF te ta) (fun ρ=>(f ρ).bind fun x=>(fa ρ).bind fun xs=>.ok (x::xs)):=fun B H0 H σ ρ F R Q A d=>by
 refine he B H0 H σ ρ F R _ A (d.bind.imp (fun x _ d v H1 s1 r1=>?_) fun e q=>q)
 obtain⟨F1,f1,G1,p1,o1,A1⟩:=r1
 refine ha B H0 H1 σ ρ F1 (G1++R) _ A1 (d.bind.imp (fun xs _ d vs H2 F2 G2 s2 f2 p2 o2 A2=>?_) fun e q=>q)
 refine d (v::vs) H2 F2 (G1++G2) (s1.trans s2) (fun i a h=>f1 i a (f2 i a h)) ⟨v,vs,G1,G2,rfl,p1.same s2,p2,fun a ha z=>(o2 a z).1 (Zts _ ha),rfl⟩ (fun a ha=>?_) (A2.less fun a ha=>?_)
 ·rcases Ztk.mp ha with z|z
  ·exact o1 a z
  ·obtain⟨o3,o4⟩:=o2 a z
   exact⟨fun q=>o3 (Zth _ q),o4.elim (fun q=>.inl (s1.free q)) fun⟨i,q⟩=>.inr ⟨i,f1 i a q⟩⟩
 ·simp only[Ztk] at ha ⊢
  rcases ha with (z|z)|z
  ·exact .inr (.inl z)
  ·exact .inl z
  ·exact .inr (.inr z)
theorem ZbV:DAZ K EX Γ Γ ZiU (fun _=>.ok []):=fun B H0 H σ ρ F R Q A d=>d [] H F (ZF.refl H) (fun _ _ h=>h) rfl A
theorem V5 (he:DE K EX Γ Γ1 .Z te f) (ha:DAZ K EX Γ1 Γ2 ta fa):DAZ K EX Γ Γ2 (ZdF te ta) (fun ρ=>(f ρ).bind fun x=>(fa ρ).bind fun xs=>.ok (x::xs)):=fun B H0 H σ ρ F R Q A d=>by
 refine he B H0 H σ ρ F R _ A (d.bind.imp (fun x _ d v H1 s1 r1=>?_) fun e q=>q)
 obtain⟨F1,f1,p1,A1⟩:=r1
 refine ha B H0 H1 σ ρ F1 R _ A1 (d.bind.imp (fun xs _ d vs H2 F2 s2 f2 p2 A2=>?_) fun e q=>q)
 refine d (v::vs) H2 F2 (s1.trans s2) (fun i a h=>f1 i a (f2 i a h)) ⟨v,vs,rfl, ?_,p2⟩ A2
 exact Rep.mono (fun a us s r=>⟨r.same s2,s.1,s.2.1,fun i z=>s.2.2 i (f2 i a z)⟩) (fun a us r=>s2.im r) p1
noncomputable def mkT (xs:List PV):Rr PV:=if xs.length<=1000 then .ok (.tup xs) else .bad
noncomputable def mkL (xs:List PV):Rr PV:=if xs.length<=1000 then .ok (.lst xs) else .bad
theorem Dn.mkT {xs:List PV}{ok:PV->Prop}{ex:PX->Prop} (d:Dn (mkT xs) ok ex):xs.length<=1000/\ok (.tup xs):=by
 unfold L2.mkT at d
 by_cases h:xs.length<=1000
 ·rw[if_pos h] at d;exact⟨h,d⟩
 ·rw[if_neg h] at d;exact d.elim
theorem Dn.mkL {xs:List PV}{ok:PV->Prop}{ex:PX->Prop} (d:Dn (mkL xs) ok ex):xs.length<=1000/\ok (.lst xs):=by
 unfold L2.mkL at d
 by_cases h:xs.length<=1000
 ·rw[if_pos h] at d;exact⟨h,d⟩
 ·rw[if_neg h] at d;exact d.elim
theorem ZeJ (ha:DAF K EX Γ Γ' ta fa):DE K EX Γ Γ' .F (Zrw ta) (fun ρ=>(fa ρ).bind mkT):=fun B H0 H σ ρ F R Q A d=>by
 refine ha B H0 H σ ρ F R _ A (d.bind.imp (fun xs _ d vs H1 F1 G s1 f1 p1 o1 A1=>?_) fun e q=>q)
 obtain⟨hl,d⟩:=d.mkT
 refine⟨by rw[p1.length];exact Zbv hl,fun p hp=>?_⟩
 have e:ZF H1 (upd H1 p (.tup vs)):=ZF.new hp
 exact d _ _ (s1.trans e) ⟨F1,f1,G,⟨p,vs,rfl,⟨YL,trivial⟩,p1.same e⟩,o1,A1.grow e⟩
theorem Zp0 (ha:DAZ K EX Γ Γ' ta fa):DE K EX Γ Γ' .Z (Zrw ta) (fun ρ=>(fa ρ).bind mkT):=fun B H0 H σ ρ F R Q A d=>by
 refine ha B H0 H σ ρ F R _ A (d.bind.imp (fun xs _ d vs H1 F1 s1 f1 p1 A1=>?_) fun e q=>q)
 obtain⟨hl,d⟩:=d.mkT
 refine⟨by rw[p1.length];exact Zbv hl,fun p hp=>?_⟩
 have e:ZF H1 (upd H1 p (.tup vs)):=ZF.new hp
 exact d _ _ (s1.trans e) ⟨F1,f1,⟨p,vs,rfl,⟨YL,trivial⟩,p1.same e⟩,A1.grow e⟩
theorem Zmk (ha:DAA K EX Γ Γ' ta fa):DE K EX Γ Γ' .A (Zrw ta) (fun ρ=>(fa ρ).bind mkT):=fun B H0 H σ ρ F R Q A d=>by
 refine ha B H0 H σ ρ F R _ A (d.bind.imp (fun xs _ d vs H1 F1 s1 f1 p1 A1=>?_) fun e q=>q)
 obtain⟨hl,d⟩:=d.mkT
 refine⟨by rw[p1.length];exact Zbv hl,fun p hp=>?_⟩
 have e:ZF H1 (upd H1 p (.tup vs)):=ZF.new hp
 exact d _ _ (s1.trans e) ⟨F1,f1,⟨p,vs,rfl,⟨YL,trivial⟩,p1.same e⟩,A1.grow e⟩
theorem Res.newF {H1:Hp}{F1:Nat->List Addr}{G:List Addr}{xs:List PV}{vs:List V}{p:Addr} (s1:ZF H H1) (f1:∀i,∀a∈F1 i,a∈F i) (p1:ZE K H1 xs vs G) (o1:∀a∈G,a ∉ R/\(H a=none\/∃i,a∈F i)) (A1:Ag K B H0 H1 σ Γ' ρ F1 (G++R)) (hp:H1 p=none) :
  Res K B H0 H σ Γ' ρ F R .F (.lst xs) (.ref p) (upd H1 p (.lst vs)):=by
 have e:ZF H1 (upd H1 p (.lst vs)):=ZF.new hp
 have hf:=A1.fresh hp
 refine⟨F1,f1,p::G,⟨p,vs,G,rfl,YL,p1.same e,fun z=>hf.1 (Zts _ z),rfl⟩,fun a ha=>?_,A1.new hp⟩
 rcases Ztt.mp ha with rfl|z
 ·exact⟨fun z=>hf.1 (Zth _ z),.inl (s1.free hp)⟩
 ·exact o1 a z
theorem Res.newP {H1:Hp}{F1:Nat->List Addr}{xs:List PV}{vs:List V}{p:Addr}{S:Addr->Prop} (s1:ZF H H1) (f1:∀i,∀a∈F1 i,a∈F i) (p1:Y1 K H1 S xs vs) (hx:PV.flats xs=true) (A1:Ag K B H0 H1 σ Γ' ρ F1 R) (hp:H1 p=none) :
  Res K B H0 H σ Γ' ρ F R .F (.lst xs) (.ref p) (upd H1 p (.lst vs)):=Res.newF (G:=[]) s1 f1 (p1.trees hx) (by simp) A1 hp
theorem Res.newT {H1:Hp}{F1:Nat->List Addr}{xs:List PV}{vs:List V}{p:Addr} (s1:ZF H H1) (f1:∀i,∀a∈F1 i,a∈F i) (p1:Y1 K H1 (NO B F1 R) xs vs) (A1:Ag K B H0 H1 σ Γ' ρ F1 R) (hp:H1 p=none) :
  Res K B H0 H σ Γ' ρ F R .T (.lst xs) (.ref p) (upd H1 p (.lst vs)):=by
 have e:ZF H1 (upd H1 p (.lst vs)):=ZF.new hp
 have hf:=A1.fresh hp
 refine⟨F1,f1,p,vs,xs,rfl,rfl,YL, ?_,hf.1,.inl (s1.free hp),A1.new hp⟩
 refine Y1.mono (fun a us s r=>⟨r.same e,s.1,fun z=>?_,s.2.2⟩) (fun a us r=>e.im r) p1
 rcases Ztt.mp z with rfl|z
 ·rcases r with r|⟨o,r⟩<;>(rw[hp] at r;cases r)
 ·exact s.2.1 z
theorem Jb (ha:DAF K EX Γ Γ' ta fa):DE K EX Γ Γ' .F (Zry ta) (fun ρ=>(fa ρ).bind mkL):=fun B H0 H σ ρ F R Q A d=>by
 refine ha B H0 H σ ρ F R _ A (d.bind.imp (fun xs _ d vs H1 F1 G s1 f1 p1 o1 A1=>?_) fun e q=>q)
 obtain⟨hl,d⟩:=d.mkL
 refine⟨by rw[p1.length];exact Zbv hl,fun p hp=>d _ _ (s1.trans (ZF.new hp)) (Res.newF s1 f1 p1 o1 A1 hp)⟩
theorem Zp3 (ha:DAZ K EX Γ Γ' ta fa):DE K EX Γ Γ' .T (Zry ta) (fun ρ=>(fa ρ).bind mkL):=fun B H0 H σ ρ F R Q A d=>by
 refine ha B H0 H σ ρ F R _ A (d.bind.imp (fun xs _ d vs H1 F1 s1 f1 p1 A1=>?_) fun e q=>q)
 obtain⟨hl,d⟩:=d.mkL
 refine⟨by rw[p1.length];exact Zbv hl,fun p hp=>d _ _ (s1.trans (ZF.new hp)) (Res.newT s1 f1 p1 A1 hp)⟩
noncomputable def pIx (x y:PV):Rr PV:=match x,y with
 |.lst xs,.int i=>match atI xs i with
  |some z=>.ok z
  |none=>.bad
 |.tup xs,.int i=>match atI xs i with
  |some z=>.ok z
  |none=>.bad
 |_,_=>.bad
theorem Zlb {S:Addr->Prop}{xs:List PV}{vs:List V}{i:Int}{z:PV} (h:Y1 K H S xs vs) (e:atI xs i=some z):∃u,atI vs i=some u/\Rep K H S z u:=by
 unfold atI at e ⊢
 rw[h.length]
 cases q:ixN xs.length i with
 |none=>rw[q] at e;cases e
 |some j =>
  rw[q] at e
  obtain⟨u,e1,e2⟩:=h.get e
  exact⟨u,e1,e2⟩
theorem ZnY {S:Addr->Prop}{x y z:PV}{v w:V}{Q:VK} (hx:Rep K H S x v) (hy:Rep K H (fun _=>True) y w) (e:pIx x y=.ok z) (q:∀u,Rep K H S z u->Q u H):rIx K v w H Q:=by
 cases x<;>cases y<;>first|(simp only[pIx] at e;cases e;done)|skip
 ·rename_i xs i
  obtain⟨a,vs,rfl,hn,hr⟩:=hx
  cases hy
  simp only[pIx] at e
  cases e1:atI xs i with
  |none=>rw[e1] at e;cases e
  |some z' =>
   rw[e1] at e;cases e
   obtain⟨u,e2,e3⟩:=Zlb hr e1
   exact .inl ⟨a,vs,i,u,rfl,rfl,Qg hn,e2,q u e3⟩
 ·rename_i xs i
  obtain⟨a,vs,rfl,hn,hr⟩:=hx
  cases hy
  simp only[pIx] at e
  cases e1:atI xs i with
  |none=>rw[e1] at e;cases e
  |some z' =>
   rw[e1] at e;cases e
   obtain⟨u,e2,e3⟩:=Zlb hr e1
   exact .inr (.inl ⟨a,vs,i,u,rfl,rfl,hn.sqT,e2,q u e3⟩)
theorem Zlx (x y:PV) (e:PX):pIx x y≠.exc e:=by
 cases x<;>cases y<;>first|(intro h;simp only[pIx] at h;cases h;done)|skip
 all_goals
  intro h
  simp only[pIx] at h
  split at h<;>cases h
theorem Dn.pIx {x y:PV}{ok:PV->Prop}{ex:PX->Prop} (d:Dn (pIx x y) ok ex):∃z,pIx x y=.ok z/\ok z:=by
 cases e:L2.pIx x y with
 |ok z=>rw[e] at d;exact⟨z,rfl,d⟩
 |exc q=>exact absurd e (Zlx x y q)
 |bad=>rw[e] at d;exact d.elim
theorem Yo {te ta':TE}{fa':List PV->Rr PV} (ha:DE K EX Γ Γ1 .A ta' fa') (hb:DE K EX Γ1 Γ2 .A tb fb):DE K EX Γ Γ2 .A (tOp (rIx K) ta' tb) (fun ρ=>(fa' ρ).bind fun x=>(fb ρ).bind fun y=>pIx x y):=fun B H0 H σ ρ F R Q A d=>by
 refine two ha hb A d.bind2 fun x y v w H' F' d s hF p1 p2 A'=>?_
 obtain⟨z,e,d⟩:=d.pIx
 exact ZnY p1 p2 e fun u hu=>d u H' s ⟨F',hF,hu,A'⟩
theorem Zoo {te ta':TE}{fa':List PV->Rr PV} (ha:DE K EX Γ Γ1 .Z ta' fa') (hb:DE K EX Γ1 Γ2 .A tb fb):DE K EX Γ Γ2 .Z (tOp (rIx K) ta' tb) (fun ρ=>(fa' ρ).bind fun x=>(fb ρ).bind fun y=>pIx x y):=fun B H0 H σ ρ F R Q A d=>by
 refine ha B H0 H σ ρ F R _ A (d.bind.imp (fun x _ d v H1 s1 r1=>?_) fun e q=>q)
 obtain⟨F1,f1,p1,A1⟩:=r1
 refine hb B H0 H1 σ ρ F1 R _ A1 (d.bind.imp (fun y _ d w H2 s2 r2=>?_) fun e q=>q)
 obtain⟨F2,f2,p2,A2⟩:=r2
 obtain⟨z,e,d⟩:=d.pIx
 have p1':Rep K H2 (NO B F2 R) x v:=Rep.mono (fun a us s r=>⟨r.same s2,s.1,s.2.1,fun i z=>s.2.2 i (f2 i a z)⟩) (fun a us r=>s2.im r) p1
 exact ZnY p1' p2 e fun u hu=>d u H2 (s1.trans s2) ⟨F2,fun i a h=>f1 i a (f2 i a h),hu,A2⟩
def CbP (K:W.Frag) (r:List V->Hp->VK->Prop) (o:List PV->Rr PV):Prop:=∀{H:Hp}{xs:List PV}{vs:List V}{Q:VK},Y1 K H (fun _=>True) xs vs->∀z,o xs=.ok z->z.flat=true/\((∀u,Rep K H (fun _=>True) z u->Q u H)->r vs H Q)
theorem Zp4 {r:List V->Hp->VK->Prop}{o:List PV->Rr PV} (hr:CbP K r o) (hx:∀xs e,o xs≠.exc e) (ha:DAA K EX Γ Γ' ta fa):DE K EX Γ Γ' .P (tCB r ta) (fun ρ=>(fa ρ).bind o):=fun B H0 H σ ρ F R Q A d=>by
 refine ha B H0 H σ ρ F R _ A (d.bind.imp (fun xs _ d vs H1 F1 s1 f1 p1 A1=>?_) fun e q=>q)
 cases e:o xs with
 |ok z =>
  rw[e] at d
  obtain⟨hf,h⟩:=hr (Q:=Q) p1 z e
  exact h fun u hu=>d u H1 s1 ⟨F1,f1,hf,hu,A1⟩
 |exc q=>exact absurd e (hx xs q)
 |bad=>rw[e] at d;exact d.elim
noncomputable def Zk4 (xs:List PV):Rr PV:=match xs with
 |[.lst ys]=>.ok (.int ys.length)
 |[.tup ys]=>.ok (.int ys.length)
 |_=>.bad
theorem Zfk {S:Addr->Prop}{x:PV}{vs:List V} (h:Y1 K H S [x] vs):∃v,vs=[v]/\Rep K H S x v:=by
 obtain⟨v,r,rfl,h1,h2⟩:=h
 cases h2
 exact⟨v,rfl,h1⟩
theorem Zql {S:Addr->Prop}{x y:PV}{vs:List V} (h:Y1 K H S [x,y] vs):∃v w,vs=[v,w]/\Rep K H S x v/\Rep K H S y w:=by
 obtain⟨v,r,rfl,h1,w,r',rfl,h2,h3⟩:=h
 cases h3
 exact⟨v,w,rfl,h1,h2⟩
theorem Wn (ha:DAA K EX Γ Γ' ta fa):DE K EX Γ Γ' .P (tCB (fun xs H Q=>∃p ys,xs=[.ref p]/\(SqL K H p ys\/SqT K H p ys)/\Q (.int ys.length) H) ta) (fun ρ=>(fa ρ).bind Zk4):=by
 refine Zp4 (fun {H xs vs Q} h z e=>?_) (fun xs e h=>?_) ha
 ·unfold Zk4 at e
  split at e<;>first|(cases e;done)|skip
  all_goals
   cases e
   refine⟨rfl,fun q=>?_⟩
   obtain⟨v,rfl,a,ws,rfl,hn,hr⟩:=Zfk h
   refine⟨a,ws,rfl, ?_,by rw[hr.length];exact q _ rfl⟩
   first|exact .inl (Qg (S:=fun _=>True) hn)|exact .inr hn.sqT
 ·unfold Zk4 at h;split at h<;>cases h
noncomputable def Zd7:List PV->Option (List Int)
 |[]=>some []
 |.int i::xs=>(Zd7 xs).map (i::·)
 |_::_=>none
@[simp] theorem Zkk (ns:List Int):Zd7 (ns.map PV.int)=some ns:=by
 induction ns with
 |nil=>rfl
 |cons n ns ih=>simp[Zd7,ih]
theorem Zht:∀{xs:List PV}{ns:List Int},Zd7 xs=some ns->xs=ns.map PV.int
 |[],_,h=>by cases h;rfl
 |.int i::xs,ns,h=>by
  simp only[Zd7] at h
  cases e:Zd7 xs with
  |none=>rw[e] at h;cases h
  |some ms=>rw[e] at h;cases h;rw[Zht e];rfl
 |.non::_,_,h=>by cases h
 |.bl _::_,_,h=>by cases h
 |.str _::_,_,h=>by cases h
 |.exc _::_,_,h=>by cases h
 |.exa _ _::_,_,h=>by cases h
 |.box _ _ _::_,_,h=>by cases h
 |.lst _::_,_,h=>by cases h
 |.tup _::_,_,h=>by cases h
theorem Zhc {S:Addr->Prop}:∀{ns:List Int}{vs:List V},Y1 K H S (ns.map PV.int) vs->vs=ns.map V.int
 |[],_,h=>h
 |n::ns,_,h=>by
  obtain⟨v,r,rfl,h1,h2⟩:=h
  cases h1
  rw[Zhc h2];rfl
theorem Zhs {S:Addr->Prop}:∀(ns:List Int),Y1 K H S (ns.map PV.int) (ns.map V.int)
 |[]=>rfl
 |n::ns=>⟨_,_,rfl,rfl,Zhs ns⟩
theorem Zjh {S:Addr->Prop}{ns:List Int}{v:V} (h:Rep K H S (.lst (ns.map PV.int)) v):∃a,v=.ref a/\SqL K H a (ns.map V.int):=by
 obtain⟨a,vs,rfl,hn,hr⟩:=h
 rw[Zhc hr] at hn
 exact⟨a,rfl,Qg hn⟩
noncomputable def Zhj (g:List Int->Rr PV) (xs:List PV):Rr PV:=match xs with
 |[.lst ys]=>match Zd7 ys with
  |some ns=>g ns
  |none=>.bad
 |_=>.bad
theorem Rr.ints {g:List Int->Rr PV}{xs:List PV}{z:PV} (e:Zhj g xs=.ok z):∃ns,xs=[.lst (ns.map PV.int)]/\g ns=.ok z:=by
 unfold Zhj at e
 split at e
 ·split at e
  ·rename_i ns h
   exact⟨ns,by rw[Zht h],e⟩
  ·cases e
 ·cases e
theorem Zeu {g:List Int->Rr PV} (hg:∀ns e,g ns≠.exc e) (xs:List PV) (e:PX):Zhj g xs≠.exc e:=by
 intro h
 unfold Zhj at h
 split at h
 ·split at h
  ·exact hg _ _ h
  ·cases h
 ·cases h
noncomputable abbrev ZrM:=Zhj fun ns=>.ok (.int ns.sum)
theorem ZeK (ha:DAA K EX Γ Γ' ta fa):DE K EX Γ Γ' .P (tCB (fun xs H Q=>∃p,∃ns:List Int,xs=[.ref p]/\SqL K H p (ns.map V.int)/\Q (.int ns.sum) H) ta) (fun ρ=>(fa ρ).bind ZrM):=by
 refine Zp4 (fun {H xs vs Q} h z e=>?_) (Zeu fun ns e h=>by cases h) ha
 obtain⟨ns,rfl,e'⟩:=Rr.ints e
 cases e'
 obtain⟨v,rfl,h1⟩:=Zfk h
 obtain⟨a,rfl,h2⟩:=Zjh h1
 exact⟨rfl,fun q=>⟨a,ns,rfl,h2,q _ rfl⟩⟩
noncomputable def ZiB:List PV->Option (List Bool)
 |[]=>some []
 |.bl i::xs=>(ZiB xs).map (i::·)
 |_::_=>none
@[simp] theorem Zmv (ns:List Bool):ZiB (ns.map PV.bl)=some ns:=by
 induction ns with
 |nil=>rfl
 |cons n ns ih=>simp[ZiB,ih]
theorem ZjK:∀{xs:List PV}{ns:List Bool},ZiB xs=some ns->xs=ns.map PV.bl
 |[],_,h=>by cases h;rfl
 |.bl i::xs,ns,h=>by
  simp only[ZiB] at h
  cases e:ZiB xs with
  |none=>rw[e] at h;cases h
  |some ms=>rw[e] at h;cases h;rw[ZjK e];rfl
 |.non::_,_,h=>by cases h
 |.int _::_,_,h=>by cases h
 |.str _::_,_,h=>by cases h
 |.exc _::_,_,h=>by cases h
 |.exa _ _::_,_,h=>by cases h
 |.box _ _ _::_,_,h=>by cases h
 |.lst _::_,_,h=>by cases h
 |.tup _::_,_,h=>by cases h
theorem Zjg {S:Addr->Prop}:∀{ns:List Bool}{vs:List V},Y1 K H S (ns.map PV.bl) vs->vs=ns.map V.bl
 |[],_,h=>h
 |n::ns,_,h=>by
  obtain⟨v,r,rfl,h1,h2⟩:=h
  cases h1
  rw[Zjg h2];rfl
noncomputable def Zq5 (xs:List PV):Rr PV:=match xs with
 |[.lst ys]=>match ZiB ys with
  |some bs=>.ok (.bl (bs.all id))
  |none=>.bad
 |_=>.bad
theorem Zoq (ha:DAA K EX Γ Γ' ta fa):DE K EX Γ Γ' .P (tCB (fun xs H Q=>∃p,∃bs:List Bool,xs=[.ref p]/\SqL K H p (bs.map V.bl)/\Q (.bl (bs.all id)) H) ta) (fun ρ=>(fa ρ).bind Zq5):=by
 refine Zp4 (fun {H xs vs Q} h z e=>?_) (fun xs e h=>?_) ha
 ·unfold Zq5 at e
  split at e
  ·split at e
   ·rename_i bs hb
    cases e
    rw[ZjK hb] at h
    obtain⟨v,rfl,a,ws,rfl,hn,hr⟩:=Zfk h
    rw[Zjg hr] at hn
    exact⟨rfl,fun q=>⟨a,bs,rfl,Qg (S:=fun _=>True) hn,q _ rfl⟩⟩
   ·cases e
  ·cases e
 ·unfold Zq5 at h
  split at h
  ·split at h<;>cases h
  ·cases h
end
theorem V1 {n:Nat} (h:n<=1000000):n<=sizeLine:=Zt5 h (by decide)
def LX (K:W.Frag) (H:Hp) (a:Addr) (vs:List V):Prop:=Rd H a (.lst vs)\/KL K a vs
noncomputable def Zqp (K:W.Frag):R2:=fun x y H Q=>∃l b xs zs,x=.ref l/\y=.ref b/\LX K H l xs/\LX K H b zs/\xs.length+zs.length<=sizeLine/\∀p,H p=none->Q (.ref p) (upd H p (.lst (xs++zs)))
section
variable {X:Cx}{K:W.Frag}
theorem Zq9 {H:Hp}{S:Addr->Prop}{a:Addr}{vs:List V} (h:(Rd H a (.lst vs)/\S a)\/KL K a vs):LX K H a vs:=h.elim (fun z=>.inl z.1) .inr
theorem Zev (e:X.K=K:=by rfl):OpR X (binaryOp .Add) (Zqp K):=by
 subst e
 intro pins s σ H x y v u Q I rx ry h
 obtain⟨l,b,xs,zs,rfl,rfl,hH,hB,hz,q⟩:=h
 cases rx
 cases ry
 obtain⟨its,r,pl,_⟩:=I.list (show SqL X.K H l xs from hH)
 obtain⟨its2,r2,pl2,_⟩:=I.list (show SqL X.K H b zs from hB)
 have hl:=r.length
 have hl2:=r2.length
 obtain⟨⟨cls,dd,data,sl⟩,ho,hc,n,hd⟩:=pl.isList
 obtain⟨⟨cls2,dd2,data2,sl2⟩,ho2,hc2,n2,hd2⟩:=pl2.isList
 simp only at hc hd hc2 hd2
 subst hc hd hc2 hd2
 have ea:its.toArray++its2.toArray=(its++its2).toArray:=by simp
 refine concat_meets ⟨_,ho,rfl⟩ ⟨_,ho2,rfl⟩ noFill_list_add seq_list_add PySem.F.slot_list_add PySem.F.entry_list_add (PySem.F.args_list_add_2 _ _) (list_addW l b its.toArray its2.toArray n n2 dd dd2 sl sl2 (by rw[Ztp,Ztp];omega)) ⟨ho,ho2, ?_⟩
 rw[ea]
 exact⟨.ref _,_,I.lnew (t':=s.toks) (r.append r2) (by rw[Zt8];omega),rfl,q _ I.fresh⟩
end
def Frm (H:Hp) (F:Nat->List Addr) (H':Hp) (F':Nat->List Addr):Prop:=∀a o,H a=some o->(∀i,a ∉ F i)->H' a=some o/\∀i,a ∉ F' i
theorem Frm.refl {H:Hp}{F:Nat->List Addr}:Frm H F H F:=fun a o h n=>⟨h,n⟩
theorem Frm.trans {H H1 H2:Hp}{F F1 F2:Nat->List Addr} (h1:Frm H F H1 F1) (h2:Frm H1 F1 H2 F2):Frm H F H2 F2:=fun a o h n=>let ⟨h3,n3⟩:=h1 a o h n;h2 a o h3 n3
theorem Frm.of {H H':Hp}{F F':Nat->List Addr} (s:ZF H H') (f:∀i,∀a∈F' i,a∈F i):Frm H F H' F':=fun a o h n=>⟨s a o h,fun i z=>n i (f i a z)⟩
def ItP (K:W.Frag) (S:Addr->Prop) (J:It) (xs:List PV) (H:Hp):Prop:=
 ∀i,(∀x,xs[i]?=some x->J.go i H/\∀v H',J.yld i H v H'->ZF H H'/\Rep K H' S x v)/\(xs[i]?=none->J.stop i H)
def DI (K:W.Frag) (EX:PX->Hp->Prop) (Γ Γ':List Md) (wi:TI) (f:List PV->Rr (List PV)):Prop:=
 ∀(B:Addr->Prop) (H0 H:Hp) (σ:St) (ρ:List PV) (F:Nat->List Addr) (R:List Addr) (Q:It->Hp->Prop),Ag K B H0 H σ Γ ρ F R ->
  Dn (f ρ) (fun xs=>∀J H' F',ZF H H'->(∀i,∀a∈F' i,a∈F i)->Ag K B H0 H' σ Γ' ρ F' R->(∀H2 F2,Frm H' F' H2 F2->ItP K (fun a=>NO B F2 R a/\H' a≠none/\∀i,a ∉ F' i) J xs H2)->Q J H') (fun e=>∀H',ZF H0 H'->EX e H')->wi σ H Q
def DIc (K:W.Frag) (EX:PX->Hp->Prop) (Γ Γ':List Md) (wi:TI) (f:List PV->Rr (List PV)):Prop:=
 ∀(B:Addr->Prop) (H0 H:Hp) (σ:St) (ρ:List PV) (F:Nat->List Addr) (R:List Addr) (Q:It->Hp->Prop),Ag K B H0 H σ Γ ρ F R ->
  Dn (f ρ) (fun xs=>∀J H' F',ZF H H'->(∀i,∀a∈F' i,a∈F i)->Ag K B H0 H' σ Γ' ρ F' R->(∀H2 F2,ZF H' H2->(∀i,∀a∈F2 i,a∈F' i)->ItP K (fun a=>NO B F2 R a/\H' a≠none/\∀i,a ∉ F' i) J xs H2)->Q J H') (fun e=>∀H',ZF H0 H'->EX e H')->wi σ H Q
theorem DI.c {K:W.Frag}{EX:PX->Hp->Prop}{Γ Γ':List Md}{wi:TI}{f:List PV->Rr (List PV)} (h:DI K EX Γ Γ' wi f):DIc K EX Γ Γ' wi f:=fun B H0 H σ ρ F R Q A d =>
 h B H0 H σ ρ F R Q A (d.imp (fun xs _ d J H' F' s1 f1 A1 it=>d J H' F' s1 f1 A1 fun H2 F2 s2 f2=>it H2 F2 (Frm.of s2 f2)) fun e q=>q)
theorem ItP.flat {K:W.Frag}{S S':Addr->Prop}{J:It}{xs:List PV}{H:Hp} (f:PV.flats xs=true) (h:ItP K S J xs H):ItP K S' J xs H:=fun i=>by
 refine⟨fun x hx=>?_,(h i).2⟩
 obtain⟨h1,h2⟩:=(h i).1 x hx
 have fx:∀(xs:List PV) (i:Nat),PV.flats xs=true->xs[i]?=some x->x.flat=true:=by
  intro xs
  induction xs with
  |nil=>intro i _ h;simp at h
  |cons y ys ih =>
   intro i hf hx
   simp only[PV.flats,Bool.and_eq_true] at hf
   cases i with
   |zero=>simp at hx;rw[<- hx];exact hf.1
   |succ i=>exact ih i hf.2 (by simpa using hx)
 exact⟨h1,fun v H' y=>⟨(h2 v H' y).1,(h2 v H' y).2.flatS (fx xs i f hx)⟩⟩
section
variable {K:W.Frag}{B:Addr->Prop}{EX:PX->Hp->Prop}{H0 H H':Hp}{σ:St}{Γ Γ' Γ1 Γ2 Γ3:List Md}{ρ:List PV}{F F':Nat->List Addr}{R:List Addr}{k:Kd}{x:PV}{v:V}{te tb tc:TE}{ta:TA}{f fb fc:List PV->Rr PV}{fa:List PV->Rr (List PV)}
theorem Rep.frm {F2:Nat->List Addr}{H2:Hp} (h:Frm H F H2 F2) (A:Ag K B H0 H σ Γ ρ F R) (r:Rep K H (NO B F R) x v):Rep K H2 (fun a=>NO B F2 R a/\H a≠none/\∀i,a ∉ F i) x v:=by
 refine Rep.mono (fun a us s r=>?_) (fun a us r=>?_) r
 ·rcases r with r|⟨o,r⟩
  ·obtain⟨h1,h2⟩:=h a _ r s.2.2;exact⟨.inl h1,⟨s.1,s.2.1,h2⟩,by rw[r];simp,s.2.2⟩
  ·obtain⟨h1,h2⟩:=h a _ r s.2.2;exact⟨.inr ⟨o,h1⟩,⟨s.1,s.2.1,h2⟩,by rw[r];simp,s.2.2⟩
 ·refine⟨(h a _ r.1 fun i z=>?_).1,r.2⟩
  obtain⟨vs,q⟩:=A.live i a z
  exact Zj1 vs.2 r.2 (by rw[r.1] at q;exact Option.some.inj q)
noncomputable def ZhW (lo:Int) (n:Nat):List PV:=(List.range n).map fun(k:Nat)=>PV.int (lo+(k:Int))
theorem ZlP {lo:Int}{n:Nat}{S:Addr->Prop}:ItP K S (Itr lo n) (ZhW lo n) H:=by
 intro i
 constructor
 ·intro x hx
  unfold ZhW at hx
  rw[Ztz] at hx
  by_cases h:i<n
  ·rw[Zt9 h] at hx
   cases hx
   exact⟨h,fun v H' ⟨e1,e2⟩=>by subst e1 e2;exact⟨ZF.refl _,rfl⟩⟩
  ·rw[Zt2 (by simpa using h)] at hx;cases hx
 ·intro hx
  unfold ZhW at hx
  have:=ZtN.mp hx
  show n<=i
  simpa using this
noncomputable def okR (j:Int):Bool:=decide (-(2^62)<=j/\j<2^62)
noncomputable def ZmV (xs:List PV):Rr (List PV):=match xs with
 |[.int j]=>if okR j=true then .ok (ZhW 0 j.toNat) else .bad
 |_=>.bad
noncomputable def ZmT (xs:List PV):Rr (List PV):=match xs with
 |[.int i,.int j]=>if (okR i&&okR j)=true then .ok (ZhW i (j-i).toNat) else .bad
 |_=>.bad
theorem UK (ha:DAA K EX Γ Γ' ta fa):DI K EX Γ Γ' (ZqU ta) (fun ρ=>(fa ρ).bind ZmV):=fun B H0 H σ ρ F R Q A d=>by
 refine ha B H0 H σ ρ F R _ A (d.bind.imp (fun xs _ d vs H1 F1 s1 f1 p1 A1=>?_) fun e q=>q)
 unfold ZmV at d
 split at d
 ·rename_i j _
  obtain⟨v,rfl,h1⟩:=Zfk p1
  cases h1
  by_cases h:okR j=true
  ·rw[if_pos h] at d
   have h':=of_decide_eq_true h
   exact⟨j,rfl,h'.1,h'.2,d _ H1 F1 s1 f1 A1 fun H2 F2 _=>ZlP⟩
  ·rw[if_neg h] at d;exact d.elim
 ·exact d.elim
theorem Zpx (ha:DAA K EX Γ Γ' ta fa):DI K EX Γ Γ' (ZqT ta) (fun ρ=>(fa ρ).bind ZmT):=fun B H0 H σ ρ F R Q A d=>by
 refine ha B H0 H σ ρ F R _ A (d.bind.imp (fun xs _ d vs H1 F1 s1 f1 p1 A1=>?_) fun e q=>q)
 unfold ZmT at d
 split at d
 ·rename_i i j _
  obtain⟨v,w,rfl,h1,h2⟩:=Zql p1
  cases h1;cases h2
  by_cases h:(okR i&&okR j)=true
  ·rw[if_pos h] at d
   rw[Bool.and_eq_true] at h
   have h':=of_decide_eq_true h.1
   have h'':=of_decide_eq_true h.2
   exact⟨i,j,rfl,⟨h'.1,h'.2,h''.1,h''.2⟩,d _ H1 F1 s1 f1 A1 fun H2 F2 _=>ZlP⟩
  ·rw[if_neg h] at d;exact d.elim
 ·exact d.elim
noncomputable def asL (x:PV):Rr (List PV):=match x with
 |.lst xs=>.ok xs
 |_=>.bad
theorem ZlQ {a:Addr}{xs:List PV}{S:Addr->Prop} (h:Rep K H S (.lst xs) (.ref a)):ItP K S (Itl K a) xs H:=by
 obtain⟨a',vs,e,hn,hr⟩:=h
 cases e
 intro i
 constructor
 ·intro x hx
  obtain⟨u,e1,e2⟩:=hr.get hx
  refine⟨⟨vs,u,Qg hn,e1⟩,fun v H' ⟨e,y⟩=>?_⟩
  subst e
  have:=y vs (Qg hn)
  rw[e1] at this;cases this
  exact⟨ZF.refl _,e2⟩
 ·intro hx
  exact⟨vs,Qg hn,by rw[hr.length];exact ZtN.mp hx⟩
theorem Zg5 (he:DE K EX Γ Γ' .Z te f):DI K EX Γ Γ' (ZlU K te) (fun ρ=>(f ρ).bind asL):=fun B H0 H σ ρ F R Q A d=>by
 refine he B H0 H σ ρ F R _ A (d.bind.imp (fun x _ d v H1 s1 r1=>?_) fun e q=>q)
 obtain⟨F1,f1,p1,A1⟩:=r1
 cases x with
 |lst xs =>
  obtain⟨a,vs,rfl,hn,hr⟩:=id p1
  exact⟨a,rfl,⟨vs,Qg hn⟩,d _ H1 F1 s1 f1 A1 fun H2 F2 h=>ZlQ (p1.frm h A1)⟩
 |_=>exact d.elim
noncomputable def Zr8 (x:PV):Rr (List PV):=match x with
 |.lst xs=>if PV.flats xs=true then .ok xs else .bad
 |_=>.bad
theorem ZjB (he:DE K EX Γ Γ' .A te f):DIc K EX Γ Γ' (ZlU K te) (fun ρ=>(f ρ).bind Zr8):=fun B H0 H σ ρ F R Q A d=>by
 refine he B H0 H σ ρ F R _ A (d.bind.imp (fun x _ d v H1 s1 r1=>?_) fun e q=>q)
 obtain⟨F1,f1,p1,A1⟩:=r1
 cases x with
 |lst xs =>
  unfold Zr8 at d
  by_cases hf:PV.flats xs=true
  ·simp only[hf,if_true] at d
   obtain⟨a,vs,rfl,hn,hr⟩:=id p1
   exact⟨a,rfl,⟨vs,Qg (S:=fun _=>True) hn⟩,d _ H1 F1 s1 f1 A1 fun H2 F2 s2 _=>ItP.flat hf (ZlQ (p1.same s2))⟩
  ·simp only[hf] at d;exact d.elim
 |_=>exact d.elim
theorem Zcu:∀{ns:List Int},PV.flats (ns.map PV.int)=true
 |[]=>rfl
 |n::ns=>by simp only[Ztv,PV.flats,PV.flat,Zcu,Bool.and_self]
theorem ZnK {ns:List Int}:Zr8 (.lst (ns.map PV.int))=.ok (ns.map PV.int):=by unfold Zr8;simp only[Zcu,if_true]
def DO (K:W.Frag) (EX:PX->Hp->Prop) (Γ Γ':List Md) (t:TO) (f:List PV->Rr (Option Int)):Prop:=
 ∀(B:Addr->Prop) (H0 H:Hp) (σ:St) (ρ:List PV) (F:Nat->List Addr) (R:List Addr) (Q:Option Int->Hp->Prop),Ag K B H0 H σ Γ ρ F R ->
  Dn (f ρ) (fun o=>∀H' F',ZF H H'->(∀i,∀a∈F' i,a∈F i)->Ag K B H0 H' σ Γ' ρ F' R->Q o H') (fun e=>∀H',ZF H0 H'->EX e H')->t σ H Q
theorem Zmj:DO K EX Γ Γ ZkN (fun _=>.ok none):=fun B H0 H σ ρ F R Q A d=>d H F (ZF.refl H) (fun _ _ h=>h) A
noncomputable def asI (x:PV):Rr Int:=match x with
 |.int i=>.ok i
 |_=>.bad
theorem Dn.asI {x:PV}{ok:Int->Prop}{ex:PX->Prop} (d:Dn (asI x) ok ex):∃b,x=.int b/\ok b:=by
 cases x with
 |int b=>exact⟨b,rfl,d⟩
 |_=>exact d.elim
theorem Zmi (he:DE K EX Γ Γ' .A te f):DO K EX Γ Γ' (Zqb te) (fun ρ=>(f ρ).bind fun x=>(asI x).bind fun i=>.ok (some i)):=fun B H0 H σ ρ F R Q A d=>by
 refine he B H0 H σ ρ F R _ A (d.bind.imp (fun x _ d v H1 s1 r1=>?_) fun e q=>q)
 obtain⟨i,rfl,d⟩:=d.bind.asI
 obtain⟨F1,f1,p1,A1⟩:=r1
 cases p1
 exact⟨i,rfl,d H1 F1 s1 f1 A1⟩
noncomputable def Zp8 {α:Type} (xs:List α) (lo hi:Option Int):List α:=(xs.drop (HT.sIx xs.length 0 lo)).take (HT.sIx xs.length xs.length hi-HT.sIx xs.length 0 lo)
theorem Y1.cut {S:Addr->Prop}{xs:List PV}{vs:List V} (h:Y1 K H S xs vs) (lo hi:Option Int):Y1 K H S (Zp8 xs lo hi) (ZpS vs lo hi):=by
 unfold Zp8 ZpS
 rw[h.length]
 exact(h.drop _).take _
noncomputable def newF (xs:List PV):Rr PV:=if (PV.flats xs&&decide (xs.length<=1000000))=true then .ok (.lst xs) else .bad
theorem Dn.newF {xs:List PV}{ok:PV->Prop}{ex:PX->Prop} (d:Dn (newF xs) ok ex):PV.flats xs=true/\xs.length<=1000000/\ok (.lst xs):=by
 unfold L2.newF at d
 by_cases h:(PV.flats xs&&decide (xs.length<=1000000))=true
 ·rw[if_pos h] at d
  rw[Bool.and_eq_true] at h
  exact⟨h.1,of_decide_eq_true h.2,d⟩
 ·rw[if_neg h] at d;exact d.elim
theorem Zom {tl th:TO}{fl fh:List PV->Rr (Option Int)} (he:DE K EX Γ Γ1 .A te f) (hl:DO K EX Γ1 Γ2 tl fl) (hh:DO K EX Γ2 Γ3 th fh) :
  DE K EX Γ Γ3 .F (tSl (ZrJ K) te tl th) (fun ρ=>(f ρ).bind fun x=>(fl ρ).bind fun lo=>(fh ρ).bind fun hi=>(asL x).bind fun xs=>newF (Zp8 xs lo hi)):=fun B H0 H σ ρ F R Q A d=>by
 refine he B H0 H σ ρ F R _ A (d.bind.imp (fun x _ d v H1 s1 r1=>?_) fun e q=>q)
 obtain⟨F1,f1,p1,A1⟩:=r1
 refine hl B H0 H1 σ ρ F1 R _ A1 (d.bind.imp (fun lo _ d H2 F2 s2 f2 A2=>?_) fun e q=>q)
 refine hh B H0 H2 σ ρ F2 R _ A2 (d.bind.imp (fun hi _ d H3 F3 s3 f3 A3=>?_) fun e q=>q)
 cases x with
 |lst xs =>
  obtain⟨h1,h2,d⟩:=Dn.newF d
  obtain⟨a,vs,rfl,hn,hr⟩:=(p1.same s2).same s3
  refine⟨a,vs,rfl,Qg (S:=fun _=>True) hn,fun p hp=>?_⟩
  exact d _ _ (((s1.trans s2).trans s3).trans (ZF.new hp)) (Res.newP ((s1.trans s2).trans s3) (fun i a h=>f1 i a (f2 i a (f3 i a h))) (hr.cut lo hi) h1 A3 hp)
 |_=>exact d.elim
theorem ZeM {tb':TE}{fb':List PV->Rr PV} (ha:DE K EX Γ Γ1 .A te f) (hb:DE K EX Γ1 Γ2 .A tb' fb') :
  DE K EX Γ Γ2 .F (tOp (Zqp K) te tb') (fun ρ=>(f ρ).bind fun x=>(fb' ρ).bind fun y=>(asL x).bind fun xs=>(asL y).bind fun ys=>newF (xs++ys)):=fun B H0 H σ ρ F R Q A d=>by
 refine two ha hb A d.bind2 fun x y v w H' F' d s hF p1 p2 A'=>?_
 cases x with
 |lst xs =>
  cases y with
  |lst ys =>
   obtain⟨h1,h2,d⟩:=Dn.newF d
   obtain⟨a,vs,rfl,hn,hr⟩:=p1
   obtain⟨b,ws,rfl,hn',hr'⟩:=p2
   refine⟨a,b,vs,ws,rfl,rfl,Zq9 (S:=fun _=>True) hn,Zq9 (S:=fun _=>True) hn', ?_,fun p hp=>?_⟩
   ·rw[hr.length,hr'.length,<- Zt8];exact V1 h2
   ·exact d _ _ (s.trans (ZF.new hp)) (Res.newP s hF (hr.append hr') h1 A' hp)
  |_=>exact d.elim
 |_=>exact d.elim
noncomputable def Zqu (xs:List PV) (y:PV):Rr PV:=match y with
 |.int k=>if xs.length*k.toNat<=1000000/\-(2^63)<=k/\k<2^63 then newF (List.replicate k.toNat xs).flatten else .bad
 |_=>.bad
theorem Y1.rep {S:Addr->Prop}{xs:List PV}{vs:List V} (h:Y1 K H S xs vs):∀n:Nat,Y1 K H S (List.replicate n xs).flatten (List.replicate n vs).flatten
 |0=>rfl
 |n+1=>by
  rw[Zud,Zud,Zux,Zux]
  exact h.append (Y1.rep h n)
theorem Zml (ha:DAA K EX Γ Γ1 ta fa) (hb:DE K EX Γ1 Γ2 .A tb fb) :
  DE K EX Γ Γ2 .F (tOp Zsw (Zry ta) tb) (fun ρ=>(fa ρ).bind fun xs=>(mkL xs).bind fun _=>(fb ρ).bind fun y=>Zqu xs y):=fun B H0 H σ ρ F R Q A d=>by
 refine ha B H0 H σ ρ F R _ A (d.bind.imp (fun xs _ d vs H1 F1 s1 f1 p1 A1=>?_) fun e q=>q)
 obtain⟨hl,d⟩:=Dn.mkL d.bind
 refine⟨by rw[p1.length];exact Zbv hl,fun p hp=>?_⟩
 have e:ZF H1 (upd H1 p (.lst vs)):=ZF.new hp
 refine hb B H0 _ σ ρ F1 R _ (A1.grow e) (d.bind.imp (fun y _ d w H2 s2 r2=>?_) fun e q=>q)
 obtain⟨F2,f2,p2,A2⟩:=r2
 cases y with
 |int k =>
  cases p2
  simp only[Zqu] at d
  by_cases h:xs.length*k.toNat<=1000000/\-(2^63)<=k/\k<2^63
  ·rw[if_pos h] at d
   obtain⟨h1,h2,d⟩:=Dn.newF d
   refine⟨p,k,vs,rfl,rfl,s2 _ _ YL,h.2.1,h.2.2,by rw[p1.length];exact V1 h.1,fun q hq=>?_⟩
   have st:=(s1.trans e).trans s2
   exact d _ _ (st.trans (ZF.new hq)) (Res.newP st (fun i a h=>f1 i a (f2 i a h)) (((p1.same e).same s2).rep k.toNat) h1 A2 hq)
  ·rw[if_neg h] at d;exact d.elim
 |_=>exact d.elim
noncomputable def Znb (xs:List PV):Rr PV:=match xs with
 |[.lst ys]=>newF ys
 |[.tup ys]=>newF ys
 |_=>.bad
theorem JO (ha:DAA K EX Γ Γ' ta fa):DE K EX Γ Γ' .F (tCB (fun xs H Q=>∃p ys,xs=[.ref p]/\(SqL K H p ys\/SqT K H p ys)/\∀l,H l=none->Q (.ref l) (upd H l (.lst ys))) ta) (fun ρ=>(fa ρ).bind Znb):=fun B H0 H σ ρ F R Q A d=>by
 refine ha B H0 H σ ρ F R _ A (d.bind.imp (fun xs _ d vs H1 F1 s1 f1 p1 A1=>?_) fun e q=>q)
 unfold Znb at d
 split at d
 ·obtain⟨h1,h2,d⟩:=Dn.newF d
  obtain⟨v,rfl,a,ws,rfl,hn,hr⟩:=Zfk p1
  exact⟨a,ws,rfl,.inl (Qg (S:=fun _=>True) hn),fun l hl=>d _ _ (s1.trans (ZF.new hl)) (Res.newP s1 f1 hr h1 A1 hl)⟩
 ·obtain⟨h1,h2,d⟩:=Dn.newF d
  obtain⟨v,rfl,a,ws,rfl,hn,hr⟩:=Zfk p1
  exact⟨a,ws,rfl,.inr hn.sqT,fun l hl=>d _ _ (s1.trans (ZF.new hl)) (Res.newP s1 f1 hr h1 A1 hl)⟩
 ·exact d.elim
noncomputable def Zb5:PV->String
 |.non => "NoneType"
 |.bl _ => "bool"
 |.int _ => "int"
 |.str _ => "str"
 |.lst _ => "list"
 |.tup _ => "tuple"
 |.exc _ => "?"
 |.exa _ _ => "?"
 |.box _ (.dk _) _ => "dict"
 |.box _ (.dt _) _ => "dict"
 |.box _ (.ob _ _) _ => "?"
noncomputable def PV.isX:PV->Bool
 |.exc _=>true
 |.exa _ _=>true
 |.box _ _ _=>true
 |_=>false
noncomputable def Zgu (t n:String):Bool:=t==n || (t == "bool" && n == "int")
noncomputable def ZrE (n:String):Bool:=n == "int" || n == "bool" || n == "str" || n == "list" || n == "tuple"
theorem ZqH (K:W.Frag) {n:String} (h:ZrE n=true) (x:PV) (hx:x.isX=false):PySem.W.kitOne K (.type (Zb5 x)) (.type n)=some (Zgu (Zb5 x) n):=by
 simp only[ZrE,Bool.or_eq_true,beq_iff_eq] at h
 rcases h with (((rfl|rfl)|rfl)|rfl)|rfl<;>cases x<;>first|rfl|cases hx
def Zs0 (K:W.Frag) (n:String):List V->Hp->VK->Prop:=fun xs H Q=>∃x p,xs=[x,.ty n]/\Rep K H (fun _=>True) p x/\p.isX=false/\Q (.bl (Zgu (Zb5 p) n)) H
theorem ZeT {X:Cx}{n:String} (hn:ZrE n=true) (e:X.K=K:=by rfl):QD X (.builtin "isinstance") (Zs0 K n):=by
 subst e
 intro pins s σ H xs us Q I r h
 obtain⟨x,p,rfl,hp,hx,q⟩:=h
 obtain⟨u,w',rfl,rx,rn⟩:=ZpX r
 cases rn
 have e:=ZqH X.K hn p hx
 have fin:∀tk,EP X pins σ Q (.bool (Zgu (Zb5 p) n)) { s with toks:=tk }:=fun tk=>⟨.bl _,H,I.tok _,rfl,q⟩
 cases p with
 |non=>cases hp;cases rx;exact PySem.W.kia_one PySem.W.kitx_none I.kIn True.intro e (fun z=>nomatch z) fin
 |bl y=>cases hp;cases rx;exact PySem.W.kia_one PySem.W.kitx_bool I.kIn True.intro e (fun z=>nomatch z) fin
 |int i=>cases hp;obtain⟨t,rfl⟩:=rx;exact PySem.W.kia_one PySem.W.kitx_int I.kIn True.intro e (fun z=>nomatch z) fin
 |str y=>cases hp;obtain⟨t,rfl⟩:=rx;exact PySem.W.kia_one PySem.W.kitx_str I.kIn True.intro e (fun z=>nomatch z) fin
 |exc y=>cases hx
 |exa y i=>cases hx
 |box p s ps=>cases hx
 |lst ps =>
  obtain⟨a,vs,rfl,hn',hr⟩:=hp
  cases rx
  obtain⟨its,_,pl,_⟩:=I.list (Qg (S:=fun _=>True) hn')
  obtain⟨o,h1,h2,_⟩:=pl.isList
  exact PySem.W.kia_one PySem.W.kitx_list I.kIn ⟨o,h1,h2⟩ e (fun z=>nomatch z) fin
 |tup ps =>
  obtain⟨a,vs,rfl,hn',hr⟩:=hp
  cases rx
  obtain⟨its,_,⟨o,h1,h2,_⟩,_⟩:=I.tuple hn'.sqT
  exact PySem.W.kia_one PySem.W.kitx_tuple I.kIn ⟨o,h1,h2⟩ e (fun z=>nomatch z) fin
noncomputable def Zr0 (n:String) (x:PV):Rr PV:=if x.isX=true then .bad else .ok (.bl (Zgu (Zb5 x) n))
theorem Zmn {n:String} (he:DE K EX Γ Γ' .A te f):DE K EX Γ Γ' .P (tCB (Zs0 K n) (ZdF te (ZdF (tC (.ty n)) ZiU))) (fun ρ=>(f ρ).bind (Zr0 n)):=fun B H0 H σ ρ F R Q A d=>by
 refine he B H0 H σ ρ F R _ A (d.bind.imp (fun x _ d v H1 s1 r1=>?_) fun e q=>q)
 obtain⟨F1,f1,p1,A1⟩:=r1
 unfold Zr0 at d
 cases hx:x.isX with
 |true=>rw[hx] at d;exact d.elim
 |false=>rw[hx] at d;exact⟨v,x,rfl,p1,hx,d _ H1 s1 ⟨F1,f1,rfl,rfl,A1⟩⟩
def Len (fa:List PV->Rr (List PV)) (n:Nat):Prop:=∀ρ xs,fa ρ=.ok xs->xs.length=n
theorem Zi:Len (fun _=>.ok []) 0:=fun ρ xs h=>by cases h;rfl
theorem Zd {f:List PV->Rr PV}{fa:List PV->Rr (List PV)}{n:Nat} (h:Len fa n):Len (fun ρ=>(f ρ).bind fun x=>(fa ρ).bind fun xs=>.ok (x::xs)) (n+1):=fun ρ xs e=>by
 dsimp only at e
 cases h1:f ρ with
 |ok x =>
  rw[h1] at e
  cases h2:fa ρ with
  |ok ys=>simp only[Rr.bind_ok,h2] at e;cases e;simp[h ρ ys h2]
  |exc q=>simp only[Rr.bind_ok,h2,Rr.bind_exc] at e;cases e
  |bad=>simp only[Rr.bind_ok,h2,Rr.bind_bad] at e;cases e
 |exc q=>rw[h1] at e;cases e
 |bad=>rw[h1] at e;cases e
def Zoz (K:W.Frag) (B:Addr->Prop) (H:Hp) (k:Kd) (x:PV) (v:V) (H':Hp):Prop:=match k with
 |.P=>x.flat=true/\Rep K H' (fun _=>True) x v
 |.F=>∃G,Zcd K H' x v G/\∀a∈G,H a=none
 |.N=>∃y a s xs G1 G2,x=.tup [y,.box (some a) s xs]/\Zcd K H' y v G1/\Zcd K H' (.box (some a) s xs) (.ref a) G2/\(∀b∈G1,b ∉ G2)/\(∀b∈G1,H b=none)/\∀b∈G2,H b=none
 |_=>Rep K H' (fun a=>B a\/H a=none) x v
noncomputable def spF (K:PySem.W.Frag) (n:Nat) (k:Kd) (W:PX->XK->Hp->Prop) (m:List PV->Rr PV):Sp:=fun vs H Q E=>∃B xs,Y1 K H B xs vs/\xs.length=n /\
 Dn (m xs) (fun x=>∀v H',ZF H H'->Zoz K B H k x v H'->Q v H') (fun e=>∀H',ZF H H'->W e E H')
def W0:PX->XK->Hp->Prop:=fun _ _ _=>False
def X0:PX->Hp->Prop:=fun _ _=>False
section
variable {n:Nat}{W:PX->XK->Hp->Prop}{m:List PV->Rr PV}{E:XK}
theorem Zg6 {t:TE} (ht:∀σ H Q,(ta σ H fun vs H1=>spF K n .P W m vs H1 Q E)->t σ H Q) (hW:∀e H',EX e H'->W e E H') (hn:Len fa n) (ha:DAA K EX Γ Γ' ta fa):DE K EX Γ Γ' .P t (fun ρ=>(fa ρ).bind m):=fun B H0 H σ ρ F R Q A d=>by
 refine ht _ _ _ (ha B H0 H σ ρ F R _ A (d.bind.imp (fun xs hx d vs H1 F1 s1 f1 p1 A1=>?_) fun e q=>q))
 exact⟨fun _=>True,xs,p1,hn ρ xs hx,d.imp (fun x _ d v H2 s2 r=>d v H2 (s1.trans s2) ⟨F1,f1,r.1,r.2,A1.grow s2⟩) fun e q H2 s2=>hW e H2 (q H2 (A1.same.trans s2))⟩
theorem Zg7 {t:TE} (ht:∀σ H Q,(ta σ H fun vs H1=>spF K n .F W m vs H1 Q E)->t σ H Q) (hW:∀e H',EX e H'->W e E H') (hn:Len fa n) (ha:DAA K EX Γ Γ' ta fa):DE K EX Γ Γ' .F t (fun ρ=>(fa ρ).bind m):=fun B H0 H σ ρ F R Q A d=>by
 refine ht _ _ _ (ha B H0 H σ ρ F R _ A (d.bind.imp (fun xs hx d vs H1 F1 s1 f1 p1 A1=>?_) fun e q=>q))
 refine⟨fun _=>True,xs,p1,hn ρ xs hx,d.imp (fun x _ d v H2 s2 r=>?_) fun e q H2 s2=>hW e H2 (q H2 (A1.same.trans s2))⟩
 obtain⟨G,r1,r2⟩:=r
 exact d v H2 (s1.trans s2) ⟨F1,f1,G,r1,fun a ha=>⟨(A1.fresh (r2 a ha)).1,.inl (s1.free (r2 a ha))⟩,A1.more s2 r2 r1.alive⟩
theorem ZnD {t:TE} (ht:∀σ H Q,(ta σ H fun vs H1=>spF K n .Z W m vs H1 Q E)->t σ H Q) (hW:∀e H',EX e H'->W e E H') (hn:Len fa n) (ha:DAZ K EX Γ Γ' ta fa):DE K EX Γ Γ' .Z t (fun ρ=>(fa ρ).bind m):=fun B H0 H σ ρ F R Q A d=>by
 refine ht _ _ _ (ha B H0 H σ ρ F R _ A (d.bind.imp (fun xs hx d vs H1 F1 s1 f1 p1 A1=>?_) fun e q=>q))
 refine⟨NO B F1 R,xs,p1,hn ρ xs hx,d.imp (fun x _ d v H2 s2 r=>?_) fun e q H2 s2=>hW e H2 (q H2 (A1.same.trans s2))⟩
 refine d v H2 (s1.trans s2) ⟨F1,f1,Rep.mono (fun a us s r=>⟨r, ?_⟩) (fun a us r=>r) r,A1.grow s2⟩
 rcases s with s|s
 ·exact s
 ·obtain⟨h1,h2,h3,h4⟩:=A1.fresh s
  exact⟨h4,h1,h2⟩
end
end
noncomputable def ZhX {α β:Type} (f:α->Rr β):List α->Rr (List β)
 |[]=>.ok []
 |x::xs=>(f x).bind fun y=>(ZhX f xs).bind fun ys=>.ok (y::ys)
noncomputable def lenM (xs:List PV):Rr Unit:=if xs.length<=1000000 then .ok () else .bad
theorem Dn.lenM {xs:List PV}{ok:Unit->Prop}{ex:PX->Prop} (d:Dn (lenM xs) ok ex):xs.length<=1000000/\ok ():=by
 unfold L2.lenM at d
 by_cases h:xs.length<=1000000
 ·rw[if_pos h] at d;exact⟨h,d⟩
 ·rw[if_neg h] at d;exact d.elim
theorem Rr.assoc {α β γ:Type}{r:Rr α}{f:α->Rr β}{g:β->Rr γ}:(r.bind f).bind g=r.bind fun a=>(f a).bind g:=by cases r<;>rfl
section
variable {K:W.Frag}{B:Addr->Prop}{EX:PX->Hp->Prop}{H0 H H':Hp}{σ:St}{Γ Γ' Γ1 Γ2 Γ3:List Md}{ρ:List PV}{F F':Nat->List Addr}{R:List Addr}{k:Kd}{x:PV}{v:V}{te tb tc:TE}{ta:TA}{f fb fc fe:List PV->Rr PV}{fa:List PV->Rr (List PV)}
theorem Ag.outF (A:Ag K B H0 H σ Γ ρ F R) {i:Nat} (h:Γ.length<=i):F i=[]:=by
 have:=A.slot i
 rw[Zte,Zt2 h] at this
 exact this
theorem Ag.push (A:Ag K B H0 H σ Γ ρ F R) (h:Rep K H (NO B F R) x v):Ag K B H0 H (σ++[some v]) (Γ++[.S]) (ρ++[x]) F R:=by
 refine⟨A.same,A.own,A.young,A.youngR,A.live,A.liveR,A.disj,A.disjR,by simp[A.lenS],by simp[A.lenR],fun i=>?_⟩
 by_cases h1:i<Γ.length
 ·have:=A.slot i
  rw[Zte,Zte,Ztl h1,Ztl (by rw[A.lenR];exact h1),Ztl (by rw[A.lenS];exact h1),<- Zte,<- Zte]
  exact this
 ·by_cases h2:i=Γ.length
  ·subst h2
   rw[Zte,Zte,Ztm (Ztj _),Ztm (by rw[A.lenR];exact Ztj _),Ztm (by rw[A.lenS];exact Ztj _),A.lenR,A.lenS]
   simp only[ZuQ,ZuK,Zur]
   exact⟨A.outF (Ztj _),v,rfl,h⟩
  ·rw[Zte,Zt2 (by simp;omega)]
   exact A.outF (by omega)
theorem Ag.pop {o:Option V} (A:Ag K B H0 H (σ++[o]) (Γ++[.S]) (ρ++[x]) F R):Ag K B H0 H σ Γ ρ F R:=by
 have l1:σ.length=Γ.length:=by have:=A.lenS;simpa using this
 have l2:ρ.length=Γ.length:=by have:=A.lenR;simpa using this
 refine⟨A.same,A.own,A.young,A.youngR,A.live,A.liveR,A.disj,A.disjR,l1,l2,fun i=>?_⟩
 have:=A.slot i
 by_cases h1:i<Γ.length
 ·rw[Zte,Zte,Ztl h1,Ztl (by rw[l2];exact h1),Ztl (by rw[l1];exact h1),<- Zte,<- Zte] at this
  exact this
 ·rw[Zte,Zt2 (by omega)]
  by_cases h2:i=Γ.length
  ·subst h2
   rw[Zte,Ztm (Ztj _)] at this
   simp only[ZuQ,ZuK,Zur] at this
   exact this.1
  ·exact A.outF (by simp;omega)
theorem Qe {wi:TI}{fi:List PV->Rr (List PV)} (hi:DIc K EX Γ Γ1 wi fi) (he:DE K EX (Γ1++[.S]) (Γ1++[.S]) .F te fe) :
  DE K EX Γ Γ1 .F (ZmG wi te) (fun ρ=>(fi ρ).bind fun xs=>(lenM xs).bind fun _=>(ZhX (fun x=>fe (ρ++[x])) xs).bind fun ys=>.ok (.lst ys)):=fun B H0 H σ ρ F R Q A d=>by
 refine hi B H0 H σ ρ F R _ A (d.bind.imp (fun xs _ d J H1 F1 s1 f1 A1 it=>?_) fun e q=>q)
 obtain⟨hlen,d⟩:=Dn.lenM d.bind
 refine⟨fun i m ys H2=>∃zs G F2,m=xs.length-i/\i<=xs.length/\ys.length=i/\ZF H1 H2/\ZE K H2 zs ys G/\(∀a∈G,a ∉ R/\(H1 a=none\/∃j,a∈F1 j))/\(∀i,∀a∈F2 i,a∈F1 i)/\Ag K B H0 H2 σ Γ1 ρ F2 (G++R) /\
  Dn ((ZhX (fun x=>fe (ρ++[x])) (xs.drop i)).bind fun ys'=>.ok (.lst (zs++ys'))) (fun x=>∀v H',ZF H H'->Res K B H0 H σ Γ1 ρ F R .F x v H'->Q v H') (fun e=>∀H',ZF H0 H'->EX e H'),
  ⟨xs.length,[],[],F1,by simp,ZtB _,rfl,ZF.refl _,⟨rfl,rfl⟩,by simp,fun _ _ h=>h,A1,by simpa using d⟩, ?_⟩
 rintro i m ys H2 ⟨zs,G,F2,rfl,hi',hl,s2,tr,o2,f2,A2,dn⟩
 refine⟨V1 (by omega), ?_⟩
 have itp:=it H2 F2 s2 f2 i
 cases hx:xs[i]? with
 |none =>
  refine .inl ⟨itp.2 hx,fun p hp=>?_⟩
  have hd:xs.drop i=[]:=ZtW (ZtN.mp hx)
  rw[hd] at dn
  have dn':∀v H',ZF H H'->Res K B H0 H σ Γ1 ρ F R .F (.lst (zs++[])) v H'->Q v H':=dn
  rw[Zub] at dn'
  exact dn' _ _ ((s1.trans s2).trans (ZF.new hp)) (Res.newF (s1.trans s2) (fun i a h=>f1 i a (f2 i a h)) tr (fun a ha=>⟨(o2 a ha).1,(o2 a ha).2.elim (fun z=>.inl (s1.free z)) fun⟨j,z⟩=>.inr ⟨j,f1 j a z⟩⟩) A2 hp)
 |some x =>
  have hlt:i<xs.length:=(Zti.mp hx).1
  obtain⟨go,yl⟩:=itp.1 x hx
  have hdx:xs.drop i=x::xs.drop (i+1):=by
   rw[Zty hlt]
   rw[Ztf hlt] at hx;cases hx;rfl
  rw[hdx] at dn
  simp only[ZhX,Rr.assoc] at dn
  refine .inr ⟨go,fun ys' H'=>∃zs G F2,ys'.length=i+1/\ZF H1 H'/\ZE K H' zs ys' G/\(∀a∈G,a ∉ R/\(H1 a=none\/∃j,a∈F1 j))/\(∀i,∀a∈F2 i,a∈F1 i)/\Ag K B H0 H' σ Γ1 ρ F2 (G++R) /\
   Dn ((ZhX (fun x=>fe (ρ++[x])) (xs.drop (i+1))).bind fun ys'=>.ok (.lst (zs++ys'))) (fun x=>∀v H',ZF H H'->Res K B H0 H σ Γ1 ρ F R .F x v H'->Q v H') (fun e=>∀H',ZF H0 H'->EX e H'),
   fun ys' H' ⟨zs,G,F2,a1,a2,a3,a4,a5,a6,a7⟩=>⟨xs.length-(i+1),by omega,zs,G,F2,rfl,hlt,a1,a2,a3,a4,a5,a6,a7⟩,fun v H3 y=>?_⟩
  obtain⟨s3,rx⟩:=yl v H3 y
  have A3:=(A2.grow s3).push (x:=x) (v:=v) (Rep.mono (fun a us s r=>⟨r,s.1.1,fun z=>by
   rcases Ztk.mp z with z|z
   ·rcases (o2 a z).2 with q|⟨j,q⟩
    ·exact s.2.1 q
    ·exact s.2.2 j q
   ·exact s.1.2.1 z,s.1.2.2⟩) (fun a us r=>r) rx)
  refine he B H0 H3 _ _ F2 (G++R) _ A3 (dn.bind.imp (fun z _ dn w H4 s4 r4=>?_) fun e q=>q)
  obtain⟨F4,f4,G4,t4,o4,A4⟩:=r4
  refine⟨zs++[z],G++G4,F4,by simp[hl],(s2.trans s3).trans s4,ZE.append ((tr.same s3).same s4) (ZE.one t4) (fun a ha z=>(o4 a z).1 (Zts _ ha)),fun a ha=>?_,fun i a h=>f2 i a (f4 i a h),A4.pop.less fun a ha=>?_, ?_⟩
  ·rcases Ztk.mp ha with z|z
   ·exact o2 a z
   ·refine⟨fun q=>(o4 a z).1 (Zth _ q), ?_⟩
    rcases (o4 a z).2 with q|⟨j,q⟩
    ·exact .inl ((s2.trans s3).free q)
    ·exact .inr ⟨j,f2 j a q⟩
  ·simp only[Ztk] at ha ⊢
   rcases ha with (z|z)|z
   ·exact .inr (.inl z)
   ·exact .inl z
   ·exact .inr (.inr z)
  ·simp only[Rr.assoc,Rr.bind_ok,Ztq,Zuu] at dn ⊢
   exact dn
end
inductive RS where
 |next (ρ:List PV)|ret (x:PV)|brk (ρ:List PV)|cont (ρ:List PV)|exc (e:PX)|bad
noncomputable def Rr.thenS {α:Type}:Rr α->(α->RS)->RS
 |.ok a,f=>f a
 |.exc e,_=>.exc e
 |.bad,_=>.bad
noncomputable def RS.seq:RS->(List PV->RS)->RS
 |.next ρ,f=>f ρ
 |r,_=>r
@[simp] theorem Rr.thenS_ok {α:Type}{a:α}{f:α->RS}:(Rr.ok a).thenS f=f a:=rfl
@[simp] theorem Rr.thenS_exc {α:Type}{e:PX}{f:α->RS}:(Rr.exc e:Rr α).thenS f=.exc e:=rfl
@[simp] theorem RS.seq_next {ρ:List PV}{f:List PV->RS}:(RS.next ρ).seq f=f ρ:=rfl
@[simp] theorem RS.seq_ret {x:PV}{f:List PV->RS}:(RS.ret x).seq f=.ret x:=rfl
@[simp] theorem RS.seq_exc {e:PX}{f:List PV->RS}:(RS.exc e).seq f=.exc e:=rfl
structure Tys where
 n:List Md
 b:List Md
 c:List Md
 r:Kd
def DnS (K:W.Frag) (B:Addr->Prop) (EX:PX->Hp->Prop) (Y:Tys) (H0 H:Hp) (F:Nat->List Addr) (D:Zk3) (r:RS):Prop:=match r with
 |.next ρ=>∀σ' H' F',Frm H F H' F'->Ag K B H0 H' σ' Y.n ρ F' []->D.nx σ' H'
 |.brk ρ=>∀σ' H' F',Frm H F H' F'->Ag K B H0 H' σ' Y.b ρ F' []->D.bk σ' H'
 |.cont ρ=>∀σ' H' F',Frm H F H' F'->Ag K B H0 H' σ' Y.c ρ F' []->D.ct σ' H'
 |.ret x=>∀v H',ZF H0 H'->Zoz K B H0 Y.r x v H'->D.rt v H'
 |.exc e=>∀H',ZF H0 H'->EX e H'
 |.bad=>False
def DS (K:W.Frag) (EX:PX->Hp->Prop) (Γ:List Md) (Y:Tys) (t:TS) (g:List PV->RS):Prop:=
 ∀(B:Addr->Prop) (H0 H:Hp) (σ:St) (ρ:List PV) (F:Nat->List Addr) (D:Zk3),Ag K B H0 H σ Γ ρ F []->DnS K B EX Y H0 H F D (g ρ)->t D σ H
section
variable {K:W.Frag}{B:Addr->Prop}{EX:PX->Hp->Prop}{H0 H H':Hp}{σ:St}{Γ Γ' Γ1 Γ2 Γ3:List Md}{ρ:List PV}{F F':Nat->List Addr}{R:List Addr}{k:Kd}{x:PV}{v:V}{te tb tc:TE}{ta:TA}{f fb fc fe:List PV->Rr PV}{fa:List PV->Rr (List PV)}
 {t u:TS}{g g':List PV->RS}{Y:Tys}{D:Zk3}
theorem DnS.shift {H1:Hp}{F1:Nat->List Addr}{r:RS} (fr:Frm H F H1 F1) (h:DnS K B EX Y H0 H F D r):DnS K B EX Y H0 H1 F1 D r:=by
 cases r with
 |next ρ=>exact fun σ' H' F' fr' A=>h σ' H' F' (fr.trans fr') A
 |brk ρ=>exact fun σ' H' F' fr' A=>h σ' H' F' (fr.trans fr') A
 |cont ρ=>exact fun σ' H' F' fr' A=>h σ' H' F' (fr.trans fr') A
 |ret x=>exact h
 |exc e=>exact h
 |bad=>exact h
theorem DnS.thenS {α:Type}{r:Rr α}{f:α->RS} (h:DnS K B EX Y H0 H F D (r.thenS f)):Dn r (fun a=>DnS K B EX Y H0 H F D (f a)) (fun e=>∀H',ZF H0 H'->EX e H'):=by
 cases r with
 |ok a=>exact h
 |exc e=>exact h
 |bad=>exact h
theorem Y9:DS K EX Γ ⟨Γ,Γ1,Γ2,k⟩ Zqd (fun ρ=>.next ρ):=fun B H0 H σ ρ F D A d=>d σ H F Frm.refl A
theorem Zm {Γm:List Md} (h1:DS K EX Γ ⟨Γm,Y.b,Y.c,Y.r⟩ t g) (h2:DS K EX Γm Y u g'):DS K EX Γ Y (Zsp t u) (fun ρ=>(g ρ).seq g'):=fun B H0 H σ ρ F D A d=>by
 refine h1 B H0 H σ ρ F _ A ?_
 dsimp only at d
 cases e:g ρ with
 |next ρ1 =>
  rw[e] at d
  exact fun σ' H' F' fr A'=>h2 B H0 H' σ' ρ1 F' D A' (DnS.shift fr d)
 |brk ρ1=>rw[e] at d;exact d
 |cont ρ1=>rw[e] at d;exact d
 |ret x=>rw[e] at d;exact d
 |exc q=>rw[e] at d;exact d
 |bad=>rw[e] at d;exact d
noncomputable def mle (m m':Md):Bool:=m==m' || m'==.U || (m'==.S&&m != .U) || (m'==.O&&m==.P)
noncomputable def Zoe:List Md->List Md->Bool
 |[],[]=>true
 |m::ms,m'::ms'=>mle m m'&&Zoe ms ms'
 |_,_=>false
theorem Zj0:∀{Γ Γ':List Md},Zoe Γ Γ'=true->Γ.length=Γ'.length/\∀i,mle (Γ.getD i .U) (Γ'.getD i .U)=true
 |[],[],_=>⟨rfl,fun i=>by simp[mle]⟩
 |m::ms,m'::ms',h=>by
  simp only[Zoe,Bool.and_eq_true] at h
  obtain⟨h1,h2⟩:=Zj0 h.2
  refine⟨by simp[h1],fun i=>?_⟩
  cases i with
  |zero=>simpa using h.1
  |succ i=>simpa using h2 i
 |[],_::_,h=>by cases h
 |_::_,[],h=>by cases h
theorem Ag.weak (A:Ag K B H0 H σ Γ ρ F R) (h:Zoe Γ Γ'=true):∃F',(∀i,∀a∈F' i,a∈F i)/\Ag K B H0 H σ Γ' ρ F' R:=by
 obtain⟨hl,hm⟩:=Zj0 h
 let F':Nat->List Addr:=fun i=>if Γ.getD i .U=Γ'.getD i .U then F i else []
 have hF:∀i,∀a∈F' i,a∈F i:=fun i a ha=>by
  by_cases q:Γ.getD i .U=Γ'.getD i .U
  ·simp only[F',if_pos q] at ha;exact ha
  ·simp only[F',if_neg q] at ha;simp at ha
 have up:∀{a},NO B F R a->NO B F' R a:=fun {a} s=>⟨s.1,s.2.1,fun j z=>s.2.2 j (hF j a z)⟩
 refine⟨F',hF,A.same,A.own,fun i a ha=>A.young i a (hF i a ha),A.youngR,fun i a ha=>A.live i a (hF i a ha),A.liveR,fun i j hij a ha z=>A.disj i j hij a (hF i a ha) (hF j a z),fun i a ha=>A.disjR i a (hF i a ha),by rw[A.lenS,hl],by rw[A.lenR,hl],fun i=>?_⟩
 have sl:=A.slot i
 have hmi:=hm i
 by_cases q:Γ.getD i .U=Γ'.getD i .U
 ·simp only[F',if_pos q]
  rw[<- q]
  exact sl.mono (fun a vs s r=>⟨r,up s⟩) (fun a vs r=>r) fun a ha vs r=>r
 ·simp only[F',if_neg q]
  simp only[mle,Bool.or_eq_true,beq_iff_eq,Bool.and_eq_true,bne_iff_ne] at hmi
  rcases hmi with ((z|z)|z)|z
  ·exact absurd z q
  ·rw[z];exact rfl
  rotate_left
  ·rw[z.1]
   rw[z.2] at sl
   obtain⟨e,v,h1,h2,h3⟩:=sl
   exact⟨v,h1,h3.tree h2⟩
  ·rw[z.1]
   have own:∀a∈F i,NO B F' R a:=fun a ha=>⟨A.own a (A.young i a ha),A.disjR i a ha,fun j w=>by
    by_cases hj:j=i
    ·subst hj;simp only[F',if_neg q] at w;simp at w
    ·exact A.disj j i hj a (hF j a w) ha⟩
   cases hmm:Γ.getD i .U with
   |U=>exact absurd hmm z.2
   |P=>rw[hmm] at sl;obtain⟨e,v,h1,h2,h3⟩:=sl;exact⟨rfl,v,h1,h3.flatS h2⟩
   |S=>rw[hmm] at sl;obtain⟨e,v,h1,h2⟩:=sl;exact⟨rfl,v,h1,Rep.mono (fun a vs s r=>⟨r,up s⟩) (fun a vs r=>r) h2⟩
   |T =>
    rw[hmm] at sl
    obtain⟨a,vs,xs,h1,h2,h3,h4,h5⟩:=sl
    refine⟨rfl,_,h1, ?_⟩
    rw[h2]
    exact⟨a,vs,rfl,.inl ⟨.inl h3,own a (by rw[h5];simp)⟩,Y1.mono (fun a vs s r=>⟨r,up s⟩) (fun a vs r=>r) h4⟩
   |O=>rw[hmm] at sl;obtain⟨v,h1,h2⟩:=sl;exact⟨rfl,v,h1,h2.rep own⟩
theorem DS.out {Y':Tys} (h:DS K EX Γ Y t g) (hn:Zoe Y.n Y'.n=true) (hb:Zoe Y.b Y'.b=true) (hc:Zoe Y.c Y'.c=true) (hr:Y.r=Y'.r):DS K EX Γ Y' t g:=fun B H0 H σ ρ F D A d=>by
 refine h B H0 H σ ρ F D A ?_
 cases e:g ρ with
 |next ρ1=>rw[e] at d;exact fun σ' H' F' fr A'=>let ⟨F2,f2,A2⟩:=A'.weak hn;d σ' H' F2 (fr.trans (Frm.of (ZF.refl _) f2)) A2
 |brk ρ1=>rw[e] at d;exact fun σ' H' F' fr A'=>let ⟨F2,f2,A2⟩:=A'.weak hb;d σ' H' F2 (fr.trans (Frm.of (ZF.refl _) f2)) A2
 |cont ρ1=>rw[e] at d;exact fun σ' H' F' fr A'=>let ⟨F2,f2,A2⟩:=A'.weak hc;d σ' H' F2 (fr.trans (Frm.of (ZF.refl _) f2)) A2
 |ret x=>rw[e] at d;exact fun v H' s r=>d v H' s (hr▸r)
 |exc q=>rw[e] at d;exact d
 |bad=>rw[e] at d;exact d
theorem ZeB {H1:Hp}{F1:Nat->List Addr}{i:Nat}{G:List Addr} (s1:ZF H H1) (f1:∀i,∀a∈F1 i,a∈F i) (o:∀a∈G,H a=none\/∃i,a∈F i):Frm H F H1 (ZbG F1 i G):=fun a u h n=>by
 refine⟨s1 a u h,fun j z=>?_⟩
 by_cases q:j=i
 ·subst q
  rw[Z1] at z
  rcases o a z with w|⟨l,w⟩
  ·rw[h] at w;cases w
  ·exact n l w
 ·rw[ZP q] at z;exact n j (f1 j a z)
theorem ZH {i:Nat} (he:DE K EX Γ Γ' .P te f) (hi:i<Γ'.length):DS K EX Γ ⟨Γ'.set i .P,Γ1,Γ2,k⟩ (ZnT te (Zcq i)) (fun ρ=>(f ρ).thenS fun x=>.next (ρ.set i x)):=fun B H0 H σ ρ F D A d=>by
 refine he B H0 H σ ρ F [] _ A (d.thenS.imp (fun x _ d v H1 s1 r1=>?_) fun e q=>q)
 obtain⟨F1,f1,h1,h2,A1⟩:=r1
 exact d _ H1 _ (ZeB (G:=[]) s1 f1 (by simp)) (Ag.put (G:=[]) (R:=[]) A1 hi (by simp) ⟨rfl,v,rfl,h1,h2⟩)
theorem Y5 {i:Nat} (he:DE K EX Γ Γ' .F te f) (hi:i<Γ'.length):DS K EX Γ ⟨Γ'.set i .O,Γ1,Γ2,k⟩ (ZnT te (Zcq i)) (fun ρ=>(f ρ).thenS fun x=>.next (ρ.set i x)):=fun B H0 H σ ρ F D A d=>by
 refine he B H0 H σ ρ F [] _ A (d.thenS.imp (fun x _ d v H1 s1 r1=>?_) fun e q=>q)
 obtain⟨F1,f1,G,h1,h2,A1⟩:=r1
 exact d _ H1 _ (ZeB s1 f1 fun a ha=>(h2 a ha).2) (Ag.put (R:=[]) A1 hi (by simp) ⟨v,rfl,h1⟩)
theorem Zmh {i:Nat} (he:DE K EX Γ Γ' .Z te f) (hi:i<Γ'.length):DS K EX Γ ⟨Γ'.set i .S,Γ1,Γ2,k⟩ (ZnT te (Zcq i)) (fun ρ=>(f ρ).thenS fun x=>.next (ρ.set i x)):=fun B H0 H σ ρ F D A d=>by
 refine he B H0 H σ ρ F [] _ A (d.thenS.imp (fun x _ d v H1 s1 r1=>?_) fun e q=>q)
 obtain⟨F1,f1,h1,A1⟩:=r1
 refine d _ H1 _ (ZeB (G:=[]) s1 f1 (by simp)) (Ag.put (G:=[]) (R:=[]) A1 hi (by simp) ⟨rfl,v,rfl, ?_⟩)
 refine Rep.mono (fun a us s r=>⟨r,s.1,s.2.1,fun j z=>?_⟩) (fun a us r=>r) h1
 exact s.2.2 j (Qc j a z)
theorem Zpt {i:Nat} (he:DE K EX Γ Γ' .T te f) (hi:i<Γ'.length):DS K EX Γ ⟨Γ'.set i .T,Γ1,Γ2,k⟩ (ZnT te (Zcq i)) (fun ρ=>(f ρ).thenS fun x=>.next (ρ.set i x)):=fun B H0 H σ ρ F D A d=>by
 refine he B H0 H σ ρ F [] _ A (d.thenS.imp (fun x _ d v H1 s1 r1=>?_) fun e q=>q)
 obtain⟨F1,f1,a,vs,xs,rfl,rfl,h1,h2,h3,h4,A1⟩:=r1
 refine d _ H1 _ (ZeB (G:=[a]) s1 f1 fun b hb=>by rw[ZtI.mp hb];exact h4) (Ag.put (G:=[a]) (R:=[]) A1 hi (by simp) ⟨a,vs,xs,rfl,rfl,h1, ?_,rfl⟩)
 refine Y1.mono (fun b us s r=>⟨r,s.1,by simp,fun j z=>?_⟩) (fun b us r=>r) h2
 by_cases q:j=i
 ·subst q;rw[Z1] at z;exact s.2.1 z
 ·rw[ZP q] at z;exact s.2.2 j z
theorem Qs (he:DE K EX Γ Γ' .A te f):DS K EX Γ ⟨Γ',Γ1,Γ2,k⟩ (ZkO te) (fun ρ=>(f ρ).thenS fun _=>.next ρ):=fun B H0 H σ ρ F D A d=>by
 refine he B H0 H σ ρ F [] _ A (d.thenS.imp (fun x _ d v H1 s1 r1=>?_) fun e q=>q)
 obtain⟨F1,f1,h1,A1⟩:=r1
 exact d σ H1 F1 (Frm.of s1 f1) A1
theorem Y8 (he:DE K EX Γ Γ' .P te f):DS K EX Γ ⟨Γ3,Γ1,Γ2,.P⟩ (Zrx te) (fun ρ=>(f ρ).thenS fun x=>.ret x):=fun B H0 H σ ρ F D A d=>by
 refine he B H0 H σ ρ F [] _ A (d.thenS.imp (fun x _ d v H1 s1 r1=>?_) fun e q=>q)
 obtain⟨F1,f1,h1,h2,A1⟩:=r1
 exact d v H1 A1.same ⟨h1,h2⟩
theorem YO (he:DE K EX Γ Γ' .F te f):DS K EX Γ ⟨Γ3,Γ1,Γ2,.F⟩ (Zrx te) (fun ρ=>(f ρ).thenS fun x=>.ret x):=fun B H0 H σ ρ F D A d=>by
 refine he B H0 H σ ρ F [] _ A (d.thenS.imp (fun x _ d v H1 s1 r1=>?_) fun e q=>q)
 obtain⟨F1,f1,G,h1,h2,A1⟩:=r1
 exact d v H1 A1.same ⟨G,h1,fun a ha=>A1.youngR a (by simpa using ha)⟩
theorem Zdl (he:DE K EX Γ Γ' .Z te f):DS K EX Γ ⟨Γ3,Γ1,Γ2,.Z⟩ (Zrx te) (fun ρ=>(f ρ).thenS fun x=>.ret x):=fun B H0 H σ ρ F D A d=>by
 refine he B H0 H σ ρ F [] _ A (d.thenS.imp (fun x _ d v H1 s1 r1=>?_) fun e q=>q)
 obtain⟨F1,f1,h1,A1⟩:=r1
 exact d v H1 A1.same (Rep.mono (fun a us s r=>⟨r,.inl s.1⟩) (fun a us r=>r) h1)
theorem Ui {c:TT}{fc:List PV->Rr Bool} (hc:DT K EX Γ Γ' c fc) (h1:DS K EX Γ' Y t g) (h2:DS K EX Γ' Y u g'):DS K EX Γ Y (Zsr c t u) (fun ρ=>(fc ρ).thenS fun b=>if b=true then g ρ else g' ρ):=fun B H0 H σ ρ F D A d=>by
 refine hc B H0 H σ ρ F [] _ A (d.thenS.imp (fun b _ d H1 F1 s1 f1 A1=>?_) fun e q=>q)
 cases b with
 |true=>exact h1 B H0 H1 σ ρ F1 D A1 (DnS.shift (Frm.of s1 f1) d)
 |false=>exact h2 B H0 H1 σ ρ F1 D A1 (DnS.shift (Frm.of s1 f1) d)
theorem UJ {i:Nat}{h:Int->Int->Int} (hm:Γ[i]?=some .P) (he:DE K EX Γ Γ .A te f):DS K EX Γ ⟨Γ,Γ1,Γ2,k⟩ (Zst i te (ipI h)) (fun ρ=>(f ρ).thenS fun y=>(oI (fun _ _=>true) (fun i j=>.int (h i j)) (gv i ρ) y).thenS fun z=>.next (ρ.set i z)):=fun B H0 H σ ρ F D A d=>by
 obtain⟨v,h1,h2,h3⟩:=A.getP hm
 refine⟨v,h1,he B H0 H σ ρ F [] _ A (d.thenS.imp (fun y _ d w H1 s1 r1=>?_) fun e q=>q)⟩
 obtain⟨F1,f1,p1,A1⟩:=r1
 have h3':=h3.same s1
 change Rep K H1 _ (gv i ρ) v at h3'
 generalize gv i ρ=gx at h3' d
 cases gx<;>cases y<;>first|(exact d.elim;done)|skip
 rename_i p q _
 cases h3';cases p1
 refine⟨p,q,rfl,rfl,d _ H1 _ (ZeB (i:=i) (G:=[]) s1 f1 (by simp)) ?_⟩
 have:=Ag.put (i:=i) (m:=.P) (x:=.int (h p q)) (v:=.int (h p q)) (G:=[]) (R:=[]) A1 (A.lt hm) (by simp) ⟨rfl,_,rfl,rfl,rfl⟩
 have e:Γ.set i .P=Γ:=by
  apply Zu5
  intro j
  by_cases q:i=j
  ·subst q;rw[ZtP (A.lt hm),hm]
  ·rw[ZtY q]
 rw[e] at this
 exact this
end
section
variable {K:W.Frag}{B:Addr->Prop}{EX:PX->Hp->Prop}{H0 H H':Hp}{σ:St}{Γ Γ' Γ1 Γ2 Γ3 Γl Γt:List Md}{ρ:List PV}{F F':Nat->List Addr}{R:List Addr}{k:Kd}{x:PV}{v:V}{te ti tb tc:TE}{ta:TA}{f fi fb fc fe:List PV->Rr PV}{fa:List PV->Rr (List PV)}
 {t u:TS}{g g':List PV->RS}{Y:Tys}{D:Zk3}
theorem Ag.chgB {i:Nat}{m:Md}{a:Addr}{o':HO} (ho:Lvo o') {x':PV}{G G':List Addr} (A:Ag K B H0 H σ Γ ρ F (G++R)) (hm:Γ[i]?=some m) (ha:a∈F i) (hG:∀b∈G',b∈F i\/b∈G) (hGR:∀b∈G,b ∉ R)
  (hs:Zc6 K (upd H a o') (NO B (ZbG F i G') R) m x' σ[i]? G'):Ag K B H0 (upd H a o') σ Γ (ρ.set i x') (ZbG F i G') R:=by
 obtain⟨us,hH⟩:=A.live i a ha
 have hi:=A.lt hm
 have liveU:∀b,(∃us:LvO,H b=some us.1)->∃us:LvO,upd H a o' b=some us.1:=fun b ⟨us,q⟩=>by
  by_cases e:b=a
  ·exact⟨⟨o',ho⟩,by rw[e,YL]⟩
  ·exact⟨us,by rw[ZQ e];exact q⟩
 refine⟨A.same.upd (A.young i a ha),A.own,fun j b hb=>?_,fun b hb=>A.youngR b (Zth _ hb),fun j b hb=>liveU b ?_,fun b hb=>liveU b (A.liveR b (Zth _ hb)),fun j l hjl b hb z=>?_,fun j b hb z=>?_,A.lenS,by simp[A.lenR],fun j=>?_⟩
 ·by_cases q:j=i
  ·subst q;rw[Z1] at hb
   rcases hG b hb with z|z
   ·exact A.young j b z
   ·exact A.youngR b (Zts _ z)
  ·rw[ZP q] at hb;exact A.young j b hb
 ·by_cases q:j=i
  ·subst q;rw[Z1] at hb
   rcases hG b hb with z|z
   ·exact A.live j b z
   ·exact A.liveR b (Zts _ z)
  ·rw[ZP q] at hb;exact A.live j b hb
 ·by_cases q:j=i
  ·subst q
   rw[Z1] at hb
   rw[ZP (Ne.symm hjl)] at z
   rcases hG b hb with w|w
   ·exact A.disj j l hjl b w z
   ·exact A.disjR l b z (Zts _ w)
  ·rw[ZP q] at hb
   by_cases q':l=i
   ·subst q'
    rw[Z1] at z
    rcases hG b z with w|w
    ·exact A.disj j l hjl b hb w
    ·exact A.disjR j b hb (Zts _ w)
   ·rw[ZP q'] at z;exact A.disj j l hjl b hb z
 ·by_cases q:j=i
  ·subst q;rw[Z1] at hb
   rcases hG b hb with w|w
   ·exact A.disjR j b w (Zth _ z)
   ·exact hGR b w z
  ·rw[ZP q] at hb;exact A.disjR j b hb (Zth _ z)
 ·by_cases q:j=i
  ·subst q
   rw[Z1,Zte,Zte,hm,ZtP (by rw[A.lenR];exact hi)]
   exact hs
  ·rw[ZP q,Zte (l:=ρ.set _ _),ZtY (Ne.symm q),<- Zte]
   refine(A.slot j).mono (fun b us s r=>?_) (fun b us r=>Im.putL hH r) fun b hb us r=>?_
   ·have hne:b≠a:=fun z=>s.2.2 i (z▸ha)
    refine⟨?_,s.1,fun z=>s.2.1 (Zth _ z),fun l z=>?_⟩
    ·rcases r with r|⟨o,r⟩
     ·exact .inl (by rw[ZQ hne];exact r)
     ·exact .inr ⟨o,by rw[ZQ hne];exact r⟩
    ·by_cases q':l=i
     ·subst q';rw[Z1] at z
      rcases hG b z with w|w
      ·exact s.2.2 l w
      ·exact s.2.1 (Zts _ w)
     ·rw[ZP q'] at z;exact s.2.2 l z
   ·have hne:b≠a:=fun z=>A.disj j i q b hb (z▸ha)
    rw[ZQ hne];exact r
theorem Ag.chg {i:Nat}{m:Md}{a:Addr}{vs':List V}{x':PV}{G G':List Addr} (A:Ag K B H0 H σ Γ ρ F (G++R)) (hm:Γ[i]?=some m) (ha:a∈F i) (hG:∀b∈G',b∈F i\/b∈G) (hGR:∀b∈G,b ∉ R)
  (hs:Zc6 K (upd H a (.lst vs')) (NO B (ZbG F i G') R) m x' σ[i]? G'):Ag K B H0 (upd H a (.lst vs')) σ Γ (ρ.set i x') (ZbG F i G') R:=Ag.chgB (o':=.lst vs') trivial A hm ha hG hGR hs
theorem Zgx {H1:Hp}{F1:Nat->List Addr}{i:Nat}{a:Addr}{o:HO}{G':List Addr} (s1:ZF H H1) (f1:∀i,∀b∈F1 i,b∈F i) (ha:a∈F1 i) (hG:∀b∈G',H b=none\/∃j,b∈F j):Frm H F (upd H1 a o) (ZbG F1 i G'):=fun b u h n=>by
 have hne:b≠a:=fun z=>n i (f1 i b (z▸ha))
 refine⟨by rw[ZQ hne];exact s1 b u h,fun j z=>?_⟩
 by_cases q:j=i
 ·subst q;rw[Z1] at z
  rcases hG b z with w|⟨l,w⟩
  ·rw[h] at w;cases w
  ·exact n l w
 ·rw[ZP q] at z;exact n j (f1 j b z)
theorem ZE.setP:∀{xs:List PV}{vs:List V}{G:List Addr}{j:Nat}{y:PV}{w:V},ZE K H xs vs G->Zcd K H y w []->∃G',(∀a∈G',a∈G)/\ZE K H (xs.set j y) (vs.set j w) G'
 |[],_,_,_,_,_,h,_=>⟨[],by simp,by rw[h.1];exact⟨rfl,rfl⟩⟩
 |x::xs,_,_,0,y,w,h,h'=>by
  obtain⟨v,r,G1,G2,rfl,h1,h2,h3,rfl⟩:=h
  exact⟨G2,fun a ha=>by simp[ha],w,r,[],G2,rfl,h',h2,by simp,rfl⟩
 |x::xs,_,_,j+1,y,w,h,h'=>by
  obtain⟨v,r,G1,G2,rfl,h1,h2,h3,rfl⟩:=h
  obtain⟨G',h4,h5⟩:=ZE.setP (j:=j) h2 h'
  refine⟨G1++G',fun a ha=>?_,v,r.set j w,G1,G',rfl,h1,h5,fun a ha z=>h3 a ha (h4 a z),rfl⟩
  rcases Ztk.mp ha with z|z
  ·simp[z]
  ·simp[h4 a z]
noncomputable def pSet (x i y:PV):Rr PV:=match x,i with
 |.lst xs,.int j=>match ixN xs.length j with
  |some n=>.ok (.lst (xs.set n y))
  |none=>.bad
 |_,_=>.bad
theorem Dn.pSet {x i y:PV}{ok:PV->Prop}{ex:PX->Prop} (d:Dn (pSet x i y) ok ex):∃xs j n,x=.lst xs/\i=.int j/\ixN xs.length j=some n/\ok (.lst (xs.set n y)):=by
 unfold L2.pSet at d
 split at d
 ·rename_i xs j
  cases e:ixN xs.length j with
  |none=>rw[e] at d;exact d.elim
  |some n=>rw[e] at d;exact⟨xs,j,n,rfl,rfl,e,d⟩
 ·exact d.elim
theorem Zh4 {i:Nat} (hm:Γ2[i]?=some .O) (he:DE K EX Γ Γ2 .P te f) (hi:DE K EX Γ2 Γ2 .A ti fi) :
  DS K EX Γ ⟨Γ2,Γ1,Γ3,k⟩ (ZnT te (Zs7 (ZjS i) ti Zqm)) (fun ρ=>(f ρ).thenS fun y=>(fi ρ).thenS fun j=>(pSet (gv i ρ) j y).thenS fun z=>.next (ρ.set i z)):=fun B H0 H σ ρ F D A d=>by
 refine he B H0 H σ ρ F [] _ A (d.thenS.imp (fun y _ d w H1 s1 r1=>?_) fun e q=>q)
 obtain⟨F1,f1,y1,y2,A1⟩:=r1
 obtain⟨v,h1,h2⟩:=A1.getO hm
 refine⟨v,h1,hi B H0 H1 σ ρ F1 [] _ A1 (d.thenS.imp (fun j _ d jv H2 s2 r2=>?_) fun e q=>q)⟩
 obtain⟨F2,f2,p2,A2⟩:=r2
 obtain⟨xs,jj,n,e1,rfl,e2,d⟩:=Dn.pSet d.thenS
 obtain⟨v',h1',h2'⟩:=A2.getO hm
 rw[h1] at h1';cases h1'
 rw[show ρ.getD i .non=.lst xs from e1] at h2'
 obtain⟨a,vs,G,rfl,hH,ht,hn,hF⟩:=h2'
 cases p2
 refine⟨a,vs,jj,n,rfl,rfl,hH,by rw[ht.length];exact e2, ?_⟩
 obtain⟨G',g1,g2⟩:=ZE.setP (j:=n) ht ((y2.same s2).tree y1)
 have haF:a∈F2 i:=by rw[hF];simp
 have hsub:∀b∈a::G',b∈F2 i:=fun b hb=>by
  rw[hF]
  rcases Ztt.mp hb with rfl|hb
  ·simp
  ·simp[g1 b hb]
 refine d σ _ (ZbG F2 i (a::G')) (Zgx (s1.trans s2) (fun j b hb=>f1 j b (f2 j b hb)) haF fun b hb=>.inr ⟨i,f1 i b (f2 i b (hsub b hb))⟩) (Ag.chg (G:=[]) A2 hm haF (fun b hb=>.inl (hsub b hb)) (by simp) ?_)
 exact⟨_,h1,a,_,G',rfl,YL,g2.put hH (fun z=>hn (g1 a z)),fun z=>hn (g1 a z),rfl⟩
noncomputable def pApp (x y:PV):Rr PV:=match x with
 |.lst xs=>if xs.length<1000000 then .ok (.lst (xs++[y])) else .bad
 |_=>.bad
theorem Dn.pApp {x y:PV}{ok:PV->Prop}{ex:PX->Prop} (d:Dn (pApp x y) ok ex):∃xs,x=.lst xs/\xs.length<1000000/\ok (.lst (xs++[y])):=by
 unfold L2.pApp at d
 split at d
 ·rename_i xs
  by_cases h:xs.length<1000000
  ·rw[if_pos h] at d;exact⟨xs,rfl,h,d⟩
  ·rw[if_neg h] at d;exact d.elim
 ·exact d.elim
theorem Dn.asL {x:PV}{ok:List PV->Prop}{ex:PX->Prop} (d:Dn (asL x) ok ex):∃xs,x=.lst xs/\ok xs:=by
 cases x with
 |lst xs=>exact⟨xs,rfl,d⟩
 |_=>exact d.elim
theorem ZbR {i:Nat} (hm:Γ[i]?=some .O) (hm2:Γ2[i]?=some .O) (he:DE K EX Γ Γ2 .F te f) :
  DS K EX Γ ⟨Γ2,Γ1,Γ3,k⟩ (ZkO (tBM K "list" Zii (ZjS i) (ZdF te ZiU))) (fun ρ=>(asL (gv i ρ)).thenS fun xs=>(f ρ).thenS fun y=>(pApp (.lst xs) y).thenS fun z=>.next (ρ.set i z)):=fun B H0 H σ ρ F D A d=>by
 obtain⟨v,h1,h2⟩:=A.getO hm
 refine⟨v,h1, ?_⟩
 obtain⟨xs,e1,d⟩:=Dn.asL d.thenS
 rw[show ρ.getD i .non=.lst xs from e1] at h2
 obtain⟨a,vs,G,rfl,hH,ht,hn,hF⟩:=h2
 refine⟨.inl ⟨rfl,_,SqL.of hH⟩,he B H0 H σ ρ F [] _ A (d.thenS.imp (fun y _ d w H2 s2 r2=>?_) fun e q=>q)⟩
 obtain⟨F2,f2,G2,y1,y2,A2⟩:=r2
 obtain⟨xs',e2,hlen,d⟩:=Dn.pApp d.thenS
 cases e2
 obtain⟨v',h1',h2'⟩:=A2.getO hm2
 rw[h1] at h1';cases h1'
 rw[show ρ.getD i .non=.lst xs from e1] at h2'
 obtain⟨a',vs',G',e,hH',ht',hn',hF'⟩:=h2'
 cases e
 refine⟨a,vs',w,rfl,rfl,hH',by rw[ht'.length];exact Ztw hlen (by decide), ?_⟩
 have haF:a∈F2 i:=by rw[hF'];simp
 have dj:∀b∈G',b ∉ G2:=fun b hb z=>A2.disjR i b (by rw[hF'];simp[hb]) (Zts _ z)
 have na:a ∉ G2:=fun z=>A2.disjR i a haF (Zts _ z)
 have hsub:∀b∈a::(G'++G2),b∈F2 i\/b∈G2:=fun b hb=>by
  rw[hF']
  rcases Ztt.mp hb with rfl|hb
  ·simp
  ·rcases Ztk.mp hb with z|z
   ·simp[z]
   ·exact .inr z
 have hna:a ∉ G'++G2:=fun z=>(Ztk.mp z).elim hn' na
 refine d σ _ (ZbG F2 i (a::(G'++G2))) (Zgx s2 f2 haF fun b hb=>?_) (Ag.chg (G:=G2) (R:=[]) A2 hm2 haF hsub (by simp) ?_)
 ·rcases hsub b hb with z|z
  ·exact .inr ⟨i,f2 i b z⟩
  ·exact(y2 b z).2
 ·exact⟨_,h1,a,_,G'++G2,rfl,YL,(ZE.append ht' (ZE.one y1) dj).put hH' hna,hna,rfl⟩
theorem Zpw {i:Nat} (hm:Γ[i]?=some .T) (hm2:Γ2[i]?=some .T) (he:DE K EX Γ Γ2 .Z te f) :
  DS K EX Γ ⟨Γ2,Γ1,Γ3,k⟩ (ZkO (tBM K "list" Zii (ZjS i) (ZdF te ZiU))) (fun ρ=>(asL (gv i ρ)).thenS fun xs=>(f ρ).thenS fun y=>(pApp (.lst xs) y).thenS fun z=>.next (ρ.set i z)):=fun B H0 H σ ρ F D A d=>by
 obtain⟨a,vs,xs,h1,e1,hH,hr,hF⟩:=A.getT hm
 refine⟨_,h1, ?_⟩
 obtain⟨xs',e1',d⟩:=Dn.asL d.thenS
 have:xs'=xs:=by have:=e1'.symm.trans (show gv i ρ=.lst xs from e1);cases this;rfl
 subst this
 refine⟨.inl ⟨rfl,_,SqL.of hH⟩,he B H0 H σ ρ F [] _ A (d.thenS.imp (fun y _ d w H2 s2 r2=>?_) fun e q=>q)⟩
 obtain⟨F2,f2,y1,A2⟩:=r2
 obtain⟨xs'',e2,hlen,d⟩:=Dn.pApp d.thenS
 cases e2
 obtain⟨a',vs',xs'',h1',e1'',hH',hr',hF'⟩:=A2.getT hm2
 rw[h1] at h1';cases h1'
 have:xs''=xs':=by have:=e1'.symm.trans (show gv i ρ=.lst xs'' from e1'');cases this;rfl
 subst this
 refine⟨a,vs',w,rfl,rfl,hH',by rw[hr'.length];exact Ztw hlen (by decide), ?_⟩
 have haF:a∈F2 i:=by rw[hF'];simp
 refine d σ _ (ZbG F2 i [a]) (Zgx s2 f2 haF fun b hb=>.inr ⟨i,f2 i b (by rw[hF'];exact hb)⟩) (Ag.chg (G:=[]) A2 hm2 haF (fun b hb=>.inl (by rw[hF'];exact hb)) (by simp) ?_)
 have same:ZbG F2 i [a]=F2:=by
  funext j
  by_cases q:j=i
  ·subst q;rw[Z1,hF']
  ·rw[ZP q]
 rw[same]
 exact⟨a,_,_,h1,rfl,YL,(hr'.append (Y1.one y1)).put hH' (fun z=>z.2.2 i haF),rfl⟩
def DG (K:W.Frag) (EX:PX->Hp->Prop) (Γ Γ':List Md) (g:TG) (h:PV->List PV->Rr (List PV)):Prop:=
 ∀(B:Addr->Prop) (H0 H:Hp) (σ:St) (ρ:List PV) (F:Nat->List Addr) (v:V) (x:PV) (N:St->Hp->Prop),Ag K B H0 H σ Γ ρ F []->Rep K H (NO B F []) x v ->
  Dn (h x ρ) (fun ρ'=>∀σ' F',(∀i,∀a∈F' i,a∈F i)->Ag K B H0 H σ' Γ' ρ' F' []->N σ' H) (fun e=>∀H',ZF H0 H'->EX e H')->g v σ H N
def DGs (K:W.Frag) (EX:PX->Hp->Prop) (Γ Γ':List Md) (g:TGs) (h:List PV->List PV->Rr (List PV)):Prop:=
 ∀(B:Addr->Prop) (H0 H:Hp) (σ:St) (ρ:List PV) (F:Nat->List Addr) (vs:List V) (xs:List PV) (N:St->Hp->Prop),Ag K B H0 H σ Γ ρ F []->Y1 K H (NO B F []) xs vs ->
  Dn (h xs ρ) (fun ρ'=>∀σ' F',(∀i,∀a∈F' i,a∈F i)->Ag K B H0 H σ' Γ' ρ' F' []->N σ' H) (fun e=>∀H',ZF H0 H'->EX e H')->g vs σ H N
theorem Zs8 {i:Nat} (hi:i<Γ.length):DG K EX Γ (Γ.set i .S) (Zcq i) (fun x ρ=>.ok (ρ.set i x)):=fun B H0 H σ ρ F v x N A r d =>
 d _ (ZbG F i []) Qc (Ag.put (G:=[]) (R:=[]) A hi (by simp) ⟨rfl,v,rfl,Rep.mono (fun a us s r=>⟨r,s.1,s.2.1,fun j z=>s.2.2 j (Qc j a z)⟩) (fun a us r=>r) r⟩)
theorem Zol {i:Nat} (hi:i<Γ.length):DG K EX Γ (Γ.set i .P) (Zcq i) (fun x ρ=>(grd x).bind fun x=>.ok (ρ.set i x)):=fun B H0 H σ ρ F v x N A r d=>by
 unfold grd at d;dsimp only at d
 by_cases h:x.flat=true
 ·rw[if_pos h] at d
  exact d _ (ZbG F i []) Qc (Ag.put (G:=[]) (R:=[]) A hi (by simp) ⟨rfl,v,rfl,h,r.any⟩)
 ·rw[if_neg h] at d;exact d.elim
noncomputable def ZrT (xs ρ:List PV):Rr (List PV):=match xs with
 |[]=>.ok ρ
 |_=>.bad
theorem Zpy:DGs K EX Γ Γ Zr4 ZrT:=fun B H0 H σ ρ F vs xs N A r d=>by
 cases xs with
 |nil=>exact⟨r,d σ F (fun _ _ h=>h) A⟩
 |cons x xs=>exact d.elim
noncomputable def hdR (h:PV->List PV->Rr (List PV)) (hs:List PV->List PV->Rr (List PV)) (xs:List PV) (ρ:List PV):Rr (List PV):=match xs with
 |x::r=>(h x ρ).bind fun ρ'=>hs r ρ'
 |[]=>.bad
theorem ZjD {g:TG}{gs:TGs}{h:PV->List PV->Rr (List PV)}{hs:List PV->List PV->Rr (List PV)} (h1:DG K EX Γ Γ1 g h) (h2:DGs K EX Γ1 Γ2 gs hs):DGs K EX Γ Γ2 (ZlZ g gs) (hdR h hs):=fun B H0 H σ ρ F vs xs N A r d=>by
 cases xs with
 |nil=>exact d.elim
 |cons x xs =>
  obtain⟨v,r',rfl,r1,r2⟩:=r
  refine⟨v,r',rfl,h1 B H0 H σ ρ F v x _ A r1 ((show Dn ((h x ρ).bind fun ρ'=>hs xs ρ') _ _ from d).bind.imp (fun ρ' _ d σ' F' f' A'=>?_) fun e q=>q)⟩
  refine h2 B H0 H σ' ρ' F' r' xs _ A' (Y1.mono (fun a us s r=>⟨r,s.1,s.2.1,fun j z=>s.2.2 j (f' j a z)⟩) (fun a us r=>r) r2) (d.imp (fun ρ2 _ d σ2 F2 f2 A2=>d σ2 F2 (fun j a ha=>f' j a (f2 j a ha)) A2) fun e q=>q)
noncomputable def asT (n:Nat) (x:PV):Rr (List PV):=match x with
 |.tup xs=>if xs.length=n then .ok xs else .bad
 |_=>.bad
theorem Dn.asT {n:Nat}{x:PV}{ok:List PV->Prop}{ex:PX->Prop} (d:Dn (asT n x) ok ex):∃xs,x=.tup xs/\xs.length=n/\ok xs:=by
 cases x with
 |tup xs =>
  unfold L2.asT at d
  by_cases h:xs.length=n
  ·simp only[if_pos h] at d;exact⟨xs,rfl,h,d⟩
  ·simp only[if_neg h] at d;exact d.elim
 |_=>exact d.elim
theorem Zre {n:Nat}{gs:TGs}{hs:List PV->List PV->Rr (List PV)} (h2:DGs K EX Γ Γ2 gs hs):DG K EX Γ Γ2 (Zr3 K n gs) (fun x ρ=>(asT n x).bind fun xs=>hs xs ρ):=fun B H0 H σ ρ F v x N A r d=>by
 obtain⟨xs,rfl,hl,d⟩:=Dn.asT d.bind
 obtain⟨a,vs,rfl,hn,hr⟩:=r
 exact⟨a,vs,rfl,hn.sqT,by rw[hr.length];exact hl,h2 B H0 H σ ρ F vs xs N A hr d⟩
def DGF (K:W.Frag) (EX:PX->Hp->Prop) (Γ Γ':List Md) (g:TG) (h:PV->List PV->Rr (List PV)):Prop:=
 ∀(B:Addr->Prop) (H0 H:Hp) (σ:St) (ρ:List PV) (F:Nat->List Addr) (G R:List Addr) (v:V) (x:PV) (N:St->Hp->Prop),Ag K B H0 H σ Γ ρ F (G++R)->(∀a∈G,a ∉ R)->Zcd K H x v G ->
  Dn (h x ρ) (fun ρ'=>∀σ' F',(∀i,∀a∈F' i,a∈F i\/a∈G)->Ag K B H0 H σ' Γ' ρ' F' R->N σ' H) (fun e=>∀H',ZF H0 H'->EX e H')->g v σ H N
def ZrB (K:W.Frag) (EX:PX->Hp->Prop) (Γ Γ':List Md) (g:TGs) (h:List PV->List PV->Rr (List PV)):Prop:=
 ∀(B:Addr->Prop) (H0 H:Hp) (σ:St) (ρ:List PV) (F:Nat->List Addr) (G R:List Addr) (vs:List V) (xs:List PV) (N:St->Hp->Prop),Ag K B H0 H σ Γ ρ F (G++R)->(∀a∈G,a ∉ R)->ZE K H xs vs G ->
  Dn (h xs ρ) (fun ρ'=>∀σ' F',(∀i,∀a∈F' i,a∈F i\/a∈G)->Ag K B H0 H σ' Γ' ρ' F' R->N σ' H) (fun e=>∀H',ZF H0 H'->EX e H')->g vs σ H N
theorem Zsd {i:Nat} (hi:i<Γ.length):DGF K EX Γ (Γ.set i .O) (Zcq i) (fun x ρ=>.ok (ρ.set i x)):=fun B H0 H σ ρ F G R v x N A hG r d =>
 d _ (ZbG F i G) (fun j a ha=>by
  by_cases q:j=i
  ·subst q;rw[Z1] at ha;exact .inr ha
  ·rw[ZP q] at ha;exact .inl ha) (Ag.put A hi hG ⟨v,rfl,r⟩)
theorem Zsc {i:Nat} (hi:i<Γ.length):DGF K EX Γ (Γ.set i .P) (Zcq i) (fun x ρ=>(grd x).bind fun x=>.ok (ρ.set i x)):=fun B H0 H σ ρ F G R v x N A hG r d=>by
 unfold grd at d;dsimp only at d
 by_cases h:x.flat=true
 ·rw[if_pos h] at d
  exact d _ (ZbG F i []) (fun j a ha=>.inl (Qc j a ha)) (Ag.put (G:=[]) (A.less fun a ha=>Zth _ ha) hi (by simp) ⟨rfl,v,rfl,h,r.rep fun _ _=>trivial⟩)
 ·rw[if_neg h] at d;exact d.elim
theorem Zn7:ZrB K EX Γ Γ Zr4 ZrT:=fun B H0 H σ ρ F G R vs xs N A hG r d=>by
 cases xs with
 |nil=>exact⟨r.1,d σ F (fun _ _ h=>.inl h) (A.less fun a ha=>Zth _ ha)⟩
 |cons x xs=>exact d.elim
theorem Zh5 {g:TG}{gs:TGs}{h:PV->List PV->Rr (List PV)}{hs:List PV->List PV->Rr (List PV)} (h1:DGF K EX Γ Γ1 g h) (h2:ZrB K EX Γ1 Γ2 gs hs):ZrB K EX Γ Γ2 (ZlZ g gs) (hdR h hs):=fun B H0 H σ ρ F G R vs xs N A hG r d=>by
 cases xs with
 |nil=>exact d.elim
 |cons x xs =>
  obtain⟨v,r',G1,G2,rfl,r1,r2,dj,rfl⟩:=r
  refine⟨v,r',rfl,h1 B H0 H σ ρ F G1 (G2++R) v x _ (by rw[<- Ztq];exact A) (fun a ha z=>?_) r1 ((show Dn ((h x ρ).bind fun ρ'=>hs xs ρ') _ _ from d).bind.imp (fun ρ' _ d σ' F' f' A'=>?_) fun e q=>q)⟩
  ·rcases Ztk.mp z with z|z
   ·exact dj a ha z
   ·exact hG a (Zts _ ha) z
  ·refine h2 B H0 H σ' ρ' F' G2 R r' xs _ A' (fun a ha=>hG a (Zth _ ha)) r2 (d.imp (fun ρ2 _ d σ2 F2 f2 A2=>d σ2 F2 (fun j a ha=>?_) A2) fun e q=>q)
   rcases f2 j a ha with z|z
   ·rcases f' j a z with w|w
    ·exact .inl w
    ·exact .inr (Zts _ w)
   ·exact .inr (Zth _ z)
theorem Zpz {n:Nat}{gs:TGs}{hs:List PV->List PV->Rr (List PV)} (h2:ZrB K EX Γ Γ2 gs hs):DGF K EX Γ Γ2 (Zr3 K n gs) (fun x ρ=>(asT n x).bind fun xs=>hs xs ρ):=fun B H0 H σ ρ F G R v x N A hG r d=>by
 obtain⟨xs,rfl,hl,d⟩:=Dn.asT d.bind
 obtain⟨a,vs,rfl,hn,hr⟩:=r
 exact⟨a,vs,rfl,hn.sqT,by rw[hr.length];exact hl,h2 B H0 H σ ρ F G R vs xs N A hG hr d⟩
theorem Zpv {gt:TG}{h:PV->List PV->Rr (List PV)} (he:DE K EX Γ Γ1 .F te f) (hg:DGF K EX Γ1 Γ2 gt h):DS K EX Γ ⟨Γ2,Γ3,Γ',k⟩ (ZnT te gt) (fun ρ=>(f ρ).thenS fun x=>(h x ρ).thenS fun ρ'=>.next ρ'):=fun B H0 H σ ρ F D A d=>by
 refine he B H0 H σ ρ F [] _ A (d.thenS.imp (fun x _ d v H1 s1 r1=>?_) fun e q=>q)
 obtain⟨F1,f1,G,h1,h2,A1⟩:=r1
 refine hg B H0 H1 σ ρ F1 G [] v x _ A1 (by simp) h1 (d.thenS.imp (fun ρ' _ d σ' F' f' A'=>d σ' H1 F' (fun a o ho n=>⟨s1 a o ho,fun j z=>?_⟩) A') fun e q=>q)
 rcases f' j a z with w|w
 ·exact n j (f1 j a w)
 ·rcases (h2 a w).2 with q|⟨l,q⟩
  ·rw[ho] at q;cases q
  ·exact n l q
end
noncomputable def RS.turn:RS->(List PV->RS)->RS
 |.next ρ,f=>f ρ
 |.cont ρ,f=>f ρ
 |.brk ρ,_=>.next ρ
 |r,_=>r
noncomputable def ZfP (b:PV->List PV->RS):List PV->List PV->RS
 |[],ρ=>.next ρ
 |x::xs,ρ=>(b x ρ).turn (ZfP b xs)
noncomputable def Qo (c:List PV->Rr Bool) (b:List PV->RS):Nat->List PV->Option RS
 |0,_=>none
 |n+1,ρ=>match c ρ with
  |.ok true=>match b ρ with
   |.next ρ'=>Qo c b n ρ'
   |.cont ρ'=>Qo c b n ρ'
   |.brk ρ'=>some (.next ρ')
   |r=>some r
  |.ok false=>some (.next ρ)
  |.exc e=>some (.exc e)
  |.bad=>some .bad
open Classical in
noncomputable def JX (c:List PV->Rr Bool) (b:List PV->RS) (ρ:List PV):RS:=if h:∃n r,Qo c b n ρ=some r then h.choose_spec.choose else .bad
theorem Zbw {c:List PV->Rr Bool}{b:List PV->RS}:∀{n m:Nat}{ρ:List PV}{r:RS},n<=m->Qo c b n ρ=some r->Qo c b m ρ=some r
 |0,_,_,_,_,h=>by cases h
 |n+1,0,_,_,hl,_=>by omega
 |n+1,m+1,ρ,r,hl,h=>by
  unfold Qo at h ⊢
  cases hc:c ρ with
  |ok b' =>
   cases b' with
   |true =>
    rw[hc] at h
    cases hb:b ρ with
    |next ρ'=>rw[hb] at h;exact Zbw (by omega) h
    |cont ρ'=>rw[hb] at h;exact Zbw (by omega) h
    |brk ρ'=>rw[hb] at h;exact h
    |ret x=>rw[hb] at h;exact h
    |exc e=>rw[hb] at h;exact h
    |bad=>rw[hb] at h;exact h
   |false=>rw[hc] at h;exact h
  |exc e=>rw[hc] at h;exact h
  |bad=>rw[hc] at h;exact h
theorem ZlR {c:List PV->Rr Bool}{b:List PV->RS}{n m:Nat}{ρ:List PV}{r r':RS} (h:Qo c b n ρ=some r) (h':Qo c b m ρ=some r'):r=r':=by
 rcases Nat.le_total n m with q|q
 ·have:=Zbw q h;rw[h'] at this;exact(Option.some.inj this).symm
 ·have:=Zbw q h';rw[h] at this;exact Option.some.inj this
theorem Zeh {c:List PV->Rr Bool}{b:List PV->RS}{n:Nat}{ρ:List PV}{r:RS} (h:Qo c b n ρ=some r):JX c b ρ=r:=by
 unfold JX
 have hx:∃n r,Qo c b n ρ=some r:=⟨n,r,h⟩
 rw[dif_pos hx]
 exact ZlR hx.choose_spec.choose_spec h
section
variable {K:W.Frag}{B:Addr->Prop}{EX:PX->Hp->Prop}{H0 H H':Hp}{σ:St}{Γ Γ' Γ1 Γ2 Γ3 Γl Γt:List Md}{ρ:List PV}{F F':Nat->List Addr}{R:List Addr}{k:Kd}{x:PV}{v:V}{te ti tb tc:TE}{ta:TA}{f fb fc fe:List PV->Rr PV}{fa:List PV->Rr (List PV)}
 {t u:TS}{g g':List PV->RS}{Y:Tys}{D:Zk3}
theorem Zcw {wi:TI}{gt:TG}{fi:List PV->Rr (List PV)}{h:PV->List PV->Rr (List PV)} (hi:DI K EX Γ Γ1 wi fi) (hw:Zoe Γ1 Γl=true) (hg:DG K EX Γl Γt gt h) (hb:DS K EX Γt ⟨Γl,Γl,Γl,k⟩ t g) :
  DS K EX Γ ⟨Γl,Γ2,Γ3,k⟩ (Zss wi gt t) (fun ρ=>(fi ρ).thenS fun xs=>ZfP (fun x ρ=>(h x ρ).thenS g) xs ρ):=fun B H0 H σ ρ F D A d=>by
 refine hi B H0 H σ ρ F [] _ A (d.thenS.imp (fun xs _ d J H1 F1 s1 f1 A1 it=>?_) fun e q=>q)
 obtain⟨Fl,fl,Al⟩:=A1.weak hw
 have fr0:Frm H F H1 Fl:=Frm.of s1 fun j a ha=>f1 j a (fl j a ha)
 have fr1:Frm H1 F1 H1 Fl:=Frm.of (ZF.refl _) fl
 refine⟨fun i m σ' H'=>∃ρ' F',m=xs.length-i/\i<=xs.length/\Frm H1 F1 H' F'/\Ag K B H0 H' σ' Γl ρ' F' []/\DnS K B EX ⟨Γl,Γ2,Γ3,k⟩ H0 H' F' D (ZfP (fun x ρ=>(h x ρ).thenS g) (xs.drop i) ρ'),
  ⟨xs.length,ρ,Fl,by simp,ZtB _,fr1,Al,by simpa using DnS.shift fr0 d⟩, ?_⟩
 rintro i m σ' H' ⟨ρ',F',rfl,hi',fr,A',dn⟩
 have itp:=it H' F' fr i
 cases hx:xs[i]? with
 |none =>
  refine .inl ⟨itp.2 hx, ?_⟩
  have hd:xs.drop i=[]:=ZtW (ZtN.mp hx)
  rw[hd] at dn
  exact dn σ' H' F' Frm.refl A'
 |some x =>
  have hlt:i<xs.length:=(Zti.mp hx).1
  obtain⟨go,yl⟩:=itp.1 x hx
  have hdx:xs.drop i=x::xs.drop (i+1):=by
   rw[Zty hlt]
   rw[Ztf hlt] at hx;cases hx;rfl
  rw[hdx] at dn
  simp only[ZfP] at dn
  refine .inr ⟨go,fun σ2 H2=>∃ρ2 F2,Frm H1 F1 H2 F2/\Ag K B H0 H2 σ2 Γl ρ2 F2 []/\DnS K B EX ⟨Γl,Γ2,Γ3,k⟩ H0 H2 F2 D (ZfP (fun x ρ=>(h x ρ).thenS g) (xs.drop (i+1)) ρ2),
   fun σ2 H2 ⟨ρ2,F2,a1,a2,a3⟩=>⟨xs.length-(i+1),by omega,ρ2,F2,rfl,hlt,a1,a2,a3⟩,fun v H3 y=>?_⟩
  obtain⟨s3,rx⟩:=yl v H3 y
  have fr3:Frm H' F' H3 F':=Frm.of s3 fun _ _ h=>h
  refine hg B H0 H3 σ' ρ' F' v x _ (A'.grow s3) (Rep.mono (fun a us s r=>⟨r,s.1⟩) (fun a us r=>r) rx) ?_
  cases e:h x ρ' with
  |ok ρt =>
   rw[e] at dn
   refine fun σt Ft ft At=>hb B H0 H3 σt ρt Ft _ At ?_
   have frt:Frm H' F' H3 Ft:=Frm.of s3 ft
   simp only[Rr.thenS_ok] at dn
   cases e2:g ρt with
   |next ρ2=>rw[e2] at dn;exact fun σ2 H2 F2 fr2 A2=>⟨ρ2,F2,fr.trans (frt.trans fr2),A2,DnS.shift (frt.trans fr2) dn⟩
   |cont ρ2=>rw[e2] at dn;exact fun σ2 H2 F2 fr2 A2=>⟨ρ2,F2,fr.trans (frt.trans fr2),A2,DnS.shift (frt.trans fr2) dn⟩
   |brk ρ2=>rw[e2] at dn;exact fun σ2 H2 F2 fr2 A2=>dn σ2 H2 F2 (frt.trans fr2) A2
   |ret y=>rw[e2] at dn;exact dn
   |exc q=>rw[e2] at dn;exact dn
   |bad=>rw[e2] at dn;exact dn
  |exc q=>rw[e] at dn;exact dn
  |bad=>rw[e] at dn;exact dn
theorem V4 {c:TT}{fc:List PV->Rr Bool} (hc:DT K EX Γ Γ c fc) (hb:DS K EX Γ ⟨Γ,Γ,Γ,k⟩ t g):DS K EX Γ ⟨Γ,Γ2,Γ3,k⟩ (ZnQ c t) (fun ρ=>JX fc g ρ):=fun B H0 H σ ρ F D A d=>by
 dsimp only at d
 have ex:∃n,Qo fc g n ρ=some (JX fc g ρ):=by
  by_cases hx:∃n r,Qo fc g n ρ=some r
  ·obtain⟨n,r,e⟩:=hx
   exact⟨n,by rw[Zeh e];exact e⟩
  ·unfold JX at d
   rw[dif_neg hx] at d
   exact d.elim
 obtain⟨n0,e0⟩:=ex
 generalize hr:JX fc g ρ=r at e0 d
 refine⟨fun m σ' H'=>∃ρ' F',Frm H F H' F'/\Ag K B H0 H' σ' Γ ρ' F' []/\Qo fc g m ρ'=some r,⟨n0,ρ,F,Frm.refl,A,e0⟩, ?_⟩
 rintro m σ' H' ⟨ρ',F',fr,A',e⟩
 cases m with
 |zero=>cases e
 |succ m =>
  unfold Qo at e
  refine hc B H0 H' σ' ρ' F' [] _ A' ?_
  cases e1:fc ρ' with
  |ok b =>
   rw[e1] at e
   refine fun H2 F2 s2 f2 A2=>?_
   have fr2:Frm H' F' H2 F2:=Frm.of s2 f2
   cases b with
   |true =>
    refine⟨fun σ3 H3=>∃ρ3 F3,Frm H F H3 F3/\Ag K B H0 H3 σ3 Γ ρ3 F3 []/\Qo fc g m ρ3=some r,fun σ3 H3 h=>⟨m,Zu0 _,h⟩, ?_⟩
    refine hb B H0 H2 σ' ρ' F2 _ A2 ?_
    cases e2:g ρ' with
    |next ρ2=>rw[e2] at e;exact fun σ3 H3 F3 fr3 A3=>⟨ρ2,F3,fr.trans (fr2.trans fr3),A3,e⟩
    |cont ρ2=>rw[e2] at e;exact fun σ3 H3 F3 fr3 A3=>⟨ρ2,F3,fr.trans (fr2.trans fr3),A3,e⟩
    |brk ρ2 =>
     rw[e2] at e
     have e':RS.next ρ2=r:=Option.some.inj e
     rw[<- e'] at d
     exact fun σ3 H3 F3 fr3 A3=>d σ3 H3 F3 (fr.trans (fr2.trans fr3)) A3
    |ret y =>
     rw[e2] at e
     have e':RS.ret y=r:=Option.some.inj e
     rw[<- e'] at d
     exact d
    |exc q =>
     rw[e2] at e
     have e':RS.exc q=r:=Option.some.inj e
     rw[<- e'] at d
     exact d
    |bad =>
     rw[e2] at e
     have e':RS.bad=r:=Option.some.inj e
     rw[<- e'] at d
     exact d
   |false =>
    have e':RS.next ρ'=r:=Option.some.inj e
    rw[<- e'] at d
    exact d σ' H2 F2 (fr.trans fr2) A2
  |exc q =>
   rw[e1] at e
   have e':RS.exc q=r:=Option.some.inj e
   rw[<- e'] at d
   exact d
  |bad =>
   rw[e1] at e
   have e':RS.bad=r:=Option.some.inj e
   rw[<- e'] at d
   exact d
end
noncomputable def RS.out:RS->Rr PV
 |.next _=>.ok .non
 |.ret x=>.ok x
 |.exc e=>.exc e
 |.brk _=>.bad
 |.cont _=>.bad
 |.bad=>.bad
@[simp] theorem RS.out_next {ρ:List PV}:(RS.next ρ).out=.ok .non:=rfl
@[simp] theorem RS.out_ret {x:PV}:(RS.ret x).out=.ok x:=rfl
@[simp] theorem RS.out_exc {e:PX}:(RS.exc e).out=.exc e:=rfl
def Ref (r r':Rr PV):Prop:=r=.bad\/r=r'
structure Pm where
 α:Type
 enc:α->List PV
 pre:α->Prop
 out:α->Rr PV
open Classical in
noncomputable def Pm.fn (m:Pm) (xs:List PV):Rr PV:=if h:∃a,m.enc a=xs/\m.pre a then m.out h.choose else .bad
theorem Pm.fn_eq (m:Pm) (a:m.α) (h:m.pre a) (inj:∀b,m.enc b=m.enc a->m.out b=m.out a):m.fn (m.enc a)=m.out a:=by
 unfold Pm.fn
 have hx:∃b,m.enc b=m.enc a/\m.pre b:=⟨a,rfl,h⟩
 rw[dif_pos hx]
 exact inj _ hx.choose_spec.1
theorem Pm.ref (m:Pm) {g:List PV->Rr PV} (h:∀a,m.pre a->g (m.enc a)=m.out a) (xs:List PV):Ref (m.fn xs) (g xs):=by
 unfold Pm.fn
 by_cases hx:∃a,m.enc a=xs/\m.pre a
 ·rw[dif_pos hx]
  have h2:=hx.choose_spec
  right
  have:=h _ h2.2
  rw[h2.1] at this
  exact this.symm
 ·rw[dif_neg hx];exact .inl rfl
section
variable {K:W.Frag}{B:Addr->Prop}{EX:PX->Hp->Prop}{H0 H H':Hp}
theorem Ag.init {xs:List PV}{vs:List V}{n:Nat} (h:Y1 K H B xs vs):Ag K (fun a=>B a\/H a=none) H H (vs.map some++List.replicate n none) (List.replicate xs.length .S++List.replicate n .U) (xs++List.replicate n .non) (fun _=>[]) []:=by
 refine⟨ZF.refl _,fun a h=>.inr h,by simp,by simp,by simp,by simp,by simp,by simp,by simp[h.length],by simp,fun i=>?_⟩
 by_cases hi:i<xs.length
 ·have e1:(List.replicate xs.length Md.S++List.replicate n Md.U).getD i .U=.S:=by
   rw[Zte,Ztl (by simpa using hi),ZuW hi];rfl
  have e2:(xs++List.replicate n PV.non).getD i .non=xs[i]:=by
   rw[Zte,Ztl hi,Ztf hi];rfl
  rw[e1,e2]
  obtain⟨v,h1,h2⟩:=h.get (Ztf hi)
  refine⟨rfl,v, ?_,Rep.mono (fun a us s r=>⟨r,.inl s,by simp,by simp⟩) (fun a us r=>r) h2⟩
  rw[Ztl (by rw[Zto,h.length];exact hi),Ztz,h1];rfl
 ·have e1:(List.replicate xs.length Md.S++List.replicate n Md.U).getD i .U=.U:=by
   rw[Zte,Ztm (by simpa using hi)]
   by_cases q:i-(List.replicate xs.length Md.S).length<n
   ·rw[ZuW q];rfl
   ·rw[Zt2 (by simpa using q)];rfl
  rw[e1]
  exact rfl
end
section
variable {P:Program}{w:World}{K:W.Frag}{mg:Str->Option Value}{base:Heap}
theorem Fun.okP {x qual:Str}{st:Stmt}{f:Addr}{fd:FuncData}{N ps:List Str}{k n l:Nat}{kd:Kd}{m:List PV->Rr PV} (F:Fun K x qual st f fd) (S:Zx N ps (Zh st)) (hn:ps.length=n) (hl:N.length-n=l)
  (hbody:∀(cdv:Value) (A:Around) (outer:List Env) (s:Shared) (H:Hp) (E:XK),Zef k (A.deeper (envOfC qual (Zh st) s.heap.objs.size f cdv)) ->
   ∃t g Y,Y.r=kd/\PSs (ZhY CX0 P w K mg base N qual (Zh st) f cdv A outer s H E).nox (Zv st) t/\DS K X0 (List.replicate n .S++List.replicate l .U) Y t g/\∀xs,Ref (m xs) (g (xs++List.replicate l .non)).out) (hkN:kd≠.N:=by nofun) :
  Vi P w K mg base CX0 (k+1) f fd ps (spF K n kd W0 m):=by
 refine F.ok S (fun vs H Q E h=>?_) (fun cdv A outer s H vs Q E hr h=>?_)
 ·obtain⟨B,xs,h1,h2,_⟩:=h
  rw[h1.length,h2,hn]
 ·obtain⟨B,xs,h1,h2,dn⟩:=h
  obtain⟨t,g,Y,hY,ht,hd,href⟩:=hbody cdv A outer s H E hr
  refine⟨t,ht, ?_⟩
  have A0:=Ag.init (n:=l) h1
  have est:ZdG N vs=vs.map some++List.replicate l none:=by
   unfold ZdG
   rw[h1.length,h2,hl]
  rw[est]
  rw[h2] at A0
  refine hd _ H H _ _ _ _ A0 ?_
  have hdn:Dn (g (xs++List.replicate l .non)).out (fun x=>∀v H',ZF H H'->Zoz K B H kd x v H'->Q v H') (fun e=>∀H',ZF H H'->W0 e E H'):=by
   rcases href xs with e|e
   ·rw[e] at dn;exact dn.elim
   ·rw[<- e];exact dn
  have retK:∀{x v H'},Zoz K (fun a=>B a\/H a=none) H kd x v H'->Zoz K B H kd x v H':=fun {x v H'} h=>by
   cases kd with
   |P=>exact h
   |F=>exact h
   |T=>exact Rep.mono (fun a us s r=>⟨r,s.elim id .inr⟩) (fun a us r=>r) h
   |Z=>exact Rep.mono (fun a us s r=>⟨r,s.elim id .inr⟩) (fun a us r=>r) h
   |A=>exact Rep.mono (fun a us s r=>⟨r,s.elim id .inr⟩) (fun a us r=>r) h
   |N=>exact h
  cases e:g (xs++List.replicate l .non) with
  |next ρ =>
   rw[e] at hdn
   refine fun σ' H' F' fr A'=>hdn .non H' A'.same ?_
   cases kd with
   |P=>exact⟨rfl,rfl⟩
   |F=>exact⟨[],⟨rfl,rfl⟩,by simp⟩
   |T=>exact rfl
   |Z=>exact rfl
   |A=>exact rfl
   |N=>exact absurd rfl hkN
  |ret x=>rw[e] at hdn;exact fun v H' s r=>hdn v H' s (retK (hY▸r))
  |exc q=>rw[e] at hdn;exact fun H' s=>hdn H' s
  |brk ρ=>rw[e] at hdn;exact hdn.elim
  |cont ρ=>rw[e] at hdn;exact hdn.elim
  |bad=>rw[e] at hdn;exact hdn.elim
end
section
variable {X:Cx}{K:W.Frag}{k n:Nat}{kd:Kd}{x:Str}{ps:List Str}{m:List PV->Rr PV}{p pos:Pos}{e:Expr}{es:List Expr}{ta:TA}{EX:PX->Hp->Prop}{Γ Γ':List Md}{fa:List PV->Rr (List PV)}
theorem Zp6 (hn:Len fa n) (ha:DAA K X0 Γ Γ' ta fa):DE K X0 Γ Γ' .F (Zd2 (spF K n .F W0 m) ta) (fun ρ=>(fa ρ).bind m):=Zg7 (E:=E0) (W:=W0) (fun σ H Q h=>h) (fun e H' h=>h) hn ha
theorem Zor (hn:Len fa n) (ha:DAA K X0 Γ Γ' ta fa):DE K X0 Γ Γ' .P (Zd2 (spF K n .P W0 m) ta) (fun ρ=>(fa ρ).bind m):=Zg6 (E:=E0) (W:=W0) (fun σ H Q h=>h) (fun e H' h=>h) hn ha
theorem ZsX (hn:Len fa n) (ha:DAZ K X0 Γ Γ' ta fa):DE K X0 Γ Γ' .Z (Zd2 (spF K n .Z W0 m) ta) (fun ρ=>(fa ρ).bind m):=ZnD (E:=E0) (W:=W0) (fun σ H Q h=>h) (fun e H' h=>h) hn ha
end
theorem Zki {K:W.Frag}{H:Hp}{a:Addr}{ns:List Int}{m:List PV->Rr PV} (hm:m [.lst (ns.map PV.int)]=.ok (.bl true)) (hS:SqL K H a (ns.map V.int)):spF K 1 .P W0 m [.ref a] H (fun v _=>v=.bl true) fun _ _ _=>False:=by
 refine⟨fun _=>True,[.lst (ns.map PV.int)],Y1.one ⟨a,_,rfl,hS.elim (fun h=>.inl ⟨h,trivial⟩) .inr,Zhs ns⟩,rfl, ?_⟩
 rw[hm]
 exact fun v H' _ r=>r.2
section
variable {X:Cx}{K:W.Frag}{EX:PX->Hp->Prop}{Γ Γ' Γ1 Γ2 Γ3:List Md}{k:Kd}{te tb tc:TE}{ta:TA}{f fb fc:List PV->Rr PV}{fa:List PV->Rr (List PV)}
theorem ZfR {i:Nat}{wi:TI} (he:DE K EX Γ Γ' .F (ZmG wi te) f) (hi:i<Γ'.length):DS K EX Γ ⟨Γ'.set i .O,Γ1,Γ2,k⟩ (ZiT i wi te) (fun ρ=>(f ρ).thenS fun x=>.next (ρ.set i x)):=Y5 he hi
end
def RS.good (r:RS) (I:List PV->Prop):Prop:=match r with
 |.next ρ=>I ρ
 |.cont ρ=>I ρ
 |_=>False
theorem RS.good_ex {r:RS}{I:List PV->Prop} (h:r.good I):∃ρ',(r=.next ρ'\/r=.cont ρ')/\I ρ':=by
 cases r with
 |next ρ=>exact⟨ρ,.inl rfl,h⟩
 |cont ρ=>exact⟨ρ,.inr rfl,h⟩
 |ret x=>exact h.elim
 |brk ρ=>exact h.elim
 |exc e=>exact h.elim
 |bad=>exact h.elim
theorem Zn2 {b:PV->List PV->RS}{xs:List PV}{ρ:List PV} (I:Nat->List PV->Prop) (h0:I 0 ρ) (h:∀i x ρ,xs[i]?=some x->I i ρ->(b x ρ).good (I (i+1))) :
  ∃ρ',ZfP b xs ρ=.next ρ'/\I xs.length ρ':=by
 have key:∀n i ρ,xs.length=i+n->I i ρ->∃ρ',ZfP b (xs.drop i) ρ=.next ρ'/\I xs.length ρ':=by
  intro n
  induction n with
  |zero =>
   intro i ρ hl hI
   rw[ZtW (by omega)]
   exact⟨ρ,rfl,by rw[hl];exact hI⟩
  |succ n ih =>
   intro i ρ hl hI
   have hi:i<xs.length:=by omega
   rw[Zty hi]
   obtain⟨ρ',h1,h2⟩:=RS.good_ex (h i _ ρ (Ztf hi) hI)
   obtain⟨ρ2,h3,h4⟩:=ih (i+1) ρ' (by omega) h2
   refine⟨ρ2, ?_,h4⟩
   simp only[ZfP]
   rcases h1 with h1|h1<;>(rw[h1];exact h3)
 exact key xs.length 0 ρ (by omega) h0
theorem UZ {lo:Int}{n i:Nat}{x:PV} (h:(ZhW lo n)[i]?=some x):i<n/\x=.int (lo+i):=by
 unfold ZhW at h
 rw[Ztz] at h
 by_cases hi:i<n
 ·rw[Zt9 hi] at h;cases h;exact⟨hi,rfl⟩
 ·rw[Zt2 (by simpa using hi)] at h;cases h
@[simp] theorem W6 {lo:Int}{n:Nat}:(ZhW lo n).length=n:=by simp[ZhW]
theorem ZlG {α β:Type}{f:α->Rr β}{g:α->β}:∀{xs:List α},(∀x∈xs,f x=.ok (g x))->ZhX f xs=.ok (xs.map g)
 |[],_=>rfl
 |x::xs,h=>by
  simp only[ZhX,h x (by simp),Rr.bind_ok,ZlG (xs:=xs) fun y hy=>h y (by simp[hy]),Ztv]
@[simp] theorem Zpl {x:PV}{ρ:List PV}:gv 0 (x::ρ)=x:=rfl
@[simp] theorem Zpm {x:PV}{ρ:List PV}{i:Nat}:gv (i+1) (x::ρ)=gv i ρ:=rfl
theorem Zne {ns:List Int}{k:Int} (h0:0<=k) (h1:k<ns.length):pIx (.lst (ns.map PV.int)) (.int k)=.ok (.int (ns.getD k.toNat 0)):=by
 have:atI (ns.map PV.int) k=some (.int (ns.getD k.toNat 0)):=by
  unfold atI
  rw[Zto,Zj5 h0 h1]
  show (ns.map PV.int)[k.toNat]?=_
  rw[Ztz,Ztf (by omega),Zte,Ztf (by omega)]
  rfl
 simp only[pIx,this]
theorem Zlu {ns:List Int}{k y:Int} (h0:0<=k) (h1:k<ns.length):pSet (.lst (ns.map PV.int)) (.int k) (.int y)=.ok (.lst ((ns.set k.toNat y).map PV.int)):=by
 simp only[pSet,Zto,Zj5 h0 h1,List.map_set]
theorem Zl0 {ns:List Int}{y:Int} (h:ns.length<1000000):pApp (.lst (ns.map PV.int)) (.int y)=.ok (.lst ((ns++[y]).map PV.int)):=by
 simp only[pApp,Zto,if_pos h,Zt4,Ztv,ZtK]
theorem ZaQ {ns:List Int} (h:ns.length<=1000000):newF (ns.map PV.int)=.ok (.lst (ns.map PV.int)):=by
 unfold newF
 rw[PV.flats_ints,Zto,decide_eq_true h];rfl
theorem Zcx (ns:List Int):PV.dats (ns.map PV.int)=ns.map PyData.int:=by
 induction ns with
 |nil=>rfl
 |cons n ns ih=>simp[PV.dats,PV.dat,ih]
theorem Zi8 (ns:List Int):PyData.canLayAll0 (ns.map PyData.int)=true:=by
 induction ns with
 |nil=>rfl
 |cons n ns ih=>simp[PyData.canLayAll0,PyData.canLay0,ih]
theorem Zl2 (i:Int):okD (.int i)=true:=by simp[okD,PV.noX,PV.dat,PyData.canLay0,PyData.depth]
theorem Zju (ns:List Int):okD (.lst (ns.map PV.int))=true:=by
 have hd:PyData.depthAll (ns.map PyData.int)=0:=by
  induction ns with
  |nil=>rfl
  |cons n ns ih=>simp[PyData.depthAll,PyData.depth,ih]
 simp[okD,PV.noX,PV.noXs_ints,PV.dat,Zcx,PyData.canLay0,Zi8,PyData.depth,hd]
theorem Zar:∀(ns ms:List Int),PyData.eqvAll (ns.map PyData.int) (ms.map PyData.int)=decide (ns=ms)
 |[],[]=>by simp[PyData.eqvAll]
 |[],m::ms=>by simp[PyData.eqvAll]
 |n::ns,[]=>by simp[PyData.eqvAll]
 |n::ns,m::ms=>by
  simp only[Ztv,PyData.eqvAll,PyData.eqv,Zar ns ms,List.cons.injEq,Bool.decide_and]
  rw[Bool.beq_eq_decide_eq]
theorem Zgm {g:Bool->Bool} (ns ms:List Int):Zhk g (.lst (ns.map PV.int)) (.lst (ms.map PV.int))=.ok (.bl (g (decide (ns=ms)))):=by
 unfold Zhk
 rw[Zju,Zju]
 simp only[Bool.and_self,if_true,PV.dat,Zcx,PyData.eqv,Zar]
theorem ZoY {g:Bool->Bool} (i j:Int):Zhk g (.int i) (.int j)=.ok (.bl (g (decide (i=j)))):=by
 unfold Zhk
 rw[Zl2,Zl2]
 simp only[Bool.and_self,if_true,PV.dat,PyData.eqv]
 rw[Bool.beq_eq_decide_eq]
theorem Zlw (ns:List Int):Zk4 [.lst (ns.map PV.int)]=.ok (.int ns.length):=by simp[Zk4]
theorem Zls (ns:List Int):ZrM [.lst (ns.map PV.int)]=.ok (.int ns.sum):=by simp[ZrM,Zhj]
theorem ZjY {ns:List Int} (h:ns.length<=1000000):Znb [.lst (ns.map PV.int)]=.ok (.lst (ns.map PV.int)):=by
 simp only[Znb];exact ZaQ h
theorem Zjz {ns ms:List Int} (h:ns.length+ms.length<=1000000):newF (ns.map PV.int++ms.map PV.int)=.ok (.lst ((ns++ms).map PV.int)):=by
 rw[<- Zt4];exact ZaQ (by simpa using h)
theorem Zlv {ns:List Int}{k:Int} (h0:ns.length*k.toNat<=1000000) (h1:-(2^63)<=k) (h2:k<2^63):Zqu (ns.map PV.int) (.int k)=.ok (.lst ((List.replicate k.toNat ns).flatten.map PV.int)):=by
 simp only[Zqu,Zto]
 rw[if_pos ⟨h0,h1,h2⟩]
 have e:(List.replicate k.toNat (ns.map PV.int)).flatten=(List.replicate k.toNat ns).flatten.map PV.int:=by
  rw[List.map_flatten,List.map_replicate]
 rw[e]
 refine ZaQ ?_
 rw[ZlJ,Nat.mul_comm];exact h0
theorem Zp9 {i j:Int} (a b:Nat) (h1:i.natAbs<=10^a) (h2:j.natAbs<=10^b) (ha:a<=4000:=by decide) (hb:b<=4000:=by decide):ZiM i j:=by
 have t:∀c:Nat,c<=4000->(10:Nat)^c<2^60000:=fun c hc=>Zu3 (ZuY (by decide) hc) (by decide +kernel)
 exact⟨Zu3 h1 (t a ha),Zu3 h2 (t b hb)⟩
theorem ZpA {i j:Int} (b:Nat) (h1:0<j) (h2:j.natAbs<=10^b) (hb:b<=2000:=by decide):ZiN i j:=by
 have t:∀c:Nat,c<=2000->(10:Nat)^c<2^9000:=fun c hc=>Zu3 (ZuY (by decide) hc) (by decide +kernel)
 exact⟨h1,Zu3 h2 (t b hb)⟩
theorem Zpa {i j:Int} (h:ZiN i j):ZrQ (.int i) (.int j)=.ok (.int (i/j)):=Zjw (decide_eq_true h)
theorem ZoS {i j:Int} (h:ZiM i j):ZrO (.int i) (.int j)=.ok (.int (i*j)):=Zjw (decide_eq_true h)
theorem ZoT {i j:Int} (h:0<j):Zs3 (.int i) (.int j)=.ok (.int (i%j)):=Zjw (decide_eq_true h)
theorem ZoQ {i j:Int} (h:ZpV i j):ZrN (.int i) (.int j)=.ok (.int (i^j.toNat)):=Zjw (decide_eq_true h)
@[simp] theorem Zpb {i j:Int}:Zs4 (.int i) (.int j)=.ok (.int (i+j)):=rfl
@[simp] theorem ZoP {i j:Int}:Zs2 (.int i) (.int j)=.ok (.int (i-j)):=rfl
@[simp] theorem Zqw {i j:Int}:pLt (.int i) (.int j)=.ok (.bl (decide (i<j))):=rfl
@[simp] theorem Zqx {i j:Int}:pLe (.int i) (.int j)=.ok (.bl (decide (i<=j))):=rfl
@[simp] theorem Zq2 {i j:Int}:pGt (.int i) (.int j)=.ok (.bl (decide (j<i))):=rfl
@[simp] theorem Zq3 {i j:Int}:pGe (.int i) (.int j)=.ok (.bl (decide (j<=i))):=rfl
@[simp] theorem Zpn {i:Int}:grd (.int i)=.ok (.int i):=rfl
@[simp] theorem Zrp {b:Bool}:asB (.bl b)=.ok b:=rfl
@[simp] theorem ZpE {xs:List PV}:asL (.lst xs)=.ok xs:=rfl
@[simp] theorem ZpF {i:Int}:asI (.int i)=.ok i:=rfl
@[simp] theorem Zq1 {n:String}{x:Int}:Zr0 n (.int x)=.ok (.bl (Zgu (Zb5 (.int x)) n)):=rfl
@[simp] theorem Zq0 {n:String}{x:List PV}:Zr0 n (.lst x)=.ok (.bl (Zgu (Zb5 (.lst x)) n)):=rfl
@[simp] theorem ZoR {i:Int}:Zrz (.int i)=.ok (.int (-i)):=rfl
@[simp] theorem Zqz {x:PV}{xs:List PV}:pIx (.tup (x::xs)) (.int 0)=.ok x:=by simp[pIx,atI,ixN]
@[simp] theorem Zqy {x y:PV}{xs:List PV}:pIx (.tup (x::y::xs)) (.int 1)=.ok y:=by
 have:atI (x::y::xs) 1=some y:=by unfold atI;rw[Zj5 (by omega) (by simp only[ZtC];omega)];rfl
 simp only[pIx,this]
theorem ZmU {j:Int} (h:-(2^62)<=j/\j<2^62):ZmV [.int j]=.ok (ZhW 0 j.toNat):=by simp only[ZmV,okR,decide_eq_true h,if_true]
theorem ZmS {i j:Int} (h:-(2^62)<=i/\i<2^62) (h':-(2^62)<=j/\j<2^62):ZmT [.int i,.int j]=.ok (ZhW i (j-i).toNat):=by simp only[ZmT,okR,decide_eq_true h,decide_eq_true h',Bool.and_self,if_true]
theorem Zez {xs:List PV} (h:xs.length<=1000000):lenM xs=.ok ():=by simp only[lenM,if_pos h]
@[simp] theorem Znv:Zgu (Zb5 (.int i)) "int"=true:=rfl
@[simp] theorem Znw:Zgu (Zb5 (.int i)) "bool"=false:=rfl
@[simp] theorem Znu:Zgu (Zb5 (.lst xs)) "list"=true:=rfl
theorem Uy {I:List PV->Prop}{ρ:List PV} (h:I ρ):(RS.next ρ).good I:=h
theorem Zn1 {h:PV->List PV->Rr (List PV)}{hs:List PV->List PV->Rr (List PV)}{x:PV}{xs ρ:List PV}:hdR h hs (x::xs) ρ=(h x ρ).bind fun ρ'=>hs xs ρ':=rfl
theorem Znp {ρ:List PV}:ZrT [] ρ=.ok ρ:=rfl
theorem Ze8 {ns ms:List Int} (e:ns.map PV.int=ms.map PV.int):ns=ms:=by
 have:=congrArg Zd7 e
 simpa using this
theorem Zke {i j:Int} (h0:0<j) (h1:j<1000000000000):ZrQ (.int i) (.int j)=.ok (.int (i/j)):=Zpa (ZpA 12 h0 (by omega))
theorem ZrR:ZrN (.int 10) (.int 60)=.ok (.int (10^60)):=by rw[ZoQ (by decide)];rfl
theorem Zq7 {xs:List PV} (h:xs.length<=1000):mkT xs=.ok (.tup xs):=if_pos h
theorem Zq8 {xs:List PV} (h:xs.length<=1000):mkL xs=.ok (.lst xs):=if_pos h
noncomputable def KD {α:Type}:Sem α->Prop
 |.pure _=>True
 |.raise _=>True
 |.unsupported _=>True
 |.finish _=>True
 |.rule _ k=>KD (k ())
 |.at _ k=>KD (k ())
 |.load _ _ k=>∀o,KD (k o)
 |.update _ _ f k=>(∀o:Obj,(f o).dict=o.dict/\(o.isFreed=false->(f o).isFreed=false))/\KD (k ())
 |.alloc _ k=>∀a,KD (k a)
 |.loadIfAlive _ k=>∀o,KD (k o)
 |.point _ k=>KD (k ())
 |.register _ _=>True
 |.fresh k=>∀t,KD (k t)
 |.ask k=>∀x,KD (k x)
 |.choose _ _ k=>∀n,KD (k n)
 |.os _ _ k=>∀r,KD (k r)
 |.call _ _ _ _ _=>False
 |.handled _ k=>∀x,KD (k x)
 |.newGen _ k=>∀g,KD (k g)
 |.genState _ k=>∀x,KD (k x)
 |.resume _ _ _ _=>False
 |.yield _ _ _ _=>True
 |.stack k=>∀x,KD (k x)
 |.fork _ _=>True
 |.thread k=>∀x,KD (k x)
 |.await _ _ _ _ _=>True
def DK (h h':Heap):Prop:=∀b o,h.get? b=some o->∃o',h'.get? b=some o'/\o'.dict=o.dict
theorem DK.refl (h:Heap):DK h h:=fun b o e=>⟨o,e,rfl⟩
theorem DK.trans {h1 h2 h3:Heap} (a:DK h1 h2) (b:DK h2 h3):DK h1 h3:=fun x o e=>by
 obtain⟨o1,e1,d1⟩:=a x o e
 obtain⟨o2,e2,d2⟩:=b x o1 e1
 exact⟨o2,e2,d2.trans d1⟩
theorem ZrX {M:Model}{Γ:PySem.Ctx}{α:Type}{Q:α->Pos->Shared->Prop}{E:Value->Pos->Shared->Prop}{h0:Heap}:∀(t:Sem α) (p:Pos) (s:Shared),KD t->DK h0 s.heap->Sem.wp M Γ t Q E p s ->
  Sem.wp M Γ t (fun a p' s'=>Q a p' s'/\DK h0 s'.heap) (fun e p' s'=>E e p' s'/\DK h0 s'.heap) p s:=by
 intro t
 induction t with
 |pure a=>intro p s _ d h;exact⟨h,d⟩
 |raise e=>intro p s _ d h;exact⟨h,d⟩
 |unsupported w=>intro p s _ _ h;exact h
 |finish e=>intro p s _ _ h;exact h
 |rule t k ih=>intro p s k d h;exact ih () p s k d h
 |«at» q k ih=>intro p s k d h;exact ih () q s k d h
 |load a q k ih=>intro p s k d h;obtain⟨o,e,h⟩:=h;exact⟨o,e,ih o p s (k o) d h⟩
 |update a q f k ih =>
  intro p s k d h
  refine⟨h.1,ih () p _ k.2 (d.trans fun b o e=>?_) h.2⟩
  by_cases hb:a=b
  ·subst hb
   exact⟨_,Heap.get?_update_self f e ((k.1 o).2 (Heap.get?_some_iff.mp e).2),(k.1 o).1⟩
  ·exact⟨o,(Heap.get?_update_other _ f hb).trans e,rfl⟩
 |alloc o k ih=>intro p s k d h;exact ih _ p _ (k _) (d.trans fun b o' e=>⟨o',Heap.get?_push_of_some _ e,rfl⟩) h
 |loadIfAlive a k ih=>intro p s k d h;exact ih _ p s (k _) d h
 |point l k ih=>intro p s k d h;exact ih () p s k d h
 |register a k ih=>intro p s _ _ h;exact h
 |fresh k ih=>intro p s k d h;exact ih _ p _ (k _) d h
 |ask k ih=>intro p s k d h;exact ih _ p _ (k _) d h
 |choose a n k ih=>intro p s k d h;exact⟨h.1,ih _ p _ (k _) d h.2⟩
 |os q l k ih=>intro p s k d h;exact ih _ p _ (k _) d h
 |call c h g l k ih=>intro p s k d h;exact k.elim
 |handled o k ih=>intro p s k d h;exact ih _ p _ (k _) d h
 |newGen c k ih=>intro p s k d h;exact ih _ p _ (k _) d h
 |genState g k ih=>intro p s k d h;obtain⟨st,e,h⟩:=h;exact⟨st,e,ih _ p s (k _) d h⟩
 |resume g r l k ih=>intro p s k d h;exact k.elim
 |yield v g l k ih=>intro p s _ _ h;exact h
 |stack k ih=>intro p s k d h;exact ih _ p _ (k _) d h
 |fork c k ih=>intro p s _ _ h;exact h
 |thread k ih=>intro p s k d h;exact ih _ p _ (k _) d h
 |await a t d l k ih=>intro p s _ _ h;exact h
theorem Zoi {M:Model}{A:Around}{α:Type}{t:Sem α}{Q:α->Shared->Prop}{E:Value->Shared->Prop}{s:Shared} (k:KD t) (h:wpAny M A t Q E s):wpAny M A t (fun a s'=>Q a s'/\DK s.heap s'.heap) (fun e s'=>E e s'/\DK s.heap s'.heap) s:=
 fun Γ p hΓ=>ZrX t p s k (DK.refl _) (h Γ p hΓ)
theorem Y0 {α β:Type}:∀(m:Sem α) {f:α->Sem β},KD m->(∀a,KD (f a))->KD (m >>= f):=by
 intro m f
 show KD m->_->KD (m.bind f)
 induction m with
 |pure a=>intro _ h;exact h a
 |raise e=>intro _ _;trivial
 |unsupported w=>intro _ _;trivial
 |finish e=>intro _ _;trivial
 |rule t k ih=>intro k h;exact ih () k h
 |«at» q k ih=>intro k h;exact ih () k h
 |load a q k ih=>intro k h o;exact ih o (k o) h
 |update a q g k ih=>intro k h;exact⟨k.1,ih () k.2 h⟩
 |alloc o k ih=>intro k h a;exact ih a (k a) h
 |loadIfAlive a k ih=>intro k h o;exact ih o (k o) h
 |point l k ih=>intro k h;exact ih () k h
 |register a k ih=>intro _ _;trivial
 |fresh k ih=>intro k h a;exact ih a (k a) h
 |ask k ih=>intro k h a;exact ih a (k a) h
 |choose a n k ih=>intro k h a;exact ih a (k a) h
 |os q l k ih=>intro k h a;exact ih a (k a) h
 |call c h g l k ih=>intro k h;exact k.elim
 |handled o k ih=>intro k h a;exact ih a (k a) h
 |newGen c k ih=>intro k h a;exact ih a (k a) h
 |genState g k ih=>intro k h a;exact ih a (k a) h
 |resume g r l k ih=>intro k h;exact k.elim
 |yield v g l k ih=>intro _ _;trivial
 |stack k ih=>intro k h a;exact ih a (k a) h
 |fork c k ih=>intro _ _;trivial
 |thread k ih=>intro k h a;exact ih a (k a) h
 |await a t d l k ih=>intro _ _;trivial
theorem WB {α:Type}{a:α}:KD (pure a:Sem α):=trivial
theorem Zfp {α:Type}{w:String}:KD (unsupported w:Sem α):=trivial
theorem Ziu {a:Addr}:KD (load a):=fun _=>trivial
theorem ZqN (g:Array Value->Array Value) (o:Obj):(Obj.mapFields g o).dict=o.dict/\(o.isFreed=false->(Obj.mapFields g o).isFreed=false):=by
 obtain⟨c,d,dt,sl⟩:=o
 cases dt<;>exact⟨rfl,fun h=>h⟩
theorem Ziw (v:Value):KD (fieldsOf v):=by
 unfold fieldsOf
 cases v<;>try exact Zfp
 refine Y0 _ Ziu fun o=>?_
 cases o.data<;>first|exact WB|exact Zfp
theorem Zeb (v:Value) (i:Nat):KD (field v i):=by
 unfold field
 refine Y0 _ (Ziw v) fun vs=>?_
 cases vs[i]?<;>first|exact WB|exact Zfp
theorem ZbK (v:Value) (i:Nat) (x:Value):KD (setField v i x):=by
 unfold setField
 cases v<;>try exact Zfp
 unfold updateField
 refine Y0 _ Ziu fun o=>?_
 cases o.data<;>try exact Zfp
 dsimp only
 split
 ·exact⟨fun o=>ZqN _ o,trivial⟩
 ·exact Zfp
theorem Zhp (e:Value) (f:Option Addr):KD (setFlight e f):=by
 unfold setFlight
 refine Y0 _ (Zeb e 1) fun tb=>?_
 split
 ·exact ZbK _ _ _
 ·exact WB
theorem Zhq (ty:String) (vs:List Value):KD (newFields ty vs):=by
 unfold newFields newObj newObjAsIs
 dsimp only
 have al:∀(o:Obj),KD (alloc o):=fun _ _=>trivial
 split
 ·exact Y0 _ Zfp fun _=>Y0 _ (al _) fun _=>WB
 ·exact Y0 _ (al _) fun _=>WB
theorem ZlN (env:Env) (outer:List Env):KD (behindIsImport env outer):=by
 unfold behindIsImport
 split
 ·exact WB
 ·split
  ·exact WB
  ·exact Y0 _ (Zeb _ _) fun _=>WB
theorem Ziv (env:Env) (i:Bool) (outer:List Env):KD (keptBack env i outer):=by
 cases outer with
 |nil =>
  have u:KD underTheClaimsCaller:=by
   unfold underTheClaimsCaller
   exact Y0 _ (show KD stack from fun _=>trivial) fun _=>WB
  rw[keptBack]
  split
  ·exact WB
  ·exact Y0 _ u fun _=>WB
 |cons c r=>unfold keptBack;exact WB
theorem Zns {o:Obj}{sl:Array (Option Value)}:({ o with slots:=sl }:Obj).dict=o.dict/\(o.isFreed=false->({ o with slots:=sl }:Obj).isFreed=false):=by
 obtain⟨c,d,dt,s⟩:=o
 cases dt<;>exact⟨rfl,fun h=>h⟩
theorem Zj4:∀(l:List Env),KD (readyFrames l)
 |[]=>trivial
 |env::outer=>by
  unfold readyFrames
  cases env.frame with
  |none=>exact Zfp
  |some f =>
   dsimp only
   refine Y0 _ Ziu fun o=>?_
   split
   ·exact WB
   ·refine Y0 _ (ZlN _ _) fun _=>Y0 _ (Ziv _ _ _) fun _=>Y0 _ ⟨fun o=>Zns,trivial⟩ fun _=>Zj4 outer
theorem Zkj (env:Env):KD (PySem.frameOf env):=by
 unfold PySem.frameOf
 refine Y0 _ ?_ fun l=>Y0 _ ?_ fun r=>?_
 ·unfold frameEnvs
  exact Y0 _ (fun _=>trivial) fun _=>WB
 ·cases (List.dropWhile (fun x=>x.frame != env.frame) l) with
  |nil=>exact WB
  |cons a r=>exact Y0 _ (Zj4 _) fun _=>WB
 ·cases r<;>first|exact WB|exact Zfp
theorem Znt (f:Addr) (b:Bool):KD (entryPlaceOf f b):=by
 unfold entryPlaceOf
 refine Y0 _ (show KD stack from fun _=>trivial) fun acts=>?_
 split<;>exact WB
theorem Zpi (e:Value) (env:Env):KD (noteFrame e env):=by
 unfold noteFrame
 cases env.frame with
 |none=>exact Zfp
 |some f =>
  dsimp only
  refine Y0 _ (Zeb _ _) fun head=>?_
  have tail:∀(hd:Bool),KD (do setField e 1 (<- EntryCells.newEntry head (<- PySem.frameOf env) .none (rawInt f) .none (<- entryPlaceOf f hd))):=fun hd =>
   Y0 _ (Zkj env) fun _=>Y0 _ (Znt _ _) fun _=>Y0 _ (Zhq _ _) fun _=>ZbK _ _ _
  split
  ·refine Y0 _ (Zeb _ _) fun x=>?_
   split
   ·exact WB
   ·exact Y0 _ (ZbK _ _ _) fun _=>tail _
  ·exact tail _
theorem ZfK (env:Env) (e:Value):KD (leaving env e):=Y0 _ (Zpi e env) fun _=>Zhp e none
theorem Zb4.there {P:Program}{w:World}{H:Hp}{h:Heap}{a:Addr}{o:HO} (x:Zb4 P w H h a o):∃u,h.get? a=some u:=by
 cases o with
 |lst xs=>obtain⟨_,_,_,_,e⟩:=x;exact⟨_,e⟩
 |tup xs=>obtain⟨_,_,_,_,e,_⟩:=x;exact⟨_,e⟩
 |dK kvs=>obtain⟨_,_,_,_,o,_,_,e,_⟩:=x;exact⟨_,e⟩
 |dT kvs=>obtain⟨_,_,_,_,o,_,_,e,_⟩:=x;exact⟨_,e⟩
 |set S n=>obtain⟨o,_,_,_,e,_⟩:=x;exact⟨_,e⟩
 |ins C dx fs=>obtain⟨_,_,_,e,_⟩:=x;exact⟨_,e⟩
 |own y=>obtain⟨_,e⟩:=x;exact⟨_,e⟩
 |xd fs=>obtain⟨_,⟨_,_,_,e,_⟩,_⟩:=x;exact⟨_,e⟩
 |rng lo hi=>obtain⟨_,_,_,e⟩:=x;exact⟨_,e⟩
 |frz ob u=>exact⟨_,x.1⟩
 |tbl ps=>exact⟨_,x⟩
 |met f y=>exact⟨_,x⟩
 |ext φ=>exact x.2.1
def Zr9 (H:Hp) (ea k:Addr) (o:Obj):Prop:=(o.dict=none/\k=ea)\/(o.dict=some k/\∃fs,H k=some (.xd fs))
structure Fly (P:Program) (w:World) (outer:List Env) (H:Hp) (s:Shared) (ea k:Addr) (cls:Value) (H':Hp) (s':Shared):Prop where
 os:s'.os=s.os
 bare:AllBare s'.gens
 un:Un (frs outer) [] H H' s.heap s'.heap
 hok:HOk P w H' s'.heap
 new:H' ea=none
 dict:∃o,s'.heap.get? ea=some o/\Zr9 H' ea k o
 fly:∃(Bh:Heap) (t:Addr),Heap.FlyingW Bh outer ea cls (.ref t) s'.heap/\(∀b u,H' b=some u->∀o,s'.heap.get? b=some o->Bh.get? b=some o)/\∀b o,s.heap.get? b=some o->b ∉ frs outer->∃o',Bh.get? b=some o'
noncomputable def CX1 (P:Program) (w:World):CXT:=fun outer H s E e s'=>∃ea k cls H',e=.ref ea/\Fly P w outer H s ea k cls H' s'/\E cls (some k) H'
section
variable {P:Program}{w:World}{K:W.Frag}{mg:Str->Option Value}{base:Heap}{N:List Str}{qual:Str}{scope:Scope}{f:Addr}{cd:Value}{A:Around}{outer:List Env}{s:Shared}{H:Hp}{E:XK}
 {pins:List (Addr×Obj)}{σ:St}{H1 H':Hp}{s1 s':Shared}{g h'' Bh:Heap}{ea k t:Addr}{cls:Value}
theorem Zmb (I:Inv (ZhY (CX1 P w) P w K mg base N qual scope f cd A outer s H E) pins σ H1 s1) (os:s'.os=s1.os) (bare:AllBare s'.gens) (un:Un (s.heap.objs.size::frs outer) [] H1 H' s1.heap g) (hok:HOk P w H' g) (up:g.UpToSlots h'')
  (fl:Heap.FlyingW Bh outer ea cls (.ref t) h'') (st:Bh.StaysIn g) (c1:∀b u,H' b=some u->∀o,g.get? b=some o->Bh.get? b=some o) (c2:∀b o,s.heap.get? b=some o->b ∉ s.heap.objs.size::frs outer->∃o',Bh.get? b=some o')
  (new:H' ea=none) (dn:∃o,g.get? ea=some o/\Zr9 H' ea k o) (dk:DK g h''):Fly P w outer H s ea k cls H' { s' with heap:=h'' }:=by
 have neL:∀b o,s.heap.get? b=some o->b≠s.heap.objs.size:=fun b o e=>Zt0 (Heap.lt_size e)
 have nin:∀b o,s.heap.get? b=some o->b ∉ frs outer->b ∉ s.heap.objs.size::frs outer:=fun b o e n z=>(Ztt.mp z).elim (neL b o e) n
 have b0:Un (frs outer) [] H H1 s.heap s1.heap:=I.base
 have fr0:∀b∈frs outer,H b=none:=I.ok.frf
 have slot:∀b o,s.heap.get? b=some o->H b=none->b∈frs outer->∃sl,h''.get? b=some { o with slots:=sl }:=fun b o q n hb=>by
  obtain⟨s2,e1⟩:=b0.slot b o q n hb (by simp)
  obtain⟨s3,e2⟩:=un.slot b _ e1 (b0.free b o q n (by simp)) (ZtF _ hb) (by simp)
  obtain⟨_,o',ho',hnf⟩:=Heap.FunFrames.mem (show s.heap.FunFrames base outer from I.ok.funs) hb
  rw[q] at ho';cases ho'
  obtain⟨s4,e3⟩:=up b _ e2 hnf
  exact⟨s4,e3⟩
 have keepB:∀b o,s.heap.get? b=some o->H b=none->b ∉ frs outer->Bh.get? b=some o:=fun b o q n hb=>by
  have e1:=b0.keep b o q n hb (by simp)
  have e2:=un.keep b o e1 (b0.free b o q n (by simp)) (nin b o q hb) (by simp)
  obtain⟨o',e3⟩:=c2 b o q (nin b o q hb)
  have e4:=st b o' e3
  rw[e2] at e4;cases e4
  exact e3
 have thereB:∀b o,s.heap.get? b=some o->b ∉ frs outer->∃o',Bh.get? b=some o':=fun b o q hb=>by
  exact c2 b o q (nin b o q hb)
 refine⟨os.trans I.os,bare,⟨fun b o q n hb _=>fl.1 b o (keepB b o q n hb),fun b o q n hb _=>slot b o q n hb,fun b o q n _=>?_,fun b o q _=>?_,fun b xs q=>un.tups b xs (b0.tups b xs q),fun b o xs q=>un.frzs b o xs (b0.frzs b o xs q),fun b ps q=>?_⟩,fun b u e=>?_,new,(let ⟨o,e,d⟩:=dn;let ⟨o',e',d'⟩:=dk ea o e;⟨o',e',by unfold Zr9 at d ⊢;rw[d'];exact d⟩),Bh,t,fl,fun b u e o q=>?_,thereB⟩
 ·obtain⟨o1,e1⟩:=b0.there b o q (by simp)
  exact un.free b o1 e1 (b0.free b o q n (by simp)) (by simp)
 ·by_cases hb:b∈frs outer
  ·obtain⟨sl,e⟩:=slot b o q (fr0 b hb) hb
   exact⟨_,e⟩
  ·obtain⟨o',e⟩:=thereB b o q hb
   exact⟨o',fl.1 b o' e⟩
 ·obtain⟨m1,e1⟩:=b0.tbls b ps q
  obtain⟨m2,e2⟩:=un.tbls b _ e1
  exact⟨m1++m2,by rw[e2,Array.append_assoc]⟩
 ·refine(hok b u e).stay (fun c v hc q=>?_) (fun _ q=>q) fun _ _ q=>q
  rcases hc with rfl|hc
  ·exact fl.1 c v (c1 c u e v q)
  ·exact fl.1 c v (c1 c _ hc v q)
 ·obtain⟨o1,e1⟩:=(hok b u e).there
  have e2:=c1 b u e o1 e1
  have e3:=fl.1 b o1 e2
  rw[e3] at q;cases q
  exact e2
def ZpO (X:Cx) (E:St->XK):Prop:=∀(pins:List (Addr×Obj)) (σ:St) (H:Hp) (s:Shared) (e:Value) (s':Shared),Inv X pins σ H s->CX1 X.prog X.w X.stack H s (E σ) e s'->X.xe e s'
def Zrs (X:Cx) (E:St->XK):Prop:=∀(pins:List (Addr×Obj)) (σ:St) (H:Hp) (s:Shared) (h':Heap) (ea:Addr) (cls:Value) (args:List Value),Inv X pins σ H s->Heap.MadeExcOf s.heap h' ea cls args->E σ cls (some ea) H->X.xe (.ref ea) { s with heap:=h' }
theorem Jy:ZpO (ZhY (CX1 P w) P w K mg base N qual scope f cd A outer s H E) (fun _=>E):=fun pins σ H1 s1 e s' I hq=>by
 obtain⟨ea,k,cls,H',rfl,F,hE⟩:=hq
 obtain⟨Bh,t,fl,c1,c2⟩:=F.fly
 refine wpAny_mono (Zoi (ZfK _ _) (wpAny_leaves_onW (Q:=fun _ s''=>∃h'',s''={ s' with heap:=h'' }/\Heap.FlyingW Bh outer ea cls (.ref t) h''/\s'.heap.UpToSlots h'') I.ok.frames rfl fl fun h'' fl'' up=>⟨h'',rfl,fl'',up⟩)) (fun _ s'' q=>?_) fun _ _ q=>q.1
 obtain⟨⟨h'',rfl,fl'',up⟩,dk⟩:=q
 exact⟨ea,k,cls,H',rfl,Zmb I F.os F.bare F.un F.hok up fl'' fl.1 c1 (fun b o e n=>let ⟨o1,e1⟩:=(show Un (frs outer) [] H H1 s.heap s1.heap from I.base).there b o e (by simp);c2 b o1 e1 n) F.new F.dict dk,hE⟩
theorem ZcQ:Zrs (ZhY (CX1 P w) P w K mg base N qual scope f cd A outer s H E) (fun _=>E):=fun pins σ H1 s1 h' ea cls args I hx hE=>by
 have hin:∀env∈(ZhY (CX1 P w) P w K mg base N qual scope f cd A outer s H E).stack,∀b,env.frame=some b->b∈frs (ZhY (CX1 P w) P w K mg base N qual scope f cd A outer s H E).stack:=fun env he b hb=>Zvl.mpr ⟨env,he,hb⟩
 have trk:∀b u,H1 b=some u->b ∉ frs (ZhY (CX1 P w) P w K mg base N qual scope f cd A outer s H E).stack:=fun b u e z=>by rw[I.stkFree b z] at e;cases e
 have new:H1 ea=none:=by
  cases q:H1 ea with
  |none=>rfl
  |some u=>obtain⟨o,e⟩:=(I.hok ea u q).there;rw[hx.new] at e;cases e
 refine wpAny_mono (Zoi (ZfK _ _) (wpAny_leaves_madeW (Q:=fun _ s''=>∃h'' t,s''={ s1 with heap:=h'' }/\Heap.FlyingW (PySem.W.hideAll s1.heap (frs (ZhY (CX1 P w) P w K mg base N qual scope f cd A outer s H E).stack)) outer ea cls (.ref t) h''/\h'.UpToSlots h'')
  (base:=PySem.W.hideAll s1.heap (frs (ZhY (CX1 P w) P w K mg base N qual scope f cd A outer s H E).stack)) (h:=s1.heap) I.ok.frames rfl (fun b o q=>PySem.W.of_hideAll _ q) (PySem.W.funFrames_hide I.stack hin) hx fun h'' t fl _ _ up=>⟨h'',t,rfl,fl,up⟩)) (fun _ s'' q=>?_) fun _ _ q=>q.1
 obtain⟨⟨h'',t,rfl,fl,up⟩,dk⟩:=q
 have dn:∃o,h'.get? ea=some o/\Zr9 H1 ea ea o:=by obtain⟨t,e,_⟩:=hx.there;exact⟨_,e,.inl ⟨rfl,rfl⟩⟩
 refine⟨ea,ea,cls,H1,rfl,Zmb (g:=h') (t:=t) (s':={ s1 with heap:=h' }) I rfl I.bare (Un.kept hx.keeps) (I.hok.kept hx.keeps) up fl (fun b o q=>hx.keeps b o (PySem.W.of_hideAll _ q)) (fun b u e o q=>?_) (fun b o q n=>let ⟨o1,e1⟩:=(show Un (frs outer) [] H H1 s.heap s1.heap from I.base).there b o q (by simp);⟨o1,PySem.W.hideAll_get _ e1 n⟩) new dn dk,hE⟩
 obtain⟨o1,e1⟩:=(I.hok b u e).there
 have e2:=hx.keeps b o1 e1
 rw[q] at e2;cases e2
 exact PySem.W.hideAll_get _ e1 (trk b u e)
end
noncomputable def Zsi:List Value:=[.type "ValueError",.type "Exception",.type "BaseException",.type "object"]
noncomputable def ZnR (C:Addr) (E:St->XK) (ta:TA):TS:=fun D σ H=>ta σ H fun vs H1=>vs.length<=1000/\∀ea,H1 ea=none->E σ (.ref C) (some ea) H1
theorem Zpr {K:W.Frag}{h₀:Heap}{C:Addr}{bmB:List Value}{newId:String} (X:K.In h₀) (q:PySem.W.excIn K C bmB newId=true) :
  ∃tl N nm qn bs hdct sn sub ab col dd k0 k1 k2 k3 k5 mN,h₀.get? C=some (excClassObj nm qn C N bs tl hdct sn sub ab col dd k0 k1 k2 k3 k5 newId)/\h₀.Ns N mN/\mN "__init__"=none/\OwnTail h₀ bmB tl:=by
 unfold PySem.W.excIn at q
 split at q
 ·rename_i dd cd sl ho
  split at q
  ·rename_i C' bm k0 k1 k2 k3 n k5 hm hs
   simp only[Bool.and_eq_true,beq_iff_eq,Bool.not_eq_true'] at q
   obtain⟨⟨⟨⟨⟨rfl,rfl⟩,hdel⟩,ht⟩,hok⟩,hni⟩:=q
   obtain⟨nm,bs,mro,ns,qn,hd,sn,sub,ab,col,del⟩:=cd
   dsimp only at hm hdel hok hni
   subst hm hdel
   have hsl:sl=#[k0,k1,k2,k3,some (.builtin n),k5]:=by
    obtain⟨l⟩:=sl
    simp only at hs
    rw[hs]
   subst hsl
   exact⟨bm,ns,nm,qn,bs,hd,sn,sub,ab,col,dd,k0,k1,k2,k3,k5,_,X _ _ ho,.of_isNs (PySem.W.isNs_of_in X hok),PySem.W.nsMap_none_of_in X hok hni,PySem.W.tail_of_in X ht⟩
  ·cases q
 ·cases q
section
variable {X:Cx}{E:St->XK}{x:Str}{C:Addr}{np cpos pos:Pos}{e:Expr}{es:List Expr}{ta:TA}
theorem Zbr (hM:Zrs X E) (hq:PySem.W.excIn X.K C Zsi "ValueError.__new__"=true) (hg:Gl X x) (hm:X.mg x=some (.ref C)) (hc:X.calm=true) (ha:PA X (e::es) ta) (hdb:(x==("__debug__":Str))=false:=by decide)
  (he:starEach (e::es) X.env=(false,eval e X.env)::starEach es X.env:=by rfl) (hpl:(backTo cpos (starEach es X.env)).any (·.1)=false:=by rfl) :
  PS X (.Raise (some (.Call (.Name x np) (e::es) [] cpos)) none pos) (ZnR C E ta):=by
 intro pins s σ H D I h
 obtain⟨tl,N,nm,q,bs,hdct,sn,sub,ab,col,dd,k0,k1,k2,k3,k5,mN,hC,hN,hni,T⟩:=Zpr I.ok.mod.kin hq
 refine wpAny_Raise_call_subT (C:=C) (nm:=nm) (q:=q) (N:=N) (bs:=bs) (bm:=tl) (hdct:=hdct) (sn:=sn) (sub:=sub) (ab:=ab) (col:=col) (dd:=dd) (k0:=k0) (k1:=k1) (k2:=k2) (k3:=k3) (k5:=k5)
  PySem.F.excBase_ValueError (mN:=mN) (T.hasType PySem.F.excBase_ValueError.hasBase) (I.ok.hd hc) (by rw[he];show (false || (backTo cpos (starEach es X.env)).any (·.1))=false;rw[hpl];rfl) hni (Ze0 I hg hm ⟨rfl, ?_⟩ hdb)
 have h2:=ha cpos pins s σ H _ I h
 rw[he] at h2 ⊢
 refine Calls.evalArgs_plain (wpAny_mono h2 (fun us s₂ z=>?_) fun _ _ y=>y)
 obtain⟨vs,H1,I1,r,hl,hE⟩:=z
 have hnew:∀{h':Heap}{ea:Addr}{args:List Value},Heap.MadeExcOf s₂.heap h' ea (.ref C) args->H1 ea=none:=fun {h' ea args} hx=>by
  cases q:H1 ea with
  |none=>rfl
  |some u=>obtain⟨o,e⟩:=(I1.hok ea u q).there;rw[hx.new] at e;cases e
 exact⟨rfl,Zt5 (by rw[<- r.length];exact hl) (by decide),I1.bk _ _ hC,hN.keeps I1.bk,T.keeps I1.bk,fun h' ea hx=>hM pins σ H1 s₂ h' ea _ _ I1 hx (hE ea (hnew hx))⟩
end
section
variable {X:Cx}{pins:List (Addr×Obj)}{σ:St}{H:Hp}{s:Shared}
end
section
variable {X:Cx}{pins:List (Addr×Obj)}{σ:St}{H:Hp}{s:Shared}
end
section
variable {X:Cx}{C:Addr}{i:Nat}{tb:(St->XK)->TS}{th:TS}{c n:Str}{np hpos pos:Pos}{body suite:List Stmt}{b₀:Stmt}
end
end L2
namespace PySem.W
open PySem PySem.Spec PySem.Calls PyProof.Rows
section
variable {prog:Program}{w:World}{A:Around}{E:Value->Shared->Prop}{s:Shared}{K:Frag}{x D:Addr}{ox:Obj}{od:Option Obj}
noncomputable def exOk (K:Frag) (D:Addr):Bool:=(findIn K (.ref D) "__getattribute__" == some (some (.builtin "BaseException.__getattribute__")))&&(findIn K (.ref D) "__getattr__" == some none)&&(mroIn K D (.type "BaseException")==some true)&&(mroIn K D (.type "object")==some true) &&
 (findIn K (.ref D) "__class__" == some (some (.builtin "object.__class__")))&&(specialIn K (.builtin "object.__class__") "__get__" == some (some (.builtin "getset_descriptor.__get__")))&&(takesIn K (.builtin "object.__class__")==some true)&&(clsIn K D).isSome
end
end PySem.W
namespace L2
open PySem PySem.Spec PyProof.Rows
def OkX (P:Program) (w:World) (K:W.Frag) (mg:Str->Option Value) (base:Heap) (k:Nat) (x:Str) (ps:List Str) (sp:Sp):Prop:=
 ∃f fd,Vi P w K mg base (CX1 P w) k f fd ps sp/\mg x=some (.ref f)/\PySem.W.keepIn K (.ref f)=true/\ZhU K fd ps []
theorem JD {P:Program}{w:World}{K:W.Frag}{mg:Str->Option Value}{base:Heap}{k:Nat}{x:Str}{st:Stmt}{ps:List Str}{sp:Sp} (d:Dfn K mg x st) (b:Zq x st ps)
  (h:∀{f fd},Fun K x x st f fd->Vi P w K mg base (CX1 P w) k f fd ps sp):OkX P w K mg base k x ps sp:=by
 obtain⟨f,fd,F,hm⟩:=d
 exact⟨f,fd,h F,hm,F.kp,F.binds b⟩
section
variable {X:Cx}{k:Nat}{x:Str}{ps:List Str}{sp:Sp}{p pos:Pos}{e:Expr}{es:List Expr}{t:TA}{E:St->XK}
noncomputable def Zf8 (sp:Sp) (E:St->XK) (t:TA):TE:=fun σ H Q=>t σ H fun vs H1=>sp vs H1 Q (E σ)
theorem Z6 (G:OkX X.prog X.w X.K X.mg X.base k x ps sp) (hr:Zef k X.A) (hg:Gl X x) (hx:ZpO X E) (ha:PA X (e::es) t) (hdb:(x==("__debug__":Str))=false:=by decide)
  (he:starEach (e::es) X.env=(false,eval e X.env)::starEach es X.env:=by rfl) (hpl:(backTo pos (starEach es X.env)).any (·.1)=false:=by rfl):PE X (.Call (.Name x p) (e::es) [] pos) (Zf8 sp E t):=by
 obtain⟨f,fd,F,hm,hk,hb⟩:=G
 intro pins s σ H Q I h
 refine wpAny_Call_Name_kw (Ze0 I hg hm ?_ hdb)
 refine PySem.W.callWith_K (h₀:=X.base) I.ok.mod.kin hk (thn (ha pos pins s σ H _ I h) fun us s1 ⟨vs,H1,I1,r,q⟩=>⟨I1.kIn, ?_⟩) he hpl
 have hl:(us++[]).length=ps.length:=by rw[Zub,<- r.length];exact F.len _ _ _ _ q
 have hb':=hb s1 us I1.kIn hl
 rw[Zub] at hb'
 refine wpAny_call (codeAny_mono (F.run X.A X.stack s1 H1 ⟨us,[]⟩ us vs Q (E σ) hr I1.env0 hb' r q) fun r s' hq=>?_)
 cases r with
 |error e=>exact hx pins σ H1 s1 e s' I1 hq
 |ok fl =>
  cases fl with
  |ret u=>exact I1.after hq
  |next=>exact False.elim hq
  |brk=>exact False.elim hq
  |cont=>exact False.elim hq
end
noncomputable def Ztc:PV->Hp->Addr->Prop
 |.non,H,k=>H k=none
 |.int i,H,k=>∃fs,H k=some (.xd fs)/\fs=[(("at":Str),V.int i)]
 |_,_,_=>False
def W1 (K:W.Frag):PX->XK->Hp->Prop:=fun e E H'=>∀C k,ZpM K e.1 C->Ztc e.2 H' k->E (.ref C) (some k) H'
section
variable {P:Program}{w:World}{K:W.Frag}{mg:Str->Option Value}{base:Heap}
theorem Fun.okX {x qual:Str}{st:Stmt}{f:Addr}{fd:FuncData}{N ps:List Str}{k n l:Nat}{kd:Kd}{m:List PV->Rr PV} (F:Fun K x qual st f fd) (S:Zx N ps (Zh st)) (hn:ps.length=n) (hl:N.length-n=l)
  (hbody:∀(cdv:Value) (A:Around) (outer:List Env) (s:Shared) (H:Hp) (E:XK),Zef k (A.deeper (envOfC qual (Zh st) s.heap.objs.size f cdv)) ->
   ∃t g Y,Y.r=kd/\PSs (ZhY (CX1 P w) P w K mg base N qual (Zh st) f cdv A outer s H E) (Zv st) t/\DS K (fun e H'=>W1 K e E H') (List.replicate n .S++List.replicate l .U) Y t g/\∀xs,Ref (m xs) (g (xs++List.replicate l .non)).out) (hkN:kd≠.N:=by nofun) :
  Vi P w K mg base (CX1 P w) (k+1) f fd ps (spF K n kd (W1 K) m):=by
 obtain⟨oc,od,kV,doc,pm,an,cdv,ct,osl,rfl,lk,hcd⟩:=F.ex
 refine ZqX lk hcd S (fun vs H Q E h=>?_) fun A outer s H vs Q E hr h=>?_
 ·obtain⟨B,xs,h1,h2,_⟩:=h
  rw[h1.length,h2,hn]
 ·obtain⟨B,xs,h1,h2,dn⟩:=h
  obtain⟨t,g,Y,hY,ht,hd,href⟩:=hbody cdv A outer s H E hr
  refine⟨t,ht, ?_⟩
  have A0:=Ag.init (n:=l) h1
  have est:ZdG N vs=vs.map some++List.replicate l none:=by
   unfold ZdG
   rw[h1.length,h2,hl]
  rw[est]
  rw[h2] at A0
  refine hd _ H H _ _ _ _ A0 ?_
  have hdn:Dn (g (xs++List.replicate l .non)).out (fun x=>∀v H',ZF H H'->Zoz K B H kd x v H'->Q v H') (fun e=>∀H',ZF H H'->W1 K e E H'):=by
   rcases href xs with e|e
   ·rw[e] at dn;exact dn.elim
   ·rw[<- e];exact dn
  have retK:∀{x v H'},Zoz K (fun a=>B a\/H a=none) H kd x v H'->Zoz K B H kd x v H':=fun {x v H'} h=>by
   cases kd with
   |P=>exact h
   |F=>exact h
   |T=>exact Rep.mono (fun a us s r=>⟨r,s.elim id .inr⟩) (fun a us r=>r) h
   |Z=>exact Rep.mono (fun a us s r=>⟨r,s.elim id .inr⟩) (fun a us r=>r) h
   |A=>exact Rep.mono (fun a us s r=>⟨r,s.elim id .inr⟩) (fun a us r=>r) h
   |N=>exact h
  cases e:g (xs++List.replicate l .non) with
  |next ρ =>
   rw[e] at hdn
   refine fun σ' H' F' fr A'=>hdn .non H' A'.same ?_
   cases kd with
   |P=>exact⟨rfl,rfl⟩
   |F=>exact⟨[],⟨rfl,rfl⟩,by simp⟩
   |T=>exact rfl
   |Z=>exact rfl
   |A=>exact rfl
   |N=>exact absurd rfl hkN
  |ret x=>rw[e] at hdn;exact fun v H' s r=>hdn v H' s (retK (hY▸r))
  |exc q=>rw[e] at hdn;exact fun H' s=>hdn H' s
  |brk ρ=>rw[e] at hdn;exact hdn.elim
  |cont ρ=>rw[e] at hdn;exact hdn.elim
  |bad=>rw[e] at hdn;exact hdn.elim
end
section
variable {K:W.Frag}{n:Nat}{m:List PV->Rr PV}{ta:TA}{Γ Γ':List Md}{fa:List PV->Rr (List PV)}{E:XK}
noncomputable abbrev EX1 (K:W.Frag) (E:XK):PX->Hp->Prop:=fun e H'=>W1 K e E H'
theorem Zsb (hn:Len fa n) (ha:DAA K (EX1 K E) Γ Γ' ta fa):DE K (EX1 K E) Γ Γ' .F (Zf8 (spF K n .F (W1 K) m) (fun _=>E) ta) (fun ρ=>(fa ρ).bind m):=Zg7 (E:=E) (W:=W1 K) (fun σ H Q h=>h) (fun e H' h=>h) hn ha
theorem Zk7 (hn:Len fa n) (ha:DAA K (EX1 K E) Γ Γ' ta fa):DE K (EX1 K E) Γ Γ' .P (Zf8 (spF K n .P (W1 K) m) (fun _=>E) ta) (fun ρ=>(fa ρ).bind m):=Zg6 (E:=E) (W:=W1 K) (fun σ H Q h=>h) (fun e H' h=>h) hn ha
theorem Zh0 {EX:PX->Hp->Prop} (hn:Len fa n) (hm:∀xs q,m xs≠.exc q) (ha:DAA K EX Γ Γ' ta fa):DE K EX Γ Γ' .F (Zd2 (spF K n .F W0 m) ta) (fun ρ=>(fa ρ).bind m):=fun B H0 H σ ρ F R Q A d=>by
 refine ha B H0 H σ ρ F R _ A (d.bind.imp (fun xs hx d vs H1 F1 s1 f1 p1 A1=>?_) fun e q=>q)
 refine⟨fun _=>True,xs,p1,hn ρ xs hx, ?_⟩
 cases e:m xs with
 |ok x =>
  rw[e] at d
  intro v H2 s2 r
  obtain⟨G,r1,r2⟩:=r
  exact d v H2 (s1.trans s2) ⟨F1,f1,G,r1,fun a ha=>⟨(A1.fresh (r2 a ha)).1,.inl (s1.free (r2 a ha))⟩,A1.more s2 r2 r1.alive⟩
 |exc q=>exact(hm xs q e).elim
 |bad=>rw[e] at d;exact d.elim
theorem Zg4 {EX:PX->Hp->Prop} (hn:Len fa n) (hm:∀xs q,m xs≠.exc q) (ha:DAA K EX Γ Γ' ta fa):DE K EX Γ Γ' .P (Zd2 (spF K n .P W0 m) ta) (fun ρ=>(fa ρ).bind m):=fun B H0 H σ ρ F R Q A d=>by
 refine ha B H0 H σ ρ F R _ A (d.bind.imp (fun xs hx d vs H1 F1 s1 f1 p1 A1=>?_) fun e q=>q)
 refine⟨fun _=>True,xs,p1,hn ρ xs hx, ?_⟩
 cases e:m xs with
 |ok x=>rw[e] at d;exact fun v H2 s2 r=>d v H2 (s1.trans s2) ⟨F1,f1,r.1,r.2,A1.grow s2⟩
 |exc q=>exact(hm xs q e).elim
 |bad=>rw[e] at d;exact d.elim
def Pm.calm (m:Pm):Prop:=∀a q,m.out a≠.exc q
theorem Pm.calm_fn {m:Pm} (h:m.calm) (xs:List PV) (q:PX):m.fn xs≠.exc q:=by
 unfold Pm.fn
 by_cases hx:∃a,m.enc a=xs/\m.pre a
 ·rw[dif_pos hx];exact h _ q
 ·rw[dif_neg hx];exact fun z=>by cases z
theorem Zby {C:Addr}{x:Str}{Y:Tys} (hC:ZpM K x C) (hn:Len fa n) (hl:n<=1000) (ha:DAA K (EX1 K E) Γ Γ' ta fa):DS K (EX1 K E) Γ Y (ZnR C (fun _=>E) ta) (fun ρ=>(fa ρ).thenS fun _=>.exc (x,.non)):=fun B H0 H σ ρ F D A d=>by
 refine ha B H0 H σ ρ F [] _ A (d.thenS.imp (fun xs hx d vs H1 F1 s1 f1 p1 A1=>?_) fun e q=>q)
 exact⟨by rw[p1.length,hn ρ xs hx];exact hl,fun ea hea=>d H1 A1.same C ea hC hea⟩
end
theorem PS.nox {X:Cx}{st:Stmt}{t:TS} (h:PS X.nox st t):PS X st t:=fun pins s σ H D I hw =>
 wpAny_mono (h pins s σ H D (I.wish _) hw) (fun _ _ q=>q.unwish) fun _ _ z=>False.elim z
section
variable {K:W.Frag}{EX:PX->Hp->Prop}{Γ Γ':List Md}{te:TE}{f:List PV->Rr PV}
end
section
variable {K:W.Frag}{EX:PX->Hp->Prop}{Γ Γ':List Md}{te:TE}{f:List PV->Rr PV}
end
section
variable {K:W.Frag}{EX:PX->Hp->Prop}{Γ Γs:List Md}{Y Yh:Tys}{tb:(St->XK)->TS}{th:TS}{gb gh:List PV->RS}{C:Addr}{i:Nat}{L:List Str}
end
noncomputable def ZsJ (K:W.Frag) (n:Str):Bool:=match PySem.W.nsIn K mainGlobals n with
 |some (some (.ref C))=>PySem.W.exOk K C&&(PySem.W.kitOne K (.type "NoneType") (.ref C)==some false)&&(PySem.W.kitOne K (.ref C) (.type "ValueError")==some true)
 |_=>false
noncomputable def ZsI (K:W.Frag) (q:Str×Str×Bool):Bool:=match PySem.W.nsIn K mainGlobals q.1,PySem.W.nsIn K mainGlobals q.2.1 with
 |some (some (.ref D)),some (some (.ref C))=>(PySem.W.kitOne K (.ref D) (.ref C)==some q.2.2)&&(PySem.W.exmOne K (.ref D) (.ref C)==some q.2.2)
 |_,_=>false
noncomputable def Zsn (K:W.Frag) (ns:List Str) (ss:List (Str×Str×Bool)):Bool:=(PySem.W.kitOne K (.type "NoneType") (.type "ValueError")==some false)&&(ns.all (ZsJ K)&&ss.all (ZsI K))
section
variable {K:W.Frag}{ns:List Str}{ss:List (Str×Str×Bool)}{n c:Str}
noncomputable def Zo1 (K:W.Frag) (ns:List Str):Bool:=ns.all fun n=>match PySem.W.nsIn K mainGlobals n with
 |some (some (.ref C))=>PySem.W.excIn K C Zsi "ValueError.__new__"
 |_=>false
theorem ZdS (h:Zo1 K ns=true) (hn:n∈ns):∃C,ZpM K n C/\PySem.W.excIn K C Zsi "ValueError.__new__"=true:=by
 have:=Zt1.mp h n hn
 split at this
 ·rename_i C e
  exact⟨C,e,this⟩
 ·cases this
end
theorem WW {X:Cx}:ZpO X (fun _=>E0):=fun _ _ _ _ _ _ _ h=>by obtain⟨_,_,_,_,_,_,q⟩:=h;exact q.elim
section
variable {K:W.Frag}{n:Nat}{m:List PV->Rr PV}{ta:TA}{Γ Γ':List Md}{fa:List PV->Rr (List PV)}
theorem Zn6 (hn:Len fa n) (ha:DAA K X0 Γ Γ' ta fa):DE K X0 Γ Γ' .F (Zf8 (spF K n .F (W1 K) m) (fun _=>E0) ta) (fun ρ=>(fa ρ).bind m):=Zg7 (E:=E0) (W:=W1 K) (fun σ H Q h=>h) (fun e H' h=>h.elim) hn ha
theorem Zps (hn:Len fa n) (ha:DAA K X0 Γ Γ' ta fa):DE K X0 Γ Γ' .P (Zf8 (spF K n .P (W1 K) m) (fun _=>E0) ta) (fun ρ=>(fa ρ).bind m):=Zg6 (E:=E0) (W:=W1 K) (fun σ H Q h=>h) (fun e H' h=>h.elim) hn ha
end
section
variable {K:W.Frag}{H:Hp}
variable {EX:PX->Hp->Prop}{Γ Γ1 Γ2:List Md}{k:Kd}
end
theorem ZnJ:bootBuiltins "range"=some (.type "range"):=by decide +kernel
section
variable {X:Cx}
end
section
variable {K:W.Frag}{EX:PX->Hp->Prop}{Γ Γ1 Γ2:List Md}{ta:TE}{tb:TA}{f:List PV->Rr PV}{fb:List PV->Rr (List PV)}
end
section
variable {K:PySem.W.Frag}{EX:PX->Hp->Prop}{Γ Γ' Γ1 Γ2:List Md}{ta:TA}{fa:List PV->Rr (List PV)}{n:Nat}{W:PX->XK->Hp->Prop}{m:List PV->Rr PV}{E:XK}
theorem Zmo {t:TE} (ht:∀σ H Q,(ta σ H fun vs H1=>spF K n .Z W m vs H1 Q E)->t σ H Q) (hW:∀e H',EX e H'->W e E H') (hn:Len fa n) (ha:DAA K EX Γ Γ' ta fa):DE K EX Γ Γ' .A t (fun ρ=>(fa ρ).bind m):=fun B H0 H σ ρ F R Q A d=>by
 refine ht _ _ _ (ha B H0 H σ ρ F R _ A (d.bind.imp (fun xs hx d vs H1 F1 s1 f1 p1 A1=>?_) fun e q=>q))
 exact⟨fun _=>True,xs,p1,hn ρ xs hx,d.imp (fun x _ d v H2 s2 r=>d v H2 (s1.trans s2) ⟨F1,f1,Rep.any r,A1.grow s2⟩) fun e q H2 s2=>hW e H2 (q H2 (A1.same.trans s2))⟩
theorem Zsa (hn:Len fa n) (ha:DAA K X0 Γ Γ' ta fa):DE K X0 Γ Γ' .A (Zf8 (spF K n .Z (W1 K) m) (fun _=>E0) ta) (fun ρ=>(fa ρ).bind m):=Zmo (E:=E0) (W:=W1 K) (fun σ H Q h=>h) (fun e H' h=>h.elim) hn ha
end
section
variable {X:Cx}{tg:Expr}
end
theorem Zy {ns ms:List Int}:ns.map PV.int=ms.map PV.int ↔ ns=ms:=⟨Ze8,fun h=>by rw[h]⟩
noncomputable def orX (o:Option Str) (x:PV):Rr PV:=match o with
 |none=>.ok x
 |some n=>.exc (n,.non)
theorem WZ {b:PV->List PV->RS}{xs:List PV}{ρ:List PV}{W:RS} (hw:ZfP b xs ρ=W) (I:Nat->List PV->Prop) (h0:I 0 ρ) (h:∀i x ρ,xs[i]?=some x->I i ρ->(b x ρ).good (I (i+1))) :
  ∃ρ',W=.next ρ'/\I xs.length ρ':=by
 obtain⟨ρ',h1,h2⟩:=Zn2 I h0 h
 exact⟨ρ',hw.symm.trans h1,h2⟩
theorem Wz {c:List PV->Rr Bool}{b:List PV->RS}{ρ:List PV}{W:RS} (hw:JX c b ρ=W) (N:Nat) (I:Nat->List PV->Prop) (h0:I 0 ρ) (hs:∀i ρ,i<N->I i ρ->c ρ=.ok true/\(b ρ).good (I (i+1))) (he:∀ρ,I N ρ->c ρ=.ok false) :
  ∃ρ',W=.next ρ'/\I N ρ':=by
 subst hw
 have key:∀m i ρ,N=i+m->I i ρ->∃ρ',Qo c b (m+1) ρ=some (.next ρ')/\I N ρ':=by
  intro m
  induction m with
  |zero =>
   intro i ρ hl hI
   obtain rfl:N=i:=by omega
   refine⟨ρ, ?_,hI⟩
   unfold Qo
   rw[he ρ hI]
  |succ m ih =>
   intro i ρ hl hI
   obtain⟨h1,h2⟩:=hs i ρ (by omega) hI
   obtain⟨ρ',h3,h4⟩:=RS.good_ex h2
   obtain⟨ρ2,h5,h6⟩:=ih (i+1) ρ' (by omega) h4
   refine⟨ρ2, ?_,h6⟩
   unfold Qo
   rw[h1]
   rcases h3 with h3|h3<;>(rw[h3];exact h5)
 obtain⟨ρ',h1,h2⟩:=key N 0 ρ (by omega) h0
 exact⟨ρ',Zeh h1,h2⟩
theorem ZlF {f:PV->Rr PV}{g:Int->Bool}{ns:List Int} (h:∀z∈ns,f (.int z)=.ok (.bl (g z))):ZhX f (ns.map PV.int)=.ok ((ns.map g).map PV.bl):=by
 induction ns with
 |nil=>rfl
 |cons n ns ih =>
  simp only[Ztv,ZhX,h n (by simp),Rr.bind_ok,ih fun z hz=>h z (by simp[hz])]
theorem ZlE {f:PV->Rr PV}{g:Nat->Int}{lo:Int}{n:Nat} (h:∀i,i<n->f (.int (lo+(i:Nat)))=.ok (.int (g i))):ZhX f (ZhW lo n)=.ok (((List.range n).map g).map PV.int):=by
 unfold ZhW
 have:∀l:List Nat,(∀i∈l,i<n)->ZhX f (l.map fun(k:Nat)=>PV.int (lo+(k:Int)))=.ok ((l.map g).map PV.int):=by
  intro l
  induction l with
  |nil=>intro _;rfl
  |cons a l ih =>
   intro hl
   simp only[Ztv,ZhX,h a (hl a (by simp)),Rr.bind_ok,ih fun i hi=>hl i (by simp[hi])]
 exact this _ fun i hi=>Ztu.mp hi
theorem Znl (bs:List Bool):Zq5 [.lst (bs.map PV.bl)]=.ok (.bl (bs.all id)):=by simp only[Zq5,Zmv]
theorem Zm0 {ns:List Int}{p:Int->Prop} [DecidablePred p]:(ns.map fun z=>decide (p z)).all id=decide (∀x∈ns,p x):=by
 rw[Bool.eq_iff_iff,Zt1,decide_eq_true_iff]
 simp
theorem Zri {ns:List Int}{h:Int} (h0:0<=h):Zp8 (ns.map PV.int) none (some h)=(ns.take h.toNat).map PV.int:=by
 unfold Zp8 HT.sIx
 simp only[Zto,Zu2,Nat.sub_zero]
 rw[if_neg (by omega),<- List.map_take]
 congr 1
 rw[List.take_eq_take_iff];omega
theorem ZnF {ns:List Int}{l:Int} (h0:0<=l):Zp8 (ns.map PV.int) (some l) none=(ns.drop l.toNat).map PV.int:=by
 unfold Zp8 HT.sIx
 simp only[Zto]
 rw[if_neg (by omega),<- List.map_drop,<- List.map_take]
 congr 1
 rw[ZtD (by simp)]
 by_cases h:l.toNat<=ns.length
 ·rw[Nat.min_eq_left h]
 ·rw[ZtW (by omega),ZtW (by omega)]
theorem Zqv {i j:Int} (h1:-(10^80)<=i) (h2:i<=10^80) (h3:-(10^80)<=j) (h4:j<=10^80):ZrO (.int i) (.int j)=.ok (.int (i*j)):=ZoS (Zp9 80 80 (by omega) (by omega))
theorem ZmW {k:Int}{z:Int} (h1:-(2^63)<=k) (h2:k<=1000000):Zqu [.int z] (.int k)=.ok (.lst ((List.replicate k.toNat z).map PV.int)):=by
 have:=Zlv (ns:=[z]) (k:=k) (by simp;omega) h1 (by omega)
 simp only[Ztv,ZtK] at this
 rw[this,List.flatten_replicate_singleton]
theorem Zgl {ns:List Int} (h:ns≠[]):pIx (.lst (ns.map PV.int)) (.int (-1))=.ok (.int (ns.getD (ns.length-1) 0)):=by
 have hl:0<ns.length:=Zue.mpr h
 have:atI (ns.map PV.int) (-1)=some (.int (ns.getD (ns.length-1) 0)):=by
  unfold atI ixN
  rw[if_neg (by omega),Zto,if_pos (by omega)]
  show (ns.map PV.int)[(-1+(ns.length:Int)).toNat]?=_
  rw[show (-1+(ns.length:Int)).toNat=ns.length-1 by omega,Ztz,Ztf (by omega),Zte,Ztf (by omega)]
  rfl
 simp only[pIx,this]
theorem Znn {x:PV}:orX none x=.ok x:=rfl
theorem Znm {x:PV}{n:Str}:orX (some n) x=.exc (n,.non):=rfl
theorem Zl6 {ns:List Int}{z:Int} (h:ns.length<1000000):newF (ns.map PV.int++[.int z])=.ok (.lst ((ns++[z]).map PV.int)):=Zjz (ms:=[z]) (by simp only[ZtC,Zvf,Zt8];omega)
theorem Zle {n:Nat}:List.replicate (n+1) PV.non=PV.non::List.replicate n PV.non:=rfl
theorem Zld:List.replicate 0 PV.non=[]:=rfl
section
variable {prog:Program}{w:World}{A:Around}{E:Value->Shared->Prop}{s:Shared}
end
section
variable {X:Cx}{pos:Pos}
end
section
variable {K:W.Frag}{EX:PX->Hp->Prop}{Γ Γ2:List Md}
end
theorem Znf {g:Bool->Bool}:Zr1 g .non=.ok (.bl (g true)):=rfl
theorem Zng {g:Bool->Bool}{xs:List PV}:Zr1 g (.lst xs)=.ok (.bl (g false)):=rfl
theorem ZoX {g:Bool->Bool}{ns:List Int}:Zhk g (.lst (ns.map PV.int)) (.lst [])=.ok (.bl (g (decide (ns=[])))):=Zgm ns []
theorem Zq4 {g:Bool->Bool}:Zhk g (.lst []) (.lst [])=.ok (.bl (g true)):=Zgm [] []
section
variable {X:Cx}{pins:List (Addr×Obj)}{σ:St}{H:Hp}{s:Shared}{h':Heap}
theorem Inv.turned2 {t':Nat}{it e:Addr} (I:Inv X pins σ H s) (k:∀b o,b≠e->b≠it->s.heap.get? b=some o->h'.get? b=some o)
  (f:∀b,b=e\/b=it->H b=none/\b≠X.env.locals/\(b∈X.ex\/X.s₀.heap.objs.size<=b)/\(∀x c,X.env.cells.lookup x=some c->c≠b)/\∀p∈X.pn++pins,p.1≠b):Inv X pins σ H { s with heap:=h',toks:=t' }:=by
 have nit:∀b u,H b=some u->b≠e/\b≠it:=fun b u q=>by
  refine⟨fun z=>?_,fun z=>?_⟩
  ·rw[z,(f e (.inl rfl)).1] at q;cases q
  ·rw[z,(f it (.inr rfl)).1] at q;cases q
 refine I.step (g':=s.gens) (d':=s.drawn) (ch:=[e,it]) (fun b hb=>?_) (fun b o _ _ hc q _=>k b o (fun z=>hc (by simp[z])) (fun z=>hc (by simp[z])) q) (fun b o _ _ hc q _=>⟨o.slots,k b o (fun z=>hc (by simp[z])) (fun z=>hc (by simp[z])) q⟩) (fun _ _ _ _ n=>n)
  (fun b o hc q=>⟨o,k b o (fun z=>hc (by simp[z])) (fun z=>hc (by simp[z])) q⟩) (fun _ _ q=>q) (fun _ _ _ q=>q) (fun b ps q=>⟨#[],by rw[q];simp⟩) (fun m hm=>?_) (fun b u q=>?_) I.bare
 ·obtain⟨g0,g1,g2,g3,g4⟩:=f b (by simpa using hb)
  exact⟨g2,g1,g3,g4⟩
 ·obtain⟨o,es,ep,ho,r⟩:=hm
  exact⟨o,es,ep,k _ o (Ne.symm (f e (.inl rfl)).2.1) (Ne.symm (f it (.inr rfl)).2.1) ho,r⟩
 ·refine(I.hok b u q).stay (fun c v hc q2=>?_) (fun _ q2=>q2) fun _ _ q2=>q2
  have:c≠e/\c≠it:=by
   rcases hc with z|z
   ·rw[z];exact nit b u q
   ·exact nit c _ z
  exact k c v this.1 this.2 q2
theorem Inv.adoptT {D:Addr}{ys:List V}{its:List Value} (I:Inv X pins σ H s) (hn:H D=none) (h1:X.s₀.heap.objs.size<=D) (hL:D≠X.env.locals) (hc:∀x c,X.env.cells.lookup x=some c->c≠D)
  (hp:∀p∈X.pn++pins,p.1≠D) (ho:s.heap.get? D=some { cls:=.type "tuple",data:=.seq its.toArray }) (r:Wy ys its) (hz:ys.length<=sizeLine):Inv X pins σ (upd H D (.tup ys)) s:=by
 refine I.step (h':=s.heap) (g':=s.gens) (d':=s.drawn) (t':=s.toks) (ch:=[D]) (fun b hb=>?_) (fun b o _ _ _ e _=>e) (fun b o _ _ _ e _=>⟨o.slots,e⟩) (fun b o hb _ e=>?_) (fun b o _ e=>⟨o,e⟩)
  (fun b xs e=>?_) (fun b o u e=>?_) (fun b ps e=>⟨#[], ?_⟩) (fun m hm=>hm) (fun b u e=>?_) I.bare
 ·have e:b=D:=by simpa using hb
  subst e
  exact⟨.inr h1,hL,hc,hp⟩
 ·rw[ZQ (by simpa using hb)];exact e
 ·rw[ZQ (Yd e hn)];exact e
 ·rw[ZQ (Yd e hn)];exact e
 ·rw[ZQ (Yd e hn),e];simp
 ·by_cases hb:b=D
  ·subst hb
   rw[YL] at e;cases e
   exact⟨hz,its,r,_,ho,rfl,_,rfl⟩
  ·rw[ZQ hb] at e
   exact(I.hok b u e).stay (fun c v _ q=>q) (fun c q=>by rw[ZQ (Yd q hn)];exact q) fun c xs q=>by rw[ZQ (Yd q hn)];exact q
end
noncomputable def Ite (K:W.Frag) (a:Addr):It:=
 ⟨fun i H=>∃xs x,SqL K H a xs/\xs[i]?=some x,fun i H v H'=>∃t x,v=.ref t/\H t=none/\H'=upd H t (.tup [.int i,x])/\∀xs,SqL K H a xs->xs[i]?=some x,fun i H=>∃xs,SqL K H a xs/\xs.length<=i⟩
theorem ZkE {P:Program}{w:World}{K:W.Frag}{elts:List Expr}{x1:Nat}{tpos:Pos} (a e it:Addr) (hne:e≠it):ZpU P w K (.Tuple elts x1 tpos) (Ite K a) [e,it] e (fun i h=>∃old,IsEnum h e it i old/\h.IsListIter it a i) where
 mem:=by simp
 obj:=fun i h ⟨old,s1,s2⟩ b hb=>by
  rcases Ztt.mp hb with z|z
  ·subst z
   exact⟨_,s1,fun v z=>by
    have z':Data.fields _=Data.cell v:=z
    cases z'⟩
  ·have z:b=it:=by simpa using z
   subst z
   obtain⟨o,e,c,d⟩:=s2
   exact⟨o,e,fun v z=>by rw[d] at z;cases z⟩
 keep:=fun i h h' ⟨old,s1,s2⟩ k=>⟨old,k e (by simp) _ s1,s2.at fun o q=>k it (by simp) o q⟩
 item:=by
  intro X hP hw hK hc i pins s σ H E I hf ⟨old,s1,s2⟩ hg
  subst hP hw hK
  obtain⟨xs,x,hq,hx⟩:=hg
  obtain⟨its,rv,p,hz⟩:=I.list hq
  obtain⟨u,hu,ru⟩:=rv.get hx
  have fz:∀b,b=e\/b=it->H b=none/\b≠X.env.locals/\(b∈X.ex\/X.s₀.heap.objs.size<=b)/\(∀x c,X.env.cells.lookup x=some c->c≠b)/\∀p∈X.pn++pins,p.1≠b:=fun b hb=>by
   obtain⟨f0,f1,f2,f3,f4,f5⟩:=hf b (by simpa using hb)
   exact⟨f0,f1,f3,f4,f5⟩
  refine wpAny_pyNext_enum_item s1 s2 p.isList (x:=u) (by simpa using hu) hne fun h1 e1 i1 t1 z1 k1=>?_
  refine⟨_,rfl, ?_⟩
  refine wpAny_letOwnedTupleGo_enum e1 fun h2 e2 sb2=>?_
  have I2:Inv X pins σ H { s with heap:=h2,toks:=s.toks+1 }:=I.turned2 (fun b o n1 n2 q=>sb2.extBut b o n1 (k1 b o n1 n2 q)) fz
  have hfr:=I.hok.fresh (Ztj s.heap.objs.size)
  have het:s.heap.objs.size≠e:=Zu4 (Heap.lt_size s1)
  have fsz:=I.fpOk (H':=H) (Ztj s.heap.objs.size) hfr
  obtain⟨g0,g1,g2,g3,g4,g5⟩:=fsz
  have I3:=I2.adoptT (D:=s.heap.objs.size) (ys:=[.int i,x]) (its:=[.int i s.toks,u]) hfr I.sz g1 g4 g5 (sb2.extBut _ _ het t1) (.cons ⟨_,rfl⟩ (.cons ru .nil)) (show 2<=sizeLine by decide)
  refine⟨.ref s.heap.objs.size,_,I3,rfl,⟨_,x,rfl,hfr,rfl,fun ys hy=>by rw[I.list_inj hy hq];exact hx⟩,⟨u,by
   have:((i+1:Nat):Int)=(i:Int)+1:=by omega
   rw[this];exact e2,i1.extBut sb2.extBut (Ne.symm hne)⟩,fun b hb=>?_⟩
  have hbn:b≠s.heap.objs.size:=by
   rcases Ztt.mp hb with z|z
   ·rw[z];exact het.symm
   ·have z:b=it:=by simpa using z
    obtain⟨o,q,_⟩:=s2
    rw[z];exact Zt0 (Heap.lt_size q)
  rw[ZQ hbn]
  exact(hf b hb).1
 done:=by
  intro X hP hw hK hc i pins s σ H E I hf ⟨old,s1,s2⟩ hg
  subst hP hw hK
  obtain⟨xs,hq,hx⟩:=hg
  obtain⟨its,rv,p,hz⟩:=I.list hq
  obtain⟨f0,f1,f2,f3,f4,f5⟩:=hf it (by simp)
  have hl:=rv.length
  exact wpAny_pyNext_enum_end (I.ok.hd hc) s1 s2 p.isList (by simp;omega) fun h' eb=>⟨rfl,I.turned (t':=s.toks) (fun b o hb q=>eb b o hb q) f0 f1 f3 f4 f5⟩
 self:=fun _ _ _ _ _ ⟨old,st,_⟩ h=>wpAny_pyIter_enum st h
section
variable {X:Cx}{elts:List Expr}{x1:Nat}{tpos:Pos}
noncomputable def Zny (K:W.Frag) (tl:TA):TI:=fun σ H R=>tl σ H fun vs H1=>∃a,vs=[.ref a]/\(∃xs,SqL K H1 a xs)/\R (Ite K a) H1
theorem ZhM:bootBuiltins "enumerate"=some (.type "enumerate"):=by decide +kernel
theorem ZoJ {l:Expr}{tl:TA}{p pos:Pos} (hg:Gl X "enumerate") (hm:X.mg "enumerate"=none) (ha:PA X [l] tl) (hs:starEach [l] X.env=[(false,eval l X.env)]:=by rfl):PI X (.Tuple elts x1 tpos) (.Call (.Name "enumerate" p) [l] [] pos) (Zny X.K tl):=by
 intro pins s σ H R I h
 refine Call_ (ZfJ I hg hm ZhM (PyProof.Rows.callWith_type1 (thn (ha pos pins s σ H _ I h) fun us s1 ⟨vs,H1,I1,r1,q1⟩=>?_) hs rfl))
 obtain⟨a,e,⟨xs,hq⟩,q⟩:=q1
 subst e
 cases r1 with
 |cons r rr =>
  cases rr
  cases r
  obtain⟨its,rv,pl,hz⟩:=I1.list hq
  refine call_enumerate_list pl.isList fun h' e1 i1 z1 k1=>?_
  refine wpAny_pyIter_enum e1 ?_
  have I2:Inv X pins σ H1 { s1 with heap:=h' }:=I1.kept (t':=s1.toks) k1
  refine⟨s1.heap.objs.size+1,[s1.heap.objs.size+1,s1.heap.objs.size],_,_,H1,rfl,I2,ZkE a _ _ (Nat.succ_ne_self _),⟨_,e1,i1⟩,fun b hb=>?_,q⟩
  have hb':s1.heap.objs.size<=b:=by
   rcases Ztt.mp hb with z|z
   ·rw[z];exact Zvc _
   ·have z:b=s1.heap.objs.size:=by simpa using z
    rw[z];exact Ztj _
  exact I1.fpOk hb' (I1.hok.fresh hb')
theorem Zcj {K:W.Frag}{l:Expr}{tl:TA}{p pos:Pos} (hg:Gl X "enumerate") (hm:X.mg "enumerate"=none) (ha:PA X [l] tl) (hs:starEach [l] X.env=[(false,eval l X.env)]:=by rfl) (e:X.K=K:=by rfl):PI X (.Tuple elts x1 tpos) (.Call (.Name "enumerate" p) [l] [] pos) (Zny K tl):=by subst e;exact ZoJ hg hm ha hs
end
noncomputable def Zb3 (xs:List PV):List PV:=xs.mapIdx fun i x=>.tup [.int (i:Nat),x]
section
variable {K:W.Frag}{H:Hp}{EX:PX->Hp->Prop}{Γ Γ':List Md}{te:TE}{f:List PV->Rr PV}
theorem Zj6 {a:Addr}{xs:List PV}{S:Addr->Prop} (h:Rep K H S (.lst xs) (.ref a)):ItP K S (Ite K a) (Zb3 xs) H:=by
 obtain⟨a',vs,e,hn,hr⟩:=h
 cases e
 intro i
 constructor
 ·intro x hx
  unfold Zb3 at hx
  rw[Zu8] at hx
  cases hxi:xs[i]? with
  |none=>rw[hxi] at hx;cases hx
  |some y =>
   rw[hxi] at hx
   cases hx
   obtain⟨u,e1,e2⟩:=hr.get hxi
   refine⟨⟨vs,u,Qg hn,e1⟩,fun v H' ⟨t,z,e3,e4,e5,e6⟩=>?_⟩
   have:=e6 vs (Qg hn)
   rw[e1] at this;cases this
   subst e3 e5
   have sm:ZF H (upd H t (.tup [.int i,u])):=ZF.upd (ZF.refl H) e4
   exact⟨sm,t,_,rfl,⟨YL,trivial⟩,⟨_,_,rfl,rfl,_,_,rfl,e2.same sm,rfl⟩⟩
 ·intro hx
  unfold Zb3 at hx
  rw[Zu8] at hx
  have:xs[i]?=none:=by cases hxi:xs[i]? with
   |none=>rfl
   |some y=>rw[hxi] at hx;cases hx
  exact⟨vs,Qg hn,by rw[hr.length];exact ZtN.mp this⟩
noncomputable def ZoZ (xs:List PV):Rr (List PV):=match xs with
 |[.lst ys]=>.ok (Zb3 ys)
 |_=>.bad
theorem Zi5 {ta:TA}{fa:List PV->Rr (List PV)} (ha:DAZ K EX Γ Γ' ta fa):DI K EX Γ Γ' (Zny K ta) (fun ρ=>(fa ρ).bind ZoZ):=fun B H0 H σ ρ F R Q A d=>by
 refine ha B H0 H σ ρ F R _ A (d.bind.imp (fun xs _ d vs H1 F1 s1 f1 p1 A1=>?_) fun e q=>q)
 unfold ZoZ at d
 split at d
 ·rename_i ys
  obtain⟨v,rfl,h1⟩:=Zfk p1
  obtain⟨a,us,rfl,hn,hr⟩:=id h1
  exact⟨a,rfl,⟨us,Qg hn⟩,d _ H1 F1 s1 f1 A1 fun H2 F2 h=>Zj6 (h1.frm h A1)⟩
 ·exact d.elim
noncomputable def Zjr (xs:List PV):Rr (List PV):=match xs with
 |[.lst ys]=>if PV.flats ys=true then .ok (Zb3 ys) else .bad
 |_=>.bad
theorem Zkm {ys:List PV} (h:PV.flats ys=true):PV.flats (Zb3 ys)=true:=by
 have key:∀(ys:List PV) (g:Nat->Int),PV.flats ys=true->PV.flats (ys.mapIdx fun i x=>PV.tup [.int (g i),x])=true:=by
  intro ys
  induction ys with
  |nil=>intro g _;rfl
  |cons y ys ih =>
   intro g hf
   simp only[PV.flats,Bool.and_eq_true] at hf
   rw[List.mapIdx_cons]
   simp only[PV.flats,PV.flat,hf.1,Bool.and_self,Bool.true_and]
   exact ih _ hf.2
 exact key ys _ h
theorem ZjC {ta:TA}{fa:List PV->Rr (List PV)} (ha:DAA K EX Γ Γ' ta fa):DIc K EX Γ Γ' (Zny K ta) (fun ρ=>(fa ρ).bind Zjr):=fun B H0 H σ ρ F R Q A d=>by
 refine ha B H0 H σ ρ F R _ A (d.bind.imp (fun xs _ d vs H1 F1 s1 f1 p1 A1=>?_) fun e q=>q)
 have d':=d
 unfold Zjr at d'
 split at d'
 next ys _ =>
  by_cases hf:PV.flats ys=true
  ·simp only[hf,if_true] at d'
   obtain⟨v,rfl,h1⟩:=Zfk p1
   obtain⟨a,us,rfl,hn,hr⟩:=id h1
   exact⟨a,rfl,⟨us,Qg (S:=fun _=>True) hn⟩,d' _ H1 F1 s1 f1 A1 fun H2 F2 s2 _=>ItP.flat (Zkm hf) (Zj6 (h1.same s2))⟩
  ·simp only[hf] at d';exact d'.elim
 next=>exact d'.elim
theorem Zkd {ns:List Int}:Zjr [.lst (ns.map PV.int)]=.ok (Zb3 (ns.map PV.int)):=by unfold Zjr;simp only[Zcu,if_true]
theorem Znk {ys:List PV}:ZoZ [.lst ys]=.ok (Zb3 ys):=rfl
theorem Zn4 {ns:List Int}{i:Nat}{x:PV} (h:(Zb3 (ns.map PV.int))[i]?=some x):i<ns.length/\x=.tup [.int i,.int (ns.getD i 0)]:=by
 unfold Zb3 at h
 rw[Zu8,Ztz] at h
 by_cases hi:i<ns.length
 ·rw[Ztf hi] at h
  cases h
  exact⟨hi,by rw[Zte,Ztf hi];rfl⟩
 ·rw[Zt2 (by omega)] at h;cases h
theorem Zas (xs:List PV):(Zb3 xs).length=xs.length:=by simp[Zb3]
end
section
variable {prog:Program}{w:World}{A:Around}{E:Value->Shared->Prop}{R:Result->Shared->Prop}{s:Shared}
theorem ZbW {elt target iter:Expr}{ifs:List Expr}{scope:Scope}{pos:Pos}{it acc:Value}{env:Env} (I:Nat->Shared->Prop)
  (turn:∀n s,I n s->wpAny (model prog w) A (pyNext it) (fun r s₁=>match r with
   |none=>R (.ok .next) s₁
   |some v=>wpAny (model prog w) A (letOwnedTupleGo target it v) (fun _ s₁'=>wpAny (model prog w) A (assign target env v) (fun _ s₂ =>
     wpAny (model prog w) A (forIn ifs true fun c r=>if r=true then do let ok <- isTrue c env (eval c env);pure (ForInStep.yield ok) else pure (ForInStep.yield r)) (fun ok s₃ =>
      if ok=true then wpAny (model prog w) A (eval elt env) (fun x s₄ =>
       wpAny (model prog w) A (call (.builtin "list.append") [acc,x]) (fun _ s₅=>∃m,m<n/\I m s₅) (notedBy (model prog w) A env fun e s'=>R (.error e) s') s₄) (notedBy (model prog w) A env fun e s'=>R (.error e) s') s₃
      else ∃m,m<n/\I m s₃) (notedBy (model prog w) A env fun e s'=>R (.error e) s') s₂) (notedBy (model prog w) A env fun e s'=>R (.error e) s') s₁') (notedBy (model prog w) A env fun e s'=>R (.error e) s') s₁) (notedBy (model prog w) A env fun e s'=>R (.error e) s') s)
  (n:Nat) (h:I n s) :
  codeAny (model prog w) A (.compLoop (.ListComp elt [⟨target,iter,ifs,0⟩] scope pos) 0 it acc env) R s:=by
 refine codeAny_loop rfl I (fun n s hI=>?_) n h
 show wpAny _ A ((compTurn (.ListComp elt [⟨target,iter,ifs,0⟩] scope pos) 0 it acc env).onRaise (fun x=>do noteFrame x env;theTreesLotGoes x)) _ _ s
 refine wpAny_noted ?_
 rw[compTurn_list]
 refine wpAny_bind (wpAny_standAt (wpAny_bind (wpAny_mono (turn n s hI) (fun r s₁ h₁=>?_) fun _ _ h'=>h')))
 cases r with
 |none=>exact wpAny_pure h₁
 |some v =>
  refine wpAny_bind (wpAny_mono h₁ (fun _ s₁' h₁'=>?_) fun _ _ h'=>h')
  refine wpAny_bind (wpAny_mono h₁' (fun _ s₂ h₂=>wpAny_bind (wpAny_mono h₂ (fun ok s₃ h₃=>?_) fun _ _ h'=>h')) fun _ _ h'=>h')
  cases ok with
  |false=>exact wpAny_pure ⟨rfl,h₃⟩
  |true =>
   exact wpAny_bind (wpAny_bind (wpAny_mono h₃ (fun x s₄ h₄=>wpAny_bind (wpAny_mono h₄ (fun _ s₅ h₅=>wpAny_pure (wpAny_pure ⟨rfl,h₅⟩)) fun _ _ h'=>h')) fun _ _ h'=>h'))
end
noncomputable def Zgv (xs:List Str) (y:Str):Str:=if xs.contains y then "" else y
noncomputable def Zcc (X:Cx) (scope:Scope) (xs:List Str) (C:Addr) (ex:List Addr) (s₂:Shared) (H₂:Hp):Cx:=
 { X with N:=X.N.map (Zgv xs)++xs,s₀:=s₂,H₀:=H₂,env:=compEnvC scope (ZhG scope X.env) C X.env,outer:=X.stack,ex:=ex,fn:=fun _=>false,pn:=[],xe:=fun _ _=>False }
noncomputable abbrev TB:=V->Hp->List V->Prop
noncomputable def tB1:TB:=fun x _ vs=>vs=[x]
noncomputable def tB2 (K:W.Frag):TB:=fun x H vs=>∃t a b,x=.ref t/\SqT K H t [a,b]/\vs=[a,b]
def PB (X:Cx) (scope:Scope) (xs:List Str) (tg:Expr) (Bd:TB):Prop:=∀C s₂ H₂ ex,∀(pins:List (Addr×Obj)) (s:Shared) (σ σx:St) (H:Hp) (x:V) (u:Value) (vs:List V) (E:Value->Shared->Prop),σ.length=X.N.length->σx.length=xs.length ->
 Inv (Zcc X scope xs C ex s₂ H₂) pins (σ++σx) H s->U1 x u->Bd x H vs->wpAny (model X.prog X.w) X.A (assign tg (Zcc X scope xs C ex s₂ H₂).env u) (fun _ s'=>Inv (Zcc X scope xs C ex s₂ H₂) pins (σ++vs.map some) H s') E s
def PCi (X:Cx) (ifs:List Expr) (t:TT):Prop:=∀(pins:List (Addr×Obj)) (s:Shared) (σ:St) (H:Hp) (Q:Bool->Hp->Prop) (E:Value->Shared->Prop),Inv X pins σ H s->t σ H Q ->
 wpAny (model X.prog X.w) X.A (forIn ifs true fun c r=>if r=true then do let ok <- isTrue c X.env (eval c X.env);pure (ForInStep.yield ok) else pure (ForInStep.yield r)) (TP X pins σ Q) E s
noncomputable def Zso:TT:=fun _ H Q=>Q true H
theorem Zhg {X:Cx}:PCi X [] Zso:=fun pins s σ H Q E I h=>wpAny_tests_nil ⟨_,I,h⟩
def ZkP (σ:St) (Bd:TB) (tt:TT) (te:TE) (J:It) (H1:Hp) (Q:VK):Prop:=∃W:Nat->Nat->List V->Hp->Prop,(∃m,W 0 m [] H1)/\∀i m ys H2,W i m ys H2->ys.length<=sizeLine /\
 ((J.stop i H2/\∀p,H2 p=none->Q (.ref p) (upd H2 p (.lst ys))) \/
  (J.go i H2/\∃N:List V->Hp->Prop,(∀ys' H',N ys' H'->∃m',m'<m/\W (i+1) m' ys' H')/\∀x H3,J.yld i H2 x H3->∃vs,Bd x H3 vs/\tt (σ++vs.map some) H3 fun b H4=>if b=true then te (σ++vs.map some) H4 fun y H5=>N (ys++[y]) H5 else N ys H4))
noncomputable def Zf7 (wi:TI) (Bd:TB) (tt:TT) (te:TE):TE:=fun σ H Q=>wi σ H fun J H1=>ZkP σ Bd tt te J H1 Q
noncomputable def Zav (N:List Str) (sc scope:Scope) (xs:List Str):Bool:=xs.all (fun x=>ZeS [] sc scope x)&&decide (N.map (Zgv xs)++xs).Nodup&&!xs.isEmpty&&(N.all fun y=>xs.contains y || !(scope.names.lookup y==some .local))&&(scope.names.lookup (Str.ofString "")==none)
structure CkN (N:List Str) (sc scope:Scope) (xs:List Str):Prop where
 scs:∀x∈xs,Zbn [] sc scope x
 nd:(N.map (Zgv xs)++xs).Nodup
 ex:∃x,x∈xs
 noN:∀y∈N,y ∉ xs->scope.names.lookup y≠some .local
 noE:scope.names.lookup (Str.ofString "")=none
theorem Zau {N:List Str}{sc scope:Scope}{xs:List Str} (h:Zav N sc scope xs=true):CkN N sc scope xs:=by
 unfold Zav at h
 simp only[Bool.and_eq_true,Zt1,decide_eq_true_eq,Bool.not_eq_true',Bool.or_eq_true,beq_iff_eq,beq_eq_false_iff_ne] at h
 obtain⟨⟨⟨⟨h1,h2⟩,h3⟩,h4⟩,h5⟩:=h
 refine⟨fun x hx=>Zbn.of (h1 x hx),h2, ?_,fun y hy hn=>?_,h5⟩
 ·cases xs with
  |nil=>simp at h3
  |cons a l=>exact⟨a,by simp⟩
 ·rcases h4 y hy with z|z
  ·exact absurd (ZuR.mp z) hn
  ·exact z
section
variable {X:Cx}{pins:List (Addr×Obj)}{σ:St}{s₂:Shared}{H₂:Hp}{scope:Scope}{x:Str}{xs:List Str}{tg elt iter:Expr}{ifs:List Expr}{pos:Pos}{Bd:TB}{tt:TT}{te:TE}{J:It}{fp:List Addr}{it:Addr}{tn:Nat->Heap->Prop}
theorem Vt {N0:List Str} (sc:Zbn N0 X.env.scope scope x) (ok:X.Ok) {y:Str}{c:Addr} (h:(ZhG scope X.env).lookup y=some c):X.env.cells.lookup y=some c:=by
 have hm:=PySem.mem_of_lookup h
 unfold ZhG at hm
 obtain⟨p,hp,e⟩:=ZtA.mp hm
 have hp':=Zuf.mp (ZuV.mp hp)
 obtain⟨e1,e2⟩:=Prod.mk.inj e
 have hk:=sc.fr p hp'.1 (beq_iff_eq.mp hp'.2)
 obtain⟨c',hc'⟩:=ok.has p.1 hk
 rw[hc'] at e2
 rw[<- e1,hc']
 exact congrArg some e2
theorem ZpD {N0:List Str} (I:Inv X pins σ H₂ s₂) (sc:Zbn N0 X.env.scope scope x) {C:Addr} (hC:s₂.heap.objs.size<=C) (ff:∀b∈fp,Zk9 X pins H₂ b) (fo:∀b∈fp,∃o,s₂.heap.get? b=some o):(Zcc X scope xs C fp s₂ H₂).Ok where
 mod:=I.ok.mod
 kind:=sc.kind
 glob:=I.ok.glob
 blt:=I.ok.blt
 above:=hC
 inj:=fun y z c h1 h2=>I.ok.inj y z c (Vt sc I.ok h1) (Vt sc I.ok h2)
 has:=fun y hy=>by
  have hy':(relabel scope X.env).names.lookup y=some .cell\/(relabel scope X.env).names.lookup y=some .free:=hy
  have hf:scope.names.lookup y=some .free:=by
   rcases hy' with z|z
   ·exact(ZJ sc.nc z).2 (.inl rfl)
   ·exact(ZJ sc.nc z).2 (.inr rfl)
  exact Zed hf
 cab:=fun y c h=>by cases h
 hd:=I.ok.hd
 frames:=I.ok.frames
 stk:=.inl rfl
 exf:=fun b hb=>by
  obtain⟨f0,f1,f2,f3,f4,f5⟩:=ff b hb
  obtain⟨o,ho⟩:=fo b hb
  exact⟨Zt0 (Ztw (Heap.lt_size ho) hC),fun y c h=>f4 y c (Vt sc I.ok h)⟩
 bs:=I.bs
 bsz:=Zt5 I.ok.bsz I.sz
 noex:=fun b o e hb=>by
  obtain⟨f0,f1,f2,f3,f4,f5⟩:=ff b hb
  rcases f3 with z|z
  ·exact I.ok.noex b o e z
  ·exact absurd (Ztw (Heap.lt_size e) (Zt5 I.ok.bsz z)) (ZtU _)
 exfs:=fun b hb z=>by
  obtain⟨f0,f1,f2,f3,f4,f5⟩:=ff b hb
  rcases Ztt.mp (I.stkSub b z) with e|e
  ·exact f1 e
  ·exact f2 e
 funs:=I.stack
 frf:=I.stkFree
theorem ZhE {E:Value->Shared->Prop}{Q:VK}{RR:Value->Addr->Result->Shared->Prop} (I:Inv X pins σ H₂ s₂) (ck:CkN X.N X.env.scope scope xs) (hx:x∈xs) (hNd:X.N.Nodup) (hc:X.calm=true)
  (T:ZpU X.prog X.w X.K tg J fp it tn) (st:tn 0 s₂.heap) (ff:∀b∈fp,Zk9 X pins H₂ b) (hw:ZkP σ Bd tt te J H₂ Q)
  (hb:PB X scope xs tg Bd) (ht:∀C s₂ H₂ ex,PCi (Zcc X scope xs C ex s₂ H₂) ifs tt) (he:∀C s₂ H₂ ex,PE (Zcc X scope xs C ex s₂ H₂) elt te)
  (hvs:∀x H vs,Bd x H vs->vs.length=xs.length)
  (hRR:∀D C s' H' m',s₂.heap.objs.size<=C->Inv X pins σ H' s'->s'.heap.Ns C m'->H' C=none->Q (.ref D) H'->RR (.ref D) C (.ok .next) s') :
  wpAny (model X.prog X.w) X.A (newList []) (fun acc s₃=>wpAny (model X.prog X.w) X.A (newFunctionEnv scope X.env.globals (ZhG scope X.env) [] X.env.qual none .none (some X.env)) (fun cenv s₄ =>
   codeAny (model X.prog X.w) X.A (.compStart (.ListComp elt [⟨tg,iter,ifs,0⟩] scope pos) 0 (.ref it) acc { cenv with scope:=relabel scope X.env }) (RR acc cenv.locals) s₄) E s₃) E s₂:=by
 have sc:=ck.scs x hx
 refine wpAny_newObj_type (wpAny_newFunctionEnv sc.nc (by intro y hy;simp at hy) (fun h₁ hns₁ hsb₁=>?_) sc.kind)
 dsimp only at hns₁ hsb₁ ⊢
 generalize hP2:s₂.heap.push { cls:=.type "list",dict:=none,data:=.seq ([]:List Value).toArray }=P2 at hns₁ hsb₁ ⊢
 have hCs:P2.objs.size=s₂.heap.objs.size+1:=by rw[<- hP2,Heap.size_push]
 have hCle:s₂.heap.objs.size<=P2.objs.size:=by rw[hCs];exact Zvc _
 have hDC:s₂.heap.objs.size≠P2.objs.size:=by rw[hCs];exact Zt0 (Zu0 _)
 generalize hCe:P2.objs.size=C at hns₁ hsb₁ hCs hCle hDC ⊢
 generalize hDe:s₂.heap.objs.size=D at hCs hCle hDC ⊢
 have fo:∀b∈fp,∃o,s₂.heap.get? b=some o:=fun b hb=>let ⟨o,e,_⟩:=T.obj _ _ st b hb;⟨o,e⟩
 have flt:∀b∈fp,b<D:=fun b hb=>by obtain⟨o,e⟩:=fo b hb;rw[<- hDe];exact Heap.lt_size e
 have old:∀b o,s₂.heap.get? b=some o->h₁.get? b=some o:=fun b o e=>by
  have hb:=Heap.lt_size e
  exact hsb₁.extBut b o (Zt0 (by rw[hCs];exact Zup (hDe▸hb))) (Heap.get?_push_of_some _ (hP2▸Heap.get?_push_of_some _ e))
 have hacc:h₁.get? D=some { cls:=.type "list",data:=.seq ([]:List Value).toArray 0 }:=hsb₁.extBut _ _ hDC (Heap.get?_push_of_some _ (hP2▸hDe▸Heap.get?_push_size _ rfl))
 have okB:=ZpD (x:=x) (xs:=xs) (C:=C) I sc (by rw[hDe];exact hCle) ff fo
 have hfreshD:H₂ D=none:=I.hok.fresh (by rw[hDe];exact Ztj _)
 have hfreshC:H₂ C=none:=I.hok.fresh (by rw[hDe];exact hCle)
 have I0:Inv (Zcc X scope xs C fp s₂ H₂) [(D,{ cls:=.type "list",data:=.seq ([]:List Value).toArray 0 })] (σ++List.replicate xs.length none) H₂ { s₂ with heap:=h₁,toks:=s₂.toks+([]:List (Str×Value)).length }:=by
  refine⟨okB,rfl,I.bare,Un.kept old,⟨_,hns₁,fun i y v e1 e2 e3=>?_⟩,fun y c e=>?_,hfreshC,fun y c e=>I.freeC y c (Vt sc I.ok e),fun p hp=>?_,I.hok.kept old,by simp[Zcc,I.len]⟩
  ·have hi:i<σ.length:=by
    by_cases hi:i<σ.length
    ·exact hi
    ·rw[Ztm (by omega)] at e2
     rw[Zun] at e2
     split at e2<;>cases e2
   rw[Ztl hi] at e2
   have e1':(X.N.map (Zgv xs)++xs)[i]?=some y:=e1
   rw[Ztl (by rw[Zto,<- I.len];exact hi),Ztz] at e1'
   have lk:scope.names.lookup y=some .local\/scope.names.lookup y=some .free:=by
    have e3':(relabel scope X.env).names.lookup y=some .local\/(relabel scope X.env).names.lookup y=some .cell\/(relabel scope X.env).names.lookup y=some .free:=e3
    rcases e3' with z|z|z
    ·exact .inl ((ZJ sc.nc z).1 rfl)
    ·exact .inr ((ZJ sc.nc z).2 (.inl rfl))
    ·exact .inr ((ZJ sc.nc z).2 (.inr rfl))
   obtain⟨y0,ey0,ey⟩:∃y0,X.N[i]?=some y0/\Zgv xs y0=y:=by
    cases q:X.N[i]? with
    |none=>rw[q] at e1';cases e1'
    |some y0=>rw[q] at e1';exact⟨y0,rfl,Option.some.inj e1'⟩
   have hy0:y0 ∉ xs:=fun z=>by
    have:y=Str.ofString "":=by rw[<- ey];unfold Zgv;rw[if_pos (ZuR.mpr z)]
    rw[this,ck.noE] at lk
    rcases lk with z|z<;>cases z
   have ey2:y0=y:=by rw[<- ey];unfold Zgv;rw[if_neg (fun z=>hy0 (ZuR.mp z))]
   rw[ey2] at ey0 hy0
   have e1':X.N[i]?=some y:=ey0
   have yN:y∈X.N:=Ztg e1'
   have e3':(relabel scope X.env).names.lookup y=some .local\/(relabel scope X.env).names.lookup y=some .cell\/(relabel scope X.env).names.lookup y=some .free:=e3
   have hcf:(relabel scope X.env).names.lookup y=some .cell\/(relabel scope X.env).names.lookup y=some .free:=by
    rcases e3' with z|z
    ·exact absurd ((ZJ sc.nc z).1 rfl) (ck.noN y yN hy0)
    ·exact z
   have hfree:scope.names.lookup y=some .free:=by
    rcases hcf with z|z
    ·exact(ZJ sc.nc z).2 (.inl rfl)
    ·exact(ZJ sc.nc z).2 (.inr rfl)
   obtain⟨c,hcl⟩:=Zed (X:=X) hfree
   have hcx:=Vt sc I.ok hcl
   have hvis:=sc.fr _ (PySem.mem_of_lookup hfree) rfl
   obtain⟨m,hn,hl⟩:=I.loc
   obtain⟨u,ru,hlook⟩:=hl i y v e1' e2 (.inr hvis)
   refine⟨u,ru,.inr ⟨hcf,c,hcl, ?_⟩⟩
   rcases hlook with ⟨k,_⟩|⟨k,c',ec,hcell⟩
   ·have k':X.env.scope.names.lookup y=some .local:=k
    have hv':X.env.scope.names.lookup y=some .cell\/X.env.scope.names.lookup y=some .free:=hvis
    rw[k'] at hv'
    rcases hv' with z|z<;>cases z
   ·rw[hcx] at ec;cases ec
    obtain⟨o,ho,hd⟩:=hcell
    exact⟨o,old _ _ ho,hd⟩
  ·obtain⟨v,o,ho,hd⟩:=I.cell y c (Vt sc I.ok e)
   exact⟨v,o,old _ _ ho,hd⟩
  ·have e:p=(D,{ cls:=.type "list",data:=.seq ([]:List Value).toArray 0 }):=by simpa[Zcc] using hp
   subst e
   exact⟨hacc,hfreshD,hDC,(fun z=>by
    rcases Ztt.mp (I.stkSub D z) with e|e
    ·exact absurd I.lt (by rw[<- e,hDe];exact ZtU _)
    ·exact I.nofs (by rw[hDe];exact Ztj _) e),fun v z=>nomatch z⟩
 obtain⟨W,⟨m0,w0⟩,turn⟩:=hw
 have fpB:∀{H':Hp}{o:Obj},(∀b∈fp,H' b=none)->∀b∈fp,Zk9 (Zcc X scope xs C fp s₂ H₂) [(D,o)] H' b:=fun {H' o} hn b hb=>by
  obtain⟨f0,f1,f2,f3,f4,f5⟩:=ff b hb
  obtain⟨g1,g2⟩:=okB.exf b hb
  exact⟨hn b hb,g1,okB.exfs b hb,.inl hb,g2,fun p hp=>by
   have e:p=(D,o):=by simpa[Zcc] using hp
   subst e
   exact(Zt0 (flt b hb)).symm⟩
 have hσ:σ.length=X.N.length:=I.len
 have loop:∀s₃:Shared,s₃={ s₂ with heap:=h₁,toks:=s₂.toks+([]:List (Str×Value)).length } ->
   codeAny (model X.prog X.w) X.A (.compLoop (.ListComp elt [⟨tg,iter,ifs,0⟩] scope pos) 0 (.ref it) (.ref D) (compEnvC scope (ZhG scope X.env) C X.env)) (RR (.ref D) C) s₃:=by
  rintro s₃ rfl
  refine ZbW
   (fun n s'=>∃i ys its k σx H',σx.length=xs.length/\Inv (Zcc X scope xs C fp s₂ H₂) [(D,{ cls:=.type "list",data:=.seq (List.toArray its) k })] (σ++σx) H' s'/\tn i s'.heap/\(∀b∈fp,H' b=none)/\Wy ys its/\W i n ys H') ?_ m0
   ⟨0,[],[],0,List.replicate xs.length none,H₂,by simp,I0,T.keep _ _ _ st (fun b hb o e=>old b o e),fun b hb=>(ff b hb).1,.nil,w0⟩
  rintro n s' ⟨i,ys,its,k,σx,H',hσx,I',st',fr',rv,w'⟩
  obtain⟨hz,hcase⟩:=turn i n ys H' w'
  have hpinD:=I'.pin (D,{ cls:=.type "list",data:=.seq (List.toArray its) k }) (by simp[Zcc])
  rcases hcase with ⟨stop,q⟩|⟨go,N,hN,step⟩
  ·refine thn (T.done (Zcc X scope xs C fp s₂ H₂) rfl rfl rfl hc i _ s' _ H' _ I' (fpB fr') st' stop) fun r s4 ⟨hr,I4⟩=>?_
   subst hr
   have pD:=I4.pin (D,{ cls:=.type "list",data:=.seq (List.toArray its) k }) (by simp[Zcc])
   obtain⟨m4,hn4,_⟩:=I4.loc
   have IX:Inv X pins σ H' s4:=I.call' I4.os I4.base I4.hok I4.bare fun b hb=>by
    obtain⟨f0,f1,f2,f3,f4,f5⟩:=ff b hb
    exact⟨f3,f1,f4,f5⟩
   have IX2:=IX.adopt (D:=D) (ys:=ys) (its:=its) (n:=k) hpinD.2.1 (by rw[<- hDe];exact I.sz) (by rw[<- hDe];exact Zu4 I.lt)
    (fun y c e z=>by
     obtain⟨v,o,ho,hd⟩:=I.cell y c e
     have:=Heap.lt_size ho
     rw[hDe,z] at this
     exact ZtU _ this)
    (fun p hp z=>by
     have:=Heap.lt_size (I.pin p hp).1
     rw[hDe,z] at this
     exact ZtU _ this) pD.1 rv hz
   refine hRR D C s4 _ m4 (by rw[hDe];exact hCle) IX2 hn4 ?_ (q D hpinD.2.1)
   rw[ZQ (Ne.symm hDC)]
   exact I4.free
  ·refine thn (T.item (Zcc X scope xs C fp s₂ H₂) rfl rfl rfl hc i _ s' _ H' _ I' (fpB fr') st' go) fun r s4 ⟨u,hr,h4⟩=>?_
   subst hr
   refine thn h4 fun _ s5 ⟨y,H5,I5,r5,y5,st5,fr5⟩=>?_
   have I5':=I5.pinned (fpB fr5) (T.obj _ _ st5)
   obtain⟨vs,bd5,stp⟩:=step y H5 y5
   refine thn (hb C s₂ H₂ fp _ s5 σ σx H5 y u vs _ hσ hσx I5' r5 bd5) fun _ s6 I6=>?_
   refine thn (ht C s₂ H₂ fp _ s6 _ H5 _ _ I6 stp) fun ok s6' hok=>?_
   obtain⟨H6',I6',q6'⟩:=hok
   have hvl:=hvs _ _ _ bd5
   have stay:∀{s9:Shared}{H9:Hp}{ys':List V}{its':List Value}{k':Nat},True:=fun {_ _ _ _ _}=>trivial
   cases ok with
   |false =>
    rw[if_neg Bool.false_ne_true] at q6' ⊢
    have pD6:=I6'.pin (D,{ cls:=.type "list",data:=.seq (List.toArray its) k }) (by simp[Zcc])
    obtain⟨m',hm,w8⟩:=hN _ _ q6'
    refine⟨m',hm,i+1,ys,its,k,vs.map some,H6',by simp[hvl],I6'.pins_of fun p hp=>?_, ?_,fun b hb'=>?_,rv,w8⟩
    ·have e:p=(D,{ cls:=.type "list",data:=.seq (List.toArray its) k }):=by simpa using hp
     subst e
     exact⟨pD6.1,pD6.2.1,pD6.2.2.1,pD6.2.2.2.1,fun v z=>nomatch z⟩
    ·refine T.keep _ _ _ st5 fun b hb' o e=>?_
     exact(I6'.pin (b,o) (Zth _ (Zth _ (J9 hb' e)))).1
    ·obtain⟨o,e,d⟩:=T.obj _ _ st5 b hb'
     exact(I6'.pin (b,o) (Zth _ (Zth _ (J9 hb' e)))).2.1
   |true =>
   rw[if_pos rfl] at q6' ⊢
   refine wpAny_mono (he C s₂ H₂ fp _ s6' _ H6' _ I6' q6') (fun u7 s7 h7=>?_) fun _ _ f=>f.elim
   obtain⟨v7,H7,I7,r7,n7⟩:=h7
   have pD7:=I7.pin (D,{ cls:=.type "list",data:=.seq (List.toArray its) k }) (by simp[Zcc])
   have hlen:=rv.length
   refine append_at (hsz:=by show its.toArray.size<=sizeLine;rw[Ztp,<- hlen];exact hz) pD7.1 fun h8 hs8 hD8=>?_
   obtain⟨m',hm,w8⟩:=hN _ _ n7
   have hD8':h8.get? D=some { cls:=.type "list",data:=.seq (its++[u7]).toArray (k+1) }:=by rw[hD8,List.push_toArray]
   have I8:Inv (Zcc X scope xs C fp s₂ H₂) [] (σ++vs.map some) H7 { s7 with heap:=h8 }:=by
    refine(I7.pins_of (pins':=[]) fun p hp=>absurd hp (by simp)).turned (t':=s7.toks) (it:=D) (fun b o hb e=>(hs8.2 b hb).trans e) pD7.2.1 pD7.2.2.1 (.inr (by show s₂.heap.objs.size<=D;rw[hDe];exact Ztj _)) (fun y' c' e' z=>?_) fun p hp=>absurd (show p∈([]:List (Addr×Obj)) from by simpa[Zcc] using hp) (by simp)
    obtain⟨v,o,ho,hd⟩:=I.cell y' c' (Vt sc I.ok e')
    have:=Heap.lt_size ho
    rw[hDe,z] at this
    exact ZtU _ this
   refine⟨m',hm,i+1,ys++[v7],its++[u7],k+1,vs.map some,H7,by simp[hvl],I8.pins_of fun p hp=>?_, ?_,fun b hb'=>?_,rv.append (.cons r7 .nil),w8⟩
   ·have e:p=(D,{ cls:=.type "list",data:=.seq (its++[u7]).toArray (k+1) }):=by simpa using hp
    subst e
    exact⟨hD8',pD7.2.1,pD7.2.2.1,pD7.2.2.2.1,fun v z=>nomatch z⟩
   ·refine T.keep _ _ _ st5 fun b hb' o e=>?_
    have hpb:=I7.pin (b,o) (Zth _ (Zth _ (J9 hb' e)))
    exact(hs8.2 b (Zt0 (flt b hb'))).trans hpb.1
   ·obtain⟨o,e,d⟩:=T.obj _ _ st5 b hb'
    exact(I7.pin (b,o) (Zth _ (Zth _ (J9 hb' e)))).2.1
 exact codeAny_compStart_list (loop _ rfl) (T.self _ 0 _ _ _ (T.keep _ _ _ st fun b hb o e=>old b o e) (loop _ rfl))
theorem Zlp {c:Expr} (hx:∀e s,X.xe e s->False) (h:PT X c tt):PCi X [c] tt:=fun pins s σ H Q E I q =>
 wpAny_tests_one (wpAny_mono (h pins s σ H Q I q) (fun _ _ z=>z) fun e s z=>(hx e s z).elim)
theorem Zgk {px:Pos} (hNd:X.N.Nodup) (hchk:Zav X.N X.env.scope scope [x]=true:=by rfl):PB X scope [x] (.Name x px) tB1:=by
 intro C s₂ H₂ ex pins s σ σx H y u vs E hσ hσx I r hb
 have ck:=Zau hchk
 have sc:=ck.scs x (by simp)
 have hb:vs=[y]:=hb
 subst hb
 have ndB:=ck.nd
 refine wpAny_assign_Name ?_
 refine Zcf (X:=Zcc X scope [x] C ex s₂ H₂) (i:=X.N.length) (x:=x) (v:=y) I ndB (by simp[Zcc]) (.inl (lookup_relabel_local sc.var)) r (fun s6 I6=>?_) (.inr (lookup_relabel_local sc.var))
 obtain⟨o,rfl⟩:∃o,σx=[o]:=by
  cases σx with
  |nil=>simp at hσx
  |cons a l =>
   cases l with
   |nil=>exact⟨a,rfl⟩
   |cons b l=>simp at hσx
 have eσ:(σ++[o]).set X.N.length (some y)=σ++[some y]:=by
  rw[<- hσ];simp
 rw[eσ] at I6
 exact I6
theorem ZoN {x y:Str}{px py tp:Pos}{k:Nat} (hNd:X.N.Nodup) (hc:X.calm=true) (hchk:Zav X.N X.env.scope scope [x,y]=true:=by rfl):PB X scope [x,y] (.Tuple [.Name x px,.Name y py] k tp) (tB2 X.K):=by
 intro C s₂ H₂ ex pins s σ σx H v u vs E hσ hσx I r hb
 have ck:=Zau hchk
 have sx:=ck.scs x (by simp)
 have sy:=ck.scs y (by simp)
 obtain⟨t,a,b,rfl,hq,rfl⟩:=hb
 have ndB:=ck.nd
 obtain⟨o1,o2,rfl⟩:∃o1 o2,σx=[o1,o2]:=by
  match σx,hσx with
  |[a,b],_=>exact⟨a,b,rfl⟩
 have e1:(σ++[o1,o2]).set X.N.length (some a)=σ++[some a,o2]:=by
  rw[<- hσ];simp
 have e2:(σ++[some a,o2]).set (X.N.length+1) (some b)=σ++[some a,some b]:=by
  rw[<- hσ]
  show List.set (σ++([some a,o2]:St)) _ _=_
  rw[ZuS _ _ (Zvc _)]
  simp
 have g1:PG (Zcc X scope [x,y] C ex s₂ H₂) (.Name x px) (Zcq X.N.length):=JJ ndB (by
  show (X.N.map (Zgv [x,y])++[x,y])[X.N.length]?=some x
  rw[Ztm (by simp)];simp) (.inl (lookup_relabel_local sx.var)) (.inr (lookup_relabel_local sx.var))
 have g2:PG (Zcc X scope [x,y] C ex s₂ H₂) (.Name y py) (Zcq (X.N.length+1)):=JJ ndB (by
  show (X.N.map (Zgv [x,y])++[x,y])[X.N.length+1]?=some y
  rw[Ztm (by simp)];simp) (.inl (lookup_relabel_local sy.var)) (.inr (lookup_relabel_local sy.var))
 have g:PG (Zcc X scope [x,y] C ex s₂ H₂) (.Tuple [.Name x px,.Name y py] k tp) (Zr3 X.K 2 (ZlZ (Zcq X.N.length) (ZlZ (Zcq (X.N.length+1)) Zr4))):=Zlm (X:=Zcc X scope [x,y] C ex s₂ H₂) hc (Zbs g1 (Zbs g2 Zij))
 refine wpAny_mono (g pins s _ H _ _ (fun σ' H'=>σ'=σ++[some a,some b]/\H'=H) I r ⟨t,[a,b],rfl,hq,rfl,a,[b],rfl,b,[],rfl,rfl, ?_⟩) (fun _ s' hq'=>?_) fun _ _ z=>z.elim
 ·exact⟨by rw[e1,e2],rfl⟩
 ·obtain⟨σ',H',I',e3,e4⟩:=hq'
  subst e3 e4
  exact I'
theorem Zbt {wi:TI} (hi:PI X tg iter wi) (hb:PB X scope xs tg Bd) (ht:∀C s₂ H₂ ex,PCi (Zcc X scope xs C ex s₂ H₂) ifs tt) (he:∀C s₂ H₂ ex,PE (Zcc X scope xs C ex s₂ H₂) elt te) (hvs:∀x H vs,Bd x H vs->vs.length=xs.length) (hNd:X.N.Nodup) (hc:X.calm=true)
  (hclos:closureFor scope X.env=pure (ZhG scope X.env):=by rfl) (hchk:Zav X.N X.env.scope scope xs=true:=by rfl) (hs:∀x,foldedSetIterable iter X.env x=pure x:=by exact fun _=>rfl) :
  PE X (.ListComp elt [⟨tg,iter,ifs,0⟩] scope pos) (Zf7 wi Bd tt te):=by
 intro pins s σ H Q I h
 have ck:=Zau hchk
 obtain⟨x,hx⟩:=ck.ex
 have sc:=ck.scs x hx
 rw[eval_ListComp]
 refine wpAny_comprehension_free (use:=none) rfl hs hclos sc.kind sc.locs (thn (hi pins s σ H _ I h) fun xv s₁ h₁=>thn h₁ fun itv s₂ h₂=>?_)
 obtain⟨it,fp,tn,J,H2,e,I2,T,st2,f2,q⟩:=h₂
 subst e
 refine ZhE (RR:=fun acc C=>compPost (model X.prog X.w) X.A X.xe none (EP X pins σ Q) acc C) I2 ck hx hNd hc T st2 f2 q hb ht he hvs ?_
 intro D C s' H' m' hC I' hn hC0 hq
 refine⟨m',hn,fun h'' hs''=>⟨.ref D,H', ?_,rfl,hq⟩⟩
 refine I'.turned (t':=s'.toks) (it:=C) (fun b o hb e=>(hs''.2 b hb).trans e) hC0 (Zu4 (Ztw I2.lt hC)) (.inr (Zt5 I2.sz hC)) (fun y c e z=>?_) fun p hp z=>?_
 ·obtain⟨v,o,ho,hd⟩:=I2.cell y c e
  exact absurd (Heap.lt_size ho) (ZuN.mpr (by rw[z];exact hC))
 ·exact absurd (Heap.lt_size (I2.pin p hp).1) (ZuN.mpr (by rw[z];exact hC))
noncomputable def ZgV (i:Nat) (wi:TI) (Bd:TB) (tt:TT) (te:TE):TS:=fun D σ H=>Zf7 wi Bd tt te σ H fun v H'=>D.nx (σ.set i (some v)) H'
theorem Zer {i:Nat}{y:Str}{py spos:Pos}{wi:TI} (hN:X.N.Nodup) (hi:X.N[i]?=some y) (hit:PI X tg iter wi) (hb:PB X scope xs tg Bd) (ht:∀C s₂ H₂ ex,PCi (Zcc X scope xs C ex s₂ H₂) ifs tt) (he:∀C s₂ H₂ ex,PE (Zcc X scope xs C ex s₂ H₂) elt te) (hvs:∀x H vs,Bd x H vs->vs.length=xs.length) (hc:X.calm=true)
  (hsw:swapsWith (.ListComp elt [⟨tg,iter,ifs,0⟩] scope pos) (some (.Name y py)) spos.line X.env=pure true:=by rfl) (hy:X.env.scope.names.lookup y=some .local:=by rfl)
  (hclos:closureFor scope X.env=pure (ZhG scope X.env):=by rfl) (hchk:Zav X.N X.env.scope scope xs=true:=by rfl) (hs:∀x,foldedSetIterable iter X.env x=pure x:=by exact fun _=>rfl) :
  PS X (.Assign [.Name y py] (.ListComp elt [⟨tg,iter,ifs,0⟩] scope pos) spos) (ZgV i wi Bd tt te):=by
 intro pins s σ H D0 I h
 have ck:=Zau hchk
 obtain⟨x,hx⟩:=ck.ex
 have sc:=ck.scs x hx
 rw[exec_Assign_Name_used _ _ _ _ hsw]
 refine wpAny_bind (wpAny_standAt (wpAny_bind ?_))
 show wpAny _ X.A (do let _ <- comprehension (.ListComp elt [⟨tg,iter,ifs,0⟩] scope pos) scope X.env _ (newList []) false (eval iter X.env) (some (assign (.Name y py) X.env))) _ _ s
 refine wpAny_bind (wpAny_mono (wpAny_comprehension_free (use:=some (assign (.Name y py) X.env)) (Q:=fun _ s'=>SP X pins D0 .next s') rfl hs hclos sc.kind sc.locs
  (thn (hit pins s σ H _ I h) fun xv s₁ h₁=>thn h₁ fun itv s₂ h₂=>?_)) (fun _ s' hq=>wpAny_pure (wpAny_pure hq)) fun _ _ e=>e)
 obtain⟨it,fp,tn,J,H2,e,I2,T,st2,f2,q⟩:=h₂
 subst e
 refine ZhE (RR:=fun acc C=>compPost (model X.prog X.w) X.A X.xe (some (assign (.Name y py) X.env)) (fun _ s'=>SP X pins D0 .next s') acc C) I2 ck hx hN hc T st2 f2 q hb ht he hvs ?_
 intro D C s' H' m' hC I' hn hC0 hq
 show wpAny _ X.A (assign (.Name y py) X.env (.ref D)) _ _ _
 have cellC:∀y c,X.env.cells.lookup y=some c->c≠C:=fun y c e z=>by
  obtain⟨v,o,ho,hd⟩:=I2.cell y c e
  exact absurd (Heap.lt_size ho) (ZuN.mpr (by rw[z];exact hC))
 have locC:C≠X.env.locals:=Zu4 (Ztw I2.lt hC)
 refine wpAny_assign_Name (Zel (i:=i) (v:=.ref D) I' hN hi (.inl hy) rfl (fun s'' I'' ⟨a,hsa,ha⟩=>?_) (.inr hy))
 have hCa:C≠a:=by
  rcases ha with z|z
  ·rw[z];exact locC
  ·exact(cellC _ _ z).symm
 refine⟨m',hn.sameBut hsa hCa,fun h'' hs''=>⟨σ.set i (some (.ref D)),H', ?_,hq⟩⟩
 refine I''.turned (t':=s''.toks) (it:=C) (fun b o hb e=>(hs''.2 b hb).trans e) hC0 locC (.inr (Zt5 I2.sz hC)) cellC fun p hp z=>?_
 exact absurd (Heap.lt_size (I2.pin p hp).1) (ZuN.mpr (by rw[z];exact hC))
end
noncomputable def Zfu {α β:Type} (f:α->Rr (Option β)):List α->Rr (List β)
 |[]=>.ok []
 |x::xs=>(f x).bind fun o=>(Zfu f xs).bind fun ys=>.ok (o.toList++ys)
def DB (K:W.Frag) (Bd:TB) (k:Nat) (hb:PV->Rr (List PV)):Prop:=(∀x e,hb x≠.exc e)/\∀(H:Hp) (S:Addr->Prop) (x:PV) (v:V) (xs:List PV),Rep K H S x v->hb x=.ok xs->xs.length=k/\∃vs,Bd v H vs/\Y1 K H S xs vs
theorem Zs9 {K:W.Frag}:DB K tB1 1 (fun x=>.ok [x]):=⟨fun x e h=>(by cases h),fun H S x v xs r h=>by
 cases h
 exact⟨rfl,[v],rfl,v,[],rfl,r,rfl⟩⟩
theorem Zr6 {K:W.Frag}:DB K (tB2 K) 2 (asT 2):=by
 refine⟨fun x e h=>?_,fun H S x v xs r h=>?_⟩
 ·unfold asT at h
  split at h
  ·split at h<;>cases h
  ·cases h
 ·unfold asT at h
  split at h
  ·rename_i ys
   split at h
   ·rename_i hl
    cases h
    obtain⟨a,vs,rfl,hq,hr⟩:=r
    refine⟨hl,vs, ?_,hr⟩
    match xs,vs,hl,hr,hq with
    |[p,q],vs,_,hr,hq =>
     obtain⟨u,w,rfl,_,_⟩:=Zql hr
     exact⟨a,u,w,rfl,hq.sqT,rfl⟩
   ·cases h
  ·cases h
section
variable {K:W.Frag}{B:Addr->Prop}{EX:PX->Hp->Prop}{H0 H H':Hp}{σ:St}{Γ Γ' Γ1 Γ2 Γ3:List Md}{ρ:List PV}{F F':Nat->List Addr}{R:List Addr}{k:Nat}{x:PV}{v:V}{te tb tc:TE}{ta:TA}{tt:TT}{f fb fc fe:List PV->Rr PV}{c:List PV->Rr Bool}{fa:List PV->Rr (List PV)}{Bd:TB}{hb:PV->Rr (List PV)}
theorem Zh1:DT K EX Γ Γ Zso (fun _=>.ok true):=fun B H0 H σ ρ F R Q A d=>d H F (ZF.refl H) (fun _ _ h=>h) A
theorem Ag.pushN:∀{xs:List PV}{vs:List V}{σ:St}{Γ:List Md}{ρ:List PV},Y1 K H (NO B F R) xs vs->Ag K B H0 H σ Γ ρ F R->Ag K B H0 H (σ++vs.map some) (Γ++List.replicate xs.length .S) (ρ++xs) F R
 |[],vs,σ,Γ,ρ,h,A=>by
  have h:vs=[]:=h
  subst h
  simpa using A
 |x::xs,vs,σ,Γ,ρ,h,A=>by
  obtain⟨v,r,rfl,h1,h2⟩:=h
  have:=Ag.pushN (xs:=xs) (vs:=r) h2 (A.push h1)
  simpa[Zud] using this
theorem Ag.popN {n:Nat}{τ:St}{xs:List PV} (A:Ag K B H0 H (σ++τ) (Γ++List.replicate n .S) (ρ++xs) F R) (l1:σ.length=Γ.length) (l2:ρ.length=Γ.length):Ag K B H0 H σ Γ ρ F R:=by
 refine⟨A.same,A.own,A.young,A.youngR,A.live,A.liveR,A.disj,A.disjR,l1,l2,fun i=>?_⟩
 have:=A.slot i
 by_cases h1:i<Γ.length
 ·rw[Zte,Zte,Ztl h1,Ztl (by rw[l2];exact h1),Ztl (by rw[l1];exact h1),<- Zte,<- Zte] at this
  exact this
 ·rw[Zte,Zt2 (by omega)]
  by_cases h2:i<Γ.length+n
  ·rw[Zte,Ztm (by omega),Zun,if_pos (by omega)] at this
   simp only[Zur] at this
   exact this.1
  ·exact A.outF (by simp;omega)
theorem Zec {wi:TI}{fi:List PV->Rr (List PV)} (hi:DIc K EX Γ Γ1 wi fi) (hB:DB K Bd k hb) (ht:DT K EX (Γ1++List.replicate k .S) (Γ1++List.replicate k .S) tt c) (he:DE K EX (Γ1++List.replicate k .S) (Γ1++List.replicate k .S) .F te fe) :
  DE K EX Γ Γ1 .F (Zf7 wi Bd tt te) (fun ρ=>(fi ρ).bind fun xs=>(lenM xs).bind fun _=>(Zfu (fun x=>(hb x).bind fun as=>(c (ρ++as)).bind fun b=>if b=true then (fe (ρ++as)).bind fun y=>.ok (some y) else .ok none) xs).bind fun ys=>.ok (.lst ys)):=fun B H0 H σ ρ F R Q A d=>by
 refine hi B H0 H σ ρ F R _ A (d.bind.imp (fun xs _ d J H1 F1 s1 f1 A1 it=>?_) fun e q=>q)
 obtain⟨hlen,d⟩:=Dn.lenM d.bind
 generalize hgx:(fun x=>(hb x).bind fun as=>(c (ρ++as)).bind fun b=>if b=true then (fe (ρ++as)).bind fun y=>Rr.ok (some y) else .ok none)=gx at d
 have l1:=A1.lenS
 have l2:=A1.lenR
 refine⟨fun i m ys H2=>∃zs G F2,m=xs.length-i/\i<=xs.length/\ys.length<=i/\ZF H1 H2/\ZE K H2 zs ys G/\(∀a∈G,a ∉ R/\(H1 a=none\/∃j,a∈F1 j))/\(∀i,∀a∈F2 i,a∈F1 i)/\Ag K B H0 H2 σ Γ1 ρ F2 (G++R) /\
  Dn ((Zfu gx (xs.drop i)).bind fun ys'=>.ok (.lst (zs++ys'))) (fun x=>∀v H',ZF H H'->Res K B H0 H σ Γ1 ρ F R .F x v H'->Q v H') (fun e=>∀H',ZF H0 H'->EX e H'),
  ⟨xs.length,[],[],F1,by simp,ZtB _,Ztj _,ZF.refl _,⟨rfl,rfl⟩,by simp,fun _ _ h=>h,A1,by simpa using d⟩, ?_⟩
 rintro i m ys H2 ⟨zs,G,F2,rfl,hi',hl,s2,tr,o2,f2,A2,dn⟩
 refine⟨V1 (by omega), ?_⟩
 have itp:=it H2 F2 s2 f2 i
 cases hx:xs[i]? with
 |none =>
  refine .inl ⟨itp.2 hx,fun p hp=>?_⟩
  have hd:xs.drop i=[]:=ZtW (ZtN.mp hx)
  rw[hd] at dn
  have dn':∀v H',ZF H H'->Res K B H0 H σ Γ1 ρ F R .F (.lst (zs++[])) v H'->Q v H':=dn
  rw[Zub] at dn'
  exact dn' _ _ ((s1.trans s2).trans (ZF.new hp)) (Res.newF (s1.trans s2) (fun i a h=>f1 i a (f2 i a h)) tr (fun a ha=>⟨(o2 a ha).1,(o2 a ha).2.elim (fun z=>.inl (s1.free z)) fun⟨j,z⟩=>.inr ⟨j,f1 j a z⟩⟩) A2 hp)
 |some x =>
  have hlt:i<xs.length:=(Zti.mp hx).1
  obtain⟨go,yl⟩:=itp.1 x hx
  have hdx:xs.drop i=x::xs.drop (i+1):=by
   rw[Zty hlt]
   rw[Ztf hlt] at hx;cases hx;rfl
  rw[hdx] at dn
  simp only[Zfu,Rr.assoc] at dn
  rw[<- hgx] at dn
  simp only[Rr.assoc] at dn
  rw[hgx] at dn
  refine .inr ⟨go,fun ys' H'=>∃zs G F2,ys'.length<=i+1/\ZF H1 H'/\ZE K H' zs ys' G/\(∀a∈G,a ∉ R/\(H1 a=none\/∃j,a∈F1 j))/\(∀i,∀a∈F2 i,a∈F1 i)/\Ag K B H0 H' σ Γ1 ρ F2 (G++R) /\
   Dn ((Zfu gx (xs.drop (i+1))).bind fun ys'=>.ok (.lst (zs++ys'))) (fun x=>∀v H',ZF H H'->Res K B H0 H σ Γ1 ρ F R .F x v H'->Q v H') (fun e=>∀H',ZF H0 H'->EX e H'),
   fun ys' H' ⟨zs,G,F2,a1,a2,a3,a4,a5,a6,a7⟩=>⟨xs.length-(i+1),by omega,zs,G,F2,rfl,hlt,a1,a2,a3,a4,a5,a6,a7⟩,fun v H3 y=>?_⟩
  obtain⟨s3,rx⟩:=yl v H3 y
  have rx':Rep K H3 (NO B F2 (G++R)) x v:=Rep.mono (fun a us s r=>⟨r,s.1.1,fun z=>by
   rcases Ztk.mp z with z|z
   ·rcases (o2 a z).2 with q|⟨j,q⟩
    ·exact s.2.1 q
    ·exact s.2.2 j q
   ·exact s.1.2.1 z,s.1.2.2⟩) (fun a us r=>r) rx
  cases hbx:hb x with
  |exc e=>exact absurd hbx (hB.1 x e)
  |bad=>rw[hbx] at dn;exact dn.elim
  |ok as =>
   rw[hbx] at dn
   simp only[Rr.bind_ok] at dn
   obtain⟨hk,vs,bd,ra⟩:=hB.2 H3 _ x v as rx' hbx
   refine⟨vs,bd, ?_⟩
   have A3:=Ag.pushN ra (A2.grow s3)
   rw[hk] at A3
   refine ht B H0 H3 _ _ F2 (G++R) _ A3 (dn.bind.imp (fun b _ dn H4 F4 s4 f4 A4=>?_) fun e q=>q)
   cases b with
   |false =>
    rw[if_neg Bool.false_ne_true] at dn ⊢
    simp only[Rr.bind_ok,Zu6] at dn
    refine⟨zs,G,F4,by omega,(s2.trans s3).trans s4,(tr.same s3).same s4,o2,fun i a h=>f2 i a (f4 i a h),A4.popN l1 l2, ?_⟩
    simp only[Rr.assoc,Rr.bind_ok,Zuc] at dn
    exact dn
   |true =>
    rw[if_pos rfl] at dn ⊢
    simp only[Rr.assoc] at dn
    refine he B H0 H4 _ _ F4 (G++R) _ A4 (dn.bind.imp (fun z _ dn w H5 s5 r5=>?_) fun e q=>q)
    obtain⟨F5,f5,G5,t5,o5,A5⟩:=r5
    refine⟨zs++[z],G++G5,F5,by simp;omega,((s2.trans s3).trans s4).trans s5,ZE.append (((tr.same s3).same s4).same s5) (ZE.one t5) (fun a ha z=>(o5 a z).1 (Zts _ ha)),fun a ha=>?_,fun i a h=>f2 i a (f4 i a (f5 i a h)),(A5.popN l1 l2).less fun a ha=>?_, ?_⟩
    ·rcases Ztk.mp ha with z|z
     ·exact o2 a z
     ·refine⟨fun q=>(o5 a z).1 (Zth _ q), ?_⟩
      rcases (o5 a z).2 with q|⟨j,q⟩
      ·exact .inl (((s2.trans s3).trans s4).free q)
      ·exact .inr ⟨j,f2 j a (f4 j a q)⟩
    ·simp only[Ztk] at ha ⊢
     rcases ha with (z|z)|z
     ·exact .inr (.inl z)
     ·exact .inl z
     ·exact .inr (.inr z)
    ·simp only[Rr.assoc,Rr.bind_ok,Zu6,Ztq,Zuu] at dn ⊢
     exact dn
theorem ZeI {EX:PX->Hp->Prop}{kd:Kd}{i:Nat}{wi:TI} (he:DE K EX Γ Γ' .F (Zf7 wi Bd tt te) f) (hi:i<Γ'.length):DS K EX Γ ⟨Γ'.set i .O,Γ1,Γ2,kd⟩ (ZgV i wi Bd tt te) (fun ρ=>(f ρ).thenS fun x=>.next (ρ.set i x)):=Y5 he hi
end
theorem hv1 {n:Str}:∀(x:V) (H:Hp) (vs:List V),tB1 x H vs->vs.length=[n].length:=fun _ _ _ h=>congrArg List.length h
theorem hv2 {K:W.Frag}{n m:Str}:∀(x:V) (H:Hp) (vs:List V),tB2 K x H vs->vs.length=[n,m].length:=fun _ _ _ ⟨_,_,_,_,_,h⟩=>congrArg List.length h
theorem ZdY {X:Cx}{K:W.Frag}{scope:Scope}{x y:Str}{px py tp:Pos}{k:Nat} (hNd:X.N.Nodup) (hc:X.calm=true) (hchk:Zav X.N X.env.scope scope [x,y]=true:=by rfl) (e:X.K=K:=by rfl):PB X scope [x,y] (.Tuple [.Name x px,.Name y py] k tp) (tB2 K):=by subst e;exact ZoN hNd hc hchk
section
variable {X:Cx}{K:W.Frag}
end
section
variable {K:W.Frag}{EX:PX->Hp->Prop}{Γ Γ1 Γ2:List Md}{te:TE}{ta:TA}{f:List PV->Rr PV}{fa:List PV->Rr (List PV)}
end
theorem Zjs {xs:List PV}{y:PV} (h:xs.length<1000000):pApp (.lst xs) y=.ok (.lst (xs++[y])):=if_pos h
theorem Zsk {a b:PV}:asT 2 (.tup [a,b])=.ok [a,b]:=rfl
noncomputable def ZsG:Nat:=4000000
def Zrv (i j:Int):Prop:=i.natAbs<2^ZsG/\j.natAbs<2^ZsG
noncomputable instance (i j:Int):Decidable (Zrv i j):=by unfold Zrv;infer_instance
end L2
namespace Att
open PySem PySem.W PySem.Calls PyProof.Rows
end Att
namespace L2
open PySem PySem.Spec PyProof.Rows
section
variable {X:Cx}{K:W.Frag}
end
noncomputable def okE (x:PV):Bool:=x.noX&&x.dat.canLay0&&decide (x.dat.depth<=60)
noncomputable def ZrK (K:W.Frag) (g:Bool->Bool):R2:=fun x y H Q=>∃p qs a vs,Rep K H (fun _=>True) p x/\y=.ref a/\(SqL K H a vs\/SqT K H a vs)/\Y1 K H (fun _=>True) qs vs/\okE p=true/\(qs.all okE)=true/\Q (.bl (g (qs.any fun q=>PyData.eqv q.dat p.dat))) H
open Classical in
noncomputable def Zkn (h:Heap) (dx:PyData) (y:Value):Bool:=if hy:∃d as,Reads h y d as/\d.canLay0=true/\d.depth<=60 then PyData.eqv hy.choose dx else false
section
variable {X:Cx}{K:W.Frag}
theorem Zhz {H:Hp}{pins:List (Addr×Obj)}{σ:St}{s:Shared}{S:Addr->Prop} (I:Inv X pins σ H s) (dx:PyData):∀{qs:List PV}{vs:List V}{us:List Value},Y1 X.K H S qs vs->Wy vs us->(qs.all okE)=true ->
  (us.any (Zkn s.heap dx)=qs.any fun q=>PyData.eqv q.dat dx)/\∀y∈us,∃d as,Reads s.heap y d as/\d.canLay0=true/\d.depth<=60
 |[],_,us,h,r,_=>by
  rw[h] at r;cases r
  exact⟨rfl,by simp⟩
 |q::qs,_,us,h,r,hk=>by
  obtain⟨v,vs,rfl,h1,h2⟩:=h
  simp only[List.all_cons,Bool.and_eq_true] at hk
  cases r with
  |cons r1 r2 =>
   rename_i u us
   obtain⟨e1,e2⟩:=Zhz I dx h2 r2 hk.2
   have h3:=hk.1
   simp only[okE,Bool.and_eq_true,decide_eq_true_eq] at h3
   obtain⟨as,ra⟩:=h1.reads I h3.1.1 r1
   have hx:∃d as,Reads s.heap u d as/\d.canLay0=true/\d.depth<=60:=⟨_,_,ra,h3.1.2,h3.2⟩
   refine⟨?_,fun y hy=>?_⟩
   ·have:Zkn s.heap dx u=PyData.eqv q.dat dx:=by
     unfold Zkn
     rw[dif_pos hx]
     obtain⟨as',ra',c1,c2⟩:=hx.choose_spec
     rw[SeqAt.Reads.unique _ _ _ _ _ c1 ra' ra]
    rw[Zvp,Zvp,e1,this]
   ·rcases Ztt.mp hy with rfl|hy
    ·exact hx
    ·exact e2 y hy
theorem ZqS {H:Hp}{pins:List (Addr×Obj)}{σ:St}{s:Shared}{g:Bool->Bool}{x y:V}{v u:Value}{Q:VK} (I:Inv X pins σ H s) (hu:X.A.units+64<cLine) (rx:U1 x v) (ry:U1 y u) (h:ZrK X.K g x y H Q) :
  ∃a items,u=.ref a/\(s.heap.IsList a items\/s.heap.IsTuple a items)/\∃e:Value->Bool,(∀y,y∈items->SeqAt.EqAt X.A.in1 s y v (e y))/\Q (.bl (g (items.any e))) H:=by
 obtain⟨p,qs,a,vs,h1,rfl,hq,hr,h3,h4,q⟩:=h
 cases ry
 simp only[okE,Bool.and_eq_true,decide_eq_true_eq] at h3
 obtain⟨as,ra⟩:=h1.reads I h3.1.1 rx
 have fin:∀its:List Value,Wy vs its->(∀y,y∈its.toArray->SeqAt.EqAt X.A.in1 s y v (Zkn s.heap p.dat y))/\Q (.bl (g (its.toArray.any (Zkn s.heap p.dat)))) H:=fun its rv=>by
  obtain⟨e1,e2⟩:=Zhz I p.dat hr rv h4
  refine⟨fun y hy=>?_, ?_⟩
  ·have hx:=e2 y (by simpa using hy)
   unfold Zkn
   rw[dif_pos hx]
   obtain⟨as',ra',c1,c2⟩:=hx.choose_spec
   refine SeqAt.eqAt_reads _ _ _ _ _ _ _ _ ra' ra c1 h3.1.2 ?_
   have:=Zve hx.choose.depth p.dat.depth
   have hin:X.A.in1.units<=X.A.units+1:=by simp[Around.in1]
   omega
  ·rw[List.any_toArray,e1];exact q
 rcases hq with hq|hq
 ·obtain⟨its,rv,pl,hz⟩:=I.list hq
  obtain⟨f1,f2⟩:=fin its rv
  exact⟨a,its.toArray,rfl,.inl pl.isList,_,f1,f2⟩
 ·obtain⟨its,rv,pl,hz⟩:=I.tuple hq
  obtain⟨f1,f2⟩:=fin its rv
  exact⟨a,its.toArray,rfl,.inr pl,_,f1,f2⟩
theorem Zoc (hu:X.A.units+64<cLine) (e:X.K=K:=by rfl):OpR X (compareOp .In) (ZrK K id):=by
 subst e
 intro pins s σ H x y v u Q I rx ry h
 obtain⟨a,items,rfl,hl,e,he,q⟩:=ZqS I hu rx ry h
 rcases hl with hl|hl
 ·exact SeqAt.in_listAt e hl he ⟨.bl _,H,I,rfl,q⟩
 ·exact SeqAt.in_tupleAt e hl he ⟨.bl _,H,I,rfl,q⟩
end
noncomputable def Znh (g:Bool->Bool) (x y:PV):Rr PV:=match y with
 |.lst ys=>if (okE x&&ys.all okE)=true then .ok (.bl (g (ys.any fun q=>PyData.eqv q.dat x.dat))) else .bad
 |.tup ys=>if (okE x&&ys.all okE)=true then .ok (.bl (g (ys.any fun q=>PyData.eqv q.dat x.dat))) else .bad
 |_=>.bad
section
variable {K:W.Frag}{EX:PX->Hp->Prop}{Γ Γ' Γ1 Γ2:List Md}{tb tc:TE}{ta:TA}{fb fc:List PV->Rr PV}{fa:List PV->Rr (List PV)}
theorem Zop {g:Bool->Bool} (ha:DE K EX Γ Γ1 .A tb fb) (hb:DE K EX Γ1 Γ2 .A tc fc):DE K EX Γ Γ2 .P (tOp (ZrK K g) tb tc) (fun ρ=>(fb ρ).bind fun x=>(fc ρ).bind fun y=>Znh g x y):=by
 refine Zn9 (fun {H x y v w Q} rx ry ⟨z,e,q⟩=>?_) (fun x y z h=>?_) (fun x y e h=>?_) ha hb
 ·unfold Znh at e
  split at e
  ·split at e
   ·rename_i ys hk
    cases e
    rw[Bool.and_eq_true] at hk
    obtain⟨a,vs,rfl,hn,hr⟩:=ry
    exact⟨x,_,a,vs,rx,rfl,.inl (Qg (S:=fun _=>True) hn),hr,hk.1,hk.2,q rfl _ rfl⟩
   ·cases e
  ·split at e
   ·rename_i ys hk
    cases e
    rw[Bool.and_eq_true] at hk
    obtain⟨a,vs,rfl,hn,hr⟩:=ry
    exact⟨x,_,a,vs,rx,rfl,.inr hn.sqT,hr,hk.1,hk.2,q rfl _ rfl⟩
   ·cases e
  ·cases e
 ·unfold Znh at h
  split at h
  ·split at h<;>cases h;rfl
  ·split at h<;>cases h;rfl
  ·cases h
 ·unfold Znh at h
  split at h
  ·split at h<;>cases h
  ·split at h<;>cases h
  ·cases h
end
theorem ZkB {c:List PV->Rr Bool}{b:List PV->RS}{ρ:List PV}{W:RS} (hw:JX c b ρ=W) (I:List PV->Prop) (μ:List PV->Nat) (h0:I ρ)
  (hs:∀ρ,I ρ->c ρ=.ok false\/(c ρ=.ok true/\(b ρ).good fun ρ'=>I ρ'/\μ ρ'<μ ρ)):∃ρ',W=.next ρ'/\I ρ'/\c ρ'=.ok false:=by
 subst hw
 have key:∀n ρ,I ρ->μ ρ<n->∃ρ',Qo c b n ρ=some (.next ρ')/\I ρ'/\c ρ'=.ok false:=by
  intro n
  induction n with
  |zero=>intro ρ _ h;omega
  |succ n ih =>
   intro ρ hI hμ
   rcases hs ρ hI with h|⟨h1,h2⟩
   ·refine⟨ρ, ?_,hI,h⟩
    unfold Qo
    rw[h]
   ·obtain⟨ρ',h3,h4,h5⟩:=RS.good_ex h2
    obtain⟨ρ2,h6,h7⟩:=ih ρ' h4 (by omega)
    refine⟨ρ2, ?_,h7⟩
    unfold Qo
    rw[h1]
    rcases h3 with h3|h3<;>(rw[h3];exact h6)
 obtain⟨ρ',h1,h2⟩:=key (μ ρ+1) ρ h0 (Zu0 _)
 exact⟨ρ',Zeh h1,h2⟩
theorem Zcv {ns:List Int}{f:PV->Rr (Option PV)}{g:Nat->PV} (h:∀i,i<ns.length->f (.tup [.int i,.int (ns.getD i 0)])=.ok (some (g i))):Zfu f (Zb3 (ns.map PV.int))=.ok ((List.range ns.length).map g):=by
 have e:Zb3 (ns.map PV.int)=(List.range ns.length).map fun i=>PV.tup [.int (i:Nat),.int (ns.getD i 0)]:=by
  apply Zu5
  intro i
  unfold Zb3
  rw[Zu8,Ztz,Ztz]
  by_cases hi:i<ns.length
  ·rw[Ztf hi,Zt9 hi]
   simp[Zte,Ztf hi]
  ·rw[Zt2 (by omega),Zt2 (by simpa using hi)];rfl
 rw[e]
 have:∀l:List Nat,(∀i∈l,i<ns.length)->Zfu f (l.map fun i=>PV.tup [.int (i:Nat),.int (ns.getD i 0)])=.ok (l.map g):=by
  intro l
  induction l with
  |nil=>intro _;rfl
  |cons a l ih =>
   intro hl
   simp only[Ztv,Zfu,h a (hl a (by simp)),Rr.bind_ok,ih fun i hi=>hl i (by simp[hi]),Zu6,Zuu]
 exact this _ fun i hi=>Ztu.mp hi
section
variable {K:W.Frag}{EX:PX->Hp->Prop}{Γ Γ1 Γ2 Γ3:List Md}{te:TE}{f:List PV->Rr PV}
end
section
variable {K:W.Frag}{H:Hp}{EX:PX->Hp->Prop}{Γ Γ':List Md}{te:TE}{f:List PV->Rr PV}
end
section
variable {K:W.Frag}{EX:PX->Hp->Prop}{Γ Γ1 Γ2 Γ3:List Md}{k:Kd}{H:Hp}
end
section
variable {K:W.Frag}{B:Addr->Prop}{EX:PX->Hp->Prop}{H0 H H':Hp}{σ:St}{Γ Γ' Γ1 Γ2 Γ3:List Md}{ρ:List PV}{F F':Nat->List Addr}{R:List Addr}{k:Nat}{kd:Kd}{x:PV}{v:V}{te ta tb tc:TE}{tt:TT}{f fa fb fc fe:List PV->Rr PV}{c:List PV->Rr Bool}{Bd:TB}{hb:PV->Rr (List PV)}
theorem Zh9 {wi:TI}{fi:List PV->Rr (List PV)} (hi:DIc K EX Γ Γ1 wi fi) (hB:DB K Bd k hb) (ht:DT K EX (Γ1++List.replicate k .S) (Γ1++List.replicate k .S) tt c) (he:DE K EX (Γ1++List.replicate k .S) (Γ1++List.replicate k .S) .Z te fe) :
  DE K EX Γ Γ1 .T (Zf7 wi Bd tt te) (fun ρ=>(fi ρ).bind fun xs=>(lenM xs).bind fun _=>(Zfu (fun x=>(hb x).bind fun as=>(c (ρ++as)).bind fun b=>if b=true then (fe (ρ++as)).bind fun y=>.ok (some y) else .ok none) xs).bind fun ys=>.ok (.lst ys)):=fun B H0 H σ ρ F R Q A d=>by
 refine hi B H0 H σ ρ F R _ A (d.bind.imp (fun xs _ d J H1 F1 s1 f1 A1 it=>?_) fun e q=>q)
 obtain⟨hlen,d⟩:=Dn.lenM d.bind
 generalize hgx:(fun x=>(hb x).bind fun as=>(c (ρ++as)).bind fun b=>if b=true then (fe (ρ++as)).bind fun y=>Rr.ok (some y) else .ok none)=gx at d
 have l1:=A1.lenS
 have l2:=A1.lenR
 refine⟨fun i m ys H2=>∃zs F2,m=xs.length-i/\i<=xs.length/\ys.length<=i/\ZF H1 H2/\Y1 K H2 (NO B F2 R) zs ys/\(∀i,∀a∈F2 i,a∈F1 i)/\Ag K B H0 H2 σ Γ1 ρ F2 R /\
  Dn ((Zfu gx (xs.drop i)).bind fun ys'=>.ok (.lst (zs++ys'))) (fun x=>∀v H',ZF H H'->Res K B H0 H σ Γ1 ρ F R .T x v H'->Q v H') (fun e=>∀H',ZF H0 H'->EX e H'),
  ⟨xs.length,[],F1,by simp,ZtB _,Ztj _,ZF.refl _,rfl,fun _ _ h=>h,A1,by simpa using d⟩, ?_⟩
 rintro i m ys H2 ⟨zs,F2,rfl,hi',hl,s2,tr,f2,A2,dn⟩
 refine⟨V1 (by omega), ?_⟩
 have itp:=it H2 F2 s2 f2 i
 cases hx:xs[i]? with
 |none =>
  refine .inl ⟨itp.2 hx,fun p hp=>?_⟩
  have hd:xs.drop i=[]:=ZtW (ZtN.mp hx)
  rw[hd] at dn
  have dn':∀v H',ZF H H'->Res K B H0 H σ Γ1 ρ F R .T (.lst (zs++[])) v H'->Q v H':=dn
  rw[Zub] at dn'
  exact dn' _ _ ((s1.trans s2).trans (ZF.new hp)) (Res.newT (s1.trans s2) (fun i a h=>f1 i a (f2 i a h)) tr A2 hp)
 |some x =>
  have hlt:i<xs.length:=(Zti.mp hx).1
  obtain⟨go,yl⟩:=itp.1 x hx
  have hdx:xs.drop i=x::xs.drop (i+1):=by
   rw[Zty hlt]
   rw[Ztf hlt] at hx;cases hx;rfl
  rw[hdx] at dn
  simp only[Zfu,Rr.assoc] at dn
  rw[<- hgx] at dn
  simp only[Rr.assoc] at dn
  rw[hgx] at dn
  refine .inr ⟨go,fun ys' H'=>∃zs F2,ys'.length<=i+1/\ZF H1 H'/\Y1 K H' (NO B F2 R) zs ys'/\(∀i,∀a∈F2 i,a∈F1 i)/\Ag K B H0 H' σ Γ1 ρ F2 R /\
   Dn ((Zfu gx (xs.drop (i+1))).bind fun ys'=>.ok (.lst (zs++ys'))) (fun x=>∀v H',ZF H H'->Res K B H0 H σ Γ1 ρ F R .T x v H'->Q v H') (fun e=>∀H',ZF H0 H'->EX e H'),
   fun ys' H' ⟨zs,F2,a1,a2,a3,a4,a5,a6⟩=>⟨xs.length-(i+1),by omega,zs,F2,rfl,hlt,a1,a2,a3,a4,a5,a6⟩,fun v H3 y=>?_⟩
  obtain⟨s3,rx⟩:=yl v H3 y
  have rx':Rep K H3 (NO B F2 R) x v:=Rep.mono (fun a us s r=>⟨r,s.1⟩) (fun a us r=>r) rx
  cases hbx:hb x with
  |exc e=>exact absurd hbx (hB.1 x e)
  |bad=>rw[hbx] at dn;exact dn.elim
  |ok as =>
   rw[hbx] at dn
   simp only[Rr.bind_ok] at dn
   obtain⟨hk,vs,bd,ra⟩:=hB.2 H3 _ x v as rx' hbx
   refine⟨vs,bd, ?_⟩
   have A3:=Ag.pushN ra (A2.grow s3)
   rw[hk] at A3
   refine ht B H0 H3 _ _ F2 R _ A3 (dn.bind.imp (fun b _ dn H4 F4 s4 f4 A4=>?_) fun e q=>q)
   have low:∀{F4 F5:Nat->List Addr}{Hx:Hp}{us:List PV}{ws:List V},(∀i,∀a∈F5 i,a∈F4 i)->Y1 K Hx (NO B F4 R) us ws->Y1 K Hx (NO B F5 R) us ws:=fun hF h=>Y1.mono (fun a us s r=>⟨r,s.1,s.2.1,fun i z=>s.2.2 i (hF i a z)⟩) (fun a us r=>r) h
   cases b with
   |false =>
    rw[if_neg Bool.false_ne_true] at dn ⊢
    simp only[Rr.bind_ok,Zu6] at dn
    refine⟨zs,F4,by omega,(s2.trans s3).trans s4,low f4 ((tr.same s3).same s4),fun i a h=>f2 i a (f4 i a h),A4.popN l1 l2, ?_⟩
    simp only[Rr.assoc,Rr.bind_ok,Zuc] at dn
    exact dn
   |true =>
    rw[if_pos rfl] at dn ⊢
    simp only[Rr.assoc] at dn
    refine he B H0 H4 _ _ F4 R _ A4 (dn.bind.imp (fun z _ dn w H5 s5 r5=>?_) fun e q=>q)
    obtain⟨F5,f5,t5,A5⟩:=r5
    refine⟨zs++[z],F5,by simp;omega,((s2.trans s3).trans s4).trans s5,Y1.append (low (fun i a h=>f4 i a (f5 i a h)) (((tr.same s3).same s4).same s5)) (Y1.one t5),fun i a h=>f2 i a (f4 i a (f5 i a h)),A5.popN l1 l2, ?_⟩
    simp only[Rr.assoc,Rr.bind_ok,Zu6,Ztq,Zuu] at dn ⊢
    exact dn
end
section
variable {X:Cx}
end
theorem Znc {xs:List PV}:Zk4 [.lst xs]=.ok (.int xs.length):=by simp[Zk4]
theorem ZoU {xs:List PV}{k:Int} (h0:0<=k) (h1:k<xs.length):pIx (.lst xs) (.int k)=.ok (xs.getD k.toNat .non):=by
 simp only[pIx,atI,Zj5 h0 h1,Option.bind_some]
 rw[Zte,Ztf (by omega)]
 rfl
noncomputable def Wm (a:List Int×Int):PV:=.tup [.lst (a.1.map PV.int),.int a.2]
theorem Zlr {a b:List Int×Int} (h:Wm a=Wm b):a=b:=by
 simp only[Wm,PV.tup.injEq,List.cons.injEq,PV.lst.injEq,PV.int.injEq,and_true] at h
 exact Prod.ext (Ze8 h.1) h.2
theorem ZjX {a b:List (List Int×Int)} (h:a.map Wm=b.map Wm):a=b:=by
 induction a generalizing b with
 |nil=>cases b with
  |nil=>rfl
  |cons x b=>simp at h
 |cons x a ih=>cases b with
  |nil=>simp at h
  |cons y b =>
   simp only[Ztv,List.cons.injEq] at h
   rw[Zlr h.1,ih h.2]
theorem Zd5 {a b:List Int×Int} (h1:HL.WE a b=false) (h2:HL.WE b a=false):a=b:=by
 unfold HL.WE at h1 h2
 by_cases e:a.1=b.1
 ·rw[if_pos e] at h1
  rw[if_pos e.symm] at h2
  have:=of_decide_eq_false h1
  have:=of_decide_eq_false h2
  exact Prod.ext e (by omega)
 ·rw[if_neg e] at h1
  rw[if_neg (Ne.symm e)] at h2
  exact absurd (HL.QS h1 h2) e
def Zf2 (ts:List (List Int×Int)) (t:List Int×Int):Prop:=t∈ts/\∀u∈ts,HL.WE u t=false
theorem Zf2.uniq {ts:List (List Int×Int)}{t u:List Int×Int} (h:Zf2 ts t) (h':Zf2 ts u):t=u:=Zd5 (h'.2 t h.1) (h.2 u h'.1)
open Classical in
noncomputable def ZmY (x:PV):Rr PV:=if h:∃a:List (List Int×Int)×(List Int×Int),x=.lst (a.1.map Wm)/\Zf2 a.1 a.2 then .ok (Wm h.choose.2) else .bad
theorem ZmX {ts:List (List Int×Int)}{t:List Int×Int} (h:Zf2 ts t):ZmY (.lst (ts.map Wm))=.ok (Wm t):=by
 have hex:∃a:List (List Int×Int)×(List Int×Int),PV.lst (ts.map Wm)=.lst (a.1.map Wm)/\Zf2 a.1 a.2:=⟨(ts,t),rfl,h⟩
 unfold ZmY
 rw[dif_pos hex]
 have hs:=hex.choose_spec
 have e:=ZjX (PV.lst.inj hs.1)
 have h2:=hs.2
 rw[<- e] at h2
 rw[h2.uniq h]
section
variable {K:W.Frag}{B:Addr->Prop}{EX:PX->Hp->Prop}{H0 H H':Hp}{σ:St}{Γ Γ' Γ1 Γ2 Γ3:List Md}{ρ:List PV}{F F':Nat->List Addr}{R:List Addr}{te:TE}{f:List PV->Rr PV}
theorem ZjR {ns:List Int}:∀{vs:List V}{G:List Addr},ZE K H (ns.map PV.int) vs G->vs=ns.map V.int/\G=[]:=by
 induction ns with
 |nil=>intro vs G h;exact h
 |cons n ns ih =>
  intro vs G h
  obtain⟨v,r,G1,G2,rfl,⟨rfl,rfl⟩,h2,h3,rfl⟩:=h
  obtain⟨rfl,rfl⟩:=ih h2
  exact⟨rfl,rfl⟩
theorem Zej:∀{ts:List (List Int×Int)}{vs:List V}{G:List Addr},ZE K H (ts.map Wm) vs G->∃qs:List PT4,vs=(qs.map fun t=>V.ref t.1)/\(qs.map fun t=>(t.2.2.1,t.2.2.2))=ts /\
  ∀t∈qs,(SqT K H t.1 [.ref t.2.1,.int t.2.2.2]/\SqL K H t.2.1 (t.2.2.1.map V.int))/\∃G',Zcd K H (Wm (t.2.2.1,t.2.2.2)) (.ref t.1) G'/\∀a∈G',a∈G
 |[],vs,G,h=>⟨[],h.1,rfl,by simp⟩
 |(ns,k)::ts,vs,G,h=>by
  obtain⟨v,r,G1,G2,rfl,h1,h2,h3,rfl⟩:=h
  obtain⟨qs,rfl,e2,e3⟩:=Zej h2
  have h1':=h1
  obtain⟨a,us,rfl,hq,hu⟩:=h1
  obtain⟨w,r2,G3,G4,rfl,⟨l,ws,G5,rfl,hl,hw,hn,rfl⟩,h6,h7,rfl⟩:=hu
  obtain⟨w2,r3,G6,G7,rfl,⟨rfl,rfl⟩,⟨rfl,rfl⟩,_,rfl⟩:=h6
  obtain⟨rfl,rfl⟩:=ZjR hw
  refine⟨(a,l,ns,k)::qs,rfl,by rw[Ztv,e2],fun t ht=>?_⟩
  rcases Ztt.mp ht with rfl|ht
  ·exact⟨⟨hq.sqT,SqL.of hl⟩,_,h1',fun b hb=>Zts _ hb⟩
  ·obtain⟨e4,G',e5,e6⟩:=e3 t ht
   exact⟨e4,G',e5,fun b hb=>Zth _ (e6 b hb)⟩
theorem Zp2 (he:DE K EX Γ Γ' .F te f):DE K EX Γ Γ' .F (tCB (Zqo K) (ZdF te ZiU)) (fun ρ=>(f ρ).bind ZmY):=fun B H0 H σ ρ F R Q A d=>by
 refine he B H0 H σ ρ F R _ A (d.bind.imp (fun x _ d v H1 s1 r1=>?_) fun e q=>q)
 obtain⟨F1,f1,G,t1,o1,A1⟩:=r1
 unfold ZmY at d
 split at d
 ·rename_i hex
  have hs:=hex.choose_spec
  generalize hex.choose=c at d hs
  obtain⟨ts,t⟩:=c
  obtain⟨rfl,hm⟩:=hs
  have hm:Zf2 ts t:=hm
  obtain⟨a,vs,G',rfl,ha,ht,hn,rfl⟩:=t1
  obtain⟨qs,rfl,e2,e3⟩:=Zej ht
  have e2:(qs.map fun t=>(t.2.2.1,t.2.2.2))=ts:=e2
  have hne:0<qs.length:=by
   have:=hm.1
   rw[<- e2] at this
   obtain⟨q,hq,_⟩:=ZtA.mp this
   exact List.length_pos_of_mem hq
  refine⟨a,qs,rfl,SqL.of ha,fun t ht=>(e3 t ht).1,hne,fun q hq hq2=>?_⟩
  have hmq:Zf2 ts (q.2.2.1,q.2.2.2):=⟨by rw[<- e2];exact ZtA.mpr ⟨q,hq,rfl⟩,fun u hu=>by
   rw[<- e2] at hu
   obtain⟨u',hu',rfl⟩:=ZtA.mp hu
   exact hq2 u' hu'⟩
  have:t=(q.2.2.1,q.2.2.2):=hm.uniq hmq
  subst this
  obtain⟨_,G2,t2,o2⟩:=e3 q hq
  refine d _ H1 s1 ⟨F1,f1,G2,t2,fun b hb=>o1 b (ZtF _ (o2 b hb)),A1.less fun b hb=>?_⟩
  rcases Ztk.mp hb with z|z
  ·exact Zts _ (ZtF _ (o2 b z))
  ·exact Zth _ z
 ·exact d.elim
end
section
variable {X:Cx}{K:W.Frag}
theorem Zkv (hu:X.A.units+64<cLine) (hc:X.calm=true) (e:X.K=K:=by rfl):QD X (.builtin "min") (Zqo K):=by subst e;exact Zms (by omega) hc (by omega)
end
structure Dat (n:Nat) (x:PV):Prop where
 nx:x.noX=true
 can:x.dat.canLay0=true
 dep:x.dat.depth<=n
theorem Dat.ok {n:Nat}{x:PV} (h:Dat n x) (hn:n<=64:=by decide):okD x=true:=by
 unfold okD
 rw[h.nx,h.can,decide_eq_true (Zt5 h.dep hn)];rfl
theorem ZeN (i:Int):Dat 0 (.int i):=⟨rfl,by simp[PV.dat,PyData.canLay0],by simp[PV.dat,PyData.depth]⟩
theorem Zg8 {n:Nat}:∀{xs:List PV},(∀x∈xs,Dat n x)->PV.noXs xs=true/\PyData.canLayAll0 (PV.dats xs)=true/\PyData.depthAll (PV.dats xs)<=n
 |[],_=>⟨rfl,rfl,ZtB _⟩
 |x::xs,h=>by
  obtain⟨h1,h2,h3⟩:=Zg8 (xs:=xs) fun y hy=>h y (by simp[hy])
  have hx:=h x (by simp)
  refine⟨by simp[PV.noXs,hx.nx,h1],by simp[PV.dats,PyData.canLayAll0,hx.can,h2], ?_⟩
  simp only[PV.dats,PyData.depthAll]
  exact Nat.max_le.mpr ⟨hx.dep,h3⟩
theorem Zmp {n:Nat}{xs:List PV} (h:∀x∈xs,Dat n x):Dat (n+1) (.lst xs):=by
 obtain⟨h1,h2,h3⟩:=Zg8 h
 exact⟨by simp[PV.noX,h1],by simp[PV.dat,PyData.canLay0,h2],by simp only[PV.dat,PyData.depth];omega⟩
theorem Zp7 {n:Nat}{xs:List PV} (h:∀x∈xs,Dat n x):Dat (n+1) (.tup xs):=by
 obtain⟨h1,h2,h3⟩:=Zg8 h
 exact⟨by simp[PV.noX,h1],by simp[PV.dat,PyData.canLay0,h2],by simp only[PV.dat,PyData.depth];omega⟩
theorem Dat.up {m n:Nat}{x:PV} (h:Dat m x) (hn:m<=n):Dat n x:=⟨h.nx,h.can,Zt5 h.dep hn⟩
theorem Zb0 (ns:List Int):Dat 1 (.lst (ns.map PV.int)):=Zmp fun x hx=>by
 obtain⟨i,_,rfl⟩:=ZtA.mp hx
 exact ZeN i
theorem Zgp {f:PV->Rr PV}{g:Nat->PV}{lo:Int}{n:Nat} (h:∀i,i<n->f (.int (lo+(i:Nat)))=.ok (g i)):ZhX f (ZhW lo n)=.ok ((List.range n).map g):=by
 have key:∀(l:List Nat),(∀i∈l,i<n)->ZhX f (l.map fun(i:Nat)=>PV.int (lo+i))=.ok (l.map g):=by
  intro l
  induction l with
  |nil=>intro _;rfl
  |cons a l ih =>
   intro hl
   simp only[Ztv,ZhX,h a (hl a (by simp)),Rr.bind_ok,ih fun i hi=>hl i (by simp[hi])]
 exact key _ fun i hi=>Ztu.mp hi
theorem Znd {α:Type}{q:α->PV}{L:List α}{k:Int}{d:α} (h0:0<=k) (h1:k<L.length):pIx (.lst (L.map q)) (.int k)=.ok (q (L.getD k.toNat d)):=by
 rw[ZoU h0 (by simpa using h1),Zte,Zte,Ztz,Ztf (by omega)]
 rfl
section
variable {K:W.Frag}{EX:PX->Hp->Prop}{Γ Γ':List Md}{ta:TA}{fa:List PV->Rr (List PV)}
end
theorem us1 {α:Type}{us:List α} (h:us.length=1):∃a,us=[a]:=match us,h with | [a],_=>⟨a,rfl⟩
theorem us2 {α:Type}{us:List α} (h:us.length=2):∃a b,us=[a,b]:=match us,h with | [a,b],_=>⟨a,b,rfl⟩
theorem us3 {α:Type}{us:List α} (h:us.length=3):∃a b c,us=[a,b,c]:=match us,h with | [a,b,c],_=>⟨a,b,c,rfl⟩
theorem us4 {α:Type}{us:List α} (h:us.length=4):∃a b c d,us=[a,b,c,d]:=match us,h with | [a,b,c,d],_=>⟨a,b,c,d,rfl⟩
section
variable {prog:Program}{w:World}{A:Around}{s:Shared}{R:Result->Shared->Prop}
variable {I:Addr}{fp wr:List Addr}{G:Array GenState->Array GenState->Prop}{n:Nat}{P:Nat->Value->Prop}{St:Nat->Shared->Prop}
end
section
variable {prog:Program}{w:World}{A:Around}{E:Value->Shared->Prop}{s:Shared}
variable {I:Addr}{fp wr:List Addr}{G:Array GenState->Array GenState->Prop}{n:Nat}{P:Nat->Value->Prop}{St:Nat->Shared->Prop}
end
section
variable {X:Cx}{K:W.Frag}{e:Expr}{te:TE}{n1 n2 pos pos':Pos}
end
section
variable {K:W.Frag}{B:Addr->Prop}{EX:PX->Hp->Prop}{H0 H H':Hp}{σ:St}{Γ Γ':List Md}{ρ:List PV}{F F':Nat->List Addr}{R:List Addr}{te:TE}{f:List PV->Rr PV}{S:Addr->Prop}
end
theorem Dat.okE {n:Nat}{x:PV} (h:Dat n x) (hn:n<=60:=by decide):okE x=true:=by
 unfold L2.okE
 rw[h.nx,h.can,decide_eq_true (Zt5 h.dep hn)];rfl
theorem Zkb {g:Bool->Bool}{l:List Int}{M:List (List Int)}:Znh g (.lst (l.map PV.int)) (.lst (M.map fun q=>.lst (q.map PV.int)))=.ok (.bl (g (decide (l∈M)))):=by
 have h1:(okE (.lst (l.map PV.int))&&(M.map fun q=>PV.lst (q.map PV.int)).all okE)=true:=by
  rw[(Zb0 l).okE,Bool.true_and,Zt1]
  intro x hx
  obtain⟨q,_,rfl⟩:=ZtA.mp hx
  exact(Zb0 q).okE
 simp only[Znh]
 rw[if_pos h1]
 congr 3
 induction M with
 |nil=>simp
 |cons q M ih =>
  have h2:(okE (.lst (l.map PV.int))&&(M.map fun q=>PV.lst (q.map PV.int)).all okE)=true:=by
   rw[(Zb0 l).okE,Bool.true_and,Zt1]
   intro x hx
   obtain⟨q,_,rfl⟩:=ZtA.mp hx
   exact(Zb0 q).okE
  rw[Ztv,Zvp,ih h2]
  simp only[PV.dat,Zcx,PyData.eqv,Zar]
  by_cases c:q=l
  ·simp[c]
  ·have:¬l=q:=fun z=>c z.symm
   simp[c,this]
theorem Zly {g:Bool->Bool}{i:Int}{ns:List Int}:Znh g (.int i) (.lst (ns.map PV.int))=.ok (.bl (g (decide (i∈ns)))):=by
 have hall:∀ns:List Int,(okE (.int i)&&(ns.map PV.int).all okE)=true:=fun ns=>by
  rw[(ZeN i).okE,Bool.true_and,Zt1]
  intro x hx
  obtain⟨q,_,rfl⟩:=ZtA.mp hx
  exact(ZeN q).okE
 simp only[Znh]
 rw[if_pos (hall ns)]
 congr 3
 induction ns with
 |nil=>simp
 |cons q M ih =>
  rw[Ztv,Zvp,ih]
  simp only[PV.dat,PyData.eqv]
  by_cases c:q=i
  ·simp[c]
  ·have:¬i=q:=fun z=>c z.symm
   simp[c,this]
section
variable {K:W.Frag}{n:Nat}{m:List PV->Rr PV}{ta:TA}{Γ Γ':List Md}{fa:List PV->Rr (List PV)}{E:XK}
theorem ZsW {EX:PX->Hp->Prop} (hn:Len fa n) (hm:∀xs q,m xs≠.exc q) (ha:DAZ K EX Γ Γ' ta fa):DE K EX Γ Γ' .Z (Zd2 (spF K n .Z W0 m) ta) (fun ρ=>(fa ρ).bind m):=fun B H0 H σ ρ F R Q A d=>by
 refine ha B H0 H σ ρ F R _ A (d.bind.imp (fun xs hx d vs H1 F1 s1 f1 p1 A1=>?_) fun e q=>q)
 refine⟨NO B F1 R,xs,p1,hn ρ xs hx, ?_⟩
 cases e:m xs with
 |ok x =>
  rw[e] at d
  intro v H2 s2 r
  refine d v H2 (s1.trans s2) ⟨F1,f1,Rep.mono (fun a us s r=>⟨r, ?_⟩) (fun a us r=>r) r,A1.grow s2⟩
  rcases s with s|s
  ·exact s
  ·obtain⟨h1,h2,h3,h4⟩:=A1.fresh s
   exact⟨h4,h1,h2⟩
 |exc q=>exact(hm xs q e).elim
 |bad=>rw[e] at d;exact d.elim
end
noncomputable abbrev PL2:=Addr×List Int
section
variable {X:Cx}
def ZoH (K:W.Frag):List V->Hp->VK->Prop:=fun xs H Q=>∃p,∃ts:List PL2,xs=[.ref p]/\SqL K H p (ts.map fun t=>V.ref t.1) /\
  (∀t∈ts,SqL K H t.1 (t.2.map V.int))/\0<ts.length/\∀t,t∈ts->(∀u∈ts,HT.Ye u.2 t.2=false)->Q (.ref t.1) H
theorem Zmt (hu:X.A.units+1<cLine) (hc:X.calm=true):QD X (.builtin "min") (ZoH X.K):=by
 intro pins s σ H xs us Q I r h
 obtain⟨p,ts,rfl,hq,hall,hne,q⟩:=h
 obtain⟨u,rfl,rx⟩:=Zid r
 cases rx
 obtain⟨its,r',pl,hz⟩:=I.list hq
 have hlen:=r'.length
 rw[Zto] at hlen
 have hlt:p<s.heap.objs.size:=by obtain⟨_,e,_⟩:=pl.isList;exact Heap.lt_size e
 have item:∀i v,its[i]?=some v->∃t:PL2,ts[i]?=some t/\v=Value.ref t.1:=fun i v hv=>by
  have hi:i<its.length:=(Zti.mp hv).1
  have hx:(ts.map fun t=>V.ref t.1)[i]?=some (V.ref (ts[i]'(by omega)).1):=by simp[Ztf (show i<ts.length by omega)]
  obtain⟨w,hw,rw'⟩:=r'.get hx
  rw[hv] at hw;cases hw
  exact⟨ts[i]'(by omega),Ztf (by omega),rw'⟩
 let d0:PL2:=(0,[])
 let key:Nat->List Int:=fun i=>(ts.getD i d0).2
 refine HL.ZhH (wpAny_pyIter_list pl.isList ?_)
 refine⟨s.heap.objs.size,[s.heap.objs.size,p],[s.heap.objs.size],its.toArray.size,_,_,fun i j=>HT.Ye (key i) (key j),rfl,Walks.list (A:=X.A.in1) (I.ok.hd hc) _ p (Zt0 hlt) its.toArray,
  ⟨⟨_,Heap.get?_push_size _ rfl,rfl,rfl⟩,pl.isList.push _⟩,fun b hb=>?_,by rw[Ztp];omega, ?_,fun v h' tk hv hk=>?_⟩
 ·show b<(s.heap.push _).objs.size
  rw[Heap.size_push]
  rcases Ztt.mp hb with rfl|hb
  ·exact Zu0 _
  ·rw[ZtI.mp hb];exact Zup hlt
 ·intro i j vi vj s' Q' E' hi hj hk hQ
  obtain⟨t,et,rfl⟩:=item i vi (by simpa using hi)
  obtain⟨t',et',rfl⟩:=item j vj (by simpa using hj)
  have k':∀b o,s.heap.get? b=some o->s'.heap.get? b=some o:=fun b o e=>by
   have hb:=Heap.lt_size e
   exact hk b o (by simp;exact Zt0 hb) (by show b≠(s.heap.push _).objs.size;rw[Heap.size_push];exact Zt0 (Zup hb)) (Heap.get?_push_of_some _ e)
  have hL:=hall t (Ztg et)
  have hL':=hall t' (Ztg et')
  have I':Inv X pins σ H { s with heap:=s'.heap,toks:=s'.toks }:=I.kept k'
  obtain⟨m,r3,p3,_⟩:=I'.list hL
  obtain⟨m2,r4,p4,_⟩:=I'.list hL'
  have ek:key i=t.2:=by show (ts.getD i d0).2=_;rw[Zte,et];rfl
  have ek':key j=t'.2:=by show (ts.getD j d0).2=_;rw[Zte,et'];rfl
  have hQ2:Q' (Value.bool (HT.Ye t.2 t'.2)) s':=by rw[<- ek,<- ek'];exact hQ
  exact HL.ZfC p3.isList p4.isList (by simpa using U0 r3) (by simpa using U0 r4) (by show X.A.units+1<cLine;omega) hQ2
 ·obtain⟨t,et,rfl⟩:=item _ v (by simpa using hv)
  obtain⟨b1,b2⟩:=HL.ZbZ (bt:=fun i j=>HT.Ye (key i) (key j)) (fun i=>HL.JA _) (fun i j k=>HL.QR) (its.toArray.size-1)
  rw[Ztp] at b1 b2
  refine⟨.ref t.1,H,I.kept (LSm.kept_iter hk),rfl,q t (Ztg et) fun u hu=>?_⟩
  obtain⟨j,hj,rfl⟩:=Zvd hu
  have:=b2 j (by omega)
  have ek:key (argBest (fun i j=>HT.Ye (key i) (key j)) (its.length-1))=t.2:=by
   show (ts.getD _ d0).2=_
   rw[Zte,et];rfl
  rw[ek] at this
  have ej:key j=ts[j].2:=by
   show (ts.getD j d0).2=_
   rw[Zte,Ztf hj];rfl
  rw[ej] at this
  exact this
theorem Zkw {K:W.Frag} (hu:X.A.units+64<cLine) (hc:X.calm=true) (e:X.K=K:=by rfl):QD X (.builtin "min") (ZoH K):=by subst e;exact Zmt (by omega) hc
end
def ZbC (ts:List (List Int)) (t:List Int):Prop:=t∈ts/\∀u∈ts,HT.Ye u t=false
theorem ZbC.uniq {ts:List (List Int)}{t u:List Int} (h:ZbC ts t) (h':ZbC ts u):t=u:=HL.QS (h'.2 t h.1) (h.2 u h'.1)
noncomputable def VP (t:List Int):PV:=.lst (t.map PV.int)
theorem ZlI {a b:List (List Int)} (h:a.map VP=b.map VP):a=b:=by
 induction a generalizing b with
 |nil=>cases b with
  |nil=>rfl
  |cons x b=>simp at h
 |cons x a ih=>cases b with
  |nil=>simp at h
  |cons y b =>
   simp only[Ztv,List.cons.injEq,VP,PV.lst.injEq] at h
   rw[Ze8 h.1,ih h.2]
open Classical in
noncomputable def Zna (x:PV):Rr PV:=if h:∃a:List (List Int)×List Int,x=.lst (a.1.map VP)/\ZbC a.1 a.2 then .ok (VP h.choose.2) else .bad
theorem ZmZ {ts:List (List Int)}{t:List Int} (h:ZbC ts t):Zna (.lst (ts.map VP))=.ok (VP t):=by
 have hex:∃a:List (List Int)×List Int,PV.lst (ts.map VP)=.lst (a.1.map VP)/\ZbC a.1 a.2:=⟨(ts,t),rfl,h⟩
 unfold Zna
 rw[dif_pos hex]
 have hs:=hex.choose_spec
 have e:=ZlI (PV.lst.inj hs.1)
 have h2:=hs.2
 rw[<- e] at h2
 rw[h2.uniq h]
section
variable {K:W.Frag}{B:Addr->Prop}{EX:PX->Hp->Prop}{H0 H H':Hp}{σ:St}{Γ Γ' Γ1 Γ2 Γ3:List Md}{ρ:List PV}{F F':Nat->List Addr}{R:List Addr}{te:TE}{f:List PV->Rr PV}
end
section
variable {K:W.Frag}{B:Addr->Prop}{EX:PX->Hp->Prop}{H0 H H':Hp}{σ:St}{Γ Γ' Γ1 Γ2 Γ3:List Md}{ρ:List PV}{F F':Nat->List Addr}{R:List Addr}{te tb:TE}{f fb:List PV->Rr PV}
end
section
variable {X:Cx}{K:W.Frag}{e tg:Expr}{te:TE}{n2 pos':Pos}
end
section
variable {K:W.Frag}{B:Addr->Prop}{EX:PX->Hp->Prop}{H0 H H':Hp}{σ:St}{Γ Γ':List Md}{ρ:List PV}{F F':Nat->List Addr}{R:List Addr}{te:TE}{f:List PV->Rr PV}
end
end L2
namespace L2
open PySem PyProof.Rows
structure Zc7 (prog:Program) (w:World) (A:Around) (s:Shared) (κ:SortKind) (U:Keyed->Prop) (R:Keyed->Keyed->Bool):Prop where
 ask:∀x y,U x->U y->∀(Q:Bool->Shared->Prop),Q (R x y) s->wpAny (model prog w) A (keyLt' κ x.1 y.1) Q (fun _ _=>False) s
 asy:∀x y,U x->U y->R x y=true->R y x=false
 tr:∀x y z,U x->U y->U z->R y x=false->R z y=false->R z x=false
section
variable {prog:Program}{w:World}{A:Around}{E:Value->Shared->Prop}{s:Shared}{κ:SortKind}{U:Keyed->Prop}{R:Keyed->Keyed->Bool}
theorem Zeg (C:Zc7 prog w A s κ U R) {st:SortSt}{x y:Keyed}{Q:Option Bool->SortSt->Prop} (hk:kindOf st=κ) (ux:U x) (uy:U y) (h:Q (some (R x y)) st):wpS (model prog w) A E s (lt' x y) Q st:=by
 rw[lt'_eq]
 refine wpS_bind (wpS_get ?_)
 rw[hk]
 refine wpS_bind (wpS_lift (wpAny_attempt (wpAny_mono (C.ask x y ux uy (fun b s'=>s'=s/\b=R x y) ⟨rfl,rfl⟩) (fun b s' q=>?_) fun _ _ q=>q.elim)))
 obtain⟨rfl,rfl⟩:=q
 exact⟨rfl,wpS_pure h⟩
theorem Zp {st:SortSt}{arr:Array Keyed}{i:Nat}{x:Keyed}{Q:Keyed->SortSt->Prop} (hx:arr[i]?=some x) (h:Q x st):wpS (model prog w) A E s (elem' arr i) Q st:=by
 rw[elem'_eq,hx]
 exact wpS_pure h
end
noncomputable def Zbb:Bool->Keyed->Array Keyed->Nat->Nat->Nat->StateT SortSt Sem (Option Nat):=sortPriv% PySem.Builtin.gallop
noncomputable def ZjW (left:Bool) (key:Keyed) (arr:Array Keyed) (base:Nat) (i:Nat):StateT SortSt Sem (Option Bool):=do
 let x <- elem' arr (base+i)
 if left then lt' x key else return (<- lt' key x).map (!·)
theorem Zkl (left:Bool) (key:Keyed) (arr:Array Keyed) (base n hint:Nat):Zbb left key arr base n hint=(do
  let mut u:=0
  let mut v:=1
  let mut a:=0
  let mut b:=0
  let some r <- ZjW left key arr base hint|return none
  if r then
   let w:=n-hint
   for _ in [0:n] do
    if v ≥ w then break
    let some m <- ZjW left key arr base (hint+v)|return none
    if !m then break
    u:=v
    v:=2*v+1
   a:=hint+u+1
   b:=hint+min v w
  else
   let w:=hint+1
   for _ in [0:n] do
    if v ≥ w then break
    let some m <- ZjW left key arr base (hint-v)|return none
    if m then break
    u:=v
    v:=2*v+1
   a:=hint+1-min v w
   b:=hint-u
  for _ in [0:n] do
   if a ≥ b then break
   let c:=a+(b-a)/2
   let some m <- ZjW left key arr base c|return none
   if m then a:=c+1 else b:=c
  return some b):=rfl
section
variable {prog:Program}{w:World}{A:Around}{E:Value->Shared->Prop}{s:Shared}{κ:SortKind}{U:Keyed->Prop}{R:Keyed->Keyed->Bool}
structure ZdE (U:Keyed->Prop) (R:Keyed->Keyed->Bool) (left:Bool) (key:Keyed) (arr:Array Keyed) (base n:Nat) (P:Nat->Bool):Prop where
 uk:U key
 it:∀i,i<n->∃x,arr[base+i]?=some x/\U x/\P i=(if left=true then R x key else !R key x)
 mono:∀i j,i<=j->j<n->P j=true->P i=true
theorem Zce (C:Zc7 prog w A s κ U R) {st:SortSt}{left:Bool}{key:Keyed}{arr:Array Keyed}{base n i:Nat}{P:Nat->Bool}{Q:Option Bool->SortSt->Prop} (hk:kindOf st=κ) (K:ZdE U R left key arr base n P) (hi:i<n) (h:Q (some (P i)) st) :
  wpS (model prog w) A E s (ZjW left key arr base i) Q st:=by
 obtain⟨x,hx,ux,hp⟩:=K.it i hi
 unfold ZjW
 refine wpS_bind (Zp hx ?_)
 cases left with
 |true =>
  rw[if_pos rfl] at hp ⊢
  exact Zeg C hk ux K.uk (by rw[<- hp];exact h)
 |false =>
  rw[if_neg (by decide)] at hp ⊢
  exact wpS_bind (Zeg C hk K.uk ux (wpS_pure (by rw[ZuL,<- hp];exact h)))
theorem Y4 (C:Zc7 prog w A s κ U R) {st:SortSt}{left:Bool}{key:Keyed}{arr:Array Keyed}{base n hint:Nat}{P:Nat->Bool}{Q:Option Nat->SortSt->Prop} (hk:kindOf st=κ) (K:ZdE U R left key arr base n P) (hh:hint<n)
  (h:∀k,k<=n->(∀i,i<k->P i=true)->(∀i,k<=i->i<n->P i=false)->Q (some k) st):wpS (model prog w) A E s (Zbb left key arr base n hint) Q st:=by
 rw[Zkl]
 refine wpS_bind (Zce C hk K hh ?_)
 dsimp only
 have down:∀{i j},i<=j->j<n->P i=false->P j=false:=fun {i j} h1 h2 h3=>by
  cases hj:P j with
  |false=>rfl
  |true=>rw[K.mono i j h1 h2 hj] at h3;cases h3
 cases hP:P hint with
 |true =>
  rw[if_pos rfl]
  refine wpS_bind (wpS_mono (wpS_forRange (I:=fun x (c:Option (Option Nat)×Nat×Nat) (st':SortSt)=>st'=st/\c.1=none/\P (hint+c.2.1)=true/\hint+c.2.1<n/\c.2.1<c.2.2/\x+1<=c.2.2)
   (Q:=fun(c:Option (Option Nat)×Nat×Nat) (st':SortSt)=>st'=st/\c.1=none/\P (hint+c.2.1)=true/\hint+c.2.1<n/\c.2.1<c.2.2/\(n-hint<=c.2.2\/(c.2.2<n-hint/\P (hint+c.2.2)=false))) ?_ ?_ ⟨rfl,rfl,by simpa using hP,by simpa using hh,Nat.zero_lt_one,Ztj _⟩) ?_)
  ·rintro x ⟨o,u,v⟩ st' _ hx ⟨rfl,rfl,q1,q2,q3,q4⟩
   dsimp only at q1 q2 q3 q4 ⊢
   by_cases hv:v ≥ n-hint
   ·rw[if_pos hv]
    exact wpS_pure ⟨rfl,rfl,q1,q2,q3,.inl hv⟩
   ·rw[if_neg hv]
    refine wpS_bind (Zce C hk K (by omega) ?_)
    dsimp only
    cases hm:P (hint+v) with
    |true =>
     rw[if_neg (by decide)]
     exact wpS_pure ⟨rfl,rfl,hm,by dsimp only;omega,by dsimp only;omega,by dsimp only;omega⟩
    |false =>
     rw[if_pos (by decide)]
     exact wpS_pure ⟨rfl,rfl,q1,q2,q3,.inr ⟨by dsimp only;omega,hm⟩⟩
  ·rintro⟨o,u,v⟩ st' ⟨rfl,rfl,q1,q2,q3,q4⟩
   dsimp only at q1 q2 q3 q4 ⊢
   exact⟨rfl,rfl,q1,q2,q3,.inl (by omega)⟩
  rintro⟨o,u,v⟩ st' ⟨hst,rfl,q1,q2,q3,q4⟩
  have hst:=hst.symm
  subst hst
  dsimp only at q1 q2 q3 q4 ⊢
  have ab:hint+u+1<=hint+min v (n-hint):=by omega
  have bn:hint+min v (n-hint)<=n:=by omega
  have pa:∀i,i<hint+u+1->P i=true:=fun i hi=>K.mono i (hint+u) (by omega) (by omega) q1
  have pb:∀i,hint+min v (n-hint)<=i->i<n->P i=false:=fun i h1 h2=>by
   rcases q4 with q4|⟨q4,q5⟩
   ·omega
   ·exact down (by omega) h2 q5
  refine wpS_bind (wpS_mono (wpS_forRange (I:=fun x (c:Option (Option Nat)×Nat×Nat) (st':SortSt)=>st'=st/\c.1=none/\c.2.1<=c.2.2/\c.2.2<=n/\(∀i,i<c.2.1->P i=true)/\(∀i,c.2.2<=i->i<n->P i=false)/\c.2.2-c.2.1<=n-x)
   (Q:=fun(c:Option (Option Nat)×Nat×Nat) (st':SortSt)=>st'=st/\c.1=none/\c.2.1=c.2.2/\c.2.2<=n/\(∀i,i<c.2.1->P i=true)/\(∀i,c.2.2<=i->i<n->P i=false)) ?_ ?_ ⟨rfl,rfl,ab,bn,pa,pb,by dsimp only;omega⟩) ?_)
  ·rintro x ⟨o,a,b⟩ st' _ hx ⟨rfl,rfl,q1,q2,q3,q4,q5⟩
   dsimp only at q1 q2 q3 q4 q5 ⊢
   by_cases hab:a ≥ b
   ·rw[if_pos hab]
    exact wpS_pure ⟨rfl,rfl,by dsimp only;omega,q2,q3,q4⟩
   ·rw[if_neg hab]
    refine wpS_bind (Zce C hk K (by omega) ?_)
    dsimp only
    cases hm:P (a+(b-a)/2) with
    |true =>
     rw[if_pos rfl]
     exact wpS_pure ⟨rfl,rfl,by dsimp only;omega,q2,fun i hi=>K.mono i (a+(b-a)/2) (by dsimp only at hi;omega) (by omega) hm,q4,by dsimp only;omega⟩
    |false =>
     rw[if_neg (by decide)]
     refine wpS_pure ⟨rfl,rfl,by dsimp only;omega,by dsimp only;omega,q3,fun i h1 h2=>?_,by dsimp only;omega⟩
     cases hi:P i with
     |false=>rfl
     |true=>rw[K.mono _ i h1 h2 hi] at hm;cases hm
  ·rintro⟨o,a,b⟩ st' ⟨rfl,rfl,q1,q2,q3,q4,q5⟩
   dsimp only at q1 q2 q3 q4 q5 ⊢
   exact⟨rfl,rfl,by omega,q2,q3,q4⟩
  ·rintro⟨o,a,b⟩ st' ⟨rfl,rfl,q1,q2,q3,q4⟩
   dsimp only at q1 q2 q3 q4 ⊢
   exact wpS_pure (h b q2 (by rw[<- q1];exact q3) q4)
 |false =>
  rw[if_neg (by decide)]
  refine wpS_bind (wpS_mono (wpS_forRange (I:=fun x (c:Option (Option Nat)×Nat×Nat) (st':SortSt)=>st'=st/\c.1=none/\P (hint-c.2.1)=false/\c.2.1<=hint/\c.2.1<c.2.2/\x+1<=c.2.2)
   (Q:=fun(c:Option (Option Nat)×Nat×Nat) (st':SortSt)=>st'=st/\c.1=none/\P (hint-c.2.1)=false/\c.2.1<=hint/\c.2.1<c.2.2/\(hint+1<=c.2.2\/(c.2.2<=hint/\P (hint-c.2.2)=true))) ?_ ?_ ⟨rfl,rfl,by simpa using hP,ZtB _,Nat.zero_lt_one,Ztj _⟩) ?_)
  ·rintro x ⟨o,u,v⟩ st' _ hx ⟨rfl,rfl,q1,q2,q3,q4⟩
   dsimp only at q1 q2 q3 q4 ⊢
   by_cases hv:v ≥ hint+1
   ·rw[if_pos hv]
    exact wpS_pure ⟨rfl,rfl,q1,q2,q3,.inl hv⟩
   ·rw[if_neg hv]
    refine wpS_bind (Zce C hk K (by omega) ?_)
    dsimp only
    cases hm:P (hint-v) with
    |true =>
     rw[if_pos rfl]
     exact wpS_pure ⟨rfl,rfl,q1,q2,q3,.inr ⟨by dsimp only;omega,hm⟩⟩
    |false =>
     rw[if_neg (by decide)]
     exact wpS_pure ⟨rfl,rfl,hm,by dsimp only;omega,by dsimp only;omega,by dsimp only;omega⟩
  ·rintro⟨o,u,v⟩ st' ⟨rfl,rfl,q1,q2,q3,q4⟩
   dsimp only at q1 q2 q3 q4 ⊢
   exact⟨rfl,rfl,q1,q2,q3,.inl (by omega)⟩
  rintro⟨o,u,v⟩ st' ⟨hst,rfl,q1,q2,q3,q4⟩
  have hst:=hst.symm
  subst hst
  dsimp only at q1 q2 q3 q4 ⊢
  have ab:hint+1-min v (hint+1)<=hint-u:=by omega
  have bn:hint-u<=n:=by omega
  have pa:∀i,i<hint+1-min v (hint+1)->P i=true:=fun i hi=>by
   rcases q4 with q4|⟨q4,q5⟩
   ·omega
   ·exact K.mono i (hint-v) (by omega) (by omega) q5
  have pb:∀i,hint-u<=i->i<n->P i=false:=fun i h1 h2=>down h1 h2 q1
  refine wpS_bind (wpS_mono (wpS_forRange (I:=fun x (c:Option (Option Nat)×Nat×Nat) (st':SortSt)=>st'=st/\c.1=none/\c.2.1<=c.2.2/\c.2.2<=n/\(∀i,i<c.2.1->P i=true)/\(∀i,c.2.2<=i->i<n->P i=false)/\c.2.2-c.2.1<=n-x)
   (Q:=fun(c:Option (Option Nat)×Nat×Nat) (st':SortSt)=>st'=st/\c.1=none/\c.2.1=c.2.2/\c.2.2<=n/\(∀i,i<c.2.1->P i=true)/\(∀i,c.2.2<=i->i<n->P i=false)) ?_ ?_ ⟨rfl,rfl,ab,bn,pa,pb,by dsimp only;omega⟩) ?_)
  ·rintro x ⟨o,a,b⟩ st' _ hx ⟨rfl,rfl,q1,q2,q3,q4,q5⟩
   dsimp only at q1 q2 q3 q4 q5 ⊢
   by_cases hab:a ≥ b
   ·rw[if_pos hab]
    exact wpS_pure ⟨rfl,rfl,by dsimp only;omega,q2,q3,q4⟩
   ·rw[if_neg hab]
    refine wpS_bind (Zce C hk K (by omega) ?_)
    dsimp only
    cases hm:P (a+(b-a)/2) with
    |true =>
     rw[if_pos rfl]
     exact wpS_pure ⟨rfl,rfl,by dsimp only;omega,q2,fun i hi=>K.mono i (a+(b-a)/2) (by dsimp only at hi;omega) (by omega) hm,q4,by dsimp only;omega⟩
    |false =>
     rw[if_neg (by decide)]
     refine wpS_pure ⟨rfl,rfl,by dsimp only;omega,by dsimp only;omega,q3,fun i h1 h2=>?_,by dsimp only;omega⟩
     cases hi:P i with
     |false=>rfl
     |true=>rw[K.mono _ i h1 h2 hi] at hm;cases hm
  ·rintro⟨o,a,b⟩ st' ⟨rfl,rfl,q1,q2,q3,q4,q5⟩
   dsimp only at q1 q2 q3 q4 q5 ⊢
   exact⟨rfl,rfl,by omega,q2,q3,q4⟩
  ·rintro⟨o,a,b⟩ st' ⟨rfl,rfl,q1,q2,q3,q4⟩
   dsimp only at q1 q2 q3 q4 ⊢
   exact wpS_pure (h b q2 (by rw[<- q1];exact q3) q4)
end
noncomputable def Zgn:Array Keyed->Array Keyed->StateT SortSt Sem (Array Keyed):=sortPriv% PySem.Builtin.mergeLo
noncomputable def Zqh (g:Nat):StateT SortSt Sem Unit:=modify fun s=>SortSt.mk' (kindOf s) (arrOf s) (pendingOf s) g (failedOf s)
noncomputable def endA (a b o:Array Keyed) (i j:Nat):Array Keyed:=o++a.extract i a.size++b.extract j b.size
noncomputable def endB (a b o:Array Keyed) (i j:Nat):Array Keyed:=o++b.extract j b.size++a.extract i a.size
theorem Zin (a b:Array Keyed):Zgn a b=(do
  rule "list.sort.merge-lo"
  let n:=a.size+b.size
  let mut o:Array Keyed:=#[<- elem' b 0]
  let mut i:=0
  let mut j:=1
  if j==b.size then return endA a b o i j
  if i+1==a.size then return endB a b o i j
  let mut g:=gallopOf (<- get)
  for _ in [0:n] do
   let mut x:=0
   let mut y:=0
   for _ in [0:n] do
    let some t <- lt' (<- elem' b j) (<- elem' a i)|return endA a b o i j
    if t then
     o:=o.push (<- elem' b j);j:=j+1;y:=y+1;x:=0
     if j==b.size then return endA a b o i j
     if y ≥ g then break
    else
     o:=o.push (<- elem' a i);i:=i+1;x:=x+1;y:=0
     if i+1==a.size then return endB a b o i j
     if x ≥ g then break
   rule "list.sort.gallop"
   g:=g+1
   for _ in [0:n] do
    if g>1 then g:=g-1
    Zqh g
    let some k <- Zbb false (<- elem' b j) a i (a.size-i) 0|return endA a b o i j
    x:=k
    if k>0 then
     o:=o++a.extract i (i+k);i:=i+k
     if i+1==a.size then return endB a b o i j
     if i==a.size then return endA a b o i j
    o:=o.push (<- elem' b j);j:=j+1
    if j==b.size then return endA a b o i j
    let some k <- Zbb true (<- elem' a i) b j (b.size-j) 0|return endA a b o i j
    y:=k
    if k>0 then
     o:=o++b.extract j (j+k);j:=j+k
     if j==b.size then return endA a b o i j
    o:=o.push (<- elem' a i);i:=i+1
    if i+1==a.size then return endB a b o i j
    if x<7&&y<7 then break
   g:=g+1
   Zqh g
  unsupported "internal:list.sort.merge-bound"):=rfl
def Srt (R:Keyed->Keyed->Bool) (l:List Keyed):Prop:=l.Pairwise fun x y=>R y x=false
structure MI (R:Keyed->Keyed->Bool) (a b o:List Keyed) (i j:Nat):Prop where
 perm:o.Perm (a.take i++b.take j)
 srt:Srt R o
 ga:∀x∈o,∀y∈a.drop i,R y x=false
 gb:∀x∈o,∀y∈b.drop j,R y x=false
 hi:i<=a.length
 hj:j<=b.length
section
variable {R:Keyed->Keyed->Bool}{a b o:List Keyed}{i j:Nat}
theorem Zbz (l:List Keyed) (i k:Nat):(l.drop i).take k++l.drop (i+k)=l.drop i:=by
 rw[<- List.drop_drop];exact Zt6 k (l.drop i)
theorem ZiS (l:List Keyed) (i k:Nat):l.take i++(l.drop i).take k=l.take (i+k):=(List.take_add).symm
theorem Srt.drop {l:List Keyed} (h:Srt R l) (i:Nat):Srt R (l.drop i):=h.sublist (List.drop_sublist i l)
theorem MI.pushA (M:MI R a b o i j) (sa:Srt R a) (k:Nat) (hk:i+k<=a.length) (hle:∀x∈(a.drop i).take k,∀y∈b.drop j,R y x=false):MI R a b (o++(a.drop i).take k) (i+k) j:=by
 have sd:=sa.drop i
 rw[<- Zbz a i k] at sd
 obtain⟨s1,s2,s3⟩:=Ztx.mp sd
 refine⟨?_, ?_, ?_, ?_,hk,M.hj⟩
 ·rw[<- ZiS]
  refine(M.perm.append_right _).trans ?_
  rw[Ztq,Ztq]
  exact List.Perm.append_left _ Zul
 ·exact Ztx.mpr ⟨M.srt,s1,fun x hx y hy=>M.ga x hx y (ZtQ hy)⟩
 ·intro x hx y hy
  rcases Ztk.mp hx with hx|hx
  ·exact M.ga x hx y (by rw[<- Zbz a i k];exact Zth _ hy)
  ·exact s3 x hx y hy
 ·intro x hx y hy
  rcases Ztk.mp hx with hx|hx
  ·exact M.gb x hx y hy
  ·exact hle x hx y hy
theorem MI.pushB (M:MI R a b o i j) (sb:Srt R b) (k:Nat) (hk:j+k<=b.length) (hle:∀x∈(b.drop j).take k,∀y∈a.drop i,R y x=false):MI R a b (o++(b.drop j).take k) i (j+k):=by
 have sd:=sb.drop j
 rw[<- Zbz b j k] at sd
 obtain⟨s1,s2,s3⟩:=Ztx.mp sd
 refine⟨?_, ?_, ?_, ?_,M.hi,hk⟩
 ·rw[<- ZiS]
  refine(M.perm.append_right _).trans ?_
  rw[Ztq]
 ·exact Ztx.mpr ⟨M.srt,s1,fun x hx y hy=>M.gb x hx y (ZtQ hy)⟩
 ·intro x hx y hy
  rcases Ztk.mp hx with hx|hx
  ·exact M.ga x hx y hy
  ·exact hle x hx y hy
 ·intro x hx y hy
  rcases Ztk.mp hx with hx|hx
  ·exact M.gb x hx y (by rw[<- Zbz b j k];exact Zth _ hy)
  ·exact s3 x hx y hy
theorem MI.all_perm (M:MI R a b o i j):(o++(a.drop i++b.drop j)).Perm (a++b):=by
 refine(M.perm.append_right _).trans ?_
 have e1:(a.take i++b.take j++(a.drop i++b.drop j))=a.take i++(b.take j++a.drop i)++b.drop j:=by simp[Ztq]
 rw[e1]
 have p1:(a.take i++(b.take j++a.drop i)++b.drop j).Perm (a.take i++(a.drop i++b.take j)++b.drop j):=(List.Perm.append_left _ Zul).append_right _
 refine p1.trans ?_
 have e2:a.take i++(a.drop i++b.take j)++b.drop j=(a.take i++a.drop i)++(b.take j++b.drop j):=by rw[Ztq,Ztq,Ztq]
 rw[e2,Zt6,Zt6]
theorem MI.endA (M:MI R a b o i j) (sa:Srt R a) (sb:Srt R b) (h:i=a.length\/j=b.length):Srt R (o++(a.drop i++b.drop j))/\(o++(a.drop i++b.drop j)).Perm (a++b):=by
 refine⟨?_,M.all_perm⟩
 refine Ztx.mpr ⟨M.srt, ?_,fun x hx y hy=>?_⟩
 ·rcases h with h|h
  ·rw[h,Zvr,Zuc];exact sb.drop j
  ·rw[h,Zvr,Zub];exact sa.drop i
 ·rcases Ztk.mp hy with hy|hy
  ·exact M.ga x hx y hy
  ·exact M.gb x hx y hy
theorem MI.endB (M:MI R a b o i j) (sa:Srt R a) (sb:Srt R b) (h:∀x∈b.drop j,∀y∈a.drop i,R y x=false):Srt R (o++(b.drop j++a.drop i))/\(o++(b.drop j++a.drop i)).Perm (a++b):=by
 refine⟨?_,(List.Perm.append_left _ Zul).trans M.all_perm⟩
 refine Ztx.mpr ⟨M.srt,Ztx.mpr ⟨sb.drop j,sa.drop i,h⟩,fun x hx y hy=>?_⟩
 rcases Ztk.mp hy with hy|hy
 ·exact M.gb x hx y hy
 ·exact M.ga x hx y hy
end
section
variable {prog:Program}{w:World}{A:Around}{E:Value->Shared->Prop}{s:Shared}{κ:SortKind}{U:Keyed->Prop}{R:Keyed->Keyed->Bool}
noncomputable abbrev ZaG (st:SortSt) (g:Nat):SortSt:=SortSt.mk' (kindOf st) (arrOf st) (pendingOf st) g (failedOf st)
structure MLo (U:Keyed->Prop) (R:Keyed->Keyed->Bool) (a b:Array Keyed):Prop where
 ua:∀x∈a.toList,U x
 ub:∀x∈b.toList,U x
 sa:Srt R a.toList
 sb:Srt R b.toList
 na:0<a.size
 nb:0<b.size
 fst:∀x y,b.toList[0]?=some x->a.toList[0]?=some y->R y x=false
 lst:∀x∈b.toList,∀y,a.toList[a.size-1]?=some y->R y x=false
theorem Zc7.irr (C:Zc7 prog w A s κ U R) {x:Keyed} (ux:U x):R x x=false:=by
 cases h:R x x with
 |false=>rfl
 |true=>have:=C.asy x x ux ux h;rw[h] at this;cases this
theorem Zc7.dropLe (C:Zc7 prog w A s κ U R) {l:List Keyed}{i:Nat}{x z:Keyed} (ul:∀y∈l,U y) (hs:Srt R l) (hz:l[i]?=some z) (ux:U x) (h:R z x=false):∀y∈l.drop i,R y x=false:=fun y hy=>by
 have hi:=(Zti.mp hz).1
 have e:l.drop i=z::l.drop (i+1):=by
  rw[Zty hi]
  rw[Ztf hi] at hz
  cases hz;rfl
 have uz:U z:=ul z (Ztg hz)
 have sd:=hs.drop i
 rw[e] at sd hy
 rcases Ztt.mp hy with rfl|hy'
 ·exact h
 ·have h2:=(Zug.mp sd).1 y hy'
  exact C.tr x z y ux uz (ul y (ZtJ hy')) h h2
theorem Srt.le (C:Zc7 prog w A s κ U R) {l:List Keyed} (ul:∀y∈l,U y) (hs:Srt R l) {i j:Nat}{x y:Keyed} (hij:i<=j) (hx:l[i]?=some x) (hy:l[j]?=some y):R y x=false:=by
 by_cases e:i=j
 ·subst e
  rw[hx] at hy;cases hy
  exact C.irr (ul x (Ztg hx))
 ·have hi:=(Zti.mp hx)
  have hj:=(Zti.mp hy)
  have:=Zu9.mp hs i j hi.1 hj.1 (by omega)
  rw[hi.2,hj.2] at this
  exact this
theorem ZmF (a b o:Array Keyed) (i j:Nat):(endA a b o i j).toList=o.toList++(a.toList.drop i++b.toList.drop j):=by
 simp only[endA,Zvg,Zuv,Ztq,ZtO]
 rw[ZtD (by simp),ZtD (by simp)]
theorem ZmE (a b o:Array Keyed) (i j:Nat):(endB a b o i j).toList=o.toList++(b.toList.drop j++a.toList.drop i):=by
 simp only[endB,Zvg,Zuv,Ztq,ZtO]
 rw[ZtD (by simp),ZtD (by simp)]
theorem ZdU {l:List Keyed}{i:Nat}{x:Keyed} (h:l[i]?=some x):(l.drop i).take 1=[x]:=by
 have hi:=(Zti.mp h)
 rw[Zty hi.1,hi.2];rfl
theorem ZcP {l:List Keyed}{i k:Nat}{x:Keyed} (h:x∈(l.drop i).take k):∃t,t<k/\l[i+t]?=some x:=by
 obtain⟨t,ht⟩:=Zui h
 rw[ZtS] at ht
 split at ht
 ·rename_i hk
  rw[ZtL] at ht
  exact⟨t,hk,ht⟩
 ·cases ht
theorem VE {l:List Keyed}{i:Nat}{x:Keyed} (h:x∈l.drop i):∃t,l[i+t]?=some x:=by
 obtain⟨t,ht⟩:=Zui h
 rw[ZtL] at ht
 exact⟨t,ht⟩
theorem ZmR (C:Zc7 prog w A s κ U R) {l:Array Keyed}{key:Keyed}{i:Nat} (ul:∀y∈l.toList,U y) (hs:Srt R l.toList) (uk:U key) (hi:i<=l.size) :
  ZdE U R false key l i (l.size-i) (fun t=>!R key (l.getD (i+t) (.none,.none))):=by
 have get:∀t,t<l.size-i->l.toList[i+t]?=some (l.getD (i+t) (.none,.none))/\l[i+t]?=some (l.getD (i+t) (.none,.none)):=fun t ht=>by
  have hlt:i+t<l.size:=by omega
  have e:l.getD (i+t) (.none,.none)=l[i+t]:=by simp[Array.getD,hlt]
  rw[e]
  exact⟨by simp[hlt],by simp[hlt]⟩
 refine⟨uk,fun t ht=>⟨_,(get t ht).2,ul _ (Ztg (get t ht).1),by rw[if_neg (by decide)]⟩,fun t u htu hu h=>?_⟩
 have hu':=get u hu
 have ht':=get t (by omega)
 have h1:R key (l.getD (i+u) (.none,.none))=false:=by simpa using h
 have h2:=Srt.le C ul hs (show i+t<=i+u by omega) ht'.1 hu'.1
 have:=C.tr _ _ key (ul _ (Ztg ht'.1)) (ul _ (Ztg hu'.1)) uk h2 h1
 show (!R key _)=true
 rw[this];rfl
theorem Zhh (C:Zc7 prog w A s κ U R) {l:Array Keyed}{key:Keyed}{i:Nat} (ul:∀y∈l.toList,U y) (hs:Srt R l.toList) (uk:U key) (hi:i<=l.size) :
  ZdE U R true key l i (l.size-i) (fun t=>R (l.getD (i+t) (.none,.none)) key):=by
 have get:∀t,t<l.size-i->l.toList[i+t]?=some (l.getD (i+t) (.none,.none))/\l[i+t]?=some (l.getD (i+t) (.none,.none)):=fun t ht=>by
  have hlt:i+t<l.size:=by omega
  have e:l.getD (i+t) (.none,.none)=l[i+t]:=by simp[Array.getD,hlt]
  rw[e]
  exact⟨by simp[hlt],by simp[hlt]⟩
 refine⟨uk,fun t ht=>⟨_,(get t ht).2,ul _ (Ztg (get t ht).1),by rw[if_pos rfl]⟩,fun t u htu hu h=>?_⟩
 have hu':=get u hu
 have ht':=get t (by omega)
 cases hc:R (l.getD (i+t) (.none,.none)) key with
 |true=>rfl
 |false =>
  have h2:=Srt.le C ul hs (show i+t<=i+u by omega) ht'.1 hu'.1
  have:=C.tr key _ _ uk (ul _ (Ztg ht'.1)) (ul _ (Ztg hu'.1)) hc h2
  rw[this] at h;cases h
end
section
variable {prog:Program}{w:World}{A:Around}{E:Value->Shared->Prop}{s:Shared}{κ:SortKind}{U:Keyed->Prop}{R:Keyed->Keyed->Bool}
def Zdy (R:Keyed->Keyed->Bool) (a b:Array Keyed) (st:SortSt) (r:Array Keyed) (st':SortSt):Prop:=Srt R r.toList/\r.toList.Perm (a.toList++b.toList)/\∃g,st'=ZaG st g
def JLo (R:Keyed->Keyed->Bool) (a b:Array Keyed) (st:SortSt) (o:Array Keyed) (i j:Nat) (st':SortSt):Prop:=MI R a.toList b.toList o.toList i j/\i+1<a.size/\j<b.size/\∃g,st'=ZaG st g
theorem Zbo {st:SortSt}{g:Nat}{Q:Unit->SortSt->Prop} (h:Q () (ZaG st g)):wpS (model prog w) A E s (Zqh g) Q st:=wpS_modify h
theorem Vh {l:Array Keyed}{i:Nat} (h:i<l.size):∃x,l[i]?=some x/\l.toList[i]?=some x/\x∈l.toList:=
 ⟨l[i],by simp[h],by simp[h],by simp⟩
section
variable {st st':SortSt}{a b o:Array Keyed}{i j:Nat}
theorem MLo.finA (M:MLo U R a b) (m:MI R a.toList b.toList o.toList i j) (h:i=a.size\/j=b.size) (hg:∃g,st'=ZaG st g):Zdy R a b st (endA a b o i j) st':=by
 obtain⟨h1,h2⟩:=m.endA M.sa M.sb (by simpa using h)
 rw[<- ZmF] at h1 h2
 exact⟨h1,h2,hg⟩
theorem MLo.finB (M:MLo U R a b) (m:MI R a.toList b.toList o.toList i j) (h:i+1=a.size) (hg:∃g,st'=ZaG st g):Zdy R a b st (endB a b o i j) st':=by
 obtain⟨h1,h2⟩:=m.endB M.sa M.sb fun x hx y hy=>M.lst x (ZtJ hx) y (by
  obtain⟨t,ht⟩:=VE hy
  have hl:=(Zti.mp ht).1
  rw[Ztn] at hl
  rw[show a.size-1=i+t by omega];exact ht)
 rw[<- ZmE] at h1 h2
 exact⟨h1,h2,hg⟩
theorem MLo.a1 (C:Zc7 prog w A s κ U R) (M:MLo U R a b) (m:MI R a.toList b.toList o.toList i j) {x:Keyed} (hx:a.toList[i]?=some x) (hle:∀y∈b.toList.drop j,R y x=false):MI R a.toList b.toList (o.push x).toList (i+1) j:=by
 have hi:=(Zti.mp hx).1
 have:=m.pushA M.sa 1 (by omega) (by rw[ZdU hx];intro y hy;rw[ZtI.mp hy];exact hle)
 rw[ZdU hx] at this
 rw[ZuO];exact this
theorem MLo.b1 (C:Zc7 prog w A s κ U R) (M:MLo U R a b) (m:MI R a.toList b.toList o.toList i j) {x:Keyed} (hx:b.toList[j]?=some x) (hle:∀y∈a.toList.drop i,R y x=false):MI R a.toList b.toList (o.push x).toList i (j+1):=by
 have hj:=(Zti.mp hx).1
 have:=m.pushB M.sb 1 (by omega) (by rw[ZdU hx];intro y hy;rw[ZtI.mp hy];exact hle)
 rw[ZdU hx] at this
 rw[ZuO];exact this
theorem ZcD (l:Array Keyed) (i k:Nat):(o++l.extract i (i+k)).toList=o.toList++(l.toList.drop i).take k:=by
 simp only[Zvg,Zuv,ZtO]
 rw[show i+k-i=k by omega]
end
theorem Y7 {l:Array Keyed}{i:Nat}{x:Keyed} (h:l.toList[i]?=some x):l.getD i (.none,.none)=x:=by
 have hi:=Zti.mp h
 have hs:i<l.size:=by simpa using hi.1
 simp only[Array.getD,hs,dif_pos]
 exact hi.2
theorem Zia (C:Zc7 prog w A s κ U R) {st:SortSt}{a b:Array Keyed}{Q:Array Keyed->SortSt->Prop} (hk:kindOf st=κ) (M:MLo U R a b)
  (h:∀o st',Zdy R a b st o st'->Q o st'):wpS (model prog w) A E s (Zgn a b) Q st:=by
 rw[Zin]
 obtain⟨b0,hb0,hb0l,hb0m⟩:=Vh M.nb
 obtain⟨a0,ha0,ha0l,ha0m⟩:=Vh M.na
 refine wpS_bind (wpS_lift (wpAny_rule ⟨rfl, ?_⟩))
 refine wpS_bind (Zp hb0 ?_)
 dsimp only
 have m0:MI R a.toList b.toList (#[]:Array Keyed).toList 0 0:=⟨by simp,List.Pairwise.nil,fun x hx=>by simp at hx,fun x hx=>by simp at hx,ZtB _,ZtB _⟩
 have m1:MI R a.toList b.toList (#[b0]:Array Keyed).toList 0 1:=MLo.b1 C M m0 hb0l (C.dropLe M.ua M.sa ha0l (M.ub _ hb0m) (M.fst _ _ hb0l ha0l))
 have g0:∃g,st=ZaG st g:=⟨gallopOf st,rfl⟩
 by_cases c1:1=b.size
 ·rw[if_pos (by simpa using c1)]
  exact wpS_pure (h _ _ (M.finA m1 (.inr c1) g0))
 rw[if_neg (by simpa using c1)]
 by_cases c2:0+1=a.size
 ·rw[if_pos (by simpa using c2)]
  exact wpS_pure (h _ _ (M.finB m1 c2 g0))
 rw[if_neg (by simpa using c2)]
 refine wpS_bind (wpS_get ?_)
 have na:=M.na
 have nb:=M.nb
 refine wpS_bind (wpS_mono (wpS_forRange
  (I:=fun x (c:Option (Array Keyed)×Array Keyed×Nat×Nat×Nat) (st':SortSt)=>c.1=none/\JLo R a b st c.2.1 c.2.2.1 c.2.2.2.1 st'/\x+1<=c.2.2.1+c.2.2.2.1)
  (Q:=fun(c:Option (Array Keyed)×Array Keyed×Nat×Nat×Nat) (st':SortSt)=>∃r,c.1=some r/\Zdy R a b st r st') ?step ?fin ⟨rfl,⟨m1,by dsimp only;omega,by dsimp only;omega,g0⟩,Ztj _⟩) ?post)
 case fin =>
  rintro⟨o1,o,i,j,g⟩ st' ⟨h1,⟨h2,h3,h4,h5⟩,h6⟩
  dsimp only at h3 h4 h6
  omega
 case post =>
  rintro⟨o1,o,i,j,g⟩ st' ⟨r,h1,h2⟩
  dsimp only at h1
  subst h1
  exact wpS_pure (h _ _ h2)
 case step =>
  rintro x ⟨o1,o,i,j,g⟩ st1 _ hx ⟨rfl,J,hm⟩
  dsimp only at J hm ⊢
  refine wpS_bind (wpS_mono (wpS_forRange
   (I:=fun x' (c:Option (Array Keyed)×Array Keyed×Nat×Nat×Nat×Nat) (st':SortSt)=>c.1=none/\JLo R a b st c.2.1 c.2.2.1 c.2.2.2.1 st'/\i+j+x'<=c.2.2.1+c.2.2.2.1)
   (Q:=fun(c:Option (Array Keyed)×Array Keyed×Nat×Nat×Nat×Nat) (st':SortSt)=>(∃r,c.1=some r/\Zdy R a b st r st')\/(c.1=none/\JLo R a b st c.2.1 c.2.2.1 c.2.2.2.1 st'/\i+j+1<=c.2.2.1+c.2.2.2.1)) ?step1 ?fin1 ⟨rfl,J,Ztj _⟩) ?post1)
  case fin1 =>
   rintro⟨o1,o',i',j',u,v⟩ st' ⟨h1,h2,h3⟩
   dsimp only at h1 h2 h3
   exact .inr ⟨h1,h2,by dsimp only;omega⟩
  case step1 =>
   rintro x' ⟨o1,o',i',j',u,v⟩ st' _ hx' ⟨rfl,⟨m,hi,hj,gs,rfl⟩,hp⟩
   dsimp only at m hi hj hp ⊢
   obtain⟨y,hy,hyl,hym⟩:=Vh hj
   obtain⟨z,hz,hzl,hzm⟩:=Vh (show i'<a.size by omega)
   refine wpS_bind (Zp hy (wpS_bind (Zp hz (wpS_bind (Zeg C hk (M.ub _ hym) (M.ua _ hzm) ?_)))))
   dsimp only
   cases hR:R y z with
   |true =>
    rw[if_pos rfl]
    refine wpS_bind (Zp hy ?_)
    have m2:=MLo.b1 C M m hyl (C.dropLe M.ua M.sa hzl (M.ub _ hym) (C.asy _ _ (M.ub _ hym) (M.ua _ hzm) hR))
    by_cases e1:j'+1=b.size
    ·rw[if_pos (by simpa using e1)]
     exact wpS_pure (.inl ⟨_,rfl,M.finA m2 (.inr e1) ⟨gs,rfl⟩⟩)
    ·rw[if_neg (by simpa using e1)]
     have J2:JLo R a b st (o'.push y) i' (j'+1) (ZaG st gs):=⟨m2,hi,by omega,gs,rfl⟩
     split
     ·exact wpS_pure (.inr ⟨rfl,J2,by dsimp only;omega⟩)
     ·exact wpS_pure ⟨rfl,J2,by dsimp only;omega⟩
   |false =>
    rw[if_neg (by decide)]
    refine wpS_bind (Zp hz ?_)
    have m2:=MLo.a1 C M m hzl (C.dropLe M.ub M.sb hyl (M.ua _ hzm) hR)
    by_cases e1:i'+1+1=a.size
    ·rw[if_pos (by simpa using e1)]
     exact wpS_pure (.inl ⟨_,rfl,M.finB m2 e1 ⟨gs,rfl⟩⟩)
    ·rw[if_neg (by simpa using e1)]
     have J2:JLo R a b st (o'.push z) (i'+1) j' (ZaG st gs):=⟨m2,by omega,hj,gs,rfl⟩
     split
     ·exact wpS_pure (.inr ⟨rfl,J2,by dsimp only;omega⟩)
     ·exact wpS_pure ⟨rfl,J2,by dsimp only;omega⟩
  case post1 =>
   rintro⟨o1,o',i',j',u,v⟩ st' (⟨r,h1,h2⟩|⟨h1,h2,h3⟩)
   ·dsimp only at h1 h2 ⊢
    subst h1
    exact wpS_pure ⟨r,rfl,h2⟩
   ·dsimp only at h1 h2 h3 ⊢
    subst h1
    refine wpS_bind (wpS_lift (wpAny_rule ⟨rfl, ?_⟩))
    refine wpS_bind (wpS_mono (wpS_forRange
     (I:=fun _ (c:Option (Array Keyed)×Array Keyed×Nat×Nat×Nat×Nat×Nat) (st':SortSt)=>c.1=none/\JLo R a b st c.2.1 c.2.2.1 c.2.2.2.1 st'/\x+1+1<=c.2.2.1+c.2.2.2.1)
     (Q:=fun(c:Option (Array Keyed)×Array Keyed×Nat×Nat×Nat×Nat×Nat) (st':SortSt)=>(∃r,c.1=some r/\Zdy R a b st r st')\/(c.1=none/\JLo R a b st c.2.1 c.2.2.1 c.2.2.2.1 st'/\x+1+1<=c.2.2.1+c.2.2.2.1)) ?step2 (fun c st' hc=>.inr hc) ⟨rfl,h2,by dsimp only;omega⟩) ?post2)
    case post2 =>
     rintro⟨o1,o',i',j',g',u,v⟩ st' (⟨r,h1,h2⟩|⟨h1,h2,h3⟩)
     ·dsimp only at h1 h2 ⊢
      subst h1
      exact wpS_pure ⟨r,rfl,h2⟩
     ·dsimp only at h1 h2 h3 ⊢
      subst h1
      obtain⟨m,hi,hj,gs,rfl⟩:=h2
      exact wpS_bind (Zbo (wpS_pure ⟨rfl,⟨m,hi,hj,_,rfl⟩,by dsimp only;omega⟩))
    case step2 =>
     clear h2 h3 J hm m0 m1
     rintro x' ⟨o1,o,i,j,g,u,v⟩ st' _ hx' ⟨rfl,⟨m,hi,hj,gs,rfl⟩,hp⟩
     dsimp only at m hi hj hp ⊢
     obtain⟨y,hy,hyl,hym⟩:=Vh hj
     by_cases hg1:g>1
     ·rw[if_pos hg1]
      refine wpS_bind (Zbo ?_)
      refine wpS_bind (Zp hy (wpS_bind (Y4 C (show kindOf (ZaG _ _)=κ from hk) (ZmR C M.ua M.sa (M.ub _ hym) (show i<=a.size by omega)) (by omega) fun k p1 p2 p3=>?_)))
      dsimp only
      have fb2:∀z∈a.toList.drop (i+k),R z y=false:=fun z hz=>by
       obtain⟨t,ht⟩:=VE hz
       have hl:=(Zti.mp ht).1
       rw[Ztn] at hl
       have:=p3 (k+t) (by omega) (by omega)
       rw[show i+(k+t)=i+k+t by omega,Y7 ht] at this
       exact C.asy _ _ (M.ub _ hym) (M.ua _ (Ztg ht)) (by simpa using this)
      by_cases hk1:k>0
      ·rw[if_pos hk1]
       have m2:=m.pushA M.sa k (by rw[Ztn];omega) (fun x hx z hz=>by
        obtain⟨t,htk,ht⟩:=ZcP hx
        have h1:=p2 t htk
        rw[Y7 ht] at h1
        exact C.dropLe M.ub M.sb hyl (M.ua x (Ztg ht)) (by simpa using h1) z hz)
       rw[<- ZcD] at m2
       by_cases e0:i+k+1=a.size
       ·rw[if_pos (by simpa using e0)]
        exact wpS_pure (.inl ⟨_,rfl,M.finB m2 e0 ⟨_,rfl⟩⟩)
       rw[if_neg (by simpa using e0)]
       by_cases e1:i+k=a.size
       ·rw[if_pos (by simpa using e1)]
        exact wpS_pure (.inl ⟨_,rfl,M.finA m2 (.inl e1) ⟨_,rfl⟩⟩)
       rw[if_neg (by simpa using e1)]
       have fb:=fb2
       refine wpS_bind (Zp hy ?_)
       have m2':=MLo.b1 C M m2 hyl fb
       by_cases e2:j+1=b.size
       ·rw[if_pos (by simpa using e2)]
        exact wpS_pure (.inl ⟨_,rfl,M.finA m2' (.inr e2) ⟨_,rfl⟩⟩)
       rw[if_neg (by simpa using e2)]
       obtain⟨z,hz,hzl,hzm⟩:=Vh (show i+k<a.size by omega)
       refine wpS_bind (Zp hz (wpS_bind (Y4 C hk (Zhh C M.ub M.sb (M.ua _ hzm) (show j+1<=b.size by omega)) (by omega) fun k2 q1 q2 q3=>?_)))
       dsimp only
       have fz2:∀y∈b.toList.drop (j+1+k2),R y z=false:=fun y hy=>by
        obtain⟨t,ht⟩:=VE hy
        have hl:=(Zti.mp ht).1
        rw[Ztn] at hl
        have:=q3 (k2+t) (by omega) (by omega)
        rw[show j+1+(k2+t)=j+1+k2+t by omega,Y7 ht] at this
        exact this
       by_cases hk2:k2>0
       ·rw[if_pos hk2]
        have m3:=m2'.pushB M.sb k2 (by rw[Ztn];omega) (fun x hx y hy=>by
         obtain⟨t,htk,ht⟩:=ZcP hx
         have h1:=q2 t htk
         rw[Y7 ht] at h1
         have ux:=M.ub x (Ztg ht)
         have h2:=C.dropLe M.ua M.sa hzl ux (C.asy _ _ ux (M.ua _ hzm) h1)
         exact h2 y hy)
        rw[<- ZcD] at m3
        by_cases e3:j+1+k2=b.size
        ·rw[if_pos (by simpa using e3)]
         exact wpS_pure (.inl ⟨_,rfl,M.finA m3 (.inr e3) ⟨_,rfl⟩⟩)
        rw[if_neg (by simpa using e3)]
        have hj3:j+1+k2<b.size:=by omega
        have fz:=fz2
        refine wpS_bind (Zp hz ?_)
        have m4:=MLo.a1 C M m3 hzl fz
        by_cases e4:i+k+1+1=a.size
        ·rw[if_pos (by simpa using e4)]
         exact wpS_pure (.inl ⟨_,rfl,M.finB m4 e4 ⟨_,rfl⟩⟩)
        ·rw[if_neg (by simpa using e4)]
         split
         ·exact wpS_pure (.inr ⟨rfl,⟨m4,by dsimp only;omega,hj3,_,rfl⟩,by dsimp only;omega⟩)
         ·exact wpS_pure ⟨rfl,⟨m4,by dsimp only;omega,hj3,_,rfl⟩,by dsimp only;omega⟩
       ·rw[if_neg hk2]
        obtain rfl:k2=0:=by omega
        have m3:=m2'
        have hj3:j+1<b.size:=by omega
        have fz:∀y∈b.toList.drop (j+1),R y z=false:=fz2
        refine wpS_bind (Zp hz ?_)
        have m4:=MLo.a1 C M m3 hzl fz
        by_cases e4:i+k+1+1=a.size
        ·rw[if_pos (by simpa using e4)]
         exact wpS_pure (.inl ⟨_,rfl,M.finB m4 e4 ⟨_,rfl⟩⟩)
        ·rw[if_neg (by simpa using e4)]
         split
         ·exact wpS_pure (.inr ⟨rfl,⟨m4,by dsimp only;omega,hj3,_,rfl⟩,by dsimp only;omega⟩)
         ·exact wpS_pure ⟨rfl,⟨m4,by dsimp only;omega,hj3,_,rfl⟩,by dsimp only;omega⟩
      ·rw[if_neg hk1]
       obtain rfl:k=0:=by omega
       have m2:=m
       have fb:∀z∈a.toList.drop i,R z y=false:=fb2
       refine wpS_bind (Zp hy ?_)
       have m2':=MLo.b1 C M m2 hyl fb
       by_cases e2:j+1=b.size
       ·rw[if_pos (by simpa using e2)]
        exact wpS_pure (.inl ⟨_,rfl,M.finA m2' (.inr e2) ⟨_,rfl⟩⟩)
       rw[if_neg (by simpa using e2)]
       obtain⟨z,hz,hzl,hzm⟩:=Vh (show i<a.size by omega)
       refine wpS_bind (Zp hz (wpS_bind (Y4 C hk (Zhh C M.ub M.sb (M.ua _ hzm) (show j+1<=b.size by omega)) (by omega) fun k2 q1 q2 q3=>?_)))
       dsimp only
       have fz2:∀y∈b.toList.drop (j+1+k2),R y z=false:=fun y hy=>by
        obtain⟨t,ht⟩:=VE hy
        have hl:=(Zti.mp ht).1
        rw[Ztn] at hl
        have:=q3 (k2+t) (by omega) (by omega)
        rw[show j+1+(k2+t)=j+1+k2+t by omega,Y7 ht] at this
        exact this
       by_cases hk2:k2>0
       ·rw[if_pos hk2]
        have m3:=m2'.pushB M.sb k2 (by rw[Ztn];omega) (fun x hx y hy=>by
         obtain⟨t,htk,ht⟩:=ZcP hx
         have h1:=q2 t htk
         rw[Y7 ht] at h1
         have ux:=M.ub x (Ztg ht)
         have h2:=C.dropLe M.ua M.sa hzl ux (C.asy _ _ ux (M.ua _ hzm) h1)
         exact h2 y hy)
        rw[<- ZcD] at m3
        by_cases e3:j+1+k2=b.size
        ·rw[if_pos (by simpa using e3)]
         exact wpS_pure (.inl ⟨_,rfl,M.finA m3 (.inr e3) ⟨_,rfl⟩⟩)
        rw[if_neg (by simpa using e3)]
        have hj3:j+1+k2<b.size:=by omega
        have fz:=fz2
        refine wpS_bind (Zp hz ?_)
        have m4:=MLo.a1 C M m3 hzl fz
        by_cases e4:i+1+1=a.size
        ·rw[if_pos (by simpa using e4)]
         exact wpS_pure (.inl ⟨_,rfl,M.finB m4 e4 ⟨_,rfl⟩⟩)
        ·rw[if_neg (by simpa using e4)]
         split
         ·exact wpS_pure (.inr ⟨rfl,⟨m4,by dsimp only;omega,hj3,_,rfl⟩,by dsimp only;omega⟩)
         ·exact wpS_pure ⟨rfl,⟨m4,by dsimp only;omega,hj3,_,rfl⟩,by dsimp only;omega⟩
       ·rw[if_neg hk2]
        obtain rfl:k2=0:=by omega
        have m3:=m2'
        have hj3:j+1<b.size:=by omega
        have fz:∀y∈b.toList.drop (j+1),R y z=false:=fz2
        refine wpS_bind (Zp hz ?_)
        have m4:=MLo.a1 C M m3 hzl fz
        by_cases e4:i+1+1=a.size
        ·rw[if_pos (by simpa using e4)]
         exact wpS_pure (.inl ⟨_,rfl,M.finB m4 e4 ⟨_,rfl⟩⟩)
        ·rw[if_neg (by simpa using e4)]
         split
         ·exact wpS_pure (.inr ⟨rfl,⟨m4,by dsimp only;omega,hj3,_,rfl⟩,by dsimp only;omega⟩)
         ·exact wpS_pure ⟨rfl,⟨m4,by dsimp only;omega,hj3,_,rfl⟩,by dsimp only;omega⟩
     ·rw[if_neg hg1]
      refine wpS_bind (Zbo ?_)
      refine wpS_bind (Zp hy (wpS_bind (Y4 C (show kindOf (ZaG _ _)=κ from hk) (ZmR C M.ua M.sa (M.ub _ hym) (show i<=a.size by omega)) (by omega) fun k p1 p2 p3=>?_)))
      dsimp only
      have fb2:∀z∈a.toList.drop (i+k),R z y=false:=fun z hz=>by
       obtain⟨t,ht⟩:=VE hz
       have hl:=(Zti.mp ht).1
       rw[Ztn] at hl
       have:=p3 (k+t) (by omega) (by omega)
       rw[show i+(k+t)=i+k+t by omega,Y7 ht] at this
       exact C.asy _ _ (M.ub _ hym) (M.ua _ (Ztg ht)) (by simpa using this)
      by_cases hk1:k>0
      ·rw[if_pos hk1]
       have m2:=m.pushA M.sa k (by rw[Ztn];omega) (fun x hx z hz=>by
        obtain⟨t,htk,ht⟩:=ZcP hx
        have h1:=p2 t htk
        rw[Y7 ht] at h1
        exact C.dropLe M.ub M.sb hyl (M.ua x (Ztg ht)) (by simpa using h1) z hz)
       rw[<- ZcD] at m2
       by_cases e0:i+k+1=a.size
       ·rw[if_pos (by simpa using e0)]
        exact wpS_pure (.inl ⟨_,rfl,M.finB m2 e0 ⟨_,rfl⟩⟩)
       rw[if_neg (by simpa using e0)]
       by_cases e1:i+k=a.size
       ·rw[if_pos (by simpa using e1)]
        exact wpS_pure (.inl ⟨_,rfl,M.finA m2 (.inl e1) ⟨_,rfl⟩⟩)
       rw[if_neg (by simpa using e1)]
       have fb:=fb2
       refine wpS_bind (Zp hy ?_)
       have m2':=MLo.b1 C M m2 hyl fb
       by_cases e2:j+1=b.size
       ·rw[if_pos (by simpa using e2)]
        exact wpS_pure (.inl ⟨_,rfl,M.finA m2' (.inr e2) ⟨_,rfl⟩⟩)
       rw[if_neg (by simpa using e2)]
       obtain⟨z,hz,hzl,hzm⟩:=Vh (show i+k<a.size by omega)
       refine wpS_bind (Zp hz (wpS_bind (Y4 C hk (Zhh C M.ub M.sb (M.ua _ hzm) (show j+1<=b.size by omega)) (by omega) fun k2 q1 q2 q3=>?_)))
       dsimp only
       have fz2:∀y∈b.toList.drop (j+1+k2),R y z=false:=fun y hy=>by
        obtain⟨t,ht⟩:=VE hy
        have hl:=(Zti.mp ht).1
        rw[Ztn] at hl
        have:=q3 (k2+t) (by omega) (by omega)
        rw[show j+1+(k2+t)=j+1+k2+t by omega,Y7 ht] at this
        exact this
       by_cases hk2:k2>0
       ·rw[if_pos hk2]
        have m3:=m2'.pushB M.sb k2 (by rw[Ztn];omega) (fun x hx y hy=>by
         obtain⟨t,htk,ht⟩:=ZcP hx
         have h1:=q2 t htk
         rw[Y7 ht] at h1
         have ux:=M.ub x (Ztg ht)
         have h2:=C.dropLe M.ua M.sa hzl ux (C.asy _ _ ux (M.ua _ hzm) h1)
         exact h2 y hy)
        rw[<- ZcD] at m3
        by_cases e3:j+1+k2=b.size
        ·rw[if_pos (by simpa using e3)]
         exact wpS_pure (.inl ⟨_,rfl,M.finA m3 (.inr e3) ⟨_,rfl⟩⟩)
        rw[if_neg (by simpa using e3)]
        have hj3:j+1+k2<b.size:=by omega
        have fz:=fz2
        refine wpS_bind (Zp hz ?_)
        have m4:=MLo.a1 C M m3 hzl fz
        by_cases e4:i+k+1+1=a.size
        ·rw[if_pos (by simpa using e4)]
         exact wpS_pure (.inl ⟨_,rfl,M.finB m4 e4 ⟨_,rfl⟩⟩)
        ·rw[if_neg (by simpa using e4)]
         split
         ·exact wpS_pure (.inr ⟨rfl,⟨m4,by dsimp only;omega,hj3,_,rfl⟩,by dsimp only;omega⟩)
         ·exact wpS_pure ⟨rfl,⟨m4,by dsimp only;omega,hj3,_,rfl⟩,by dsimp only;omega⟩
       ·rw[if_neg hk2]
        obtain rfl:k2=0:=by omega
        have m3:=m2'
        have hj3:j+1<b.size:=by omega
        have fz:∀y∈b.toList.drop (j+1),R y z=false:=fz2
        refine wpS_bind (Zp hz ?_)
        have m4:=MLo.a1 C M m3 hzl fz
        by_cases e4:i+k+1+1=a.size
        ·rw[if_pos (by simpa using e4)]
         exact wpS_pure (.inl ⟨_,rfl,M.finB m4 e4 ⟨_,rfl⟩⟩)
        ·rw[if_neg (by simpa using e4)]
         split
         ·exact wpS_pure (.inr ⟨rfl,⟨m4,by dsimp only;omega,hj3,_,rfl⟩,by dsimp only;omega⟩)
         ·exact wpS_pure ⟨rfl,⟨m4,by dsimp only;omega,hj3,_,rfl⟩,by dsimp only;omega⟩
      ·rw[if_neg hk1]
       obtain rfl:k=0:=by omega
       have m2:=m
       have fb:∀z∈a.toList.drop i,R z y=false:=fb2
       refine wpS_bind (Zp hy ?_)
       have m2':=MLo.b1 C M m2 hyl fb
       by_cases e2:j+1=b.size
       ·rw[if_pos (by simpa using e2)]
        exact wpS_pure (.inl ⟨_,rfl,M.finA m2' (.inr e2) ⟨_,rfl⟩⟩)
       rw[if_neg (by simpa using e2)]
       obtain⟨z,hz,hzl,hzm⟩:=Vh (show i<a.size by omega)
       refine wpS_bind (Zp hz (wpS_bind (Y4 C hk (Zhh C M.ub M.sb (M.ua _ hzm) (show j+1<=b.size by omega)) (by omega) fun k2 q1 q2 q3=>?_)))
       dsimp only
       have fz2:∀y∈b.toList.drop (j+1+k2),R y z=false:=fun y hy=>by
        obtain⟨t,ht⟩:=VE hy
        have hl:=(Zti.mp ht).1
        rw[Ztn] at hl
        have:=q3 (k2+t) (by omega) (by omega)
        rw[show j+1+(k2+t)=j+1+k2+t by omega,Y7 ht] at this
        exact this
       by_cases hk2:k2>0
       ·rw[if_pos hk2]
        have m3:=m2'.pushB M.sb k2 (by rw[Ztn];omega) (fun x hx y hy=>by
         obtain⟨t,htk,ht⟩:=ZcP hx
         have h1:=q2 t htk
         rw[Y7 ht] at h1
         have ux:=M.ub x (Ztg ht)
         have h2:=C.dropLe M.ua M.sa hzl ux (C.asy _ _ ux (M.ua _ hzm) h1)
         exact h2 y hy)
        rw[<- ZcD] at m3
        by_cases e3:j+1+k2=b.size
        ·rw[if_pos (by simpa using e3)]
         exact wpS_pure (.inl ⟨_,rfl,M.finA m3 (.inr e3) ⟨_,rfl⟩⟩)
        rw[if_neg (by simpa using e3)]
        have hj3:j+1+k2<b.size:=by omega
        have fz:=fz2
        refine wpS_bind (Zp hz ?_)
        have m4:=MLo.a1 C M m3 hzl fz
        by_cases e4:i+1+1=a.size
        ·rw[if_pos (by simpa using e4)]
         exact wpS_pure (.inl ⟨_,rfl,M.finB m4 e4 ⟨_,rfl⟩⟩)
        ·rw[if_neg (by simpa using e4)]
         split
         ·exact wpS_pure (.inr ⟨rfl,⟨m4,by dsimp only;omega,hj3,_,rfl⟩,by dsimp only;omega⟩)
         ·exact wpS_pure ⟨rfl,⟨m4,by dsimp only;omega,hj3,_,rfl⟩,by dsimp only;omega⟩
       ·rw[if_neg hk2]
        obtain rfl:k2=0:=by omega
        have m3:=m2'
        have hj3:j+1<b.size:=by omega
        have fz:∀y∈b.toList.drop (j+1),R y z=false:=fz2
        refine wpS_bind (Zp hz ?_)
        have m4:=MLo.a1 C M m3 hzl fz
        by_cases e4:i+1+1=a.size
        ·rw[if_pos (by simpa using e4)]
         exact wpS_pure (.inl ⟨_,rfl,M.finB m4 e4 ⟨_,rfl⟩⟩)
        ·rw[if_neg (by simpa using e4)]
         split
         ·exact wpS_pure (.inr ⟨rfl,⟨m4,by dsimp only;omega,hj3,_,rfl⟩,by dsimp only;omega⟩)
         ·exact wpS_pure ⟨rfl,⟨m4,by dsimp only;omega,hj3,_,rfl⟩,by dsimp only;omega⟩
end
noncomputable def Zgo:Array Keyed->Array Keyed->StateT SortSt Sem (Array Keyed):=sortPriv% PySem.Builtin.mergeHi
noncomputable def hiA (a b o:Array Keyed) (i j:Nat):Array Keyed:=a.extract 0 i++b.extract 0 j++o.reverse
noncomputable def hiB (a b o:Array Keyed) (i j:Nat):Array Keyed:=b.extract 0 j++a.extract 0 i++o.reverse
theorem Zio (a b:Array Keyed):Zgo a b=(do
  rule "list.sort.merge-hi"
  let n:=a.size+b.size
  let mut i:=a.size-1
  let mut j:=b.size
  let mut o:Array Keyed:=#[<- elem' a i]
  if i==0 then return hiA a b o i j
  if j==1 then return hiB a b o i j
  let mut g:=gallopOf (<- get)
  for _ in [0:n] do
   let mut x:=0
   let mut y:=0
   for _ in [0:n] do
    let some t <- lt' (<- elem' b (j-1)) (<- elem' a (i-1))|return hiA a b o i j
    if t then
     i:=i-1;o:=o.push (<- elem' a i);x:=x+1;y:=0
     if i==0 then return hiA a b o i j
     if x ≥ g then break
    else
     j:=j-1;o:=o.push (<- elem' b j);y:=y+1;x:=0
     if j==1 then return hiB a b o i j
     if y ≥ g then break
   rule "list.sort.gallop"
   g:=g+1
   for _ in [0:n] do
    if g>1 then g:=g-1
    Zqh g
    let some q <- Zbb false (<- elem' b (j-1)) a 0 i (i-1)|return hiA a b o i j
    let k:=i-q
    x:=k
    if k>0 then
     o:=o++(a.extract q i).reverse;i:=q
     if i==0 then return hiA a b o i j
    j:=j-1;o:=o.push (<- elem' b j)
    if j==1 then return hiB a b o i j
    let some q <- Zbb true (<- elem' a (i-1)) b 0 j (j-1)|return hiA a b o i j
    let k:=j-q
    y:=k
    if k>0 then
     o:=o++(b.extract q j).reverse;j:=q
     if j==1 then return hiB a b o i j
     if j==0 then return hiA a b o i j
    i:=i-1;o:=o.push (<- elem' a i)
    if i==0 then return hiA a b o i j
    if x<7&&y<7 then break
   g:=g+1
   Zqh g
  unsupported "internal:list.sort.merge-bound"):=rfl
structure MH (R:Keyed->Keyed->Bool) (a b q:List Keyed) (i j:Nat):Prop where
 perm:q.Perm (a.drop i++b.drop j)
 srt:Srt R q
 ga:∀x∈a.take i,∀y∈q,R y x=false
 gb:∀x∈b.take j,∀y∈q,R y x=false
 hi:i<=a.length
 hj:j<=b.length
section
variable {R:Keyed->Keyed->Bool}{a b q:List Keyed}{i j:Nat}
theorem Qz (l:List Keyed) {c i:Nat} (h:c<=i):l.take c++(l.take i).drop c=l.take i:=by
 rw[show l.take c=(l.take i).take c by rw[List.take_take,Nat.min_eq_left h]]
 exact Zt6 c (l.take i)
theorem ZfS (l:List Keyed) {c i:Nat} (h:c<=i):(l.take i).drop c++l.drop i=l.drop c:=by
 have e:l.take c++((l.take i).drop c++l.drop i)=l.take c++l.drop c:=by
  rw[<- Ztq,Qz l h,Zt6,Zt6]
 exact List.append_cancel_left e
theorem Srt.take {l:List Keyed} (h:Srt R l) (i:Nat):Srt R (l.take i):=h.sublist (List.take_sublist i l)
theorem MH.pushA (M:MH R a b q i j) (sa:Srt R a) {c:Nat} (hc:c<=i) (hle:∀x∈b.take j,∀y∈(a.take i).drop c,R y x=false):MH R a b ((a.take i).drop c++q) c j:=by
 have sd:=sa.take i
 rw[<- Qz a hc] at sd
 obtain⟨s1,s2,s3⟩:=Ztx.mp sd
 refine⟨?_, ?_, ?_, ?_,Zt5 hc M.hi,M.hj⟩
 ·refine(List.Perm.append_left _ M.perm).trans ?_
  rw[<- Ztq,ZfS a hc]
 ·exact Ztx.mpr ⟨s2,M.srt,fun x hx y hy=>M.ga x (ZtJ hx) y hy⟩
 ·intro x hx y hy
  rcases Ztk.mp hy with hy|hy
  ·exact s3 x hx y hy
  ·exact M.ga x (by rw[<- Qz a hc];exact Zts _ hx) y hy
 ·intro x hx y hy
  rcases Ztk.mp hy with hy|hy
  ·exact hle x hx y hy
  ·exact M.gb x hx y hy
theorem MH.pushB (M:MH R a b q i j) (sb:Srt R b) {c:Nat} (hc:c<=j) (hle:∀x∈a.take i,∀y∈(b.take j).drop c,R y x=false):MH R a b ((b.take j).drop c++q) i c:=by
 have sd:=sb.take j
 rw[<- Qz b hc] at sd
 obtain⟨s1,s2,s3⟩:=Ztx.mp sd
 refine⟨?_, ?_, ?_, ?_,M.hi,Zt5 hc M.hj⟩
 ·refine(List.Perm.append_left _ M.perm).trans ?_
  rw[<- ZfS b hc]
  have:∀X Y Z:List Keyed,(X++(Y++Z)).Perm (Y++(X++Z)):=fun X Y Z=>by
   rw[<- Ztq,<- Ztq]
   exact List.Perm.append_right _ Zul
  exact this _ _ _
 ·exact Ztx.mpr ⟨s2,M.srt,fun x hx y hy=>M.gb x (ZtJ hx) y hy⟩
 ·intro x hx y hy
  rcases Ztk.mp hy with hy|hy
  ·exact hle x hx y hy
  ·exact M.ga x hx y hy
 ·intro x hx y hy
  rcases Ztk.mp hy with hy|hy
  ·exact s3 x hx y hy
  ·exact M.gb x (by rw[<- Qz b hc];exact Zts _ hx) y hy
theorem MH.all_perm (M:MH R a b q i j):(a.take i++(b.take j++q)).Perm (a++b):=by
 refine(List.Perm.append_left _ (List.Perm.append_left _ M.perm)).trans ?_
 have p1:∀X Y Z W:List Keyed,(X++(Y++(Z++W))).Perm ((X++Z)++(Y++W)):=fun X Y Z W=>by
  rw[Ztq]
  refine List.Perm.append_left _ ?_
  rw[<- Ztq,<- Ztq]
  exact List.Perm.append_right _ Zul
 refine(p1 _ _ _ _).trans ?_
 rw[Zt6,Zt6]
theorem MH.endA (M:MH R a b q i j) (sa:Srt R a) (sb:Srt R b) (h:i=0\/j=0):Srt R (a.take i++(b.take j++q))/\(a.take i++(b.take j++q)).Perm (a++b):=by
 refine⟨?_,M.all_perm⟩
 have sq:Srt R (b.take j++q):=Ztx.mpr ⟨sb.take j,M.srt,M.gb⟩
 refine Ztx.mpr ⟨sa.take i,sq,fun x hx y hy=>?_⟩
 rcases h with h|h
 ·rw[h,List.take_zero] at hx;simp at hx
 ·rw[h,List.take_zero,Zuc] at hy
  exact M.ga x hx y hy
theorem MH.endB (M:MH R a b q i j) (sa:Srt R a) (sb:Srt R b) (h:∀x∈b.take j,∀y∈a.take i,R y x=false):Srt R (b.take j++(a.take i++q))/\(b.take j++(a.take i++q)).Perm (a++b):=by
 refine⟨?_, ?_⟩
 ·refine Ztx.mpr ⟨sb.take j,Ztx.mpr ⟨sa.take i,M.srt,M.ga⟩,fun x hx y hy=>?_⟩
  rcases Ztk.mp hy with hy|hy
  ·exact h x hx y hy
  ·exact M.gb x hx y hy
 ·refine List.Perm.trans ?_ M.all_perm
  rw[<- Ztq,<- Ztq]
  exact List.Perm.append_right _ Zul
end
section
variable {prog:Program}{w:World}{A:Around}{E:Value->Shared->Prop}{s:Shared}{κ:SortKind}{U:Keyed->Prop}{R:Keyed->Keyed->Bool}
theorem ZdE.le {left:Bool}{key:Keyed}{arr:Array Keyed}{base n m:Nat}{P:Nat->Bool} (K:ZdE U R left key arr base m P) (h:n<=m):ZdE U R left key arr base n P:=
 ⟨K.uk,fun i hi=>K.it i (by omega),fun i j h1 h2 h3=>K.mono i j h1 (by omega) h3⟩
theorem Zc7.takeLe (C:Zc7 prog w A s κ U R) {l:List Keyed}{n:Nat}{v z:Keyed} (ul:∀y∈l,U y) (hs:Srt R l) (hn:0<n) (hz:l[n-1]?=some z) (uv:U v) (h:R v z=false):∀x∈l.take n,R v x=false:=fun x hx=>by
 obtain⟨t,ht⟩:=Zui hx
 rw[ZtS] at ht
 split at ht
 ·rename_i htn
  have h1:=Srt.le C ul hs (show t<=n-1 by omega) ht hz
  exact C.tr x z v (ul x (Ztg ht)) (ul z (Ztg hz)) uv h1 h
 ·cases ht
theorem Zcm {l:List Keyed}{i:Nat}{x:Keyed} (h:x∈l.take i):∃t,t<i/\l[t]?=some x:=by
 obtain⟨t,ht⟩:=Zui h
 rw[ZtS] at ht
 split at ht
 ·rename_i hi;exact⟨t,hi,ht⟩
 ·cases ht
theorem Zbu {l:List Keyed}{i c:Nat}{x:Keyed} (h:x∈(l.take i).drop c):∃t,(c<=t/\t<i)/\l[t]?=some x:=by
 obtain⟨t,ht⟩:=Zui h
 rw[ZtL,ZtS] at ht
 split at ht
 ·rename_i hi;exact⟨c+t,by omega,ht⟩
 ·cases ht
theorem ZdV {l:List Keyed}{i:Nat}{x:Keyed} (hi:0<i) (h:l[i-1]?=some x):(l.take i).drop (i-1)=[x]:=by
 have hl:=Zti.mp h
 have e:(l.take i)[i-1]?=some x:=by rw[ZtS,if_pos (by omega),h]
 have h2:=Zti.mp e
 rw[Zty h2.1,h2.2,Zuk (by rw[Zt7];omega)]
theorem Zo7 (a b o:Array Keyed) (i j:Nat):(hiA a b o i j).toList=a.toList.take i++(b.toList.take j++o.toList.reverse):=by
 simp[hiA,Ztq,ZtO]
theorem Zo6 (a b o:Array Keyed) (i j:Nat):(hiB a b o i j).toList=b.toList.take j++(a.toList.take i++o.toList.reverse):=by
 simp[hiB,Ztq,ZtO]
theorem ZcC (l o:Array Keyed) (q i:Nat):(o++(l.extract q i).reverse).toList.reverse=(l.toList.take i).drop q++o.toList.reverse:=by
 simp[ZtO,List.drop_take]
theorem ZiR (o:Array Keyed) (x:Keyed):(o.push x).toList.reverse=[x]++o.toList.reverse:=by simp
def JHi (R:Keyed->Keyed->Bool) (a b:Array Keyed) (st:SortSt) (o:Array Keyed) (i j:Nat) (st':SortSt):Prop:=MH R a.toList b.toList o.toList.reverse i j/\0<i/\1<j/\∃g,st'=ZaG st g
section
variable {st st':SortSt}{a b o:Array Keyed}{i j:Nat}
theorem MLo.hfA (M:MLo U R a b) (m:MH R a.toList b.toList o.toList.reverse i j) (h:i=0\/j=0) (hg:∃g,st'=ZaG st g):Zdy R a b st (hiA a b o i j) st':=by
 obtain⟨h1,h2⟩:=m.endA M.sa M.sb h
 rw[<- Zo7] at h1 h2
 exact⟨h1,h2,hg⟩
theorem MLo.hfB (C:Zc7 prog w A s κ U R) (M:MLo U R a b) (m:MH R a.toList b.toList o.toList.reverse i j) (h:j=1) (hg:∃g,st'=ZaG st g):Zdy R a b st (hiB a b o i j) st':=by
 obtain⟨a0,ha0,ha0l,ha0m⟩:=Vh M.na
 obtain⟨h1,h2⟩:=m.endB M.sa M.sb fun x hx y hy=>by
  obtain⟨t,ht,hx⟩:=Zcm hx
  have ht0:t=0:=by omega
  rw[ht0] at hx
  have:=C.dropLe M.ua M.sa ha0l (M.ub _ (Ztg hx)) (M.fst _ _ hx ha0l)
  rw[Zu2] at this
  exact this y (ZtQ hy)
 rw[<- Zo6] at h1 h2
 exact⟨h1,h2,hg⟩
theorem MLo.ha1 (M:MLo U R a b) (m:MH R a.toList b.toList o.toList.reverse i j) {x:Keyed} (hi:0<i) (hx:a.toList[i-1]?=some x) (hle:∀y∈b.toList.take j,R x y=false):MH R a.toList b.toList (o.push x).toList.reverse (i-1) j:=by
 have:=m.pushA M.sa (c:=i-1) (by omega) (by rw[ZdV hi hx];intro y hy z hz;rw[ZtI.mp hz];exact hle y hy)
 rw[ZdV hi hx] at this
 rw[ZiR];exact this
theorem MLo.hb1 (M:MLo U R a b) (m:MH R a.toList b.toList o.toList.reverse i j) {x:Keyed} (hj:0<j) (hx:b.toList[j-1]?=some x) (hle:∀y∈a.toList.take i,R x y=false):MH R a.toList b.toList (o.push x).toList.reverse i (j-1):=by
 have:=m.pushB M.sb (c:=j-1) (by omega) (by rw[ZdV hj hx];intro y hy z hz;rw[ZtI.mp hz];exact hle y hy)
 rw[ZdV hj hx] at this
 rw[ZiR];exact this
end
theorem Zib (C:Zc7 prog w A s κ U R) {st:SortSt}{a b:Array Keyed}{Q:Array Keyed->SortSt->Prop} (hk:kindOf st=κ) (M:MLo U R a b)
  (h:∀o st',Zdy R a b st o st'->Q o st'):wpS (model prog w) A E s (Zgo a b) Q st:=by
 rw[Zio]
 have na:=M.na
 have nb:=M.nb
 obtain⟨al,hal,hall,halm⟩:=Vh (show a.size-1<a.size by omega)
 refine wpS_bind (wpS_lift (wpAny_rule ⟨rfl, ?_⟩))
 refine wpS_bind (Zp hal ?_)
 dsimp only
 have m0:MH R a.toList b.toList (#[]:Array Keyed).toList.reverse a.size b.size:=⟨by simp,List.Pairwise.nil,fun x _ y hy=>by simp at hy,fun x _ y hy=>by simp at hy,by simp,by simp⟩
 have m1:MH R a.toList b.toList (#[al]:Array Keyed).toList.reverse (a.size-1) b.size:=M.ha1 m0 na hall fun y hy=>M.lst y (ZtQ hy) al hall
 have g0:∃g,st=ZaG st g:=⟨gallopOf st,rfl⟩
 by_cases c1:a.size-1=0
 ·rw[if_pos (by simpa using c1)]
  exact wpS_pure (h _ _ (M.hfA m1 (.inl c1) g0))
 rw[if_neg (by simpa using c1)]
 by_cases c2:b.size=1
 ·rw[if_pos (by simpa using c2)]
  exact wpS_pure (h _ _ (MLo.hfB C M m1 c2 g0))
 rw[if_neg (by simpa using c2)]
 refine wpS_bind (wpS_get ?_)
 refine wpS_bind (wpS_mono (wpS_forRange
  (I:=fun x (c:Option (Array Keyed)×Nat×Nat×Array Keyed×Nat) (st':SortSt)=>c.1=none/\JHi R a b st c.2.2.2.1 c.2.1 c.2.2.1 st'/\c.2.1+c.2.2.1+x+1<=a.size+b.size)
  (Q:=fun(c:Option (Array Keyed)×Nat×Nat×Array Keyed×Nat) (st':SortSt)=>∃r,c.1=some r/\Zdy R a b st r st') ?step ?fin ⟨rfl,⟨m1,by dsimp only;omega,by dsimp only;omega,g0⟩,by dsimp only;omega⟩) ?post)
 case fin =>
  rintro⟨o1,i,j,o,g⟩ st' ⟨h1,⟨h2,h3,h4,h5⟩,h6⟩
  dsimp only at h3 h4 h6
  omega
 case post =>
  rintro⟨o1,i,j,o,g⟩ st' ⟨r,h1,h2⟩
  dsimp only at h1
  subst h1
  exact wpS_pure (h _ _ h2)
 case step =>
  rintro x ⟨o1,i,j,o,g⟩ st1 _ hx ⟨rfl,J,hm⟩
  dsimp only at J hm ⊢
  refine wpS_bind (wpS_mono (wpS_forRange
   (I:=fun x' (c:Option (Array Keyed)×Nat×Nat×Array Keyed×Nat×Nat) (st':SortSt)=>c.1=none/\JHi R a b st c.2.2.2.1 c.2.1 c.2.2.1 st'/\c.2.1+c.2.2.1+x'<=i+j)
   (Q:=fun(c:Option (Array Keyed)×Nat×Nat×Array Keyed×Nat×Nat) (st':SortSt)=>(∃r,c.1=some r/\Zdy R a b st r st')\/(c.1=none/\JHi R a b st c.2.2.2.1 c.2.1 c.2.2.1 st'/\c.2.1+c.2.2.1+1<=i+j)) ?step1 ?fin1 ⟨rfl,J,Ztj _⟩) ?post1)
  case fin1 =>
   rintro⟨o1,i',j',o',u,v⟩ st' ⟨h1,h2,h3⟩
   dsimp only at h1 h2 h3
   exact .inr ⟨h1,h2,by dsimp only;omega⟩
  case step1 =>
   rintro x' ⟨o1,i',j',o',u,v⟩ st' _ hx' ⟨rfl,⟨m,hi,hj,gs,rfl⟩,hp⟩
   dsimp only at m hi hj hp ⊢
   have lia:=m.hi
   have ljb:=m.hj
   rw[Ztn] at lia ljb
   obtain⟨y,hy,hyl,hym⟩:=Vh (show j'-1<b.size by omega)
   obtain⟨z,hz,hzl,hzm⟩:=Vh (show i'-1<a.size by omega)
   refine wpS_bind (Zp hy (wpS_bind (Zp hz (wpS_bind (Zeg C hk (M.ub _ hym) (M.ua _ hzm) ?_)))))
   dsimp only
   cases hR:R y z with
   |true =>
    rw[if_pos rfl]
    refine wpS_bind (Zp hz ?_)
    have m2:=M.ha1 m hi hzl (C.takeLe M.ub M.sb (by omega) hyl (M.ua _ hzm) (C.asy _ _ (M.ub _ hym) (M.ua _ hzm) hR))
    by_cases e1:i'-1=0
    ·rw[if_pos (by simpa using e1)]
     exact wpS_pure (.inl ⟨_,rfl,M.hfA m2 (.inl e1) ⟨gs,rfl⟩⟩)
    ·rw[if_neg (by simpa using e1)]
     have J2:JHi R a b st (o'.push z) (i'-1) j' (ZaG st gs):=⟨m2,by omega,hj,gs,rfl⟩
     split
     ·exact wpS_pure (.inr ⟨rfl,J2,by dsimp only;omega⟩)
     ·exact wpS_pure ⟨rfl,J2,by dsimp only;omega⟩
   |false =>
    rw[if_neg (by decide)]
    refine wpS_bind (Zp hy ?_)
    have m2:=M.hb1 m (by omega) hyl (C.takeLe M.ua M.sa hi hzl (M.ub _ hym) hR)
    by_cases e1:j'-1=1
    ·rw[if_pos (by simpa using e1)]
     exact wpS_pure (.inl ⟨_,rfl,MLo.hfB C M m2 e1 ⟨gs,rfl⟩⟩)
    ·rw[if_neg (by simpa using e1)]
     have J2:JHi R a b st (o'.push y) i' (j'-1) (ZaG st gs):=⟨m2,hi,by omega,gs,rfl⟩
     split
     ·exact wpS_pure (.inr ⟨rfl,J2,by dsimp only;omega⟩)
     ·exact wpS_pure ⟨rfl,J2,by dsimp only;omega⟩
  case post1 =>
   rintro⟨o1,i',j',o',u,v⟩ st' (⟨r,h1,h2⟩|⟨h1,h2,h3⟩)
   ·dsimp only at h1 h2 ⊢
    subst h1
    exact wpS_pure ⟨r,rfl,h2⟩
   ·dsimp only at h1 h2 h3 ⊢
    subst h1
    refine wpS_bind (wpS_lift (wpAny_rule ⟨rfl, ?_⟩))
    refine wpS_bind (wpS_mono (wpS_forRange
     (I:=fun _ (c:Option (Array Keyed)×Nat×Nat×Array Keyed×Nat×Nat×Nat) (st':SortSt)=>c.1=none/\JHi R a b st c.2.2.2.1 c.2.1 c.2.2.1 st'/\c.2.1+c.2.2.1+(x+1)+1<=a.size+b.size)
     (Q:=fun(c:Option (Array Keyed)×Nat×Nat×Array Keyed×Nat×Nat×Nat) (st':SortSt)=>(∃r,c.1=some r/\Zdy R a b st r st')\/(c.1=none/\JHi R a b st c.2.2.2.1 c.2.1 c.2.2.1 st'/\c.2.1+c.2.2.1+(x+1)+1<=a.size+b.size)) ?step2 (fun c st' hc=>.inr hc) ⟨rfl,h2,by dsimp only;omega⟩) ?post2)
    case post2 =>
     rintro⟨o1,i',j',o',g',u,v⟩ st' (⟨r,h1,h2⟩|⟨h1,h2,h3⟩)
     ·dsimp only at h1 h2 ⊢
      subst h1
      exact wpS_pure ⟨r,rfl,h2⟩
     ·dsimp only at h1 h2 h3 ⊢
      subst h1
      obtain⟨m,hi,hj,gs,rfl⟩:=h2
      exact wpS_bind (Zbo (wpS_pure ⟨rfl,⟨m,hi,hj,_,rfl⟩,by dsimp only;omega⟩))
    case step2 =>
     clear h2 h3 J hm m0 m1
     rintro x' ⟨o1,i,j,o,g,u,v⟩ st' _ hx' ⟨rfl,⟨m,hi,hj,gs,rfl⟩,hp⟩
     dsimp only at m hi hj hp ⊢
     have lia:=m.hi
     have ljb:=m.hj
     rw[Ztn] at lia ljb
     obtain⟨y,hy,hyl,hym⟩:=Vh (show j-1<b.size by omega)
     by_cases hg1:g>1
     ·rw[if_pos hg1]
      refine wpS_bind (Zbo ?_)
      refine wpS_bind (Zp hy (wpS_bind (Y4 C (show kindOf (ZaG _ _)=κ from hk) ((ZmR C M.ua M.sa (M.ub _ hym) (ZtB a.size)).le (show i<=a.size-0 by omega)) (by omega) fun q1 p1 p2 p3=>?_)))
      dsimp only
      have fb2:∀z∈a.toList.take q1,R y z=false:=fun z hz=>by
       obtain⟨t,htk,ht⟩:=Zcm hz
       have h1:=p2 t htk
       rw[ZtT,Y7 ht] at h1
       simpa using h1
      by_cases hk1:i-q1>0
      ·rw[if_pos hk1]
       have m2:=m.pushA M.sa (c:=q1) (by omega) (fun x hx z hz=>by
        obtain⟨t,htk,ht⟩:=Zbu hz
        have h1:=p3 t htk.1 htk.2
        rw[ZtT,Y7 ht] at h1
        have uz:=M.ua z (Ztg ht)
        exact C.takeLe M.ub M.sb (by omega) hyl uz (C.asy _ _ (M.ub _ hym) uz (by simpa using h1)) x hx)
       rw[<- ZcC] at m2
       by_cases e0:q1=0
       ·rw[if_pos (by simpa using e0)]
        exact wpS_pure (.inl ⟨_,rfl,M.hfA m2 (.inl e0) ⟨_,rfl⟩⟩)
       rw[if_neg (by simpa using e0)]
       have hi2:0<q1:=by omega
       have fb:=fb2
       refine wpS_bind (Zp hy ?_)
       have m2':=M.hb1 m2 (by omega) hyl fb
       by_cases e2:j-1=1
       ·rw[if_pos (by simpa using e2)]
        exact wpS_pure (.inl ⟨_,rfl,MLo.hfB C M m2' e2 ⟨_,rfl⟩⟩)
       rw[if_neg (by simpa using e2)]
       obtain⟨z,hz,hzl,hzm⟩:=Vh (show q1-1<a.size by omega)
       refine wpS_bind (Zp hz (wpS_bind (Y4 C hk ((Zhh C M.ub M.sb (M.ua _ hzm) (ZtB b.size)).le (show j-1<=b.size-0 by omega)) (by omega) fun q2 r1 r2 r3=>?_)))
       dsimp only
       have fz2:∀y∈b.toList.take q2,R z y=false:=fun y hy=>by
        obtain⟨t,htk,ht⟩:=Zcm hy
        have h1:=r2 t htk
        rw[ZtT,Y7 ht] at h1
        exact C.asy _ _ (M.ub _ (Ztg ht)) (M.ua _ hzm) h1
       by_cases hk2:j-1-q2>0
       ·rw[if_pos hk2]
        have m3:=m2'.pushB M.sb (c:=q2) (by omega) (fun x hx y hy=>by
         obtain⟨t,htk,ht⟩:=Zbu hy
         have h1:=r3 t htk.1 htk.2
         rw[ZtT,Y7 ht] at h1
         exact C.takeLe M.ua M.sa hi2 hzl (M.ub _ (Ztg ht)) h1 x hx)
        rw[<- ZcC] at m3
        by_cases e3:q2=1
        ·rw[if_pos (by simpa using e3)]
         exact wpS_pure (.inl ⟨_,rfl,MLo.hfB C M m3 e3 ⟨_,rfl⟩⟩)
        rw[if_neg (by simpa using e3)]
        by_cases e5:q2=0
        ·rw[if_pos (by simpa using e5)]
         exact wpS_pure (.inl ⟨_,rfl,M.hfA m3 (.inr e5) ⟨_,rfl⟩⟩)
        rw[if_neg (by simpa using e5)]
        have hj3:1<q2:=by omega
        have fz:=fz2
        refine wpS_bind (Zp hz ?_)
        have m4:=M.ha1 m3 hi2 hzl fz
        by_cases e4:q1-1=0
        ·rw[if_pos (by simpa using e4)]
         exact wpS_pure (.inl ⟨_,rfl,M.hfA m4 (.inl e4) ⟨_,rfl⟩⟩)
        ·rw[if_neg (by simpa using e4)]
         split
         ·exact wpS_pure (.inr ⟨rfl,⟨m4,by dsimp only;omega,hj3,_,rfl⟩,by dsimp only;omega⟩)
         ·exact wpS_pure ⟨rfl,⟨m4,by dsimp only;omega,hj3,_,rfl⟩,by dsimp only;omega⟩
       ·rw[if_neg hk2]
        have hq2:q2=j-1:=by omega
        subst hq2
        have m3:=m2'
        have hj3:1<j-1:=by omega
        have fz:=fz2
        refine wpS_bind (Zp hz ?_)
        have m4:=M.ha1 m3 hi2 hzl fz
        by_cases e4:q1-1=0
        ·rw[if_pos (by simpa using e4)]
         exact wpS_pure (.inl ⟨_,rfl,M.hfA m4 (.inl e4) ⟨_,rfl⟩⟩)
        ·rw[if_neg (by simpa using e4)]
         split
         ·exact wpS_pure (.inr ⟨rfl,⟨m4,by dsimp only;omega,hj3,_,rfl⟩,by dsimp only;omega⟩)
         ·exact wpS_pure ⟨rfl,⟨m4,by dsimp only;omega,hj3,_,rfl⟩,by dsimp only;omega⟩
      ·rw[if_neg hk1]
       have hq1:q1=i:=by omega
       subst hq1
       have m2:=m
       have hi2:0<q1:=hi
       have fb:=fb2
       refine wpS_bind (Zp hy ?_)
       have m2':=M.hb1 m2 (by omega) hyl fb
       by_cases e2:j-1=1
       ·rw[if_pos (by simpa using e2)]
        exact wpS_pure (.inl ⟨_,rfl,MLo.hfB C M m2' e2 ⟨_,rfl⟩⟩)
       rw[if_neg (by simpa using e2)]
       obtain⟨z,hz,hzl,hzm⟩:=Vh (show q1-1<a.size by omega)
       refine wpS_bind (Zp hz (wpS_bind (Y4 C hk ((Zhh C M.ub M.sb (M.ua _ hzm) (ZtB b.size)).le (show j-1<=b.size-0 by omega)) (by omega) fun q2 r1 r2 r3=>?_)))
       dsimp only
       have fz2:∀y∈b.toList.take q2,R z y=false:=fun y hy=>by
        obtain⟨t,htk,ht⟩:=Zcm hy
        have h1:=r2 t htk
        rw[ZtT,Y7 ht] at h1
        exact C.asy _ _ (M.ub _ (Ztg ht)) (M.ua _ hzm) h1
       by_cases hk2:j-1-q2>0
       ·rw[if_pos hk2]
        have m3:=m2'.pushB M.sb (c:=q2) (by omega) (fun x hx y hy=>by
         obtain⟨t,htk,ht⟩:=Zbu hy
         have h1:=r3 t htk.1 htk.2
         rw[ZtT,Y7 ht] at h1
         exact C.takeLe M.ua M.sa hi2 hzl (M.ub _ (Ztg ht)) h1 x hx)
        rw[<- ZcC] at m3
        by_cases e3:q2=1
        ·rw[if_pos (by simpa using e3)]
         exact wpS_pure (.inl ⟨_,rfl,MLo.hfB C M m3 e3 ⟨_,rfl⟩⟩)
        rw[if_neg (by simpa using e3)]
        by_cases e5:q2=0
        ·rw[if_pos (by simpa using e5)]
         exact wpS_pure (.inl ⟨_,rfl,M.hfA m3 (.inr e5) ⟨_,rfl⟩⟩)
        rw[if_neg (by simpa using e5)]
        have hj3:1<q2:=by omega
        have fz:=fz2
        refine wpS_bind (Zp hz ?_)
        have m4:=M.ha1 m3 hi2 hzl fz
        by_cases e4:q1-1=0
        ·rw[if_pos (by simpa using e4)]
         exact wpS_pure (.inl ⟨_,rfl,M.hfA m4 (.inl e4) ⟨_,rfl⟩⟩)
        ·rw[if_neg (by simpa using e4)]
         split
         ·exact wpS_pure (.inr ⟨rfl,⟨m4,by dsimp only;omega,hj3,_,rfl⟩,by dsimp only;omega⟩)
         ·exact wpS_pure ⟨rfl,⟨m4,by dsimp only;omega,hj3,_,rfl⟩,by dsimp only;omega⟩
       ·rw[if_neg hk2]
        have hq2:q2=j-1:=by omega
        subst hq2
        have m3:=m2'
        have hj3:1<j-1:=by omega
        have fz:=fz2
        refine wpS_bind (Zp hz ?_)
        have m4:=M.ha1 m3 hi2 hzl fz
        by_cases e4:q1-1=0
        ·rw[if_pos (by simpa using e4)]
         exact wpS_pure (.inl ⟨_,rfl,M.hfA m4 (.inl e4) ⟨_,rfl⟩⟩)
        ·rw[if_neg (by simpa using e4)]
         split
         ·exact wpS_pure (.inr ⟨rfl,⟨m4,by dsimp only;omega,hj3,_,rfl⟩,by dsimp only;omega⟩)
         ·exact wpS_pure ⟨rfl,⟨m4,by dsimp only;omega,hj3,_,rfl⟩,by dsimp only;omega⟩
     ·rw[if_neg hg1]
      refine wpS_bind (Zbo ?_)
      refine wpS_bind (Zp hy (wpS_bind (Y4 C (show kindOf (ZaG _ _)=κ from hk) ((ZmR C M.ua M.sa (M.ub _ hym) (ZtB a.size)).le (show i<=a.size-0 by omega)) (by omega) fun q1 p1 p2 p3=>?_)))
      dsimp only
      have fb2:∀z∈a.toList.take q1,R y z=false:=fun z hz=>by
       obtain⟨t,htk,ht⟩:=Zcm hz
       have h1:=p2 t htk
       rw[ZtT,Y7 ht] at h1
       simpa using h1
      by_cases hk1:i-q1>0
      ·rw[if_pos hk1]
       have m2:=m.pushA M.sa (c:=q1) (by omega) (fun x hx z hz=>by
        obtain⟨t,htk,ht⟩:=Zbu hz
        have h1:=p3 t htk.1 htk.2
        rw[ZtT,Y7 ht] at h1
        have uz:=M.ua z (Ztg ht)
        exact C.takeLe M.ub M.sb (by omega) hyl uz (C.asy _ _ (M.ub _ hym) uz (by simpa using h1)) x hx)
       rw[<- ZcC] at m2
       by_cases e0:q1=0
       ·rw[if_pos (by simpa using e0)]
        exact wpS_pure (.inl ⟨_,rfl,M.hfA m2 (.inl e0) ⟨_,rfl⟩⟩)
       rw[if_neg (by simpa using e0)]
       have hi2:0<q1:=by omega
       have fb:=fb2
       refine wpS_bind (Zp hy ?_)
       have m2':=M.hb1 m2 (by omega) hyl fb
       by_cases e2:j-1=1
       ·rw[if_pos (by simpa using e2)]
        exact wpS_pure (.inl ⟨_,rfl,MLo.hfB C M m2' e2 ⟨_,rfl⟩⟩)
       rw[if_neg (by simpa using e2)]
       obtain⟨z,hz,hzl,hzm⟩:=Vh (show q1-1<a.size by omega)
       refine wpS_bind (Zp hz (wpS_bind (Y4 C hk ((Zhh C M.ub M.sb (M.ua _ hzm) (ZtB b.size)).le (show j-1<=b.size-0 by omega)) (by omega) fun q2 r1 r2 r3=>?_)))
       dsimp only
       have fz2:∀y∈b.toList.take q2,R z y=false:=fun y hy=>by
        obtain⟨t,htk,ht⟩:=Zcm hy
        have h1:=r2 t htk
        rw[ZtT,Y7 ht] at h1
        exact C.asy _ _ (M.ub _ (Ztg ht)) (M.ua _ hzm) h1
       by_cases hk2:j-1-q2>0
       ·rw[if_pos hk2]
        have m3:=m2'.pushB M.sb (c:=q2) (by omega) (fun x hx y hy=>by
         obtain⟨t,htk,ht⟩:=Zbu hy
         have h1:=r3 t htk.1 htk.2
         rw[ZtT,Y7 ht] at h1
         exact C.takeLe M.ua M.sa hi2 hzl (M.ub _ (Ztg ht)) h1 x hx)
        rw[<- ZcC] at m3
        by_cases e3:q2=1
        ·rw[if_pos (by simpa using e3)]
         exact wpS_pure (.inl ⟨_,rfl,MLo.hfB C M m3 e3 ⟨_,rfl⟩⟩)
        rw[if_neg (by simpa using e3)]
        by_cases e5:q2=0
        ·rw[if_pos (by simpa using e5)]
         exact wpS_pure (.inl ⟨_,rfl,M.hfA m3 (.inr e5) ⟨_,rfl⟩⟩)
        rw[if_neg (by simpa using e5)]
        have hj3:1<q2:=by omega
        have fz:=fz2
        refine wpS_bind (Zp hz ?_)
        have m4:=M.ha1 m3 hi2 hzl fz
        by_cases e4:q1-1=0
        ·rw[if_pos (by simpa using e4)]
         exact wpS_pure (.inl ⟨_,rfl,M.hfA m4 (.inl e4) ⟨_,rfl⟩⟩)
        ·rw[if_neg (by simpa using e4)]
         split
         ·exact wpS_pure (.inr ⟨rfl,⟨m4,by dsimp only;omega,hj3,_,rfl⟩,by dsimp only;omega⟩)
         ·exact wpS_pure ⟨rfl,⟨m4,by dsimp only;omega,hj3,_,rfl⟩,by dsimp only;omega⟩
       ·rw[if_neg hk2]
        have hq2:q2=j-1:=by omega
        subst hq2
        have m3:=m2'
        have hj3:1<j-1:=by omega
        have fz:=fz2
        refine wpS_bind (Zp hz ?_)
        have m4:=M.ha1 m3 hi2 hzl fz
        by_cases e4:q1-1=0
        ·rw[if_pos (by simpa using e4)]
         exact wpS_pure (.inl ⟨_,rfl,M.hfA m4 (.inl e4) ⟨_,rfl⟩⟩)
        ·rw[if_neg (by simpa using e4)]
         split
         ·exact wpS_pure (.inr ⟨rfl,⟨m4,by dsimp only;omega,hj3,_,rfl⟩,by dsimp only;omega⟩)
         ·exact wpS_pure ⟨rfl,⟨m4,by dsimp only;omega,hj3,_,rfl⟩,by dsimp only;omega⟩
      ·rw[if_neg hk1]
       have hq1:q1=i:=by omega
       subst hq1
       have m2:=m
       have hi2:0<q1:=hi
       have fb:=fb2
       refine wpS_bind (Zp hy ?_)
       have m2':=M.hb1 m2 (by omega) hyl fb
       by_cases e2:j-1=1
       ·rw[if_pos (by simpa using e2)]
        exact wpS_pure (.inl ⟨_,rfl,MLo.hfB C M m2' e2 ⟨_,rfl⟩⟩)
       rw[if_neg (by simpa using e2)]
       obtain⟨z,hz,hzl,hzm⟩:=Vh (show q1-1<a.size by omega)
       refine wpS_bind (Zp hz (wpS_bind (Y4 C hk ((Zhh C M.ub M.sb (M.ua _ hzm) (ZtB b.size)).le (show j-1<=b.size-0 by omega)) (by omega) fun q2 r1 r2 r3=>?_)))
       dsimp only
       have fz2:∀y∈b.toList.take q2,R z y=false:=fun y hy=>by
        obtain⟨t,htk,ht⟩:=Zcm hy
        have h1:=r2 t htk
        rw[ZtT,Y7 ht] at h1
        exact C.asy _ _ (M.ub _ (Ztg ht)) (M.ua _ hzm) h1
       by_cases hk2:j-1-q2>0
       ·rw[if_pos hk2]
        have m3:=m2'.pushB M.sb (c:=q2) (by omega) (fun x hx y hy=>by
         obtain⟨t,htk,ht⟩:=Zbu hy
         have h1:=r3 t htk.1 htk.2
         rw[ZtT,Y7 ht] at h1
         exact C.takeLe M.ua M.sa hi2 hzl (M.ub _ (Ztg ht)) h1 x hx)
        rw[<- ZcC] at m3
        by_cases e3:q2=1
        ·rw[if_pos (by simpa using e3)]
         exact wpS_pure (.inl ⟨_,rfl,MLo.hfB C M m3 e3 ⟨_,rfl⟩⟩)
        rw[if_neg (by simpa using e3)]
        by_cases e5:q2=0
        ·rw[if_pos (by simpa using e5)]
         exact wpS_pure (.inl ⟨_,rfl,M.hfA m3 (.inr e5) ⟨_,rfl⟩⟩)
        rw[if_neg (by simpa using e5)]
        have hj3:1<q2:=by omega
        have fz:=fz2
        refine wpS_bind (Zp hz ?_)
        have m4:=M.ha1 m3 hi2 hzl fz
        by_cases e4:q1-1=0
        ·rw[if_pos (by simpa using e4)]
         exact wpS_pure (.inl ⟨_,rfl,M.hfA m4 (.inl e4) ⟨_,rfl⟩⟩)
        ·rw[if_neg (by simpa using e4)]
         split
         ·exact wpS_pure (.inr ⟨rfl,⟨m4,by dsimp only;omega,hj3,_,rfl⟩,by dsimp only;omega⟩)
         ·exact wpS_pure ⟨rfl,⟨m4,by dsimp only;omega,hj3,_,rfl⟩,by dsimp only;omega⟩
       ·rw[if_neg hk2]
        have hq2:q2=j-1:=by omega
        subst hq2
        have m3:=m2'
        have hj3:1<j-1:=by omega
        have fz:=fz2
        refine wpS_bind (Zp hz ?_)
        have m4:=M.ha1 m3 hi2 hzl fz
        by_cases e4:q1-1=0
        ·rw[if_pos (by simpa using e4)]
         exact wpS_pure (.inl ⟨_,rfl,M.hfA m4 (.inl e4) ⟨_,rfl⟩⟩)
        ·rw[if_neg (by simpa using e4)]
         split
         ·exact wpS_pure (.inr ⟨rfl,⟨m4,by dsimp only;omega,hj3,_,rfl⟩,by dsimp only;omega⟩)
         ·exact wpS_pure ⟨rfl,⟨m4,by dsimp only;omega,hj3,_,rfl⟩,by dsimp only;omega⟩
end
theorem Zip (i:Nat):mergeAt' i=(do
  let s <- get
  let (some (c,n,p),some (d,m,_)):=((pendingOf s)[i]?,(pendingOf s)[i+1]?)|unsupported "internal:list.sort.pending"
  set (setPending s (((pendingOf s).setIfInBounds i (c,n+m,p)).eraseIdxIfInBounds (i+1)))
  let some k <- Zbb false (<- elem' (arrOf s) d) (arrOf s) c n 0|return false
  let (c,n):=(c+k,n-k)
  if n==0 then return true
  let some m <- Zbb true (<- elem' (arrOf s) (c+n-1)) (arrOf s) d m (m-1)|return false
  if m==0 then return true
  let x:=(arrOf s).extract c d
  let y:=(arrOf s).extract d (d+m)
  let r <- if n<=m then Zgn x y else Zgo x y
  modify fun s=>setArr s (r.toList.zipIdx.foldl (fun a (p,j)=>a.setIfInBounds (c+j) p) (arrOf s))
  return (failedOf (<- get)).isNone):=rfl
section
variable {prog:Program}{w:World}{A:Around}{E:Value->Shared->Prop}{s:Shared}{κ:SortKind}{U:Keyed->Prop}{R:Keyed->Keyed->Bool}
theorem ZiP:∀(r:List Keyed) (c:Nat) (X:Array Keyed) (n:Nat),c+n+r.length<=X.size->((r.zipIdx n).foldl (fun a (p:Keyed×Nat)=>a.setIfInBounds (c+p.2) p.1) X).toList=X.toList.take (c+n)++r++X.toList.drop (c+n+r.length)
 |[],c,X,n,h=>by simp
 |x::r,c,X,n,h=>by
  simp only[ZtC] at h
  rw[List.zipIdx_cons,List.foldl_cons]
  have ih:=ZiP r c (X.setIfInBounds (c+n) x) (n+1) (by rw[Array.size_setIfInBounds];omega)
  rw[ih,Zvj]
  have hl:c+n<X.toList.length:=by rw[Ztn];omega
  rw[show c+(n+1)=c+n+1 by omega]
  have e1:(X.toList.set (c+n) x).take (c+n+1)=X.toList.take (c+n)++[x]:=by
   rw[List.take_set,List.take_succ_eq_append_getElem hl,ZuS _ _ (by rw[Zt7];omega)]
   rw[show c+n-(X.toList.take (c+n)).length=0 by rw[Zt7,Ztn];omega]
   rfl
  have e2:(X.toList.set (c+n) x).drop (c+n+1+r.length)=X.toList.drop (c+n+1+r.length):=List.drop_set_of_lt (by omega)
  rw[e1,e2]
  simp only[ZtC,Ztq,Zuu,Zvs,Zuc]
  rw[show c+n+(r.length+1)=c+n+1+r.length by omega]
theorem Zlq (C:Zc7 prog w A s κ U R) (left:Bool) {X:Array Keyed}{key:Keyed}{c n:Nat}{P:List Keyed} (hP:∀t,t<n->X[c+t]?=P[t]?) (hn:P.length=n) (ul:∀y∈P,U y) (hs:Srt R P) (uk:U key) :
  ZdE U R left key X c n (fun t=>if left=true then R (P.getD t (.none,.none)) key else !R key (P.getD t (.none,.none))):=by
 have get:∀t,t<n->P[t]?=some (P.getD t (.none,.none)):=fun t ht=>by
  rw[Zte,Ztf (by omega)];rfl
 refine⟨uk,fun t ht=>⟨_,by rw[hP t ht,get t ht],ul _ (Ztg (get t ht)),rfl⟩,fun t u htu hu h=>?_⟩
 have hu':=get u hu
 have ht':=get t (by omega)
 have h2:=Srt.le C ul hs htu ht' hu'
 have u1:=ul _ (Ztg ht')
 have u2:=ul _ (Ztg hu')
 cases left with
 |false =>
  have h:(!R key (P.getD u (.none,.none)))=true:=h
  show (!R key (P.getD t (.none,.none)))=true
  rw[C.tr _ _ key u1 u2 uk h2 (by simpa using h)];rfl
 |true =>
  have h:R (P.getD u (.none,.none)) key=true:=h
  show R (P.getD t (.none,.none)) key=true
  cases hc:R (P.getD t (.none,.none)) key with
  |true=>rfl
  |false=>rw[C.tr key _ _ uk u1 u2 hc h2] at h;cases h
theorem Zo2 {σ:Type}{M:Model}{v:σ}{Q:PUnit->σ->Prop}{st:σ} (h:Q ⟨⟩ v):wpS M A E s (set v:StateT σ Sem PUnit) Q st:=by
 unfold wpS;rw[StateT.run_set];exact wpAny_pure ⟨rfl,h⟩
theorem Zic (C:Zc7 prog w A s κ U R) {st:SortSt}{i c n p d m p2:Nat}{pre P Y post:List Keyed}{Q:Bool->SortSt->Prop} (hk:kindOf st=κ) (hf:failedOf st=none)
  (h1:(pendingOf st)[i]?=some (c,n,p)) (h2:(pendingOf st)[i+1]?=some (d,m,p2)) (hX:(arrOf st).toList=pre++(P++(Y++post))) (lp:pre.length=c) (lP:P.length=n) (lY:Y.length=m) (hd:d=c+n) (n0:0<n) (m0:0<m)
  (uP:∀x∈P,U x) (uY:∀x∈Y,U x) (sP:Srt R P) (sY:Srt R Y)
  (h:∀st' W,kindOf st'=κ->failedOf st'=none->pendingOf st'=((pendingOf st).setIfInBounds i (c,n+m,p)).eraseIdxIfInBounds (i+1)->(arrOf st').toList=pre++(W++post)->Srt R W->W.Perm (P++Y)->Q true st') :
  wpS (model prog w) A E s (mergeAt' i) Q st:=by
 rw[Zip]
 refine wpS_bind (wpS_get ?_)
 rw[h1,h2]
 dsimp only
 have size0:(arrOf st).size=c+(n+(m+post.length)):=by
  have:=congrArg List.length hX
  rw[Ztn] at this
  rw[this];simp[lp,lP,lY]
 have gP:∀t,t<n->(arrOf st)[c+t]?=P[t]?:=fun t ht=>by
  rw[<- ZtH,hX,Ztm (by omega),lp,show c+t-c=t by omega,Ztl (by omega)]
 have gY:∀t,t<m->(arrOf st)[d+t]?=Y[t]?:=fun t ht=>by
  rw[<- ZtH,hX,Ztm (by omega),lp,Ztm (by omega),lP,show d+t-c-n=t by omega,Ztl (by omega)]
 refine wpS_bind (Zo2 ?_)
 have y0l:Y[0]?=some (Y.getD 0 (.none,.none)):=by rw[Zte,Ztf (by omega)];rfl
 generalize Y.getD 0 (.none,.none)=y0 at y0l
 have uy0:=uY y0 (Ztg y0l)
 refine wpS_bind (Zp (x:=y0) (by have:=gY 0 m0;rw[Zuy] at this;rw[this,y0l]) (wpS_bind (Y4 C (show kindOf (setPending st _)=κ from hk) (Zlq C false gP lP uP sP uy0) n0 fun k p1 p2 p3=>?_)))
 dsimp only at p2 p3 ⊢
 have gd:∀{l:List Keyed}{t:Nat}{x:Keyed},l[t]?=some x->l.getD t (.none,.none)=x:=fun {l t x} h=>by rw[Zte,h];rfl
 have pk:∀x∈P.take k,R y0 x=false:=fun x hx=>by
  obtain⟨t,ht,hx⟩:=Zcm hx
  have:=p2 t ht
  rw[gd hx] at this
  simpa using this
 have pk2:∀t x,k<=t->P[t]?=some x->R y0 x=true:=fun t x ht hx=>by
  have hl:=(Zti.mp hx).1
  have:=p3 t ht (by omega)
  rw[gd hx] at this
  simpa using this
 by_cases e1:n-k=0
 ·rw[if_pos (by simpa using e1)]
  refine wpS_pure (h _ (P++Y) hk hf rfl (by rw[hX,Ztq]) (Ztx.mpr ⟨sP,sY,fun x hx y hy=>?_⟩) (List.Perm.refl _))
  have:=C.dropLe uY sY y0l (uP x hx) (pk x (by rw[ZtD (by omega)];exact hx))
  rw[Zu2] at this
  exact this y hy
 rw[if_neg (by simpa using e1)]
 have ll:P[n-1]?=some (P.getD (n-1) (.none,.none)):=by rw[Zte,Ztf (by omega)];rfl
 generalize P.getD (n-1) (.none,.none)=l at ll
 have ul:=uP l (Ztg ll)
 refine wpS_bind (Zp (x:=l) (by have:=gP (n-1) (by omega);rw[show c+k+(n-k)-1=c+(n-1) by omega,this,ll]) (wpS_bind (Y4 C (show kindOf (setPending st _)=κ from hk) (Zlq C true gY lY uY sY ul) (by omega) fun k2 r1 r2 r3=>?_)))
 dsimp only at r2 r3 ⊢
 have yk:∀x∈Y.take k2,R x l=true:=fun x hx=>by
  obtain⟨t,ht,hx⟩:=Zcm hx
  have:=r2 t ht
  rw[gd hx] at this
  simpa using this
 have yk2:∀x∈Y.drop k2,R x l=false:=fun x hx=>by
  obtain⟨t,hx⟩:=VE hx
  have hl:=(Zti.mp hx).1
  have:=r3 (k2+t) (by omega) (by omega)
  rw[gd hx] at this
  simpa using this
 have pl:∀v,U v->R v l=false->∀x∈P,R v x=false:=fun v uv hv x hx=>C.takeLe uP sP n0 ll uv hv x (by rw[ZtD (by omega)];exact hx)
 by_cases e2:k2=0
 ·rw[if_pos (by simpa using e2)]
  subst e2
  rw[Zu2] at yk2
  exact wpS_pure (h _ (P++Y) hk hf rfl (by rw[hX,Ztq]) (Ztx.mpr ⟨sP,sY,fun x hx y hy=>pl y (uY y hy) (yk2 y hy) x hx⟩) (List.Perm.refl _))
 rw[if_neg (by simpa using e2)]
 have ex:((arrOf st).extract (c+k) d).toList=P.drop k:=by
  refine Zu5 fun t=>?_
  rw[Zuv,ZtO,ZtS,ZtL,ZtL,ZtH]
  by_cases ht:t<d-(c+k)
  ·rw[if_pos ht,show c+k+t=c+(k+t) by omega,gP (k+t) (by omega)]
  ·rw[if_neg ht,Zt2 (by omega)]
 have ey:((arrOf st).extract d (d+k2)).toList=Y.take k2:=by
  refine Zu5 fun t=>?_
  rw[Zuv,ZtO,ZtS,ZtL,ZtS,ZtH]
  by_cases ht:t<k2
  ·rw[if_pos (by omega),if_pos ht,gY t (by omega)]
  ·rw[if_neg (by omega),if_neg ht]
 have sx:((arrOf st).extract (c+k) d).size=n-k:=by
  have:=congrArg List.length ex
  rw[Ztn,ZtR] at this
  omega
 have sy:((arrOf st).extract d (d+k2)).size=k2:=by
  have:=congrArg List.length ey
  rw[Ztn,Zt7] at this
  omega
 have MM:MLo U R ((arrOf st).extract (c+k) d) ((arrOf st).extract d (d+k2)):=by
  refine⟨?_, ?_, ?_, ?_,by omega,by omega,fun x y hx hy=>?_,fun x hx y hy=>?_⟩
  ·rw[ex];exact fun x hx=>uP x (ZtJ hx)
  ·rw[ey];exact fun x hx=>uY x (ZtQ hx)
  ·rw[ex];exact sP.drop k
  ·rw[ey];exact sY.take k2
  ·rw[ey,ZtS,if_pos (by omega),y0l] at hx
   cases hx
   rw[ex,ZtL,Zuy] at hy
   exact C.asy _ _ uy0 (uP y (Ztg hy)) (pk2 k y (Ztj _) hy)
  ·rw[ey] at hx
   rw[ex,ZtL,sx,show k+(n-k-1)=n-1 by omega,ll] at hy
   cases hy
   exact C.asy _ _ (uY x (ZtQ hx)) ul (yk x hx)
 have fin:∀r st2,Zdy R ((arrOf st).extract (c+k) d) ((arrOf st).extract d (d+k2)) (setPending st (((pendingOf st).setIfInBounds i (c,n+m,p)).eraseIdxIfInBounds (i+1))) r st2 ->
   wpS (model prog w) A E s (do
    modify fun s=>setArr s (r.toList.zipIdx.foldl (fun a (p,j)=>a.setIfInBounds (c+k+j) p) (arrOf s))
    return (failedOf (<- get)).isNone) Q st2:=by
  rintro r st2 ⟨q1,q2,g,rfl⟩
  rw[ex,ey] at q2
  have lr:r.toList.length=n-k+k2:=by
   rw[q2.length_eq,Zt8,ZtR,Zt7];omega
  refine wpS_bind (wpS_modify (wpS_bind (wpS_get (wpS_pure ?_))))
  show Q ((failedOf st).isNone) _
  rw[hf]
  have hw:=ZiP r.toList (c+k) (arrOf st) 0 (by omega)
  have memr:∀x∈r.toList,(x∈P.drop k\/x∈Y.take k2):=fun x hx=>Ztk.mp (q2.mem_iff.mp hx)
  refine h _ (P.take k++(r.toList++Y.drop k2)) hk hf rfl ?_ ?_ ?_
  ·show (r.toList.zipIdx.foldl (fun a (p:Keyed×Nat)=>a.setIfInBounds (c+k+p.2) p.1) (arrOf st)).toList=_
   rw[hw,Zuy,hX,lr]
   have d1:(pre++(P++(Y++post))).take (c+k)=pre++P.take k:=by
    rw[List.take_append,ZtD (by omega),lp,show c+k-c=k by omega,List.take_append_of_le_length (by omega)]
   have d2:(pre++(P++(Y++post))).drop (c+k+(n-k+k2))=Y.drop k2++post:=by
    rw[List.drop_append,Zuk (by omega),Zuc,lp,List.drop_append,Zuk (by omega),Zuc,lP,List.drop_append_of_le_length (by omega)]
    congr 2
    omega
   rw[d1,d2]
   simp only[Ztq]
  ·refine Ztx.mpr ⟨sP.take k,Ztx.mpr ⟨q1,sY.drop k2,fun x hx y hy=>?_⟩,fun x hx y hy=>?_⟩
   ·rcases memr x hx with z|z
    ·exact pl y (uY y (ZtJ hy)) (yk2 y hy) x (ZtJ z)
    ·have sd:=sY
     rw[<- Zt6 k2 Y] at sd
     exact(Ztx.mp sd).2.2 x z y hy
   ·have ux:=uP x (ZtQ hx)
    have hyY:∀y∈Y,R y x=false:=fun y hy=>by
     have:=C.dropLe uY sY y0l ux (pk x hx)
     rw[Zu2] at this
     exact this y hy
    rcases Ztk.mp hy with z|z
    ·rcases memr y z with z|z
     ·have sd:=sP
      rw[<- Zt6 k P] at sd
      exact(Ztx.mp sd).2.2 x hx y z
     ·exact hyY y (ZtQ z)
    ·exact hyY y (ZtJ z)
  ·have p1:(P.take k++(r.toList++Y.drop k2)).Perm (P.take k++((P.drop k++Y.take k2)++Y.drop k2)):=List.Perm.append_left _ (q2.append_right _)
   refine p1.trans ?_
   rw[Ztq,Zt6,<- Ztq,Zt6]
 by_cases e3:n-k<=k2
 ·rw[if_pos e3]
  exact wpS_bind (Zia C (show kindOf (setPending st _)=κ from hk) MM fin)
 ·rw[if_neg e3]
  exact wpS_bind (Zib C (show kindOf (setPending st _)=κ from hk) MM fin)
end
noncomputable def gA (X:Array Keyed) (i:Nat):Keyed:=X.getD i (.none,.none)
theorem ZfN {X:Array Keyed}{i:Nat} (h:i<X.size):X[i]?=some (gA X i):=by simp[gA,Array.getD,h]
theorem Zpo {X:Array Keyed}{i:Nat}{x:Keyed} (h:X[i]?=some x):gA X i=x:=by
 have hi:i<X.size:=by
  rcases Nat.lt_or_ge i X.size with z|z
  ·exact z
  ·rw[Array.getElem?_eq_none z] at h;cases h
 rw[ZfN hi] at h;exact Option.some.inj h
theorem Zai {X Y:Array Keyed}{i j:Nat} (h:X[i]?=Y[j]?):gA X i=gA Y j:=by
 simp only[gA,Array.getD_eq_getD_getElem?,h]
def Up (R:Keyed->Keyed->Bool) (X:Array Keyed) (lo m:Nat):Prop:=∀i j,i<j->j<m->R (gA X (lo+j)) (gA X (lo+i))=false
def Dn' (R:Keyed->Keyed->Bool) (X:Array Keyed) (lo m:Nat):Prop:=∀i j,i<j->j<m->R (gA X (lo+i)) (gA X (lo+j))=false
structure Qy (X Y:Array Keyed) (lo m:Nat):Prop where
 perm:Y.Perm X
 out:∀k,k<lo\/lo+m<=k->Y[k]?=X[k]?
theorem Qy.refl (X:Array Keyed) (lo m:Nat):Qy X X lo m:=⟨Array.Perm.refl _,fun _ _=>rfl⟩
theorem Qy.size {X Y:Array Keyed}{lo m:Nat} (h:Qy X Y lo m):Y.size=X.size:=h.perm.size_eq
theorem Qy.trans {X Y Z:Array Keyed}{lo m:Nat} (h:Qy X Y lo m) (g:Qy Y Z lo m):Qy X Z lo m:=⟨g.perm.trans h.perm,fun k hk=>(g.out k hk).trans (h.out k hk)⟩
theorem Qy.wide {X Y:Array Keyed}{lo lo' m m':Nat} (h:Qy X Y lo' m') (h1:lo<=lo') (h2:lo'+m'<=lo+m):Qy X Y lo m:=⟨h.perm,fun k hk=>h.out k (by omega)⟩
section
variable {prog:Program}{w:World}{A:Around}{E:Value->Shared->Prop}{s:Shared}{κ:SortKind}{U:Keyed->Prop}{R:Keyed->Keyed->Bool}
def ZiO (U:Keyed->Prop) (X:Array Keyed):Prop:=∀i,i<X.size->U (gA X i)
theorem ZiO.stir {X Y:Array Keyed}{lo m:Nat} (h:ZiO U X) (t:Qy X Y lo m):ZiO U Y:=fun i hi=>by
 have hm:gA Y i∈Y:=by
  have:=ZfN hi
  exact Array.mem_of_getElem? this
 obtain⟨j,hj⟩:=Array.getElem?_of_mem ((Array.Perm.mem_iff t.perm).mp hm)
 have hjs:j<X.size:=by
  rcases Nat.lt_or_ge j X.size with z|z
  ·exact z
  ·rw[Array.getElem?_eq_none z] at hj;cases hj
 rw[<- Zpo hj]
 exact h j hjs
theorem U2 (C:Zc7 prog w A s κ U R) {st:SortSt}{i j:Nat}{Q:Option Bool->SortSt->Prop} (hk:kindOf st=κ) (hU:ZiO U (arrOf st)) (hi:i<(arrOf st).size) (hj:j<(arrOf st).size) (h:Q (some (R (gA (arrOf st) i) (gA (arrOf st) j))) st) :
  wpS (model prog w) A E s (ltAt' i j) Q st:=by
 rw[ltAt'_eq]
 refine wpS_bind (wpS_get ?_)
 exact wpS_bind (Zp (ZfN hi) (wpS_bind (Zp (ZfN hj) (Zeg C hk (hU i hi) (hU j hj) h))))
theorem Up.more (C:Zc7 prog w A s κ U R) {X:Array Keyed}{lo n:Nat} (hU:ZiO U X) (hs:lo+n<X.size) (h:Up R X lo n) (hl:n=0\/R (gA X (lo+n)) (gA X (lo+n-1))=false):Up R X lo (n+1):=fun i j hij hj=>by
 by_cases e:j<n
 ·exact h i j hij e
 ·obtain rfl:j=n:=by omega
  rcases hl with hl|hl
  ·omega
  ·by_cases e2:i=j-1
   ·subst e2;rw[show lo+(j-1)=lo+j-1 by omega];exact hl
   ·have h2:=h i (j-1) (by omega) (by omega)
    rw[show lo+(j-1)=lo+j-1 by omega] at h2
    exact C.tr _ _ _ (hU _ (by omega)) (hU _ (by omega)) (hU _ (by omega)) h2 hl
theorem Zo3 (C:Zc7 prog w A s κ U R) {st:SortSt}{lo n ok:Nat}{Q:Bool->SortSt->Prop} (hk:kindOf st=κ) (hU:ZiO U (arrOf st)) (hn:lo+n<=(arrOf st).size) (hok:ok<=n) (n1:1<=n) (hs:Up R (arrOf st) lo ok)
  (h:∀Y,Qy (arrOf st) Y lo n->Up R Y lo n->Q true (setArr st Y)):wpS (model prog w) A E s (binarySort' lo n ok) Q st:=by
 rw[binarySort'_eq]
 refine wpS_bind (wpS_mono (wpS_forRange
  (I:=fun k (c:Option Bool×Unit) (st':SortSt)=>c.1=none/\∃Y,st'=setArr st Y/\Qy (arrOf st) Y lo n/\Up R Y lo k)
  (Q:=fun(c:Option Bool×Unit) (st':SortSt)=>c.1=none/\∃Y,st'=setArr st Y/\Qy (arrOf st) Y lo n/\Up R Y lo n) ?step ?fin ?ini) ?post)
 case ini =>
  refine⟨rfl,arrOf st,rfl,Qy.refl _ _ _,fun i j hij hj=>?_⟩
  by_cases e:1<=ok
  ·exact hs i j hij (by omega)
  ·omega
 case fin =>
  rintro⟨o,u⟩ st' ⟨h1,Y,h2,h3,h4⟩
  exact⟨h1,Y,h2,h3,fun i j hij hj=>h4 i j hij (by omega)⟩
 case post =>
  rintro⟨o,u⟩ st' ⟨h1,Y,rfl,h3,h4⟩
  dsimp only at h1
  subst h1
  exact wpS_pure (h Y h3 h4)
 case step =>
  rintro k ⟨o,u⟩ st' hk1 hk2 ⟨h1,Y,rfl,h3,h4⟩
  dsimp only at h1
  subst h1
  have hYU:=hU.stir h3
  have hYs:=h3.size
  refine wpS_bind (wpS_mono (wpS_forRange
   (I:=fun x (c:Option Bool×Nat×Nat) (st':SortSt)=>c.1=none/\st'=setArr st Y/\c.2.1<=c.2.2/\c.2.2<=k/\(∀i,i<c.2.1->R (gA Y (lo+k)) (gA Y (lo+i))=false)/\(∀i,c.2.2<=i->i<k->R (gA Y (lo+k)) (gA Y (lo+i))=true)/\c.2.2-c.2.1<=k-x)
   (Q:=fun(c:Option Bool×Nat×Nat) (st':SortSt)=>c.1=none/\st'=setArr st Y/\c.2.1=c.2.2/\c.2.2<=k/\(∀i,i<c.2.1->R (gA Y (lo+k)) (gA Y (lo+i))=false)/\(∀i,c.2.2<=i->i<k->R (gA Y (lo+k)) (gA Y (lo+i))=true)) ?step1 ?fin1
   ⟨rfl,rfl,ZtB _,Ztj _,fun i hi=>absurd hi (Nat.not_lt_zero _),fun i h1 h2=>absurd h1 (by dsimp only;omega),by dsimp only;omega⟩) ?post1)
  case fin1 =>
   rintro⟨o,l,r⟩ st' ⟨rfl,q0,q1,q2,q3,q4,q5⟩
   dsimp only at q1 q2 q3 q4 q5 ⊢
   exact⟨rfl,q0,by omega,q2,q3,q4⟩
  case step1 =>
   rintro x ⟨o,l,r⟩ st' _ hx ⟨rfl,rfl,q1,q2,q3,q4,q5⟩
   dsimp only at q1 q2 q3 q4 q5 ⊢
   by_cases hlr:l ≥ r
   ·rw[if_pos hlr]
    exact wpS_pure ⟨rfl,rfl,by dsimp only;omega,q2,q3,q4⟩
   ·rw[if_neg hlr]
    refine wpS_bind (U2 C (show kindOf (setArr st Y)=κ from hk) hYU (show lo+k<Y.size by omega) (show lo+(l+r)/2<Y.size by omega) ?_)
    dsimp only
    show wpS _ _ _ _ (if R (gA Y (lo+k)) (gA Y (lo+(l+r)/2))=true then _ else _) _ _
    cases hm:R (gA Y (lo+k)) (gA Y (lo+(l+r)/2)) with
    |true =>
     rw[if_pos rfl]
     refine wpS_pure ⟨rfl,rfl,by dsimp only;omega,by dsimp only;omega,q3,fun i i1 i2=>?_,by dsimp only;omega⟩
     dsimp only at i1
     by_cases e:i=(l+r)/2
     ·subst e;exact hm
     ·cases hc:R (gA Y (lo+k)) (gA Y (lo+i)) with
      |true=>rfl
      |false =>
       have:=h4 ((l+r)/2) i (by omega) i2
       rw[C.tr _ _ _ (hYU _ (by omega)) (hYU _ (by omega)) (hYU _ (by omega)) this hc] at hm
       cases hm
    |false =>
     rw[if_neg (by decide)]
     refine wpS_pure ⟨rfl,rfl,by dsimp only;omega,q2,fun i i1=>?_,q4,by dsimp only;omega⟩
     dsimp only at i1
     by_cases e:i=(l+r)/2
     ·subst e;exact hm
     ·have:=h4 i ((l+r)/2) (by omega) (by omega)
      exact C.tr _ _ _ (hYU _ (by omega)) (hYU _ (by omega)) (hYU _ (by omega)) this hm
  case post1 =>
   rintro⟨o,l,r⟩ st' ⟨rfl,rfl,q1,q2,q3,q4⟩
   dsimp only at q1 q2 q3 q4 ⊢
   subst q1
   rw[moveDown'_eq]
   refine wpS_bind (wpS_modify (wpS_pure ⟨rfl,bubble Y (lo+k) (lo+k-(lo+l)),rfl, ?_, ?_⟩))
   ·refine h3.trans ⟨bubble_perm _ _ _,fun t ht=>?_⟩
    rw[getElem?_bubble (show lo+k<Y.size by omega) _ (by omega),if_neg (by omega),if_neg (by omega)]
   ·have bg:∀t,t<=k->gA (bubble Y (lo+k) (lo+k-(lo+l))) (lo+t)=if t=l then gA Y (lo+k) else if l<t then gA Y (lo+t-1) else gA Y (lo+t):=fun t ht=>by
     have e:=getElem?_bubble (show lo+k<Y.size by omega) (lo+k-(lo+l)) (by omega) (lo+t)
     by_cases e1:t=l
     ·rw[if_pos e1];rw[if_pos (by omega)] at e;exact Zai e
     ·rw[if_neg e1];rw[if_neg (by omega)] at e
      by_cases e2:l<t
      ·rw[if_pos e2];rw[if_pos (by omega)] at e;exact Zai e
      ·rw[if_neg e2];rw[if_neg (by omega)] at e;exact Zai e
    intro i j hij hj
    rw[bg i (by omega),bg j (by omega)]
    by_cases a1:j=l
    ·rw[if_pos a1,if_neg (by omega),if_neg (by omega)]
     exact q3 i (by omega)
    ·rw[if_neg a1]
     by_cases a2:l<j
     ·rw[if_pos a2]
      by_cases b1:i=l
      ·rw[if_pos b1,show lo+j-1=lo+(j-1) by omega]
       exact C.asy _ _ (hYU _ (by omega)) (hYU _ (by omega)) (q4 (j-1) (by omega) (by omega))
      ·rw[if_neg b1]
       by_cases b2:l<i
       ·rw[if_pos b2,show lo+j-1=lo+(j-1) by omega,show lo+i-1=lo+(i-1) by omega]
        exact h4 (i-1) (j-1) (by omega) (by omega)
       ·rw[if_neg b2,show lo+j-1=lo+(j-1) by omega]
        exact h4 i (j-1) (by omega) (by omega)
     ·rw[if_neg a2,if_neg (by omega),if_neg (by omega)]
      exact h4 i j hij (by omega)
end
section
variable {prog:Program}{w:World}{A:Around}{E:Value->Shared->Prop}{s:Shared}{κ:SortKind}{U:Keyed->Prop}{R:Keyed->Keyed->Bool}
noncomputable abbrev mir (X:Array Keyed) (i j:Nat):Array Keyed:=mirror X i j ((j-i)/2)
theorem QE {st:SortSt}{i j:Nat}{Q:Unit->SortSt->Prop} (h:Q () (setArr st (mir (arrOf st) i j))):wpS (model prog w) A E s (reverseSlice' i j) Q st:=by
 rw[reverseSlice'_eq];exact wpS_modify h
theorem W9 {X:Array Keyed}{i j:Nat} (hij:i<=j) (hj:j<=X.size):Qy X (mir X i j) i (j-i):=
 ⟨mirror_perm _ _ _ _,fun k hk=>by rw[getElem?_mirror_all hj,if_neg (by omega)]⟩
theorem Zb9 {X:Array Keyed}{i j k:Nat} (hj:j<=X.size) (h1:i<=k) (h2:k<j):gA (mir X i j) k=gA X (i+j-1-k):=by
 refine Zai ?_
 rw[getElem?_mirror_all hj,if_pos ⟨h1,h2⟩]
theorem Zew {X:Array Keyed}{i j k:Nat} (hj:j<=X.size) (h:k<i\/j<=k):gA (mir X i j) k=gA X k:=by
 refine Zai ?_
 rw[getElem?_mirror_all hj,if_neg (by omega)]
def Eqv (R:Keyed->Keyed->Bool) (X:Array Keyed) (lo a b:Nat):Prop:=∀i j,a<=i->i<b->a<=j->j<b->R (gA X (lo+i)) (gA X (lo+j))=false
theorem Dn'.more (C:Zc7 prog w A s κ U R) {X:Array Keyed}{lo n:Nat} (hU:ZiO U X) (hs:lo+n<X.size) (h:Dn' R X lo n) (hl:n=0\/R (gA X (lo+n-1)) (gA X (lo+n))=false):Dn' R X lo (n+1):=fun i j hij hj=>by
 by_cases e:j<n
 ·exact h i j hij e
 ·obtain rfl:j=n:=by omega
  rcases hl with hl|hl
  ·omega
  ·by_cases e2:i=j-1
   ·subst e2;rw[show lo+(j-1)=lo+j-1 by omega];exact hl
   ·have h2:=h i (j-1) (by omega) (by omega)
    rw[show lo+(j-1)=lo+j-1 by omega] at h2
    exact C.tr _ _ _ (hU _ (by omega)) (hU _ (by omega)) (hU _ (by omega)) hl h2
theorem Dn'.turn (C:Zc7 prog w A s κ U R) {X:Array Keyed}{lo n c:Nat} (hU:ZiO U X) (hs:lo+n<=X.size) (hc:c<=n) (h:Dn' R X lo n) (he:Eqv R X lo c n):Dn' R (mir X (lo+c) (lo+n)) lo n:=fun i j hij hj=>by
 by_cases a:i<c
 ·rw[Zew hs (.inl (by omega))]
  by_cases b:j<c
  ·rw[Zew hs (.inl (by omega))]
   exact h i j hij hj
  ·rw[Zb9 hs (by omega) (by omega),show lo+c+(lo+n)-1-(lo+j)=lo+(c+n-1-j) by omega]
   exact h i _ (by omega) (by omega)
 ·rw[Zb9 hs (by omega) (by omega),Zb9 hs (by omega) (by omega),show lo+c+(lo+n)-1-(lo+j)=lo+(c+n-1-j) by omega,show lo+c+(lo+n)-1-(lo+i)=lo+(c+n-1-i) by omega]
  exact he _ _ (by omega) (by omega) (by omega) (by omega)
theorem Dn'.up {X:Array Keyed}{lo n:Nat} (hs:lo+n<=X.size) (h:Dn' R X lo n):Up R (mir X lo (lo+n)) lo n:=fun i j hij hj=>by
 rw[Zb9 hs (by omega) (by omega),Zb9 hs (by omega) (by omega),show lo+(lo+n)-1-(lo+j)=lo+(n-1-j) by omega,show lo+(lo+n)-1-(lo+i)=lo+(n-1-i) by omega]
 exact h _ _ (by omega) (by omega)
theorem ZkA (C:Zc7 prog w A s κ U R) {st:SortSt}{lo N:Nat}{Q:Option Nat->SortSt->Prop} (hk:kindOf st=κ) (hU:ZiO U (arrOf st)) (hn:lo+N<=(arrOf st).size) (n1:1<=N)
  (h:∀m Y,1<=m->m<=N->Qy (arrOf st) Y lo m->Up R Y lo m->Q (some m) (setArr st Y)):wpS (model prog w) A E s (countRun' lo N) Q st:=by
 rw[countRun'_eq]
 have stU:∀{Y lo m},Qy (arrOf st) Y lo m->ZiO U Y:=fun t=>hU.stir t
 refine wpS_bind (wpS_mono (wpS_forRange
  (I:=fun x (c:Option (Option Nat)×Nat) (st':SortSt)=>c.1=none/\st'=st/\c.2=x/\Up R (arrOf st) lo x)
  (Q:=fun(c:Option (Option Nat)×Nat) (st':SortSt)=>c.1=none/\st'=st/\(1<=c.2/\c.2<=N)/\Up R (arrOf st) lo c.2/\(c.2=N\/R (gA (arrOf st) (lo+c.2)) (gA (arrOf st) (lo+c.2-1))=true)) ?step ?fin ⟨rfl,rfl,rfl,fun i j hij hj=>by omega⟩) ?post)
 case fin =>
  rintro⟨o,n⟩ st' ⟨h1,h2,h3,h4⟩
  dsimp only at h1 h3 ⊢
  subst h3
  exact⟨h1,h2,by omega,h4,.inl (by omega)⟩
 case step =>
  rintro x ⟨o,n⟩ st' hx1 hx2 ⟨rfl,rfl,h3,h4⟩
  dsimp only at h3 ⊢
  subst h3
  refine wpS_bind (U2 C hk hU (show lo+n<_ by omega) (show lo+n-1<_ by omega) ?_)
  dsimp only
  cases hR:R (gA (arrOf st') (lo+n)) (gA (arrOf st') (lo+n-1)) with
  |true =>
   rw[if_pos rfl]
   exact wpS_pure ⟨rfl,rfl,by dsimp only;omega,h4,.inr hR⟩
  |false =>
   rw[if_neg (by decide)]
   exact wpS_pure ⟨rfl,rfl,rfl,h4.more C hU (by omega) (.inr hR)⟩
 case post =>
  rintro⟨o,n⟩ st' ⟨h1,h2,h3,h4,h5⟩
  have h2:=h2.symm
  subst h2
  dsimp only at h1 h3 h4 h5 ⊢
  subst h1
  dsimp only
  by_cases e1:n=N
  ·rw[if_pos (by simpa using e1)]
   exact wpS_pure (h n (arrOf st) h3.1 h3.2 (Qy.refl _ _ _) h4)
  rw[if_neg (by simpa using e1)]
  have h5:=h5.resolve_left e1
  by_cases e2:n>1
  ·rw[if_pos e2]
   refine wpS_bind (U2 C hk hU (show lo<_ by omega) (show lo+n-1<_ by omega) ?_)
   dsimp only
   cases hR:R (gA (arrOf st) lo) (gA (arrOf st) (lo+n-1)) with
   |true =>
    rw[if_pos rfl]
    exact wpS_pure (h n (arrOf st) h3.1 h3.2 (Qy.refl _ _ _) h4)
   |false =>
    rw[if_neg (by decide)]
    refine wpS_bind (QE ?_)
    have le1:∀q,q<n->R (gA (arrOf st) (lo+q)) (gA (arrOf st) lo)=false/\R (gA (arrOf st) (lo+n-1)) (gA (arrOf st) (lo+q))=false:=fun q hq=>by
     refine⟨?_, ?_⟩
     ·by_cases z:q=0
      ·subst z;exact C.irr (hU _ (by omega))
      ·exact h4 0 q (by omega) hq
     ·by_cases z:q=n-1
      ·subst z;rw[show lo+(n-1)=lo+n-1 by omega];exact C.irr (hU _ (by omega))
      ·have:=h4 q (n-1) (by omega) (by omega);rw[show lo+(n-1)=lo+n-1 by omega] at this;exact this
    have eq1:Eqv R (arrOf st) lo 0 n:=fun i j _ hi _ hj=>C.tr _ _ _ (hU _ (by omega)) (hU _ (by omega)) (hU _ (by omega)) (C.tr _ _ _ (hU _ (by omega)) (hU _ (by omega)) (hU _ (by omega)) (le1 j hj).2 hR) (le1 i hi).1
    have t0:Qy (arrOf st) (mir (arrOf st) lo (lo+n)) lo n:=(W9 (by omega) (by omega)).wide (Ztj _) (by omega)
    have t1:Qy (arrOf st) (mir (arrOf st) lo (lo+n)) lo (n+1):=t0.wide (Ztj _) (by omega)
    have dd:Dn' R (mir (arrOf st) lo (lo+n)) lo n:=fun i j hij hj=>by
     rw[Zb9 (by omega) (by omega) (by omega),Zb9 (by omega) (by omega) (by omega),show lo+(lo+n)-1-(lo+j)=lo+(n-1-j) by omega,show lo+(lo+n)-1-(lo+i)=lo+(n-1-i) by omega]
     exact eq1 _ _ (ZtB _) (by omega) (ZtB _) (by omega)
    have d1:Dn' R (mir (arrOf st) lo (lo+n)) lo (n+1):=dd.more C (stU t1) (by have:=t1.size;omega) (.inr (by
     rw[Zb9 (by omega) (by omega) (by omega),Zew (by omega) (.inr (by omega)),show lo+(lo+n)-1-(lo+n-1)=lo+0 by omega]
     have z1:=eq1 0 (n-1) (ZtB _) (by omega) (ZtB _) (by omega)
     rw[show lo+(n-1)=lo+n-1 by omega] at z1
     exact C.tr _ _ _ (hU _ (by omega)) (hU _ (by omega)) (hU _ (by omega)) (C.asy _ _ (hU _ (by omega)) (hU _ (by omega)) h5) z1))
    show wpS _ _ _ _ _ _ (setArr st (mir (arrOf st) lo (lo+n)))
    generalize mir (arrOf st) lo (lo+n)=X1 at t1 d1
    clear dd t0
    refine wpS_bind (wpS_lift (wpAny_rule ⟨rfl, ?_⟩))
    refine wpS_bind (wpS_mono (wpS_forRange
     (I:=fun x (c:Option (Option Nat)×Nat×Nat) (st':SortSt)=>c.1=none/\c.2.1=x/\∃Y,st'=setArr st Y/\Qy (arrOf st) Y lo x/\Dn' R Y lo x/\c.2.2<x/\Eqv R Y lo (x-1-c.2.2) x)
     (Q:=fun(c:Option (Option Nat)×Nat×Nat) (st':SortSt)=>c.1=none/\(1<=c.2.1/\c.2.1<=N)/\∃Y,st'=setArr st Y/\Qy (arrOf st) Y lo c.2.1/\Dn' R Y lo c.2.1/\c.2.2<c.2.1/\Eqv R Y lo (c.2.1-1-c.2.2) c.2.1) ?_ ?_
     ⟨rfl,rfl,X1,rfl,t1,d1,ZuT _,fun i j i1 i2 j1 j2=>by
      obtain rfl:i=n:=by dsimp only at i1;omega
      obtain rfl:j=i:=by dsimp only at j1;omega
      exact C.irr (stU t1 _ (by have:=t1.size;omega))⟩) ?_)
    ·rintro x ⟨o,k,e⟩ st' hx1 hx2 ⟨rfl,h3,Y,rfl,tY,dY,he,eY⟩
     dsimp only at h3 he eY ⊢
     subst h3
     have szY:=tY.size
     have uY:=stU tY
     refine wpS_bind (U2 C (show kindOf (setArr st Y)=κ from hk) uY (show lo+k<Y.size by omega) (show lo+k-1<Y.size by omega) ?_)
     dsimp only
     show wpS _ _ _ _ (if R (gA Y (lo+k)) (gA Y (lo+k-1))=true then _ else _) _ _
     have one:∀{Z:Array Keyed}{q:Nat},ZiO U Z->lo+q<Z.size->Eqv R Z lo (q+1-1-0) (q+1):=fun {Z q} hZ hq i j i1 i2 j1 j2=>by
      obtain rfl:i=q:=by omega
      obtain rfl:j=i:=by omega
      exact C.irr (hZ _ hq)
     cases hR:R (gA Y (lo+k)) (gA Y (lo+k-1)) with
     |true =>
      rw[if_pos rfl]
      have as1:=C.asy _ _ (uY _ (by omega)) (uY _ (by omega)) hR
      by_cases he0:e>0
      ·rw[if_pos he0]
       refine wpS_bind (QE (wpS_pure ⟨rfl,rfl,mir Y (lo+k-(e+1)) (lo+k),rfl, ?_, ?_,ZuT _, ?_⟩))
       ·exact(tY.trans ((W9 (by omega) (by omega)).wide (by omega) (by omega))).wide (Ztj _) (by omega)
       ·have t4:Qy (arrOf st) (mir Y (lo+k-(e+1)) (lo+k)) lo k:=tY.trans ((W9 (by omega) (by omega)).wide (by omega) (by omega))
        have dm:=dY.turn C uY (by omega) (show k-1-e<=k by omega) eY
        rw[show lo+(k-1-e)=lo+k-(e+1) by omega] at dm
        refine dm.more C (stU t4) (by have:=t4.size;omega) (.inr ?_)
        rw[Zb9 (by omega) (by omega) (by omega),Zew (by omega) (.inr (by omega)),show lo+k-(e+1)+(lo+k)-1-(lo+k-1)=lo+(k-1-e) by omega]
        have q1:=eY (k-1-e) (k-1) (by omega) (by omega) (by omega) (by omega)
        rw[show lo+(k-1)=lo+k-1 by omega] at q1
        exact C.tr _ _ _ (uY _ (by omega)) (uY _ (by omega)) (uY _ (by omega)) as1 q1
       ·exact one (stU (tY.trans ((W9 (by omega) (by omega)).wide (by omega) (by omega)))) (by have:=(W9 (X:=Y) (i:=lo+k-(e+1)) (j:=lo+k) (by omega) (by omega)).size;omega)
      ·rw[if_neg he0]
       exact wpS_pure ⟨rfl,rfl,Y,rfl,tY.wide (Ztj _) (by omega),dY.more C uY (by omega) (.inr as1),ZuT _,one uY (by omega)⟩
     |false =>
      rw[if_neg (by decide)]
      refine wpS_bind (U2 C (show kindOf (setArr st Y)=κ from hk) uY (show lo+k-1<Y.size by omega) (show lo+k<Y.size by omega) ?_)
      dsimp only
      show wpS _ _ _ _ (if R (gA Y (lo+k-1)) (gA Y (lo+k))=true then _ else _) _ _
      cases hL:R (gA Y (lo+k-1)) (gA Y (lo+k)) with
      |true =>
       rw[if_pos rfl]
       exact wpS_pure ⟨rfl,by dsimp only;omega,Y,rfl,tY,dY,he,eY⟩
      |false =>
       rw[if_neg (by decide)]
       refine wpS_pure ⟨rfl,rfl,Y,rfl,tY.wide (Ztj _) (by omega),dY.more C uY (by omega) (.inr hL),by dsimp only;omega,fun i j i1 i2 j1 j2=>?_⟩
       dsimp only at i1 i2 j1 j2
       have ek:∀q,k-1-e<=q->q<k->R (gA Y (lo+q)) (gA Y (lo+k-1))=false/\R (gA Y (lo+k-1)) (gA Y (lo+q))=false:=fun q q1 q2=>by
        have z1:=eY q (k-1) q1 q2 (by omega) (by omega)
        have z2:=eY (k-1) q (by omega) (by omega) q1 q2
        rw[show lo+(k-1)=lo+k-1 by omega] at z1 z2
        exact⟨z1,z2⟩
       by_cases a:i<k
       ·by_cases b:j<k
        ·exact eY i j (by omega) a (by omega) b
        ·obtain rfl:j=k:=by omega
         exact C.tr _ _ _ (uY _ (by omega)) (uY _ (by omega)) (uY _ (by omega)) hL (ek i (by omega) a).1
       ·obtain rfl:i=k:=by omega
        by_cases b:j<i
        ·exact C.tr _ _ _ (uY _ (by omega)) (uY _ (by omega)) (uY _ (by omega)) (ek j (by omega) b).2 hR
        ·obtain rfl:j=i:=by omega
         exact C.irr (uY _ (by omega))
    ·rintro⟨o,k,e⟩ st' ⟨h1,h3,Y,h4,tY,dY,he,eY⟩
     dsimp only at h3 he eY ⊢
     subst h3
     rw[show max (n+1) N=N by omega] at *
     exact⟨h1,by omega,Y,h4,tY,dY,he,eY⟩
    ·rintro⟨o,n2,e⟩ st' ⟨rfl,hn2,Y,rfl,tY,dY,he,eY⟩
     dsimp only at hn2 tY dY he eY ⊢
     have szY:=tY.size
     have uY:=stU tY
     by_cases he0:e>0
     ·rw[if_pos he0]
      refine wpS_bind (QE ?_)
      have t2:Qy (arrOf st) (mir Y (lo+n2-(e+1)) (lo+n2)) lo n2:=tY.trans ((W9 (by omega) (by omega)).wide (by omega) (by omega))
      have d2:=dY.turn C uY (by omega) (show n2-1-e<=n2 by omega) eY
      rw[show lo+(n2-1-e)=lo+n2-(e+1) by omega] at d2
      refine wpS_bind (QE ?_)
      have sz2:(mir Y (lo+n2-(e+1)) (lo+n2)).size=(arrOf st).size:=t2.size
      have t3:Qy (arrOf st) (mir (mir Y (lo+n2-(e+1)) (lo+n2)) lo (lo+n2)) lo n2:=t2.trans ((W9 (by omega) (by omega)).wide (Ztj _) (by omega))
      have u3:Up R (mir (mir Y (lo+n2-(e+1)) (lo+n2)) lo (lo+n2)) lo n2:=d2.up (by omega)
      have sz3:=t3.size
      show wpS _ _ _ _ _ _ (setArr st (mir (mir Y (lo+n2-(e+1)) (lo+n2)) lo (lo+n2)))
      generalize mir (mir Y (lo+n2-(e+1)) (lo+n2)) lo (lo+n2)=Y3 at t3 u3 sz3
      refine wpS_bind (wpS_mono (wpS_forRange
       (I:=fun x (c:Option (Option Nat)×Nat) (st':SortSt)=>c.1=none/\st'=setArr st Y3/\c.2=x/\Up R Y3 lo x)
       (Q:=fun(c:Option (Option Nat)×Nat) (st':SortSt)=>c.1=none/\st'=setArr st Y3/\(n2<=c.2/\c.2<=N)/\Up R Y3 lo c.2) ?_ ?_ ⟨rfl,rfl,rfl,u3⟩) ?_)
      ·rintro x ⟨o,k⟩ st' hx1 hx2 ⟨rfl,rfl,h3,h4⟩
       dsimp only at h3 ⊢
       subst h3
       refine wpS_bind (U2 C (show kindOf (setArr st Y3)=κ from hk) (stU t3) (show lo+k<Y3.size by omega) (show lo+k-1<Y3.size by omega) ?_)
       dsimp only
       show wpS _ _ _ _ (if R (gA Y3 (lo+k)) (gA Y3 (lo+k-1))=true then _ else _) _ _
       cases hR:R (gA Y3 (lo+k)) (gA Y3 (lo+k-1)) with
       |true =>
        rw[if_pos rfl]
        exact wpS_pure ⟨rfl,rfl,by dsimp only;omega,h4⟩
       |false =>
        rw[if_neg (by decide)]
        exact wpS_pure ⟨rfl,rfl,rfl,h4.more C (stU t3) (by omega) (.inr hR)⟩
      ·rintro⟨o,k⟩ st' ⟨h1,h2,h3,h4⟩
       dsimp only at h3 ⊢
       subst h3
       exact⟨h1,h2,by omega,h4⟩
      ·rintro⟨o,k⟩ st' ⟨rfl,rfl,h3,h4⟩
       dsimp only at h3 h4 ⊢
       exact wpS_pure (h k Y3 (by omega) h3.2 (t3.wide (Ztj _) (by omega)) h4)
     ·rw[if_neg he0]
      have t2:=tY
      have d2:=dY
      refine wpS_bind (QE ?_)
      have sz2:(Y).size=(arrOf st).size:=t2.size
      have t3:Qy (arrOf st) (mir (Y) lo (lo+n2)) lo n2:=t2.trans ((W9 (by omega) (by omega)).wide (Ztj _) (by omega))
      have u3:Up R (mir (Y) lo (lo+n2)) lo n2:=d2.up (by omega)
      have sz3:=t3.size
      show wpS _ _ _ _ _ _ (setArr st (mir (Y) lo (lo+n2)))
      generalize mir (Y) lo (lo+n2)=Y3 at t3 u3 sz3
      refine wpS_bind (wpS_mono (wpS_forRange
       (I:=fun x (c:Option (Option Nat)×Nat) (st':SortSt)=>c.1=none/\st'=setArr st Y3/\c.2=x/\Up R Y3 lo x)
       (Q:=fun(c:Option (Option Nat)×Nat) (st':SortSt)=>c.1=none/\st'=setArr st Y3/\(n2<=c.2/\c.2<=N)/\Up R Y3 lo c.2) ?_ ?_ ⟨rfl,rfl,rfl,u3⟩) ?_)
      ·rintro x ⟨o,k⟩ st' hx1 hx2 ⟨rfl,rfl,h3,h4⟩
       dsimp only at h3 ⊢
       subst h3
       refine wpS_bind (U2 C (show kindOf (setArr st Y3)=κ from hk) (stU t3) (show lo+k<Y3.size by omega) (show lo+k-1<Y3.size by omega) ?_)
       dsimp only
       show wpS _ _ _ _ (if R (gA Y3 (lo+k)) (gA Y3 (lo+k-1))=true then _ else _) _ _
       cases hR:R (gA Y3 (lo+k)) (gA Y3 (lo+k-1)) with
       |true =>
        rw[if_pos rfl]
        exact wpS_pure ⟨rfl,rfl,by dsimp only;omega,h4⟩
       |false =>
        rw[if_neg (by decide)]
        exact wpS_pure ⟨rfl,rfl,rfl,h4.more C (stU t3) (by omega) (.inr hR)⟩
      ·rintro⟨o,k⟩ st' ⟨h1,h2,h3,h4⟩
       dsimp only at h3 ⊢
       subst h3
       exact⟨h1,h2,by omega,h4⟩
      ·rintro⟨o,k⟩ st' ⟨rfl,rfl,h3,h4⟩
       dsimp only at h3 h4 ⊢
       exact wpS_pure (h k Y3 (by omega) h3.2 (t3.wide (Ztj _) (by omega)) h4)
  ·rw[if_neg e2]
   have t1:Qy (arrOf st) (arrOf st) lo (n+1):=Qy.refl _ _ _
   obtain rfl:n=1:=by omega
   have d1:Dn' R (arrOf st) lo (1+1):=fun i j hij hj=>by
    obtain rfl:i=0:=by omega
    obtain rfl:j=1:=by omega
    have:=C.asy _ _ (hU _ (by omega)) (hU _ (by omega)) h5
    rw[show lo+1-1=lo+0 by omega] at this
    exact this
   show wpS _ _ _ _ _ _ (setArr st (arrOf st))
   refine wpS_bind (wpS_lift (wpAny_rule ⟨rfl, ?_⟩))
   refine wpS_bind (wpS_mono (wpS_forRange
    (I:=fun x (c:Option (Option Nat)×Nat×Nat) (st':SortSt)=>c.1=none/\c.2.1=x/\∃Y,st'=setArr st Y/\Qy (arrOf st) Y lo x/\Dn' R Y lo x/\c.2.2<x/\Eqv R Y lo (x-1-c.2.2) x)
    (Q:=fun(c:Option (Option Nat)×Nat×Nat) (st':SortSt)=>c.1=none/\(1<=c.2.1/\c.2.1<=N)/\∃Y,st'=setArr st Y/\Qy (arrOf st) Y lo c.2.1/\Dn' R Y lo c.2.1/\c.2.2<c.2.1/\Eqv R Y lo (c.2.1-1-c.2.2) c.2.1) ?_ ?_
    ⟨rfl,rfl,(arrOf st),rfl,t1,d1,ZuT _,fun i j i1 i2 j1 j2=>by
     obtain rfl:i=1:=by dsimp only at i1;omega
     obtain rfl:j=1:=by dsimp only at j1;omega
     exact C.irr (stU t1 _ (by have:=t1.size;omega))⟩) ?_)
   ·rintro x ⟨o,k,e⟩ st' hx1 hx2 ⟨rfl,h3,Y,rfl,tY,dY,he,eY⟩
    dsimp only at h3 he eY ⊢
    subst h3
    have szY:=tY.size
    have uY:=stU tY
    refine wpS_bind (U2 C (show kindOf (setArr st Y)=κ from hk) uY (show lo+k<Y.size by omega) (show lo+k-1<Y.size by omega) ?_)
    dsimp only
    show wpS _ _ _ _ (if R (gA Y (lo+k)) (gA Y (lo+k-1))=true then _ else _) _ _
    have one:∀{Z:Array Keyed}{q:Nat},ZiO U Z->lo+q<Z.size->Eqv R Z lo (q+1-1-0) (q+1):=fun {Z q} hZ hq i j i1 i2 j1 j2=>by
     obtain rfl:i=q:=by omega
     obtain rfl:j=i:=by omega
     exact C.irr (hZ _ hq)
    cases hR:R (gA Y (lo+k)) (gA Y (lo+k-1)) with
    |true =>
     rw[if_pos rfl]
     have as1:=C.asy _ _ (uY _ (by omega)) (uY _ (by omega)) hR
     by_cases he0:e>0
     ·rw[if_pos he0]
      refine wpS_bind (QE (wpS_pure ⟨rfl,rfl,mir Y (lo+k-(e+1)) (lo+k),rfl, ?_, ?_,ZuT _, ?_⟩))
      ·exact(tY.trans ((W9 (by omega) (by omega)).wide (by omega) (by omega))).wide (Ztj _) (by omega)
      ·have t4:Qy (arrOf st) (mir Y (lo+k-(e+1)) (lo+k)) lo k:=tY.trans ((W9 (by omega) (by omega)).wide (by omega) (by omega))
       have dm:=dY.turn C uY (by omega) (show k-1-e<=k by omega) eY
       rw[show lo+(k-1-e)=lo+k-(e+1) by omega] at dm
       refine dm.more C (stU t4) (by have:=t4.size;omega) (.inr ?_)
       rw[Zb9 (by omega) (by omega) (by omega),Zew (by omega) (.inr (by omega)),show lo+k-(e+1)+(lo+k)-1-(lo+k-1)=lo+(k-1-e) by omega]
       have q1:=eY (k-1-e) (k-1) (by omega) (by omega) (by omega) (by omega)
       rw[show lo+(k-1)=lo+k-1 by omega] at q1
       exact C.tr _ _ _ (uY _ (by omega)) (uY _ (by omega)) (uY _ (by omega)) as1 q1
      ·exact one (stU (tY.trans ((W9 (by omega) (by omega)).wide (by omega) (by omega)))) (by have:=(W9 (X:=Y) (i:=lo+k-(e+1)) (j:=lo+k) (by omega) (by omega)).size;omega)
     ·rw[if_neg he0]
      exact wpS_pure ⟨rfl,rfl,Y,rfl,tY.wide (Ztj _) (by omega),dY.more C uY (by omega) (.inr as1),ZuT _,one uY (by omega)⟩
    |false =>
     rw[if_neg (by decide)]
     refine wpS_bind (U2 C (show kindOf (setArr st Y)=κ from hk) uY (show lo+k-1<Y.size by omega) (show lo+k<Y.size by omega) ?_)
     dsimp only
     show wpS _ _ _ _ (if R (gA Y (lo+k-1)) (gA Y (lo+k))=true then _ else _) _ _
     cases hL:R (gA Y (lo+k-1)) (gA Y (lo+k)) with
     |true =>
      rw[if_pos rfl]
      exact wpS_pure ⟨rfl,by dsimp only;omega,Y,rfl,tY,dY,he,eY⟩
     |false =>
      rw[if_neg (by decide)]
      refine wpS_pure ⟨rfl,rfl,Y,rfl,tY.wide (Ztj _) (by omega),dY.more C uY (by omega) (.inr hL),by dsimp only;omega,fun i j i1 i2 j1 j2=>?_⟩
      dsimp only at i1 i2 j1 j2
      have ek:∀q,k-1-e<=q->q<k->R (gA Y (lo+q)) (gA Y (lo+k-1))=false/\R (gA Y (lo+k-1)) (gA Y (lo+q))=false:=fun q q1 q2=>by
       have z1:=eY q (k-1) q1 q2 (by omega) (by omega)
       have z2:=eY (k-1) q (by omega) (by omega) q1 q2
       rw[show lo+(k-1)=lo+k-1 by omega] at z1 z2
       exact⟨z1,z2⟩
      by_cases a:i<k
      ·by_cases b:j<k
       ·exact eY i j (by omega) a (by omega) b
       ·obtain rfl:j=k:=by omega
        exact C.tr _ _ _ (uY _ (by omega)) (uY _ (by omega)) (uY _ (by omega)) hL (ek i (by omega) a).1
      ·obtain rfl:i=k:=by omega
       by_cases b:j<i
       ·exact C.tr _ _ _ (uY _ (by omega)) (uY _ (by omega)) (uY _ (by omega)) (ek j (by omega) b).2 hR
       ·obtain rfl:j=i:=by omega
        exact C.irr (uY _ (by omega))
   ·rintro⟨o,k,e⟩ st' ⟨h1,h3,Y,h4,tY,dY,he,eY⟩
    dsimp only at h3 he eY ⊢
    subst h3
    rw[show max (1+1) N=N by omega] at *
    exact⟨h1,by omega,Y,h4,tY,dY,he,eY⟩
   ·rintro⟨o,n2,e⟩ st' ⟨rfl,hn2,Y,rfl,tY,dY,he,eY⟩
    dsimp only at hn2 tY dY he eY ⊢
    have szY:=tY.size
    have uY:=stU tY
    by_cases he0:e>0
    ·rw[if_pos he0]
     refine wpS_bind (QE ?_)
     have t2:Qy (arrOf st) (mir Y (lo+n2-(e+1)) (lo+n2)) lo n2:=tY.trans ((W9 (by omega) (by omega)).wide (by omega) (by omega))
     have d2:=dY.turn C uY (by omega) (show n2-1-e<=n2 by omega) eY
     rw[show lo+(n2-1-e)=lo+n2-(e+1) by omega] at d2
     refine wpS_bind (QE ?_)
     have sz2:(mir Y (lo+n2-(e+1)) (lo+n2)).size=(arrOf st).size:=t2.size
     have t3:Qy (arrOf st) (mir (mir Y (lo+n2-(e+1)) (lo+n2)) lo (lo+n2)) lo n2:=t2.trans ((W9 (by omega) (by omega)).wide (Ztj _) (by omega))
     have u3:Up R (mir (mir Y (lo+n2-(e+1)) (lo+n2)) lo (lo+n2)) lo n2:=d2.up (by omega)
     have sz3:=t3.size
     show wpS _ _ _ _ _ _ (setArr st (mir (mir Y (lo+n2-(e+1)) (lo+n2)) lo (lo+n2)))
     generalize mir (mir Y (lo+n2-(e+1)) (lo+n2)) lo (lo+n2)=Y3 at t3 u3 sz3
     refine wpS_bind (wpS_mono (wpS_forRange
      (I:=fun x (c:Option (Option Nat)×Nat) (st':SortSt)=>c.1=none/\st'=setArr st Y3/\c.2=x/\Up R Y3 lo x)
      (Q:=fun(c:Option (Option Nat)×Nat) (st':SortSt)=>c.1=none/\st'=setArr st Y3/\(n2<=c.2/\c.2<=N)/\Up R Y3 lo c.2) ?_ ?_ ⟨rfl,rfl,rfl,u3⟩) ?_)
     ·rintro x ⟨o,k⟩ st' hx1 hx2 ⟨rfl,rfl,h3,h4⟩
      dsimp only at h3 ⊢
      subst h3
      refine wpS_bind (U2 C (show kindOf (setArr st Y3)=κ from hk) (stU t3) (show lo+k<Y3.size by omega) (show lo+k-1<Y3.size by omega) ?_)
      dsimp only
      show wpS _ _ _ _ (if R (gA Y3 (lo+k)) (gA Y3 (lo+k-1))=true then _ else _) _ _
      cases hR:R (gA Y3 (lo+k)) (gA Y3 (lo+k-1)) with
      |true =>
       rw[if_pos rfl]
       exact wpS_pure ⟨rfl,rfl,by dsimp only;omega,h4⟩
      |false =>
       rw[if_neg (by decide)]
       exact wpS_pure ⟨rfl,rfl,rfl,h4.more C (stU t3) (by omega) (.inr hR)⟩
     ·rintro⟨o,k⟩ st' ⟨h1,h2,h3,h4⟩
      dsimp only at h3 ⊢
      subst h3
      exact⟨h1,h2,by omega,h4⟩
     ·rintro⟨o,k⟩ st' ⟨rfl,rfl,h3,h4⟩
      dsimp only at h3 h4 ⊢
      exact wpS_pure (h k Y3 (by omega) h3.2 (t3.wide (Ztj _) (by omega)) h4)
    ·rw[if_neg he0]
     have t2:=tY
     have d2:=dY
     refine wpS_bind (QE ?_)
     have sz2:(Y).size=(arrOf st).size:=t2.size
     have t3:Qy (arrOf st) (mir (Y) lo (lo+n2)) lo n2:=t2.trans ((W9 (by omega) (by omega)).wide (Ztj _) (by omega))
     have u3:Up R (mir (Y) lo (lo+n2)) lo n2:=d2.up (by omega)
     have sz3:=t3.size
     show wpS _ _ _ _ _ _ (setArr st (mir (Y) lo (lo+n2)))
     generalize mir (Y) lo (lo+n2)=Y3 at t3 u3 sz3
     refine wpS_bind (wpS_mono (wpS_forRange
      (I:=fun x (c:Option (Option Nat)×Nat) (st':SortSt)=>c.1=none/\st'=setArr st Y3/\c.2=x/\Up R Y3 lo x)
      (Q:=fun(c:Option (Option Nat)×Nat) (st':SortSt)=>c.1=none/\st'=setArr st Y3/\(n2<=c.2/\c.2<=N)/\Up R Y3 lo c.2) ?_ ?_ ⟨rfl,rfl,rfl,u3⟩) ?_)
     ·rintro x ⟨o,k⟩ st' hx1 hx2 ⟨rfl,rfl,h3,h4⟩
      dsimp only at h3 ⊢
      subst h3
      refine wpS_bind (U2 C (show kindOf (setArr st Y3)=κ from hk) (stU t3) (show lo+k<Y3.size by omega) (show lo+k-1<Y3.size by omega) ?_)
      dsimp only
      show wpS _ _ _ _ (if R (gA Y3 (lo+k)) (gA Y3 (lo+k-1))=true then _ else _) _ _
      cases hR:R (gA Y3 (lo+k)) (gA Y3 (lo+k-1)) with
      |true =>
       rw[if_pos rfl]
       exact wpS_pure ⟨rfl,rfl,by dsimp only;omega,h4⟩
      |false =>
       rw[if_neg (by decide)]
       exact wpS_pure ⟨rfl,rfl,rfl,h4.more C (stU t3) (by omega) (.inr hR)⟩
     ·rintro⟨o,k⟩ st' ⟨h1,h2,h3,h4⟩
      dsimp only at h3 ⊢
      subst h3
      exact⟨h1,h2,by omega,h4⟩
     ·rintro⟨o,k⟩ st' ⟨rfl,rfl,h3,h4⟩
      dsimp only at h3 h4 ⊢
      exact wpS_pure (h k Y3 (by omega) h3.2 (t3.wide (Ztj _) (by omega)) h4)
end
noncomputable abbrev Zk8:=Nat×Nat×Nat
noncomputable def ZaH (R:Keyed->Keyed->Bool) (X:Array Keyed):Nat->List Zk8->Nat->Prop
 |s,[],e=>s=e
 |s,(c,n,_)::r,e=>c=s/\0<n/\Up R X c n/\ZaH R X (s+n) r e
section
variable {prog:Program}{w:World}{A:Around}{E:Value->Shared->Prop}{s:Shared}{κ:SortKind}{U:Keyed->Prop}{R:Keyed->Keyed->Bool}
theorem ZaH.le {X:Array Keyed}:∀{L:List Zk8}{a e:Nat},ZaH R X a L e->a+L.length<=e
 |[],a,e,h=>by have h:a=e:=h;simp[h]
 |(c,n,p)::L,a,e,h=>by
  obtain⟨_,h1,_,h2⟩:=h
  have:=ZaH.le h2
  simp only[ZtC];omega
theorem ZaH.app {X:Array Keyed}:∀{L M:List Zk8}{a e:Nat},ZaH R X a (L++M) e ↔ ∃q,ZaH R X a L q/\ZaH R X q M e
 |[],M,a,e=>⟨fun h=>⟨a,rfl,h⟩,fun⟨q,h1,h2⟩=>by have h1:a=q:=h1;subst h1;exact h2⟩
 |(c,n,p)::L,M,a,e=>by
  show (c=a/\0<n/\Up R X c n/\ZaH R X (a+n) (L++M) e) ↔ ∃q,(c=a/\0<n/\Up R X c n/\ZaH R X (a+n) L q)/\ZaH R X q M e
  constructor
  ·rintro⟨h1,h2,h3,h4⟩
   obtain⟨q,q1,q2⟩:=ZaH.app.mp h4
   exact⟨q,⟨h1,h2,h3,q1⟩,q2⟩
  ·rintro⟨q,⟨h1,h2,h3,h4⟩,q2⟩
   exact⟨h1,h2,h3,ZaH.app.mpr ⟨q,h4,q2⟩⟩
theorem Up.stir {X Y:Array Keyed}{lo m c n:Nat} (h:Up R X c n) (t:Qy X Y lo m) (d:c+n<=lo\/lo+m<=c):Up R Y c n:=fun i j hij hj=>by
 rw[Zai (t.out (c+j) (by omega)),Zai (t.out (c+i) (by omega))]
 exact h i j hij hj
theorem ZaH.stir {X Y:Array Keyed}{lo m:Nat} (t:Qy X Y lo m):∀{L:List Zk8}{a e:Nat},ZaH R X a L e->(e<=lo\/lo+m<=a)->ZaH R Y a L e
 |[],a,e,h,_=>h
 |(c,n,p)::L,a,e,h,d=>by
  obtain⟨h1,h2,h3,h4⟩:=h
  have:=ZaH.le h4
  exact⟨h1,h2,h3.stir t (by omega),ZaH.stir t h4 (by omega)⟩
theorem Up.srt {X:Array Keyed}{c n:Nat} (h:Up R X c n) (hs:c+n<=X.size):Srt R ((X.toList.drop c).take n):=by
 refine Zu9.mpr fun i j hi hj hij=>?_
 have hi':i<n:=by rw[Zt7] at hi;omega
 have hj':j<n:=by rw[Zt7] at hj;omega
 have e:∀t,t<n->∀ht,((X.toList.drop c).take n)[t]'ht=gA X (c+t):=fun t htn ht=>by
  have h1:((X.toList.drop c).take n)[t]?=some (gA X (c+t)):=by
   rw[ZtS,if_pos htn,ZtL,ZtH,ZfN (by omega)]
  rw[Ztf ht] at h1
  exact Option.some.inj h1
 rw[e i hi' hi,e j hj' hj]
 exact h i j hij hj'
theorem Srt.up {X:Array Keyed}{c n:Nat}{pre W post:List Keyed} (hX:X.toList=pre++(W++post)) (lp:pre.length=c) (lW:W.length=n) (h:Srt R W):Up R X c n:=fun i j hij hj=>by
 have g:∀t (ht:t<n),gA X (c+t)=W[t]'(by omega):=fun t ht=>by
  refine Zpo ?_
  rw[<- ZtH,hX,Ztm (by omega),lp,show c+t-c=t by omega,Ztl (by omega),Ztf (by omega)]
 rw[g i (by omega),g j hj]
 exact Zu9.mp h i j (by omega) (by omega) hij
theorem ZmO {L M:List Zk8}{a b c:Zk8}{P:Array Zk8} (h:P.toList=L++a::b::M):(((P.setIfInBounds L.length c).eraseIdxIfInBounds (L.length+1))).toList=L++c::M:=by
 have hz:L.length+1<(P.setIfInBounds L.length c).size:=by
  have:=congrArg List.length h
  rw[Ztn] at this
  rw[Array.size_setIfInBounds,this];simp
 rw[Array.eraseIdxIfInBounds,dif_pos hz,Array.toList_eraseIdx,Zvj,h]
 rw[ZuS _ _ (Ztj _),ZuQ,List.set_cons_zero,List.eraseIdx_append_of_length_le (by omega),show L.length+1-L.length=1 by omega]
 rfl
theorem ZgN (C:Zc7 prog w A s κ U R) {st:SortSt}{L M:List Zk8}{c n p d m p2 e:Nat}{Q:Bool->SortSt->Prop} (hk:kindOf st=κ) (hf:failedOf st=none) (hU:ZiO U (arrOf st))
  (hp:(pendingOf st).toList=L++(c,n,p)::(d,m,p2)::M) (hr:ZaH R (arrOf st) 0 (pendingOf st).toList e) (he:e<=(arrOf st).size)
  (h:∀st',kindOf st'=κ->failedOf st'=none->(pendingOf st').toList=L++(c,n+m,p)::M->Qy (arrOf st) (arrOf st') c (n+m)->c+n+m<=e->ZaH R (arrOf st') 0 (pendingOf st').toList e->Q true st') :
  wpS (model prog w) A E s (mergeAt' L.length) Q st:=by
 rw[hp] at hr
 obtain⟨q,r1,r2⟩:=ZaH.app.mp hr
 obtain⟨rfl,n0,u1,rfl,m0,u2,r3⟩:=r2
 have le3:=ZaH.le r3
 have hsz:c+n+m<=(arrOf st).size:=by omega
 have sp:(arrOf st).toList=(arrOf st).toList.take c++(((arrOf st).toList.drop c).take n++(((arrOf st).toList.drop (c+n)).take m++(arrOf st).toList.drop (c+n+m))):=by
  rw[Zbz,Zbz,Zt6]
 have lt:(arrOf st).toList.length=(arrOf st).size:=Ztn
 have inU:∀x∈(arrOf st).toList,U x:=fun x hx=>by
  obtain⟨i,hi⟩:=Zui hx
  have hl:=(Zti.mp hi).1
  rw[ZtH] at hi
  rw[<- Zpo hi]
  exact hU i (by omega)
 have i1:(pendingOf st)[L.length]?=some (c,n,p):=by
  rw[<- ZtH,hp,Ztm (Ztj _),ZuQ];rfl
 have i2:(pendingOf st)[L.length+1]?=some (c+n,m,p2):=by
  rw[<- ZtH,hp,Ztm (by omega),show L.length+1-L.length=1 by omega];rfl
 refine Zic C hk hf i1 i2 sp (by rw[Zt7];omega) (by rw[Zt7,ZtR];omega) (by rw[Zt7,ZtR];omega) rfl n0 m0
  (fun x hx=>inU x (ZtJ (ZtQ hx))) (fun x hx=>inU x (ZtJ (ZtQ hx))) (u1.srt (by omega)) (u2.srt (by omega)) fun st' W k1 k2 k3 k4 k5 k6=>?_
 have lW:W.length=n+m:=by rw[k6.length_eq,Zt8,Zt7,Zt7,ZtR,ZtR];omega
 have lpre:((arrOf st).toList.take c).length=c:=by rw[Zt7];omega
 have hst:Qy (arrOf st) (arrOf st') c (n+m):=by
  refine⟨?_,fun k hk'=>?_⟩
  ·refine Zvk.mpr ?_
   rw[k4]
   conv=>rhs;rw[sp]
   refine List.Perm.append_left _ ?_
   rw[<- Ztq]
   exact k6.append_right _
  ·rw[<- ZtH,<- ZtH,k4]
   rcases hk' with z|z
   ·rw[Ztl (by omega),ZtS,if_pos z]
   ·rw[Ztm (by omega),lpre,Ztm (by omega),lW,ZtL]
    congr 1;omega
 have kp:(pendingOf st').toList=L++(c,n+m,p)::M:=by rw[k3];exact ZmO hp
 refine h st' k1 k2 kp hst (by omega) ?_
 rw[kp]
 refine ZaH.app.mpr ⟨c,r1.stir hst (.inl (Ztj _)),rfl,by omega,Srt.up k4 lpre lW k5, ?_⟩
 rw[<- Zvq]
 exact r3.stir hst (.inr (by omega))
end
section
variable {prog:Program}{w:World}{A:Around}{E:Value->Shared->Prop}{s:Shared}{κ:SortKind}{U:Keyed->Prop}{R:Keyed->Keyed->Bool}
structure RSt (κ:SortKind) (U:Keyed->Prop) (R:Keyed->Keyed->Bool) (X:Array Keyed) (lo:Nat) (st':SortSt):Prop where
 kd:kindOf st'=κ
 fl:failedOf st'=none
 pm:(arrOf st').Perm X
 us:ZiO U (arrOf st')
 rn:ZaH R (arrOf st') 0 (pendingOf st').toList lo
 le:lo<=X.size
theorem RSt.sz {X:Array Keyed}{lo:Nat}{st':SortSt} (h:RSt κ U R X lo st'):(arrOf st').size=X.size:=h.pm.size_eq
theorem ZaH.mod {X:Array Keyed}{f:Zk8->Zk8} (hf:∀c n p,∃p',f (c,n,p)=(c,n,p')):∀{L:List Zk8}{a e:Nat},ZaH R X a L e->∀i,ZaH R X a (L.modify i f) e
 |[],a,e,h,i=>by simpa using h
 |(c,n,p)::L,a,e,h,0=>by
  obtain⟨p',hp'⟩:=hf c n p
  rw[List.modify_zero_cons,hp']
  exact h
 |(c,n,p)::L,a,e,h,i+1=>by
  rw[List.modify_succ_cons]
  exact⟨h.1,h.2.1,h.2.2.1,ZaH.mod hf h.2.2.2 i⟩
theorem Zqg {L:List Zk8}{i:Nat} (h:i+1<L.length):∃A a b B,L=A++a::b::B/\A.length=i:=by
 refine⟨L.take i,L[i],L[i+1],L.drop (i+2), ?_,by rw[Zt7];omega⟩
 rw[<- Zty h,<- Zty (by omega),Zt6]
theorem Zc8 (C:Zc7 prog w A s κ U R) {X:Array Keyed}{st1:SortSt}{lo i:Nat}{Q:Bool->SortSt->Prop} (S1:RSt κ U R X lo st1) (hi:i+1<(pendingOf st1).size)
  (h:∀st',RSt κ U R X lo st'->(pendingOf st').size+1=(pendingOf st1).size->(∀n,Up R (arrOf st1) lo n->Up R (arrOf st') lo n)->Q true st'):wpS (model prog w) A E s (mergeAt' i) Q st1:=by
 obtain⟨L,⟨c,n,p⟩,⟨d,m,p2⟩,M,hL,rfl⟩:=Zqg (L:=(pendingOf st1).toList) (by rw[Ztn];exact hi)
 refine ZgN C S1.kd S1.fl S1.us hL S1.rn (by rw[S1.sz];exact S1.le) fun st' k1 k2 k3 k4 k5 k6=>h st' ⟨k1,k2,k4.perm.trans S1.pm,S1.us.stir k4,k6,S1.le⟩ ?_ fun q hq=>hq.stir k4 (.inr (by omega))
 have e1:=congrArg List.length hL
 have e2:=congrArg List.length k3
 rw[Ztn] at e1 e2
 simp only[Zt8,ZtC] at e1 e2
 omega
theorem ZhZ (C:Zc7 prog w A s κ U R) {st:SortSt}{Q:Unit->SortSt->Prop} (hk:kindOf st=κ) (hf:failedOf st=none) (hU:ZiO U (arrOf st)) (hp:pendingOf st=#[])
  (h:∀st',failedOf st'=none->(arrOf st').Perm (arrOf st)->Up R (arrOf st') 0 (arrOf st).size->Q () st'):wpS (model prog w) A E s sortRuns' Q st:=by
 rw[sortRuns'_eq]
 refine wpS_bind (wpS_get ?_)
 dsimp only
 have S0:RSt κ U R (arrOf st) 0 st:=⟨hk,hf,Array.Perm.refl _,hU,by rw[hp];rfl,ZtB _⟩
 generalize hX:arrOf st=X at S0 h
 refine wpS_bind (wpS_mono (wpS_forRange
  (I:=fun x (c:Option Unit×Nat) (st':SortSt)=>c.1=none/\RSt κ U R X c.2 st'/\(x<=c.2\/X.size<=c.2))
  (Q:=fun(c:Option Unit×Nat) (st':SortSt)=>c.1=none/\RSt κ U R X X.size st') ?step ?fin ⟨rfl,S0,.inl (Ztj _)⟩) ?post)
 case fin =>
  rintro⟨o,lo⟩ st' ⟨h1,h2,h3⟩
  dsimp only at h1 h2 h3 ⊢
  have:=h2.le
  obtain rfl:lo=X.size:=by omega
  exact⟨h1,h2⟩
 case step =>
  rintro x ⟨o,lo⟩ st1 _ hx ⟨rfl,S1,h3⟩
  dsimp only at S1 h3 ⊢
  have hle:=S1.le
  have hsz:=S1.sz
  by_cases e0:lo ≥ X.size
  ·rw[if_pos e0]
   obtain rfl:lo=X.size:=by omega
   exact wpS_pure ⟨rfl,S1⟩
  rw[if_neg e0]
  refine wpS_bind (ZkA C S1.kd S1.us (show lo+(X.size-lo)<=_ by omega) (by omega) fun m Y m1 m2 t u=>?_)
  dsimp only
  have S1':RSt κ U R X lo (setArr st1 Y):=⟨S1.kd,S1.fl,t.perm.trans S1.pm,S1.us.stir t,S1.rn.stir t (.inl (Ztj _)),S1.le⟩
  by_cases e1:m<minRun' X.size X.size 0
  ·rw[if_pos e1]
   have f1:m<=min (X.size-lo) (minRun' X.size X.size 0):=by omega
   have f2:min (X.size-lo) (minRun' X.size X.size 0)<=X.size-lo:=Zve _ _
   generalize min (X.size-lo) (minRun' X.size X.size 0)=N1 at f1 f2
   refine wpS_bind (wpS_lift (wpAny_rule ⟨rfl, ?_⟩))
   refine wpS_bind (Zo3 C (show kindOf (setArr st1 Y)=κ from S1.kd) S1'.us (show lo+N1<=(arrOf (setArr st1 Y)).size by rw[S1'.sz];omega) f1 (by omega) u fun Y2 t2 u2=>?_)
   rw[if_neg (by decide)]
   have t2:Qy Y Y2 lo N1:=t2
   have S2:RSt κ U R X lo (setArr st1 Y2):=⟨S1.kd,S1.fl,t2.perm.trans S1'.pm,S1'.us.stir t2,S1'.rn.stir t2 (.inl (Ztj _)),S1.le⟩
   show wpS _ _ _ _ _ _ (setArr st1 Y2)
   have PUSH:∀st3,RSt κ U R X lo st3->Up R (arrOf st3) lo (N1)->RSt κ U R X (lo+(N1)) (setPending st3 ((pendingOf st3).push (lo,N1,0))):=fun st3 S3 u3 =>
    ⟨S3.kd,S3.fl,S3.pm,S3.us,by
     show ZaH R (arrOf st3) 0 ((pendingOf st3).push (lo,N1,0)).toList (lo+(N1))
     rw[ZuO]
     exact ZaH.app.mpr ⟨lo,S3.rn,rfl,by omega,u3,rfl⟩,by omega⟩
   refine wpS_bind (wpS_get ?_)
   cases hb:(pendingOf (setArr st1 Y2)).back? with
   |none =>
    dsimp only
    exact wpS_bind (wpS_modify (wpS_pure ⟨rfl,PUSH _ S2 u2,.inl (by dsimp only;omega)⟩))
   |some q =>
    obtain⟨s1,n1,p1⟩:=q
    dsimp only
    refine wpS_bind (wpS_mono (wpS_forRange
     (I:=fun _ (c:Option Unit×Unit) (st':SortSt)=>c.1=none/\RSt κ U R X lo st'/\Up R (arrOf st') lo (N1))
     (Q:=fun(c:Option Unit×Unit) (st':SortSt)=>c.1=none/\RSt κ U R X lo st'/\Up R (arrOf st') lo (N1)) ?_ (fun c st' hc=>hc) ⟨rfl,S2,u2⟩) ?_)
    ·rintro y ⟨o,_⟩ st3 _ hy ⟨rfl,S3,u3⟩
     refine wpS_bind (wpS_get ?_)
     by_cases hsz3:(pendingOf st3).size>1
     ·rw[if_pos hsz3]
      have hg:(pendingOf st3)[(pendingOf st3).size-2]?=some ((pendingOf st3)[(pendingOf st3).size-2]'(by omega)):=Array.getElem?_eq_getElem (by omega)
      rw[hg]
      generalize (pendingOf st3)[(pendingOf st3).size-2]'(by omega)=q3 at hg
      obtain⟨a3,b3,older⟩:=q3
      dsimp only
      split
      ·exact wpS_pure ⟨rfl,S3,u3⟩
      ·refine wpS_bind (Zc8 C S3 (by omega) fun st4 S4 _ up4=>?_)
       rw[if_neg (by decide)]
       exact wpS_pure ⟨rfl,S4,up4 _ u3⟩
     ·rw[if_neg hsz3]
      exact wpS_pure ⟨rfl,S3,u3⟩
    ·rintro⟨o,_⟩ st3 ⟨h1,S3,u3⟩
     dsimp only at h1
     subst h1
     dsimp only
     refine wpS_bind (wpS_modify (wpS_bind (wpS_modify (wpS_pure ⟨rfl, ?_,.inl (by dsimp only;omega)⟩))))
     refine PUSH (setPending st3 _) ⟨S3.kd,S3.fl,S3.pm,S3.us, ?_,S3.le⟩ u3
     show ZaH R (arrOf st3) 0 ((pendingOf st3).modify _ _).toList lo
     rw[Array.toList_modify]
     exact S3.rn.mod (fun _ _ _=>⟨_,rfl⟩) _
  ·rw[if_neg e1]
   have S2:=S1'
   have u2:=u
   have PUSH:∀st3,RSt κ U R X lo st3->Up R (arrOf st3) lo (m)->RSt κ U R X (lo+(m)) (setPending st3 ((pendingOf st3).push (lo,m,0))):=fun st3 S3 u3 =>
    ⟨S3.kd,S3.fl,S3.pm,S3.us,by
     show ZaH R (arrOf st3) 0 ((pendingOf st3).push (lo,m,0)).toList (lo+(m))
     rw[ZuO]
     exact ZaH.app.mpr ⟨lo,S3.rn,rfl,by omega,u3,rfl⟩,by omega⟩
   refine wpS_bind (wpS_get ?_)
   cases hb:(pendingOf (setArr st1 Y)).back? with
   |none =>
    dsimp only
    exact wpS_bind (wpS_modify (wpS_pure ⟨rfl,PUSH _ S2 u2,.inl (by dsimp only;omega)⟩))
   |some q =>
    obtain⟨s1,n1,p1⟩:=q
    dsimp only
    refine wpS_bind (wpS_mono (wpS_forRange
     (I:=fun _ (c:Option Unit×Unit) (st':SortSt)=>c.1=none/\RSt κ U R X lo st'/\Up R (arrOf st') lo (m))
     (Q:=fun(c:Option Unit×Unit) (st':SortSt)=>c.1=none/\RSt κ U R X lo st'/\Up R (arrOf st') lo (m)) ?_ (fun c st' hc=>hc) ⟨rfl,S2,u2⟩) ?_)
    ·rintro y ⟨o,_⟩ st3 _ hy ⟨rfl,S3,u3⟩
     refine wpS_bind (wpS_get ?_)
     by_cases hsz3:(pendingOf st3).size>1
     ·rw[if_pos hsz3]
      have hg:(pendingOf st3)[(pendingOf st3).size-2]?=some ((pendingOf st3)[(pendingOf st3).size-2]'(by omega)):=Array.getElem?_eq_getElem (by omega)
      rw[hg]
      generalize (pendingOf st3)[(pendingOf st3).size-2]'(by omega)=q3 at hg
      obtain⟨a3,b3,older⟩:=q3
      dsimp only
      split
      ·exact wpS_pure ⟨rfl,S3,u3⟩
      ·refine wpS_bind (Zc8 C S3 (by omega) fun st4 S4 _ up4=>?_)
       rw[if_neg (by decide)]
       exact wpS_pure ⟨rfl,S4,up4 _ u3⟩
     ·rw[if_neg hsz3]
      exact wpS_pure ⟨rfl,S3,u3⟩
    ·rintro⟨o,_⟩ st3 ⟨h1,S3,u3⟩
     dsimp only at h1
     subst h1
     dsimp only
     refine wpS_bind (wpS_modify (wpS_bind (wpS_modify (wpS_pure ⟨rfl, ?_,.inl (by dsimp only;omega)⟩))))
     refine PUSH (setPending st3 _) ⟨S3.kd,S3.fl,S3.pm,S3.us, ?_,S3.le⟩ u3
     show ZaH R (arrOf st3) 0 ((pendingOf st3).modify _ _).toList lo
     rw[Array.toList_modify]
     exact S3.rn.mod (fun _ _ _=>⟨_,rfl⟩) _
 case post =>
  rintro⟨o,lo⟩ st1 ⟨h1,S1⟩
  dsimp only at h1
  subst h1
  dsimp only
  refine wpS_bind (wpS_mono (wpS_forRange
   (I:=fun x (c:Option Unit×Unit) (st':SortSt)=>c.1=none/\RSt κ U R X X.size st'/\((pendingOf st').size+x<=X.size\/(pendingOf st').size<=1))
   (Q:=fun(c:Option Unit×Unit) (st':SortSt)=>c.1=none/\RSt κ U R X X.size st'/\(pendingOf st').size<=1) ?_ ?_ ⟨rfl,S1,.inl ?_⟩) ?_)
  ·rintro x ⟨o,_⟩ st3 _ hx ⟨rfl,S3,h3⟩
   refine wpS_bind (wpS_get ?_)
   by_cases e1:(pendingOf st3).size<=1
   ·rw[if_pos e1]
    exact wpS_pure ⟨rfl,S3,e1⟩
   ·rw[if_neg e1]
    refine wpS_bind (Zc8 C S3 ?_ fun st4 S4 z4 _=>?_)
    ·have hp3:1<(pendingOf st3).size:=Nat.lt_of_not_le e1
     have both:∀(b:Prop) [Decidable b],(if b then (pendingOf st3).size-2-1 else (pendingOf st3).size-2)+1<(pendingOf st3).size:=fun b _=>by
      by_cases hb:b
      ·rw[if_pos hb];omega
      ·rw[if_neg hb];omega
     exact both _
    ·rw[if_neg (by decide)]
     exact wpS_pure ⟨rfl,S4,by omega⟩
  ·rintro⟨o,_⟩ st3 ⟨h1,S3,h3⟩
   have:=ZaH.le S3.rn
   rw[Ztn] at this
   exact⟨h1,S3,by omega⟩
  ·have:=ZaH.le S1.rn
   rw[Ztn] at this
   omega
  ·rintro⟨o,_⟩ st3 ⟨h1,S3,h3⟩
   dsimp only at h1
   subst h1
   refine wpS_pure (h st3 S3.fl S3.pm ?_)
   have rn:=S3.rn
   have hl:(pendingOf st3).toList.length<=1:=by rw[Ztn];exact h3
   match hL:(pendingOf st3).toList with
   |[] =>
    rw[hL] at rn
    have z:0=X.size:=rn
    intro i j _ hj
    omega
   |[(c,n,p)] =>
    rw[hL] at rn
    obtain⟨rfl,_,z1,z2⟩:=rn
    have z2:0+n=X.size:=z2
    rw[<- z2,ZtT];exact z1
   |_::_::_ =>
    rw[hL] at hl
    simp at hl
end
end L2
namespace L2
open PySem PySem.Spec PyProof.Rows
section
variable {X:Cx}{K:W.Frag}
end
section
variable {K:W.Frag}{EX:PX->Hp->Prop}{Γ Γ1 Γ2:List Md}{te:TE}{ta:TA}{f:List PV->Rr PV}{fa:List PV->Rr (List PV)}
end
theorem ZrP {g:Bool->Bool}{m n:Nat}{x y:PV} (hx:Dat m x) (hy:Dat n y) (h1:m<=64:=by decide) (h2:n<=64:=by decide):Zhk g x y=.ok (.bl (g (PyData.eqv x.dat y.dat))):=by
 unfold Zhk
 rw[hx.ok h1,hy.ok h2,Bool.and_self,if_pos rfl]
theorem Zj8 {α:Type} [DecidableEq α] {q:α->PV} (h:∀a b,PyData.eqv (q a).dat (q b).dat=decide (a=b)):∀L M:List α,PyData.eqvAll (PV.dats (L.map q)) (PV.dats (M.map q))=decide (L=M)
 |[],[]=>by simp[PV.dats,PyData.eqvAll]
 |[],b::M=>by simp[PV.dats,PyData.eqvAll]
 |a::L,[]=>by simp[PV.dats,PyData.eqvAll]
 |a::L,b::M=>by
  simp only[Ztv,PV.dats,PyData.eqvAll,h a b,Zj8 h L M,List.cons.injEq]
  by_cases c:a=b<;>by_cases d:L=M<;>simp[c,d]
theorem Zn3 (a b:List Int):PyData.eqv (VP a).dat (VP b).dat=decide (a=b):=by
 simp only[VP,PV.dat,Zcx,PyData.eqv,Zar]
theorem ZjG (M:List (List Int)):Dat 2 (.lst (M.map VP)):=Zmp fun x hx=>by
 obtain⟨q,_,rfl⟩:=ZtA.mp hx
 exact Zb0 q
theorem Znj {g:Bool->Bool} (L M:List (List Int)):Zhk g (.lst (L.map VP)) (.lst (M.map VP))=.ok (.bl (g (decide (L=M)))):=by
 rw[ZrP (ZjG L) (ZjG M)]
 simp only[PV.dat,PyData.eqv,Zj8 Zn3]
theorem Zmd {α:Type}{f:PV->Rr (Option PV)}{q:α->PV}{p:α->Bool}{g:α->PV}{L:List α} (h:∀x∈L,f (q x)=.ok (if p x=true then some (g x) else none)):Zfu f (L.map q)=.ok ((L.filter p).map g):=by
 induction L with
 |nil=>rfl
 |cons a l ih =>
  simp only[Ztv,Zfu,h a (by simp),Rr.bind_ok,ih fun z hz=>h z (by simp[hz])]
  cases hp:p a<;>simp[hp,Zus]
section
variable {K:W.Frag}{B:Addr->Prop}{EX:PX->Hp->Prop}{H0 H H':Hp}{σ:St}{Γ Γ' Γ1 Γ2:List Md}{ρ:List PV}{F F':Nat->List Addr}{R:List Addr}
end
section
variable {P:Program}{w:World}{K:W.Frag}{mg:Str->Option Value}{base:Heap}
end
section
variable {K:W.Frag}{EX:PX->Hp->Prop}{Γ Γ' Γ1 Γ2:List Md}{c d:TT}{fc fd:List PV->Rr Bool}{ta:TA}{fa:List PV->Rr (List PV)}{Y:Tys}{t u:TS}{g g':List PV->RS}{n:Nat}{m:List PV->Rr PV}
end
section
variable {K:W.Frag}{H:Hp}
variable {Γ Γ1 Γ2:List Md}{i:Nat}{tp:TE}{ix:List PV->Rr (List Int)}{EX:PX->Hp->Prop}{k:Kd}
end
section
variable {X:Cx}
end
section
variable {K:W.Frag}{EX:PX->Hp->Prop}{Γ Γ':List Md}{ta:TA}{fa:List PV->Rr (List PV)}
end
section
variable {K:W.Frag}{EX:PX->Hp->Prop}{Γ:List Md}{tt:TT}{c:List PV->Rr Bool}
theorem Zh8 {i n:Nat} (hm:Γ[i]?=some .O) (ht:DT K EX (Γ.set i .S++[.S]) (Γ.set i .S++[.S]) tt c) (hn:n=Γ.length) :
  DE K EX Γ (Γ.set i .U) .F (Zf7 (ZlU K (ZjS i)) tB1 tt (ZjS n)) (fun ρ=>(asL (gv i ρ)).bind fun xs=>(lenM xs).bind fun _=>(Zfu (fun x=>(c (ρ++[x])).bind fun b=>.ok (if b=true then some x else none)) xs).bind fun ys=>.ok (.lst ys)):=fun B H0 H σ ρ F R Q A d=>by
 obtain⟨xs,exs,d⟩:=Dn.asL d.bind
 obtain⟨hlen,d⟩:=Dn.lenM d.bind
 obtain⟨v,h1,h2⟩:=A.getO hm
 rw[show ρ.getD i .non=.lst xs from exs] at h2
 obtain⟨a,vs,G1,rfl,ha,htr,hna,hFi⟩:=h2
 have hl:vs.length=xs.length:=htr.length
 generalize hgx:(fun x=>(c (ρ++[x])).bind fun b=>Rr.ok (if b=true then some x else none))=gx at d
 have A1:=A.freeze hm (by decide)
 have AM:=A.move hm
 have l1:=A.lenS
 have l2:=A.lenR
 have inF:∀b∈G1,b∈F i:=fun b hb=>by rw[hFi];simp[hb]
 refine⟨.ref a,h1,a,rfl,⟨vs,SqL.of ha⟩, ?_⟩
 refine⟨fun k m ys H2=>∃zs Gz Gb,m=xs.length-k/\k<=xs.length/\ys.length<=k/\ZF H H2/\ZE K H zs ys Gz/\ZE K H (xs.drop k) (vs.drop k) Gb/\(∀b∈Gz,b∈G1)/\(∀b∈Gb,b∈G1)/\(∀b∈Gz,b ∉ Gb) /\
  Dn ((Zfu gx (xs.drop k)).bind fun ys'=>.ok (.lst (zs++ys'))) (fun x=>∀v H',ZF H H'->Res K B H0 H σ (Γ.set i .U) ρ F R .F x v H'->Q v H') (fun e=>∀H',ZF H0 H'->EX e H'),
  ⟨xs.length,[],[],G1,by simp,ZtB _,Ztj _,ZF.refl _,⟨rfl,rfl⟩,by simpa using htr,by simp,fun _ h=>h,by simp,by simpa using d⟩, ?_⟩
 rintro k m ys H2 ⟨zs,Gz,Gb,rfl,hk,hyl,s2,tz,tb,z1,z2,z3,dn⟩
 refine⟨V1 (by omega), ?_⟩
 cases hx:xs[k]? with
 |none =>
  have hge:=ZtN.mp hx
  refine .inl ⟨⟨vs,(SqL.of (s2 _ _ ha)),by omega⟩,fun p hp=>?_⟩
  have hd:xs.drop k=[]:=ZtW hge
  rw[hd] at dn
  have dn':∀v H',ZF H H'->Res K B H0 H σ (Γ.set i .U) ρ F R .F (.lst (zs++[])) v H'->Q v H':=dn
  rw[Zub] at dn'
  refine dn' _ _ (s2.trans (ZF.new hp)) (Res.newF s2 Qc (tz.same s2) (fun b hb=>⟨A.disjR i b (inF b (z1 b hb)),.inr ⟨i,inF b (z1 b hb)⟩⟩) ((AM.grow s2).less fun b hb=>?_) hp)
  rcases Ztk.mp hb with z|z
  ·exact Zts _ (inF b (z1 b z))
  ·exact Zth _ z
 |some x =>
  have hlt:k<xs.length:=(Zti.mp hx).1
  have hdx:xs.drop k=x::xs.drop (k+1):=by
   rw[Zty hlt]
   rw[Ztf hlt] at hx;cases hx;rfl
  rw[hdx] at dn tb
  obtain⟨w,r,Gx,Gr,ew,t1,t2,t3,rfl⟩:=tb
  have hvk:vs[k]?=some w:=by
   have:=congrArg (fun l=>l[0]?) ew
   simpa using this
  have hvr:vs.drop (k+1)=r:=by
   have:=congrArg (fun l=>l.drop 1) ew
   simpa[List.drop_drop,Zvm] using this
  simp only[Zfu,Rr.assoc] at dn
  rw[<- hgx] at dn
  simp only[Rr.assoc,Rr.bind_ok] at dn
  rw[hgx] at dn
  refine .inr ⟨⟨vs,w,SqL.of (s2 _ _ ha),hvk⟩,fun ys' H'=>∃zs Gz Gb,ys'.length<=k+1/\ZF H H'/\ZE K H zs ys' Gz/\ZE K H (xs.drop (k+1)) (vs.drop (k+1)) Gb/\(∀b∈Gz,b∈G1)/\(∀b∈Gb,b∈G1)/\(∀b∈Gz,b ∉ Gb) /\
   Dn ((Zfu gx (xs.drop (k+1))).bind fun ys'=>.ok (.lst (zs++ys'))) (fun x=>∀v H',ZF H H'->Res K B H0 H σ (Γ.set i .U) ρ F R .F x v H'->Q v H') (fun e=>∀H',ZF H0 H'->EX e H'),
   fun ys' H' ⟨zs,Gz,Gb,a1,a2,a3,a4,a5,a6,a7,a8⟩=>⟨xs.length-(k+1),by omega,zs,Gz,Gb,rfl,hlt,a1,a2,a3,a4,a5,a6,a7,a8⟩,fun v H3 ⟨e3,yv⟩=>?_⟩
  subst e3
  have:=yv vs (SqL.of (s2 _ _ ha))
  rw[hvk] at this
  cases this
  have rx:Rep K H3 (NO B (ZbG F i []) R) x w:=(t1.same s2).rep fun b hb=>by
   have hbG:=z2 b (by simp[hb])
   refine⟨A.own b (A.young i b (inF b hbG)),A.disjR i b (inF b hbG),fun j z=>?_⟩
   unfold ZbG at z
   split at z
   ·simp at z
   ·rename_i hj
    exact A.disj i j (fun q=>hj q.symm) b (inF b hbG) z
  refine⟨[w],rfl, ?_⟩
  have A3:=(A1.grow s2).push rx
  refine ht B H0 H3 _ _ _ R _ A3 (dn.bind.imp (fun b _ dn H4 F4 s4 f4 A4=>?_) fun e q=>q)
  cases b with
  |false =>
   rw[if_neg Bool.false_ne_true] at dn ⊢
   simp only[Zu6,Zuc] at dn
   exact⟨zs,Gz,Gr,by omega,s2.trans s4,tz,hvr▸t2,z1,fun b hb=>z2 b (by simp[hb]),fun b hb z=>z3 b hb (by simp[z]),dn⟩
  |true =>
   rw[if_pos rfl] at dn ⊢
   simp only[Zu6] at dn
   refine⟨w, ?_,zs++[x],Gz++Gx,Gr,by simp;omega,s2.trans s4,ZE.append tz (ZE.one t1) (fun b hb z=>z3 b hb (by simp[z])),hvr▸t2,fun b hb=>?_,fun b hb=>z2 b (by simp[hb]),fun b hb z=>?_, ?_⟩
   ·rw[hn,<- l1];simp
   ·rcases Ztk.mp hb with q|q
    ·exact z1 b q
    ·exact z2 b (by simp[q])
   ·rcases Ztk.mp hb with q|q
    ·exact z3 b q (by simp[z])
    ·exact t3 b q z
   ·simp only[Ztq]
    exact dn
end
noncomputable def frz (m:Md):Md:=if m=.O\/m=.T then .S else m
section
variable {K:W.Frag}{B:Addr->Prop}{EX:PX->Hp->Prop}{H0 H H':Hp}{σ:St}{Γ:List Md}{ρ:List PV}{F:Nat->List Addr}{R:List Addr}{tt:TT}{c:List PV->Rr Bool}{te:TE}{fe:List PV->Rr PV}
end
section
variable {K:W.Frag}{B:Addr->Prop}{EX:PX->Hp->Prop}{H0 H H':Hp}{σ:St}{Γ Γ' Γ1 Γ2:List Md}{ρ:List PV}{F F':Nat->List Addr}{R:List Addr}{te tb:TE}{f fb:List PV->Rr PV}{S:Addr->Prop}
theorem Zf9:∀{ts:List (List Int)}{vs:List V},Y1 K H S (ts.map VP) vs->∃qs:List PL2,vs=(qs.map fun t=>V.ref t.1)/\(qs.map fun t=>t.2)=ts /\
  ∀t∈qs,SqL K H t.1 (t.2.map V.int)/\Rep K H S (VP t.2) (.ref t.1)
 |[],vs,h=>⟨[],h,rfl,by simp⟩
 |ns::ts,vs,h=>by
  obtain⟨v,r,rfl,h1,h2⟩:=h
  obtain⟨qs,rfl,e2,e3⟩:=Zf9 h2
  obtain⟨l,rfl,h3⟩:=Zjh h1
  refine⟨(l,ns)::qs,rfl,by rw[Ztv,e2],fun t ht=>?_⟩
  rcases Ztt.mp ht with rfl|ht
  ·exact⟨h3,h1⟩
  ·exact e3 t ht
theorem ZnB (he:DE K EX Γ Γ' .Z te f):DE K EX Γ Γ' .Z (tCB (ZoH K) (ZdF te ZiU)) (fun ρ=>(f ρ).bind Zna):=fun B H0 H σ ρ F R Q A d=>by
 refine he B H0 H σ ρ F R _ A (d.bind.imp (fun x _ d v H1 s1 r1=>?_) fun e q=>q)
 obtain⟨F1,f1,t1,A1⟩:=r1
 unfold Zna at d
 split at d
 ·rename_i hex
  have hs:=hex.choose_spec
  generalize hex.choose=c at d hs
  obtain⟨ts,t⟩:=c
  obtain⟨rfl,hm⟩:=hs
  have hm:ZbC ts t:=hm
  obtain⟨a,vs,rfl,ha,ht⟩:=t1
  obtain⟨qs,rfl,e2,e3⟩:=Zf9 ht
  have e2:(qs.map fun t=>t.2)=ts:=e2
  have hne:0<qs.length:=by
   have:=hm.1
   rw[<- e2] at this
   obtain⟨q,hq,_⟩:=ZtA.mp this
   exact List.length_pos_of_mem hq
  refine⟨a,qs,rfl,Qg ha,fun t ht=>(e3 t ht).1,hne,fun q hq hq2=>?_⟩
  have hmq:ZbC ts q.2:=⟨by rw[<- e2];exact ZtA.mpr ⟨q,hq,rfl⟩,fun u hu=>by
   rw[<- e2] at hu
   obtain⟨u',hu',rfl⟩:=ZtA.mp hu
   exact hq2 u' hu'⟩
  have:t=q.2:=hm.uniq hmq
  subst this
  exact d _ H1 s1 ⟨F1,f1,(e3 q hq).2,A1⟩
 ·exact d.elim
end
end L2
namespace HL
open PySem PyProof.Rows
section
open PySem.SeqAt
open PySem.AutoSeq1 (wpAny_loadPart')
open PySem.MeetsSeq PySem.MeetsSeq2 PySem.MeetsSeq3 SeqRoads2
end
section
variable {prog:Program}{w:World}{A:Around}{E:Value->Shared->Prop}{s:Shared}
end
end HL
namespace L2
open PySem PySem.Spec PyProof.Rows
section
variable {X:Cx}{K:W.Frag}
end
section
variable {X:Cx}{C:Addr}{tb:(St->XK)->TS}{th:TS}{c:Str}{np hpos pos:Pos}{body suite:List Stmt}{b₀:Stmt}
end
section
variable {K:W.Frag}{EX:PX->Hp->Prop}{Γ Γs:List Md}{Y:Tys}{tb:(St->XK)->TS}{th:TS}{gb gh:List PV->RS}{C:Addr}{L:List Str}
end
section
variable {K:W.Frag}{EX:PX->Hp->Prop}{Γ Γ1 Γ2:List Md}{tb tc:TE}{fb fc:List PV->Rr PV}
end
section
variable {K:W.Frag}{B:Addr->Prop}{EX:PX->Hp->Prop}{H0 H H':Hp}{σ:St}{Γ Γ' Γ1 Γ2:List Md}{ρ:List PV}{F F':Nat->List Addr}{R:List Addr}
end
section
variable {K:W.Frag}{B:Addr->Prop}{EX:PX->Hp->Prop}{H0 H H':Hp}{σ:St}{Γ Γb Γ0 Γf Γn Γ1 Γ2:List Md}{ρ:List PV}{F:Nat->List Addr}{L v x:Nat}{a:Addr}{vs:List V}{xs:List PV}{G Gx:List Addr}
end
section
variable {M:Model}{A:Around}{E:Value->Shared->Prop}{s:Shared}
end
section
variable {X:Cx}{pins:List (Addr×Obj)}{σ:St}{s₂:Shared}{H₂:Hp}{scope:Scope}{x:Str}{tg elt iter:Expr}{ifs:List Expr}{pos:Pos}{Bd:TB}{tt:TT}{te:TE}{J:It}{fp:List Addr}{it:Addr}{tn:Nat->Heap->Prop}
end
noncomputable def pExt (xs:List PV) (y:PV):Rr PV:=match y with
 |.lst ys=>if xs.length+ys.length<=1000000 then .ok (.lst (xs++ys)) else .bad
 |_=>.bad
theorem ZoW {xs ys:List PV} (h:xs.length+ys.length<=1000000):pExt xs (.lst ys)=.ok (.lst (xs++ys)):=if_pos h
theorem Dn.pExt {xs:List PV}{y:PV}{ok:PV->Prop}{ex:PX->Prop} (d:Dn (pExt xs y) ok ex):∃ys,y=.lst ys/\xs.length+ys.length<=1000000/\ok (.lst (xs++ys)):=by
 unfold L2.pExt at d
 cases y with
 |lst ys =>
  dsimp only at d
  by_cases h:xs.length+ys.length<=1000000
  ·rw[if_pos h] at d;exact⟨ys,rfl,h,d⟩
  ·rw[if_neg h] at d;exact d.elim
 |_=>exact d.elim
section
variable {K:W.Frag}{EX:PX->Hp->Prop}{Γ Γ1 Γ2 Γ3:List Md}{k:Kd}{te:TE}{f:List PV->Rr PV}
theorem Zpu {i:Nat} (hm:Γ[i]?=some .O) (hm2:Γ2[i]?=some .O) (he:DE K EX Γ Γ2 .F te f) :
  DS K EX Γ ⟨Γ2,Γ1,Γ3,k⟩ (ZkO (tBM K "list" Zlg (ZjS i) (ZdF te ZiU))) (fun ρ=>(asL (gv i ρ)).thenS fun xs=>(f ρ).thenS fun y=>(pExt xs y).thenS fun z=>.next (ρ.set i z)):=fun B H0 H σ ρ F D A d=>by
 obtain⟨v,h1,h2⟩:=A.getO hm
 refine⟨v,h1, ?_⟩
 obtain⟨xs,e1,d⟩:=Dn.asL d.thenS
 rw[show ρ.getD i .non=.lst xs from e1] at h2
 obtain⟨a,vs,G,rfl,hH,ht,hn,hF⟩:=h2
 refine⟨.inl ⟨rfl,_,SqL.of hH⟩,he B H0 H σ ρ F [] _ A (d.thenS.imp (fun y _ d w H2 s2 r2=>?_) fun e q=>q)⟩
 obtain⟨F2,f2,G2,y1,y2,A2⟩:=r2
 obtain⟨ys,rfl,hlen,d⟩:=Dn.pExt d.thenS
 obtain⟨b,zs,G3,rfl,hb,hz,hnb,rfl⟩:=y1
 obtain⟨v',h1',h2'⟩:=A2.getO hm2
 rw[h1] at h1';cases h1'
 rw[show ρ.getD i .non=.lst xs from e1] at h2'
 obtain⟨a',vs',G',e,hH',ht',hn',hF'⟩:=h2'
 cases e
 have hd:∀c∈F2 i,c ∉ b::G3:=fun c hc z=>A2.disjR i c hc (by simpa using z)
 have haF:a∈F2 i:=by rw[hF'];simp
 refine⟨a,b,vs',zs,rfl,rfl,hH',hb,by rw[ht'.length,hz.length];exact V1 hlen, ?_⟩
 have na3:a ∉ G3:=fun z=>hd a haF (by simp[z])
 have tr:ZE K (upd H2 a (.lst (vs'++zs))) (xs++ys) (vs'++zs) (G'++G3):=ZE.append (ht'.put hH' hn') (hz.put hH' na3) (fun c hc z=>hd c (by rw[hF'];simp[hc]) (by simp[z]))
 refine d σ _ (ZbG F2 i (a::(G'++G3))) (Zgx s2 f2 haF fun c hc=>?_) (Ag.chg (G:=b::G3) A2 hm2 haF (fun c hc=>?_) (by simp) ⟨_,h1,a,_,G'++G3,rfl,YL,tr,fun z=>(Ztk.mp z).elim hn' na3,rfl⟩)
 ·rcases Ztt.mp hc with z|z
  ·exact .inr ⟨i,f2 i c (by rw[z];exact haF)⟩
  ·rcases Ztk.mp z with z|z
   ·exact .inr ⟨i,f2 i c (by rw[hF'];simp[z])⟩
   ·exact(y2 c (by simp[z])).2
 ·rcases Ztt.mp hc with z|z
  ·exact .inl (by rw[z];exact haF)
  ·rcases Ztk.mp z with z|z
   ·exact .inl (by rw[hF'];simp[z])
   ·exact .inr (by simp[z])
end
section
variable {X:Cx}{x:Str}{pos:Pos}
end
section
variable {K:W.Frag}{B:Addr->Prop}{EX:PX->Hp->Prop}{H0 H H':Hp}{σ:St}{Γ Γ' Γ1 Γ2 Γ3:List Md}{ρ:List PV}{F F':Nat->List Addr}{R:List Addr}{te tb ta':TE}{ta:TA}{f fb fa':List PV->Rr PV}{fa:List PV->Rr (List PV)}
end
section
variable {K:W.Frag}{H:Hp}{EX:PX->Hp->Prop}{Γ Γ':List Md}{te:TE}{f:List PV->Rr PV}
end
section
variable {prog:Program}{w:World}{A:Around}{E:Value->Shared->Prop}{s:Shared}{x y:Str}{t u:Tok}{Q:Value->Shared->Prop}
open Builtin Builtin.Str
end
section
variable {X:Cx}{K:W.Frag}
end
section
variable {K:W.Frag}{H:Hp}{EX:PX->Hp->Prop}{Γ Γ1 Γ2:List Md}{te tb:TE}{ta:TA}{f fb:List PV->Rr PV}{fa:List PV->Rr (List PV)}
end
noncomputable def newT (xs:List PV):Rr PV:=if xs.length<=1000000 then .ok (.lst xs) else .bad
section
variable {K:W.Frag}{EX:PX->Hp->Prop}{Γ Γ1 Γ2:List Md}{te tb:TE}{f fb:List PV->Rr PV}
end
section
variable {K:W.Frag}{B:Addr->Prop}{EX:PX->Hp->Prop}{H0 H H':Hp}{σ:St}{Γ Γ' Γ1 Γ2 Γ3:List Md}{ρ:List PV}{F F':Nat->List Addr}{R:List Addr}{te tb:TE}{f fb:List PV->Rr PV}
end
noncomputable def Zoy (l:Addr) (a b c:Int):HO:=.ext fun h=>∃t u v,IsRange h l a b c t u v
def Zqn:List V->Hp->VK->Prop:=fun xs H Q=>(∃n,xs=[.int n]/\∀l,H l=none->Q (.ref l) (upd H l (Zoy l 0 n 1))) \/
 ∃a b c:Int,xs=[.int a,.int b,.int c]/\c≠0/\c.natAbs<1073741824/\∀l,H l=none->Q (.ref l) (upd H l (Zoy l a b c))
section
variable {X:Cx}
theorem ZkZ {P:Program}{w:World}{H:Hp}{h:Heap}{l:Addr}{a b c:Int}{t u v:Tok} (e:IsRange h l a b c t u v):Zb4 P w H h l (Zoy l a b c):=
 ⟨⟨t,u,v,e⟩,⟨_,e⟩,fun h1 h2 ⟨t,u,v,q⟩ k=>⟨t,u,v,k _ q⟩⟩
theorem Zmr:QD X (.type "range") Zqn:=by
 intro pins s σ H xs us Q I r h
 have hf:=I.hok.fresh (Ztj _)
 rcases h with ⟨n,rfl,q⟩|⟨a,b,c,rfl,hc,hc2,q⟩
 ·cases r with
  |cons r1 r2 =>
   cases r2
   obtain⟨t,rfl⟩:=r1
   refine call_range_1 ?_
   exact⟨.ref s.heap.objs.size,_,I.laid (a:=s.heap.objs.size) (o:=Zoy s.heap.objs.size 0 n 1) (t':=s.toks+1+1) (fun b u e=>Heap.get?_push_of_some _ e) (Ztj _) (ZkZ (IsRange.new ..)),rfl,q _ hf⟩
 ·cases r with
  |cons r1 r2 =>
   cases r2 with
   |cons r2 r3 =>
    cases r3 with
    |cons r3 r4 =>
     cases r4
     obtain⟨t,rfl⟩:=r1
     obtain⟨u,rfl⟩:=r2
     obtain⟨v,rfl⟩:=r3
     refine call_range_3 hc ?_ (.inl (PyProof.noPylong_small hc2))
     exact⟨.ref s.heap.objs.size,_,I.laid (a:=s.heap.objs.size) (o:=Zoy s.heap.objs.size a b c) (t':=s.toks) (fun b u e=>Heap.get?_push_of_some _ e) (Ztj _) (ZkZ (IsRange.new ..)),rfl,q _ hf⟩
noncomputable def QN (a c:Int) (n:Nat):List Int:=(List.range n).map fun(k:Nat)=>a+(k:Int)*c
theorem ZjN {a c:Int}:∀{n:Nat}{us:List Value},us.length=n->(∀(j:Nat) (v:Value),us[j]?=some v->∃t,v=Value.int (a+(j:Int)*c) t)->Wy ((QN a c n).map V.int) us:=by
 intro n us hl h
 have key:∀(us:List Value) (k:Nat),(∀(j:Nat) (v:Value),us[j]?=some v->∃t,v=Value.int (a+((k+j:Nat):Int)*c) t)->Wy (((List.range' k us.length).map fun(k:Nat)=>a+(k:Int)*c).map V.int) us:=by
  intro us
  induction us with
  |nil=>intro k _;exact .nil
  |cons u us ih =>
   intro k h
   obtain⟨t,e⟩:=h 0 u rfl
   refine .cons ⟨t,by simpa using e⟩ ?_
   have:=ih (k+1) (fun j v hj=>by
    obtain⟨t,e⟩:=h (j+1) v (by simpa using hj)
    exact⟨t,by rw[e];congr 3;omega⟩)
   exact this
 have:=key us 0 (fun j v hj=>by simpa using h j v hj)
 rw[hl,<- List.range_eq_range'] at this
 exact this
def Zgf:List V->Hp->VK->Prop:=fun xs H Q=>∃p a b c,xs=[.ref p]/\H p=some (Zoy p a b c)/\Builtin.Range.small a b c=true/\0<=Builtin.Range.rangeSize a b c/\Builtin.Range.rangeSize a b c<=1000000 /\
 ∀l,H l=none->Q (.ref l) (upd H l (.lst ((QN a c (Builtin.Range.rangeSize a b c).toNat).map V.int)))
theorem ZhJ (hc:X.calm=true):QD X (.type "list") Zgf:=by
 intro pins s σ H xs us Q I r h
 obtain⟨p,a,b,c,rfl,hp,hs,h0,h1,q⟩:=h
 cases r with
 |cons r1 r2 =>
  cases r2
  cases r1
  obtain⟨⟨t,u,v,hr⟩,_⟩:=I.hok p _ hp
  have hf:=I.hok.fresh (Ztj _)
  refine call_list_range (n:=(Builtin.Range.rangeSize a b c).toNat) (I.ok.hd hc) hr hs (by omega) (by omega) fun h' tk acc' c' hk hS hacc=>?_
  refine⟨.ref s.heap.objs.size,_,I.laid (a:=s.heap.objs.size) (o:=.lst ((QN a c (Builtin.Range.rangeSize a b c).toNat).map V.int)) (t':=tk) hk (Ztj _) ?_,rfl,q _ hf⟩
  refine⟨?_,acc'.toList,c',ZjN (by simpa using hacc.1) (fun j v hj=>hacc.2 j v (by simpa using hj)),by simpa using hS⟩
  simp only[Zto,QN,Zu7]
  exact Zt5 (show _<=1000000 by omega) (by decide)
end
section
variable {K:W.Frag}{B:Addr->Prop}{EX:PX->Hp->Prop}{H0 H H':Hp}{σ:St}{Γ Γ' Γ1 Γ2 Γ3:List Md}{ρ:List PV}{F F':Nat->List Addr}{R:List Addr}{ta:TA}{fa:List PV->Rr (List PV)}
noncomputable def ZdZ (xs:List PV):Rr PV:=match xs with
 |[.int n]=>if okR n=true/\n<=1000000 then .ok (.lst ((QN 0 1 n.toNat).map PV.int)) else .bad
 |[.int a,.int b,.int c]=>if c≠0/\c.natAbs<1073741824/\Builtin.Range.small a b c=true/\0<=Builtin.Range.rangeSize a b c/\Builtin.Range.rangeSize a b c<=1000000 then .ok (.lst ((QN a c (Builtin.Range.rangeSize a b c).toNat).map PV.int)) else .bad
 |_=>.bad
theorem Zka {n:Int} (h:okR n=true/\n<=1000000):ZdZ [.int n]=.ok (.lst ((QN 0 1 n.toNat).map PV.int)):=if_pos h
theorem ZfB {S:Addr->Prop}:∀{ns:List Int},Y1 K H S (ns.map PV.int) (ns.map V.int)
 |[]=>rfl
 |n::ns=>⟨.int n,ns.map V.int,rfl,rfl,ZfB⟩
theorem ZmH {n:Int}:(Builtin.Range.rangeSize 0 n 1).toNat=n.toNat/\0<=Builtin.Range.rangeSize 0 n 1/\(n<=1000000->Builtin.Range.rangeSize 0 n 1<=1000000):=by
 rw[rangeSize_one]
 split<;>omega
theorem Zkp (ha:DAA K EX Γ Γ' ta fa):DE K EX Γ Γ' .F (tCB Zgf (ZdF (tCB Zqn ta) ZiU)) (fun ρ=>(fa ρ).bind ZdZ):=fun B H0 H σ ρ F R Q A d=>by
 refine ha B H0 H σ ρ F R _ A (d.bind.imp (fun xs _ d vs H1 F1 s1 f1 p1 A1=>?_) fun e q=>q)
 have fin:∀(a b c:Int),Builtin.Range.small a b c=true->0<=Builtin.Range.rangeSize a b c->Builtin.Range.rangeSize a b c<=1000000 ->
   (∀v H',ZF H H'->Res K B H0 H σ Γ' ρ F R .F (.lst ((QN a c (Builtin.Range.rangeSize a b c).toNat).map PV.int)) v H'->Q v H') ->
   ∀l,H1 l=none->ZiU σ (upd H1 l (Zoy l a b c)) fun us H2=>Zgf (.ref l::us) H2 Q:=fun a b c h1 h2 h3 d l hl=>by
  have e:=ZF.new (H:=H1) (o:=Zoy l a b c) hl
  refine⟨l,a,b,c,rfl,YL,h1,h2,h3,fun l2 hl2=>d _ _ ((s1.trans e).trans (ZF.new hl2)) (Res.newP (s1.trans e) f1 (S:=fun _=>True) ZfB (PV.flats_ints _) (A1.grow e) hl2)⟩
 unfold ZdZ at d
 split at d
 ·rename_i n _
  split at d
  ·rename_i hc
   obtain⟨v,rfl,p⟩:=Zfk p1
   cases p
   obtain⟨z1,z2,z3⟩:=ZmH (n:=n)
   unfold okR at hc
   rw[decide_eq_true_eq] at hc
   refine .inl ⟨n,rfl,fin 0 n 1 (small_one (by decide) (by decide) hc.1.1 hc.1.2) z2 (z3 hc.2) (fun v H' s r=>d v H' s (by rw[z1] at r;exact r))⟩
  ·exact d.elim
 ·rename_i a b c _
  split at d
  ·rename_i hc
   obtain⟨va,r1,rfl,p,vb,r2,rfl,p',vc,r3,rfl,p'',e⟩:=p1
   cases p;cases p';cases p'';cases e
   exact .inr ⟨a,b,c,rfl,hc.1,hc.2.1,fin a b c hc.2.2.1 hc.2.2.2.1 hc.2.2.2.2 d⟩
  ·exact d.elim
 ·exact d.elim
end
section
variable {κ:Type} [DecidableEq κ]
end
section
variable {P:Program}{w:World}{H:Hp}{h:Heap}{a:Addr}
end
section
variable {X:Cx}{pins:List (Addr×Obj)}{σ:St}{H:Hp}{s:Shared}{a:Addr}{y v:V}{u r:Value}{o:Option V}{A:Around}{E:Value->Shared->Prop}
end
section
variable {X:Cx}{pins:List (Addr×Obj)}{σ:St}{H:Hp}{s:Shared}{a:Addr}{kvs:List (Key×V)}{k:Key}{u:Value}{A:Around}{E:Value->Shared->Prop}
end
section
variable {X:Cx}{o i e value:Expr}{pos pos' tpos:Pos}{td ty tv:TE}
end
section
variable {X:Cx}{pos:Pos}
end
section
variable {X:Cx}{pins:List (Addr×Obj)}{σ:St}{H:Hp}{s:Shared}{a:Addr}{y d:V}{u r:Value}{o:Option V}{A:Around}{E:Value->Shared->Prop}
end
section
variable {X:Cx}{o e f:Expr}{apos cpos:Pos}{td ty tx:TE}
end
section
variable {X:Cx}{pins:List (Addr×Obj)}{σ:St}{H:Hp}{s:Shared}{a:Addr}{kvs:List (Key×V)}{A:Around}{E:Value->Shared->Prop}
end
section
variable {X:Cx}{pins:List (Addr×Obj)}{σ:St}{H:Hp}{s:Shared}{a:Addr}{y:V}{u:Value}{A:Around}{E:Value->Shared->Prop}
end
section
variable {K:W.Frag}{H:Hp}{S:Addr->Prop}
end
section
variable {κ:Type} [DecidableEq κ] {α β:Type}
end
section
variable {κ:Type} [DecidableEq κ] {K:W.Frag}{H:Hp}{S:Addr->Prop}
end
section
variable {K:W.Frag}{B:Addr->Prop}{EX:PX->Hp->Prop}{H0 H H':Hp}{σ:St}{Γ Γ' Γ1 Γ2 Γ3:List Md}{ρ:List PV}{F F':Nat->List Addr}{R:List Addr}{te ta tb tc:TE}{f fa fb fc:List PV->Rr PV}{k:Kd}
end
section
variable {K:W.Frag}{B:Addr->Prop}{EX:PX->Hp->Prop}{H0 H H':Hp}{σ:St}{Γ Γ' Γ1 Γ2 Γ3:List Md}{ρ:List PV}{F F':Nat->List Addr}{R:List Addr}{te ta tb tc:TE}{f fa fb fc:List PV->Rr PV}{k:Kd}
end
section
variable {X:Cx}{K:W.Frag}
end
section
variable {K:W.Frag}{B:Addr->Prop}{EX:PX->Hp->Prop}{H0 H H':Hp}{σ:St}{Γ Γ' Γ1 Γ2 Γ3:List Md}{ρ:List PV}{F F':Nat->List Addr}{R:List Addr}{te tb tc:TE}{ta:TA}{f fb fc:List PV->Rr PV}{fa:List PV->Rr (List PV)}{k:Kd}
end
noncomputable def ins {α:Type}:Nat->α->List α->List α
 |0,v,us=>v::us
 |_+1,v,[]=>[v]
 |j+1,v,u::us=>u::ins j v us
section
variable {K:W.Frag}{H H':Hp}{B:Addr->Prop}
end
section
variable {K:W.Frag}{B:Addr->Prop}{EX:PX->Hp->Prop}{H0 H H':Hp}{σ:St}{Γ Γ' Γ1 Γ2 Γ3:List Md}{ρ:List PV}{F F':Nat->List Addr}{R:List Addr}
end
section
variable {P:Program}{w:World}{K:W.Frag}{mg:Str->Option Value}{base:Heap}
end
theorem bind_ok {α β:Type}{r:Rr α}{g:α->Rr β}{y:β} (h:r.bind g=.ok y):∃x,r=.ok x/\g x=.ok y:=by
 cases r with
 |ok x=>exact⟨x,rfl,h⟩
 |exc e=>cases h
 |bad=>cases h
section
variable {K:W.Frag}{B:Addr->Prop}{EX:PX->Hp->Prop}{H0 H H':Hp}{σ:St}{Γ Γ' Γ1 Γ2 Γ3:List Md}{ρ:List PV}{F F':Nat->List Addr}{R:List Addr}{te tb:TE}{ta:TA}{f fb:List PV->Rr PV}{fa:List PV->Rr (List PV)}{i j n:Nat}{m:PV->List PV->Rr PV}
variable {fm:List PV->Rr (PV×PV)}{k:Kd}{l:Nat}
end
section
variable {α β:Type}{n:Nat}{P:α->Prop}{R:β->Prop}
end
section
variable {n:Nat}
end
section
variable {prog:Program}{w:World}{A:Around}{E:Value->Shared->Prop}{s:Shared}
end
section
variable {prog:Program}{w:World}{A:Around}{E:Value->Shared->Prop}{s:Shared}
end
section
variable {X:Cx}
end
section
variable {K:W.Frag}{B:Addr->Prop}{EX:PX->Hp->Prop}{H0 H H':Hp}{σ:St}{Γ Γ' Γ1 Γ2 Γ3:List Md}{ρ:List PV}{F F':Nat->List Addr}{R:List Addr}{te:TE}{ta:TA}{f:List PV->Rr PV}{fa:List PV->Rr (List PV)}{k:Kd}
end
theorem Zmz:bootBuiltins "sorted"=some (.builtin "sorted"):=by decide +kernel
section
variable {prog:Program}{w:World}{A:Around}{E:Value->Shared->Prop}{s:Shared}
theorem ZjT {a:Addr}{vs:List Value}{n:Nat}{P:PySem.Fin->Shared->Prop} (κ:SortKind) (Rv:Value->Value->Bool) (ho:s.heap.get? a=some (seqObj "list" vs.toArray n)) (hz:vs.length<=1000000)
  (hk:2<=vs.length->∀(s1:Shared) (Q:SortKind->Shared->Prop),(∀b o,b≠a->s.heap.get? b=some o->s1.heap.get? b=some o)->Q κ s1->wpAny (model prog w) A (keyKind' vs.toArray) Q E s1)
  (hc:∀(s1:Shared) x y,x∈vs->y∈vs->(∀b o,b≠a->s.heap.get? b=some o->s1.heap.get? b=some o)->∀C:Bool->Shared->Prop,C (Rv x y) s1->wpAny (model prog w) A (keyLt' κ x y) C (fun _ _=>False) s1)
  (asy:∀x y,x∈vs->y∈vs->Rv x y=true->Rv y x=false) (tr:∀x y z,x∈vs->y∈vs->z∈vs->Rv y x=false->Rv z y=false->Rv z x=false)
  (hq:∀h' c out,(∀b o,b≠a->s.heap.get? b=some o->h'.get? b=some o)->out.Perm vs->out.Pairwise (fun x y=>Rv y x=false)->h'.get? a=some (seqObj "list" (List.toArray out) c)->P (.done (.ret .none)) { s with heap:=h' }) :
  wpAny (model prog w) A (Builtin.«list.sort» ⟨[.ref a],[]⟩) P E s:=by
 have la:a<s.heap.objs.size:=Heap.lt_size ho
 have line:vs.length<=sizeLine:=V1 hz
 obtain⟨e1,ho1⟩:∃c,(s.heap.update a (Obj.mapSeq fun _=>(#[]:Array Value))).get? a=some (seqObj "list" #[] c):=⟨_,get?_update_seq ho _⟩
 rw[list_sort_plain]
 refine wpAny_bind (listItems_at ho rfl (wpAny_bind (listUpdate_at ho rfl (wpAny_bind (seqEpoch_at ho1 rfl (wpAny_bind (wpAny_newTuple (wpAny_bind (wpAny_newList (wpAny_holding ?_) (ZtB _))) ?_)))) ?_ (ZtB _))))
 rotate_left
 ·exact line
 ·rw[Ztp];exact line
 generalize eh:((s.heap.update a (Obj.mapSeq fun _=>(#[]:Array Value))).push (seqObj "tuple" vs.toArray 0)).push (seqObj "list" #[] 0)=h3
 have k3:∀b o,b≠a->s.heap.get? b=some o->h3.get? b=some o:=fun b o nb q=>by
  subst eh
  exact Heap.get?_push_of_some _ (Heap.get?_push_of_some _ ((Heap.get?_update_ne _ _ _ _ nb).trans q))
 have a3:h3.get? a=some (seqObj "list" #[] e1):=by subst eh;exact Heap.get?_push_of_some _ (Heap.get?_push_of_some _ ho1)
 show wpAny _ _ _ P E { s with heap:=h3 }
 have fin:∀(out:List Value) (st:SortSt),(arrOf st).map (·.2)=List.toArray out->failedOf st=none->out.Perm vs->out.Pairwise (fun x y=>Rv y x=false) ->
   wpAny (model prog w) A (do
    let sorted:=(arrOf st).map (·.2)
    let touched:=(<- seqEpoch a) != e1
    Builtin.List.listUpdate (.ref a) fun _=>sorted
    if let some e:=failedOf st then rule "list.sort.comparison-raised";throw e
    if touched then rule "list.sort.modified";raiseError "ValueError" "list modified during sort"
    ret .none) P E { s with heap:=h3 }:=fun out st ho hf hl hout=>by
  dsimp only
  rw[ho,hf]
  obtain⟨c2,hc2⟩:∃c,(h3.update a (Obj.mapSeq fun _=>List.toArray out)).get? a=some (seqObj "list" (List.toArray out) c):=⟨_,get?_update_seq a3 _⟩
  refine wpAny_bind (seqEpoch_at a3 rfl (wpAny_bind (listUpdate_at a3 rfl ?_ (ZtB _) ?_)))
  ·simp only[bne_self_eq_false,Bool.false_eq_true,if_false]
   exact wpAny_pure (hq _ c2 out (fun b o nb q=>(Heap.get?_update_ne _ _ _ _ nb).trans (k3 b o nb q)) hl hout hc2)
  ·show (List.toArray out).size<=_
   rw[Ztp,hl.length_eq];exact Zt5 line (Zvc _)
 dsimp only
 have zs:((vs.toArray.zip vs.toArray).map (·.2))=vs.toArray:=by
  apply Array.toList_inj.mp
  simp only[Zvt,Array.toList_zip]
  exact List.map_snd_zip (Ztj _)
 by_cases h2:vs.length<2
 ·have e2:vs.toArray.size<2:=by rw[Ztp];exact h2
  rw[if_pos e2,if_pos e2]
  refine wpAny_bind (wpAny_pure (wpAny_bind (wpAny_pure ?_)))
  refine fin vs _ zs rfl (List.Perm.refl _) ?_
  match vs,h2 with
  |[],_=>exact List.Pairwise.nil
  |[x],_=>exact Zuz _ _
 ·have e2:¬vs.toArray.size<2:=by rw[Ztp];exact h2
  rw[if_neg e2,if_neg e2]
  refine wpAny_bind (hk (by omega) _ _ k3 ?_)
  have zmem:∀x∈vs.toArray.zip vs.toArray,x.1∈vs/\x.1=x.2:=fun x hx=>by
   have hx:x∈vs.zip vs:=by simpa using hx
   obtain⟨i,hi⟩:=Zui hx
   rw[List.getElem?_zip_eq_some] at hi
   have e:=hi.1.symm.trans hi.2
   exact⟨Ztg hi.1,Option.some.inj e⟩
  have C:Zc7 prog w A { s with heap:=h3 } κ (fun x=>x.1∈vs/\x.1=x.2) (fun x y=>Rv x.1 y.1):=
   ⟨fun x y hx hy Q q=>hc _ _ _ hx.1 hy.1 k3 Q q,fun x y hx hy q=>asy _ _ hx.1 hy.1 q,fun x y z hx hy hz q r=>tr _ _ _ hx.1 hy.1 hz.1 q r⟩
  have run:=ZhZ (E:=E) C (st:=SortSt.mk' κ (vs.toArray.zip vs.toArray) #[] 7 none) (Q:=fun _ st'=>failedOf st'=none/\(arrOf st').Perm (vs.toArray.zip vs.toArray)/\Up (fun x y=>Rv x.1 y.1) (arrOf st') 0 (vs.toArray.zip vs.toArray).size) rfl rfl
   (fun i hi=>zmem _ (Array.mem_of_getElem? (ZfN hi))) rfl (fun st' k1 k2 k3=>⟨k1,k2,k3⟩)
  refine wpAny_bind (wpAny_mono run ?_ fun _ _ e=>e)
  rintro⟨⟨⟩,st⟩ s' ⟨rfl,hf,hp,hu⟩
  dsimp only at hf hp hu
  have hsz:(arrOf st).size=(vs.toArray.zip vs.toArray).size:=hp.size_eq
  have same:∀x∈(arrOf st).toList,x.1=x.2:=fun x hx=>(zmem x ((Array.Perm.mem_iff hp).mp (by simpa using hx))).2
  refine fin ((arrOf st).toList.map (·.2)) st ?_ hf ?_ ?_
  ·apply Array.toList_inj.mp
   rw[Zvt]
  ·have p1:((arrOf st).toList.map (·.2)).Perm ((vs.toArray.zip vs.toArray).toList.map (·.2)):=(Zvk.mp hp).map _
   have p2:=congrArg Array.toList zs
   rw[Zvt] at p2
   rw[p2] at p1
   simpa using p1
  ·have sr:=hu.srt (Nat.le_of_eq (by rw[ZtT,hsz]))
   rw[Zu2,ZtD (Nat.le_of_eq (by rw[Ztn,hsz]))] at sr
   rw[ZuP]
   refine List.Pairwise.imp_of_mem ?_ sr
   intro x y hx hy q
   rw[<- same x hx,<- same y hy];exact q
theorem Zie {l:Addr}{vs:List Value}{Q:Value->Shared->Prop} (κ:SortKind) (Rv:Value->Value->Bool) (hl:s.heap.IsList l vs.toArray) (hz:vs.length<=1000000)
  (hk:2<=vs.length->∀(s1:Shared) (Q:SortKind->Shared->Prop),(∀b o,s.heap.get? b=some o->s1.heap.get? b=some o)->Q κ s1->wpAny (model prog w) A.in1.in1 (keyKind' vs.toArray) Q E s1)
  (hc:∀(s1:Shared) x y,x∈vs->y∈vs->(∀b o,s.heap.get? b=some o->s1.heap.get? b=some o)->∀C:Bool->Shared->Prop,C (Rv x y) s1->wpAny (model prog w) A.in1.in1 (keyLt' κ x y) C (fun _ _=>False) s1)
  (asy:∀x y,x∈vs->y∈vs->Rv x y=true->Rv y x=false) (tr:∀x y z,x∈vs->y∈vs->z∈vs->Rv y x=false->Rv z y=false->Rv z x=false)
  (hq:∀D h' c out,(∀b o,s.heap.get? b=some o->h'.get? b=some o)->s.heap.objs.size<=D->out.Perm vs->out.Pairwise (fun x y=>Rv y x=false)->h'.get? D=some (seqObj "list" (List.toArray out) c)->Q (.ref D) { s with heap:=h' }) :
  wpAny (model prog w) A (call (.builtin "sorted") [.ref l]) Q E s:=by
 refine Calls.call_function_entry kind_sorted plain_sorted entry_sorted (args_sorted1 _) ?_
 unfold Builtin.«sorted»
 have line:vs.length<=sizeLine:=V1 hz
 refine wpAny_bind (m:=checkCount "sorted" 1 1 _) (wpAny_pure (wpAny_bind (collect_list hl (wpAny_bind (wpAny_newList ?_ line)) line)))
 generalize eg:(s.heap.push (seqObj "list" #[] 0)).update s.heap.objs.size (Obj.mapSeq (·++vs.toArray))=h1
 have z1:h1.objs.size=s.heap.objs.size+1:=by subst eg;rw[Heap.size_update,size_push']
 have k1:∀b o,s.heap.get? b=some o->h1.get? b=some o:=fun b o q=>by
  have lb:=Heap.lt_size q
  subst eg
  rw[Heap.get?_update_ne _ _ _ _ (Zt0 lb)]
  exact Heap.get?_push_of_some _ q
 have hD:(h1.push (seqObj "list" vs.toArray 0)).get? h1.objs.size=some (seqObj "list" vs.toArray 0):=Heap.get?_push_size _ rfl
 show wpAny _ _ _ _ _ { s with heap:=h1.push (seqObj "list" vs.toArray 0) }
 have up:∀(h2:Heap),(∀b o,b≠h1.objs.size->(h1.push (seqObj "list" vs.toArray 0)).get? b=some o->h2.get? b=some o)->∀b o,s.heap.get? b=some o->h2.get? b=some o:=fun h2 k b o q =>
  k b o (Zt0 (by rw[z1];exact Zup (Heap.lt_size q))) (Heap.get?_push_of_some _ (k1 b o q))
 refine wpAny_bind (wpAny_holding (wpAny_call_entry slot_list_sort ⟨_,hD,rfl⟩ entry_list_sort (ZjT (s:={ s with heap:=h1.push (seqObj "list" vs.toArray 0) }) κ Rv hD hz (fun h2 s1 Q k q=>hk h2 s1 Q (up _ k) q) (fun s1 x y hx hy k C q=>hc s1 x y hx hy (up _ k) C q) asy tr fun h' c out k p1 p2 e=>?_) (args_list_sort _)))
 exact⟨_,rfl,wpAny_pure ⟨_,rfl,hq _ h' c out (up _ k) (by rw[z1];exact Zvc _) p1 p2 e⟩⟩
end
noncomputable def ZpP (x:Int):List Int->List Int
 |[]=>[x]
 |y::l=>if x<=y then x::y::l else y::ZpP x l
noncomputable def Zen:List Int->List Int
 |[]=>[]
 |x::l=>ZpP x (Zen l)
theorem Ze9 (x:Int):∀l,(ZpP x l).Perm (x::l)
 |[]=>List.Perm.refl _
 |y::l=>by
  unfold ZpP
  split
  ·exact List.Perm.refl _
  ·exact((Ze9 x l).cons y).trans (List.Perm.swap x y l)
theorem ZcG:∀l,(Zen l).Perm l
 |[]=>List.Perm.refl _
 |x::l=>(Ze9 x _).trans ((ZcG l).cons x)
theorem ZlT {x:Int}:∀{l:List Int},l.Pairwise (·<=·)->(ZpP x l).Pairwise (·<=·)
 |[],_=>Zuz _ _
 |y::l,h=>by
  obtain⟨h1,h2⟩:=Zug.mp h
  unfold ZpP
  split
  ·rename_i e
   refine Zug.mpr ⟨fun z hz=>?_,h⟩
   rcases Ztt.mp hz with rfl|hz
   ·exact e
   ·have:=h1 z hz;omega
  ·rename_i e
   refine Zug.mpr ⟨fun z hz=>?_,ZlT h2⟩
   rcases Ztt.mp ((Ze9 x l).mem_iff.mp hz) with rfl|hz
   ·omega
   ·exact h1 z hz
theorem ZiY:∀l,(Zen l).Pairwise (·<=·)
 |[]=>List.Pairwise.nil
 |x::l=>ZlT (ZiY l)
theorem ZkC:∀{l m:List Int},l.Pairwise (·<=·)->m.Pairwise (·<=·)->l.Perm m->l=m
 |[],m,_,_,p=>(List.nil_perm.mp p).symm
 |x::l,[],_,_,p=>absurd (List.perm_nil.mp p) (by simp)
 |x::l,y::m,h1,h2,p=>by
  obtain⟨a1,a2⟩:=Zug.mp h1
  obtain⟨b1,b2⟩:=Zug.mp h2
  have e:x=y:=by
   have hx:x∈y::m:=p.mem_iff.mp (by simp)
   have hy:y∈x::l:=p.mem_iff.mpr (by simp)
   rcases Ztt.mp hx with z|z
   ·exact z
   ·rcases Ztt.mp hy with z'|z'
    ·exact z'.symm
    ·have:=b1 x z;have:=a1 y z';omega
  subst e
  rw[ZkC a2 b2 (List.perm_cons _ |>.mp p)]
noncomputable def Zo5:Value->Int
 |.int i _=>i
 |_=>0
theorem Zf5:∀{ns:List Int}{us:List Value},Wy (ns.map V.int) us->us.map Zo5=ns/\∀u∈us,∃i t,u=Value.int i t
 |[],_,.nil=>⟨rfl,by simp⟩
 |n::ns,_,.cons (b:=u) r rr=>by
  obtain⟨t,rfl⟩:=r
  obtain⟨h1,h2⟩:=Zf5 rr
  refine⟨by rw[Ztv,h1];rfl,fun v hv=>?_⟩
  rcases Ztt.mp hv with rfl|hv
  ·exact⟨n,t,rfl⟩
  ·exact h2 v hv
theorem ZfM:∀{us:List Value},(∀u∈us,∃i t,u=Value.int i t)->Wy ((us.map Zo5).map V.int) us
 |[],_=>.nil
 |u::us,h=>by
  obtain⟨i,t,rfl⟩:=h u (by simp)
  exact .cons ⟨t,rfl⟩ (ZfM fun v hv=>h v (by simp[hv]))
section
variable {X:Cx}
def Zlf (K:W.Frag):List V->Hp->VK->Prop:=fun xs H Q=>∃p,∃ns:List Int,xs=[.ref p]/\SqL K H p (ns.map V.int)/\ns.length<=1000000/\∀l,H l=none->Q (.ref l) (upd H l (.lst ((Zen ns).map V.int)))
theorem Zku:QD X (.builtin "sorted") (Zlf X.K):=by
 intro pins s σ H xs us Q I r h
 obtain⟨p,ns,rfl,hq,hz0,q⟩:=h
 obtain⟨u,rfl,rx⟩:=Zid r
 cases rx
 obtain⟨its,r',pl,hz⟩:=I.list hq
 obtain⟨e1,e2⟩:=Zf5 r'
 have hlen:its.length<=1000000:=by rw[<- Zto (f:=Zo5),e1];exact hz0
 refine Zie oneType' (fun x y=>decide (Zo5 x<Zo5 y)) pl.isList hlen (fun h2 s1 Q' k q'=>?_) (fun s1 x y hx hy k C q'=>?_) (fun x y _ _ h=>?_) (fun x y z _ _ _ h1 h2=>?_) fun D h' c out k hD p1 p2 e=>?_
 ·exact PySem.W.kas_kind (T:=.type "int") h2 (fun v hv=>by obtain⟨n,t,rfl⟩:=e2 v hv;exact PySem.W.Looks.of_pure rfl) rfl rfl q'
 ·obtain⟨i,t,rfl⟩:=e2 x hx
  obtain⟨j,t',rfl⟩:=e2 y hy
  exact PySem.W.kat_lt_int q'
 ·have h:=of_decide_eq_true h
  exact decide_eq_false (by omega)
 ·have h1:=of_decide_eq_false h1
  have h2:=of_decide_eq_false h2
  exact decide_eq_false (by omega)
 ·have ho:∀u∈out,∃i t,u=Value.int i t:=fun u hu=>e2 u (p1.mem_iff.mp hu)
  have hs:out.map Zo5=Zen ns:=by
   refine ZkC ?_ (ZiY ns) ?_
   ·rw[ZuP]
    refine p2.imp fun {a b} h=>?_
    have h:=of_decide_eq_false h
    omega
   ·have:=p1.map Zo5
    rw[e1] at this
    exact this.trans (ZcG ns).symm
  have I1:Inv X pins σ (upd H D (.lst ((Zen ns).map V.int))) { s with heap:=h' }:=by
   refine I.laid (t':=s.toks) k hD ⟨?_,_,c, ?_,e⟩
   ·rw[Zto,(ZcG ns).length_eq];exact V1 hz0
   ·rw[<- hs];exact ZfM ho
  exact⟨.ref D,_,I1,rfl,q D (I.hok.fresh hD)⟩
theorem ZiA {K:W.Frag} (e:X.K=K:=by rfl):QD X (.builtin "sorted") (Zlf K):=by subst e;exact Zku
end
noncomputable def Zjq:List PV->Rr PV:=Zhj fun ns=>if ns.length<=1000000 then .ok (.lst ((Zen ns).map PV.int)) else .bad
theorem Zlt {ns:List Int} (h:ns.length<=1000000):Zjq [.lst (ns.map PV.int)]=.ok (.lst ((Zen ns).map PV.int)):=by
 unfold Zjq Zhj
 simp only[Zkk,if_pos h]
theorem Zhd:∀{K:W.Frag}{H:Hp}{S:Addr->Prop} (ns:List Int),Y1 K H S (ns.map PV.int) (ns.map V.int)
 |_,_,_,[]=>rfl
 |_,_,_,n::ns=>⟨_,_,rfl,rfl,Zhd ns⟩
theorem ZfA:∀{K:W.Frag}{H:Hp}{S:Addr->Prop}{ns:List Int}{vs:List V},Y1 K H S (ns.map PV.int) vs->vs=ns.map V.int
 |_,_,_,[],_,h=>h
 |_,_,_,n::ns,_,⟨v,r,e,h1,h2⟩=>by
  have h1:v=V.int n:=h1
  rw[e,h1,ZfA h2];rfl
section
variable {K:W.Frag}{EX:PX->Hp->Prop}{Γ Γ':List Md}{ta:TA}{fa:List PV->Rr (List PV)}
theorem Zn8 (ha:DAA K EX Γ Γ' ta fa):DE K EX Γ Γ' .F (tCB (Zlf K) ta) (fun ρ=>(fa ρ).bind Zjq):=fun B H0 H σ ρ F R Q A d=>by
 refine ha B H0 H σ ρ F R _ A (d.bind.imp (fun xs _ d vs H1 F1 s1 f1 p1 A1=>?_) fun e q=>q)
 cases hx:Zjq xs with
 |bad=>rw[hx] at d;exact d.elim
 |exc e=>exact absurd hx (Zeu (fun ns e h=>by split at h<;>cases h) _ _)
 |ok z =>
  rw[hx] at d
  obtain⟨ns,rfl,e⟩:=Rr.ints hx
  split at e
  ·rename_i hl
   cases e
   obtain⟨v,rfl,a,ws,rfl,hn,hr⟩:=Zfk p1
   obtain rfl:=ZfA hr
   exact⟨a,ns,rfl,Qg (S:=fun _=>True) hn,hl,fun l hz=>d _ _ (s1.trans (ZF.new hz)) (Res.newP s1 f1 (Zhd (S:=fun _=>True) (Zen ns)) Zcu A1 hz)⟩
  ·cases e
end
end L2
namespace L2
noncomputable def VF (p s:Int):Int:=p*s%(p+1)
noncomputable def ZsA (p s:Int):Int:=p*s/(p+1)
noncomputable def ZoB (s:Int):Nat->Int
 |0=>s
 |k+1=>ZsA (k+1) (ZoB s k)
noncomputable def ZqZ (s:Int) (n:Nat):List Int:=(List.range n).map fun(k:Nat)=>VF (k+1) (ZoB s k)
noncomputable def ZpW (s:Int):Nat->Nat->Nat
 |0,k=>k
 |n+1,k=>if 0<ZoB s k then ZpW s n (k+1) else k
noncomputable def ZsH (s:Int):Nat:=ZpW s s.toNat 0
noncomputable def ZrD (s:Int):List Int:=ZqZ s (ZsH s)
noncomputable def Uw (ns:List Int):Nat->Nat
 |0=>0
 |k+1=>if ns.getD k 0=0 then Uw ns k else k+1
noncomputable def JE (ns:List Int):List Int:=ns.take (Uw ns ns.length)
theorem ZdT (ns:List Int):∀k,Uw ns k<=k
 |0=>Ztj _
 |k+1=>by
  unfold Uw
  split
  ·exact Nat.le_succ_of_le (ZdT ns k)
  ·exact Ztj _
theorem ZcB (ns:List Int):∀k,0<Uw ns k->ns.getD (Uw ns k-1) 0≠0
 |0,h=>absurd h (by simp[Uw])
 |k+1,h=>by
  unfold Uw at h ⊢
  split
  ·rename_i c;rw[if_pos c] at h;exact ZcB ns k h
  ·rename_i c;rw[Zua];exact c
theorem ZiQ (ns:List Int) {m:Nat} (hm:m=0\/ns.getD (m-1) 0≠0):∀k,m<=k->(∀j,m<=j->j<k->ns.getD j 0=0)->Uw ns k=m
 |0,h,_=>by simp[Uw];omega
 |k+1,h,h2=>by
  unfold Uw
  by_cases e:m=k+1
  ·subst e
   rw[if_neg]
   rcases hm with z|z
   ·omega
   ·simpa using z
  ·rw[if_pos (h2 k (by omega) (by omega))]
   exact ZiQ ns hm k (by omega) fun j a b=>h2 j a (by omega)
theorem ZcA (ns:List Int):∀k j,Uw ns k<=j->j<k->ns.getD j 0=0
 |0,j,_,h=>absurd h (by omega)
 |k+1,j,h1,h2=>by
  unfold Uw at h1
  by_cases c:ns.getD k 0=0
  ·rw[if_pos c] at h1
   by_cases e:j=k
   ·rw[e];exact c
   ·exact ZcA ns k j h1 (by omega)
  ·rw[if_neg c] at h1;omega
theorem ZaI (ns:List Int):(JE ns).length=Uw ns ns.length:=by
 unfold JE
 have:=ZdT ns ns.length
 simp;omega
theorem ZjQ {ns:List Int} (h:JE ns≠[]):(JE ns).getD ((JE ns).length-1) 0≠0:=by
 have hl:0<(JE ns).length:=Zue.mpr h
 rw[ZaI] at hl ⊢
 have:=ZcB ns ns.length hl
 unfold JE
 rw[Zte,Zuw (by omega),<- Zte]
 exact this
theorem ZoA:∀{ns:List Int},(∀x∈ns,0<=x)->0<=ns.sum
 |[],_=>by simp
 |n::ns,h=>by
  have h1:=h n (by simp)
  have h2:=ZoA (ns:=ns) fun x hx=>h x (by simp[hx])
  simp only[Zt3];omega
theorem ZqF:∀{ns:List Int},(∀x∈ns,0<=x)->∀x∈ns,x<=ns.sum
 |[],_,x,hx=>by simp at hx
 |n::ns,h,x,hx=>by
  have h1:=h n (by simp)
  have h2:=ZoA (ns:=ns) fun x hx=>h x (by simp[hx])
  simp only[Zt3]
  rcases Ztt.mp hx with rfl|hx
  ·omega
  ·have:=ZqF (ns:=ns) (fun x hx=>h x (by simp[hx])) x hx;omega
def Zm4 (ns:List Int):Prop:=(∀x∈ns,0<=x)/\ns.length<=200/\ns.sum<=10000/\(ns=[]\/ns.getD (ns.length-1) 0≠0)
noncomputable instance (ns:List Int):Decidable (Zm4 ns):=by unfold Zm4;infer_instance
def Zo0 (ns:List Int):Prop:=Zm4 ns/\ns=ZrD ns.sum
noncomputable instance (ns:List Int):Decidable (Zo0 ns):=by unfold Zo0;infer_instance
noncomputable def s2 (ns:List Int) (r:Nat):Nat->Int
 |0=>0
 |i+1=>s2 ns r i+if i%2=r then ns.getD i 0 else 0
noncomputable def ZlY (a b:Int):Int:=Nat.gcd a.toNat b.toNat
theorem ZlX {a b:Int} (ha:0<=a) (hb:0<b):ZlY b (a%b)=ZlY a b:=by
 unfold ZlY
 have h1:(a%b).toNat=a.toNat%b.toNat:=by
  have h0:=Zum a (show b≠0 by omega)
  apply Int.ofNat.inj
  show ((a%b).toNat:Int)=((a.toNat%b.toNat:Nat):Int)
  rw[ZtE h0,Zu1,ZtE ha,ZtE (by omega)]
 rw[h1,Nat.gcd_comm a.toNat,Nat.gcd_rec b.toNat a.toNat,Nat.gcd_comm]
theorem ZlW {a:Int} (ha:0<=a):ZlY a 0=a:=by
 unfold ZlY
 simp[ZtE ha]
theorem Q1 {ns:List Int}{i:Nat} (h:i<ns.length):ns.getD i 0∈ns:=by
 rw[Zte,Ztf h];exact ZuC _
end L2
namespace L2
end L2
namespace L2
noncomputable def hs:Nat->Nat->Int->List Int
 |_,0,_=>[]
 |k,m+1,l=>VF (k+1) l::hs (k+1) m (ZsA (k+1) l)
noncomputable def s3 (ns:List Int) (r:Nat):Nat->Int
 |0=>0
 |i+1=>s3 ns r i+if i%3=r then ns.getD i 0 else 0
end L2
namespace L2
def ZC (ns:List Int):Prop:=(∀x∈ns,0<=x)/\ns.length<=100/\ns.sum<=100/\(ns=[]\/(ns.getD 0 0≠0/\ns.getD (ns.length-1) 0≠0))
noncomputable instance (ns:List Int):Decidable (ZC ns):=by unfold ZC;infer_instance
noncomputable def mrN (r:List Int) (i:Nat):List Int:=(List.range (max r.length i)).map fun(j:Nat)=>r.getD j 0+if j<i then 1 else 0
noncomputable def Yc:List Int->List Int
 |[]=>[]
 |a::r=>mrN r a.toNat
@[simp] theorem ZcO (r:List Int) (i:Nat):(mrN r i).length=max r.length i:=by simp[mrN]
theorem Zim {r:List Int}{i j:Nat} (h:j<max r.length i):(mrN r i).getD j 0=r.getD j 0+if j<i then 1 else 0:=by
 simp[mrN,Zte,Zt9 h]
theorem Yt {ns:List Int}{i:Nat} (h:ns.length<=i):ns.getD i 0=0:=by
 rw[Zte,Zt2 h];rfl
theorem W3 (f g:Nat->Int):∀n,((List.range n).map fun i=>f i+g i).sum=((List.range n).map f).sum+((List.range n).map g).sum
 |0=>by simp
 |n+1=>by
  rw[ZtG]
  simp only[Zt4,ZtM,Ztv,ZtK,Zt3,Zuj]
  rw[W3 f g n];omega
theorem J0 {f g:Nat->Int}:∀n,(∀i,i<n->f i<=g i)->((List.range n).map f).sum<=((List.range n).map g).sum
 |0,_=>by simp
 |n+1,h=>by
  rw[ZtG]
  simp only[Zt4,ZtM,Ztv,ZtK,Zt3,Zuj]
  have:=J0 n (fun i hi=>h i (by omega))
  have:=h n (by omega)
  omega
theorem V8 (c:Int):∀n:Nat,((List.range n).map fun _=>c).sum=n*c
 |0=>by simp
 |n+1=>by
  rw[ZtG]
  simp only[Zt4,ZtM,Ztv,ZtK,Zt3,Zuj]
  rw[V8 c n,show ((n+1:Nat):Int)=(n:Int)+1 by omega,ZuE];omega
theorem ZfI (ns:List Int):ns=(List.range ns.length).map fun(i:Nat)=>ns.getD i 0:=by
 apply Zu5
 intro j
 rw[Ztz]
 by_cases h:j<ns.length
 ·rw[Zt9 h,ZuL,Zte,Ztf h];rfl
 ·rw[Zt2 (by omega),Zt2 (by simp;omega)];rfl
theorem QG (ns:List Int):∀k,((List.range (ns.length+k)).map fun(i:Nat)=>ns.getD i 0).sum=ns.sum
 |0=>by rw[Zuy,<- ZfI]
 |k+1=>by
  rw[<- Zvq,ZtG]
  simp only[Zt4,ZtM,Ztv,ZtK,Zt3,Zuj]
  rw[QG ns k,Yt (by omega)];omega
theorem ZkQ (i:Nat):∀n,i<=n->((List.range n).map fun(j:Nat)=>if j<i then (1:Int) else 0).sum=i
 |0,h=>by simp;omega
 |n+1,h=>by
  rw[ZtG]
  simp only[Zt4,ZtM,Ztv,ZtK,Zt3,Zuj]
  by_cases e:i=n+1
  ·subst e
   rw[if_pos (by omega)]
   have:((List.range n).map fun(j:Nat)=>if j<n+1 then (1:Int) else 0)=(List.range n).map fun _=>1:=Zuq fun j hj=>if_pos (by have:=Ztu.mp hj;omega)
   rw[this,V8];omega
  ·rw[ZkQ i n (by omega),if_neg (by omega)];omega
theorem Zl8 (r:List Int) (i:Nat):(mrN r i).sum=r.sum+i:=by
 unfold mrN
 rw[W3,ZkQ i _ (by omega)]
 have:=QG r (max r.length i-r.length)
 rw[show r.length+(max r.length i-r.length)=max r.length i by omega] at this
 rw[this]
theorem Jp {ns:List Int} (h:∀x∈ns,0<=x) (i:Nat):0<=ns.getD i 0:=by
 by_cases z:i<ns.length
 ·exact h _ (Q1 z)
 ·rw[Yt (by omega)];omega
theorem Zek:∀{ns:List Int},(∀x∈ns,0<=x)->0<=ns.sum
 |[],_=>by simp
 |x::xs,h=>by
  have:=h x (by simp)
  have:=Zek (ns:=xs) (fun y hy=>h y (by simp[hy]))
  simp;omega
theorem ZlD {ns:List Int} (h:ZC ns):ZC (Yc ns):=by
 cases ns with
 |nil=>exact h
 |cons a r =>
  obtain⟨h1,h2,h3,h4⟩:=h
  have h4:=h4.resolve_left (by simp)
  have ha:=h1 a (by simp)
  have hr:∀x∈r,0<=x:=fun x hx=>h1 x (by simp[hx])
  have hs:=Zek hr
  have ha1:a≠0:=by simpa using h4.1
  simp only[Zt3,ZtC] at h2 h3
  show ZC (mrN r a.toNat)
  refine⟨fun x hx=>?_,by rw[ZcO];omega,by rw[Zl8];omega,.inr ⟨?_, ?_⟩⟩
  ·obtain⟨j,_,rfl⟩:=ZtA.mp hx
   have:=Jp hr j
   split<;>omega
  ·rw[Zim (by omega),if_pos (by omega)]
   have:=Jp hr 0
   omega
  ·rw[ZcO,Zim (by omega)]
   have q:=Jp hr (max r.length a.toNat-1)
   by_cases z:a.toNat<r.length
   ·rw[if_neg (by omega)]
    have:=h4.2
    simp only[ZtC,Zua] at this
    rw[show max r.length a.toNat-1=r.length-1 by omega]
    rw[show r.length=(r.length-1)+1 by omega] at this
    simp only[Zvh] at this
    omega
   ·rw[if_pos (by omega)];omega
theorem ZaR {ns:List Int} (h:ns≠[]):Yc ns=mrN (ns.drop 1) (ns.getD 0 0).toNat:=by
 cases ns with
 |nil=>exact absurd rfl h
 |cons a r=>simp[Yc]
theorem ZC.head {ns:List Int} (h:ZC ns) (hz:ns≠[]):1<=ns.getD 0 0/\ns.getD 0 0<=100:=by
 obtain⟨h1,h2,h3,h4⟩:=h
 have h5:=(h4.resolve_left hz).1
 cases ns with
 |nil=>exact absurd rfl hz
 |cons a r =>
  have:=h1 a (by simp)
  have:=Zek (ns:=r) (fun x hx=>h1 x (by simp[hx]))
  simp at h3 h5 ⊢
  omega
theorem Zkg (r:List Int) (i:Nat):mrN r i=(List.range (r++List.replicate (i-r.length) 0).length).map fun(j:Nat)=>if j<i then (r++List.replicate (i-r.length) 0).getD j 0+1 else (r++List.replicate (i-r.length) 0).getD j 0:=by
 unfold mrN
 rw[Zt8,Zut,show r.length+(i-r.length)=max r.length i by omega]
 apply Zuq
 intro j hj
 have hj:=Ztu.mp hj
 have e:(r++List.replicate (i-r.length) 0).getD j 0=r.getD j 0:=by
  rw[Zte,Zte]
  by_cases q:j<r.length
  ·rw[Ztl q]
  ·rw[Ztm (by omega),Zun,Zt2 (by omega)]
   split<;>rfl
 rw[e]
 split<;>omega
noncomputable def Zem (s:Int):Nat->Int
 |0=>s
 |k+1=>Zem s k*48271%2147483647
theorem ZiX {s:Int} (h:0<=s/\s<=2147483647):∀k,0<=Zem s k/\Zem s k<=2147483647
 |0=>h
 |k+1=>by rw[Zem];omega
noncomputable def Zk6 (s:Int) (m:Nat):List Int:=(List.range m).map fun(k:Nat)=>Zem s (k+1)/16%1000000
theorem Zhv (s:Int) (m:Nat):Zk6 s (m+1)=Zk6 s m++[Zem s (m+1)/16%1000000]:=by simp[Zk6,ZtG]
@[simp] theorem ZbO (s:Int) (m:Nat):(Zk6 s m).length=m:=by simp[Zk6]
noncomputable def Zhy (fs ns:List Int) (m:Nat):Nat->List Int
 |0=>fs
 |i+1=>(Zhy fs ns m i).set (i%m) (((Zhy fs ns m i).getD (i%m) 0+ns.getD i 0)%1000000)
@[simp] theorem Zd9 (fs ns:List Int) (m:Nat):∀i,(Zhy fs ns m i).length=fs.length
 |0=>rfl
 |i+1=>by rw[Zhy,Zvb,Zd9]
noncomputable def WC (ns:List Int):Int:=if 0<ns.length then 1+ns.getD 0 0%2147483646 else 1
theorem Zcg (ns:List Int):0<=WC ns/\WC ns<=2147483647:=by unfold WC;split<;>omega
noncomputable def Zkf (ns:List Int) (m:Nat):List Int:=Zhy (Zk6 (WC ns) m) ns m ns.length
@[simp] theorem Zod (ns:List Int) (m:Nat):(Zkf ns m).length=m:=by simp[Zkf]
theorem Zea {l:List Int}{x:Int} (h:x∈l):∃i,i<l.length/\x=l.getD i 0:=by
 obtain⟨i,hi,rfl⟩:=Zvd h
 exact⟨i,hi,by rw[Zte,Ztf hi];rfl⟩
end L2
namespace L2
noncomputable def mIt:Nat->List Int->List Int
 |0,l=>l
 |n+1,l=>Yc (mIt n l)
theorem Zis (m:Nat) (l:List Int):∀n,mIt (m+n) l=mIt n (mIt m l)
 |0=>rfl
 |n+1=>by
  show Yc (mIt (m+n) l)=Yc (mIt n (mIt m l))
  rw[Zis m l n]
theorem Uu {l:List Int} (h:ZC l):∀n,ZC (mIt n l)
 |0=>h
 |n+1=>ZlD (Uu h n)
theorem JK (l:List Int) (i:Nat):(Yc l).getD i 0=l.getD (i+1) 0+if i<(l.getD 0 0).toNat then 1 else 0:=by
 by_cases hz:l=[]
 ·subst hz;simp[Yc]
 ·rw[ZaR hz]
  have e:(l.drop 1).getD i 0=l.getD (i+1) 0:=by
   simp[Zte,ZtL,Zvm]
  by_cases c:i<max (l.drop 1).length (l.getD 0 0).toNat
  ·rw[Zim c,e]
  ·rw[Yt (by simp[mrN];simp at c;omega),<- e,Yt (ns:=l.drop 1) (by omega),if_neg (by omega)];rfl
noncomputable def enE (i:Nat) (h:Int):Int:=2*i*h+h*h-h
noncomputable def enN (N:Nat) (l:List Int):Int:=((List.range N).map fun(i:Nat)=>enE i (l.getD i 0)).sum
theorem Zrc (i:Nat) (h:Int):enE i (h+1)=enE (i+1) h+2*i:=by
 unfold enE
 rw[show ((i+1:Nat):Int)=(i:Int)+1 by omega]
 simp only[ZuF,ZuE,ZuD,ZuG]
 omega
theorem Zn5 (i:Nat) (h:Int):enE i h=enE (i+1) h-2*h:=by
 unfold enE
 rw[show ((i+1:Nat):Int)=(i:Int)+1 by omega]
 simp only[ZuF,ZuE,ZuD,ZuG]
 omega
theorem Zrd (i:Nat) {h:Int} (hh:0<=h):0<=enE i h:=by
 unfold enE
 have h1:0<=2*(i:Int)*h:=Int.mul_nonneg (by omega) hh
 have h2:h<=h*h:=by
  by_cases c:h=0
  ·subst c;simp
  ·have:=Int.mul_le_mul_of_nonneg_right (show 1<=h by omega) hh
   rwa [ZuG] at this
 omega
theorem ZaK (f:Nat->Int):∀n,((List.range (n+1)).map f).sum=f 0+((List.range n).map fun i=>f (i+1)).sum
 |0=>by simp
 |n+1=>by
  rw[ZtG,Zt4,ZtM,ZaK f n,ZtG,Zt4,ZtM]
  simp only[Ztv,ZtK,Zt3,Zuj]
  omega
theorem WQ {f g:Nat->Int}{n:Nat} (h:∀i,i<n->f i=g i):((List.range n).map f).sum=((List.range n).map g).sum:=by
 congr 1
 exact Zuq fun i hi=>h i (Ztu.mp hi)
theorem Zo9 {h:Int} (h0:0<=h):∀n:Nat,h<=n->((List.range n).map fun(i:Nat)=>if i<h.toNat then 2*(i:Int) else 0).sum=h*h-h:=by
 have key:∀(m n:Nat),m<=n->((List.range n).map fun(i:Nat)=>if i<m then 2*(i:Int) else 0).sum=(m:Int)*m-m:=by
  intro m n
  induction n with
  |zero =>
   intro h
   have:m=0:=by omega
   subst this;simp
  |succ n ih =>
   intro h
   rw[ZtG,Zt4,ZtM]
   simp only[Ztv,ZtK,Zt3,Zuj]
   by_cases c:m<=n
   ·rw[ih c,if_neg (by omega)];omega
   ·have e:m=n+1:=by omega
    subst e
    have h1:((List.range n).map fun(i:Nat)=>if i<n+1 then 2*(i:Int) else 0).sum=((List.range n).map fun(i:Nat)=>if i<n then 2*(i:Int) else 0).sum:=
     WQ fun i hi=>by rw[if_pos (by omega),if_pos hi]
    rw[h1]
    have ih2:((List.range n).map fun(i:Nat)=>if i<n then 2*(i:Int) else 0).sum=(n:Int)*n-n:=by
     clear ih h h1 c
     induction n with
     |zero=>simp
     |succ k ihk =>
      rw[ZtG,Zt4,ZtM]
      simp only[Ztv,ZtK,Zt3,Zuj]
      rw[show ((List.range k).map fun(i:Nat)=>if i<k+1 then 2*(i:Int) else 0).sum=((List.range k).map fun(i:Nat)=>if i<k then 2*(i:Int) else 0).sum from WQ fun i hi=>by rw[if_pos (by omega),if_pos hi]]
      rw[ihk,if_pos (by omega),show ((k+1:Nat):Int)=(k:Int)+1 by omega]
      simp only[ZuF,ZuE,ZuD,ZuG]
      omega
    rw[ih2,if_pos (by omega),show ((n+1:Nat):Int)=(n:Int)+1 by omega]
    simp only[ZuF,ZuE,ZuD,ZuG]
    omega
 intro n hn
 have:=key h.toNat n (by omega)
 rwa [ZtE h0] at this
noncomputable def Zmf (l:List Int):Int:=((List.range 200).map fun(i:Nat)=>if i<(l.getD 0 0).toNat then 0 else l.getD (i+1) 0).sum
theorem Zgq {l:List Int} (h:ZC l) {i:Nat} (hi:100<=i):l.getD i 0=0:=Yt (by have:=h.2.1;omega)
theorem ZjA {l:List Int} (h:ZC l):enN 200 (Yc l)=enN 200 l-2*Zmf l:=by
 have h0:=Jp h.1 0
 have h1:l.getD 0 0<=100:=by
  by_cases hz:l=[]
  ·subst hz;simp
  ·exact(h.head hz).2
 have e1:enN 200 l=enN 201 l:=by
  unfold enN
  rw[ZtG (n:=200),Zt4,ZtM]
  simp only[Ztv,ZtK,Zt3,Zuj]
  rw[Zgq h (by omega)]
  simp[enE]
 rw[e1]
 unfold enN Zmf
 rw[ZaK (fun i=>enE i (l.getD i 0)) 200]
 have e2:((List.range 200).map fun(i:Nat)=>enE i ((Yc l).getD i 0)).sum=((List.range 200).map fun(i:Nat)=>(enE (i+1) (l.getD (i+1) 0)+(if i<(l.getD 0 0).toNat then 2*(i:Int) else 0))+(-2)*(if i<(l.getD 0 0).toNat then 0 else l.getD (i+1) 0)).sum:=by
  refine WQ fun i hi=>?_
  rw[JK]
  by_cases c:i<(l.getD 0 0).toNat
  ·rw[if_pos c,if_pos c,if_pos c,Zrc];omega
  ·rw[if_neg c,if_neg c,if_neg c,Int.add_zero,Zn5];omega
 rw[e2,W3,W3,Zo9 h0 200 (by omega)]
 have e3:∀(f:Nat->Int) (n:Nat),((List.range n).map fun i=>(-2)*f i).sum=(-2)*((List.range n).map f).sum:=by
  intro f n
  induction n with
  |zero=>simp
  |succ n ih =>
   rw[ZtG,Zt4,ZtM,ih,Zt4,ZtM]
   simp only[Ztv,ZtK,Zt3,Zuj,ZuF]
   omega
 rw[e3]
 have e4:enE 0 (l.getD 0 0)=l.getD 0 0*l.getD 0 0-l.getD 0 0:=by unfold enE;simp
 rw[e4]
 omega
theorem ZrZ {l:List Int} (h:ZC l):0<=enN 200 l:=by
 unfold enN
 have:=J0 (f:=fun _=>0) (g:=fun i=>enE i (l.getD i 0)) 200 (fun i _=>Zrd i (Jp h.1 i))
 rw[V8] at this
 simpa using this
theorem Zme {l:List Int} (h:ZC l):0<=Zmf l:=by
 unfold Zmf
 have:=J0 (f:=fun _=>0) (g:=fun(i:Nat)=>if i<(l.getD 0 0).toNat then 0 else l.getD (i+1) 0) 200 (fun i _=>by
  show (0:Int)<=if i<(l.getD 0 0).toNat then 0 else l.getD (i+1) 0
  split
  ·exact Int.le_refl _
  ·exact Jp h.1 _)
 rw[V8] at this
 simpa using this
theorem ZaJ {f:Nat->Int}:∀n,(∀i,i<n->0<=f i)->((List.range n).map f).sum<=0->∀i,i<n->f i=0
 |0,_,_,i,hi=>by omega
 |n+1,hn,hs,i,hi=>by
  rw[ZtG,Zt4,ZtM] at hs
  simp only[Ztv,ZtK,Zt3,Zuj] at hs
  have h1:=J0 (f:=fun _=>0) (g:=f) n (fun i hi=>hn i (by omega))
  rw[V8] at h1
  have h2:=hn n (by omega)
  by_cases c:i=n
  ·subst c;omega
  ·exact ZaJ n (fun i hi=>hn i (by omega)) (by omega) i (by omega)
def Zrq (l:List Int):Prop:=∀i:Nat,l.getD 0 0<=i->l.getD (i+1) 0=0
theorem ZoG {l:List Int} (h:ZC l) (he:enN 200 l<=enN 200 (Yc l)):Zrq l:=by
 have h1:=ZjA h
 have h2:=Zme h
 intro i hi
 by_cases c:i<200
 ·have:=ZaJ (f:=fun(i:Nat)=>if i<(l.getD 0 0).toNat then 0 else l.getD (i+1) 0) 200 (fun i _=>by
   show (0:Int)<=if i<(l.getD 0 0).toNat then 0 else l.getD (i+1) 0
   split
   ·exact Int.le_refl _
   ·exact Jp h.1 _) (by show Zmf l<=0;omega) i c
  rwa [if_neg (by have:=Jp h.1 0;omega)] at this
 ·exact Zgq h (by omega)
def occ (l:List Int) (d i:Nat):Prop:=(d:Int)-i<l.getD i 0
theorem Zl4 {l:List Int} (h:ZC l) (hr:Zrq l) {d i:Nat} (hi:i<=d):occ (Yc l) d i ↔ occ l d ((i+1)%(d+1)):=by
 have h0:=Jp h.1 0
 have h1:=Jp h.1 (i+1)
 have hri:=hr i
 unfold occ
 rw[JK]
 by_cases c:i=d
 ·subst c
  rw[Nat.mod_self]
  by_cases e:i<(l.getD 0 0).toNat
  ·rw[if_pos e]
   constructor<;>(intro;omega)
  ·rw[if_neg e,hri (by omega)]
   constructor<;>(intro;omega)
 ·rw[ZtV (by omega)]
  by_cases e:i<(l.getD 0 0).toNat
  ·rw[if_pos e]
   constructor<;>(intro;omega)
  ·rw[if_neg e,hri (by omega)]
   constructor<;>(intro;omega)
theorem Zil {l:List Int} (h:ZC l) (hr:∀t,Zrq (mIt t l)) (d:Nat):∀t i,i<=d->(occ (mIt t l) d i ↔ occ l d ((i+t)%(d+1)))
 |0,i,hi=>by
  rw[Zuy,ZtV (by omega)]
  exact Iff.rfl
 |t+1,i,hi=>by
  show occ (Yc (mIt t l)) d i ↔ _
  rw[Zl4 (Uu h t) (hr t) hi]
  have hm:(i+1)%(d+1)<=d:=by have:=ZuH (i+1) (show 0<d+1 by omega);omega
  rw[Zil h hr d t _ hm,Zvi,show i+1+t=i+(t+1) by omega]
theorem crt (d a b:Nat) (ha:a<=d+1) (hb:b<=d):∃t,t%(d+2)=a/\t%(d+1)=b:=by
 have hu:=ZuH (b+(d+2)-a) (show 0<d+2 by omega)
 have hq:=Nat.div_add_mod (b+(d+2)-a) (d+2)
 refine⟨b+(d+1)*((b+(d+2)-a)%(d+2)), ?_, ?_⟩
 ·generalize (b+(d+2)-a)%(d+2)=u at hu hq
  generalize (b+(d+2)-a)/(d+2)=q at hq
  have e:b+(d+1)*u+(d+2)=a+(d+2)*(q+u):=by
   have e1:(d+2)*(q+u)=(d+2)*q+(d+2)*u:=Nat.mul_add _ _ _
   have e2:(d+2)*u=(d+1)*u+u:=by rw[show d+2=(d+1)+1 by omega,Nat.add_mul,Nat.one_mul]
   omega
  have:(b+(d+1)*u+(d+2))%(d+2)=a:=by rw[e,ZuA,ZtV (by omega)]
  rwa [Zvo] at this
 ·rw[ZuA,ZtV (by omega)]
theorem ZfO {l:List Int} (h:ZC l) (hr:∀t,Zrq (mIt t l)) {d a:Nat} (ha:a<=d+1) (ho:occ l (d+1) a):∀b,b<=d->occ l d b:=by
 intro b hb
 obtain⟨t,t1,t2⟩:=crt d a b ha hb
 have h1:occ (mIt t l) (d+1) 0:=by
  rw[Zil h hr (d+1) t 0 (by omega),ZtT,t1];exact ho
 have h2:occ (mIt t l) d 0:=by
  unfold occ at h1 ⊢
  omega
 rw[Zil h hr d t 0 (by omega),ZtT,t2] at h2
 exact h2
end L2
namespace L2
noncomputable def tri:Nat->Int
 |0=>0
 |k+1=>tri k+(k+1)
theorem ZfY:∀k:Nat,2*tri k=(k:Int)*(k+1)
 |0=>by simp[tri]
 |k+1=>by
  rw[tri,ZuF,ZfY k,show ((k+1:Nat):Int)=(k:Int)+1 by omega]
  simp only[ZuF,ZuE,ZuD,ZuG]
  omega
theorem ZkJ (k:Nat):((k:Int)+1)*((k:Int)+2)/2=tri (k+1):=by
 have:=ZfY (k+1)
 rw[show ((k+1:Nat):Int)=(k:Int)+1 by omega,show (k:Int)+1+1=(k:Int)+2 by omega] at this
 rw[<- this]
 omega
theorem QF {a b:Nat} (h:a<=b):tri a<=tri b:=by
 obtain⟨d,rfl⟩:∃d,b=a+d:=⟨b-a,by omega⟩
 clear h
 induction d with
 |zero=>exact Int.le_refl _
 |succ d ih=>rw[<- Zvq,tri];omega
theorem ZkI:∀k:Nat,(k:Int)<=tri k
 |0=>by simp[tri]
 |k+1=>by have:=ZkI k;have:=QF (ZtB k);rw[tri];simp[tri] at this;omega
noncomputable def kN (s:Int):Nat:=((List.range (s.toNat+1)).find? fun(k:Nat)=>decide (s<tri (k+1))).getD 0
theorem Uc {s:Int} (h:0<=s):tri (kN s)<=s/\s<tri (kN s+1)/\(kN s:Int)<=s:=by
 cases hf:(List.range (s.toNat+1)).find? fun(k:Nat)=>decide (s<tri (k+1)) with
 |none =>
  have:=Zvn.mp hf s.toNat (Ztu.mpr (by omega))
  have h2:=ZkI (s.toNat+1)
  simp at this
  omega
 |some k =>
  have h1:=ZuI.mp hf
  have e:kN s=k:=by unfold kN;rw[hf];rfl
  rw[e]
  have hk:=of_decide_eq_true h1.1
  have hm:=Ztu.mp h1.2.1
  refine⟨?_,hk,by omega⟩
  cases k with
  |zero=>exact h
  |succ k =>
   have:=h1.2.2 k (by omega)
   simp at this
   exact this
theorem ZqO {s:Int}{k:Nat} (h1:tri k<=s) (h2:s<tri (k+1)):kN s=k:=by
 have hs:0<=s:=by have:=ZkI k;omega
 obtain⟨a,b,-⟩:=Uc hs
 by_cases c:kN s<k
 ·have:=QF (show kN s+1<=k by omega);omega
 ·by_cases d:k<kN s
  ·have:=QF (show k+1<=kN s by omega);omega
  ·omega
noncomputable def adI (l:List Int) (k i:Nat):Int:=l.getD i 0-((k:Int)-i)
structure Zm7 (l:List Int) (k:Nat):Prop where
 lo:tri k<=l.sum
 hi:l.sum<tri (k+1)
 ad:∀i,i<=k->0<=adI l k i/\adI l k i<=1
 z:∀i,k<i->l.getD i 0=0
def Row (l:List Int):Prop:=Zm7 l (kN l.sum)
theorem Zm7.row {l:List Int}{k:Nat} (h:Zm7 l k):Row l:=by unfold Row;rw[ZqO h.lo h.hi];exact h
theorem ZgW (D:Nat):((List.range (D+1)).map fun(i:Nat)=>(D:Int)-i).sum=tri D:=by
 have key:∀(n:Nat) (c:Int),((List.range n).map fun(i:Nat)=>c-i).sum=n*c-(tri n-n):=by
  intro n c
  induction n with
  |zero=>simp[tri]
  |succ n ih =>
   rw[ZtG,Zt4,ZtM,ih]
   simp only[Ztv,ZtK,Zt3,Zuj]
   rw[tri,show ((n+1:Nat):Int)=(n:Int)+1 by omega,ZuE,ZuG]
   omega
 rw[key]
 have:=ZfY D
 rw[tri,show ((D+1:Nat):Int)=(D:Int)+1 by omega]
 simp only[ZuF,ZuE,ZuD,ZuG] at this ⊢
 omega
theorem ZnU {l:List Int}{n:Nat} (h:l.length<=n):((List.range n).map fun(i:Nat)=>l.getD i 0).sum=l.sum:=by
 have:=QG l (n-l.length)
 rwa [show l.length+(n-l.length)=n by omega] at this
theorem Zoh {l:List Int} (h:ZC l) {n:Nat} (hz:∀i,n<=i->l.getD i 0=0):l.length<=n:=by
 rcases h.2.2.2 with c|c
 ·subst c;simp
 ·by_cases e:l.length<=n
  ·exact e
  ·exact absurd (hz (l.length-1) (by omega)) c.2
theorem Zih {l:List Int} (h:ZC l) (hr:∀t,Zrq (mIt t l)):Row l:=by
 by_cases hz:l=[]
 ·subst hz
  exact Zm7.row (k:=0) ⟨by simp[tri],by simp[tri],fun i hi=>by simp[adI];omega,fun i _=>by simp⟩
 have hh:=h.head hz
 have hfar:∀d i,200<=d->i<=d->¬occ l d i:=by
  intro d i hd hi ho
  unfold occ at ho
  by_cases c:100<=i
  ·rw[Zgq h c] at ho;omega
  ·have h1:=Jp h.1 i
   have h2:l.getD i 0<=100:=by
    have hs:=h.2.2.1
    by_cases e:i<l.length
    ·have:=ZqF h.1 _ (Q1 e);omega
    ·rw[Yt (by omega)];omega
   omega
 have P0:∃i,i<=0/\occ l 0 i:=⟨0,by omega,by unfold occ;omega⟩
 have hD:∃D,(∃i,i<=D/\occ l D i)/\∀i,i<=D+1->¬occ l (D+1) i:=by
  have key:∀n D,D+n=200->(∃i,i<=D/\occ l D i)->∃D,(∃i,i<=D/\occ l D i)/\∀i,i<=D+1->¬occ l (D+1) i:=by
   intro n
   induction n with
   |zero=>rintro D hD ⟨i,hi,ho⟩;exact absurd ho (hfar D i (by omega) hi)
   |succ n ih =>
    intro D hD hP
    by_cases c:∃i,i<=D+1/\occ l (D+1) i
    ·exact ih (D+1) (by omega) c
    ·exact⟨D,hP,fun i hi ho=>c ⟨i,hi,ho⟩⟩
  exact key 200 0 (by omega) P0
 obtain⟨D,⟨a,ha,hoa⟩,hno⟩:=hD
 have hup:∀n i,i<=D+1+n->¬occ l (D+1+n) i:=by
  intro n
  induction n with
  |zero=>exact hno
  |succ n ih =>
   intro i hi ho
   exact ih 0 (by omega) (ZfO h hr (d:=D+1+n) (a:=i) hi ho 0 (by omega))
 have zz:∀i,D<i->l.getD i 0=0:=by
  intro i hi
  have:=hup (i-(D+1)) i (by omega)
  rw[show D+1+(i-(D+1))=i by omega] at this
  unfold occ at this
  have:=Jp h.1 i
  omega
 have bd:∀i,i<=D->0<=adI l D i/\adI l D i<=1:=by
  intro i hi
  unfold adI
  have h1:=hno i (by omega)
  unfold occ at h1
  refine⟨?_,by omega⟩
  by_cases c:i=D
  ·have:=Jp h.1 i;omega
  ·have:=ZfO h hr (d:=D-1) (a:=a) (by omega) (by rw[show D-1+1=D by omega];exact hoa) i (by omega)
   unfold occ at this
   omega
 have hlen:l.length<=D+1:=Zoh h fun i hi=>zz i (by omega)
 have hsum:l.sum=tri D+((List.range (D+1)).map fun(i:Nat)=>adI l D i).sum:=by
  rw[<- ZnU hlen,<- ZgW D,<- W3]
  exact WQ fun i _=>by unfold adI;omega
 have s0:=J0 (f:=fun _=>0) (g:=fun(i:Nat)=>adI l D i) (D+1) (fun i hi=>(bd i (by omega)).1)
 rw[V8] at s0
 have s1:=J0 (f:=fun(i:Nat)=>adI l D i) (g:=fun _=>1) (D+1) (fun i hi=>(bd i (by omega)).2)
 rw[V8] at s1
 by_cases c:((List.range (D+1)).map fun(i:Nat)=>adI l D i).sum<=D
 ·refine Zm7.row (k:=D) ⟨by omega,by rw[tri];omega,bd,zz⟩
 ·have hall:∀i,i<D+1->1-adI l D i=0:=by
   refine ZaJ (f:=fun(i:Nat)=>1-adI l D i) (D+1) (fun i hi=>by have:=(bd i (by omega)).2;omega) ?_
   have:=W3 (fun(i:Nat)=>1-adI l D i) (fun(i:Nat)=>adI l D i) (D+1)
   rw[show ((List.range (D+1)).map fun(i:Nat)=>1-adI l D i+adI l D i).sum=((List.range (D+1)).map fun _=>(1:Int)).sum from WQ fun i _=>by omega,V8] at this
   omega
  refine Zm7.row (k:=D+1) ⟨by rw[tri];omega,by rw[tri,tri];omega,fun i hi=>?_,fun i hi=>zz i (by omega)⟩
  by_cases e:i=D+1
  ·subst e
   unfold adI
   rw[zz _ (by omega)]
   omega
  ·have:=hall i (by omega)
   unfold adI at this ⊢
   omega
theorem Zex {l:List Int} (h:ZC l):(Yc l).sum=l.sum:=by
 by_cases hz:l=[]
 ·subst hz;rfl
 ·rw[ZaR hz,Zl8]
  have h1:=h.head hz
  have e:l=l.getD 0 0::l.drop 1:=by
   cases l with
   |nil=>exact absurd rfl hz
   |cons x r=>simp
  conv=>rhs;rw[e,Zt3]
  rw[ZtE (by omega)]
  omega
theorem ZlH {l:List Int} (h:ZC l):∀n,(mIt n l).sum=l.sum
 |0=>rfl
 |n+1=>by
  show (Yc (mIt n l)).sum=_
  rw[Zex (Uu h n),ZlH h n]
theorem ZkU {l:List Int}{k:Nat} (h:ZC l) (hk:Zm7 l k):Zm7 (Yc l) k/\∀i,i<=k->adI (Yc l) k i=adI l k ((i+1)%(k+1)):=by
 have a0:=hk.ad 0 (by omega)
 have e0:l.getD 0 0=k+adI l k 0:=by unfold adI;omega
 have key:∀i,i<=k->adI (Yc l) k i=adI l k ((i+1)%(k+1)):=by
  intro i hi
  by_cases c:i=k
  ·subst c
   rw[Nat.mod_self]
   unfold adI at a0 e0 ⊢
   rw[JK,hk.z (i+1) (by omega)]
   by_cases d:i<(l.getD 0 0).toNat
   ·rw[if_pos d];omega
   ·rw[if_neg d];omega
  ·rw[ZtV (by omega)]
   unfold adI at a0 e0 ⊢
   rw[JK,if_pos (by omega)]
   omega
 refine⟨⟨by rw[Zex h];exact hk.lo,by rw[Zex h];exact hk.hi,fun i hi=>?_,fun i hi=>?_⟩,key⟩
 ·rw[key i hi]
  exact hk.ad _ (by have:=ZuH (i+1) (show 0<k+1 by omega);omega)
 ·rw[JK,hk.z (i+1) (by omega),if_neg (by omega)];rfl
theorem ZkV {l:List Int}{k:Nat} (h:ZC l) (hk:Zm7 l k):∀n,Zm7 (mIt n l) k/\∀i,i<=k->adI (mIt n l) k i=adI l k ((i+n)%(k+1))
 |0=>⟨hk,fun i hi=>by rw[Zuy,ZtV (by omega)];rfl⟩
 |n+1=>by
  obtain⟨h1,h2⟩:=ZkV h hk n
  obtain⟨h3,h4⟩:=ZkU (Uu h n) h1
  refine⟨h3,fun i hi=>?_⟩
  show adI (Yc (mIt n l)) k i=_
  rw[h4 i hi,h2 _ (by have:=ZuH (i+1) (show 0<k+1 by omega);omega),Zvi,show i+1+n=i+(n+1) by omega]
theorem Zmg {l:List Int} (h:ZC l) (m:Nat):∀n,enN 200 (mIt (m+n) l)<=enN 200 (mIt m l)
 |0=>Int.le_refl _
 |n+1=>by
  have h1:=Zmg h m n
  have h2:=ZjA (Uu h (m+n))
  have h3:=Zme (Uu h (m+n))
  show enN 200 (Yc (mIt (m+n) l))<=_
  omega
theorem Zrj:∀(m:Nat) {l:List Int},ZC l->(enN 200 l).toNat<=m->∃n,Row (mIt n l)
 |m,l,h,hm=>by
  by_cases c:∀t,enN 200 l<=enN 200 (mIt t l)
  ·refine⟨0,Zih h fun t=>ZoG (Uu h t) ?_⟩
   have h1:=Zmg h 0 t
   rw[ZtT] at h1
   exact Int.le_trans h1 (c (t+1))
  ·have:∃t,enN 200 (mIt t l)<enN 200 l:=by
    apply Classical.byContradiction
    intro z
    exact c fun t=>by
     by_cases q:enN 200 l<=enN 200 (mIt t l)
     ·exact q
     ·exact absurd ⟨t,by omega⟩ z
   obtain⟨t,ht⟩:=this
   have h0:=ZrZ (Uu h t)
   cases m with
   |zero=>omega
   |succ m =>
    obtain⟨n,hn⟩:=Zrj m (Uu h t) (by omega)
    exact⟨t+n,by rw[Zis];exact hn⟩
theorem ZhF {l:List Int} (h:ZC l):∃n,Row (mIt n l)/\∀j,j<n->¬Row (mIt j l):=by
 obtain⟨n,hn⟩:=Zrj _ h (Ztj _)
 have key:∀n,Row (mIt n l)->∃n,Row (mIt n l)/\∀j,j<n->¬Row (mIt j l):=by
  intro n
  induction n using Nat.strongRecOn with
  |ind n ih =>
   intro hr
   by_cases c:∃j,j<n/\Row (mIt j l)
   ·obtain⟨j,hj,hr'⟩:=c
    exact ih j hj hr'
   ·exact⟨n,hr,fun j hj hr'=>c ⟨j,hj,hr'⟩⟩
 exact key n hn
end L2
namespace L2
theorem Zok {l m:List Int} (hl:l.length=m.length) (h:∀i,i<l.length->l.getD i 0=m.getD i 0):l=m:=by
 refine ZuB hl fun i h1 h2=>?_
 have:=h i h1
 rw[Zte,Zte,Ztf h1,Ztf h2] at this
 exact this
theorem ZgT {ns:List Int} (i:Nat):(JE ns).getD i 0=ns.getD i 0:=by
 by_cases h:i<Uw ns ns.length
 ·unfold JE
  rw[Zte,Zuw h,Zte]
 ·rw[Yt (by rw[ZaI];omega)]
  by_cases h2:i<ns.length
  ·exact(ZcA ns ns.length i (by omega) h2).symm
  ·exact(Yt (by omega)).symm
theorem ZgS {a b:List Int} (ha:a=[]\/a.getD (a.length-1) 0≠0) (hb:b=[]\/b.getD (b.length-1) 0≠0) (h:∀i,a.getD i 0=b.getD i 0):a=b:=by
 have key:∀{a b:List Int},(a=[]\/a.getD (a.length-1) 0≠0)->(∀i,a.getD i 0=b.getD i 0)->a.length<=b.length:=by
  intro a b ha h
  rcases ha with rfl|ha
  ·simp
  ·by_cases c:a.length<=b.length
   ·exact c
   ·exact absurd (by rw[h];exact Yt (by omega)) ha
 exact Zok (Nat.le_antisymm (key ha h) (key hb fun i=>(h i).symm)) fun i _=>h i
theorem ZkH (ns:List Int):JE ns=[]\/(JE ns).getD ((JE ns).length-1) 0≠0:=by
 by_cases h:JE ns=[]
 ·exact .inl h
 ·exact .inr (ZjQ h)
def Pat (a:List Int):Prop:=(∀x∈a,x=0\/x=1)/\1<=a.length/\a.length<=60/\(0:Int)∈a
noncomputable def ZoE (a:List Int):List Int:=(List.range a.length).map fun(i:Nat)=>(a.length:Int)-1-i+a.getD i 0
theorem ZmK {a:List Int}{i:Nat} (h:i<a.length):(ZoE a).getD i 0=(a.length:Int)-1-i+a.getD i 0:=by simp[ZoE,h]
theorem Zjb (a:List Int):(ZoE a).length=a.length:=by simp[ZoE]
noncomputable def Yl (a:List Int):List Int:=JE (ZoE a)
theorem YM {a:List Int}{i:Nat} (h:i<a.length):(Yl a).getD i 0=(a.length:Int)-1-i+a.getD i 0:=by
 unfold Yl;rw[ZgT,ZmK h]
theorem Zgd {a:List Int}{i:Nat} (h:a.length<=i):(Yl a).getD i 0=0:=by
 unfold Yl;rw[ZgT];exact Yt (by rw[Zjb];exact h)
theorem ZbE (a:List Int):(Yl a).length<=a.length:=by
 unfold Yl;rw[ZaI];have:=ZdT (ZoE a) (ZoE a).length;rw[Zjb] at *;exact this
theorem QL (a:List Int):Yl a=[]\/(Yl a).getD ((Yl a).length-1) 0≠0:=ZkH _
theorem ZmL {a b:List Int} (hl:a.length=b.length) (h:Yl a=Yl b):a=b:=by
 refine Zok hl fun i hi=>?_
 have h1:=YM hi
 have h2:=YM (a:=b) (i:=i) (by omega)
 rw[h] at h1
 omega
theorem Pat.get {a:List Int} (h:Pat a) (i:Nat):a.getD i 0=0\/a.getD i 0=1:=by
 by_cases hi:i<a.length
 ·exact h.1 _ (Q1 hi)
 ·exact .inl (Yt (by omega))
theorem Zet:∀{a:List Int},(∀x∈a,x=0\/x=1)->0<=a.sum/\a.sum<=a.length/\((0:Int)∈a->a.sum<a.length)
 |[],_=>by simp
 |x::a,h=>by
  obtain⟨h1,h2,h3⟩:=Zet (a:=a) fun y hy=>h y (by simp[hy])
  have hx:=h x (by simp)
  simp only[Zt3,ZtC,Ztt]
  refine⟨by omega,by omega,fun z=>?_⟩
  rcases z with z|z
  ·omega
  ·have:=h3 z;omega
theorem ZkW {a:List Int} (h:Pat a):∀x∈Yl a,0<=x:=fun x hx=>by
 obtain⟨i,hi,rfl⟩:=Zea hx
 have:=ZbE a
 rw[YM (by omega)]
 have:=h.get i
 omega
theorem ZdX {a:List Int} (h:1<=a.length):(Yl a).sum=tri (a.length-1)+a.sum:=by
 rw[<- ZnU (ZbE a)]
 have e:((List.range a.length).map fun(i:Nat)=>(Yl a).getD i 0)=(List.range a.length).map fun(i:Nat)=>(((a.length-1:Nat):Int)-i)+a.getD i 0:=by
  apply Zuq
  intro i hi
  rw[YM (Ztu.mp hi)];omega
 rw[e,W3,<- ZfI a]
 have:=ZgW (a.length-1)
 rw[show a.length-1+1=a.length by omega] at this
 rw[this]
noncomputable def WP (a:List Int) (t:Nat):List Int:=(List.range a.length).map fun(i:Nat)=>a.getD ((i+t)%a.length) 0
theorem ZI (a:List Int) (t:Nat):(WP a t).length=a.length:=by simp[WP]
theorem JH {a:List Int}{t i:Nat} (h:i<a.length):(WP a t).getD i 0=a.getD ((i+t)%a.length) 0:=by simp[WP,h]
theorem ZaN (a:List Int):WP a 0=a:=Zok (ZI a 0) fun i hi=>by
 rw[ZI] at hi
 rw[JH hi,Zuy,ZtV hi]
theorem Zbq (a:List Int) (s t:Nat):WP (WP a s) t=WP a (s+t):=Zok (by simp[ZI]) fun i hi=>by
 rw[ZI,ZI] at hi
 have hm:(i+t)%a.length<a.length:=ZuH _ (by omega)
 rw[JH (by rw[ZI];exact hi),ZI,JH hm,JH hi,Zvi]
 congr 2
 omega
theorem ZkY (a:List Int):WP a a.length=a:=Zok (ZI a _) fun i hi=>by
 rw[ZI] at hi
 rw[JH hi,Zvo,ZtV hi]
theorem Pat.rot {a:List Int} (h:Pat a) (t:Nat):Pat (WP a t):=by
 have h1:=h.2.1
 refine⟨fun x hx=>?_,by rw[ZI];exact h.2.1,by rw[ZI];exact h.2.2.1, ?_⟩
 ·obtain⟨i,hi,rfl⟩:=Zea hx
  rw[ZI] at hi
  rw[JH hi]
  exact h.get _
 ·obtain⟨j,hj,e⟩:=Zea h.2.2.2
  have hlt:(j+(a.length-t%a.length))%a.length<(WP a t).length:=by rw[ZI];exact ZuH _ (by omega)
  have h2:=Q1 hlt
  rw[ZI] at hlt
  rw[JH hlt] at h2
  have e2:((j+(a.length-t%a.length))%a.length+t)%a.length=j:=by
   rw[Zvi]
   have h3:=ZuH t (show 0<a.length by omega)
   have h4:=Nat.div_add_mod t a.length
   rw[show j+(a.length-t%a.length)+t=j+a.length*(t/a.length+1) by rw[Nat.mul_add,Nat.mul_one];omega,ZuA,ZtV hj]
  rw[e2,<- e] at h2
  exact h2
theorem Zcn {a:List Int} (h:Pat a):Yc (Yl a)=Yl (WP a 1):=by
 have h1:=h.2.1
 have g0:=h.get 0
 have r0:(Yl a).getD 0 0=(a.length:Int)-1+a.getD 0 0:=by rw[YM (by omega)];omega
 have hend:Yc (Yl a)=[]\/(Yc (Yl a)).getD ((Yc (Yl a)).length-1) 0≠0:=by
  by_cases hz:Yl a=[]
  ·rw[hz];exact .inl rfl
  ·right
   have hz2:=(QL a).resolve_left hz
   rw[JK]
   have hl:=ZbE a
   have hlen:(Yc (Yl a)).length=max ((Yl a).length-1) ((Yl a).getD 0 0).toNat:=by
    rw[ZaR hz];simp[mrN]
   have hpos:0<(Yl a).length:=Zue.mpr hz
   have nn:=Jp (ZkW h) ((Yc (Yl a)).length-1+1)
   by_cases c:(Yc (Yl a)).length-1<((Yl a).getD 0 0).toNat
   ·rw[if_pos c];omega
   ·exfalso
    have:(Yl a).getD 0 0≠0:=by
     intro z
     have:a.length=1:=by omega
     have e0:(Yl a).length=1:=by omega
     rw[e0] at hz2
     exact hz2 z
    omega
 refine ZgS hend (QL _) fun i=>?_
 rw[JK,r0]
 by_cases hi:i+1<a.length
 ·rw[YM hi,YM (by rw[ZI];omega),ZI,JH (by omega),ZtV hi,if_pos (by omega)]
  omega
 ·rw[Zgd (by omega)]
  by_cases hi2:i+1=a.length
  ·rw[YM (by rw[ZI];omega),ZI,JH (by omega),hi2,Nat.mod_self]
   rcases g0 with z|z
   ·rw[z,if_neg (by omega)];omega
   ·rw[z,if_pos (by omega)];omega
  ·rw[Zgd (by rw[ZI];omega),if_neg (by omega)];rfl
theorem Zir {a:List Int} (h:Pat a):∀n,mIt n (Yl a)=Yl (WP a n)
 |0=>by rw[ZaN];rfl
 |n+1=>by rw[mIt,Zir h n,Zcn (h.rot n),Zbq]
end L2
namespace L2
noncomputable def chI (n:Int):Nat->Int
 |0=>1
 |k+1=>chI n k*(n-k)/((k:Int)+1)
noncomputable def ZsY:Bool:=(List.range 64).all fun(n:Nat)=>(List.range (n+1)).all fun(k:Nat)=>decide (0<=chI n k)&&decide (chI n k<=10^20)
theorem Zrk:ZsY=true:=by decide +kernel
theorem Zou {n:Int}{k:Nat} (h0:0<=n) (h1:n<=63) (hk:(k:Int)<=n):0<=chI n k/\chI n k<=10^20:=by
 have h:=Zt1.mp (Zt1.mp Zrk n.toNat (Ztu.mpr (by omega))) k (Ztu.mpr (by omega))
 rw[ZtE h0,Bool.and_eq_true] at h
 exact⟨of_decide_eq_true h.1,of_decide_eq_true h.2⟩
noncomputable def adS (s:Int):Nat:=(s-tri (kN s)).toNat
theorem ZdD {s:Int} (h:0<=s):(adS s:Int)=s-tri (kN s)/\adS s<=kN s:=by
 obtain⟨k1,k2,k3⟩:=Uc h
 have:tri (kN s+1)=tri (kN s)+(kN s+1):=rfl
 unfold adS
 omega
theorem Zba {s:Int} (h0:0<=s) (h:s<=2000):kN s<=62:=by
 obtain⟨k1,_,_⟩:=Uc h0
 by_cases c:kN s<=62
 ·exact c
 ·have:=QF (show 63<=kN s by omega)
  have e:tri 63=2016:=by decide
  omega
noncomputable def ZlM (n a m:Nat):Int:=if a%(n/Nat.gcd n m)=0 then chI (Nat.gcd n m:Nat) (a/(n/Nat.gcd n m)) else 0
noncomputable def Zqk (n a:Nat):Int:=((List.range n).map fun m=>ZlM n a m).sum/n
noncomputable def ZsU:Bool:=(List.range 63).all fun n=>(List.range (n+1)).all fun m=>(List.range (n+1)).all fun a =>
 ((a*Nat.gcd (n+1) m%(n+1)==0)==(a%((n+1)/Nat.gcd (n+1) m)==0))&&(a*Nat.gcd (n+1) m/(n+1)==a/((n+1)/Nat.gcd (n+1) m))&&decide (a/((n+1)/Nat.gcd (n+1) m)<=Nat.gcd (n+1) m)&&decide (0<Nat.gcd (n+1) m)&&decide (0<(n+1)/Nat.gcd (n+1) m)&&decide (Nat.gcd (n+1) m<=n+1)
theorem ZqW:ZsU=true:=by decide +kernel
structure Gd (n m a:Nat):Prop where
 mod:a*Nat.gcd n m%n=0 ↔ a%(n/Nat.gcd n m)=0
 div:a*Nat.gcd n m/n=a/(n/Nat.gcd n m)
 le:a/(n/Nat.gcd n m)<=Nat.gcd n m
 p1:0<Nat.gcd n m
 p2:0<n/Nat.gcd n m
 le2:Nat.gcd n m<=n
theorem gd {n m a:Nat} (h1:n<=63) (hm:m<n) (ha:a<n):Gd n m a:=by
 have h:=Zt1.mp (Zt1.mp (Zt1.mp ZqW (n-1) (Ztu.mpr (by omega))) m (Ztu.mpr (by omega))) a (Ztu.mpr (by omega))
 rw[show n-1+1=n by omega] at h
 simp only[Bool.and_eq_true,beq_iff_eq,decide_eq_true_eq] at h
 obtain⟨⟨⟨⟨⟨h1,h2⟩,h3⟩,h4⟩,h5⟩,h6⟩:=h
 refine⟨?_,h2,h3,h4,h5,h6⟩
 rw[<- beq_iff_eq (a:=a*Nat.gcd n m%n),<- beq_iff_eq (a:=a%(n/Nat.gcd n m)),h1]
noncomputable def ZsQ (ones Zhb:Int) (found:List (List Int)):List (List Int):=found.flatMap fun m=>([0,1]:List Int).filterMap fun o=>if m.sum+o<=ones/\ones-m.sum-o<=Zhb then some (m++[o]) else none
noncomputable def Zs1 (size ones:Int):Nat->List (List Int)
 |0=>[[]]
 |i+1=>ZsQ ones (size-i-1) (Zs1 size ones i)
noncomputable def ZoF (m:List Int) (k:Nat):List Int:=m.drop k++m.take k
end L2
namespace L2
noncomputable def cC (n k:Nat):Int:=if n<k then 0 else chI n k
theorem ZpT (n:Nat):cC n 0=1:=by unfold cC;rw[if_neg (by omega)];rfl
theorem ZsZ (k:Nat):cC 0 (k+1)=0:=by unfold cC;rw[if_pos (by omega)]
theorem ZpB {n k:Nat} (h:n<=63):0<=cC n k:=by
 unfold cC
 split
 ·omega
 ·exact(Zou (by omega) (by omega) (by omega)).1
noncomputable def ZsP:Bool:=(List.range 63).all fun n=>(List.range 64).all fun k=>decide (cC (n+1) (k+1)=cC n k+cC n (k+1))
theorem Zqs:ZsP=true:=by decide +kernel
theorem Zjp {n k:Nat} (hn:n<63) (hk:k<64):cC (n+1) (k+1)=cC n k+cC n (k+1):=of_decide_eq_true (Zt1.mp (Zt1.mp Zqs n (Ztu.mpr hn)) k (Ztu.mpr hk))
noncomputable def unN:Nat->Nat->Int->List Int
 |0,_,_=>[]
 |p+1,l,a=>if a<cC p l then 0::unN p l a else 1::unN p (l-1) (a-cC p l)
noncomputable def rkN:List Int->Int
 |[]=>0
 |x::m=>if x=1 then cC m.length (m.sum.toNat+1)+rkN m else rkN m
theorem ZnO {p l:Nat}{a:Int} (hp:p<63) (hl:l<=63) (h1:a<cC (p+1) l) (h2:¬a<cC p l):1<=l/\0<=a-cC p l/\a-cC p l<cC p (l-1):=by
 cases l with
 |zero=>rw[ZpT] at h1 h2;omega
 |succ l =>
  rw[Zjp hp (by omega)] at h1
  rw[Zua]
  omega
theorem ZfX:∀(p l:Nat) (a:Int),p<=63->l<=63->0<=a->a<cC p l->(unN p l a).length=p/\(∀x∈unN p l a,x=0\/x=1)/\(unN p l a).sum=l/\rkN (unN p l a)=a
 |0,l,a,_,_,h0,h1=>by
  cases l with
  |zero=>rw[ZpT] at h1;exact⟨rfl,by simp[unN],rfl,by simp[unN,rkN];omega⟩
  |succ l=>rw[ZsZ] at h1;omega
 |p+1,l,a,hp,hl,h0,h1=>by
  rw[unN]
  by_cases c:a<cC p l
  ·rw[if_pos c]
   obtain⟨g1,g2,g3,g4⟩:=ZfX p l a (by omega) hl h0 c
   refine⟨by simp[g1],fun x hx=>?_,by simp[g3],by rw[rkN,if_neg (by omega)];exact g4⟩
   rcases Ztt.mp hx with z|z
   ·exact .inl z
   ·exact g2 x z
  ·rw[if_neg c]
   obtain⟨u1,u2,u3⟩:=ZnO (by omega) hl h1 c
   obtain⟨g1,g2,g3,g4⟩:=ZfX p (l-1) (a-cC p l) (by omega) (by omega) u2 u3
   refine⟨by simp[g1],fun x hx=>?_,by rw[Zt3,g3];omega, ?_⟩
   ·rcases Ztt.mp hx with z|z
    ·exact .inr z
    ·exact g2 x z
   ·rw[rkN,if_pos rfl,g1,g3,g4,show ((l-1:Nat):Int).toNat+1=l by omega];omega
theorem Zla:∀(m:List Int),m.length<=63->(∀x∈m,x=0\/x=1)->0<=rkN m/\rkN m<cC m.length m.sum.toNat/\unN m.length m.sum.toNat (rkN m)=m
 |[],_,_=>by refine⟨by simp[rkN], ?_,rfl⟩;decide
 |x::m,hl,h=>by
  have hl':m.length+1<=63:=by simpa using hl
  have hm:∀y∈m,y=0\/y=1:=fun y hy=>h y (by simp[hy])
  obtain⟨g1,g2,g3⟩:=Zla m (by omega) hm
  obtain⟨s1,s2,_⟩:=Zet hm
  rcases h x (by simp) with rfl|rfl
  ·rw[rkN,if_neg (by omega),Zt3,Zuo,ZtC]
   have mono:cC m.length m.sum.toNat<=cC (m.length+1) m.sum.toNat:=by
    cases hs:m.sum.toNat with
    |zero=>rw[ZpT,ZpT];omega
    |succ s=>rw[Zjp (by omega) (by omega)];have:=ZpB (n:=m.length) (k:=s) (by omega);omega
   refine⟨g1,by omega, ?_⟩
   rw[unN,if_pos g2,g3]
  ·rw[rkN,if_pos rfl,Zt3,ZtC,show (1+m.sum).toNat=m.sum.toNat+1 by omega]
   have hp:=Zjp (n:=m.length) (k:=m.sum.toNat) (by omega) (by omega)
   have h0:=ZpB (n:=m.length) (k:=m.sum.toNat+1) (by omega)
   refine⟨by omega,by omega, ?_⟩
   rw[unN,if_neg (by omega),Zua,show cC m.length (m.sum.toNat+1)+rkN m-cC m.length (m.sum.toNat+1)=rkN m by omega,g3]
def Bin (a:List Int):Prop:=(∀x∈a,x=0\/x=1)/\1<=a.length/\a.length<=63/\(0:Int)∈a
theorem Bin.get {a:List Int} (h:Bin a) (i:Nat):a.getD i 0=0\/a.getD i 0=1:=by
 by_cases hi:i<a.length
 ·exact h.1 _ (Q1 hi)
 ·exact .inl (Yt (by omega))
theorem Zjc {a:List Int} (h:Bin a):∀x∈Yl a,0<=x:=fun x hx=>by
 obtain⟨i,hi,rfl⟩:=Zea hx
 have:=ZbE a
 rw[YM (by omega)]
 have:=h.get i
 omega
theorem Zge {a:List Int} (h:Bin a):kN (Yl a).sum=a.length-1:=by
 have h1:=h.2.1
 obtain⟨s1,s2,s3⟩:=Zet h.1
 have s3:=s3 h.2.2.2
 rw[ZdX h1]
 refine ZqO (by omega) ?_
 rw[tri];omega
theorem ZmM {a:List Int} (h:Bin a):adS (Yl a).sum=a.sum.toNat:=by
 unfold adS
 rw[Zge h,ZdX h.2.1]
 congr 1
 omega
theorem Zrn {s:Int} (h0:0<=s) (h1:s<=2000) {n:Int} (n0:0<=n) (n1:n<chI (kN s+1:Nat) (adS s)):Bin (unN (kN s+1) (adS s) n)/\(Yl (unN (kN s+1) (adS s) n)).sum=s/\rkN (unN (kN s+1) (adS s) n)=n/\(unN (kN s+1) (adS s) n).length=kN s+1:=by
 have hk:=Zba h0 h1
 obtain⟨a1,a2⟩:=ZdD h0
 have e:cC (kN s+1) (adS s)=chI (kN s+1:Nat) (adS s):=by unfold cC;rw[if_neg (by omega)]
 obtain⟨g1,g2,g3,g4⟩:=ZfX (kN s+1) (adS s) n (by omega) (by omega) n0 (by rw[e];exact n1)
 refine⟨⟨g2,by omega,by omega, ?_⟩, ?_,g4,g1⟩
 ·by_cases c:(0:Int)∈unN (kN s+1) (adS s) n
  ·exact c
  ·exfalso
   have all1:∀x∈unN (kN s+1) (adS s) n,1<=x:=fun x hx=>by
    rcases g2 x hx with z|z
    ·rw[z] at hx;exact absurd hx c
    ·omega
   have:∀l:List Int,(∀x∈l,1<=x)->(l.length:Int)<=l.sum:=by
    intro l
    induction l with
    |nil=>intro _;simp
    |cons y l ih =>
     intro h
     have h1:=h y (by simp)
     have h2:=ih fun z hz=>h z (by simp[hz])
     simp only[ZtC,Zt3];omega
   have:=this _ all1
   omega
 ·rw[ZdX (by omega),g1,g3,Zua];omega
theorem Zmx {a:List Int} (h:Bin a):rkN a<chI (kN (Yl a).sum+1:Nat) (adS (Yl a).sum)/\0<=rkN a/\unN (kN (Yl a).sum+1) (adS (Yl a).sum) (rkN a)=a:=by
 have h1:=h.2.1
 obtain⟨g1,g2,g3⟩:=Zla a h.2.2.1 h.1
 obtain⟨s1,s2,s3⟩:=Zet h.1
 rw[Zge h,ZmM h,show a.length-1+1=a.length by omega]
 unfold cC at g2
 rw[if_neg (by omega)] at g2
 exact⟨g2,g1,g3⟩
theorem ZmN {s:Int} (h0:0<=s) (h1:s<=2000):1<=chI (kN s+1:Nat) (adS s):=by
 have hk:=Zba h0 h1
 obtain⟨a1,a2⟩:=ZdD h0
 have key:∀(p l:Nat),p<=63->l<=p->1<=cC p l:=by
  intro p
  induction p with
  |zero=>intro l _ hl;rw[show l=0 by omega,ZpT];omega
  |succ p ih =>
   intro l hp hl
   cases l with
   |zero=>rw[ZpT];omega
   |succ l =>
    rw[Zjp (by omega) (by omega)]
    have:=ih l (by omega) (by omega)
    have:=ZpB (n:=p) (k:=l+1) (by omega)
    omega
 have:=key (kN s+1) (adS s) (by omega) (by omega)
 unfold cC at this
 rw[if_neg (by omega)] at this
 exact this
end L2
namespace L2
open PySem
theorem Zhm:∀(ts:List (List Int)),ts≠[]->∃t,ZbC ts t
 |[],h=>absurd rfl h
 |[t],_=>⟨t,by simp,fun u hu=>by rw[ZtI.mp hu];exact HL.JA t⟩
 |t::u::ts,_=>by
  obtain⟨m,h1,h2⟩:=Zhm (u::ts) (by simp)
  cases e:HT.Ye t m with
  |true =>
   refine⟨t,by simp,fun v hv=>?_⟩
   rcases Ztt.mp hv with rfl|hv
   ·exact HL.JA _
   ·cases e2:HT.Ye v t with
    |false=>rfl
    |true =>
     have:=HL.QR e2 e
     rw[h2 v hv] at this;cases this
  |false =>
   refine⟨m,ZtF _ h1,fun v hv=>?_⟩
   rcases Ztt.mp hv with rfl|hv
   ·exact e
   ·exact h2 v hv
noncomputable def Zd6 (m:List Int) (n:Nat):Bool:=(List.range n).all fun k=>!(HT.Ye (ZoF m k) m)
noncomputable def ZmB (s:Int):List (List Int):=Zs1 (kN s+1:Nat) (adS s:Nat) (kN s+1)
theorem ZmD (k:Nat):(k:Int)*((k:Int)+1)/2=tri k:=by have:=ZfY k;omega
end L2
namespace L2
noncomputable def adL (l:List Int):List Int:=(List.range (kN l.sum+1)).map fun(i:Nat)=>adI l (kN l.sum) i
theorem Zfa (l:List Int):(adL l).length=kN l.sum+1:=by simp[adL]
theorem Zm3 {l:List Int}{i:Nat} (h:i<=kN l.sum):(adL l).getD i 0=adI l (kN l.sum) i:=by
 unfold adL
 rw[Zte,Ztz,Zt9 (by omega)];rfl
def Fit (l:List Int):Prop:=l.length<=kN l.sum+1/\∀x∈adL l,x=0\/x=1
def Zm6 (l:List Int):Prop:=((∀x∈l,0<=x)/\l.sum<=2000)/\Fit l/\(l=[]\/l.getD (l.length-1) 0≠0)
noncomputable instance (l:List Int):Decidable (Fit l):=by unfold Fit;infer_instance
noncomputable instance (l:List Int):Decidable (Zm6 l):=by unfold Zm6;infer_instance
theorem ZpK {l:List Int} (h:l.length<=kN l.sum+1) (i:Nat):(Yl (adL l)).getD i 0=l.getD i 0:=by
 have e:=Zfa l
 by_cases hi:i<(adL l).length
 ·rw[YM hi,Zm3 (by omega),e]
  unfold adI
  omega
 ·rw[Zgd (by omega),Yt (by omega)]
theorem Zi2 {l:List Int} (h:l.length<=kN l.sum+1):Yl (adL l)=l ↔ (l=[]\/l.getD (l.length-1) 0≠0):=by
 constructor
 ·intro e;rw[<- e];exact QL _
 ·intro q;exact ZgS (QL _) q (ZpK h)
theorem Zga:∀{l:List Int},(∀x∈l,0<=x)->0<=l.sum
 |[],_=>by simp
 |x::l,h=>by
  have h1:=h x (by simp)
  have h2:=Zga (l:=l) fun y hy=>h y (by simp[hy])
  simp only[Zt3];omega
theorem Zm6.bin {l:List Int} (h:Zm6 l):Bin (adL l)/\Yl (adL l)=l:=by
 obtain⟨⟨h1,h2⟩,⟨h3,h4⟩,h5⟩:=h
 have s0:=Zga h1
 have hk:=Zba s0 h2
 have e:=Zfa l
 have er:=(Zi2 h3).mpr h5
 refine⟨⟨h4,by omega,by omega, ?_⟩,er⟩
 by_cases c:(0:Int)∈adL l
 ·exact c
 ·exfalso
  have all1:∀x∈adL l,1<=x:=fun x hx=>by
   rcases h4 x hx with z|z
   ·rw[z] at hx;exact absurd hx c
   ·omega
  have key:∀l:List Int,(∀x∈l,1<=x)->(l.length:Int)<=l.sum:=by
   intro l
   induction l with
   |nil=>intro _;simp
   |cons y l ih =>
    intro h
    have h1:=h y (by simp)
    have h2:=ih fun z hz=>h z (by simp[hz])
    simp only[ZtC,Zt3];omega
  have k1:=key _ all1
  have k2:=ZdX (a:=adL l) (by omega)
  rw[er,e,Zua] at k2
  obtain⟨_,t2,_⟩:=Uc s0
  rw[tri] at t2
  omega
end L2
namespace L2
noncomputable def Zi9 (P o:Int) (m:List Int):Bool:=decide (0<=o-m.sum)&&decide (o-m.sum<=P-m.length)
noncomputable def agF (q:List Int×Int):Int:=q.1.getD ((q.1.length:Int)-q.2).toNat 0
noncomputable def mkF (P o:Int) (q:List Int×Int):List (List Int×Int):=((q.1++[agF q],q.2)::if agF q=0 then [(q.1++[1],(q.1.length:Int)+1)] else []).filter fun r=>Zi9 P o r.1
noncomputable def lvF (P o:Int):Nat->List (List Int×Int)
 |0=>[([0],1)]
 |i+1=>(lvF P o i).flatMap (mkF P o)
noncomputable def ltF (P o:Int):List (List Int):=((lvF P o (P.toNat-1)).filter fun q=>decide (P%q.2=0)).map fun q=>q.1
noncomputable def upF:List (List Int)->Bool
 |a::b::r=>HT.Ye a b&&upF (b::r)
 |_=>true
structure ZnM (P o:Int) (i:Nat) (q:List Int×Int):Prop where
 len:q.1.length=i+1
 p1:1<=q.2
 p2:q.2<=i+1
 bin:∀x∈q.1,x=0\/x=1
theorem ZnM.ag {P o:Int}{i:Nat}{q:List Int×Int} (h:ZnM P o i q):agF q=0\/agF q=1:=by
 unfold agF
 have h1:=h.len
 have h2:=h.p1
 have h3:=h.p2
 exact h.bin _ (Q1 (by omega))
theorem Zof {P o:Int}{i:Nat}{q:List Int×Int} (h:ZnM P o i q):∀r∈mkF P o q,ZnM P o (i+1) r/\Zi9 P o r.1=true:=fun r hr=>by
 have h1:=h.len
 have h2:=h.p1
 have h3:=h.p2
 obtain⟨hm,hc⟩:=Zuf.mp hr
 refine⟨?_,hc⟩
 have hag:=h.ag
 rcases Ztt.mp hm with e|e
 ·subst e
  exact⟨by simp[h1],h2,by simp only;omega,fun x hx=>by
   rcases Ztk.mp hx with z|z
   ·exact h.bin x z
   ·have z:x=agF q:=by simpa using z
    rw[z];exact hag⟩
 ·by_cases c:agF q=0
  ·rw[if_pos c] at e
   have e:=ZtI.mp e
   subst e
   refine⟨by simp[h1],by simp only;omega,by simp only;omega,fun x hx=>?_⟩
   rcases Ztk.mp hx with z|z
   ·exact h.bin x z
   ·exact .inr (by simpa using z)
  ·rw[if_neg c] at e;cases e
theorem Zco (P o:Int):∀i,∀q∈lvF P o i,ZnM P o i q/\(1<=i->Zi9 P o q.1=true)
 |0,q,hq=>by
  have hq:q=([0],1):=by simpa[lvF] using hq
  subst hq
  exact⟨⟨rfl,by decide,by decide,by simp⟩,fun h=>absurd h (by decide)⟩
 |i+1,q,hq=>by
  rw[lvF] at hq
  obtain⟨p,hp,hq⟩:=List.mem_flatMap.mp hq
  have:=Zof (Zco P o i p hp).1 q hq
  exact⟨this.1,fun _=>this.2⟩
theorem ZlA (P o:Int) (q:List Int×Int):(mkF P o q).length<=2:=by
 unfold mkF
 refine Zt5 (ZuU _ _) ?_
 split<;>simp
theorem Zpp {α β:Type}{f:α->List β} (h:∀a,(f a).length<=2):∀l:List α,(l.flatMap f).length<=2*l.length
 |[]=>by simp
 |a::l=>by
  rw[List.flatMap_cons,Zt8,ZtC]
  have:=Zpp h l
  have:=h a
  omega
theorem Zey (P o:Int):∀i,(lvF P o i).length<=2^i
 |0=>by simp[lvF]
 |i+1=>by
  rw[lvF,Nat.pow_succ]
  have h1:=Zpp (ZlA P o) (lvF P o i)
  have h2:=Zey P o i
  omega
theorem Zj2 {P o:Int}{i:Nat} (h:lvF P o i=[]):∀j,lvF P o (i+j)=[]
 |0=>h
 |j+1=>by
  show lvF P o (i+j+1)=[]
  rw[lvF,Zj2 h j];rfl
end L2
namespace My
open L2
noncomputable def tab (n:Nat) (f:Nat->Int):List Int:=(List.range n).map f
theorem ZcE (n:Nat) (f:Nat->Int):(tab n f).length=n:=by simp[tab]
theorem ZkL {n:Nat}{f:Nat->Int}{x:Nat} (h:x<n):(tab n f).getD x 0=f x:=by
 rw[Zte,tab,Ztz,Zt9 h];rfl
theorem ZkM {n:Nat}{f:Nat->Int}{l:List Int} (hl:l.length=n) (h:∀x,x<n->l.getD x 0=f x):l=tab n f:=by
 apply ZuB
 ·rw[hl,ZcE]
 ·intro i h1 h2
  have:=h i (by omega)
  rw[Zte,Ztf h1] at this
  simp only[tab,List.getElem_map,List.getElem_range]
  exact this
theorem ZgU {n:Nat}{f g:Nat->Int} (h:∀x,x<n->f x=g x):tab n f=tab n g:=ZkM (ZcE _ _) fun x hx=>by rw[ZkL hx,h x hx]
structure Ztd (ns:List Int):Prop where
 lo:2<=ns.length
 hi:ns.length<=24
 nn:∀x∈ns,0<=x
 sm:ns.sum<=10^60
theorem Zek:∀{l:List Int},(∀x∈l,0<=x)->0<=l.sum
 |[],_=>by simp
 |a::l,h=>by
  have:=Zek (l:=l) fun x hx=>h x (by simp[hx])
  have:=h a (by simp)
  simp only[Zt3];omega
noncomputable def ZsO (ns:List Int) (p:Int) (x:Nat):Int:=(if (x:Int)=p then 0 else ns.getD x 0)+ns.getD p.toNat 0/ns.length
noncomputable def ZsL (n:Int) (p:Int) (i:Int) (x:Nat):Int:=if 1<=((x:Int)-p)%n/\((x:Int)-p)%n<=i then 1 else 0
noncomputable def ZsM (ns:List Int) (p:Int) (i:Int) (x:Nat):Int:=ZsO ns p x+ZsL ns.length p i x
noncomputable def ZsN (ns:List Int) (p:Int):List Int:=tab ns.length (ZsM ns p (ns.getD p.toNat 0%ns.length))
noncomputable def ZsK (ns:List Int) (p:Int):Int:=(p+ns.getD p.toNat 0%ns.length)%ns.length
section
variable {ns:List Int}{p:Int}
end
noncomputable def run (f:Nat->Int):Nat->Nat->Nat
 |0,i=>i
 |k+1,i=>if 0<f i then run f k (i+1) else i
section
variable {ns:List Int}{q:Int}
end
noncomputable def Zsv (a:List Int×Int):List Int×Int:=(ZsN a.1 a.2,ZsK a.1 a.2)
noncomputable def its {α:Type} (f:α->α):Nat->α->α
 |0,a=>a
 |n+1,a=>f (its f n a)
section
variable {ns:List Int}{q:Int}
end
end My
namespace My
open PySem L2
end My
namespace L2
noncomputable def stir (c j:Int):Int:=((c%2147483647+1009*j+7)*48271%2147483647)*((c%2147483647+1009*j+7)*48271%2147483647)%998244353/8
end L2
namespace My
open L2
noncomputable def Uv (ns:List Int) (k:Int):List Int:=tab ns.length fun x=>ns.getD (((x:Int)-k)%ns.length).toNat 0
@[simp] theorem V7 (ns:List Int) (k:Int):(Uv ns k).length=ns.length:=ZcE _ _
theorem Zei {ns:List Int}{k y:Int} (h0:0<=y) (h1:y<ns.length):(Uv ns k).getD y.toNat 0=ns.getD ((y-k)%ns.length).toNat 0:=by
 unfold Uv
 rw[ZkL (by omega)]
 congr 3
 omega
theorem ZgR (ns:List Int) (k l:Int):Uv (Uv ns k) l=Uv ns (k+l):=by
 show tab (Uv ns k).length _=_
 rw[V7]
 refine ZgU fun x hx=>?_
 have hn:(0:Int)<ns.length:=by omega
 rw[Zei (Zum _ (by omega)) (Zuh _ hn)]
 rw[Int.emod_sub_emod,show (x:Int)-l-k=x-(k+l) by omega]
theorem ZkF (ns:List Int) (k:Int):Uv ns (k%ns.length)=Uv ns k:=by
 refine ZgU fun x hx=>?_
 rw[Int.sub_emod_emod]
theorem Zc9 (ns:List Int):Uv ns 0=ns:=by
 refine(ZkM rfl fun x hx=>?_).symm
 rw[Int.sub_zero,Int.emod_eq_of_lt (by omega) (by omega),Ztr]
noncomputable def ZrF (a:List Int×Int) (s:Nat):Int:=((its Zsv s a).2-a.2)%a.1.length
def isT (a:List Int×Int) (s:Nat):Prop:=(its Zsv s a).1=Uv a.1 (ZrF a s)
noncomputable instance (a:List Int×Int) (s:Nat):Decidable (isT a s):=by unfold isT;infer_instance
theorem ZjP (ns:List Int):Uv ns ns.length=ns:=by
 rw[<- ZkF,Int.emod_self,Zc9]
noncomputable def Ut (ns:List Int):Nat:=(((List.range ns.length).find? fun(i:Nat)=>decide (Uv ns ((i:Int)+1)=ns)).getD 0)+1
theorem Zhl {ns:List Int} (h:0<ns.length):Uv ns (Ut ns)=ns/\Ut ns<=ns.length/\∀j:Nat,j+1<Ut ns->Uv ns ((j:Int)+1)≠ns:=by
 cases hf:(List.range ns.length).find? fun(i:Nat)=>decide (Uv ns ((i:Int)+1)=ns) with
 |none =>
  have:=Zvn.mp hf (ns.length-1) (Ztu.mpr (by omega))
  rw[show ((ns.length-1:Nat):Int)+1=ns.length by omega,ZjP] at this
  simp at this
 |some i =>
  have h1:=ZuI.mp hf
  have e:Ut ns=i+1:=by unfold Ut;rw[hf];rfl
  rw[e]
  refine⟨by simpa using h1.1,by have:=Ztu.mp h1.2.1;omega,fun j hj=>?_⟩
  have:=h1.2.2 j (by omega)
  simpa using this
end My
namespace My
open PySem L2
theorem ZkG {x m:List Int} (hm:ZC m) (h:∀i,x.getD i 0=m.getD i 0):JE x=m:=by
 have hlast:m=[]\/m.getD (m.length-1) 0≠0:=by
  rcases hm.2.2.2 with c|c
  ·exact .inl c
  ·exact .inr c.2
 have hle:m.length<=x.length:=by
  rcases hlast with c|c
  ·rw[c];exact ZtB _
  ·by_cases e:m.length<=x.length
   ·exact e
   ·rw[<- h,Yt (by omega)] at c;exact absurd rfl c
 have ht:Uw x x.length=m.length:=by
  refine ZiQ x (m:=m.length) ?_ _ hle ?_
  ·rcases hlast with c|c
   ·left;rw[c];rfl
   ·right;rw[h];exact c
  ·intro j h1 h2
   rw[h,Yt h1]
 unfold JE
 rw[ht]
 apply ZuB
 ·rw[Zt7];omega
 ·intro i h1 h2
  rw[List.getElem_take]
  have:=h i
  rw[Zte,Zte,Ztf (by omega),Ztf h2] at this
  exact this
noncomputable def Zm2 (l:List Int):List Int:=(List.range (kN l.sum+1)).map fun(i:Nat)=>adI l (kN l.sum) i
theorem Zc5 (l:List Int):(Zm2 l).length=kN l.sum+1:=by unfold Zm2;simp
theorem ZnL {l:List Int}{i:Nat} (h:i<=kN l.sum):(Zm2 l).getD i 0=adI l (kN l.sum) i:=by
 unfold Zm2
 rw[Zte,Ztz,Zt9 (by omega)];rfl
noncomputable def Zm8 (a:List Int):List Int:=(List.range a.length).map fun(i:Nat)=>(a.length:Int)-1-i+a.getD i 0
theorem ZmJ {a:List Int}{i:Nat} (h:i<a.length):(Zm8 a).getD i 0=(a.length:Int)-1-i+a.getD i 0:=by
 unfold Zm8
 rw[Zte,Ztz,Zt9 h];rfl
theorem ZjV {r:List Int} (h:ZC r) (hr:Row r) (t:Nat):JE (Zm8 (Uv (Zm2 r) (-(t:Int))))=mIt t r:=by
 have hok:=Uu h t
 have hk:Zm7 r (kN r.sum):=hr
 obtain⟨g1,g2⟩:=ZkV h hk t
 refine ZkG hok fun i=>?_
 have hl:(Uv (Zm2 r) (-(t:Int))).length=kN r.sum+1:=by rw[V7,Zc5]
 by_cases c:i<=kN r.sum
 ·rw[ZmJ (by omega),hl]
  have:=Zei (ns:=Zm2 r) (k:=-(t:Int)) (y:=(i:Int)) (by omega) (by rw[Zc5];omega)
  rw[Ztr] at this
  rw[this,Zc5,show ((i:Int) - -(t:Int))=((i+t:Nat):Int) by omega,<- Zu1,Ztr,ZnL (by have:=ZuH (i+t) (show 0<kN r.sum+1 by omega);omega),<- g2 i c]
  unfold adI
  omega
 ·rw[g1.z i (by omega),Yt]
  unfold Zm8
  simp only[Zto,Zu7,hl]
  omega
noncomputable def ZcF (s:Int):Nat->Int
 |0=>s
 |k+1=>ZcF s k*16807%2147483647
theorem ZiW {s:Int} (h:0<=s/\s<=2147483647):∀k,0<=ZcF s k/\ZcF s k<=2147483647
 |0=>h
 |k+1=>by unfold ZcF;omega
noncomputable def Zk5 (s:Int) (m:Nat):List Int:=(List.range m).map fun(k:Nat)=>ZcF s (k+1)*ZcF s (k+1)
theorem Zhu (s:Int) (m:Nat):Zk5 s (m+1)=Zk5 s m++[ZcF s (m+1)*ZcF s (m+1)]:=by simp[Zk5,ZtG]
@[simp] theorem ZbN (s:Int) (m:Nat):(Zk5 s m).length=m:=by simp[Zk5]
noncomputable def Zhx (fs ns:List Int) (m:Nat):Nat->List Int
 |0=>fs
 |i+1=>(Zhx fs ns m i).set (i%m) (((Zhx fs ns m i).getD (i%m) 0+ns.getD i 0)%(10^60+1))
@[simp] theorem Zd8 (fs ns:List Int) (m:Nat):∀i,(Zhx fs ns m i).length=fs.length
 |0=>rfl
 |i+1=>by rw[Zhx,Zvb,Zd8 fs ns m i]
noncomputable def ZlL (ns:List Int) (m:Nat):List Int:=Zhx (Zk5 (WC ns) m) ns m ns.length
def Wide (ns:List Int):Prop:=∀x∈ns,0<=x/\x<=10^60
end My
namespace L2
end L2
namespace L2
end L2
namespace L2
end L2
namespace L2
theorem Zog:∀{a b:List Int},a.length=b.length->HT.Ye a b=true->∃i,i<a.length/\(∀j,j<i->a.getD j 0=b.getD j 0)/\a.getD i 0<b.getD i 0
 |[],[],_,h=>by cases h
 |x::a,y::b,hl,h=>by
  rw[HT.JB] at h
  by_cases e:x=y
  ·rw[if_pos e] at h
   obtain⟨i,h1,h2,h3⟩:=Zog (by simpa using hl) h
   refine⟨i+1,by simp;omega,fun j hj=>?_,by simpa using h3⟩
   cases j with
   |zero=>simpa using e
   |succ j=>simpa using h2 j (by omega)
  ·rw[if_neg e] at h
   exact⟨0,by simp,fun j hj=>by omega,by simpa using h⟩
end L2
namespace My
open L2
theorem Zjd (a:List Int) (t:Nat):Uv a (-(t:Int))=WP a t:=by
 refine Zok (by rw[V7,ZI]) fun i hi=>?_
 rw[V7] at hi
 have:=Zei (ns:=a) (k:=-(t:Int)) (y:=(i:Int)) (by omega) (by omega)
 rw[Ztr] at this
 rw[this,JH hi,show ((i:Int) - -(t:Int))=((i+t:Nat):Int) by omega,<- Zu1,Ztr]
theorem ZcJ {a:List Int} (h:0<a.length):1<=Ut a/\Ut a<=a.length/\WP a (Ut a)=a/\∀j:Nat,1<=j->j<Ut a->WP a j≠a:=by
 obtain⟨o1,o2,o3⟩:=Zhl h
 have inv:∀j:Nat,WP a j=a ↔ Uv a j=a:=fun j=>by
  rw[<- Zjd]
  constructor
  ·intro e
   have:=congrArg (fun x=>Uv x (j:Int)) e
   simp only[ZgR] at this
   rw[show -(j:Int)+j=0 by omega,Zc9] at this
   exact this.symm
  ·intro e
   have:=congrArg (fun x=>Uv x (-(j:Int))) e
   simp only[ZgR] at this
   rw[show (j:Int) + -(j:Int)=0 by omega,Zc9] at this
   exact this.symm
 refine⟨by unfold Ut;omega,o2,(inv _).mpr o1,fun j h1 h2 e=>?_⟩
 have:=o3 (j-1) (by omega)
 apply this
 rw[show ((j-1:Nat):Int)+1=(j:Int) by omega]
 exact(inv j).mp e
theorem Zs6:∀{x y:List Int},HT.Ye x y=true->∃i,i<y.length/\(∀j,j<i->x.getD j 0=y.getD j 0)/\(x.getD i 0<y.getD i 0\/x.length<=i)
 |[],[],h=>by simp[HT.Ye] at h
 |[],b::y,h=>⟨0,by simp,by simp,.inr (by simp)⟩
 |a::x,[],h=>by simp[HT.Ye] at h
 |a::x,b::y,h=>by
  rw[HT.JB] at h
  by_cases e:a=b
  ·rw[if_pos e] at h
   obtain⟨i,h1,h2,h3⟩:=Zs6 h
   refine⟨i+1,by simp;exact h1,fun j hj=>?_, ?_⟩
   ·cases j with
    |zero=>simpa using e
    |succ j=>simpa using h2 j (by omega)
   ·rcases h3 with z|z
    ·exact .inl (by simpa using z)
    ·exact .inr (by simpa using z)
  ·rw[if_neg e] at h
   exact⟨0,by simp,by simp,.inl (by simpa using h)⟩
theorem Zj3:∀{x y:List Int}{i:Nat},i<x.length->i<y.length->(∀j,j<i->x.getD j 0=y.getD j 0)->x.getD i 0<y.getD i 0->HT.Ye x y=true
 |[],_,_,h,_,_,_=>by simp at h
 |_::_,[],_,_,h,_,_=>by simp at h
 |a::x,b::y,0,_,_,_,h=>by
  rw[HT.JB]
  have h:a<b:=by simpa using h
  rw[if_neg (by omega),decide_eq_true h]
 |a::x,b::y,i+1,h1,h2,h3,h=>by
  rw[HT.JB,if_pos (by simpa using h3 0 (by omega))]
  exact Zj3 (i:=i) (by simpa using h1) (by simpa using h2) (fun j hj=>by simpa using h3 (j+1) (by omega)) (by simpa using h)
noncomputable def ZkX (a:List Int):List (List Int×Int):=(List.range a.length).map fun(k:Nat)=>(WP a k,(k:Int))
theorem Zhm:∀(l:List (List Int×Int)),l≠[]->∃t,Zf2 l t
 |[],h=>absurd rfl h
 |a::l,_=>by
  by_cases hl:l=[]
  ·subst hl
   exact⟨a,by simp,fun u hu=>by simp at hu;rw[hu];exact HL.Ux a⟩
  ·obtain⟨t,t1,t2⟩:=Zhm l hl
   cases hc:HL.WE t a with
   |true =>
    refine⟨t,by simp[t1],fun u hu=>?_⟩
    rcases Ztt.mp hu with rfl|hu
    ·cases hd:HL.WE u t with
     |false=>rfl
     |true=>have:=HL.ZaP hd hc;rw[HL.Ux] at this;cases this
    ·exact t2 u hu
   |false =>
    refine⟨a,by simp,fun u hu=>?_⟩
    rcases Ztt.mp hu with rfl|hu
    ·exact HL.Ux u
    ·cases hd:HL.WE u a with
     |false=>rfl
     |true =>
      have h1:=t2 u hu
      by_cases he:t=a
      ·rw[<- he] at hd;rw[h1] at hd;cases hd
      ·have h2:HL.WE a t=true:=by
        cases h3:HL.WE a t with
        |true=>rfl
        |false=>exact absurd (Zd5 hc h3) he
       have:=HL.ZaP hd h2
       rw[h1] at this;cases this
theorem Zje {a:List Int} (h:0<a.length):ZkX a≠[]:=fun z=>by
 have:=congrArg List.length z
 simp[ZkX] at this
 rw[this] at h;simp at h
noncomputable def ZpQ (a:List Int):List Int×Int:=if h:0<a.length then (Zhm _ (Zje h)).choose else ([],0)
theorem Zmc {a:List Int} (h:0<a.length):Zf2 (ZkX a) (ZpQ a):=by unfold ZpQ;rw[dif_pos h];exact(Zhm _ (Zje h)).choose_spec
theorem ZeE {a:List Int} (h:0<a.length):∃m:Nat,m<Ut a/\ZpQ a=(WP a m,(m:Int))/\(∀j:Nat,HT.Ye (WP a j) (WP a m)=false)/\∀j:Nat,j<m->WP a j≠WP a m:=by
 obtain⟨h1,h2⟩:=Zmc h
 obtain⟨m,hm,e⟩:=ZtA.mp h1
 have hm:=Ztu.mp hm
 rw[<- e] at h2
 have per:∀j:Nat,WP a (j%a.length)=WP a j:=fun j=>by
  have key:∀q:Nat,WP a (j%a.length+a.length*q)=WP a (j%a.length):=fun q=>by
   induction q with
   |zero=>rfl
   |succ q ih=>rw[Nat.mul_succ,<- Zvq,Zvm _ a.length,<- Zbq,ZkY,ih]
  have:=key (j/a.length)
  rw[Nat.mod_add_div] at this
  exact this.symm
 have lt:∀j:Nat,j<a.length->HL.WE (WP a j,(j:Int)) (WP a m,(m:Int))=false:=fun j hj=>h2 _ (ZtA.mpr ⟨j,Ztu.mpr hj,rfl⟩)
 have lex:∀j:Nat,HT.Ye (WP a j) (WP a m)=false:=fun j=>by
  rw[<- per j]
  have:=lt (j%a.length) (ZuH _ h)
  unfold HL.WE at this
  simp only at this
  split at this
  ·rename_i q
   rw[q];exact HL.JA _
  ·exact this
 have no:∀j:Nat,j<m->WP a j≠WP a m:=fun j hj q=>by
  have:=lt j (by omega)
  unfold HL.WE at this
  simp only at this
  rw[if_pos q,decide_eq_false_iff_not] at this
  omega
 obtain⟨o1,o2,o3,o4⟩:=ZcJ h
 refine⟨m, ?_,e.symm,lex,no⟩
 by_cases c:m<Ut a
 ·exact c
 ·exfalso
  refine no (m-Ut a) (by omega) ?_
  have:WP a m=WP (WP a (Ut a)) (m-Ut a):=by rw[Zbq];congr 1;omega
  rw[this,o3]
end My
namespace L2
theorem gL {a b:List Int}{i:Nat} (h:i<a.length):(a++b).getD i 0=a.getD i 0:=by
 rw[Zte,Ztl h,<- Zte]
theorem gR {a:List Int}{x:Int}:(a++[x]).getD a.length 0=x:=by
 rw[Zte,Ztm (Ztj _),ZuQ];rfl
structure Ly (m:List Int) (p:Nat):Prop where
 p1:1<=p
 p2:p<=m.length
 per:∀i,i+p<m.length->m.getD (i+p) 0=m.getD i 0
 ly:∀k,1<=k->k<p->∃j,k+j<p/\(∀i,i<j->m.getD (k+i) 0=m.getD i 0)/\m.getD j 0<m.getD (k+j) 0
theorem ZpH {P o:Int}{i:Nat}{q:List Int×Int} (h:ZnM P o i q):agF q=q.1.getD (q.1.length-q.2.toNat) 0:=by
 unfold agF
 have:=h.len
 have:=h.p1
 have:=h.p2
 rw[show ((q.1.length:Int)-q.2).toNat=q.1.length-q.2.toNat by omega]
theorem Zpg {a b x y:List Int} (hl:a.length=b.length) (h:HT.Ye a b=true):HT.Ye (a++x) (b++y)=true:=by
 obtain⟨i,i1,i2,i3⟩:=Zog hl h
 refine My.Zj3 (i:=i) (by simp;omega) (by simp;omega) (fun j hj=>?_) ?_
 ·rw[gL (by omega),gL (by omega),i2 j hj]
 ·rw[gL (by omega),gL (by omega)];exact i3
theorem ZqE (a:List Int):HT.Ye (a++[0]) (a++[1])=true:=
 My.Zj3 (i:=a.length) (by simp) (by simp) (fun j hj=>by rw[gL hj,gL hj]) (by rw[gR,gR];decide)
theorem Zl9 {P o:Int}{q:List Int×Int}:∀r∈mkF P o q,∃x,r.1=q.1++[x]:=fun r hr=>by
 have hm:=(Zuf.mp hr).1
 rcases Ztt.mp hm with e|e
 ·subst e;exact⟨_,rfl⟩
 ·by_cases c:agF q=0
  ·rw[if_pos c] at e
   have e:=ZtI.mp e
   subst e;exact⟨_,rfl⟩
  ·rw[if_neg c] at e;cases e
theorem ZqA (P o:Int):∀i,(lvF P o i).Pairwise fun q r=>HT.Ye q.1 r.1=true
 |0=>by simp[lvF]
 |i+1=>by
  rw[lvF,List.pairwise_flatMap]
  refine⟨fun q hq=>?_, ?_⟩
  ·unfold mkF
   refine List.Pairwise.filter _ ?_
   by_cases c:agF q=0
   ·rw[if_pos c,c]
    refine Zug.mpr ⟨fun r hr=>?_,Zuz _ _⟩
    rw[ZtI.mp hr]
    exact ZqE _
   ·rw[if_neg c];exact Zuz _ _
  ·refine(List.Pairwise.and_mem.mp (ZqA P o i)).imp ?_
   rintro q r ⟨hq,hr,h⟩ x hx y hy
   obtain⟨x',ex⟩:=Zl9 x hx
   obtain⟨y',ey⟩:=Zl9 y hy
   rw[ex,ey]
   have l1:=(Zco P o i q hq).1.len
   have l2:=(Zco P o i r hr).1.len
   exact Zpg (by omega) h
theorem ZnN:∀{L:List (List Int)},L.Pairwise (fun a b=>HT.Ye a b=true)->upF L=true
 |[],_=>rfl
 |[_],_=>rfl
 |a::b::r,h=>by
  have h1:=Zug.mp h
  rw[upF,h1.1 b (by simp),ZnN h1.2];rfl
noncomputable def ZmA (P o:Int):Nat->List Int×Int->Nat
 |0,q=>if P%q.2=0 then 1 else 0
 |j+1,q=>((mkF P o q).map (ZmA P o j)).sum
theorem ZiV {α β:Type} (f:α->List β) (g:β->Nat):∀l:List α,((l.flatMap f).map g).sum=(l.map fun a=>((f a).map g).sum).sum
 |[]=>rfl
 |a::l=>by
  rw[List.flatMap_cons,Zt4,ZtM,ZiV f g l];rfl
theorem Zos (P o:Int):∀j i,((lvF P o (i+j)).filter fun q=>decide (P%q.2=0)).length=((lvF P o i).map (ZmA P o j)).sum
 |0,i=>by
  rw[Zuy]
  induction lvF P o i with
  |nil=>rfl
  |cons q l ih =>
   rw[Ztv,Zt3,<- ih,ZmA,Zus]
   by_cases c:P%q.2=0
   ·rw[decide_eq_true c,if_pos rfl,if_pos c];simp only[ZtC];omega
   ·rw[decide_eq_false c,if_neg (by decide),if_neg c];omega
 |j+1,i=>by
  rw[show i+(j+1)=i+1+j by omega,Zos P o j (i+1),lvF,ZiV];rfl
noncomputable def cdR:List Int->Nat
 |[]=>0
 |x::r=>2*cdR r+x.toNat
noncomputable def okN (P o s n:Nat):Bool:=Nat.ble s o&&Nat.ble (o+n) (P+s)
noncomputable def cN (P o:Nat):Nat->Nat->Nat->Nat->Nat->Nat
 |0,_,_,p,_=>cond (Nat.beq (P%p) 0) 1 0
 |j+1,w,n,p,s=>cond (Nat.beq (w/2^(p-1)%2) 0)
   (cond (okN P o s (n+1)) (cN P o j (2*w) (n+1) p s) 0+cond (okN P o (s+1) (n+1)) (cN P o j (2*w+1) (n+1) (n+1) (s+1)) 0)
   (cond (okN P o (s+1) (n+1)) (cN P o j (2*w+1) (n+1) p (s+1)) 0)
theorem Zmq:∀{r:List Int}{p:Nat},(∀x∈r,x=0\/x=1)->p<r.length->r.getD p 0=((cdR r/2^p%2:Nat):Int)
 |[],p,_,h=>by simp at h
 |x::r,0,hb,_=>by
  rw[List.getD_cons_zero,cdR,Nat.pow_zero,Nat.div_one]
  rcases hb x (by simp) with e|e<;>subst e
  ·rw[show (0:Int).toNat=0 from rfl];omega
  ·rw[show (1:Int).toNat=1 from rfl];omega
 |x::r,p+1,hb,h=>by
  rw[Zvh,Zmq (fun y hy=>hb y (by simp[hy])) (by simpa using h),cdR,Nat.pow_succ,Nat.mul_comm (2^p) 2,<- Nat.div_div_eq_div_mul]
  have:(2*cdR r+x.toNat)/2=cdR r:=by
   rcases hb x (by simp) with e|e<;>subst e
   ·rw[show (0:Int).toNat=0 from rfl];omega
   ·rw[show (1:Int).toNat=1 from rfl];omega
  rw[this]
theorem Zsh {P o:Nat}{m:List Int}{s n:Nat} (hs:m.sum=s) (hn:m.length=n):Zi9 P o m=okN P o s n:=by
 unfold Zi9 okN
 rw[hs,hn,Bool.eq_iff_iff,Bool.and_eq_true,Bool.and_eq_true,decide_eq_true_eq,decide_eq_true_eq,Nat.ble_eq,Nat.ble_eq]
 omega
theorem Zot {P o:Nat}:∀j i (q:List Int×Int) (w n p s:Nat),ZnM P o i q->cdR q.1.reverse=w->q.1.length=n->q.2.toNat=p->q.1.sum=s->ZmA P o j q=cN P o j w n p s
 |0,i,q,w,n,p,s,h,hw,hn,hp,hs=>by
  have h1:=h.p1
  rw[ZmA,cN]
  have e:((P:Int)%q.2=0) ↔ P%p=0:=by
   rw[show q.2=(p:Int) by omega];omega
  by_cases c:P%p=0
  ·rw[if_pos (e.mpr c),(show Nat.beq _ _=true by rw[Nat.beq_eq];exact c)];rfl
  ·rw[if_neg fun z=>c (e.mp z)]
   have:Nat.beq (P%p) 0=false:=by
    cases d:Nat.beq (P%p) 0 with
    |false=>rfl
    |true=>exact absurd (Nat.eq_of_beq_eq_true d) c
   rw[this];rfl
 |j+1,i,q,w,n,p,s,h,hw,hn,hp,hs=>by
  have h1:=h.p1
  have h2:=h.p2
  have hl:=h.len
  have hag:agF q=((w/2^(p-1)%2:Nat):Int):=by
   rw[ZpH h,<- hw,<- Zmq (fun x hx=>h.bin x (ZuV.mp hx)) (by rw[List.length_reverse];omega),Zte,Zte,List.getElem?_reverse (by omega)]
   congr 2
   omega
  have hok:=Zof h
  rw[ZmA,cN]
  have ihs:∀x:Nat,x=0\/x=1->∀t:Int,ZnM P o (i+1) (q.1++[(x:Int)],t)->ZmA P o j (q.1++[(x:Int)],t)=cN P o j (2*w+x) (n+1) t.toNat (s+x):=fun x _ t ht =>
   Zot j (i+1) _ _ _ _ _ ht (by simp only[List.reverse_append,List.reverse_cons,List.reverse_nil,Zuc,Zvs,cdR,hw,Ztr]) (by simp[hn]) rfl (by simp[hs])
  have hok':∀r:List Int×Int,r∈((q.1++[agF q],q.2)::if agF q=0 then [(q.1++[1],(q.1.length:Int)+1)] else [])->Zi9 P o r.1=true->ZnM P o (i+1) r:=fun r hr hc=>(hok r (Zuf.mpr ⟨hr,hc⟩)).1
  unfold mkF
  by_cases c:w/2^(p-1)%2=0
  ·rw[(show Nat.beq _ _=true by rw[Nat.beq_eq];exact c)]
   have c':agF q=0:=by rw[hag,c];rfl
   rw[if_pos c'] at hok' ⊢
   rw[c'] at hok' ⊢
   have e0:=Zsh (P:=P) (o:=o) (m:=q.1++[(0:Int)]) (s:=s) (n:=n+1) (by simp[hs]) (by simp[hn])
   have e1:=Zsh (P:=P) (o:=o) (m:=q.1++[(1:Int)]) (s:=s+1) (n:=n+1) (by simp[hs]) (by simp[hn])
   have f0:Zi9 P o (q.1++[0])=true->ZmA P o j (q.1++[0],q.2)=cN P o j (2*w) (n+1) p s:=fun z=>by
    have:=ihs 0 (.inl rfl) q.2 (hok' (q.1++[0],q.2) (by simp) z)
    rw[hp] at this;exact this
   have f1:Zi9 P o (q.1++[1])=true->ZmA P o j (q.1++[1],(q.1.length:Int)+1)=cN P o j (2*w+1) (n+1) (n+1) (s+1):=fun z=>by
    have:=ihs 1 (.inr rfl) ((q.1.length:Int)+1) (hok' (q.1++[1],(q.1.length:Int)+1) (by simp) z)
    rw[show ((q.1.length:Int)+1).toNat=n+1 by omega] at this;exact this
   simp only[Zus,Zvv,e0,e1,cond_true]
   rw[e0] at f0
   rw[e1] at f1
   cases d0:okN P o s (n+1)<;>cases d1:okN P o (s+1) (n+1)
   ·rfl
   ·simp[f1 d1]
   ·simp[f0 d0]
   ·simp[f0 d0,f1 d1]
  ·have d:Nat.beq (w/2^(p-1)%2) 0=false:=by
    cases d:Nat.beq (w/2^(p-1)%2) 0 with
    |false=>rfl
    |true=>exact absurd (Nat.eq_of_beq_eq_true d) c
   rw[d]
   have c1:w/2^(p-1)%2=1:=by omega
   have c':agF q=1:=by rw[hag,c1];rfl
   have c0:¬agF q=0:=by omega
   rw[if_neg c0] at hok' ⊢
   rw[c'] at hok' ⊢
   have e1:=Zsh (P:=P) (o:=o) (m:=q.1++[(1:Int)]) (s:=s+1) (n:=n+1) (by simp[hs]) (by simp[hn])
   have f1:Zi9 P o (q.1++[1])=true->ZmA P o j (q.1++[1],q.2)=cN P o j (2*w+1) (n+1) p (s+1):=fun z=>by
    have:=ihs 1 (.inr rfl) q.2 (hok' (q.1++[1],q.2) (by simp) z)
    rw[hp] at this;exact this
   simp only[Zus,Zvv,e1,cond_false]
   rw[e1] at f1
   cases d1:okN P o (s+1) (n+1)
   ·rfl
   ·simp[f1 d1]
noncomputable def ckN:Bool:=(List.range 17).all fun P=>(List.range (P+1)).all fun o=>decide (0<cN (P+1) o P 0 1 1 0)&&decide ((cN (P+1) o P 0 1 1 0:Int)=Zqk (P+1) o)
theorem Zsg:ckN=true:=by decide +kernel
structure ZsE (P o:Nat):Prop where
 ne:ltF P o≠[]
 up:upF (ltF P o)=true
 len:((ltF P o).length:Int)=Zqk P o
theorem ZqB {P o:Nat} (h0:1<=P) (h1:P<=17) (h2:o<P):ZsE P o:=by
 have h:=Zt1.mp (Zt1.mp Zsg (P-1) (Ztu.mpr (by omega))) o (Ztu.mpr (by omega))
 rw[Bool.and_eq_true,decide_eq_true_eq,decide_eq_true_eq,show P-1+1=P by omega] at h
 have hc:(ltF P o).length=cN P o (P-1) 0 1 1 0:=by
  unfold ltF
  have:=Zos P o (P-1) 0
  rw[ZtT] at this
  rw[Zto,Ztr,this,lvF,Ztv,ZtK,Zt3,Zuj,Zuy]
  exact Zot (P-1) 0 _ _ _ _ _ (Zco (P:Int) (o:Int) 0 ([0],1) (by simp[lvF])).1 rfl rfl rfl rfl
 refine⟨fun z=>?_, ?_,by rw[hc];exact h.2⟩
 ·rw[z] at hc
  have h3:=h.1
  rw[<- hc] at h3
  exact absurd h3 (by decide)
 ·apply ZnN
  unfold ltF
  rw[ZuP]
  exact(ZqA P o _).filter _
theorem ZrV {P o:Nat} (h:ZsE P o) {i:Nat} (hi:i<P):lvF P o i≠[]:=fun z=>by
 have:=Zj2 z (P-1-i)
 rw[show i+(P-1-i)=P-1 by omega] at this
 apply h.ne
 unfold ltF
 rw[Ztr,this];rfl
theorem ZqC {P o:Nat} (h0:1<=P) (h2:o<P) {m:List Int} (hm:m∈ltF P o):m.length=P/\(∀x∈m,x=0\/x=1)/\m.sum=o:=by
 unfold ltF at hm
 obtain⟨q,hq,rfl⟩:=ZtA.mp hm
 have hq:=(Zuf.mp hq).1
 obtain⟨k1,k2⟩:=Zco (P:Int) (o:Int) _ q hq
 have hl:=k1.len
 rw[Ztr] at hl k2
 refine⟨by omega,k1.bin, ?_⟩
 by_cases c:P=1
 ·subst c
  have:o=0:=by omega
  subst this
  have hq':q=([0],1):=by simpa[lvF] using hq
  rw[hq'];rfl
 ·have:=k2 (by omega)
  unfold Zi9 at this
  simp only[Bool.and_eq_true,decide_eq_true_eq] at this
  omega
theorem ZnX {m:List Int}{k:Nat} (h:k<m.length):ZoF m k=WP m k:=by
 refine Zok (by simp[ZoF,ZI];omega) fun i hi=>?_
 have hi:i<m.length:=by simp[ZoF] at hi;omega
 rw[JH hi]
 unfold ZoF
 rw[Zte,Zte]
 by_cases c:i<m.length-k
 ·rw[Ztl (by simp;omega),ZtL,ZtV (by omega),Zvm]
 ·rw[Ztm (by simp;omega),ZtR,Zuw (by omega)]
  congr 2
  rw[show i+k=(i-(m.length-k))+m.length by omega,Zvo,ZtV (by omega)]
noncomputable def ZsV:Bool:=(List.range 46).all fun(s:Nat)=>decide (ltF (kN s+1:Nat) (adS s)=(ZmB s).filter fun m=>Zd6 m (kN s+1))
theorem Zrb:ZsV=true:=by decide +kernel
theorem ZrW {s:Int} (h0:0<=s) (h1:s<46):ltF (kN s+1:Nat) (adS s)=(ZmB s).filter fun m=>Zd6 m (kN s+1):=by
 have h:=Zt1.mp Zrb s.toNat (Ztu.mpr (by omega))
 rw[ZtE h0] at h
 exact of_decide_eq_true h
end L2
namespace My
open L2
theorem Znq {c b:List Int} (hl:c.length=b.length) (hb:Bin b) (h:HT.Ye c b=false):HT.Ye (Yl c) (Yl b)=false:=by
 cases e:HT.Ye (Yl c) (Yl b) with
 |false=>rfl
 |true =>
  obtain⟨i,h1,h2,h3⟩:=Zs6 e
  have hle:=ZbE b
  have key:HT.Ye c b=true:=by
   refine Zj3 (i:=i) (by omega) (by omega) (fun j hj=>?_) ?_
   ·have:=h2 j hj
    rw[YM (by omega),YM (by omega)] at this
    omega
   ·have hb0:0<(Yl b).getD i 0\/(Yl c).getD i 0<(Yl b).getD i 0:=by
     rcases h3 with z|z
     ·exact .inr z
     ·left
      by_cases q:i+1=(Yl b).length
      ·have hne:Yl b≠[]:=fun w=>by rw[w] at h1;simp at h1
       have h5:=(QL b).resolve_left hne
       rw[<- q,Zua] at h5
       have:=Jp (Zjc hb) i
       omega
      ·rw[YM (by omega)]
       have:=hb.get i
       omega
    have hlt:(Yl c).getD i 0<(Yl b).getD i 0:=by
     rcases hb0 with z|z
     ·rcases h3 with w|w
      ·exact w
      ·rw[Yt w];exact z
     ·exact z
    rw[YM (by omega),YM (by omega)] at hlt
    omega
  rw[h] at key;cases key
noncomputable def stA (l:List Int) (x:Int):Int:=l.getD x.toNat 0
noncomputable def itA (l:List Int) (x:Int):Nat->Int
 |0=>x
 |j+1=>stA l (itA l x j)
noncomputable def bkA (l:List Int) (x:Int):Nat:=((List.range l.length).find? fun t=>decide (itA l x (t+1)=x)).getD 0
noncomputable def lnA (l:List Int) (x:Int):List Int:=(List.range (bkA l x+1)).map (itA l x)
structure Cyc (l:List Int) (x:Int):Prop where
 i0:0<=x
 i1:x<l.length
 al:∀y∈l,0<=y/\y<l.length
 ba:∃t,t<l.length/\itA l x (t+1)=x
theorem Cyc.bd {l:List Int}{x:Int} (h:Cyc l x):∀j,0<=itA l x j/\itA l x j<l.length
 |0=>⟨h.i0,h.i1⟩
 |j+1=>by
  obtain⟨a,b⟩:=h.bd j
  rw[itA,stA,Zte,Ztf (show (itA l x j).toNat<l.length by omega)]
  exact h.al _ (ZuC _)
theorem Cyc.bk {l:List Int}{x:Int} (h:Cyc l x):bkA l x<l.length/\itA l x (bkA l x+1)=x/\∀j,j<bkA l x->itA l x (j+1)≠x:=by
 obtain⟨t,t1,t2⟩:=h.ba
 unfold bkA
 cases hf:(List.range l.length).find? fun t=>decide (itA l x (t+1)=x) with
 |none =>
  have:=Zvn.mp hf t (Ztu.mpr t1)
  exact absurd (decide_eq_true t2) this
 |some q =>
  obtain⟨q1,q2,q3⟩:=ZuI.mp hf
  refine⟨Ztu.mp q2,of_decide_eq_true q1,fun j hj e=>?_⟩
  have:=q3 j hj
  simp[e] at this
noncomputable def unS (s:Int) (i:Int):List Int:=unN (kN s+1) (adS s) i
noncomputable def nS (s:Int):Nat:=(chI (kN s+1:Nat) (adS s)).toNat
noncomputable def tnS (s:Int):List Int:=(List.range (nS s)).map fun(i:Nat)=>rkN (WP (unS s i) 1)
noncomputable def rwS (s:Int):List (List Int):=(List.range (nS s)).map fun(i:Nat)=>Yl (unS s i)
noncomputable def mS:Bool:=(List.range 37).all fun(s:Nat)=>decide (Zen (tnS s)=(List.range (nS s)).map fun(i:Nat)=>(i:Int))&&decide (nS s<=70)&&decide (1<=nS s)&&decide (ZmB s=(List.range (nS s)).map fun(i:Nat)=>unS s i)&&decide (((nS s:Nat):Int)=chI (kN s+1:Nat) (adS s))&&decide (kN s<=8)
theorem ZsS:mS=true:=by decide +kernel
structure Few (s:Int):Prop where
 srt:Zen (tnS s)=(List.range (nS s)).map fun(i:Nat)=>(i:Int)
 le:nS s<=70
 ge:1<=nS s
 wy:ZmB s=(List.range (nS s)).map fun(i:Nat)=>unS s i
 eq:((nS s:Nat):Int)=chI (kN s+1:Nat) (adS s)
 k8:kN s<=8
theorem few {s:Int} (h0:0<=s) (h1:s<37):Few s:=by
 have h:=Zt1.mp ZsS s.toNat (Ztu.mpr (by omega))
 rw[ZtE h0] at h
 simp only[Bool.and_eq_true,decide_eq_true_eq] at h
 exact⟨h.1.1.1.1.1,h.1.1.1.1.2,h.1.1.1.2,h.1.1.2,h.1.2,h.2⟩
theorem ZbY {a:List Int} (h:Bin a):adL (Yl a)=a:=by
 have h1:=h.2.1
 have hk:=Zge h
 refine Zok (by rw[Zfa,hk];omega) fun i hi=>?_
 rw[Zfa,hk] at hi
 rw[Zm3 (by omega),hk]
 unfold adI
 rw[YM (by omega)]
 omega
theorem Zee {a:List Int} (h:Bin a) (hs:(Yl a).sum<=2000):Zm6 (Yl a):=by
 have h1:=h.2.1
 have hk:=Zge h
 have hl:=ZbE a
 refine⟨⟨Zjc h,hs⟩,⟨by rw[hk];omega, ?_⟩,QL a⟩
 rw[ZbY h];exact h.1
theorem VS {a:List Int} (h:Pat a):Bin a:=⟨h.1,h.2.1,by have:=h.2.2.1;omega,h.2.2.2⟩
theorem ZmQ {a:List Int} (h:Pat a) (hs:(Yl a).sum<=100):ZC (Yl a):=by
 have h1:=h.2.1
 have h2:=h.2.2.1
 have hl:=ZbE a
 have e:=QL a
 refine⟨ZkW h,by omega,hs, ?_⟩
 rcases e with z|z
 ·exact .inl z
 ·by_cases c:Yl a=[]
  ·exact .inl c
  ·refine .inr ⟨?_,z⟩
   have hp:0<(Yl a).length:=Zue.mpr c
   rw[YM (by omega)]
   have g:=h.get 0
   by_cases c2:a.length=1
   ·have:(Yl a).length=1:=by omega
    rw[this] at z
    rw[YM (by omega)] at z
    exact z
   ·omega
structure One (s:Int) (a:List Int):Prop where
 pt:Pat a
 ln:a.length=kN s+1
 sm:(Yl a).sum=s
theorem One.line {s:Int}{a:List Int} (h:One s a) (h1:s<=100):ZC (Yl a):=ZmQ h.pt (by rw[h.sm];exact h1)
theorem One.rot {s:Int}{a:List Int} (h:One s a) (h1:s<=100) (t:Nat):One s (WP a t):=
 ⟨h.pt.rot t,by rw[ZI];exact h.ln,by rw[<- Zir h.pt t,ZlH (h.line h1)];exact h.sm⟩
theorem One.of {s:Int} (h0:0<=s) (h1:s<=100) {i:Int} (i0:0<=i) (i1:i<chI (kN s+1:Nat) (adS s)):One s (unS s i)/\rkN (unS s i)=i:=by
 obtain⟨b1,b2,b3,b4⟩:=Zrn h0 (show s<=2000 by omega) i0 i1
 have hk:=(Uc h0).1
 have hk14:kN s<=14:=by
  by_cases c:kN s<=14
  ·exact c
  ·have:=QF (show 15<=kN s by omega)
   have e:tri 15=120:=by decide
   omega
 refine⟨⟨⟨b1.1,b1.2.1, ?_,b1.2.2.2⟩,b4,b2⟩,b3⟩
 have:(unS s i).length=kN s+1:=b4
 omega
theorem One.rk {s:Int}{a:List Int} (h:One s a):0<=rkN a/\rkN a<chI (kN s+1:Nat) (adS s)/\unS s (rkN a)=a:=by
 obtain⟨c1,c2,c3⟩:=Zmx (VS h.pt)
 rw[h.sm] at c1 c3
 exact⟨c2,c1,c3⟩
theorem One.inj {s:Int}{a b:List Int} (h:One s a) (h':One s b) (e:rkN a=rkN b):a=b:=by
 rw[<- h.rk.2.2,<- h'.rk.2.2,e]
theorem ZbD (s:Int):(tnS s).length=nS s:=by simp[tnS]
theorem ZoD (s:Int):(rwS s).length=nS s:=by simp[rwS]
theorem Zo8 {s:Int}{i:Int} (h:0<=i) (h':i<nS s):(tnS s).getD i.toNat 0=rkN (WP (unS s i) 1):=by
 unfold tnS
 rw[Zte,Ztz,Zt9 (by omega)]
 simp only[ZuL,Zur]
 rw[ZtE h]
theorem ZkT {s:Int}{i:Int} (h:0<=i) (h':i<nS s):(rwS s).getD i.toNat []=Yl (unS s i):=by
 unfold rwS
 rw[Zte,Ztz,Zt9 (by omega)]
 simp only[ZuL,Zur]
 rw[ZtE h]
section
variable {s:Int} (h0:0<=s) (h1:s<37) {i:Int} (i0:0<=i) (i1:i<nS s)
include h0 h1 i0 i1
theorem Zcl:One s (unS s i)/\rkN (unS s i)=i:=One.of h0 (by omega) i0 (by rw[<- (few h0 h1).eq];exact i1)
theorem ZkK:∀j:Nat,itA (tnS s) i j=rkN (WP (unS s i) j)
 |0=>by rw[itA,ZaN,(Zcl h0 h1 i0 i1).2]
 |j+1=>by
  have O:=((Zcl h0 h1 i0 i1).1.rot (by omega) j)
  obtain⟨r1,r2,r3⟩:=O.rk
  rw[itA,ZkK j,stA,Zo8 r1 (by rw[(few h0 h1).eq];exact r2),r3,Zbq]
theorem ZnP:Cyc (tnS s) i:=by
 have F:=few h0 h1
 have O:=(Zcl h0 h1 i0 i1)
 have hl:=O.1.pt.2.1
 obtain⟨o1,o2,o3,o4⟩:=ZcJ (a:=unS s i) (by omega)
 refine⟨i0,by rw[ZbD];exact i1,fun y hy=>?_, ?_⟩
 ·obtain⟨k,hk,rfl⟩:=ZtA.mp hy
  have hk:=Ztu.mp hk
  have O:=(Zcl h0 h1 (i:=(k:Int)) (by omega) (by omega)).1.rot (by omega) 1
  obtain⟨r1,r2,r3⟩:=O.rk
  exact⟨r1,by rw[ZbD,F.eq];exact r2⟩
 ·-- the own turns are different numbers below nS s
  refine⟨Ut (unS s i)-1, ?_, ?_⟩
  ·have nd:((List.range (Ut (unS s i))).map fun(j:Nat)=>(rkN (WP (unS s i) j)).toNat).Nodup:=by
    rw[List.nodup_iff_pairwise_ne,ZuP]
    refine(List.pairwise_lt_range (n:=Ut (unS s i))).imp_of_mem ?_
    intro p q hp hq hpq e
    have hp:=Ztu.mp hp
    have hq:=Ztu.mp hq
    have Op:=O.1.rot (by omega) p
    have Oq:=O.1.rot (by omega) q
    have e':=Op.inj Oq (by have:=Op.rk.1;have:=Oq.rk.1;omega)
    have e2:=congrArg (fun z=>WP z (Ut (unS s i)-p)) e'
    simp only[Zbq] at e2
    rw[show p+(Ut (unS s i)-p)=Ut (unS s i) by omega,o3,show q+(Ut (unS s i)-p)=Ut (unS s i)+(q-p) by omega,<- Zbq,o3] at e2
    exact o4 (q-p) (by omega) (by omega) e2.symm
   have hle:((List.range (Ut (unS s i))).map fun(j:Nat)=>(rkN (WP (unS s i) j)).toNat).length<=nS s:=by
    have key:∀(n:Nat) (l:List Nat),l.Nodup->(∀x∈l,x<n)->l.length<=n:=by
     intro n
     induction n with
     |zero=>intro l _ h;cases l with
      |nil=>exact Ztj _
      |cons x l=>exact absurd (h x (by simp)) (by omega)
     |succ n ih =>
      intro l hd h
      have e:=ih (l.erase n) (hd.erase n) (fun x hx=>by
       have:=h x (List.mem_of_mem_erase hx)
       have:x≠n:=fun z=>by subst z;exact(List.Nodup.mem_erase_iff hd).mp hx |>.1 rfl
       omega)
      by_cases c:n∈l
      ·rw[List.length_erase_of_mem c] at e;omega
      ·rw[List.erase_of_not_mem c] at e;omega
    refine key _ _ nd fun x hx=>?_
    obtain⟨j,_,rfl⟩:=ZtA.mp hx
    have Oj:=O.1.rot (by omega) j
    have:=Oj.rk.2.1
    rw[<- F.eq] at this
    have:=Oj.rk.1
    omega
   rw[Zto,Zu7] at hle
   rw[ZbD];omega
  ·rw[show Ut (unS s i)-1+1=Ut (unS s i) by omega,ZkK h0 h1 i0 i1,o3,O.2]
theorem ZrH:bkA (tnS s) i+1=Ut (unS s i):=by
 have O:=(Zcl h0 h1 i0 i1)
 have hl:=O.1.pt.2.1
 obtain⟨o1,o2,o3,o4⟩:=ZcJ (a:=unS s i) (by omega)
 obtain⟨b1,b2,b3⟩:=(ZnP h0 h1 i0 i1).bk
 generalize bkA (tnS s) i=b at b1 b2 b3
 rw[ZkK h0 h1 i0 i1] at b2
 by_cases c:b+1<Ut (unS s i)
 ·exfalso
  exact o4 (b+1) (by omega) c ((O.1.rot (by omega) _).inj O.1 (by rw[b2,O.2]))
 ·by_cases c2:Ut (unS s i)<b+1
  ·exfalso
   refine b3 (Ut (unS s i)-1) (by omega) ?_
   rw[ZkK h0 h1 i0 i1,show Ut (unS s i)-1+1=Ut (unS s i) by omega,o3,O.2]
  ·omega
theorem ZrG:lnA (tnS s) i=(List.range (Ut (unS s i))).map fun(j:Nat)=>rkN (WP (unS s i) j):=by
 unfold lnA
 rw[ZrH h0 h1 i0 i1]
 exact Zuq fun j _=>ZkK h0 h1 i0 i1 j
theorem ZrI (j:Nat):(rwS s).getD (rkN (WP (unS s i) j)).toNat []=Yl (WP (unS s i) j):=by
 have O:=(Zcl h0 h1 i0 i1).1.rot (by omega) j
 obtain⟨r1,r2,r3⟩:=O.rk
 rw[ZkT r1 (by rw[(few h0 h1).eq];exact r2),r3]
theorem ZmI:∃m:Nat,m<Ut (unS s i)/\ZpQ (unS s i)=(WP (unS s i) m,(m:Int))/\ZbC ((List.range (Ut (unS s i))).map fun(j:Nat)=>Yl (WP (unS s i) j)) (Yl (WP (unS s i) m))/\decide (Yl (WP (unS s i) m)=Yl (unS s i))=Zd6 (unS s i) (kN s+1):=by
 have O:=(Zcl h0 h1 i0 i1)
 have hl:=O.1.pt.2.1
 obtain⟨m,m1,m2,m3,m4⟩:=ZeE (a:=unS s i) (by omega)
 have Om:=O.1.rot (by omega) m
 refine⟨m,m1,m2,⟨ZtA.mpr ⟨m,Ztu.mpr m1,rfl⟩,fun u hu=>?_⟩, ?_⟩
 ·obtain⟨j,hj,rfl⟩:=ZtA.mp hu
  exact Znq (by rw[ZI,ZI]) (VS Om.pt) (m3 j)
 ·unfold Zd6
  have hln:=O.1.ln
  by_cases c:∀k,k<kN s+1->HT.Ye (WP (unS s i) k) (unS s i)=false
  ·rw[show (List.range (kN s+1)).all (fun k=>!(HT.Ye (ZoF (unS s i) k) (unS s i)))=true from Zt1.mpr fun k hk=>by
    have hk:=Ztu.mp hk
    rw[ZnX (by omega),c k hk];rfl]
   have e:WP (unS s i) m=unS s i:=HL.QS (by
    have:=m3 0
    rw[ZaN] at this
    exact c m (by have:=ZcJ (a:=unS s i) (by omega);omega)) (by have:=m3 0;rw[ZaN] at this;exact this)
   rw[e];exact decide_eq_true rfl
  ·rw[show (List.range (kN s+1)).all (fun k=>!(HT.Ye (ZoF (unS s i) k) (unS s i)))=false by
    rw[<- Bool.not_eq_true]
    intro z
    apply c
    intro k hk
    have:=Zt1.mp z k (Ztu.mpr hk)
    rw[ZnX (by omega)] at this
    simpa using this]
   refine decide_eq_false fun z=>c fun k hk=>?_
   have e:=ZmL (by rw[ZI]) z
   have:=m3 k
   rw[e] at this
   exact this
end
theorem Zpe {s:Int} (h0:0<=s) (h1:s<37):ltF (kN s+1:Nat) (adS s)=((List.range (nS s)).map fun(i:Nat)=>unS s i).filter fun m=>Zd6 m (kN s+1):=by
 rw[ZrW h0 (by omega),(few h0 h1).wy]
end My
namespace My
open PySem L2
seal PE PT PA PS PSs DE DT DAA DAF DS
noncomputable def top (i:Nat):Stmt:=PySem.Challenge.pw_sowring_k45_whole_rows_march_in_rounds.main.body.getD i (.Pass ⟨0,0,0,0⟩)
noncomputable abbrev YF:Stmt:=top 53
theorem YJ:Zx ["script", "many", "found", "step", "k"] ["script", "many"] (Zh YF):=⟨rfl,rfl,rfl,by decide +kernel,rfl,by decide +kernel,by decide +kernel⟩
theorem ZeX:Zq "_law_numbers" YF ["script", "many"]:=fun _ _ _ _ _ _ us hl=>by obtain⟨_,_,rfl⟩:=us2 hl;rfl
noncomputable abbrev ZS:Stmt:=top 55
theorem UX:Zx ["number", "after", "line"] ["number", "after"] (Zh ZS):=⟨rfl,rfl,rfl,by decide +kernel,rfl,by decide +kernel,by decide +kernel⟩
theorem Zc3:Zq "_law_round_from" ZS ["number", "after"]:=fun _ _ _ _ _ _ us hl=>by obtain⟨_,_,rfl⟩:=us2 hl;rfl
noncomputable abbrev Yw:Stmt:=top 30
theorem VQ:Zx ["seeds", "k"] ["seeds"] (Zh Yw):=⟨rfl,rfl,rfl,by decide +kernel,rfl,by decide +kernel,by decide +kernel⟩
theorem Uj:Zq "greatest_step" Yw ["seeds"]:=fun _ _ _ _ _ _ us hl=>by obtain⟨_,rfl⟩:=us1 hl;rfl
noncomputable abbrev Wa:Stmt:=top 29
theorem WG:Zx ["line", "k", "pits", "added"] ["line"] (Zh Wa):=⟨rfl,rfl,rfl,by decide +kernel,rfl,by decide +kernel,by decide +kernel⟩
theorem V6:Zq "added_seeds" Wa ["line"]:=fun _ _ _ _ _ _ us hl=>by obtain⟨_,rfl⟩:=us1 hl;rfl
noncomputable abbrev J4:Stmt:=top 10
theorem Zig:Zx ["value"] ["value"] (Zh J4):=⟨rfl,rfl,rfl,by decide +kernel,rfl,by decide +kernel,by decide +kernel⟩
theorem ZiD:Zq "is_whole" J4 ["value"]:=fun _ _ _ _ _ _ us hl=>by obtain⟨_,rfl⟩:=us1 hl;rfl
noncomputable abbrev Yv:Stmt:=top 11
theorem ZdH:Zx ["value", "least"] ["value", "least"] (Zh Yv):=⟨rfl,rfl,rfl,by decide +kernel,rfl,by decide +kernel,by decide +kernel⟩
theorem ZaE:Zq "is_whole_from" Yv ["value", "least"]:=fun _ _ _ _ _ _ us hl=>by obtain⟨_,_,rfl⟩:=us2 hl;rfl
noncomputable abbrev Z7:Stmt:=top 12
theorem JY:Zx ["values"] ["values"] (Zh Z7):=⟨rfl,rfl,rfl,by decide +kernel,rfl,by decide +kernel,by decide +kernel⟩
theorem Vg:Zq "is_list_from_nought" Z7 ["values"]:=fun _ _ _ _ _ _ us hl=>by obtain⟨_,rfl⟩:=us1 hl;rfl
noncomputable abbrev Z2:Stmt:=top 27
theorem W4:Zx ["numbers", "count"] ["numbers"] (Zh Z2):=⟨rfl,rfl,rfl,by decide +kernel,rfl,by decide +kernel,by decide +kernel⟩
theorem JV:Zq "without_last_noughts" Z2 ["numbers"]:=fun _ _ _ _ _ _ us hl=>by obtain⟨_,rfl⟩:=us1 hl;rfl
noncomputable abbrev J1:Stmt:=top 31
theorem QH:Zx ["added", "k"] ["added"] (Zh J1):=⟨rfl,rfl,rfl,by decide +kernel,rfl,by decide +kernel,by decide +kernel⟩
theorem UP:Zq "row_with" J1 ["added"]:=fun _ _ _ _ _ _ us hl=>by obtain⟨_,rfl⟩:=us1 hl;rfl
noncomputable abbrev YE:Stmt:=top 45
theorem ZaL:Zx ["row", "added"] ["row"] (Zh YE):=⟨rfl,rfl,rfl,by decide +kernel,rfl,by decide +kernel,by decide +kernel⟩
theorem UQ:Zq "added_in_row" YE ["row"]:=fun _ _ _ _ _ _ us hl=>by obtain⟨_,rfl⟩:=us1 hl;rfl
noncomputable abbrev V9:Stmt:=top 18
theorem ZcH:Zx ["board", "k", "pits"] ["board", "k"] (Zh V9):=⟨rfl,rfl,rfl,by decide +kernel,rfl,by decide +kernel,by decide +kernel⟩
theorem Zdq:Zq "turn_by" V9 ["board", "k"]:=fun _ _ _ _ _ _ us hl=>by obtain⟨_,_,rfl⟩:=us2 hl;rfl
noncomputable abbrev Yj:Stmt:=top 46
theorem Ji:Zx ["row", "added", "first"] ["row"] (Zh Yj):=⟨rfl,rfl,rfl,by decide +kernel,rfl,by decide +kernel,by decide +kernel⟩
theorem QC:Zq "first_of_round" Yj ["row"]:=fun _ _ _ _ _ _ us hl=>by obtain⟨_,rfl⟩:=us1 hl;rfl
noncomputable abbrev Ww:Stmt:=top 13
theorem Zgc:Zx ["line"] ["line"] (Zh Ww):=⟨rfl,rfl,rfl,by decide +kernel,rfl,by decide +kernel,by decide +kernel⟩
theorem JW:Zq "check_line" Ww ["line"]:=fun _ _ _ _ _ _ us hl=>by obtain⟨_,rfl⟩:=us1 hl;rfl
noncomputable abbrev YY:Stmt:=top 28
theorem Zfi:Zx ["line"] ["line"] (Zh YY):=⟨rfl,rfl,rfl,by decide +kernel,rfl,by decide +kernel,by decide +kernel⟩
theorem Zf1:Zq "is_marching" YY ["line"]:=fun _ _ _ _ _ _ us hl=>by obtain⟨_,rfl⟩:=us1 hl;rfl
noncomputable abbrev VB:Stmt:=top 40
theorem Zbp:Zx ["places", "chosen", "count", "k"] ["places", "chosen"] (Zh VB):=⟨rfl,rfl,rfl,by decide +kernel,rfl,by decide +kernel,by decide +kernel⟩
theorem Zb2:Zq "choices" VB ["places", "chosen"]:=fun _ _ _ _ _ _ us hl=>by obtain⟨_,_,rfl⟩:=us2 hl;rfl
noncomputable abbrev Yu:Stmt:=top 44
theorem Yf:Zx ["row", "added", "left", "number", "place", "more"] ["row"] (Zh Yu):=⟨rfl,rfl,rfl,by decide +kernel,rfl,by decide +kernel,by decide +kernel⟩
theorem ZdP:Zq "number_of_row" Yu ["row"]:=fun _ _ _ _ _ _ us hl=>by obtain⟨_,rfl⟩:=us1 hl;rfl
noncomputable abbrev ZaM:Stmt:=top 23
theorem ZdW:Zx ["line", "others"] ["line"] (Zh ZaM):=⟨rfl,rfl,rfl,by decide +kernel,rfl,by decide +kernel,by decide +kernel⟩
theorem ZgE:Zq "march" ZaM ["line"]:=fun _ _ _ _ _ _ us hl=>by obtain⟨_,rfl⟩:=us1 hl;rfl
noncomputable abbrev VA:Stmt:=top 22
theorem ZjU:Zx ["line"] ["line"] (Zh VA):=⟨rfl,rfl,rfl,by decide +kernel,rfl,by decide +kernel,by decide +kernel⟩
theorem ZfW:Zq "marched" VA ["line"]:=fun _ _ _ _ _ _ us hl=>by obtain⟨_,rfl⟩:=us1 hl;rfl
noncomputable abbrev Yg:Stmt:=top 19
theorem Vj:Zx ["board", "k"] ["board"] (Zh Yg):=⟨rfl,rfl,rfl,by decide +kernel,rfl,by decide +kernel,by decide +kernel⟩
theorem QA:Zq "turn_to_itself" Yg ["board"]:=fun _ _ _ _ _ _ us hl=>by obtain⟨_,rfl⟩:=us1 hl;rfl
noncomputable abbrev Yi:Stmt:=top 47
theorem ZcI:Zx ["row"] ["row"] (Zh Yi):=⟨rfl,rfl,rfl,by decide +kernel,rfl,by decide +kernel,by decide +kernel⟩
theorem QB:Zq "steps_of_round" Yi ["row"]:=fun _ _ _ _ _ _ us hl=>by obtain⟨_,rfl⟩:=us1 hl;rfl
noncomputable abbrev ZT:Stmt:=top 56
theorem Z4:Zx ["rows", "seeds", "after", "row", "leasts", "number", "line", "least", "told"] ["rows", "seeds"] (Zh ZT):=⟨rfl,rfl,rfl,by decide +kernel,rfl,by decide +kernel,by decide +kernel⟩
theorem Zc4:Zq "_law_all_rounds" ZT ["rows", "seeds"]:=fun _ _ _ _ _ _ us hl=>by obtain⟨_,_,rfl⟩:=us2 hl;rfl
noncomputable abbrev YZ:Stmt:=top 14
theorem Zfj:Zx ["number", "least", "most"] ["number", "least", "most"] (Zh YZ):=⟨rfl,rfl,rfl,by decide +kernel,rfl,by decide +kernel,by decide +kernel⟩
theorem Jv:Zq "check_count" YZ ["number", "least", "most"]:=fun _ _ _ _ _ _ us hl=>by obtain⟨_,_,_,rfl⟩:=us3 hl;rfl
noncomputable abbrev WS:Stmt:=top 38
theorem ZgZ:Zx ["seeds"] ["seeds"] (Zh WS):=⟨rfl,rfl,rfl,by decide +kernel,rfl,by decide +kernel,by decide +kernel⟩
theorem Qf:Zq "places_of" WS ["seeds"]:=fun _ _ _ _ _ _ us hl=>by obtain⟨_,rfl⟩:=us1 hl;rfl
noncomputable abbrev J7:Stmt:=top 39
theorem Zep:Zx ["seeds", "k"] ["seeds"] (Zh J7):=⟨rfl,rfl,rfl,by decide +kernel,rfl,by decide +kernel,by decide +kernel⟩
theorem Zaw:Zq "added_of" J7 ["seeds"]:=fun _ _ _ _ _ _ us hl=>by obtain⟨_,rfl⟩:=us1 hl;rfl
noncomputable abbrev WR:Stmt:=top 37
theorem ZgY:Zx ["seeds"] ["seeds"] (Zh WR):=⟨rfl,rfl,rfl,by decide +kernel,rfl,by decide +kernel,by decide +kernel⟩
theorem ZdC:Zq "row_count" WR ["seeds"]:=fun _ _ _ _ _ _ us hl=>by obtain⟨_,rfl⟩:=us1 hl;rfl
noncomputable abbrev UY:Stmt:=top 43
theorem JF:Zx ["seeds", "number", "places_left", "left", "ahead", "added", "without"] ["seeds", "number"] (Zh UY):=⟨rfl,rfl,rfl,by decide +kernel,rfl,by decide +kernel,by decide +kernel⟩
theorem Zmy:Zq "row_at" UY ["seeds", "number"]:=fun _ _ _ _ _ _ us hl=>by obtain⟨_,_,rfl⟩:=us2 hl;rfl
noncomputable abbrev Wu:Stmt:=top 26
theorem QI:Zx ["line", "first", "others"] ["line", "first"] (Zh Wu):=⟨rfl,rfl,rfl,by decide +kernel,rfl,by decide +kernel,by decide +kernel⟩
theorem ZgF:Zq "line_ahead" Wu ["line", "first"]:=fun _ _ _ _ _ _ us hl=>by obtain⟨_,_,rfl⟩:=us2 hl;rfl
noncomputable abbrev ZR:Stmt:=top 25
theorem JG:Zx ["line", "count"] ["line"] (Zh ZR):=⟨rfl,rfl,rfl,by decide +kernel,rfl,by decide +kernel,by decide +kernel⟩
theorem Zc2:Zq "held_from_first" ZR ["line"]:=fun _ _ _ _ _ _ us hl=>by obtain⟨_,rfl⟩:=us1 hl;rfl
noncomputable abbrev J6:Stmt:=top 24
theorem QK:Zx ["line", "lines"] ["line"] (Zh J6):=⟨rfl,rfl,rfl,by decide +kernel,rfl,by decide +kernel,by decide +kernel⟩
theorem ZiF:Zq "ahead_of" J6 ["line"]:=fun _ _ _ _ _ _ us hl=>by obtain⟨_,rfl⟩:=us1 hl;rfl
noncomputable abbrev Yk:Stmt:=top 16
theorem Jj:Zx ["number", "other", "rest"] ["number", "other"] (Zh Yk):=⟨rfl,rfl,rfl,by decide +kernel,rfl,by decide +kernel,by decide +kernel⟩
theorem Zdr:Zq "common_divisor" Yk ["number", "other"]:=fun _ _ _ _ _ _ us hl=>by obtain⟨_,_,rfl⟩:=us2 hl;rfl
noncomputable abbrev Wv:Stmt:=top 42
theorem QJ:Zx ["places", "added", "marches", "first_places", "times"] ["places", "added", "marches"] (Zh Wv):=⟨rfl,rfl,rfl,by decide +kernel,rfl,by decide +kernel,by decide +kernel⟩
theorem ZgG:Zq "count_kept" Wv ["places", "added", "marches"]:=fun _ _ _ _ _ _ us hl=>by obtain⟨_,_,_,rfl⟩:=us3 hl;rfl
noncomputable abbrev YU:Stmt:=top 41
theorem Qh:Zx ["seeds", "places"] ["seeds"] (Zh YU):=⟨rfl,rfl,rfl,by decide +kernel,rfl,by decide +kernel,by decide +kernel⟩
theorem ZbB:Zq "round_count" YU ["seeds"]:=fun _ _ _ _ _ _ us hl=>by obtain⟨_,rfl⟩:=us1 hl;rfl
noncomputable abbrev Yx:Stmt:=top 51
theorem Za7:Zx ["numbers", "places", "ones", "left"] ["numbers", "places", "ones"] (Zh Yx):=⟨rfl,rfl,rfl,by decide +kernel,rfl,by decide +kernel,by decide +kernel⟩
theorem ZdQ:Zq "can_be_filled" Yx ["numbers", "places", "ones"]:=fun _ _ _ _ _ _ us hl=>by obtain⟨_,_,_,rfl⟩:=us3 hl;rfl
noncomputable abbrev YV:Stmt:=top 50
theorem Jq:Zx ["numbers", "period", "places", "ones", "again", "longer"] ["numbers", "period", "places", "ones"] (Zh YV):=⟨rfl,rfl,rfl,by decide +kernel,rfl,by decide +kernel,by decide +kernel⟩
theorem Zfy:Zq "made_longer" YV ["numbers", "period", "places", "ones"]:=fun _ _ _ _ _ _ us hl=>by obtain⟨_,_,_,_,rfl⟩:=us4 hl;rfl
noncomputable abbrev YX:Stmt:=top 49
theorem Wg:Zx ["places", "ones", "beginnings", "longer", "beginning"] ["places", "ones"] (Zh YX):=⟨rfl,rfl,rfl,by decide +kernel,rfl,by decide +kernel,by decide +kernel⟩
theorem Zf0:Zq "least_turns" YX ["places", "ones"]:=fun _ _ _ _ _ _ us hl=>by obtain⟨_,_,rfl⟩:=us2 hl;rfl
noncomputable abbrev J3:Stmt:=top 48
theorem Zif:Zx ["seeds", "number"] ["seeds", "number"] (Zh J3):=⟨rfl,rfl,rfl,by decide +kernel,rfl,by decide +kernel,by decide +kernel⟩
theorem ZiC:Zq "round_at" J3 ["seeds", "number"]:=fun _ _ _ _ _ _ us hl=>by obtain⟨_,_,rfl⟩:=us2 hl;rfl
noncomputable abbrev YD:Stmt:=top 21
theorem Zeo:Zx [] [] (Zh YD):=⟨rfl,rfl,rfl,by decide +kernel,rfl,by decide +kernel,by decide +kernel⟩
theorem ZeW:Zq "most_marches" YD []:=fun _ _ _ _ _ _ us hl=>match us,hl with | [],_=>rfl
noncomputable abbrev YW:Stmt:=top 33
theorem Jr:Zx ["line", "steps", "now", "left"] ["line", "steps"] (Zh YW):=⟨rfl,rfl,rfl,by decide +kernel,rfl,by decide +kernel,by decide +kernel⟩
theorem Zfz:Zq "line_behind" YW ["line", "steps"]:=fun _ _ _ _ _ _ us hl=>by obtain⟨_,_,rfl⟩:=us2 hl;rfl
noncomputable abbrev J5:Stmt:=top 32
theorem U3:Zx ["line", "tail", "row"] ["line"] (Zh J5):=⟨rfl,rfl,rfl,by decide +kernel,rfl,by decide +kernel,by decide +kernel⟩
theorem ZiE:Zq "comes_to" J5 ["line"]:=fun _ _ _ _ _ _ us hl=>by obtain⟨_,rfl⟩:=us1 hl;rfl
noncomputable abbrev Wx:Stmt:=top 54
theorem W5:Zx ["script", "many", "found", "step", "k"] ["script", "many"] (Zh Wx):=⟨rfl,rfl,rfl,by decide +kernel,rfl,by decide +kernel,by decide +kernel⟩
theorem ZgH:Zq "_law_large" Wx ["script", "many"]:=fun _ _ _ _ _ _ us hl=>by obtain⟨_,_,rfl⟩:=us2 hl;rfl
noncomputable abbrev Zha:Stmt:=top 57
theorem Zb6:Zx ["script", "numbers", "seeds", "rows", "leasts", "far", "row", "least", "steps"] ["script"] (Zh Zha):=⟨rfl,rfl,rfl,by decide +kernel,rfl,by decide +kernel,by decide +kernel⟩
theorem Zro:Zq "law" Zha ["script"]:=fun _ _ _ _ _ _ us hl=>by obtain⟨_,rfl⟩:=us1 hl;rfl
noncomputable abbrev XN:List Str:=["SowError", "BadCount", "TooMany", "BadLine", "BadRow"]
noncomputable abbrev ZiK:List (Str×Str×Bool):=[("SowError", "SowError",true),("BadCount", "SowError",true),("TooMany", "SowError",true),("BadLine", "SowError",true),("BadRow", "SowError",true)]
noncomputable abbrev ZiL:List (Str×Str×Bool):=[("SowError", "BadCount",false),("BadCount", "BadCount",true),("TooMany", "BadCount",false),("BadLine", "BadCount",false),("BadRow", "BadCount",false)]
noncomputable abbrev Zkx:List (Str×Str×Bool):=[("SowError", "TooMany",false),("BadCount", "TooMany",false),("TooMany", "TooMany",true),("BadLine", "TooMany",false),("BadRow", "TooMany",false)]
noncomputable abbrev Zky:List (Str×Str×Bool):=[("SowError", "BadLine",false),("BadCount", "BadLine",false),("TooMany", "BadLine",false),("BadLine", "BadLine",true),("BadRow", "BadLine",false)]
noncomputable abbrev Zm5:List (Str×Str×Bool):=[("SowError", "BadRow",false),("BadCount", "BadRow",false),("TooMany", "BadRow",false),("BadLine", "BadRow",false),("BadRow", "BadRow",true)]
noncomputable abbrev XS:List (Str×Str×Bool):=ZiK++ZiL++Zkx++Zky++Zm5
noncomputable abbrev XR:List Str:=["SowError", "BadCount", "TooMany", "BadLine", "BadRow"]
structure Txt (K:PySem.W.Frag) (mg:Str->Option Value):Prop where
 Zfx:Dfn K mg "_law_numbers" YF
 Zdo:Dfn K mg "_law_round_from" ZS
 UL:Dfn K mg "greatest_step" Yw
 Uz:Dfn K mg "added_seeds" Wa
 Zkr:Dfn K mg "is_whole" J4
 Zbg:Dfn K mg "is_whole_from" Yv
 VH:Dfn K mg "is_list_from_nought" Z7
 Vf:Dfn K mg "without_last_noughts" Z2
 Q5:Dfn K mg "row_with" J1
 Qt:Dfn K mg "added_in_row" YE
 ZeO:Dfn K mg "turn_by" V9
 ZaC:Dfn K mg "first_of_round" Yj
 VI:Dfn K mg "check_line" Ww
 ZgC:Dfn K mg "is_marching" YY
 Zcz:Dfn K mg "choices" VB
 ZeQ:Dfn K mg "number_of_row" Yu
 Zi6:Dfn K mg "march" ZaM
 ZhA:Dfn K mg "marched" VA
 ZaA:Dfn K mg "turn_to_itself" Yg
 ZaB:Dfn K mg "steps_of_round" Yi
 Zdp:Dfn K mg "_law_all_rounds" ZT
 JP:Dfn K mg "check_count" YZ
 Zat:Dfn K mg "places_of" WS
 Zb1:Dfn K mg "added_of" J7
 ZeP:Dfn K mg "row_count" WR
 ZnE:Dfn K mg "row_at" UY
 ZhB:Dfn K mg "line_ahead" Wu
 Zdn:Dfn K mg "held_from_first" ZR
 Zkt:Dfn K mg "ahead_of" J6
 ZdM:Dfn K mg "common_divisor" Yk
 ZhC:Dfn K mg "count_kept" Wv
 Zcy:Dfn K mg "round_count" YU
 ZeR:Dfn K mg "can_be_filled" Yx
 Zg9:Dfn K mg "made_longer" YV
 ZgB:Dfn K mg "least_turns" YX
 Zkq:Dfn K mg "round_at" J3
 Zfw:Dfn K mg "most_marches" YD
 ZgA:Dfn K mg "line_behind" YW
 Zks:Dfn K mg "comes_to" J5
 ZhD:Dfn K mg "_law_large" Wx
 Zsf:Dfn K mg "law" Zha
 c_MOST_LINE_PITS:∃t,mg "MOST_LINE_PITS"=some (.int 100 t)
 c_MOST_LINE_SEEDS:∃t,mg "MOST_LINE_SEEDS"=some (.int 100 t)
 c_MOST_ROUND_SEEDS:∃t,mg "MOST_ROUND_SEEDS"=some (.int 150 t)
 c_MOST_ROW_SEEDS:∃t,mg "MOST_ROW_SEEDS"=some (.int 2000 t)
 z_all:mg "all"=none
 z_bool:mg "bool"=none
 z_enumerate:mg "enumerate"=none
 z_int:mg "int"=none
 z_isinstance:mg "isinstance"=none
 z_len:mg "len"=none
 z_list:mg "list"=none
 z_min:mg "min"=none
 z_range:mg "range"=none
 z_sorted:mg "sorted"=none
 z_sum:mg "sum"=none
 x_tab:Zsn K XN XS=true
 x_exc:Zo1 K XR=true
 x_mg:∀n C,ZpM K n C->mg n=some (.ref C)
section
variable {P:Program}{w:World}{K:W.Frag}{mg:Str->Option Value}{base:Heap}
set_option hygiene false
local macro_rules | `(tactic| walk_at "pd")=>`(tactic| try simp -implicitDefEqProofs (disch:=first|omega|(simp only[Zto,Zt8,Zvb,Zut,ZtC,Zvf,Zt7,ZtR,Zu7,W6];omega)|decide) only[Zpl,Zpm,List.set_cons_zero,List.set_cons_succ,Zvs,Zuc,Zle,Zld,ZuK,Rr.bind_ok,Rr.bind_exc,Rr.bind_bad,Rr.thenS_ok,Rr.thenS_exc,RS.seq_next,RS.seq_ret,RS.seq_exc,RS.out_next,RS.out_ret,RS.out_exc,
 Zpb,ZoP,Zqw,Zqx,Zq2,Zq3,Zpn,Zrp,ZpE,ZnK,ZpF,Zq1,Zq0,Znf,Zng,ZoR,Zqz,Zqy,Znv,Znw,Znu,ZoY,Zgm,ZoX,Zq4,Zlw,Zls,ZtC,Zvf,Bool.not_true,Bool.not_false,Bool.false_eq_true,if_true,if_false,Nat.reduceAdd,Nat.reduceSub,id,Ztv,ZtK,Int.reduceToNat,Zke,ZoT,ZrR,Zq8,Zq7,Znk,Zkd,Zsk,Zn1,Znp,Nat.reduceLeDiff,Ztj,Int.reduceLT,Int.reduceLE,Int.reduceEq,decide_true,decide_false,
 Zne,Zlu,Zl0,ZmU,ZmS,Zez,ZjY,ZaQ,Zjz,ZmW,Zri,ZnF,Znn,Znm,Zl6,Znl,beq_self_eq_true,Bool.and_true,Bool.true_and,Bool.and_false,Bool.false_and,Zqv])
set_option hygiene true
noncomputable def Yz:Pm:=⟨List Int×Int,fun a=>[.lst (a.1.map PV.int),.int a.2],fun a=>a.1.length<=1000/\0<a.2/\a.2<=1000,fun a=>.ok (.lst ((Zkf a.1 a.2.toNat).map PV.int))⟩
theorem ZeD (T:Txt K mg) {f:Addr}{fd:FuncData} (F:Fun K "_law_numbers" "_law_numbers" YF f fd):Vi P w K mg base CX0 1 f fd ["script", "many"] (spF K 2 .F W0 Yz.fn):=by
 refine F.okP YJ rfl rfl (fun cdv A outer s H E hr=>?_)
 have hu:=hr.units
 refine⟨_,_,⟨[],[],[],.F⟩,rfl,(Zg (Zz (i:=2) YJ.nd rfl (by first|exact Or.inl rfl|exact Or.inr rfl) (J8 Zf))
   (Zg (Zz (i:=3) YJ.nd rfl (by first|exact Or.inl rfl|exact Or.inr rfl) Zl)
   (Zg (VR (Zu ZbH (Zr (Z3 (K:=K)) rfl T.z_len Wt (Zb (pv 0) Zf)) Zl (Z8 _)) (Zk (Zz (i:=3) YJ.nd rfl (by first|exact Or.inl rfl|exact Or.inr rfl) (ZD VC Zl (ZD Vb (WD (ZA (K:=K)) (pv 0) Zl (fun _ _=>rfl)) Zl)))) Y6)
   (Zg (Zch PassesOwn.never rfl (WV rfl T.z_range (Zb (pv 1) Zf)) (JJ (i:=4) YJ.nd rfl (by first|exact Or.inl rfl|exact Or.inr rfl)) (Zg (Zz (i:=3) YJ.nd rfl (by first|exact Or.inl rfl|exact Or.inr rfl) (ZD Vb (ZD ZcN (pv 3) Zl) Zl))
   (Zk (W7 (Zgg PySem.F.plainAttrs_list PySem.F.slot_list_append PySem.F.type_list_append VD (pv 2) (Zb (ZD Vb (ZD QQ (pv 3) Zl) Zl) Zf))))))
   (Zg (Zch PassesOwn.never rfl (WV rfl T.z_range (Zb (Zr (Z3 (K:=K)) rfl T.z_len Wt (Zb (pv 0) Zf)) Zf)) (JJ (i:=4) YJ.nd rfl (by first|exact Or.inl rfl|exact Or.inr rfl)) (Zk (Zlh (ZD Vb (ZD VC (WD (ZA (K:=K)) (pv 2) (ZD Vb (pv 4) (pv 1)) (fun _ _=>rfl)) (WD (ZA (K:=K)) (pv 0) (pv 4) (fun _ _=>rfl))) Zl) (ZnZ (pv 2) (ZD Vb (pv 4) (pv 1)) Zja))))
   (Zk (Z9 (pv 2)))))))),
   (Zm (Γm:=[.S,.S,.O,.U,.U]) (Y5 (i:=2) (Jb YQ) (by decide))
   (Zm (Γm:=[.S,.S,.O,.P,.U]) (ZH (i:=3) Zj (by decide))
   (Zm (Γm:=[.S,.S,.O,.P,.U]) (Ui (Zt (DE.toA (ZbU (DE.toA (Wn (Za (Zc (i:=0) (m:=.S) rfl (by decide)) Ze))) (DE.toA Zj))))
   (ZH (i:=3) (VG (DE.toA Zj) (DE.toA (Ve (Yo (te:=tC .non) (Zc (i:=0) (m:=.S) rfl (by decide)) (DE.toA Zj)) (DE.toA Zj)))) (by decide))
   Y9)
   (Zm (Γm:=[.S,.S,.O,.P,.U]) (Zcw (Γl:=[.S,.S,.O,.P,.U]) (UK (Za (Zc (i:=1) (m:=.S) rfl (by decide)) Ze)) rfl (Zol (i:=4) (by decide))
   (DS.out (Y:=⟨[.S,.S,.O,.P,.P],[.S,.S,.O,.P,.U],[.S,.S,.O,.P,.U],.F⟩) (Y':=⟨[.S,.S,.O,.P,.U],[.S,.S,.O,.P,.U],[.S,.S,.O,.P,.U],.F⟩) (Zm (Γm:=[.S,.S,.O,.P,.P]) (ZH (i:=3) (Ve (DE.toA (ZfV (DE.toA (Zn (i:=3) rfl)) (DE.toA Zj))) (DE.toA Zj)) (by decide))
   (ZbR (i:=2) rfl rfl (DE.PF (Ve (DE.toA (ZeL (DE.toA (Zn (i:=3) rfl)) (DE.toA Zj))) (DE.toA Zj))))) rfl rfl rfl rfl))
   (Zm (Γm:=[.S,.S,.O,.P,.U]) (Zcw (Γl:=[.S,.S,.O,.P,.U]) (UK (Za (DE.toA (Wn (Za (Zc (i:=0) (m:=.S) rfl (by decide)) Ze))) Ze)) rfl (Zol (i:=4) (by decide))
   (DS.out (Y:=⟨[.S,.S,.O,.P,.P],[.S,.S,.O,.P,.U],[.S,.S,.O,.P,.U],.F⟩) (Y':=⟨[.S,.S,.O,.P,.U],[.S,.S,.O,.P,.U],[.S,.S,.O,.P,.U],.F⟩) (Zh4 (i:=2) rfl (Ve (DE.toA (VG (Yo (te:=tC .non) (Zc (i:=2) (m:=.O) rfl (by decide)) (DE.toA (Ve (DE.toA (Zn (i:=4) rfl)) (Zc (i:=1) (m:=.S) rfl (by decide))))) (Yo (te:=tC .non) (Zc (i:=0) (m:=.S) rfl (by decide)) (DE.toA (Zn (i:=4) rfl))))) (DE.toA Zj)) (DE.toA (Ve (DE.toA (Zn (i:=4) rfl)) (Zc (i:=1) (m:=.S) rfl (by decide))))) rfl rfl rfl rfl))
   (YO (ZbT (i:=2) rfl))))))), ?_⟩
 refine Pm.ref Yz (g:=fun xs=>_) ?_
 rintro⟨ns,m⟩ ⟨hn,h0,h1⟩
 simp only at hn h0 h1
 simp only[Yz]
 have hst:WC ns=if 0<ns.length then 1+ns.getD 0 0%2147483646 else 1:=rfl
 walk_at "pd"
 by_cases hz:0<ns.length
 ·rw[if_pos hz] at hst
  rw[decide_eq_true (by omega)]
  walk_at "pd"
  rw[<- hst]
  clear hst
  generalize hw:ZfP _ _ _=W
  obtain⟨ρ',rfl,v,rfl⟩:=WZ hw (fun i ρ=>∃v,ρ=[.lst (ns.map PV.int),.int m,.lst ((Zk6 (WC ns) i).map PV.int),.int (Zem (WC ns) i),v]) ⟨_,rfl⟩ (by
   rintro i x ρ hx ⟨v,rfl⟩
   obtain⟨hi,rfl⟩:=UZ hx
   have hb:=ZiX (Zcg ns) i
   have hl:(Zk6 (WC ns) i).length=i:=ZbO _ _
   walk_at "pd"
   exact Uy ⟨_,by rw[Zhv,L2.Zem]⟩)
  walk_at "pd"
  rw[W6]
  generalize hw:ZfP _ _ _=W
  obtain⟨ρ',rfl,v,rfl⟩:=WZ hw (fun i ρ=>∃v,ρ=[.lst (ns.map PV.int),.int m,.lst ((Zhy (Zk6 (WC ns) m.toNat) ns m.toNat i).map PV.int),.int (Zem (WC ns) m.toNat),v]) ⟨_,rfl⟩ (by
   rintro i x ρ hx ⟨v,rfl⟩
   obtain⟨hi,rfl⟩:=UZ hx
   have hl:(Zhy (Zk6 (WC ns) m.toNat) ns m.toNat i).length=m.toNat:=by rw[Zd9,ZbO]
   have m0:=Zum (0+(i:Int)) (show m≠0 by omega)
   have m1:=Zuh (0+(i:Int)) h0
   have e:((0+(i:Int))%m).toNat=i%m.toNat:=by
    have:((i%m.toNat:Nat):Int)=(0+(i:Int))%m:=by rw[Zu1,ZtE (by omega),Zuo]
    omega
   walk_at "pd"
   exact Uy ⟨_,by rw[Zhy,e,show (0+(i:Int)).toNat=i by omega]⟩)
  walk_at "pd"
  rw[W6,show (ns.length:Int).toNat=ns.length by omega]
  rfl
 ·rw[if_neg hz] at hst
  rw[decide_eq_false (by omega)]
  walk_at "pd"
  have hz2:ns=[]:=ZuX (by omega)
  subst hz2
  generalize hw:ZfP _ _ _=W
  obtain⟨ρ',rfl,v,rfl⟩:=WZ hw (fun i ρ=>∃v,ρ=[.lst [],.int m,.lst ((Zk6 (WC []) i).map PV.int),.int (Zem (WC []) i),v]) ⟨_,by rw[hst];rfl⟩ (by
   rintro i x ρ hx ⟨v,rfl⟩
   obtain⟨hi,rfl⟩:=UZ hx
   have hb:=ZiX (Zcg []) i
   have hl:(Zk6 (WC []) i).length=i:=ZbO _ _
   walk_at "pd"
   exact Uy ⟨_,by rw[Zhv,L2.Zem]⟩)
  walk_at "pd"
  rw[W6]
  rfl
theorem Ju {ns:List Int}{m:Int} (h:ns.length<=1000/\0<m/\m<=1000):Yz.fn [.lst (ns.map PV.int),.int m]=.ok (.lst ((Zkf ns m.toNat).map PV.int)):=Pm.fn_eq Yz (ns,m) h fun(a:List Int×Int) e=>by (simp only[Yz,List.cons.injEq,PV.lst.injEq,PV.int.injEq,PV.str.injEq,PV.bl.injEq,PV.tup.injEq,Zy,and_true] at e ⊢;first|(simp only[e];done)|(subst e;rfl)|(rw[e]))
theorem ZfD {f:Nat->Int} (n:Nat):((List.range (n+1)).map f).getD n 0=f n:=by
 rw[Zte,Ztz,Zt9 (by omega)];rfl
noncomputable def ZK:Pm:=⟨Int×List Int,fun a=>[.int a.1,.lst (a.2.map PV.int)],fun a=>Cyc a.2 a.1/\a.2.length<=1000,fun a=>.ok (.lst ((lnA a.2 a.1).map PV.int))⟩
theorem Zcs (T:Txt K mg) {f:Addr}{fd:FuncData} (F:Fun K "_law_round_from" "_law_round_from" ZS f fd):Vi P w K mg base CX0 1 f fd ["number", "after"] (spF K 2 .F W0 ZK.fn):=by
 refine F.okP UX rfl rfl (fun cdv A outer s H E hr=>?_)
 have hu:=hr.units
 refine⟨_,_,⟨[],[],[],.F⟩,rfl,(Zg (Zz (i:=2) UX.nd rfl (by first|exact Or.inl rfl|exact Or.inr rfl) (J8 (Zb (pv 0) Zf)))
   (Zg (Vz PassesOwn.never (PW.pt (Zhe (Zu (Za8 (K:=K) hu) (WD (ZA (K:=K)) (pv 1) (WD (ZA (K:=K)) (pv 2) (Zln ZgQ Zl) (fun _ _=>rfl)) (fun _ _=>rfl)) (pv 0) (Z8 _)) (Zeq (Zu Zno (Zr (Z3 (K:=K)) rfl T.z_len Wt (Zb (pv 2) Zf)) (Zr (Z3 (K:=K)) rfl T.z_len Wt (Zb (pv 1) Zf)) (Z8 _))))) (Zk (W7 (Zgg PySem.F.plainAttrs_list PySem.F.slot_list_append PySem.F.type_list_append VD (pv 2) (Zb (WD (ZA (K:=K)) (pv 1) (WD (ZA (K:=K)) (pv 2) (Zln ZgQ Zl) (fun _ _=>rfl)) (fun _ _=>rfl)) Zf)))))
   (Zk (Z9 (pv 2))))),
   (Zm (Γm:=[.S,.S,.O]) (Y5 (i:=2) (Jb (YN (DE.PF (DE.grd (Zc (i:=0) (m:=.S) rfl (by decide)))) YQ)) (by decide))
   (Zm (Γm:=[.S,.S,.O]) (V4 (Γ:=[.S,.S,.O]) (Zh3 (Zt (DE.toA (Jo (g:=(!·)) (Yo (te:=tC .non) (Zc (i:=1) (m:=.S) rfl (by decide)) (Yo (te:=tC .non) (Zc (i:=2) (m:=.O) rfl (by decide)) (DE.toA (Zh7 (DE.toA Zj))))) (Zc (i:=0) (m:=.S) rfl (by decide))))) (Zt (DE.toA (ZnC (DE.toA (Wn (Za (Zc (i:=2) (m:=.O) rfl (by decide)) Ze))) (DE.toA (Wn (Za (Zc (i:=1) (m:=.S) rfl (by decide)) Ze)))))))
   (ZbR (i:=2) rfl rfl (DE.PF (DE.grd (Yo (te:=tC .non) (Zc (i:=1) (m:=.S) rfl (by decide)) (Yo (te:=tC .non) (Zc (i:=2) (m:=.O) rfl (by decide)) (DE.toA (Zh7 (DE.toA Zj)))))))))
   (YO (ZbT (i:=2) rfl)))), ?_⟩
 refine Pm.ref ZK (g:=fun xs=>_) ?_
 rintro⟨x,l⟩ ⟨h,hl⟩
 simp only at h hl
 simp only[ZK]
 have hi0:=h.i0
 have hi1:=h.i1
 obtain⟨b1,b2,b3⟩:=h.bk
 walk_at "pd"
 generalize hw:JX _ _ _=W
 obtain⟨ρ',rfl,rfl⟩:=Wz hw (bkA l x) (fun i ρ=>ρ=[.int x,.lst (l.map PV.int),.lst (((List.range (i+1)).map (itA l x)).map PV.int)]) rfl (by
  rintro i ρ hi rfl
  obtain⟨g1,g2⟩:=h.bd i
  have hlen:((List.range (i+1)).map (itA l x)).length=i+1:=by simp
  have hlast:=ZfD (f:=itA l x) i
  have hs:(List.range (i+1+1)).map (itA l x)=(List.range (i+1)).map (itA l x)++[itA l x (i+1)]:=by rw[ZtG (n:=i+1),Zt4];rfl
  rw[hs]
  generalize (List.range (i+1)).map (itA l x)=L at hlen hlast
  have hne:=b3 i hi
  have hpx:pIx (.lst (L.map PV.int)) (.int (-1))=.ok (.int (itA l x i)):=by
   rw[Zgl (fun z=>by rw[z] at hlen;simp at hlen),hlen,Zua,hlast]
  have hst:l.getD (itA l x i).toNat 0=itA l x (i+1):=rfl
  constructor
  ·walk_at "pd"
   rw[hpx]
   walk_at "pd"
   rw[hst,decide_eq_false hne,hlen]
   walk_at "pd"
   rw[decide_eq_true (by omega)]
  ·walk_at "pd"
   rw[hpx]
   walk_at "pd"
   rw[hst]
   exact Uy (by rw[Zt4])) (by
  rintro ρ rfl
  obtain⟨g1,g2⟩:=h.bd (bkA l x)
  have hlen:((List.range (bkA l x+1)).map (itA l x)).length=bkA l x+1:=by simp
  have hpx:pIx (.lst (((List.range (bkA l x+1)).map (itA l x)).map PV.int)) (.int (-1))=.ok (.int (itA l x (bkA l x))):=by
   rw[Zgl (fun z=>by rw[z] at hlen;simp at hlen),hlen,Zua,ZfD]
  have hst:l.getD (itA l x (bkA l x)).toNat 0=x:=b2
  walk_at "pd"
  rw[hpx]
  walk_at "pd"
  rw[hst,decide_eq_true rfl]
  walk_at "pd")
 walk_at "pd"
 rfl
theorem Wr {x:Int}{l:List Int} (h:Cyc l x/\l.length<=1000):ZK.fn [.int x,.lst (l.map PV.int)]=.ok (.lst ((lnA l x).map PV.int)):=Pm.fn_eq ZK (x,l) h fun(a:Int×List Int) e=>by (simp only[ZK,List.cons.injEq,PV.lst.injEq,PV.int.injEq,PV.str.injEq,PV.bl.injEq,PV.tup.injEq,Zy,and_true] at e ⊢;first|(simp only[e];done)|(subst e;rfl)|(rw[e]))
noncomputable def Yn:Pm:=⟨Int,fun a=>[.int a],fun a=>0<=a/\a<=10000,fun a=>.ok (.int (kN a:Nat))⟩
theorem Ud (T:Txt K mg) {f:Addr}{fd:FuncData} (F:Fun K "greatest_step" "greatest_step" Yw f fd):Vi P w K mg base CX0 1 f fd ["seeds"] (spF K 1 .P W0 Yn.fn):=by
 refine F.okP VQ rfl rfl (fun cdv A outer s H E hr=>?_)
 have hu:=hr.units
 refine⟨_,_,⟨[],[],[],.P⟩,rfl,(Zg (Zz (i:=1) VQ.nd rfl (by first|exact Or.inl rfl|exact Or.inr rfl) Zl)
   (Zg (Vz PassesOwn.never (Zu Zno (ZD QQ (ZD ZcN (ZD VC (pv 1) Zl) (ZD VC (pv 1) Zl)) Zl) (pv 0) (Z8 _)) (Zk (ZaO (i:=1) VQ.nd rfl (by first|exact Or.inl rfl|exact Or.inr rfl) Zl Zhr)))
   (Zk (Z9 (pv 1))))),
   (Zm (Γm:=[.S,.P]) (ZH (i:=1) Zj (by decide))
   (Zm (Γm:=[.S,.P]) (V4 (Γ:=[.S,.P]) (Zt (DE.toA (ZnC (DE.toA (ZeL (DE.toA (ZfV (DE.toA (VG (DE.toA (Zn (i:=1) rfl)) (DE.toA Zj))) (DE.toA (VG (DE.toA (Zn (i:=1) rfl)) (DE.toA Zj))))) (DE.toA Zj))) (Zc (i:=0) (m:=.S) rfl (by decide)))))
   (UJ (i:=1) rfl (DE.toA Zj)))
   (Y8 (Zn (i:=1) rfl)))), ?_⟩
 refine Pm.ref Yn (g:=fun xs=>_) ?_
 rintro(s:Int) ⟨h0,h1⟩
 simp only[Yn]
 obtain⟨k1,k2,k3⟩:=Uc h0
 walk_at "pd"
 generalize hw:JX _ _ _=W
 obtain⟨ρ',rfl,rfl⟩:=Wz hw (kN s) (fun(i:Nat) ρ=>ρ=[.int s,.int i]) rfl (by
  rintro j ρ hj rfl
  constructor
  ·walk_at "pd"
   rw[ZkJ,decide_eq_true (by have:=QF (show j+1<=kN s by omega);omega)]
  ·walk_at "pd"
   exact Uy (by rw[show ((j+1:Nat):Int)=(j:Int)+1 by omega])) (by
  rintro ρ rfl
  walk_at "pd"
  rw[ZkJ,decide_eq_false (by omega)])
 walk_at "pd"
theorem YK {s:Int} (h:0<=s/\s<=10000):Yn.fn [.int s]=.ok (.int (kN s:Nat)):=Pm.fn_eq Yn s h fun(a:Int) e=>by (simp only[Yn,List.cons.injEq,PV.lst.injEq,PV.int.injEq,PV.str.injEq,PV.bl.injEq,PV.tup.injEq,Zy,and_true] at e ⊢;first|(simp only[e];done)|(subst e;rfl)|(rw[e]))
theorem ZoV {z:Int}:Znh id (.int z) (.tup [.int 0,.int 1])=.ok (.bl (decide (z=0\/z=1))):=by
 have h:=Zly (g:=id) (i:=z) (ns:=[0,1])
 have e:decide (z∈([0,1]:List Int))=decide (z=0\/z=1):=decide_eq_decide.mpr (by simp)
 rw[e] at h
 exact h
noncomputable def ZpJ (l:List Int):PV:=if Fit l then .lst ((adL l).map PV.int) else .non
theorem ZpI {l:List Int} (h:Fit l):ZpJ l=.lst ((adL l).map PV.int):=if_pos h
theorem Zm1 {l:List Int} (h:¬Fit l):ZpJ l=.non:=if_neg h
noncomputable def ZN:Pm:=⟨List Int,fun a=>[.lst (a.map PV.int)],fun a=>((∀x∈a,0<=x)/\a.sum<=2000)/\a.length<=1000,fun a=>.ok (ZpJ a)⟩
theorem V3 (T:Txt K mg) {f:Addr}{fd:FuncData} (F:Fun K "added_seeds" "added_seeds" Wa f fd):Vi P w K mg base CX0 2 f fd ["line"] (spF K 1 .F W0 ZN.fn):=by
 have Jh:=VT (P:=P) (w:=w) (base:=base) T.UL Uj (fun F=>Ud T F)
 refine F.okP WG rfl rfl (fun cdv A outer s H E hr=>?_)
 have hu:=hr.units
 refine⟨_,_,⟨[],[],[],.F⟩,rfl,(Zg (Zz (i:=1) WG.nd rfl (by first|exact Or.inl rfl|exact Or.inr rfl) (Zo Jh (hr.mono (by decide)) rfl (Zb (Zr (UN (K:=K) rfl) rfl T.z_sum ZeY (Zb (pv 0) Zf)) Zf)))
   (Zg (VR (Zu ZbH (Zr (Z3 (K:=K)) rfl T.z_len Wt (Zb (pv 0) Zf)) (ZD VC (pv 1) Zl) (Z8 _)) (Zk (Z9 Zb7)) Y6)
   (Zg (Zz (i:=2) WG.nd rfl (by first|exact Or.inl rfl|exact Or.inr rfl) (ZD (Zev (K:=K)) (pv 0) (ZD Zoa (J8 (Zb Zl Zf)) (ZD Va (ZD VC (pv 1) Zl) (Zr (Z3 (K:=K)) rfl T.z_len Wt (Zb (pv 0) Zf))))))
   (Zg (Zer (i:=3) WG.nd rfl (Zcj (K:=K) rfl T.z_enumerate (Zb (pv 2) Zf)) (ZdY (K:=K) WG.nd rfl) (fun _ _ _ _=>Zhg) (fun _ _ _ _=>(ZD Va (pv 5) (ZD Va (pv 1) (pv 4)))) hv2 rfl)
   (Zg (VR (Zhf (ZfE (Zr (ZhL (K:=K) rfl) rfl T.z_all Zow (Zb (ZcK (Qa (K:=K) (pv 3)) (fun _ _ _ _=>(ZcL (Zoc (K:=K) hu) (pv 4) (Zd4 (Zb Zl (Zb Zl Zf))) rfl)) WG.nd rfl) Zf)))) (Zk (Z9 Zb7)) Y6)
   (Zk (Z9 (pv 3)))))))),
   (Zm (Γm:=[.S,.P,.U,.U]) (ZH (i:=1) (Zor (Zd Zi) (Za (DE.toA (ZeK (Za (Zc (i:=0) (m:=.S) rfl (by decide)) Ze))) Ze)) (by decide))
   (Zm (Γm:=[.S,.P,.U,.U]) (Ui (Zt (DE.toA (ZbU (DE.toA (Wn (Za (Zc (i:=0) (m:=.S) rfl (by decide)) Ze))) (DE.toA (VG (DE.toA (Zn (i:=1) rfl)) (DE.toA Zj))))))
   (YO (DE.PF Zh6))
   Y9)
   (Zm (Γm:=[.S,.P,.O,.U]) (Y5 (i:=2) (ZeM (Zc (i:=0) (m:=.S) rfl (by decide)) (DE.toA (Zml (Za (DE.toA Zj) Ze) (DE.toA (Vd (DE.toA (VG (DE.toA (Zn (i:=1) rfl)) (DE.toA Zj))) (DE.toA (Wn (Za (Zc (i:=0) (m:=.S) rfl (by decide)) Ze)))))))) (by decide))
   (Zm (Γm:=[.S,.P,.O,.O]) (ZeI (i:=3) (Zec (k:=2) (ZjC (Za (Zc (i:=2) (m:=.O) rfl (by decide)) Ze)) Zr6 Zh1 (DE.PF (Vd (Zc (i:=5) (m:=.S) rfl (by decide)) (DE.toA (Vd (DE.toA (Zn (i:=1) rfl)) (Zc (i:=4) (m:=.S) rfl (by decide))))))) (by decide))
   (Zm (Γm:=[.S,.P,.O,.O]) (Ui (Zh2 (ZpR (DE.toA (Zoq (Za (DE.toA (Qe (ZjB (Zc (i:=3) (m:=.O) rfl (by decide))) (DE.PF (Zop (g:=id) (Zc (i:=4) (m:=.S) rfl (by decide)) (Zmk (Za (DE.toA Zj) (Za (DE.toA Zj) Ze))))))) Ze)))))
   (YO (DE.PF Zh6))
   Y9)
   (YO (ZbT (i:=3) rfl))))))), ?_⟩
 refine Pm.ref ZN (g:=fun xs=>_) ?_
 rintro(l:List Int) ⟨⟨hl,s1⟩,n1⟩
 simp only[ZN]
 have s0:=Zga hl
 have hk:=Zba s0 s1
 obtain⟨k1,k2,k3⟩:=Uc s0
 walk_at "pd"
 rw[YK ⟨by omega,by omega⟩]
 walk_at "pd"
 by_cases c:((kN l.sum:Nat):Int)+1<l.length
 ·rw[decide_eq_true c]
  walk_at "pd"
  rw[Zm1 (fun z=>by have:=z.1;omega)]
 ·rw[decide_eq_false c]
  walk_at "pd"
  generalize hP:l++List.replicate (((kN l.sum:Nat):Int)+1-l.length).toNat 0=P
  have hPl:P.length=kN l.sum+1:=by rw[<- hP,Zt8,Zut];omega
  have hPg:∀i,P.getD i 0=l.getD i 0:=fun i=>by
   rw[<- hP]
   by_cases e:i<l.length
   ·simp[Zte,Ztl e]
   ·rw[Yt (ns:=l) (by omega)]
    simp only[Zte,Ztm (show l.length<=i by omega),Zun]
    split<;>rfl
  rw[Zcv (g:=fun i=>.int (adI l (kN l.sum) i)) (fun i hi=>by
   walk_at "pd"
   rw[hPg]
   rfl)]
  rw[Zez (by rw[Zas,Zto];omega)]
  walk_at "pd"
  rw[hPl,show (List.range (kN l.sum+1)).map (fun(i:Nat)=>PV.int (adI l (kN l.sum) i))=(adL l).map PV.int by unfold adL;rw[ZtZ];rfl]
  have hal:(adL l).length=kN l.sum+1:=by unfold adL;simp
  walk_at "pd"
  rw[ZlF (g:=fun z=>decide (z=0\/z=1)) (fun z _=>by
   walk_at "pd"
   exact ZoV)]
  walk_at "pd"
  rw[Zm0]
  have hle:l.length<=kN l.sum+1:=by omega
  by_cases hr:∀x∈adL l,x=0\/x=1
  ·rw[ZpI ⟨hle,hr⟩,decide_eq_true hr]
   walk_at "pd"
  ·rw[Zm1 (fun z=>hr z.2),decide_eq_false hr]
   walk_at "pd"
theorem Jm {l:List Int} (h:((∀x∈l,0<=x)/\l.sum<=2000)/\l.length<=1000):ZN.fn [.lst (l.map PV.int)]=.ok (ZpJ l):=Pm.fn_eq ZN l h fun(a:List Int) e=>by (simp only[ZN,List.cons.injEq,PV.lst.injEq,PV.int.injEq,PV.str.injEq,PV.bl.injEq,PV.tup.injEq,Zy,and_true] at e ⊢;first|(simp only[e];done)|(subst e;rfl)|(rw[e]))
theorem Zg2 {l:List Int} (h:ZC l):Fit l ↔ Row l:=by
 have s0:=ZoA h.1
 obtain⟨k1,k2,k3⟩:=Uc s0
 constructor
 ·rintro⟨hl,hx⟩
  refine⟨k1,k2,fun i hi=>?_,fun i hi=>Yt (by omega)⟩
  have:=hx (adI l (kN l.sum) i) (ZtA.mpr ⟨i,Ztu.mpr (by omega),rfl⟩)
  omega
 ·intro hr
  refine⟨Zoh h (n:=kN l.sum+1) fun i hi=>hr.z i (by omega),fun x hx=>?_⟩
  obtain⟨i,hi,rfl⟩:=ZtA.mp hx
  have:=hr.ad i (by have:=Ztu.mp hi;omega)
  omega
open Classical in
noncomputable def Zox (l:List Int):PV:=if Row l then .lst ((adL l).map PV.int) else .non
theorem Zsl {l:List Int} (h:ZC l):ZpJ l=Zox l:=by
 unfold ZpJ Zox
 by_cases c:Row l
 ·rw[if_pos c,if_pos ((Zg2 h).mpr c)]
 ·rw[if_neg c,if_neg (fun z=>c ((Zg2 h).mp z))]
theorem Wj {l:List Int} (h:ZC l):ZN.fn [.lst (l.map PV.int)]=.ok (Zox l):=by
 have h1:=h.2.1
 have h2:=h.2.2.1
 rw[Jm ⟨⟨h.1,by omega⟩,by omega⟩,Zsl h]
theorem WJ:ZN.calm:=fun a q h=>by (simp only[ZN] at h;cases h)
noncomputable def Jx:Pm:=⟨Int,fun i=>[.int i],fun _=>True,fun _=>.ok (.bl true)⟩
theorem Ziz (T:Txt K mg) {f:Addr}{fd:FuncData} (F:Fun K "is_whole" "is_whole" J4 f fd):Vi P w K mg base CX0 1 f fd ["value"] (spF K 1 .P W0 Jx.fn):=by
 refine F.okP Zig rfl rfl (fun cdv A outer s H E hr=>?_)
 have hu:=hr.units
 refine⟨_,_,⟨[],[],[],.P⟩,rfl,(Zk (Z9 (Zjo (Zr (ZeT (K:=K) (n := "int") rfl) rfl T.z_isinstance Zax (Zb (pv 0) (Zb (Zik (v:=.ty "int") rfl T.z_int Zrl rfl) Zf))) (Zjm (Zqr (Zr (ZeT (K:=K) (n := "bool") rfl) rfl T.z_isinstance Zax (Zb (pv 0) (Zb (Zik (v:=.ty "bool") rfl T.z_bool ZpC rfl) Zf)))))))),
   (Y8 (ZjF (DE.toA (Zmn (Zc (i:=0) (m:=.S) rfl (by decide)))) (Zrf (DE.toA (Zmn (Zc (i:=0) (m:=.S) rfl (by decide))))))), ?_⟩
 refine Pm.ref Jx (g:=fun xs=>_) ?_
 intro (i:Int) _
 simp only[Jx]
 walk_at "pd"
theorem Q7 {i:Int}:Jx.fn [.int i]=.ok (.bl true):=Pm.fn_eq Jx i trivial fun _ _=>rfl
noncomputable def ZG:Pm:=⟨Int×Int,fun a=>[.int a.1,.int a.2],fun _=>True,fun a=>.ok (.bl (decide (a.2<=a.1)))⟩
theorem Za9 (T:Txt K mg) {f:Addr}{fd:FuncData} (F:Fun K "is_whole_from" "is_whole_from" Yv f fd):Vi P w K mg base CX0 2 f fd ["value", "least"] (spF K 2 .P W0 ZG.fn):=by
 have Zk0:=VT (P:=P) (w:=w) (base:=base) T.Zkr ZiD (fun F=>Ziz T F)
 refine F.okP ZdH rfl rfl (fun cdv A outer s H E hr=>?_)
 have hu:=hr.units
 refine⟨_,_,⟨[],[],[],.P⟩,rfl,(Zk (Z9 (Zjo (Zo Zk0 (hr.mono (by decide)) rfl (Zb (pv 0) Zf)) (Zjm (ZcL Zq6 (pv 0) (pv 1) (Z8 _)))))),
   (Y8 (ZjF (DE.toA (Zor (Zd Zi) (Za (Zc (i:=0) (m:=.S) rfl (by decide)) Ze))) (Zrh (Zc (i:=0) (m:=.S) rfl (by decide)) (Zc (i:=1) (m:=.S) rfl (by decide))))), ?_⟩
 refine Pm.ref ZG (g:=fun xs=>_) ?_
 rintro⟨i,j⟩ _
 simp only[ZG]
 walk_at "pd"
 rw[Q7]
 walk_at "pd"
theorem Wp {i j:Int}:ZG.fn [.int i,.int j]=.ok (.bl (decide (j<=i))):=Pm.fn_eq ZG (i,j) trivial fun(a:Int×Int) e=>by (simp only[ZG,List.cons.injEq,PV.lst.injEq,PV.int.injEq,PV.str.injEq,PV.bl.injEq,PV.tup.injEq,Zy,and_true] at e ⊢;first|(simp only[e];done)|(subst e;rfl)|(rw[e]))
theorem ZdI:ZG.calm:=fun a q h=>by (simp only[ZG] at h;cases h)
noncomputable def Zs:Pm:=⟨List Int,fun ns=>[.lst (ns.map PV.int)],fun ns=>ns.length<=1000000,fun ns=>.ok (.bl (decide (∀x∈ns,0<=x)))⟩
theorem Vc (T:Txt K mg) {f:Addr}{fd:FuncData} (F:Fun K "is_list_from_nought" "is_list_from_nought" Z7 f fd):Vi P w K mg base CX0 3 f fd ["values"] (spF K 1 .P W0 Zs.fn):=by
 have UV:=VT (P:=P) (w:=w) (base:=base) T.Zbg ZaE (fun F=>Za9 T F)
 refine F.okP JY rfl rfl (fun cdv A outer s H E hr=>?_)
 have hu:=hr.units
 refine⟨_,_,⟨[],[],[],.P⟩,rfl,(Zk (Z9 (Zjo (Zr (ZeT (K:=K) (n := "list") rfl) rfl T.z_isinstance Zax (Zb (pv 0) (Zb (Zik (v:=.ty "list") rfl T.z_list Vu rfl) Zf))) (Zjm (Zr (ZhL (K:=K) rfl) rfl T.z_all Zow (Zb (ZcK (Qa (K:=K) (pv 0)) (fun _ _ _ _=>(Zo UV (hr.mono (by decide)) rfl (Zb (pv 1) (Zb Zl Zf)))) JY.nd rfl) Zf)))))),
   (Y8 (ZjF (DE.toA (Zmn (Zc (i:=0) (m:=.S) rfl (by decide)))) (Zoq (Za (DE.toA (Qe (DI.c (Zg5 (ZbS (i:=0) rfl))) (DE.PF (Zor (Zd (Zd Zi)) (Za (Zc (i:=1) (m:=.S) rfl (by decide)) (Za (DE.toA Zj) Ze)))))) Ze)))), ?_⟩
 refine Pm.ref Zs (g:=fun xs=>_) ?_
 intro (ns:List Int) (hn:ns.length<=1000000)
 simp only[Zs]
 walk_at "pd"
 rw[ZlF (g:=fun z=>decide (0<=z)) (fun z _=>Wp)]
 walk_at "pd"
 rw[Zm0]
theorem ZY {ns:List Int} (h:ns.length<=1000000):Zs.fn [.lst (ns.map PV.int)]=.ok (.bl (decide (∀x∈ns,0<=x))):=Pm.fn_eq Zs ns h fun(a:List Int) e=>by (simp only[Zs,List.cons.injEq,PV.lst.injEq,PV.int.injEq,PV.str.injEq,PV.bl.injEq,PV.tup.injEq,Zy,and_true] at e ⊢;first|(simp only[e];done)|(subst e;rfl)|(rw[e]))
theorem JZ:Zs.calm:=fun a q h=>by (simp only[Zs] at h;cases h)
noncomputable def Z0:Pm:=⟨List Int,fun ns=>[.lst (ns.map PV.int)],fun ns=>ns.length<=1000000,fun ns=>.ok (.lst ((JE ns).map PV.int))⟩
theorem JM (T:Txt K mg) {f:Addr}{fd:FuncData} (F:Fun K "without_last_noughts" "without_last_noughts" Z2 f fd):Vi P w K mg base CX0 1 f fd ["numbers"] (spF K 1 .F W0 Z0.fn):=by
 refine F.okP W4 rfl rfl (fun cdv A outer s H E hr=>?_)
 have hu:=hr.units
 refine⟨_,_,⟨[],[],[],.F⟩,rfl,(Zg (Zz (i:=1) W4.nd rfl (by first|exact Or.inl rfl|exact Or.inr rfl) (Zr (Z3 (K:=K)) rfl T.z_len Wt (Zb (pv 0) Zf)))
   (Zg (Vz PassesOwn.never (PW.pt (Zhe (Zu ZbH (pv 1) Zl (Z8 _)) (Zeq (Zu (Zb8 (K:=K) hu) (WD (ZA (K:=K)) (pv 0) (ZD Va (pv 1) Zl) (fun _ _=>rfl)) Zl (Z8 _))))) (Zk (ZaO (i:=1) W4.nd rfl (by first|exact Or.inl rfl|exact Or.inr rfl) Zl ZfL)))
   (Zk (Z9 (Zjl (ZiZ (K:=K)) (pv 0) Zlk (Zlj (pv 1))))))),
   (Zm (Γm:=[.S,.P]) (ZH (i:=1) (Wn (Za (Zc (i:=0) (m:=.S) rfl (by decide)) Ze)) (by decide))
   (Zm (Γm:=[.S,.P]) (V4 (Γ:=[.S,.P]) (Zh3 (Zt (DE.toA (ZbU (DE.toA (Zn (i:=1) rfl)) (DE.toA Zj)))) (Zt (DE.toA (Jo (g:=id) (Yo (te:=tC .non) (Zc (i:=0) (m:=.S) rfl (by decide)) (DE.toA (Vd (DE.toA (Zn (i:=1) rfl)) (DE.toA Zj)))) (DE.toA Zj)))))
   (UJ (i:=1) rfl (DE.toA Zj)))
   (YO (Zom (Zc (i:=0) (m:=.S) rfl (by decide)) Zmj (Zmi (DE.toA (Zn (i:=1) rfl))))))), ?_⟩
 refine Pm.ref Z0 (g:=fun xs=>_) ?_
 intro (ns:List Int) (hn:ns.length<=1000000)
 simp only[Z0]
 walk_at "pd"
 have ht:=ZdT ns ns.length
 generalize hw:JX _ _ _=W
 obtain⟨ρ',rfl,rfl⟩:=Wz hw (ns.length-Uw ns ns.length) (fun k ρ=>ρ=[.lst (ns.map PV.int),.int (((ns.length-k:Nat):Int))]) rfl (by
  rintro k ρ hk rfl
  have hz:=ZcA ns ns.length (ns.length-k-1) (by omega) (by omega)
  constructor
  ·walk_at "pd"
   rw[decide_eq_true (by omega)]
   walk_at "pd"
   rw[show ((ns.length-k:Nat):Int)-1=((ns.length-k-1:Nat):Int) by omega,Ztr,hz]
   walk_at "pd"
  ·walk_at "pd"
   exact Uy (by rw[show ((ns.length-k:Nat):Int)-1=((ns.length-(k+1):Nat):Int) by omega])) (by
  rintro ρ rfl
  have hl:=ZcB ns ns.length
  rw[show ns.length-(ns.length-Uw ns ns.length)=Uw ns ns.length by omega]
  walk_at "pd"
  by_cases h:0<Uw ns ns.length
  ·rw[decide_eq_true (by omega)]
   walk_at "pd"
   rw[show ((Uw ns ns.length:Nat):Int)-1=((Uw ns ns.length-1:Nat):Int) by omega,Ztr]
   rw[decide_eq_false (hl h)]
  ·rw[decide_eq_false (by omega)]
   walk_at "pd")
 walk_at "pd"
 rw[show ns.length-(ns.length-Uw ns ns.length)=Uw ns ns.length by omega]
 rfl
theorem ZM {ns:List Int} (h:ns.length<=1000000):Z0.fn [.lst (ns.map PV.int)]=.ok (.lst ((JE ns).map PV.int)):=Pm.fn_eq Z0 ns h fun(a:List Int) e=>by (simp only[Z0,List.cons.injEq,PV.lst.injEq,PV.int.injEq,PV.str.injEq,PV.bl.injEq,PV.tup.injEq,Zy,and_true] at e ⊢;first|(simp only[e];done)|(subst e;rfl)|(rw[e]))
noncomputable def Wh:Pm:=⟨List Int,fun a=>[.lst (a.map PV.int)],fun a=>a.length<=1000,fun a=>.ok (.lst ((JE (Zm8 a)).map PV.int))⟩
theorem UD (T:Txt K mg) {f:Addr}{fd:FuncData} (F:Fun K "row_with" "row_with" J1 f fd):Vi P w K mg base CX0 2 f fd ["added"] (spF K 1 .F W0 Wh.fn):=by
 have WO:=VT (P:=P) (w:=w) (base:=base) T.Vf JV (fun F=>JM T F)
 refine F.okP QH rfl rfl (fun cdv A outer s H E hr=>?_)
 have hu:=hr.units
 refine⟨_,_,⟨[],[],[],.F⟩,rfl,(Zg (Zz (i:=1) QH.nd rfl (by first|exact Or.inl rfl|exact Or.inr rfl) (ZD Va (Zr (Z3 (K:=K)) rfl T.z_len Wt (Zb (pv 0) Zf)) Zl))
   (Zk (Z9 (Zo WO (hr.mono (by decide)) rfl (Zb (Zbt (Zcj (K:=K) rfl T.z_enumerate (Zb (pv 0) Zf)) (ZdY (K:=K) QH.nd rfl) (fun _ _ _ _=>Zhg) (fun _ _ _ _=>(ZD VC (ZD Va (pv 1) (pv 2)) (pv 3))) hv2 QH.nd rfl) Zf))))),
   (Zm (Γm:=[.S,.P]) (ZH (i:=1) (Vd (DE.toA (Wn (Za (Zc (i:=0) (m:=.S) rfl (by decide)) Ze))) (DE.toA Zj)) (by decide))
   (YO (Zp6 (Zd Zi) (Za (DE.toA (Zec (k:=2) (DI.c (Zi5 (V5 (ZbS (i:=0) rfl) ZbV))) Zr6 Zh1 (DE.PF (VG (DE.toA (Vd (DE.toA (Zn (i:=1) rfl)) (Zc (i:=2) (m:=.S) rfl (by decide)))) (Zc (i:=3) (m:=.S) rfl (by decide)))))) Ze)))), ?_⟩
 refine Pm.ref Wh (g:=fun xs=>_) ?_
 rintro(a:List Int) (ha:a.length<=1000)
 simp only[Wh]
 walk_at "pd"
 rw[Zcv (g:=fun(i:Nat)=>.int ((a.length:Int)-1-i+a.getD i 0)) (fun i hi=>by
  walk_at "pd")]
 rw[Zez (by rw[Zas,Zto];omega)]
 walk_at "pd"
 rw[show (List.range a.length).map (fun(i:Nat)=>PV.int ((a.length:Int)-1-i+a.getD i 0))=(Zm8 a).map PV.int by unfold Zm8;rw[ZtZ];rfl]
 rw[ZM (by unfold Zm8;simp;omega)]
 walk_at "pd"
theorem Jl {a:List Int} (h:a.length<=1000):Wh.fn [.lst (a.map PV.int)]=.ok (.lst ((JE (Zm8 a)).map PV.int)):=Pm.fn_eq Wh a h fun(a:List Int) e=>by (simp only[Wh,List.cons.injEq,PV.lst.injEq,PV.int.injEq,PV.str.injEq,PV.bl.injEq,PV.tup.injEq,Zy,and_true] at e ⊢;first|(simp only[e];done)|(subst e;rfl)|(rw[e]))
theorem U4:Wh.calm:=fun a q h=>by (simp only[Wh] at h;cases h)
noncomputable def Zm9 (l:List Int):Option Str:=if Zm6 l then none else some "BadRow"
theorem QM {l:List Int} (h:Zm6 l):Zm9 l=none:=if_pos h
theorem ZbF {l:List Int} (h:¬Zm6 l):Zm9 l=(some "BadRow":Option Str):=if_neg h
noncomputable def Yy:Pm:=⟨List Int,fun a=>[.lst (a.map PV.int)],fun a=>a.length<=1000,fun a=>orX (Zm9 a) (.lst ((adL a).map PV.int))⟩
theorem UE (T:Txt K mg) {f:Addr}{fd:FuncData} (F:Fun K "added_in_row" "added_in_row" YE f fd):Vi P w K mg base (CX1 P w) 4 f fd ["row"] (spF K 1 .F (W1 K) Yy.fn):=by
 have YC:=VT (P:=P) (w:=w) (base:=base) T.Uz V6 (fun F=>V3 T F)
 have Jg:=VT (P:=P) (w:=w) (base:=base) T.VH Vg (fun F=>Vc T F)
 have Jn:=VT (P:=P) (w:=w) (base:=base) T.Q5 UP (fun F=>UD T F)
 obtain⟨C_BadRow,hC_BadRow,hQ_BadRow⟩:=ZdS T.x_exc (n := "BadRow") (by decide)
 refine F.okX ZaL rfl rfl (fun cdv A outer s H E hr=>?_)
 have hu:=hr.units
 refine⟨_,_,⟨[],[],[],.F⟩,rfl,(Zg (VR (PW.pt (Zfl (Zhf (ZfE (Zo Jg (hr.mono (by decide)) rfl (Zb (pv 0) Zf)))) (Zd3 (Zu ZbH (Zr (UN (K:=K) rfl) rfl T.z_sum ZeY (Zb (pv 0) Zf)) (QO T.c_MOST_ROW_SEEDS rfl) (Z8 _))))) (Zk (Zbr ZcQ hQ_BadRow rfl (T.x_mg _ _ hC_BadRow) rfl (Zb ZfG Zf))) Y6)
   (Zg (Zz (i:=1) ZaL.nd rfl (by first|exact Or.inl rfl|exact Or.inr rfl) (Zo YC (hr.mono (by decide)) rfl (Zb (pv 0) Zf)))
   (Zg (VR (PW.pt (Zfl (Zu Zjt (pv 1) Zb7 (Z8 _)) (Zd3 (Zu (Za8 (K:=K) hu) (Zo Jn (hr.mono (by decide)) rfl (Zb (pv 1) Zf)) (pv 0) (Z8 _))))) (Zk (Zbr ZcQ hQ_BadRow rfl (T.x_mg _ _ hC_BadRow) rfl (Zb ZfG Zf))) Y6)
   (Zk (Z9 (pv 1)))))),
   (Zm (Γm:=[.S,.U]) (Ui (Zfv (Zh2 (ZpR (DE.toA (Zg4 (Zd Zi) (Pm.calm_fn JZ) (Za (Zc (i:=0) (m:=.S) rfl (by decide)) Ze))))) (Zt (DE.toA (ZbU (DE.toA (ZeK (Za (Zc (i:=0) (m:=.S) rfl (by decide)) Ze))) (DE.toA Zj)))))
   (Zby hC_BadRow (Zd Zi) (by decide) (Za (DE.toA ZfT) Ze))
   Y9)
   (Zm (Γm:=[.S,.O]) (Y5 (i:=1) (Zh0 (Zd Zi) (Pm.calm_fn WJ) (Za (Zc (i:=0) (m:=.S) rfl (by decide)) Ze)) (by decide))
   (Zm (Γm:=[.S,.O]) (Ui (Zfv (Zt (DE.toA (ZjE (Zc (i:=1) (m:=.O) rfl (by decide))))) (Zt (DE.toA (Jo (g:=(!·)) (DE.toA (Zh0 (Zd Zi) (Pm.calm_fn U4) (Za (Zc (i:=1) (m:=.O) rfl (by decide)) Ze))) (Zc (i:=0) (m:=.S) rfl (by decide))))))
   (Zby hC_BadRow (Zd Zi) (by decide) (Za (DE.toA ZfT) Ze))
   Y9)
   (YO (ZbT (i:=1) rfl))))), ?_⟩
 refine Pm.ref Yy (g:=fun xs=>_) ?_
 rintro(l:List Int) (n1:l.length<=1000)
 simp only[Yy]
 walk_at "pd"
 rw[ZY (by omega)]
 by_cases h1:∀x∈l,0<=x
 ·rw[decide_eq_true h1]
  walk_at "pd"
  by_cases h2:l.sum<=2000
  ·rw[decide_eq_false (show ¬2000<l.sum by omega)]
   walk_at "pd"
   have s0:=Zga h1
   have hk:=Zba s0 h2
   rw[Jm ⟨⟨h1,h2⟩,n1⟩]
   unfold ZpJ
   by_cases h3:Fit l
   ·rw[if_pos h3]
    have hal:=Zfa l
    walk_at "pd"
    rw[Jl (by omega)]
    walk_at "pd"
    rw[show JE (Zm8 (adL l))=Yl (adL l) from rfl]
    by_cases h4:Yl (adL l)=l
    ·rw[QM ⟨⟨h1,h2⟩,h3,(Zi2 h3.1).mp h4⟩,decide_eq_true h4]
     walk_at "pd"
    ·rw[ZbF (fun z=>h4 ((Zi2 h3.1).mpr z.2.2)),decide_eq_false h4]
     walk_at "pd"
   ·rw[if_neg h3,ZbF (fun z=>h3 z.2.1)]
    walk_at "pd"
  ·rw[decide_eq_true (show 2000<l.sum by omega),ZbF (fun z=>h2 z.1.2)]
   walk_at "pd"
 ·rw[decide_eq_false h1,ZbF (fun z=>h1 z.1.1)]
  walk_at "pd"
theorem Wk {l:List Int} (h:l.length<=1000):Yy.fn [.lst (l.map PV.int)]=orX (Zm9 l) (.lst ((adL l).map PV.int)):=Pm.fn_eq Yy l h fun(a:List Int) e=>by (simp only[Yy,List.cons.injEq,PV.lst.injEq,PV.int.injEq,PV.str.injEq,PV.bl.injEq,PV.tup.injEq,Zy,and_true] at e ⊢;first|(simp only[e];done)|(subst e;rfl)|(rw[e]))
noncomputable def WH:Pm:=⟨List Int×Int,fun a=>[.lst (a.1.map PV.int),.int a.2],fun a=>0<a.1.length/\a.1.length<=1000,fun a=>.ok (.lst ((Uv a.1 a.2).map PV.int))⟩
theorem Zdd (T:Txt K mg) {f:Addr}{fd:FuncData} (F:Fun K "turn_by" "turn_by" V9 f fd):Vi P w K mg base CX0 1 f fd ["board", "k"] (spF K 2 .F W0 WH.fn):=by
 refine F.okP ZcH rfl rfl (fun cdv A outer s H E hr=>?_)
 have hu:=hr.units
 refine⟨_,_,⟨[],[],[],.F⟩,rfl,(Zg (Zz (i:=2) ZcH.nd rfl (by first|exact Or.inl rfl|exact Or.inr rfl) (Zr (Z3 (K:=K)) rfl T.z_len Wt (Zb (pv 0) Zf)))
   (Zk (Z9 (ZcK (WV rfl T.z_range (Zb (pv 2) Zf)) (fun _ _ _ _=>(WD (ZA (K:=K)) (pv 0) (ZD Vb (ZD Va (pv 3) (pv 1)) (pv 2)) (fun _ _=>rfl))) ZcH.nd rfl)))),
   (Zm (Γm:=[.S,.S,.P]) (ZH (i:=2) (Wn (Za (Zc (i:=0) (m:=.S) rfl (by decide)) Ze)) (by decide))
   (YO (Qe (DI.c (UK (Za (DE.toA (Zn (i:=2) rfl)) Ze))) (DE.PF (DE.grd (Yo (te:=tC .non) (Zc (i:=0) (m:=.S) rfl (by decide)) (DE.toA (Ve (DE.toA (Vd (Zc (i:=3) (m:=.S) rfl (by decide)) (Zc (i:=1) (m:=.S) rfl (by decide)))) (DE.toA (Zn (i:=2) rfl)))))))))), ?_⟩
 refine Pm.ref WH (g:=fun xs=>_) ?_
 rintro⟨bs,k⟩ ⟨h0,h1⟩
 simp only at h0 h1
 simp only[WH]
 walk_at "pd"
 rw[ZlE (g:=fun x=>bs.getD (((x:Int)-k)%bs.length).toNat 0) (fun i hi=>by
  have y0:=Zum ((i:Int)-k) (show (bs.length:Int)≠0 by omega)
  have y1:=Zuh ((i:Int)-k) (show (0:Int)<bs.length by omega)
  rw[Zuo]
  walk_at "pd")]
 walk_at "pd"
 rfl
theorem VJ {bs:List Int}{k:Int} (h:0<bs.length/\bs.length<=1000):WH.fn [.lst (bs.map PV.int),.int k]=.ok (.lst ((Uv bs k).map PV.int)):=Pm.fn_eq WH (bs,k) h fun(a:List Int×Int) e=>by (simp only[WH,List.cons.injEq,PV.lst.injEq,PV.int.injEq,PV.str.injEq,PV.bl.injEq,PV.tup.injEq,Zy,and_true] at e ⊢;first|(simp only[e];done)|(subst e;rfl)|(rw[e]))
theorem ZfH:WH.calm:=fun a q h=>by (simp only[WH] at h;cases h)
noncomputable def Zra (a:List Int):PV:=.tup [.lst ((Yl (ZpQ a).1).map PV.int),.int (ZpQ a).2]
noncomputable def ZV:Pm:=⟨List Int,fun a=>[.lst (a.map PV.int)],fun a=>a.length<=1000,fun a=>orX (Zm9 a) (Zra (adL a))⟩
theorem Q4 (T:Txt K mg) {f:Addr}{fd:FuncData} (F:Fun K "first_of_round" "first_of_round" Yj f fd):Vi P w K mg base (CX1 P w) 5 f fd ["row"] (spF K 1 .F (W1 K) ZV.fn):=by
 have Jw:=JD (P:=P) (w:=w) (base:=base) T.Qt UQ (fun F=>UE T F)
 have Jn:=VT (P:=P) (w:=w) (base:=base) T.Q5 UP (fun F=>UD T F)
 have Zbm:=VT (P:=P) (w:=w) (base:=base) T.ZeO Zdq (fun F=>Zdd T F)
 refine F.okX Ji rfl rfl (fun cdv A outer s H E hr=>?_)
 have hu:=hr.units
 refine⟨_,_,⟨[],[],[],.F⟩,rfl,(Zg (Zz (i:=1) Ji.nd rfl (by first|exact Or.inl rfl|exact Or.inr rfl) (Z6 Jw (hr.mono (by decide)) rfl Jy (Zb (pv 0) Zf)))
   (Zg (Zz (i:=2) Ji.nd rfl (by first|exact Or.inl rfl|exact Or.inr rfl) (Zr (Zkv (K:=K) hu rfl) rfl T.z_min Zov (Zb (ZcK (WV rfl T.z_range (Zb (Zr (Z3 (K:=K)) rfl T.z_len Wt (Zb (pv 1) Zf)) Zf)) (fun _ _ _ _=>(Zd4 (Zb (Zo Zbm (hr.mono (by decide)) rfl (Zb (pv 1) (Zb (Zln ZgQ (pv 3)) Zf))) (Zb (pv 3) Zf)))) Ji.nd rfl) Zf)))
   (Zk (Z9 (Zd4 (Zb (Zo Jn (hr.mono (by decide)) rfl (Zb (WD (ZA (K:=K)) (pv 2) Zl (fun _ _=>rfl)) Zf)) (Zb (WD (ZA (K:=K)) (pv 2) Zl (fun _ _=>rfl)) Zf))))))),
   (Zm (Γm:=[.S,.O,.U]) (Y5 (i:=1) (Zsb (Zd Zi) (Za (Zc (i:=0) (m:=.S) rfl (by decide)) Ze)) (by decide))
   (Zm (Γm:=[.S,.O,.O]) (Y5 (i:=2) (Zp2 (Qe (DI.c (UK (Za (DE.toA (Wn (Za (Zc (i:=1) (m:=.O) rfl (by decide)) Ze))) Ze))) (ZeJ (YN (Zh0 (Zd (Zd Zi)) (Pm.calm_fn ZfH) (Za (Zc (i:=1) (m:=.O) rfl (by decide)) (Za (DE.toA (Zh7 (Zc (i:=3) (m:=.S) rfl (by decide)))) Ze))) (YN (DE.PF (DE.grd (Zc (i:=3) (m:=.S) rfl (by decide)))) YQ))))) (by decide))
   (YO (ZeJ (YN (Zh0 (Zd Zi) (Pm.calm_fn U4) (Za (Yo (te:=tC .non) (Zc (i:=2) (m:=.O) rfl (by decide)) (DE.toA Zj)) Ze)) (YN (DE.PF (DE.grd (Yo (te:=tC .non) (Zc (i:=2) (m:=.O) rfl (by decide)) (DE.toA Zj)))) YQ)))))), ?_⟩
 refine Pm.ref ZV (g:=fun xs=>_) ?_
 rintro(l:List Int) (n1:l.length<=1000)
 simp only[ZV]
 walk_at "pd"
 rw[Wk n1]
 by_cases hr:Zm6 l
 ·rw[QM hr]
  obtain⟨ha,hl⟩:=hr.bin
  have n2:=ha.2.1
  have n3:=ha.2.2.1
  simp only[orX]
  generalize adL l=a at ha hl n2 n3
  subst hl
  walk_at "pd"
  rw[Zgp (g:=fun k=>Wm (WP a k,(k:Int))) (fun i hi=>by
   rw[Zuo]
   walk_at "pd"
   rw[VJ ⟨by omega,by omega⟩,Zjd]
   walk_at "pd"
   rfl)]
  walk_at "pd"
  rw[show (List.range (a.length:Int).toNat).map (fun(k:Nat)=>Wm (WP a k,(k:Int)))=(ZkX a).map Wm by
   unfold ZkX
   rw[ZtZ,show (a.length:Int).toNat=a.length by omega]
   rfl]
  rw[ZmX (Zmc (a:=a) (by omega))]
  obtain⟨m,m1,m2,m3,m4⟩:=ZeE (a:=a) (by omega)
  unfold Zra
  rw[m2]
  simp only[Wm]
  walk_at "pd"
  rw[Jl (by rw[ZI];omega)]
  walk_at "pd"
  rfl
 ·rw[ZbF hr]
  walk_at "pd"
theorem YT {l:List Int} (h:l.length<=1000):ZV.fn [.lst (l.map PV.int)]=orX (Zm9 l) (Zra (adL l)):=Pm.fn_eq ZV l h fun(a:List Int) e=>by (simp only[ZV,List.cons.injEq,PV.lst.injEq,PV.int.injEq,PV.str.injEq,PV.bl.injEq,PV.tup.injEq,Zy,and_true] at e ⊢;first|(simp only[e];done)|(subst e;rfl)|(rw[e]))
noncomputable def ZdJ (ns:List Int):Option Str:=if ZC ns then none else some "BadLine"
theorem JL {ns:List Int} (h:ZC ns):ZdJ ns=none:=if_pos h
theorem V2 {ns:List Int} (h:¬ZC ns):ZdJ ns=(some "BadLine":Option Str):=if_neg h
noncomputable def Wc:Pm:=⟨List Int,fun ns=>[.lst (ns.map PV.int)],fun ns=>ns.length<=1000000,fun ns=>orX (ZdJ ns) .non⟩
theorem JN (T:Txt K mg) {f:Addr}{fd:FuncData} (F:Fun K "check_line" "check_line" Ww f fd):Vi P w K mg base (CX1 P w) 4 f fd ["line"] (spF K 1 .P (W1 K) Wc.fn):=by
 have Jg:=VT (P:=P) (w:=w) (base:=base) T.VH Vg (fun F=>Vc T F)
 obtain⟨C_BadLine,hC_BadLine,hQ_BadLine⟩:=ZdS T.x_exc (n := "BadLine") (by decide)
 refine F.okX Zgc rfl rfl (fun cdv A outer s H E hr=>?_)
 have hu:=hr.units
 refine⟨_,_,⟨[.S],[],[],.P⟩,rfl,(Zg (VR (PW.pt (Zfl (Zhf (ZfE (Zo Jg (hr.mono (by decide)) rfl (Zb (pv 0) Zf)))) (Zfl (Zu ZbH (Zr (Z3 (K:=K)) rfl T.z_len Wt (Zb (pv 0) Zf)) (QO T.c_MOST_LINE_PITS rfl) (Z8 _)) (Zd3 (Zu ZbH (Zr (UN (K:=K) rfl) rfl T.z_sum ZeY (Zb (pv 0) Zf)) (QO T.c_MOST_LINE_SEEDS rfl) (Z8 _)))))) (Zk (Zbr ZcQ hQ_BadLine rfl (T.x_mg _ _ hC_BadLine) rfl (Zb ZfG Zf))) Y6)
   (Zk (VR (PW.pt (Zhe (Zu ZbH (Zr (Z3 (K:=K)) rfl T.z_len Wt (Zb (pv 0) Zf)) Zl (Z8 _)) (Zeq (PW.pt (Zfl (Zu (Zb8 (K:=K) hu) (WD (ZA (K:=K)) (pv 0) Zl (fun _ _=>rfl)) Zl (Z8 _)) (Zd3 (Zu (Zb8 (K:=K) hu) (WD (ZA (K:=K)) (pv 0) (Zln ZgQ Zl) (fun _ _=>rfl)) Zl (Z8 _)))))))) (Zk (Zbr ZcQ hQ_BadLine rfl (T.x_mg _ _ hC_BadLine) rfl (Zb ZfG Zf))) Y6))),
   (Zm (Γm:=[.S]) (Ui (Zfv (Zh2 (ZpR (DE.toA (Zg4 (Zd Zi) (Pm.calm_fn JZ) (Za (Zc (i:=0) (m:=.S) rfl (by decide)) Ze))))) (Zfv (Zt (DE.toA (ZbU (DE.toA (Wn (Za (Zc (i:=0) (m:=.S) rfl (by decide)) Ze))) (DE.toA Zj)))) (Zt (DE.toA (ZbU (DE.toA (ZeK (Za (Zc (i:=0) (m:=.S) rfl (by decide)) Ze))) (DE.toA Zj))))))
   (Zby hC_BadLine (Zd Zi) (by decide) (Za (DE.toA ZfT) Ze))
   Y9)
   (Ui (Zh3 (Zt (DE.toA (ZbU (DE.toA (Wn (Za (Zc (i:=0) (m:=.S) rfl (by decide)) Ze))) (DE.toA Zj)))) (Zfv (Zt (DE.toA (Jo (g:=id) (Yo (te:=tC .non) (Zc (i:=0) (m:=.S) rfl (by decide)) (DE.toA Zj)) (DE.toA Zj)))) (Zt (DE.toA (Jo (g:=id) (Yo (te:=tC .non) (Zc (i:=0) (m:=.S) rfl (by decide)) (DE.toA (Zh7 (DE.toA Zj)))) (DE.toA Zj))))))
   (Zby hC_BadLine (Zd Zi) (by decide) (Za (DE.toA ZfT) Ze))
   Y9)), ?_⟩
 refine Pm.ref Wc (g:=fun xs=>_) ?_
 intro (ns:List Int) (hn:ns.length<=1000000)
 simp only[Wc]
 walk_at "pd"
 rw[ZY hn]
 walk_at "pd"
 by_cases h1:∀x∈ns,0<=x
 ·rw[decide_eq_true h1]
  walk_at "pd"
  by_cases h2:ns.length<=100
  ·rw[decide_eq_false (by omega)]
   walk_at "pd"
   by_cases h3:ns.sum<=100
   ·rw[decide_eq_false (by omega)]
    walk_at "pd"
    by_cases h4:ns=[]
    ·subst h4
     walk_at "pd"
     rw[JL ⟨by simp,by simp,by simp,.inl rfl⟩]
     rfl
    ·have hl:0<ns.length:=Zue.mpr h4
     rw[decide_eq_true (by omega)]
     walk_at "pd"
     rw[Zgl h4]
     walk_at "pd"
     by_cases h5:ns.getD 0 0=0
     ·rw[decide_eq_true h5,V2 (fun z=>by rcases z.2.2.2 with z|z;contradiction;exact z.1 h5)]
      walk_at "pd" <;> rfl
     ·rw[decide_eq_false h5]
      walk_at "pd"
      by_cases h6:ns.getD (ns.length-1) 0=0
      ·rw[decide_eq_true h6,V2 (fun z=>by rcases z.2.2.2 with z|z;contradiction;exact z.2 h6)]
       walk_at "pd" <;> rfl
      ·rw[decide_eq_false h6,JL ⟨h1,h2,h3,.inr ⟨h5,h6⟩⟩]
       walk_at "pd" <;> rfl
   ·rw[decide_eq_true (by omega),V2 (fun z=>h3 z.2.2.1)];walk_at "pd" <;> rfl
  ·rw[decide_eq_true (by omega),V2 (fun z=>h2 z.2.1)];walk_at "pd" <;> rfl
 ·rw[decide_eq_false h1,V2 (fun z=>h1 z.1)];walk_at "pd" <;> rfl
theorem We {ns:List Int} (h:ns.length<=1000000):Wc.fn [.lst (ns.map PV.int)]=orX (ZdJ ns) .non:=Pm.fn_eq Wc ns h fun(a:List Int) e=>by (simp only[Wc,List.cons.injEq,PV.lst.injEq,PV.int.injEq,PV.str.injEq,PV.bl.injEq,PV.tup.injEq,Zy,and_true] at e ⊢;first|(simp only[e];done)|(subst e;rfl)|(rw[e]))
open Classical in
noncomputable def Zqj (l:List Int):Bool:=decide (Row l)
theorem ZnW {l:List Int} (h:Row l):Zqj l=true:=by classical exact decide_eq_true h
theorem Zqi {l:List Int} (h:¬Row l):Zqj l=false:=by classical exact decide_eq_false h
noncomputable def Yr:Pm:=⟨List Int,fun a=>[.lst (a.map PV.int)],fun a=>a.length<=100000,fun a=>orX (ZdJ a) (.bl (Zqj a))⟩
theorem Zft (T:Txt K mg) {f:Addr}{fd:FuncData} (F:Fun K "is_marching" "is_marching" YY f fd):Vi P w K mg base (CX1 P w) 5 f fd ["line"] (spF K 1 .P (W1 K) Yr.fn):=by
 have Wf:=JD (P:=P) (w:=w) (base:=base) T.VI JW (fun F=>JN T F)
 have YC:=VT (P:=P) (w:=w) (base:=base) T.Uz V6 (fun F=>V3 T F)
 refine F.okX Zfi rfl rfl (fun cdv A outer s H E hr=>?_)
 have hu:=hr.units
 refine⟨_,_,⟨[],[],[],.P⟩,rfl,(Zg (W7 (Z6 Wf (hr.mono (by decide)) rfl Jy (Zb (pv 0) Zf)))
   (Zk (Z9 (ZcL Zpc (Zo YC (hr.mono (by decide)) rfl (Zb (pv 0) Zf)) Zb7 (Z8 _))))),
   (Zm (Γm:=[.S]) (Qs (DE.toA (Zk7 (Zd Zi) (Za (Zc (i:=0) (m:=.S) rfl (by decide)) Ze))))
   (Y8 (Zp1 (DE.toA (Zh0 (Zd Zi) (Pm.calm_fn WJ) (Za (Zc (i:=0) (m:=.S) rfl (by decide)) Ze)))))), ?_⟩
 refine Pm.ref Yr (g:=fun xs=>_) ?_
 rintro(l:List Int) (hl:l.length<=100000)
 simp only[Yr]
 walk_at "pd"
 rw[We (by omega)]
 by_cases h:ZC l
 ·rw[JL h]
  simp only[orX]
  walk_at "pd"
  rw[Wj h]
  unfold Zox
  by_cases hr:Row l
  ·rw[if_pos hr,ZnW hr]
   walk_at "pd"
  ·rw[if_neg hr,Zqi hr]
   walk_at "pd"
 ·rw[V2 h]
  simp only[orX]
  walk_at "pd"
theorem JU {l:List Int} (h:l.length<=100000):Yr.fn [.lst (l.map PV.int)]=orX (ZdJ l) (.bl (Zqj l)):=Pm.fn_eq Yr l h fun(a:List Int) e=>by (simp only[Yr,List.cons.injEq,PV.lst.injEq,PV.int.injEq,PV.str.injEq,PV.bl.injEq,PV.tup.injEq,Zy,and_true] at e ⊢;first|(simp only[e];done)|(subst e;rfl)|(rw[e]))
theorem ZdO {l:List Int} (h:ZC l):Yr.fn [.lst (l.map PV.int)]=.ok (.bl (Zqj l)):=by
 rw[JU (by have:=h.2.1;omega),JL h];rfl
noncomputable def WI:Pm:=⟨Int×Int,fun a=>[.int a.1,.int a.2],fun a=>(0<=a.1/\a.1<=63)/\0<=a.2,fun a=>.ok (.int (if a.1<a.2 then 0 else chI a.1 a.2.toNat))⟩
theorem Zbx (T:Txt K mg) {f:Addr}{fd:FuncData} (F:Fun K "choices" "choices" VB f fd):Vi P w K mg base CX0 1 f fd ["places", "chosen"] (spF K 2 .P W0 WI.fn):=by
 refine F.okP Zbp rfl rfl (fun cdv A outer s H E hr=>?_)
 have hu:=hr.units
 refine⟨_,_,⟨[],[],[],.P⟩,rfl,(Zg (VR (Zu ZbH (pv 1) (pv 0) (Z8 _)) (Zk (Z9 Zl)) Y6)
   (Zg (Zz (i:=2) Zbp.nd rfl (by first|exact Or.inl rfl|exact Or.inr rfl) Zl)
   (Zg (Zch PassesOwn.never rfl (WV rfl T.z_range (Zb (pv 1) Zf)) (JJ (i:=3) Zbp.nd rfl (by first|exact Or.inl rfl|exact Or.inr rfl)) (Zk (Zz (i:=2) Zbp.nd rfl (by first|exact Or.inl rfl|exact Or.inr rfl) (ZD QQ (ZD ZcN (pv 2) (ZD Va (pv 0) (pv 3))) (ZD VC (pv 3) Zl)))))
   (Zk (Z9 (pv 2)))))),
   (Zm (Γm:=[.S,.S,.U,.U]) (Ui (Zt (DE.toA (ZbU (Zc (i:=1) (m:=.S) rfl (by decide)) (Zc (i:=0) (m:=.S) rfl (by decide)))))
   (Y8 Zj)
   Y9)
   (Zm (Γm:=[.S,.S,.P,.U]) (ZH (i:=2) Zj (by decide))
   (Zm (Γm:=[.S,.S,.P,.U]) (Zcw (Γl:=[.S,.S,.P,.U]) (UK (Za (Zc (i:=1) (m:=.S) rfl (by decide)) Ze)) rfl (Zol (i:=3) (by decide))
   (DS.out (Y:=⟨[.S,.S,.P,.P],[.S,.S,.P,.U],[.S,.S,.P,.U],.P⟩) (Y':=⟨[.S,.S,.P,.U],[.S,.S,.P,.U],[.S,.S,.P,.U],.P⟩) (ZH (i:=2) (ZeL (DE.toA (ZfV (DE.toA (Zn (i:=2) rfl)) (DE.toA (Vd (Zc (i:=0) (m:=.S) rfl (by decide)) (DE.toA (Zn (i:=3) rfl)))))) (DE.toA (VG (DE.toA (Zn (i:=3) rfl)) (DE.toA Zj)))) (by decide)) rfl rfl rfl rfl))
   (Y8 (Zn (i:=2) rfl))))), ?_⟩
 refine Pm.ref WI (g:=fun xs=>_) ?_
 rintro⟨n,c⟩ ⟨⟨h0,h1⟩,h2⟩
 simp only at h0 h1 h2
 simp only[WI]
 walk_at "pd"
 by_cases e:n<c
 ·rw[decide_eq_true e,if_pos e]
  walk_at "pd"
 ·rw[decide_eq_false e,if_neg e]
  walk_at "pd"
  generalize hw:ZfP _ _ _=W
  obtain⟨ρ',rfl,v,rfl⟩:=WZ hw (fun i ρ=>∃v,ρ=[.int n,.int c,.int (chI n i),v]) ⟨_,rfl⟩ (by
   rintro i x ρ hx ⟨v,rfl⟩
   obtain⟨hi,rfl⟩:=UZ hx
   have hki:(i:Int)<=n:=by omega
   have hb:=Zou h0 h1 hki
   have b0:=hb.1
   have b1:=hb.2
   walk_at "pd"
   exact Uy ⟨_,by rw[chI,Zuo]⟩)
  walk_at "pd"
  rw[W6]
theorem VN {n c:Int} (h:(0<=n/\n<=63)/\0<=c):WI.fn [.int n,.int c]=.ok (.int (if n<c then 0 else chI n c.toNat)):=Pm.fn_eq WI (n,c) h fun(a:Int×Int) e=>by (simp only[WI,List.cons.injEq,PV.lst.injEq,PV.int.injEq,PV.str.injEq,PV.bl.injEq,PV.tup.injEq,Zy,and_true] at e ⊢;first|(simp only[e];done)|(subst e;rfl)|(rw[e]))
theorem ZcM:WI.calm:=fun a q h=>by (simp only[WI] at h;cases h)
noncomputable def Ym:Pm:=⟨List Int,fun a=>[.lst (a.map PV.int)],fun a=>a.length<=1000,fun a=>orX (Zm9 a) (.int (rkN (adL a)))⟩
theorem ZdK (T:Txt K mg) {f:Addr}{fd:FuncData} (F:Fun K "number_of_row" "number_of_row" Yu f fd):Vi P w K mg base (CX1 P w) 5 f fd ["row"] (spF K 1 .P (W1 K) Ym.fn):=by
 have Jw:=JD (P:=P) (w:=w) (base:=base) T.Qt UQ (fun F=>UE T F)
 have UW:=VT (P:=P) (w:=w) (base:=base) T.Zcz Zb2 (fun F=>Zbx T F)
 refine F.okX Yf rfl rfl (fun cdv A outer s H E hr=>?_)
 have hu:=hr.units
 refine⟨_,_,⟨[],[],[],.P⟩,rfl,(Zg (Zz (i:=1) Yf.nd rfl (by first|exact Or.inl rfl|exact Or.inr rfl) (Z6 Jw (hr.mono (by decide)) rfl Jy (Zb (pv 0) Zf)))
   (Zg (Zz (i:=2) Yf.nd rfl (by first|exact Or.inl rfl|exact Or.inr rfl) (Zr (UN (K:=K) rfl) rfl T.z_sum ZeY (Zb (pv 1) Zf)))
   (Zg (Zz (i:=3) Yf.nd rfl (by first|exact Or.inl rfl|exact Or.inr rfl) Zl)
   (Zg (PS.nox (Zch PassesOwn.never rfl (Zcj (K:=K) rfl T.z_enumerate (Zb (pv 1) Zf)) (Zlm rfl (Zbs (JJ (i:=4) Yf.nd rfl (by first|exact Or.inl rfl|exact Or.inr rfl)) (Zbs (JJ (i:=5) Yf.nd rfl (by first|exact Or.inl rfl|exact Or.inr rfl)) Zij))) (Zk (VR (Zu (Zb8 (K:=K) hu) (pv 5) Zl (Z8 _)) (Zg (ZaO (i:=3) Yf.nd rfl (by first|exact Or.inl rfl|exact Or.inr rfl) (Zo UW (hr.mono (by decide)) rfl (Zb (ZD Va (ZD Va (Zr (Z3 (K:=K)) rfl T.z_len Wt (Zb (pv 1) Zf)) (pv 4)) Zl) (Zb (pv 2) Zf))) Zhr)
   (Zk (ZaO (i:=2) Yf.nd rfl (by first|exact Or.inl rfl|exact Or.inr rfl) Zl ZfL))) Y6))))
   (Zk (Z9 (pv 3))))))),
   (Zm (Γm:=[.S,.O,.U,.U,.U,.U]) (Y5 (i:=1) (Zsb (Zd Zi) (Za (Zc (i:=0) (m:=.S) rfl (by decide)) Ze)) (by decide))
   (Zm (Γm:=[.S,.O,.P,.U,.U,.U]) (ZH (i:=2) (ZeK (Za (Zc (i:=1) (m:=.O) rfl (by decide)) Ze)) (by decide))
   (Zm (Γm:=[.S,.O,.P,.P,.U,.U]) (ZH (i:=3) Zj (by decide))
   (Zm (Γm:=[.S,.S,.P,.P,.U,.U]) (Zcw (Γl:=[.S,.S,.P,.P,.U,.U]) (Zi5 (V5 (Zdm (i:=1) (m:=.O) rfl (by decide)) ZbV)) rfl (Zre (n:=2) (ZjD (Zol (i:=4) (by decide)) (ZjD (Zol (i:=5) (by decide)) Zpy)))
   (DS.out (Y:=⟨[.S,.S,.P,.P,.P,.P],[.S,.S,.P,.P,.U,.U],[.S,.S,.P,.P,.U,.U],.P⟩) (Y':=⟨[.S,.S,.P,.P,.U,.U],[.S,.S,.P,.P,.U,.U],[.S,.S,.P,.P,.U,.U],.P⟩) (Ui (Zt (DE.toA (Jo (g:=id) (DE.toA (Zn (i:=5) rfl)) (DE.toA Zj))))
   (Zm (Γm:=[.S,.S,.P,.P,.P,.P]) (UJ (i:=3) rfl (DE.toA (Zg4 (Zd (Zd Zi)) (Pm.calm_fn ZcM) (Za (DE.toA (Vd (DE.toA (Vd (DE.toA (Wn (Za (Zc (i:=1) (m:=.S) rfl (by decide)) Ze))) (DE.toA (Zn (i:=4) rfl)))) (DE.toA Zj))) (Za (DE.toA (Zn (i:=2) rfl)) Ze)))))
   (UJ (i:=2) rfl (DE.toA Zj)))
   Y9) rfl rfl rfl rfl))
   (Y8 (Zn (i:=3) rfl)))))), ?_⟩
 refine Pm.ref Ym (g:=fun xs=>_) ?_
 rintro(l:List Int) (n1:l.length<=1000)
 simp only[Ym]
 walk_at "pd"
 rw[Wk n1]
 by_cases hr:Zm6 l
 ·rw[QM hr]
  obtain⟨ha,hl⟩:=hr.bin
  have n2:=ha.2.1
  have n3:=ha.2.2.1
  simp only[orX]
  generalize adL l=a at ha hl n2 n3
  subst hl
  walk_at "pd"
  generalize hw:ZfP _ _ _=W
  obtain⟨ρ',rfl,v,w,rfl⟩:=WZ hw (fun i ρ=>∃v w,ρ=[.lst ((Yl a).map PV.int),.lst (a.map PV.int),.int (a.drop i).sum,.int (rkN a-rkN (a.drop i)),v,w]) ⟨_,_,by rw[Zu2,Int.sub_self]⟩ (by
   rintro i x ρ hx ⟨v,w,rfl⟩
   obtain⟨hi,rfl⟩:=Zn4 hx
   have hg:a.getD i 0=a[i]:=by rw[Zte,Ztf hi];rfl
   have hd:a.drop i=a.getD i 0::a.drop (i+1):=by rw[hg];exact Zty hi
   have hm:∀y∈a.drop (i+1),y=0\/y=1:=fun y hy=>ha.1 y (ZtJ hy)
   obtain⟨s1,s2,_⟩:=Zet hm
   have hdl:(a.drop (i+1)).length=a.length-(i+1):=ZtR
   have g:=ha.get i
   rw[hd,Zt3,rkN]
   walk_at "pd"
   rcases g with z|z
   ·rw[z,if_neg (show ¬(0:Int)=1 by decide),decide_eq_false (show ¬(0:Int)=1 by decide),Zuo]
    walk_at "pd"
    exact Uy ⟨_,_,rfl⟩
   ·rw[z,if_pos (rfl:(1:Int)=1),decide_eq_true (rfl:(1:Int)=1)]
    walk_at "pd"
    rw[VN ⟨⟨by omega,by omega⟩,by omega⟩]
    walk_at "pd"
    have ec:(if (a.length:Int)-(i:Int)-1<1+(a.drop (i+1)).sum then 0 else chI ((a.length:Int)-(i:Int)-1) (1+(a.drop (i+1)).sum).toNat)=cC (a.drop (i+1)).length ((a.drop (i+1)).sum.toNat+1):=by
     unfold cC
     rw[show (1+(a.drop (i+1)).sum).toNat=(a.drop (i+1)).sum.toNat+1 by omega,show (a.length:Int)-(i:Int)-1=((a.drop (i+1)).length:Int) by omega]
     generalize (a.drop (i+1)).sum=sm at s1 ⊢
     generalize (a.drop (i+1)).length=ln
     by_cases c:ln<sm.toNat+1
     ·rw[if_pos c,if_pos (by omega)]
     ·rw[if_neg c,if_neg (by omega)]
    rw[ec]
    generalize cC (a.drop (i+1)).length ((a.drop (i+1)).sum.toNat+1)=cc
    rw[show rkN a-(cc+rkN (a.drop (i+1)))+cc=rkN a-rkN (a.drop (i+1)) by omega,show 1+(a.drop (i+1)).sum-1=(a.drop (i+1)).sum by omega]
    exact Uy ⟨_,_,rfl⟩)
  walk_at "pd"
  rw[Zas,Zto,Zvr]
  show Rr.ok (PV.int (rkN a-0))=_
  rw[Int.sub_zero]
 ·rw[ZbF hr]
  walk_at "pd"
theorem Jd {l:List Int} (h:l.length<=1000):Ym.fn [.lst (l.map PV.int)]=orX (Zm9 l) (.int (rkN (adL l))):=Pm.fn_eq Ym l h fun(a:List Int) e=>by (simp only[Ym,List.cons.injEq,PV.lst.injEq,PV.int.injEq,PV.str.injEq,PV.bl.injEq,PV.tup.injEq,Zy,and_true] at e ⊢;first|(simp only[e];done)|(subst e;rfl)|(rw[e]))
noncomputable def V0:Pm:=⟨List Int,fun ns=>[.lst (ns.map PV.int)],fun ns=>ZC ns,fun ns=>.ok (.lst ((Yc ns).map PV.int))⟩
theorem Zgy (T:Txt K mg) {f:Addr}{fd:FuncData} (F:Fun K "march" "march" ZaM f fd):Vi P w K mg base CX0 1 f fd ["line"] (spF K 1 .F W0 V0.fn):=by
 refine F.okP ZdW rfl rfl (fun cdv A outer s H E hr=>?_)
 have hu:=hr.units
 refine⟨_,_,⟨[],[],[],.F⟩,rfl,(Zg (VR (Zu (Zb8 (K:=K) hu) (pv 0) (J8 Zf) (Z8 _)) (Zk (Z9 (J8 Zf))) Y6)
   (Zg (Zz (i:=1) ZdW.nd rfl (by first|exact Or.inl rfl|exact Or.inr rfl) (ZD (Zev (K:=K)) (Zjl (ZiZ (K:=K)) (pv 0) (Zlj Zl) Zlk) (ZD Zoa (J8 (Zb Zl Zf)) (ZD Va (ZD VC (WD (ZA (K:=K)) (pv 0) Zl (fun _ _=>rfl)) Zl) (Zr (Z3 (K:=K)) rfl T.z_len Wt (Zb (pv 0) Zf))))))
   (Zk (Z9 (Zbt (Zcj (K:=K) rfl T.z_enumerate (Zb (pv 1) Zf)) (ZdY (K:=K) ZdW.nd rfl) (fun _ _ _ _=>Zhg) (fun _ _ _ _=>(Zjn (Zu Zl1 (pv 2) (WD (ZA (K:=K)) (pv 0) Zl (fun _ _=>rfl)) (Z8 _)) (ZD VC (pv 3) Zl) (pv 3))) hv2 ZdW.nd rfl))))),
   (Zm (Γm:=[.S,.U]) (Ui (Zt (DE.toA (Jo (g:=id) (Zc (i:=0) (m:=.S) rfl (by decide)) (DE.toA (Jb YQ)))))
   (YO (Jb YQ))
   Y9)
   (Zm (Γm:=[.S,.O]) (Y5 (i:=1) (ZeM (DE.toA (Zom (Zc (i:=0) (m:=.S) rfl (by decide)) (Zmi (DE.toA Zj)) Zmj)) (DE.toA (Zml (Za (DE.toA Zj) Ze) (DE.toA (Vd (DE.toA (VG (Yo (te:=tC .non) (Zc (i:=0) (m:=.S) rfl (by decide)) (DE.toA Zj)) (DE.toA Zj))) (DE.toA (Wn (Za (Zc (i:=0) (m:=.S) rfl (by decide)) Ze)))))))) (by decide))
   (YO (Zec (k:=2) (ZjC (Za (Zc (i:=1) (m:=.O) rfl (by decide)) Ze)) Zr6 Zh1 (DE.PF (Zrg (Zt (DE.toA (Zmm (Zc (i:=2) (m:=.S) rfl (by decide)) (Yo (te:=tC .non) (Zc (i:=0) (m:=.S) rfl (by decide)) (DE.toA Zj))))) (VG (Zc (i:=3) (m:=.S) rfl (by decide)) (DE.toA Zj)) (DE.grd (Zc (i:=3) (m:=.S) rfl (by decide))))))))), ?_⟩
 refine Pm.ref V0 (g:=fun xs=>_) ?_
 intro (ns:List Int) (hk:ZC ns)
 simp only[V0]
 have hl:=hk.2.1
 by_cases hz:ns=[]
 ·subst hz
  walk_at "pd"
  rfl
 ·obtain⟨h1,h2⟩:=hk.head hz
  have hp:0<ns.length:=Zue.mpr hz
  walk_at "pd"
  rw[decide_eq_false hz]
  walk_at "pd"
  rw[Zcv (g:=fun j=>.int (if (j:Int)<ns.getD 0 0 then (ns.drop 1++List.replicate (ns.getD 0 0+1-ns.length).toNat 0).getD j 0+1 else (ns.drop 1++List.replicate (ns.getD 0 0+1-ns.length).toNat 0).getD j 0)) (fun i hi=>by
   walk_at "pd"
   by_cases c:(i:Int)<ns.getD 0 0
   ·rw[decide_eq_true c,if_pos c];walk_at "pd"
   ·rw[decide_eq_false c,if_neg c];walk_at "pd")]
  rw[Zez (by unfold Zb3;rw[List.length_mapIdx,Zto,Zt8,ZtR,Zut];omega)]
  walk_at "pd"
  rw[ZaR hz,Zkg,ZtZ,ZtR,show (ns.getD 0 0).toNat-(ns.length-1)=(ns.getD 0 0+1-ns.length).toNat by omega]
  congr 2
  apply Zuq
  intro j hj
  simp only[Function.comp_apply]
  by_cases c:(j:Int)<ns.getD 0 0
  ·rw[if_pos c,if_pos (by omega)]
  ·rw[if_neg c,if_neg (by omega)]
theorem ZbX {ns:List Int} (h:ZC ns):V0.fn [.lst (ns.map PV.int)]=.ok (.lst ((Yc ns).map PV.int)):=Pm.fn_eq V0 ns h fun(a:List Int) e=>by (simp only[V0,List.cons.injEq,PV.lst.injEq,PV.int.injEq,PV.str.injEq,PV.bl.injEq,PV.tup.injEq,Zy,and_true] at e ⊢;first|(simp only[e];done)|(subst e;rfl)|(rw[e]))
theorem Zgh:V0.calm:=fun a q h=>by (simp only[V0] at h;cases h)
noncomputable def Jk:Pm:=⟨List Int,fun ns=>[.lst (ns.map PV.int)],fun ns=>ns.length<=1000000,fun ns=>orX (ZdJ ns) (.lst ((Yc ns).map PV.int))⟩
theorem ZfQ (T:Txt K mg) {f:Addr}{fd:FuncData} (F:Fun K "marched" "marched" VA f fd):Vi P w K mg base (CX1 P w) 5 f fd ["line"] (spF K 1 .F (W1 K) Jk.fn):=by
 have Wf:=JD (P:=P) (w:=w) (base:=base) T.VI JW (fun F=>JN T F)
 have Zfg:=VT (P:=P) (w:=w) (base:=base) T.Zi6 ZgE (fun F=>Zgy T F)
 refine F.okX ZjU rfl rfl (fun cdv A outer s H E hr=>?_)
 have hu:=hr.units
 refine⟨_,_,⟨[],[],[],.F⟩,rfl,(Zg (W7 (Z6 Wf (hr.mono (by decide)) rfl Jy (Zb (pv 0) Zf)))
   (Zk (Z9 (Zo Zfg (hr.mono (by decide)) rfl (Zb (pv 0) Zf))))),
   (Zm (Γm:=[.S]) (Qs (DE.toA (Zk7 (Zd Zi) (Za (Zc (i:=0) (m:=.S) rfl (by decide)) Ze))))
   (YO (Zh0 (Zd Zi) (Pm.calm_fn Zgh) (Za (Zc (i:=0) (m:=.S) rfl (by decide)) Ze)))), ?_⟩
 refine Pm.ref Jk (g:=fun xs=>_) ?_
 intro (ns:List Int) (hn:ns.length<=1000000)
 simp only[Jk]
 walk_at "pd"
 rw[We hn]
 by_cases h:ZC ns
 ·rw[JL h]
  walk_at "pd"
  rw[ZbX h]
  walk_at "pd"
 ·rw[V2 h]
  walk_at "pd"
theorem Zbh {ns:List Int} (h:ns.length<=1000000):Jk.fn [.lst (ns.map PV.int)]=orX (ZdJ ns) (.lst ((Yc ns).map PV.int)):=Pm.fn_eq Jk ns h fun(a:List Int) e=>by (simp only[Jk,List.cons.injEq,PV.lst.injEq,PV.int.injEq,PV.str.injEq,PV.bl.injEq,PV.tup.injEq,Zy,and_true] at e ⊢;first|(simp only[e];done)|(subst e;rfl)|(rw[e]))
theorem ZdB {ns:List Int} (h:ZC ns):Jk.fn [.lst (ns.map PV.int)]=.ok (.lst ((Yc ns).map PV.int)):=by
 rw[Zbh (by have:=h.2.1;omega),JL h];rfl
noncomputable def ZB:Pm:=⟨List Int,fun a=>[.lst (a.map PV.int)],fun a=>0<a.length/\a.length<=1000,fun a=>.ok (.int (Ut a:Nat))⟩
theorem Q2 (T:Txt K mg) {f:Addr}{fd:FuncData} (F:Fun K "turn_to_itself" "turn_to_itself" Yg f fd):Vi P w K mg base CX0 2 f fd ["board"] (spF K 1 .P W0 ZB.fn):=by
 have Zbm:=VT (P:=P) (w:=w) (base:=base) T.ZeO Zdq (fun F=>Zdd T F)
 refine F.okP Vj rfl rfl (fun cdv A outer s H E hr=>?_)
 have hu:=hr.units
 refine⟨_,_,⟨[],[],[],.P⟩,rfl,(Zg (Zz (i:=1) Vj.nd rfl (by first|exact Or.inl rfl|exact Or.inr rfl) Zl)
   (Zg (Vz PassesOwn.never (Zu (Za8 (K:=K) hu) (Zo Zbm (hr.mono (by decide)) rfl (Zb (pv 0) (Zb (pv 1) Zf))) (pv 0) (Z8 _)) (Zk (ZaO (i:=1) Vj.nd rfl (by first|exact Or.inl rfl|exact Or.inr rfl) Zl Zhr)))
   (Zk (Z9 (pv 1))))),
   (Zm (Γm:=[.S,.P]) (ZH (i:=1) Zj (by decide))
   (Zm (Γm:=[.S,.P]) (V4 (Γ:=[.S,.P]) (Zt (DE.toA (Jo (g:=(!·)) (DE.toA (Zp6 (Zd (Zd Zi)) (Za (Zc (i:=0) (m:=.S) rfl (by decide)) (Za (DE.toA (Zn (i:=1) rfl)) Ze)))) (Zc (i:=0) (m:=.S) rfl (by decide)))))
   (UJ (i:=1) rfl (DE.toA Zj)))
   (Y8 (Zn (i:=1) rfl)))), ?_⟩
 refine Pm.ref ZB (g:=fun xs=>_) ?_
 rintro(bs:List Int) ⟨h0,h1⟩
 simp only[ZB]
 obtain⟨o1,o2,o3⟩:=Zhl h0
 have o4:1<=Ut bs:=by unfold Ut;omega
 generalize Ut bs=t at o1 o2 o3 o4
 walk_at "pd"
 generalize hw:JX _ _ _=W
 obtain⟨ρ',rfl,rfl⟩:=Wz hw (t-1) (fun(i:Nat) ρ=>ρ=[.lst (bs.map PV.int),.int ((i:Int)+1)]) rfl (by
  rintro j ρ hj rfl
  constructor
  ·walk_at "pd"
   rw[VJ ⟨h0,h1⟩]
   walk_at "pd"
   rw[decide_eq_false (o3 j (by omega))]
   rfl
  ·walk_at "pd"
   exact Uy (by rw[show ((j+1:Nat):Int)=(j:Int)+1 by omega])) (by
  rintro ρ rfl
  rw[show ((t-1:Nat):Int)+1=t by omega]
  walk_at "pd"
  rw[VJ ⟨h0,h1⟩]
  walk_at "pd"
  rw[decide_eq_true o1]
  rfl)
 walk_at "pd"
 rw[show ((t-1:Nat):Int)+1=t by omega]
theorem YR {bs:List Int} (h:0<bs.length/\bs.length<=1000):ZB.fn [.lst (bs.map PV.int)]=.ok (.int (Ut bs:Nat)):=Pm.fn_eq ZB bs h fun(a:List Int) e=>by (simp only[ZB,List.cons.injEq,PV.lst.injEq,PV.int.injEq,PV.str.injEq,PV.bl.injEq,PV.tup.injEq,Zy,and_true] at e ⊢;first|(simp only[e];done)|(subst e;rfl)|(rw[e]))
theorem Q0:ZB.calm:=fun a q h=>by (simp only[ZB] at h;cases h)
noncomputable def ZU:Pm:=⟨List Int,fun a=>[.lst (a.map PV.int)],fun a=>a.length<=1000,fun a=>orX (Zm9 a) (.int (Ut (adL a):Nat))⟩
theorem Q3 (T:Txt K mg) {f:Addr}{fd:FuncData} (F:Fun K "steps_of_round" "steps_of_round" Yi f fd):Vi P w K mg base (CX1 P w) 5 f fd ["row"] (spF K 1 .P (W1 K) ZU.fn):=by
 have Uq:=VT (P:=P) (w:=w) (base:=base) T.ZaA QA (fun F=>Q2 T F)
 have Jw:=JD (P:=P) (w:=w) (base:=base) T.Qt UQ (fun F=>UE T F)
 refine F.okX ZcI rfl rfl (fun cdv A outer s H E hr=>?_)
 have hu:=hr.units
 refine⟨_,_,⟨[],[],[],.P⟩,rfl,(Zk (Z9 (Zo Uq (hr.mono (by decide)) rfl (Zb (Z6 Jw (hr.mono (by decide)) rfl Jy (Zb (pv 0) Zf)) Zf)))),
   (Y8 (Zg4 (Zd Zi) (Pm.calm_fn Q0) (Za (DE.toA (Zsb (Zd Zi) (Za (Zc (i:=0) (m:=.S) rfl (by decide)) Ze))) Ze))), ?_⟩
 refine Pm.ref ZU (g:=fun xs=>_) ?_
 rintro(l:List Int) (n1:l.length<=1000)
 simp only[ZU]
 walk_at "pd"
 rw[Wk n1]
 by_cases hr:Zm6 l
 ·rw[QM hr]
  obtain⟨ha,hl⟩:=hr.bin
  have n2:=ha.2.1
  have n3:=ha.2.2.1
  simp only[orX]
  walk_at "pd"
  rw[YR ⟨by omega,by omega⟩]
  walk_at "pd"
 ·rw[ZbF hr]
  walk_at "pd"
theorem YS {l:List Int} (h:l.length<=1000):ZU.fn [.lst (l.map PV.int)]=orX (Zm9 l) (.int (Ut (adL l):Nat)):=Pm.fn_eq ZU l h fun(a:List Int) e=>by (simp only[ZU,List.cons.injEq,PV.lst.injEq,PV.int.injEq,PV.str.injEq,PV.bl.injEq,PV.tup.injEq,Zy,and_true] at e ⊢;first|(simp only[e];done)|(subst e;rfl)|(rw[e]))
theorem ZjZ {n:Nat} (h:n<=1000000):ZdZ [.int (n:Int)]=.ok (.lst (((List.range n).map fun(i:Nat)=>(i:Int)).map PV.int)):=by
 rw[Zka ⟨decide_eq_true ⟨by omega,by omega⟩,by omega⟩,Ztr]
 unfold QN
 simp only[Zuo,ZuD]
noncomputable def lsS (s:Int) (n:Nat):List (List Int):=((List.range n).filter fun(i:Nat)=>Zd6 (unS s i) (kN s+1)).map fun(i:Nat)=>Yl (unS s i)
noncomputable def ZL:Pm:=⟨Int,fun s=>[.lst ((rwS s).map VP),.int s],fun s=>0<=s/\s<37,fun s=>.ok (.lst ((lsS s (nS s)).map VP))⟩
theorem Zct (T:Txt K mg) {f:Addr}{fd:FuncData} (F:Fun K "_law_all_rounds" "_law_all_rounds" ZT f fd):Vi P w K mg base CX0 6 f fd ["rows", "seeds"] (spF K 2 .Z W0 ZL.fn):=by
 have Zd0:=VT (P:=P) (w:=w) (base:=base) T.Zdo Zc3 (fun F=>Zcs T F)
 have Us:=JD (P:=P) (w:=w) (base:=base) T.ZaC QC (fun F=>Q4 T F)
 have ZgM:=JD (P:=P) (w:=w) (base:=base) T.ZgC Zf1 (fun F=>Zft T F)
 have Zfe:=JD (P:=P) (w:=w) (base:=base) T.ZeQ ZdP (fun F=>ZdK T F)
 have Zff:=JD (P:=P) (w:=w) (base:=base) T.ZhA ZfW (fun F=>ZfQ T F)
 have Ur:=JD (P:=P) (w:=w) (base:=base) T.ZaB QB (fun F=>Q3 T F)
 refine F.okP Z4 rfl rfl (fun cdv A outer s H E hr=>?_)
 have hu:=hr.units
 refine⟨_,_,⟨[],[],[],.Z⟩,rfl,(Zg (Zz (i:=2) Z4.nd rfl (by first|exact Or.inl rfl|exact Or.inr rfl) (J8 Zf))
   (Zg (Zch PassesOwn.never rfl (Qa (K:=K) (pv 0)) (JJ (i:=3) Z4.nd rfl (by first|exact Or.inl rfl|exact Or.inr rfl)) (Zg (VR (Zhf (ZfE (Z6 ZgM (hr.mono (by decide)) rfl WW (Zb (Wl (Wo (K:=K)) rfl T.z_list Vu (Zb (pv 3) Zf)) Zf)))) (Zk (Z9 Zb7)) Y6)
   (Zk (W7 (Zgg PySem.F.plainAttrs_list PySem.F.slot_list_append PySem.F.type_list_append VD (pv 2) (Zb (Z6 Zfe (hr.mono (by decide)) rfl WW (Zb (Z6 Zff (hr.mono (by decide)) rfl WW (Zb (Wl (Wo (K:=K)) rfl T.z_list Vu (Zb (pv 3) Zf)) Zf)) Zf)) Zf))))))
   (Zg (VR (Zu (Za8 (K:=K) hu) (Zr (ZiA (K:=K)) rfl T.z_sorted Zmz (Zb (pv 2) Zf)) (Wl (ZhJ rfl) rfl T.z_list Vu (Zb (Wl Zmr rfl T.z_range ZnJ (Zb (Zr (Z3 (K:=K)) rfl T.z_len Wt (Zb (pv 0) Zf)) Zf)) Zf)) (Z8 _)) (Zk (Z9 Zb7)) Y6)
   (Zg (Zz (i:=4) Z4.nd rfl (by first|exact Or.inl rfl|exact Or.inr rfl) (J8 Zf))
   (Zg (Zch PassesOwn.never rfl (WV rfl T.z_range (Zb (Zr (Z3 (K:=K)) rfl T.z_len Wt (Zb (pv 0) Zf)) Zf)) (JJ (i:=5) Z4.nd rfl (by first|exact Or.inl rfl|exact Or.inr rfl)) (Zg (Zz (i:=6) Z4.nd rfl (by first|exact Or.inl rfl|exact Or.inr rfl) (Zo Zd0 (hr.mono (by decide)) rfl (Zb (pv 5) (Zb (pv 2) Zf))))
   (Zg (Zz (i:=7) Z4.nd rfl (by first|exact Or.inl rfl|exact Or.inr rfl) (Zr (Zkw (K:=K) hu rfl) rfl T.z_min Zov (Zb (Zbt (Qa (K:=K) (pv 6)) (Zgk Z4.nd) (fun _ _ _ _=>Zhg) (fun _ _ _ _=>(WD (ZA (K:=K)) (pv 0) (pv 9) (fun _ _=>rfl))) hv1 Z4.nd rfl) Zf)))
   (Zg (Zz (i:=8) Z4.nd rfl (by first|exact Or.inl rfl|exact Or.inr rfl) (Z6 Us (hr.mono (by decide)) rfl WW (Zb (Wl (Wo (K:=K)) rfl T.z_list Vu (Zb (WD (ZA (K:=K)) (pv 0) (pv 5) (fun _ _=>rfl)) Zf)) Zf)))
   (Zg (VR (PW.pt (Zfl (Zu (Za8 (K:=K) hu) (Z6 Ur (hr.mono (by decide)) rfl WW (Zb (Wl (Wo (K:=K)) rfl T.z_list Vu (Zb (WD (ZA (K:=K)) (pv 0) (pv 5) (fun _ _=>rfl)) Zf)) Zf)) (Zr (Z3 (K:=K)) rfl T.z_len Wt (Zb (pv 6) Zf)) (Z8 _)) (Zfl (Zu (Za8 (K:=K) hu) (WD (ZA (K:=K)) (pv 8) Zl (fun _ _=>rfl)) (pv 7) (Z8 _)) (Zd3 (Zu (Za8 (K:=K) hu) (WD (ZA (K:=K)) (pv 0) (WD (ZA (K:=K)) (pv 6) (WD (ZA (K:=K)) (pv 8) Zl (fun _ _=>rfl)) (fun _ _=>rfl)) (fun _ _=>rfl)) (pv 7) (Z8 _)))))) (Zk (Z9 Zb7)) Y6)
   (Zk (VR (Zu (Zb8 (K:=K) hu) (pv 7) (WD (ZA (K:=K)) (pv 0) (pv 5) (fun _ _=>rfl)) (Z8 _)) (Zk (W7 (Zgg PySem.F.plainAttrs_list PySem.F.slot_list_append PySem.F.type_list_append VD (pv 4) (Zb (pv 7) Zf)))) Y6)))))))
   (Zk (Z9 (pv 4)))))))),
   (Zm (Γm:=[.S,.S,.O,.U,.U,.U,.U,.U,.U]) (Y5 (i:=2) (Jb YQ) (by decide))
   (Zm (Γm:=[.S,.S,.O,.U,.U,.U,.U,.U,.U]) (Zcw (Γl:=[.S,.S,.O,.U,.U,.U,.U,.U,.U]) (Zg5 (ZbS (i:=0) rfl)) rfl (Zs8 (i:=3) (by decide))
   (DS.out (Y:=⟨[.S,.S,.O,.S,.U,.U,.U,.U,.U],[.S,.S,.O,.U,.U,.U,.U,.U,.U],[.S,.S,.O,.U,.U,.U,.U,.U,.U],.Z⟩) (Y':=⟨[.S,.S,.O,.U,.U,.U,.U,.U,.U],[.S,.S,.O,.U,.U,.U,.U,.U,.U],[.S,.S,.O,.U,.U,.U,.U,.U,.U],.Z⟩) (Zm (Γm:=[.S,.S,.O,.S,.U,.U,.U,.U,.U]) (Ui (Zh2 (ZpR (DE.toA (Zps (Zd Zi) (Za (DE.toA (JO (Za (Zc (i:=3) (m:=.S) rfl (by decide)) Ze))) Ze)))))
   (Zdl (DE.PZ Zh6))
   Y9)
   (ZbR (i:=2) rfl rfl (DE.PF (Zps (Zd Zi) (Za (DE.toA (Zn6 (Zd Zi) (Za (DE.toA (JO (Za (Zc (i:=3) (m:=.S) rfl (by decide)) Ze))) Ze))) Ze))))) rfl rfl rfl rfl))
   (Zm (Γm:=[.S,.S,.O,.U,.U,.U,.U,.U,.U]) (Ui (Zt (DE.toA (Jo (g:=(!·)) (DE.toA (Zn8 (Za (Zc (i:=2) (m:=.O) rfl (by decide)) Ze))) (DE.toA (Zkp (Za (DE.toA (Wn (Za (Zc (i:=0) (m:=.S) rfl (by decide)) Ze))) Ze))))))
   (Zdl (DE.PZ Zh6))
   Y9)
   (Zm (Γm:=[.S,.S,.O,.U,.T,.U,.U,.U,.U]) (Zpt (i:=4) (Zp3 ZbV) (by decide))
   (Zm (Γm:=[.S,.S,.O,.U,.T,.U,.U,.U,.U]) (Zcw (Γl:=[.S,.S,.O,.U,.T,.U,.U,.U,.U]) (UK (Za (DE.toA (Wn (Za (Zc (i:=0) (m:=.S) rfl (by decide)) Ze))) Ze)) rfl (Zol (i:=5) (by decide))
   (DS.out (Y:=⟨[.S,.S,.O,.U,.T,.P,.O,.S,.O],[.S,.S,.O,.U,.T,.U,.U,.U,.U],[.S,.S,.O,.U,.T,.U,.U,.U,.U],.Z⟩) (Y':=⟨[.S,.S,.O,.U,.T,.U,.U,.U,.U],[.S,.S,.O,.U,.T,.U,.U,.U,.U],[.S,.S,.O,.U,.T,.U,.U,.U,.U],.Z⟩) (Zm (Γm:=[.S,.S,.O,.U,.T,.P,.O,.U,.U]) (Y5 (i:=6) (Zp6 (Zd (Zd Zi)) (Za (DE.toA (Zn (i:=5) rfl)) (Za (Zc (i:=2) (m:=.O) rfl (by decide)) Ze))) (by decide))
   (Zm (Γm:=[.S,.S,.O,.U,.T,.P,.O,.S,.U]) (Zmh (i:=7) (ZnB (DE.TZ (Zh9 (k:=1) (ZjB (Zc (i:=6) (m:=.O) rfl (by decide))) Zs9 Zh1 (Zoo (te:=tC .non) (ZbS (i:=0) rfl) (Zc (i:=9) (m:=.S) rfl (by decide)))))) (by decide))
   (Zm (Γm:=[.S,.S,.O,.U,.T,.P,.O,.S,.O]) (Y5 (i:=8) (Zn6 (Zd Zi) (Za (DE.toA (JO (Za (Yo (te:=tC .non) (Zc (i:=0) (m:=.S) rfl (by decide)) (DE.toA (Zn (i:=5) rfl))) Ze))) Ze)) (by decide))
   (Zm (Γm:=[.S,.S,.O,.U,.T,.P,.O,.S,.O]) (Ui (Zfv (Zt (DE.toA (Jo (g:=(!·)) (DE.toA (Zps (Zd Zi) (Za (DE.toA (JO (Za (Yo (te:=tC .non) (Zc (i:=0) (m:=.S) rfl (by decide)) (DE.toA (Zn (i:=5) rfl))) Ze))) Ze))) (DE.toA (Wn (Za (Zc (i:=6) (m:=.O) rfl (by decide)) Ze)))))) (Zfv (Zt (DE.toA (Jo (g:=(!·)) (Yo (te:=tC .non) (Zc (i:=8) (m:=.O) rfl (by decide)) (DE.toA Zj)) (Zc (i:=7) (m:=.S) rfl (by decide))))) (Zt (DE.toA (Jo (g:=(!·)) (Yo (te:=tC .non) (Zc (i:=0) (m:=.S) rfl (by decide)) (Yo (te:=tC .non) (Zc (i:=6) (m:=.O) rfl (by decide)) (Yo (te:=tC .non) (Zc (i:=8) (m:=.O) rfl (by decide)) (DE.toA Zj)))) (Zc (i:=7) (m:=.S) rfl (by decide)))))))
   (Zdl (DE.PZ Zh6))
   Y9)
   (Ui (Zt (DE.toA (Jo (g:=id) (Zc (i:=7) (m:=.S) rfl (by decide)) (Yo (te:=tC .non) (Zc (i:=0) (m:=.S) rfl (by decide)) (DE.toA (Zn (i:=5) rfl))))))
   (Zpw (i:=4) rfl rfl (ZbS (i:=7) rfl))
   Y9))))) rfl rfl rfl rfl))
   (Zdl (Zdm (i:=4) (m:=.T) rfl (by decide)))))))), ?_⟩
 refine Pm.ref ZL (g:=fun xs=>_) ?_
 rintro(s:Int) ⟨h0,h1⟩
 have F:=few h0 h1
 have f1:=F.le
 have f2:=F.ge
 simp only[ZL]
 have hrl:=ZoD s
 walk_at "pd"
 generalize hw:ZfP _ _ _=W
 obtain⟨ρ',rfl,v,rfl⟩:=WZ hw (fun i ρ=>∃v,ρ=[.lst ((rwS s).map VP),.int s,.lst (((tnS s).take i).map PV.int),v,.non,.non,.non,.non,.non]) ⟨_,rfl⟩ (by
  rintro i x ρ hx ⟨v,rfl⟩
  rw[Ztz] at hx
  obtain⟨q,hq,rfl⟩:=Option.map_eq_some_iff.mp hx
  have hi:i<nS s:=by have:=(Zti.mp hq).1;omega
  have eq:q=Yl (unS s i):=by
   have:=ZkT (s:=s) (i:=(i:Int)) (by omega) (by omega)
   rw[Zte,Ztr,hq] at this
   exact this
  subst eq
  rw[show VP (Yl (unS s i))=PV.lst ((Yl (unS s i)).map PV.int) from rfl]
  obtain⟨O,Or⟩:=Zcl h0 h1 (i:=(i:Int)) (by omega) (by omega)
  have L:=O.line (by omega)
  have hln:=L.2.1
  have O1:=O.rot (by omega) 1
  have hln1:=(O1.line (by omega)).2.1
  walk_at "pd"
  rw[ZdO L,ZnW ((Zg2 L).mp (Zee (VS O.pt) (by rw[O.sm];omega)).2.1)]
  walk_at "pd"
  rw[ZdB L,Zcn O.pt]
  walk_at "pd"
  rw[Jd (by omega),QM (Zee (VS O1.pt) (by rw[O1.sm];omega)),ZbY (VS O1.pt)]
  simp only[orX]
  have htl:(tnS s).length=nS s:=ZbD s
  walk_at "pd"
  have ht:(tnS s)[i]?=some (rkN (WP (unS s i) 1)):=by
   unfold tnS
   rw[Ztz,Zt9 hi];rfl
  exact Uy ⟨_,by rw[List.take_succ,ht];rfl⟩)
 rw[Zto,hrl,show (tnS s).take (nS s)=tnS s by rw[<- ZbD s,List.take_length]]
 walk_at "pd"
 rw[Zlt (by rw[ZbD];omega),F.srt]
 have hlenR:Zk4 [PV.lst ((rwS s).map VP)]=.ok (.int (nS s:Nat)):=by simp[Zk4,hrl]
 rw[hlenR]
 walk_at "pd"
 rw[ZjZ (by omega)]
 walk_at "pd"
 rw[hlenR]
 walk_at "pd"
 generalize hw2:ZfP _ _ _=W2
 obtain⟨ρ',rfl,v1,v2,v3,v4,v5,rfl⟩:=WZ hw2 (fun i ρ=>∃v1 v2 v3 v4 v5,ρ=[.lst ((rwS s).map VP),.int s,.lst ((tnS s).map PV.int),v1,.lst ((lsS s i).map VP),v2,v3,v4,v5]) ⟨_,_,_,_,_,rfl⟩ (by
  rintro i x ρ hx ⟨v1,v2,v3,v4,v5,rfl⟩
  obtain⟨hi,rfl⟩:=UZ hx
  have htl:(tnS s).length=nS s:=ZbD s
  have i0:(0:Int)<=i:=by omega
  have i1:(i:Int)<nS s:=by omega
  obtain⟨O,Or⟩:=Zcl h0 h1 i0 i1
  have L:=O.line (by omega)
  have hln:=L.2.1
  have hal:=O.pt.2.1
  have hk8:=F.k8
  have hal2:=O.ln
  obtain⟨o1,o2,o3,o4⟩:=ZcJ (a:=unS s i) (by omega)
  obtain⟨m,m1,m2,m3,m4⟩:=ZmI h0 h1 i0 i1
  have Om:=O.rot (by omega) m
  have hix:∀j:Nat,pIx (.lst ((rwS s).map VP)) (.int (rkN (WP (unS s i) j)))=.ok (VP (Yl (WP (unS s i) j))):=fun j=>by
   have Oj:=O.rot (by omega) j
   have r1:=Oj.rk.1
   have r2:=Oj.rk.2.1
   rw[<- F.eq] at r2
   rw[Znd (d:=[]) r1 (by omega),ZrI h0 h1 i0 i1]
  have hii:pIx (.lst ((rwS s).map VP)) (.int i)=.ok (VP (Yl (unS s i))):=by
   have:=hix 0
   rw[ZaN,Or] at this
   exact this
  have hRX:=Zee (VS O.pt) (by rw[O.sm];omega)
  walk_at "pd"
  rw[Zuo,Wr ⟨ZnP h0 h1 i0 i1,by omega⟩,ZrG h0 h1 i0 i1]
  walk_at "pd"
  rw[ZtZ,Zmd (q:=PV.int∘fun(j:Nat)=>rkN (WP (unS s i) j)) (p:=fun _=>true) (g:=fun j=>VP (Yl (WP (unS s i) j))) (fun j hj=>by
   simp only[Function.comp_apply]
   walk_at "pd"
   rw[hix j]
   rfl),List.filter_eq_self.mpr (fun _ _=>rfl),<- ZtZ]
  have hmm:(List.range (Ut (unS s i))).map (fun j=>VP (Yl (WP (unS s i) j)))=((List.range (Ut (unS s i))).map fun(j:Nat)=>Yl (WP (unS s i) j)).map VP:=by rw[ZtZ];rfl
  have hll:((List.range (Ut (unS s i))).map fun(j:Nat)=>rkN (WP (unS s i) j)).length=Ut (unS s i):=by simp
  have hlm:((List.range (Ut (unS s i))).map fun(j:Nat)=>rkN (WP (unS s i) j)).getD m 0=rkN (WP (unS s i) m):=by
   rw[Zte,Ztz,Zt9 m1];rfl
  rw[hmm]
  generalize (List.range (Ut (unS s i))).map (fun(j:Nat)=>rkN (WP (unS s i) j))=ln at hll hlm
  walk_at "pd"
  rw[ZmZ m3]
  walk_at "pd"
  rw[hii,show VP (Yl (unS s i))=.lst ((Yl (unS s i)).map PV.int) from rfl]
  walk_at "pd"
  rw[YT (by omega),QM hRX,ZbY (VS O.pt)]
  simp only[orX]
  unfold Zra
  rw[m2]
  walk_at "pd"
  rw[hii,show VP (Yl (unS s i))=.lst ((Yl (unS s i)).map PV.int) from rfl]
  walk_at "pd"
  rw[YS (by omega),QM hRX,ZbY (VS O.pt)]
  simp only[orX]
  walk_at "pd"
  rw[hll,decide_eq_true rfl]
  walk_at "pd"
  rw[show VP (Yl (WP (unS s i) m))=.lst ((Yl (WP (unS s i) m)).map PV.int) from rfl]
  walk_at "pd"
  rw[Ztr,hlm,hix m,show VP (Yl (WP (unS s i) m))=.lst ((Yl (WP (unS s i) m)).map PV.int) from rfl]
  walk_at "pd"
  rw[hii,show VP (Yl (unS s i))=.lst ((Yl (unS s i)).map PV.int) from rfl]
  walk_at "pd"
  have hsucc:lsS s (i+1)=lsS s i++if Zd6 (unS s i) (kN s+1)=true then [Yl (unS s i)] else []:=by
   unfold lsS
   rw[ZtG,List.filter_append,Zt4]
   congr 1
   rw[Zus,Zvv]
   split<;>rfl
  have hlsl:(lsS s i).length<=i:=by
   unfold lsS
   rw[Zto]
   exact Zt5 (ZuU _ _) (by simp)
  rw[hsucc,m4]
  by_cases c:Zd6 (unS s i) (kN s+1)=true
  ·rw[c]
   walk_at "pd"
   have em:Yl (WP (unS s i) m)=Yl (unS s i):=of_decide_eq_true (m4.trans c)
   rw[Zjs (by rw[Zto];omega)]
   walk_at "pd"
   exact Uy ⟨_,_,_,_,_,by rw[em,Zt4 (f:=VP)];rfl⟩
  ·rw[if_neg c,eq_false_of_ne_true c]
   walk_at "pd"
   exact Uy ⟨_,_,_,_,_,by rw[Zub]⟩)
 walk_at "pd"
 rw[W6,Ztr]
theorem Ws {s:Int} (h:0<=s/\s<37):ZL.fn [.lst ((rwS s).map VP),.int s]=.ok (.lst ((lsS s (nS s)).map VP)):=Pm.fn_eq ZL s h (fun(a:Int) e=>by
 have e':a=s:=by
  simp only[ZL,List.cons.injEq,PV.int.injEq,and_true] at e
  exact e.2
 rw[e'])
noncomputable def Zc0 (n l m:Int):Option Str:=if l<=n/\n<=m then none else some "BadCount"
noncomputable def YI:Pm:=⟨Int×Int×Int,fun a=>[.int a.1,.int a.2.1,.int a.2.2],fun _=>True,fun a=>orX (Zc0 a.1 a.2.1 a.2.2) .non⟩
theorem Js (T:Txt K mg) {f:Addr}{fd:FuncData} (F:Fun K "check_count" "check_count" YZ f fd):Vi P w K mg base (CX1 P w) 3 f fd ["number", "least", "most"] (spF K 3 .P (W1 K) YI.fn):=by
 have UV:=VT (P:=P) (w:=w) (base:=base) T.Zbg ZaE (fun F=>Za9 T F)
 obtain⟨C_BadCount,hC_BadCount,hQ_BadCount⟩:=ZdS T.x_exc (n := "BadCount") (by decide)
 refine F.okX Zfj rfl rfl (fun cdv A outer s H E hr=>?_)
 have hu:=hr.units
 refine⟨_,_,⟨[.S,.S,.S],[],[],.P⟩,rfl,(Zk (VR (PW.pt (Zfl (Zhf (ZfE (Zo UV (hr.mono (by decide)) rfl (Zb (pv 0) (Zb (pv 1) Zf))))) (Zd3 (Zu ZbH (pv 0) (pv 2) (Z8 _))))) (Zk (Zbr ZcQ hQ_BadCount rfl (T.x_mg _ _ hC_BadCount) rfl (Zb ZfG Zf))) Y6)),
   (Ui (Zfv (Zh2 (ZpR (DE.toA (Zg4 (Zd (Zd Zi)) (Pm.calm_fn ZdI) (Za (Zc (i:=0) (m:=.S) rfl (by decide)) (Za (Zc (i:=1) (m:=.S) rfl (by decide)) Ze)))))) (Zt (DE.toA (ZbU (Zc (i:=0) (m:=.S) rfl (by decide)) (Zc (i:=2) (m:=.S) rfl (by decide))))))
   (Zby hC_BadCount (Zd Zi) (by decide) (Za (DE.toA ZfT) Ze))
   Y9), ?_⟩
 refine Pm.ref YI (g:=fun xs=>_) ?_
 rintro⟨n,l,m⟩ -
 simp only[YI]
 walk_at "pd"
 rw[Wp]
 walk_at "pd"
 by_cases h0:l<=n
 ·rw[decide_eq_true h0]
  walk_at "pd"
  by_cases h1:n<=m
  ·rw[decide_eq_false (by omega),show Zc0 n l m=none from if_pos ⟨h0,h1⟩];walk_at "pd" <;> rfl
  ·rw[decide_eq_true (by omega),show Zc0 n l m=(some "BadCount":Option Str) from if_neg (fun z=>h1 z.2)];walk_at "pd" <;> rfl
 ·rw[decide_eq_false h0,show Zc0 n l m=(some "BadCount":Option Str) from if_neg (fun z=>h0 z.1)];walk_at "pd" <;> rfl
theorem YA {n l m:Int}:YI.fn [.int n,.int l,.int m]=orX (Zc0 n l m) .non:=Pm.fn_eq YI (n,l,m) trivial fun(a:Int×Int×Int) e=>by (simp only[YI,List.cons.injEq,PV.lst.injEq,PV.int.injEq,PV.str.injEq,PV.bl.injEq,PV.tup.injEq,Zy,and_true] at e ⊢;first|(simp only[e];done)|(subst e;rfl)|(rw[e]))
noncomputable def YG:Pm:=⟨Int,fun a=>[.int a],fun a=>0<=a/\a<=10000,fun a=>.ok (.int (kN a+1:Nat))⟩
theorem Qd (T:Txt K mg) {f:Addr}{fd:FuncData} (F:Fun K "places_of" "places_of" WS f fd):Vi P w K mg base CX0 2 f fd ["seeds"] (spF K 1 .P W0 YG.fn):=by
 have Jh:=VT (P:=P) (w:=w) (base:=base) T.UL Uj (fun F=>Ud T F)
 refine F.okP ZgZ rfl rfl (fun cdv A outer s H E hr=>?_)
 have hu:=hr.units
 refine⟨_,_,⟨[],[],[],.P⟩,rfl,(Zk (Z9 (ZD VC (Zo Jh (hr.mono (by decide)) rfl (Zb (pv 0) Zf)) Zl))),
   (Y8 (VG (DE.toA (Zor (Zd Zi) (Za (Zc (i:=0) (m:=.S) rfl (by decide)) Ze))) (DE.toA Zj))), ?_⟩
 refine Pm.ref YG (g:=fun xs=>_) ?_
 rintro(s:Int) (h:0<=s/\s<=10000)
 simp only[YG]
 walk_at "pd"
 rw[YK h]
 walk_at "pd"
 rw[show ((kN s+1:Nat):Int)=(kN s:Nat)+1 by omega]
theorem Jc {s:Int} (h:0<=s/\s<=10000):YG.fn [.int s]=.ok (.int (kN s+1:Nat)):=Pm.fn_eq YG s h fun(a:Int) e=>by (simp only[YG,List.cons.injEq,PV.lst.injEq,PV.int.injEq,PV.str.injEq,PV.bl.injEq,PV.tup.injEq,Zy,and_true] at e ⊢;first|(simp only[e];done)|(subst e;rfl)|(rw[e]))
theorem Qb:YG.calm:=fun a q h=>by (simp only[YG] at h;cases h)
noncomputable def Wi:Pm:=⟨Int,fun a=>[.int a],fun a=>0<=a/\a<=10000,fun a=>.ok (.int (adS a:Nat))⟩
theorem Zaj (T:Txt K mg) {f:Addr}{fd:FuncData} (F:Fun K "added_of" "added_of" J7 f fd):Vi P w K mg base CX0 2 f fd ["seeds"] (spF K 1 .P W0 Wi.fn):=by
 have Jh:=VT (P:=P) (w:=w) (base:=base) T.UL Uj (fun F=>Ud T F)
 refine F.okP Zep rfl rfl (fun cdv A outer s H E hr=>?_)
 have hu:=hr.units
 refine⟨_,_,⟨[],[],[],.P⟩,rfl,(Zg (Zz (i:=1) Zep.nd rfl (by first|exact Or.inl rfl|exact Or.inr rfl) (Zo Jh (hr.mono (by decide)) rfl (Zb (pv 0) Zf)))
   (Zk (Z9 (ZD Va (pv 0) (ZD QQ (ZD ZcN (pv 1) (ZD VC (pv 1) Zl)) Zl))))),
   (Zm (Γm:=[.S,.P]) (ZH (i:=1) (Zor (Zd Zi) (Za (Zc (i:=0) (m:=.S) rfl (by decide)) Ze)) (by decide))
   (Y8 (Vd (Zc (i:=0) (m:=.S) rfl (by decide)) (DE.toA (ZeL (DE.toA (ZfV (DE.toA (Zn (i:=1) rfl)) (DE.toA (VG (DE.toA (Zn (i:=1) rfl)) (DE.toA Zj))))) (DE.toA Zj)))))), ?_⟩
 refine Pm.ref Wi (g:=fun xs=>_) ?_
 rintro(s:Int) (h:0<=s/\s<=10000)
 simp only[Wi]
 obtain⟨k1,k2,k3⟩:=Uc h.1
 walk_at "pd"
 rw[YK h]
 walk_at "pd"
 rw[ZmD,(ZdD h.1).1]
theorem JC {s:Int} (h:0<=s/\s<=10000):Wi.fn [.int s]=.ok (.int (adS s:Nat)):=Pm.fn_eq Wi s h fun(a:Int) e=>by (simp only[Wi,List.cons.injEq,PV.lst.injEq,PV.int.injEq,PV.str.injEq,PV.bl.injEq,PV.tup.injEq,Zy,and_true] at e ⊢;first|(simp only[e];done)|(subst e;rfl)|(rw[e]))
theorem QP:Wi.calm:=fun a q h=>by (simp only[Wi] at h;cases h)
noncomputable def ZhV (s:Int):Int:=chI (kN s+1:Nat) (adS s)
noncomputable def Wb:Pm:=⟨Int,fun a=>[.int a],fun _=>True,fun a=>orX (Zc0 a 0 2000) (.int (ZhV a))⟩
theorem ZdA (T:Txt K mg) {f:Addr}{fd:FuncData} (F:Fun K "row_count" "row_count" WR f fd):Vi P w K mg base (CX1 P w) 4 f fd ["seeds"] (spF K 1 .P (W1 K) Wb.fn):=by
 have YB:=JD (P:=P) (w:=w) (base:=base) T.JP Jv (fun F=>Js T F)
 have UW:=VT (P:=P) (w:=w) (base:=base) T.Zcz Zb2 (fun F=>Zbx T F)
 have Jz:=VT (P:=P) (w:=w) (base:=base) T.Zat Qf (fun F=>Qd T F)
 have Vy:=VT (P:=P) (w:=w) (base:=base) T.Zb1 Zaw (fun F=>Zaj T F)
 refine F.okX ZgY rfl rfl (fun cdv A outer s H E hr=>?_)
 have hu:=hr.units
 refine⟨_,_,⟨[],[],[],.P⟩,rfl,(Zg (W7 (Z6 YB (hr.mono (by decide)) rfl Jy (Zb (pv 0) (Zb Zl (Zb (QO T.c_MOST_ROW_SEEDS rfl) Zf)))))
   (Zk (Z9 (Zo UW (hr.mono (by decide)) rfl (Zb (Zo Jz (hr.mono (by decide)) rfl (Zb (pv 0) Zf)) (Zb (Zo Vy (hr.mono (by decide)) rfl (Zb (pv 0) Zf)) Zf)))))),
   (Zm (Γm:=[.S]) (Qs (DE.toA (Zk7 (Zd (Zd (Zd Zi))) (Za (Zc (i:=0) (m:=.S) rfl (by decide)) (Za (DE.toA Zj) (Za (DE.toA Zj) Ze))))))
   (Y8 (Zg4 (Zd (Zd Zi)) (Pm.calm_fn ZcM) (Za (DE.toA (Zg4 (Zd Zi) (Pm.calm_fn Qb) (Za (Zc (i:=0) (m:=.S) rfl (by decide)) Ze))) (Za (DE.toA (Zg4 (Zd Zi) (Pm.calm_fn QP) (Za (Zc (i:=0) (m:=.S) rfl (by decide)) Ze))) Ze))))), ?_⟩
 refine Pm.ref Wb (g:=fun xs=>_) ?_
 rintro(s:Int) -
 simp only[Wb]
 walk_at "pd"
 rw[YA]
 by_cases h:0<=s/\s<=2000
 ·rw[show Zc0 s 0 2000=none from if_pos h]
  have hk:=Zba h.1 h.2
  obtain⟨a1,a2⟩:=ZdD h.1
  walk_at "pd"
  rw[Jc ⟨h.1,by omega⟩]
  walk_at "pd"
  rw[JC ⟨h.1,by omega⟩]
  walk_at "pd"
  rw[VN ⟨⟨by omega,by omega⟩,by omega⟩,if_neg (by omega),Ztr]
  walk_at "pd"
  rfl
 ·rw[show Zc0 s 0 2000=(some "BadCount":Option Str) from if_neg h]
  walk_at "pd"
theorem UO {s:Int}:Wb.fn [.int s]=orX (Zc0 s 0 2000) (.int (ZhV s)):=Pm.fn_eq Wb s trivial fun(a:Int) e=>by (simp only[Wb,List.cons.injEq,PV.lst.injEq,PV.int.injEq,PV.str.injEq,PV.bl.injEq,PV.tup.injEq,Zy,and_true] at e ⊢;first|(simp only[e];done)|(subst e;rfl)|(rw[e]))
theorem Qu {s:Int} (h:0<=s/\s<=2000):Wb.fn [.int s]=.ok (.int (ZhV s)):=by
 rw[UO,show Zc0 s 0 2000=none from if_pos h];rfl
noncomputable def JI:Pm:=⟨Int×Int,fun a=>[.int a.1,.int a.2],fun a=>0<=a.1/\a.1<=2000,fun a=>orX (Zc0 a.2 0 (ZhV a.1-1)) (.lst ((Yl (unN (kN a.1+1) (adS a.1) a.2)).map PV.int))⟩
theorem Zma (T:Txt K mg) {f:Addr}{fd:FuncData} (F:Fun K "row_at" "row_at" UY f fd):Vi P w K mg base (CX1 P w) 5 f fd ["seeds", "number"] (spF K 2 .F (W1 K) JI.fn):=by
 have YB:=JD (P:=P) (w:=w) (base:=base) T.JP Jv (fun F=>Js T F)
 have Jz:=VT (P:=P) (w:=w) (base:=base) T.Zat Qf (fun F=>Qd T F)
 have Vy:=VT (P:=P) (w:=w) (base:=base) T.Zb1 Zaw (fun F=>Zaj T F)
 have Jn:=VT (P:=P) (w:=w) (base:=base) T.Q5 UP (fun F=>UD T F)
 have UW:=VT (P:=P) (w:=w) (base:=base) T.Zcz Zb2 (fun F=>Zbx T F)
 have Za5:=JD (P:=P) (w:=w) (base:=base) T.ZeP ZdC (fun F=>ZdA T F)
 refine F.okX JF rfl rfl (fun cdv A outer s H E hr=>?_)
 have hu:=hr.units
 refine⟨_,_,⟨[],[],[],.F⟩,rfl,(Zg (W7 (Z6 YB (hr.mono (by decide)) rfl Jy (Zb (pv 1) (Zb Zl (Zb (ZD Va (Z6 Za5 (hr.mono (by decide)) rfl Jy (Zb (pv 0) Zf)) Zl) Zf)))))
   (Zg (Zz (i:=2) JF.nd rfl (by first|exact Or.inl rfl|exact Or.inr rfl) (Zo Jz (hr.mono (by decide)) rfl (Zb (pv 0) Zf)))
   (Zg (Zz (i:=3) JF.nd rfl (by first|exact Or.inl rfl|exact Or.inr rfl) (Zo Vy (hr.mono (by decide)) rfl (Zb (pv 0) Zf)))
   (Zg (Zz (i:=4) JF.nd rfl (by first|exact Or.inl rfl|exact Or.inr rfl) (pv 1))
   (Zg (Zz (i:=5) JF.nd rfl (by first|exact Or.inl rfl|exact Or.inr rfl) (J8 Zf))
   (Zg (PS.nox (Vz PassesOwn.never (Zu ZbH (pv 2) Zl (Z8 _)) (Zg (ZaO (i:=2) JF.nd rfl (by first|exact Or.inl rfl|exact Or.inr rfl) Zl ZfL)
   (Zg (Zz (i:=6) JF.nd rfl (by first|exact Or.inl rfl|exact Or.inr rfl) (Zo UW (hr.mono (by decide)) rfl (Zb (pv 2) (Zb (pv 3) Zf))))
   (Zk (VR (Zu Zl1 (pv 4) (pv 6) (Z8 _)) (Zk (W7 (Zgg PySem.F.plainAttrs_list PySem.F.slot_list_append PySem.F.type_list_append VD (pv 5) (Zb Zl Zf)))) (Zg (W7 (Zgg PySem.F.plainAttrs_list PySem.F.slot_list_append PySem.F.type_list_append VD (pv 5) (Zb Zl Zf)))
   (Zg (ZaO (i:=4) JF.nd rfl (by first|exact Or.inl rfl|exact Or.inr rfl) (pv 6) ZfL)
   (Zk (ZaO (i:=3) JF.nd rfl (by first|exact Or.inl rfl|exact Or.inr rfl) Zl ZfL))))))))))
   (Zk (Z9 (Zo Jn (hr.mono (by decide)) rfl (Zb (pv 5) Zf)))))))))),
   (Zm (Γm:=[.S,.S,.U,.U,.U,.U,.U]) (Qs (DE.toA (Zk7 (Zd (Zd (Zd Zi))) (Za (Zc (i:=1) (m:=.S) rfl (by decide)) (Za (DE.toA Zj) (Za (DE.toA (Vd (DE.toA (Zk7 (Zd Zi) (Za (Zc (i:=0) (m:=.S) rfl (by decide)) Ze))) (DE.toA Zj))) Ze))))))
   (Zm (Γm:=[.S,.S,.P,.U,.U,.U,.U]) (ZH (i:=2) (Zg4 (Zd Zi) (Pm.calm_fn Qb) (Za (Zc (i:=0) (m:=.S) rfl (by decide)) Ze)) (by decide))
   (Zm (Γm:=[.S,.S,.P,.P,.U,.U,.U]) (ZH (i:=3) (Zg4 (Zd Zi) (Pm.calm_fn QP) (Za (Zc (i:=0) (m:=.S) rfl (by decide)) Ze)) (by decide))
   (Zm (Γm:=[.S,.S,.P,.P,.P,.U,.U]) (ZH (i:=4) (DE.grd (Zc (i:=1) (m:=.S) rfl (by decide))) (by decide))
   (Zm (Γm:=[.S,.S,.P,.P,.P,.O,.U]) (Y5 (i:=5) (Jb YQ) (by decide))
   (Zm (Γm:=[.S,.S,.P,.P,.P,.O,.U]) (V4 (Γ:=[.S,.S,.P,.P,.P,.O,.U]) (Zt (DE.toA (ZbU (DE.toA (Zn (i:=2) rfl)) (DE.toA Zj))))
   (DS.out (Y:=⟨[.S,.S,.P,.P,.P,.O,.P],[.S,.S,.P,.P,.P,.O,.U],[.S,.S,.P,.P,.P,.O,.U],.F⟩) (Y':=⟨[.S,.S,.P,.P,.P,.O,.U],[.S,.S,.P,.P,.P,.O,.U],[.S,.S,.P,.P,.P,.O,.U],.F⟩) (Zm (Γm:=[.S,.S,.P,.P,.P,.O,.U]) (UJ (i:=2) rfl (DE.toA Zj))
   (Zm (Γm:=[.S,.S,.P,.P,.P,.O,.P]) (ZH (i:=6) (Zg4 (Zd (Zd Zi)) (Pm.calm_fn ZcM) (Za (DE.toA (Zn (i:=2) rfl)) (Za (DE.toA (Zn (i:=3) rfl)) Ze))) (by decide))
   (Ui (Zt (DE.toA (Zmm (DE.toA (Zn (i:=4) rfl)) (DE.toA (Zn (i:=6) rfl)))))
   (ZbR (i:=5) rfl rfl (DE.PF Zj))
   (Zm (Γm:=[.S,.S,.P,.P,.P,.O,.P]) (ZbR (i:=5) rfl rfl (DE.PF Zj))
   (Zm (Γm:=[.S,.S,.P,.P,.P,.O,.P]) (UJ (i:=4) rfl (DE.toA (Zn (i:=6) rfl)))
   (UJ (i:=3) rfl (DE.toA Zj))))))) rfl rfl rfl rfl))
   (YO (Zh0 (Zd Zi) (Pm.calm_fn U4) (Za (Zc (i:=5) (m:=.O) rfl (by decide)) Ze))))))))), ?_⟩
 refine Pm.ref JI (g:=fun xs=>_) ?_
 rintro⟨s,n⟩ ⟨h0,h1⟩
 simp only at h0 h1
 simp only[JI]
 have hk:=Zba h0 h1
 obtain⟨a1,a2⟩:=ZdD h0
 walk_at "pd"
 rw[Qu ⟨h0,h1⟩]
 walk_at "pd"
 rw[YA]
 by_cases hn:0<=n/\n<=ZhV s-1
 ·rw[show Zc0 n 0 (ZhV s-1)=none from if_pos hn]
  walk_at "pd"
  rw[Jc ⟨h0,by omega⟩]
  walk_at "pd"
  rw[JC ⟨h0,by omega⟩]
  walk_at "pd"
  have hC:n<cC (kN s+1) (adS s):=by
   unfold cC;rw[if_neg (by omega)]
   have:=hn.2
   unfold ZhV at this
   omega
  generalize hw:JX _ _ _=W
  obtain⟨ρ',rfl,l,a,pre,w,rfl,e1,e2,e3,e4,e5⟩:=Wz hw (kN s+1) (fun i ρ=>∃(l:Nat) (a:Int) (pre:List Int) (w:PV),ρ=[.int s,.int n,.int ((kN s+1:Nat)-(i:Int)),.int l,.int a,.lst (pre.map PV.int),w]/\pre.length=i/\l<=63/\0<=a/\a<cC (kN s+1-i) l/\unN (kN s+1) (adS s) n=pre++unN (kN s+1-i) l a) ⟨adS s,n,[],_,by rw[show ((kN s+1:Nat):Int)-((0:Nat):Int)=((kN s+1:Nat):Int) by omega];rfl,rfl,by omega,hn.1,hC,rfl⟩ (by
   rintro i ρ hi ⟨l,a,pre,w,rfl,e1,e2,e3,e4,e5⟩
   constructor
   ·walk_at "pd"
    rw[decide_eq_true (show 0<((kN s+1:Nat):Int)-(i:Int) by omega)]
   ·walk_at "pd"
    rw[VN ⟨⟨by omega,by omega⟩,by omega⟩]
    obtain⟨p,hp⟩:∃p,kN s+1-i=p+1:=⟨kN s-i,by omega⟩
    have hp2:kN s+1-(i+1)=p:=by omega
    have ec:(if ((kN s+1:Nat):Int)-(i:Int)-1<(l:Int) then 0 else chI (((kN s+1:Nat):Int)-(i:Int)-1) (l:Int).toNat)=cC p l:=by
     unfold cC
     rw[show ((kN s+1:Nat):Int)-(i:Int)-1=(p:Int) by omega,Ztr]
     by_cases c:p<l
     ·rw[if_pos c,if_pos (by omega)]
     ·rw[if_neg c,if_neg (by omega)]
    rw[ec]
    rw[hp] at e4 e5
    have eu:unN (p+1) l a=if a<cC p l then 0::unN p l a else 1::unN p (l-1) (a-cC p l):=by rw[unN]
    rw[eu] at e5
    walk_at "pd"
    by_cases c:a<cC p l
    ·rw[if_pos c] at e5
     rw[decide_eq_true c]
     walk_at "pd"
     exact Uy ⟨l,a,pre++[0],_,by rw[show ((kN s+1:Nat):Int)-(i:Int)-1=((kN s+1:Nat):Int)-((i+1:Nat):Int) by omega],by simp[e1],e2,e3,by rw[hp2];exact c,by rw[hp2,e5];simp⟩
    ·obtain⟨u1,u2,u3⟩:=ZnO (by omega) e2 e4 c
     rw[if_neg c] at e5
     rw[decide_eq_false c]
     walk_at "pd"
     exact Uy ⟨l-1,a-cC p l,pre++[1],_,by rw[show ((kN s+1:Nat):Int)-(i:Int)-1=((kN s+1:Nat):Int)-((i+1:Nat):Int) by omega,show (l:Int)-1=((l-1:Nat):Int) by omega],by simp[e1],by omega,u2,by rw[hp2];exact u3,by rw[hp2,e5];simp⟩) (by
   rintro ρ ⟨l,a,pre,w,rfl,e1,e2,e3,e4,e5⟩
   walk_at "pd"
   rw[decide_eq_false (show ¬0<((kN s+1:Nat):Int)-((kN s+1:Nat):Int) by omega)])
  rw[ZuQ,unN,Zub] at e5
  walk_at "pd"
  rw[Jl (by omega),e5]
  walk_at "pd"
  rfl
 ·rw[show Zc0 n 0 (ZhV s-1)=(some "BadCount":Option Str) from if_neg hn]
  walk_at "pd"
theorem Zc1 {s n:Int} (h:0<=s/\s<=2000):JI.fn [.int s,.int n]=orX (Zc0 n 0 (ZhV s-1)) (.lst ((Yl (unN (kN s+1) (adS s) n)).map PV.int)):=Pm.fn_eq JI (s,n) h fun(a:Int×Int) e=>by (simp only[JI,List.cons.injEq,PV.lst.injEq,PV.int.injEq,PV.str.injEq,PV.bl.injEq,PV.tup.injEq,Zy,and_true] at e ⊢;first|(simp only[e];done)|(subst e;rfl)|(rw[e]))
theorem ZeU {s n:Int} (h:0<=s/\s<=2000) (hn:0<=n/\n<ZhV s):JI.fn [.int s,.int n]=.ok (.lst ((Yl (unN (kN s+1) (adS s) n)).map PV.int)):=by
 rw[Zc1 h,show Zc0 n 0 (ZhV s-1)=none from if_pos ⟨hn.1,by omega⟩];rfl
noncomputable def ZaF (l:List Int) (f:Int):List Int:=f::(List.range l.length).map fun(i:Nat)=>if (i:Int)<f then l.getD i 0-1 else l.getD i 0
noncomputable def Yb:Pm:=⟨List Int×Int,fun a=>[.lst (a.1.map PV.int),.int a.2],fun a=>a.1.length<=1000,fun a=>.ok (.lst ((JE (ZaF a.1 a.2)).map PV.int))⟩
theorem Zgz (T:Txt K mg) {f:Addr}{fd:FuncData} (F:Fun K "line_ahead" "line_ahead" Wu f fd):Vi P w K mg base CX0 2 f fd ["line", "first"] (spF K 2 .F W0 Yb.fn):=by
 have WO:=VT (P:=P) (w:=w) (base:=base) T.Vf JV (fun F=>JM T F)
 refine F.okP QI rfl rfl (fun cdv A outer s H E hr=>?_)
 have hu:=hr.units
 refine⟨_,_,⟨[],[],[],.F⟩,rfl,(Zg (Zer (i:=2) QI.nd rfl (Zcj (K:=K) rfl T.z_enumerate (Zb (pv 0) Zf)) (ZdY (K:=K) QI.nd rfl) (fun _ _ _ _=>Zhg) (fun _ _ _ _=>(Zjn (Zu Zl1 (pv 3) (pv 1) (Z8 _)) (ZD Va (pv 4) Zl) (pv 4))) hv2 rfl)
   (Zk (Z9 (Zo WO (hr.mono (by decide)) rfl (Zb (ZD (Zev (K:=K)) (J8 (Zb (pv 1) Zf)) (pv 2)) Zf))))),
   (Zm (Γm:=[.S,.S,.O]) (ZeI (i:=2) (Zec (k:=2) (DI.c (Zi5 (V5 (ZbS (i:=0) rfl) ZbV))) Zr6 Zh1 (DE.PF (Zrg (Zt (DE.toA (Zmm (Zc (i:=3) (m:=.S) rfl (by decide)) (Zc (i:=1) (m:=.S) rfl (by decide))))) (Vd (Zc (i:=4) (m:=.S) rfl (by decide)) (DE.toA Zj)) (DE.grd (Zc (i:=4) (m:=.S) rfl (by decide)))))) (by decide))
   (YO (Zp6 (Zd Zi) (Za (DE.toA (ZeM (DE.toA (Jb (YN (DE.PF (DE.grd (Zc (i:=1) (m:=.S) rfl (by decide)))) YQ))) (Zc (i:=2) (m:=.O) rfl (by decide)))) Ze)))), ?_⟩
 refine Pm.ref Yb (g:=fun xs=>_) ?_
 rintro⟨l,f⟩ (hl:l.length<=1000)
 simp only[Yb]
 walk_at "pd"
 rw[Zcv (g:=fun(i:Nat)=>.int (if (i:Int)<f then l.getD i 0-1 else l.getD i 0)) (fun i hi=>by
  walk_at "pd"
  by_cases c:(i:Int)<f
  ·rw[decide_eq_true c,if_pos c]
   walk_at "pd"
  ·rw[decide_eq_false c,if_neg c]
   walk_at "pd")]
 rw[Zez (by rw[Zas,Zto];omega)]
 walk_at "pd"
 rw[show PV.int f::(List.range l.length).map (fun(i:Nat)=>PV.int (if (i:Int)<f then l.getD i 0-1 else l.getD i 0))=(ZaF l f).map PV.int by unfold ZaF;rw[Ztv,ZtZ];rfl]
 have hal:(ZaF l f).length=l.length+1:=by unfold ZaF;simp
 rw[ZaQ (by omega)]
 walk_at "pd"
 rw[ZM (by omega)]
 walk_at "pd"
theorem VL {l:List Int}{f:Int} (h:l.length<=1000):Yb.fn [.lst (l.map PV.int),.int f]=.ok (.lst ((JE (ZaF l f)).map PV.int)):=Pm.fn_eq Yb (l,f) h fun(a:List Int×Int) e=>by (simp only[Yb,List.cons.injEq,PV.lst.injEq,PV.int.injEq,PV.str.injEq,PV.bl.injEq,PV.tup.injEq,Zy,and_true] at e ⊢;first|(simp only[e];done)|(subst e;rfl)|(rw[e]))
theorem Zgi:Yb.calm:=fun a q h=>by (simp only[Yb] at h;cases h)
noncomputable def VF:List Int->Nat
 |[]=>0
 |a::r=>if 0<a then VF r+1 else 0
theorem Zgw:∀l,VF l<=l.length
 |[]=>Ztj _
 |a::r=>by rw[VF];have:=Zgw r;split<;>simp<;>omega
theorem Zj7:∀(l:List Int) (i:Nat),i<VF l->0<l.getD i 0
 |[],i,h=>by simp[VF] at h
 |a::r,i,h=>by
  rw[VF] at h
  split at h
  ·cases i with
   |zero=>simpa using ‹0<a›
   |succ i=>simpa using Zj7 r i (by omega)
  ·omega
theorem ZeA:∀(l:List Int),VF l<l.length->¬0<l.getD (VF l) 0
 |[],h=>by simp at h
 |a::r,h=>by
  rw[VF] at h ⊢
  split
  ·rename_i c
   rw[if_pos c] at h
   simpa using ZeA r (by simpa using h)
  ·simpa using ‹¬0<a›
noncomputable def Z5:Pm:=⟨List Int,fun a=>[.lst (a.map PV.int)],fun a=>a.length<=100000,fun a=>.ok (.int (VF a:Nat))⟩
theorem Zcr (T:Txt K mg) {f:Addr}{fd:FuncData} (F:Fun K "held_from_first" "held_from_first" ZR f fd):Vi P w K mg base CX0 1 f fd ["line"] (spF K 1 .P W0 Z5.fn):=by
 refine F.okP JG rfl rfl (fun cdv A outer s H E hr=>?_)
 have hu:=hr.units
 refine⟨_,_,⟨[],[],[],.P⟩,rfl,(Zg (Zz (i:=1) JG.nd rfl (by first|exact Or.inl rfl|exact Or.inr rfl) Zl)
   (Zg (Vz PassesOwn.never (PW.pt (Zhe (Zu Zl1 (pv 1) (Zr (Z3 (K:=K)) rfl T.z_len Wt (Zb (pv 0) Zf)) (Z8 _)) (Zeq (Zu ZbH (WD (ZA (K:=K)) (pv 0) (pv 1) (fun _ _=>rfl)) Zl (Z8 _))))) (Zk (ZaO (i:=1) JG.nd rfl (by first|exact Or.inl rfl|exact Or.inr rfl) Zl Zhr)))
   (Zk (Z9 (pv 1))))),
   (Zm (Γm:=[.S,.P]) (ZH (i:=1) Zj (by decide))
   (Zm (Γm:=[.S,.P]) (V4 (Γ:=[.S,.P]) (Zh3 (Zt (DE.toA (Zmm (DE.toA (Zn (i:=1) rfl)) (DE.toA (Wn (Za (Zc (i:=0) (m:=.S) rfl (by decide)) Ze)))))) (Zt (DE.toA (ZbU (Yo (te:=tC .non) (Zc (i:=0) (m:=.S) rfl (by decide)) (DE.toA (Zn (i:=1) rfl))) (DE.toA Zj)))))
   (UJ (i:=1) rfl (DE.toA Zj)))
   (Y8 (Zn (i:=1) rfl)))), ?_⟩
 refine Pm.ref Z5 (g:=fun xs=>_) ?_
 rintro(l:List Int) (hl:l.length<=100000)
 simp only[Z5]
 have hle:=Zgw l
 walk_at "pd"
 generalize hw:JX _ _ _=W
 obtain⟨ρ',rfl,rfl⟩:=Wz hw (VF l) (fun(i:Nat) ρ=>ρ=[.lst (l.map PV.int),.int i]) rfl (by
  rintro i ρ hi rfl
  have hp:=Zj7 l i hi
  constructor
  ·walk_at "pd"
   rw[decide_eq_true (show (i:Int)<l.length by omega)]
   walk_at "pd"
   rw[Ztr,decide_eq_true hp]
  ·walk_at "pd"
   exact Uy (by rw[show ((i+1:Nat):Int)=(i:Int)+1 by omega])) (by
  rintro ρ rfl
  walk_at "pd"
  by_cases c:VF l<l.length
  ·rw[decide_eq_true (show ((VF l:Nat):Int)<l.length by omega)]
   walk_at "pd"
   rw[Ztr,decide_eq_false (ZeA l c)]
  ·rw[decide_eq_false (show ¬((VF l:Nat):Int)<l.length by omega)]
   walk_at "pd")
 walk_at "pd"
theorem Wq {l:List Int} (h:l.length<=100000):Z5.fn [.lst (l.map PV.int)]=.ok (.int (VF l:Nat)):=Pm.fn_eq Z5 l h fun(a:List Int) e=>by (simp only[Z5,List.cons.injEq,PV.lst.injEq,PV.int.injEq,PV.str.injEq,PV.bl.injEq,PV.tup.injEq,Zy,and_true] at e ⊢;first|(simp only[e];done)|(subst e;rfl)|(rw[e]))
theorem Zck:Z5.calm:=fun a q h=>by (simp only[Z5] at h;cases h)
noncomputable def ZeZ (l:List Int):List (List Int):=if l=[] then [[]] else ((List.range (VF l)).map fun(i:Nat)=>JE (ZaF l (1+i))).filter fun q=>decide (q.length<=100)
noncomputable def llP (L:List (List Int)):PV:=.lst (L.map fun q=>.lst (q.map PV.int))
noncomputable def WU:Pm:=⟨List Int,fun a=>[.lst (a.map PV.int)],fun a=>a.length<=100000,fun a=>orX (ZdJ a) (llP (ZeZ a))⟩
theorem Zi1 (T:Txt K mg) {f:Addr}{fd:FuncData} (F:Fun K "ahead_of" "ahead_of" J6 f fd):Vi P w K mg base (CX1 P w) 5 f fd ["line"] (spF K 1 .F (W1 K) WU.fn):=by
 have Wf:=JD (P:=P) (w:=w) (base:=base) T.VI JW (fun F=>JN T F)
 have ZhR:=VT (P:=P) (w:=w) (base:=base) T.ZhB ZgF (fun F=>Zgz T F)
 have Zdz:=VT (P:=P) (w:=w) (base:=base) T.Zdn Zc2 (fun F=>Zcr T F)
 refine F.okX QK rfl rfl (fun cdv A outer s H E hr=>?_)
 have hu:=hr.units
 refine⟨_,_,⟨[],[],[],.F⟩,rfl,(Zg (W7 (Z6 Wf (hr.mono (by decide)) rfl Jy (Zb (pv 0) Zf)))
   (Zg (VR (Zu (Zb8 (K:=K) hu) (pv 0) (J8 Zf) (Z8 _)) (Zk (Z9 (J8 (Zb (J8 Zf) Zf)))) Y6)
   (Zg (ZfF (i:=1) QK.nd rfl (Zll rfl T.z_range (Zb Zl (Zb (ZD VC (Zo Zdz (hr.mono (by decide)) rfl (Zb (pv 0) Zf)) Zl) Zf))) (fun _ _ _ _=>(Zo ZhR (hr.mono (by decide)) rfl (Zb (pv 0) (Zb (pv 2) Zf)))) rfl)
   (Zk (Z9 (Zbt (Qa (K:=K) (pv 1)) (Zgk QK.nd) (fun _ _ _ _=>(Zlp (fun _ _ h=>h) (Zu Zno (Zr (Z3 (K:=K)) rfl T.z_len Wt (Zb (pv 2) Zf)) (QO T.c_MOST_LINE_PITS rfl) (Z8 _)))) (fun _ _ _ _=>(pv 2)) hv1 QK.nd rfl)))))),
   (Zm (Γm:=[.S,.U]) (Qs (DE.toA (Zk7 (Zd Zi) (Za (Zc (i:=0) (m:=.S) rfl (by decide)) Ze))))
   (Zm (Γm:=[.S,.U]) (Ui (Zt (DE.toA (Jo (g:=id) (Zc (i:=0) (m:=.S) rfl (by decide)) (DE.toA (Jb YQ)))))
   (YO (Jb (YN (Jb YQ) YQ)))
   Y9)
   (Zm (Γm:=[.S,.O]) (ZfR (i:=1) (Qe (DI.c (Zpx (Za (DE.toA Zj) (Za (DE.toA (VG (DE.toA (Zg4 (Zd Zi) (Pm.calm_fn Zck) (Za (Zc (i:=0) (m:=.S) rfl (by decide)) Ze))) (DE.toA Zj))) Ze)))) (Zh0 (Zd (Zd Zi)) (Pm.calm_fn Zgi) (Za (Zc (i:=0) (m:=.S) rfl (by decide)) (Za (Zc (i:=2) (m:=.S) rfl (by decide)) Ze)))) (by decide))
   (YO (Zh8 (i:=1) rfl (Zt (DE.toA (ZnC (DE.toA (Wn (Za (Zc (i:=2) (m:=.S) rfl (by decide)) Ze))) (DE.toA Zj)))) rfl))))), ?_⟩
 refine Pm.ref WU (g:=fun xs=>_) ?_
 rintro(l:List Int) (hl:l.length<=100000)
 simp only[WU]
 walk_at "pd"
 rw[We (by omega)]
 by_cases h:ZC l
 ·rw[JL h]
  simp only[orX]
  have n1:=h.2.1
  walk_at "pd"
  unfold ZeZ
  by_cases hz:l=[]
  ·subst hz
   walk_at "pd"
   rfl
  ·rw[if_neg hz,decide_eq_false hz]
   have hle:=Zgw l
   walk_at "pd"
   rw[Wq hl]
   walk_at "pd"
   have hmap:∀n:Nat,ZhX (fun x=>Yb.fn [PV.lst (l.map PV.int),x]) (ZhW 1 n)=.ok ((List.range n).map fun(i:Nat)=>PV.lst ((JE (ZaF l (1+i))).map PV.int)):=by
    intro n
    unfold ZhW
    rw[ZlG (g:=fun x=>match x with
     |.int f=>PV.lst ((JE (ZaF l f)).map PV.int)
     |_=>.non) (fun x hx=>by
     obtain⟨i,_,rfl⟩:=ZtA.mp hx
     exact VL (by omega)),ZtZ]
    rfl
   rw[hmap,show (((VF l:Nat):Int)+1-1).toNat=VF l by omega]
   walk_at "pd"
   rw[show (List.range (VF l)).map (fun(i:Nat)=>PV.lst ((JE (ZaF l (1+i))).map PV.int))=((List.range (VF l)).map fun(i:Nat)=>JE (ZaF l (1+i))).map (fun q=>PV.lst (q.map PV.int)) by rw[ZtZ];rfl]
   have hfil:∀(L:List (List Int)),Zfu (fun x=>((((Zk4 [x]).bind fun x=>pLe x (PV.int 100)).bind asB).bind fun b=>Rr.ok (if b=true then some x else none))) (L.map fun q=>PV.lst (q.map PV.int))=.ok ((L.filter fun q=>decide (q.length<=100)).map fun q=>PV.lst (q.map PV.int)):=by
    intro L
    induction L with
    |nil=>rfl
    |cons q L ih =>
     have hq:Zk4 [PV.lst (q.map PV.int)]=.ok (.int (q.length:Nat)):=by
      show Rr.ok (PV.int ((q.map PV.int).length:Nat))=_
      rw[Zto]
     rw[Ztv]
     simp only[Zfu,ih,hq,Rr.bind_ok]
     rw[show pLe (PV.int (q.length:Nat)) (PV.int 100)=.ok (.bl (decide (((q.length:Nat):Int)<=100))) from rfl]
     by_cases c:q.length<=100
     ·rw[decide_eq_true (show ((q.length:Nat):Int)<=100 by omega),Zus,decide_eq_true c];rfl
     ·rw[decide_eq_false (show ¬((q.length:Nat):Int)<=100 by omega),Zus,decide_eq_false c];rfl
   rw[hfil]
   walk_at "pd"
   rfl
 ·rw[V2 h]
  simp only[orX]
  walk_at "pd"
theorem Q9 {l:List Int} (h:l.length<=100000):WU.fn [.lst (l.map PV.int)]=orX (ZdJ l) (llP (ZeZ l)):=Pm.fn_eq WU l h fun(a:List Int) e=>by (simp only[WU,List.cons.injEq,PV.lst.injEq,PV.int.injEq,PV.str.injEq,PV.bl.injEq,PV.tup.injEq,Zy,and_true] at e ⊢;first|(simp only[e];done)|(subst e;rfl)|(rw[e]))
noncomputable def ZW:Pm:=⟨Int×Int,fun a=>[.int a.1,.int a.2],fun a=>0<=a.1/\0<=a.2,fun a=>.ok (.int (ZlY a.1 a.2))⟩
theorem Zde (T:Txt K mg) {f:Addr}{fd:FuncData} (F:Fun K "common_divisor" "common_divisor" Yk f fd):Vi P w K mg base CX0 1 f fd ["number", "other"] (spF K 2 .P W0 ZW.fn):=by
 refine F.okP Jj rfl rfl (fun cdv A outer s H E hr=>?_)
 have hu:=hr.units
 refine⟨_,_,⟨[],[],[],.P⟩,rfl,(Zg (Vz PassesOwn.never (Zu ZbH (pv 1) Zl (Z8 _)) (Zg (Zz (i:=2) Jj.nd rfl (by first|exact Or.inl rfl|exact Or.inr rfl) (ZD Vb (pv 0) (pv 1)))
   (Zg (Zz (i:=0) Jj.nd rfl (by first|exact Or.inl rfl|exact Or.inr rfl) (pv 1))
   (Zk (Zz (i:=1) Jj.nd rfl (by first|exact Or.inl rfl|exact Or.inr rfl) (pv 2))))))
   (Zk (Z9 (pv 0)))),
   (Zm (Γm:=[.S,.S,.U]) (V4 (Γ:=[.S,.S,.U]) (Zt (DE.toA (ZbU (Zc (i:=1) (m:=.S) rfl (by decide)) (DE.toA Zj))))
   (DS.out (Y:=⟨[.P,.P,.P],[.S,.S,.U],[.S,.S,.U],.P⟩) (Y':=⟨[.S,.S,.U],[.S,.S,.U],[.S,.S,.U],.P⟩) (Zm (Γm:=[.S,.S,.P]) (ZH (i:=2) (Ve (Zc (i:=0) (m:=.S) rfl (by decide)) (Zc (i:=1) (m:=.S) rfl (by decide))) (by decide))
   (Zm (Γm:=[.P,.S,.P]) (ZH (i:=0) (DE.grd (Zc (i:=1) (m:=.S) rfl (by decide))) (by decide))
   (ZH (i:=1) (Zn (i:=2) rfl) (by decide)))) rfl rfl rfl rfl))
   (Y8 (DE.grd (Zc (i:=0) (m:=.S) rfl (by decide))))), ?_⟩
 refine Pm.ref ZW (g:=fun xs=>_) ?_
 rintro⟨a,b⟩ ⟨h0,h1⟩
 simp only at h0 h1
 simp only[ZW]
 walk_at "pd"
 generalize hw:JX _ _ _=W
 obtain⟨ρ',rfl,⟨x,y,v,hx,hy,hg,rfl⟩,he⟩:=ZkB hw (fun ρ=>∃x y v,0<=x/\0<=y/\ZlY x y=ZlY a b/\ρ=[.int x,.int y,v]) (fun ρ=>match gv 1 ρ with|.int t=>t.toNat|_=>0) ⟨a,b,_,h0,h1,rfl,rfl⟩ (by
  rintro ρ ⟨x,y,v,hx,hy,hg,rfl⟩
  by_cases hp:0<y
  ·right
   have m0:=Zum x (show y≠0 by omega)
   have m1:=Zuh x hp
   constructor
   ·walk_at "pd"
    rw[decide_eq_true hp]
   ·walk_at "pd"
    exact Uy ⟨⟨y,x%y,_,hy,m0,by rw[ZlX hx hp];exact hg,rfl⟩,by show (x%y).toNat<y.toNat;omega⟩
  ·left
   walk_at "pd"
   rw[decide_eq_false hp])
 have hz:¬0<y:=by
  intro z
  revert he
  walk_at "pd"
  rw[decide_eq_true z]
  intro q
  cases q
 rw[show y=0 by omega,ZlW hx] at hg
 walk_at "pd"
 rw[hg]
theorem WF {a b:Int} (h:0<=a/\0<=b):ZW.fn [.int a,.int b]=.ok (.int (ZlY a b)):=Pm.fn_eq ZW (a,b) h fun(a:Int×Int) e=>by (simp only[ZW,List.cons.injEq,PV.lst.injEq,PV.int.injEq,PV.str.injEq,PV.bl.injEq,PV.tup.injEq,Zy,and_true] at e ⊢;first|(simp only[e];done)|(subst e;rfl)|(rw[e]))
noncomputable def Ys:Pm:=⟨Int×Int×Int,fun a=>[.int a.1,.int a.2.1,.int a.2.2],fun a=>(0<=a.2.1/\0<=a.2.2)/\a.1<=63/\a.2.2<a.1/\a.2.1<a.1,fun a=>.ok (.int (ZlM a.1.toNat a.2.1.toNat a.2.2.toNat))⟩
theorem Zg0 (T:Txt K mg) {f:Addr}{fd:FuncData} (F:Fun K "count_kept" "count_kept" Wv f fd):Vi P w K mg base CX0 2 f fd ["places", "added", "marches"] (spF K 3 .P W0 Ys.fn):=by
 have ZdR:=VT (P:=P) (w:=w) (base:=base) T.ZdM Zdr (fun F=>Zde T F)
 have UW:=VT (P:=P) (w:=w) (base:=base) T.Zcz Zb2 (fun F=>Zbx T F)
 refine F.okP QJ rfl rfl (fun cdv A outer s H E hr=>?_)
 have hu:=hr.units
 refine⟨_,_,⟨[],[],[],.P⟩,rfl,(Zg (Zz (i:=3) QJ.nd rfl (by first|exact Or.inl rfl|exact Or.inr rfl) (Zo ZdR (hr.mono (by decide)) rfl (Zb (pv 0) (Zb (pv 2) Zf))))
   (Zg (Zz (i:=4) QJ.nd rfl (by first|exact Or.inl rfl|exact Or.inr rfl) (ZD QQ (pv 0) (pv 3)))
   (Zg (VR (Zu (Za8 (K:=K) hu) (ZD Vb (pv 1) (pv 4)) Zl (Z8 _)) (Zk (Z9 Zl)) Y6)
   (Zk (Z9 (Zo UW (hr.mono (by decide)) rfl (Zb (pv 3) (Zb (ZD QQ (pv 1) (pv 4)) Zf)))))))),
   (Zm (Γm:=[.S,.S,.S,.P,.U]) (ZH (i:=3) (Zor (Zd (Zd Zi)) (Za (Zc (i:=0) (m:=.S) rfl (by decide)) (Za (Zc (i:=2) (m:=.S) rfl (by decide)) Ze))) (by decide))
   (Zm (Γm:=[.S,.S,.S,.P,.P]) (ZH (i:=4) (ZeL (Zc (i:=0) (m:=.S) rfl (by decide)) (DE.toA (Zn (i:=3) rfl))) (by decide))
   (Zm (Γm:=[.S,.S,.S,.P,.P]) (Ui (Zt (DE.toA (Jo (g:=(!·)) (DE.toA (Ve (Zc (i:=1) (m:=.S) rfl (by decide)) (DE.toA (Zn (i:=4) rfl)))) (DE.toA Zj))))
   (Y8 Zj)
   Y9)
   (Y8 (Zor (Zd (Zd Zi)) (Za (DE.toA (Zn (i:=3) rfl)) (Za (DE.toA (ZeL (Zc (i:=1) (m:=.S) rfl (by decide)) (DE.toA (Zn (i:=4) rfl)))) Ze))))))), ?_⟩
 refine Pm.ref Ys (g:=fun xs=>_) ?_
 rintro⟨n',a',m'⟩ ⟨⟨p1,p2⟩,h1,h2,h3⟩
 simp only at p1 p2 h1 h2 h3
 obtain⟨n,rfl⟩:=ZuM (show 0<=n' by omega)
 obtain⟨a,rfl⟩:=ZuM p1
 obtain⟨m,rfl⟩:=ZuM p2
 simp only[Ys,Ztr]
 have g:=gd (n:=n) (m:=m) (a:=a) (by omega) (by omega) (by omega)
 have g1:=g.p1
 have g2:=g.p2
 have g3:=g.le
 have g4:=g.le2
 have g5:n/Nat.gcd n m<=n:=Nat.div_le_self _ _
 walk_at "pd"
 rw[WF ⟨by omega,by omega⟩,show ZlY (n:Int) (m:Int)=(Nat.gcd n m:Nat) by unfold ZlY;rw[Ztr,Ztr]]
 unfold ZlM
 generalize Nat.gcd n m=q at *
 walk_at "pd"
 rw[<- Int.natCast_ediv]
 generalize n/q=t at *
 walk_at "pd"
 rw[<- Zu1]
 by_cases c:a%t=0
 ·rw[if_pos c,decide_eq_true (show ((a%t:Nat):Int)=0 by omega)]
  walk_at "pd"
  rw[<- Int.natCast_ediv,VN ⟨⟨by omega,by omega⟩,Int.natCast_nonneg _⟩,if_neg (show ¬(q:Int)<((a/t:Nat):Int) from fun z=>by have:=Int.ofNat_lt.mp z;omega),Ztr]
  walk_at "pd"
 ·rw[if_neg c,decide_eq_false (show ¬((a%t:Nat):Int)=0 by omega)]
  walk_at "pd"
theorem VM {n a m:Int} (h:(0<=a/\0<=m)/\n<=63/\m<n/\a<n):Ys.fn [.int n,.int a,.int m]=.ok (.int (ZlM n.toNat a.toNat m.toNat)):=Pm.fn_eq Ys (n,a,m) h fun(a:Int×Int×Int) e=>by (simp only[Ys,List.cons.injEq,PV.lst.injEq,PV.int.injEq,PV.str.injEq,PV.bl.injEq,PV.tup.injEq,Zy,and_true] at e ⊢;first|(simp only[e];done)|(subst e;rfl)|(rw[e]))
theorem Zgj:Ys.calm:=fun a q h=>by (simp only[Ys] at h;cases h)
noncomputable def Zjf (s:Int):Int:=Zqk (kN s+1) (adS s)
noncomputable def Yp:Pm:=⟨Int,fun a=>[.int a],fun _=>True,fun a=>orX (Zc0 a 0 2000) (.int (Zjf a))⟩
theorem ZbA (T:Txt K mg) {f:Addr}{fd:FuncData} (F:Fun K "round_count" "round_count" YU f fd):Vi P w K mg base (CX1 P w) 4 f fd ["seeds"] (spF K 1 .P (W1 K) Yp.fn):=by
 have YB:=JD (P:=P) (w:=w) (base:=base) T.JP Jv (fun F=>Js T F)
 have Jz:=VT (P:=P) (w:=w) (base:=base) T.Zat Qf (fun F=>Qd T F)
 have ZhS:=VT (P:=P) (w:=w) (base:=base) T.ZhC ZgG (fun F=>Zg0 T F)
 have Vy:=VT (P:=P) (w:=w) (base:=base) T.Zb1 Zaw (fun F=>Zaj T F)
 refine F.okX Qh rfl rfl (fun cdv A outer s H E hr=>?_)
 have hu:=hr.units
 refine⟨_,_,⟨[],[],[],.P⟩,rfl,(Zg (W7 (Z6 YB (hr.mono (by decide)) rfl Jy (Zb (pv 0) (Zb Zl (Zb (QO T.c_MOST_ROW_SEEDS rfl) Zf)))))
   (Zg (Zz (i:=1) Qh.nd rfl (by first|exact Or.inl rfl|exact Or.inr rfl) (Zo Jz (hr.mono (by decide)) rfl (Zb (pv 0) Zf)))
   (Zk (Z9 (ZD QQ (Zr (UN (K:=K) rfl) rfl T.z_sum ZeY (Zb (ZcK (WV rfl T.z_range (Zb (pv 1) Zf)) (fun _ _ _ _=>(Zo ZhS (hr.mono (by decide)) rfl (Zb (pv 1) (Zb (Zo Vy (hr.mono (by decide)) rfl (Zb (pv 0) Zf)) (Zb (pv 2) Zf))))) Qh.nd rfl) Zf)) (pv 1)))))),
   (Zm (Γm:=[.S,.U]) (Qs (DE.toA (Zk7 (Zd (Zd (Zd Zi))) (Za (Zc (i:=0) (m:=.S) rfl (by decide)) (Za (DE.toA Zj) (Za (DE.toA Zj) Ze))))))
   (Zm (Γm:=[.S,.P]) (ZH (i:=1) (Zg4 (Zd Zi) (Pm.calm_fn Qb) (Za (Zc (i:=0) (m:=.S) rfl (by decide)) Ze)) (by decide))
   (Y8 (ZeL (DE.toA (ZeK (Za (DE.toA (Qe (DI.c (UK (Za (DE.toA (Zn (i:=1) rfl)) Ze))) (DE.PF (Zg4 (Zd (Zd (Zd Zi))) (Pm.calm_fn Zgj) (Za (DE.toA (Zn (i:=1) rfl)) (Za (DE.toA (Zg4 (Zd Zi) (Pm.calm_fn QP) (Za (Zc (i:=0) (m:=.S) rfl (by decide)) Ze))) (Za (Zc (i:=2) (m:=.S) rfl (by decide)) Ze))))))) Ze))) (DE.toA (Zn (i:=1) rfl)))))), ?_⟩
 refine Pm.ref Yp (g:=fun xs=>_) ?_
 rintro(s:Int) -
 simp only[Yp]
 walk_at "pd"
 rw[YA]
 by_cases h:0<=s/\s<=2000
 ·rw[show Zc0 s 0 2000=none from if_pos h]
  have hk:=Zba h.1 h.2
  obtain⟨a1,a2⟩:=ZdD h.1
  walk_at "pd"
  rw[Jc ⟨h.1,by omega⟩]
  walk_at "pd"
  rw[ZlE (g:=fun i=>ZlM (kN s+1) (adS s) i) (fun i hi=>by
   walk_at "pd"
   rw[JC ⟨h.1,by omega⟩]
   walk_at "pd"
   rw[VM ⟨⟨by omega,by omega⟩,by omega,by omega,by omega⟩,show (0+(i:Int)).toNat=i by omega,Ztr,Ztr])]
  walk_at "pd"
  rw[Ztr];rfl
 ·rw[show Zc0 s 0 2000=(some "BadCount":Option Str) from if_neg h]
  walk_at "pd"
theorem JQ {s:Int}:Yp.fn [.int s]=orX (Zc0 s 0 2000) (.int (Zjf s)):=Pm.fn_eq Yp s trivial fun(a:Int) e=>by (simp only[Yp,List.cons.injEq,PV.lst.injEq,PV.int.injEq,PV.str.injEq,PV.bl.injEq,PV.tup.injEq,Zy,and_true] at e ⊢;first|(simp only[e];done)|(subst e;rfl)|(rw[e]))
theorem ZaD {s:Int} (h:0<=s/\s<=2000):Yp.fn [.int s]=.ok (.int (Zjf s)):=by
 rw[JQ,show Zc0 s 0 2000=none from if_pos h];rfl
noncomputable def ZO:Pm:=⟨List Int×Int×Int,fun a=>[.lst (a.1.map PV.int),.int a.2.1,.int a.2.2],fun a=>a.1.length<=1000,fun a=>.ok (.bl (Zi9 a.2.1 a.2.2 a.1))⟩
theorem ZdL (T:Txt K mg) {f:Addr}{fd:FuncData} (F:Fun K "can_be_filled" "can_be_filled" Yx f fd):Vi P w K mg base CX0 1 f fd ["numbers", "places", "ones"] (spF K 3 .P W0 ZO.fn):=by
 refine F.okP Za7 rfl rfl (fun cdv A outer s H E hr=>?_)
 have hu:=hr.units
 refine⟨_,_,⟨[],[],[],.P⟩,rfl,(Zg (Zz (i:=3) Za7.nd rfl (by first|exact Or.inl rfl|exact Or.inr rfl) (ZD Va (pv 2) (Zr (UN (K:=K) rfl) rfl T.z_sum ZeY (Zb (pv 0) Zf))))
   (Zk (Z9 (Zjo (ZcL Zq6 (pv 3) Zl (Z8 _)) (Zjm (ZcL Zno (pv 3) (ZD Va (pv 1) (Zr (Z3 (K:=K)) rfl T.z_len Wt (Zb (pv 0) Zf))) (Z8 _))))))),
   (Zm (Γm:=[.S,.S,.S,.P]) (ZH (i:=3) (Vd (Zc (i:=2) (m:=.S) rfl (by decide)) (DE.toA (ZeK (Za (Zc (i:=0) (m:=.S) rfl (by decide)) Ze)))) (by decide))
   (Y8 (ZjF (DE.toA (Zrh (DE.toA (Zn (i:=3) rfl)) (DE.toA Zj))) (ZnC (DE.toA (Zn (i:=3) rfl)) (DE.toA (Vd (Zc (i:=1) (m:=.S) rfl (by decide)) (DE.toA (Wn (Za (Zc (i:=0) (m:=.S) rfl (by decide)) Ze))))))))), ?_⟩
 refine Pm.ref ZO (g:=fun xs=>_) ?_
 rintro⟨m,P,o⟩ (hm:m.length<=1000)
 simp only[ZO]
 walk_at "pd"
 unfold Zi9
 by_cases c:0<=o-m.sum
 ·rw[decide_eq_true c]
  walk_at "pd"
 ·rw[decide_eq_false c]
  walk_at "pd"
theorem Je {m:List Int}{P o:Int} (h:m.length<=1000):ZO.fn [.lst (m.map PV.int),.int P,.int o]=.ok (.bl (Zi9 P o m)):=Pm.fn_eq ZO (m,P,o) h fun(a:List Int×Int×Int) e=>by (simp only[ZO,List.cons.injEq,PV.lst.injEq,PV.int.injEq,PV.str.injEq,PV.bl.injEq,PV.tup.injEq,Zy,and_true] at e ⊢;first|(simp only[e];done)|(subst e;rfl)|(rw[e]))
noncomputable def YH:Pm:=⟨List Int×Int×Int×Int,fun a=>[.lst (a.1.map PV.int),.int a.2.1,.int a.2.2.1,.int a.2.2.2],fun a=>1<=a.2.1/\a.2.1<=a.1.length/\a.1.length<=900,fun a=>.ok (.lst ((mkF a.2.2.1 a.2.2.2 (a.1,a.2.1)).map Wm))⟩
theorem Zfq (T:Txt K mg) {f:Addr}{fd:FuncData} (F:Fun K "made_longer" "made_longer" YV f fd):Vi P w K mg base CX0 2 f fd ["numbers", "period", "places", "ones"] (spF K 4 .F W0 YH.fn):=by
 have Zfh:=VT (P:=P) (w:=w) (base:=base) T.ZeR ZdQ (fun F=>ZdL T F)
 refine F.okP Jq rfl rfl (fun cdv A outer s H E hr=>?_)
 have hu:=hr.units
 refine⟨_,_,⟨[],[],[],.F⟩,rfl,(Zg (Zz (i:=4) Jq.nd rfl (by first|exact Or.inl rfl|exact Or.inr rfl) (WD (ZA (K:=K)) (pv 0) (ZD Va (Zr (Z3 (K:=K)) rfl T.z_len Wt (Zb (pv 0) Zf)) (pv 1)) (fun _ _=>rfl)))
   (Zg (Zz (i:=5) Jq.nd rfl (by first|exact Or.inl rfl|exact Or.inr rfl) (J8 (Zb (Zd4 (Zb (ZD (Zev (K:=K)) (pv 0) (J8 (Zb (pv 4) Zf))) (Zb (pv 1) Zf))) Zf)))
   (Zg (VR (Zu (Zb8 (K:=K) hu) (pv 4) Zl (Z8 _)) (Zk (W7 (Zgg PySem.F.plainAttrs_list PySem.F.slot_list_append PySem.F.type_list_append VD (pv 5) (Zb (Zd4 (Zb (ZD (Zev (K:=K)) (pv 0) (J8 (Zb Zl Zf))) (Zb (ZD VC (Zr (Z3 (K:=K)) rfl T.z_len Wt (Zb (pv 0) Zf)) Zl) Zf))) Zf)))) Y6)
   (Zk (Z9 (Zbt (Qa (K:=K) (pv 5)) (Zgk Jq.nd) (fun _ _ _ _=>(Zlp (fun _ _ h=>h) (ZfE (Zo Zfh (hr.mono (by decide)) rfl (Zb (WD (ZA (K:=K)) (pv 6) Zl (fun _ _=>rfl)) (Zb (pv 2) (Zb (pv 3) Zf))))))) (fun _ _ _ _=>(pv 6)) hv1 Jq.nd rfl)))))),
   (Zm (Γm:=[.S,.S,.S,.S,.P,.U]) (ZH (i:=4) (DE.grd (Yo (te:=tC .non) (Zc (i:=0) (m:=.S) rfl (by decide)) (DE.toA (Vd (DE.toA (Wn (Za (Zc (i:=0) (m:=.S) rfl (by decide)) Ze))) (Zc (i:=1) (m:=.S) rfl (by decide)))))) (by decide))
   (Zm (Γm:=[.S,.S,.S,.S,.P,.O]) (Y5 (i:=5) (Jb (YN (ZeJ (YN (ZeM (Zc (i:=0) (m:=.S) rfl (by decide)) (DE.toA (Jb (YN (DE.PF (Zn (i:=4) rfl)) YQ)))) (YN (DE.PF (DE.grd (Zc (i:=1) (m:=.S) rfl (by decide)))) YQ))) YQ)) (by decide))
   (Zm (Γm:=[.S,.S,.S,.S,.P,.O]) (Ui (Zt (DE.toA (Jo (g:=id) (DE.toA (Zn (i:=4) rfl)) (DE.toA Zj))))
   (ZbR (i:=5) rfl rfl (ZeJ (YN (ZeM (Zc (i:=0) (m:=.S) rfl (by decide)) (DE.toA (Jb (YN (DE.PF Zj) YQ)))) (YN (DE.PF (VG (DE.toA (Wn (Za (Zc (i:=0) (m:=.S) rfl (by decide)) Ze))) (DE.toA Zj))) YQ))))
   Y9)
   (YO (Zh8 (i:=5) rfl (ZpR (DE.toA (Zor (Zd (Zd (Zd Zi))) (Za (Yo (te:=tC .non) (Zc (i:=6) (m:=.S) rfl (by decide)) (DE.toA Zj)) (Za (Zc (i:=2) (m:=.S) rfl (by decide)) (Za (Zc (i:=3) (m:=.S) rfl (by decide)) Ze)))))) rfl))))), ?_⟩
 refine Pm.ref YH (g:=fun xs=>_) ?_
 rintro⟨m,p,P,o⟩ ⟨h0,h1,h2⟩
 simp only at h0 h1 h2
 simp only[YH]
 walk_at "pd"
 have hag:m.getD ((m.length:Int)-p).toNat 0=agF (m,p):=rfl
 rw[hag]
 have fin:∀L:List (List Int×Int),(∀r∈L,r.1.length<=1000)->Zfu (fun x=>((((pIx x (PV.int 0)).bind fun x=>Rr.ok [x,PV.int P,PV.int o]).bind ZO.fn).bind asB).bind fun b=>Rr.ok (if b=true then some x else none)) (L.map Wm)=.ok ((L.filter fun r=>Zi9 P o r.1).map Wm):=fun L hL =>
  Zmd (q:=Wm) (p:=fun r=>Zi9 P o r.1) (g:=Wm) (fun r hr=>by
   obtain⟨l,q⟩:=r
   have:=hL _ hr
   simp only[Wm]
   walk_at "pd"
   rw[Je this]
   walk_at "pd")
 unfold mkF
 by_cases c:agF (m,p)=0
 ·rw[decide_eq_true c,if_pos c]
  walk_at "pd"
  rw[Zjs (by simp)]
  walk_at "pd"
  have h:=fin [(m++[agF (m,p)],p),(m++[1],(m.length:Int)+1)] (by simp;omega)
  simp only[Ztv,ZtK,Wm] at h
  rw[h]
  walk_at "pd"
 ·rw[decide_eq_false c,if_neg c]
  walk_at "pd"
  have h:=fin [(m++[agF (m,p)],p)] (by simp;omega)
  simp only[Ztv,ZtK,Wm] at h
  rw[h]
  walk_at "pd"
theorem JR {m:List Int}{p P o:Int} (h:1<=p/\p<=m.length/\m.length<=900):YH.fn [.lst (m.map PV.int),.int p,.int P,.int o]=.ok (.lst ((mkF P o (m,p)).map Wm)):=Pm.fn_eq YH (m,p,P,o) h fun(a:List Int×Int×Int×Int) e=>by (simp only[YH,List.cons.injEq,PV.lst.injEq,PV.int.injEq,PV.str.injEq,PV.bl.injEq,PV.tup.injEq,Zy,and_true] at e ⊢;first|(simp only[e];done)|(subst e;rfl)|(rw[e]))
noncomputable def ZZ:Pm:=⟨Nat×Nat,fun a=>[.int a.1,.int a.2],fun a=>(1<=a.1/\a.1<=17)/\∀i,i<a.1->lvF a.1 a.2 i≠[],fun a=>.ok (.lst ((ltF a.1 a.2).map VP))⟩
theorem Zfs (T:Txt K mg) {f:Addr}{fd:FuncData} (F:Fun K "least_turns" "least_turns" YX f fd):Vi P w K mg base CX0 3 f fd ["places", "ones"] (spF K 2 .Z W0 ZZ.fn):=by
 have ZgJ:=VT (P:=P) (w:=w) (base:=base) T.Zg9 Zfy (fun F=>Zfq T F)
 refine F.okP Wg rfl rfl (fun cdv A outer s H E hr=>?_)
 have hu:=hr.units
 refine⟨_,_,⟨[],[],[],.Z⟩,rfl,(Zg (Zz (i:=2) Wg.nd rfl (by first|exact Or.inl rfl|exact Or.inr rfl) (J8 (Zb (Zd4 (Zb (J8 (Zb Zl Zf)) (Zb Zl Zf))) Zf)))
   (Zg (Vz PassesOwn.never (Zu Zl1 (Zr (Z3 (K:=K)) rfl T.z_len Wt (Zb (WD (ZA (K:=K)) (WD (ZA (K:=K)) (pv 2) Zl (fun _ _=>rfl)) Zl (fun _ _=>rfl)) Zf)) (pv 0) (Z8 _)) (Zg (Zz (i:=3) Wg.nd rfl (by first|exact Or.inl rfl|exact Or.inr rfl) (J8 Zf))
   (Zg (Zch PassesOwn.never rfl (Qa (K:=K) (pv 2)) (JJ (i:=4) Wg.nd rfl (by first|exact Or.inl rfl|exact Or.inr rfl)) (Zk (W7 (Zgg PySem.F.plainAttrs_list PySem.F.slot_list_extend PySem.F.type_list_extend Zl7 (pv 3) (Zb (Zo ZgJ (hr.mono (by decide)) rfl (Zb (WD (ZA (K:=K)) (pv 4) Zl (fun _ _=>rfl)) (Zb (WD (ZA (K:=K)) (pv 4) Zl (fun _ _=>rfl)) (Zb (pv 0) (Zb (pv 1) Zf))))) Zf)))))
   (Zk (Zz (i:=2) Wg.nd rfl (by first|exact Or.inl rfl|exact Or.inr rfl) (pv 3))))))
   (Zk (Z9 (Zbt (Qa (K:=K) (pv 2)) (Zgk Wg.nd) (fun _ _ _ _=>(Zlp (fun _ _ h=>h) (Zu (Zb8 (K:=K) hu) (ZD Vb (pv 0) (WD (ZA (K:=K)) (pv 5) Zl (fun _ _=>rfl))) Zl (Z8 _)))) (fun _ _ _ _=>(WD (ZA (K:=K)) (pv 5) Zl (fun _ _=>rfl))) hv1 Wg.nd rfl))))),
   (Zm (Γm:=[.S,.S,.O,.U,.U]) (Y5 (i:=2) (Jb (YN (ZeJ (YN (Jb (YN (DE.PF Zj) YQ)) (YN (DE.PF Zj) YQ))) YQ)) (by decide))
   (Zm (Γm:=[.S,.S,.O,.U,.U]) (V4 (Γ:=[.S,.S,.O,.U,.U]) (Zt (DE.toA (Zmm (DE.toA (Wn (Za (Yo (te:=tC .non) (Yo (te:=tC .non) (Zc (i:=2) (m:=.O) rfl (by decide)) (DE.toA Zj)) (DE.toA Zj)) Ze))) (Zc (i:=0) (m:=.S) rfl (by decide)))))
   (Zm (Γm:=[.S,.S,.O,.O,.U]) (Y5 (i:=3) (Jb YQ) (by decide))
   (Zm (Γm:=[.S,.S,.S,.O,.U]) (Zcw (Γl:=[.S,.S,.S,.O,.U]) (Zg5 (Zdm (i:=2) (m:=.O) rfl (by decide))) rfl (Zs8 (i:=4) (by decide))
   (DS.out (Y:=⟨[.S,.S,.S,.O,.S],[.S,.S,.S,.O,.U],[.S,.S,.S,.O,.U],.Z⟩) (Y':=⟨[.S,.S,.S,.O,.U],[.S,.S,.S,.O,.U],[.S,.S,.S,.O,.U],.Z⟩) (Zpu (i:=3) rfl rfl (Zp6 (Zd (Zd (Zd (Zd Zi)))) (Za (Yo (te:=tC .non) (Zc (i:=4) (m:=.S) rfl (by decide)) (DE.toA Zj)) (Za (Yo (te:=tC .non) (Zc (i:=4) (m:=.S) rfl (by decide)) (DE.toA Zj)) (Za (Zc (i:=0) (m:=.S) rfl (by decide)) (Za (Zc (i:=1) (m:=.S) rfl (by decide)) Ze)))))) rfl rfl rfl rfl))
   (Y5 (i:=2) (ZbT (i:=3) rfl) (by decide)))))
   (Zdl (DE.TZ (Zh9 (k:=1) (DI.c (Zg5 (Zdm (i:=2) (m:=.O) rfl (by decide)))) Zs9 (Zt (DE.toA (Jo (g:=id) (DE.toA (Ve (Zc (i:=0) (m:=.S) rfl (by decide)) (Yo (te:=tC .non) (Zc (i:=5) (m:=.S) rfl (by decide)) (DE.toA Zj)))) (DE.toA Zj)))) (Zoo (te:=tC .non) (ZbS (i:=5) rfl) (DE.toA Zj))))))), ?_⟩
 refine Pm.ref ZZ (g:=fun xs=>_) ?_
 rintro⟨P,o⟩ ⟨⟨hP0,hP1⟩,hne⟩
 simp only at hP0 hP1 hne
 simp only[ZZ]
 walk_at "pd"
 have p17:∀i,i<=17->2^i<=131072:=fun i hi=>Zt5 (ZuY (by decide) hi) (by decide)
 generalize hw:JX _ _ _=W
 obtain⟨ρ',rfl,v,w,rfl⟩:=Wz hw (P-1) (fun i ρ=>∃v w,ρ=[.int P,.int o,.lst ((lvF P o i).map Wm),v,w]) ⟨_,_,rfl⟩ (by
  rintro i ρ hi ⟨v,w,rfl⟩
  have hl:=Zey P o i
  have hl2:=p17 i (by omega)
  have hpos:0<(lvF P o i).length:=Zue.mpr (hne i (by omega))
  have h0:(lvF P o i).getD 0 ([],0)∈lvF P o i:=by rw[Zte,Ztf hpos];exact ZuC _
  constructor
  ·walk_at "pd"
   rw[Znd (q:=Wm) (d:=([],0)) (by omega) (by omega)]
   have hlen:=(Zco P o i _ h0).1.len
   rw[show Int.toNat 0=0 from rfl]
   generalize (lvF (P:Int) (o:Int) i).getD 0 ([],0)=q at *
   obtain⟨q1,q2⟩:=q
   simp only at hlen
   simp only[Wm]
   walk_at "pd"
   rw[decide_eq_true (by omega)]
  ·walk_at "pd"
   have hok:=fun q hq=>(Zco (P:Int) (o:Int) i q hq).1
   have hl3:=Zey P o (i+1)
   have hl4:=p17 (i+1) (by omega)
   have hfl:(lvF (P:Int) o i).flatMap (mkF P o)=lvF P o (i+1):=by rw[lvF]
   generalize hL:lvF (P:Int) (o:Int) i=L at hok hpos hfl hl ⊢
   generalize hw2:ZfP _ _ _=W2
   obtain⟨ρ',rfl,v',rfl⟩:=WZ hw2 (fun j ρ=>∃v,ρ=[.int P,.int o,.lst (L.map Wm),.lst (((L.take j).flatMap (mkF P o)).map Wm),v]) ⟨_,rfl⟩ (by
    rintro j x ρ hx ⟨v,rfl⟩
    rw[Ztz] at hx
    obtain⟨⟨m,p⟩,hq,rfl⟩:=Option.map_eq_some_iff.mp hx
    have hj:j<L.length:=(Zti.mp hq).1
    have hm:(m,p)∈L:=Ztg hq
    have ok:=hok (m,p) hm
    have ok1:=ok.len
    have ok2:=ok.p1
    have ok3:=ok.p2
    simp only at ok1 ok2 ok3
    have htk:L.take (j+1)=L.take j++[(m,p)]:=by rw[List.take_succ,hq];rfl
    have hb:((L.take (j+1)).flatMap (mkF P o)).length<=2*(L.take (j+1)).length:=Zpp (ZlA P o) _
    have hb2:(L.take (j+1)).length<=L.length:=by rw[Zt7];omega
    have hst:List.map Wm ((L.take j).flatMap (mkF P o))++List.map Wm (mkF P o (m,p))=List.map Wm ((L.take (j+1)).flatMap (mkF P o)):=by
     rw[htk,List.flatMap_append,Zt4];simp
    have hb3:(List.map Wm ((L.take j).flatMap (mkF P o))).length+(List.map Wm (mkF P o (m,p))).length<=1000000:=by
     rw[<- Zt8,hst,Zto];omega
    simp only[Wm]
    walk_at "pd"
    rw[JR ⟨by omega,by omega,by omega⟩]
    walk_at "pd"
    rw[ZoW hb3,hst]
    walk_at "pd"
    exact Uy ⟨_,rfl⟩)
   rw[Zto,ZtD (Ztj _),hfl]
   walk_at "pd"
   exact Uy ⟨_,_,rfl⟩) (by
  rintro ρ ⟨v,w,rfl⟩
  have hl:=Zey P o (P-1)
  have hl2:=p17 (P-1) (by omega)
  have hpos:0<(lvF P o (P-1)).length:=Zue.mpr (hne (P-1) (by omega))
  have h0:(lvF P o (P-1)).getD 0 ([],0)∈lvF P o (P-1):=by rw[Zte,Ztf hpos];exact ZuC _
  walk_at "pd"
  rw[Znd (q:=Wm) (d:=([],0)) (by omega) (by omega)]
  have hlen:=(Zco P o (P-1) _ h0).1.len
  rw[show Int.toNat 0=0 from rfl]
  generalize (lvF (P:Int) (o:Int) (P-1)).getD 0 ([],0)=q at *
  obtain⟨q1,q2⟩:=q
  simp only at hlen
  simp only[Wm]
  walk_at "pd"
  rw[decide_eq_false (by omega)])
 have hl:=Zey P o (P-1)
 have hl2:=p17 (P-1) (by omega)
 walk_at "pd"
 have hok:=fun q hq=>(Zco (P:Int) (o:Int) (P-1) q hq).1
 rw[show ltF (P:Int) o=((lvF P o (P-1)).filter fun q=>decide ((P:Int)%q.2=0)).map fun q=>q.1 by unfold ltF;rw[Ztr]]
 generalize lvF (P:Int) (o:Int) (P-1)=L at hok hl ⊢
 rw[Zmd (q:=Wm) (p:=fun q=>decide ((P:Int)%q.2=0)) (g:=fun q=>VP q.1) (fun q hq=>by
  obtain⟨m,p⟩:=q
  have ok2:=(hok _ hq).p1
  simp only at ok2
  simp only[Wm,VP]
  walk_at "pd"
  by_cases c:(P:Int)%p=0
  ·rw[decide_eq_true c]
   walk_at "pd"
  ·rw[decide_eq_false c]
   walk_at "pd")]
 rw[ZtZ]
 rfl
theorem JT {P o:Nat} (h:(1<=P/\P<=17)/\∀i,i<P->lvF P o i≠[]):ZZ.fn [.int P,.int o]=.ok (.lst ((ltF P o).map VP)):=Pm.fn_eq ZZ (P,o) h fun(b:Nat×Nat) e=>by
 obtain⟨P',o'⟩:=b
 simp only[ZZ,List.cons.injEq,PV.int.injEq,and_true,Int.ofNat_inj] at e ⊢
 rw[e.1,e.2]
theorem Zfm:ZZ.calm:=fun a q h=>by (simp only[ZZ] at h;cases h)
theorem ZrY {s:Int} (h0:0<=s) (h1:s<=150):kN s<=16:=by
 obtain⟨k1,k2,k3⟩:=Uc h0
 by_cases c:kN s<=16
 ·exact c
 ·have:=QF (show 17<=kN s by omega)
  have e:tri 17=153:=by decide
  omega
noncomputable def W8:Pm:=⟨Int×Int,fun a=>[.int a.1,.int a.2],fun a=>0<=a.1/\a.1<=150,fun a=>orX (Zc0 a.2 0 (Zjf a.1-1)) (.lst ((Yl ((ltF (kN a.1+1:Nat) (adS a.1)).getD a.2.toNat [])).map PV.int))⟩
theorem Ziy (T:Txt K mg) {f:Addr}{fd:FuncData} (F:Fun K "round_at" "round_at" J3 f fd):Vi P w K mg base (CX1 P w) 5 f fd ["seeds", "number"] (spF K 2 .F (W1 K) W8.fn):=by
 have YB:=JD (P:=P) (w:=w) (base:=base) T.JP Jv (fun F=>Js T F)
 have Jn:=VT (P:=P) (w:=w) (base:=base) T.Q5 UP (fun F=>UD T F)
 have Za6:=JD (P:=P) (w:=w) (base:=base) T.Zcy ZbB (fun F=>ZbA T F)
 have ZgL:=VT (P:=P) (w:=w) (base:=base) T.ZgB Zf0 (fun F=>Zfs T F)
 have Jz:=VT (P:=P) (w:=w) (base:=base) T.Zat Qf (fun F=>Qd T F)
 have Vy:=VT (P:=P) (w:=w) (base:=base) T.Zb1 Zaw (fun F=>Zaj T F)
 obtain⟨C_TooMany,hC_TooMany,hQ_TooMany⟩:=ZdS T.x_exc (n := "TooMany") (by decide)
 refine F.okX Zif rfl rfl (fun cdv A outer s H E hr=>?_)
 have hu:=hr.units
 refine⟨_,_,⟨[],[],[],.F⟩,rfl,(Zg (W7 (Z6 YB (hr.mono (by decide)) rfl Jy (Zb (pv 1) (Zb Zl (Zb (ZD Va (Z6 Za6 (hr.mono (by decide)) rfl Jy (Zb (pv 0) Zf)) Zl) Zf)))))
   (Zg (VR (Zu ZbH (pv 0) (QO T.c_MOST_ROUND_SEEDS rfl) (Z8 _)) (Zk (Zbr ZcQ hQ_TooMany rfl (T.x_mg _ _ hC_TooMany) rfl (Zb ZfG Zf))) Y6)
   (Zk (Z9 (Zo Jn (hr.mono (by decide)) rfl (Zb (WD (ZA (K:=K)) (Zo ZgL (hr.mono (by decide)) rfl (Zb (Zo Jz (hr.mono (by decide)) rfl (Zb (pv 0) Zf)) (Zb (Zo Vy (hr.mono (by decide)) rfl (Zb (pv 0) Zf)) Zf))) (pv 1) (fun _ _=>rfl)) Zf)))))),
   (Zm (Γm:=[.S,.S]) (Qs (DE.toA (Zk7 (Zd (Zd (Zd Zi))) (Za (Zc (i:=1) (m:=.S) rfl (by decide)) (Za (DE.toA Zj) (Za (DE.toA (Vd (DE.toA (Zk7 (Zd Zi) (Za (Zc (i:=0) (m:=.S) rfl (by decide)) Ze))) (DE.toA Zj))) Ze))))))
   (Zm (Γm:=[.S,.S]) (Ui (Zt (DE.toA (ZbU (Zc (i:=0) (m:=.S) rfl (by decide)) (DE.toA Zj))))
   (Zby hC_TooMany (Zd Zi) (by decide) (Za (DE.toA ZfT) Ze))
   Y9)
   (YO (Zh0 (Zd Zi) (Pm.calm_fn U4) (Za (Yo (te:=tC .non) (DE.toA (ZsW (Zd (Zd Zi)) (Pm.calm_fn Zfm) (V5 (DE.PZ (Zg4 (Zd Zi) (Pm.calm_fn Qb) (Za (Zc (i:=0) (m:=.S) rfl (by decide)) Ze))) (V5 (DE.PZ (Zg4 (Zd Zi) (Pm.calm_fn QP) (Za (Zc (i:=0) (m:=.S) rfl (by decide)) Ze))) ZbV)))) (Zc (i:=1) (m:=.S) rfl (by decide))) Ze))))), ?_⟩
 refine Pm.ref W8 (g:=fun xs=>_) ?_
 rintro⟨s,n⟩ ⟨h0,h1⟩
 simp only at h0 h1
 simp only[W8]
 have hk:=ZrY h0 h1
 obtain⟨a1,a2⟩:=ZdD h0
 have hL:=ZqB (P:=kN s+1) (o:=adS s) (by omega) (by omega) (by omega)
 have hlen:=hL.len
 rw[show Zqk (kN s+1) (adS s)=Zjf s from rfl] at hlen
 walk_at "pd"
 rw[ZaD ⟨h0,by omega⟩]
 walk_at "pd"
 rw[YA]
 by_cases hn:0<=n/\n<=Zjf s-1
 ·rw[show Zc0 n 0 (Zjf s-1)=none from if_pos hn]
  walk_at "pd"
  rw[decide_eq_false (show ¬150<s by omega)]
  walk_at "pd"
  rw[Jc ⟨h0,by omega⟩]
  walk_at "pd"
  rw[JC ⟨h0,by omega⟩]
  walk_at "pd"
  rw[JT ⟨⟨by omega,by omega⟩,fun i hi=>ZrV hL hi⟩]
  walk_at "pd"
  rw[Znd (q:=VP) (d:=[]) hn.1 (by omega)]
  have hm:(ltF (kN s+1:Nat) (adS s)).getD n.toNat []∈ltF (kN s+1:Nat) (adS s):=by
   rw[Zte,Ztf (by omega)];exact ZuC _
  have hb:=ZqC (by omega) (by omega) hm
  generalize (ltF (kN s+1:Nat) (adS s)).getD n.toNat []=m at hm hb
  have hb1:=hb.1
  simp only[VP]
  walk_at "pd"
  rw[Jl (by omega)]
  walk_at "pd"
  rfl
 ·rw[show Zc0 n 0 (Zjf s-1)=(some "BadCount":Option Str) from if_neg hn]
  walk_at "pd"
theorem Q6 {s n:Int} (h:0<=s/\s<=150):W8.fn [.int s,.int n]=orX (Zc0 n 0 (Zjf s-1)) (.lst ((Yl ((ltF (kN s+1:Nat) (adS s)).getD n.toNat [])).map PV.int)):=Pm.fn_eq W8 (s,n) h fun(a:Int×Int) e=>by (simp only[W8,List.cons.injEq,PV.lst.injEq,PV.int.injEq,PV.str.injEq,PV.bl.injEq,PV.tup.injEq,Zy,and_true] at e ⊢;first|(simp only[e];done)|(subst e;rfl)|(rw[e]))
theorem ZgD {s n:Int} (h:0<=s/\s<=150) (hn:0<=n/\n<Zjf s):W8.fn [.int s,.int n]=.ok (.lst ((Yl ((ltF (kN s+1:Nat) (adS s)).getD n.toNat [])).map PV.int)):=by
 rw[Q6 h,show Zc0 n 0 (Zjf s-1)=none from if_pos ⟨hn.1,by omega⟩];rfl
noncomputable def Ya:Pm:=⟨Unit,fun _=>[],fun _=>True,fun _=>.ok (.int (10^60))⟩
theorem ZeC (T:Txt K mg) {f:Addr}{fd:FuncData} (F:Fun K "most_marches" "most_marches" YD f fd):Vi P w K mg base CX0 1 f fd [] (spF K 0 .P W0 Ya.fn):=by
 refine F.okP Zeo rfl rfl (fun cdv A outer s H E hr=>?_)
 have hu:=hr.units
 refine⟨_,_,⟨[],[],[],.P⟩,rfl,(Zk (Z9 (ZD Zob Zl Zl))),
   (Y8 (Zon (DE.toA Zj) (DE.toA Zj))), ?_⟩
 refine Pm.ref Ya (g:=fun xs=>_) ?_
 rintro _ _
 simp only[Ya]
 walk_at "pd"
theorem Jt:Ya.fn []=.ok (.int (10^60)):=Pm.fn_eq Ya () trivial fun _ _=>rfl
theorem Zes:Ya.calm:=fun a q h=>by (simp only[Ya] at h;cases h)
noncomputable def Zr7 (l:List Int) (s:Int):Option Str:=if ZC l then Zc0 s 0 (10^60) else some "BadLine"
noncomputable def Yq:Pm:=⟨List Int×Int,fun a=>[.lst (a.1.map PV.int),.int a.2],fun a=>a.1.length<=100000,fun a=>orX (Zr7 a.1 a.2) (.lst ((mIt a.2.toNat a.1).map PV.int))⟩
theorem Zfr (T:Txt K mg) {f:Addr}{fd:FuncData} (F:Fun K "line_behind" "line_behind" YW f fd):Vi P w K mg base (CX1 P w) 5 f fd ["line", "steps"] (spF K 2 .F (W1 K) Yq.fn):=by
 have Wf:=JD (P:=P) (w:=w) (base:=base) T.VI JW (fun F=>JN T F)
 have YB:=JD (P:=P) (w:=w) (base:=base) T.JP Jv (fun F=>Js T F)
 have Jn:=VT (P:=P) (w:=w) (base:=base) T.Q5 UP (fun F=>UD T F)
 have Zf3:=VT (P:=P) (w:=w) (base:=base) T.Zfw ZeW (fun F=>ZeC T F)
 have Zfg:=VT (P:=P) (w:=w) (base:=base) T.Zi6 ZgE (fun F=>Zgy T F)
 have Zbm:=VT (P:=P) (w:=w) (base:=base) T.ZeO Zdq (fun F=>Zdd T F)
 have YC:=VT (P:=P) (w:=w) (base:=base) T.Uz V6 (fun F=>V3 T F)
 refine F.okX Jr rfl rfl (fun cdv A outer s H E hr=>?_)
 have hu:=hr.units
 refine⟨_,_,⟨[],[],[],.F⟩,rfl,(Zg (W7 (Z6 Wf (hr.mono (by decide)) rfl Jy (Zb (pv 0) Zf)))
   (Zg (W7 (Z6 YB (hr.mono (by decide)) rfl Jy (Zb (pv 1) (Zb Zl (Zb (Zlo Zf3 (hr.mono (by decide)) rfl) Zf)))))
   (Zg (Zz (i:=2) Jr.nd rfl (by first|exact Or.inl rfl|exact Or.inr rfl) (Wl (Wo (K:=K)) rfl T.z_list Vu (Zb (pv 0) Zf)))
   (Zg (Zz (i:=3) Jr.nd rfl (by first|exact Or.inl rfl|exact Or.inr rfl) (pv 1))
   (Zg (PS.nox (Vz PassesOwn.never (PW.pt (Zhe (Zu ZbH (pv 3) Zl (Z8 _)) (Zeq (Zu Zjt (Zo YC (hr.mono (by decide)) rfl (Zb (pv 2) Zf)) Zb7 (Z8 _))))) (Zg (Zz (i:=2) Jr.nd rfl (by first|exact Or.inl rfl|exact Or.inr rfl) (Zo Zfg (hr.mono (by decide)) rfl (Zb (pv 2) Zf)))
   (Zk (ZaO (i:=3) Jr.nd rfl (by first|exact Or.inl rfl|exact Or.inr rfl) Zl ZfL)))))
   (Zg (VR (Zu (Zb8 (K:=K) hu) (pv 3) Zl (Z8 _)) (Zk (Z9 (pv 2))) Y6)
   (Zk (Z9 (Zo Jn (hr.mono (by decide)) rfl (Zb (Zo Zbm (hr.mono (by decide)) rfl (Zb (Zo YC (hr.mono (by decide)) rfl (Zb (pv 2) Zf)) (Zb (Zln ZgQ (pv 3)) Zf))) Zf)))))))))),
   (Zm (Γm:=[.S,.S,.U,.U]) (Qs (DE.toA (Zk7 (Zd Zi) (Za (Zc (i:=0) (m:=.S) rfl (by decide)) Ze))))
   (Zm (Γm:=[.S,.S,.U,.U]) (Qs (DE.toA (Zk7 (Zd (Zd (Zd Zi))) (Za (Zc (i:=1) (m:=.S) rfl (by decide)) (Za (DE.toA Zj) (Za (DE.toA (Zg4 Zi (Pm.calm_fn Zes) Ze)) Ze))))))
   (Zm (Γm:=[.S,.S,.O,.U]) (Y5 (i:=2) (JO (Za (Zc (i:=0) (m:=.S) rfl (by decide)) Ze)) (by decide))
   (Zm (Γm:=[.S,.S,.O,.P]) (ZH (i:=3) (DE.grd (Zc (i:=1) (m:=.S) rfl (by decide))) (by decide))
   (Zm (Γm:=[.S,.S,.O,.P]) (V4 (Γ:=[.S,.S,.O,.P]) (Zh3 (Zt (DE.toA (ZbU (DE.toA (Zn (i:=3) rfl)) (DE.toA Zj)))) (Zt (DE.toA (ZjE (DE.toA (Zh0 (Zd Zi) (Pm.calm_fn WJ) (Za (Zc (i:=2) (m:=.O) rfl (by decide)) Ze)))))))
   (Zm (Γm:=[.S,.S,.O,.P]) (Y5 (i:=2) (Zh0 (Zd Zi) (Pm.calm_fn Zgh) (Za (Zc (i:=2) (m:=.O) rfl (by decide)) Ze)) (by decide))
   (UJ (i:=3) rfl (DE.toA Zj))))
   (Zm (Γm:=[.S,.S,.O,.P]) (Ui (Zt (DE.toA (Jo (g:=id) (DE.toA (Zn (i:=3) rfl)) (DE.toA Zj))))
   (YO (ZbT (i:=2) rfl))
   Y9)
   (YO (Zh0 (Zd Zi) (Pm.calm_fn U4) (Za (DE.toA (Zh0 (Zd (Zd Zi)) (Pm.calm_fn ZfH) (Za (DE.toA (Zh0 (Zd Zi) (Pm.calm_fn WJ) (Za (Zc (i:=2) (m:=.O) rfl (by decide)) Ze))) (Za (DE.toA (Zh7 (DE.toA (Zn (i:=3) rfl)))) Ze)))) Ze))))))))), ?_⟩
 refine Pm.ref Yq (g:=fun xs=>_) ?_
 rintro⟨l,t⟩ (hl:l.length<=100000)
 simp only[Yq]
 walk_at "pd"
 rw[We (by omega)]
 unfold Zr7
 by_cases h:ZC l
 ·rw[JL h,if_pos h]
  simp only[orX]
  walk_at "pd"
  rw[Jt]
  walk_at "pd"
  rw[YA]
  by_cases c:0<=t/\t<=10^60
  ·rw[show Zc0 t 0 (10^60)=none from if_pos c]
   simp only[orX]
   have n1:=h.2.1
   walk_at "pd"
   obtain⟨n,hn,hlt⟩:=ZhF h
   have addT:∀{r:List Int},Row r->Zox r=.lst ((Zm2 r).map PV.int):=fun {r} hr=>if_pos hr
   have addF:∀{r:List Int},¬Row r->Zox r=.non:=fun {r} hr=>if_neg hr
   generalize hw:JX _ _ _=W
   obtain⟨ρ',rfl,rfl⟩:=Wz hw (min t.toNat n) (fun(i:Nat) ρ=>ρ=[.lst (l.map PV.int),.int t,.lst ((mIt i l).map PV.int),.int (t-i)]) (by simp[mIt]) (by
    rintro i ρ hi rfl
    have hik:=Uu h i
    constructor
    ·walk_at "pd"
     rw[decide_eq_true (show (0:Int)<t-i by omega)]
     walk_at "pd"
     rw[Wj hik,addF (hlt i (by omega))]
     walk_at "pd"
    ·walk_at "pd"
     rw[ZbX hik]
     walk_at "pd"
     exact Uy (by rw[show t-(i:Int)-1=t-((i+1:Nat):Int) by omega];rfl)) (by
    rintro ρ rfl
    have hik:=Uu h (min t.toNat n)
    walk_at "pd"
    by_cases e:t.toNat<=n
    ·rw[decide_eq_false (show ¬(0:Int)<t-(min t.toNat n:Nat) by omega)]
     walk_at "pd"
    ·rw[decide_eq_true (show (0:Int)<t-(min t.toNat n:Nat) by omega)]
     walk_at "pd"
     rw[Wj hik,addT (by rw[show min t.toNat n=n by omega];exact hn)]
     walk_at "pd")
   walk_at "pd"
   by_cases e:t.toNat<=n
   ·rw[decide_eq_true (show t-((min t.toNat n:Nat):Int)=0 by omega)]
    walk_at "pd"
    rw[show min t.toNat n=t.toNat by omega]
   ·rw[decide_eq_false (show ¬t-((min t.toNat n:Nat):Int)=0 by omega),show min t.toNat n=n by omega]
    have hnk:=Uu h n
    have hal:=Zc5 (mIt n l)
    have hks:=(Uc (L2.Zek hnk.1)).2.2
    have hks2:=hnk.2.2.1
    walk_at "pd"
    rw[Wj hnk,addT hn]
    walk_at "pd"
    rw[VJ ⟨by omega,by omega⟩]
    walk_at "pd"
    rw[Jl (by rw[V7];omega),show -(t-(n:Int))=-((t.toNat-n:Nat):Int) by omega,ZjV hnk hn,<- Zis,show n+(t.toNat-n)=t.toNat by omega]
    walk_at "pd"
  ·rw[show Zc0 t 0 (10^60)=(some "BadCount":Option Str) from if_neg c]
   simp only[orX]
   walk_at "pd"
 ·rw[V2 h,if_neg h]
  simp only[orX]
  walk_at "pd"
theorem JS {l:List Int}{t:Int} (h:l.length<=100000):Yq.fn [.lst (l.map PV.int),.int t]=orX (Zr7 l t) (.lst ((mIt t.toNat l).map PV.int)):=Pm.fn_eq Yq (l,t) h fun(a:List Int×Int) e=>by (simp only[Yq,List.cons.injEq,PV.lst.injEq,PV.int.injEq,PV.str.injEq,PV.bl.injEq,PV.tup.injEq,Zy,and_true] at e ⊢;first|(simp only[e];done)|(subst e;rfl)|(rw[e]))
theorem ZdN {l:List Int}{t:Int} (h:ZC l) (h0:0<=t) (h1:t<=10^60):Yq.fn [.lst (l.map PV.int),.int t]=.ok (.lst ((mIt t.toNat l).map PV.int)):=by
 rw[JS (by have:=h.2.1;omega)]
 unfold Zr7
 rw[if_pos h,show Zc0 t 0 (10^60)=none from if_pos ⟨h0,h1⟩];rfl
open Classical in
noncomputable def ZfZ (l:List Int):Nat:=if h:∃n,Row (mIt n l)/\∀j,j<n->¬Row (mIt j l) then h.choose else 0
theorem Zf6 {l:List Int} (h:ZC l):Row (mIt (ZfZ l) l)/\∀j,j<ZfZ l->¬Row (mIt j l):=by
 have hc:=ZhF h
 unfold ZfZ
 rw[dif_pos hc]
 exact hc.choose_spec
noncomputable def ZjI (l:List Int):PV:=.tup [.int (ZfZ l:Nat),.lst ((mIt (ZfZ l) l).map PV.int),.int (Ut (Zm2 (mIt (ZfZ l) l)):Nat)]
noncomputable def WT:Pm:=⟨List Int,fun a=>[.lst (a.map PV.int)],fun a=>a.length<=100000,fun a=>orX (ZdJ a) (ZjI a)⟩
theorem Zi0 (T:Txt K mg) {f:Addr}{fd:FuncData} (F:Fun K "comes_to" "comes_to" J5 f fd):Vi P w K mg base (CX1 P w) 5 f fd ["line"] (spF K 1 .Z (W1 K) WT.fn):=by
 have Wf:=JD (P:=P) (w:=w) (base:=base) T.VI JW (fun F=>JN T F)
 have YC:=VT (P:=P) (w:=w) (base:=base) T.Uz V6 (fun F=>V3 T F)
 have Zfg:=VT (P:=P) (w:=w) (base:=base) T.Zi6 ZgE (fun F=>Zgy T F)
 have Uq:=VT (P:=P) (w:=w) (base:=base) T.ZaA QA (fun F=>Q2 T F)
 refine F.okX U3 rfl rfl (fun cdv A outer s H E hr=>?_)
 have hu:=hr.units
 refine⟨_,_,⟨[],[],[],.Z⟩,rfl,(Zg (W7 (Z6 Wf (hr.mono (by decide)) rfl Jy (Zb (pv 0) Zf)))
   (Zg (Zz (i:=1) U3.nd rfl (by first|exact Or.inl rfl|exact Or.inr rfl) Zl)
   (Zg (Zz (i:=2) U3.nd rfl (by first|exact Or.inl rfl|exact Or.inr rfl) (Wl (Wo (K:=K)) rfl T.z_list Vu (Zb (pv 0) Zf)))
   (Zg (PS.nox (Vz PassesOwn.never (Zu Zjt (Zo YC (hr.mono (by decide)) rfl (Zb (pv 2) Zf)) Zb7 (Z8 _)) (Zg (Zz (i:=2) U3.nd rfl (by first|exact Or.inl rfl|exact Or.inr rfl) (Zo Zfg (hr.mono (by decide)) rfl (Zb (pv 2) Zf)))
   (Zk (ZaO (i:=1) U3.nd rfl (by first|exact Or.inl rfl|exact Or.inr rfl) Zl Zhr)))))
   (Zk (Z9 (Zd4 (Zb (pv 1) (Zb (pv 2) (Zb (Zo Uq (hr.mono (by decide)) rfl (Zb (Zo YC (hr.mono (by decide)) rfl (Zb (pv 2) Zf)) Zf)) Zf)))))))))),
   (Zm (Γm:=[.S,.U,.U]) (Qs (DE.toA (Zk7 (Zd Zi) (Za (Zc (i:=0) (m:=.S) rfl (by decide)) Ze))))
   (Zm (Γm:=[.S,.P,.U]) (ZH (i:=1) Zj (by decide))
   (Zm (Γm:=[.S,.P,.O]) (Y5 (i:=2) (JO (Za (Zc (i:=0) (m:=.S) rfl (by decide)) Ze)) (by decide))
   (Zm (Γm:=[.S,.P,.O]) (V4 (Γ:=[.S,.P,.O]) (Zt (DE.toA (ZjE (DE.toA (Zh0 (Zd Zi) (Pm.calm_fn WJ) (Za (Zc (i:=2) (m:=.O) rfl (by decide)) Ze))))))
   (Zm (Γm:=[.S,.P,.O]) (Y5 (i:=2) (Zh0 (Zd Zi) (Pm.calm_fn Zgh) (Za (Zc (i:=2) (m:=.O) rfl (by decide)) Ze)) (by decide))
   (UJ (i:=1) rfl (DE.toA Zj))))
   (Zdl (Zp0 (V5 (DE.PZ (Zn (i:=1) rfl)) (V5 (Zdm (i:=2) (m:=.O) rfl (by decide)) (V5 (DE.PZ (Zg4 (Zd Zi) (Pm.calm_fn Q0) (Za (DE.toA (Zh0 (Zd Zi) (Pm.calm_fn WJ) (Za (Zc (i:=2) (m:=.S) rfl (by decide)) Ze))) Ze))) ZbV))))))))), ?_⟩
 refine Pm.ref WT (g:=fun xs=>_) ?_
 rintro(l:List Int) (hl:l.length<=100000)
 simp only[WT]
 walk_at "pd"
 rw[We (by omega)]
 by_cases h:ZC l
 ·rw[JL h]
  simp only[orX]
  have n1:=h.2.1
  obtain⟨hn,hlt⟩:=Zf6 h
  unfold ZjI
  generalize ZfZ l=n at hn hlt
  have addT:∀{r:List Int},Row r->Zox r=.lst ((Zm2 r).map PV.int):=fun {r} hr=>if_pos hr
  have addF:∀{r:List Int},¬Row r->Zox r=.non:=fun {r} hr=>if_neg hr
  walk_at "pd"
  generalize hw:JX _ _ _=W
  obtain⟨ρ',rfl,rfl⟩:=Wz hw n (fun(i:Nat) ρ=>ρ=[.lst (l.map PV.int),.int i,.lst ((mIt i l).map PV.int)]) rfl (by
   rintro i ρ hi rfl
   have hik:=Uu h i
   constructor
   ·walk_at "pd"
    rw[Wj hik,addF (hlt i (by omega))]
    walk_at "pd"
   ·walk_at "pd"
    rw[ZbX hik]
    walk_at "pd"
    exact Uy (by rw[show ((i+1:Nat):Int)=(i:Int)+1 by omega];rfl)) (by
   rintro ρ rfl
   walk_at "pd"
   rw[Wj (Uu h n),addT hn]
   walk_at "pd")
  have hnk:=Uu h n
  have hal:=Zc5 (mIt n l)
  have hks:=(Uc (L2.Zek hnk.1)).2.2
  have hks2:=hnk.2.2.1
  walk_at "pd"
  rw[Wj hnk,addT hn]
  walk_at "pd"
  rw[YR ⟨by omega,by omega⟩]
  walk_at "pd"
 ·rw[V2 h]
  simp only[orX]
  walk_at "pd"
theorem Q8 {l:List Int} (h:l.length<=100000):WT.fn [.lst (l.map PV.int)]=orX (ZdJ l) (ZjI l):=Pm.fn_eq WT l h fun(a:List Int) e=>by (simp only[WT,List.cons.injEq,PV.lst.injEq,PV.int.injEq,PV.str.injEq,PV.bl.injEq,PV.tup.injEq,Zy,and_true] at e ⊢;first|(simp only[e];done)|(subst e;rfl)|(rw[e]))
noncomputable def Wd:Pm:=⟨List Int×Int,fun a=>[.lst (a.1.map PV.int),.int a.2],fun a=>a.1.length<=1000/\0<a.2/\a.2<=1000,fun a=>.ok (.lst ((ZlL a.1 a.2.toNat).map PV.int))⟩
theorem Zg1 (T:Txt K mg) {f:Addr}{fd:FuncData} (F:Fun K "_law_large" "_law_large" Wx f fd):Vi P w K mg base CX0 1 f fd ["script", "many"] (spF K 2 .F W0 Wd.fn):=by
 refine F.okP W5 rfl rfl (fun cdv A outer s H E hr=>?_)
 have hu:=hr.units
 refine⟨_,_,⟨[],[],[],.F⟩,rfl,(Zg (Zz (i:=2) W5.nd rfl (by first|exact Or.inl rfl|exact Or.inr rfl) (J8 Zf))
   (Zg (Zz (i:=3) W5.nd rfl (by first|exact Or.inl rfl|exact Or.inr rfl) Zl)
   (Zg (VR (Zu ZbH (Zr (Z3 (K:=K)) rfl T.z_len Wt (Zb (pv 0) Zf)) Zl (Z8 _)) (Zk (Zz (i:=3) W5.nd rfl (by first|exact Or.inl rfl|exact Or.inr rfl) (ZD VC Zl (ZD Vb (WD (ZA (K:=K)) (pv 0) Zl (fun _ _=>rfl)) Zl)))) Y6)
   (Zg (Zch PassesOwn.never rfl (WV rfl T.z_range (Zb (pv 1) Zf)) (JJ (i:=4) W5.nd rfl (by first|exact Or.inl rfl|exact Or.inr rfl)) (Zg (Zz (i:=3) W5.nd rfl (by first|exact Or.inl rfl|exact Or.inr rfl) (ZD Vb (ZD ZcN (pv 3) Zl) Zl))
   (Zk (W7 (Zgg PySem.F.plainAttrs_list PySem.F.slot_list_append PySem.F.type_list_append VD (pv 2) (Zb (ZD ZcN (pv 3) (pv 3)) Zf))))))
   (Zg (Zch PassesOwn.never rfl (WV rfl T.z_range (Zb (Zr (Z3 (K:=K)) rfl T.z_len Wt (Zb (pv 0) Zf)) Zf)) (JJ (i:=4) W5.nd rfl (by first|exact Or.inl rfl|exact Or.inr rfl)) (Zk (Zlh (ZD Vb (ZD VC (WD (ZA (K:=K)) (pv 2) (ZD Vb (pv 4) (pv 1)) (fun _ _=>rfl)) (WD (ZA (K:=K)) (pv 0) (pv 4) (fun _ _=>rfl))) (ZD VC (ZD Zob Zl Zl) Zl)) (ZnZ (pv 2) (ZD Vb (pv 4) (pv 1)) Zja))))
   (Zk (Z9 (pv 2)))))))),
   (Zm (Γm:=[.S,.S,.O,.U,.U]) (Y5 (i:=2) (Jb YQ) (by decide))
   (Zm (Γm:=[.S,.S,.O,.P,.U]) (ZH (i:=3) Zj (by decide))
   (Zm (Γm:=[.S,.S,.O,.P,.U]) (Ui (Zt (DE.toA (ZbU (DE.toA (Wn (Za (Zc (i:=0) (m:=.S) rfl (by decide)) Ze))) (DE.toA Zj))))
   (ZH (i:=3) (VG (DE.toA Zj) (DE.toA (Ve (Yo (te:=tC .non) (Zc (i:=0) (m:=.S) rfl (by decide)) (DE.toA Zj)) (DE.toA Zj)))) (by decide))
   Y9)
   (Zm (Γm:=[.S,.S,.O,.P,.U]) (Zcw (Γl:=[.S,.S,.O,.P,.U]) (UK (Za (Zc (i:=1) (m:=.S) rfl (by decide)) Ze)) rfl (Zol (i:=4) (by decide))
   (DS.out (Y:=⟨[.S,.S,.O,.P,.P],[.S,.S,.O,.P,.U],[.S,.S,.O,.P,.U],.F⟩) (Y':=⟨[.S,.S,.O,.P,.U],[.S,.S,.O,.P,.U],[.S,.S,.O,.P,.U],.F⟩) (Zm (Γm:=[.S,.S,.O,.P,.P]) (ZH (i:=3) (Ve (DE.toA (ZfV (DE.toA (Zn (i:=3) rfl)) (DE.toA Zj))) (DE.toA Zj)) (by decide))
   (ZbR (i:=2) rfl rfl (DE.PF (ZfV (DE.toA (Zn (i:=3) rfl)) (DE.toA (Zn (i:=3) rfl)))))) rfl rfl rfl rfl))
   (Zm (Γm:=[.S,.S,.O,.P,.U]) (Zcw (Γl:=[.S,.S,.O,.P,.U]) (UK (Za (DE.toA (Wn (Za (Zc (i:=0) (m:=.S) rfl (by decide)) Ze))) Ze)) rfl (Zol (i:=4) (by decide))
   (DS.out (Y:=⟨[.S,.S,.O,.P,.P],[.S,.S,.O,.P,.U],[.S,.S,.O,.P,.U],.F⟩) (Y':=⟨[.S,.S,.O,.P,.U],[.S,.S,.O,.P,.U],[.S,.S,.O,.P,.U],.F⟩) (Zh4 (i:=2) rfl (Ve (DE.toA (VG (Yo (te:=tC .non) (Zc (i:=2) (m:=.O) rfl (by decide)) (DE.toA (Ve (DE.toA (Zn (i:=4) rfl)) (Zc (i:=1) (m:=.S) rfl (by decide))))) (Yo (te:=tC .non) (Zc (i:=0) (m:=.S) rfl (by decide)) (DE.toA (Zn (i:=4) rfl))))) (DE.toA (VG (DE.toA (Zon (DE.toA Zj) (DE.toA Zj))) (DE.toA Zj)))) (DE.toA (Ve (DE.toA (Zn (i:=4) rfl)) (Zc (i:=1) (m:=.S) rfl (by decide))))) rfl rfl rfl rfl))
   (YO (ZbT (i:=2) rfl))))))), ?_⟩
 refine Pm.ref Wd (g:=fun xs=>_) ?_
 rintro⟨ns,m⟩ ⟨hn,h0,h1⟩
 simp only at hn h0 h1
 simp only[Wd]
 have hst:WC ns=if 0<ns.length then 1+ns.getD 0 0%2147483646 else 1:=rfl
 walk_at "pd"
 by_cases hz:0<ns.length
 ·rw[if_pos hz] at hst
  rw[decide_eq_true (by omega)]
  walk_at "pd"
  rw[<- hst]
  clear hst
  generalize hw:ZfP _ _ _=W
  obtain⟨ρ',rfl,v,rfl⟩:=WZ hw (fun i ρ=>∃v,ρ=[.lst (ns.map PV.int),.int m,.lst ((Zk5 (WC ns) i).map PV.int),.int (ZcF (WC ns) i),v]) ⟨_,rfl⟩ (by
   rintro i x ρ hx ⟨v,rfl⟩
   obtain⟨hi,rfl⟩:=UZ hx
   have hb:=ZiW (Zcg ns) i
   have hl:(Zk5 (WC ns) i).length=i:=ZbN _ _
   walk_at "pd"
   exact Uy ⟨_,by rw[Zhu,ZcF]⟩)
  walk_at "pd"
  rw[W6]
  generalize hw:ZfP _ _ _=W
  obtain⟨ρ',rfl,v,rfl⟩:=WZ hw (fun i ρ=>∃v,ρ=[.lst (ns.map PV.int),.int m,.lst ((Zhx (Zk5 (WC ns) m.toNat) ns m.toNat i).map PV.int),.int (ZcF (WC ns) m.toNat),v]) ⟨_,rfl⟩ (by
   rintro i x ρ hx ⟨v,rfl⟩
   obtain⟨hi,rfl⟩:=UZ hx
   have hl:(Zhx (Zk5 (WC ns) m.toNat) ns m.toNat i).length=m.toNat:=by rw[Zd8,ZbN]
   have m0:=Zum (0+(i:Int)) (show m≠0 by omega)
   have m1:=Zuh (0+(i:Int)) h0
   have e:((0+(i:Int))%m).toNat=i%m.toNat:=by
    have:((i%m.toNat:Nat):Int)=(0+(i:Int))%m:=by rw[Zu1,ZtE (by omega),Zuo]
    omega
   walk_at "pd"
   exact Uy ⟨_,by rw[Zhx,e,show (0+(i:Int)).toNat=i by omega]⟩)
  walk_at "pd"
  rw[W6,show (ns.length:Int).toNat=ns.length by omega]
  rfl
 ·rw[if_neg hz] at hst
  rw[decide_eq_false (by omega)]
  walk_at "pd"
  have hz2:ns=[]:=ZuX (by omega)
  subst hz2
  generalize hw:ZfP _ _ _=W
  obtain⟨ρ',rfl,v,rfl⟩:=WZ hw (fun i ρ=>∃v,ρ=[.lst [],.int m,.lst ((Zk5 (WC []) i).map PV.int),.int (ZcF (WC []) i),v]) ⟨_,by rw[hst];rfl⟩ (by
   rintro i x ρ hx ⟨v,rfl⟩
   obtain⟨hi,rfl⟩:=UZ hx
   have hb:=ZiW (Zcg []) i
   have hl:(Zk5 (WC []) i).length=i:=ZbN _ _
   walk_at "pd"
   exact Uy ⟨_,by rw[Zhu,ZcF]⟩)
  walk_at "pd"
  rw[W6]
  rfl
theorem VO {ns:List Int}{m:Int} (h:ns.length<=1000/\0<m/\m<=1000):Wd.fn [.lst (ns.map PV.int),.int m]=.ok (.lst ((ZlL ns m.toNat).map PV.int)):=Pm.fn_eq Wd (ns,m) h fun(a:List Int×Int) e=>by (simp only[Wd,List.cons.injEq,PV.lst.injEq,PV.int.injEq,PV.str.injEq,PV.bl.injEq,PV.tup.injEq,Zy,and_true] at e ⊢;first|(simp only[e];done)|(subst e;rfl)|(rw[e]))
theorem Ziq {l:List Int} (h:ZC l):l∈ZeZ (Yc l):=by
 by_cases hz:l=[]
 ·subst hz
  decide
 ·obtain⟨f1,f2⟩:=h.head hz
  have hml:(Yc l).length=max (l.length-1) (l.getD 0 0).toNat:=by rw[ZaR hz,ZcO,ZtR]
  have hge:(l.getD 0 0).toNat<=VF (Yc l):=by
   by_cases c:(l.getD 0 0).toNat<=VF (Yc l)
   ·exact c
   ·exfalso
    refine ZeA (Yc l) (by omega) ?_
    rw[JK,if_pos (by omega)]
    have:=Jp h.1 (VF (Yc l)+1)
    omega
  unfold ZeZ
  rw[if_neg (fun z=>by
   have:=congrArg List.length z
   rw[hml,Zvf] at this
   omega)]
  refine Zuf.mpr ⟨ZtA.mpr ⟨(l.getD 0 0).toNat-1,Ztu.mpr (by omega), ?_⟩,decide_eq_true h.2.1⟩
  refine ZkG h fun i=>?_
  have e:(1+(((l.getD 0 0).toNat-1:Nat):Int))=l.getD 0 0:=by omega
  unfold ZaF
  rw[e]
  cases i with
  |zero=>rfl
  |succ i =>
   rw[Zvh]
   by_cases c:i<(Yc l).length
   ·rw[Zte,Ztz,Zt9 c]
    simp only[ZuL,Zur]
    rw[JK]
    by_cases c2:(i:Int)<l.getD 0 0
    ·rw[if_pos c2,if_pos (by omega)];omega
    ·rw[if_neg c2,if_neg (by omega)];omega
   ·rw[Yt (by simp;omega),Yt (by omega)]
theorem Zni {g:Bool->Bool}{n:Nat}{x:PV} (h:Dat n x) (hn:n<=64:=by decide):Zhk g x x=.ok (.bl (g true)):=by
 unfold Zhk
 rw[h.ok hn,Bool.and_self,if_pos rfl,PySem.SeqAt.eqv_refl _ h.can]
theorem ZqD {s:Int} (h0:0<=s) (h1:s<37):lsS s (nS s)=(ltF (kN s+1:Nat) (adS s)).map Yl:=by
 rw[Zpe h0 h1,List.filter_map,ZtZ]
 rfl
noncomputable def Zci:Pm:=⟨List Int,fun ns=>[.lst (ns.map PV.int)],fun ns=>ns.length<=63,fun _=>.ok (.bl true)⟩
theorem ZqY (T:Txt K mg) {f:Addr}{fd:FuncData} (F:Fun K "law" "law" Zha f fd):Vi P w K mg base CX0 7 f fd ["script"] (spF K 1 .P W0 Zci.fn):=by
 have Zf4:=VT (P:=P) (w:=w) (base:=base) T.Zfx ZeX (fun F=>ZeD T F)
 have Zd1:=VT (P:=P) (w:=w) (base:=base) T.Zdp Zc4 (fun F=>Zct T F)
 have ZjM:=JD (P:=P) (w:=w) (base:=base) T.ZnE Zmy (fun F=>Zma T F)
 have Us:=JD (P:=P) (w:=w) (base:=base) T.ZaC QC (fun F=>Q4 T F)
 have Zk2:=JD (P:=P) (w:=w) (base:=base) T.Zkt ZiF (fun F=>Zi1 T F)
 have Za6:=JD (P:=P) (w:=w) (base:=base) T.Zcy ZbB (fun F=>ZbA T F)
 have Zkz:=JD (P:=P) (w:=w) (base:=base) T.Zkq ZiC (fun F=>Ziy T F)
 have Za5:=JD (P:=P) (w:=w) (base:=base) T.ZeP ZdC (fun F=>ZdA T F)
 have ZgK:=JD (P:=P) (w:=w) (base:=base) T.ZgA Zfz (fun F=>Zfr T F)
 have Zk1:=JD (P:=P) (w:=w) (base:=base) T.Zks ZiE (fun F=>Zi0 T F)
 have Zff:=JD (P:=P) (w:=w) (base:=base) T.ZhA ZfW (fun F=>ZfQ T F)
 have ZhT:=VT (P:=P) (w:=w) (base:=base) T.ZhD ZgH (fun F=>Zg1 T F)
 have Ur:=JD (P:=P) (w:=w) (base:=base) T.ZaB QB (fun F=>Q3 T F)
 refine F.okP Zb6 rfl rfl (fun cdv A outer s H E hr=>?_)
 have hu:=hr.units
 refine⟨_,_,⟨[],[],[],.P⟩,rfl,(Zg (Zz (i:=1) Zb6.nd rfl (by first|exact Or.inl rfl|exact Or.inr rfl) (Zo Zf4 (hr.mono (by decide)) rfl (Zb (pv 0) (Zb Zl Zf))))
   (Zg (Zz (i:=2) Zb6.nd rfl (by first|exact Or.inl rfl|exact Or.inr rfl) (ZD Vb (WD (ZA (K:=K)) (pv 1) Zl (fun _ _=>rfl)) Zl))
   (Zg (ZfF (i:=3) Zb6.nd rfl (WV rfl T.z_range (Zb (Z6 Za5 (hr.mono (by decide)) rfl WW (Zb (pv 2) Zf)) Zf)) (fun _ _ _ _=>(Z6 ZjM (hr.mono (by decide)) rfl WW (Zb (pv 2) (Zb (pv 9) Zf)))) rfl)
   (Zg (Zz (i:=4) Zb6.nd rfl (by first|exact Or.inl rfl|exact Or.inr rfl) (Zo Zd1 (hr.mono (by decide)) rfl (Zb (pv 3) (Zb (pv 2) Zf))))
   (Zg (VR (PW.pt (Zfl (Zu Zjt (pv 4) Zb7 (Z8 _)) (Zd3 (Zu (Za8 (K:=K) hu) (Zr (Z3 (K:=K)) rfl T.z_len Wt (Zb (pv 4) Zf)) (Z6 Za6 (hr.mono (by decide)) rfl WW (Zb (pv 2) Zf)) (Z8 _))))) (Zk (Z9 ZoM)) Y6)
   (Zg (VR (Zu (Za8 (K:=K) hu) (pv 4) (ZcK (WV rfl T.z_range (Zb (Zr (Z3 (K:=K)) rfl T.z_len Wt (Zb (pv 4) Zf)) Zf)) (fun _ _ _ _=>(Z6 Zkz (hr.mono (by decide)) rfl WW (Zb (pv 2) (Zb (pv 9) Zf)))) Zb6.nd rfl) (Z8 _)) (Zk (Z9 ZoM)) Y6)
   (Zg (Zz (i:=5) Zb6.nd rfl (by first|exact Or.inl rfl|exact Or.inr rfl) (ZD Vb (WD (ZA (K:=K)) (pv 1) Zl (fun _ _=>rfl)) Zl))
   (Zg (Zz (i:=6) Zb6.nd rfl (by first|exact Or.inl rfl|exact Or.inr rfl) (Z6 ZjM (hr.mono (by decide)) rfl WW (Zb (pv 5) (Zb (ZD Vb (Zr (UN (K:=K) rfl) rfl T.z_sum ZeY (Zb (Zo ZhT (hr.mono (by decide)) rfl (Zb (pv 0) (Zb Zl Zf))) Zf)) (Z6 Za5 (hr.mono (by decide)) rfl WW (Zb (pv 5) Zf))) Zf))))
   (Zg (Zlh (Z6 Us (hr.mono (by decide)) rfl WW (Zb (Wl (Wo (K:=K)) rfl T.z_list Vu (Zb (pv 6) Zf)) Zf)) (Zlm rfl (Zbs (JJ (i:=7) Zb6.nd rfl (by first|exact Or.inl rfl|exact Or.inr rfl)) (Zbs (JJ (i:=8) Zb6.nd rfl (by first|exact Or.inl rfl|exact Or.inr rfl)) Zij))))
   (Zg (VR (PW.pt (Zfl (Zu (Za8 (K:=K) hu) (Z6 ZgK (hr.mono (by decide)) rfl WW (Zb (Wl (Wo (K:=K)) rfl T.z_list Vu (Zb (pv 6) Zf)) (Zb (pv 8) Zf))) (pv 7) (Z8 _)) (Zd3 (Zu (Za8 (K:=K) hu) (Z6 Zk1 (hr.mono (by decide)) rfl WW (Zb (Wl (Wo (K:=K)) rfl T.z_list Vu (Zb (pv 6) Zf)) Zf)) (Zd4 (Zb Zl (Zb (pv 6) (Zb (Z6 Ur (hr.mono (by decide)) rfl WW (Zb (Wl (Wo (K:=K)) rfl T.z_list Vu (Zb (pv 6) Zf)) Zf)) Zf)))) (Z8 _))))) (Zk (Z9 ZoM)) Y6)
   (Zk (Z9 (ZcL (Zoc (K:=K) hu) (pv 6) (Z6 Zk2 (hr.mono (by decide)) rfl WW (Zb (Z6 Zff (hr.mono (by decide)) rfl WW (Zb (Wl (Wo (K:=K)) rfl T.z_list Vu (Zb (pv 6) Zf)) Zf)) Zf)) rfl))))))))))))),
   (Zm (Γm:=[.S,.O,.U,.U,.U,.U,.U,.U,.U]) (Y5 (i:=1) (Zp6 (Zd (Zd Zi)) (Za (Zc (i:=0) (m:=.S) rfl (by decide)) (Za (DE.toA Zj) Ze))) (by decide))
   (Zm (Γm:=[.S,.O,.P,.U,.U,.U,.U,.U,.U]) (ZH (i:=2) (Ve (Yo (te:=tC .non) (Zc (i:=1) (m:=.O) rfl (by decide)) (DE.toA Zj)) (DE.toA Zj)) (by decide))
   (Zm (Γm:=[.S,.O,.P,.O,.U,.U,.U,.U,.U]) (ZfR (i:=3) (Qe (DI.c (UK (Za (DE.toA (Zps (Zd Zi) (Za (DE.toA (Zn (i:=2) rfl)) Ze))) Ze))) (Zn6 (Zd (Zd Zi)) (Za (DE.toA (Zn (i:=2) rfl)) (Za (Zc (i:=9) (m:=.S) rfl (by decide)) Ze)))) (by decide))
   (Zm (Γm:=[.S,.O,.P,.S,.S,.U,.U,.U,.U]) (Zmh (i:=4) (ZsX (Zd (Zd Zi)) (V5 (Zdm (i:=3) (m:=.O) rfl (by decide)) (V5 (DE.PZ (Zn (i:=2) rfl)) ZbV))) (by decide))
   (Zm (Γm:=[.S,.O,.P,.S,.S,.U,.U,.U,.U]) (Ui (Zfv (Zt (DE.toA (ZjE (Zc (i:=4) (m:=.S) rfl (by decide))))) (Zt (DE.toA (Jo (g:=(!·)) (DE.toA (Wn (Za (Zc (i:=4) (m:=.S) rfl (by decide)) Ze))) (DE.toA (Zps (Zd Zi) (Za (DE.toA (Zn (i:=2) rfl)) Ze)))))))
   (Y8 Zp5)
   Y9)
   (Zm (Γm:=[.S,.O,.P,.S,.S,.U,.U,.U,.U]) (Ui (Zt (DE.toA (Jo (g:=(!·)) (Zc (i:=4) (m:=.S) rfl (by decide)) (DE.toA (Qe (DI.c (UK (Za (DE.toA (Wn (Za (Zc (i:=4) (m:=.S) rfl (by decide)) Ze))) Ze))) (Zn6 (Zd (Zd Zi)) (Za (DE.toA (Zn (i:=2) rfl)) (Za (Zc (i:=9) (m:=.S) rfl (by decide)) Ze))))))))
   (Y8 Zp5)
   Y9)
   (Zm (Γm:=[.S,.O,.P,.S,.S,.P,.U,.U,.U]) (ZH (i:=5) (Ve (Yo (te:=tC .non) (Zc (i:=1) (m:=.O) rfl (by decide)) (DE.toA Zj)) (DE.toA Zj)) (by decide))
   (Zm (Γm:=[.S,.O,.P,.S,.S,.P,.O,.U,.U]) (Y5 (i:=6) (Zn6 (Zd (Zd Zi)) (Za (DE.toA (Zn (i:=5) rfl)) (Za (DE.toA (Ve (DE.toA (ZeK (Za (DE.toA (Zp6 (Zd (Zd Zi)) (Za (Zc (i:=0) (m:=.S) rfl (by decide)) (Za (DE.toA Zj) Ze)))) Ze))) (DE.toA (Zps (Zd Zi) (Za (DE.toA (Zn (i:=5) rfl)) Ze))))) Ze))) (by decide))
   (Zm (Γm:=[.S,.O,.P,.S,.S,.P,.O,.O,.P]) (Zpv (Zn6 (Zd Zi) (Za (DE.toA (JO (Za (Zc (i:=6) (m:=.O) rfl (by decide)) Ze))) Ze)) (Zpz (n:=2) (Zh5 (Zsd (i:=7) (by decide)) (Zh5 (Zsc (i:=8) (by decide)) Zn7))))
   (Zm (Γm:=[.S,.O,.P,.S,.S,.P,.O,.O,.P]) (Ui (Zfv (Zt (DE.toA (Jo (g:=(!·)) (DE.toA (Zn6 (Zd (Zd Zi)) (Za (DE.toA (JO (Za (Zc (i:=6) (m:=.O) rfl (by decide)) Ze))) (Za (DE.toA (Zn (i:=8) rfl)) Ze)))) (Zc (i:=7) (m:=.O) rfl (by decide))))) (Zt (DE.toA (Jo (g:=(!·)) (Zsa (Zd Zi) (Za (DE.toA (JO (Za (Zc (i:=6) (m:=.O) rfl (by decide)) Ze))) Ze)) (Zmk (Za (DE.toA Zj) (Za (Zc (i:=6) (m:=.O) rfl (by decide)) (Za (DE.toA (Zps (Zd Zi) (Za (DE.toA (JO (Za (Zc (i:=6) (m:=.O) rfl (by decide)) Ze))) Ze))) Ze))))))))
   (Y8 Zp5)
   Y9)
   (Y8 (Zop (g:=id) (Zc (i:=6) (m:=.O) rfl (by decide)) (DE.toA (Zn6 (Zd Zi) (Za (DE.toA (Zn6 (Zd Zi) (Za (DE.toA (JO (Za (Zc (i:=6) (m:=.O) rfl (by decide)) Ze))) Ze))) Ze))))))))))))))), ?_⟩
 refine Pm.ref Zci (g:=fun xs=>_) ?_
 intro (ns:List Int) (hn:ns.length<=63)
 simp only[Zci]
 walk_at "pd"
 rw[Ju ⟨by omega,by omega,by omega⟩]
 walk_at "pd"
 have hnl:(Zkf ns 63).length=63:=by simp
 generalize Zkf ns 63=N at hnl
 walk_at "pd"
 have s0:=Zum (N.getD 0 0) (show (37:Int)≠0 by omega)
 have s1:=Zuh (N.getD 0 0) (show (0:Int)<37 by omega)
 generalize N.getD 0 0%37=s at s0 s1
 have F:=few s0 s1
 have f1:=F.le
 have f2:=F.ge
 have f3:=F.k8
 have hC:ZhV s=(nS s:Nat):=F.eq.symm
 obtain⟨a1,a2⟩:=ZdD s0
 rw[Qu ⟨s0,by omega⟩,hC]
 walk_at "pd"
 rw[Ztr,Zgp (g:=fun(i:Nat)=>VP (Yl (unS s i))) (fun i hi=>by
  rw[Zuo]
  walk_at "pd"
  rw[ZeU ⟨s0,by omega⟩ ⟨by omega,by rw[hC];omega⟩]
  rfl)]
 have hrows:(List.range (nS s)).map (fun(i:Nat)=>VP (Yl (unS s i)))=(rwS s).map VP:=by unfold rwS;rw[ZtZ];rfl
 rw[hrows]
 walk_at "pd"
 rw[Ws ⟨s0,s1⟩]
 have hL:=ZqB (P:=kN s+1) (o:=adS s) (by omega) (by omega) (by omega)
 have hlen:=hL.len
 rw[show Zqk (kN s+1) (adS s)=Zjf s from rfl] at hlen
 have hls:=ZqD s0 s1
 rw[hls]
 have hlt70:(ltF (kN s+1:Nat) (adS s)).length<=70:=by
  have:(lsS s (nS s)).length<=nS s:=by
   unfold lsS
   rw[Zto]
   exact Zt5 (ZuU _ _) (by simp)
  rw[hls,Zto] at this
  omega
 walk_at "pd"
 have hplen:Zk4 [.lst (((ltF (kN s+1:Nat) (adS s)).map Yl).map VP)]=.ok (.int (Zjf s)):=by
  rw[Znc,Zto,Zto,hlen]
 rw[hplen]
 walk_at "pd"
 rw[ZaD ⟨s0,by omega⟩]
 walk_at "pd"
 rw[hplen]
 walk_at "pd"
 rw[Zgp (g:=fun(i:Nat)=>VP (Yl ((ltF (kN s+1:Nat) (adS s)).getD i []))) (fun i hi=>by
  rw[Zuo]
  walk_at "pd"
  rw[ZgD ⟨s0,by omega⟩ ⟨by omega,by omega⟩,Ztr]
  rfl)]
 have hrr:(List.range (Zjf s).toNat).map (fun(i:Nat)=>VP (Yl ((ltF (kN s+1:Nat) (adS s)).getD i [])))=((ltF (kN s+1:Nat) (adS s)).map Yl).map VP:=by
  rw[<- hlen,Ztr,ZtZ]
  refine ZuB (by simp) fun i h1 h2=>?_
  simp only[Zto,Zu7] at h1
  simp only[List.getElem_map,List.getElem_range,Function.comp_apply]
  rw[Zte,Ztf h1];rfl
 rw[hrr]
 walk_at "pd"
 rw[Znj,decide_eq_true rfl]
 walk_at "pd"
 have t0:=Zum (N.getD 1 0) (show (101:Int)≠0 by omega)
 have t1:=Zuh (N.getD 1 0) (show (0:Int)<101 by omega)
 generalize N.getD 1 0%101=far at t0 t1
 rw[VO ⟨by omega,by omega,by omega⟩]
 walk_at "pd"
 generalize (ZlL ns 55).sum=tot
 rw[Qu ⟨t0,by omega⟩]
 have hp:1<=ZhV far:=ZmN t0 (by omega)
 walk_at "pd"
 have q0:=Zum tot (show ZhV far≠0 by omega)
 have q1:=Zuh tot (show 0<ZhV far by omega)
 generalize tot%ZhV far=nr at q0 q1
 rw[ZeU ⟨t0,by omega⟩ ⟨q0,q1⟩]
 obtain⟨O,Or⟩:=One.of t0 (by omega) q0 q1
 rw[show unN (kN far+1) (adS far) nr=unS far nr from rfl]
 generalize unS far nr=a at O Or
 have L:=O.line (by omega)
 have hln:=L.2.1
 have hal:=O.pt.2.1
 have hal2:=O.pt.2.2.1
 have hRX:=Zee (VS O.pt) (by rw[O.sm];omega)
 obtain⟨m,m1,m2,m3,m4⟩:=ZeE (a:=a) (by omega)
 obtain⟨o1,o2,o3,o4⟩:=ZcJ (a:=a) (by omega)
 walk_at "pd"
 rw[YT (by omega),QM hRX,ZbY (VS O.pt)]
 simp only[orX]
 unfold Zra
 rw[m2]
 walk_at "pd"
 rw[ZdN L (by omega) (by omega),Ztr,Zir O.pt]
 walk_at "pd"
 have hRow:=(Zg2 L).mp hRX.2.1
 have hT:ZfZ (Yl a)=0:=by
  obtain⟨t1,t2⟩:=Zf6 L
  by_cases c:ZfZ (Yl a)=0
  ·exact c
  ·exact absurd hRow (t2 0 (by omega))
 have hadN:Zm2 (Yl a)=a:=ZbY (VS O.pt)
 rw[Q8 (by omega),JL L]
 simp only[orX]
 unfold ZjI
 rw[hT]
 simp only[mIt]
 rw[hadN]
 walk_at "pd"
 rw[YS (by omega),QM hRX,ZbY (VS O.pt)]
 simp only[orX]
 walk_at "pd"
 have hD:Dat 2 (.tup [.int 0,.lst ((Yl a).map PV.int),.int (Ut a:Nat)]):=Zp7 fun y hy=>by
  simp only[Ztt,List.not_mem_nil,or_false] at hy
  rcases hy with rfl|rfl|rfl
  ·exact(ZeN _).up (by decide)
  ·exact Zb0 _
  ·exact(ZeN _).up (by decide)
 rw[show PV.int ((0:Nat):Int)=PV.int 0 from rfl,Zni hD]
 walk_at "pd"
 have O1:=O.rot (by omega) 1
 have L1:=O1.line (by omega)
 have hln1:=L1.2.1
 have hmr:=Ziq L
 rw[Zcn O.pt] at hmr
 rw[ZdB L,Zcn O.pt]
 walk_at "pd"
 rw[Q9 (by omega),JL L1]
 simp only[orX]
 walk_at "pd"
 rw[show llP (ZeZ (Yl (WP a 1)))=.lst ((ZeZ (Yl (WP a 1))).map fun q=>.lst (q.map PV.int)) from rfl,Zkb,decide_eq_true hmr]
 walk_at "pd"
theorem ZnI {ns:List Int} (h:ns.length<=63):Zci.fn [.lst (ns.map PV.int)]=.ok (.bl true):=Pm.fn_eq Zci ns h (fun _ _=>rfl)
noncomputable def ZkR (K:W.Frag):Sp:=spF K 1 .P W0 Zci.fn
theorem ZqG {l:PySem.W.OpenLaw} (T:Txt K mg) {fa:Addr} (hmg:mg "law"=some (.ref fa)):∃fd:FuncData,(∀(s:Shared) (u:Value),BindsTo s fd ⟨[u],[]⟩ [("script",u)]) /\
  ∀base:Heap,K.In base->base.Ns mainGlobals mg->Vi l.prog w K mg base CX0 7 fa fd ["script"] (ZkR K):=by
 obtain⟨f,fd,F,hm⟩:=T.Zsf
 rw[hmg] at hm
 cases hm
 refine⟨fd,fun s u=>?_,fun base _ _=>ZqY T F⟩
 obtain⟨oc,od,kV,doc,pm,an,cdv,ct,osl,rfl,lk,hcd⟩:=F.ex
 exact .of_eq (Zro kV doc pm an cdv ct [u] rfl)
theorem ZlK {H:Hp}{a:Addr}{ns:List Int} (hl:ns.length<=63) (hO:Zrr H) (hS:SqL K H a (ns.map V.int)):ZkR K [.ref a] H (fun v _=>v=.bl true) fun _ _ _=>False:=
 Zki (Pm.fn_eq Zci ns hl fun _ _=>rfl) hS
end
theorem ZpZ {K:W.Frag}{h:Heap}{mg:Str->Option Value}{Qr Vr UH Zaq Zdh UG Ja WM Zdf Qq ZeF Ug Zbe Zao ZeH UF Zi3 ZeG Ue Uf Vs Zap ZbQ Zdk ZbP Zg3 Zbc Vq Zdj Uh Zbd Zak UI Zal Zan Zdg Qp Zam Zdi Zbf Zpq:Addr} (X:K.In h) (G:h.Ns mainGlobals mg)
  {od__law_numbers an__law_numbers:Option Addr}{sl__law_numbers:Array (Option Value)}{oc__law_numbers kV__law_numbers dc__law_numbers Yz cd__law_numbers ct__law_numbers:Value}
  {od__law_round_from an__law_round_from:Option Addr}{sl__law_round_from:Array (Option Value)}{oc__law_round_from kV__law_round_from dc__law_round_from ZK cd__law_round_from ct__law_round_from:Value}
  {od_greatest_step an_greatest_step:Option Addr}{sl_greatest_step:Array (Option Value)}{oc_greatest_step kV_greatest_step dc_greatest_step Yn cd_greatest_step ct_greatest_step:Value}
  {od_added_seeds an_added_seeds:Option Addr}{sl_added_seeds:Array (Option Value)}{oc_added_seeds kV_added_seeds dc_added_seeds ZN cd_added_seeds ct_added_seeds:Value}
  {od_is_whole an_is_whole:Option Addr}{sl_is_whole:Array (Option Value)}{oc_is_whole kV_is_whole dc_is_whole Jx cd_is_whole ct_is_whole:Value}
  {od_is_whole_from an_is_whole_from:Option Addr}{sl_is_whole_from:Array (Option Value)}{oc_is_whole_from kV_is_whole_from dc_is_whole_from ZG cd_is_whole_from ct_is_whole_from:Value}
  {od_is_list_from_nought an_is_list_from_nought:Option Addr}{sl_is_list_from_nought:Array (Option Value)}{oc_is_list_from_nought kV_is_list_from_nought dc_is_list_from_nought Zs cd_is_list_from_nought ct_is_list_from_nought:Value}
  {od_without_last_noughts an_without_last_noughts:Option Addr}{sl_without_last_noughts:Array (Option Value)}{oc_without_last_noughts kV_without_last_noughts dc_without_last_noughts Z0 cd_without_last_noughts ct_without_last_noughts:Value}
  {od_row_with an_row_with:Option Addr}{sl_row_with:Array (Option Value)}{oc_row_with kV_row_with dc_row_with Wh cd_row_with ct_row_with:Value}
  {od_added_in_row an_added_in_row:Option Addr}{sl_added_in_row:Array (Option Value)}{oc_added_in_row kV_added_in_row dc_added_in_row Yy cd_added_in_row ct_added_in_row:Value}
  {od_turn_by an_turn_by:Option Addr}{sl_turn_by:Array (Option Value)}{oc_turn_by kV_turn_by dc_turn_by WH cd_turn_by ct_turn_by:Value}
  {od_first_of_round an_first_of_round:Option Addr}{sl_first_of_round:Array (Option Value)}{oc_first_of_round kV_first_of_round dc_first_of_round ZV cd_first_of_round ct_first_of_round:Value}
  {od_check_line an_check_line:Option Addr}{sl_check_line:Array (Option Value)}{oc_check_line kV_check_line dc_check_line Wc cd_check_line ct_check_line:Value}
  {od_is_marching an_is_marching:Option Addr}{sl_is_marching:Array (Option Value)}{oc_is_marching kV_is_marching dc_is_marching Yr cd_is_marching ct_is_marching:Value}
  {od_choices an_choices:Option Addr}{sl_choices:Array (Option Value)}{oc_choices kV_choices dc_choices WI cd_choices ct_choices:Value}
  {od_number_of_row an_number_of_row:Option Addr}{sl_number_of_row:Array (Option Value)}{oc_number_of_row kV_number_of_row dc_number_of_row Ym cd_number_of_row ct_number_of_row:Value}
  {od_march an_march:Option Addr}{sl_march:Array (Option Value)}{oc_march kV_march dc_march V0 cd_march ct_march:Value}
  {od_marched an_marched:Option Addr}{sl_marched:Array (Option Value)}{oc_marched kV_marched dc_marched Jk cd_marched ct_marched:Value}
  {od_turn_to_itself an_turn_to_itself:Option Addr}{sl_turn_to_itself:Array (Option Value)}{oc_turn_to_itself kV_turn_to_itself dc_turn_to_itself ZB cd_turn_to_itself ct_turn_to_itself:Value}
  {od_steps_of_round an_steps_of_round:Option Addr}{sl_steps_of_round:Array (Option Value)}{oc_steps_of_round kV_steps_of_round dc_steps_of_round ZU cd_steps_of_round ct_steps_of_round:Value}
  {od__law_all_rounds an__law_all_rounds:Option Addr}{sl__law_all_rounds:Array (Option Value)}{oc__law_all_rounds kV__law_all_rounds dc__law_all_rounds ZL cd__law_all_rounds ct__law_all_rounds:Value}
  {od_check_count an_check_count:Option Addr}{sl_check_count:Array (Option Value)}{oc_check_count kV_check_count dc_check_count YI cd_check_count ct_check_count:Value}
  {od_places_of an_places_of:Option Addr}{sl_places_of:Array (Option Value)}{oc_places_of kV_places_of dc_places_of YG cd_places_of ct_places_of:Value}
  {od_added_of an_added_of:Option Addr}{sl_added_of:Array (Option Value)}{oc_added_of kV_added_of dc_added_of Wi cd_added_of ct_added_of:Value}
  {od_row_count an_row_count:Option Addr}{sl_row_count:Array (Option Value)}{oc_row_count kV_row_count dc_row_count Wb cd_row_count ct_row_count:Value}
  {od_row_at an_row_at:Option Addr}{sl_row_at:Array (Option Value)}{oc_row_at kV_row_at dc_row_at JI cd_row_at ct_row_at:Value}
  {od_line_ahead an_line_ahead:Option Addr}{sl_line_ahead:Array (Option Value)}{oc_line_ahead kV_line_ahead dc_line_ahead Yb cd_line_ahead ct_line_ahead:Value}
  {od_held_from_first an_held_from_first:Option Addr}{sl_held_from_first:Array (Option Value)}{oc_held_from_first kV_held_from_first dc_held_from_first Z5 cd_held_from_first ct_held_from_first:Value}
  {od_ahead_of an_ahead_of:Option Addr}{sl_ahead_of:Array (Option Value)}{oc_ahead_of kV_ahead_of dc_ahead_of WU cd_ahead_of ct_ahead_of:Value}
  {od_common_divisor an_common_divisor:Option Addr}{sl_common_divisor:Array (Option Value)}{oc_common_divisor kV_common_divisor dc_common_divisor ZW cd_common_divisor ct_common_divisor:Value}
  {od_count_kept an_count_kept:Option Addr}{sl_count_kept:Array (Option Value)}{oc_count_kept kV_count_kept dc_count_kept Ys cd_count_kept ct_count_kept:Value}
  {od_round_count an_round_count:Option Addr}{sl_round_count:Array (Option Value)}{oc_round_count kV_round_count dc_round_count Yp cd_round_count ct_round_count:Value}
  {od_can_be_filled an_can_be_filled:Option Addr}{sl_can_be_filled:Array (Option Value)}{oc_can_be_filled kV_can_be_filled dc_can_be_filled ZO cd_can_be_filled ct_can_be_filled:Value}
  {od_made_longer an_made_longer:Option Addr}{sl_made_longer:Array (Option Value)}{oc_made_longer kV_made_longer dc_made_longer YH cd_made_longer ct_made_longer:Value}
  {od_least_turns an_least_turns:Option Addr}{sl_least_turns:Array (Option Value)}{oc_least_turns kV_least_turns dc_least_turns ZZ cd_least_turns ct_least_turns:Value}
  {od_round_at an_round_at:Option Addr}{sl_round_at:Array (Option Value)}{oc_round_at kV_round_at dc_round_at W8 cd_round_at ct_round_at:Value}
  {od_most_marches an_most_marches:Option Addr}{sl_most_marches:Array (Option Value)}{oc_most_marches kV_most_marches dc_most_marches Ya cd_most_marches ct_most_marches:Value}
  {od_line_behind an_line_behind:Option Addr}{sl_line_behind:Array (Option Value)}{oc_line_behind kV_line_behind dc_line_behind Yq cd_line_behind ct_line_behind:Value}
  {od_comes_to an_comes_to:Option Addr}{sl_comes_to:Array (Option Value)}{oc_comes_to kV_comes_to dc_comes_to WT cd_comes_to ct_comes_to:Value}
  {od__law_large an__law_large:Option Addr}{sl__law_large:Array (Option Value)}{oc__law_large kV__law_large dc__law_large Wd cd__law_large ct__law_large:Value}
  {od_law an_law:Option Addr}{sl_law:Array (Option Value)}{oc_law kV_law dc_law Zci cd_law ct_law:Value}
  (Qx:PySem.W.nsIn K mainGlobals "_law_numbers"=some (some (.ref Qr))) (Qk:K.lookup Qr=some ⟨oc__law_numbers,od__law_numbers,.func (PySem.W.fnOf "_law_numbers" "_law_numbers" (Zw YF) (Zv YF) (Zh YF) .none kV__law_numbers dc__law_numbers Yz an__law_numbers cd__law_numbers ct__law_numbers),sl__law_numbers⟩) (Ju:PySem.W.codeIn K cd__law_numbers "_law_numbers"=true) (Qn:PySem.W.keepIn K (.ref Qr)=true)
  (Vw:PySem.W.nsIn K mainGlobals "_law_round_from"=some (some (.ref Vr))) (Vl:K.lookup Vr=some ⟨oc__law_round_from,od__law_round_from,.func (PySem.W.fnOf "_law_round_from" "_law_round_from" (Zw ZS) (Zv ZS) (Zh ZS) .none kV__law_round_from dc__law_round_from ZK an__law_round_from cd__law_round_from ct__law_round_from),sl__law_round_from⟩) (Wr:PySem.W.codeIn K cd__law_round_from "_law_round_from"=true) (Vo:PySem.W.keepIn K (.ref Vr)=true)
  (UT:PySem.W.nsIn K mainGlobals "greatest_step"=some (some (.ref UH))) (U7:K.lookup UH=some ⟨oc_greatest_step,od_greatest_step,.func (PySem.W.fnOf "greatest_step" "greatest_step" (Zw Yw) (Zv Yw) (Zh Yw) .none kV_greatest_step dc_greatest_step Yn an_greatest_step cd_greatest_step ct_greatest_step),sl_greatest_step⟩) (YK:PySem.W.codeIn K cd_greatest_step "greatest_step"=true) (UB:PySem.W.keepIn K (.ref UH)=true)
  (Za4:PySem.W.nsIn K mainGlobals "added_seeds"=some (some (.ref Zaq))) (QZ:K.lookup Zaq=some ⟨oc_added_seeds,od_added_seeds,.func (PySem.W.fnOf "added_seeds" "added_seeds" (Zw Wa) (Zv Wa) (Zh Wa) .none kV_added_seeds dc_added_seeds ZN an_added_seeds cd_added_seeds ct_added_seeds),sl_added_seeds⟩) (Jm:PySem.W.codeIn K cd_added_seeds "added_seeds"=true) (Zag:PySem.W.keepIn K (.ref Zaq)=true)
  (Zdu:PySem.W.nsIn K mainGlobals "is_whole"=some (some (.ref Zdh))) (ZcT:K.lookup Zdh=some ⟨oc_is_whole,od_is_whole,.func (PySem.W.fnOf "is_whole" "is_whole" (Zw J4) (Zv J4) (Zh J4) .none kV_is_whole dc_is_whole Jx an_is_whole cd_is_whole ct_is_whole),sl_is_whole⟩) (Q7:PySem.W.codeIn K cd_is_whole "is_whole"=true) (ZcZ:PySem.W.keepIn K (.ref Zdh)=true)
  (US:PySem.W.nsIn K mainGlobals "is_whole_from"=some (some (.ref UG))) (U6:K.lookup UG=some ⟨oc_is_whole_from,od_is_whole_from,.func (PySem.W.fnOf "is_whole_from" "is_whole_from" (Zw Yv) (Zv Yv) (Zh Yv) .none kV_is_whole_from dc_is_whole_from ZG an_is_whole_from cd_is_whole_from ct_is_whole_from),sl_is_whole_from⟩) (Wp:PySem.W.codeIn K cd_is_whole_from "is_whole_from"=true) (UA:PySem.W.keepIn K (.ref UG)=true)
  (Jf:PySem.W.nsIn K mainGlobals "is_list_from_nought"=some (some (.ref Ja))) (WX:K.lookup Ja=some ⟨oc_is_list_from_nought,od_is_list_from_nought,.func (PySem.W.fnOf "is_list_from_nought" "is_list_from_nought" (Zw Z7) (Zv Z7) (Zh Z7) .none kV_is_list_from_nought dc_is_list_from_nought Zs an_is_list_from_nought cd_is_list_from_nought ct_is_list_from_nought),sl_is_list_from_nought⟩) (ZY:PySem.W.codeIn K cd_is_list_from_nought "is_list_from_nought"=true) (WY:PySem.W.keepIn K (.ref Ja)=true)
  (WN:PySem.W.nsIn K mainGlobals "without_last_noughts"=some (some (.ref WM))) (WK:K.lookup WM=some ⟨oc_without_last_noughts,od_without_last_noughts,.func (PySem.W.fnOf "without_last_noughts" "without_last_noughts" (Zw Z2) (Zv Z2) (Zh Z2) .none kV_without_last_noughts dc_without_last_noughts Z0 an_without_last_noughts cd_without_last_noughts ct_without_last_noughts),sl_without_last_noughts⟩) (ZM:PySem.W.codeIn K cd_without_last_noughts "without_last_noughts"=true) (WL:PySem.W.keepIn K (.ref WM)=true)
  (Zds:PySem.W.nsIn K mainGlobals "row_with"=some (some (.ref Zdf))) (ZcR:K.lookup Zdf=some ⟨oc_row_with,od_row_with,.func (PySem.W.fnOf "row_with" "row_with" (Zw J1) (Zv J1) (Zh J1) .none kV_row_with dc_row_with Wh an_row_with cd_row_with ct_row_with),sl_row_with⟩) (Jl:PySem.W.codeIn K cd_row_with "row_with"=true) (ZcX:PySem.W.keepIn K (.ref Zdf)=true)
  (Qw:PySem.W.nsIn K mainGlobals "added_in_row"=some (some (.ref Qq))) (Qj:K.lookup Qq=some ⟨oc_added_in_row,od_added_in_row,.func (PySem.W.fnOf "added_in_row" "added_in_row" (Zw YE) (Zv YE) (Zh YE) .none kV_added_in_row dc_added_in_row Yy an_added_in_row cd_added_in_row ct_added_in_row),sl_added_in_row⟩) (Wk:PySem.W.codeIn K cd_added_in_row "added_in_row"=true) (Qm:PySem.W.keepIn K (.ref Qq)=true)
  (Zfb:PySem.W.nsIn K mainGlobals "turn_by"=some (some (.ref ZeF))) (Ze1:K.lookup ZeF=some ⟨oc_turn_by,od_turn_by,.func (PySem.W.fnOf "turn_by" "turn_by" (Zw V9) (Zv V9) (Zh V9) .none kV_turn_by dc_turn_by WH an_turn_by cd_turn_by ct_turn_by),sl_turn_by⟩) (VJ:PySem.W.codeIn K cd_turn_by "turn_by"=true) (Ze4:PySem.W.keepIn K (.ref ZeF)=true)
  (Um:PySem.W.nsIn K mainGlobals "first_of_round"=some (some (.ref Ug))) (VW:K.lookup Ug=some ⟨oc_first_of_round,od_first_of_round,.func (PySem.W.fnOf "first_of_round" "first_of_round" (Zw Yj) (Zv Yj) (Zh Yj) .none kV_first_of_round dc_first_of_round ZV an_first_of_round cd_first_of_round ct_first_of_round),sl_first_of_round⟩) (YT:PySem.W.codeIn K cd_first_of_round "first_of_round"=true) (Ua:PySem.W.keepIn K (.ref Ug)=true)
  (Zbk:PySem.W.nsIn K mainGlobals "check_line"=some (some (.ref Zbe))) (ZaU:K.lookup Zbe=some ⟨oc_check_line,od_check_line,.func (PySem.W.fnOf "check_line" "check_line" (Zw Ww) (Zv Ww) (Zh Ww) .none kV_check_line dc_check_line Wc an_check_line cd_check_line ct_check_line),sl_check_line⟩) (We:PySem.W.codeIn K cd_check_line "check_line"=true) (ZaY:PySem.W.keepIn K (.ref Zbe)=true)
  (Za2:PySem.W.nsIn K mainGlobals "is_marching"=some (some (.ref Zao))) (QX:K.lookup Zao=some ⟨oc_is_marching,od_is_marching,.func (PySem.W.fnOf "is_marching" "is_marching" (Zw YY) (Zv YY) (Zh YY) .none kV_is_marching dc_is_marching Yr an_is_marching cd_is_marching ct_is_marching),sl_is_marching⟩) (JU:PySem.W.codeIn K cd_is_marching "is_marching"=true) (Zae:PySem.W.keepIn K (.ref Zao)=true)
  (Zfd:PySem.W.nsIn K mainGlobals "choices"=some (some (.ref ZeH))) (Ze3:K.lookup ZeH=some ⟨oc_choices,od_choices,.func (PySem.W.fnOf "choices" "choices" (Zw VB) (Zv VB) (Zh VB) .none kV_choices dc_choices WI an_choices cd_choices ct_choices),sl_choices⟩) (VN:PySem.W.codeIn K cd_choices "choices"=true) (Ze6:PySem.W.keepIn K (.ref ZeH)=true)
  (UR:PySem.W.nsIn K mainGlobals "number_of_row"=some (some (.ref UF))) (U5:K.lookup UF=some ⟨oc_number_of_row,od_number_of_row,.func (PySem.W.fnOf "number_of_row" "number_of_row" (Zw Yu) (Zv Yu) (Zh Yu) .none kV_number_of_row dc_number_of_row Ym an_number_of_row cd_number_of_row ct_number_of_row),sl_number_of_row⟩) (Jd:PySem.W.codeIn K cd_number_of_row "number_of_row"=true) (U9:PySem.W.keepIn K (.ref UF)=true)
  (ZiJ:PySem.W.nsIn K mainGlobals "march"=some (some (.ref Zi3))) (Zit:K.lookup Zi3=some ⟨oc_march,od_march,.func (PySem.W.fnOf "march" "march" (Zw ZaM) (Zv ZaM) (Zh ZaM) .none kV_march dc_march V0 an_march cd_march ct_march),sl_march⟩) (ZbX:PySem.W.codeIn K cd_march "march"=true) (Zix:PySem.W.keepIn K (.ref Zi3)=true)
  (Zfc:PySem.W.nsIn K mainGlobals "marched"=some (some (.ref ZeG))) (Ze2:K.lookup ZeG=some ⟨oc_marched,od_marched,.func (PySem.W.fnOf "marched" "marched" (Zw VA) (Zv VA) (Zh VA) .none kV_marched dc_marched Jk an_marched cd_marched ct_marched),sl_marched⟩) (Zbh:PySem.W.codeIn K cd_marched "marched"=true) (Ze5:PySem.W.keepIn K (.ref ZeG)=true)
  (Uk:PySem.W.nsIn K mainGlobals "turn_to_itself"=some (some (.ref Ue))) (VU:K.lookup Ue=some ⟨oc_turn_to_itself,od_turn_to_itself,.func (PySem.W.fnOf "turn_to_itself" "turn_to_itself" (Zw Yg) (Zv Yg) (Zh Yg) .none kV_turn_to_itself dc_turn_to_itself ZB an_turn_to_itself cd_turn_to_itself ct_turn_to_itself),sl_turn_to_itself⟩) (YR:PySem.W.codeIn K cd_turn_to_itself "turn_to_itself"=true) (VY:PySem.W.keepIn K (.ref Ue)=true)
  (Ul:PySem.W.nsIn K mainGlobals "steps_of_round"=some (some (.ref Uf))) (VV:K.lookup Uf=some ⟨oc_steps_of_round,od_steps_of_round,.func (PySem.W.fnOf "steps_of_round" "steps_of_round" (Zw Yi) (Zv Yi) (Zh Yi) .none kV_steps_of_round dc_steps_of_round ZU an_steps_of_round cd_steps_of_round ct_steps_of_round),sl_steps_of_round⟩) (YS:PySem.W.codeIn K cd_steps_of_round "steps_of_round"=true) (VZ:PySem.W.keepIn K (.ref Uf)=true)
  (Vx:PySem.W.nsIn K mainGlobals "_law_all_rounds"=some (some (.ref Vs))) (Vm:K.lookup Vs=some ⟨oc__law_all_rounds,od__law_all_rounds,.func (PySem.W.fnOf "_law_all_rounds" "_law_all_rounds" (Zw ZT) (Zv ZT) (Zh ZT) .none kV__law_all_rounds dc__law_all_rounds ZL an__law_all_rounds cd__law_all_rounds ct__law_all_rounds),sl__law_all_rounds⟩) (Ws:PySem.W.codeIn K cd__law_all_rounds "_law_all_rounds"=true) (Vp:PySem.W.keepIn K (.ref Vs)=true)
  (Za3:PySem.W.nsIn K mainGlobals "check_count"=some (some (.ref Zap))) (QY:K.lookup Zap=some ⟨oc_check_count,od_check_count,.func (PySem.W.fnOf "check_count" "check_count" (Zw YZ) (Zv YZ) (Zh YZ) .none kV_check_count dc_check_count YI an_check_count cd_check_count ct_check_count),sl_check_count⟩) (YA:PySem.W.codeIn K cd_check_count "check_count"=true) (Zaf:PySem.W.keepIn K (.ref Zap)=true)
  (Zcb:PySem.W.nsIn K mainGlobals "places_of"=some (some (.ref ZbQ))) (ZbJ:K.lookup ZbQ=some ⟨oc_places_of,od_places_of,.func (PySem.W.fnOf "places_of" "places_of" (Zw WS) (Zv WS) (Zh WS) .none kV_places_of dc_places_of YG an_places_of cd_places_of ct_places_of),sl_places_of⟩) (Jc:PySem.W.codeIn K cd_places_of "places_of"=true) (ZbM:PySem.W.keepIn K (.ref ZbQ)=true)
  (Zdx:PySem.W.nsIn K mainGlobals "added_of"=some (some (.ref Zdk))) (ZcW:K.lookup Zdk=some ⟨oc_added_of,od_added_of,.func (PySem.W.fnOf "added_of" "added_of" (Zw J7) (Zv J7) (Zh J7) .none kV_added_of dc_added_of Wi an_added_of cd_added_of ct_added_of),sl_added_of⟩) (JC:PySem.W.codeIn K cd_added_of "added_of"=true) (Zdc:PySem.W.keepIn K (.ref Zdk)=true)
  (Zca:PySem.W.nsIn K mainGlobals "row_count"=some (some (.ref ZbP))) (ZbI:K.lookup ZbP=some ⟨oc_row_count,od_row_count,.func (PySem.W.fnOf "row_count" "row_count" (Zw WR) (Zv WR) (Zh WR) .none kV_row_count dc_row_count Wb an_row_count cd_row_count ct_row_count),sl_row_count⟩) (UO:PySem.W.codeIn K cd_row_count "row_count"=true) (ZbL:PySem.W.keepIn K (.ref ZbP)=true)
  (ZgI:PySem.W.nsIn K mainGlobals "row_at"=some (some (.ref Zg3))) (Zgs:K.lookup Zg3=some ⟨oc_row_at,od_row_at,.func (PySem.W.fnOf "row_at" "row_at" (Zw UY) (Zv UY) (Zh UY) .none kV_row_at dc_row_at JI an_row_at cd_row_at ct_row_at),sl_row_at⟩) (Zc1:PySem.W.codeIn K cd_row_at "row_at"=true) (Zgt:PySem.W.keepIn K (.ref Zg3)=true)
  (Zbi:PySem.W.nsIn K mainGlobals "line_ahead"=some (some (.ref Zbc))) (ZaS:K.lookup Zbc=some ⟨oc_line_ahead,od_line_ahead,.func (PySem.W.fnOf "line_ahead" "line_ahead" (Zw Wu) (Zv Wu) (Zh Wu) .none kV_line_ahead dc_line_ahead Yb an_line_ahead cd_line_ahead ct_line_ahead),sl_line_ahead⟩) (VL:PySem.W.codeIn K cd_line_ahead "line_ahead"=true) (ZaW:PySem.W.keepIn K (.ref Zbc)=true)
  (Vv:PySem.W.nsIn K mainGlobals "held_from_first"=some (some (.ref Vq))) (Vk:K.lookup Vq=some ⟨oc_held_from_first,od_held_from_first,.func (PySem.W.fnOf "held_from_first" "held_from_first" (Zw ZR) (Zv ZR) (Zh ZR) .none kV_held_from_first dc_held_from_first Z5 an_held_from_first cd_held_from_first ct_held_from_first),sl_held_from_first⟩) (Wq:PySem.W.codeIn K cd_held_from_first "held_from_first"=true) (Vn:PySem.W.keepIn K (.ref Vq)=true)
  (Zdw:PySem.W.nsIn K mainGlobals "ahead_of"=some (some (.ref Zdj))) (ZcV:K.lookup Zdj=some ⟨oc_ahead_of,od_ahead_of,.func (PySem.W.fnOf "ahead_of" "ahead_of" (Zw J6) (Zv J6) (Zh J6) .none kV_ahead_of dc_ahead_of WU an_ahead_of cd_ahead_of ct_ahead_of),sl_ahead_of⟩) (Q9:PySem.W.codeIn K cd_ahead_of "ahead_of"=true) (Zdb:PySem.W.keepIn K (.ref Zdj)=true)
  (Uo:PySem.W.nsIn K mainGlobals "common_divisor"=some (some (.ref Uh))) (VX:K.lookup Uh=some ⟨oc_common_divisor,od_common_divisor,.func (PySem.W.fnOf "common_divisor" "common_divisor" (Zw Yk) (Zv Yk) (Zh Yk) .none kV_common_divisor dc_common_divisor ZW an_common_divisor cd_common_divisor ct_common_divisor),sl_common_divisor⟩) (WF:PySem.W.codeIn K cd_common_divisor "common_divisor"=true) (Ub:PySem.W.keepIn K (.ref Uh)=true)
  (Zbj:PySem.W.nsIn K mainGlobals "count_kept"=some (some (.ref Zbd))) (ZaT:K.lookup Zbd=some ⟨oc_count_kept,od_count_kept,.func (PySem.W.fnOf "count_kept" "count_kept" (Zw Wv) (Zv Wv) (Zh Wv) .none kV_count_kept dc_count_kept Ys an_count_kept cd_count_kept ct_count_kept),sl_count_kept⟩) (VM:PySem.W.codeIn K cd_count_kept "count_kept"=true) (ZaX:PySem.W.keepIn K (.ref Zbd)=true)
  (Zay:PySem.W.nsIn K mainGlobals "round_count"=some (some (.ref Zak))) (QT:K.lookup Zak=some ⟨oc_round_count,od_round_count,.func (PySem.W.fnOf "round_count" "round_count" (Zw YU) (Zv YU) (Zh YU) .none kV_round_count dc_round_count Yp an_round_count cd_round_count ct_round_count),sl_round_count⟩) (JQ:PySem.W.codeIn K cd_round_count "round_count"=true) (Zaa:PySem.W.keepIn K (.ref Zak)=true)
  (UU:PySem.W.nsIn K mainGlobals "can_be_filled"=some (some (.ref UI))) (U8:K.lookup UI=some ⟨oc_can_be_filled,od_can_be_filled,.func (PySem.W.fnOf "can_be_filled" "can_be_filled" (Zw Yx) (Zv Yx) (Zh Yx) .none kV_can_be_filled dc_can_be_filled ZO an_can_be_filled cd_can_be_filled ct_can_be_filled),sl_can_be_filled⟩) (Je:PySem.W.codeIn K cd_can_be_filled "can_be_filled"=true) (UC:PySem.W.keepIn K (.ref UI)=true)
  (Zaz:PySem.W.nsIn K mainGlobals "made_longer"=some (some (.ref Zal))) (QU:K.lookup Zal=some ⟨oc_made_longer,od_made_longer,.func (PySem.W.fnOf "made_longer" "made_longer" (Zw YV) (Zv YV) (Zh YV) .none kV_made_longer dc_made_longer YH an_made_longer cd_made_longer ct_made_longer),sl_made_longer⟩) (JR:PySem.W.codeIn K cd_made_longer "made_longer"=true) (Zab:PySem.W.keepIn K (.ref Zal)=true)
  (Za1:PySem.W.nsIn K mainGlobals "least_turns"=some (some (.ref Zan))) (QW:K.lookup Zan=some ⟨oc_least_turns,od_least_turns,.func (PySem.W.fnOf "least_turns" "least_turns" (Zw YX) (Zv YX) (Zh YX) .none kV_least_turns dc_least_turns ZZ an_least_turns cd_least_turns ct_least_turns),sl_least_turns⟩) (JT:PySem.W.codeIn K cd_least_turns "least_turns"=true) (Zad:PySem.W.keepIn K (.ref Zan)=true)
  (Zdt:PySem.W.nsIn K mainGlobals "round_at"=some (some (.ref Zdg))) (ZcS:K.lookup Zdg=some ⟨oc_round_at,od_round_at,.func (PySem.W.fnOf "round_at" "round_at" (Zw J3) (Zv J3) (Zh J3) .none kV_round_at dc_round_at W8 an_round_at cd_round_at ct_round_at),sl_round_at⟩) (Q6:PySem.W.codeIn K cd_round_at "round_at"=true) (ZcY:PySem.W.keepIn K (.ref Zdg)=true)
  (Qv:PySem.W.nsIn K mainGlobals "most_marches"=some (some (.ref Qp))) (Qi:K.lookup Qp=some ⟨oc_most_marches,od_most_marches,.func (PySem.W.fnOf "most_marches" "most_marches" (Zw YD) (Zv YD) (Zh YD) .none kV_most_marches dc_most_marches Ya an_most_marches cd_most_marches ct_most_marches),sl_most_marches⟩) (Jt:PySem.W.codeIn K cd_most_marches "most_marches"=true) (Ql:PySem.W.keepIn K (.ref Qp)=true)
  (Za0:PySem.W.nsIn K mainGlobals "line_behind"=some (some (.ref Zam))) (QV:K.lookup Zam=some ⟨oc_line_behind,od_line_behind,.func (PySem.W.fnOf "line_behind" "line_behind" (Zw YW) (Zv YW) (Zh YW) .none kV_line_behind dc_line_behind Yq an_line_behind cd_line_behind ct_line_behind),sl_line_behind⟩) (JS:PySem.W.codeIn K cd_line_behind "line_behind"=true) (Zac:PySem.W.keepIn K (.ref Zam)=true)
  (Zdv:PySem.W.nsIn K mainGlobals "comes_to"=some (some (.ref Zdi))) (ZcU:K.lookup Zdi=some ⟨oc_comes_to,od_comes_to,.func (PySem.W.fnOf "comes_to" "comes_to" (Zw J5) (Zv J5) (Zh J5) .none kV_comes_to dc_comes_to WT an_comes_to cd_comes_to ct_comes_to),sl_comes_to⟩) (Q8:PySem.W.codeIn K cd_comes_to "comes_to"=true) (Zda:PySem.W.keepIn K (.ref Zdi)=true)
  (Zbl:PySem.W.nsIn K mainGlobals "_law_large"=some (some (.ref Zbf))) (ZaV:K.lookup Zbf=some ⟨oc__law_large,od__law_large,.func (PySem.W.fnOf "_law_large" "_law_large" (Zw Wx) (Zv Wx) (Zh Wx) .none kV__law_large dc__law_large Wd an__law_large cd__law_large ct__law_large),sl__law_large⟩) (VO:PySem.W.codeIn K cd__law_large "_law_large"=true) (ZaZ:PySem.W.keepIn K (.ref Zbf)=true)
  (ZpL:PySem.W.nsIn K mainGlobals "law"=some (some (.ref Zpq))) (Zph:K.lookup Zpq=some ⟨oc_law,od_law,.func (PySem.W.fnOf "law" "law" (Zw Zha) (Zv Zha) (Zh Zha) .none kV_law dc_law Zci an_law cd_law ct_law),sl_law⟩) (ZnI:PySem.W.codeIn K cd_law "law"=true) (Zpj:PySem.W.keepIn K (.ref Zpq)=true)
  {t_MOST_LINE_PITS:Tok} (a_MOST_LINE_PITS:PySem.W.nsIn K mainGlobals "MOST_LINE_PITS"=some (some (.int 100 t_MOST_LINE_PITS)))
  {t_MOST_LINE_SEEDS:Tok} (a_MOST_LINE_SEEDS:PySem.W.nsIn K mainGlobals "MOST_LINE_SEEDS"=some (some (.int 100 t_MOST_LINE_SEEDS)))
  {t_MOST_ROUND_SEEDS:Tok} (a_MOST_ROUND_SEEDS:PySem.W.nsIn K mainGlobals "MOST_ROUND_SEEDS"=some (some (.int 150 t_MOST_ROUND_SEEDS)))
  {t_MOST_ROW_SEEDS:Tok} (a_MOST_ROW_SEEDS:PySem.W.nsIn K mainGlobals "MOST_ROW_SEEDS"=some (some (.int 2000 t_MOST_ROW_SEEDS)))
  (z_all:PySem.W.nsIn K mainGlobals "all"=some none)
  (z_bool:PySem.W.nsIn K mainGlobals "bool"=some none)
  (z_enumerate:PySem.W.nsIn K mainGlobals "enumerate"=some none)
  (z_int:PySem.W.nsIn K mainGlobals "int"=some none)
  (z_isinstance:PySem.W.nsIn K mainGlobals "isinstance"=some none)
  (z_len:PySem.W.nsIn K mainGlobals "len"=some none)
  (z_list:PySem.W.nsIn K mainGlobals "list"=some none)
  (z_min:PySem.W.nsIn K mainGlobals "min"=some none)
  (z_range:PySem.W.nsIn K mainGlobals "range"=some none)
  (z_sorted:PySem.W.nsIn K mainGlobals "sorted"=some none)
  (z_sum:PySem.W.nsIn K mainGlobals "sum"=some none)
  (x_tab:Zsn K XN XS=true) (x_exc:Zo1 K XR=true)
  :Txt K mg:=by
 refine⟨?_, ?_, ?_, ?_, ?_, ?_, ?_, ?_, ?_, ?_, ?_, ?_, ?_, ?_, ?_, ?_, ?_, ?_, ?_, ?_, ?_, ?_, ?_, ?_, ?_, ?_, ?_, ?_, ?_, ?_, ?_, ?_, ?_, ?_, ?_, ?_, ?_, ?_, ?_, ?_, ?_, ?_, ?_, ?_, ?_, ?_, ?_, ?_, ?_, ?_, ?_, ?_, ?_, ?_, ?_, ?_,x_tab,x_exc,fun n C e=>PySem.W.mg_of X G e⟩
 ·exact⟨_,_,ZX (st:=YF) Qk Ju Qn,PySem.W.mg_of X G Qx⟩
 ·exact⟨_,_,ZX (st:=ZS) Vl Wr Vo,PySem.W.mg_of X G Vw⟩
 ·exact⟨_,_,ZX (st:=Yw) U7 YK UB,PySem.W.mg_of X G UT⟩
 ·exact⟨_,_,ZX (st:=Wa) QZ Jm Zag,PySem.W.mg_of X G Za4⟩
 ·exact⟨_,_,ZX (st:=J4) ZcT Q7 ZcZ,PySem.W.mg_of X G Zdu⟩
 ·exact⟨_,_,ZX (st:=Yv) U6 Wp UA,PySem.W.mg_of X G US⟩
 ·exact⟨_,_,ZX (st:=Z7) WX ZY WY,PySem.W.mg_of X G Jf⟩
 ·exact⟨_,_,ZX (st:=Z2) WK ZM WL,PySem.W.mg_of X G WN⟩
 ·exact⟨_,_,ZX (st:=J1) ZcR Jl ZcX,PySem.W.mg_of X G Zds⟩
 ·exact⟨_,_,ZX (st:=YE) Qj Wk Qm,PySem.W.mg_of X G Qw⟩
 ·exact⟨_,_,ZX (st:=V9) Ze1 VJ Ze4,PySem.W.mg_of X G Zfb⟩
 ·exact⟨_,_,ZX (st:=Yj) VW YT Ua,PySem.W.mg_of X G Um⟩
 ·exact⟨_,_,ZX (st:=Ww) ZaU We ZaY,PySem.W.mg_of X G Zbk⟩
 ·exact⟨_,_,ZX (st:=YY) QX JU Zae,PySem.W.mg_of X G Za2⟩
 ·exact⟨_,_,ZX (st:=VB) Ze3 VN Ze6,PySem.W.mg_of X G Zfd⟩
 ·exact⟨_,_,ZX (st:=Yu) U5 Jd U9,PySem.W.mg_of X G UR⟩
 ·exact⟨_,_,ZX (st:=ZaM) Zit ZbX Zix,PySem.W.mg_of X G ZiJ⟩
 ·exact⟨_,_,ZX (st:=VA) Ze2 Zbh Ze5,PySem.W.mg_of X G Zfc⟩
 ·exact⟨_,_,ZX (st:=Yg) VU YR VY,PySem.W.mg_of X G Uk⟩
 ·exact⟨_,_,ZX (st:=Yi) VV YS VZ,PySem.W.mg_of X G Ul⟩
 ·exact⟨_,_,ZX (st:=ZT) Vm Ws Vp,PySem.W.mg_of X G Vx⟩
 ·exact⟨_,_,ZX (st:=YZ) QY YA Zaf,PySem.W.mg_of X G Za3⟩
 ·exact⟨_,_,ZX (st:=WS) ZbJ Jc ZbM,PySem.W.mg_of X G Zcb⟩
 ·exact⟨_,_,ZX (st:=J7) ZcW JC Zdc,PySem.W.mg_of X G Zdx⟩
 ·exact⟨_,_,ZX (st:=WR) ZbI UO ZbL,PySem.W.mg_of X G Zca⟩
 ·exact⟨_,_,ZX (st:=UY) Zgs Zc1 Zgt,PySem.W.mg_of X G ZgI⟩
 ·exact⟨_,_,ZX (st:=Wu) ZaS VL ZaW,PySem.W.mg_of X G Zbi⟩
 ·exact⟨_,_,ZX (st:=ZR) Vk Wq Vn,PySem.W.mg_of X G Vv⟩
 ·exact⟨_,_,ZX (st:=J6) ZcV Q9 Zdb,PySem.W.mg_of X G Zdw⟩
 ·exact⟨_,_,ZX (st:=Yk) VX WF Ub,PySem.W.mg_of X G Uo⟩
 ·exact⟨_,_,ZX (st:=Wv) ZaT VM ZaX,PySem.W.mg_of X G Zbj⟩
 ·exact⟨_,_,ZX (st:=YU) QT JQ Zaa,PySem.W.mg_of X G Zay⟩
 ·exact⟨_,_,ZX (st:=Yx) U8 Je UC,PySem.W.mg_of X G UU⟩
 ·exact⟨_,_,ZX (st:=YV) QU JR Zab,PySem.W.mg_of X G Zaz⟩
 ·exact⟨_,_,ZX (st:=YX) QW JT Zad,PySem.W.mg_of X G Za1⟩
 ·exact⟨_,_,ZX (st:=J3) ZcS Q6 ZcY,PySem.W.mg_of X G Zdt⟩
 ·exact⟨_,_,ZX (st:=YD) Qi Jt Ql,PySem.W.mg_of X G Qv⟩
 ·exact⟨_,_,ZX (st:=YW) QV JS Zac,PySem.W.mg_of X G Za0⟩
 ·exact⟨_,_,ZX (st:=J5) ZcU Q8 Zda,PySem.W.mg_of X G Zdv⟩
 ·exact⟨_,_,ZX (st:=Wx) ZaV VO ZaZ,PySem.W.mg_of X G Zbl⟩
 ·exact⟨_,_,ZX (st:=Zha) Zph ZnI Zpj,PySem.W.mg_of X G ZpL⟩
 ·exact⟨_,PySem.W.mg_of X G a_MOST_LINE_PITS⟩
 ·exact⟨_,PySem.W.mg_of X G a_MOST_LINE_SEEDS⟩
 ·exact⟨_,PySem.W.mg_of X G a_MOST_ROUND_SEEDS⟩
 ·exact⟨_,PySem.W.mg_of X G a_MOST_ROW_SEEDS⟩
 ·exact PySem.W.mg_none_of X G z_all
 ·exact PySem.W.mg_none_of X G z_bool
 ·exact PySem.W.mg_none_of X G z_enumerate
 ·exact PySem.W.mg_none_of X G z_int
 ·exact PySem.W.mg_none_of X G z_isinstance
 ·exact PySem.W.mg_none_of X G z_len
 ·exact PySem.W.mg_none_of X G z_list
 ·exact PySem.W.mg_none_of X G z_min
 ·exact PySem.W.mg_none_of X G z_range
 ·exact PySem.W.mg_none_of X G z_sorted
 ·exact PySem.W.mg_none_of X G z_sum
end My
namespace PySem.W.Fast
def tw11650363749108701184:=()
def tw11238215900101873696:=()
def tw10816627366582367264:=()
def tw4330005635245690976:=()
def tw18174183590646286464:=()
def tw1117971275601964192:=()
def tw293180781913054592:=()
def tw5714697583612226016:=()
def tw3310592359273470496:=()
def tw13379352729052509760:=()
def tw17524688969444921152:=()
def tw3829631842636612609:=()
def tw10390458538898402785:=()
def tw6275107432288876193:=()
def tw17368298560421378017:=()
def tw12788169260269596674:=()
def tw15827159244636596610:=()
def tw9021273270932518274:=()
def tw12690569160513817090:=()
def tw16451182521925878370:=()
def tw1399679981530894082:=()
def tw9140253259400458050:=()
def tw2897849234945118211:=()
def tw12728022032684352643:=()
def tw13772324961545331171:=()
def tw18428161037366656611:=()
def tw2826598100256222947:=()
def tw4381789475944015619:=()
def tw14630516165194268515:=()
def tw10088611029068634019:=()
def tw12357966306185419780:=()
def tw7726306155194756100:=()
def tw3806646773488197732:=()
def tw7783243739463398532:=()
def tw12156980462687760548:=()
def tw6261181873072492740:=()
def tw12991442896858939652:=()
def tw377687500514681124:=()
def tw17438383468241874212:=()
def tw4622657613582055876:=()
def tw3168844612427863556:=()
def tw17035924061985461796:=()
def tw2814055658174988964:=()
def tw5379629326521618180:=()
def tw9983951685101886340:=()
def tw17105234109804012484:=()
def tw14041440728616949797:=()
def tw16856008945541029957:=()
def tw6356161657856558181:=()
def tw2215949848193276005:=()
def tw12488598426713391269:=()
def tw15544855097934482597:=()
def tw8120871945894161573:=()
def tw58811045894955237:=()
def tw11321182179986094309:=()
def tw17851821895734138117:=()
def tw3091532030159895941:=()
def tw12193174012735541701:=()
def tw2138626746632387173:=()
def tw14346576082235157125:=()
def tw935630339502377605:=()
def tw8267016450501866181:=()
def tw1735809843723335397:=()
def tw9942589115328261:=()
def tw17708585904665727941:=()
def tw18107959268199680965:=()
def tw15008211828251670469:=()
def tw8846751551895658469:=()
def tw17744315042803602405:=()
def tw810920858246470790:=()
def tw7208283759227156838:=()
def tw4393624684744312198:=()
def tw4557533587486984710:=()
def tw13219675115130593958:=()
def tw12323472745123318470:=()
def tw5258914312731695974:=()
def tw16799186888469478439:=()
def tw4003337826254970951:=()
def tw13004830059639786663:=()
def tw17183523821200260327:=()
def tw5467346596084712743:=()
def tw5258285648954875239:=()
def tw17531356646390260103:=()
def tw751644313901852039:=()
def tw14550015190945139143:=()
def tw16114093163866320327:=()
def tw15908697470208781223:=()
def tw16932593109850630087:=()
def tw9347516255337836648:=()
def tw12440271914090647848:=()
def tw14877280522950026792:=()
def tw1385690761396203208:=()
def tw15637192393964629864:=()
def tw1342862169948893064:=()
def tw5856525854607102920:=()
def tw8851237675408296169:=()
def tw614905169072397609:=()
def tw3815773127423812969:=()
def tw4050051860586156937:=()
def tw15512791304035464169:=()
def tw5710986646075411498:=()
def tw654571885602042954:=()
def tw16770348113065675914:=()
def tw10428640196860929162:=()
def tw16936990617066782250:=()
def tw15872049846122877610:=()
def tw3528079197186623178:=()
def tw3611002125827117962:=()
def tw3282496655806028778:=()
def tw8877642525638615243:=()
def tw11573207425537218059:=()
def tw2299159826013472491:=()
def tw6295412154416810859:=()
def tw14826225948659846220:=()
def tw16950973858544043180:=()
def tw7009020309896026380:=()
def tw12295824773067332940:=()
def tw140993048728723820:=()
def tw10732917451818151340:=()
def tw9541737282463064588:=()
def tw8716248232828439244:=()
def tw17874420106376777484:=()
def tw18062147565084147660:=()
def tw18135228266522038252:=()
def tw3960705077235359757:=()
def tw617391327493600269:=()
def tw13211066055480618189:=()
def tw2950724768627715373:=()
def tw4945459029158784365:=()
def tw643454152360927629:=()
def tw8704817514320630253:=()
def tw15384077340257854061:=()
def tw10934647960012897101:=()
def tw1337455648726018893:=()
def tw1743338122239662158:=()
def tw6916042972163118254:=()
def tw12388844573947108622:=()
def tw16659751760421778734:=()
def tw11644856462088226254:=()
def tw6069590340506147310:=()
def tw18401788041447009806:=()
def tw7785254572586405550:=()
def tw13748491634426675982:=()
def tw10707375543657826094:=()
def tw2777664070134694734:=()
def tw11541594759583234958:=()
def tw6320073253131341774:=()
def tw9536935898560810255:=()
def tw4650320085093815887:=()
def tw13936521780445397647:=()
def tw11930032671992251375:=()
def tw4990311109297727504:=()
def tw3907117662971147312:=()
def tw4963523913462216752:=()
def tw6270788658699514320:=()
def tw5691114881610902096:=()
def tw973694172375467664:=()
def tw4635216991708374704:=()
def tw10969899130841863888:=()
def tw6325482813075902192:=()
def tw13387191131698706192:=()
def tw7508211856973153168:=()
def tw10264470725362709456:=()
def tw10986985571070071792:=()
def tw9903160184925022641:=()
def tw17845679430543729105:=()
def tw10778430022302843409:=()
def tw3682534964765773649:=()
def tw6600578587770419025:=()
def tw14224902754083858321:=()
def tw5720058310183131025:=()
def tw15785874939954537393:=()
def tw7326163908293711090:=()
def tw15793970972072057138:=()
def tw278043908495538578:=()
def tw4173658461122792978:=()
def tw15562338836125332050:=()
def tw14019542708926465650:=()
def tw10947702234444556914:=()
def tw17053173587089449714:=()
def tw2962585573367055154:=()
def tw17569341504040739698:=()
def tw14590467026388964563:=()
def tw449211244652513555:=()
def tw13055593804236952915:=()
def tw5974295598566272371:=()
def tw1066891243998127571:=()
def tw6020571358140076563:=()
def tw2062689332813297235:=()
def tw11702603787764545139:=()
def tw3922151617341571731:=()
def tw1705067677432530643:=()
def tw10292816977102395123:=()
def tw14820944557073806099:=()
def tw11622722691324277587:=()
def tw3053985066747836532:=()
def tw17037489505226086612:=()
def tw9196165335643868436:=()
def tw11301219154401599892:=()
def tw5545470241156310452:=()
def tw2966306944037644756:=()
def tw12904744017874049524:=()
def tw15637731674374416948:=()
def tw4015939500425556596:=()
def tw7803344948832847508:=()
def tw9190105038629059893:=()
def tw17330105142963416469:=()
def tw10889940192203604469:=()
def tw4705699826631094837:=()
def tw15239471592972141301:=()
def tw6889189500657177846:=()
def tw18288178670187021686:=()
def tw7956542719086327478:=()
def tw14853635278313333558:=()
def tw3711909595811744598:=()
def tw12243678756240018326:=()
def tw1534006836865709014:=()
def tw14301014542491375799:=()
def tw782518404350331063:=()
def tw7504791839319556439:=()
def tw8904496224354752951:=()
def tw18379577973693796887:=()
def tw12615858690577563159:=()
def tw1271003562345362071:=()
def tw13925168637864466231:=()
def tw17209031011176594456:=()
def tw9644594201329392952:=()
def tw13214580386593267096:=()
def tw14066002956243205528:=()
def tw10490601957078759896:=()
def tw16624581388666553848:=()
def tw16680191050364664408:=()
def tw12795342585266907832:=()
def tw5274603222955646744:=()
def tw3247966910794885048:=()
def tw1972026250222572472:=()
def tw13000232193027564569:=()
def tw13195950299885013113:=()
def tw6945073544764006585:=()
def tw14064765405507286265:=()
def tw7439100860431804665:=()
def tw2583820021012920569:=()
def tw5826319806875897209:=()
def tw14397029369262730649:=()
def tw3736823766525039065:=()
def tw8580708106203959929:=()
def tw5914178554041354873:=()
def tw4365655893331203705:=()
def tw13436407352540342073:=()
def tw18118082265580308441:=()
def tw1935620737699579034:=()
def tw11422039842230848826:=()
def tw727376574314099386:=()
def tw17611161714924034970:=()
def tw11717957455865426874:=()
def tw10223421898800589915:=()
def tw4402615770229835931:=()
def tw9221426814465062075:=()
def tw15753496363814963515:=()
def tw16948170021880085979:=()
def tw3601109681622342139:=()
def tw10228410103598795451:=()
def tw12512026677934095035:=()
def tw4039553149600241371:=()
def tw17539461824268515131:=()
def tw9179086355456237531:=()
def tw4759807816490044411:=()
def tw5755408739783641083:=()
def tw16995912247264115772:=()
def tw17205752473745239228:=()
def tw16279470425531890972:=()
def tw6217674599198346588:=()
def tw2687776280079538588:=()
def tw17040009075133407900:=()
def tw10332413351874172700:=()
def tw9473247506749512476:=()
def tw3246711409237190524:=()
def tw12042188724348271516:=()
def tw13927640973951338492:=()
def tw16320221773856516221:=()
def tw2483010956165072029:=()
def tw10279341351692909821:=()
def tw6469153471608004925:=()
def tw10019873316801757661:=()
def tw601194865177729597:=()
def tw13218501989806575261:=()
def tw10430789591315673917:=()
def tw5310657931860040541:=()
def tw17240949815835545533:=()
def tw13493987493400891357:=()
def tw11454061625113845982:=()
def tw17517993839551604414:=()
def tw16208634501289155390:=()
def tw17084691452464423934:=()
def tw9394373648524262495:=()
def tw4239254152576427135:=()
def tw18372388202181894367:=()
def tw5850437206722594335:=()
def tw13051246241353106047:=()
def tw16650491695975534495:=()
def tw2194424148636710992:=()
def tw2303074975256850485:=()
def tw12541721429640896614:=()
def tw303617029720653729:=()
def tw12173448833375052709:=()
def tw3021821713675560844:=()
def tw12471692398096551469:=()
def tw7545201714989762412:=()
def tw8686027612428026766:=()
end PySem.W.Fast
open PySem PySem.W PyProof.Rows
set_option maxRecDepth 100000 in
set_option maxHeartbeats 0 in
theorem PySem.Challenge.cw_sowring_k45_whole_rows_march_in_rounds_holds : PySem.Challenge.rw_sowring_k45_whole_rows_march_in_rounds.Holds := by
 w_on;o_law;k_head;(case hw=>w_witness2)
 k_fill
 refine L2.ZmC (l:=PySem.Challenge.rw_sowring_k45_whole_rows_march_in_rounds) (n:=63) (k:=7) (x := "script") (CX:=L2.CX0) (sp:=My.ZkR) rfl (by decide) rfl ⟨rfl,by decide,by decide⟩ (fun w h Y=>by first|exact PySem.W.kIn_of Y|exact PySem.W.km_in_of Y) ?F ?S ?C
 case F =>
  intro w mg fa h KX G hmg
  have T:My.Txt (L2.KOf KX) mg:=by
   dsimp only[L2.KOf]
   refine' My.ZpZ KX G ?Qx ?Qk ?Ju ?Qn ?Vw ?Vl ?Wr ?Vo ?UT ?U7 ?YK ?UB ?Za4 ?QZ ?Jm ?Zag ?Zdu ?ZcT ?Q7 ?ZcZ ?US ?U6 ?Wp ?UA ?Jf ?WX ?ZY ?WY ?WN ?WK ?ZM ?WL ?Zds ?ZcR ?Jl ?ZcX ?Qw ?Qj ?Wk ?Qm ?Zfb ?Ze1 ?VJ ?Ze4 ?Um ?VW ?YT ?Ua ?Zbk ?ZaU ?We ?ZaY ?Za2 ?QX ?JU ?Zae ?Zfd ?Ze3 ?VN ?Ze6 ?UR ?U5 ?Jd ?U9 ?ZiJ ?Zit ?ZbX ?Zix ?Zfc ?Ze2 ?Zbh ?Ze5 ?Uk ?VU ?YR ?VY ?Ul ?VV ?YS ?VZ ?Vx ?Vm ?Ws ?Vp ?Za3 ?QY ?YA ?Zaf ?Zcb ?ZbJ ?Jc ?ZbM ?Zdx ?ZcW ?JC ?Zdc ?Zca ?ZbI ?UO ?ZbL ?ZgI ?Zgs ?Zc1 ?Zgt ?Zbi ?ZaS ?VL ?ZaW ?Vv ?Vk ?Wq ?Vn ?Zdw ?ZcV ?Q9 ?Zdb ?Uo ?VX ?WF ?Ub ?Zbj ?ZaT ?VM ?ZaX ?Zay ?QT ?JQ ?Zaa ?UU ?U8 ?Je ?UC ?Zaz ?QU ?JR ?Zab ?Za1 ?QW ?JT ?Zad ?Zdt ?ZcS ?Q6 ?ZcY ?Qv ?Qi ?Jt ?Ql ?Za0 ?QV ?JS ?Zac ?Zdv ?ZcU ?Q8 ?Zda ?Zbl ?ZaV ?VO ?ZaZ ?ZpL ?Zph ?ZnI ?Zpj ?a_MOST_LINE_PITS ?a_MOST_LINE_SEEDS ?a_MOST_ROUND_SEEDS ?a_MOST_ROW_SEEDS ?z_all ?z_bool ?z_enumerate ?z_int ?z_isinstance ?z_len ?z_list ?z_min ?z_range ?z_sorted ?z_sum ?x_tab ?x_exc
   (case Qx=>k_is)
   (case Qk=>k_is)
   (case Ju=>k_is)
   (case Qn=>k_is)
   (case Vw=>k_is)
   (case Vl=>k_is)
   (case Wr=>k_is)
   (case Vo=>k_is)
   (case UT=>k_is)
   (case U7=>k_is)
   (case YK=>k_is)
   (case UB=>k_is)
   (case Za4=>k_is)
   (case QZ=>k_is)
   (case Jm=>k_is)
   (case Zag=>k_is)
   (case Zdu=>k_is)
   (case ZcT=>k_is)
   (case Q7=>k_is)
   (case ZcZ=>k_is)
   (case US=>k_is)
   (case U6=>k_is)
   (case Wp=>k_is)
   (case UA=>k_is)
   (case Jf=>k_is)
   (case WX=>k_is)
   (case ZY=>k_is)
   (case WY=>k_is)
   (case WN=>k_is)
   (case WK=>k_is)
   (case ZM=>k_is)
   (case WL=>k_is)
   (case Zds=>k_is)
   (case ZcR=>k_is)
   (case Jl=>k_is)
   (case ZcX=>k_is)
   (case Qw=>k_is)
   (case Qj=>k_is)
   (case Wk=>k_is)
   (case Qm=>k_is)
   (case Zfb=>k_is)
   (case Ze1=>k_is)
   (case VJ=>k_is)
   (case Ze4=>k_is)
   (case Um=>k_is)
   (case VW=>k_is)
   (case YT=>k_is)
   (case Ua=>k_is)
   (case Zbk=>k_is)
   (case ZaU=>k_is)
   (case We=>k_is)
   (case ZaY=>k_is)
   (case Za2=>k_is)
   (case QX=>k_is)
   (case JU=>k_is)
   (case Zae=>k_is)
   (case Zfd=>k_is)
   (case Ze3=>k_is)
   (case VN=>k_is)
   (case Ze6=>k_is)
   (case UR=>k_is)
   (case U5=>k_is)
   (case Jd=>k_is)
   (case U9=>k_is)
   (case ZiJ=>k_is)
   (case Zit=>k_is)
   (case ZbX=>k_is)
   (case Zix=>k_is)
   (case Zfc=>k_is)
   (case Ze2=>k_is)
   (case Zbh=>k_is)
   (case Ze5=>k_is)
   (case Uk=>k_is)
   (case VU=>k_is)
   (case YR=>k_is)
   (case VY=>k_is)
   (case Ul=>k_is)
   (case VV=>k_is)
   (case YS=>k_is)
   (case VZ=>k_is)
   (case Vx=>k_is)
   (case Vm=>k_is)
   (case Ws=>k_is)
   (case Vp=>k_is)
   (case Za3=>k_is)
   (case QY=>k_is)
   (case YA=>k_is)
   (case Zaf=>k_is)
   (case Zcb=>k_is)
   (case ZbJ=>k_is)
   (case Jc=>k_is)
   (case ZbM=>k_is)
   (case Zdx=>k_is)
   (case ZcW=>k_is)
   (case JC=>k_is)
   (case Zdc=>k_is)
   (case Zca=>k_is)
   (case ZbI=>k_is)
   (case UO=>k_is)
   (case ZbL=>k_is)
   (case ZgI=>k_is)
   (case Zgs=>k_is)
   (case Zc1=>k_is)
   (case Zgt=>k_is)
   (case Zbi=>k_is)
   (case ZaS=>k_is)
   (case VL=>k_is)
   (case ZaW=>k_is)
   (case Vv=>k_is)
   (case Vk=>k_is)
   (case Wq=>k_is)
   (case Vn=>k_is)
   (case Zdw=>k_is)
   (case ZcV=>k_is)
   (case Q9=>k_is)
   (case Zdb=>k_is)
   (case Uo=>k_is)
   (case VX=>k_is)
   (case WF=>k_is)
   (case Ub=>k_is)
   (case Zbj=>k_is)
   (case ZaT=>k_is)
   (case VM=>k_is)
   (case ZaX=>k_is)
   (case Zay=>k_is)
   (case QT=>k_is)
   (case JQ=>k_is)
   (case Zaa=>k_is)
   (case UU=>k_is)
   (case U8=>k_is)
   (case Je=>k_is)
   (case UC=>k_is)
   (case Zaz=>k_is)
   (case QU=>k_is)
   (case JR=>k_is)
   (case Zab=>k_is)
   (case Za1=>k_is)
   (case QW=>k_is)
   (case JT=>k_is)
   (case Zad=>k_is)
   (case Zdt=>k_is)
   (case ZcS=>k_is)
   (case Q6=>k_is)
   (case ZcY=>k_is)
   (case Qv=>k_is)
   (case Qi=>k_is)
   (case Jt=>k_is)
   (case Ql=>k_is)
   (case Za0=>k_is)
   (case QV=>k_is)
   (case JS=>k_is)
   (case Zac=>k_is)
   (case Zdv=>k_is)
   (case ZcU=>k_is)
   (case Q8=>k_is)
   (case Zda=>k_is)
   (case Zbl=>k_is)
   (case ZaV=>k_is)
   (case VO=>k_is)
   (case ZaZ=>k_is)
   (case ZpL=>k_is)
   (case Zph=>k_is)
   (case ZnI=>k_is)
   (case Zpj=>k_is)
   (case a_MOST_LINE_PITS=>k_is)
   (case a_MOST_LINE_SEEDS=>k_is)
   (case a_MOST_ROUND_SEEDS=>k_is)
   (case a_MOST_ROW_SEEDS=>k_is)
   (case z_all=>k_is)
   (case z_bool=>k_is)
   (case z_enumerate=>k_is)
   (case z_int=>k_is)
   (case z_isinstance=>k_is)
   (case z_len=>k_is)
   (case z_list=>k_is)
   (case z_min=>k_is)
   (case z_range=>k_is)
   (case z_sorted=>k_is)
   (case z_sum=>k_is)
   (case x_tab=>kernel_rfl)
   (case x_exc=>kernel_rfl)
  exact My.ZqG T hmg
 case S=>exact fun K H a ns hl hO hS=>My.ZlK hl hO hS
 case C=>exact fun _ _ _ _ z=>z

