import PyProof.Rows.All
import Wide.All
import OpenK.AllK
import Wide.FinOn
import Lean
import PyProof.EqAt
import PyProof.EqKinds
import PyProof.TupleCall
import KE.KTryMore
import PyProof.NsDelKeeps
import PyProof.EnumStmt
import KE.KRevIter
import PyProof.ListNew
import KE.KIntText
import PyProof.ListRange
import PyProof.Rows.Range3
import PyProof.Rows.TupDisplay
import KE.KSortTup
import PyProof.Rows.SortRuns
import KE.KSortKey
import KE.KLam
import PyProof.DictWalks
import PyProof.DictTruth
import PyProof.StrBlock2
import PyProof.ExcInit
import PyProof.ExcClass2
import PySem.Challenge.RW_sowring_k29_who_wins
open List renaming getD_eq_getElem?_getD->ZsS,getElem?_eq_getElem->ZsT,getElem?_eq_some_iff->ZsU,length_map->ZsV,mem_of_getElem?->ZsW,mem_append_right->ZsY,getElem?_map->ZsZ,mem_append->Zta,mem_append_left->Ztb,size_toArray->Ztc,map_cons->Zte,append_assoc->Ztf,getElem?_append_right->Zth,mem_cons->Zti,mem_singleton->Ztj,getElem?_append_left->Ztl,mem_map->Ztm,pairwise_append->Ztn,drop_eq_getElem_cons->Ztq,take_append_drop->Zts,getElem?_eq_none->Ztt,length_take->Ztu,length_append->Ztv,length_cons->Ztw,getElem?_set_self->Ztx,mem_range->Zty,mem_cons_of_mem->Ztz,getElem?_of_mem->Zt0,map_map->Zt2,getElem?_take->Zt3,getElem?_drop->Zt5,getElem?_set_ne->Zt7,map_append->Zt8,mem_filter->ZtA,take_of_length_le->ZtC,mem_of_mem_take->ZtD,mem_of_mem_drop->ZtE,all_eq_true->ZtF,mem_cons_self->ZtG,length_filter_le->ZtH,getElem?_eq_none_iff->ZtI,extract_eq_take_drop->ZtJ,map_congr_left->ZtK,ext_getElem?->ZtL,drop_of_length_le->ZtN,getElem?_range->ZtO,lookup_cons->ZtP,nodup_iff_pairwise_ne->ZtQ,pairwise_iff_getElem->ZtR,getElem?_zip_eq_some->ZtS,replicate_succ->ZtT,pairwise_map->ZtU,nodup_cons->ZtW,pairwise_cons->ZtY,append_nil->Zua,length_zip->Zub,perm_append_comm->Zuc,filter_append->Zud,getElem_mem->Zue,getElem?_cons_zero->Zug,nil_append->Zuh,length_drop->Zui,take_length->Zuj,getElem?_take_of_lt->Zup,length_set->Zuq,flatten_cons->Zur,range_succ->Zus,getElem?_cons_succ->Zut,cons_append->Zuv,map_nil->Zux,contains_iff_mem->Zuy,singleton_append->Zuz,find?_cons->Zu0,any_cons->Zu1,sum_cons->Zu2,exists_cons_of_ne_nil->Zu4,getLastD_concat->Zu5,drop_zero->Zu6,getElem?_replicate->ZuC,zip_cons_cons->ZuD,pairwise_singleton->ZuG,find?_eq_none->ZuH,drop_eq_nil_of_le->ZuI,eraseIdxIfInBounds_toArray->ZuJ,nodup_append->ZuM,length_range->ZuN,length_replicate->ZuP,length_singleton->ZuQ,set_append_right->ZuR,getElem?_replicate_of_lt->ZuS,getElem?_mapIdx->ZuU,filterMap_cons->ZuW,length_nil->ZuZ,mem_map_of_mem->Zvc,take_succ->Zvg,take_sublist->Zvh,foldl_append->Zvj,mem_reverse->Zvl,any_eq_true->Zvm,ext_getElem->Zvn,not_mem_nil->Zvo,of_mem_zip->Zvp,foldl_cons->Zvq
open Nat renaming le_refl->ZsX,lt_of_lt_of_le->Zto,le_trans->Ztr,ne_of_lt->Zt1,zero_le->ZtB,lt_irrefl->ZtV,lt_of_le_of_lt->ZtX,zero_add->Zul,lt_succ_self->Zu7,le_succ->ZuA,le_of_lt->ZuB,lt_succ_of_lt->ZuK,ne_of_gt->ZuO,pow_le_pow_right->ZuT,pow_lt_pow_right->ZuV,min_le_left->ZuY,pow_le_pow_left->Zvb,le_of_eq->Zve,min_self->Zvr,not_lt->Zvs
open Int renaming emod_lt_of_pos->Ztg,emod_nonneg->Ztp,toNat_natCast->Zt4,toNat_of_nonneg->Zt6,emod_eq_of_lt->Zt9,ediv_emod_unique->Zuf,mul_ediv_add_emod->Zuk,zero_add->Zum,add_emod_right->ZuE,mul_one->ZuX,le_refl->Zva
open Array renaming length_toList->Ztd,getElem?_toList->Ztk,getElem?_eq_getElem->Zun,toList_extract->Zuo,toList_append->Zuu,getElem?_eq_none->Zuw,perm_iff_toList_perm->Zu3,toList_inj->Zu8,toList_map->Zu9,toList_push->ZuL,toList_setIfInBounds->Zvd,append_assoc->Zvf
open Option renaming map_eq_some_iff->ZtM,getD_some->ZtZ,map_some->ZuF,isSome_map->Zvi,toList->Zvk
set_option Elab.async false
set_option genSizeOf false
set_option genSizeOfSpec false
set_option linter.all false
set_option maxRecDepth 100000
namespace L2
open PySem PySem.Spec PyProof.Rows
noncomputable abbrev Key:=Sum Int Str
noncomputable def Zeu:Key->Value->Bool
 |.inl k,v=>Value.isInt k v
 |.inr x,v=>Value.isStrOf x v
noncomputable def ZnO(w:World):Key->Int
 |.inl k=>hashInt k
 |.inr x=>hashStr w x
theorem ZX:∀{k:Key}{v:Value},Zeu k v=true->(∃i t,k=Sum.inl i/\v=Value.int i t)\/(∃x t,k=Sum.inr x/\v=Value.str x t)
 |.inl i,v,h=>by
  obtain⟨t,e⟩:=Value.isInt_shape (k:=i) (v:=v) h
  exact .inl ⟨i,t,rfl,e⟩
 |.inr x,v,h=>by
  obtain⟨t,e⟩:=Value.isStrOf_shape (x:=x) (v:=v) h
  exact .inr ⟨x,t,rfl,e⟩
theorem ZfS(i:Int)(t:Tok):Zeu (.inl i) (.int i t)=true:=by simp[Zeu,Value.isInt]
theorem ZfR(x:Str)(t:Tok):Zeu (.inr x) (.str x t)=true:=by simp[Zeu,Value.isStrOf]
theorem ZlF(a b:Int):decide ((Sum.inl a:Key)=Sum.inl b)=(a==b):=by
 by_cases e:a=b
 ·subst e;simp
 ·have h:¬(Sum.inl a:Key)=Sum.inl b:=fun q=>e (Sum.inl.inj q)
  rw[decide_eq_false h]
  exact(beq_eq_false_iff_ne.mpr e).symm
theorem ZlC(a b:Str):decide ((Sum.inr a:Key)=Sum.inr b)=decide (a=b):=by
 by_cases e:a=b
 ·subst e;simp
 ·have h:¬(Sum.inr a:Key)=Sum.inr b:=fun q=>e (Sum.inr.inj q)
  rw[decide_eq_false h,decide_eq_false e]
theorem ZlE(a:Int)(b:Str):decide ((Sum.inl a:Key)=Sum.inr b)=false:=decide_eq_false (fun q=>nomatch q)
theorem ZlD(a:Str)(b:Int):decide ((Sum.inr a:Key)=Sum.inl b)=false:=decide_eq_false (fun q=>nomatch q)
noncomputable def Jq(prog:Program)(w:World):PySem.KeyKind prog w Key where
 is:=Zeu
 hash:=ZnO w
 inj:=fun v a b ha hb=>by
  rcases ZX ha with ⟨i,t,rfl,rfl⟩|⟨x,t,rfl,rfl⟩
  ·rcases ZX hb with ⟨j,u,rfl,e⟩|⟨y,u,rfl,e⟩
   ·injection e with e1 _;rw[e1]
   ·exact nomatch e
  ·rcases ZX hb with ⟨j,u,rfl,e⟩|⟨y,u,rfl,e⟩
   ·exact nomatch e
   ·injection e with e1 _;rw[e1]
 byValue:=fun k v h=>by
  rcases ZX h with ⟨i,t,rfl,rfl⟩|⟨x,t,rfl,rfl⟩<;>rfl
 pyHash:=fun hv h=>by
  rcases ZX hv with ⟨i,t,rfl,rfl⟩|⟨x,t,rfl,rfl⟩
  ·exact wpAny_pyHash_int h
  ·exact wpAny_pyHash_str h
 eqBool:=fun hu hv h=>by
  rcases ZX hu with ⟨i,t,rfl,rfl⟩|⟨x,t,rfl,rfl⟩
  ·rcases ZX hv with ⟨j,u,rfl,rfl⟩|⟨y,u,rfl,rfl⟩
   ·rw[ZlF] at h;exact wpAny_eqBool_int h
   ·rw[ZlE] at h;exact SeqAt.EqAt.int_str i t y u _ _ _ _ h
  ·rcases ZX hv with ⟨j,u,rfl,rfl⟩|⟨y,u,rfl,rfl⟩
   ·rw[ZlD] at h;exact SeqAt.EqAt.str_int x t j u _ _ _ _ h
   ·rw[ZlC] at h;exact wpAny_eqBool_str h
 «strs»:=fun k x t v h=>by
  rcases ZX h with ⟨i,u,rfl,e⟩|⟨y,u,rfl,e⟩
  ·exact nomatch e
  ·injection e with e1 _
   subst e1
   cases v<;>rfl
theorem Zc2(prog:Program)(w:World)(i:Int)(t:Tok):(Jq prog w).is (.inl i) (.int i t)=true:=ZfS i t
theorem Zc1(prog:Program)(w:World)(x:Str)(t:Tok):(Jq prog w).is (.inr x) (.str x t)=true:=ZfR x t
inductive V where
 |non|bl (b:Bool)|int (i:Int)|str (x:Str)|byt (b:Array UInt8)|flt (b:UInt64)|ref (a:Addr)|ty (n:String)
 deriving DecidableEq
noncomputable def Jn:V->Value->Prop
 |.non,u=>u=Value.none
 |.bl b,u=>u=Value.bool b
 |.int i,u=>∃t,u=Value.int i t
 |.str x,u=>∃t,u=Value.str x t
 |.byt b,u=>∃t,u=Value.bytes b t
 |.flt b,u=>∃t,u=Value.float b t
 |.ref a,u=>u=Value.ref a
 |.ty n,u=>u=Value.type n
noncomputable abbrev ZR:List V->List Value->Prop:=Paired Jn
theorem ZR.length{xs:List V}{us:List Value}(r:ZR xs us):xs.length=us.length:=Paired.length r
theorem ZR.get:∀{xs:List V}{us:List Value}{i:Nat}{x:V},ZR xs us->xs[i]?=some x->∃u,us[i]?=some u/\Jn x u
 |_,_,_,_,.nil,e=>by simp at e
 |_,_,0,_,.cons r _,e=>by simp at e;subst e;exact⟨_,rfl,r⟩
 |_,_,i+1,x,.cons _ t,e=>by
  obtain⟨u,h1,h2⟩:=ZR.get (i:=i) (x:=x) t (by simpa using e)
  exact⟨u,by simpa using h1,h2⟩
theorem ZR.set{x:V}{u:Value}(r:Jn x u):∀{xs:List V}{us:List Value} (i:Nat),ZR xs us->ZR (xs.set i x) (us.set i u)
 |_,_,_,.nil=>.nil
 |_,_,0,.cons _ t=>.cons r t
 |_,_,i+1,.cons q t=>.cons q (ZR.set r i t)
theorem ZR.append:∀{xs ys:List V}{us ws:List Value},ZR xs us->ZR ys ws->ZR (xs++ys) (us++ws)
 |_,_,_,_,.nil,s=>s
 |_,_,_,_,.cons r t,s=>.cons r (ZR.append t s)
noncomputable def ZgO:Option V->Option Value->Prop
 |some v,some u=>Jn v u
 |none,none=>True
 |_,_=>False
def KV{κ:Type}:List (κ×V)->List (κ×Value)->Prop:=Paired fun(p:κ×V) (q:κ×Value)=>p.1=q.1/\Jn p.2 q.2
noncomputable def kV:Key->V
 |.inl i=>.int i
 |.inr x=>.str x
inductive HO where
  |lst (xs:List V)
  |tup (xs:List V)
  |dK (kvs:List (Key×V))|dT (kvs:List (List Key×V))
  |set (S:Int->Bool) (n:Nat)
  |ins (C dx:Addr) (fs:List (Str×V))
  |own (x:Addr)
  |xd (fs:List (Str×V))
  |met (f x:Addr)
  |rng (lo hi:Int)
  |frz (o:Obj) (u:HO)
  |tbl (ps:Array Value) (q:Str)
  |ext (φ:Heap->Prop)
noncomputable abbrev Hp:=Addr->Option HO
noncomputable def ZnE:HO->Prop
 |.tup _=>True
 |.frz _ (.own _)=>True
 |_=>False
noncomputable abbrev TF:={ u:HO // ZnE u }
def Zk3(q:Str)(o:Obj):Prop:=∃vs t,o.data=.fields vs/\vs[1]?=some (.str q t)
noncomputable def upd(H:Hp)(a:Addr)(o:HO):Hp:=fun b=>if b=a then some o else H b
theorem Zv{H:Hp}{a:Addr}{o:HO}:upd H a o a=some o:=by unfold upd;rw[if_pos rfl]
theorem Zo{H:Hp}{a b:Addr}{o:HO}(h:b≠a):upd H a o b=H b:=by unfold upd;rw[if_neg h]
theorem ZjR{H:Hp}{a b:Addr}{o u:HO}(h:H a=some o)(h':H b=some u)(d:o≠u):a≠b:=by
 intro e;subst e;rw[h] at h';exact d (Option.some.inj h')
theorem Z8{H:Hp}{a b:Addr}{o:HO}(h:H a=some o)(h':H b=none):a≠b:=by
 intro e;subst e;rw[h] at h';cases h'
section
variable (P:Program) (w:World)
noncomputable def Ju(H:Hp)(h:Heap)(a:Addr):HO->Prop
 |.lst xs=>xs.length<=sizeLine/\∃(its:List Value) (n:Nat),ZR xs its/\h.get? a=some { cls:=.type "list",data:=.seq its.toArray n }
 |.tup xs=>xs.length<=sizeLine/\∃its:List Value,ZR xs its/\IsTup h a its.toArray
 |.dK kvs=>kvs.length<=sizeLine/\(a==sysModules)=false/\∃vs,KV kvs vs/\h.DictOf (Jq P w) a vs
 |.dT kvs=>kvs.length<=sizeLine/\(a==sysModules)=false/\∃xs:List (List Key×Addr×Value),
   Paired (fun(p:List Key×V) (q:List Key×Addr×Value)=>p.1=q.1/\H q.2.1=some (.tup (p.1.map kV))/\Jn p.2 q.2.2) kvs xs /\
   ∃o es ep,h.get? a=some o/\o.ExactDict/\o.data=.dict es ep/\es.toList=xs.map (entryOfKey (tupleKind (Jq P w)))/\(xs.map (·.1)).Nodup
 |.set S n=>h.SetOf (intKind P w) a S n
 |.ins C dx fs=>H dx=some (.own a)/\fs.length<=1000/\dx≠a/\h.get? a=some (PySem.W.instObj C dx) /\
   ∃mA,h.Ns1 dx mA/\(∀f,ZgO (fs.lookup f) (mA f))/\PySem.Within mA (fs.map (·.1))
 |.own _=>∃o,h.get? a=some o
 |.xd fs=>∃mA,h.Ns1 a mA/\∀f,ZgO (fs.lookup f) (mA f)
 |.rng lo hi=>∃t u v,h.get? a=some { cls:=.type "range",data:=.fields #[.int lo t,.int hi u,.int 1 v] }
 |.frz o u=>h.get? a=some o/\Ju H h a u
 |.tbl ps q=>∃more:Array Value,h.get? a=some { cls:=.none,data:=.fields (ps++more) }/\TriplesOk (ps++more).toList/\∀pos c',codeAmong pos (ps++more).toList=some c'->∃c o,c'=.ref c/\H c=some (.frz o (.own c))/\Zk3 q o
 |.met f x=>h.get? a=some (PySem.W.methodObj (.ref f) (.ref x))
 |.ext φ=>φ h/\(∃o,h.get? a=some o)/\∀h1 h2:Heap,φ h1->(∀o,h1.get? a=some o->h2.get? a=some o)->φ h2
def HOk(H:Hp)(h:Heap):Prop:=∀a o,H a=some o->Ju P w H h a o
end
section
variable {P:Program}{w:World}{H H':Hp}{h h':Heap}{a:Addr}{o:HO}
theorem Ju.lt(x:Ju P w H h a o):a<h.objs.size:=by
 cases o with
 |lst xs=>obtain⟨_,_,_,_,e⟩:=x;exact Heap.lt_size e
 |tup xs=>obtain⟨_,_,_,p⟩:=x;exact p.lt
 |dK kvs=>obtain⟨_,_,_,_,o,_,_,e,_⟩:=x;exact Heap.lt_size e
 |dT kvs=>obtain⟨_,_,_,_,o,_,_,e,_⟩:=x;exact Heap.lt_size e
 |set S n=>obtain⟨o,_,_,_,e,_⟩:=x;exact Heap.lt_size e
 |ins C dx fs=>obtain⟨_,_,_,e,_⟩:=x;exact Heap.lt_size e
 |own y=>obtain⟨_,e⟩:=x;exact Heap.lt_size e
 |xd fs=>obtain⟨_,⟨_,_,_,e,_⟩,_⟩:=x;exact Heap.lt_size e
 |rng lo hi=>obtain⟨_,_,_,e⟩:=x;exact Heap.lt_size e
 |frz ob u=>obtain⟨e,_⟩:=x;exact Heap.lt_size e
 |tbl ps q=>obtain⟨_,e,_⟩:=x;exact Heap.lt_size e
 |met f y=>exact Heap.lt_size (show h.get? a=some _ from x)
 |ext φ=>obtain⟨_,⟨_,e⟩,_⟩:=x;exact Heap.lt_size e
theorem Paired.mapP{α β:Type}{F G:α->β->Prop}:∀{l₁:List α}{l₂:List β},Paired F l₁ l₂->(∀a b,F a b->G a b)->Paired G l₁ l₂
 |_,_,.nil,_=>.nil
 |_,_,.cons r t,f=>.cons (f _ _ r) (Paired.mapP t f)
theorem Ju.stay(x:Ju P w H h a o)(k:∀b u,(b=a\/H b=some (.own a))->h.get? b=some u->h'.get? b=some u)(ho:∀b,H b=some (.own a)->H' b=some (.own a))(ht:∀b (xs:TF),H b=some xs.1->H' b=some xs.1):Ju P w H' h' a o:=by
 induction o with
 |lst xs=>obtain⟨z,its,n,r,e⟩:=x;exact⟨z,its,n,r,k _ _ (.inl rfl) e⟩
 |tup xs=>obtain⟨z,its,r,ob,e,c⟩:=x;exact⟨z,its,r,ob,k _ _ (.inl rfl) e,c⟩
 |dK kvs=>obtain⟨z,y,vs,r,ob,es,ep,e,c⟩:=x;exact⟨z,y,vs,r,ob,es,ep,k _ _ (.inl rfl) e,c⟩
 |dT kvs =>
  obtain⟨z,y,xs,r,ob,es,ep,e,c⟩:=x
  exact⟨z,y,xs,Paired.mapP r fun p q z=>⟨z.1,ht _ ⟨.tup _,trivial⟩ z.2.1,z.2.2⟩,ob,es,ep,k _ _ (.inl rfl) e,c⟩
 |set S n=>obtain⟨ob,es,ep,t,e,c⟩:=x;exact⟨ob,es,ep,t,k _ _ (.inl rfl) e,c⟩
 |ins C dx fs =>
  obtain⟨d,z,ne,e,mA,⟨od,es,ep,e2,c⟩,r⟩:=x
  exact⟨ho _ d,z,ne,k _ _ (.inl rfl) e,mA,⟨od,es,ep,k _ _ (.inr d) e2,c⟩,r⟩
 |own y=>obtain⟨ob,e⟩:=x;exact⟨ob,k _ _ (.inl rfl) e⟩
 |xd fs=>obtain⟨mA,⟨od,es,ep,e,c⟩,r⟩:=x;exact⟨mA,⟨od,es,ep,k _ _ (.inl rfl) e,c⟩,r⟩
 |rng lo hi=>obtain⟨t,u,v,e⟩:=x;exact⟨t,u,v,k _ _ (.inl rfl) e⟩
 |frz ob u ih=>obtain⟨e,q⟩:=x;exact⟨k _ _ (.inl rfl) e,ih q⟩
 |tbl ps q =>
  obtain⟨more,e,t,cs⟩:=x
  refine⟨more,k a _ (.inl rfl) e,t,fun pos c' h1=>?_⟩
  obtain⟨c,o2,e1,e2,e3⟩:=cs pos c' h1
  exact⟨c,o2,e1,ht _ ⟨.frz _ (.own _),trivial⟩ e2,e3⟩
 |met f y =>
  have e:h.get? a=some (PySem.W.methodObj (.ref f) (.ref y)):=x
  show h'.get? a=some (PySem.W.methodObj (.ref f) (.ref y))
  exact k a _ (.inl rfl) e
 |ext φ=>obtain⟨p,⟨o,e⟩,st⟩:=x;exact⟨st _ _ p fun o q=>k _ _ (.inl rfl) q,⟨o,k _ _ (.inl rfl) e⟩,st⟩
theorem HOk.lt(x:HOk P w H h)(e:H a=some o):a<h.objs.size:=(x a o e).lt
theorem HOk.fresh(x:HOk P w H h)(e:h.objs.size<=a):H a=none:=by
 cases q:H a with
 |none=>rfl
 |some u=>exact absurd (Zto (x.lt q) e) (ZtV _)
theorem HOk.kept(x:HOk P w H h)(k:∀b u,h.get? b=some u->h'.get? b=some u):HOk P w H h':=fun a o e =>
 (x a o e).stay (fun b u _ q=>k b u q) (fun _ q=>q) fun _ _ q=>q
theorem HOk.laid(x:HOk P w H h)(k:∀b u,h.get? b=some u->h'.get? b=some u)(hp:h.objs.size<=a)(new:Ju P w (upd H a o) h' a o):HOk P w (upd H a o) h':=fun b u e=>by
 have hn:=x.fresh hp
 by_cases hb:b=a
 ·subst hb;rw[Zv] at e;cases e;exact new
 ·rw[Zo hb] at e
  exact(x b u e).stay (fun c v _ q=>k c v q) (fun c q=>by rw[Zo (Z8 q hn)];exact q) fun c xs q=>by rw[Zo (Z8 q hn)];exact q
end
def Rd(H:Hp)(a:Addr)(u:HO):Prop:=H a=some u\/∃o,H a=some (.frz o u)
theorem Rd.ok{P:Program}{w:World}{H:Hp}{h:Heap}{a:Addr}{u:HO}(r:Rd H a u)(x:HOk P w H h):Ju P w H h a u:=by
 rcases r with r|⟨o,r⟩
 ·exact x a u r
 ·obtain⟨_,q⟩:=x a _ r
  exact q
noncomputable def Mut:Option HO->Prop
 |some (.lst _)=>True
 |some (.dK _)=>True
 |some (.dT _)=>True
 |some (.set _ _)=>True
 |some (.ins _ _ _)=>True
 |some (.ext _)=>True
 |_=>False
section
variable {P:Program}{w:World}{H:Hp}{h h':Heap}{x e:Addr}{o':HO}
theorem HOk.write(ok:HOk P w H h)(mu:Mut (H x))(he:e=x\/H e=some (.own x))(k:∀b u,b≠e->h.get? b=some u->h'.get? b=some u)(heo:∃u,h'.get? e=some u)(new:Ju P w (upd H x o') h' x o'):HOk P w (upd H x o') h':=fun b u q=>by
 have nown:∀c y,H c=some (.own y)->c≠x:=fun c y r z=>by subst z;rw[r] at mu;exact mu
 have ntup:∀c (xs:TF),H c=some xs.1->c≠x:=fun c xs r z=>by
  subst z;rw[r] at mu
  obtain⟨u,hu⟩:=xs
  cases u<;>first|exact mu.elim|exact hu.elim
 by_cases hb:b=x
 ·subst hb;rw[Zv] at q;cases q;exact new
 ·rw[Zo hb] at q
  by_cases hbe:b=e
  ·have q':H b=some (.own x):=by
    rcases he with z|z
    ·exact absurd (hbe.trans z) hb
    ·rw[hbe];exact z
   rw[q] at q';cases q'
   obtain⟨v,hv⟩:=heo
   exact⟨v,by rw[hbe];exact hv⟩
  ·refine(ok b u q).stay (fun c v hc r=>k c v ?_ r) (fun c r=>by rw[Zo (nown c b r)];exact r) fun c xs r=>by rw[Zo (ntup c xs r)];exact r
   rcases hc with rfl|hc
   ·exact hbe
   ·rintro rfl
    rcases he with z|z
    ·exact nown c b hc z
    ·rw[hc] at z;cases z;exact hb rfl
end
structure Un(fs ex:List Addr)(H H':Hp)(h h':Heap):Prop where
 keep:∀b o,h.get? b=some o->H b=none->b ∉ fs->b ∉ ex->h'.get? b=some o
 slot:∀b o,h.get? b=some o->H b=none->b∈fs->b ∉ ex->∃sl,h'.get? b=some { o with slots:=sl }
 free:∀b o,h.get? b=some o->H b=none->b ∉ ex->H' b=none
 there:∀b o,h.get? b=some o->b ∉ ex->∃o',h'.get? b=some o'
 tups:∀b xs,H b=some (.tup xs)->H' b=some (.tup xs)
 frzs:∀b o u,H b=some (.frz o u)->H' b=some (.frz o u)
 tbls:∀b ps q,H b=some (.tbl ps q)->H' b=some (.tbl ps q)
section
variable {fs ex:List Addr}{H H1:Hp}{h h1 h':Heap}{a x e:Addr}{o:HO}
theorem Un.any(u:Un fs ex H H1 h h1){b:Addr}{ob:Obj}(q:h.get? b=some ob)(n:H b=none)(hx:b ∉ ex):∃sl,h1.get? b=some { ob with slots:=sl }:=by
 by_cases hb:b∈fs
 ·exact u.slot b ob q n hb hx
 ·exact⟨ob.slots,u.keep b ob q n hb hx⟩
theorem Un.kept(k:∀b u,h.get? b=some u->h'.get? b=some u):Un fs ex H H h h':=
 ⟨fun b ob q _ _ _=>k b ob q,fun b ob q _ _ _=>⟨ob.slots,k b ob q⟩,fun _ _ _ n _=>n,fun b ob q _=>⟨ob,k b ob q⟩,fun _ _ q=>q,fun _ _ _ q=>q,fun _ _ _ q=>q⟩
theorem Un.refl:Un fs ex H H h h:=Un.kept fun _ _ q=>q
theorem Un.laid(k:∀b u,h.get? b=some u->h'.get? b=some u)(hp:h.objs.size<=a)(hn:H a=none):Un fs ex H (upd H a o) h h' where
 keep:=fun b u q _ _ _=>k b u q
 slot:=fun b u q _ _ _=>⟨u.slots,k b u q⟩
 free:=fun b u q n _=>by rw[Zo (Zt1 (Zto (Heap.lt_size q) hp))];exact n
 there:=fun b u q _=>⟨u,k b u q⟩
 tups:=fun b xs q=>by rw[Zo (Z8 q hn)];exact q
 frzs:=fun b u xs q=>by rw[Zo (Z8 q hn)];exact q
 tbls:=fun b ps u q=>by rw[Zo (Z8 q hn)];exact q
theorem Un.write(mu:Mut (H x))(he:e=x\/H e=some (.own x))(k:∀b u,b≠e->h.get? b=some u->h'.get? b=some u)(heo:∃u,h'.get? e=some u):Un fs ex H (upd H x o) h h':=by
 have hx:∀b,H b=none->b≠x:=fun b n z=>by subst z;rw[n] at mu;exact mu
 have hb:∀b,H b=none->b≠e:=fun b n z=>by
  subst z
  rcases he with r|r
  ·exact hx b n r
  ·rw[n] at r;cases r
 have hm:∀b u,H b=some u->¬Mut (some u)->b≠x:=fun b u q nm z=>by subst z;rw[q] at mu;exact nm mu
 refine⟨fun b u q n _ _=>k b u (hb b n) q,fun b u q n _ _=>⟨u.slots,k b u (hb b n) q⟩,fun b u q n _=>by rw[Zo (hx b n)];exact n,fun b u q _=>?_,
  fun b xs q=>by rw[Zo (hm b _ q fun z=>z)];exact q,fun b u xs q=>by rw[Zo (hm b _ q fun z=>z)];exact q,fun b ps u q=>by rw[Zo (hm b _ q fun z=>z)];exact q⟩
 by_cases hbe:b=e
 ·subst hbe;exact heo
 ·exact⟨u,k b u hbe q⟩
end
noncomputable def trk(h:Heap)(H:Hp):List Addr:=(List.range h.objs.size).filter fun a=>(H a).isSome
noncomputable def ZhL(h:Heap)(H:Hp):Heap:=PySem.W.hideAll h (trk h H)
theorem ZfZ(h:Heap)(H:Hp):(ZhL h H).objs.size=h.objs.size:=PySem.W.hideAll_size _ _
theorem ZhK{h:Heap}{H:Hp}{b:Addr}{o:Obj}(e:h.get? b=some o)(n:H b=none):(ZhL h H).get? b=some o:=
 PySem.W.hideAll_get _ e fun hm=>by
  have q:(H b).isSome=true:=(ZtA.mp hm).2
  rw[n] at q;simp at q
theorem ZjN{h:Heap}{H:Hp}{b:Addr}{o:Obj}(e:(ZhL h H).get? b=some o):h.get? b=some o/\H b=none:=by
 have e':h.get? b=some o:=PySem.W.of_hideAll (trk h H) e
 refine⟨e', ?_⟩
 cases q:H b with
 |none=>rfl
 |some x =>
  have hm:b∈trk h H:=ZtA.mpr ⟨Zty.mpr (Heap.lt_size e'),by simp[q]⟩
  have z:(ZhL h H).get? b=none:=PySem.W.hideAll_none (trk h H) hm
  rw[z] at e;cases e
noncomputable def Zkz(g h:Heap)(L:Addr):List (Addr×Obj):=(List.range h.objs.size).filterMap fun a=>if a=L\/(g.get? a).isSome=true then none else (h.get? a).map fun o=>(a,o)
noncomputable def ZgH(g h:Heap)(L d:Addr):List (Addr×Obj):=(Zkz g h L).filter fun p=>decide (p.1≠d)
def BMd(mg:Str->Option Value)(h:Heap):Prop:=∃bm o,mg "__builtins__"=some (.ref bm)/\bm≠builtinsNs/\h.get? bm=some o/\o.cls=.type "module"/\o.dict=some builtinsNs/\o.data=.plain
structure Mod(K:PySem.W.Frag)(mg:Str->Option Value)(base:Heap):Prop where
 kin:K.In base
 glob:base.Ns mainGlobals mg
 blt:∃mb,base.Ns builtinsNs mb/\∀x:Str,x ≠ "__name__"->mb x=bootBuiltins x
 nolimit:base.NoLimit
 bmod:BMd mg base
structure Cx where
 prog:Program
 w:World
 K:PySem.W.Frag
 mg:Str->Option Value
 base:Heap
 A:Around
 N:List Str
 s₀:Shared
 H₀:Hp
 env:Env
 outer:List Env
 stack:List Env
 ex:List Addr
 fn:Str->Bool
 calm:Bool
 pn:List (Addr×Obj)
 xe:Value->Shared->Prop
noncomputable def frs(l:List Env):List Addr:=l.filterMap (·.frame)
noncomputable abbrev Cx.fs(X:Cx):List Addr:=frs X.outer
def Vis(sc:Scope)(x:Str):Prop:=sc.names.lookup x=some .local\/sc.names.lookup x=some .cell\/sc.names.lookup x=some .free
def Loc(sc:Scope)(x:Str):Prop:=sc.names.lookup x=some .local\/sc.names.lookup x=some .cell
def ZnZ(env:Env)(h:Heap)(m:Str->Option Value)(x:Str)(u:Value):Prop:=
 (env.kindOf x=some .local/\m x=some u)\/((env.kindOf x=some .cell\/env.kindOf x=some .free)/\∃c,env.cells.lookup x=some c/\h.IsCell c (some u))
noncomputable def Zcl(K:W.Frag)(f:Addr):Option (Addr×Addr):=match K.lookup f with
 |some ⟨_,_,.func fd,_⟩=>if fd.name = "ends_first" then (match fd.code with
   |.ref c=>(match K.lookup c with
    |some ⟨_,_,.fields vs,_⟩=>(match (vs[11]?:Option Value) with
     |some (.ref P)=>if PySem.W.codeHdIn K c P=true then some (c,P) else none
     |_=>none)
    |_=>none)
   |_=>none) else none
 |_=>none
def Zjc(K:W.Frag)(H:Hp):Prop:=∀f c P,Zcl K f=some (c,P)->H P=some (.tbl #[] "ends_first.<locals>.<lambda>")
structure Cx.Ok(X:Cx):Prop where
 mod:Mod X.K X.mg X.base
 kind:X.env.scope.kind=.function
 glob:X.env.globals=mainGlobals
 blt:X.env.builtins=builtinsNs
 above:X.s₀.heap.objs.size<=X.env.locals
 inj:∀x y c,X.env.cells.lookup x=some c->X.env.cells.lookup y=some c->x=y
 has:∀x,(X.env.kindOf x=some .cell\/X.env.kindOf x=some .free)->∃c,X.env.cells.lookup x=some c
 cab:∀x c,X.fn x=true->X.env.cells.lookup x=some c->X.s₀.heap.objs.size<=c
 hd:X.calm=true->X.A.handled=none
 frames:X.A.frames=some X.stack
 stk:X.stack=X.outer\/(X.stack=X.env::X.outer/\X.env.frame=some X.env.locals)
 exf:∀b∈X.ex,b≠X.env.locals/\∀x c,X.env.cells.lookup x=some c->c≠b
 bs:∀b o,X.base.get? b=some o->X.s₀.heap.get? b=some o/\X.H₀ b=none
 bsz:X.base.objs.size<=X.s₀.heap.objs.size
 noex:∀b o,X.base.get? b=some o->b ∉ X.ex
 exfs:∀b∈X.ex,b ∉ X.fs
 funs:X.s₀.heap.FunFrames X.base X.outer
 frf:∀b∈X.fs,X.H₀ b=none
 tab:Zjc X.K X.H₀
structure Inv(X:Cx)(pins:List (Addr×Obj))(σ:List (Option V))(H:Hp)(s:Shared):Prop where
 ok:X.Ok
 os:s.os=X.s₀.os
 bare:AllBare s.gens
 base:Un X.fs X.ex X.H₀ H X.s₀.heap s.heap
 loc:∃m,s.heap.Ns X.env.locals m/\∀(i:Nat) (x:Str) (v:V),X.N[i]?=some x->σ[i]?=some (some v)->Vis X.env.scope x->∃u,Jn v u/\ZnZ X.env s.heap m x u
 cell:∀x c,X.env.cells.lookup x=some c->∃v,s.heap.IsCell c v
 free:H X.env.locals=none
 freeC:∀x c,X.env.cells.lookup x=some c->H c=none
 pin:∀p∈X.pn++pins,s.heap.get? p.1=some p.2/\H p.1=none/\p.1≠X.env.locals/\p.1 ∉ X.fs/\∀v,p.2.data≠.cell v
 hok:HOk X.prog X.w H s.heap
 len:σ.length=X.N.length
section
variable {X:Cx}{pins:List (Addr×Obj)}{σ:List (Option V)}{H H':Hp}{s:Shared}{h':Heap}
theorem Cx.Ok.nofr(ok:X.Ok){b:Addr}{o:Obj}(e:X.base.get? b=some o):b ∉ X.fs:=fun hb=>by
 have:=(ok.funs.mem hb).1
 rw[e] at this;cases this
theorem Inv.bs(I:Inv X pins σ H s):∀b o,X.base.get? b=some o->s.heap.get? b=some o/\H b=none:=fun b o e =>
 ⟨I.base.keep b o (I.ok.bs b o e).1 (I.ok.bs b o e).2 (I.ok.nofr e) (I.ok.noex b o e),I.base.free b o (I.ok.bs b o e).1 (I.ok.bs b o e).2 (I.ok.noex b o e)⟩
theorem Inv.bk(I:Inv X pins σ H s):∀b o,X.base.get? b=some o->s.heap.get? b=some o:=fun b o e=>(I.bs b o e).1
theorem Inv.mod(I:Inv X pins σ H s):Mod X.K X.mg X.base:=I.ok.mod
theorem Inv.kIn(I:Inv X pins σ H s):X.K.In s.heap:=I.ok.mod.kin.keeps I.bk
theorem Inv.nolimit(I:Inv X pins σ H s):s.heap.NoLimit:=I.ok.mod.nolimit.keeps I.bk
theorem Inv.lt(I:Inv X pins σ H s):X.env.locals<s.heap.objs.size:=let ⟨_,hn,_⟩:=I.loc;hn.lt
theorem Inv.sz(I:Inv X pins σ H s):X.s₀.heap.objs.size<=s.heap.objs.size:=Ztr I.ok.above (ZuB I.lt)
theorem Inv.nofs(I:Inv X pins σ H s){a:Addr}(h:s.heap.objs.size<=a):a ∉ X.fs:=fun hb=>by
 obtain⟨_,o,ho,_⟩:=I.ok.funs.mem hb
 exact absurd (Zto (Heap.lt_size ho) (Ztr I.sz h)) (ZtV _)
theorem Inv.cne(I:Inv X pins σ H s):∀x c,X.env.cells.lookup x=some c->c≠X.env.locals:=fun x c e z=>by
 obtain⟨v,o,ho,hd⟩:=I.cell x c e
 obtain⟨m,⟨o',es,ep,ho',hd',_⟩,_⟩:=I.loc
 rw[z,ho'] at ho;cases ho;rw[hd'] at hd;cases hd
theorem Inv.funs(I:Inv X pins σ H s):s.heap.FunFrames X.base X.outer:=by
 have all:∀(l:List Env),(∀b∈frs l,b∈X.fs)->X.s₀.heap.FunFrames X.base l->s.heap.FunFrames X.base l:=by
  intro l
  induction l with
  |nil=>intro _ _;trivial
  |cons env r ih =>
   intro hs hl
   obtain⟨hk,⟨L,o,hf,hn,ho,hd⟩,hr⟩:=hl
   have hL:L∈X.fs:=hs L (by unfold frs;rw[ZuW,hf];exact ZtG)
   obtain⟨sl,e⟩:=I.base.slot L o ho (I.ok.frf L hL) hL fun z=>I.ok.exfs L z hL
   exact⟨hk,⟨L,_,hf,hn,e,hd⟩,ih (fun b hb=>hs b (by unfold frs;rw[ZuW,hf];exact Ztz _ hb)) hr⟩
 exact all X.outer (fun _ hb=>hb) I.ok.funs
theorem Inv.stack(I:Inv X pins σ H s):s.heap.FunFrames X.base X.stack:=by
 rcases I.ok.stk with e|⟨e,hf⟩
 ·rw[e];exact I.funs
 ·rw[e]
  obtain⟨m,hn,_⟩:=I.loc
  refine .cons (by rw[I.ok.kind];decide) hf hn ?_ I.funs
  exact Heap.get?_none_of_le (Ztr I.ok.bsz I.ok.above)
theorem Inv.stkSub(I:Inv X pins σ H s):∀b∈frs X.stack,b∈X.env.locals::X.fs:=fun b hb=>by
 rcases I.ok.stk with e|⟨e,hf⟩
 ·rw[e] at hb;exact Ztz _ hb
 ·rw[e] at hb
  unfold frs at hb
  rw[ZuW,hf] at hb
  exact hb
theorem Inv.stkFree(I:Inv X pins σ H s):∀b∈frs X.stack,H b=none:=fun b hb=>by
 rcases Zti.mp (I.stkSub b hb) with e|hb
 ·rw[e];exact I.free
 ·obtain⟨_,o,ho,_⟩:=I.ok.funs.mem hb
  exact I.base.free b o ho (I.ok.frf b hb) fun z=>I.ok.exfs b z hb
theorem Inv.step{g':Array GenState}{t':Nat}{d':Drawn}{ch:List Addr}(I:Inv X pins σ H s)(hch:∀b∈ch,(b∈X.ex\/X.s₀.heap.objs.size<=b)/\b≠X.env.locals/\(∀x c,X.env.cells.lookup x=some c->c≠b)/\∀p∈X.pn++pins,p.1≠b)(keep:∀b o,b≠X.env.locals->b ∉ X.fs->b ∉ ch->s.heap.get? b=some o->H b=none->h'.get? b=some o)(slot:∀b o,b≠X.env.locals->b∈X.fs->b ∉ ch->s.heap.get? b=some o->H b=none->∃sl,h'.get? b=some { o with slots:=sl })(free:∀b o,b ∉ ch->s.heap.get? b=some o->H b=none->H' b=none)(there:∀b o,b ∉ ch->s.heap.get? b=some o->∃o',h'.get? b=some o')(tups:∀b xs,H b=some (.tup xs)->H' b=some (.tup xs))(frzs:∀b o u,H b=some (.frz o u)->H' b=some (.frz o u))(tbls:∀b ps q,H b=some (.tbl ps q)->H' b=some (.tbl ps q))(ns:∀m,s.heap.Ns X.env.locals m->h'.Ns X.env.locals m)(hok:HOk X.prog X.w H' h')(hg:AllBare g') :
  Inv X pins σ H' { s with heap:=h',gens:=g',drawn:=d',toks:=t' }:=by
 have neL:∀b o,X.s₀.heap.get? b=some o->b≠X.env.locals:=fun b o e=>Zt1 (Zto (Heap.lt_size e) I.ok.above)
 have neC:∀b o,X.s₀.heap.get? b=some o->b ∉ X.ex->b ∉ ch:=fun b o e hx hb=>by
  rcases (hch b hb).1 with z|z
  ·exact hx z
  ·exact absurd (Zto (Heap.lt_size e) z) (ZtV _)
 have cellK:∀x c,X.env.cells.lookup x=some c->∀v,s.heap.IsCell c v->h'.IsCell c v:=fun x c e v ⟨o,ho,hd⟩=>by
  have nch:c ∉ ch:=fun z=>(hch c z).2.2.1 x c e rfl
  by_cases hc:c∈X.fs
  ·obtain⟨sl,q⟩:=slot c o (I.cne x c e) hc nch ho (I.freeC x c e)
   exact⟨_,q,hd⟩
  ·exact⟨o,keep c o (I.cne x c e) hc nch ho (I.freeC x c e),hd⟩
 refine⟨I.ok,I.os,hg,⟨fun b o e n hb hx=>?_,fun b o e n hb hx=>?_,fun b o e n hx=>?_,fun b o e hx=>?_,fun b xs e=>tups b xs (I.base.tups b xs e),fun b o xs e=>frzs b o xs (I.base.frzs b o xs e),fun b ps u e=>tbls b ps u (I.base.tbls b ps u e)⟩, ?_,fun x c e=>?_, ?_,fun x c e=>?_,fun p hp=>?_,hok,I.len⟩
 ·exact keep b o (neL b o e) hb (neC b o e hx) (I.base.keep b o e n hb hx) (I.base.free b o e n hx)
 ·obtain⟨sl,e1⟩:=I.base.slot b o e n hb hx
  obtain⟨sl',e2⟩:=slot b _ (neL b o e) hb (neC b o e hx) e1 (I.base.free b o e n hx)
  exact⟨sl',e2⟩
 ·obtain⟨o',e1⟩:=I.base.there b o e hx
  exact free b o' (neC b o e hx) e1 (I.base.free b o e n hx)
 ·obtain⟨o',e1⟩:=I.base.there b o e hx
  exact there b o' (neC b o e hx) e1
 ·obtain⟨m,hn,hl⟩:=I.loc
  refine⟨m,ns m hn,fun i x v e1 e2 e3=>?_⟩
  obtain⟨u,r,l⟩:=hl i x v e1 e2 e3
  refine⟨u,r, ?_⟩
  rcases l with l|⟨k,c,e,z⟩
  ·exact .inl l
  ·exact .inr ⟨k,c,e,cellK x c e _ z⟩
 ·obtain⟨v,z⟩:=I.cell x c e
  exact⟨v,cellK x c e v z⟩
 ·obtain⟨m,⟨o,_,_,ho,_⟩,_⟩:=I.loc
  exact free _ o (fun z=>(hch _ z).2.1 rfl) ho I.free
 ·obtain⟨v,o,ho,hd⟩:=I.cell x c e
  exact free c o (fun z=>(hch c z).2.2.1 x c e rfl) ho (I.freeC x c e)
 ·obtain⟨e,n,ne,nf,d⟩:=I.pin p hp
  have nch:p.1 ∉ ch:=fun z=>(hch p.1 z).2.2.2 p hp rfl
  exact⟨keep p.1 p.2 ne nf nch e n,free p.1 p.2 nch e n,ne,nf,d⟩
theorem Inv.un{t':Nat}(I:Inv X pins σ H s)(u:Un X.fs [] H H' s.heap h')(hok:HOk X.prog X.w H' h'):Inv X pins σ H' { s with heap:=h',toks:=t' }:=by
 obtain⟨m,⟨o,es,ep,ho,r⟩,_⟩:=id I.loc
 obtain⟨sl,hL⟩:=u.any ho I.free (by simp)
 exact I.step (g':=s.gens) (d':=s.drawn) (ch:=[]) (fun _ z=>nomatch z) (fun b o _ hb _ e n=>u.keep b o e n hb (by simp)) (fun b o _ hb _ e n=>u.slot b o e n hb (by simp)) (fun b o _ e n=>u.free b o e n (by simp)) (fun b o _ e=>u.there b o e (by simp)) u.tups u.frzs u.tbls (fun m' hm=>by
  obtain⟨o',es',ep',ho',r'⟩:=hm
  rw[ho] at ho';cases ho'
  exact⟨_,es',ep',hL,r'⟩) hok I.bare
theorem Inv.call{g':Array GenState}{t':Nat}{d':Drawn}{ch:List Addr}(I:Inv X pins σ H s)(u:Un (frs X.stack) ch H H' s.heap h')(hok:HOk X.prog X.w H' h')(hg:AllBare g')(hch:∀b∈ch,(b∈X.ex\/X.s₀.heap.objs.size<=b)/\b≠X.env.locals/\(∀x c,X.env.cells.lookup x=some c->c≠b)/\∀p∈X.pn++pins,p.1≠b) :
  Inv X pins σ H' { s with heap:=h',gens:=g',drawn:=d',toks:=t' }:=by
 obtain⟨m,⟨o,es,ep,ho,r⟩,_⟩:=id I.loc
 obtain⟨sl,hL⟩:=u.any ho I.free fun z=>(hch _ z).2.1 rfl
 exact I.step (ch:=ch) hch (fun b o hL hb hc e n=>u.keep b o e n (fun z=>(Zti.mp (I.stkSub b z)).elim hL hb) hc) (fun b o _ _ hc e n=>u.any e n hc) (fun b o hc e n=>u.free b o e n hc) (fun b o hc e=>u.there b o e hc) u.tups u.frzs u.tbls (fun m' hm=>by
  obtain⟨o',es',ep',ho',r'⟩:=hm
  rw[ho] at ho';cases ho'
  exact⟨_,es',ep',hL,r'⟩) hok hg
theorem Inv.turned{t':Nat}{it:Addr}(I:Inv X pins σ H s)(k:∀b o,b≠it->s.heap.get? b=some o->h'.get? b=some o)(hn:H it=none)(hL:it≠X.env.locals)(h1:it∈X.ex\/X.s₀.heap.objs.size<=it)(h2:∀x c,X.env.cells.lookup x=some c->c≠it)(h3:∀p∈X.pn++pins,p.1≠it):Inv X pins σ H { s with heap:=h',toks:=t' }:=by
 have nit:∀b u,H b=some u->b≠it:=fun b u e z=>by rw[z,hn] at e;cases e
 refine I.step (g':=s.gens) (d':=s.drawn) (ch:=[it]) (fun b hb=>?_) (fun b o _ _ hc e _=>k b o (fun z=>hc (by simp[z])) e) (fun b o _ _ hc e _=>⟨o.slots,k b o (fun z=>hc (by simp[z])) e⟩) (fun _ _ _ _ n=>n)
  (fun b o hc e=>⟨o,k b o (fun z=>hc (by simp[z])) e⟩) (fun _ _ e=>e) (fun _ _ _ e=>e) (fun b ps u e=>e) (fun m hm=>?_) (fun b u e=>?_) I.bare
 ·have e:b=it:=by simpa using hb
  subst e
  exact⟨h1,hL,h2,h3⟩
 ·obtain⟨o,es,ep,ho,r⟩:=hm
  exact⟨o,es,ep,k _ o (Ne.symm hL) ho,r⟩
 ·refine(I.hok b u e).stay (fun c v hc q=>k c v ?_ q) (fun _ q=>q) fun _ _ q=>q
  rcases hc with z|z
  ·rw[z];exact nit b u e
  ·exact nit c _ z
theorem Inv.tok(I:Inv X pins σ H s)(t:Nat):Inv X pins σ H { s with toks:=t }:=I.un (h':=s.heap) (t':=t) Un.refl I.hok
theorem Inv.kept{t':Nat}(I:Inv X pins σ H s)(k:∀b u,s.heap.get? b=some u->h'.get? b=some u):Inv X pins σ H { s with heap:=h',toks:=t' }:=I.un (Un.kept k) (I.hok.kept k)
theorem Inv.laid{a:Addr}{o:HO}{t':Nat}(I:Inv X pins σ H s)(k:∀b u,s.heap.get? b=some u->h'.get? b=some u)(hp:s.heap.objs.size<=a)(new:Ju X.prog X.w (upd H a o) h' a o) :
  Inv X pins σ (upd H a o) { s with heap:=h',toks:=t' }:=I.un (Un.laid k hp (I.hok.fresh hp)) (I.hok.laid k hp new)
theorem Inv.write{x e:Addr}{o:HO}{t':Nat}(I:Inv X pins σ H s)(mu:Mut (H x))(he:e=x\/H e=some (.own x))(k:∀b u,b≠e->s.heap.get? b=some u->h'.get? b=some u)(heo:∃u,h'.get? e=some u)(new:Ju X.prog X.w (upd H x o) h' x o):Inv X pins σ (upd H x o) { s with heap:=h',toks:=t' }:=I.un (Un.write mu he k heo) (I.hok.write mu he k heo new)
theorem Inv.pins_of{pins':List (Addr×Obj)}(I:Inv X pins σ H s)(h:∀p∈pins',s.heap.get? p.1=some p.2/\H p.1=none/\p.1≠X.env.locals/\p.1 ∉ X.fs/\∀v,p.2.data≠.cell v):Inv X pins' σ H s:=
 ⟨I.ok,I.os,I.bare,I.base,I.loc,I.cell,I.free,I.freeC,fun p hp=>(Zta.mp hp).elim (fun z=>I.pin p (Ztb _ z)) (h p),I.hok,I.len⟩
theorem ZdE{N:List Str}(hN:N.Nodup){i j:Nat}{x:Str}(a:N[i]?=some x)(b:N[j]?=some x):i=j:=by
 obtain⟨h1,e1⟩:=ZsU.mp a
 obtain⟨h2,e2⟩:=ZsU.mp b
 exact(List.getElem_inj hN).mp (e1.trans e2.symm)
theorem Zb7{M:Model}{A:Around}{E:Value->Shared->Prop}{i:Nat}{x:Str}{v:V}{u:Value}{Q:Unit->Shared->Prop}(I:Inv X pins σ H s)(hN:X.N.Nodup)(hi:X.N[i]?=some x)(hx:Loc X.env.scope x)(r:Jn v u)(h:∀s',Inv X pins (σ.set i (some v)) H s'->(∃a,Heap.SameBut a s.heap s'.heap/\(a=X.env.locals\/X.env.cells.lookup x=some a))->Q () s')(hf:X.fn x=true\/X.env.scope.names.lookup x=some .local):wpAny M A (storeName X.env x u) Q E s:=by
 obtain⟨m,hn,hl⟩:=id I.loc
 have hcls:(X.env.scope.kind==.class || (X.env.scope.kind==.module&&X.env.locals != X.env.globals))=false:=by rw[I.ok.kind];rfl
 have hiσ:i<σ.length:=by rw[I.len];exact(ZsU.mp hi).1
 have cne:=I.cne
 have tracked:∀{a:Addr}{h':Heap},(∃o,s.heap.get? a=some o/\H a=none)->Heap.SameBut a s.heap h'->HOk X.prog X.w H h':=fun {a h'} ha hs b ob e=>by
  obtain⟨_,_,hfree⟩:=ha
  refine(I.hok b ob e).stay (fun c w' hc q=>(hs.2 c ?_).trans q) (fun _ q=>q) fun _ _ q=>q
  rintro rfl
  rcases hc with rfl|hc
  ·rw[hfree] at e;cases e
  ·rw[hfree] at hc;cases hc
 rcases hx with hk|hk
 ·refine wpAny_storeName_local hk hn (fun h' hn' hs=>?_) hcls
  obtain⟨oL,_,_,hoL,_⟩:=id hn
  refine h _ ⟨I.ok,I.os,I.bare,⟨fun b o e n hb hx=>?_,fun b o e n hb hx=>?_,I.base.free,fun b o e hx=>?_,I.base.tups,I.base.frzs,I.base.tbls⟩,⟨_,hn',fun j y v' e1 e2 e3=>?_⟩,fun y c e=>?_,I.free,I.freeC,fun p hp=>?_,tracked ⟨oL,hoL,I.free⟩ hs,by simpa using I.len⟩ ⟨_,hs,.inl rfl⟩
  ·exact(hs.2 b (Zt1 (Zto (Heap.lt_size e) I.ok.above))).trans (I.base.keep b o e n hb hx)
  ·obtain⟨sl,e1⟩:=I.base.slot b o e n hb hx
   exact⟨sl,(hs.2 b (Zt1 (Zto (Heap.lt_size e) I.ok.above))).trans e1⟩
  ·obtain⟨o',e1⟩:=I.base.there b o e hx
   exact⟨o',(hs.2 b (Zt1 (Zto (Heap.lt_size e) I.ok.above))).trans e1⟩
  ·by_cases hj:j=i
   ·subst hj
    rw[hi] at e1;cases e1
    rw[Ztx hiσ] at e2
    cases e2
    exact⟨u,r,.inl ⟨hk,by simp⟩⟩
   ·rw[Zt7 (Ne.symm hj)] at e2
    obtain⟨u',r',q⟩:=hl j y v' e1 e2 e3
    refine⟨u',r', ?_⟩
    rcases q with ⟨k,e⟩|⟨k,c,e,z⟩
    ·refine .inl ⟨k, ?_⟩
     have:y≠x:=fun e=>hj (ZdE hN e1 (e▸hi))
     simp[this,e]
    ·exact .inr ⟨k,c,e,z.sameBut hs (cne y c e)⟩
  ·obtain⟨w',z⟩:=I.cell y c e
   exact⟨w',z.sameBut hs (cne y c e)⟩
  ·obtain⟨e,n,ne,nf,d⟩:=I.pin p hp
   exact⟨(hs.2 p.1 ne).trans e,n,ne,nf,d⟩
 ·have hfn:X.fn x=true:=by
   rcases hf with z|z
   ·exact z
   ·rw[z] at hk;cases hk
  obtain⟨c,hc⟩:=I.ok.has x (.inl hk)
  obtain⟨w',z⟩:=I.cell x c hc
  refine wpAny_storeName_cell I.ok.kind hk hc z (fun h' hc' hs=>?_)
  obtain⟨oc,hoc,hocd⟩:=id z
  refine h { s with heap:=h' } ⟨I.ok,I.os,I.bare,⟨fun b o e n hb hx=>?_,fun b o e n hb hx=>?_,I.base.free,fun b o e hx=>?_,I.base.tups,I.base.frzs,I.base.tbls⟩,⟨m,hn.sameBut hs (Ne.symm (cne x c hc)),fun j y v' e1 e2 e3=>?_⟩,fun y c' e=>?_,I.free,I.freeC,fun p hp=>?_,tracked ⟨oc,hoc,I.freeC x c hc⟩ hs,by simpa using I.len⟩ ⟨c,hs,.inr hc⟩
  ·exact(hs.2 b (Zt1 (Zto (Heap.lt_size e) (I.ok.cab x c hfn hc)))).trans (I.base.keep b o e n hb hx)
  ·obtain⟨sl,e1⟩:=I.base.slot b o e n hb hx
   exact⟨sl,(hs.2 b (Zt1 (Zto (Heap.lt_size e) (I.ok.cab x c hfn hc)))).trans e1⟩
  ·obtain⟨o',e1⟩:=I.base.there b o e hx
   exact⟨o',(hs.2 b (Zt1 (Zto (Heap.lt_size e) (I.ok.cab x c hfn hc)))).trans e1⟩
  ·by_cases hj:j=i
   ·subst hj
    rw[hi] at e1;cases e1
    rw[Ztx hiσ] at e2
    cases e2
    exact⟨u,r,.inr ⟨.inl hk,c,hc,hc'⟩⟩
   ·rw[Zt7 (Ne.symm hj)] at e2
    obtain⟨u',r',q⟩:=hl j y v' e1 e2 e3
    refine⟨u',r', ?_⟩
    rcases q with q|⟨k,c',e,z'⟩
    ·exact .inl q
    ·refine .inr ⟨k,c',e,z'.sameBut hs ?_⟩
     rintro rfl
     exact hj (ZdE hN e1 (I.ok.inj _ _ _ e hc▸hi))
  ·by_cases hcc:c'=c
   ·subst hcc;exact⟨_,hc'⟩
   ·obtain⟨w2,z2⟩:=I.cell y c' e
    exact⟨w2,z2.sameBut hs hcc⟩
  ·obtain⟨e,n,ne,nf,d⟩:=I.pin p hp
   refine⟨(hs.2 p.1 ?_).trans e,n,ne,nf,d⟩
   intro q
   rw[q,hoc] at e
   have q':oc=p.2:=Option.some.inj e
   exact d w' (by rw[<- q'];exact hocd)
theorem Qi{M:Model}{A:Around}{E:Value->Shared->Prop}{i:Nat}{x:Str}{v:V}{u:Value}{Q:Unit->Shared->Prop}(I:Inv X pins σ H s)(hN:X.N.Nodup)(hi:X.N[i]?=some x)(hx:Loc X.env.scope x)(r:Jn v u)(h:∀s',Inv X pins (σ.set i (some v)) H s'->Q () s')(hf:X.fn x=true\/X.env.scope.names.lookup x=some .local):wpAny M A (storeName X.env x u) Q E s:=
 Zb7 I hN hi hx r (fun s' I' _=>h s' I') hf
theorem Inv.call'{s':Shared}{ch:List Addr}(I:Inv X pins σ H s)(ho:s'.os=s.os)(u:Un (frs X.stack) ch H H' s.heap s'.heap)(hok:HOk X.prog X.w H' s'.heap)(hg:AllBare s'.gens)(hch:∀b∈ch,(b∈X.ex\/X.s₀.heap.objs.size<=b)/\b≠X.env.locals/\(∀x c,X.env.cells.lookup x=some c->c≠b)/\∀p∈X.pn++pins,p.1≠b):Inv X pins σ H' s':=by
 obtain⟨h',g',d',t',o'⟩:=s'
 have e:o'=s.os:=ho
 subst e
 exact I.call (g':=g') (t':=t') (d':=d') u hok hg hch
end
noncomputable abbrev XK:=Value->Option Addr->Hp->Prop
noncomputable abbrev St:=List (Option V)
noncomputable abbrev VK:=V->Hp->Prop
noncomputable abbrev TE:=St->Hp->VK->Prop
noncomputable abbrev TT:=St->Hp->(Bool->Hp->Prop)->Prop
noncomputable abbrev TA:=St->Hp->(List V->Hp->Prop)->Prop
structure Zis where
 nx:St->Hp->Prop
 rt:VK
 bk:St->Hp->Prop:=fun _ _=>False
 ct:St->Hp->Prop:=fun _ _=>False
noncomputable abbrev TS:=Zis->St->Hp->Prop
def EP(X:Cx)(pins:List (Addr×Obj))(σ:St)(Q:VK)(u:Value)(s':Shared):Prop:=∃v H',Inv X pins σ H' s'/\Jn v u/\Q v H'
def TP(X:Cx)(pins:List (Addr×Obj))(σ:St)(Q:Bool->Hp->Prop)(b:Bool)(s':Shared):Prop:=∃H',Inv X pins σ H' s'/\Q b H'
def AP(X:Cx)(pins:List (Addr×Obj))(σ:St)(Q:List V->Hp->Prop)(us:List Value)(s':Shared):Prop:=∃vs H',Inv X pins σ H' s'/\ZR vs us/\Q vs H'
def SP(X:Cx)(pins:List (Addr×Obj))(D:Zis)(f:Flow)(s':Shared):Prop:=
 match f with
 |.next=>∃σ' H',Inv X pins σ' H' s'/\D.nx σ' H'
 |.brk=>∃σ' H',Inv X pins σ' H' s'/\D.bk σ' H'
 |.cont=>∃σ' H',Inv X pins σ' H' s'/\D.ct σ' H'
 |.ret u=>∃v σ' H',Inv X pins σ' H' s'/\Jn v u/\D.rt v H'
def PE(X:Cx)(e:Expr)(t:TE):Prop:=
 ∀(pins:List (Addr×Obj)) (s:Shared) (σ:St) (H:Hp) (Q:VK),Inv X pins σ H s->t σ H Q->wpAny (model X.prog X.w) X.A (eval e X.env) (EP X pins σ Q) X.xe s
def PT(X:Cx)(e:Expr)(t:TT):Prop:=
 ∀(pins:List (Addr×Obj)) (s:Shared) (σ:St) (H:Hp) (Q:Bool->Hp->Prop),Inv X pins σ H s->t σ H Q->wpAny (model X.prog X.w) X.A (isTrue e X.env (eval e X.env)) (TP X pins σ Q) X.xe s
def PW(X:Cx)(e:Expr)(t:TT):Prop:=
 ∀(whole:Sem Value) (pins:List (Addr×Obj)) (s:Shared) (σ:St) (H:Hp) (Q:Bool->Hp->Prop),Inv X pins σ H s->t σ H Q->wpAny (model X.prog X.w) X.A (isTrue e X.env whole) (TP X pins σ Q) X.xe s
theorem PW.pt{X:Cx}{e:Expr}{t:TT}(h:PW X e t):PT X e t:=h _
def PA(X:Cx)(es:List Expr)(t:TA):Prop:=
 ∀(pos:Pos) (pins:List (Addr×Obj)) (s:Shared) (σ:St) (H:Hp) (Q:List V->Hp->Prop),Inv X pins σ H s->t σ H Q->wpAny (model X.prog X.w) X.A (spliced (backTo pos (starEach es X.env))) (AP X pins σ Q) X.xe s
def PS(X:Cx)(st:Stmt)(t:TS):Prop:=
 ∀(pins:List (Addr×Obj)) (s:Shared) (σ:St) (H:Hp) (D:Zis),Inv X pins σ H s->t D σ H->wpAny (model X.prog X.w) X.A (exec st X.env) (SP X pins D) X.xe s
def PSs(X:Cx)(st:List Stmt)(t:TS):Prop:=
 ∀(pins:List (Addr×Obj)) (s:Shared) (σ:St) (H:Hp) (D:Zis),Inv X pins σ H s->t D σ H->wpAny (model X.prog X.w) X.A (execs st X.env) (SP X pins D) X.xe s
theorem thn{α:Type}{t:Sem α}{Q Q':α->Shared->Prop}{M:Model}{A:Around}{E:Value->Shared->Prop}{s:Shared}(h:wpAny M A t Q E s)(hQ:∀a s,Q a s->Q' a s):wpAny M A t Q' E s:=wpAny_mono h hQ fun _ _ x=>x
section
variable {X:Cx}
noncomputable def Qf(i:Nat):TE:=fun σ H Q=>∃v,σ[i]?=some (some v)/\Q v H
noncomputable def tC(v:V):TE:=fun _ H Q=>Q v H
theorem Zld{i:Nat}{x:Str}{pos:Pos}(hN:X.N[i]?=some x)(hv:Vis X.env.scope x)(hd:(x==("__debug__":Str))=false:=by decide)(hcd:(x==("__classdict__":Str))=false:=by decide):PE X (.Name x pos) (Qf i):=by
 intro pins s σ H Q I h
 obtain⟨v,e,h⟩:=h
 obtain⟨m,hn,hl⟩:=I.loc
 obtain⟨u,r,l⟩:=hl i x v hN e hv
 have fin:EP X pins σ Q u s:=⟨v,H,I,r,h⟩
 rcases l with ⟨hk,hm⟩|⟨hk,c,hc,hcell⟩
 ·exact wpAny_Name (wpAny_loadName_local I.ok.kind hk hn hm fin) hd
 ·rcases hk with hk|hk
  ·exact wpAny_Name (wpAny_loadName_cell I.ok.kind hk hc hcell fin) hd
  ·exact wpAny_Name (wpAny_loadName_free I.ok.kind hk hc hcell fin hcd) hd
theorem Zi{i j pos}:PE X (.Constant (.int i) j pos) (tC (.int i)):=fun _ _ _ H _ I h=>wpAny_Constant_int ⟨.int i,H,I.tok _,⟨_,rfl⟩,h⟩
theorem Ut{b j pos}:PE X (.Constant (.bool b) j pos) (tC (.bl b)):=fun _ _ _ H _ I h=>Constant_bool ⟨.bl b,H,I,rfl,h⟩
theorem Us{j pos}:PE X (.Constant .none j pos) (tC .non):=fun _ _ _ H _ I h=>Constant_none ⟨.non,H,I,rfl,h⟩
theorem Zdy{x j pos}:PE X (.Constant (.str x) j pos) (tC (.str x)):=fun _ _ _ H _ I h=>Calls.Constant_str ⟨.str x,H,I.tok _,⟨_,rfl⟩,h⟩
def Gl(X:Cx)(x:Str):Prop:=X.env.kindOf x=some .globalImplicit
theorem Zc8{E:Value->Shared->Prop}{pins:List (Addr×Obj)}{s:Shared}{σ:St}{H:Hp}{x:Str}{u:Value}{pos:Pos}{Q:Value->Shared->Prop}(I:Inv X pins σ H s)(hg:Gl X x)(hm:X.mg x=some u)(h:Q u s)(hd:(x==("__debug__":Str))=false:=by decide):wpAny (model X.prog X.w) X.A (eval (.Name x pos) X.env) Q E s:=
 Calls.Name_function_global I.ok.kind hg (Calls.loadGlobal_global (by rw[I.ok.glob];exact I.mod.glob.keeps I.bk) hm h) hd
theorem QI{E:Value->Shared->Prop}{pins:List (Addr×Obj)}{s:Shared}{σ:St}{H:Hp}{x:Str}{u:Value}{pos:Pos}{Q:Value->Shared->Prop}(I:Inv X pins σ H s)(hg:Gl X x)(hm:X.mg x=none)(hv:bootBuiltins x=some u)(h:Q u s)(hn:x ≠ "__name__":=by decide)(hd:(x==("__debug__":Str))=false:=by decide):wpAny (model X.prog X.w) X.A (eval (.Name x pos) X.env) Q E s:=by
 obtain⟨mb,h1,h2⟩:=I.mod.blt
 exact Calls.Name_function_global I.ok.kind hg (Calls.loadGlobal_builtin (by rw[I.ok.glob];exact I.mod.glob.keeps I.bk) hm (by rw[I.ok.blt];exact h1.keeps I.bk) ((h2 x hn).trans hv) h) hd
theorem Zj5{x:Str}{v:V}{u:Value}{pos:Pos}(hg:Gl X x)(hm:X.mg x=some u)(r:Jn v u)(hd:(x==("__debug__":Str))=false:=by decide):PE X (.Name x pos) (tC v):=
 fun _ _ _ H _ I h=>Zc8 I hg hm ⟨v,H,I,r,h⟩ hd
theorem Vp{x:Str}{v:V}{u:Value}{pos:Pos}(hg:Gl X x)(hm:X.mg x=none)(hv:bootBuiltins x=some u)(r:Jn v u)(hn:x ≠ "__name__":=by decide)(hd:(x==("__debug__":Str))=false:=by decide):PE X (.Name x pos) (tC v):=
 fun _ _ _ H _ I h=>QI I hg hm hv ⟨v,H,I,r,h⟩ hn hd
variable {a b:Expr}{ta tb:TE}{pos:Pos}
def PC(X:Cx)(op:CmpOp)(a b:Expr)(t:TE):Prop:=
 ∀(pins:List (Addr×Obj)) (s:Shared) (σ:St) (H:Hp) (Q:VK),Inv X pins σ H s->t σ H Q ->
  wpAny (model X.prog X.w) X.A (eval a X.env) (fun v s₁=>wpAny (model X.prog X.w) X.A (eval b X.env) (fun u s₂=>wpAny (model X.prog X.w) X.A (compareOp op v u) (EP X pins σ Q) X.xe s₂) X.xe s₁) X.xe s
noncomputable def tB(t:TE):TT:=fun σ H Q=>t σ H fun x H1=>∃c,x=.bl c/\Q c H1
theorem Zfx{op:CmpOp}{t:TE}(h:PC X op a b t)(h1:behindInMarks op b=false:=by rfl):PE X (.Compare a [op] [b] pos) t:=fun pins s σ H Q I hw=>wpAny_Compare1 (h pins s σ H Q I hw) h1
theorem Zdu{op:CmpOp}{t:TE}(h:PC X op a b t)(h1:behindInMarks op b=false:=by rfl):PT X (.Compare a [op] [b] pos) (tB t):=by
 intro pins s σ H Q I hw
 refine wpAny_isTrue_Compare1 (thn (h pins s σ H _ I hw) fun v s1 h1=>thn h1 fun u s2 h2=>thn h2 fun c s3 ⟨x,H1,I1,r1,q1⟩=>?_) h1
 obtain⟨d,rfl,q⟩:=q1
 cases r1
 exact wpAny_truthy_bool ⟨H1,I1,q⟩
theorem Vv{e:Expr}{t:TE}(h:PE X e t)(he:∀whole,isTrue e X.env whole=(do let v <- whole;standAt e.pos;holding [v] (truthy v)):=by exact fun _=>rfl):PT X e (tB t):=by
 intro pins s σ H Q I hw
 refine isTrue_plain (thn (h pins s σ H _ I hw) fun v s1 ⟨x,H1,I1,r1,q1⟩=>?_) (he _)
 obtain⟨d,rfl,q⟩:=q1
 cases r1
 exact wpAny_truthy_bool ⟨H1,I1,q⟩
variable {tA tB':TT}{ZgH:List Expr}
noncomputable def Znx(t u:TT):TT:=fun σ H Q=>t σ H fun c H1=>if c=true then u σ H1 Q else Q false H1
noncomputable def tOr(t u:TT):TT:=fun σ H Q=>t σ H fun c H1=>if c=true then Q true H1 else u σ H1 Q
noncomputable def ZmI(t:TT):TT:=fun σ H Q=>t σ H fun c H1=>Q (!c) H1
theorem Zjz(ha:PT X a tA):PW X (.BoolOp .And [a] pos) tA:=by
 intro wh pins s σ H Q I h
 refine isTrue_and (thn (ha pins s σ H Q I h) fun c s1 e=>?_)
 cases c with
 |true=>exact isTrue_and_nil e
 |false=>exact e
theorem VO(ha:PT X a tA):PW X (.BoolOp .Or [a] pos) tA:=by
 intro wh pins s σ H Q I h
 refine isTrue_or (thn (ha pins s σ H Q I h) fun c s1 e=>?_)
 cases c with
 |false=>exact isTrue_or_nil e
 |true=>exact e
theorem Zla(ha:PT X a tA)(hb:PW X (.BoolOp .And (b::ZgH) pos) tB'):PW X (.BoolOp .And (a::b::ZgH) pos) (Znx tA tB'):=by
 intro wh pins s σ H Q I h
 refine isTrue_and (thn (ha pins s σ H _ I h) fun c s1 ⟨H1,I1,q1⟩=>?_)
 cases c with
 |true=>exact hb wh pins s1 σ H1 Q I1 q1
 |false=>exact⟨H1,I1,q1⟩
theorem UH(ha:PT X a tA)(hb:PW X (.BoolOp .Or (b::ZgH) pos) tB'):PW X (.BoolOp .Or (a::b::ZgH) pos) (tOr tA tB'):=by
 intro wh pins s σ H Q I h
 refine isTrue_or (thn (ha pins s σ H _ I h) fun c s1 ⟨H1,I1,q1⟩=>?_)
 cases c with
 |true=>exact⟨H1,I1,q1⟩
 |false=>exact hb wh pins s1 σ H1 Q I1 q1
theorem Vi(ha:PT X a tA):PT X (.UnaryOp .Not a pos) (ZmI tA):=by
 intro pins s σ H Q I h
 exact isTrue_not (ha pins s σ H (fun c H1=>Q (!c) H1) I h)
noncomputable def ZkS(ta tb:TE):TE:=fun σ H Q=>ta σ H fun x H1=>∃c,x=.bl c/\if c=true then tb σ H1 Q else Q (.bl false) H1
noncomputable def ZkL(ta:TE):TE:=fun σ H Q=>ta σ H fun x H1=>∃c,x=.bl c/\Q (.bl (!c)) H1
theorem Zar{op}{t:TE}(h:PE X a t):PE X (.BoolOp op [a] pos) t:=fun pins s σ H Q I hw=>BoolOp_one (h pins s σ H Q I hw)
theorem Zas(ha:PE X a ta)(hb:PE X (.BoolOp .And (b::ZgH) pos) tb):PE X (.BoolOp .And (a::b::ZgH) pos) (ZkS ta tb):=by
 intro pins s σ H Q I h
 refine BoolOp_and (thn (ha pins s σ H _ I h) fun v s1 ⟨x,H1,I1,r1,q1⟩=>?_)
 obtain⟨c,rfl,q1⟩:=q1
 cases r1
 refine wpAny_truthy_bool ?_
 cases c with
 |true=>exact hb pins s1 σ H1 Q I1 q1
 |false=>exact⟨.bl false,H1,I1,rfl,q1⟩
theorem ZiD(ha:PE X a ta):PE X (.UnaryOp .Not a pos) (ZkL ta):=by
 intro pins s σ H Q I h
 refine UnaryOp_ (thn (ha pins s σ H _ I h) fun v s1 ⟨x,H1,I1,r1,q1⟩=>?_)
 obtain⟨c,rfl,q1⟩:=q1
 cases r1
 exact not_of (wpAny_truthy_bool ⟨.bl (!c),H1,I1,rfl,q1⟩)
end
def SqL(K:W.Frag)(H:Hp)(a:Addr)(xs:List V):Prop:=
 Rd H a (.lst xs) \/
  ∃(o:Obj) (its:Array Value) (n:Nat),K.lookup a=some o/\o.cls=.type "list"/\o.dict=none/\o.data=.seq its n/\its.size<=sizeLine/\ZR xs its.toList
def SqT(K:W.Frag)(H:Hp)(a:Addr)(xs:List V):Prop:=
 Rd H a (.tup xs) \/
  ∃(o:Obj) (its:Array Value) (n:Nat),K.lookup a=some o/\o.cls=.type "tuple"/\o.data=.seq its n/\its.size<=sizeLine/\ZR xs its.toList
noncomputable def ZnX:Value->Option V
 |.none=>some .non
 |.bool b=>some (.bl b)
 |.int i _=>some (.int i)
 |.str x _=>some (.str x)
 |.bytes b _=>some (.byt b)
 |.float b _=>some (.flt b)
 |.ref a=>some (.ref a)
 |.type n=>some (.ty n)
 |_=>none
theorem Jn.abs{x:V}{u:Value}(r:Jn x u):ZnX u=some x:=by
 cases x with
 |non=>cases r;rfl
 |bl _=>cases r;rfl
 |int _=>obtain⟨t,rfl⟩:=r;rfl
 |str _=>obtain⟨t,rfl⟩:=r;rfl
 |byt _=>obtain⟨t,rfl⟩:=r;rfl
 |flt _=>obtain⟨t,rfl⟩:=r;rfl
 |ref _=>cases r;rfl
 |ty _=>cases r;rfl
theorem Jn.inj{x y:V}{u:Value}(r:Jn x u)(q:Jn y u):x=y:=Option.some.inj (r.abs.symm.trans q.abs)
theorem ZR.inj:∀{xs ys:List V}{us:List Value},ZR xs us->ZR ys us->xs=ys
 |_,_,_,.nil,.nil=>rfl
 |_,_,_,.cons r t,.cons r' t'=>by rw[r.inj r',ZR.inj t t']
section
variable {X:Cx}{pins:List (Addr×Obj)}{σ:St}{H:Hp}{s:Shared}{a:Addr}{xs ys:List V}
theorem SqL.of{K:W.Frag}(h:H a=some (.lst xs)):SqL K H a xs:=.inl (.inl h)
theorem Inv.list(I:Inv X pins σ H s)(h:SqL X.K H a xs):∃its:List Value,ZR xs its/\PlainL s.heap a its.toArray/\xs.length<=sizeLine:=by
 rcases h with h|⟨o,its,n,hk,hc,hd,hs,hz,r⟩
 ·obtain⟨z,its,n,r,e⟩:=h.ok I.hok
  exact⟨its,r,⟨_,n,e,rfl,rfl,rfl⟩,z⟩
 ·refine⟨its.toList,r,⟨o,n,I.kIn a o hk,hc,hd,by simpa using hs⟩, ?_⟩
  have e:=r.length
  simp only[Ztd] at e
  omega
theorem Inv.tuple(I:Inv X pins σ H s)(h:SqT X.K H a xs):∃its:List Value,ZR xs its/\IsTup s.heap a its.toArray/\xs.length<=sizeLine:=by
 rcases h with h|⟨o,its,n,hk,hc,hs,hz,r⟩
 ·obtain⟨z,its,r,p⟩:=h.ok I.hok
  exact⟨its,r,p,z⟩
 ·refine⟨its.toList,r,⟨o,I.kIn a o hk,hc,n,by simpa using hs⟩, ?_⟩
  have e:=r.length
  simp only[Ztd] at e
  omega
theorem Inv.list_inj(I:Inv X pins σ H s)(h:SqL X.K H a xs)(h':SqL X.K H a ys):xs=ys:=by
 obtain⟨its,r,⟨o,n,e,_,_,d⟩,_⟩:=I.list h
 obtain⟨its',r',⟨o',n',e',_,_,d'⟩,_⟩:=I.list h'
 rw[e] at e';cases e'
 rw[d] at d'
 injection d' with d1 _
 have:its=its':=by simpa using congrArg Array.toList d1
 subst this
 exact r.inj r'
theorem Inv.tuple_inj(I:Inv X pins σ H s)(h:SqT X.K H a xs)(h':SqT X.K H a ys):xs=ys:=by
 obtain⟨its,r,⟨o,e,_,n,d⟩,_⟩:=I.tuple h
 obtain⟨its',r',⟨o',e',_,n',d'⟩,_⟩:=I.tuple h'
 rw[e] at e';cases e'
 rw[d] at d'
 injection d' with d1 _
 have:its=its':=by simpa using congrArg Array.toList d1
 subst this
 exact r.inj r'
end
noncomputable abbrev Cx.wish(X:Cx)(E:Value->Shared->Prop):Cx:={ X with xe:=E }
noncomputable abbrev Cx.nox(X:Cx):Cx:=X.wish fun _ _=>False
theorem Cx.Ok.wish{X:Cx}(ok:X.Ok)(E:Value->Shared->Prop):(X.wish E).Ok:=
 ⟨ok.mod,ok.kind,ok.glob,ok.blt,ok.above,ok.inj,ok.has,ok.cab,ok.hd,ok.frames,ok.stk,ok.exf,ok.bs,ok.bsz,ok.noex,ok.exfs,ok.funs,ok.frf,ok.tab⟩
theorem Cx.Ok.unwish{X:Cx}{E:Value->Shared->Prop}(ok:(X.wish E).Ok):X.Ok:=
 ⟨ok.mod,ok.kind,ok.glob,ok.blt,ok.above,ok.inj,ok.has,ok.cab,ok.hd,ok.frames,ok.stk,ok.exf,ok.bs,ok.bsz,ok.noex,ok.exfs,ok.funs,ok.frf,ok.tab⟩
section
variable {X:Cx}{pins:List (Addr×Obj)}{σ:St}{H:Hp}{s:Shared}{E:Value->Shared->Prop}
theorem Inv.wish(I:Inv X pins σ H s)(E:Value->Shared->Prop):Inv (X.wish E) pins σ H s:=⟨I.ok.wish E,I.os,I.bare,I.base,I.loc,I.cell,I.free,I.freeC,I.pin,I.hok,I.len⟩
theorem Inv.unwish(I:Inv (X.wish E) pins σ H s):Inv X pins σ H s:=⟨I.ok.unwish,I.os,I.bare,I.base,I.loc,I.cell,I.free,I.freeC,I.pin,I.hok,I.len⟩
theorem SP.unwish{D:Zis}{f:Flow}{s':Shared}(h:SP (X.wish E) pins D f s'):SP X pins D f s':=by
 cases f with
 |next=>obtain⟨σ',H',I,q⟩:=h;exact⟨σ',H',I.unwish,q⟩
 |brk=>obtain⟨σ',H',I,q⟩:=h;exact⟨σ',H',I.unwish,q⟩
 |cont=>obtain⟨σ',H',I,q⟩:=h;exact⟨σ',H',I.unwish,q⟩
 |ret u=>obtain⟨v,σ',H',I,r,q⟩:=h;exact⟨v,σ',H',I.unwish,r,q⟩
theorem PSs.nox{st:List Stmt}{t:TS}(h:PSs X.nox st t):PSs X st t:=fun pins s σ H D I hw =>
 wpAny_mono (h pins s σ H D (I.wish _) hw) (fun _ _ q=>q.unwish) fun _ _ z=>False.elim z
end
section
variable {X:Cx}{st:Stmt}{ZgH:List Stmt}{t u:TS}{e:Expr}{te:TE}{pos:Pos}
noncomputable def ZkM:TS:=fun D σ H=>D.nx σ H
noncomputable def Znu(t u:TS):TS:=fun D σ H=>t { D with nx:=u D } σ H
theorem ZA:PSs X [] ZkM:=fun _ _ σ H _ I h=>wpAny_execs_nil ⟨σ,H,I,h⟩
theorem Zc(h1:PS X st t)(h2:PSs X ZgH u):PSs X (st::ZgH) (Znu t u):=by
 intro pins s σ H D I h
 refine wpAny_execs_cons (thn (h1 pins s σ H { D with nx:=u D } I h) fun f s1 q=>?_)
 cases f with
 |next =>
  obtain⟨σ',H',I',q⟩:=q
  exact h2 pins s1 σ' H' D I' q
 |ret v=>exact q
 |brk=>exact q
 |cont=>exact q
theorem Zg(h1:PS X st t):PSs X [st] t:=by
 intro pins s σ H D I h
 refine wpAny_execs_cons (thn (h1 pins s σ H D I h) fun f s1 q=>?_)
 cases f with
 |next=>exact wpAny_execs_nil q
 |ret v=>exact q
 |brk=>exact q
 |cont=>exact q
theorem Inv.quiet{pins:List (Addr×Obj)}{σ:St}{H:Hp}{s:Shared}(I:Inv X pins σ H s):interactive X.env=false:=by simp[interactive,I.ok.kind]
noncomputable def ZeV(te:TE):TS:=fun D σ H=>te σ H fun _ H1=>D.nx σ H1
theorem J4(he:PE X e te)(hs:swapsWith e none pos.line X.env=pure false:=by rfl):PS X (.Expr e pos) (ZeV te):=by
 intro pins s σ H D I h
 exact wpAny_Expr_any (thn (he pins s σ H _ I h) fun v s1 ⟨x,H1,I1,r1,q1⟩=>⟨σ,H1,I1,q1⟩) I.quiet hs
noncomputable def Zmy(te:TE):TS:=fun D σ H=>te σ H D.rt
theorem Zy(he:PE X e te):PS X (.Return (some e) pos) (Zmy te):=by
 intro pins s σ H D I h
 exact wpAny_Return_some (thn (he pins s σ H _ I h) fun v s1 ⟨x,H1,I1,r1,q1⟩=>⟨x,σ,H1,I1,r1,q1⟩)
noncomputable def ZmJ(c:TT)(t u:TS):TS:=fun D σ H=>c σ H fun b H1=>if b=true then t D σ H1 else u D σ H1
theorem Jl{c:Expr}{a b:List Stmt}{tc:TT}(hc:PT X c tc)(ha:PSs X a t)(hb:PSs X b u):PS X (.If c a b pos) (ZmJ tc t u):=by
 intro pins s σ H D I h
 refine wpAny_If (thn (hc pins s σ H _ I h) fun d s1 ⟨H1,I1,q1⟩=>?_)
 cases d with
 |true=>exact ha pins s1 σ H1 D I1 q1
 |false=>exact hb pins s1 σ H1 D I1 q1
noncomputable def Zi0:TS:=fun _ _ _=>False
theorem Ur:PS X st Zi0:=fun _ _ _ _ _ _ h=>h.elim
end
noncomputable abbrev TG:=V->St->Hp->(St->Hp->Prop)->Prop
noncomputable abbrev TGs:=List V->St->Hp->(St->Hp->Prop)->Prop
def PG(X:Cx)(target:Expr)(t:TG):Prop:=
 ∀(pins:List (Addr×Obj)) (s:Shared) (σ:St) (H:Hp) (v:V) (u:Value) (Q:St->Hp->Prop),Inv X pins σ H s->Jn v u->t v σ H Q ->
  wpAny (model X.prog X.w) X.A (assign target X.env u) (fun _ s'=>∃σ' H',Inv X pins σ' H' s'/\Q σ' H') X.xe s
def PGs(X:Cx)(ts:List Expr)(t:TGs):Prop:=
 ∀(pins:List (Addr×Obj)) (s:Shared) (σ:St) (H:Hp) (vs:List V) (us:List Value) (Q:St->Hp->Prop),Inv X pins σ H s->ZR vs us->t vs σ H Q ->
  wpAny (model X.prog X.w) X.A (assignInOrder ((assignEach ts X.env).map (·.2)) us) (fun _ s'=>∃σ' H',Inv X pins σ' H' s'/\Q σ' H') X.xe s
noncomputable abbrev Zms:=V->V->V->Hp->(Hp->Prop)->Prop
def Zno(X:Cx)(t:Zms):Prop:=
 ∀(pins:List (Addr×Obj)) (s:Shared) (σ:St) (H:Hp) (o i v:V) (ov iv u:Value) (Q:Hp->Prop),Inv X pins σ H s->Jn o ov->Jn i iv->Jn v u->t o i v H Q ->
  wpAny (model X.prog X.w) X.A (setItem ov iv u) (fun _ s'=>∃H',Inv X pins σ H' s'/\Q H') X.xe s
noncomputable abbrev TIp:=V->V->Hp->VK->Prop
def PIp(X:Cx)(op:Operator)(t:TIp):Prop:=
 ∀(pins:List (Addr×Obj)) (s:Shared) (σ:St) (H:Hp) (x y:V) (v u:Value) (Q:VK),Inv X pins σ H s->Jn x v->Jn y u->t x y H Q ->
  wpAny (model X.prog X.w) X.A (inplaceOp op v u) (EP X pins σ Q) X.xe s
section
variable {X:Cx}{pos:Pos}
noncomputable def QP(i:Nat):TG:=fun v σ H Q=>Q (σ.set i (some v)) H
theorem Jb{i:Nat}{x:Str}(hN:X.N.Nodup)(hi:X.N[i]?=some x)(hx:Loc X.env.scope x)(hf:X.fn x=true\/X.env.scope.names.lookup x=some .local:=by first|exact .inl rfl|exact .inr rfl|assumption):PG X (.Name x pos) (QP i):=by
 intro pins s σ H v u Q I r h
 exact wpAny_assign_Name (Qi I hN hi hx r (fun s' I'=>⟨_,H,I',h⟩) hf)
noncomputable def ZnB:TGs:=fun vs σ H Q=>vs=[]/\Q σ H
noncomputable def Zkd(t:TG)(u:TGs):TGs:=fun vs σ H Q=>∃v r,vs=v::r/\t v σ H fun σ' H'=>u r σ' H' Q
theorem Zj4:PGs X [] ZnB:=by
 intro pins s σ H vs us Q I r h
 obtain⟨e,h⟩:=h
 subst e
 cases r
 exact assignInOrder_nil ⟨σ,H,I,h⟩
theorem Zdx{e:Expr}{es:List Expr}{t:TG}{u:TGs}(h1:PG X e t)(h2:PGs X es u)(hs:(assignEach (e::es) X.env).map (·.2)=assign e X.env::(assignEach es X.env).map (·.2):=by rfl):PGs X (e::es) (Zkd t u):=by
 intro pins s σ H vs us Q I r h
 obtain⟨v,vr,e1,h⟩:=h
 subst e1
 cases r with
 |cons r rr =>
  rw[hs]
  refine assignInOrder_cons (thn (h1 pins s σ H _ _ _ I r h) fun _ s1 ⟨σ1,H1,I1,q1⟩=>?_)
  exact h2 pins s1 σ1 H1 _ _ Q I1 rr q1
noncomputable def Zn9(K:W.Frag)(n:Nat)(t:TGs):TG:=fun v σ H Q=>∃a xs,v=.ref a/\SqT K H a xs/\xs.length=n/\t xs σ H Q
theorem Zlc{es:List Expr}{k:Nat}{t:TGs}{n:Nat}(hc:X.calm=true)(h:PGs X es t)(hn:(assignEach es X.env).length=n:=by rfl)(hst:(assignEach es X.env).findIdx? (·.1)=none:=by rfl):PG X (.Tuple es k pos) (Zn9 X.K n t):=by
 intro pins s σ H v u Q I r hw
 obtain⟨a,xs,e1,hq,hl,hw⟩:=hw
 subst e1
 cases r
 obtain⟨its,rv,ht,hz⟩:=I.tuple hq
 refine assign_Tuple_tuple (I.ok.hd hc) ht (by simp[hn,<- hl,rv.length]) hst fun h' hx=>?_
 have I1:Inv X pins σ H { s with heap:=h' }:=I.kept (t':=s.toks) fun b o e=>hx b o (Zt1 (Heap.lt_size e)) e
 exact h pins _ σ H xs _ Q I1 (by simpa using rv) hw
noncomputable def ZnA(to ti:TE)(t:Zms):TG:=fun v σ H Q=>to σ H fun o H1=>ti σ H1 fun i H2=>t o i v H2 fun H3=>Q σ H3
theorem Zfw{o i:Expr}{to ti:TE}{t:Zms}(ho:PE X o to)(hi:PE X i ti)(hs:Zno X t)(ha:∀v,assign (.Subscript o i pos) X.env v=(do
   let ov <- holding [v] (eval o X.env)
   let iv <- holding [v,ov] (eval i X.env)
   standAt pos
   holding [v,ov,iv] (setItem ov iv v)
   release [v,ov,iv] []):=by exact fun _=>rfl):PG X (.Subscript o i pos) (ZnA to ti t):=by
 intro pins s σ H v u Q I r h
 rw[ha]
 refine wpAny_bind (wpAny_holding (thn (ho pins s σ H _ I h) fun ov s1 ⟨x,H1,I1,r1,q1⟩=>?_))
 refine wpAny_bind (wpAny_holding (thn (hi pins s1 σ H1 _ I1 q1) fun iv s2 ⟨y,H2,I2,r2,q2⟩=>?_))
 refine wpAny_bind (wpAny_standAt (wpAny_bind (wpAny_holding (thn (hs pins s2 σ H2 x y v ov iv u _ I2 r1 r2 r q2) fun _ s3 ⟨H3,I3,q3⟩=>?_))))
 exact wpAny_release ⟨σ,H3,I3,q3⟩
noncomputable def Zk4(te:TE)(g:TG):TS:=fun D σ H=>te σ H fun x H1=>g x σ H1 D.nx
theorem Zfq{tg e:Expr}{te:TE}{g:TG}(he:PE X e te)(hg:PG X tg g)(hs:swapsWithSole [tg] e pos.line X.env=pure false:=by rfl)(hw:swappedStores [tg] e X.env=pure none:=by rfl)(h1:(assignEach [tg] X.env).map (·.2)=[assign tg X.env]:=by rfl):PS X (.Assign [tg] e pos) (Zk4 te g):=by
 intro pins s σ H D I h
 refine wpAny_Assign_stores (thn (he pins s σ H _ I h) fun v s1 ⟨x,H1,I1,r1,q1⟩=>?_) hs hw
 rw[h1]
 exact thn (hg pins s1 σ H1 x v _ I1 r1 q1) fun _ s2 q=>q
theorem Z2{i:Nat}{x:Str}{e:Expr}{te:TE}{pos':Pos}(hN:X.N.Nodup)(hi:X.N[i]?=some x)(hx:Loc X.env.scope x)(he:PE X e te)(hs:swapsWith e (some (.Name x pos')) pos.line X.env=pure false:=by rfl)(hf:X.fn x=true\/X.env.scope.names.lookup x=some .local:=by first|exact .inl rfl|exact .inr rfl|assumption) :
  PS X (.Assign [.Name x pos'] e pos) (Zk4 te (QP i)):=by
 intro pins s σ H D I h
 refine wpAny_Assign_Name (thn (he pins s σ H _ I h) fun v s1 ⟨y,H1,I1,r1,q1⟩=>?_) hs
 exact Qi I1 hN hi hx r1 (fun s2 I2=>⟨_,H1,I2,q1⟩) hf
noncomputable def Znw(i:Nat)(te:TE)(ti:TIp):TS:=fun D σ H=>∃x,σ[i]?=some (some x)/\te σ H fun y H1=>ti x y H1 fun z H2=>D.nx (σ.set i (some z)) H2
theorem ZiC{i:Nat}{x:Str}{e:Expr}{te:TE}{op:Operator}{ti:TIp}{pos':Pos}(hN:X.N.Nodup)(hi:X.N[i]?=some x)(hx:Loc X.env.scope x)(he:PE X e te)(ho:PIp X op ti)(hf:X.fn x=true\/X.env.scope.names.lookup x=some .local:=by first|exact .inl rfl|exact .inr rfl|assumption) :
  PS X (.AugAssign (.Name x pos') op e pos) (Znw i te ti):=by
 intro pins s σ H D I h
 obtain⟨v,e1,h⟩:=h
 obtain⟨m,hn,hl⟩:=I.loc
 have vis:Vis X.env.scope x:=by rcases hx with k|k;exact .inl k;exact .inr (.inl k)
 obtain⟨u,r,l⟩:=hl i x v hi e1 vis
 refine wpAny_AugAssign_Name ?_
 have go:wpAny (model X.prog X.w) X.A (eval e X.env) (fun w s₂=>wpAny (model X.prog X.w) X.A (inplaceOp op u w) (fun r s₃=>wpAny (model X.prog X.w) X.A (storeName X.env x r) (fun _=>SP X pins D .next) X.xe s₃) X.xe s₂) X.xe s:=by
  refine thn (he pins s σ H _ I h) fun w s1 ⟨y,H1,I1,r1,q1⟩=>?_
  refine thn (ho pins s1 σ H1 v y u w _ I1 r r1 q1) fun z s2 ⟨zv,H2,I2,r2,q2⟩=>?_
  exact Qi I2 hN hi hx r2 (fun s3 I3=>⟨_,H2,I3,q2⟩) hf
 rcases l with ⟨hk,hm⟩|⟨hk,c,hc,hcell⟩
 ·exact wpAny_loadName_local I.ok.kind hk hn hm go
 ·rcases hk with hk|hk
  ·exact wpAny_loadName_cell I.ok.kind hk hc hcell go
  ·rcases hx with k|k
   ·have:X.env.scope.names.lookup x=some .free:=hk
    rw[k] at this;cases this
   ·have:X.env.scope.names.lookup x=some .free:=hk
    rw[k] at this;cases this
noncomputable def ZkR(to ti te:TE)(tget:V->V->Hp->VK->Prop)(tip:TIp)(tset:Zms):TS:=fun D σ H=>to σ H fun o H1=>ti σ H1 fun i H2=>tget o i H2 fun x H3=>te σ H3 fun y H4=>tip x y H4 fun z H5=>tset o i z H5 fun H6=>D.nx σ H6
def Znp(X:Cx)(t:V->V->Hp->VK->Prop):Prop:=
 ∀(pins:List (Addr×Obj)) (s:Shared) (σ:St) (H:Hp) (o i:V) (ov iv:Value) (Q:VK),Inv X pins σ H s->Jn o ov->Jn i iv->t o i H Q ->
  wpAny (model X.prog X.w) X.A (getItem ov iv) (EP X pins σ Q) X.xe s
theorem Q7{o i e:Expr}{to ti te:TE}{tget:V->V->Hp->VK->Prop}{tip:TIp}{tset:Zms}{op:Operator}{tpos:Pos}(ho:PE X o to)(hi:PE X i ti)(hg:Znp X tget)(he:PE X e te)(hp:PIp X op tip)(hs:Zno X tset)(ha:∀ov iv new,augStore i ov iv new=(do holding [new,ov,iv] (setItem ov iv new);release [new,ov,iv] [];pure .next):=by intros;rfl):PS X (.AugAssign (.Subscript o i tpos) op e pos) (ZkR to ti te tget tip tset):=by
 intro pins s σ H D I h
 refine wpAny_AugAssign_SubscriptAny (thn (ho pins s σ H _ I h) fun ov s1 ⟨x1,H1,I1,r1,q1⟩=>?_) ha
 refine thn (hi pins s1 σ H1 _ I1 q1) fun iv s2 ⟨x2,H2,I2,r2,q2⟩=>?_
 refine thn (hg pins s2 σ H2 x1 x2 ov iv _ I2 r1 r2 q2) fun old s3 ⟨x3,H3,I3,r3,q3⟩=>?_
 refine thn (he pins s3 σ H3 _ I3 q3) fun v s4 ⟨x4,H4,I4,r4,q4⟩=>?_
 refine thn (hp pins s4 σ H4 x3 x4 old v _ I4 r3 r4 q4) fun new s5 ⟨x5,H5,I5,r5,q5⟩=>?_
 exact thn (hs pins s5 σ H5 x1 x2 x5 ov iv new _ I5 r1 r2 r5 q5) fun _ s6 ⟨H6,I6,q6⟩=>⟨σ,H6,I6,q6⟩
noncomputable def ipI(f:Int->Int->Int):TIp:=fun x y H Q=>∃i j,x=.int i/\y=.int j/\Q (.int (f i j)) H
theorem QK:PIp X .Add (ipI fun i j=>i+j):=by
 intro pins s σ H x y v u Q I r1 r2 h
 obtain⟨i,j,e1,e2,q⟩:=h
 subst e1;subst e2
 obtain⟨t,rfl⟩:=r1
 obtain⟨t',rfl⟩:=r2
 exact iadd_int ⟨.int _,H,I.tok _,⟨_,rfl⟩,q⟩
noncomputable def Ziz(c:TT)(tb:TS):TS:=fun D σ H=>∃W:Nat->St->Hp->Prop,(∃m,W m σ H)/\∀m σ H,W m σ H ->
 c σ H fun b H1=>if b=true then ∃N:St->Hp->Prop,(∀σ' H',N σ' H'->∃m',m'<m/\W m' σ' H')/\tb { D with nx:=N,ct:=N,bk:=D.nx } σ H1 else D.nx σ H1
theorem Qk{c:Expr}{body:List Stmt}{tc:TT}{tb:TS}(hp:PassesOwn (model X.prog X.w) X.A X.env X.xe)(hc:PT X c tc)(hb:PSs X body tb):PS X (.While c body [] pos) (Ziz tc tb):=by
 intro pins s σ H D I h
 obtain⟨W,⟨m0,w0⟩,turn⟩:=h
 refine wpAny_While (codeAny_whileLoop (fun n s'=>∃σ' H',Inv X pins σ' H' s'/\W n σ' H') ?_ m0 ⟨σ,H,I,w0⟩)
 rintro n s1 ⟨σ1,H1,I1,w1⟩
 refine wpAny_passesOwn hp (thn (hc pins s1 σ1 H1 _ I1 (turn n σ1 H1 w1)) fun b s2 ⟨H2,I2,q2⟩=>?_)
 cases b with
 |true =>
  obtain⟨N,hN,q2⟩:=q2
  rw[if_pos rfl]
  refine wpAny_passesOwn hp (thn (hb pins s2 σ1 H2 _ I2 q2) fun f s3 q3=>?_)
  cases f with
  |next =>
   obtain⟨σ3,H3,I3,n3⟩:=q3
   obtain⟨m',hm,w3⟩:=hN σ3 H3 n3
   exact⟨m',hm,σ3,H3,I3,w3⟩
  |cont =>
   obtain⟨σ3,H3,I3,n3⟩:=q3
   obtain⟨m',hm,w3⟩:=hN σ3 H3 n3
   exact⟨m',hm,σ3,H3,I3,w3⟩
  |brk=>exact q3
  |ret v=>exact q3
 |false =>
  rw[if_neg Bool.false_ne_true]
  exact wpAny_execs_nil ⟨σ1,H2,I2,q2⟩
end
structure It where
 go:Nat->Hp->Prop
 yld:Nat->Hp->V->Hp->Prop
 stop:Nat->Hp->Prop
def ZgF(X:Cx)(pins:List (Addr×Obj))(H:Hp)(b:Addr):Prop:=
 H b=none/\b≠X.env.locals/\b ∉ X.fs/\(b∈X.ex\/X.s₀.heap.objs.size<=b)/\(∀x c,X.env.cells.lookup x=some c->c≠b)/\∀p∈X.pn++pins,p.1≠b
theorem Inv.fpOk{X:Cx}{pins:List (Addr×Obj)}{σ:St}{H H':Hp}{s:Shared}{b:Addr}(I:Inv X pins σ H s)(hb:s.heap.objs.size<=b)(hn:H' b=none):ZgF X pins H' b:=by
 refine⟨hn,ZuO (Zto I.lt hb),I.nofs hb,.inr (Ztr I.sz hb),fun x c e z=>?_,fun p hp z=>?_⟩
 ·obtain⟨v,q⟩:=I.cell x c e
  exact absurd (Zto q.lt (by rw[z];exact hb)) (ZtV _)
 ·exact absurd (Zto (Heap.lt_size (I.pin p hp).1) (by rw[z];exact hb)) (ZtV _)
structure Zk0(P:Program)(w:World)(K:PySem.W.Frag)(tg:Expr)(J:It)(fp:List Addr)(it:Addr)(tn:Nat->Heap->Prop):Prop where
 mem:it∈fp
 obj:∀i h,tn i h->∀b∈fp,∃o,h.get? b=some o/\∀v,o.data≠.cell v
 keep:∀i h h',tn i h->(∀b∈fp,∀o,h.get? b=some o->h'.get? b=some o)->tn i h'
 item:∀(X:Cx),X.prog=P->X.w=w->X.K=K->X.calm=true->∀(i:Nat) (pins:List (Addr×Obj)) (s:Shared) (σ:St) (H:Hp) (E:Value->Shared->Prop),Inv X pins σ H s->(∀b∈fp,ZgF X pins H b)->tn i s.heap->J.go i H ->
  wpAny (model P w) X.A (pyNext (.ref it)) (fun r s1=>∃u,r=some u /\
   wpAny (model P w) X.A (letOwnedTupleGo tg (.ref it) u) (fun _ s2=>∃x H',Inv X pins σ H' s2/\Jn x u/\J.yld i H x H'/\tn (i+1) s2.heap/\∀b∈fp,H' b=none) E s1) E s
 done:∀(X:Cx),X.prog=P->X.w=w->X.K=K->X.calm=true->∀(i:Nat) (pins:List (Addr×Obj)) (s:Shared) (σ:St) (H:Hp) (E:Value->Shared->Prop),Inv X pins σ H s->(∀b∈fp,ZgF X pins H b)->tn i s.heap->J.stop i H ->
  wpAny (model P w) X.A (pyNext (.ref it)) (fun r s1=>r=none/\Inv X pins σ H s1) E s
 self:∀(A:Around) (i:Nat) (s:Shared) (Q:Value->Shared->Prop) (E:Value->Shared->Prop),tn i s.heap->Q (.ref it) s->wpAny (model P w) A (pyIter (.ref it)) Q E s
noncomputable abbrev TI:=St->Hp->(It->Hp->Prop)->Prop
def PIE(X:Cx)(pins:List (Addr×Obj))(σ:St)(tg:Expr)(R:It->Hp->Prop)(itv:Value)(s2:Shared):Prop:=
 ∃(it:Addr) (fp:List Addr) (tn:Nat->Heap->Prop) (J:It) (H':Hp),itv=.ref it/\Inv X pins σ H' s2/\Zk0 X.prog X.w X.K tg J fp it tn/\tn 0 s2.heap/\(∀b∈fp,ZgF X pins H' b)/\R J H'
def PI(X:Cx)(tg iter:Expr)(wi:TI):Prop:=
 ∀(pins:List (Addr×Obj)) (s:Shared) (σ:St) (H:Hp) (R:It->Hp->Prop),Inv X pins σ H s->wi σ H R ->
  wpAny (model X.prog X.w) X.A (eval iter X.env) (fun v s1=>wpAny (model X.prog X.w) X.A (pyIter v) (PIE X pins σ tg R) X.xe s1) X.xe s
theorem ZhN{M:Model}{A:Around}{E:Value->Shared->Prop}{s:Shared}{tg:Expr}{it:Addr}{u:Value}{o:Obj}{n:String}{vs:Array Value}{Q:Unit->Shared->Prop}(ho:s.heap.get? it=some o)(hc:o.cls=.type n)(hd:o.data=.fields vs)(hn:["enumerate", "zip", "dict_itemiterator", "dict_reverseitemiterator", "odict_iterator", "itertools.zip_longest", "itertools.pairwise"].contains n=false)(hQ:Q () s):wpAny M A (letOwnedTupleGo tg (.ref it) u) Q E s:=by
 unfold letOwnedTupleGo
 cases tg<;>first
  |exact wpAny_pure hQ
  |(cases u<;>first
    |exact wpAny_pure hQ
    |(refine wpAny_bind (wpAny_load ho ?_)
      rw[hc,hd]
      show wpAny M A (if (["enumerate", "zip", "dict_itemiterator", "dict_reverseitemiterator", "odict_iterator", "itertools.zip_longest", "itertools.pairwise"].contains n&&vs[0]?==some (rawInt _))=true then _ else _) Q E s
      rw[if_neg (by intro h;rw[hn,Bool.false_and] at h;cases h)]
      exact wpAny_pure hQ))
noncomputable def Itl(K:W.Frag)(a:Addr):It:=
 ⟨fun i H=>∃xs x,SqL K H a xs/\xs[i]?=some x,fun i H x H'=>H'=H/\∀xs,SqL K H a xs->xs[i]?=some x,fun i H=>∃xs,SqL K H a xs/\xs.length<=i⟩
noncomputable def Itt(K:W.Frag)(a:Addr):It:=
 ⟨fun i H=>∃xs x,SqT K H a xs/\xs[i]?=some x,fun i H x H'=>H'=H/\∀xs,SqT K H a xs->xs[i]?=some x,fun i H=>∃xs,SqT K H a xs/\xs.length<=i⟩
noncomputable def Itr(lo:Int)(n:Nat):It:=⟨fun i _=>i<n,fun i H x H'=>H'=H/\x=.int (lo+i),fun i _=>n<=i⟩
theorem ZeP{P:Program}{w:World}{K:W.Frag}{tg:Expr}(a it:Addr):Zk0 P w K tg (Itl K a) [it] it (fun i h=>h.IsListIter it a i) where
 mem:=by simp
 obj:=fun i h st b hb=>by
  have e:b=it:=by simpa using hb
  subst e
  obtain⟨o,e,c,d⟩:=st
  exact⟨o,e,fun v z=>by rw[d] at z;cases z⟩
 keep:=fun i h h' st k=>st.at fun o e=>k it (by simp) o e
 item:=by
  intro X hP hw hK hc i pins s σ H E I hf st hg
  subst hP hw hK
  obtain⟨xs,x,hq,hx⟩:=hg
  obtain⟨its,rv,p,hz⟩:=I.list hq
  obtain⟨u,hu,ru⟩:=rv.get hx
  obtain⟨f0,f1,f2,f3,f4,f5⟩:=hf it (by simp)
  refine wpAny_pyNext_list_item st p.isList (x:=u) (by simpa using hu) fun h' st' sb=>?_
  have I1:Inv X pins σ H { s with heap:=h' }:=I.turned (t':=s.toks) (fun b o hb e=>(sb.2 b hb).trans e) f0 f1 f3 f4 f5
  obtain⟨o,e,c,d⟩:=id st'
  exact⟨u,rfl,ZhN (s:={ s with heap:=h' }) e c d (by decide) ⟨x,H,I1,ru,⟨rfl,fun ys hy=>by rw[I.list_inj hy hq];exact hx⟩,st',fun b hb=>(hf b hb).1⟩⟩
 done:=by
  intro X hP hw hK hc i pins s σ H E I hf st hg
  subst hP hw hK
  obtain⟨xs,hq,hx⟩:=hg
  obtain⟨its,rv,p,hz⟩:=I.list hq
  obtain⟨f0,f1,f2,f3,f4,f5⟩:=hf it (by simp)
  have hl:=rv.length
  exact wpAny_pyNext_list_end (I.ok.hd hc) st p.isList (by simp;omega) fun h' eb=>⟨rfl,I.turned (t':=s.toks) (fun b o hb e=>eb b o hb e) f0 f1 f3 f4 f5⟩
 self:=fun _ _ _ _ _ st h=>wpAny_pyIter_listiter st h
theorem Zed{P:Program}{w:World}{K:W.Frag}{tg:Expr}(a it:Addr):Zk0 P w K tg (Itt K a) [it] it (fun i h=>h.IsTupleIter it a i) where
 mem:=by simp
 obj:=fun i h st b hb=>by
  have e:b=it:=by simpa using hb
  subst e
  obtain⟨o,e,c,d⟩:=st
  exact⟨o,e,fun v z=>by rw[d] at z;cases z⟩
 keep:=fun i h h' st k=>st.at fun o e=>k it (by simp) o e
 item:=by
  intro X hP hw hK hc i pins s σ H E I hf st hg
  subst hP hw hK
  obtain⟨xs,x,hq,hx⟩:=hg
  obtain⟨its,rv,p,hz⟩:=I.tuple hq
  obtain⟨u,hu,ru⟩:=rv.get hx
  obtain⟨f0,f1,f2,f3,f4,f5⟩:=hf it (by simp)
  refine wpAny_pyNext_tuple_item st (show s.heap.IsTuple a its.toArray from p) (x:=u) (by simpa using hu) fun h' st' sb=>?_
  have I1:Inv X pins σ H { s with heap:=h' }:=I.turned (t':=s.toks) (fun b o hb e=>(sb.2 b hb).trans e) f0 f1 f3 f4 f5
  obtain⟨o,e,c,d⟩:=id st'
  exact⟨u,rfl,ZhN (s:={ s with heap:=h' }) e c d (by decide) ⟨x,H,I1,ru,⟨rfl,fun ys hy=>by rw[I.tuple_inj hy hq];exact hx⟩,st',fun b hb=>(hf b hb).1⟩⟩
 done:=by
  intro X hP hw hK hc i pins s σ H E I hf st hg
  subst hP hw hK
  obtain⟨xs,hq,hx⟩:=hg
  obtain⟨its,rv,p,hz⟩:=I.tuple hq
  obtain⟨f0,f1,f2,f3,f4,f5⟩:=hf it (by simp)
  have hl:=rv.length
  exact wpAny_pyNext_tuple_end (I.ok.hd hc) st (show s.heap.IsTuple a its.toArray from p) (by simp;omega) fun h' eb=>⟨rfl,I.turned (t':=s.toks) (fun b o hb e=>eb b o hb e) f0 f1 f3 f4 f5⟩
 self:=fun _ _ _ _ _ st h=>wpAny_pyIter_tupleiter st h
theorem Zee{P:Program}{w:World}{K:W.Frag}{tg:Expr}(it:Addr)(lo:Int)(n:Nat):Zk0 P w K tg (Itr lo n) [it] it (fun i h=>IsRangeIter h it (lo+(i:Nat)*1) ((n:Int)-(i:Nat)) 1) where
 mem:=by simp
 obj:=fun i h st b hb=>by
  have e:b=it:=by simpa using hb
  subst e
  exact⟨_,st,fun v z=>by
   have z':Data.fields _=Data.cell v:=z
   cases z'⟩
 keep:=fun i h h' st k=>k it (by simp) _ st
 item:=by
  intro X hP hw hK hc i pins s σ H E I hf st hg
  subst hP hw hK
  obtain⟨f0,f1,f2,f3,f4,f5⟩:=hf it (by simp)
  have W:=Walks.range (prog:=X.prog) (w:=X.w) (I.ok.hd hc) it lo 1 n
  refine W.item i s _ _ hg st fun v h' tk hv st' kk=>?_
  obtain⟨t,rfl⟩:=hv
  have I1:Inv X pins σ H { s with heap:=h',toks:=tk }:=I.turned (fun b o hb e=>kk b o (by simpa using hb) e) f0 f1 f3 f4 f5
  refine⟨_,rfl,ZhN (s:={ s with heap:=h',toks:=tk }) (n := "range_iterator") st' rfl rfl (by decide) ⟨.int (lo+i),H,I1,⟨t, ?_⟩,⟨rfl,rfl⟩,st',fun b hb=>(hf b hb).1⟩⟩
  rw[ZuX]
 done:=by
  intro X hP hw hK hc i pins s σ H E I hf st hg
  subst hP hw hK
  obtain⟨f0,f1,f2,f3,f4,f5⟩:=hf it (by simp)
  exact wpAny_pyNext_range_end (I.ok.hd hc) st (by have:n<=i:=hg;omega) fun h' eb=>⟨rfl,I.turned (t':=s.toks) (fun b o hb e=>eb b o hb e) f0 f1 f3 f4 f5⟩
 self:=fun _ _ _ _ _ st h=>wpAny_pyIter_rangeiter st h
section
variable {X:Cx}{tg:Expr}
noncomputable def ZcA(K:W.Frag)(tl:TE):TI:=fun σ H R=>tl σ H fun x H1=>∃a,x=.ref a/\(∃xs,SqL K H1 a xs)/\R (Itl K a) H1
noncomputable def Zm6(K:W.Frag)(tl:TE):TI:=fun σ H R=>tl σ H fun x H1=>∃a,x=.ref a/\(∃xs,SqT K H1 a xs)/\R (Itt K a) H1
theorem Zfv{l:Expr}{tl:TE}(hl:PE X l tl):PI X tg l (ZcA X.K tl):=by
 intro pins s σ H R I h
 refine thn (hl pins s σ H _ I h) fun v s1 ⟨x,H1,I1,r1,q1⟩=>?_
 obtain⟨a,e,⟨xs,hq⟩,q⟩:=q1
 subst e
 cases r1
 obtain⟨its,rv,p,hz⟩:=I1.list hq
 refine wpAny_pyIter_list p.isList ?_
 refine⟨s1.heap.objs.size,[s1.heap.objs.size],_,_,H1,rfl,I1.kept (t':=s1.toks) fun b o e=>Heap.get?_push_of_some _ e,ZeP a _,⟨_,Heap.get?_push_size _ rfl,rfl,rfl⟩,fun b hb=>?_,q⟩
 have e:b=s1.heap.objs.size:=by simpa using hb
 subst e
 exact I1.fpOk (ZsX _) (I1.hok.fresh (ZsX _))
theorem Zlb{l:Expr}{tl:TE}(hl:PE X l tl):PI X tg l (Zm6 X.K tl):=by
 intro pins s σ H R I h
 refine thn (hl pins s σ H _ I h) fun v s1 ⟨x,H1,I1,r1,q1⟩=>?_
 obtain⟨a,e,⟨xs,hq⟩,q⟩:=q1
 subst e
 cases r1
 obtain⟨its,rv,p,hz⟩:=I1.tuple hq
 refine wpAny_pyIter_tuple (show s1.heap.IsTuple a its.toArray from p) ?_
 refine⟨s1.heap.objs.size,[s1.heap.objs.size],_,_,H1,rfl,I1.kept (t':=s1.toks) fun b o e=>Heap.get?_push_of_some _ e,Zed a _,⟨_,Heap.get?_push_size _ rfl,rfl,rfl⟩,fun b hb=>?_,q⟩
 have e:b=s1.heap.objs.size:=by simpa using hb
 subst e
 exact I1.fpOk (ZsX _) (I1.hok.fresh (ZsX _))
theorem Zds{pins:List (Addr×Obj)}{σ:St}{H:Hp}{s:Shared}{R:It->Hp->Prop}{E:Value->Shared->Prop}{lo hi:Int}{t u v:Tok}{tk:Nat}(I:Inv X pins σ H s)(h1:-(2^62)<=lo)(h2:lo<2^62)(h3:-(2^62)<=hi)(h4:hi<2^62)(q:R (Itr lo (hi-lo).toNat) H):wpAny (model X.prog X.w) X.A (pyIter (.ref s.heap.objs.size)) (PIE X pins σ tg R) E { s with heap:=s.heap.push { cls:=.type "range",data:=.fields #[.int lo t,.int hi u,.int 1 v] },toks:=tk }:=by
 refine wpAny_pyIter_range (IsRange.new ..) (small_one h1 h2 h3 h4) ?_
 have I1:Inv X pins σ H { s with heap:=s.heap.push { cls:=.type "range",data:=.fields #[.int lo t,.int hi u,.int 1 v] },toks:=tk }:=I.kept fun b o e=>Heap.get?_push_of_some _ e
 refine⟨(s.heap.push { cls:=.type "range",data:=.fields #[.int lo t,.int hi u,.int 1 v] }).objs.size,[(s.heap.push { cls:=.type "range",data:=.fields #[.int lo t,.int hi u,.int 1 v] }).objs.size],_,_,H,rfl,
  I1.kept (t':=tk) fun b o e=>Heap.get?_push_of_some _ e,Zee _ lo (hi-lo).toNat, ?_,fun b hb=>?_,q⟩
 ·have e1:lo+((0:Nat):Int)*1=lo:=by simp
  have e2:(((hi-lo).toNat:Nat):Int)-((0:Nat):Int)=Builtin.Range.rangeSize lo hi 1:=by rw[rangeSize_one];split<;>omega
  show IsRangeIter _ _ (lo+((0:Nat):Int)*1) ((((hi-lo).toNat:Nat):Int)-((0:Nat):Int)) 1
  rw[e1,e2]
  exact Heap.get?_push_size _ rfl
 ·have e:b=(s.heap.push { cls:=.type "range",data:=.fields #[.int lo t,.int hi u,.int 1 v] }).objs.size:=by simpa using hb
  subst e
  exact I1.fpOk (ZsX _) (I1.hok.fresh (ZsX _))
noncomputable def ZlK(ta:TA):TI:=fun σ H R=>ta σ H fun vs H1=>∃j:Int,vs=[.int j]/\-(2^62)<=j/\j<2^62/\R (Itr 0 j.toNat) H1
noncomputable def ZlJ(ta:TA):TI:=fun σ H R=>ta σ H fun vs H1=>∃i j:Int,vs=[.int i,.int j]/\(-(2^62)<=i/\i<2^62/\-(2^62)<=j/\j<2^62)/\R (Itr i (j-i).toNat) H1
theorem Jg{a:Expr}{ta:TA}{p pos:Pos}(hg:Gl X "range")(hm:X.mg "range"=none)(ha:PA X [a] ta)(hs:starEach [a] X.env=[(false,eval a X.env)]:=by rfl):PI X tg (.Call (.Name "range" p) [a] [] pos) (ZlK ta):=by
 intro pins s σ H R I h
 refine Call_ (QI I hg hm boot_range (PyProof.Rows.callWith_type1 (thn (ha pos pins s σ H _ I h) fun us s1 ⟨vs,H1,I1,r1,q1⟩=>?_) hs rfl))
 obtain⟨j,e,q1,q2,q⟩:=q1
 subst e
 cases r1 with
 |cons r rr =>
  cases rr
  obtain⟨t,rfl⟩:=r
  exact call_range_1 (Zds I1 (by omega) (by omega) q1 q2 (by simpa using q))
theorem Zfu{a b:Expr}{ta:TA}{p pos:Pos}(hg:Gl X "range")(hm:X.mg "range"=none)(ha:PA X [a,b] ta)(hs:starEach [a,b] X.env=[(false,eval a X.env),(false,eval b X.env)]:=by rfl)(hs2:starEach [b] X.env=[(false,eval b X.env)]:=by rfl) :
  PI X tg (.Call (.Name "range" p) [a,b] [] pos) (ZlJ ta):=by
 intro pins s σ H R I h
 refine Call_ (QI I hg hm boot_range (PyProof.Rows.callWith_type1 (thn (ha pos pins s σ H _ I h) fun us s1 ⟨vs,H1,I1,r1,q1⟩=>?_) (by rw[hs,hs2]) (by rw[hs2];rfl)))
 obtain⟨i,j,e,⟨q1,q2,q3,q4⟩,q⟩:=q1
 subst e
 cases r1 with
 |cons r rr =>
  cases rr with
  |cons r' rr =>
   cases rr
   obtain⟨t,rfl⟩:=r
   obtain⟨t',rfl⟩:=r'
   exact call_range_2 (Zds I1 q1 q2 q3 q4 q)
noncomputable def ZmK(wi:TI)(g:TG)(tb:TS):TS:=fun D σ H=>wi σ H fun J H1=>∃W:Nat->Nat->St->Hp->Prop,(∃m,W 0 m σ H1)/\∀i m σ H,W i m σ H ->
 (J.stop i H/\D.nx σ H)\/(J.go i H/\∃N:St->Hp->Prop,(∀σ' H',N σ' H'->∃m',m'<m/\W (i+1) m' σ' H')/\∀x H',J.yld i H x H'->g x σ H' fun σ2 H2=>tb { D with nx:=N,ct:=N,bk:=D.nx } σ2 H2)
noncomputable def Zdw(fp:List Addr)(h:Heap):List (Addr×Obj):=fp.filterMap fun b=>(h.get? b).map fun o=>(b,o)
theorem JG{fp:List Addr}{h:Heap}{b:Addr}{o:Obj}(hb:b∈fp)(e:h.get? b=some o):(b,o)∈Zdw fp h:=List.mem_filterMap.mpr ⟨b,hb,by rw[e];rfl⟩
theorem ZfA{fp:List Addr}{h:Heap}{p:Addr×Obj}(hp:p∈Zdw fp h):p.1∈fp/\h.get? p.1=some p.2:=by
 obtain⟨b,hb,e⟩:=List.mem_filterMap.mp hp
 cases q:h.get? b with
 |none=>rw[q] at e;cases e
 |some o =>
  rw[q] at e
  have e':(b,o)=p:=Option.some.inj e
  subst e'
  exact⟨hb,q⟩
theorem Inv.pinned{pins:List (Addr×Obj)}{σ:St}{H:Hp}{s:Shared}{fp:List Addr}(I:Inv X pins σ H s)(hf:∀b∈fp,ZgF X pins H b)(ho:∀b∈fp,∃o,s.heap.get? b=some o/\∀v,o.data≠.cell v):Inv X (pins++Zdw fp s.heap) σ H s:=
 I.pins_of fun p hp=>(Zta.mp hp).elim (fun z=>I.pin p (ZsY _ z)) fun z=>by
  obtain⟨hb,e⟩:=ZfA z
  obtain⟨f0,f1,f2,_⟩:=hf p.1 hb
  obtain⟨o,e',d⟩:=ho p.1 hb
  rw[e] at e';cases e'
  exact⟨e,f0,f1,f2,d⟩
theorem Inv.unpinned{pins pl:List (Addr×Obj)}{σ:St}{H:Hp}{s:Shared}(I:Inv X (pins++pl) σ H s):Inv X pins σ H s:=I.pins_of fun p hp=>I.pin p (ZsY _ (Ztb _ hp))
theorem J8{iter:Expr}{body:List Stmt}{wi:TI}{g:TG}{tb:TS}{pos:Pos}(hp:PassesOwn (model X.prog X.w) X.A X.env X.xe)(hc:X.calm=true)(hi:PI X tg iter wi)(hg:PG X tg g)(hb:PSs X body tb)(hs:∀x,foldedSetIterable iter X.env x=pure x:=by exact fun _=>rfl):PS X (.For tg iter body [] pos) (ZmK wi g tb):=by
 intro pins s σ H D I h
 refine wpAny_For (thn (hi pins s σ H _ I h) fun v s1 h1=>thn h1 fun itv s2 h2=>?_) hs
 obtain⟨it,fp,tn,J,H2,e,I2,T,st2,f2,W,⟨m0,w0⟩,turn⟩:=h2
 subst e
 have stat:∀{H':Hp},(∀b∈fp,H' b=none)->∀b∈fp,ZgF X pins H' b:=fun hn b hb=>⟨hn b hb,(f2 b hb).2⟩
 refine codeAny_forLoop_any (fun n s'=>∃i σ' H',Inv X pins σ' H' s'/\tn i s'.heap/\(∀b∈fp,H' b=none)/\W i n σ' H') ?_ m0 ⟨0,σ,H2,I2,st2,fun b hb=>(f2 b hb).1,w0⟩
 rintro n s3 ⟨i,σ3,H3,I3,st3,fr3,w3⟩
 rcases turn i n σ3 H3 w3 with ⟨stop,qn⟩|⟨go,N,hN,step⟩
 ·refine wpAny_passesOwn hp (thn (T.done X rfl rfl rfl hc i pins s3 σ3 H3 X.xe I3 (stat fr3) st3 stop) fun r s4 ⟨hr,I4⟩=>?_)
  subst hr
  exact wpAny_execs_nil ⟨σ3,H3,I4,qn⟩
 ·refine wpAny_passesOwn hp (thn (T.item X rfl rfl rfl hc i pins s3 σ3 H3 X.xe I3 (stat fr3) st3 go) fun r s4 ⟨u,hr,h4⟩=>?_)
  subst hr
  refine wpAny_passesOwn hp (thn h4 fun _ s5 ⟨x,H5,I5,r5,y5,st5,fr5⟩=>?_)
  have I5':=I5.pinned (stat fr5) (T.obj _ _ st5)
  refine wpAny_passesOwn hp (thn (hg _ s5 σ3 H5 x u _ I5' r5 (step x H5 y5)) fun _ s6 ⟨σ6,H6,I6,q6⟩=>?_)
  refine wpAny_passesOwn hp (thn (hb _ s6 σ6 H6 _ I6 q6) fun f s7 q7=>?_)
  have again:∀{σ7:St}{H7:Hp},Inv X (pins++Zdw fp s5.heap) σ7 H7 s7->N σ7 H7->∃m,m<n/\∃i σ' H',Inv X pins σ' H' s7/\tn i s7.heap/\(∀b∈fp,H' b=none)/\W i m σ' H':=fun {σ7 H7} I7 n7=>by
   obtain⟨m',hm,w7⟩:=hN σ7 H7 n7
   refine⟨m',hm,i+1,σ7,H7,I7.unpinned,T.keep _ _ _ st5 fun b hb o e=>(I7.pin (b,o) (ZsY _ (ZsY _ (JG hb e)))).1,fun b hb=>?_,w7⟩
   obtain⟨o,e,d⟩:=T.obj _ _ st5 b hb
   exact(I7.pin (b,o) (ZsY _ (ZsY _ (JG hb e)))).2.1
  cases f with
  |next=>obtain⟨σ7,H7,I7,n7⟩:=q7;exact again I7 n7
  |cont=>obtain⟨σ7,H7,I7,n7⟩:=q7;exact again I7 n7
  |brk=>obtain⟨σ7,H7,I7,q7⟩:=q7;exact⟨σ7,H7,I7.unpinned,q7⟩
  |ret v=>obtain⟨x7,σ7,H7,I7,r7,q7⟩:=q7;exact⟨x7,σ7,H7,I7.unpinned,r7,q7⟩
end
noncomputable abbrev R2:=V->V->Hp->VK->Prop
def OpR(X:Cx)(f:Value->Value->Sem Value)(r:R2):Prop:=
 ∀(pins:List (Addr×Obj)) (s:Shared) (σ:St) (H:Hp) (x y:V) (v u:Value) (Q:VK),Inv X pins σ H s->Jn x v->Jn y u->r x y H Q ->
  wpAny (model X.prog X.w) X.A (f v u) (EP X pins σ Q) X.xe s
def Vc(X:Cx)(f:Value)(r:List V->Hp->VK->Prop):Prop:=
 ∀(pins:List (Addr×Obj)) (s:Shared) (σ:St) (H:Hp) (xs:List V) (us:List Value) (Q:VK),Inv X pins σ H s->ZR xs us->r xs H Q ->
  wpAny (model X.prog X.w) X.A (call f us) (EP X pins σ Q) X.xe s
def ZnY(X:Cx)(r:V->Hp->(Bool->Hp->Prop)->Prop):Prop:=
 ∀(pins:List (Addr×Obj)) (s:Shared) (σ:St) (H:Hp) (x:V) (v:Value) (Q:Bool->Hp->Prop),Inv X pins σ H s->Jn x v->r x H Q ->
  wpAny (model X.prog X.w) X.A (truthy v) (TP X pins σ Q) X.xe s
noncomputable def tOp(r:R2)(ta tb:TE):TE:=fun σ H Q=>ta σ H fun x H1=>tb σ H1 fun y H2=>r x y H2 Q
noncomputable def rI(C:Int->Int->Prop)(g:Int->Int->V):R2:=fun x y H Q=>∃i j,x=.int i/\y=.int j/\C i j/\Q (g i j) H
noncomputable def rI0(g:Int->Int->V):R2:=fun x y H Q=>∃i j,x=.int i/\y=.int j/\Q (g i j) H
section
variable {X:Cx}{a b:Expr}{ta tb:TE}{pos:Pos}
theorem Znj(ha:PE X a ta)(hb:PE X b tb){pins:List (Addr×Obj)}{s:Shared}{σ:St}{H:Hp}{R:V->V->Hp->Prop}(I:Inv X pins σ H s)(h:ta σ H fun x H1=>tb σ H1 fun y H2=>R x y H2){Q:Value->Shared->Prop}{f:Value->Value->Sem Value}(hf:∀v u s2 x y H2,Inv X pins σ H2 s2->Jn x v->Jn y u->R x y H2->wpAny (model X.prog X.w) X.A (f v u) Q X.xe s2) :
  wpAny (model X.prog X.w) X.A (eval a X.env) (fun v s₁=>wpAny (model X.prog X.w) X.A (eval b X.env) (fun u s₂=>wpAny (model X.prog X.w) X.A (f v u) Q X.xe s₂) X.xe s₁) X.xe s:=by
 refine thn (ha pins s σ H _ I h) fun v s1 ⟨x,H1,I1,r1,q1⟩=>?_
 refine thn (hb pins s1 σ H1 _ I1 q1) fun u s2 ⟨y,H2,I2,r2,q2⟩=>?_
 exact hf v u s2 x y H2 I2 r1 r2 q2
theorem Zz{op:Operator}{r:R2}(ho:OpR X (binaryOp op) r)(ha:PE X a ta)(hb:PE X b tb):PE X (.BinOp a op b pos) (tOp r ta tb):=by
 intro pins s σ H Q I h
 exact wpAny_BinOp (Znj ha hb I h fun v u s2 x y H2 I2 rx ry q=>ho pins s2 σ H2 x y v u Q I2 rx ry q)
theorem opI{f:Value->Value->Sem Value}{C:Int->Int->Prop}{g:Int->Int->Int}(rule:∀(i j:Int) (t u:Tok) (s:Shared) (Q:Value->Shared->Prop) (E:Value->Shared->Prop),C i j->Q (.int (g i j) s.toks) { s with toks:=s.toks+1 }->wpAny (model X.prog X.w) X.A (f (.int i t) (.int j u)) Q E s) :
  OpR X f (rI C fun i j=>.int (g i j)):=by
 intro pins s σ H x y v u Q I rx ry h
 obtain⟨i,j,rfl,rfl,hc,q⟩:=h
 obtain⟨t,rfl⟩:=rx
 obtain⟨t',rfl⟩:=ry
 exact rule i j t t' s _ _ hc ⟨.int (g i j),H,I.tok _,⟨_,rfl⟩,q⟩
theorem Zn6{f:Value->Value->Sem Value}{g:Int->Int->Int}(rule:∀(i j:Int) (t u:Tok) (s:Shared) (Q:Value->Shared->Prop) (E:Value->Shared->Prop),Q (.int (g i j) s.toks) { s with toks:=s.toks+1 }->wpAny (model X.prog X.w) X.A (f (.int i t) (.int j u)) Q E s) :
  OpR X f (rI0 fun i j=>.int (g i j)):=by
 intro pins s σ H x y v u Q I rx ry h
 obtain⟨i,j,rfl,rfl,q⟩:=h
 obtain⟨t,rfl⟩:=rx
 obtain⟨t',rfl⟩:=ry
 exact rule i j t t' s _ _ ⟨.int (g i j),H,I.tok _,⟨_,rfl⟩,q⟩
theorem Zm4{f:Value->Value->Sem Value}{g:Int->Int->Bool}(rule:∀(i j:Int) (t u:Tok) (s:Shared) (Q:Value->Shared->Prop) (E:Value->Shared->Prop),Q (.bool (g i j)) s->wpAny (model X.prog X.w) X.A (f (.int i t) (.int j u)) Q E s) :
  OpR X f (rI0 fun i j=>.bl (g i j)):=by
 intro pins s σ H x y v u Q I rx ry h
 obtain⟨i,j,rfl,rfl,q⟩:=h
 obtain⟨t,rfl⟩:=rx
 obtain⟨t',rfl⟩:=ry
 exact rule i j t t' s _ _ ⟨.bl (g i j),H,I,rfl,q⟩
def ZkD(i j:Int):Prop:=0<=j/\j<=1000000/\i.natAbs<2^64
theorem ZT:OpR X (binaryOp .Add) (rI0 fun i j=>.int (i+j)):=Zn6 fun _ _ _ _ _ _ _ q=>add_int q
theorem Zl0:OpR X (binaryOp .Sub) (rI0 fun i j=>.int (i-j)):=Zn6 fun _ _ _ _ _ _ _ q=>sub_int q
theorem Jd:OpR X (binaryOp .Mod) (rI (fun _ j=>0<j) fun i j=>.int (i%j)):=opI fun i j _ _ _ _ _ hc q=>by
 have h1:(0:Int)<j:=hc
 exact mod_int' (by omega) (by rw[Int.fmod_eq_emod_of_nonneg i (by omega)];exact q)
theorem Zl1:OpR X (binaryOp .Pow) (rI ZkD fun i j=>.int (i^j.toNat)):=opI fun _ _ _ _ _ _ _ hc q=>pow_int_small hc.1 hc.2.1 hc.2.2 q
variable {c:Expr}{tc:TE}
theorem ZiQ{pins:List (Addr×Obj)}{σ:St}{H:Hp}{s:Shared}{Q:VK}{k k':Bool}(I:Inv X pins σ H s)(q:Q (.bl k) H)(e:k=k'):EP X pins σ Q (.bool k') s:=by
 subst e
 exact⟨.bl k,H,I,rfl,q⟩
theorem Zf8:OpR X (compareOp .Lt) (rI0 fun i j=>.bl (decide (i<j))):=Zm4 fun _ _ _ _ _ _ _ q=>lt_int q
theorem Zl3:OpR X (compareOp .LtE) (rI0 fun i j=>.bl (decide (i<=j))):=Zm4 fun _ _ _ _ _ _ _ q=>le_int q
theorem Zeo:OpR X (compareOp .Gt) (rI0 fun i j=>.bl (decide (j<i))):=Zm4 fun _ _ _ _ _ _ _ q=>gt_int q
theorem ZmY:OpR X (compareOp .GtE) (rI0 fun i j=>.bl (decide (j<=i))):=Zm4 fun _ _ _ _ _ _ _ q=>ge_int q
theorem ZiG:OpR X (compareOp .Is) (fun x y H Q=>y=.non/\Q (.bl (decide (x=.non))) H):=by
 intro pins s σ H x y v u Q I rx ry h
 obtain⟨rfl,q⟩:=h
 cases ry
 refine is_none_gen (ZiQ I q ?_)
 cases x<;>first
  |(cases rx;rfl)
  |(obtain⟨t,rfl⟩:=rx;rfl)
theorem ZjK:OpR X (compareOp .IsNot) (fun x y H Q=>y=.non/\Q (.bl (!decide (x=.non))) H):=by
 intro pins s σ H x y v u Q I rx ry h
 obtain⟨rfl,q⟩:=h
 cases ry
 refine isnot_none_gen (ZiQ I q ?_)
 cases x<;>first
  |(cases rx;rfl)
  |(obtain⟨t,rfl⟩:=rx;rfl)
theorem ZF(b:Expr){op:CmpOp}(h:op≠.In:=by decide)(h2:op≠.NotIn:=by decide):behindInMarks op b=false:=by
 have e1:(op==CmpOp.In)=false:=by cases op<;>first|rfl|exact absurd rfl h
 have e2:(op==CmpOp.NotIn)=false:=by cases op<;>first|rfl|exact absurd rfl h2
 cases b<;>simp[behindInMarks,e1,e2]
theorem VY{op:CmpOp}{r:R2}(ho:OpR X (compareOp op) r)(ha:PE X a ta)(hb:PE X b tb)(hm:behindInMarks op b=false):PE X (.Compare a [op] [b] pos) (tOp r ta tb):=by
 intro pins s σ H Q I h
 exact wpAny_Compare1 (Znj ha hb I h fun v u s2 x y H2 I2 rx ry q=>ho pins s2 σ H2 x y v u Q I2 rx ry q) hm
noncomputable def Zjn(t:TE):TT:=fun σ H Q=>t σ H fun x H'=>∃k,x=.bl k/\Q k H'
theorem Z4{op:CmpOp}{r:R2}(ho:OpR X (compareOp op) r)(ha:PE X a ta)(hb:PE X b tb)(hm:behindInMarks op b=false):PT X (.Compare a [op] [b] pos) (Zjn (tOp r ta tb)):=by
 intro pins s σ H Q I h
 refine wpAny_isTrue_Compare1 (thn (ha pins s σ H _ I h) fun v s1 ⟨x,H1,I1,r1,q1⟩=>thn (hb pins s1 σ H1 _ I1 q1) fun u s2 ⟨y,H2,I2,r2,q2⟩ =>
  thn (ho pins s2 σ H2 x y v u _ I2 r1 r2 q2) fun c s3 ⟨z,H3,I3,r3,k,e,q3⟩=>?_) hm
 subst e
 cases r3
 exact wpAny_truthy_bool ⟨H3,I3,q3⟩
noncomputable def Zi2(r r':R2)(ta tb tc:TE):TE:=fun σ H Q=>ta σ H fun x H1=>tb σ H1 fun y H2=>r x y H2 fun z H3=>∃k,z=.bl k /\
 (if k=true then tc σ H3 fun w' H4=>r' y w' H4 Q else Q (.bl false) H3)
theorem Zhf{op op':CmpOp}{r r':R2}(ho:OpR X (compareOp op) r)(ho':OpR X (compareOp op') r')(ha:PE X a ta)(hb:PE X b tb)(hc:PE X c tc)(hm:lastMarks [op,op'] [b,c]=false:=by with_unfolding_all rfl):PT X (.Compare a [op,op'] [b,c] pos) (Zjn (Zi2 r r' ta tb tc)):=by
 intro pins s σ H Q I h
 refine isTrue_chain (thn (ha pins s σ H _ I h) fun v s1 ⟨x,H1,I1,r1,q1⟩=>test_link (thn (hb pins s1 σ H1 _ I1 q1) fun u s2 ⟨y,H2,I2,r2,q2⟩ =>
  thn (ho pins s2 σ H2 x y v u _ I2 r1 r2 q2) fun d s3 ⟨z,H3,I3,r3,k,e,q3⟩=>?_)) hm
 subst e
 cases r3
 refine wpAny_truthy_bool ?_
 cases k with
 |false =>
  obtain⟨k',e',q'⟩:=q3
  cases e'
  exact ite_ff ⟨H3,I3,q'⟩
 |true =>
  refine ite_tt (test_last (thn (hc pins s3 σ H3 _ I3 q3) fun w' s4 ⟨z',H4,I4,r4,q4⟩=>thn (ho' pins s4 σ H4 y z' u w' _ I4 r2 r4 q4) fun d' s5 ⟨z2,H5,I5,r5,k2,e2,q5⟩=>?_))
  subst e2
  cases r5
  exact wpAny_truthy_bool ⟨H5,I5,q5⟩
def Znn(K:W.Frag)(x:V)(H:Hp)(k:Bool):Prop:=
 match x with
 |.non=>k=false
 |.bl b=>k=b
 |.int i=>k=(i != 0)
 |.str y=>y.length<=sizeLine/\k=((y.length:Int) != 0)
 |.byt y=>y.size<=sizeLine/\k=((y.size:Int) != 0)
 |.ref p=>(∃xs,SqL K H p xs/\k=!xs.isEmpty)\/(∃xs,SqT K H p xs/\k=!xs.isEmpty)\/∃kvs,H p=some (.dK kvs)/\k=!kvs.isEmpty
 |_=>False
theorem Zew{κ:Type}{kvs:List (κ×V)}{vs:List (κ×Value)}(r:KV kvs vs):(!vs.isEmpty)=!kvs.isEmpty:=by
 cases r<;>rfl
theorem Zaz{xs:List V}{its:List Value}(r:ZR xs its):(!its.toArray.isEmpty)=!xs.isEmpty:=by
 cases r<;>simp
theorem QE:(sizeLine:Nat)<2^63:=by rw[sizeLine_eq];decide
theorem ZkJ:ZnY X (fun x H Q=>∃k,Znn X.K x H k/\Q k H):=by
 intro pins s σ H x v Q I rx h
 obtain⟨k,e,q⟩:=h
 have hl:=QE
 have hs:sizeLine=16777216:=sizeLine_eq
 cases x with
 |non =>
  cases rx
  have e':k=false:=e
  subst e'
  exact truthy_none ⟨H,I,q⟩
 |bl b =>
  cases rx
  have e':k=b:=e
  subst e'
  exact wpAny_truthy_bool ⟨H,I,q⟩
 |int i =>
  obtain⟨t,rfl⟩:=rx
  have e':k=(i != 0):=e
  subst e'
  exact PySem.P.truthy_int ⟨H,I,q⟩
 |str y =>
  obtain⟨t,rfl⟩:=rx
  obtain⟨hy,e'⟩:y.length<=sizeLine/\k=((y.length:Int) != 0):=e
  subst e'
  exact PySem.P.truthy_str (by omega) ⟨H,I.tok _,q⟩
 |byt y =>
  obtain⟨t,rfl⟩:=rx
  obtain⟨hy,e'⟩:y.size<=sizeLine/\k=((y.size:Int) != 0):=e
  subst e'
  exact PySem.W.truthy_bytes (by omega) ⟨H,I.tok _,q⟩
 |ref p =>
  cases rx
  have e':(∃xs,SqL X.K H p xs/\k=!xs.isEmpty)\/(∃xs,SqT X.K H p xs/\k=!xs.isEmpty)\/∃kvs,H p=some (.dK kvs)/\k=!kvs.isEmpty:=e
  rcases e' with ⟨xs,hx,e'⟩|⟨xs,hx,e'⟩|⟨kvs,hx,e'⟩
  ·subst e'
   obtain⟨its,r,pl,hz⟩:=I.list hx
   have hlen:=r.length
   exact wpAny_truthy_list pl.isList (by simp only[Ztc];omega) ⟨H,I.tok _,by rw[Zaz r];exact q⟩
  ·subst e'
   obtain⟨its,r,pl,hz⟩:=I.tuple hx
   have hlen:=r.length
   exact truthy_tuple pl (by simp only[Ztc];omega) ⟨H,I.tok _,by rw[Zaz r];exact q⟩
  ·subst e'
   obtain⟨hz,hS,vs,r,m⟩:kvs.length<=sizeLine/\(p==sysModules)=false/\∃vs,KV kvs vs/\s.heap.DictOf (Jq X.prog X.w) p vs:=I.hok p _ hx
   have hlen:kvs.length=vs.length:=Paired.length r
   exact wpAny_truthy_dict hS m (by omega) ⟨H,I.tok _,by rw[Zew r];exact q⟩
 |_=>exact(show False from e).elim
theorem Zhe(ha:PE X a ta)(he:∀whole,isTrue a X.env whole=(do let v <- whole;standAt a.pos;holding [v] (truthy v))) :
  PT X a (fun σ H Q=>ta σ H fun x H'=>∃k,Znn X.K x H' k/\Q k H'):=by
 intro pins s σ H Q I h
 exact isTrue_plain (thn (ha pins s σ H _ I h) fun v s1 ⟨x,H1,I1,r1,q1⟩=>ZkJ pins s1 σ H1 x v Q I1 r1 q1) (he _)
theorem UX{x:V}{us:List Value}(r:ZR [x] us):∃u,us=[u]/\Jn x u:=by
 cases r with
 |cons r1 r2=>cases r2;exact⟨_,rfl,r1⟩
theorem ZmD{x y:V}{us:List Value}(r:ZR [x,y] us):∃u w',us=[u,w']/\Jn x u/\Jn y w':=by
 cases r with
 |cons r1 r2 =>
  cases r2 with
  |cons r3 r4=>cases r4;exact⟨_,_,rfl,r1,r3⟩
theorem Zg3:Vc X (.type "int") (fun xs H Q=>(∃i,xs=[.int i]/\Q (.int i) H)\/∃k,xs=[.bl k]/\Q (.int (if k then 1 else 0)) H):=by
 intro pins s σ H xs us Q I r h
 rcases h with ⟨i,rfl,q⟩|⟨k,rfl,q⟩
 ·obtain⟨u,rfl,t,rfl⟩:=UX r
  exact call_int_int ⟨.int i,H,I,⟨_,rfl⟩,q⟩
 ·obtain⟨u,rfl,r1⟩:=UX r
  cases r1
  exact call_int_bool ⟨.int (if k then 1 else 0),H,I.tok _,⟨_,rfl⟩,q⟩
end
theorem ZgO.some_of{v:V}{o:Option Value}(r:ZgO (some v) o):∃u,o=some u/\Jn v u:=by
 cases o with
 |none=>exact(show False from r).elim
 |some u=>exact⟨u,rfl,r⟩
section
end
structure Cls(K:PySem.W.Frag)(C:Addr):Prop where
 pg:PySem.W.plainGet K C Str.empty=true
 hd:PySem.W.hasDictIn K C=true
 po:PySem.W.plainOver K C=true
 sa:PySem.W.findIn K (.ref C) "__setattr__"=some (some (.builtin "object.__setattr__"))
section
end
structure VU(k:Nat)(A:Around):Prop where
 hd:A.handled=none
 dp:A.depth+3*k+5<recursionLimit
 un:A.units+16*k+200<cLine
theorem VU.mono{j k:Nat}{A:Around}(r:VU k A)(h:j<=k):VU j A:=⟨r.hd,by have:=r.dp;omega,by have:=r.un;omega⟩
theorem VU.deeper{k:Nat}{A:Around}(r:VU (k+1) A)(env:Env):VU k (A.deeper env):=
 ⟨r.hd,by have:=r.dp;show A.depth+1+3*k+5<_;omega,by have:=r.un;show A.units+3+16*k+200<_;omega⟩
theorem VU.in1{k:Nat}{A:Around}(r:VU (k+1) A):VU k A.in1:=
 ⟨r.hd,by have:=r.dp;show A.depth+3*k+5<_;omega,by have:=r.un;show A.units+1+16*k+200<_;omega⟩
theorem VU.depth{k:Nat}{A:Around}(r:VU k A):A.depth<recursionLimit:=by have:=r.dp;omega
theorem VU.units{k:Nat}{A:Around}(r:VU k A):A.units+64<cLine:=by have:=r.un;omega
noncomputable def Zdg:TA:=fun _ H Q=>Q [] H
noncomputable def Vg(ta:TE)(tr:TA):TA:=fun σ H Q=>ta σ H fun x H1=>tr σ H1 fun xs H2=>Q (x::xs) H2
section
variable {X:Cx}{e:Expr}{es:List Expr}{te:TE}{t:TA}{pos:Pos}
theorem Ze:PA X [] Zdg:=fun _ _ _ _ H Q I h=>Calls.spliced_nil ⟨[],H,I,.nil,h⟩
theorem Za(ha:PE X e te)(hr:PA X es t)(hs:starEach (e::es) X.env=(false,eval e X.env)::starEach es X.env:=by rfl):PA X (e::es) (Vg te t):=by
 intro pos pins s σ H Q I h
 rw[hs]
 show wpAny _ _ (spliced ((false,eval e X.env)::backTo pos (starEach es X.env))) _ _ s
 refine Calls.spliced_cons (thn (ha pins s σ H _ I h) fun u s1 ⟨x,H1,I1,r1,q1⟩=>?_)
 exact thn (hr pos pins s1 σ H1 _ I1 q1) fun us s2 ⟨xs,H2,I2,r2,q2⟩=>⟨x::xs,H2,I2,.cons r1 r2,q2⟩
noncomputable def ZmH(t:TA):TE:=fun σ H Q=>t σ H fun xs H1=>xs.length<=sizeLine/\∀p,H1 p=none->Q (.ref p) (upd H1 p (.tup xs))
noncomputable def Zmz(t:TA):TE:=fun σ H Q=>t σ H fun xs H1=>xs.length<=sizeLine/\∀p,H1 p=none->Q (.ref p) (upd H1 p (.lst xs))
theorem UR{x1}(h:PA X es t):PE X (.Tuple es x1 pos) (ZmH t):=by
 intro pins s σ H Q I hq
 refine wpAny_Tuple_spliced (thn (h pos pins s σ H _ I hq) fun us s1 ⟨xs,H1,I1,r,z,q⟩=>⟨by rw[<- r.length];exact z, ?_⟩)
 have hf:H1 s1.heap.objs.size=none:=I1.hok.fresh (ZsX _)
 refine⟨.ref s1.heap.objs.size,upd H1 s1.heap.objs.size (.tup xs),I1.laid (t':=s1.toks) (fun b u e=>Heap.get?_push_of_some _ e) (ZsX _) ?_,rfl,q _ hf⟩
 exact⟨z,us,r,⟨_,Heap.get?_push_size _ rfl,rfl,_,rfl⟩⟩
theorem JJ(h:PA X es t):PE X (.List es pos) (Zmz t):=by
 intro pins s σ H Q I hq
 refine wpAny_List_spliced (thn (h pos pins s σ H _ I hq) fun us s1 ⟨xs,H1,I1,r,z,q⟩=>⟨by rw[<- r.length];exact z, ?_⟩)
 have hf:H1 s1.heap.objs.size=none:=I1.hok.fresh (ZsX _)
 refine⟨.ref s1.heap.objs.size,upd H1 s1.heap.objs.size (.lst xs),I1.laid (t':=s1.toks) (fun b u e=>Heap.get?_push_of_some _ e) (ZsX _) ?_,rfl,q _ hf⟩
 exact⟨z,us,0,r,Heap.get?_push_size _ rfl⟩
end
noncomputable abbrev Sp:=List V->Hp->VK->XK->Prop
noncomputable abbrev CXT:=List Env->Hp->Shared->XK->Value->Shared->Prop
structure ZmA(P:Program)(w:World)(K:PySem.W.Frag)(mg:Str->Option Value)(base:Heap)(A:Around)(outer:List Env)(s:Shared)(H:Hp):Prop where
 frames:A.frames=some outer
 mod:Mod K mg base
 bs:∀b o,base.get? b=some o->s.heap.get? b=some o/\H b=none
 bsz:base.objs.size<=s.heap.objs.size
 funs:s.heap.FunFrames base outer
 frf:∀b∈frs outer,H b=none
 hok:HOk P w H s.heap
 bare:AllBare s.gens
 tab:Zjc K H
def CE(outer:List Env)(P:Program)(w:World)(H:Hp)(s:Shared)(Q:VK)(u:Value)(s':Shared):Prop:=
 ∃v H',s'.os=s.os/\AllBare s'.gens/\Un (frs outer) [] H H' s.heap s'.heap/\HOk P w H' s'.heap/\Jn v u/\Q v H'
def CR(CX:CXT)(outer:List Env)(P:Program)(w:World)(H:Hp)(s:Shared)(Q:VK)(E:XK)(r:Result)(s':Shared):Prop:=
 match r with
 |.ok (.ret u)=>CE outer P w H s Q u s'
 |.ok _=>False
 |.error e=>CX outer H s E e s'
structure J1(P:Program)(w:World)(K:PySem.W.Frag)(mg:Str->Option Value)(base:Heap)(CX:CXT)(k:Nat)(f:Addr)(fd:FuncData)(ps:List Str)(sp:Sp):Prop where
 len:∀vs H Q E,sp vs H Q E->vs.length=ps.length
 run:∀(A:Around) (outer:List Env) (s:Shared) (H:Hp) (args:Args) (us:List Value) (vs:List V) (Q:VK) (E:XK),VU k A->ZmA P w K mg base A outer s H->BindsTo s fd args (ps.zip us)->ZR vs us->sp vs H Q E ->
  codeAny (model P w) A (.call (.ref f) args) (CR CX outer P w H s Q E) s
section
variable {X:Cx}{pins:List (Addr×Obj)}{σ:St}{H:Hp}{s s':Shared}
theorem Inv.env0(I:Inv X pins σ H s):ZmA X.prog X.w X.K X.mg X.base X.A X.stack s H:=
 ⟨I.ok.frames,I.ok.mod,I.bs,Ztr I.ok.bsz I.sz,I.stack,I.stkFree,I.hok,I.bare,fun f c P h1=>I.base.tbls _ _ _ (I.ok.tab f c P h1)⟩
theorem Inv.after{Q:VK}{u:Value}(I:Inv X pins σ H s)(h:CE X.stack X.prog X.w H s Q u s'):EP X pins σ Q u s':=by
 obtain⟨v,H',os,bare,un,hok,r,q⟩:=h
 obtain⟨hh,g,d,t,os'⟩:=s'
 obtain rfl:os'=s.os:=os
 exact⟨v,H',I.call (h':=hh) (g':=g) (d':=d) (t':=t) (ch:=[]) un hok bare (fun b z=>absurd z (by simp)),r,q⟩
end
noncomputable def ZkQ(sp:Sp)(dvs:List V)(E:XK)(t:TA):TE:=fun σ H Q=>t σ H fun vs H1=>sp (vs++dvs) H1 Q E
def ZcX(K:W.Frag)(fd:FuncData)(ps:List Str)(ds:List Value):Prop:=
 ∀(s:Shared) (us:List Value),K.In s.heap->(us++ds).length=ps.length->BindsTo s fd ⟨us,[]⟩ (ps.zip (us++ds))
theorem ZcX.all{K:W.Frag}{fd:FuncData}{ps:List Str}(h:∀us:List Value,us.length=ps.length->bindArgs fd ⟨us,[]⟩=pure (ps.zip us)):ZcX K fd ps []:=fun s us _ hl=>by
 rw[Zua] at hl ⊢
 exact .of_eq (h us hl)
def Zec(CX:CXT)(X:Cx)(E:XK):Prop:=∀(pins:List (Addr×Obj)) (σ:St) (H:Hp) (s:Shared) (e:Value) (s':Shared),Inv X pins σ H s->CX X.stack H s E e s'->X.xe e s'
section
variable {X:Cx}{CX:CXT}{k:Nat}{f:Addr}{fd:FuncData}{ps:List Str}{sp:Sp}{dvs:List V}{ds:List Value}{E:XK}{x:Str}{p pos:Pos}{e:Expr}{es:List Expr}{t:TA}
theorem Zi5{pins:List (Addr×Obj)}{σ:St}{H:Hp}{s:Shared}{Q:VK}{us:List Value}{vs:List V}(F:J1 X.prog X.w X.K X.mg X.base CX k f fd ps sp)(hr:VU k X.A)(hb:ZcX X.K fd ps ds)(hd:ZR dvs ds)(hx:Zec CX X E)(I:Inv X pins σ H s)(r:ZR vs us)(h:sp (vs++dvs) H Q E):wpAny (model X.prog X.w) X.A (call (.ref f) us) (EP X pins σ Q) X.xe s:=by
 have r2:ZR (vs++dvs) (us++ds):=r.append hd
 have hl:(us++ds).length=ps.length:=by rw[<- r2.length];exact F.len _ _ _ _ h
 refine wpAny_call (codeAny_mono (F.run X.A X.stack s H ⟨us,[]⟩ (us++ds) (vs++dvs) Q E hr I.env0 (hb s us I.kIn hl) r2 h) fun r s' hq=>?_)
 cases r with
 |error e=>exact hx pins σ H s e s' I hq
 |ok fl =>
  cases fl with
  |ret u=>exact I.after hq
  |next=>exact False.elim hq
  |brk=>exact False.elim hq
  |cont=>exact False.elim hq
theorem Zj7(F:J1 X.prog X.w X.K X.mg X.base CX k f fd ps sp)(hr:VU k X.A)(hg:Gl X x)(hm:X.mg x=some (.ref f))(hk:PySem.W.keepIn X.K (.ref f)=true)(hb:ZcX X.K fd ps ds)(hd:ZR dvs ds)(hx:Zec CX X E)(ha:PA X (e::es) t)(hdb:(x==("__debug__":Str))=false:=by decide)(he:starEach (e::es) X.env=(false,eval e X.env)::starEach es X.env:=by rfl)(hpl:(backTo pos (starEach es X.env)).any (·.1)=false:=by rfl) :
  PE X (.Call (.Name x p) (e::es) [] pos) (ZkQ sp dvs E t):=by
 intro pins s σ H Q I h
 refine wpAny_Call_Name_kw (Zc8 I hg hm ?_ hdb)
 refine PySem.W.callWith_K (h₀:=X.base) I.ok.mod.kin hk (thn (ha pos pins s σ H _ I h) fun us s1 ⟨vs,H1,I1,r,q⟩=>⟨I1.kIn, ?_⟩) he hpl
 exact Zi5 F hr hb hd hx I1 r q
theorem Zhk(F:J1 X.prog X.w X.K X.mg X.base CX k f fd ps sp)(hr:VU k X.A)(hg:Gl X x)(hm:X.mg x=some (.ref f))(hk:PySem.W.keepIn X.K (.ref f)=true)(hb:ZcX X.K fd ps ds)(hd:ZR dvs ds)(hx:Zec CX X E)(hdb:(x==("__debug__":Str))=false:=by decide):PE X (.Call (.Name x p) [] [] pos) (ZkQ sp dvs E Zdg):=by
 intro pins s σ H Q I h
 refine wpAny_Call_Name_kw (Zc8 I hg hm ?_ hdb)
 exact PySem.W.callWith_K0 I.kIn hk (Zi5 (us:=[]) F hr hb hd hx I .nil h)
end
structure Zx(N P:List Str)(sc:Scope):Prop where
 kind:sc.kind=.function
 co:sc.isCoroutine=false
 gen:sc.isGenerator=false
 nd:N.Nodup
 pre:N.take P.length=P
 par:∀x∈P,sc.names.lookup x=some .local\/sc.names.lookup x=some .cell
 nofree:∀y∈sc.names,y.2≠.free
theorem Zcf{kindOf:Str->Option NameKind}{x:Str}:∀{binds:List (Str×Value)}{m:Str->Option Value},(∀v,(x,v) ∉ binds)->bindL kindOf binds m x=m x
 |[],_,_=>rfl
 |(n,v)::r,m,h=>by
  unfold bindL
  rw[Zcf fun w hw=>h w (Ztz _ hw)]
  split
  ·have:x≠n:=by rintro rfl;exact h v ZtG
   simp[this]
  ·rfl
theorem Zch{kindOf:Str->Option NameKind}{x:Str}:∀{binds:List (Str×Value)}{m:Str->Option Value},(∀v,(x,v) ∉ binds)->bindC kindOf binds m x=m x
 |[],_,_=>rfl
 |(n,v)::r,m,h=>by
  unfold bindC
  rw[Zch fun w hw=>h w (Ztz _ hw)]
  split
  ·rfl
  ·have:x≠n:=by rintro rfl;exact h v ZtG
   simp[this]
theorem Zcg{kindOf:Str->Option NameKind}{x:Str}{v:Value}:∀{P:List Str}{vs:List Value}{i:Nat}{m:Str->Option Value},P.Nodup->P[i]?=some x->vs[i]?=some v->kindOf x=some .local ->
  bindL kindOf (P.zip vs) m x=some v
 |[],_,_,_,_,h,_,_=>by simp at h
 |_::_,[],_,_,_,_,h,_=>by simp at h
 |p::P,w::vs,0,m,nd,h1,h2,hk=>by
  simp at h1 h2;subst h1;subst h2
  show bindL kindOf ((p,w)::P.zip vs) m p=_
  unfold bindL
  rw[Zcf fun v hv=>(ZtW.mp nd).1 (Zvp hv).1,if_pos hk]
  simp
 |p::P,w::vs,i+1,m,nd,h1,h2,hk=>by
  show bindL kindOf ((p,w)::P.zip vs) m x=_
  unfold bindL
  exact Zcg (i:=i) (ZtW.mp nd).2 (by simpa using h1) (by simpa using h2) hk
theorem Zci{kindOf:Str->Option NameKind}{x:Str}{v:Value}:∀{P:List Str}{vs:List Value}{i:Nat}{m:Str->Option Value},P.Nodup->P[i]?=some x->vs[i]?=some v->kindOf x≠some .local ->
  bindC kindOf (P.zip vs) m x=some v
 |[],_,_,_,_,h,_,_=>by simp at h
 |_::_,[],_,_,_,_,h,_=>by simp at h
 |p::P,w::vs,0,m,nd,h1,h2,hk=>by
  simp at h1 h2;subst h1;subst h2
  show bindC kindOf ((p,w)::P.zip vs) m p=_
  unfold bindC
  rw[Zch fun v hv=>(ZtW.mp nd).1 (Zvp hv).1,if_neg hk]
  simp
 |p::P,w::vs,i+1,m,nd,h1,h2,hk=>by
  show bindC kindOf ((p,w)::P.zip vs) m x=_
  unfold bindC
  exact Zci (i:=i) (ZtW.mp nd).2 (by simpa using h1) (by simpa using h2) hk
noncomputable def VL(N:List Str)(vs:List V):St:=vs.map some++List.replicate (N.length-vs.length) none
noncomputable def ZgL(CX:CXT)(P:Program)(w:World)(K:W.Frag)(mg:Str->Option Value)(base:Heap)(N:List Str)(qual:Str)(scope:Scope)(f:Addr)(cd:Value)(A:Around)(outer:List Env)(s:Shared)(H:Hp)(E:XK):Cx where
 prog:=P
 w:=w
 K:=K
 mg:=mg
 base:=base
 A:=A.deeper (envOfC qual scope s.heap.objs.size f cd)
 N:=N
 s₀:=s
 H₀:=H
 env:=envOfC qual scope s.heap.objs.size f cd
 outer:=outer
 stack:=envOfC qual scope s.heap.objs.size f cd::outer
 ex:=[]
 calm:=true
 fn:=fun _=>true
 pn:=[]
 xe:=fun e s'=>wpAny (model P w) (A.deeper (envOfC qual scope s.heap.objs.size f cd)) (leaving (envOfC qual scope s.heap.objs.size f cd) e) (fun _ s''=>CX outer H s E e s'') (fun e' s''=>CX outer H s E e' s'') s'
theorem ZdV{sc:Scope}{n:Nat}{x:Str}(h:sc.names.lookup x=some .cell):∃c,(cellsFrom n sc.names []).lookup x=some c:=by
 have q:=PySem.W.cellsFrom_some sc.names n [] (.inl h)
 exact Option.isSome_iff_exists.mp q
theorem ZfX{CX:CXT}{P:Program}{w:World}{K:W.Frag}{mg:Str->Option Value}{base:Heap}{N ps:List Str}{qual:Str}{scope:Scope}{f:Addr}{cd:Value}{A:Around}{outer:List Env}{s s1:Shared}{H:Hp}{E:XK}{us:List Value}{vs:List V}(S:Zx N ps scope)(hd:A.handled=none)(e0:ZmA P w K mg base A outer s H)(hl:vs.length=ps.length)(r:ZR vs us)(x:InCallC s s.heap.objs.size (bindL (envOfC qual scope s.heap.objs.size f cd).kindOf (ps.zip us) fun _=>none) (cellsFrom (s.heap.objs.size+1) scope.names []) (bindC (envOfC qual scope s.heap.objs.size f cd).kindOf (ps.zip us) fun _=>none) s1) :
  Inv (ZgL CX P w K mg base N qual scope f cd A outer s H E) [] (VL N vs) H s1:=by
 have hpl:ps.length<=N.length:=by have:=congrArg List.length S.pre;rw[Ztu] at this;omega
 obtain⟨h1,tk,rfl,hk⟩:=x.done
 have noA:∀b:Addr,b ∉ (ZgL CX P w K mg base N qual scope f cd A outer s H E).ex:=fun b z=>absurd (show b∈([]:List Addr) from z) (by simp)
 refine⟨⟨e0.mod,S.kind,rfl,rfl,ZsX _,fun y z c h1 h2=>?_,fun y hy=>?_,fun y c _ h=>?_,fun _=>hd,Around.frames_deeper e0.frames,.inr ⟨rfl,rfl⟩,fun b z=>absurd z (noA b),e0.bs,e0.bsz,fun b _ _=>noA b,fun b z=>absurd z (noA b),e0.funs,e0.frf,e0.tab⟩,
  rfl,e0.bare,Un.kept hk,⟨_,x.toInCall.ns,fun i y v h1 h2 h3=>?_⟩,fun y c h=>⟨_,x.cell y c h⟩,e0.hok.fresh (ZsX _),fun y c h=>?_,fun p hp=>absurd (show p∈([]:List (Addr×Obj)) from hp) (by simp),e0.hok.kept hk, ?_⟩
 ·exact name_of_addr x.apart (PySem.mem_of_lookup h1) (PySem.mem_of_lookup h2)
 ·have hy:scope.names.lookup y=some .cell\/scope.names.lookup y=some .free:=hy
  rcases hy with hy|hy
  ·exact ZdV hy
  ·exact absurd rfl (S.nofree _ (PySem.mem_of_lookup hy))
 ·exact ZuB (x.above y c (PySem.mem_of_lookup h))
 ·have hi:i<vs.length:=by
   unfold VL at h2
   by_cases hi:i<vs.length
   ·exact hi
   ·rw[Zth (by simpa using hi)] at h2
    rw[ZuC] at h2
    split at h2<;>cases h2
  have ha:vs[i]?=some v:=by
   unfold VL at h2
   rw[Ztl (by simpa using hi),ZsZ] at h2
   cases e:vs[i]? with
   |none=>rw[e] at h2;cases h2
   |some a=>rw[e] at h2;cases h2;rfl
  obtain⟨u,hu,rv⟩:=r.get ha
  have hp:ps[i]?=some y:=by
   rw[<- S.pre,Zup (by omega)];exact h1
  have ndP:ps.Nodup:=by rw[<- S.pre];exact S.nd.sublist (Zvh _ _)
  refine⟨u,rv, ?_⟩
  rcases S.par y (ZsW hp) with k|k
  ·exact .inl ⟨k,Zcg ndP hp hu k⟩
  ·obtain⟨c,e⟩:=ZdV (n:=s.heap.objs.size+1) k
   refine .inr ⟨.inl k,c,e, ?_⟩
   have q:=x.cell y c e
   rw[Zci ndP hp hu (by show scope.names.lookup y≠_;rw[k];decide)] at q
   exact q
 ·exact e0.hok.fresh (ZuB (x.above y c (PySem.mem_of_lookup h)))
 ·unfold VL
  show _=N.length
  rw[Ztv,ZsV,ZuP]
  omega
theorem ZlR{CX:CXT}{P:Program}{w:World}{K:W.Frag}{mg:Str->Option Value}{base:Heap}{k:Nat}{f:Addr}{name qual:Str}{params:Arguments}{body:List Stmt}{scope:Scope}{dV kV doc pm cdv ct oc:Value}{an od:Option Addr}{osl:Array (Option Value)}{N ps:List Str}{sp:Sp}(lk:K.lookup f=some ⟨oc,od,.func (PySem.W.fnOf name qual params body scope dV kV doc pm an cdv ct),osl⟩)(hcd:PySem.W.codeIn K cdv qual=true)(S:Zx N ps scope)(len:∀vs H Q E,sp vs H Q E->vs.length=ps.length)(hbody:∀(A:Around) (outer:List Env) (s:Shared) (H:Hp) (vs:List V) (Q:VK) (E:XK),VU k (A.deeper (envOfC qual scope s.heap.objs.size f cdv))->sp vs H Q E ->
   ∃t,PSs (ZgL CX P w K mg base N qual scope f cdv A outer s H E) body t/\t { nx:=fun _ H'=>Q .non H',rt:=Q } (VL N vs) H) :
  J1 P w K mg base CX (k+1) f (PySem.W.fnOf name qual params body scope dV kV doc pm an cdv ct) ps sp:=by
 refine⟨len,fun A outer s H args us vs Q E hr e0 hb r hsp=>?_⟩
 have hl:=len _ _ _ _ hsp
 have KX:K.In s.heap:=e0.mod.kin.keeps fun b o e=>(e0.bs b o e).1
 have lim:s.heap.NoLimit:=e0.mod.nolimit.keeps fun b o e=>(e0.bs b o e).1
 have hkind:∀y∈ps.zip us,scope.names.lookup y.1=some .local\/(scope.names.lookup y.1=some .cell/\((cellsFrom (s.heap.objs.size+1) scope.names []).lookup y.1).isSome=true):=fun⟨n,v⟩ hy=>by
  rcases S.par n (Zvp hy).1 with q|q
  ·exact .inl q
  ·exact .inr ⟨q,PySem.W.cellsFrom_some _ _ _ (.inl q)⟩
 refine codeAny_call_function hr.depth (KX _ _ lk) rfl S.co S.gen rfl (PySem.W.codeRec_of KX hcd) (hb _ _ _ _ ?_)
 refine wpAny_newFunctionEnv_cells S.kind hkind fun env he s1 x=>?_
 subst he
 refine⟨lim.keeps x.toInCall.keep,codeAny_func ?_⟩
 obtain⟨t,ht,hq⟩:=hbody A outer s H vs Q E (hr.deeper _) hsp
 have I:Inv (ZgL CX P w K mg base N qual scope f cdv A outer s H E) [] (VL N vs) H s1:=ZfX S hr.hd e0 hl r x
 refine wpAny_mono (ht [] s1 (VL N vs) H _ I hq) (fun fl s' hs=>?_) fun e s' hs=>hs
 have fin:∀{σ':St}{H':Hp}{v:V}{u:Value},Inv (ZgL CX P w K mg base N qual scope f cdv A outer s H E) [] σ' H' s'->Jn v u->Q v H'->CE outer P w H s Q u s':=
  fun {σ' H' v u} J rv q=>⟨v,H',J.os,J.bare,J.base,J.hok,rv,q⟩
 cases fl with
 |ret u =>
  obtain⟨v,σ',H',J,rv,q⟩:=hs
  exact fin J rv q
 |next =>
  obtain⟨σ',H',J,q⟩:=hs
  exact fin (v:=V.non) (u:=Value.none) J rfl q
 |brk =>
  obtain⟨_,_,_,q⟩:=hs
  exact False.elim q
 |cont =>
  obtain⟨_,_,_,q⟩:=hs
  exact False.elim q
section
variable {X:Cx}{x:Str}{p pos:Pos}{e:Expr}{es:List Expr}{t:TA}{id T:String}{r:List V->Hp->VK->Prop}
noncomputable def tCB(r:List V->Hp->VK->Prop)(t:TA):TE:=fun σ H Q=>t σ H fun vs H1=>r vs H1 Q
theorem Zr(hc:Vc X (.builtin id) r)(hg:Gl X x)(hm:X.mg x=none)(hv:bootBuiltins x=some (.builtin id))(ha:PA X (e::es) t)(hn:x ≠ "__name__":=by decide)(hdb:(x==("__debug__":Str))=false:=by decide)(he:starEach (e::es) X.env=(false,eval e X.env)::starEach es X.env:=by rfl)(hpl:(backTo pos (starEach es X.env)).any (·.1)=false:=by rfl):PE X (.Call (.Name x p) (e::es) [] pos) (tCB r t):=by
 intro pins s σ H Q I h
 refine wpAny_Call_Name_kw (QI I hg hm hv ?_ hn hdb)
 exact PyProof.Rows.callWith_builtin1 (thn (ha pos pins s σ H _ I h) fun us s1 ⟨vs,H1,I1,r1,q1⟩=>hc pins s1 σ H1 vs us Q I1 r1 q1) he hpl
theorem ZI(hc:Vc X (.type T) r)(hg:Gl X x)(hm:X.mg x=none)(hv:bootBuiltins x=some (.type T))(ha:PA X (e::es) t)(hn:x ≠ "__name__":=by decide)(hdb:(x==("__debug__":Str))=false:=by decide)(he:starEach (e::es) X.env=(false,eval e X.env)::starEach es X.env:=by rfl)(hpl:(backTo pos (starEach es X.env)).any (·.1)=false:=by rfl):PE X (.Call (.Name x p) (e::es) [] pos) (tCB r t):=by
 intro pins s σ H Q I h
 refine wpAny_Call_Name_kw (QI I hg hm hv ?_ hn hdb)
 exact PyProof.Rows.callWith_type1 (thn (ha pos pins s σ H _ I h) fun us s1 ⟨vs,H1,I1,r1,q1⟩=>hc pins s1 σ H1 vs us Q I1 r1 q1) he hpl
end
end L2
namespace HT
open PySem PyProof.Rows
noncomputable def Z1:List Int->List Int->Bool
 |[],[]=>false
 |[],_::_=>true
 |_::_,[]=>false
 |x::xs,y::ys=>if x=y then Z1 xs ys else decide (x<y)
theorem JH(x y:Int)(xs ys:List Int):Z1 (x::xs) (y::ys)=if x=y then Z1 xs ys else decide (x<y):=rfl
theorem Zbd:Z1 [] []=false:=rfl
theorem VP(y:Int)(ys:List Int):Z1 [] (y::ys)=true:=rfl
theorem Zaf(x:Int)(xs:List Int):Z1 (x::xs) []=false:=rfl
theorem ZhV(A:Around)(s:Shared)(a:Int)(t:Tok)(c:Int)(u:Tok):∃e,SeqAt.EqAt A s (.int a t) (.int c u) e/\(e=true ↔ a=c):=
 ⟨(a==c),SeqAt.EqAt.int_int a t c u,by simp⟩
section
open PySem.SeqAt
open PySem.AutoSeq1 (wpAny_loadPart')
open PySem.MeetsSeq PySem.MeetsSeq2 PySem.MeetsSeq3
end
section
end
end HT
namespace L2
open PySem PySem.Spec PyProof.Rows
noncomputable abbrev TO:=St->Hp->(Option Int->Hp->Prop)->Prop
theorem UL{ns:List Int}:∀{us:List Value},ZR (ns.map V.int) us->IntsAre us ns:=by
 induction ns with
 |nil=>intro us r;rw[Zux] at r;cases r;exact .nil
 |cons n ns ih =>
  intro us r
  rw[Zte] at r
  cases r with
  |cons r1 r2 =>
   obtain⟨t,e⟩:=r1
   subst e
   exact .cons n t (ih r2)
section
end
noncomputable def ixN(n:Nat)(i:Int):Option Nat:=if 0<=i then (if i<n then some i.toNat else none) else if -(n:Int)<=i then some (i+n).toNat else none
noncomputable def atI{α:Type}(xs:List α)(i:Int):Option α:=(ixN xs.length i).bind fun j=>xs[j]?
theorem UK{n:Nat}{i:Int}{j:Nat}(h:ixN n i=some j):seqIndex? i n=some j/\j<n/\-(n:Int)<=i/\i<n:=by
 unfold ixN at h
 by_cases h0:0<=i
 ·rw[if_pos h0] at h
  by_cases h1:i<n
  ·rw[if_pos h1] at h
   have e:i.toNat=j:=Option.some.inj h
   exact⟨by rw[seqIndex_of h0 h1,e],by omega,by omega,h1⟩
  ·rw[if_neg h1] at h;cases h
 ·rw[if_neg h0] at h
  by_cases h1:-(n:Int)<=i
  ·rw[if_pos h1] at h
   have e:(i+n).toNat=j:=Option.some.inj h
   exact⟨by rw[seqIndex_neg (by omega) h1,e],by omega,h1,by omega⟩
  ·rw[if_neg h1] at h;cases h
theorem Zby{α:Type}{xs:List α}{i:Int}{v:α}(h:atI xs i=some v):∃j,seqIndex? i xs.length=some j/\xs[j]?=some v/\j<xs.length/\-(xs.length:Int)<=i/\i<xs.length:=by
 unfold atI at h
 cases e:ixN xs.length i with
 |none=>rw[e] at h;cases h
 |some j =>
  rw[e] at h
  obtain⟨h1,h2,h3,h4⟩:=UK e
  exact⟨j,h1,h,h2,h3,h4⟩
def Zk1(b:Expr):Prop:=∀o i,subscripted b false o i=operate [o,i] (getItem o i)
def IxR(X:Cx)(r:R2):Prop:=
 ∀(value slice:Expr) (pins:List (Addr×Obj)) (s:Shared) (σ:St) (H:Hp) (x y:V) (v u:Value) (Q:VK),Inv X pins σ H s->Jn x v->Jn y u->r x y H Q ->
  subscripted slice false v u=operate [v,u] (getItem v u)->wpAny (model X.prog X.w) X.A (subscriptTail value slice v u) (EP X pins σ Q) X.xe s
def MtR(X:Cx)(id:String)(r:V->List V->Hp->VK->Prop):Prop:=
 ∀(pins:List (Addr×Obj)) (s:Shared) (σ:St) (H:Hp) (x:V) (xs:List V) (v:Value) (us:List Value) (Q:VK),Inv X pins σ H s->Jn x v->ZR xs us->r x xs H Q ->
  wpAny (model X.prog X.w) X.A (call (.builtin id) (v::us)) (EP X pins σ Q) X.xe s
section
variable {X:Cx}{a b:Expr}{ta tb:TE}{pos:Pos}
theorem IxR.or{r r':R2}(h:IxR X r)(h':IxR X r'):IxR X (fun x y H Q=>r x y H Q\/r' x y H Q):=by
 intro value slice pins s σ H x y v u Q I rx ry q hs
 rcases q with q|q
 ·exact h value slice pins s σ H x y v u Q I rx ry q hs
 ·exact h' value slice pins s σ H x y v u Q I rx ry q hs
theorem ZK{r:R2}(hr:IxR X r)(ha:PE X a ta)(hb:PE X b tb)(hs:Zk1 b):PE X (.Subscript a b pos) (tOp r ta tb):=by
 intro pins s σ H Q I h
 exact Subscript_ (Znj ha hb I h fun v u s2 x y H2 I2 rx ry q=>hr a b pins s2 σ H2 x y v u Q I2 rx ry q (hs _ _))
noncomputable def ZkZ(K:W.Frag):R2:=fun x y H Q=>∃p xs i v,x=.ref p/\y=.int i/\SqL K H p xs/\atI xs i=some v/\Q v H
noncomputable def Zn1(K:W.Frag):R2:=fun x y H Q=>∃p xs i v,x=.ref p/\y=.int i/\SqT K H p xs/\atI xs i=some v/\Q v H
noncomputable def Zn2:R2:=fun x y H Q=>∃z i c,x=.str z/\y=.int i/\z.length<=sizeLine/\atI z.cps.toList i=some c/\Q (.str ⟨#[c]⟩) H
theorem ZjY:IxR X (ZkZ X.K):=by
 intro value slice pins s σ H x y v u Q I rx ry h hs
 obtain⟨p,xs,i,z,rfl,rfl,hq,he,q⟩:=h
 cases rx
 obtain⟨t,rfl⟩:=ry
 obtain⟨its,r,pl,hz⟩:=I.list hq
 obtain⟨j,h1,h2,h3,h4,h5⟩:=Zby he
 obtain⟨w,ew,rw'⟩:=r.get h2
 have hl:=r.length
 have hn:=QE
 have fin:EP X pins σ Q w s:=⟨z,H,I,rw',q⟩
 by_cases h0:0<=i
 ·have hj:i.toNat=j:=by
   rw[seqIndex_of h0 h5] at h1
   exact Option.some.inj h1
  exact item_listR pl.isList h0 (by omega) (by rw[hj];simpa using ew) fin hs
 ·have hj:(i+(its.toArray.size:Int)).toNat=j:=by
   rw[seqIndex_neg (by omega) h4] at h1
   rw[Ztc,<- hl]
   exact Option.some.inj h1
  exact subscriptTail_builtinR (x:=w) pl.isList.typeIs slot_list_getitem.lookup
   (wpAny_getItem_list_neg (Q:=fun r s'=>r=w/\EP X pins σ Q r s') pl.isList (by omega) (by rw[Ztc]<;>omega) (by omega) (by rw[hj];simpa using ew) ⟨rfl,fin⟩) hs
theorem ZlG:IxR X (Zn1 X.K):=by
 intro value slice pins s σ H x y v u Q I rx ry h hs
 obtain⟨p,xs,i,z,rfl,rfl,hq,he,q⟩:=h
 cases rx
 obtain⟨t,rfl⟩:=ry
 obtain⟨its,r,pl,hz⟩:=I.tuple hq
 obtain⟨j,h1,h2,h3,h4,h5⟩:=Zby he
 obtain⟨w,ew,rw'⟩:=r.get h2
 have hl:=r.length
 have hn:=QE
 have fin:EP X pins σ Q w s:=⟨z,H,I,rw',q⟩
 exact subscriptTail_builtinR (x:=w) pl.typeIs slot_tuple_getitem.lookup
  (getItem_tuple (j:=j) (Q:=fun r s'=>r=w/\EP X pins σ Q r s') pl (by omega) (by omega) (by rw[Ztc,<- hl];exact h1) (by simpa using ew) ⟨rfl,fin⟩) hs
theorem ZlH:IxR X Zn2:=by
 intro value slice pins s σ H x y v u Q I rx ry h hs
 obtain⟨z,i,c,rfl,rfl,hz,he,q⟩:=h
 obtain⟨t,rfl⟩:=rx
 obtain⟨t',rfl⟩:=ry
 obtain⟨j,h1,h2,h3,h4,h5⟩:=Zby he
 have hl:z.cps.toList.length=z.length:=by simp[Str.length]
 rw[hl] at h1 h4 h5
 have hn:=QE
 exact tail_any (typeIs_str s z t) slot_str_getitem.lookup (getItem_str (c:=c) (by
  have e1:decide (i < -(2^63:Int))=false:=decide_eq_false (by omega)
  have e2:decide (i ≥ 2^63)=false:=decide_eq_false (by omega)
  rw[e1,e2,Bool.or_false]) (by rw[h1];simpa using h2) ⟨.str ⟨#[c]⟩,H,I.tok _,⟨_,rfl⟩,q⟩) hs
noncomputable def rIx(K:W.Frag):R2:=fun x y H Q=>ZkZ K x y H Q\/Zn1 K x y H Q\/Zn2 x y H Q
theorem ZlI:IxR X (rIx X.K):=ZjY.or (ZlG.or ZlH)
theorem Zeq(its:List Value)(n j:Nat)(u:Value):Obj.mapSeq (·.setIfInBounds j u) { cls:=.type "list",data:=.seq its.toArray n }={ cls:=.type "list",data:=.seq (its.set j u).toArray n }:=by
 simp[Obj.mapSeq]
theorem Inv.lst{pins:List (Addr×Obj)}{σ:St}{H:Hp}{s:Shared}{p:Addr}{xs:List V}(I:Inv X pins σ H s)(h:H p=some (.lst xs)) :
  ∃(its:List Value) (n:Nat),ZR xs its/\s.heap.get? p=some { cls:=.type "list",data:=.seq its.toArray n }/\xs.length<=sizeLine:=by
 obtain⟨z,its,n,r,e⟩:=I.hok p _ h
 exact⟨its,n,r,e,z⟩
theorem Inv.lstUpd{pins:List (Addr×Obj)}{σ:St}{H:Hp}{s:Shared}{p:Addr}{xs ys:List V}{its its':List Value}{n n':Nat}{f:Obj->Obj}(I:Inv X pins σ H s)(h:H p=some (.lst xs))(ho:s.heap.get? p=some { cls:=.type "list",data:=.seq its.toArray n })(hf:f { cls:=.type "list",data:=.seq its.toArray n }={ cls:=.type "list",data:=.seq its'.toArray n' })(r:ZR ys its')(hz:ys.length<=sizeLine)(t:Nat) :
  Inv X pins σ (upd H p (.lst ys)) { s with heap:=s.heap.update p f,toks:=t }:=by
 have e:(s.heap.update p f).get? p=some { cls:=.type "list",data:=.seq its'.toArray n' }:=by
  rw[Heap.get?_update_self f ho (by rw[hf]<;>rfl),hf]
 refine I.write (x:=p) (e:=p) (by rw[h];trivial) (.inl rfl) (fun b u hb q=>(Heap.get?_update_other _ _ (Ne.symm hb)).trans q) ⟨_,e⟩ ?_
 exact⟨hz,its',n',r,e⟩
def Zjy:V->V->V->Hp->(Hp->Prop)->Prop:=fun o i v H Q=>∃p xs k j,o=.ref p/\i=.int k/\H p=some (.lst xs)/\ixN xs.length k=some j/\Q (upd H p (.lst (xs.set j v)))
theorem JV:Zno X Zjy:=by
 intro pins s σ H o i v ov iv u Q I ro ri rv h
 obtain⟨p,xs,k,j,rfl,rfl,hp,hj,q⟩:=h
 cases ro
 obtain⟨t,rfl⟩:=ri
 obtain⟨its,n,r,ho,hz⟩:=I.lst hp
 obtain⟨h1,h2,h3,h4⟩:=UK hj
 have hl:=r.length
 have hn:=QE
 have I':Inv X pins σ (upd H p (.lst (xs.set j v))) { s with heap:=s.heap.update p (Obj.mapSeq (·.setIfInBounds j u)) }:=
  I.lstUpd hp ho (Zeq its n j u) (r.set rv j) (by rw[Zuq];exact hz) s.toks
 by_cases h0:0<=k
 ·have hk:k.toNat=j:=by
   rw[seqIndex_of h0 h4] at h1
   exact Option.some.inj h1
  exact PySem.W.ki_setAt ho h0 (by omega) (by rw[Ztc,<- hl];exact h4) (by rw[hk];exact⟨_,I',q⟩)
 ·have hk:(k+(its.toArray.size:Int)).toNat=j:=by
   rw[seqIndex_neg (by omega) h3] at h1
   rw[Ztc,<- hl]
   exact Option.some.inj h1
  exact PySem.W.ki_setBack ho (by omega) (by rw[Ztc,<- hl];exact h3) (by omega) (by rw[hk];exact⟨_,I',q⟩)
theorem Zcb:Vc X (.builtin "len") (fun xs H Q=>∃p ys,xs=[.ref p]/\(SqL X.K H p ys\/SqT X.K H p ys)/\Q (.int ys.length) H):=by
 intro pins s σ H xs us Q I r h
 obtain⟨p,ys,rfl,hq,q⟩:=h
 obtain⟨u,rfl,rx⟩:=UX r
 cases rx
 have hn:=QE
 rcases hq with hq|hq
 ·obtain⟨its,r',pl,hz⟩:=I.list hq
  have hlen:=r'.length
  exact Calls.call_len_list pl.isList (by simp only[Ztc]<;>omega) ⟨.int ys.length,H,I.tok _,⟨s.toks+1,by rw[Ztc,hlen]⟩,q⟩
 ·obtain⟨its,r',pl,hz⟩:=I.tuple hq
  have hlen:=r'.length
  exact len_tuple pl (by simp only[Ztc]<;>omega) ⟨.int ys.length,H,I.tok _,⟨s.toks+1,by rw[Ztc,hlen]⟩,q⟩
theorem Zca:Vc X (.type "list") (fun xs H Q=>∃p ys,xs=[.ref p]/\(SqL X.K H p ys\/SqT X.K H p ys)/\∀l,H l=none->Q (.ref l) (upd H l (.lst ys))):=by
 intro pins s σ H xs us Q I r h
 obtain⟨p,ys,rfl,hq,q⟩:=h
 obtain⟨u,rfl,rx⟩:=UX r
 cases rx
 have fin:∀(its:List Value),ZR ys its->ys.length<=sizeLine->∀(h':Heap) (c':Nat),(∀b o',s.heap.get? b=some o'->h'.get? b=some o') ->
   h'.get? s.heap.objs.size=some { cls:=.type "list",dict:=none,data:=.seq its.toArray c',slots:=#[] }->EP X pins σ Q (.ref s.heap.objs.size) { s with heap:=h' }:=fun its r' hz h' c' kp e =>
  ⟨.ref s.heap.objs.size,_,I.laid (t':=s.toks) kp (ZsX _) (show Ju X.prog X.w _ h' _ (.lst ys) from ⟨hz,its,c',r',e⟩),rfl,q _ (I.hok.fresh (ZsX _))⟩
 rcases hq with hq|hq
 ·obtain⟨its,r',pl,hz⟩:=I.list hq
  have hlen:=r'.length
  obtain⟨o,ho,hc,n,hd⟩:=pl.isList
  exact call_list_seq p (.inl rfl) ho hc hd (fun h' c' kp e=>fin its r' hz h' c' kp e) (by simp only[Ztc]<;>omega)
 ·obtain⟨its,r',pl,hz⟩:=I.tuple hq
  have hlen:=r'.length
  obtain⟨o,ho,hc,n,hd⟩:=pl
  exact call_list_seq p (.inr rfl) ho hc hd (fun h' c' kp e=>fin its r' hz h' c' kp e) (by simp only[Ztc]<;>omega)
theorem Zbs:Vc X (.type "tuple") (fun xs H Q=>∃p ys,xs=[.ref p]/\((SqL X.K H p ys/\∀l,H l=none->Q (.ref l) (upd H l (.tup ys)))\/(SqT X.K H p ys/\Q (.ref p) H))):=by
 intro pins s σ H xs us Q I r h
 obtain⟨p,ys,rfl,h⟩:=h
 obtain⟨u,rfl,rx⟩:=UX r
 cases rx
 rcases h with ⟨hq,q⟩|⟨hq,q⟩
 ·obtain⟨its,r',pl,hz⟩:=I.list hq
  have hlen:=r'.length
  refine call_tuple_list pl.isList (fun h' kp=>?_) (by simp only[Ztc]<;>omega)
  have I1:Inv X pins σ H { s with heap:=h' }:=I.kept (t':=s.toks) kp
  have I2:Inv X pins σ (upd H h'.objs.size (.tup ys)) { s with heap:=h'.push { cls:=.type "tuple",data:=.seq its.toArray } }:=
   I1.laid (t':=s.toks) (fun b o e=>Heap.get?_push_of_some _ e) (ZsX _) (show Ju X.prog X.w _ _ _ (.tup ys) from ⟨hz,its,r',IsTup.new _ _⟩)
  exact⟨.ref h'.objs.size,_,I2,rfl,q _ (I1.hok.fresh (ZsX _))⟩
 ·obtain⟨its,r',pl,hz⟩:=I.tuple hq
  exact call_tuple_same pl ⟨.ref p,H,I,rfl,q⟩
def tyV(K:W.Frag)(T:String)(x:V)(H:Hp):Prop:=match x with
 |.str _=>T = "str"
 |.int _=>T = "int"
 |.ref p=>(T = "list"/\∃xs,SqL K H p xs)\/(T = "tuple"/\∃o,K.lookup p=some o/\o.cls=.type "tuple"/\o.dict=none) \/
   (T = "dict"/\((∃kvs,H p=some (.dK kvs))\/∃kvs,H p=some (.dT kvs)))\/(T = "set"/\∃S n,H p=some (.set S n))
 |_=>False
theorem Ziy{pins:List (Addr×Obj)}{σ:St}{H:Hp}{s:Shared}{T:String}{x:V}{v:Value}(I:Inv X pins σ H s)(r:Jn x v)(ty:tyV X.K T x H) :
  s.TypeIs v T/\∀a,v=.ref a->∃ob,s.heap.get? a=some ob/\ob.dict=none:=by
 cases x with
 |str z =>
  obtain⟨t,rfl⟩:=r
  cases (show T = "str" from ty)
  exact⟨typeIs_str s z t,fun _ e=>nomatch e⟩
 |int i =>
  obtain⟨t,rfl⟩:=r
  cases (show T = "int" from ty)
  exact⟨typeIs_int s i t,fun _ e=>nomatch e⟩
 |ref p =>
  cases r
  rcases ty with ⟨rfl,xs,hq⟩|⟨rfl,o,hk,hc,hd⟩|⟨rfl,hk⟩|⟨rfl,S,n,hk⟩
  ·obtain⟨its,_,pl,_⟩:=I.list hq
   refine⟨pl.isList.typeIs,fun a e=>?_⟩
   cases e
   obtain⟨o,n,e,c,hd,_⟩:=pl
   exact⟨o,e,hd⟩
  ·refine⟨⟨o,I.kIn p o hk,hc⟩,fun a e=>?_⟩
   cases e
   exact⟨o,I.kIn _ o hk,hd⟩
  ·have z:∃o,s.heap.get? p=some o/\o.ExactDict:=by
    rcases hk with ⟨kvs,hk⟩|⟨kvs,hk⟩
    ·obtain⟨_,_,_,_,o,_,_,e,ex,_⟩:=I.hok p _ hk
     exact⟨o,e,ex⟩
    ·obtain⟨_,_,_,_,o,_,_,e,ex,_⟩:=I.hok p _ hk
     exact⟨o,e,ex⟩
   obtain⟨o,e,ex⟩:=z
   refine⟨⟨o,e,ex.1⟩,fun a e2=>?_⟩
   cases e2
   exact⟨o,e,ex.2.1⟩
  ·obtain⟨o,_,_,_,e,ex,_⟩:=I.hok p _ hk
   refine⟨⟨o,e,ex.1⟩,fun a e2=>?_⟩
   cases e2
   exact⟨o,e,ex.2.1⟩
 |_=>exact False.elim ty
noncomputable def ZmL(K:W.Frag)(T:String)(r:V->List V->Hp->VK->Prop)(to:TE):TE:=fun σ H Q=>to σ H fun x H1=>tyV K T x H1/\r x [] H1 Q
noncomputable def tBM(K:W.Frag)(T:String)(r:V->List V->Hp->VK->Prop)(to:TE)(t:TA):TE:=fun σ H Q=>to σ H fun x H1=>tyV K T x H1/\t σ H1 fun xs H2=>r x xs H2 Q
variable {o e:Expr}{es:List Expr}{to:TE}{t:TA}{name:Str}{apos cpos:Pos}{T id:String}{r:V->List V->Hp->VK->Prop}
theorem Zle(pa:PlainAttrs T)(slot:Slot T name id)(hty:typeOf (.builtin id)=pure (.type "method_descriptor"))(hm:MtR X id r)(ho:PE X o to)(hbase:attributeBase o name X.env (eval o X.env)=eval o X.env:=by rfl)(hline:(apos.endLine==cpos.line)=true:=by rfl):PE X (.Call (.Attribute o name apos) [] [] cpos) (ZmL X.K T r to):=by
 intro pins s σ H Q I h
 refine wpAny_Call_method0_late hbase hline (thn (ho pins s σ H _ I h) fun v s1 ⟨x,H1,I1,r1,ty,q1⟩=>?_)
 obtain⟨h1,h2⟩:=Ziy I1 r1 ty
 exact⟨T,id,pa,slot,hty,h1,h2,Calls.callWith_builtin rfl (PySem.evalArgs_none (hm pins s1 σ H1 x [] v [] Q I1 r1 .nil q1))⟩
theorem ZbD(pa:PlainAttrs T)(slot:Slot T name id)(hty:typeOf (.builtin id)=pure (.type "method_descriptor"))(hm:MtR X id r)(ho:PE X o to)(ha:PA X (e::es) t)(hbase:attributeBase o name X.env (eval o X.env)=eval o X.env:=by rfl)(hfew:((backTo cpos (starEach (e::es) X.env)).all (fun x=>!x.1)&&(backToKw cpos (keywordEach [] X.env)).all (fun x=>x.1.isSome)
   && decide ((e::es).length+([]:List Keyword).length+(if ([]:List Keyword).isEmpty then 0 else 1)<30))=true:=by rfl)(hline:(apos.endLine==cpos.line)=true:=by rfl)(hs:starEach (e::es) X.env=(false,eval e X.env)::starEach es X.env:=by rfl)(hplain:(backTo cpos (starEach es X.env)).any (·.1)=false:=by rfl) :
  PE X (.Call (.Attribute o name apos) (e::es) [] cpos) (tBM X.K T r to t):=by
 intro pins s σ H Q I h
 refine wpAny_Call_method_late hbase hfew hline rfl (thn (ho pins s σ H _ I h) fun v s1 ⟨x,H1,I1,r1,ty,q1⟩=>?_)
 obtain⟨h1,h2⟩:=Ziy I1 r1 ty
 refine⟨T,id,pa,slot,hty,h1,h2, ?_⟩
 have hA:=ha cpos pins s1 σ H1 _ I1 q1
 rw[hs] at hA ⊢
 refine Calls.callWith_builtin (by show (false || (backTo cpos (starEach es X.env)).any (·.1))=false;rw[hplain]<;>rfl) (Calls.evalArgs_plain ?_)
 exact thn hA fun us s2 ⟨vs,H2,I2,r2,q2⟩=>hm pins s2 σ H2 x vs v us Q I2 r1 r2 q2
end
def MtM(X:Cx)(id:String)(r:V->List V->Hp->VK->Prop):Prop:=
 ∀(pins:List (Addr×Obj)) (s:Shared) (σ:St) (H:Hp) (x:V) (xs:List V) (v:Value) (us:List Value) (Q:VK),Inv X pins σ H s->Jn x v->ZR xs us->r x xs H Q ->
  wpAny (model X.prog X.w) X.A (call (.builtin id) (v::us)) (EP X pins σ Q) X.xe s
theorem ZR.one:∀{x:V}{us:List Value},ZR [x] us->∃u,us=[u]/\Jn x u
 |_,_,.cons r .nil=>⟨_,rfl,r⟩
theorem ZR.zero:∀{us:List Value},ZR [] us->us=[]
 |_,.nil=>rfl
theorem ZR.dropLast{xs:List V}{us:List Value}(h:ZR xs us):ZR xs.dropLast us.dropLast:=by
 induction h with
 |nil=>exact .nil
 |cons r t ih =>
  cases t with
  |nil=>exact .nil
  |cons q t'=>exact .cons r ih
theorem ZR.eraseIdx:∀{xs:List V}{us:List Value} (i:Nat),ZR xs us->ZR (xs.eraseIdx i) (us.eraseIdx i)
 |_,_,_,.nil=>.nil
 |_,_,0,.cons _ t=>t
 |_,_,i+1,.cons r t=>.cons r (ZR.eraseIdx i t)
theorem ZR.rep{xs:List V}{us:List Value}(h:ZR xs us):∀k:Nat,ZR (List.replicate k xs).flatten (List.replicate k us).flatten
 |0=>.nil
 |k+1=>by
  rw[ZtT,ZtT,Zur,Zur]
  exact ZR.append h (ZR.rep h k)
theorem Ze2{α:Type}(l:List α):l.eraseIdx (l.length-1)=l.dropLast:=by
 induction l with
 |nil=>rfl
 |cons a r ih =>
  cases r with
  |nil=>rfl
  |cons b r =>
   have e:(a::b::r).length-1=((b::r).length-1)+1:=by
    have h1:(a::b::r).length=r.length+2:=rfl
    have h2:(b::r).length=r.length+1:=rfl
    omega
   rw[e,List.eraseIdx_cons_succ,ih]
   all_goals rfl
theorem ZbL{α:Type}:∀(l:List α) (i:Nat),(l.eraseIdx i).length<=l.length
 |[],_=>ZsX _
 |_::_,0=>ZuA _
 |_::r,i+1=>Nat.succ_le_succ (ZbL r i)
theorem ZbT(its:List Value):∀(k:Nat) (acc:List Value),
  List.foldl (fun x1 x2=>x1++x2) acc.toArray (List.replicate k its.toArray)=(acc++(List.replicate k its).flatten).toArray
 |0,acc=>by simp
 |k+1,acc=>by
  have e:acc.toArray++its.toArray=(acc++its).toArray:=by simp
  have e2:(acc++its)++(List.replicate k its).flatten=acc++(List.replicate (k+1) its).flatten:=by
   rw[ZtT,Zur,Ztf]
  rw[<- e2,<- ZbT its k (acc++its),<- e,ZtT,Zvq]
section
variable {X:Cx}{pins:List (Addr×Obj)}{σ:St}{H:Hp}{s:Shared}{l:Addr}{xs ys:List V}
theorem Inv.lset{its its':List Value}{n:Nat}{f:Array Value->Array Value}{t':Nat}(I:Inv X pins σ H s)(hH:H l=some (.lst xs))(e:s.heap.get? l=some { cls:=.type "list",data:=.seq its.toArray n })(hf:f its.toArray=its'.toArray)(hv:ZR ys its')(hz:ys.length<=sizeLine) :
  Inv X pins σ (upd H l (.lst ys)) { s with heap:=s.heap.update l (Obj.mapSeq f),toks:=t' }:=by
 have q:=PySem.IsL.update e f
 rw[hf] at q
 refine I.write (x:=l) (e:=l) (by rw[hH];exact trivial) (.inl rfl) (fun b' u hb hu=>(Heap.get?_update_other s.heap (Obj.mapSeq f) (Ne.symm hb)).trans hu) ⟨_,q⟩ ?_
 exact⟨hz,its',_,hv,q⟩
theorem Inv.lnew{its:List Value}{t':Nat}(I:Inv X pins σ H s)(hv:ZR ys its)(hz:ys.length<=sizeLine) :
  Inv X pins σ (upd H s.heap.objs.size (.lst ys)) { s with heap:=s.heap.push { cls:=.type "list",data:=.seq its.toArray },toks:=t' }:=
 I.laid (fun _ _ q=>Heap.get?_push_of_some _ q) (ZsX _) ⟨hz,its,0,hv,Heap.get?_push_size _ rfl⟩
theorem Inv.fresh(I:Inv X pins σ H s):H s.heap.objs.size=none:=I.hok.fresh (ZsX _)
theorem Inv.lstM(I:Inv X pins σ H s)(hH:H l=some (.lst xs)):xs.length<=sizeLine/\∃(its:List Value) (n:Nat),ZR xs its/\xs.length=its.length/\s.heap.get? l=some { cls:=.type "list",data:=.seq its.toArray n }:=by
 obtain⟨z,its,n,r,e⟩:=I.hok l _ hH
 exact⟨z,its,n,r,r.length,e⟩
theorem Zh3{n:Nat}(h:n<=sizeLine):Builtin.List.listTooLong n=false:=by
 unfold Builtin.List.listTooLong
 exact decide_eq_false (by omega)
end
section
variable {X:Cx}
def Zcv:V->List V->Hp->VK->Prop:=fun x vs H Q=>∃l xs y,x=.ref l/\vs=[y]/\H l=some (.lst xs)/\xs.length<sizeLine/\Q .non (upd H l (.lst (xs++[y])))
theorem JL:MtM X "list.append" Zcv:=by
 intro pins s σ H x vs v us Q I rx rv h
 obtain⟨l,xs,y,rfl,rfl,hH,hz,q⟩:=h
 cases rx
 obtain⟨u,rfl,ru⟩:=rv.one
 obtain⟨z,its,n,r,hl,e⟩:=I.lstM hH
 refine call_meets F.slot_list_append ⟨_,e,rfl⟩ F.entry_list_append (F.args_list_append_2 _ _) (PySem.list_append l its.toArray n u (by rw[Ztc];omega)) ⟨e, ?_⟩
 refine⟨.non,_,I.lset (its':=its++[u]) hH e (by simp) (r.append (.cons ru .nil)) ?_,rfl,q⟩
 rw[Ztv,ZuQ]
 omega
def ZmN:V->List V->Hp->VK->Prop:=fun x vs H Q=>∃l xs y,x=.ref l/\vs=[]/\H l=some (.lst xs)/\xs[xs.length-1]?=some y/\Q y (upd H l (.lst xs.dropLast))
theorem Zl4:MtM X "list.pop" ZmN:=by
 intro pins s σ H x vs v us Q I rx rv h
 obtain⟨l,xs,y,rfl,rfl,hH,hy,q⟩:=h
 cases rx
 have hus:=rv.zero
 subst hus
 obtain⟨z,its,n,r,hl,e⟩:=I.lstM hH
 obtain⟨u,hu,ru⟩:=r.get hy
 have hy':its.toArray[its.toArray.size-1]?=some u:=by
  show its.toArray[its.length-1]?=some u
  rw[<- Ztk,<- hl]
  exact hu
 refine call_meets F.slot_list_pop ⟨_,e,rfl⟩ F.entry_list_pop (F.args_list_pop_1 _) (MeetsSeq.list_pop_last l its.toArray n u hy' (by rw[Ztc];omega)) ⟨e, ?_⟩
 refine⟨y,_,I.lset (its':=its.dropLast) hH e ?_ r.dropLast ?_,ru,q⟩
 ·show its.toArray.eraseIdxIfInBounds (its.toArray.size-1)=its.dropLast.toArray
  rw[Ztc,ZuJ,Ze2]
 ·rw[List.length_dropLast]
  omega
def Zi8:V->List V->Hp->VK->Prop:=fun x vs H Q=>∃l xs i k y,x=.ref l/\vs=[.int i]/\H l=some (.lst xs)/\-(2^63)<=i/\i<2^63/\seqIndex? i xs.length=some k/\xs[k]?=some y/\Q y (upd H l (.lst (xs.eraseIdx k)))
theorem Zh5:MtM X "list.pop" Zi8:=by
 intro pins s σ H x vs v us Q I rx rv h
 obtain⟨l,xs,i,k,y,rfl,rfl,hH,h1,h2,hk,hy,q⟩:=h
 cases rx
 obtain⟨u,rfl,ru⟩:=rv.one
 obtain⟨t,rfl⟩:=ru
 obtain⟨z,its,n,r,hl,e⟩:=I.lstM hH
 obtain⟨w,hw,rw'⟩:=r.get hy
 refine call_meets F.slot_list_pop ⟨_,e,rfl⟩ F.entry_list_pop (F.args_list_pop_2 _ _)
  (MeetsSeq.list_pop_at l its.toArray n i t k w (fitsIndex_both h1 h2) (by rw[Ztc,<- hl];exact hk) (by rw[<- Ztk];exact hw) (by rw[Ztc];omega)) ⟨e, ?_⟩
 refine⟨y,_,I.lset (its':=its.eraseIdx k) hH e ?_ (r.eraseIdx k) ?_,rw',q⟩
 ·show its.toArray.eraseIdxIfInBounds k=(its.eraseIdx k).toArray
  rw[ZuJ]
 ·have:=ZbL xs k
  omega
noncomputable def Znz:R2:=fun x y H Q=>∃l k xs,x=.ref l/\y=.int k/\H l=some (.lst xs)/\-(2^63)<=k/\k<2^63/\xs.length*k.toNat<=sizeLine /\
 ∀p,H p=none->Q (.ref p) (upd H p (.lst (List.replicate k.toNat xs).flatten))
theorem ZfL{α:Type}(xs:List α)(k:Nat):(List.replicate k xs).flatten.length=k*xs.length:=by
 induction k with
 |zero=>simp
 |succ k ih=>rw[ZtT,Zur,Ztv,ih,Nat.succ_mul,Nat.add_comm]
theorem ZiF:OpR X (binaryOp .Mult) Znz:=by
 intro pins s σ H x y v u Q I rx ry h
 obtain⟨l,k,xs,rfl,rfl,hH,h1,h2,hz,q⟩:=h
 cases rx
 obtain⟨t,rfl⟩:=ry
 obtain⟨z,its,n,r,hl,e⟩:=I.lstM hH
 have hlen:its.toArray.size*k.toNat<=sizeLine:=by rw[Ztc,<- hl];exact hz
 have hcap:¬its.toArray.size*k.toNat>(2^63-1)/8:=by
  have:(sizeLine:Nat)<=(2^63-1)/8:=by decide
  omega
 have hfit:¬(!Builtin.List.listFitsIndex k)=true:=by
  rw[fitsIndex_both h1 h2]
  exact Bool.false_ne_true
 have hlong:¬Builtin.List.listTooLong (its.toArray.size*k.toNat)=true:=by
  rw[Zh3 hlen]
  exact Bool.false_ne_true
 have hnew:List.foldl (fun x1 x2=>x1++x2) #[] (List.replicate (if its.toArray.isEmpty=true then 0 else k.toNat) its.toArray)=(List.replicate k.toNat its).flatten.toArray:=by
  have f0:∀m:Nat,List.foldl (fun x1 x2=>x1++x2) #[] (List.replicate m its.toArray)=(List.replicate m its).flatten.toArray:=fun m=>by
   have:=ZbT its m []
   rw[Zuh] at this
   exact this
  rw[f0]
  cases its with
  |nil=>simp
  |cons a r'=>rw[if_neg (by simp)]
 refine wpAny_binaryOp_repeat_ref (T := "list") (U := "int") (by decide) ⟨_,e,rfl⟩ (fun s'=>typeIs_int s' k t) noFill_list_mul F.fills_int_mul F.slot_int_rmul repeat_list F.slot_int_index.lookup
  (call_meets F.slot_int_rmul (typeIs_int s k t) F.entry_int_rmul (F.args_int_rmul_2 _ _) (int___rmul___int_list k t l its.toArray n)
   ⟨e,rfl,⟨_,e,rfl⟩,call_meets F.slot_list_mul ⟨_,e,rfl⟩ F.entry_list_mul (F.args_list_mul_2 _ _) (AutoListH.list___mul___list_int_3 l its.toArray n k t hfit hcap hlong) ⟨e, ?_⟩⟩)
 rw[hnew]
 exact⟨.ref _,_,I.lnew (t':=s.toks) (r.rep k.toNat) (by rw[ZfL,Nat.mul_comm];exact hz),rfl,q _ I.fresh⟩
end
section
set_option maxRecDepth 100000 in
end
section
end
end L2
namespace Att
open PySem PySem.W PySem.Calls PyProof.Rows
theorem QM{P:Params}{h:Heap}:∀(ns:List Int) (vs:List Value),WellAll P h vs (ns.map WData.int)->IntsAre vs ns:=by
 intro ns
 induction ns with
 |nil =>
  intro vs w
  rw[Zux] at w
  cases w
  exact .nil
 |cons n ns ih =>
  intro vs w
  rw[Zte] at w
  cases w with
  |cons a b =>
   cases a
   exact .cons _ _ (ih _ b)
theorem Zfe{l:OpenLaw}{n:Nat}(hn:l.most=some n){P:Params}{h:Heap}{args:List WData}{vals:List Value}(hpre:l.row.toRowW.claim.pre args=true)(hwl:WellAll P h vals args) :
  ∃a vs ns,vals=[Value.ref a]/\args=[WData.list (ns.map WData.int)]/\h.get? a=some { cls:=.type "list",data:=.seq vs.toArray }/\IntsAre vs ns/\ns.length<=n:=by
 have hsh:WShape.hasAll [] args [.list .int]=true:=(pre_splitW hpre).1
 have hc:l.pre.holds [] { args:=args }=true:=(pre_splitW hpre).2
 obtain⟨d,r,rfl,h1,h2⟩:=hasAllW_cons hsh
 obtain rfl:=hasAllW_nil h2
 obtain⟨xs,rfl,h3⟩:=hasW_list h1
 obtain⟨ns,rfl⟩:=items_int h3
 have hlen:ns.length<=n:=by
  unfold OpenLaw.pre at hc
  have h4:(WTm.not (.lt (.lit (.int (n:Int))) (.len (.arg 0)))).holds [] { args:=[.list (ns.map .int)] }=true:=by
   have h4:=(holds_andW hc).1
   rw[hn] at h4
   exact h4
  have h5:=condW_of h4 (w_not (w_lt w_lit (w_len_list (w_arg rfl))))
  rw[ZsV] at h5
  refine Nat.le_of_not_lt fun q=>?_
  have q':(n:Int)<((ns.length:Nat):Int):=by omega
  first
   |(rw[decide_eq_true q'] at h5;exact absurd h5 (by decide))
   |(simp at h5;omega)
 cases hwl with
 |cons w1 w2 =>
  cases w2
  cases w1 with
  |list ho hall=>exact⟨_,_,ns,rfl,rfl,ho,QM ns _ hall,hlen⟩
theorem Zfr(l:OpenLaw)(args:List WData):l.row.toRowW.claim.post args (.bool true) args=true:=
 postW_of (r:=l.row.toRowW) (X:=(true==true))
  (show WShape.has [] (.bool true) .bool=true by first|rfl|decide|simp[WShape.has,WShape.arms,WShape.armsAll])
  (show (WTm.eq .res (.lit (.bool true))).value [] { args:=args,res:=some (.bool true),after:=args }=some (.bool (true==true)) from w_eq_bool (w_res rfl) w_lit) rfl
theorem ZcS{l:OpenLaw}{n:Nat}{q:Program}{loose:List Str}{XP:(Str->Option Value)->Heap->Prop}{YP:World->Heap->Prop}{d:DefRec}(hn:l.most=some n)(hdf:d.params.defaults=[])(call:∀(w:World) (s₀ s₁:Shared) (mg mb:Str->Option Value) (fa:Addr) (o:Obj) (pm cd doc:Value) (a:Addr) (vs:List Value) (ns:List Int),
   Ground q loose [] XP w s₀ mg mb s₁.heap->YP w s₁.heap ->
   s₁.heap.get? fa=some o->o.data=.func (docDef d.name d.params d.body d.scope pm cd doc)->s₁.heap.CodeRec cd d.name->mg d.name=some (.ref fa) ->
   s₁.heap.get? a=some { cls:=.type "list",data:=.seq vs.toArray }->IntsAre vs ns->ns.length<=n->s₁.gens=#[] ->
   codeAny (model l.prog w) callerA (.call (.ref fa) ⟨[.ref a],[]⟩) (fun r s'=>r=.ok (.ret (.bool true))/\OldK s₁.heap s'.heap/\s'.os=s₁.os/\AllBare s'.gens) s₁) :
  WalkO q loose XP YP l.row.toRowW d [] (fun f vs=>PySem.call f vs):=by
 intro w s₀ s₁ mg mb G Y fa o pm cd doc dV kV ho hd hcd hD hmg hg args vals as hpre hlay hrd hwl hlo
 obtain rfl:dV=.none:=Dflts.none hD hdf
 obtain rfl:kV=.none:=Dflts.noKw hD
 obtain⟨a,vs,ns,rfl,rfl,hobj,hints,hlen⟩:=Zfe hn hpre hwl
 refine enter_call (codeAny_mono (call w s₀ s₁ mg mb fa o pm cd doc a vs ns G Y ho (fd_plain hd) hcd hmg hobj hints hlen hg) fun r s' hq=>?_)
 obtain⟨rfl,h2,h3,h4⟩:=hq
 exact⟨.inl ⟨.bool true,.bool true,[],rfl,fun _=>rfl,.bool true,Zfr l _,fun _=>⟨List.Pairwise.nil,fun _ hm=>(nomatch hm)⟩⟩,h2,h3,h4⟩
section
end
end Att
namespace L2
open PySem PySem.Spec PyProof.Rows
theorem Zb5:∀{vs:List Value}{ns:List Int},IntsAre vs ns->ZR (ns.map V.int) vs
 |_,_,.nil=>.nil
 |_,_,.cons n t h=>.cons ⟨t,rfl⟩ (Zb5 h)
def Zk2(K:W.Frag)(h:Heap):Prop:=∀f c P,Zcl K f=some (c,P)->h.get? P=some (PySem.W.tabObj #[])/\K.lookup P=none
theorem ZfO{K:W.Frag}{f c P:Addr}(h:Zcl K f=some (c,P)):PySem.W.codeHdIn K c P=true:=by
 unfold Zcl at h
 repeat' split at h
 all_goals first|cases h;done|skip
 rename_i hd
 cases h
 exact hd
open Classical in
theorem Zh9{P:Program}{w:World}{K:W.Frag}{mg mb:Str->Option Value}{CX:CXT}{k:Nat}{fa a:Addr}{fd:FuncData}{x:Str}{sp:Sp}{s₁:Shared}{vs:List Value}{ns:List Int}(KX:K.In s₁.heap)(hns:s₁.heap.Ns mainGlobals mg)(hb:s₁.heap.Ns builtinsNs mb)(hbb:∀x:Str,x ≠ "__name__"->mb x=bootBuiltins x)(hlim:s₁.heap.NoLimit)(hbm:BMd mg s₁.heap)(hL:Zk2 K s₁.heap)(hg:s₁.gens=#[])(ha:s₁.heap.get? a=some { cls:=.type "list",data:=.seq vs.toArray })(hi:IntsAre vs ns)(hl:ns.length<=sizeLine)(hr:VU k callerA)(F:∀base:Heap,K.In base->base.Ns mainGlobals mg->J1 P w K mg base CX k fa fd [x] sp)(hbind:∀(s:Shared) (u:Value),BindsTo s fd ⟨[u],[]⟩ [(x,u)])(hsp:∀H:Hp,SqL K H a (ns.map V.int)->sp [.ref a] H (fun v _=>v=.bl true) fun _ _ _=>False)(hCX:∀H e s',CX [] H s₁ (fun _ _ _=>False) e s'->False) :
  codeAny (model P w) callerA (.call (.ref fa) ⟨[.ref a],[]⟩) (fun r s'=>r=.ok (.ret (.bool true))/\OldK s₁.heap s'.heap/\s'.os=s₁.os/\AllBare s'.gens) s₁:=by
 have rv:=Zb5 hi
 have lenV:=hi.length
 generalize hH:(fun b=>if (∃f c,Zcl K f=some (c,b)) then some (HO.tbl #[] "ends_first.<locals>.<lambda>") else if b=a/\K.lookup a=none then some (.frz { cls:=.type "list",data:=.seq vs.toArray } (.lst (ns.map V.int))) else none:Hp)=H
 have tabP:∀{b},(∃f c,Zcl K f=some (c,b))->s₁.heap.get? b=some (PySem.W.tabObj #[])/\K.lookup b=none/\PySem.isCodeTable s₁.heap b:=fun {b} e=>by
  obtain⟨f0,c,q⟩:=e
  obtain⟨h1,h2⟩:=hL f0 c b q
  exact⟨h1,h2,((PySem.W.codeHd_of_K KX (ZfO q)).tab h1).isCodeTable⟩
 have at_tab:∀{b},(∃f c,Zcl K f=some (c,b))->H b=some (.tbl #[] "ends_first.<locals>.<lambda>"):=fun {b} e=>by subst hH;exact if_pos e
 have at_a:K.lookup a=none->H a=some (.frz { cls:=.type "list",data:=.seq vs.toArray } (.lst (ns.map V.int))):=fun e=>by
  subst hH
  refine(if_neg fun z=>?_).trans (if_pos ⟨rfl,e⟩)
  have:=(tabP z).1
  rw[ha] at this
  cases this
 have cases_H:∀b u,H b=some u->((∃f c,Zcl K f=some (c,b))/\u=.tbl #[] "ends_first.<locals>.<lambda>")\/(b=a/\K.lookup a=none/\u=.frz { cls:=.type "list",data:=.seq vs.toArray } (.lst (ns.map V.int))):=fun b u e=>by
  subst hH
  dsimp only at e
  split at e
  ·rename_i z;exact .inl ⟨z,(Option.some.inj e).symm⟩
  ·split at e
   ·rename_i z;exact .inr ⟨z.1,z.2,(Option.some.inj e).symm⟩
   ·cases e
 have hS:SqL K H a (ns.map V.int):=by
  cases hk:K.lookup a with
  |some o =>
   have e:=KX a o hk
   rw[ha] at e
   cases e
   exact .inr ⟨_,vs.toArray,_,hk,rfl,rfl,rfl,by rw[Ztc,lenV];exact hl,by simpa using rv⟩
  |none=>exact .inl (.inr ⟨_,at_a hk⟩)
 have hok:HOk P w H s₁.heap:=fun b u e=>by
  rcases cases_H b u e with ⟨z,rfl⟩|⟨rfl,_,rfl⟩
  ·exact⟨#[],(tabP z).1,trivial,fun pos c' q=>by cases q⟩
  ·exact⟨ha,by rw[ZsV];exact hl,vs,_,rv,ha⟩
 have base_of:∀{b:Addr}{o:Obj},s₁.heap.get? b=some o->H b=none->(ZhL s₁.heap H).get? b=some o:=fun e n=>ZhK e n
 have noA:∀{b:Addr}{o:Obj},s₁.heap.get? b=some o->(∀xs n,o.data≠.seq xs n)->(∀xs,o.data≠.fields xs)->H b=none:=fun {b o} e d1 d2=>by
  cases q:H b with
  |none=>rfl
  |some u =>
   rcases cases_H b u q with ⟨z,_⟩|⟨z,_,_⟩
   ·have:=(tabP z).1
    rw[e] at this;cases this
    exact absurd rfl (d2 _)
   ·subst z
    rw[ha] at e;cases e
    exact absurd rfl (d1 _ _)
 have nsK:∀{b:Addr}{m:Str->Option Value},s₁.heap.Ns b m->(ZhL s₁.heap H).Ns b m:=fun {b m} ⟨o,es,ep,e,d,r⟩=>⟨o,es,ep,base_of e (noA e (fun _ _ z=>by rw[d] at z;cases z) (fun _ z=>by rw[d] at z;cases z)),d,r⟩
 have hKb:K.In (ZhL s₁.heap H):=fun b o e=>base_of (KX b o e) (by
  cases q:H b with
  |none=>rfl
  |some u =>
   rcases cases_H b u q with ⟨z,_⟩|⟨rfl,z,_⟩
   ·rw[(tabP z).2.1] at e;cases e
   ·rw[z] at e;cases e)
 have hM:Mod K mg (ZhL s₁.heap H):=⟨hKb,nsK hns,⟨mb,nsK hb,hbb⟩,let ⟨mc,h1,h2⟩:=hlim;⟨mc,nsK h1,h2⟩,by
  obtain⟨bm,o,b1,b2,b3,b4,b5,b6⟩:=hbm
  exact⟨bm,o,b1,b2,base_of b3 (noA b3 (fun _ _ z=>by rw[b6] at z;cases z) (fun _ z=>by rw[b6] at z;cases z)),b4,b5,b6⟩⟩
 have e0:ZmA P w K mg (ZhL s₁.heap H) callerA [] s₁ H:=⟨rfl,hM,fun b o e=>ZjN e,Zve (ZfZ _ _),trivial,fun b hb=>absurd (show b∈([]:List Addr) from hb) (by simp),hok,.of_eq hg,fun f0 c P0 q=>at_tab ⟨f0,c,q⟩⟩
 refine codeAny_mono ((F _ hKb (nsK hns)).run callerA [] s₁ H ⟨[.ref a],[]⟩ [.ref a] [.ref a] _ _ hr e0 (hbind s₁ (.ref a)) (.cons rfl .nil) (hsp H hS)) fun r s' h=>?_
 match r,h with
 |.error e,h=>exact(hCX H e s' h).elim
 |.ok (.ret u),h =>
  obtain⟨v,H',os,bare,un,hok',r',q⟩:=h
  have q':v=.bl true:=q
  subst q'
  obtain rfl:u=Value.bool true:=r'
  have old:∀b o,s₁.heap.get? b=some o->PySem.asItWas s₁.heap s'.heap b o/\∃o',s'.heap.get? b=some o':=fun b o e=>by
   cases q:H b with
   |none =>
    have:=un.keep b o e q (by intro z;exact absurd (show b∈([]:List Addr) from z) (by simp)) (by simp)
    exact⟨.inl this,_,this⟩
   |some u =>
    rcases cases_H b u q with ⟨z,rfl⟩|⟨rfl,_,rfl⟩
    ·obtain⟨more,e2,_⟩:=hok' b _ (un.tbls b _ _ q)
     obtain⟨t1,_,t2⟩:=tabP z
     rw[e] at t1;cases t1
     exact⟨.inr (.inl ⟨t2,rfl,#[],more,rfl,e2⟩),_,e2⟩
    ·obtain⟨e1,_⟩:=hok b _ q
     obtain⟨e2,_⟩:=hok' b _ (un.frzs b _ _ q)
     rw[e] at e1;cases e1
     exact⟨.inl e2,_,e2⟩
  exact⟨rfl,⟨fun b o e=>(old b o e).1,fun b o e=>(old b o e).2⟩,os,bare⟩
noncomputable abbrev KOf{K:W.Frag}{h:Heap}(_:K.In h):W.Frag:=K
theorem Zmm{p:Program}{loose:List Str}{mean:ExcName->Option Value}{mg mb:Str->Option Value}{h:Heap}(T:PyProof.Rows.Top p loose mean mg mb h):BMd mg h:=let ⟨bm,ob,a,b,c,d,e,f⟩:=T.bmain;⟨bm,ob,a,b,c,d,e,f⟩
theorem ZgP{l:PySem.W.OpenLaw}{n k:Nat}{q:Program}{loose:List Str}{XP:(Str->Option Value)->Heap->Prop}{YP:World->Heap->Prop}{d:DefRec}{K:Params->W.Frag}{CX:CXT}{sp:W.Frag->Sp}{x:Str}(hn:l.most=some n)(hn2:n<=sizeLine)(hdf:d.params.defaults=[])(hr:VU k callerA)(hY:∀(w:World) (h:Heap),YP w h->(K w.params).In h/\Zk2 (K w.params) h)(F:∀(w:World) (mg:Str->Option Value) (fa:Addr) (h:Heap),(K w.params).In h->h.Ns mainGlobals mg->mg d.name=some (.ref fa) ->
   ∃fd:FuncData,(∀(s:Shared) (u:Value),BindsTo s fd ⟨[u],[]⟩ [(x,u)]) /\
    ∀base:Heap,(K w.params).In base->base.Ns mainGlobals mg->J1 l.prog w (K w.params) mg base CX k fa fd [x] (sp (K w.params)))(hsp:∀(K:PySem.W.Frag) (H:Hp) (a:Addr) (ns:List Int),ns.length<=n->SqL K H a (ns.map V.int)->sp K [.ref a] H (fun v _=>v=.bl true) fun _ _ _=>False)(hCX:∀(H:Hp) (s:Shared) (e:Value) (s':Shared),CX [] H s (fun _ _ _=>False) e s'->False) :
  PySem.W.WalkO q loose XP YP l.row.toRowW d [] (fun f vs=>PySem.call f vs):=by
 refine Att.ZcS hn hdf fun w s₀ s₁ mg mb fa o pm cd doc a vs ns G Y ho hd hcd hmg hobj hints hlen hg=>?_
 obtain⟨KX,LX⟩:=hY w _ Y
 obtain⟨fd,hb,hF⟩:=F w mg fa _ KX G.T.g hmg
 exact Zh9 KX G.T.g G.T.b G.T.builtins G.T.nolimit (Zmm G.T) LX hg hobj hints (Ztr hlen hn2) hr hF hb (fun H hS=>hsp (K w.params) H a ns hlen hS) fun H e s'=>hCX H s₁ e s'
noncomputable def UP(s:Stmt):Arguments:=match s with
 |.FunctionDef _ a _ _ _ _ _ _ _ _=>a
 |_=>{ posonlyargs:=[],args:=[],vararg:=none,kwonlyargs:=[],kw_defaults:=[],kwarg:=none,defaults:=[] }
noncomputable def JO(s:Stmt):List Stmt:=match s with
 |.FunctionDef _ _ b _ _ _ _ _ _ _=>b
 |_=>[]
noncomputable def Zl(s:Stmt):Scope:=match s with
 |.FunctionDef _ _ _ _ _ _ sc _ _ _=>sc
 |_=>{ kind:=.function,names:=[],isGenerator:=false,isCoroutine:=false }
noncomputable abbrev CX0:CXT:=fun _ _ _ _ _ _=>False
noncomputable abbrev E0:XK:=fun _ _ _=>False
theorem Zlh{X:Cx}:Zec CX0 X E0:=fun _ _ _ _ _ _ _ h=>h.elim
structure Fun(K:PySem.W.Frag)(x qual:Str)(st:Stmt)(f:Addr)(fd:FuncData):Prop where
 ex:∃(oc:Value) (od:Option Addr) (kV doc pm:Value) (an:Option Addr) (cdv ct:Value) (osl:Array (Option Value)),
  fd=PySem.W.fnOf x qual (UP st) (JO st) (Zl st) .none kV doc pm an cdv ct/\K.lookup f=some ⟨oc,od,.func fd,osl⟩/\PySem.W.codeIn K cdv qual=true
 kp:PySem.W.keepIn K (.ref f)=true
section
variable {P:Program}{w:World}{K:W.Frag}{mg:Str->Option Value}{base:Heap}
theorem Fun.ok{x qual:Str}{st:Stmt}{f:Addr}{fd:FuncData}{N ps:List Str}{k:Nat}{sp:Sp}(F:Fun K x qual st f fd)(S:Zx N ps (Zl st))(len:∀vs H Q E,sp vs H Q E->vs.length=ps.length)(hbody:∀(cdv:Value) (A:Around) (outer:List Env) (s:Shared) (H:Hp) (vs:List V) (Q:VK) (E:XK),VU k (A.deeper (envOfC qual (Zl st) s.heap.objs.size f cdv))->sp vs H Q E ->
   ∃t,PSs (ZgL CX0 P w K mg base N qual (Zl st) f cdv A outer s H E).nox (JO st) t/\t { nx:=fun _ H'=>Q .non H',rt:=Q } (VL N vs) H):J1 P w K mg base CX0 (k+1) f fd ps sp:=by
 obtain⟨oc,od,kV,doc,pm,an,cdv,ct,osl,rfl,lk,hcd⟩:=F.ex
 refine ZlR lk hcd S len fun A outer s H vs Q E hr hsp=>?_
 obtain⟨t,h,q⟩:=hbody cdv A outer s H vs Q E hr hsp
 exact⟨t,h.nox,q⟩
theorem Fun.binds{x qual:Str}{st:Stmt}{f:Addr}{fd:FuncData}{ps:List Str}(F:Fun K x qual st f fd)(h:∀(kV doc pm:Value) (an:Option Addr) (cdv ct:Value) (us:List Value),us.length=ps.length->bindArgs (PySem.W.fnOf x qual (UP st) (JO st) (Zl st) .none kV doc pm an cdv ct) ⟨us,[]⟩=pure (ps.zip us)):ZcX K fd ps []:=by
 obtain⟨oc,od,kV,doc,pm,an,cdv,ct,osl,rfl,lk,hcd⟩:=F.ex
 exact .all (h kV doc pm an cdv ct)
theorem ZlQ{x qual:Str}{st:Stmt}{f:Addr}{oc:Value}{od an:Option Addr}{osl:Array (Option Value)}{kV doc pm cdv ct:Value}(l:K.lookup f=some ⟨oc,od,.func (PySem.W.fnOf x qual (UP st) (JO st) (Zl st) .none kV doc pm an cdv ct),osl⟩)(c:PySem.W.codeIn K cdv qual=true)(k:PySem.W.keepIn K (.ref f)=true):Fun K x qual st f (PySem.W.fnOf x qual (UP st) (JO st) (Zl st) .none kV doc pm an cdv ct):=⟨⟨oc,od,kV,doc,pm,an,cdv,ct,osl,rfl,l,c⟩,k⟩
variable {X:Cx}
theorem pv(i:Nat){x:Str}{pos:Pos}(hN:X.N[i]?=some x:=by rfl)(hv:Vis X.env.scope x:=by first|exact Or.inl rfl|exact Or.inr (Or.inl rfl)|exact Or.inr (Or.inr rfl))(hd:(x==("__debug__":Str))=false:=by decide)(hcd:(x==("__classdict__":Str))=false:=by decide):PE X (.Name x pos) (Qf i):=Zld hN hv hd hcd
end
def Z7(H H':Hp):Prop:=∀b o,H b=some o->H' b=some o
theorem Z7.refl(H:Hp):Z7 H H:=fun _ _ h=>h
theorem Z7.trans{H H1 H2:Hp}(a:Z7 H H1)(b:Z7 H1 H2):Z7 H H2:=fun c o h=>b c o (a c o h)
theorem Z7.free{H H':Hp}(e:Z7 H H'){l:Addr}(h:H' l=Option.none):H l=Option.none:=by
 cases q:H l with
 |none=>rfl
 |some o =>
  rw[e l o q] at h
  cases h
end L2
set_option maxHeartbeats 4000000
namespace L2
open PySem PySem.Spec PyProof.Rows
noncomputable def Zaj(scope:Scope)(env:Env):List (Str×Addr):=
 ((scope.names.filter fun p=>p.2==.free).reverse).map fun p=>(p.1,(env.cells.lookup p.1).getD 0)
theorem Uy{β:Type}:∀{l:List (Str×β)}{a:Str}{b:β},(a,b)∈l->∃c,l.lookup a=some c
 |[],_,_,h=>absurd h (by simp)
 |(n,v)::r,a,b,h=>by
  cases e:a==n with
  |true=>exact⟨v,by simp[ZtP,e]⟩
  |false =>
   rcases Zti.mp h with z|z
   ·cases z;simp at e
   ·obtain⟨c,hc⟩:=Uy z
    exact⟨c,by simp[ZtP,e,hc]⟩
theorem ZP{env:Env}:∀{names:List (Str×NameKind)}{y:Str}{k:NameKind},(∀p∈names,p.2≠.cell) ->
  (names.map fun(n,k)=>if (k==NameKind.free&&env.scope.kind==.function&&env.kindOf n==some .cell) then (n,NameKind.cell) else (n,k)).lookup y=some k ->
  (k=.local->names.lookup y=some .local)/\(k=.cell\/k=.free->names.lookup y=some .free)
 |[],_,_,_,h=>by simp at h
 |(n,k0)::r,y,k,nc,h=>by
  have ih:=@ZP env r y k (fun p hp=>nc p (Ztz _ hp))
  have nc0:=nc (n,k0) ZtG
  have h':List.lookup y ((if (k0==NameKind.free&&env.scope.kind==.function&&env.kindOf n==some .cell)=true then (n,NameKind.cell) else (n,k0))::(r.map fun(n,k)=>if (k==NameKind.free&&env.scope.kind==.function&&env.kindOf n==some .cell) then (n,NameKind.cell) else (n,k)))=some k:=h
  cases hx:y==n with
  |true =>
   by_cases hc:(k0==NameKind.free&&env.scope.kind==.function&&env.kindOf n==some .cell)=true
   ·rw[if_pos hc] at h'
    simp only[ZtP,hx] at h'
    have hk:NameKind.cell=k:=Option.some.inj h'
    subst hk
    have hf:k0=.free:=by
     simp only[Bool.and_eq_true] at hc
     exact beq_iff_eq.mp hc.1.1
    subst hf
    exact⟨(fun z=>nomatch z),fun _=>by simp[ZtP,hx]⟩
   ·rw[if_neg hc] at h'
    simp only[ZtP,hx] at h'
    have hk:k0=k:=Option.some.inj h'
    subst hk
    refine⟨fun z=>by subst z;simp[ZtP,hx],fun z=>?_⟩
    rcases z with z|z
    ·exact absurd z nc0
    ·subst z;simp[ZtP,hx]
  |false =>
   by_cases hc:(k0==NameKind.free&&env.scope.kind==.function&&env.kindOf n==some .cell)=true
   ·rw[if_pos hc] at h'
    simp only[ZtP,hx] at h'
    have:=ih h'
    simpa[ZtP,hx] using this
   ·rw[if_neg hc] at h'
    simp only[ZtP,hx] at h'
    have:=ih h'
    simpa[ZtP,hx] using this
noncomputable def ZcN(N:List Str)(sc scope:Scope)(x:Str):Bool:=
 (scope.names.all fun p=>!(p.2==.cell))&&(scope.kind==.function)&&(scope.names.all fun p=>!(p.2==.local) || scope.names.lookup p.1==some .local)&&(scope.names.lookup x==some .local)
  && (N.all fun y=>!(scope.names.lookup y==some .local))&&(scope.names.all fun p=>!(p.2==.free) || sc.names.lookup p.1==some .cell || sc.names.lookup p.1==some .free)
structure ZaD(N:List Str)(sc scope:Scope)(x:Str):Prop where
 nc:∀p∈scope.names,p.2≠.cell
 kind:scope.kind=.function
 locs:∀p∈scope.names,p.2=.local->scope.names.lookup p.1=some .local
 var:scope.names.lookup x=some .local
 noN:∀y∈N,scope.names.lookup y≠some .local
 fr:∀p∈scope.names,p.2=.free->sc.names.lookup p.1=some .cell\/sc.names.lookup p.1=some .free
theorem ZaD.of{N:List Str}{sc scope:Scope}{x:Str}(h:ZcN N sc scope x=true):ZaD N sc scope x:=by
 unfold ZcN at h
 simp only[Bool.and_eq_true,ZtF,Bool.or_eq_true,Bool.not_eq_true',beq_iff_eq,beq_eq_false_iff_ne] at h
 obtain⟨⟨⟨⟨⟨h1,h2⟩,h3⟩,h4⟩,h5⟩,h6⟩:=h
 refine⟨h1,h2,fun p hp e=>?_,h4,h5,fun p hp e=>?_⟩
 ·rcases h3 p hp with z|z
  ·exact absurd e z
  ·exact z
 ·rcases h6 p hp with (z|z)|z
  ·exact absurd e z
  ·exact .inl z
  ·exact .inr z
section
variable {X:Cx}{pins:List (Addr×Obj)}{σ:St}{H:Hp}{s:Shared}
theorem Inv.adopt{D:Addr}{ys:List V}{its:List Value}{n:Nat}(I:Inv X pins σ H s)(hn:H D=none)(h1:X.s₀.heap.objs.size<=D)(hL:D≠X.env.locals)(hc:∀x c,X.env.cells.lookup x=some c->c≠D)(hp:∀p∈X.pn++pins,p.1≠D)(ho:s.heap.get? D=some { cls:=.type "list",data:=.seq its.toArray n })(r:ZR ys its)(hz:ys.length<=sizeLine):Inv X pins σ (upd H D (.lst ys)) s:=by
 refine I.step (h':=s.heap) (g':=s.gens) (d':=s.drawn) (t':=s.toks) (ch:=[D]) (fun b hb=>?_) (fun b o _ _ _ e _=>e) (fun b o _ _ _ e _=>⟨o.slots,e⟩) (fun b o hb _ e=>?_) (fun b o _ e=>⟨o,e⟩)
  (fun b xs e=>?_) (fun b o u e=>?_) (fun b ps w e=>?_) (fun m hm=>hm) (fun b u e=>?_) I.bare
 ·have e:b=D:=by simpa using hb
  subst e
  exact⟨.inr h1,hL,hc,hp⟩
 ·rw[Zo (by simpa using hb)];exact e
 ·rw[Zo (Z8 e hn)];exact e
 ·rw[Zo (Z8 e hn)];exact e
 ·rw[Zo (Z8 e hn)];exact e
 ·by_cases hb:b=D
  ·subst hb
   rw[Zv] at e;cases e
   exact⟨hz,its,n,r,ho⟩
  ·rw[Zo hb] at e
   exact(I.hok b u e).stay (fun c v _ q=>q) (fun c q=>by rw[Zo (Z8 q hn)];exact q) fun c xs q=>by rw[Zo (Z8 q hn)];exact q
variable {scope:Scope}
theorem Qt{y:Str}(h:scope.names.lookup y=some .free):∃c,(Zaj scope X.env).lookup y=some c:=by
 have hm:=PySem.mem_of_lookup h
 refine Uy (b:=(X.env.cells.lookup y).getD 0) ?_
 unfold Zaj
 exact Ztm.mpr ⟨(y,.free),Zvl.mpr (ZtA.mpr ⟨hm,rfl⟩),rfl⟩
end
end L2
namespace HL
open PySem PyProof.Rows
section
open PySem.SeqAt
open PySem.AutoSeq1 (wpAny_loadPart')
open PySem.MeetsSeq PySem.MeetsSeq2 PySem.MeetsSeq3 SeqRoads2
theorem Ub:∀{vs:List Value}{ns:List Int}{i:Nat} (_:IntsAre vs ns) (h1:i<vs.length) (h2:i<ns.length),∃t,vs[i]=Value.int ns[i] t
 |_,_,0,.cons n t _,_,_=>⟨t,rfl⟩
 |_,_,i+1,.cons n t h,h1,h2=>by
  obtain⟨u,e⟩:=Ub (i:=i) h (by simpa using h1) (by simpa using h2)
  exact⟨u,by simpa using e⟩
end
section
end
end HL
namespace L2
open PySem PySem.Spec PyProof.Rows
section
variable {X:Cx}
theorem Zim(hc:X.calm=true):Vc X (.builtin "sum") (fun xs H Q=>∃p,∃ns:List Int,xs=[.ref p]/\SqL X.K H p (ns.map V.int)/\Q (.int ns.sum) H):=by
 intro pins s σ H xs us Q I r h
 obtain⟨p,ns,rfl,hq,q⟩:=h
 obtain⟨u,rfl,rx⟩:=UX r
 cases rx
 obtain⟨its,r',pl,hz⟩:=I.list hq
 have hi:IntsAre its ns:=UL r'
 obtain⟨xs,hx⟩:=hi.allInts.items
 have hl':s.heap.IsList p (intItems xs):=hx▸pl.isList
 refine sum_intListG (I.ok.hd hc) hl' fun h' tk t' hk=>?_
 have e1:ns=xs.toList.map (·.1):=by
  rw[<- nums_intItems,<- hx]
  exact(show numsOf its.toArray.toList=ns from hi.numsOf).symm
 have e2:preSum (numAt xs) xs.size=ns.sum:=by
  rw[preSum_eq,ZtC (by simp),e1]
 rw[e2]
 exact⟨.int ns.sum,H,I.kept hk,⟨_,rfl⟩,q⟩
theorem Ug:∀{bs:List Bool}{us:List Value},ZR (bs.map V.bl) us->LSm.BoolsAre us bs
 |[],_,.nil=>.nil
 |b::bs,_,.cons r t=>by
  cases r
  exact .cons b (Ug t)
theorem Zio(hc:X.calm=true):Vc X (.builtin "all") (fun xs H Q=>∃p,∃bs:List Bool,xs=[.ref p]/\SqL X.K H p (bs.map V.bl)/\Q (.bl (bs.all id)) H):=by
 intro pins s σ H xs us Q I r h
 obtain⟨p,bs,rfl,hq,q⟩:=h
 obtain⟨u,rfl,rx⟩:=UX r
 cases rx
 obtain⟨its,r',pl,hz⟩:=I.list hq
 have hb:=Ug r'
 have hlt:p<s.heap.objs.size:=by obtain⟨_,e,_⟩:=pl.isList;exact Heap.lt_size e
 refine call_all_walk (wpAny_pyIter_list pl.isList ?_)
 refine⟨s.heap.objs.size,[s.heap.objs.size,p],[s.heap.objs.size],its.toArray.size,_,_,fun i=>(bs[i]?).getD true,rfl,Walks.list (A:=X.A.in1) (I.ok.hd hc) _ p (Zt1 hlt) its.toArray,
  ⟨⟨_,Heap.get?_push_size _ rfl,rfl,rfl⟩,pl.isList.push _⟩,fun i v s' Q' E' hP hQ=>?_,fun h' tk hk=>?_⟩
 ·obtain⟨b,e,rfl⟩:=hb.get i v (by simpa using hP)
  dsimp only at hQ
  rw[e,ZtZ] at hQ
  exact wpAny_truthy_bool hQ
 ·rw[Ztc,hb.length,LSm.range_all]
  exact⟨.bl (bs.all id),H,I.kept (LSm.kept_iter hk),rfl,q⟩
end
end L2
namespace HL
open PySem PyProof.Rows
section
end
section
open PySem.SeqAt
open PySem.AutoSeq1 (wpAny_loadPart')
open PySem.MeetsSeq PySem.MeetsSeq2 PySem.MeetsSeq3
end
end HL
namespace HL
open PySem
theorem V5:∀a:List Int,HT.Z1 a a=false
 |[]=>rfl
 |x::xs=>by rw[HT.JH,if_pos rfl];exact V5 xs
theorem Ua:∀{a b c:List Int},HT.Z1 a b=true->HT.Z1 b c=true->HT.Z1 a c=true
 |[],[],_,h,_=>by simp[HT.Z1] at h
 |[],_::_,[],_,h=>by simp[HT.Z1] at h
 |[],_::_,_::_,_,_=>rfl
 |_::_,[],_,h,_=>by simp[HT.Z1] at h
 |_::_,_::_,[],_,h=>by simp[HT.Z1] at h
 |x::xs,y::ys,z::zs,h1,h2=>by
  rw[HT.JH] at h1 h2 ⊢
  by_cases e1:x=y
  ·rw[if_pos e1] at h1
   subst e1
   by_cases e2:x=z
   ·rw[if_pos e2] at h2 ⊢
    exact Ua h1 h2
   ·rw[if_neg e2] at h2 ⊢
    exact h2
  ·rw[if_neg e1] at h1
   have h1':=of_decide_eq_true h1
   by_cases e2:y=z
   ·subst e2
    rw[if_neg e1]
    exact h1
   ·rw[if_neg e2] at h2
    have h2':=of_decide_eq_true h2
    rw[if_neg (by omega)]
    exact decide_eq_true (by omega)
theorem JM:∀{a b:List Int},HT.Z1 a b=false->HT.Z1 b a=false->a=b
 |[],[],_,_=>rfl
 |[],_::_,h,_=>by simp[HT.Z1] at h
 |_::_,[],_,h=>by simp[HT.Z1] at h
 |x::xs,y::ys,h1,h2=>by
  rw[HT.JH] at h1 h2
  by_cases e:x=y
  ·subst e
   rw[if_pos rfl] at h1 h2
   rw[JM h1 h2]
  ·rw[if_neg e] at h1
   rw[if_neg (Ne.symm e)] at h2
   have:=of_decide_eq_false h1
   have:=of_decide_eq_false h2
   omega
end HL
namespace L2
open PySem PySem.Spec PyProof.Rows
section
end
def Dfn(K:W.Frag)(mg:Str->Option Value)(x:Str)(st:Stmt):Prop:=∃f fd,Fun K x x st f fd/\mg x=some (.ref f)
noncomputable abbrev Zt(x:Str)(st:Stmt)(ps:List Str):Prop:=∀(kV doc pm:Value) (an:Option Addr) (cdv ct:Value) (us:List Value),us.length=ps.length ->
 bindArgs (PySem.W.fnOf x x (UP st) (JO st) (Zl st) .none kV doc pm an cdv ct) ⟨us,[]⟩=pure (ps.zip us)
def Ok(P:Program)(w:World)(K:W.Frag)(mg:Str->Option Value)(base:Heap)(k:Nat)(x:Str)(ps:List Str)(sp:Sp):Prop:=
 ∃f fd,J1 P w K mg base CX0 k f fd ps sp/\mg x=some (.ref f)/\PySem.W.keepIn K (.ref f)=true/\ZcX K fd ps []
theorem JT{P:Program}{w:World}{K:W.Frag}{mg:Str->Option Value}{base:Heap}{k:Nat}{x:Str}{st:Stmt}{ps:List Str}{sp:Sp}(d:Dfn K mg x st)(b:Zt x st ps)(h:∀{f fd},Fun K x x st f fd->J1 P w K mg base CX0 k f fd ps sp):Ok P w K mg base k x ps sp:=by
 obtain⟨f,fd,F,hm⟩:=d
 exact⟨f,fd,h F,hm,F.kp,F.binds b⟩
section
variable {X:Cx}{k:Nat}{x:Str}{ps:List Str}{sp:Sp}{p pos:Pos}{e:Expr}{es:List Expr}{t:TA}
noncomputable def UQ(sp:Sp)(t:TA):TE:=fun σ H Q=>t σ H fun vs H1=>sp vs H1 Q E0
theorem Zp(G:Ok X.prog X.w X.K X.mg X.base k x ps sp)(hr:VU k X.A)(hg:Gl X x)(ha:PA X (e::es) t)(hdb:(x==("__debug__":Str))=false:=by decide)(he:starEach (e::es) X.env=(false,eval e X.env)::starEach es X.env:=by rfl)(hpl:(backTo pos (starEach es X.env)).any (·.1)=false:=by rfl):PE X (.Call (.Name x p) (e::es) [] pos) (UQ sp t):=by
 obtain⟨f,fd,F,hm,hk,hb⟩:=G
 intro pins s σ H Q I h
 refine Zj7 (CX:=CX0) (E:=E0) (dvs:=[]) F hr hg hm hk hb .nil Zlh ha hdb he hpl pins s σ H Q I ?_
 have e:(fun vs H1=>sp (vs++[]) H1 Q E0)=fun vs H1=>sp vs H1 Q E0:=by funext vs H1;rw[Zua]
 show t σ H (fun vs H1=>sp (vs++[]) H1 Q E0)
 rw[e]
 exact h
theorem Zfy(G:Ok X.prog X.w X.K X.mg X.base k x ps sp)(hr:VU k X.A)(hg:Gl X x)(hdb:(x==("__debug__":Str))=false:=by decide):PE X (.Call (.Name x p) [] [] pos) (UQ sp Zdg):=by
 obtain⟨f,fd,F,hm,hk,hb⟩:=G
 exact Zhk (CX:=CX0) (E:=E0) (dvs:=[]) F hr hg hm hk hb .nil Zlh hdb
theorem ZaQ{i:Int}(hm:∃t,X.mg x=some (.int i t))(hg:Gl X x)(hd:(x==("__debug__":Str))=false:=by decide):PE X (.Name x pos) (tC (.int i)):=by
 obtain⟨t,hm⟩:=hm
 exact Zj5 (v:=.int i) hg hm ⟨t,rfl⟩ hd
theorem ZhO:Znp X (ZkZ X.K):=by
 intro pins s σ H o i ov iv Q I ro ri h
 obtain⟨p,xs,i,z,rfl,rfl,hq,he,q⟩:=h
 cases ro
 obtain⟨t,rfl⟩:=ri
 obtain⟨its,r,pl,hz⟩:=I.list hq
 obtain⟨j,h1,h2,h3,h4,h5⟩:=Zby he
 obtain⟨w,ew,rw'⟩:=r.get h2
 have hl:=r.length
 have hn:=QE
 have fin:EP X pins σ Q w s:=⟨z,H,I,rw',q⟩
 by_cases h0:0<=i
 ·have hj:i.toNat=j:=by
   rw[seqIndex_of h0 h5] at h1
   exact Option.some.inj h1
  exact wpAny_getItem_list pl.isList h0 (by omega) (by rw[hj];simpa using ew) fin
 ·have hj:(i+(its.toArray.size:Int)).toNat=j:=by
   rw[seqIndex_neg (by omega) h4] at h1
   rw[Ztc,<- hl]
   exact Option.some.inj h1
  exact wpAny_getItem_list_neg pl.isList (by omega) (by rw[Ztc]<;>omega) (by omega) (by rw[hj];simpa using ew) fin
end
theorem Zg2{X:Cx}:Vc X (.builtin "len") (fun xs H Q=>∃p ys,xs=[.ref p]/\(SqL X.K H p ys\/SqT X.K H p ys)/\Q (.int ys.length) H):=Zcb
theorem Jf:bootBuiltins "len"=some (.builtin "len"):=by decide +kernel
theorem ZM:bootBuiltins "isinstance"=some (.builtin "isinstance"):=by decide +kernel
theorem ZdY:bootBuiltins "sum"=some (.builtin "sum"):=by decide +kernel
theorem Zg9:bootBuiltins "all"=some (.builtin "all"):=by decide +kernel
theorem JR:bootBuiltins "list"=some (.type "list"):=by decide +kernel
theorem Zg6:bootBuiltins "int"=some (.type "int"):=by decide +kernel
theorem Zg7:bootBuiltins "bool"=some (.type "bool"):=by decide +kernel
theorem Ziq:bootBuiltins "tuple"=some (.type "tuple"):=by decide +kernel
section
variable {X:Cx}{K:W.Frag}
theorem Zs(e:X.K=K:=by rfl):IxR X (rIx K):=by subst e;exact ZlI
theorem Z6(e:X.K=K:=by rfl):Vc X (.builtin "len") (fun xs H Q=>∃p ys,xs=[.ref p]/\(SqL K H p ys\/SqT K H p ys)/\Q (.int ys.length) H):=by subst e;exact Zg2
theorem UA(hc:X.calm=true)(e:X.K=K:=by rfl):Vc X (.builtin "sum") (fun xs H Q=>∃p,∃ns:List Int,xs=[.ref p]/\SqL K H p (ns.map V.int)/\Q (.int ns.sum) H):=by subst e;exact Zim hc
theorem Zaa(hc:X.calm=true)(e:X.K=K:=by rfl):Vc X (.builtin "all") (fun xs H Q=>∃p,∃bs:List Bool,xs=[.ref p]/\SqL K H p (bs.map V.bl)/\Q (.bl (bs.all id)) H):=by subst e;exact Zio hc
theorem Vn(e:X.K=K:=by rfl):Vc X (.type "list") (fun xs H Q=>∃p ys,xs=[.ref p]/\(SqL K H p ys\/SqT K H p ys)/\∀l,H l=none->Q (.ref l) (upd H l (.lst ys))):=by subst e;exact Zca
theorem V7(e:X.K=K:=by rfl):Znp X (ZkZ K):=by subst e;exact ZhO
theorem ZQ{tg l:Expr}{tl:TE}(hl:PE X l tl)(e:X.K=K:=by rfl):PI X tg l (ZcA K tl):=by subst e;exact Zfv hl
variable {u:TS}{H:Hp}{b:TA}
theorem ZbN{n:Nat}{k:Int}(h0:0<=k)(h1:k<n):ixN n k=some k.toNat:=by unfold ixN;rw[if_pos h0,if_pos h1]
theorem Z7.upd{H H':Hp}{p:Addr}{o:HO}(h:Z7 H H')(hp:H p=none):Z7 H (upd H' p o):=fun b u e=>by
 rw[Zo (Z8 e hp)]
 exact h b u e
theorem Z7.new{H:Hp}{p:Addr}{o:HO}(hp:H p=none):Z7 H (L2.upd H p o):=Z7.upd (Z7.refl H) hp
theorem Uz{n:Nat}(h:n<=1000):n<=sizeLine:=Ztr h (by decide)
end
inductive Sh where
 |dk (ks:List Key)|dt (ks:List (List Key))|ob (n:Str) (fs:List Str)
  |jk
  |ls
inductive PV where
 |non|bl (b:Bool)|int (i:Int)|str (x:Str)|lst (xs:List PV)|tup (xs:List PV)
  |exc (n:Str)
  |exa (n:Str) (i:Int)
  |box (p:Option Addr) (s:Sh) (xs:List PV)
  |fz (xs:List PV)
  |any
mutual
noncomputable def PV.flat:PV->Bool
 |.lst _=>false
 |.tup xs=>PV.flats xs
 |.non=>true
 |.bl _=>true
 |.int _=>true
 |.str _=>true
 |.exc _=>true
 |.exa _ _=>true
 |.box _ _ _=>false
 |.fz xs=>PV.flats xs
 |.any=>true
noncomputable def PV.flats:List PV->Bool
 |[]=>true
 |x::xs=>x.flat&&PV.flats xs
end
def KL(K:W.Frag)(a:Addr)(xs:List V):Prop:=
 ∃(o:Obj) (its:Array Value) (n:Nat),K.lookup a=some o/\o.cls=.type "list"/\o.dict=none/\o.data=.seq its n/\its.size<=sizeLine/\ZR xs its.toList
noncomputable def ImO:HO->Prop
 |.tup _=>True
 |.frz _ _=>True
 |.xd _=>True
 |_=>False
def Im(K:W.Frag)(H:Hp)(a:Addr)(u:HO):Prop:=H a=some u/\ImO u
noncomputable def Lvo:HO->Prop
 |.lst _=>True
 |.dK _=>True
 |.dT _=>True
 |.ins _ _ _=>True
 |_=>False
noncomputable abbrev LvO:={ u:HO // Lvo u }
def Znm(K:W.Frag)(n:Str)(C:Addr):Prop:=PySem.W.nsIn K mainGlobals n=some (some (.ref C))
def Zmu(K:W.Frag)(H:Hp)(n:Str)(v:V):Prop:=∃a o C,v=.ref a/\Im K H a (.frz o (.own a))/\o.cls=.ref C/\o.dict=none/\PySem.W.notCls o=true/\Znm K n C
def Zmv(K:W.Frag)(H:Hp)(n:Str)(i:Int)(v:V):Prop:=∃a o C d fs,v=.ref a/\Im K H a (.frz o (.own a))/\Im K H d (.xd fs)/\o.cls=.ref C/\o.dict=some d/\PySem.W.notCls o=true/\Znm K n C/\fs=[(("at":Str),V.int i)]
noncomputable def ZkE(K:W.Frag):Sh->List V->HO->Prop
 |.dk ks,vs,u=>ks.length=vs.length/\u=.dK (ks.zip vs)
 |.dt ks,vs,u=>ks.length=vs.length/\u=.dT (ks.zip vs)
 |.ob n fs,vs,u=>fs.length=vs.length/\∃C dx,u=.ins C dx (fs.zip vs)/\Znm K n C
 |.jk,vs,u=>vs=[]/\∃ws,u=.lst ws
 |.ls,vs,u=>u=.lst vs
def Zm9(p:Option Addr)(a:Addr):Prop:=match p with
 |none=>True
 |some b=>a=b
theorem ZkE.lv{K:W.Frag}{s:Sh}{vs:List V}{u:HO}(h:ZkE K s vs u):Lvo u:=by
 cases s with
 |dk ks=>obtain⟨_,rfl⟩:=h;trivial
 |dt ks=>obtain⟨_,rfl⟩:=h;trivial
 |ob n fs=>obtain⟨_,C,dx,rfl,_⟩:=h;trivial
 |jk=>obtain⟨_,ws,rfl⟩:=h;trivial
 |ls=>cases h;trivial
theorem Zbb{u o:HO}(h:Lvo u)(h':ImO o):o≠u:=by
 intro e;subst e
 cases o<;>first|exact h|exact h'
def FzL(K:W.Frag)(H:Hp)(a:Addr)(vs:List V):Prop:=∃o,Im K H a (.frz o (.lst vs))
mutual
noncomputable def Rep(K:W.Frag)(H:Hp)(S:Addr->Prop):PV->V->Prop
 |.non,v=>v=.non
 |.bl b,v=>v=.bl b
 |.int i,v=>v=.int i
 |.str x,v=>v=.str x
 |.exc n,v=>Zmu K H n v
 |.exa n i,v=>Zmv K H n i v
 |.box p s xs,v=>∃a vs u,v=.ref a/\(Rd H a u/\S a)/\(Zm9 p a/\ZkE K s vs u)/\Reps K H S xs vs
 |.lst xs,v=>∃a vs,v=.ref a/\((Rd H a (.lst vs)/\S a)\/KL K a vs)/\Reps K H S xs vs
 |.tup xs,v=>∃a vs,v=.ref a/\Im K H a (.tup vs)/\Reps K H S xs vs
 |.fz xs,v=>∃a vs,v=.ref a/\FzL K H a vs/\Reps K H S xs vs
 |.any,v=>∃a:Addr,v=.ref a
noncomputable def Reps(K:W.Frag)(H:Hp)(S:Addr->Prop):List PV->List V->Prop
 |[],vs=>vs=[]
 |x::xs,vs=>∃v r,vs=v::r/\Rep K H S x v/\Reps K H S xs r
end
mutual
noncomputable def ZW(K:W.Frag)(H:Hp):PV->V->List Addr->Prop
 |.non,v,F=>v=.non/\F=[]
 |.bl b,v,F=>v=.bl b/\F=[]
 |.int i,v,F=>v=.int i/\F=[]
 |.str x,v,F=>v=.str x/\F=[]
 |.exc n,v,F=>Zmu K H n v/\F=[]
 |.exa n i,v,F=>Zmv K H n i v/\F=[]
 |.box p s xs,v,F=>∃a vs u G,v=.ref a/\H a=some u/\(Zm9 p a/\ZkE K s vs u)/\Trees K H xs vs G/\a ∉ G/\F=a::G
 |.lst xs,v,F=>∃a vs G,v=.ref a/\H a=some (.lst vs)/\Trees K H xs vs G/\a ∉ G/\F=a::G
 |.tup xs,v,F=>∃a vs,v=.ref a/\Im K H a (.tup vs)/\Trees K H xs vs F
 |.fz xs,v,F=>∃a vs,v=.ref a/\FzL K H a vs/\Trees K H xs vs F
 |.any,v,F=>(∃a:Addr,v=.ref a)/\F=[]
noncomputable def Trees(K:W.Frag)(H:Hp):List PV->List V->List Addr->Prop
 |[],vs,F=>vs=[]/\F=[]
 |x::xs,vs,F=>∃v r G1 G2,vs=v::r/\ZW K H x v G1/\Trees K H xs r G2/\(∀a∈G1,a ∉ G2)/\F=G1++G2
end
section
variable {K:W.Frag}{H H':Hp}{S S':Addr->Prop}
mutual
theorem Rep.mono(h1:∀a u,S a->Rd H a u->Rd H' a u/\S' a)(h2:∀a u,Im K H a u->Im K H' a u):∀{x:PV}{v:V},Rep K H S x v->Rep K H' S' x v
 |.non,_,h=>h
 |.bl _,_,h=>h
 |.int _,_,h=>h
 |.str _,_,h=>h
 |.any,_,h=>h
 |.exc n,_,h=>let ⟨a,o,C,e1,e2,e3⟩:=h;⟨a,o,C,e1,h2 a _ e2,e3⟩
 |.exa n i,_,h=>let ⟨a,o,C,d,fs,e1,e2,e2',e3⟩:=h;⟨a,o,C,d,fs,e1,h2 a _ e2,h2 d _ e2',e3⟩
 |.box p s xs,_,h=>by
  obtain⟨a,vs,u,rfl,⟨n1,n2⟩,hb,hr⟩:=h
  exact⟨a,vs,u,rfl,h1 a u n2 n1,hb,Reps.mono h1 h2 hr⟩
 |.lst xs,_,h=>by
  obtain⟨a,vs,rfl,hn,hr⟩:=h
  refine⟨a,vs,rfl, ?_,Reps.mono h1 h2 hr⟩
  rcases hn with ⟨n1,n2⟩|n
  ·exact .inl (h1 a _ n2 n1)
  ·exact .inr n
 |.tup xs,_,h=>by
  obtain⟨a,vs,rfl,hn,hr⟩:=h
  exact⟨a,vs,rfl,h2 a _ hn,Reps.mono h1 h2 hr⟩
 |.fz xs,_,h=>by
  obtain⟨a,vs,rfl,⟨o,hn⟩,hr⟩:=h
  exact⟨a,vs,rfl,⟨o,h2 a _ hn⟩,Reps.mono h1 h2 hr⟩
theorem Reps.mono(h1:∀a u,S a->Rd H a u->Rd H' a u/\S' a)(h2:∀a u,Im K H a u->Im K H' a u):∀{xs:List PV}{vs:List V},Reps K H S xs vs->Reps K H' S' xs vs
 |[],_,h=>h
 |x::xs,_,h=>by
  obtain⟨v,r,rfl,h3,h4⟩:=h
  exact⟨v,r,rfl,Rep.mono h1 h2 h3,Reps.mono h1 h2 h4⟩
end
mutual
theorem ZW.mono:∀{x:PV}{v:V}{F:List Addr},(∀a∈F,∀o,H a=some o->H' a=some o)->(∀a vs,Im K H a vs->Im K H' a vs)->ZW K H x v F->ZW K H' x v F
 |.non,_,_,_,_,h=>h
 |.bl _,_,_,_,_,h=>h
 |.int _,_,_,_,_,h=>h
 |.str _,_,_,_,_,h=>h
 |.any,_,_,_,_,h=>h
 |.exc n,_,_,_,h2,h=>let ⟨⟨a,o,C,e1,e2,e3⟩,e4⟩:=h;⟨⟨a,o,C,e1,h2 a _ e2,e3⟩,e4⟩
 |.exa n i,_,_,_,h2,h=>let ⟨⟨a,o,C,d,fs,e1,e2,e2',e3⟩,e4⟩:=h;⟨⟨a,o,C,d,fs,e1,h2 a _ e2,h2 d _ e2',e3⟩,e4⟩
 |.box p s xs,_,_,h1,h2,h=>by
  obtain⟨a,vs,u,G,rfl,ha,hb,ht,hn,rfl⟩:=h
  exact⟨a,vs,u,G,rfl,h1 a (by simp) _ ha,hb,Trees.mono (fun b hb o e=>h1 b (by simp[hb]) o e) h2 ht,hn,rfl⟩
 |.lst xs,_,_,h1,h2,h=>by
  obtain⟨a,vs,G,rfl,ha,ht,hn,rfl⟩:=h
  exact⟨a,vs,G,rfl,h1 a (by simp) _ ha,Trees.mono (fun b hb o e=>h1 b (by simp[hb]) o e) h2 ht,hn,rfl⟩
 |.tup xs,_,_,h1,h2,h=>by
  obtain⟨a,vs,rfl,ha,ht⟩:=h
  exact⟨a,vs,rfl,h2 a _ ha,Trees.mono h1 h2 ht⟩
 |.fz xs,_,_,h1,h2,h=>by
  obtain⟨a,vs,rfl,⟨o,ha⟩,ht⟩:=h
  exact⟨a,vs,rfl,⟨o,h2 a _ ha⟩,Trees.mono h1 h2 ht⟩
theorem Trees.mono:∀{xs:List PV}{vs:List V}{F:List Addr},(∀a∈F,∀o,H a=some o->H' a=some o)->(∀a vs,Im K H a vs->Im K H' a vs)->Trees K H xs vs F->Trees K H' xs vs F
 |[],_,_,_,_,h=>h
 |x::xs,_,_,h1,h2,h=>by
  obtain⟨v,r,G1,G2,rfl,h3,h4,hd,rfl⟩:=h
  exact⟨v,r,G1,G2,rfl,ZW.mono (fun b hb o e=>h1 b (by simp[hb]) o e) h2 h3,Trees.mono (fun b hb o e=>h1 b (by simp[hb]) o e) h2 h4,hd,rfl⟩
end
mutual
theorem ZW.rep:∀{x:PV}{v:V}{F:List Addr},(∀a∈F,S a)->ZW K H x v F->Rep K H S x v
 |.non,_,_,_,h=>h.1
 |.bl _,_,_,_,h=>h.1
 |.int _,_,_,_,h=>h.1
 |.str _,_,_,_,h=>h.1
 |.any,_,_,_,h=>h.1
 |.exc _,_,_,_,h=>h.1
 |.exa _ _,_,_,_,h=>h.1
 |.box p s xs,_,_,h1,h=>by
  obtain⟨a,vs,u,G,rfl,ha,hb,ht,hn,rfl⟩:=h
  exact⟨a,vs,u,rfl,⟨.inl ha,h1 a (by simp)⟩,hb,Trees.reps (fun b hb=>h1 b (by simp[hb])) ht⟩
 |.lst xs,_,_,h1,h=>by
  obtain⟨a,vs,G,rfl,ha,ht,hn,rfl⟩:=h
  exact⟨a,vs,rfl,.inl ⟨.inl ha,h1 a (by simp)⟩,Trees.reps (fun b hb=>h1 b (by simp[hb])) ht⟩
 |.tup xs,_,_,h1,h=>by
  obtain⟨a,vs,rfl,ha,ht⟩:=h
  exact⟨a,vs,rfl,ha,Trees.reps h1 ht⟩
 |.fz xs,_,_,h1,h=>by
  obtain⟨a,vs,rfl,ha,ht⟩:=h
  exact⟨a,vs,rfl,ha,Trees.reps h1 ht⟩
theorem Trees.reps:∀{xs:List PV}{vs:List V}{F:List Addr},(∀a∈F,S a)->Trees K H xs vs F->Reps K H S xs vs
 |[],_,_,_,h=>h.1
 |x::xs,_,_,h1,h=>by
  obtain⟨v,r,G1,G2,rfl,h3,h4,hd,rfl⟩:=h
  exact⟨v,r,rfl,ZW.rep (fun b hb=>h1 b (by simp[hb])) h3,Trees.reps (fun b hb=>h1 b (by simp[hb])) h4⟩
end
mutual
theorem ZW.alive:∀{x:PV}{v:V}{F:List Addr},ZW K H x v F->∀a∈F,∃vs:LvO,H a=some vs.1
 |.non,_,_,h=>by rw[h.2];simp
 |.bl _,_,_,h=>by rw[h.2];simp
 |.int _,_,_,h=>by rw[h.2];simp
 |.str _,_,_,h=>by rw[h.2];simp
 |.any,_,_,h=>by rw[h.2];simp
 |.exc _,_,_,h=>by rw[h.2];simp
 |.exa _ _,_,_,h=>by rw[h.2];simp
 |.box p s xs,_,_,h=>by
  obtain⟨a,vs,u,G,rfl,ha,hb,ht,hn,rfl⟩:=h
  intro b hb'
  rcases Zti.mp hb' with rfl|hb'
  ·exact⟨⟨u,hb.2.lv⟩,ha⟩
  ·exact Trees.alive ht b hb'
 |.lst xs,_,_,h=>by
  obtain⟨a,vs,G,rfl,ha,ht,hn,rfl⟩:=h
  intro b hb
  rcases Zti.mp hb with rfl|hb
  ·exact⟨⟨.lst vs,trivial⟩,ha⟩
  ·exact Trees.alive ht b hb
 |.tup xs,_,_,h=>by
  obtain⟨a,vs,rfl,ha,ht⟩:=h
  exact Trees.alive ht
 |.fz xs,_,_,h=>by
  obtain⟨a,vs,rfl,ha,ht⟩:=h
  exact Trees.alive ht
theorem Trees.alive:∀{xs:List PV}{vs:List V}{F:List Addr},Trees K H xs vs F->∀a∈F,∃vs:LvO,H a=some vs.1
 |[],_,_,h=>by rw[h.2];simp
 |x::xs,_,_,h=>by
  obtain⟨v,r,G1,G2,rfl,h3,h4,hd,rfl⟩:=h
  intro b hb
  rcases Zta.mp hb with hb|hb
  ·exact ZW.alive h3 b hb
  ·exact Trees.alive h4 b hb
end
mutual
theorem Rep.tree:∀{x:PV}{v:V},x.flat=true->Rep K H S x v->ZW K H x v []
 |.non,_,_,h=>⟨h,rfl⟩
 |.bl _,_,_,h=>⟨h,rfl⟩
 |.int _,_,_,h=>⟨h,rfl⟩
 |.str _,_,_,h=>⟨h,rfl⟩
 |.any,_,_,h=>⟨h,rfl⟩
 |.exc _,_,_,h=>⟨h,rfl⟩
 |.exa _ _,_,_,h=>⟨h,rfl⟩
 |.box p s xs,_,f,_=>by simp[PV.flat] at f
 |.lst xs,_,f,_=>by simp[PV.flat] at f
 |.tup xs,_,f,h=>by
  obtain⟨a,vs,rfl,ha,ht⟩:=h
  exact⟨a,vs,rfl,ha,Reps.trees (by simpa[PV.flat] using f) ht⟩
 |.fz xs,_,f,h=>by
  obtain⟨a,vs,rfl,ha,ht⟩:=h
  exact⟨a,vs,rfl,ha,Reps.trees (by simpa[PV.flat] using f) ht⟩
theorem Reps.trees:∀{xs:List PV}{vs:List V},PV.flats xs=true->Reps K H S xs vs->Trees K H xs vs []
 |[],_,_,h=>⟨h,rfl⟩
 |x::xs,_,f,h=>by
  obtain⟨v,r,rfl,h3,h4⟩:=h
  simp only[PV.flats,Bool.and_eq_true] at f
  exact⟨v,r,[],[],rfl,Rep.tree f.1 h3,Reps.trees f.2 h4,by simp,rfl⟩
end
theorem Rep.any(h:Rep K H S x v):Rep K H (fun _=>True) x v:=Rep.mono (fun a vs _ r=>⟨r,trivial⟩) (fun a vs r=>r) h
theorem Reps.any(h:Reps K H S xs vs):Reps K H (fun _=>True) xs vs:=Reps.mono (fun a vs _ r=>⟨r,trivial⟩) (fun a vs r=>r) h
theorem Rep.flatS{x:PV}{v:V}(f:x.flat=true)(h:Rep K H S x v):Rep K H S' x v:=ZW.rep (F:=[]) (by simp) (Rep.tree f h)
theorem Reps.length:∀{xs:List PV}{vs:List V},Reps K H S xs vs->vs.length=xs.length
 |[],_,h=>by rw[h];rfl
 |x::xs,_,h=>by
  obtain⟨v,r,rfl,h3,h4⟩:=h
  simp[Reps.length h4]
theorem Trees.length{xs:List PV}{vs:List V}{F:List Addr}(h:Trees K H xs vs F):vs.length=xs.length:=(Trees.reps (S:=fun _=>True) (fun _ _=>trivial) h).length
theorem Reps.get:∀{xs:List PV}{vs:List V}{i:Nat}{x:PV},Reps K H S xs vs->xs[i]?=some x->∃v,vs[i]?=some v/\Rep K H S x v
 |[],_,_,_,_,e=>by simp at e
 |y::xs,_,0,x,h,e=>by
  obtain⟨v,r,rfl,h3,h4⟩:=h
  simp at e;subst e
  exact⟨v,rfl,h3⟩
 |y::xs,_,i+1,x,h,e=>by
  obtain⟨v,r,rfl,h3,h4⟩:=h
  obtain⟨w,e1,e2⟩:=Reps.get (i:=i) h4 (by simpa using e)
  exact⟨w,by simpa using e1,e2⟩
theorem Reps.append:∀{xs ys:List PV}{vs ws:List V},Reps K H S xs vs->Reps K H S ys ws->Reps K H S (xs++ys) (vs++ws)
 |[],_,_,_,h,h'=>by rw[h];exact h'
 |x::xs,_,_,_,h,h'=>by
  obtain⟨v,r,rfl,h3,h4⟩:=h
  exact⟨v,r++_,rfl,h3,Reps.append h4 h'⟩
theorem Reps.one{x:PV}{v:V}(h:Rep K H S x v):Reps K H S [x] [v]:=⟨v,[],rfl,h,rfl⟩
theorem Reps.take:∀{xs:List PV}{vs:List V} (n:Nat),Reps K H S xs vs->Reps K H S (xs.take n) (vs.take n)
 |_,_,0,_=>by simp[Reps]
 |[],_,n+1,h=>by rw[h];rfl
 |y::xs,_,n+1,h=>by
  obtain⟨w,r,rfl,h3,h4⟩:=h
  exact⟨w,r.take n,rfl,h3,Reps.take n h4⟩
theorem Trees.append:∀{xs ys:List PV}{vs ws:List V}{F G:List Addr},Trees K H xs vs F->Trees K H ys ws G->(∀a∈F,a ∉ G)->Trees K H (xs++ys) (vs++ws) (F++G)
 |[],_,_,_,_,_,h,h',_=>by rw[h.1,h.2];exact h'
 |x::xs,_,_,_,_,_,h,h',hd=>by
  obtain⟨v,r,G1,G2,rfl,h3,h4,hd',rfl⟩:=h
  refine⟨v,r++_,G1,G2++_,rfl,h3,Trees.append h4 h' (fun a ha=>hd a (by simp[ha])),fun a ha z=>?_,by simp⟩
  rcases Zta.mp z with z|z
  ·exact hd' a ha z
  ·exact hd a (by simp[ha]) z
theorem Trees.one{x:PV}{v:V}{F:List Addr}(h:ZW K H x v F):Trees K H [x] [v] F:=⟨v,[],F,[],rfl,h,⟨rfl,rfl⟩,by simp,by simp⟩
theorem PV.flats_all:∀{xs:List PV},PV.flats xs=true ↔ ∀x∈xs,x.flat=true
 |[]=>by simp[PV.flats]
 |x::xs=>by simp[PV.flats,PV.flats_all (xs:=xs)]
theorem PV.flats_ints(ns:List Int):PV.flats (ns.map PV.int)=true:=PV.flats_all.mpr (by simp[PV.flat])
theorem Rd.same(e:Z7 H H')(h:Rd H a u):Rd H' a u:=by
 rcases h with h|⟨o,h⟩
 ·exact .inl (e _ _ h)
 ·exact .inr ⟨o,e _ _ h⟩
theorem Z7.im(e:Z7 H H'){k:HO}(h:Im K H a k):Im K H' a k:=⟨e _ _ h.1,h.2⟩
theorem Im.sqT{vs:List V}(h:Im K H a (.tup vs)):SqT K H a vs:=.inl (.inl h.1)
theorem Rep.same(e:Z7 H H')(h:Rep K H S x v):Rep K H' S x v:=Rep.mono (fun a vs s r=>⟨r.same e,s⟩) (fun a vs r=>e.im r) h
theorem Reps.same(e:Z7 H H')(h:Reps K H S xs vs):Reps K H' S xs vs:=Reps.mono (fun a vs s r=>⟨r.same e,s⟩) (fun a vs r=>e.im r) h
theorem ZW.same(e:Z7 H H')(h:ZW K H x v F):ZW K H' x v F:=ZW.mono (fun a _ o q=>e a o q) (fun a vs r=>e.im r) h
theorem Trees.same(e:Z7 H H')(h:Trees K H xs vs F):Trees K H' xs vs F:=Trees.mono (fun a _ o q=>e a o q) (fun a vs r=>e.im r) h
theorem Im.putL{p:Addr}{us:LvO}{o:HO}{k:HO}(hp:H p=some us.1)(h:Im K H a k):Im K (upd H p o) a k:=
 ⟨by rw[Zo (ZjR h.1 hp (Zbb us.2 h.2))];exact h.1,h.2⟩
theorem Im.put{p:Addr}{us:List V}{o:HO}{k:HO}(hp:H p=some (.lst us))(h:Im K H a k):Im K (upd H p o) a k:=Im.putL (us:=⟨.lst us,trivial⟩) hp h
theorem SqT.put{p:Addr}{us:List V}{o:HO}(hp:H p=some (.lst us))(h:Im K H a (.tup vs)):Im K (upd H p o) a (.tup vs):=Im.put hp h
theorem ZW.putL{p:Addr}{us:LvO}{o:HO}(hp:H p=some us.1)(hS:p ∉ F)(h:ZW K H x v F):ZW K (upd H p o) x v F:=
 ZW.mono (fun a ha o q=>by
  have hne:a≠p:=fun z=>hS (z▸ha)
  rw[Zo hne];exact q) (fun a vs r=>Im.putL hp r) h
theorem Trees.putL{p:Addr}{us:LvO}{o:HO}(hp:H p=some us.1)(hS:p ∉ F)(h:Trees K H xs vs F):Trees K (upd H p o) xs vs F:=
 Trees.mono (fun a ha o q=>by
  have hne:a≠p:=fun z=>hS (z▸ha)
  rw[Zo hne];exact q) (fun a vs r=>Im.putL hp r) h
theorem ZW.put{p:Addr}{us:List V}{o:HO}(hp:H p=some (.lst us))(hS:p ∉ F)(h:ZW K H x v F):ZW K (upd H p o) x v F:=ZW.putL (us:=⟨.lst us,trivial⟩) hp hS h
theorem Trees.put{p:Addr}{us:List V}{o:HO}(hp:H p=some (.lst us))(hS:p ∉ F)(h:Trees K H xs vs F):Trees K (upd H p o) xs vs F:=Trees.putL (us:=⟨.lst us,trivial⟩) hp hS h
end
inductive Md|U|P|S|T|O
 deriving DecidableEq
def NO(B:Addr->Prop)(F:Nat->List Addr)(R:List Addr)(a:Addr):Prop:=B a/\a ∉ R/\∀i,a ∉ F i
def UD(K:W.Frag)(H:Hp)(S:Addr->Prop)(m:Md)(x:PV)(o:Option (Option V))(G:List Addr):Prop:=match m with
 |.U=>G=[]
 |.P=>G=[]/\∃v,o=some (some v)/\x.flat=true/\Rep K H (fun _=>True) x v
 |.S=>G=[]/\∃v,o=some (some v)/\Rep K H S x v
 |.T=>∃a vs xs,o=some (some (.ref a))/\x=.lst xs/\H a=some (.lst vs)/\Reps K H S xs vs/\G=[a]
 |.O=>∃v,o=some (some v)/\ZW K H x v G
structure Ag(K:PySem.W.Frag)(B:Addr->Prop)(H0 H:Hp)(σ:St)(Γ:List Md)(ρ:List PV)(F:Nat->List Addr)(R:List Addr):Prop where
 same:Z7 H0 H
 own:∀a,H0 a=none->B a
 young:∀i,∀a∈F i,H0 a=none
 youngR:∀a∈R,H0 a=none
 live:∀i,∀a∈F i,∃vs:LvO,H a=some vs.1
 liveR:∀a∈R,∃vs:LvO,H a=some vs.1
 disj:∀i j,i≠j->∀a∈F i,a ∉ F j
 disjR:∀i,∀a∈F i,a ∉ R
 lenS:σ.length=Γ.length
 lenR:ρ.length=Γ.length
 slot:∀i,UD K H (NO B F R) (Γ.getD i .U) (ρ.getD i .non) σ[i]? (F i)
theorem UD.mono{K:W.Frag}{H H':Hp}{S S':Addr->Prop}{m:Md}{x:PV}{o:Option (Option V)}{G:List Addr}(h:UD K H S m x o G)(h1:∀a u,S a->Rd H a u->Rd H' a u/\S' a)(h2:∀a u,Im K H a u->Im K H' a u)(h3:∀a∈G,∀u,H a=some u->H' a=some u):UD K H' S' m x o G:=by
 cases m with
 |U=>exact h
 |P =>
  obtain⟨e,v,h4,h5,h6⟩:=h
  exact⟨e,v,h4,h5,ZW.rep (F:=[]) (by simp) (ZW.mono (by simp) h2 (Rep.tree h5 h6))⟩
 |S =>
  obtain⟨e,v,h4,h5⟩:=h
  exact⟨e,v,h4,Rep.mono h1 h2 h5⟩
 |T =>
  obtain⟨a,vs,xs,h4,h5,h6,h7,rfl⟩:=h
  exact⟨a,vs,xs,h4,h5,h3 a (by simp) _ h6,Reps.mono h1 h2 h7,rfl⟩
 |O =>
  obtain⟨v,h4,h5⟩:=h
  exact⟨v,h4,ZW.mono (fun a ha o q=>h3 a ha o q) h2 h5⟩
section
variable {K:W.Frag}{B:Addr->Prop}{H0 H H':Hp}{σ:St}{Γ:List Md}{ρ:List PV}{F:Nat->List Addr}{R R':List Addr}
theorem Ag.grow(A:Ag K B H0 H σ Γ ρ F R)(e:Z7 H H'):Ag K B H0 H' σ Γ ρ F R:=
 ⟨A.same.trans e,A.own,A.young,A.youngR,fun i a ha=>let ⟨vs,q⟩:=A.live i a ha;⟨vs,e _ _ q⟩,fun a ha=>let ⟨vs,q⟩:=A.liveR a ha;⟨vs,e _ _ q⟩,A.disj,A.disjR,A.lenS,A.lenR,
  fun i=>(A.slot i).mono (fun a vs s r=>⟨r.same e,s⟩) (fun a vs r=>e.im r) fun a ha vs q=>e _ _ q⟩
theorem Ag.less(A:Ag K B H0 H σ Γ ρ F R)(h:∀a∈R',a∈R):Ag K B H0 H σ Γ ρ F R':=
 ⟨A.same,A.own,A.young,fun a ha=>A.youngR a (h a ha),A.live,fun a ha=>A.liveR a (h a ha),A.disj,fun i a ha z=>A.disjR i a ha (h a z),A.lenS,A.lenR,
  fun i=>(A.slot i).mono (fun a vs s r=>⟨r,s.1,fun z=>s.2.1 (h a z),s.2.2⟩) (fun a vs r=>r) fun a ha vs q=>q⟩
theorem Ag.more{G:List Addr}(A:Ag K B H0 H σ Γ ρ F R)(e:Z7 H H')(hf:∀a∈G,H a=none)(hl:∀a∈G,∃vs:LvO,H' a=some vs.1):Ag K B H0 H' σ Γ ρ F (G++R):=by
 refine⟨A.same.trans e,A.own,A.young,fun a ha=>?_,fun i a ha=>let ⟨vs,q⟩:=A.live i a ha;⟨vs,e _ _ q⟩,fun a ha=>?_,A.disj,fun i a ha z=>?_,A.lenS,A.lenR,fun i=>?_⟩
 ·rcases Zta.mp ha with z|z
  ·exact A.same.free (hf a z)
  ·exact A.youngR a z
 ·rcases Zta.mp ha with z|z
  ·exact hl a z
  ·obtain⟨vs,q⟩:=A.liveR a z
   exact⟨vs,e _ _ q⟩
 ·rcases Zta.mp z with z|z
  ·obtain⟨vs,q⟩:=A.live i a ha
   rw[hf a z] at q;cases q
  ·exact A.disjR i a ha z
 ·refine(A.slot i).mono (fun a vs s r=>⟨r.same e,s.1,fun z=>?_,s.2.2⟩) (fun a vs r=>e.im r) fun a ha vs q=>e _ _ q
  rcases Zta.mp z with z|z
  ·have:=hf a z
   rcases r with r|⟨o,r⟩<;>(rw[this] at r;cases r)
  ·exact s.2.1 z
theorem Ag.fresh(A:Ag K B H0 H σ Γ ρ F R){p:Addr}(hp:H p=none):p ∉ R/\(∀i,p ∉ F i)/\H0 p=none/\B p:=by
 refine⟨fun z=>?_,fun i z=>?_,A.same.free hp,A.own p (A.same.free hp)⟩
 ·obtain⟨vs,q⟩:=A.liveR p z
  rw[hp] at q;cases q
 ·obtain⟨vs,q⟩:=A.live i p z
  rw[hp] at q;cases q
theorem Ag.new{p:Addr}{xs:List V}(A:Ag K B H0 H σ Γ ρ F R)(hp:H p=none):Ag K B H0 (upd H p (.lst xs)) σ Γ ρ F (p::R):=
 A.more (G:=[p]) (Z7.new hp) (fun a ha=>by rw[Ztj.mp ha];exact hp) fun a ha=>⟨⟨.lst xs,trivial⟩,by rw[Ztj.mp ha,Zv]⟩
theorem Ag.newB{p:Addr}{u:HO}(hu:Lvo u)(A:Ag K B H0 H σ Γ ρ F R)(hp:H p=none):Ag K B H0 (upd H p u) σ Γ ρ F (p::R):=
 A.more (G:=[p]) (Z7.new hp) (fun a ha=>by rw[Ztj.mp ha];exact hp) fun a ha=>⟨⟨u,hu⟩,by rw[Ztj.mp ha,Zv]⟩
theorem Ag.getO{i:Nat}(A:Ag K B H0 H σ Γ ρ F R)(h:Γ[i]?=some .O):∃v,σ[i]?=some (some v)/\ZW K H (ρ.getD i .non) v (F i):=by
 have:=A.slot i
 rw[ZsS,h] at this
 exact this
theorem Ag.getT{i:Nat}(A:Ag K B H0 H σ Γ ρ F R)(h:Γ[i]?=some .T):∃a vs xs,σ[i]?=some (some (.ref a))/\ρ.getD i .non=.lst xs/\H a=some (.lst vs)/\Reps K H (NO B F R) xs vs/\F i=[a]:=by
 have:=A.slot i
 rw[ZsS (l:=Γ),h] at this
 exact this
theorem Ag.getS{i:Nat}(A:Ag K B H0 H σ Γ ρ F R)(h:Γ[i]?=some .S):∃v,σ[i]?=some (some v)/\Rep K H (NO B F R) (ρ.getD i .non) v:=by
 have:=A.slot i
 rw[ZsS (l:=Γ),h] at this
 exact this.2
theorem Ag.getP{i:Nat}(A:Ag K B H0 H σ Γ ρ F R)(h:Γ[i]?=some .P):∃v,σ[i]?=some (some v)/\(ρ.getD i .non).flat=true/\Rep K H (fun _=>True) (ρ.getD i .non) v:=by
 have:=A.slot i
 rw[ZsS (l:=Γ),h] at this
 exact this.2
theorem Ag.getA{i:Nat}{m:Md}(A:Ag K B H0 H σ Γ ρ F R)(h:Γ[i]?=some m)(hm:m≠.U):∃v,σ[i]?=some (some v)/\Rep K H (fun _=>True) (ρ.getD i .non) v:=by
 cases m with
 |U=>exact absurd rfl hm
 |P=>obtain⟨v,h1,h2,h3⟩:=A.getP h;exact⟨v,h1,h3⟩
 |S=>obtain⟨v,h1,h2⟩:=A.getS h;exact⟨v,h1,h2.any⟩
 |T =>
  obtain⟨a,vs,xs,h1,h2,h3,h4,h5⟩:=A.getT h
  exact⟨_,h1,by rw[h2];exact⟨a,vs,rfl,.inl ⟨.inl h3,trivial⟩,h4.any⟩⟩
 |O=>obtain⟨v,h1,h2⟩:=A.getO h;exact⟨v,h1,h2.rep (fun _ _=>trivial)⟩
theorem Ag.lt{i:Nat}{m:Md}(A:Ag K B H0 H σ Γ ρ F R)(h:Γ[i]?=some m):i<Γ.length:=(ZsU.mp h).1
noncomputable def VN(F:Nat->List Addr)(i:Nat)(G:List Addr):Nat->List Addr:=fun j=>if j=i then G else F j
theorem Zu{i:Nat}{G:List Addr}:VN F i G i=G:=if_pos rfl
theorem Z5{i j:Nat}{G:List Addr}(h:j≠i):VN F i G j=F j:=if_neg h
theorem Ag.put{i:Nat}{m:Md}{x:PV}{v:V}{G:List Addr}(A:Ag K B H0 H σ Γ ρ F (G++R))(hi:i<Γ.length)(hG:∀a∈G,a ∉ R)(hs:UD K H (NO B (VN F i G) R) m x (some (some v)) G) :
  Ag K B H0 H (σ.set i (some v)) (Γ.set i m) (ρ.set i x) (VN F i G) R:=by
 refine⟨A.same,A.own,fun j a ha=>?_,fun a ha=>A.youngR a (ZsY _ ha),fun j a ha=>?_,fun a ha=>A.liveR a (ZsY _ ha),fun j k hjk a ha z=>?_,fun j a ha z=>?_,by simp[A.lenS],by simp[A.lenR],fun j=>?_⟩
 ·by_cases h:j=i
  ·subst h;rw[Zu] at ha;exact A.youngR a (Ztb _ ha)
  ·rw[Z5 h] at ha;exact A.young j a ha
 ·by_cases h:j=i
  ·subst h;rw[Zu] at ha;exact A.liveR a (Ztb _ ha)
  ·rw[Z5 h] at ha;exact A.live j a ha
 ·by_cases h:j=i
  ·subst h
   rw[Zu] at ha
   rw[Z5 (Ne.symm hjk)] at z
   exact A.disjR k a z (Ztb _ ha)
  ·rw[Z5 h] at ha
   by_cases h':k=i
   ·subst h'
    rw[Zu] at z
    exact A.disjR j a ha (Ztb _ z)
   ·rw[Z5 h'] at z
    exact A.disj j k hjk a ha z
 ·by_cases h:j=i
  ·subst h;rw[Zu] at ha;exact hG a ha z
  ·rw[Z5 h] at ha;exact A.disjR j a ha (ZsY _ z)
 ·by_cases h:j=i
  ·subst h
   rw[Zu,ZsS,ZsS,Ztx hi,Ztx (by rw[A.lenR];exact hi),Ztx (by rw[A.lenS];exact hi)]
   exact hs
  ·rw[Z5 h,ZsS,ZsS,Zt7 (Ne.symm h),Zt7 (Ne.symm h),Zt7 (Ne.symm h),<- ZsS,<- ZsS]
   refine(A.slot j).mono (fun a vs s r=>⟨r,s.1,fun z=>s.2.1 (ZsY _ z),fun k z=>?_⟩) (fun a vs r=>r) fun a ha vs q=>q
   by_cases h':k=i
   ·subst h';rw[Zu] at z;exact s.2.1 (Ztb _ z)
   ·rw[Z5 h'] at z;exact s.2.2 k z
theorem Ag.turn{i:Nat}{m m':Md}{G:List Addr}(A:Ag K B H0 H σ Γ ρ F R)(h:Γ[i]?=some m)(hG:∀a∈G,a∈F i)(hs:UD K H (NO B (VN F i []) (G++R)) m' (ρ.getD i .non) σ[i]? []) :
  Ag K B H0 H σ (Γ.set i m') ρ (VN F i []) (G++R):=by
 have hi:=A.lt h
 refine⟨A.same,A.own,fun j a ha=>?_,fun a ha=>?_,fun j a ha=>?_,fun a ha=>?_,fun j k hjk a ha z=>?_,fun j a ha z=>?_,by simp[A.lenS],by simp[A.lenR],fun j=>?_⟩
 ·by_cases h:j=i
  ·subst h;rw[Zu] at ha;simp at ha
  ·rw[Z5 h] at ha;exact A.young j a ha
 ·rcases Zta.mp ha with z|z
  ·exact A.young i a (hG a z)
  ·exact A.youngR a z
 ·by_cases h:j=i
  ·subst h;rw[Zu] at ha;simp at ha
  ·rw[Z5 h] at ha;exact A.live j a ha
 ·rcases Zta.mp ha with z|z
  ·exact A.live i a (hG a z)
  ·exact A.liveR a z
 ·by_cases h:j=i
  ·subst h;rw[Zu] at ha;simp at ha
  ·by_cases h':k=i
   ·subst h';rw[Zu] at z;simp at z
   ·rw[Z5 h] at ha;rw[Z5 h'] at z;exact A.disj j k hjk a ha z
 ·by_cases h:j=i
  ·subst h;rw[Zu] at ha;simp at ha
  ·rw[Z5 h] at ha
   rcases Zta.mp z with z|z
   ·exact A.disj j i h a ha (hG a z)
   ·exact A.disjR j a ha z
 ·by_cases h:j=i
  ·subst h
   rw[Zu,ZsS (l:=Γ.set _ _),Ztx hi]
   exact hs
  ·rw[Z5 h,ZsS (l:=Γ.set _ _),Zt7 (Ne.symm h),<- ZsS]
   refine(A.slot j).mono (fun a vs s r=>⟨r,s.1,fun z=>?_,fun k z=>?_⟩) (fun a vs r=>r) fun a ha vs q=>q
   ·rcases Zta.mp z with z|z
    ·exact s.2.2 i (hG a z)
    ·exact s.2.1 z
   ·by_cases h':k=i
    ·subst h';rw[Zu] at z;simp at z
    ·rw[Z5 h'] at z;exact s.2.2 k z
theorem Ag.move{i:Nat}(A:Ag K B H0 H σ Γ ρ F R)(h:Γ[i]?=some .O):Ag K B H0 H σ (Γ.set i .U) ρ (VN F i []) (F i++R):=A.turn (G:=F i) h (fun a ha=>ha) rfl
end
noncomputable abbrev PX:=Str×PV
inductive Rr(α:Type) where
 |ok (a:α)|exc (e:PX)|bad
noncomputable def Rr.bind{α β:Type}:Rr α->(α->Rr β)->Rr β
 |.ok a,f=>f a
 |.exc e,_=>.exc e
 |.bad,_=>.bad
def Dn{α:Type}(r:Rr α)(ok:α->Prop)(ex:PX->Prop):Prop:=match r with
 |.ok a=>ok a
 |.exc e=>ex e
 |.bad=>False
theorem Dn.bind{α β:Type}{r:Rr α}{f:α->Rr β}{ok:β->Prop}{ex:PX->Prop}(h:Dn (r.bind f) ok ex):Dn r (fun a=>Dn (f a) ok ex) ex:=by
 cases r with
 |ok a=>exact h
 |exc e=>exact h
 |bad=>exact h
theorem Dn.imp{α:Type}{r:Rr α}{ok ok':α->Prop}{ex ex':PX->Prop}(h:Dn r ok ex)(h1:∀a,r=.ok a->ok a->ok' a)(h2:∀e,ex e->ex' e):Dn r ok' ex':=by
 cases r with
 |ok a=>exact h1 a rfl h
 |exc e=>exact h2 e h
 |bad=>exact h
@[simp] theorem Rr.bind_ok{α β:Type}{a:α}{f:α->Rr β}:(Rr.ok a).bind f=f a:=rfl
@[simp] theorem Rr.bind_exc{α β:Type}{e:PX}{f:α->Rr β}:(Rr.exc e:Rr α).bind f=.exc e:=rfl
@[simp] theorem Rr.bind_bad{α β:Type}{f:α->Rr β}:(Rr.bad:Rr α).bind f=.bad:=rfl
inductive Kd|P|F|T|Z|A|N|M
def Res(K:W.Frag)(B:Addr->Prop)(H0 H:Hp)(σ:St)(Γ':List Md)(ρ:List PV)(F:Nat->List Addr)(R:List Addr)(k:Kd)(x:PV)(v:V)(H':Hp):Prop:=
 ∃F',(∀i,∀a∈F' i,a∈F i)/\match k with
 |.P=>x.flat=true/\Rep K H' (fun _=>True) x v/\Ag K B H0 H' σ Γ' ρ F' R
 |.F=>∃G,ZW K H' x v G/\(∀a∈G,a ∉ R/\(H a=none\/∃i,a∈F i))/\Ag K B H0 H' σ Γ' ρ F' (G++R)
 |.T=>∃a vs xs,x=.lst xs/\v=.ref a/\H' a=some (.lst vs)/\Reps K H' (NO B F' (a::R)) xs vs/\a ∉ R/\(H a=none\/∃i,a∈F i)/\Ag K B H0 H' σ Γ' ρ F' (a::R)
 |.Z=>Rep K H' (NO B F' R) x v/\Ag K B H0 H' σ Γ' ρ F' R
 |.A=>Rep K H' (fun _=>True) x v/\Ag K B H0 H' σ Γ' ρ F' R
 |.N=>False
 |.M=>False
def DE(K:W.Frag)(EX:PX->Hp->Prop)(Γ Γ':List Md)(k:Kd)(te:TE)(f:List PV->Rr PV):Prop:=
 ∀(B:Addr->Prop) (H0 H:Hp) (σ:St) (ρ:List PV) (F:Nat->List Addr) (R:List Addr) (Q:VK),Ag K B H0 H σ Γ ρ F R ->
  Dn (f ρ) (fun x=>∀v H',Z7 H H'->Res K B H0 H σ Γ' ρ F R k x v H'->Q v H') (fun e=>∀H',Z7 H0 H'->EX e H')->te σ H Q
def DT(K:W.Frag)(EX:PX->Hp->Prop)(Γ Γ':List Md)(tt:TT)(f:List PV->Rr Bool):Prop:=
 ∀(B:Addr->Prop) (H0 H:Hp) (σ:St) (ρ:List PV) (F:Nat->List Addr) (R:List Addr) (Q:Bool->Hp->Prop),Ag K B H0 H σ Γ ρ F R ->
  Dn (f ρ) (fun b=>∀H' F',Z7 H H'->(∀i,∀a∈F' i,a∈F i)->Ag K B H0 H' σ Γ' ρ F' R->Q b H') (fun e=>∀H',Z7 H0 H'->EX e H')->tt σ H Q
section
variable {K:W.Frag}{B:Addr->Prop}{EX:PX->Hp->Prop}{H0 H H':Hp}{σ:St}{Γ Γ' Γ1 Γ2:List Md}{ρ:List PV}{F F':Nat->List Addr}{R:List Addr}{k:Kd}{x:PV}{v:V}{te ta tb:TE}{f fa fb:List PV->Rr PV}
theorem Res.ag(h:Res K B H0 H σ Γ' ρ F R k x v H'):∃F',(∀i,∀a∈F' i,a∈F i)/\Rep K H' (fun _=>True) x v/\Ag K B H0 H' σ Γ' ρ F' R:=by
 obtain⟨F',hF,h⟩:=h
 refine⟨F',hF, ?_⟩
 cases k with
 |P=>exact⟨h.2.1,h.2.2⟩
 |F=>obtain⟨G,h1,h2,h3⟩:=h;exact⟨h1.rep fun _ _=>trivial,h3.less fun a ha=>ZsY _ ha⟩
 |T=>obtain⟨a,vs,xs,rfl,rfl,h1,h2,h3,h4,h5⟩:=h;exact⟨⟨a,vs,rfl,.inl ⟨.inl h1,trivial⟩,h2.any⟩,h5.less fun a ha=>Ztz _ ha⟩
 |Z=>exact⟨h.1.any,h.2⟩
 |A=>exact h
 |N=>exact h.elim
 |M=>exact h.elim
theorem Res.toA(h:Res K B H0 H σ Γ' ρ F R k x v H'):Res K B H0 H σ Γ' ρ F R .A x v H':=let ⟨F',a,b,c⟩:=h.ag;⟨F',a,b,c⟩
theorem Res.PF(h:Res K B H0 H σ Γ' ρ F R .P x v H'):Res K B H0 H σ Γ' ρ F R .F x v H':=by
 obtain⟨F',hF,h1,h2,h3⟩:=h
 exact⟨F',hF,[],h2.tree h1,by simp,h3⟩
theorem Res.FZ(h:Res K B H0 H σ Γ' ρ F R .F x v H'):Res K B H0 H σ Γ' ρ F R .Z x v H':=by
 obtain⟨F',hF,G,h1,h2,h3⟩:=h
 exact⟨F',hF,h1.rep fun a ha=>⟨h3.own a (h3.youngR a (Ztb _ ha)),(h2 a ha).1,fun i z=>h3.disjR i a z (Ztb _ ha)⟩,h3.less fun a ha=>ZsY _ ha⟩
theorem DE.imp{k':Kd}(h:DE K EX Γ Γ' k te f)(hr:∀{B:Addr->Prop}{H0 H H':Hp}{σ:St}{ρ:List PV}{F:Nat->List Addr}{R:List Addr}{x:PV}{v:V},Res K B H0 H σ Γ' ρ F R k x v H'->Res K B H0 H σ Γ' ρ F R k' x v H'):DE K EX Γ Γ' k' te f:=
 fun B H0 H σ ρ F R Q A d=>h B H0 H σ ρ F R Q A (d.imp (fun x _ q v H' s r=>q v H' s (hr r)) fun e q=>q)
theorem DE.toA(h:DE K EX Γ Γ' k te f):DE K EX Γ Γ' .A te f:=h.imp Res.toA
theorem DE.PF(h:DE K EX Γ Γ' .P te f):DE K EX Γ Γ' .F te f:=h.imp Res.PF
theorem DE.FZ(h:DE K EX Γ Γ' .F te f):DE K EX Γ Γ' .Z te f:=h.imp Res.FZ
noncomputable def grd(x:PV):Rr PV:=if x.flat=true then .ok x else .bad
theorem DE.grd(h:DE K EX Γ Γ' .A te f):DE K EX Γ Γ' .P te (fun ρ=>(f ρ).bind grd):=fun B H0 H σ ρ F R Q A d=>by
 refine h B H0 H σ ρ F R Q A (d.bind.imp (fun x _ q v H' s r=>?_) fun e q=>q)
 unfold L2.grd at q
 by_cases hx:x.flat=true
 ·rw[if_pos hx] at q
  obtain⟨F',h1,h2,h3⟩:=r
  exact q v H' s ⟨F',h1,hx,h2,h3⟩
 ·rw[if_neg hx] at q;exact q.elim
theorem Zm7{v:V}(hf:x.flat=true)(hr:∀H,Rep K H (fun _=>True) x v):DE K EX Γ Γ .P (tC v) (fun _=>.ok x):=fun B H0 H σ ρ F R Q A d =>
 d v H (Z7.refl H) ⟨F,fun _ _ h=>h,hf,hr H,A⟩
theorem Zh{i:Int}:DE K EX Γ Γ .P (tC (.int i)) (fun _=>.ok (.int i)):=Zm7 rfl fun _=>rfl
theorem U9{b:Bool}:DE K EX Γ Γ .P (tC (.bl b)) (fun _=>.ok (.bl b)):=Zm7 rfl fun _=>rfl
theorem Za8:DE K EX Γ Γ .P (tC .non) (fun _=>.ok .non):=Zm7 rfl fun _=>rfl
theorem ZdO{x:Str}:DE K EX Γ Γ .P (tC (.str x)) (fun _=>.ok (.str x)):=Zm7 rfl fun _=>rfl
noncomputable def gv(i:Nat)(ρ:List PV):PV:=ρ.getD i .non
theorem Zq{i:Nat}{m:Md}(h:Γ[i]?=some m)(hm:m≠.U):DE K EX Γ Γ .A (Qf i) (fun ρ=>.ok (gv i ρ)):=fun B H0 H σ ρ F R Q A d=>by
 obtain⟨v,h1,h2⟩:=A.getA h hm
 exact⟨v,h1,d v H (Z7.refl H) ⟨F,fun _ _ h=>h,h2,A⟩⟩
theorem Zn{i:Nat}(h:Γ[i]?=some .P):DE K EX Γ Γ .P (Qf i) (fun ρ=>.ok (gv i ρ)):=fun B H0 H σ ρ F R Q A d=>by
 obtain⟨v,h1,h2,h3⟩:=A.getP h
 exact⟨v,h1,d v H (Z7.refl H) ⟨F,fun _ _ h=>h,h2,h3,A⟩⟩
theorem JP{i:Nat}(h:Γ[i]?=some .S):DE K EX Γ Γ .Z (Qf i) (fun ρ=>.ok (gv i ρ)):=fun B H0 H σ ρ F R Q A d=>by
 obtain⟨v,h1,h2⟩:=A.getS h
 exact⟨v,h1,d v H (Z7.refl H) ⟨F,fun _ _ h=>h,h2,A⟩⟩
theorem Qo{i:Nat}{F:Nat->List Addr}:∀j,∀a∈VN F i [] j,a∈F j:=fun j a ha=>by
 by_cases h:j=i
 ·subst h;rw[Zu] at ha;simp at ha
 ·rw[Z5 h] at ha;exact ha
theorem J7{i:Nat}(h:Γ[i]?=some .O):DE K EX Γ (Γ.set i .U) .F (Qf i) (fun ρ=>.ok (gv i ρ)):=fun B H0 H σ ρ F R Q A d=>by
 obtain⟨v,h1,h2⟩:=A.getO h
 exact⟨v,h1,d v H (Z7.refl H) ⟨VN F i [],Qo,F i,h2,fun a ha=>⟨A.disjR i a ha,.inr ⟨i,ha⟩⟩,A.move h⟩⟩
def OpP(K:W.Frag)(r:R2)(o:PV->PV->Rr PV):Prop:=∀{H:Hp}{x y:PV}{v w:V}{Q:VK},Rep K H (fun _=>True) x v->Rep K H (fun _=>True) y w ->
 (∃z,o x y=.ok z/\(z.flat=true->∀u,Rep K H (fun _=>True) z u->Q u H))->r v w H Q
theorem Dn.bind2{α β γ:Type}{r:Rr α}{q:Rr β}{f:α->β->Rr γ}{ok:γ->Prop}{ex:PX->Prop}(h:Dn (r.bind fun a=>q.bind fun b=>f a b) ok ex):Dn r (fun a=>Dn q (fun b=>Dn (f a b) ok ex) ex) ex:=
 h.bind.imp (fun a _ h=>h.bind) fun e h=>h
theorem two{Q:V->V->Hp->Prop}{ok:PV->PV->Prop}(ha:DE K EX Γ Γ1 .A ta fa)(hb:DE K EX Γ1 Γ2 .A tb fb)(A:Ag K B H0 H σ Γ ρ F R)(d:Dn (fa ρ) (fun x=>Dn (fb ρ) (fun y=>ok x y) (fun e=>∀H',Z7 H0 H'->EX e H')) (fun e=>∀H',Z7 H0 H'->EX e H'))(hq:∀x y v w H' F',ok x y->Z7 H H'->(∀i,∀a∈F' i,a∈F i)->Rep K H' (fun _=>True) x v->Rep K H' (fun _=>True) y w->Ag K B H0 H' σ Γ2 ρ F' R->Q v w H') :
  ta σ H fun v H1=>tb σ H1 fun w H2=>Q v w H2:=by
 refine ha B H0 H σ ρ F R _ A (d.imp (fun x _ d v H1 s1 r1=>?_) fun e q=>q)
 obtain⟨F1,f1,p1,A1⟩:=r1
 refine hb B H0 H1 σ ρ F1 R _ A1 (d.imp (fun y _ q w H2 s2 r2=>?_) fun e q=>q)
 obtain⟨F2,f2,p2,A2⟩:=r2
 exact hq x y v w H2 F2 q (s1.trans s2) (fun i a h=>f1 i a (f2 i a h)) (p1.same s2) p2 A2
theorem Zgo{r:R2}{o:PV->PV->Rr PV}(hr:OpP K r o)(ho:∀x y z,o x y=.ok z->z.flat=true)(hx:∀x y e,o x y≠.exc e)(ha:DE K EX Γ Γ1 .A ta fa)(hb:DE K EX Γ1 Γ2 .A tb fb) :
  DE K EX Γ Γ2 .P (tOp r ta tb) (fun ρ=>(fa ρ).bind fun x=>(fb ρ).bind fun y=>o x y):=fun B H0 H σ ρ F R Q A d=>by
 refine two ha hb A d.bind2 fun x y v w H' F' d s hF p1 p2 A'=>?_
 cases e:o x y with
 |ok z=>rw[e] at d;exact hr p1 p2 ⟨z,e,fun hf u hu=>d u H' s ⟨F',hF,hf,hu,A'⟩⟩
 |exc q=>exact absurd e (hx x y q)
 |bad=>rw[e] at d;exact d.elim
noncomputable def oI(C:Int->Int->Bool)(g:Int->Int->PV)(x y:PV):Rr PV:=match x,y with
 |.int i,.int j=>if C i j=true then .ok (g i j) else .bad
 |_,_=>.bad
theorem ZdD{C:Int->Int->Bool}{g:Int->Int->PV}{i j:Int}(h:C i j=true):oI C g (.int i) (.int j)=.ok (g i j):=if_pos h
theorem ZnL{C:Int->Int->Bool}{D:Int->Int->Prop}{g:Int->Int->PV}{g':Int->Int->V}(hC:∀i j,C i j=true->D i j)(hg:∀H i j,Rep K H (fun _=>True) (g i j) (g' i j))(hf:∀i j,(g i j).flat=true):OpP K (rI D g') (oI C g):=by
 intro H x y v w Q rx ry ⟨z,e,q⟩
 cases x<;>cases y<;>first|(simp only[oI] at e;cases e;done)|skip
 rename_i i j
 simp only[oI] at e
 by_cases h:C i j=true
 ·rw[if_pos h] at e;cases e
  cases rx;cases ry
  exact⟨i,j,rfl,rfl,hC i j h,q (hf i j) _ (hg H i j)⟩
 ·rw[if_neg h] at e;cases e
theorem ZmZ{g:Int->Int->PV}{g':Int->Int->V}(hg:∀H i j,Rep K H (fun _=>True) (g i j) (g' i j))(hf:∀i j,(g i j).flat=true):OpP K (rI0 g') (oI (fun _ _=>true) g):=by
 intro H x y v w Q rx ry ⟨z,e,q⟩
 cases x<;>cases y<;>first|(simp only[oI] at e;cases e;done)|skip
 rename_i i j
 simp only[oI,if_true] at e
 cases e;cases rx;cases ry
 exact⟨i,j,rfl,rfl,q (hf i j) _ (hg H i j)⟩
theorem ZdC{C:Int->Int->Bool}{g:Int->Int->PV}(x y:PV)(e:PX):oI C g x y≠.exc e:=by
 cases x<;>cases y<;>first|(intro h;simp only[oI] at h;cases h;done)|skip
 intro h
 simp only[oI] at h
 split at h<;>cases h
theorem ZfB{C:Int->Int->Bool}{g:Int->Int->PV}(hf:∀i j,(g i j).flat=true)(x y z:PV)(h:oI C g x y=.ok z):z.flat=true:=by
 cases x<;>cases y<;>first|(simp only[oI] at h;cases h;done)|skip
 simp only[oI] at h
 split at h
 ·cases h;exact hf _ _
 ·cases h
end
mutual
noncomputable def PV.noX:PV->Bool
 |.exc _=>false
 |.exa _ _=>false
 |.box _ _ _=>false
 |.fz xs=>PV.noXs xs
 |.any=>false
 |.lst xs=>PV.noXs xs
 |.tup xs=>PV.noXs xs
 |.non=>true
 |.bl _=>true
 |.int _=>true
 |.str _=>true
noncomputable def PV.noXs:List PV->Bool
 |[]=>true
 |x::xs=>x.noX&&PV.noXs xs
end
theorem PV.noXs_ints:∀(ns:List Int),PV.noXs (ns.map PV.int)=true
 |[]=>rfl
 |n::ns=>by simp[PV.noXs,PV.noX,PV.noXs_ints ns]
mutual
noncomputable def PV.dat:PV->PyData
 |.non=>.none
 |.bl b=>.bool b
 |.int i=>.int i
 |.str x=>.str x
 |.exc _=>.none
 |.exa _ _=>.none
 |.box _ _ _=>.none
 |.fz xs=>.list (PV.dats xs)
 |.any=>.none
 |.lst xs=>.list (PV.dats xs)
 |.tup xs=>.tuple (PV.dats xs)
noncomputable def PV.dats:List PV->List PyData
 |[]=>[]
 |x::xs=>x.dat::PV.dats xs
end
section
variable {X:Cx}{pins:List (Addr×Obj)}{σ:St}{H:Hp}{s:Shared}{S:Addr->Prop}
theorem JI{K:W.Frag}{a:Addr}{vs:List V}(h:(Rd H a (.lst vs)/\S a)\/KL K a vs):SqL K H a vs:=by
 rcases h with h|h
 ·exact .inl h.1
 ·exact .inr h
mutual
theorem Rep.reads(I:Inv X pins σ H s):∀{x:PV}{v:V}{u:Value},x.noX=true->Rep X.K H S x v->Jn v u->∃as,Reads s.heap u x.dat as
 |.non,_,_,_,h,r=>by cases h;cases r;exact⟨_,.none⟩
 |.bl _,_,_,_,h,r=>by cases h;cases r;exact⟨_,.bool _⟩
 |.int _,_,_,_,h,r=>by cases h;obtain⟨t,rfl⟩:=r;exact⟨_,.int _ _⟩
 |.str _,_,_,_,h,r=>by cases h;obtain⟨t,rfl⟩:=r;exact⟨_,.str _ _⟩
 |.exc _,_,_,z,_,_=>by simp[PV.noX] at z
 |.exa _ _,_,_,z,_,_=>by simp[PV.noX] at z
 |.box _ _ _,_,_,z,_,_=>by simp[PV.noX] at z
 |.any,_,_,z,_,_=>by simp[PV.noX] at z
 |.fz xs,_,_,z,h,r=>by
  obtain⟨a,vs,rfl,⟨o,hn⟩,hr⟩:=h
  cases r
  obtain⟨its,rv,pl,_⟩:=I.list (JI (S:=fun _=>True) (.inl ⟨.inr ⟨o,hn.1⟩,trivial⟩))
  obtain⟨as,ra⟩:=Reps.reads I (by simpa[PV.noX] using z) hr rv
  obtain⟨o,ho,hc,n,hd⟩:=pl.isList
  exact⟨_,.list ho hc hd (by simpa using ra)⟩
 |.lst xs,_,_,z,h,r=>by
  obtain⟨a,vs,rfl,hn,hr⟩:=h
  cases r
  obtain⟨its,rv,pl,_⟩:=I.list (JI hn)
  obtain⟨as,ra⟩:=Reps.reads I (by simpa[PV.noX] using z) hr rv
  obtain⟨o,ho,hc,n,hd⟩:=pl.isList
  exact⟨_,.list ho hc hd (by simpa using ra)⟩
 |.tup xs,_,_,z,h,r=>by
  obtain⟨a,vs,rfl,hn,hr⟩:=h
  cases r
  obtain⟨its,rv,⟨o,ho,hc,n,hd⟩,_⟩:=I.tuple hn.sqT
  obtain⟨as,ra⟩:=Reps.reads I (by simpa[PV.noX] using z) hr rv
  exact⟨_,.tuple ho hc hd (by simpa using ra)⟩
theorem Reps.reads(I:Inv X pins σ H s):∀{xs:List PV}{vs:List V}{us:List Value},PV.noXs xs=true->Reps X.K H S xs vs->ZR vs us->∃as,ReadsAll s.heap us (PV.dats xs) as
 |[],_,_,_,h,r=>by rw[h] at r;cases r;exact⟨_,.nil⟩
 |x::xs,_,_,z,h,r=>by
  simp only[PV.noXs,Bool.and_eq_true] at z
  obtain⟨v,vs,rfl,h1,h2⟩:=h
  cases r with
  |cons r1 r2 =>
   obtain⟨as,a1⟩:=Rep.reads I z.1 h1 r1
   obtain⟨bs,b1⟩:=Reps.reads I z.2 h2 r2
   exact⟨_,.cons a1 b1⟩
end
noncomputable def okD(x:PV):Bool:=x.noX&&x.dat.canLay0&&decide (x.dat.depth<=64)
noncomputable def ZmO(K:W.Frag)(g:Bool->Bool):R2:=fun x y H Q=>∃p q,Rep K H (fun _=>True) p x/\Rep K H (fun _=>True) q y/\okD p=true/\okD q=true/\Q (.bl (g (PyData.eqv p.dat q.dat))) H
theorem J9{K:W.Frag}(hu:X.A.units+64<cLine)(e:X.K=K:=by rfl):OpR X (compareOp .Eq) (ZmO K id):=by
 subst e
 intro pins s σ H x y v u Q I rx ry h
 obtain⟨p,q,h1,h2,h3,h4,hq⟩:=h
 simp only[okD,Bool.and_eq_true,decide_eq_true_eq] at h3 h4
 obtain⟨as,ra⟩:=h1.reads I h3.1.1 rx
 obtain⟨bs,rb⟩:=h2.reads I h4.1.1 ry
 exact SeqAt.rcAt_reads ra rb h3.1.2 h4.1.2 (by have:=ZuY p.dat.depth q.dat.depth;omega) _ _ _ _ ⟨.bl (PyData.eqv p.dat q.dat),H,I,rfl,hq⟩
theorem Zav{K:W.Frag}(hu:X.A.units+64<cLine)(e:X.K=K:=by rfl):OpR X (compareOp .NotEq) (ZmO K (!·)):=by
 subst e
 intro pins s σ H x y v u Q I rx ry h
 obtain⟨p,q,h1,h2,h3,h4,hq⟩:=h
 simp only[okD,Bool.and_eq_true,decide_eq_true_eq] at h3 h4
 obtain⟨as,ra⟩:=h1.reads I h3.1.1 rx
 obtain⟨bs,rb⟩:=h2.reads I h4.1.1 ry
 exact SeqAt.rcNeAt_reads ra rb h3.1.2 h4.1.2 (by have:=ZuY p.dat.depth q.dat.depth;omega) _ _ _ _ ⟨.bl (!PyData.eqv p.dat q.dat),H,I,rfl,hq⟩
end
noncomputable def Zb1(g:Bool->Bool)(x y:PV):Rr PV:=if (okD x&&okD y)=true then .ok (.bl (g (PyData.eqv x.dat y.dat))) else .bad
def ZcV(i j:Int):Prop:=i.natAbs<2^60000/\j.natAbs<2^60000
def ZcW(i j:Int):Prop:=0<j/\j.natAbs<2^9000
noncomputable instance (i j:Int):Decidable (ZcV i j):=by unfold ZcV;infer_instance
noncomputable instance (i j:Int):Decidable (ZcW i j):=by unfold ZcW;infer_instance
noncomputable instance (i j:Int):Decidable (ZkD i j):=by unfold ZkD;infer_instance
theorem Zg8{i:Int}{n:Nat}(h:i.natAbs<2^n):Builtin.Int.intBits i<=n:=by
 unfold Builtin.Int.intBits
 split
 ·exact ZtB _
 ·rename_i h0
  have:i.natAbs≠0:=by simpa using h0
  exact Nat.succ_le_of_lt ((Nat.log2_lt this).mpr h)
section
variable {X:Cx}
theorem J5:OpR X (binaryOp .Mult) (rI ZcV fun i j=>.int (i*j)):=opI fun _ _ _ _ _ _ _ hc q=>mul_int q (PyProof.Rows.mulOk_of_bits (Zg8 hc.1) (Zg8 hc.2) (by decide))
theorem Jm:OpR X (binaryOp .FloorDiv) (rI ZcW fun i j=>.int (i/j)):=opI fun i j _ _ _ _ _ hc q=>by
 refine floordiv_int (by have:=hc.1;omega) ?_ (.inl (PyProof.noPylong_of_log2 ?_))
 ·rw[Int.fdiv_eq_ediv_of_nonneg _ (by have:=hc.1;omega)];exact q
 ·have h0:j.natAbs≠0:=by have:=hc.1;omega
  exact(Nat.log2_lt h0).mpr hc.2
variable {K:W.Frag}{B:Addr->Prop}{EX:PX->Hp->Prop}{H0 H:Hp}{σ:St}{Γ Γ' Γ1 Γ2:List Md}{ρ:List PV}{F:Nat->List Addr}{R:List Addr}{k:Kd}{x:PV}{v:V}{ta tb:TE}{fa fb fc:List PV->Rr PV}
noncomputable abbrev ZmW:PV->PV->Rr PV:=oI (fun _ _=>true) fun i j=>.int (i+j)
noncomputable abbrev Zn4:PV->PV->Rr PV:=oI (fun _ _=>true) fun i j=>.int (i-j)
noncomputable abbrev ZmT:PV->PV->Rr PV:=oI (fun i j=>decide (ZcV i j)) fun i j=>.int (i*j)
noncomputable abbrev ZmV:PV->PV->Rr PV:=oI (fun i j=>decide (ZcW i j)) fun i j=>.int (i/j)
noncomputable abbrev Zn5:PV->PV->Rr PV:=oI (fun _ j=>decide (0<j)) fun i j=>.int (i%j)
noncomputable abbrev ZmS:PV->PV->Rr PV:=oI (fun i j=>decide (ZkD i j)) fun i j=>.int (i^j.toNat)
noncomputable abbrev pLt:PV->PV->Rr PV:=oI (fun _ _=>true) fun i j=>.bl (decide (i<j))
noncomputable abbrev pLe:PV->PV->Rr PV:=oI (fun _ _=>true) fun i j=>.bl (decide (i<=j))
noncomputable abbrev pGt:PV->PV->Rr PV:=oI (fun _ _=>true) fun i j=>.bl (decide (j<i))
noncomputable abbrev pGe:PV->PV->Rr PV:=oI (fun _ _=>true) fun i j=>.bl (decide (j<=i))
theorem Zib{D:Int->Int->Prop}{C:Int->Int->Bool}{g:Int->Int->PV}{g':Int->Int->V}(hC:∀i j,C i j=true->D i j)(hg:∀H i j,Rep K H (fun _=>True) (g i j) (g' i j))(hf:∀i j,(g i j).flat=true)(ha:DE K EX Γ Γ1 .A ta fa)(hb:DE K EX Γ1 Γ2 .A tb fb):DE K EX Γ Γ2 .P (tOp (rI D g') ta tb) (fun ρ=>(fa ρ).bind fun x=>(fb ρ).bind fun y=>oI C g x y):=
 Zgo (ZnL hC hg hf) (ZfB hf) ZdC ha hb
theorem Za7{g:Int->Int->PV}{g':Int->Int->V}(hg:∀H i j,Rep K H (fun _=>True) (g i j) (g' i j))(hf:∀i j,(g i j).flat=true)(ha:DE K EX Γ Γ1 .A ta fa)(hb:DE K EX Γ1 Γ2 .A tb fb):DE K EX Γ Γ2 .P (tOp (rI0 g') ta tb) (fun ρ=>(fa ρ).bind fun x=>(fb ρ).bind fun y=>oI (fun _ _=>true) g x y):=
 Zgo (ZmZ hg hf) (ZfB hf) ZdC ha hb
theorem ZU(ha:DE K EX Γ Γ1 .A ta fa)(hb:DE K EX Γ1 Γ2 .A tb fb):DE K EX Γ Γ2 .P (tOp (rI0 fun i j=>.int (i+j)) ta tb) (fun ρ=>(fa ρ).bind fun x=>(fb ρ).bind fun y=>ZmW x y):=Za7 (fun _ _ _=>rfl) (fun _ _=>rfl) ha hb
theorem Zmd(ha:DE K EX Γ Γ1 .A ta fa)(hb:DE K EX Γ1 Γ2 .A tb fb):DE K EX Γ Γ2 .P (tOp (rI0 fun i j=>.int (i-j)) ta tb) (fun ρ=>(fa ρ).bind fun x=>(fb ρ).bind fun y=>Zn4 x y):=Za7 (fun _ _ _=>rfl) (fun _ _=>rfl) ha hb
theorem Zic(ha:DE K EX Γ Γ1 .A ta fa)(hb:DE K EX Γ1 Γ2 .A tb fb):DE K EX Γ Γ2 .P (tOp (rI0 fun i j=>.bl (decide (i<j))) ta tb) (fun ρ=>(fa ρ).bind fun x=>(fb ρ).bind fun y=>pLt x y):=Za7 (fun _ _ _=>rfl) (fun _ _=>rfl) ha hb
theorem Znh(ha:DE K EX Γ Γ1 .A ta fa)(hb:DE K EX Γ1 Γ2 .A tb fb):DE K EX Γ Γ2 .P (tOp (rI0 fun i j=>.bl (decide (i<=j))) ta tb) (fun ρ=>(fa ρ).bind fun x=>(fb ρ).bind fun y=>pLe x y):=Za7 (fun _ _ _=>rfl) (fun _ _=>rfl) ha hb
theorem Ze6(ha:DE K EX Γ Γ1 .A ta fa)(hb:DE K EX Γ1 Γ2 .A tb fb):DE K EX Γ Γ2 .P (tOp (rI0 fun i j=>.bl (decide (j<i))) ta tb) (fun ρ=>(fa ρ).bind fun x=>(fb ρ).bind fun y=>pGt x y):=Za7 (fun _ _ _=>rfl) (fun _ _=>rfl) ha hb
theorem Zni(ha:DE K EX Γ Γ1 .A ta fa)(hb:DE K EX Γ1 Γ2 .A tb fb):DE K EX Γ Γ2 .P (tOp (rI0 fun i j=>.bl (decide (j<=i))) ta tb) (fun ρ=>(fa ρ).bind fun x=>(fb ρ).bind fun y=>pGe x y):=Za7 (fun _ _ _=>rfl) (fun _ _=>rfl) ha hb
theorem Vx(ha:DE K EX Γ Γ1 .A ta fa)(hb:DE K EX Γ1 Γ2 .A tb fb):DE K EX Γ Γ2 .P (tOp (rI ZcV fun i j=>.int (i*j)) ta tb) (fun ρ=>(fa ρ).bind fun x=>(fb ρ).bind fun y=>ZmT x y):=Zib (fun _ _ h=>of_decide_eq_true h) (fun _ _ _=>rfl) (fun _ _=>rfl) ha hb
theorem Vy(ha:DE K EX Γ Γ1 .A ta fa)(hb:DE K EX Γ1 Γ2 .A tb fb):DE K EX Γ Γ2 .P (tOp (rI ZcW fun i j=>.int (i/j)) ta tb) (fun ρ=>(fa ρ).bind fun x=>(fb ρ).bind fun y=>ZmV x y):=Zib (fun _ _ h=>of_decide_eq_true h) (fun _ _ _=>rfl) (fun _ _=>rfl) ha hb
theorem Je(ha:DE K EX Γ Γ1 .A ta fa)(hb:DE K EX Γ1 Γ2 .A tb fb):DE K EX Γ Γ2 .P (tOp (rI (fun _ j=>0<j) fun i j=>.int (i%j)) ta tb) (fun ρ=>(fa ρ).bind fun x=>(fb ρ).bind fun y=>Zn5 x y):=Zib (fun _ _ h=>of_decide_eq_true h) (fun _ _ _=>rfl) (fun _ _=>rfl) ha hb
theorem Zme(ha:DE K EX Γ Γ1 .A ta fa)(hb:DE K EX Γ1 Γ2 .A tb fb):DE K EX Γ Γ2 .P (tOp (rI ZkD fun i j=>.int (i^j.toNat)) ta tb) (fun ρ=>(fa ρ).bind fun x=>(fb ρ).bind fun y=>ZmS x y):=Zib (fun _ _ h=>of_decide_eq_true h) (fun _ _ _=>rfl) (fun _ _=>rfl) ha hb
theorem Zel{g:Bool->Bool}(x y:PV)(e:PX):Zb1 g x y≠.exc e:=by
 unfold Zb1
 intro h
 split at h<;>cases h
theorem Zf4{g:Bool->Bool}(x y z:PV)(h:Zb1 g x y=.ok z):z.flat=true:=by
 unfold Zb1 at h
 split at h
 ·cases h;rfl
 ·cases h
theorem Jj{g:Bool->Bool}(ha:DE K EX Γ Γ1 .A ta fa)(hb:DE K EX Γ1 Γ2 .A tb fb):DE K EX Γ Γ2 .P (tOp (ZmO K g) ta tb) (fun ρ=>(fa ρ).bind fun x=>(fb ρ).bind fun y=>Zb1 g x y):=by
 refine Zgo (fun {H x y v w Q} rx ry ⟨z,e,q⟩=>?_) Zf4 Zel ha hb
 unfold Zb1 at e
 by_cases h:(okD x&&okD y)=true
 ·rw[if_pos h] at e;cases e
  rw[Bool.and_eq_true] at h
  exact⟨x,y,rx,ry,h.1,h.2,q rfl _ rfl⟩
 ·rw[if_neg h] at e;cases e
noncomputable def Zk7(g:Bool->Bool)(x:PV):Rr PV:=match x with
 |.non=>.ok (.bl (g true))
 |_=>.ok (.bl (g false))
theorem Zfj{x:PV}{v:V}{S:Addr->Prop}(h:Rep K H S x v):decide (v=.non)=match x with|.non=>true|_=>false:=by
 cases x<;>first|(cases h;rfl)|(obtain⟨a,vs,rfl,_⟩:=h;rfl)|(obtain⟨a,vs,c,rfl,_⟩:=h;rfl)|(obtain⟨a,o,c,d,fs,rfl,_⟩:=h;rfl)|(obtain⟨a,rfl⟩:=h;rfl)
theorem ZiT(ha:DE K EX Γ Γ1 .A ta fa):DE K EX Γ Γ1 .P (tOp (fun x y H Q=>y=.non/\Q (.bl (decide (x=.non))) H) ta (tC .non)) (fun ρ=>(fa ρ).bind (Zk7 id)):=fun B H0 H σ ρ F R Q A d=>by
 refine ha B H0 H σ ρ F R _ A (d.bind.imp (fun x _ d v H1 s1 r1=>?_) fun e q=>q)
 obtain⟨F1,f1,p1,A1⟩:=r1
 have e:=Zfj p1
 refine⟨rfl, ?_⟩
 rw[e]
 cases x<;>exact d _ H1 s1 ⟨F1,f1,rfl,rfl,A1⟩
theorem Zkl(ha:DE K EX Γ Γ1 .A ta fa):DE K EX Γ Γ1 .P (tOp (fun x y H Q=>y=.non/\Q (.bl (!decide (x=.non))) H) ta (tC .non)) (fun ρ=>(fa ρ).bind (Zk7 (!·))):=fun B H0 H σ ρ F R Q A d=>by
 refine ha B H0 H σ ρ F R _ A (d.bind.imp (fun x _ d v H1 s1 r1=>?_) fun e q=>q)
 obtain⟨F1,f1,p1,A1⟩:=r1
 have e:=Zfj p1
 refine⟨rfl, ?_⟩
 rw[e]
 cases x<;>exact d _ H1 s1 ⟨F1,f1,rfl,rfl,A1⟩
noncomputable def asB(x:PV):Rr Bool:=match x with
 |.bl b=>.ok b
 |_=>.bad
theorem Dn.asB{x:PV}{ok:Bool->Prop}{ex:PX->Prop}(d:Dn (asB x) ok ex):∃b,x=.bl b/\ok b:=by
 cases x with
 |bl b=>exact⟨b,rfl,d⟩
 |_=>exact d.elim
theorem ZiS(ha:DE K EX Γ Γ1 .A ta fa):DE K EX Γ Γ1 .P (ZkL ta) (fun ρ=>(fa ρ).bind fun x=>(asB x).bind fun b=>.ok (.bl (!b))):=fun B H0 H σ ρ F R Q A d=>by
 refine ha B H0 H σ ρ F R _ A (d.bind.imp (fun x _ d v H1 s1 r1=>?_) fun e q=>q)
 obtain⟨b,rfl,d⟩:=d.bind.asB
 obtain⟨F1,f1,p1,A1⟩:=r1
 cases p1
 exact⟨b,rfl,d _ H1 s1 ⟨F1,f1,rfl,rfl,A1⟩⟩
theorem Res.shift{H1:Hp}{F1:Nat->List Addr}{k:Kd}{Γ2:List Md}{y:PV}{w:V}{H2:Hp}(s1:Z7 H H1)(f1:∀i,∀a∈F1 i,a∈F i)(h:Res K B H0 H1 σ Γ2 ρ F1 R k y w H2):Res K B H0 H σ Γ2 ρ F R k y w H2:=by
 obtain⟨F2,f2,h⟩:=h
 refine⟨F2,fun i a ha=>f1 i a (f2 i a ha), ?_⟩
 have org:∀a,(H1 a=none\/∃i,a∈F1 i)->(H a=none\/∃i,a∈F i):=fun a h=>h.elim (fun z=>.inl (s1.free z)) fun⟨i,z⟩=>.inr ⟨i,f1 i a z⟩
 cases k with
 |P=>exact h
 |F=>obtain⟨G,h1,h2,h3⟩:=h;exact⟨G,h1,fun a ha=>⟨(h2 a ha).1,org a (h2 a ha).2⟩,h3⟩
 |T=>obtain⟨a,vs,xs,h1,h2,h3,h4,h5,h6,h7⟩:=h;exact⟨a,vs,xs,h1,h2,h3,h4,h5,org a h6,h7⟩
 |Z=>exact h
 |A=>exact h
 |N=>exact h.elim
 |M=>exact h.elim
theorem Za9(ha:DE K EX Γ Γ .A ta fa)(hb:DE K EX Γ Γ .P tb fb):DE K EX Γ Γ .P (ZkS ta tb) (fun ρ=>(fa ρ).bind fun x=>(asB x).bind fun b=>if b=true then fb ρ else .ok (.bl false)):=fun B H0 H σ ρ F R Q A d=>by
 refine ha B H0 H σ ρ F R _ A (d.bind.imp (fun x _ d v H1 s1 r1=>?_) fun e q=>q)
 obtain⟨b,rfl,d⟩:=d.bind.asB
 obtain⟨F1,f1,p1,A1⟩:=r1
 cases p1
 refine⟨b,rfl, ?_⟩
 cases b with
 |true=>exact hb B H0 H1 σ ρ F1 R _ A1 (d.imp (fun y _ q w H2 s2 r2=>q w H2 (s1.trans s2) (r2.shift s1 f1)) fun e q=>q)
 |false=>exact d _ H1 s1 ⟨F1,f1,rfl,rfl,A1⟩
theorem Z0(ha:DE K EX Γ Γ' .A ta fa):DT K EX Γ Γ' (Zjn ta) (fun ρ=>(fa ρ).bind asB):=fun B H0 H σ ρ F R Q A d=>by
 refine ha B H0 H σ ρ F R _ A (d.bind.imp (fun x _ d v H1 s1 r1=>?_) fun e q=>q)
 obtain⟨b,rfl,d⟩:=d.asB
 obtain⟨F1,f1,p1,A1⟩:=r1
 cases p1
 exact⟨b,rfl,d H1 F1 s1 f1 A1⟩
theorem ZcF(ha:DE K EX Γ Γ' .A ta fa):DT K EX Γ Γ' (tB ta) (fun ρ=>(fa ρ).bind asB):=Z0 ha
theorem ZlX{c d:TT}{fc fd:List PV->Rr Bool}(hc:DT K EX Γ Γ c fc)(hd:DT K EX Γ Γ d fd):DT K EX Γ Γ (Znx c d) (fun ρ=>(fc ρ).bind fun b=>if b=true then fd ρ else .ok false):=fun B H0 H σ ρ F R Q A dn=>by
 refine hc B H0 H σ ρ F R _ A (dn.bind.imp (fun b _ dn H1 F1 s1 f1 A1=>?_) fun e q=>q)
 cases b with
 |true=>exact hd B H0 H1 σ ρ F1 R _ A1 (dn.imp (fun y _ q H2 F2 s2 f2 A2=>q H2 F2 (s1.trans s2) (fun i a h=>f1 i a (f2 i a h)) A2) fun e q=>q)
 |false=>exact dn H1 F1 s1 f1 A1
theorem UN{c d:TT}{fc fd:List PV->Rr Bool}(hc:DT K EX Γ Γ c fc)(hd:DT K EX Γ Γ d fd):DT K EX Γ Γ (tOr c d) (fun ρ=>(fc ρ).bind fun b=>if b=true then .ok true else fd ρ):=fun B H0 H σ ρ F R Q A dn=>by
 refine hc B H0 H σ ρ F R _ A (dn.bind.imp (fun b _ dn H1 F1 s1 f1 A1=>?_) fun e q=>q)
 cases b with
 |false=>exact hd B H0 H1 σ ρ F1 R _ A1 (dn.imp (fun y _ q H2 F2 s2 f2 A2=>q H2 F2 (s1.trans s2) (fun i a h=>f1 i a (f2 i a h)) A2) fun e q=>q)
 |true=>exact dn H1 F1 s1 f1 A1
theorem Vw{c:TT}{fc:List PV->Rr Bool}(hc:DT K EX Γ Γ' c fc):DT K EX Γ Γ' (ZmI c) (fun ρ=>(fc ρ).bind fun b=>.ok (!b)):=fun B H0 H σ ρ F R Q A dn =>
 hc B H0 H σ ρ F R _ A (dn.bind.imp (fun b _ dn H1 F1 s1 f1 A1=>dn H1 F1 s1 f1 A1) fun e q=>q)
end
def DAA(K:W.Frag)(EX:PX->Hp->Prop)(Γ Γ':List Md)(ta:TA)(f:List PV->Rr (List PV)):Prop:=
 ∀(B:Addr->Prop) (H0 H:Hp) (σ:St) (ρ:List PV) (F:Nat->List Addr) (R:List Addr) (Q:List V->Hp->Prop),Ag K B H0 H σ Γ ρ F R ->
  Dn (f ρ) (fun xs=>∀vs H' F',Z7 H H'->(∀i,∀a∈F' i,a∈F i)->Reps K H' (fun _=>True) xs vs->Ag K B H0 H' σ Γ' ρ F' R->Q vs H') (fun e=>∀H',Z7 H0 H'->EX e H')->ta σ H Q
def DAF(K:W.Frag)(EX:PX->Hp->Prop)(Γ Γ':List Md)(ta:TA)(f:List PV->Rr (List PV)):Prop:=
 ∀(B:Addr->Prop) (H0 H:Hp) (σ:St) (ρ:List PV) (F:Nat->List Addr) (R:List Addr) (Q:List V->Hp->Prop),Ag K B H0 H σ Γ ρ F R ->
  Dn (f ρ) (fun xs=>∀vs H' F' G,Z7 H H'->(∀i,∀a∈F' i,a∈F i)->Trees K H' xs vs G->(∀a∈G,a ∉ R/\(H a=none\/∃i,a∈F i))->Ag K B H0 H' σ Γ' ρ F' (G++R)->Q vs H') (fun e=>∀H',Z7 H0 H'->EX e H')->ta σ H Q
def DAZ(K:W.Frag)(EX:PX->Hp->Prop)(Γ Γ':List Md)(ta:TA)(f:List PV->Rr (List PV)):Prop:=
 ∀(B:Addr->Prop) (H0 H:Hp) (σ:St) (ρ:List PV) (F:Nat->List Addr) (R:List Addr) (Q:List V->Hp->Prop),Ag K B H0 H σ Γ ρ F R ->
  Dn (f ρ) (fun xs=>∀vs H' F',Z7 H H'->(∀i,∀a∈F' i,a∈F i)->Reps K H' (NO B F' R) xs vs->Ag K B H0 H' σ Γ' ρ F' R->Q vs H') (fun e=>∀H',Z7 H0 H'->EX e H')->ta σ H Q
section
variable {K:W.Frag}{B:Addr->Prop}{EX:PX->Hp->Prop}{H0 H H':Hp}{σ:St}{Γ Γ' Γ1 Γ2:List Md}{ρ:List PV}{F F':Nat->List Addr}{R:List Addr}{k:Kd}{x:PV}{v:V}{te tb:TE}{ta:TA}{f fb:List PV->Rr PV}{fa:List PV->Rr (List PV)}
theorem Zd:DAA K EX Γ Γ Zdg (fun _=>.ok []):=fun B H0 H σ ρ F R Q A d=>d [] H F (Z7.refl H) (fun _ _ h=>h) rfl A
theorem Zb(he:DE K EX Γ Γ1 .A te f)(ha:DAA K EX Γ1 Γ2 ta fa):DAA K EX Γ Γ2 (Vg te ta) (fun ρ=>(f ρ).bind fun x=>(fa ρ).bind fun xs=>.ok (x::xs)):=fun B H0 H σ ρ F R Q A d=>by
 refine he B H0 H σ ρ F R _ A (d.bind.imp (fun x _ d v H1 s1 r1=>?_) fun e q=>q)
 obtain⟨F1,f1,p1,A1⟩:=r1
 refine ha B H0 H1 σ ρ F1 R _ A1 (d.bind.imp (fun xs _ d vs H2 F2 s2 f2 p2 A2=>?_) fun e q=>q)
 exact d (v::vs) H2 F2 (s1.trans s2) (fun i a h=>f1 i a (f2 i a h)) ⟨v,vs,rfl,p1.same s2,p2⟩ A2
theorem Jr:DAF K EX Γ Γ Zdg (fun _=>.ok []):=fun B H0 H σ ρ F R Q A d=>d [] H F [] (Z7.refl H) (fun _ _ h=>h) ⟨rfl,rfl⟩ (by simp) A
theorem ZY(he:DE K EX Γ Γ1 .F te f)(ha:DAF K EX Γ1 Γ2 ta fa):DAF K EX Γ Γ2 (Vg te ta) (fun ρ=>(f ρ).bind fun x=>(fa ρ).bind fun xs=>.ok (x::xs)):=fun B H0 H σ ρ F R Q A d=>by
 refine he B H0 H σ ρ F R _ A (d.bind.imp (fun x _ d v H1 s1 r1=>?_) fun e q=>q)
 obtain⟨F1,f1,G1,p1,o1,A1⟩:=r1
 refine ha B H0 H1 σ ρ F1 (G1++R) _ A1 (d.bind.imp (fun xs _ d vs H2 F2 G2 s2 f2 p2 o2 A2=>?_) fun e q=>q)
 refine d (v::vs) H2 F2 (G1++G2) (s1.trans s2) (fun i a h=>f1 i a (f2 i a h)) ⟨v,vs,G1,G2,rfl,p1.same s2,p2,fun a ha z=>(o2 a z).1 (Ztb _ ha),rfl⟩ (fun a ha=>?_) (A2.less fun a ha=>?_)
 ·rcases Zta.mp ha with z|z
  ·exact o1 a z
  ·obtain⟨o3,o4⟩:=o2 a z
   exact⟨fun q=>o3 (ZsY _ q),o4.elim (fun q=>.inl (s1.free q)) fun⟨i,q⟩=>.inr ⟨i,f1 i a q⟩⟩
 ·simp only[Zta] at ha ⊢
  rcases ha with (z|z)|z
  ·exact .inr (.inl z)
  ·exact .inl z
  ·exact .inr (.inr z)
theorem Zko:DAZ K EX Γ Γ Zdg (fun _=>.ok []):=fun B H0 H σ ρ F R Q A d=>d [] H F (Z7.refl H) (fun _ _ h=>h) rfl A
theorem Zih(he:DE K EX Γ Γ1 .Z te f)(ha:DAZ K EX Γ1 Γ2 ta fa):DAZ K EX Γ Γ2 (Vg te ta) (fun ρ=>(f ρ).bind fun x=>(fa ρ).bind fun xs=>.ok (x::xs)):=fun B H0 H σ ρ F R Q A d=>by
 refine he B H0 H σ ρ F R _ A (d.bind.imp (fun x _ d v H1 s1 r1=>?_) fun e q=>q)
 obtain⟨F1,f1,p1,A1⟩:=r1
 refine ha B H0 H1 σ ρ F1 R _ A1 (d.bind.imp (fun xs _ d vs H2 F2 s2 f2 p2 A2=>?_) fun e q=>q)
 refine d (v::vs) H2 F2 (s1.trans s2) (fun i a h=>f1 i a (f2 i a h)) ⟨v,vs,rfl, ?_,p2⟩ A2
 exact Rep.mono (fun a us s r=>⟨r.same s2,s.1,s.2.1,fun i z=>s.2.2 i (f2 i a z)⟩) (fun a us r=>s2.im r) p1
noncomputable def mkT(xs:List PV):Rr PV:=if xs.length<=1000 then .ok (.tup xs) else .bad
noncomputable def mkL(xs:List PV):Rr PV:=if xs.length<=1000 then .ok (.lst xs) else .bad
theorem Dn.mkT{xs:List PV}{ok:PV->Prop}{ex:PX->Prop}(d:Dn (mkT xs) ok ex):xs.length<=1000/\ok (.tup xs):=by
 unfold L2.mkT at d
 by_cases h:xs.length<=1000
 ·rw[if_pos h] at d;exact⟨h,d⟩
 ·rw[if_neg h] at d;exact d.elim
theorem Dn.mkL{xs:List PV}{ok:PV->Prop}{ex:PX->Prop}(d:Dn (mkL xs) ok ex):xs.length<=1000/\ok (.lst xs):=by
 unfold L2.mkL at d
 by_cases h:xs.length<=1000
 ·rw[if_pos h] at d;exact⟨h,d⟩
 ·rw[if_neg h] at d;exact d.elim
theorem ZcJ(ha:DAF K EX Γ Γ' ta fa):DE K EX Γ Γ' .F (ZmH ta) (fun ρ=>(fa ρ).bind mkT):=fun B H0 H σ ρ F R Q A d=>by
 refine ha B H0 H σ ρ F R _ A (d.bind.imp (fun xs _ d vs H1 F1 G s1 f1 p1 o1 A1=>?_) fun e q=>q)
 obtain⟨hl,d⟩:=d.mkT
 refine⟨by rw[p1.length];exact Uz hl,fun p hp=>?_⟩
 have e:Z7 H1 (upd H1 p (.tup vs)):=Z7.new hp
 exact d _ _ (s1.trans e) ⟨F1,f1,G,⟨p,vs,rfl,⟨Zv,trivial⟩,p1.same e⟩,o1,A1.grow e⟩
theorem QV(ha:DAA K EX Γ Γ' ta fa):DE K EX Γ Γ' .A (ZmH ta) (fun ρ=>(fa ρ).bind mkT):=fun B H0 H σ ρ F R Q A d=>by
 refine ha B H0 H σ ρ F R _ A (d.bind.imp (fun xs _ d vs H1 F1 s1 f1 p1 A1=>?_) fun e q=>q)
 obtain⟨hl,d⟩:=d.mkT
 refine⟨by rw[p1.length];exact Uz hl,fun p hp=>?_⟩
 have e:Z7 H1 (upd H1 p (.tup vs)):=Z7.new hp
 exact d _ _ (s1.trans e) ⟨F1,f1,⟨p,vs,rfl,⟨Zv,trivial⟩,p1.same e⟩,A1.grow e⟩
theorem Res.newF{H1:Hp}{F1:Nat->List Addr}{G:List Addr}{xs:List PV}{vs:List V}{p:Addr}(s1:Z7 H H1)(f1:∀i,∀a∈F1 i,a∈F i)(p1:Trees K H1 xs vs G)(o1:∀a∈G,a ∉ R/\(H a=none\/∃i,a∈F i))(A1:Ag K B H0 H1 σ Γ' ρ F1 (G++R))(hp:H1 p=none) :
  Res K B H0 H σ Γ' ρ F R .F (.lst xs) (.ref p) (upd H1 p (.lst vs)):=by
 have e:Z7 H1 (upd H1 p (.lst vs)):=Z7.new hp
 have hf:=A1.fresh hp
 refine⟨F1,f1,p::G,⟨p,vs,G,rfl,Zv,p1.same e,fun z=>hf.1 (Ztb _ z),rfl⟩,fun a ha=>?_,A1.new hp⟩
 rcases Zti.mp ha with rfl|z
 ·exact⟨fun z=>hf.1 (ZsY _ z),.inl (s1.free hp)⟩
 ·exact o1 a z
theorem Res.newP{H1:Hp}{F1:Nat->List Addr}{xs:List PV}{vs:List V}{p:Addr}{S:Addr->Prop}(s1:Z7 H H1)(f1:∀i,∀a∈F1 i,a∈F i)(p1:Reps K H1 S xs vs)(hx:PV.flats xs=true)(A1:Ag K B H0 H1 σ Γ' ρ F1 R)(hp:H1 p=none) :
  Res K B H0 H σ Γ' ρ F R .F (.lst xs) (.ref p) (upd H1 p (.lst vs)):=Res.newF (G:=[]) s1 f1 (p1.trees hx) (by simp) A1 hp
theorem JQ(ha:DAF K EX Γ Γ' ta fa):DE K EX Γ Γ' .F (Zmz ta) (fun ρ=>(fa ρ).bind mkL):=fun B H0 H σ ρ F R Q A d=>by
 refine ha B H0 H σ ρ F R _ A (d.bind.imp (fun xs _ d vs H1 F1 G s1 f1 p1 o1 A1=>?_) fun e q=>q)
 obtain⟨hl,d⟩:=d.mkL
 refine⟨by rw[p1.length];exact Uz hl,fun p hp=>d _ _ (s1.trans (Z7.new hp)) (Res.newF s1 f1 p1 o1 A1 hp)⟩
noncomputable def pIx(x y:PV):Rr PV:=match x,y with
 |.lst xs,.int i=>match atI xs i with
  |some z=>.ok z
  |none=>.bad
 |.tup xs,.int i=>match atI xs i with
  |some z=>.ok z
  |none=>.bad
 |_,_=>.bad
theorem Zfi{S:Addr->Prop}{xs:List PV}{vs:List V}{i:Int}{z:PV}(h:Reps K H S xs vs)(e:atI xs i=some z):∃u,atI vs i=some u/\Rep K H S z u:=by
 unfold atI at e ⊢
 rw[h.length]
 cases q:ixN xs.length i with
 |none=>rw[q] at e;cases e
 |some j =>
  rw[q] at e
  obtain⟨u,e1,e2⟩:=h.get e
  exact⟨u,e1,e2⟩
theorem Zi6{S:Addr->Prop}{x y z:PV}{v w:V}{Q:VK}(hx:Rep K H S x v)(hy:Rep K H (fun _=>True) y w)(e:pIx x y=.ok z)(q:∀u,Rep K H S z u->Q u H):rIx K v w H Q:=by
 cases x<;>cases y<;>first|(simp only[pIx] at e;cases e;done)|skip
 ·rename_i xs i
  obtain⟨a,vs,rfl,hn,hr⟩:=hx
  cases hy
  simp only[pIx] at e
  cases e1:atI xs i with
  |none=>rw[e1] at e;cases e
  |some z' =>
   rw[e1] at e;cases e
   obtain⟨u,e2,e3⟩:=Zfi hr e1
   exact .inl ⟨a,vs,i,u,rfl,rfl,JI hn,e2,q u e3⟩
 ·rename_i xs i
  obtain⟨a,vs,rfl,hn,hr⟩:=hx
  cases hy
  simp only[pIx] at e
  cases e1:atI xs i with
  |none=>rw[e1] at e;cases e
  |some z' =>
   rw[e1] at e;cases e
   obtain⟨u,e2,e3⟩:=Zfi hr e1
   exact .inr (.inl ⟨a,vs,i,u,rfl,rfl,hn.sqT,e2,q u e3⟩)
theorem Zf2(x y:PV)(e:PX):pIx x y≠.exc e:=by
 cases x<;>cases y<;>first|(intro h;simp only[pIx] at h;cases h;done)|skip
 all_goals
  intro h
  simp only[pIx] at h
  split at h<;>cases h
theorem Dn.pIx{x y:PV}{ok:PV->Prop}{ex:PX->Prop}(d:Dn (pIx x y) ok ex):∃z,pIx x y=.ok z/\ok z:=by
 cases e:L2.pIx x y with
 |ok z=>rw[e] at d;exact⟨z,rfl,d⟩
 |exc q=>exact absurd e (Zf2 x y q)
 |bad=>rw[e] at d;exact d.elim
theorem Z3{te ta':TE}{fa':List PV->Rr PV}(ha:DE K EX Γ Γ1 .A ta' fa')(hb:DE K EX Γ1 Γ2 .A tb fb):DE K EX Γ Γ2 .A (tOp (rIx K) ta' tb) (fun ρ=>(fa' ρ).bind fun x=>(fb ρ).bind fun y=>pIx x y):=fun B H0 H σ ρ F R Q A d=>by
 refine two ha hb A d.bind2 fun x y v w H' F' d s hF p1 p2 A'=>?_
 obtain⟨z,e,d⟩:=d.pIx
 exact Zi6 p1 p2 e fun u hu=>d u H' s ⟨F',hF,hu,A'⟩
theorem Zmg{te ta':TE}{fa':List PV->Rr PV}(ha:DE K EX Γ Γ1 .Z ta' fa')(hb:DE K EX Γ1 Γ2 .A tb fb):DE K EX Γ Γ2 .Z (tOp (rIx K) ta' tb) (fun ρ=>(fa' ρ).bind fun x=>(fb ρ).bind fun y=>pIx x y):=fun B H0 H σ ρ F R Q A d=>by
 refine ha B H0 H σ ρ F R _ A (d.bind.imp (fun x _ d v H1 s1 r1=>?_) fun e q=>q)
 obtain⟨F1,f1,p1,A1⟩:=r1
 refine hb B H0 H1 σ ρ F1 R _ A1 (d.bind.imp (fun y _ d w H2 s2 r2=>?_) fun e q=>q)
 obtain⟨F2,f2,p2,A2⟩:=r2
 obtain⟨z,e,d⟩:=d.pIx
 have p1':Rep K H2 (NO B F2 R) x v:=Rep.mono (fun a us s r=>⟨r.same s2,s.1,s.2.1,fun i z=>s.2.2 i (f2 i a z)⟩) (fun a us r=>s2.im r) p1
 exact Zi6 p1' p2 e fun u hu=>d u H2 (s1.trans s2) ⟨F2,fun i a h=>f1 i a (f2 i a h),hu,A2⟩
def CbP(K:W.Frag)(r:List V->Hp->VK->Prop)(o:List PV->Rr PV):Prop:=∀{H:Hp}{xs:List PV}{vs:List V}{Q:VK},Reps K H (fun _=>True) xs vs->∀z,o xs=.ok z->z.flat=true/\((∀u,Rep K H (fun _=>True) z u->Q u H)->r vs H Q)
theorem Ze7{r:List V->Hp->VK->Prop}{o:List PV->Rr PV}(hr:CbP K r o)(hx:∀xs e,o xs≠.exc e)(ha:DAA K EX Γ Γ' ta fa):DE K EX Γ Γ' .P (tCB r ta) (fun ρ=>(fa ρ).bind o):=fun B H0 H σ ρ F R Q A d=>by
 refine ha B H0 H σ ρ F R _ A (d.bind.imp (fun xs _ d vs H1 F1 s1 f1 p1 A1=>?_) fun e q=>q)
 cases e:o xs with
 |ok z =>
  rw[e] at d
  obtain⟨hf,h⟩:=hr (Q:=Q) p1 z e
  exact h fun u hu=>d u H1 s1 ⟨F1,f1,hf,hu,A1⟩
 |exc q=>exact absurd e (hx xs q)
 |bad=>rw[e] at d;exact d.elim
noncomputable def ZeB(xs:List PV):Rr PV:=match xs with
 |[.lst ys]=>.ok (.int ys.length)
 |[.tup ys]=>.ok (.int ys.length)
 |_=>.bad
theorem VM{S:Addr->Prop}{x:PV}{vs:List V}(h:Reps K H S [x] vs):∃v,vs=[v]/\Rep K H S x v:=by
 obtain⟨v,r,rfl,h1,h2⟩:=h
 cases h2
 exact⟨v,rfl,h1⟩
theorem ZkX{S:Addr->Prop}{x y:PV}{vs:List V}(h:Reps K H S [x,y] vs):∃v w,vs=[v,w]/\Rep K H S x v/\Rep K H S y w:=by
 obtain⟨v,r,rfl,h1,w,r',rfl,h2,h3⟩:=h
 cases h3
 exact⟨v,w,rfl,h1,h2⟩
theorem Jh(ha:DAA K EX Γ Γ' ta fa):DE K EX Γ Γ' .P (tCB (fun xs H Q=>∃p ys,xs=[.ref p]/\(SqL K H p ys\/SqT K H p ys)/\Q (.int ys.length) H) ta) (fun ρ=>(fa ρ).bind ZeB):=by
 refine Ze7 (fun {H xs vs Q} h z e=>?_) (fun xs e h=>?_) ha
 ·unfold ZeB at e
  split at e<;>first|(cases e;done)|skip
  all_goals
   cases e
   refine⟨rfl,fun q=>?_⟩
   obtain⟨v,rfl,a,ws,rfl,hn,hr⟩:=VM h
   refine⟨a,ws,rfl, ?_,by rw[hr.length];exact q _ rfl⟩
   first|exact .inl (JI (S:=fun _=>True) hn)|exact .inr hn.sqT
 ·unfold ZeB at h;split at h<;>cases h
noncomputable def VQ:List PV->Option (List Int)
 |[]=>some []
 |.int i::xs=>(VQ xs).map (i::·)
 |_::_=>none
@[simp] theorem Zex(ns:List Int):VQ (ns.map PV.int)=some ns:=by
 induction ns with
 |nil=>rfl
 |cons n ns ih=>simp[VQ,ih]
theorem U2:∀{xs:List PV}{ns:List Int},VQ xs=some ns->xs=ns.map PV.int
 |[],_,h=>by cases h;rfl
 |.int i::xs,ns,h=>by
  simp only[VQ] at h
  cases e:VQ xs with
  |none=>rw[e] at h;cases h
  |some ms=>rw[e] at h;cases h;rw[U2 e];rfl
 |.non::_,_,h=>by cases h
 |.bl _::_,_,h=>by cases h
 |.str _::_,_,h=>by cases h
 |.exc _::_,_,h=>by cases h
 |.exa _ _::_,_,h=>by cases h
 |.box _ _ _::_,_,h=>by cases h
 |.fz _::_,_,h=>by cases h
 |.any::_,_,h=>by cases h
 |.lst _::_,_,h=>by cases h
 |.tup _::_,_,h=>by cases h
theorem Vh{S:Addr->Prop}:∀{ns:List Int}{vs:List V},Reps K H S (ns.map PV.int) vs->vs=ns.map V.int
 |[],_,h=>h
 |n::ns,_,h=>by
  obtain⟨v,r,rfl,h1,h2⟩:=h
  cases h1
  rw[Vh h2];rfl
theorem ZbP{S:Addr->Prop}:∀(ns:List Int),Reps K H S (ns.map PV.int) (ns.map V.int)
 |[]=>rfl
 |n::ns=>⟨_,_,rfl,rfl,ZbP ns⟩
theorem Zhb{S:Addr->Prop}{ns:List Int}{v:V}(h:Rep K H S (.lst (ns.map PV.int)) v):∃a,v=.ref a/\SqL K H a (ns.map V.int):=by
 obtain⟨a,vs,rfl,hn,hr⟩:=h
 rw[Vh hr] at hn
 exact⟨a,rfl,JI hn⟩
noncomputable def Zek(g:List Int->Rr PV)(xs:List PV):Rr PV:=match xs with
 |[.lst ys]=>match VQ ys with
  |some ns=>g ns
  |none=>.bad
 |_=>.bad
theorem Rr.ints{g:List Int->Rr PV}{xs:List PV}{z:PV}(e:Zek g xs=.ok z):∃ns,xs=[.lst (ns.map PV.int)]/\g ns=.ok z:=by
 unfold Zek at e
 split at e
 ·split at e
  ·rename_i ns h
   exact⟨ns,by rw[U2 h],e⟩
  ·cases e
 ·cases e
theorem Zc0{g:List Int->Rr PV}(hg:∀ns e,g ns≠.exc e)(xs:List PV)(e:PX):Zek g xs≠.exc e:=by
 intro h
 unfold Zek at h
 split at h
 ·split at h
  ·exact hg _ _ h
  ·cases h
 ·cases h
noncomputable abbrev ZmR:=Zek fun ns=>.ok (.int ns.sum)
theorem ZdN(ha:DAA K EX Γ Γ' ta fa):DE K EX Γ Γ' .P (tCB (fun xs H Q=>∃p,∃ns:List Int,xs=[.ref p]/\SqL K H p (ns.map V.int)/\Q (.int ns.sum) H) ta) (fun ρ=>(fa ρ).bind ZmR):=by
 refine Ze7 (fun {H xs vs Q} h z e=>?_) (Zc0 fun ns e h=>by cases h) ha
 obtain⟨ns,rfl,e'⟩:=Rr.ints e
 cases e'
 obtain⟨v,rfl,h1⟩:=VM h
 obtain⟨a,rfl,h2⟩:=Zhb h1
 exact⟨rfl,fun q=>⟨a,ns,rfl,h2,q _ rfl⟩⟩
noncomputable def Zn7:List Int->Int
 |[]=>0
 |[n]=>n
 |n::ns=>min n (Zn7 ns)
noncomputable def Zce:List PV->Option (List Bool)
 |[]=>some []
 |.bl i::xs=>(Zce xs).map (i::·)
 |_::_=>none
@[simp] theorem Zcd(ns:List Bool):Zce (ns.map PV.bl)=some ns:=by
 induction ns with
 |nil=>rfl
 |cons n ns ih=>simp[Zce,ih]
theorem Zbv:∀{xs:List PV}{ns:List Bool},Zce xs=some ns->xs=ns.map PV.bl
 |[],_,h=>by cases h;rfl
 |.bl i::xs,ns,h=>by
  simp only[Zce] at h
  cases e:Zce xs with
  |none=>rw[e] at h;cases h
  |some ms=>rw[e] at h;cases h;rw[Zbv e];rfl
 |.non::_,_,h=>by cases h
 |.int _::_,_,h=>by cases h
 |.str _::_,_,h=>by cases h
 |.exc _::_,_,h=>by cases h
 |.exa _ _::_,_,h=>by cases h
 |.box _ _ _::_,_,h=>by cases h
 |.fz _::_,_,h=>by cases h
 |.any::_,_,h=>by cases h
 |.lst _::_,_,h=>by cases h
 |.tup _::_,_,h=>by cases h
theorem ZaN{S:Addr->Prop}:∀{ns:List Bool}{vs:List V},Reps K H S (ns.map PV.bl) vs->vs=ns.map V.bl
 |[],_,h=>h
 |n::ns,_,h=>by
  obtain⟨v,r,rfl,h1,h2⟩:=h
  cases h1
  rw[ZaN h2];rfl
noncomputable def Zlz(xs:List PV):Rr PV:=match xs with
 |[.lst ys]=>match Zce ys with
  |some bs=>.ok (.bl (bs.all id))
  |none=>.bad
 |_=>.bad
theorem Zgq(ha:DAA K EX Γ Γ' ta fa):DE K EX Γ Γ' .P (tCB (fun xs H Q=>∃p,∃bs:List Bool,xs=[.ref p]/\SqL K H p (bs.map V.bl)/\Q (.bl (bs.all id)) H) ta) (fun ρ=>(fa ρ).bind Zlz):=by
 refine Ze7 (fun {H xs vs Q} h z e=>?_) (fun xs e h=>?_) ha
 ·unfold Zlz at e
  split at e
  ·split at e
   ·rename_i bs hb
    cases e
    rw[Zbv hb] at h
    obtain⟨v,rfl,a,ws,rfl,hn,hr⟩:=VM h
    rw[ZaN hr] at hn
    exact⟨rfl,fun q=>⟨a,bs,rfl,JI (S:=fun _=>True) hn,q _ rfl⟩⟩
   ·cases e
  ·cases e
 ·unfold Zlz at h
  split at h
  ·split at h<;>cases h
  ·cases h
noncomputable def Zm3(xs:List PV):Rr PV:=match xs with
 |[.int i]=>.ok (.int i)
 |[.bl b]=>.ok (.int (if b then 1 else 0))
 |_=>.bad
theorem Zia(ha:DAA K EX Γ Γ' ta fa):DE K EX Γ Γ' .P (tCB (fun xs H Q=>(∃i,xs=[.int i]/\Q (.int i) H)\/∃k,xs=[.bl k]/\Q (.int (if k then 1 else 0)) H) ta) (fun ρ=>(fa ρ).bind Zm3):=by
 refine Ze7 (fun {H xs vs Q} h z e=>?_) (fun xs e h=>?_) ha
 ·unfold Zm3 at e
  split at e<;>first|(cases e;done)|skip
  ·cases e
   obtain⟨v,rfl,h1⟩:=VM h
   cases h1
   exact⟨rfl,fun q=>.inl ⟨_,rfl,q _ rfl⟩⟩
  ·cases e
   obtain⟨v,rfl,h1⟩:=VM h
   cases h1
   exact⟨rfl,fun q=>.inr ⟨_,rfl,q _ rfl⟩⟩
 ·unfold Zm3 at h;split at h<;>cases h
end
theorem JB{n:Nat}(h:n<=1000000):n<=sizeLine:=Ztr h (by decide)
def LX(K:W.Frag)(H:Hp)(a:Addr)(vs:List V):Prop:=Rd H a (.lst vs)\/KL K a vs
section
end
def Frm(H:Hp)(F:Nat->List Addr)(H':Hp)(F':Nat->List Addr):Prop:=∀a o,H a=some o->(∀i,a ∉ F i)->H' a=some o/\∀i,a ∉ F' i
theorem Frm.refl{H:Hp}{F:Nat->List Addr}:Frm H F H F:=fun a o h n=>⟨h,n⟩
theorem Frm.trans{H H1 H2:Hp}{F F1 F2:Nat->List Addr}(h1:Frm H F H1 F1)(h2:Frm H1 F1 H2 F2):Frm H F H2 F2:=fun a o h n=>let ⟨h3,n3⟩:=h1 a o h n;h2 a o h3 n3
theorem Frm.of{H H':Hp}{F F':Nat->List Addr}(s:Z7 H H')(f:∀i,∀a∈F' i,a∈F i):Frm H F H' F':=fun a o h n=>⟨s a o h,fun i z=>n i (f i a z)⟩
def ItP(K:W.Frag)(S:Addr->Prop)(J:It)(xs:List PV)(H:Hp):Prop:=
 ∀i,(∀x,xs[i]?=some x->J.go i H/\∀v H',J.yld i H v H'->Z7 H H'/\Rep K H' S x v)/\(xs[i]?=none->J.stop i H)
def DI(K:W.Frag)(EX:PX->Hp->Prop)(Γ Γ':List Md)(wi:TI)(f:List PV->Rr (List PV)):Prop:=
 ∀(B:Addr->Prop) (H0 H:Hp) (σ:St) (ρ:List PV) (F:Nat->List Addr) (R:List Addr) (Q:It->Hp->Prop),Ag K B H0 H σ Γ ρ F R ->
  Dn (f ρ) (fun xs=>∀J H' F',Z7 H H'->(∀i,∀a∈F' i,a∈F i)->Ag K B H0 H' σ Γ' ρ F' R->(∀H2 F2,Frm H' F' H2 F2->ItP K (fun a=>NO B F2 R a/\H' a≠none/\∀i,a ∉ F' i) J xs H2)->Q J H') (fun e=>∀H',Z7 H0 H'->EX e H')->wi σ H Q
def DIc(K:W.Frag)(EX:PX->Hp->Prop)(Γ Γ':List Md)(wi:TI)(f:List PV->Rr (List PV)):Prop:=
 ∀(B:Addr->Prop) (H0 H:Hp) (σ:St) (ρ:List PV) (F:Nat->List Addr) (R:List Addr) (Q:It->Hp->Prop),Ag K B H0 H σ Γ ρ F R ->
  Dn (f ρ) (fun xs=>∀J H' F',Z7 H H'->(∀i,∀a∈F' i,a∈F i)->Ag K B H0 H' σ Γ' ρ F' R->(∀H2 F2,Z7 H' H2->(∀i,∀a∈F2 i,a∈F' i)->ItP K (fun a=>NO B F2 R a/\H' a≠none/\∀i,a ∉ F' i) J xs H2)->Q J H') (fun e=>∀H',Z7 H0 H'->EX e H')->wi σ H Q
theorem DI.c{K:W.Frag}{EX:PX->Hp->Prop}{Γ Γ':List Md}{wi:TI}{f:List PV->Rr (List PV)}(h:DI K EX Γ Γ' wi f):DIc K EX Γ Γ' wi f:=fun B H0 H σ ρ F R Q A d =>
 h B H0 H σ ρ F R Q A (d.imp (fun xs _ d J H' F' s1 f1 A1 it=>d J H' F' s1 f1 A1 fun H2 F2 s2 f2=>it H2 F2 (Frm.of s2 f2)) fun e q=>q)
theorem ItP.flat{K:W.Frag}{S S':Addr->Prop}{J:It}{xs:List PV}{H:Hp}(f:PV.flats xs=true)(h:ItP K S J xs H):ItP K S' J xs H:=fun i=>by
 refine⟨fun x hx=>?_,(h i).2⟩
 obtain⟨h1,h2⟩:=(h i).1 x hx
 have fx:∀(xs:List PV) (i:Nat),PV.flats xs=true->xs[i]?=some x->x.flat=true:=by
  intro xs
  induction xs with
  |nil=>intro i _ h;simp at h
  |cons y ys ih =>
   intro i hf hx
   simp only[PV.flats,Bool.and_eq_true] at hf
   cases i with
   |zero=>simp at hx;rw[<- hx];exact hf.1
   |succ i=>exact ih i hf.2 (by simpa using hx)
 exact⟨h1,fun v H' y=>⟨(h2 v H' y).1,(h2 v H' y).2.flatS (fx xs i f hx)⟩⟩
section
variable {K:W.Frag}{B:Addr->Prop}{EX:PX->Hp->Prop}{H0 H H':Hp}{σ:St}{Γ Γ' Γ1 Γ2:List Md}{ρ:List PV}{F:Nat->List Addr}{R:List Addr}{k:Kd}{x:PV}{v:V}{te tb:TE}{ta:TA}{f fb:List PV->Rr PV}{fa:List PV->Rr (List PV)}
theorem Rep.frm{F2:Nat->List Addr}{H2:Hp}(h:Frm H F H2 F2)(A:Ag K B H0 H σ Γ ρ F R)(r:Rep K H (NO B F R) x v):Rep K H2 (fun a=>NO B F2 R a/\H a≠none/\∀i,a ∉ F i) x v:=by
 refine Rep.mono (fun a us s r=>?_) (fun a us r=>?_) r
 ·rcases r with r|⟨o,r⟩
  ·obtain⟨h1,h2⟩:=h a _ r s.2.2;exact⟨.inl h1,⟨s.1,s.2.1,h2⟩,by rw[r];simp,s.2.2⟩
  ·obtain⟨h1,h2⟩:=h a _ r s.2.2;exact⟨.inr ⟨o,h1⟩,⟨s.1,s.2.1,h2⟩,by rw[r];simp,s.2.2⟩
 ·refine⟨(h a _ r.1 fun i z=>?_).1,r.2⟩
  obtain⟨vs,q⟩:=A.live i a z
  exact Zbb vs.2 r.2 (by rw[r.1] at q;exact Option.some.inj q)
noncomputable def Zck(lo:Int)(n:Nat):List PV:=(List.range n).map fun(k:Nat)=>PV.int (lo+(k:Int))
theorem ZfU{lo:Int}{n:Nat}{S:Addr->Prop}:ItP K S (Itr lo n) (Zck lo n) H:=by
 intro i
 constructor
 ·intro x hx
  unfold Zck at hx
  rw[ZsZ] at hx
  by_cases h:i<n
  ·rw[ZtO h] at hx
   cases hx
   exact⟨h,fun v H' ⟨e1,e2⟩=>by subst e1 e2;exact⟨Z7.refl _,rfl⟩⟩
  ·rw[Ztt (by simpa using h)] at hx;cases hx
 ·intro hx
  unfold Zck at hx
  have:=ZtI.mp hx
  show n<=i
  simpa using this
noncomputable def okR(j:Int):Bool:=decide (-(2^62)<=j/\j<2^62)
noncomputable def Zho(xs:List PV):Rr (List PV):=match xs with
 |[.int j]=>if okR j=true then .ok (Zck 0 j.toNat) else .bad
 |_=>.bad
noncomputable def Zhn(xs:List PV):Rr (List PV):=match xs with
 |[.int i,.int j]=>if (okR i&&okR j)=true then .ok (Zck i (j-i).toNat) else .bad
 |_=>.bad
theorem JN(ha:DAA K EX Γ Γ' ta fa):DI K EX Γ Γ' (ZlK ta) (fun ρ=>(fa ρ).bind Zho):=fun B H0 H σ ρ F R Q A d=>by
 refine ha B H0 H σ ρ F R _ A (d.bind.imp (fun xs _ d vs H1 F1 s1 f1 p1 A1=>?_) fun e q=>q)
 unfold Zho at d
 split at d
 ·rename_i j _
  obtain⟨v,rfl,h1⟩:=VM p1
  cases h1
  by_cases h:okR j=true
  ·rw[if_pos h] at d
   have h':=of_decide_eq_true h
   exact⟨j,rfl,h'.1,h'.2,d _ H1 F1 s1 f1 A1 fun H2 F2 _=>ZfU⟩
  ·rw[if_neg h] at d;exact d.elim
 ·exact d.elim
theorem Zkj(ha:DAA K EX Γ Γ' ta fa):DI K EX Γ Γ' (ZlJ ta) (fun ρ=>(fa ρ).bind Zhn):=fun B H0 H σ ρ F R Q A d=>by
 refine ha B H0 H σ ρ F R _ A (d.bind.imp (fun xs _ d vs H1 F1 s1 f1 p1 A1=>?_) fun e q=>q)
 unfold Zhn at d
 split at d
 ·rename_i i j _
  obtain⟨v,w,rfl,h1,h2⟩:=ZkX p1
  cases h1;cases h2
  by_cases h:(okR i&&okR j)=true
  ·rw[if_pos h] at d
   rw[Bool.and_eq_true] at h
   have h':=of_decide_eq_true h.1
   have h'':=of_decide_eq_true h.2
   exact⟨i,j,rfl,⟨h'.1,h'.2,h''.1,h''.2⟩,d _ H1 F1 s1 f1 A1 fun H2 F2 _=>ZfU⟩
  ·rw[if_neg h] at d;exact d.elim
 ·exact d.elim
noncomputable def asL(x:PV):Rr (List PV):=match x with
 |.lst xs=>.ok xs
 |_=>.bad
theorem ZfV{a:Addr}{xs:List PV}{S:Addr->Prop}(h:Rep K H S (.lst xs) (.ref a)):ItP K S (Itl K a) xs H:=by
 obtain⟨a',vs,e,hn,hr⟩:=h
 cases e
 intro i
 constructor
 ·intro x hx
  obtain⟨u,e1,e2⟩:=hr.get hx
  refine⟨⟨vs,u,JI hn,e1⟩,fun v H' ⟨e,y⟩=>?_⟩
  subst e
  have:=y vs (JI hn)
  rw[e1] at this;cases this
  exact⟨Z7.refl _,e2⟩
 ·intro hx
  exact⟨vs,JI hn,by rw[hr.length];exact ZtI.mp hx⟩
theorem Jc(he:DE K EX Γ Γ' .Z te f):DI K EX Γ Γ' (ZcA K te) (fun ρ=>(f ρ).bind asL):=fun B H0 H σ ρ F R Q A d=>by
 refine he B H0 H σ ρ F R _ A (d.bind.imp (fun x _ d v H1 s1 r1=>?_) fun e q=>q)
 obtain⟨F1,f1,p1,A1⟩:=r1
 cases x with
 |lst xs =>
  obtain⟨a,vs,rfl,hn,hr⟩:=id p1
  exact⟨a,rfl,⟨vs,JI hn⟩,d _ H1 F1 s1 f1 A1 fun H2 F2 h=>ZfV (p1.frm h A1)⟩
 |_=>exact d.elim
noncomputable def Zm8(x:PV):Rr (List PV):=match x with
 |.lst xs=>if PV.flats xs=true then .ok xs else .bad
 |_=>.bad
theorem ZhZ(he:DE K EX Γ Γ' .A te f):DIc K EX Γ Γ' (ZcA K te) (fun ρ=>(f ρ).bind Zm8):=fun B H0 H σ ρ F R Q A d=>by
 refine he B H0 H σ ρ F R _ A (d.bind.imp (fun x _ d v H1 s1 r1=>?_) fun e q=>q)
 obtain⟨F1,f1,p1,A1⟩:=r1
 cases x with
 |lst xs =>
  unfold Zm8 at d
  by_cases hf:PV.flats xs=true
  ·simp only[hf,if_true] at d
   obtain⟨a,vs,rfl,hn,hr⟩:=id p1
   exact⟨a,rfl,⟨vs,JI (S:=fun _=>True) hn⟩,d _ H1 F1 s1 f1 A1 fun H2 F2 s2 _=>ItP.flat hf (ZfV (p1.same s2))⟩
  ·simp only[hf] at d;exact d.elim
 |_=>exact d.elim
theorem U4:∀{ns:List Int},PV.flats (ns.map PV.int)=true
 |[]=>rfl
 |n::ns=>by simp only[Zte,PV.flats,PV.flat,U4,Bool.and_self]
theorem Zir{ns:List Int}:Zm8 (.lst (ns.map PV.int))=.ok (ns.map PV.int):=by unfold Zm8;simp only[U4,if_true]
noncomputable def asI(x:PV):Rr Int:=match x with
 |.int i=>.ok i
 |_=>.bad
noncomputable def newF(xs:List PV):Rr PV:=if (PV.flats xs&&decide (xs.length<=1000000))=true then .ok (.lst xs) else .bad
theorem Dn.newF{xs:List PV}{ok:PV->Prop}{ex:PX->Prop}(d:Dn (newF xs) ok ex):PV.flats xs=true/\xs.length<=1000000/\ok (.lst xs):=by
 unfold L2.newF at d
 by_cases h:(PV.flats xs&&decide (xs.length<=1000000))=true
 ·rw[if_pos h] at d
  rw[Bool.and_eq_true] at h
  exact⟨h.1,of_decide_eq_true h.2,d⟩
 ·rw[if_neg h] at d;exact d.elim
noncomputable def Zli(xs:List PV)(y:PV):Rr PV:=match y with
 |.int k=>if xs.length*k.toNat<=1000000/\-(2^63)<=k/\k<2^63 then newF (List.replicate k.toNat xs).flatten else .bad
 |_=>.bad
theorem Reps.rep{S:Addr->Prop}{xs:List PV}{vs:List V}(h:Reps K H S xs vs):∀n:Nat,Reps K H S (List.replicate n xs).flatten (List.replicate n vs).flatten
 |0=>rfl
 |n+1=>by
  rw[ZtT,ZtT,Zur,Zur]
  exact h.append (Reps.rep h n)
theorem Zgn(ha:DAA K EX Γ Γ1 ta fa)(hb:DE K EX Γ1 Γ2 .A tb fb) :
  DE K EX Γ Γ2 .F (tOp Znz (Zmz ta) tb) (fun ρ=>(fa ρ).bind fun xs=>(mkL xs).bind fun _=>(fb ρ).bind fun y=>Zli xs y):=fun B H0 H σ ρ F R Q A d=>by
 refine ha B H0 H σ ρ F R _ A (d.bind.imp (fun xs _ d vs H1 F1 s1 f1 p1 A1=>?_) fun e q=>q)
 obtain⟨hl,d⟩:=Dn.mkL d.bind
 refine⟨by rw[p1.length];exact Uz hl,fun p hp=>?_⟩
 have e:Z7 H1 (upd H1 p (.lst vs)):=Z7.new hp
 refine hb B H0 _ σ ρ F1 R _ (A1.grow e) (d.bind.imp (fun y _ d w H2 s2 r2=>?_) fun e q=>q)
 obtain⟨F2,f2,p2,A2⟩:=r2
 cases y with
 |int k =>
  cases p2
  simp only[Zli] at d
  by_cases h:xs.length*k.toNat<=1000000/\-(2^63)<=k/\k<2^63
  ·rw[if_pos h] at d
   obtain⟨h1,h2,d⟩:=Dn.newF d
   refine⟨p,k,vs,rfl,rfl,s2 _ _ Zv,h.2.1,h.2.2,by rw[p1.length];exact JB h.1,fun q hq=>?_⟩
   have st:=(s1.trans e).trans s2
   exact d _ _ (st.trans (Z7.new hq)) (Res.newP st (fun i a h=>f1 i a (f2 i a h)) (((p1.same e).same s2).rep k.toNat) h1 A2 hq)
  ·rw[if_neg h] at d;exact d.elim
 |_=>exact d.elim
noncomputable def Zcz(xs:List PV):Rr PV:=match xs with
 |[.lst ys]=>newF ys
 |[.tup ys]=>newF ys
 |_=>.bad
theorem U7(ha:DAA K EX Γ Γ' ta fa):DE K EX Γ Γ' .F (tCB (fun xs H Q=>∃p ys,xs=[.ref p]/\(SqL K H p ys\/SqT K H p ys)/\∀l,H l=none->Q (.ref l) (upd H l (.lst ys))) ta) (fun ρ=>(fa ρ).bind Zcz):=fun B H0 H σ ρ F R Q A d=>by
 refine ha B H0 H σ ρ F R _ A (d.bind.imp (fun xs _ d vs H1 F1 s1 f1 p1 A1=>?_) fun e q=>q)
 unfold Zcz at d
 split at d
 ·obtain⟨h1,h2,d⟩:=Dn.newF d
  obtain⟨v,rfl,a,ws,rfl,hn,hr⟩:=VM p1
  exact⟨a,ws,rfl,.inl (JI (S:=fun _=>True) hn),fun l hl=>d _ _ (s1.trans (Z7.new hl)) (Res.newP s1 f1 hr h1 A1 hl)⟩
 ·obtain⟨h1,h2,d⟩:=Dn.newF d
  obtain⟨v,rfl,a,ws,rfl,hn,hr⟩:=VM p1
  exact⟨a,ws,rfl,.inr hn.sqT,fun l hl=>d _ _ (s1.trans (Z7.new hl)) (Res.newP s1 f1 hr h1 A1 hl)⟩
 ·exact d.elim
noncomputable def Vt:PV->String
 |.non => "NoneType"
 |.bl _ => "bool"
 |.int _ => "int"
 |.str _ => "str"
 |.lst _ => "list"
 |.tup _ => "tuple"
 |.exc _ => "?"
 |.exa _ _ => "?"
 |.box _ (.dk _) _ => "dict"
 |.box _ (.dt _) _ => "dict"
 |.box _ (.ob _ _) _ => "?"
 |.box _ .jk _ => "?"
 |.box _ .ls _ => "?"
 |.fz _ => "?"
 |.any => "?"
noncomputable def PV.isX:PV->Bool
 |.exc _=>true
 |.exa _ _=>true
 |.box _ _ _=>true
 |.fz _=>true
 |.any=>true
 |_=>false
noncomputable def QJ(t n:String):Bool:=t==n || (t == "bool" && n == "int")
noncomputable def ZmE(n:String):Bool:=n == "int" || n == "bool" || n == "str" || n == "list" || n == "tuple"
theorem ZlB(K:W.Frag){n:String}(h:ZmE n=true)(x:PV)(hx:x.isX=false):PySem.W.kitOne K (.type (Vt x)) (.type n)=some (QJ (Vt x) n):=by
 simp only[ZmE,Bool.or_eq_true,beq_iff_eq] at h
 rcases h with (((rfl|rfl)|rfl)|rfl)|rfl<;>cases x<;>first|rfl|cases hx
def Zn3(K:W.Frag)(n:String):List V->Hp->VK->Prop:=fun xs H Q=>∃x p,xs=[x,.ty n]/\Rep K H (fun _=>True) p x/\p.isX=false/\Q (.bl (QJ (Vt p) n)) H
theorem Js{X:Cx}{n:String}(hn:ZmE n=true)(e:X.K=K:=by rfl):Vc X (.builtin "isinstance") (Zn3 K n):=by
 subst e
 intro pins s σ H xs us Q I r h
 obtain⟨x,p,rfl,hp,hx,q⟩:=h
 obtain⟨u,w',rfl,rx,rn⟩:=ZmD r
 cases rn
 have e:=ZlB X.K hn p hx
 have fin:∀tk,EP X pins σ Q (.bool (QJ (Vt p) n)) { s with toks:=tk }:=fun tk=>⟨.bl _,H,I.tok _,rfl,q⟩
 cases p with
 |non=>cases hp;cases rx;exact PySem.W.kia_one PySem.W.kitx_none I.kIn True.intro e (fun z=>nomatch z) fin
 |bl y=>cases hp;cases rx;exact PySem.W.kia_one PySem.W.kitx_bool I.kIn True.intro e (fun z=>nomatch z) fin
 |int i=>cases hp;obtain⟨t,rfl⟩:=rx;exact PySem.W.kia_one PySem.W.kitx_int I.kIn True.intro e (fun z=>nomatch z) fin
 |str y=>cases hp;obtain⟨t,rfl⟩:=rx;exact PySem.W.kia_one PySem.W.kitx_str I.kIn True.intro e (fun z=>nomatch z) fin
 |exc y=>cases hx
 |exa y i=>cases hx
 |box p s ps=>cases hx
 |fz ps=>cases hx
 |any=>cases hx
 |lst ps =>
  obtain⟨a,vs,rfl,hn',hr⟩:=hp
  cases rx
  obtain⟨its,_,pl,_⟩:=I.list (JI (S:=fun _=>True) hn')
  obtain⟨o,h1,h2,_⟩:=pl.isList
  exact PySem.W.kia_one PySem.W.kitx_list I.kIn ⟨o,h1,h2⟩ e (fun z=>nomatch z) fin
 |tup ps =>
  obtain⟨a,vs,rfl,hn',hr⟩:=hp
  cases rx
  obtain⟨its,_,⟨o,h1,h2,_⟩,_⟩:=I.tuple hn'.sqT
  exact PySem.W.kia_one PySem.W.kitx_tuple I.kIn ⟨o,h1,h2⟩ e (fun z=>nomatch z) fin
noncomputable def Zlt(n:String)(x:PV):Rr PV:=if x.isX=true then .bad else .ok (.bl (QJ (Vt x) n))
theorem U8{n:String}(he:DE K EX Γ Γ' .A te f):DE K EX Γ Γ' .P (tCB (Zn3 K n) (Vg te (Vg (tC (.ty n)) Zdg))) (fun ρ=>(f ρ).bind (Zlt n)):=fun B H0 H σ ρ F R Q A d=>by
 refine he B H0 H σ ρ F R _ A (d.bind.imp (fun x _ d v H1 s1 r1=>?_) fun e q=>q)
 obtain⟨F1,f1,p1,A1⟩:=r1
 unfold Zlt at d
 cases hx:x.isX with
 |true=>rw[hx] at d;exact d.elim
 |false=>rw[hx] at d;exact⟨v,x,rfl,p1,hx,d _ H1 s1 ⟨F1,f1,rfl,rfl,A1⟩⟩
def Len(fa:List PV->Rr (List PV))(n:Nat):Prop:=∀ρ xs,fa ρ=.ok xs->xs.length=n
theorem Zw:Len (fun _=>.ok []) 0:=fun ρ xs h=>by cases h;rfl
theorem Zf{f:List PV->Rr PV}{fa:List PV->Rr (List PV)}{n:Nat}(h:Len fa n):Len (fun ρ=>(f ρ).bind fun x=>(fa ρ).bind fun xs=>.ok (x::xs)) (n+1):=fun ρ xs e=>by
 dsimp only at e
 cases h1:f ρ with
 |ok x =>
  rw[h1] at e
  cases h2:fa ρ with
  |ok ys=>simp only[Rr.bind_ok,h2] at e;cases e;simp[h ρ ys h2]
  |exc q=>simp only[Rr.bind_ok,h2,Rr.bind_exc] at e;cases e
  |bad=>simp only[Rr.bind_ok,h2,Rr.bind_bad] at e;cases e
 |exc q=>rw[h1] at e;cases e
 |bad=>rw[h1] at e;cases e
def Znq(K:W.Frag)(H:Hp)(a:Addr)(xs:List PV):Prop:=PV.flats xs=true/\∃vs,H a=some (.lst vs)/\Reps K H (fun _=>True) xs vs
def LsR(K:W.Frag)(H:Hp)(x:PV)(v:V)(H':Hp):Prop:=∃y a0 x0 a1 x1 a2 x2,x=.tup [y,.box (some a0) .ls x0,.box (some a1) .ls x1,.box (some a2) .ls x2]/\y.flat=true/\Rep K H' (fun _=>True) y v /\
 Znq K H' a0 x0/\Znq K H' a1 x1/\Znq K H' a2 x2/\H a0=none/\H a1=none/\H a2=none
def ZgN(K:W.Frag)(B:Addr->Prop)(H:Hp)(k:Kd)(x:PV)(v:V)(H':Hp):Prop:=match k with
 |.P=>x.flat=true/\Rep K H' (fun _=>True) x v
 |.F=>∃G,ZW K H' x v G/\∀a∈G,H a=none
 |.N=>∃y a s xs G1 G2,x=.tup [y,.box (some a) s xs]/\ZW K H' y v G1/\ZW K H' (.box (some a) s xs) (.ref a) G2/\(∀b∈G1,b ∉ G2)/\(∀b∈G1,H b=none)/\∀b∈G2,H b=none
 |.M=>LsR K H x v H'
 |_=>Rep K H' (fun a=>B a\/H a=none) x v
noncomputable def spF(K:PySem.W.Frag)(n:Nat)(k:Kd)(W:PX->XK->Hp->Prop)(m:List PV->Rr PV):Sp:=fun vs H Q E=>∃B xs,Reps K H B xs vs/\xs.length=n /\
 Dn (m xs) (fun x=>∀v H',Z7 H H'->ZgN K B H k x v H'->Q v H') (fun e=>∀H',Z7 H H'->W e E H')
def W0:PX->XK->Hp->Prop:=fun _ _ _=>False
def X0:PX->Hp->Prop:=fun _ _=>False
section
variable {n:Nat}{W:PX->XK->Hp->Prop}{m:List PV->Rr PV}{E:XK}
theorem Zif{t:TE}(ht:∀σ H Q,(ta σ H fun vs H1=>spF K n .P W m vs H1 Q E)->t σ H Q)(hW:∀e H',EX e H'->W e E H')(hn:Len fa n)(ha:DAA K EX Γ Γ' ta fa):DE K EX Γ Γ' .P t (fun ρ=>(fa ρ).bind m):=fun B H0 H σ ρ F R Q A d=>by
 refine ht _ _ _ (ha B H0 H σ ρ F R _ A (d.bind.imp (fun xs hx d vs H1 F1 s1 f1 p1 A1=>?_) fun e q=>q))
 exact⟨fun _=>True,xs,p1,hn ρ xs hx,d.imp (fun x _ d v H2 s2 r=>d v H2 (s1.trans s2) ⟨F1,f1,r.1,r.2,A1.grow s2⟩) fun e q H2 s2=>hW e H2 (q H2 (A1.same.trans s2))⟩
theorem Zig{t:TE}(ht:∀σ H Q,(ta σ H fun vs H1=>spF K n .F W m vs H1 Q E)->t σ H Q)(hW:∀e H',EX e H'->W e E H')(hn:Len fa n)(ha:DAA K EX Γ Γ' ta fa):DE K EX Γ Γ' .F t (fun ρ=>(fa ρ).bind m):=fun B H0 H σ ρ F R Q A d=>by
 refine ht _ _ _ (ha B H0 H σ ρ F R _ A (d.bind.imp (fun xs hx d vs H1 F1 s1 f1 p1 A1=>?_) fun e q=>q))
 refine⟨fun _=>True,xs,p1,hn ρ xs hx,d.imp (fun x _ d v H2 s2 r=>?_) fun e q H2 s2=>hW e H2 (q H2 (A1.same.trans s2))⟩
 obtain⟨G,r1,r2⟩:=r
 exact d v H2 (s1.trans s2) ⟨F1,f1,G,r1,fun a ha=>⟨(A1.fresh (r2 a ha)).1,.inl (s1.free (r2 a ha))⟩,A1.more s2 r2 r1.alive⟩
end
end
noncomputable def Zba{α β:Type}(f:α->Rr β):List α->Rr (List β)
 |[]=>.ok []
 |x::xs=>(f x).bind fun y=>(Zba f xs).bind fun ys=>.ok (y::ys)
noncomputable def lenM(xs:List PV):Rr Unit:=if xs.length<=1000000 then .ok () else .bad
theorem Dn.lenM{xs:List PV}{ok:Unit->Prop}{ex:PX->Prop}(d:Dn (lenM xs) ok ex):xs.length<=1000000/\ok ():=by
 unfold L2.lenM at d
 by_cases h:xs.length<=1000000
 ·rw[if_pos h] at d;exact⟨h,d⟩
 ·rw[if_neg h] at d;exact d.elim
theorem Rr.assoc{α β γ:Type}{r:Rr α}{f:α->Rr β}{g:β->Rr γ}:(r.bind f).bind g=r.bind fun a=>(f a).bind g:=by cases r<;>rfl
section
variable {K:W.Frag}{B:Addr->Prop}{H0 H:Hp}{σ:St}{Γ:List Md}{ρ:List PV}{F:Nat->List Addr}{R:List Addr}{x:PV}{v:V}
theorem Ag.outF(A:Ag K B H0 H σ Γ ρ F R){i:Nat}(h:Γ.length<=i):F i=[]:=by
 have:=A.slot i
 rw[ZsS,Ztt h] at this
 exact this
theorem Ag.push(A:Ag K B H0 H σ Γ ρ F R)(h:Rep K H (NO B F R) x v):Ag K B H0 H (σ++[some v]) (Γ++[.S]) (ρ++[x]) F R:=by
 refine⟨A.same,A.own,A.young,A.youngR,A.live,A.liveR,A.disj,A.disjR,by simp[A.lenS],by simp[A.lenR],fun i=>?_⟩
 by_cases h1:i<Γ.length
 ·have:=A.slot i
  rw[ZsS,ZsS,Ztl h1,Ztl (by rw[A.lenR];exact h1),Ztl (by rw[A.lenS];exact h1),<- ZsS,<- ZsS]
  exact this
 ·by_cases h2:i=Γ.length
  ·subst h2
   rw[ZsS,ZsS,Zth (ZsX _),Zth (by rw[A.lenR];exact ZsX _),Zth (by rw[A.lenS];exact ZsX _),A.lenR,A.lenS]
   simp only[Nat.sub_self,Zug,ZtZ]
   exact⟨A.outF (ZsX _),v,rfl,h⟩
  ·rw[ZsS,Ztt (by simp;omega)]
   exact A.outF (by omega)
end
inductive RS where
 |next (ρ:List PV)|ret (x:PV)|brk (ρ:List PV)|cont (ρ:List PV)|exc (e:PX)|bad
noncomputable def Rr.thenS{α:Type}:Rr α->(α->RS)->RS
 |.ok a,f=>f a
 |.exc e,_=>.exc e
 |.bad,_=>.bad
noncomputable def RS.seq:RS->(List PV->RS)->RS
 |.next ρ,f=>f ρ
 |r,_=>r
@[simp] theorem Rr.thenS_ok{α:Type}{a:α}{f:α->RS}:(Rr.ok a).thenS f=f a:=rfl
@[simp] theorem RS.seq_next{ρ:List PV}{f:List PV->RS}:(RS.next ρ).seq f=f ρ:=rfl
@[simp] theorem RS.seq_ret{x:PV}{f:List PV->RS}:(RS.ret x).seq f=.ret x:=rfl
structure Tys where
 n:List Md
 b:List Md
 c:List Md
 r:Kd
def DnS(K:W.Frag)(B:Addr->Prop)(EX:PX->Hp->Prop)(Y:Tys)(H0 H:Hp)(F:Nat->List Addr)(D:Zis)(r:RS):Prop:=match r with
 |.next ρ=>∀σ' H' F',Frm H F H' F'->Ag K B H0 H' σ' Y.n ρ F' []->D.nx σ' H'
 |.brk ρ=>∀σ' H' F',Frm H F H' F'->Ag K B H0 H' σ' Y.b ρ F' []->D.bk σ' H'
 |.cont ρ=>∀σ' H' F',Frm H F H' F'->Ag K B H0 H' σ' Y.c ρ F' []->D.ct σ' H'
 |.ret x=>∀v H',Z7 H0 H'->ZgN K B H0 Y.r x v H'->D.rt v H'
 |.exc e=>∀H',Z7 H0 H'->EX e H'
 |.bad=>False
def DS(K:W.Frag)(EX:PX->Hp->Prop)(Γ:List Md)(Y:Tys)(t:TS)(g:List PV->RS):Prop:=
 ∀(B:Addr->Prop) (H0 H:Hp) (σ:St) (ρ:List PV) (F:Nat->List Addr) (D:Zis),Ag K B H0 H σ Γ ρ F []->DnS K B EX Y H0 H F D (g ρ)->t D σ H
section
variable {K:W.Frag}{B:Addr->Prop}{EX:PX->Hp->Prop}{H0 H H':Hp}{σ:St}{Γ Γ' Γ1 Γ2 Γ3:List Md}{ρ:List PV}{F F':Nat->List Addr}{R:List Addr}{k:Kd}{x:PV}{v:V}{te:TE}{f fc:List PV->Rr PV}{t u:TS}{g g':List PV->RS}{Y:Tys}{D:Zis}
theorem DnS.shift{H1:Hp}{F1:Nat->List Addr}{r:RS}(fr:Frm H F H1 F1)(h:DnS K B EX Y H0 H F D r):DnS K B EX Y H0 H1 F1 D r:=by
 cases r with
 |next ρ=>exact fun σ' H' F' fr' A=>h σ' H' F' (fr.trans fr') A
 |brk ρ=>exact fun σ' H' F' fr' A=>h σ' H' F' (fr.trans fr') A
 |cont ρ=>exact fun σ' H' F' fr' A=>h σ' H' F' (fr.trans fr') A
 |ret x=>exact h
 |exc e=>exact h
 |bad=>exact h
theorem DnS.thenS{α:Type}{r:Rr α}{f:α->RS}(h:DnS K B EX Y H0 H F D (r.thenS f)):Dn r (fun a=>DnS K B EX Y H0 H F D (f a)) (fun e=>∀H',Z7 H0 H'->EX e H'):=by
 cases r with
 |ok a=>exact h
 |exc e=>exact h
 |bad=>exact h
theorem ZB:DS K EX Γ ⟨Γ,Γ1,Γ2,k⟩ ZkM (fun ρ=>.next ρ):=fun B H0 H σ ρ F D A d=>d σ H F Frm.refl A
theorem Zm{Γm:List Md}(h1:DS K EX Γ ⟨Γm,Y.b,Y.c,Y.r⟩ t g)(h2:DS K EX Γm Y u g'):DS K EX Γ Y (Znu t u) (fun ρ=>(g ρ).seq g'):=fun B H0 H σ ρ F D A d=>by
 refine h1 B H0 H σ ρ F _ A ?_
 dsimp only at d
 cases e:g ρ with
 |next ρ1 =>
  rw[e] at d
  exact fun σ' H' F' fr A'=>h2 B H0 H' σ' ρ1 F' D A' (DnS.shift fr d)
 |brk ρ1=>rw[e] at d;exact d
 |cont ρ1=>rw[e] at d;exact d
 |ret x=>rw[e] at d;exact d
 |exc q=>rw[e] at d;exact d
 |bad=>rw[e] at d;exact d
noncomputable def mle(m m':Md):Bool:=m==m' || m'==.U || (m'==.S&&m != .U) || (m'==.O&&m==.P)
noncomputable def Zh6:List Md->List Md->Bool
 |[],[]=>true
 |m::ms,m'::ms'=>mle m m'&&Zh6 ms ms'
 |_,_=>false
theorem ZdF:∀{Γ Γ':List Md},Zh6 Γ Γ'=true->Γ.length=Γ'.length/\∀i,mle (Γ.getD i .U) (Γ'.getD i .U)=true
 |[],[],_=>⟨rfl,fun i=>by simp[mle]⟩
 |m::ms,m'::ms',h=>by
  simp only[Zh6,Bool.and_eq_true] at h
  obtain⟨h1,h2⟩:=ZdF h.2
  refine⟨by simp[h1],fun i=>?_⟩
  cases i with
  |zero=>simpa using h.1
  |succ i=>simpa using h2 i
 |[],_::_,h=>by cases h
 |_::_,[],h=>by cases h
theorem Ag.weak(A:Ag K B H0 H σ Γ ρ F R)(h:Zh6 Γ Γ'=true):∃F',(∀i,∀a∈F' i,a∈F i)/\Ag K B H0 H σ Γ' ρ F' R:=by
 obtain⟨hl,hm⟩:=ZdF h
 let F':Nat->List Addr:=fun i=>if Γ.getD i .U=Γ'.getD i .U then F i else []
 have hF:∀i,∀a∈F' i,a∈F i:=fun i a ha=>by
  by_cases q:Γ.getD i .U=Γ'.getD i .U
  ·simp only[F',if_pos q] at ha;exact ha
  ·simp only[F',if_neg q] at ha;simp at ha
 have up:∀{a},NO B F R a->NO B F' R a:=fun {a} s=>⟨s.1,s.2.1,fun j z=>s.2.2 j (hF j a z)⟩
 refine⟨F',hF,A.same,A.own,fun i a ha=>A.young i a (hF i a ha),A.youngR,fun i a ha=>A.live i a (hF i a ha),A.liveR,fun i j hij a ha z=>A.disj i j hij a (hF i a ha) (hF j a z),fun i a ha=>A.disjR i a (hF i a ha),by rw[A.lenS,hl],by rw[A.lenR,hl],fun i=>?_⟩
 have sl:=A.slot i
 have hmi:=hm i
 by_cases q:Γ.getD i .U=Γ'.getD i .U
 ·simp only[F',if_pos q]
  rw[<- q]
  exact sl.mono (fun a vs s r=>⟨r,up s⟩) (fun a vs r=>r) fun a ha vs r=>r
 ·simp only[F',if_neg q]
  simp only[mle,Bool.or_eq_true,beq_iff_eq,Bool.and_eq_true,bne_iff_ne] at hmi
  rcases hmi with ((z|z)|z)|z
  ·exact absurd z q
  ·rw[z];exact rfl
  rotate_left
  ·rw[z.1]
   rw[z.2] at sl
   obtain⟨e,v,h1,h2,h3⟩:=sl
   exact⟨v,h1,h3.tree h2⟩
  ·rw[z.1]
   have own:∀a∈F i,NO B F' R a:=fun a ha=>⟨A.own a (A.young i a ha),A.disjR i a ha,fun j w=>by
    by_cases hj:j=i
    ·subst hj;simp only[F',if_neg q] at w;simp at w
    ·exact A.disj j i hj a (hF j a w) ha⟩
   cases hmm:Γ.getD i .U with
   |U=>exact absurd hmm z.2
   |P=>rw[hmm] at sl;obtain⟨e,v,h1,h2,h3⟩:=sl;exact⟨rfl,v,h1,h3.flatS h2⟩
   |S=>rw[hmm] at sl;obtain⟨e,v,h1,h2⟩:=sl;exact⟨rfl,v,h1,Rep.mono (fun a vs s r=>⟨r,up s⟩) (fun a vs r=>r) h2⟩
   |T =>
    rw[hmm] at sl
    obtain⟨a,vs,xs,h1,h2,h3,h4,h5⟩:=sl
    refine⟨rfl,_,h1, ?_⟩
    rw[h2]
    exact⟨a,vs,rfl,.inl ⟨.inl h3,own a (by rw[h5];simp)⟩,Reps.mono (fun a vs s r=>⟨r,up s⟩) (fun a vs r=>r) h4⟩
   |O=>rw[hmm] at sl;obtain⟨v,h1,h2⟩:=sl;exact⟨rfl,v,h1,h2.rep own⟩
theorem DS.out{Y':Tys}(h:DS K EX Γ Y t g)(hn:Zh6 Y.n Y'.n=true)(hb:Zh6 Y.b Y'.b=true)(hc:Zh6 Y.c Y'.c=true)(hr:Y.r=Y'.r):DS K EX Γ Y' t g:=fun B H0 H σ ρ F D A d=>by
 refine h B H0 H σ ρ F D A ?_
 cases e:g ρ with
 |next ρ1=>rw[e] at d;exact fun σ' H' F' fr A'=>let ⟨F2,f2,A2⟩:=A'.weak hn;d σ' H' F2 (fr.trans (Frm.of (Z7.refl _) f2)) A2
 |brk ρ1=>rw[e] at d;exact fun σ' H' F' fr A'=>let ⟨F2,f2,A2⟩:=A'.weak hb;d σ' H' F2 (fr.trans (Frm.of (Z7.refl _) f2)) A2
 |cont ρ1=>rw[e] at d;exact fun σ' H' F' fr A'=>let ⟨F2,f2,A2⟩:=A'.weak hc;d σ' H' F2 (fr.trans (Frm.of (Z7.refl _) f2)) A2
 |ret x=>rw[e] at d;exact fun v H' s r=>d v H' s (hr▸r)
 |exc q=>rw[e] at d;exact d
 |bad=>rw[e] at d;exact d
theorem ZcB{H1:Hp}{F1:Nat->List Addr}{i:Nat}{G:List Addr}(s1:Z7 H H1)(f1:∀i,∀a∈F1 i,a∈F i)(o:∀a∈G,H a=none\/∃i,a∈F i):Frm H F H1 (VN F1 i G):=fun a u h n=>by
 refine⟨s1 a u h,fun j z=>?_⟩
 by_cases q:j=i
 ·subst q
  rw[Zu] at z
  rcases o a z with w|⟨l,w⟩
  ·rw[h] at w;cases w
  ·exact n l w
 ·rw[Z5 q] at z;exact n j (f1 j a z)
theorem ZO{i:Nat}(he:DE K EX Γ Γ' .P te f)(hi:i<Γ'.length):DS K EX Γ ⟨Γ'.set i .P,Γ1,Γ2,k⟩ (Zk4 te (QP i)) (fun ρ=>(f ρ).thenS fun x=>.next (ρ.set i x)):=fun B H0 H σ ρ F D A d=>by
 refine he B H0 H σ ρ F [] _ A (d.thenS.imp (fun x _ d v H1 s1 r1=>?_) fun e q=>q)
 obtain⟨F1,f1,h1,h2,A1⟩:=r1
 exact d _ H1 _ (ZcB (G:=[]) s1 f1 (by simp)) (Ag.put (G:=[]) (R:=[]) A1 hi (by simp) ⟨rfl,v,rfl,h1,h2⟩)
theorem ZH{i:Nat}(he:DE K EX Γ Γ' .F te f)(hi:i<Γ'.length):DS K EX Γ ⟨Γ'.set i .O,Γ1,Γ2,k⟩ (Zk4 te (QP i)) (fun ρ=>(f ρ).thenS fun x=>.next (ρ.set i x)):=fun B H0 H σ ρ F D A d=>by
 refine he B H0 H σ ρ F [] _ A (d.thenS.imp (fun x _ d v H1 s1 r1=>?_) fun e q=>q)
 obtain⟨F1,f1,G,h1,h2,A1⟩:=r1
 exact d _ H1 _ (ZcB s1 f1 fun a ha=>(h2 a ha).2) (Ag.put (R:=[]) A1 hi (by simp) ⟨v,rfl,h1⟩)
theorem Zbm(he:DE K EX Γ Γ' .A te f):DS K EX Γ ⟨Γ',Γ1,Γ2,k⟩ (ZeV te) (fun ρ=>(f ρ).thenS fun _=>.next ρ):=fun B H0 H σ ρ F D A d=>by
 refine he B H0 H σ ρ F [] _ A (d.thenS.imp (fun x _ d v H1 s1 r1=>?_) fun e q=>q)
 obtain⟨F1,f1,h1,A1⟩:=r1
 exact d σ H1 F1 (Frm.of s1 f1) A1
theorem Z9(he:DE K EX Γ Γ' .P te f):DS K EX Γ ⟨Γ3,Γ1,Γ2,.P⟩ (Zmy te) (fun ρ=>(f ρ).thenS fun x=>.ret x):=fun B H0 H σ ρ F D A d=>by
 refine he B H0 H σ ρ F [] _ A (d.thenS.imp (fun x _ d v H1 s1 r1=>?_) fun e q=>q)
 obtain⟨F1,f1,h1,h2,A1⟩:=r1
 exact d v H1 A1.same ⟨h1,h2⟩
theorem ZV(he:DE K EX Γ Γ' .F te f):DS K EX Γ ⟨Γ3,Γ1,Γ2,.F⟩ (Zmy te) (fun ρ=>(f ρ).thenS fun x=>.ret x):=fun B H0 H σ ρ F D A d=>by
 refine he B H0 H σ ρ F [] _ A (d.thenS.imp (fun x _ d v H1 s1 r1=>?_) fun e q=>q)
 obtain⟨F1,f1,G,h1,h2,A1⟩:=r1
 exact d v H1 A1.same ⟨G,h1,fun a ha=>A1.youngR a (by simpa using ha)⟩
theorem Jo{c:TT}{fc:List PV->Rr Bool}(hc:DT K EX Γ Γ' c fc)(h1:DS K EX Γ' Y t g)(h2:DS K EX Γ' Y u g'):DS K EX Γ Y (ZmJ c t u) (fun ρ=>(fc ρ).thenS fun b=>if b=true then g ρ else g' ρ):=fun B H0 H σ ρ F D A d=>by
 refine hc B H0 H σ ρ F [] _ A (d.thenS.imp (fun b _ d H1 F1 s1 f1 A1=>?_) fun e q=>q)
 cases b with
 |true=>exact h1 B H0 H1 σ ρ F1 D A1 (DnS.shift (Frm.of s1 f1) d)
 |false=>exact h2 B H0 H1 σ ρ F1 D A1 (DnS.shift (Frm.of s1 f1) d)
theorem U5:DS K EX Γ Y Zi0 (fun _=>.bad):=fun B H0 H σ ρ F D A d=>d
theorem Zgl{i:Nat}{h:Int->Int->Int}(hm:Γ[i]?=some .P)(he:DE K EX Γ Γ .A te f):DS K EX Γ ⟨Γ,Γ1,Γ2,k⟩ (Znw i te (ipI h)) (fun ρ=>(f ρ).thenS fun y=>(oI (fun _ _=>true) (fun i j=>.int (h i j)) (gv i ρ) y).thenS fun z=>.next (ρ.set i z)):=fun B H0 H σ ρ F D A d=>by
 obtain⟨v,h1,h2,h3⟩:=A.getP hm
 refine⟨v,h1,he B H0 H σ ρ F [] _ A (d.thenS.imp (fun y _ d w H1 s1 r1=>?_) fun e q=>q)⟩
 obtain⟨F1,f1,p1,A1⟩:=r1
 have h3':=h3.same s1
 change Rep K H1 _ (gv i ρ) v at h3'
 generalize gv i ρ=gx at h3' d
 cases gx<;>cases y<;>first|(exact d.elim;done)|skip
 rename_i p q _
 cases h3';cases p1
 refine⟨p,q,rfl,rfl,d _ H1 _ (ZcB (i:=i) (G:=[]) s1 f1 (by simp)) ?_⟩
 have:=Ag.put (i:=i) (m:=.P) (x:=.int (h p q)) (v:=.int (h p q)) (G:=[]) (R:=[]) A1 (A.lt hm) (by simp) ⟨rfl,_,rfl,rfl,rfl⟩
 have e:Γ.set i .P=Γ:=by
  apply ZtL
  intro j
  by_cases q:i=j
  ·subst q;rw[Ztx (A.lt hm),hm]
  ·rw[Zt7 q]
 rw[e] at this
 exact this
variable {ti:TE}{fi:List PV->Rr PV}
theorem ZgY{i:Nat}{m:Md}(h:Γ[i]?=some m):Γ.set i m=Γ:=by
 apply ZtL
 intro j
 by_cases q:i=j
 ·subst q;rw[Ztx (ZsU.mp h).1,h]
 ·rw[Zt7 q]
theorem Ag.chgB{i:Nat}{m:Md}{a:Addr}{o':HO}(ho:Lvo o'){x':PV}{G G':List Addr}(A:Ag K B H0 H σ Γ ρ F (G++R))(hm:Γ[i]?=some m)(ha:a∈F i)(hG:∀b∈G',b∈F i\/b∈G)(hGR:∀b∈G,b ∉ R)(hs:UD K (upd H a o') (NO B (VN F i G') R) m x' σ[i]? G'):Ag K B H0 (upd H a o') σ Γ (ρ.set i x') (VN F i G') R:=by
 obtain⟨us,hH⟩:=A.live i a ha
 have hi:=A.lt hm
 have liveU:∀b,(∃us:LvO,H b=some us.1)->∃us:LvO,upd H a o' b=some us.1:=fun b ⟨us,q⟩=>by
  by_cases e:b=a
  ·exact⟨⟨o',ho⟩,by rw[e,Zv]⟩
  ·exact⟨us,by rw[Zo e];exact q⟩
 refine⟨A.same.upd (A.young i a ha),A.own,fun j b hb=>?_,fun b hb=>A.youngR b (ZsY _ hb),fun j b hb=>liveU b ?_,fun b hb=>liveU b (A.liveR b (ZsY _ hb)),fun j l hjl b hb z=>?_,fun j b hb z=>?_,A.lenS,by simp[A.lenR],fun j=>?_⟩
 ·by_cases q:j=i
  ·subst q;rw[Zu] at hb
   rcases hG b hb with z|z
   ·exact A.young j b z
   ·exact A.youngR b (Ztb _ z)
  ·rw[Z5 q] at hb;exact A.young j b hb
 ·by_cases q:j=i
  ·subst q;rw[Zu] at hb
   rcases hG b hb with z|z
   ·exact A.live j b z
   ·exact A.liveR b (Ztb _ z)
  ·rw[Z5 q] at hb;exact A.live j b hb
 ·by_cases q:j=i
  ·subst q
   rw[Zu] at hb
   rw[Z5 (Ne.symm hjl)] at z
   rcases hG b hb with w|w
   ·exact A.disj j l hjl b w z
   ·exact A.disjR l b z (Ztb _ w)
  ·rw[Z5 q] at hb
   by_cases q':l=i
   ·subst q'
    rw[Zu] at z
    rcases hG b z with w|w
    ·exact A.disj j l hjl b hb w
    ·exact A.disjR j b hb (Ztb _ w)
   ·rw[Z5 q'] at z;exact A.disj j l hjl b hb z
 ·by_cases q:j=i
  ·subst q;rw[Zu] at hb
   rcases hG b hb with w|w
   ·exact A.disjR j b w (ZsY _ z)
   ·exact hGR b w z
  ·rw[Z5 q] at hb;exact A.disjR j b hb (ZsY _ z)
 ·by_cases q:j=i
  ·subst q
   rw[Zu,ZsS,ZsS,hm,Ztx (by rw[A.lenR];exact hi)]
   exact hs
  ·rw[Z5 q,ZsS (l:=ρ.set _ _),Zt7 (Ne.symm q),<- ZsS]
   refine(A.slot j).mono (fun b us s r=>?_) (fun b us r=>Im.putL hH r) fun b hb us r=>?_
   ·have hne:b≠a:=fun z=>s.2.2 i (z▸ha)
    refine⟨?_,s.1,fun z=>s.2.1 (ZsY _ z),fun l z=>?_⟩
    ·rcases r with r|⟨o,r⟩
     ·exact .inl (by rw[Zo hne];exact r)
     ·exact .inr ⟨o,by rw[Zo hne];exact r⟩
    ·by_cases q':l=i
     ·subst q';rw[Zu] at z
      rcases hG b z with w|w
      ·exact s.2.2 l w
      ·exact s.2.1 (Ztb _ w)
     ·rw[Z5 q'] at z;exact s.2.2 l z
   ·have hne:b≠a:=fun z=>A.disj j i q b hb (z▸ha)
    rw[Zo hne];exact r
theorem Ag.chg{i:Nat}{m:Md}{a:Addr}{vs':List V}{x':PV}{G G':List Addr}(A:Ag K B H0 H σ Γ ρ F (G++R))(hm:Γ[i]?=some m)(ha:a∈F i)(hG:∀b∈G',b∈F i\/b∈G)(hGR:∀b∈G,b ∉ R)(hs:UD K (upd H a (.lst vs')) (NO B (VN F i G') R) m x' σ[i]? G'):Ag K B H0 (upd H a (.lst vs')) σ Γ (ρ.set i x') (VN F i G') R:=Ag.chgB (o':=.lst vs') trivial A hm ha hG hGR hs
theorem QR{H1:Hp}{F1:Nat->List Addr}{i:Nat}{a:Addr}{o:HO}{G':List Addr}(s1:Z7 H H1)(f1:∀i,∀b∈F1 i,b∈F i)(ha:a∈F1 i)(hG:∀b∈G',H b=none\/∃j,b∈F j):Frm H F (upd H1 a o) (VN F1 i G'):=fun b u h n=>by
 have hne:b≠a:=fun z=>n i (f1 i b (z▸ha))
 refine⟨by rw[Zo hne];exact s1 b u h,fun j z=>?_⟩
 by_cases q:j=i
 ·subst q;rw[Zu] at z
  rcases hG b z with w|⟨l,w⟩
  ·rw[h] at w;cases w
  ·exact n l w
 ·rw[Z5 q] at z;exact n j (f1 j b z)
theorem Trees.setP:∀{xs:List PV}{vs:List V}{G:List Addr}{j:Nat}{y:PV}{w:V},Trees K H xs vs G->ZW K H y w []->∃G',(∀a∈G',a∈G)/\Trees K H (xs.set j y) (vs.set j w) G'
 |[],_,_,_,_,_,h,_=>⟨[],by simp,by rw[h.1];exact⟨rfl,rfl⟩⟩
 |x::xs,_,_,0,y,w,h,h'=>by
  obtain⟨v,r,G1,G2,rfl,h1,h2,h3,rfl⟩:=h
  exact⟨G2,fun a ha=>by simp[ha],w,r,[],G2,rfl,h',h2,by simp,rfl⟩
 |x::xs,_,_,j+1,y,w,h,h'=>by
  obtain⟨v,r,G1,G2,rfl,h1,h2,h3,rfl⟩:=h
  obtain⟨G',h4,h5⟩:=Trees.setP (j:=j) h2 h'
  refine⟨G1++G',fun a ha=>?_,v,r.set j w,G1,G',rfl,h1,h5,fun a ha z=>h3 a ha (h4 a z),rfl⟩
  rcases Zta.mp ha with z|z
  ·simp[z]
  ·simp[h4 a z]
noncomputable def pSet(x i y:PV):Rr PV:=match x,i with
 |.lst xs,.int j=>match ixN xs.length j with
  |some n=>.ok (.lst (xs.set n y))
  |none=>.bad
 |_,_=>.bad
theorem Dn.pSet{x i y:PV}{ok:PV->Prop}{ex:PX->Prop}(d:Dn (pSet x i y) ok ex):∃xs j n,x=.lst xs/\i=.int j/\ixN xs.length j=some n/\ok (.lst (xs.set n y)):=by
 unfold L2.pSet at d
 split at d
 ·rename_i xs j
  cases e:ixN xs.length j with
  |none=>rw[e] at d;exact d.elim
  |some n=>rw[e] at d;exact⟨xs,j,n,rfl,rfl,e,d⟩
 ·exact d.elim
theorem QU{i:Nat}(hm:Γ2[i]?=some .O)(he:DE K EX Γ Γ2 .P te f)(hi:DE K EX Γ2 Γ2 .A ti fi) :
  DS K EX Γ ⟨Γ2,Γ1,Γ3,k⟩ (Zk4 te (ZnA (Qf i) ti Zjy)) (fun ρ=>(f ρ).thenS fun y=>(fi ρ).thenS fun j=>(pSet (gv i ρ) j y).thenS fun z=>.next (ρ.set i z)):=fun B H0 H σ ρ F D A d=>by
 refine he B H0 H σ ρ F [] _ A (d.thenS.imp (fun y _ d w H1 s1 r1=>?_) fun e q=>q)
 obtain⟨F1,f1,y1,y2,A1⟩:=r1
 obtain⟨v,h1,h2⟩:=A1.getO hm
 refine⟨v,h1,hi B H0 H1 σ ρ F1 [] _ A1 (d.thenS.imp (fun j _ d jv H2 s2 r2=>?_) fun e q=>q)⟩
 obtain⟨F2,f2,p2,A2⟩:=r2
 obtain⟨xs,jj,n,e1,rfl,e2,d⟩:=Dn.pSet d.thenS
 obtain⟨v',h1',h2'⟩:=A2.getO hm
 rw[h1] at h1';cases h1'
 rw[show ρ.getD i .non=.lst xs from e1] at h2'
 obtain⟨a,vs,G,rfl,hH,ht,hn,hF⟩:=h2'
 cases p2
 refine⟨a,vs,jj,n,rfl,rfl,hH,by rw[ht.length];exact e2, ?_⟩
 obtain⟨G',g1,g2⟩:=Trees.setP (j:=n) ht ((y2.same s2).tree y1)
 have haF:a∈F2 i:=by rw[hF];simp
 have hsub:∀b∈a::G',b∈F2 i:=fun b hb=>by
  rw[hF]
  rcases Zti.mp hb with rfl|hb
  ·simp
  ·simp[g1 b hb]
 refine d σ _ (VN F2 i (a::G')) (QR (s1.trans s2) (fun j b hb=>f1 j b (f2 j b hb)) haF fun b hb=>.inr ⟨i,f1 i b (f2 i b (hsub b hb))⟩) (Ag.chg (G:=[]) A2 hm haF (fun b hb=>.inl (hsub b hb)) (by simp) ?_)
 exact⟨_,h1,a,_,G',rfl,Zv,g2.put hH (fun z=>hn (g1 a z)),fun z=>hn (g1 a z),rfl⟩
noncomputable def pApp(x y:PV):Rr PV:=match x with
 |.lst xs=>if xs.length<1000000 then .ok (.lst (xs++[y])) else .bad
 |_=>.bad
theorem Dn.pApp{x y:PV}{ok:PV->Prop}{ex:PX->Prop}(d:Dn (pApp x y) ok ex):∃xs,x=.lst xs/\xs.length<1000000/\ok (.lst (xs++[y])):=by
 unfold L2.pApp at d
 split at d
 ·rename_i xs
  by_cases h:xs.length<1000000
  ·rw[if_pos h] at d;exact⟨xs,rfl,h,d⟩
  ·rw[if_neg h] at d;exact d.elim
 ·exact d.elim
theorem Dn.asL{x:PV}{ok:List PV->Prop}{ex:PX->Prop}(d:Dn (asL x) ok ex):∃xs,x=.lst xs/\ok xs:=by
 cases x with
 |lst xs=>exact⟨xs,rfl,d⟩
 |_=>exact d.elim
theorem UO{i:Nat}(hm:Γ[i]?=some .O)(hm2:Γ2[i]?=some .O)(he:DE K EX Γ Γ2 .F te f) :
  DS K EX Γ ⟨Γ2,Γ1,Γ3,k⟩ (ZeV (tBM K "list" Zcv (Qf i) (Vg te Zdg))) (fun ρ=>(asL (gv i ρ)).thenS fun xs=>(f ρ).thenS fun y=>(pApp (.lst xs) y).thenS fun z=>.next (ρ.set i z)):=fun B H0 H σ ρ F D A d=>by
 obtain⟨v,h1,h2⟩:=A.getO hm
 refine⟨v,h1, ?_⟩
 obtain⟨xs,e1,d⟩:=Dn.asL d.thenS
 rw[show ρ.getD i .non=.lst xs from e1] at h2
 obtain⟨a,vs,G,rfl,hH,ht,hn,hF⟩:=h2
 refine⟨.inl ⟨rfl,_,SqL.of hH⟩,he B H0 H σ ρ F [] _ A (d.thenS.imp (fun y _ d w H2 s2 r2=>?_) fun e q=>q)⟩
 obtain⟨F2,f2,G2,y1,y2,A2⟩:=r2
 obtain⟨xs',e2,hlen,d⟩:=Dn.pApp d.thenS
 cases e2
 obtain⟨v',h1',h2'⟩:=A2.getO hm2
 rw[h1] at h1';cases h1'
 rw[show ρ.getD i .non=.lst xs from e1] at h2'
 obtain⟨a',vs',G',e,hH',ht',hn',hF'⟩:=h2'
 cases e
 refine⟨a,vs',w,rfl,rfl,hH',by rw[ht'.length];exact Zto hlen (by decide), ?_⟩
 have haF:a∈F2 i:=by rw[hF'];simp
 have dj:∀b∈G',b ∉ G2:=fun b hb z=>A2.disjR i b (by rw[hF'];simp[hb]) (Ztb _ z)
 have na:a ∉ G2:=fun z=>A2.disjR i a haF (Ztb _ z)
 have hsub:∀b∈a::(G'++G2),b∈F2 i\/b∈G2:=fun b hb=>by
  rw[hF']
  rcases Zti.mp hb with rfl|hb
  ·simp
  ·rcases Zta.mp hb with z|z
   ·simp[z]
   ·exact .inr z
 have hna:a ∉ G'++G2:=fun z=>(Zta.mp z).elim hn' na
 refine d σ _ (VN F2 i (a::(G'++G2))) (QR s2 f2 haF fun b hb=>?_) (Ag.chg (G:=G2) (R:=[]) A2 hm2 haF hsub (by simp) ?_)
 ·rcases hsub b hb with z|z
  ·exact .inr ⟨i,f2 i b z⟩
  ·exact(y2 b z).2
 ·exact⟨_,h1,a,_,G'++G2,rfl,Zv,(Trees.append ht' (Trees.one y1) dj).put hH' hna,hna,rfl⟩
def DG(K:W.Frag)(EX:PX->Hp->Prop)(Γ Γ':List Md)(g:TG)(h:PV->List PV->Rr (List PV)):Prop:=
 ∀(B:Addr->Prop) (H0 H:Hp) (σ:St) (ρ:List PV) (F:Nat->List Addr) (v:V) (x:PV) (N:St->Hp->Prop),Ag K B H0 H σ Γ ρ F []->Rep K H (NO B F []) x v ->
  Dn (h x ρ) (fun ρ'=>∀σ' F',(∀i,∀a∈F' i,a∈F i)->Ag K B H0 H σ' Γ' ρ' F' []->N σ' H) (fun e=>∀H',Z7 H0 H'->EX e H')->g v σ H N
theorem ZnR{i:Nat}(hi:i<Γ.length):DG K EX Γ (Γ.set i .S) (QP i) (fun x ρ=>.ok (ρ.set i x)):=fun B H0 H σ ρ F v x N A r d =>
 d _ (VN F i []) Qo (Ag.put (G:=[]) (R:=[]) A hi (by simp) ⟨rfl,v,rfl,Rep.mono (fun a us s r=>⟨r,s.1,s.2.1,fun j z=>s.2.2 j (Qo j a z)⟩) (fun a us r=>r) r⟩)
theorem ZcH{i:Nat}(hi:i<Γ.length):DG K EX Γ (Γ.set i .P) (QP i) (fun x ρ=>(grd x).bind fun x=>.ok (ρ.set i x)):=fun B H0 H σ ρ F v x N A r d=>by
 unfold grd at d;dsimp only at d
 by_cases h:x.flat=true
 ·rw[if_pos h] at d
  exact d _ (VN F i []) Qo (Ag.put (G:=[]) (R:=[]) A hi (by simp) ⟨rfl,v,rfl,h,r.any⟩)
 ·rw[if_neg h] at d;exact d.elim
noncomputable def asT(n:Nat)(x:PV):Rr (List PV):=match x with
 |.tup xs=>if xs.length=n then .ok xs else .bad
 |_=>.bad
end
noncomputable def RS.turn:RS->(List PV->RS)->RS
 |.next ρ,f=>f ρ
 |.cont ρ,f=>f ρ
 |.brk ρ,_=>.next ρ
 |r,_=>r
noncomputable def US(b:PV->List PV->RS):List PV->List PV->RS
 |[],ρ=>.next ρ
 |x::xs,ρ=>(b x ρ).turn (US b xs)
noncomputable def Va(c:List PV->Rr Bool)(b:List PV->RS):Nat->List PV->Option RS
 |0,_=>none
 |n+1,ρ=>match c ρ with
  |.ok true=>match b ρ with
   |.next ρ'=>Va c b n ρ'
   |.cont ρ'=>Va c b n ρ'
   |.brk ρ'=>some (.next ρ')
   |r=>some r
  |.ok false=>some (.next ρ)
  |.exc e=>some (.exc e)
  |.bad=>some .bad
open Classical in
noncomputable def Vs(c:List PV->Rr Bool)(b:List PV->RS)(ρ:List PV):RS:=if h:∃n r,Va c b n ρ=some r then h.choose_spec.choose else .bad
theorem VG{c:List PV->Rr Bool}{b:List PV->RS}:∀{n m:Nat}{ρ:List PV}{r:RS},n<=m->Va c b n ρ=some r->Va c b m ρ=some r
 |0,_,_,_,_,h=>by cases h
 |n+1,0,_,_,hl,_=>by omega
 |n+1,m+1,ρ,r,hl,h=>by
  unfold Va at h ⊢
  cases hc:c ρ with
  |ok b' =>
   cases b' with
   |true =>
    rw[hc] at h
    cases hb:b ρ with
    |next ρ'=>rw[hb] at h;exact VG (by omega) h
    |cont ρ'=>rw[hb] at h;exact VG (by omega) h
    |brk ρ'=>rw[hb] at h;exact h
    |ret x=>rw[hb] at h;exact h
    |exc e=>rw[hb] at h;exact h
    |bad=>rw[hb] at h;exact h
   |false=>rw[hc] at h;exact h
  |exc e=>rw[hc] at h;exact h
  |bad=>rw[hc] at h;exact h
theorem ZfW{c:List PV->Rr Bool}{b:List PV->RS}{n m:Nat}{ρ:List PV}{r r':RS}(h:Va c b n ρ=some r)(h':Va c b m ρ=some r'):r=r':=by
 rcases Nat.le_total n m with q|q
 ·have:=VG q h;rw[h'] at this;exact(Option.some.inj this).symm
 ·have:=VG q h';rw[h] at this;exact Option.some.inj this
theorem Qw{c:List PV->Rr Bool}{b:List PV->RS}{n:Nat}{ρ:List PV}{r:RS}(h:Va c b n ρ=some r):Vs c b ρ=r:=by
 unfold Vs
 have hx:∃n r,Va c b n ρ=some r:=⟨n,r,h⟩
 rw[dif_pos hx]
 exact ZfW hx.choose_spec.choose_spec h
section
variable {K:W.Frag}{B:Addr->Prop}{EX:PX->Hp->Prop}{H0 H H':Hp}{σ:St}{Γ Γ1 Γ2 Γ3 Γl Γt:List Md}{ρ:List PV}{F F':Nat->List Addr}{k:Kd}{x:PV}{v:V}{te ti:TE}{f fc fe:List PV->Rr PV}{t u:TS}{g:List PV->RS}{D:Zis}
theorem JA{wi:TI}{gt:TG}{fi:List PV->Rr (List PV)}{h:PV->List PV->Rr (List PV)}(hi:DI K EX Γ Γ1 wi fi)(hw:Zh6 Γ1 Γl=true)(hg:DG K EX Γl Γt gt h)(hb:DS K EX Γt ⟨Γl,Γl,Γl,k⟩ t g) :
  DS K EX Γ ⟨Γl,Γ2,Γ3,k⟩ (ZmK wi gt t) (fun ρ=>(fi ρ).thenS fun xs=>US (fun x ρ=>(h x ρ).thenS g) xs ρ):=fun B H0 H σ ρ F D A d=>by
 refine hi B H0 H σ ρ F [] _ A (d.thenS.imp (fun xs _ d J H1 F1 s1 f1 A1 it=>?_) fun e q=>q)
 obtain⟨Fl,fl,Al⟩:=A1.weak hw
 have fr0:Frm H F H1 Fl:=Frm.of s1 fun j a ha=>f1 j a (fl j a ha)
 have fr1:Frm H1 F1 H1 Fl:=Frm.of (Z7.refl _) fl
 refine⟨fun i m σ' H'=>∃ρ' F',m=xs.length-i/\i<=xs.length/\Frm H1 F1 H' F'/\Ag K B H0 H' σ' Γl ρ' F' []/\DnS K B EX ⟨Γl,Γ2,Γ3,k⟩ H0 H' F' D (US (fun x ρ=>(h x ρ).thenS g) (xs.drop i) ρ'),
  ⟨xs.length,ρ,Fl,by simp,ZtB _,fr1,Al,by simpa using DnS.shift fr0 d⟩, ?_⟩
 rintro i m σ' H' ⟨ρ',F',rfl,hi',fr,A',dn⟩
 have itp:=it H' F' fr i
 cases hx:xs[i]? with
 |none =>
  refine .inl ⟨itp.2 hx, ?_⟩
  have hd:xs.drop i=[]:=ZuI (ZtI.mp hx)
  rw[hd] at dn
  exact dn σ' H' F' Frm.refl A'
 |some x =>
  have hlt:i<xs.length:=(ZsU.mp hx).1
  obtain⟨go,yl⟩:=itp.1 x hx
  have hdx:xs.drop i=x::xs.drop (i+1):=by
   rw[Ztq hlt]
   rw[ZsT hlt] at hx;cases hx;rfl
  rw[hdx] at dn
  simp only[US] at dn
  refine .inr ⟨go,fun σ2 H2=>∃ρ2 F2,Frm H1 F1 H2 F2/\Ag K B H0 H2 σ2 Γl ρ2 F2 []/\DnS K B EX ⟨Γl,Γ2,Γ3,k⟩ H0 H2 F2 D (US (fun x ρ=>(h x ρ).thenS g) (xs.drop (i+1)) ρ2),
   fun σ2 H2 ⟨ρ2,F2,a1,a2,a3⟩=>⟨xs.length-(i+1),by omega,ρ2,F2,rfl,hlt,a1,a2,a3⟩,fun v H3 y=>?_⟩
  obtain⟨s3,rx⟩:=yl v H3 y
  have fr3:Frm H' F' H3 F':=Frm.of s3 fun _ _ h=>h
  refine hg B H0 H3 σ' ρ' F' v x _ (A'.grow s3) (Rep.mono (fun a us s r=>⟨r,s.1⟩) (fun a us r=>r) rx) ?_
  cases e:h x ρ' with
  |ok ρt =>
   rw[e] at dn
   refine fun σt Ft ft At=>hb B H0 H3 σt ρt Ft _ At ?_
   have frt:Frm H' F' H3 Ft:=Frm.of s3 ft
   simp only[Rr.thenS_ok] at dn
   cases e2:g ρt with
   |next ρ2=>rw[e2] at dn;exact fun σ2 H2 F2 fr2 A2=>⟨ρ2,F2,fr.trans (frt.trans fr2),A2,DnS.shift (frt.trans fr2) dn⟩
   |cont ρ2=>rw[e2] at dn;exact fun σ2 H2 F2 fr2 A2=>⟨ρ2,F2,fr.trans (frt.trans fr2),A2,DnS.shift (frt.trans fr2) dn⟩
   |brk ρ2=>rw[e2] at dn;exact fun σ2 H2 F2 fr2 A2=>dn σ2 H2 F2 (frt.trans fr2) A2
   |ret y=>rw[e2] at dn;exact dn
   |exc q=>rw[e2] at dn;exact dn
   |bad=>rw[e2] at dn;exact dn
  |exc q=>rw[e] at dn;exact dn
  |bad=>rw[e] at dn;exact dn
theorem Qr{c:TT}{fc:List PV->Rr Bool}(hc:DT K EX Γ Γ c fc)(hb:DS K EX Γ ⟨Γ,Γ,Γ,k⟩ t g):DS K EX Γ ⟨Γ,Γ2,Γ3,k⟩ (Ziz c t) (fun ρ=>Vs fc g ρ):=fun B H0 H σ ρ F D A d=>by
 dsimp only at d
 have ex:∃n,Va fc g n ρ=some (Vs fc g ρ):=by
  by_cases hx:∃n r,Va fc g n ρ=some r
  ·obtain⟨n,r,e⟩:=hx
   exact⟨n,by rw[Qw e];exact e⟩
  ·unfold Vs at d
   rw[dif_neg hx] at d
   exact d.elim
 obtain⟨n0,e0⟩:=ex
 generalize hr:Vs fc g ρ=r at e0 d
 refine⟨fun m σ' H'=>∃ρ' F',Frm H F H' F'/\Ag K B H0 H' σ' Γ ρ' F' []/\Va fc g m ρ'=some r,⟨n0,ρ,F,Frm.refl,A,e0⟩, ?_⟩
 rintro m σ' H' ⟨ρ',F',fr,A',e⟩
 cases m with
 |zero=>cases e
 |succ m =>
  unfold Va at e
  refine hc B H0 H' σ' ρ' F' [] _ A' ?_
  cases e1:fc ρ' with
  |ok b =>
   rw[e1] at e
   refine fun H2 F2 s2 f2 A2=>?_
   have fr2:Frm H' F' H2 F2:=Frm.of s2 f2
   cases b with
   |true =>
    refine⟨fun σ3 H3=>∃ρ3 F3,Frm H F H3 F3/\Ag K B H0 H3 σ3 Γ ρ3 F3 []/\Va fc g m ρ3=some r,fun σ3 H3 h=>⟨m,Zu7 _,h⟩, ?_⟩
    refine hb B H0 H2 σ' ρ' F2 _ A2 ?_
    cases e2:g ρ' with
    |next ρ2=>rw[e2] at e;exact fun σ3 H3 F3 fr3 A3=>⟨ρ2,F3,fr.trans (fr2.trans fr3),A3,e⟩
    |cont ρ2=>rw[e2] at e;exact fun σ3 H3 F3 fr3 A3=>⟨ρ2,F3,fr.trans (fr2.trans fr3),A3,e⟩
    |brk ρ2 =>
     rw[e2] at e
     have e':RS.next ρ2=r:=Option.some.inj e
     rw[<- e'] at d
     exact fun σ3 H3 F3 fr3 A3=>d σ3 H3 F3 (fr.trans (fr2.trans fr3)) A3
    |ret y =>
     rw[e2] at e
     have e':RS.ret y=r:=Option.some.inj e
     rw[<- e'] at d
     exact d
    |exc q =>
     rw[e2] at e
     have e':RS.exc q=r:=Option.some.inj e
     rw[<- e'] at d
     exact d
    |bad =>
     rw[e2] at e
     have e':RS.bad=r:=Option.some.inj e
     rw[<- e'] at d
     exact d
   |false =>
    have e':RS.next ρ'=r:=Option.some.inj e
    rw[<- e'] at d
    exact d σ' H2 F2 (fr.trans fr2) A2
  |exc q =>
   rw[e1] at e
   have e':RS.exc q=r:=Option.some.inj e
   rw[<- e'] at d
   exact d
  |bad =>
   rw[e1] at e
   have e':RS.bad=r:=Option.some.inj e
   rw[<- e'] at d
   exact d
theorem Trees.get:∀{xs:List PV}{vs:List V}{G:List Addr}{j:Nat}{x:PV},Trees K H xs vs G->xs[j]?=some x->∃v G',vs[j]?=some v/\ZW K H x v G'/\∀a∈G',a∈G
 |[],_,_,_,_,_,e=>by simp at e
 |y::xs,_,_,0,x,h,e=>by
  obtain⟨v,r,G1,G2,rfl,h1,h2,h3,rfl⟩:=h
  simp at e;subst e
  exact⟨v,G1,rfl,h1,fun a ha=>by simp[ha]⟩
 |y::xs,_,_,j+1,x,h,e=>by
  obtain⟨v,r,G1,G2,rfl,h1,h2,h3,rfl⟩:=h
  obtain⟨w,G',e1,e2,e3⟩:=Trees.get (j:=j) h2 (by simpa using e)
  exact⟨w,G',by simpa using e1,e2,fun a ha=>by simp[e3 a ha]⟩
theorem ZgQ{xs:List PV}{vs:List V}{G:List Addr}{i:Int}{z:PV}(h:Trees K H xs vs G)(e:atI xs i=some z):∃u G',atI vs i=some u/\ZW K H z u G'/\∀a∈G',a∈G:=by
 unfold atI at e ⊢
 rw[h.length]
 cases q:ixN xs.length i with
 |none=>rw[q] at e;cases e
 |some j=>rw[q] at e;exact h.get e
theorem U6{i:Nat}{h:Int->Int->Int}(hm:Γ2[i]?=some .O)(hmΓ:Γ[i]?=some .O)(hi:DE K EX Γ Γ2 .A ti f)(he:DE K EX Γ2 Γ2 .A te fe) :
  DS K EX Γ ⟨Γ2,Γ1,Γ3,k⟩ (ZkR (Qf i) ti te (ZkZ K) (ipI h) Zjy) (fun ρ=>(f ρ).thenS fun j=>(pIx (gv i ρ) j).thenS fun z=>(asL (gv i ρ)).thenS fun _=>(fe ρ).thenS fun y=>(oI (fun _ _=>true) (fun a b=>.int (h a b)) z y).thenS fun w=>(pSet (gv i ρ) j w).thenS fun z=>.next (ρ.set i z)):=fun B H0 H σ ρ F D A d=>by
 obtain⟨v,h1,h2⟩:=A.getO hmΓ
 refine⟨v,h1,hi B H0 H σ ρ F [] _ A (d.thenS.imp (fun j _ d jv H1 s1 r1=>?_) fun e q=>q)⟩
 obtain⟨F1,f1,p1,A1⟩:=r1
 obtain⟨z,ez,d⟩:=Dn.pIx d.thenS
 obtain⟨xs,ex,d⟩:=Dn.asL d.thenS
 rw[ex] at ez
 obtain⟨v',h1',h2'⟩:=A1.getO hm
 rw[h1] at h1';cases h1'
 rw[show ρ.getD i .non=.lst xs from ex] at h2'
 obtain⟨a,vs,G,rfl,hH,ht,hn,hF⟩:=h2'
 obtain⟨j,rfl⟩:∃j',j=PV.int j':=by cases j<;>first|exact⟨_,rfl⟩|(simp only[pIx] at ez;cases ez;done)
 cases p1
 simp only[pIx] at ez
 cases e1:atI xs j with
 |none=>rw[e1] at ez;cases ez
 |some z' =>
  rw[e1] at ez;cases ez
  obtain⟨u,G2,e2,e3,e4⟩:=ZgQ ht e1
  refine⟨a,vs,j,u,rfl,rfl,SqL.of hH,e2,he B H0 H1 σ ρ F1 [] _ A1 (d.thenS.imp (fun y _ d w H2 s2 r2=>?_) fun e q=>q)⟩
  obtain⟨F2,f2,p2,A2⟩:=r2
  obtain⟨zi,yi,rfl,rfl⟩:∃zi yi,z=PV.int zi/\y=PV.int yi:=by cases z<;>cases y<;>first|exact⟨_,_,rfl,rfl⟩|(exact d.elim;done)
  obtain⟨e5,_⟩:=e3
  subst e5
  cases p2
  refine⟨zi,yi,rfl,rfl, ?_⟩
  obtain⟨xs',jj,n,ex',e6,e7,d⟩:=Dn.pSet (show DnS _ _ _ _ _ _ _ _ ((pSet (gv i ρ) (.int j) (.int (h zi yi))).thenS _) from d).thenS
  cases e6
  rw[ex] at ex';cases ex'
  obtain⟨v',h1',h2'⟩:=A2.getO hm
  rw[h1] at h1';cases h1'
  rw[show ρ.getD i .non=.lst xs from ex] at h2'
  obtain⟨a',vs',G',e,hH',ht',hn',hF'⟩:=h2'
  cases e
  refine⟨a,vs',j,n,rfl,rfl,hH',by rw[ht'.length];exact e7, ?_⟩
  obtain⟨G'',g1,g2⟩:=Trees.setP (j:=n) (y:=.int (h zi yi)) (w:=.int (h zi yi)) ht' ⟨rfl,rfl⟩
  have haF:a∈F2 i:=by rw[hF'];simp
  have hsub:∀b∈a::G'',b∈F2 i:=fun b hb=>by
   rw[hF']
   rcases Zti.mp hb with rfl|hb
   ·simp
   ·simp[g1 b hb]
  refine d σ _ (VN F2 i (a::G'')) (QR (s1.trans s2) (fun j b hb=>f1 j b (f2 j b hb)) haF fun b hb=>.inr ⟨i,f1 i b (f2 i b (hsub b hb))⟩) (Ag.chg (G:=[]) A2 hm haF (fun b hb=>.inl (hsub b hb)) (by simp) ?_)
  exact⟨_,h1,a,_,G'',rfl,Zv,g2.put hH' (fun z=>hn' (g1 a z)),fun z=>hn' (g1 a z),rfl⟩
end
noncomputable def RS.out:RS->Rr PV
 |.next _=>.ok .non
 |.ret x=>.ok x
 |.exc e=>.exc e
 |.brk _=>.bad
 |.cont _=>.bad
 |.bad=>.bad
@[simp] theorem RS.out_next{ρ:List PV}:(RS.next ρ).out=.ok .non:=rfl
@[simp] theorem RS.out_ret{x:PV}:(RS.ret x).out=.ok x:=rfl
def Ref(r r':Rr PV):Prop:=r=.bad\/r=r'
structure Pm where
 α:Type
 enc:α->List PV
 pre:α->Prop
 out:α->Rr PV
open Classical in
noncomputable def Pm.fn(m:Pm)(xs:List PV):Rr PV:=if h:∃a,m.enc a=xs/\m.pre a then m.out h.choose else .bad
theorem Pm.fn_eq(m:Pm)(a:m.α)(h:m.pre a)(inj:∀b,m.enc b=m.enc a->m.out b=m.out a):m.fn (m.enc a)=m.out a:=by
 unfold Pm.fn
 have hx:∃b,m.enc b=m.enc a/\m.pre b:=⟨a,rfl,h⟩
 rw[dif_pos hx]
 exact inj _ hx.choose_spec.1
theorem Pm.ref(m:Pm){g:List PV->Rr PV}(h:∀a,m.pre a->g (m.enc a)=m.out a)(xs:List PV):Ref (m.fn xs) (g xs):=by
 unfold Pm.fn
 by_cases hx:∃a,m.enc a=xs/\m.pre a
 ·rw[dif_pos hx]
  have h2:=hx.choose_spec
  right
  have:=h _ h2.2
  rw[h2.1] at this
  exact this.symm
 ·rw[dif_neg hx];exact .inl rfl
section
variable {K:W.Frag}{B:Addr->Prop}{H:Hp}
theorem Ag.init{xs:List PV}{vs:List V}{n:Nat}(h:Reps K H B xs vs):Ag K (fun a=>B a\/H a=none) H H (vs.map some++List.replicate n none) (List.replicate xs.length .S++List.replicate n .U) (xs++List.replicate n .non) (fun _=>[]) []:=by
 refine⟨Z7.refl _,fun a h=>.inr h,by simp,by simp,by simp,by simp,by simp,by simp,by simp[h.length],by simp,fun i=>?_⟩
 by_cases hi:i<xs.length
 ·have e1:(List.replicate xs.length Md.S++List.replicate n Md.U).getD i .U=.S:=by
   rw[ZsS,Ztl (by simpa using hi),ZuS hi];rfl
  have e2:(xs++List.replicate n PV.non).getD i .non=xs[i]:=by
   rw[ZsS,Ztl hi,ZsT hi];rfl
  rw[e1,e2]
  obtain⟨v,h1,h2⟩:=h.get (ZsT hi)
  refine⟨rfl,v, ?_,Rep.mono (fun a us s r=>⟨r,.inl s,by simp,by simp⟩) (fun a us r=>r) h2⟩
  rw[Ztl (by rw[ZsV,h.length];exact hi),ZsZ,h1];rfl
 ·have e1:(List.replicate xs.length Md.S++List.replicate n Md.U).getD i .U=.U:=by
   rw[ZsS,Zth (by simpa using hi)]
   by_cases q:i-(List.replicate xs.length Md.S).length<n
   ·rw[ZuS q];rfl
   ·rw[Ztt (by simpa using q)];rfl
  rw[e1]
  exact rfl
end
section
variable {P:Program}{w:World}{K:W.Frag}{mg:Str->Option Value}{base:Heap}
theorem Fun.okP{x qual:Str}{st:Stmt}{f:Addr}{fd:FuncData}{N ps:List Str}{k n l:Nat}{kd:Kd}{m:List PV->Rr PV}(F:Fun K x qual st f fd)(S:Zx N ps (Zl st))(hn:ps.length=n)(hl:N.length-n=l)(hbody:∀(cdv:Value) (A:Around) (outer:List Env) (s:Shared) (H:Hp) (E:XK),VU k (A.deeper (envOfC qual (Zl st) s.heap.objs.size f cdv)) ->
   ∃t g Y,Y.r=kd/\PSs (ZgL CX0 P w K mg base N qual (Zl st) f cdv A outer s H E).nox (JO st) t/\DS K X0 (List.replicate n .S++List.replicate l .U) Y t g/\∀xs,Ref (m xs) (g (xs++List.replicate l .non)).out)(hkN:kd≠.N:=by nofun)(hkM:kd≠.M:=by nofun) :
  J1 P w K mg base CX0 (k+1) f fd ps (spF K n kd W0 m):=by
 refine F.ok S (fun vs H Q E h=>?_) (fun cdv A outer s H vs Q E hr h=>?_)
 ·obtain⟨B,xs,h1,h2,_⟩:=h
  rw[h1.length,h2,hn]
 ·obtain⟨B,xs,h1,h2,dn⟩:=h
  obtain⟨t,g,Y,hY,ht,hd,href⟩:=hbody cdv A outer s H E hr
  refine⟨t,ht, ?_⟩
  have A0:=Ag.init (n:=l) h1
  have est:VL N vs=vs.map some++List.replicate l none:=by
   unfold VL
   rw[h1.length,h2,hl]
  rw[est]
  rw[h2] at A0
  refine hd _ H H _ _ _ _ A0 ?_
  have hdn:Dn (g (xs++List.replicate l .non)).out (fun x=>∀v H',Z7 H H'->ZgN K B H kd x v H'->Q v H') (fun e=>∀H',Z7 H H'->W0 e E H'):=by
   rcases href xs with e|e
   ·rw[e] at dn;exact dn.elim
   ·rw[<- e];exact dn
  have retK:∀{x v H'},ZgN K (fun a=>B a\/H a=none) H kd x v H'->ZgN K B H kd x v H':=fun {x v H'} h=>by
   cases kd with
   |P=>exact h
   |F=>exact h
   |T=>exact Rep.mono (fun a us s r=>⟨r,s.elim id .inr⟩) (fun a us r=>r) h
   |Z=>exact Rep.mono (fun a us s r=>⟨r,s.elim id .inr⟩) (fun a us r=>r) h
   |A=>exact Rep.mono (fun a us s r=>⟨r,s.elim id .inr⟩) (fun a us r=>r) h
   |N=>exact h
   |M=>exact h
  cases e:g (xs++List.replicate l .non) with
  |next ρ =>
   rw[e] at hdn
   refine fun σ' H' F' fr A'=>hdn .non H' A'.same ?_
   cases kd with
   |P=>exact⟨rfl,rfl⟩
   |F=>exact⟨[],⟨rfl,rfl⟩,by simp⟩
   |T=>exact rfl
   |Z=>exact rfl
   |A=>exact rfl
   |N=>exact absurd rfl hkN
   |M=>exact absurd rfl hkM
  |ret x=>rw[e] at hdn;exact fun v H' s r=>hdn v H' s (retK (hY▸r))
  |exc q=>rw[e] at hdn;exact fun H' s=>hdn H' s
  |brk ρ=>rw[e] at hdn;exact hdn.elim
  |cont ρ=>rw[e] at hdn;exact hdn.elim
  |bad=>rw[e] at hdn;exact hdn.elim
end
section
variable {K:W.Frag}{n:Nat}{m:List PV->Rr PV}{e:Expr}{ta:TA}{Γ Γ':List Md}{fa:List PV->Rr (List PV)}
theorem Zai(hn:Len fa n)(ha:DAA K X0 Γ Γ' ta fa):DE K X0 Γ Γ' .F (UQ (spF K n .F W0 m) ta) (fun ρ=>(fa ρ).bind m):=Zig (E:=E0) (W:=W0) (fun σ H Q h=>h) (fun e H' h=>h) hn ha
theorem QX(hn:Len fa n)(ha:DAA K X0 Γ Γ' ta fa):DE K X0 Γ Γ' .P (UQ (spF K n .P W0 m) ta) (fun ρ=>(fa ρ).bind m):=Zif (E:=E0) (W:=W0) (fun σ H Q h=>h) (fun e H' h=>h) hn ha
end
theorem Zes{K:W.Frag}{H:Hp}{a:Addr}{ns:List Int}{m:List PV->Rr PV}(hm:m [.lst (ns.map PV.int)]=.ok (.bl true))(hS:SqL K H a (ns.map V.int)):spF K 1 .P W0 m [.ref a] H (fun v _=>v=.bl true) fun _ _ _=>False:=by
 refine⟨fun _=>True,[.lst (ns.map PV.int)],Reps.one ⟨a,_,rfl,hS.elim (fun h=>.inl ⟨h,trivial⟩) .inr,ZbP ns⟩,rfl, ?_⟩
 rw[hm]
 exact fun v H' _ r=>r.2
section
theorem Zmo:bootBuiltins "any"=some (.builtin "any"):=by decide +kernel
end
def RS.good(r:RS)(I:List PV->Prop):Prop:=match r with
 |.next ρ=>I ρ
 |.cont ρ=>I ρ
 |_=>False
theorem RS.good_ex{r:RS}{I:List PV->Prop}(h:r.good I):∃ρ',(r=.next ρ'\/r=.cont ρ')/\I ρ':=by
 cases r with
 |next ρ=>exact⟨ρ,.inl rfl,h⟩
 |cont ρ=>exact⟨ρ,.inr rfl,h⟩
 |ret x=>exact h.elim
 |brk ρ=>exact h.elim
 |exc e=>exact h.elim
 |bad=>exact h.elim
theorem ZdK{b:PV->List PV->RS}{xs:List PV}{ρ:List PV}(I:Nat->List PV->Prop)(h0:I 0 ρ)(h:∀i x ρ,xs[i]?=some x->I i ρ->(b x ρ).good (I (i+1))) :
  ∃ρ',US b xs ρ=.next ρ'/\I xs.length ρ':=by
 have key:∀n i ρ,xs.length=i+n->I i ρ->∃ρ',US b (xs.drop i) ρ=.next ρ'/\I xs.length ρ':=by
  intro n
  induction n with
  |zero =>
   intro i ρ hl hI
   rw[ZuI (by omega)]
   exact⟨ρ,rfl,by rw[hl];exact hI⟩
  |succ n ih =>
   intro i ρ hl hI
   have hi:i<xs.length:=by omega
   rw[Ztq hi]
   obtain⟨ρ',h1,h2⟩:=RS.good_ex (h i _ ρ (ZsT hi) hI)
   obtain⟨ρ2,h3,h4⟩:=ih (i+1) ρ' (by omega) h2
   refine⟨ρ2, ?_,h4⟩
   simp only[US]
   rcases h1 with h1|h1<;>(rw[h1];exact h3)
 exact key xs.length 0 ρ (by omega) h0
theorem Jy{lo:Int}{n i:Nat}{x:PV}(h:(Zck lo n)[i]?=some x):i<n/\x=.int (lo+i):=by
 unfold Zck at h
 rw[ZsZ] at h
 by_cases hi:i<n
 ·rw[ZtO hi] at h;cases h;exact⟨hi,rfl⟩
 ·rw[Ztt (by simpa using hi)] at h;cases h
@[simp] theorem ZS{lo:Int}{n:Nat}:(Zck lo n).length=n:=by simp[Zck]
theorem Zc7{α β:Type}{f:α->Rr β}{g:α->β}:∀{xs:List α},(∀x∈xs,f x=.ok (g x))->Zba f xs=.ok (xs.map g)
 |[],_=>rfl
 |x::xs,h=>by
  simp only[Zba,h x (by simp),Rr.bind_ok,Zc7 (xs:=xs) fun y hy=>h y (by simp[hy]),Zte]
@[simp] theorem Zga{x:PV}{ρ:List PV}:gv 0 (x::ρ)=x:=rfl
@[simp] theorem Zgb{x:PV}{ρ:List PV}{i:Nat}:gv (i+1) (x::ρ)=gv i ρ:=rfl
theorem Qm{ns:List Int}{k:Int}(h0:0<=k)(h1:k<ns.length):pIx (.lst (ns.map PV.int)) (.int k)=.ok (.int (ns.getD k.toNat 0)):=by
 have:atI (ns.map PV.int) k=some (.int (ns.getD k.toNat 0)):=by
  unfold atI
  rw[ZsV,ZbN h0 h1]
  show (ns.map PV.int)[k.toNat]?=_
  rw[ZsZ,ZsT (by omega),ZsS,ZsT (by omega)]
  rfl
 simp only[pIx,this]
theorem Q9{ns:List Int}{k y:Int}(h0:0<=k)(h1:k<ns.length):pSet (.lst (ns.map PV.int)) (.int k) (.int y)=.ok (.lst ((ns.set k.toNat y).map PV.int)):=by
 simp only[pSet,ZsV,ZbN h0 h1,List.map_set]
theorem ZbH{ns:List Int}{y:Int}(h:ns.length<1000000):pApp (.lst (ns.map PV.int)) (.int y)=.ok (.lst ((ns++[y]).map PV.int)):=by
 simp only[pApp,ZsV,if_pos h,Zt8,Zte,Zux]
theorem V3{ns:List Int}(h:ns.length<=1000000):newF (ns.map PV.int)=.ok (.lst (ns.map PV.int)):=by
 unfold newF
 rw[PV.flats_ints,ZsV,decide_eq_true h];rfl
theorem QY(ns:List Int):PV.dats (ns.map PV.int)=ns.map PyData.int:=by
 induction ns with
 |nil=>rfl
 |cons n ns ih=>simp[PV.dats,PV.dat,ih]
theorem ZcQ(ns:List Int):PyData.canLayAll0 (ns.map PyData.int)=true:=by
 induction ns with
 |nil=>rfl
 |cons n ns ih=>simp[PyData.canLayAll0,PyData.canLay0,ih]
theorem Zf9(i:Int):okD (.int i)=true:=by simp[okD,PV.noX,PV.dat,PyData.canLay0,PyData.depth]
theorem ZdB(ns:List Int):okD (.lst (ns.map PV.int))=true:=by
 have hd:PyData.depthAll (ns.map PyData.int)=0:=by
  induction ns with
  |nil=>rfl
  |cons n ns ih=>simp[PyData.depthAll,PyData.depth,ih]
 simp[okD,PV.noX,PV.noXs_ints,PV.dat,QY,PyData.canLay0,ZcQ,PyData.depth,hd]
theorem Ud:∀(ns ms:List Int),PyData.eqvAll (ns.map PyData.int) (ms.map PyData.int)=decide (ns=ms)
 |[],[]=>by simp[PyData.eqvAll]
 |[],m::ms=>by simp[PyData.eqvAll]
 |n::ns,[]=>by simp[PyData.eqvAll]
 |n::ns,m::ms=>by
  simp only[Zte,PyData.eqvAll,PyData.eqv,Ud ns ms,List.cons.injEq,Bool.decide_and]
  rw[Bool.beq_eq_decide_eq]
theorem Zd7{g:Bool->Bool}(ns ms:List Int):Zb1 g (.lst (ns.map PV.int)) (.lst (ms.map PV.int))=.ok (.bl (g (decide (ns=ms)))):=by
 unfold Zb1
 rw[ZdB,ZdB]
 simp only[Bool.and_self,if_true,PV.dat,QY,PyData.eqv,Ud]
theorem ZjH{g:Bool->Bool}(i j:Int):Zb1 g (.int i) (.int j)=.ok (.bl (g (decide (i=j)))):=by
 unfold Zb1
 rw[Zf9,Zf9]
 simp only[Bool.and_self,if_true,PV.dat,PyData.eqv]
 rw[Bool.beq_eq_decide_eq]
theorem ZbG(ns:List Int):ZeB [.lst (ns.map PV.int)]=.ok (.int ns.length):=by simp[ZeB]
theorem Zf0(ns:List Int):ZmR [.lst (ns.map PV.int)]=.ok (.int ns.sum):=by simp[ZmR,Zek]
theorem UJ{ns:List Int}(h:ns.length<=1000000):Zcz [.lst (ns.map PV.int)]=.ok (.lst (ns.map PV.int)):=by
 simp only[Zcz];exact V3 h
theorem Zf1{ns:List Int}{k:Int}(h0:ns.length*k.toNat<=1000000)(h1:-(2^63)<=k)(h2:k<2^63):Zli (ns.map PV.int) (.int k)=.ok (.lst ((List.replicate k.toNat ns).flatten.map PV.int)):=by
 simp only[Zli,ZsV]
 rw[if_pos ⟨h0,h1,h2⟩]
 have e:(List.replicate k.toNat (ns.map PV.int)).flatten=(List.replicate k.toNat ns).flatten.map PV.int:=by
  rw[List.map_flatten,List.map_replicate]
 rw[e]
 refine V3 ?_
 rw[ZfL,Nat.mul_comm];exact h0
theorem Zkt{i j:Int}(a b:Nat)(h1:i.natAbs<=10^a)(h2:j.natAbs<=10^b)(ha:a<=4000:=by decide)(hb:b<=4000:=by decide):ZcV i j:=by
 have t:∀c:Nat,c<=4000->(10:Nat)^c<2^60000:=fun c hc=>ZtX (ZuT (by decide) hc) (by decide +kernel)
 exact⟨ZtX h1 (t a ha),ZtX h2 (t b hb)⟩
theorem Zgx{i j:Int}(b:Nat)(h1:0<j)(h2:j.natAbs<=10^b)(hb:b<=2000:=by decide):ZcW i j:=by
 have t:∀c:Nat,c<=2000->(10:Nat)^c<2^9000:=fun c hc=>ZtX (ZuT (by decide) hc) (by decide +kernel)
 exact⟨h1,ZtX h2 (t b hb)⟩
theorem Zf5{i j:Int}(h:ZcW i j):ZmV (.int i) (.int j)=.ok (.int (i/j)):=ZdD (decide_eq_true h)
theorem Zcx{i j:Int}(h:ZcV i j):ZmT (.int i) (.int j)=.ok (.int (i*j)):=ZdD (decide_eq_true h)
theorem Zcy{i j:Int}(h:0<j):Zn5 (.int i) (.int j)=.ok (.int (i%j)):=ZdD (decide_eq_true h)
theorem ZjB{i j:Int}(h:ZkD i j):ZmS (.int i) (.int j)=.ok (.int (i^j.toNat)):=ZdD (decide_eq_true h)
@[simp] theorem ZjJ{i j:Int}:ZmW (.int i) (.int j)=.ok (.int (i+j)):=rfl
@[simp] theorem ZjA{i j:Int}:Zn4 (.int i) (.int j)=.ok (.int (i-j)):=rfl
@[simp] theorem Zlk{i j:Int}:pLt (.int i) (.int j)=.ok (.bl (decide (i<j))):=rfl
@[simp] theorem Zll{i j:Int}:pLe (.int i) (.int j)=.ok (.bl (decide (i<=j))):=rfl
@[simp] theorem Zlu{i j:Int}:pGt (.int i) (.int j)=.ok (.bl (decide (j<i))):=rfl
@[simp] theorem Zlw{i j:Int}:pGe (.int i) (.int j)=.ok (.bl (decide (j<=i))):=rfl
@[simp] theorem Zkc{i:Int}:grd (.int i)=.ok (.int i):=rfl
@[simp] theorem Zkb:grd .non=.ok .non:=rfl
@[simp] theorem Zmr{b:Bool}:asB (.bl b)=.ok b:=rfl
@[simp] theorem ZgA{xs:List PV}:asL (.lst xs)=.ok xs:=rfl
@[simp] theorem Zkw{i:Int}:asI (.int i)=.ok i:=rfl
@[simp] theorem Zls{n:String}{x:Int}:Zlt n (.int x)=.ok (.bl (QJ (Vt (.int x)) n)):=rfl
@[simp] theorem Zlr{n:String}{x:List PV}:Zlt n (.lst x)=.ok (.bl (QJ (Vt (.lst x)) n)):=rfl
@[simp] theorem Zlq{n:String}{x:List PV}:Zlt n (.tup x)=.ok (.bl (QJ (Vt (.tup x)) n)):=rfl
@[simp] theorem Zlo{x:PV}{xs:List PV}:pIx (.tup (x::xs)) (.int 0)=.ok x:=by simp[pIx,atI,ixN]
@[simp] theorem Zln{x y:PV}{xs:List PV}:pIx (.tup (x::y::xs)) (.int 1)=.ok y:=by
 have:atI (x::y::xs) 1=some y:=by unfold atI;rw[ZbN (by omega) (by simp only[Ztw];omega)];rfl
 simp only[pIx,this]
theorem Zd4{j:Int}(h:-(2^62)<=j/\j<2^62):Zho [.int j]=.ok (Zck 0 j.toNat):=by simp only[Zho,okR,decide_eq_true h,if_true]
theorem Zhm{i j:Int}(h:-(2^62)<=i/\i<2^62)(h':-(2^62)<=j/\j<2^62):Zhn [.int i,.int j]=.ok (Zck i (j-i).toNat):=by simp only[Zhn,okR,decide_eq_true h,decide_eq_true h',Bool.and_self,if_true]
theorem QH{xs:List PV}(h:xs.length<=1000000):lenM xs=.ok ():=by simp only[lenM,if_pos h]
@[simp] theorem ZhH:QJ (Vt (.int i)) "int"=true:=rfl
@[simp] theorem ZhI:QJ (Vt (.int i)) "bool"=false:=rfl
@[simp] theorem ZhG:QJ (Vt (.lst xs)) "list"=true:=rfl
@[simp] theorem ZhF:QJ (Vt (.tup xs)) "tuple"=true:=rfl
theorem Jw{I:List PV->Prop}{ρ:List PV}(h:I ρ):(RS.next ρ).good I:=h
theorem ZJ{ns ms:List Int}(e:ns.map PV.int=ms.map PV.int):ns=ms:=by
 have:=congrArg VQ e
 simpa using this
theorem Zem{i j:Int}(h0:0<j)(h1:j<1000000000000):ZmV (.int i) (.int j)=.ok (.int (i/j)):=Zf5 (Zgx 12 h0 (by omega))
theorem ZmX:ZmS (.int 10) (.int 60)=.ok (.int (10^60)):=by rw[ZjB (by decide)];rfl
theorem Zl5{xs:List PV}(h:xs.length<=1000):mkT xs=.ok (.tup xs):=if_pos h
theorem Zl6{xs:List PV}(h:xs.length<=1000):mkL xs=.ok (.lst xs):=if_pos h
theorem Ju.there{P:Program}{w:World}{H:Hp}{h:Heap}{a:Addr}{o:HO}(x:Ju P w H h a o):∃u,h.get? a=some u:=by
 cases o with
 |lst xs=>obtain⟨_,_,_,_,e⟩:=x;exact⟨_,e⟩
 |tup xs=>obtain⟨_,_,_,_,e,_⟩:=x;exact⟨_,e⟩
 |dK kvs=>obtain⟨_,_,_,_,o,_,_,e,_⟩:=x;exact⟨_,e⟩
 |dT kvs=>obtain⟨_,_,_,_,o,_,_,e,_⟩:=x;exact⟨_,e⟩
 |set S n=>obtain⟨o,_,_,_,e,_⟩:=x;exact⟨_,e⟩
 |ins C dx fs=>obtain⟨_,_,_,e,_⟩:=x;exact⟨_,e⟩
 |own y=>obtain⟨_,e⟩:=x;exact⟨_,e⟩
 |xd fs=>obtain⟨_,⟨_,_,_,e,_⟩,_⟩:=x;exact⟨_,e⟩
 |rng lo hi=>obtain⟨_,_,_,e⟩:=x;exact⟨_,e⟩
 |frz ob u=>exact⟨_,x.1⟩
 |tbl ps q=>obtain⟨_,e,_⟩:=x;exact⟨_,e⟩
 |met f y=>exact⟨_,x⟩
 |ext φ=>exact x.2.1
section
end
end L2
namespace PySem.W
open PySem PySem.Spec PySem.Calls PyProof.Rows
section
end
end PySem.W
namespace L2
open PySem PySem.Spec PyProof.Rows
section
end
noncomputable def Zna(Γ:List Md):Bool:=Γ.all fun m=>m==.U || m==.P || m==.S
section
end
theorem Zbf{ns ms:List Int}:ns.map PV.int=ms.map PV.int ↔ ns=ms:=⟨ZJ,fun h=>by rw[h]⟩
theorem ZL{b:PV->List PV->RS}{xs:List PV}{ρ:List PV}{W:RS}(hw:US b xs ρ=W)(I:Nat->List PV->Prop)(h0:I 0 ρ)(h:∀i x ρ,xs[i]?=some x->I i ρ->(b x ρ).good (I (i+1))) :
  ∃ρ',W=.next ρ'/\I xs.length ρ':=by
 obtain⟨ρ',h1,h2⟩:=ZdK I h0 h
 exact⟨ρ',hw.symm.trans h1,h2⟩
theorem VW{c:List PV->Rr Bool}{b:List PV->RS}{ρ:List PV}{W:RS}(hw:Vs c b ρ=W)(N:Nat)(I:Nat->List PV->Prop)(h0:I 0 ρ)(hs:∀i ρ,i<N->I i ρ->c ρ=.ok true/\(b ρ).good (I (i+1)))(he:∀ρ,I N ρ->c ρ=.ok false) :
  ∃ρ',W=.next ρ'/\I N ρ':=by
 subst hw
 have key:∀m i ρ,N=i+m->I i ρ->∃ρ',Va c b (m+1) ρ=some (.next ρ')/\I N ρ':=by
  intro m
  induction m with
  |zero =>
   intro i ρ hl hI
   obtain rfl:N=i:=by omega
   refine⟨ρ, ?_,hI⟩
   unfold Va
   rw[he ρ hI]
  |succ m ih =>
   intro i ρ hl hI
   obtain⟨h1,h2⟩:=hs i ρ (by omega) hI
   obtain⟨ρ',h3,h4⟩:=RS.good_ex h2
   obtain⟨ρ2,h5,h6⟩:=ih (i+1) ρ' (by omega) h4
   refine⟨ρ2, ?_,h6⟩
   unfold Va
   rw[h1]
   rcases h3 with h3|h3<;>(rw[h3];exact h5)
 obtain⟨ρ',h1,h2⟩:=key N 0 ρ (by omega) h0
 exact⟨ρ',Qw h1,h2⟩
theorem ZaZ{f:PV->Rr PV}{g:Int->Int}{ns:List Int}(h:∀z∈ns,f (.int z)=.ok (.int (g z))):Zba f (ns.map PV.int)=.ok ((ns.map g).map PV.int):=by
 induction ns with
 |nil=>rfl
 |cons n ns ih =>
  simp only[Zte,Zba,h n (by simp),Rr.bind_ok,ih fun z hz=>h z (by simp[hz])]
theorem ZfI{f:PV->Rr PV}{g:Int->Bool}{ns:List Int}(h:∀z∈ns,f (.int z)=.ok (.bl (g z))):Zba f (ns.map PV.int)=.ok ((ns.map g).map PV.bl):=by
 induction ns with
 |nil=>rfl
 |cons n ns ih =>
  simp only[Zte,Zba,h n (by simp),Rr.bind_ok,ih fun z hz=>h z (by simp[hz])]
theorem ZjS{f:PV->Rr PV}{g:Nat->Int}{lo:Int}{n:Nat}(h:∀i,i<n->f (.int (lo+(i:Nat)))=.ok (.int (g i))):Zba f (Zck lo n)=.ok (((List.range n).map g).map PV.int):=by
 unfold Zck
 have:∀l:List Nat,(∀i∈l,i<n)->Zba f (l.map fun(k:Nat)=>PV.int (lo+(k:Int)))=.ok ((l.map g).map PV.int):=by
  intro l
  induction l with
  |nil=>intro _;rfl
  |cons a l ih =>
   intro hl
   simp only[Zte,Zba,h a (hl a (by simp)),Rr.bind_ok,ih fun i hi=>hl i (by simp[hi])]
 exact this _ fun i hi=>Zty.mp hi
theorem Zh0(bs:List Bool):Zlz [.lst (bs.map PV.bl)]=.ok (.bl (bs.all id)):=by simp only[Zlz,Zcd]
theorem ZgC{ns:List Int}{p:Int->Prop}[DecidablePred p]:(ns.map fun z=>decide (p z)).all id=decide (∀x∈ns,p x):=by
 rw[Bool.eq_iff_iff,ZtF,decide_eq_true_iff]
 simp
theorem Zlj{i j:Int}(h1:-(10^80)<=i)(h2:i<=10^80)(h3:-(10^80)<=j)(h4:j<=10^80):ZmT (.int i) (.int j)=.ok (.int (i*j)):=Zcx (Zkt 80 80 (by omega) (by omega))
theorem Zhp{k:Int}{z:Int}(h1:-(2^63)<=k)(h2:k<=1000000):Zli [.int z] (.int k)=.ok (.lst ((List.replicate k.toNat z).map PV.int)):=by
 have:=Zf1 (ns:=[z]) (k:=k) (by simp;omega) h1 (by omega)
 simp only[Zte,Zux] at this
 rw[this,List.flatten_replicate_singleton]
theorem Zfl{n:Nat}:List.replicate (n+1) PV.non=PV.non::List.replicate n PV.non:=rfl
theorem Zfk:List.replicate 0 PV.non=[]:=rfl
theorem ZjC{a b c:PV}:ZeB [.tup [a,b,c]]=.ok (.int 3):=rfl
section
end
theorem ZhM{a b:Int}:grd (.tup [.int a,.int b])=.ok (.tup [.int a,.int b]):=rfl
theorem Zht{g:Bool->Bool}{i:Int}:Zk7 g (.int i)=.ok (.bl (g false)):=rfl
theorem Zhs{g:Bool->Bool}:Zk7 g .non=.ok (.bl (g true)):=rfl
theorem ZjG{g:Bool->Bool}{ns:List Int}:Zb1 g (.lst (ns.map PV.int)) (.lst [])=.ok (.bl (g (decide (ns=[])))):=Zd7 ns []
section
variable {X:Cx}{pins:List (Addr×Obj)}{σ:St}{H:Hp}{s:Shared}{h':Heap}
theorem Inv.turned2{t':Nat}{it e:Addr}(I:Inv X pins σ H s)(k:∀b o,b≠e->b≠it->s.heap.get? b=some o->h'.get? b=some o)(f:∀b,b=e\/b=it->H b=none/\b≠X.env.locals/\(b∈X.ex\/X.s₀.heap.objs.size<=b)/\(∀x c,X.env.cells.lookup x=some c->c≠b)/\∀p∈X.pn++pins,p.1≠b):Inv X pins σ H { s with heap:=h',toks:=t' }:=by
 have nit:∀b u,H b=some u->b≠e/\b≠it:=fun b u q=>by
  refine⟨fun z=>?_,fun z=>?_⟩
  ·rw[z,(f e (.inl rfl)).1] at q;cases q
  ·rw[z,(f it (.inr rfl)).1] at q;cases q
 refine I.step (g':=s.gens) (d':=s.drawn) (ch:=[e,it]) (fun b hb=>?_) (fun b o _ _ hc q _=>k b o (fun z=>hc (by simp[z])) (fun z=>hc (by simp[z])) q) (fun b o _ _ hc q _=>⟨o.slots,k b o (fun z=>hc (by simp[z])) (fun z=>hc (by simp[z])) q⟩) (fun _ _ _ _ n=>n)
  (fun b o hc q=>⟨o,k b o (fun z=>hc (by simp[z])) (fun z=>hc (by simp[z])) q⟩) (fun _ _ q=>q) (fun _ _ _ q=>q) (fun b ps w q=>q) (fun m hm=>?_) (fun b u q=>?_) I.bare
 ·obtain⟨g0,g1,g2,g3,g4⟩:=f b (by simpa using hb)
  exact⟨g2,g1,g3,g4⟩
 ·obtain⟨o,es,ep,ho,r⟩:=hm
  exact⟨o,es,ep,k _ o (Ne.symm (f e (.inl rfl)).2.1) (Ne.symm (f it (.inr rfl)).2.1) ho,r⟩
 ·refine(I.hok b u q).stay (fun c v hc q2=>?_) (fun _ q2=>q2) fun _ _ q2=>q2
  have:c≠e/\c≠it:=by
   rcases hc with z|z
   ·rw[z];exact nit b u q
   ·exact nit c _ z
  exact k c v this.1 this.2 q2
theorem Inv.adoptT{D:Addr}{ys:List V}{its:List Value}(I:Inv X pins σ H s)(hn:H D=none)(h1:X.s₀.heap.objs.size<=D)(hL:D≠X.env.locals)(hc:∀x c,X.env.cells.lookup x=some c->c≠D)(hp:∀p∈X.pn++pins,p.1≠D)(ho:s.heap.get? D=some { cls:=.type "tuple",data:=.seq its.toArray })(r:ZR ys its)(hz:ys.length<=sizeLine):Inv X pins σ (upd H D (.tup ys)) s:=by
 refine I.step (h':=s.heap) (g':=s.gens) (d':=s.drawn) (t':=s.toks) (ch:=[D]) (fun b hb=>?_) (fun b o _ _ _ e _=>e) (fun b o _ _ _ e _=>⟨o.slots,e⟩) (fun b o hb _ e=>?_) (fun b o _ e=>⟨o,e⟩)
  (fun b xs e=>?_) (fun b o u e=>?_) (fun b ps w e=>?_) (fun m hm=>hm) (fun b u e=>?_) I.bare
 ·have e:b=D:=by simpa using hb
  subst e
  exact⟨.inr h1,hL,hc,hp⟩
 ·rw[Zo (by simpa using hb)];exact e
 ·rw[Zo (Z8 e hn)];exact e
 ·rw[Zo (Z8 e hn)];exact e
 ·rw[Zo (Z8 e hn)];exact e
 ·by_cases hb:b=D
  ·subst hb
   rw[Zv] at e;cases e
   exact⟨hz,its,r,_,ho,rfl,_,rfl⟩
  ·rw[Zo hb] at e
   exact(I.hok b u e).stay (fun c v _ q=>q) (fun c q=>by rw[Zo (Z8 q hn)];exact q) fun c xs q=>by rw[Zo (Z8 q hn)];exact q
end
noncomputable def Ite(K:W.Frag)(a:Addr):It:=
 ⟨fun i H=>∃xs x,SqL K H a xs/\xs[i]?=some x,fun i H v H'=>∃t x,v=.ref t/\H t=none/\H'=upd H t (.tup [.int i,x])/\∀xs,SqL K H a xs->xs[i]?=some x,fun i H=>∃xs,SqL K H a xs/\xs.length<=i⟩
theorem ZeQ{P:Program}{w:World}{K:W.Frag}{elts:List Expr}{x1:Nat}{tpos:Pos}(a e it:Addr)(hne:e≠it):Zk0 P w K (.Tuple elts x1 tpos) (Ite K a) [e,it] e (fun i h=>∃old,IsEnum h e it i old/\h.IsListIter it a i) where
 mem:=by simp
 obj:=fun i h ⟨old,s1,s2⟩ b hb=>by
  rcases Zti.mp hb with z|z
  ·subst z
   exact⟨_,s1,fun v z=>by
    have z':Data.fields _=Data.cell v:=z
    cases z'⟩
  ·have z:b=it:=by simpa using z
   subst z
   obtain⟨o,e,c,d⟩:=s2
   exact⟨o,e,fun v z=>by rw[d] at z;cases z⟩
 keep:=fun i h h' ⟨old,s1,s2⟩ k=>⟨old,k e (by simp) _ s1,s2.at fun o q=>k it (by simp) o q⟩
 item:=by
  intro X hP hw hK hc i pins s σ H E I hf ⟨old,s1,s2⟩ hg
  subst hP hw hK
  obtain⟨xs,x,hq,hx⟩:=hg
  obtain⟨its,rv,p,hz⟩:=I.list hq
  obtain⟨u,hu,ru⟩:=rv.get hx
  have fz:∀b,b=e\/b=it->H b=none/\b≠X.env.locals/\(b∈X.ex\/X.s₀.heap.objs.size<=b)/\(∀x c,X.env.cells.lookup x=some c->c≠b)/\∀p∈X.pn++pins,p.1≠b:=fun b hb=>by
   obtain⟨f0,f1,f2,f3,f4,f5⟩:=hf b (by simpa using hb)
   exact⟨f0,f1,f3,f4,f5⟩
  refine wpAny_pyNext_enum_item s1 s2 p.isList (x:=u) (by simpa using hu) hne fun h1 e1 i1 t1 z1 k1=>?_
  refine⟨_,rfl, ?_⟩
  refine wpAny_letOwnedTupleGo_enum e1 fun h2 e2 sb2=>?_
  have I2:Inv X pins σ H { s with heap:=h2,toks:=s.toks+1 }:=I.turned2 (fun b o n1 n2 q=>sb2.extBut b o n1 (k1 b o n1 n2 q)) fz
  have hfr:=I.hok.fresh (ZsX s.heap.objs.size)
  have het:s.heap.objs.size≠e:=ZuO (Heap.lt_size s1)
  have fsz:=I.fpOk (H':=H) (ZsX s.heap.objs.size) hfr
  obtain⟨g0,g1,g2,g3,g4,g5⟩:=fsz
  have I3:=I2.adoptT (D:=s.heap.objs.size) (ys:=[.int i,x]) (its:=[.int i s.toks,u]) hfr I.sz g1 g4 g5 (sb2.extBut _ _ het t1) (.cons ⟨_,rfl⟩ (.cons ru .nil)) (show 2<=sizeLine by decide)
  refine⟨.ref s.heap.objs.size,_,I3,rfl,⟨_,x,rfl,hfr,rfl,fun ys hy=>by rw[I.list_inj hy hq];exact hx⟩,⟨u,by
   have:((i+1:Nat):Int)=(i:Int)+1:=by omega
   rw[this];exact e2,i1.extBut sb2.extBut (Ne.symm hne)⟩,fun b hb=>?_⟩
  have hbn:b≠s.heap.objs.size:=by
   rcases Zti.mp hb with z|z
   ·rw[z];exact het.symm
   ·have z:b=it:=by simpa using z
    obtain⟨o,q,_⟩:=s2
    rw[z];exact Zt1 (Heap.lt_size q)
  rw[Zo hbn]
  exact(hf b hb).1
 done:=by
  intro X hP hw hK hc i pins s σ H E I hf ⟨old,s1,s2⟩ hg
  subst hP hw hK
  obtain⟨xs,hq,hx⟩:=hg
  obtain⟨its,rv,p,hz⟩:=I.list hq
  obtain⟨f0,f1,f2,f3,f4,f5⟩:=hf it (by simp)
  have hl:=rv.length
  exact wpAny_pyNext_enum_end (I.ok.hd hc) s1 s2 p.isList (by simp;omega) fun h' eb=>⟨rfl,I.turned (t':=s.toks) (fun b o hb q=>eb b o hb q) f0 f1 f3 f4 f5⟩
 self:=fun _ _ _ _ _ ⟨old,st,_⟩ h=>wpAny_pyIter_enum st h
section
variable {X:Cx}{elts:List Expr}{x1:Nat}{tpos:Pos}
noncomputable def Zka(K:W.Frag)(tl:TA):TI:=fun σ H R=>tl σ H fun vs H1=>∃a,vs=[.ref a]/\(∃xs,SqL K H1 a xs)/\R (Ite K a) H1
theorem Zcc:bootBuiltins "enumerate"=some (.type "enumerate"):=by decide +kernel
theorem Zj3{l:Expr}{tl:TA}{p pos:Pos}(hg:Gl X "enumerate")(hm:X.mg "enumerate"=none)(ha:PA X [l] tl)(hs:starEach [l] X.env=[(false,eval l X.env)]:=by rfl):PI X (.Tuple elts x1 tpos) (.Call (.Name "enumerate" p) [l] [] pos) (Zka X.K tl):=by
 intro pins s σ H R I h
 refine Call_ (QI I hg hm Zcc (PyProof.Rows.callWith_type1 (thn (ha pos pins s σ H _ I h) fun us s1 ⟨vs,H1,I1,r1,q1⟩=>?_) hs rfl))
 obtain⟨a,e,⟨xs,hq⟩,q⟩:=q1
 subst e
 cases r1 with
 |cons r rr =>
  cases rr
  cases r
  obtain⟨its,rv,pl,hz⟩:=I1.list hq
  refine call_enumerate_list pl.isList fun h' e1 i1 z1 k1=>?_
  refine wpAny_pyIter_enum e1 ?_
  have I2:Inv X pins σ H1 { s1 with heap:=h' }:=I1.kept (t':=s1.toks) k1
  refine⟨s1.heap.objs.size+1,[s1.heap.objs.size+1,s1.heap.objs.size],_,_,H1,rfl,I2,ZeQ a _ _ (Nat.succ_ne_self _),⟨_,e1,i1⟩,fun b hb=>?_,q⟩
  have hb':s1.heap.objs.size<=b:=by
   rcases Zti.mp hb with z|z
   ·rw[z];exact ZuA _
   ·have z:b=s1.heap.objs.size:=by simpa using z
    rw[z];exact ZsX _
  exact I1.fpOk hb' (I1.hok.fresh hb')
theorem Zhh{K:W.Frag}{l:Expr}{tl:TA}{p pos:Pos}(hg:Gl X "enumerate")(hm:X.mg "enumerate"=none)(ha:PA X [l] tl)(hs:starEach [l] X.env=[(false,eval l X.env)]:=by rfl)(e:X.K=K:=by rfl):PI X (.Tuple elts x1 tpos) (.Call (.Name "enumerate" p) [l] [] pos) (Zka K tl):=by subst e;exact Zj3 hg hm ha hs
end
noncomputable def Zah(xs:List PV):List PV:=xs.mapIdx fun i x=>.tup [.int (i:Nat),x]
section
variable {K:W.Frag}{H:Hp}{EX:PX->Hp->Prop}{Γ Γ':List Md}
theorem ZhE{a:Addr}{xs:List PV}{S:Addr->Prop}(h:Rep K H S (.lst xs) (.ref a)):ItP K S (Ite K a) (Zah xs) H:=by
 obtain⟨a',vs,e,hn,hr⟩:=h
 cases e
 intro i
 constructor
 ·intro x hx
  unfold Zah at hx
  rw[ZuU] at hx
  cases hxi:xs[i]? with
  |none=>rw[hxi] at hx;cases hx
  |some y =>
   rw[hxi] at hx
   cases hx
   obtain⟨u,e1,e2⟩:=hr.get hxi
   refine⟨⟨vs,u,JI hn,e1⟩,fun v H' ⟨t,z,e3,e4,e5,e6⟩=>?_⟩
   have:=e6 vs (JI hn)
   rw[e1] at this;cases this
   subst e3 e5
   have sm:Z7 H (upd H t (.tup [.int i,u])):=Z7.upd (Z7.refl H) e4
   exact⟨sm,t,_,rfl,⟨Zv,trivial⟩,⟨_,_,rfl,rfl,_,_,rfl,e2.same sm,rfl⟩⟩
 ·intro hx
  unfold Zah at hx
  rw[ZuU] at hx
  have:xs[i]?=none:=by cases hxi:xs[i]? with
   |none=>rfl
   |some y=>rw[hxi] at hx;cases hx
  exact⟨vs,JI hn,by rw[hr.length];exact ZtI.mp this⟩
noncomputable def ZjI(xs:List PV):Rr (List PV):=match xs with
 |[.lst ys]=>.ok (Zah ys)
 |_=>.bad
theorem Zkk{ta:TA}{fa:List PV->Rr (List PV)}(ha:DAZ K EX Γ Γ' ta fa):DI K EX Γ Γ' (Zka K ta) (fun ρ=>(fa ρ).bind ZjI):=fun B H0 H σ ρ F R Q A d=>by
 refine ha B H0 H σ ρ F R _ A (d.bind.imp (fun xs _ d vs H1 F1 s1 f1 p1 A1=>?_) fun e q=>q)
 unfold ZjI at d
 split at d
 ·rename_i ys
  obtain⟨v,rfl,h1⟩:=VM p1
  obtain⟨a,us,rfl,hn,hr⟩:=id h1
  exact⟨a,rfl,⟨us,JI hn⟩,d _ H1 F1 s1 f1 A1 fun H2 F2 h=>ZhE (h1.frm h A1)⟩
 ·exact d.elim
theorem Zhv{ys:List PV}:ZjI [.lst ys]=.ok (Zah ys):=rfl
theorem ZcE(xs:List PV):(Zah xs).length=xs.length:=by simp[Zah]
variable {prog:Program}{w:World}{A:Around}{R:Result->Shared->Prop}{s:Shared}
theorem Uf{elt target iter:Expr}{ifs:List Expr}{scope:Scope}{pos:Pos}{it acc:Value}{env:Env}(I:Nat->Shared->Prop)(turn:∀n s,I n s->wpAny (model prog w) A (pyNext it) (fun r s₁=>match r with
   |none=>R (.ok .next) s₁
   |some v=>wpAny (model prog w) A (letOwnedTupleGo target it v) (fun _ s₁'=>wpAny (model prog w) A (assign target env v) (fun _ s₂ =>
     wpAny (model prog w) A (forIn ifs true fun c r=>if r=true then do let ok <- isTrue c env (eval c env);pure (ForInStep.yield ok) else pure (ForInStep.yield r)) (fun ok s₃ =>
      if ok=true then wpAny (model prog w) A (eval elt env) (fun x s₄ =>
       wpAny (model prog w) A (call (.builtin "list.append") [acc,x]) (fun _ s₅=>∃m,m<n/\I m s₅) (notedBy (model prog w) A env fun e s'=>R (.error e) s') s₄) (notedBy (model prog w) A env fun e s'=>R (.error e) s') s₃
      else ∃m,m<n/\I m s₃) (notedBy (model prog w) A env fun e s'=>R (.error e) s') s₂) (notedBy (model prog w) A env fun e s'=>R (.error e) s') s₁') (notedBy (model prog w) A env fun e s'=>R (.error e) s') s₁) (notedBy (model prog w) A env fun e s'=>R (.error e) s') s)(n:Nat)(h:I n s) :
  codeAny (model prog w) A (.compLoop (.ListComp elt [⟨target,iter,ifs,0⟩] scope pos) 0 it acc env) R s:=by
 refine codeAny_loop rfl I (fun n s hI=>?_) n h
 show wpAny _ A ((compTurn (.ListComp elt [⟨target,iter,ifs,0⟩] scope pos) 0 it acc env).onRaise (fun x=>do noteFrame x env;theTreesLotGoes x)) _ _ s
 refine wpAny_noted ?_
 rw[compTurn_list]
 refine wpAny_bind (wpAny_standAt (wpAny_bind (wpAny_mono (turn n s hI) (fun r s₁ h₁=>?_) fun _ _ h'=>h')))
 cases r with
 |none=>exact wpAny_pure h₁
 |some v =>
  refine wpAny_bind (wpAny_mono h₁ (fun _ s₁' h₁'=>?_) fun _ _ h'=>h')
  refine wpAny_bind (wpAny_mono h₁' (fun _ s₂ h₂=>wpAny_bind (wpAny_mono h₂ (fun ok s₃ h₃=>?_) fun _ _ h'=>h')) fun _ _ h'=>h')
  cases ok with
  |false=>exact wpAny_pure ⟨rfl,h₃⟩
  |true =>
   exact wpAny_bind (wpAny_bind (wpAny_mono h₃ (fun x s₄ h₄=>wpAny_bind (wpAny_mono h₄ (fun _ s₅ h₅=>wpAny_pure (wpAny_pure ⟨rfl,h₅⟩)) fun _ _ h'=>h')) fun _ _ h'=>h'))
end
noncomputable def Zbg(xs:List Str)(y:Str):Str:=if xs.contains y then "" else y
noncomputable def VT(X:Cx)(scope:Scope)(xs:List Str)(C:Addr)(ex:List Addr)(s₂:Shared)(H₂:Hp):Cx:=
 { X with N:=X.N.map (Zbg xs)++xs,s₀:=s₂,H₀:=H₂,env:=compEnvC scope (Zaj scope X.env) C X.env,outer:=X.stack,ex:=ex,fn:=fun _=>false,pn:=[],xe:=fun _ _=>False }
noncomputable abbrev TB:=V->Hp->List V->Prop
noncomputable def tB1:TB:=fun x _ vs=>vs=[x]
noncomputable def tB2(K:W.Frag):TB:=fun x H vs=>∃t a b,x=.ref t/\SqT K H t [a,b]/\vs=[a,b]
def PB(X:Cx)(scope:Scope)(xs:List Str)(tg:Expr)(Bd:TB):Prop:=∀C s₂ H₂ ex,∀(pins:List (Addr×Obj)) (s:Shared) (σ σx:St) (H:Hp) (x:V) (u:Value) (vs:List V) (E:Value->Shared->Prop),σ.length=X.N.length->σx.length=xs.length ->
 Inv (VT X scope xs C ex s₂ H₂) pins (σ++σx) H s->Jn x u->Bd x H vs->wpAny (model X.prog X.w) X.A (assign tg (VT X scope xs C ex s₂ H₂).env u) (fun _ s'=>Inv (VT X scope xs C ex s₂ H₂) pins (σ++vs.map some) H s') E s
def PCi(X:Cx)(ifs:List Expr)(t:TT):Prop:=∀(pins:List (Addr×Obj)) (s:Shared) (σ:St) (H:Hp) (Q:Bool->Hp->Prop) (E:Value->Shared->Prop),Inv X pins σ H s->t σ H Q ->
 wpAny (model X.prog X.w) X.A (forIn ifs true fun c r=>if r=true then do let ok <- isTrue c X.env (eval c X.env);pure (ForInStep.yield ok) else pure (ForInStep.yield r)) (TP X pins σ Q) E s
noncomputable def ZkK:TT:=fun _ H Q=>Q true H
theorem Zd1{X:Cx}:PCi X [] ZkK:=fun pins s σ H Q E I h=>wpAny_tests_nil ⟨_,I,h⟩
def ZeY(σ:St)(Bd:TB)(tt:TT)(te:TE)(J:It)(H1:Hp)(Q:VK):Prop:=∃W:Nat->Nat->List V->Hp->Prop,(∃m,W 0 m [] H1)/\∀i m ys H2,W i m ys H2->ys.length<=sizeLine /\
 ((J.stop i H2/\∀p,H2 p=none->Q (.ref p) (upd H2 p (.lst ys))) \/
  (J.go i H2/\∃N:List V->Hp->Prop,(∀ys' H',N ys' H'->∃m',m'<m/\W (i+1) m' ys' H')/\∀x H3,J.yld i H2 x H3->∃vs,Bd x H3 vs/\tt (σ++vs.map some) H3 fun b H4=>if b=true then te (σ++vs.map some) H4 fun y H5=>N (ys++[y]) H5 else N ys H4))
noncomputable def Zam(wi:TI)(Bd:TB)(tt:TT)(te:TE):TE:=fun σ H Q=>wi σ H fun J H1=>ZeY σ Bd tt te J H1 Q
noncomputable def JE(N:List Str)(sc scope:Scope)(xs:List Str):Bool:=xs.all (fun x=>ZcN [] sc scope x)&&decide (N.map (Zbg xs)++xs).Nodup&&!xs.isEmpty&&(N.all fun y=>xs.contains y || !(scope.names.lookup y==some .local))&&(scope.names.lookup (Str.ofString "")==none)
structure CkN(N:List Str)(sc scope:Scope)(xs:List Str):Prop where
 scs:∀x∈xs,ZaD [] sc scope x
 nd:(N.map (Zbg xs)++xs).Nodup
 ex:∃x,x∈xs
 noN:∀y∈N,y ∉ xs->scope.names.lookup y≠some .local
 noE:scope.names.lookup (Str.ofString "")=none
theorem Vr{N:List Str}{sc scope:Scope}{xs:List Str}(h:JE N sc scope xs=true):CkN N sc scope xs:=by
 unfold JE at h
 simp only[Bool.and_eq_true,ZtF,decide_eq_true_eq,Bool.not_eq_true',Bool.or_eq_true,beq_iff_eq,beq_eq_false_iff_ne] at h
 obtain⟨⟨⟨⟨h1,h2⟩,h3⟩,h4⟩,h5⟩:=h
 refine⟨fun x hx=>ZaD.of (h1 x hx),h2, ?_,fun y hy hn=>?_,h5⟩
 ·cases xs with
  |nil=>simp at h3
  |cons a l=>exact⟨a,by simp⟩
 ·rcases h4 y hy with z|z
  ·exact absurd (Zuy.mp z) hn
  ·exact z
section
variable {X:Cx}{pins:List (Addr×Obj)}{σ:St}{s₂:Shared}{H₂:Hp}{scope:Scope}{x:Str}{xs:List Str}{tg elt iter:Expr}{ifs:List Expr}{pos:Pos}{Bd:TB}{tt:TT}{te:TE}{J:It}{fp:List Addr}{it:Addr}{tn:Nat->Heap->Prop}
theorem Jx{N0:List Str}(sc:ZaD N0 X.env.scope scope x)(ok:X.Ok){y:Str}{c:Addr}(h:(Zaj scope X.env).lookup y=some c):X.env.cells.lookup y=some c:=by
 have hm:=PySem.mem_of_lookup h
 unfold Zaj at hm
 obtain⟨p,hp,e⟩:=Ztm.mp hm
 have hp':=ZtA.mp (Zvl.mp hp)
 obtain⟨e1,e2⟩:=Prod.mk.inj e
 have hk:=sc.fr p hp'.1 (beq_iff_eq.mp hp'.2)
 obtain⟨c',hc'⟩:=ok.has p.1 hk
 rw[hc'] at e2
 rw[<- e1,hc']
 exact congrArg some e2
theorem Zku{N0:List Str}(I:Inv X pins σ H₂ s₂)(sc:ZaD N0 X.env.scope scope x){C:Addr}(hC:s₂.heap.objs.size<=C)(ff:∀b∈fp,ZgF X pins H₂ b)(fo:∀b∈fp,∃o,s₂.heap.get? b=some o):(VT X scope xs C fp s₂ H₂).Ok where
 mod:=I.ok.mod
 kind:=sc.kind
 glob:=I.ok.glob
 blt:=I.ok.blt
 above:=hC
 inj:=fun y z c h1 h2=>I.ok.inj y z c (Jx sc I.ok h1) (Jx sc I.ok h2)
 has:=fun y hy=>by
  have hy':(relabel scope X.env).names.lookup y=some .cell\/(relabel scope X.env).names.lookup y=some .free:=hy
  have hf:scope.names.lookup y=some .free:=by
   rcases hy' with z|z
   ·exact(ZP sc.nc z).2 (.inl rfl)
   ·exact(ZP sc.nc z).2 (.inr rfl)
  exact Qt hf
 cab:=fun y c h=>by cases h
 hd:=I.ok.hd
 frames:=I.ok.frames
 stk:=.inl rfl
 exf:=fun b hb=>by
  obtain⟨f0,f1,f2,f3,f4,f5⟩:=ff b hb
  obtain⟨o,ho⟩:=fo b hb
  exact⟨Zt1 (Zto (Heap.lt_size ho) hC),fun y c h=>f4 y c (Jx sc I.ok h)⟩
 bs:=I.bs
 bsz:=Ztr I.ok.bsz I.sz
 noex:=fun b o e hb=>by
  obtain⟨f0,f1,f2,f3,f4,f5⟩:=ff b hb
  rcases f3 with z|z
  ·exact I.ok.noex b o e z
  ·exact absurd (Zto (Heap.lt_size e) (Ztr I.ok.bsz z)) (ZtV _)
 exfs:=fun b hb z=>by
  obtain⟨f0,f1,f2,f3,f4,f5⟩:=ff b hb
  rcases Zti.mp (I.stkSub b z) with e|e
  ·exact f1 e
  ·exact f2 e
 funs:=I.stack
 frf:=I.stkFree
 tab:=fun f c P h1=>I.base.tbls _ _ _ (I.ok.tab f c P h1)
theorem ZbZ{E:Value->Shared->Prop}{Q:VK}{RR:Value->Addr->Result->Shared->Prop}(I:Inv X pins σ H₂ s₂)(ck:CkN X.N X.env.scope scope xs)(hx:x∈xs)(hNd:X.N.Nodup)(hc:X.calm=true)(T:Zk0 X.prog X.w X.K tg J fp it tn)(st:tn 0 s₂.heap)(ff:∀b∈fp,ZgF X pins H₂ b)(hw:ZeY σ Bd tt te J H₂ Q)(hb:PB X scope xs tg Bd)(ht:∀C s₂ H₂ ex,PCi (VT X scope xs C ex s₂ H₂) ifs tt)(he:∀C s₂ H₂ ex,PE (VT X scope xs C ex s₂ H₂) elt te)(hvs:∀x H vs,Bd x H vs->vs.length=xs.length)(hRR:∀D C s' H' m',s₂.heap.objs.size<=C->Inv X pins σ H' s'->s'.heap.Ns C m'->H' C=none->Q (.ref D) H'->RR (.ref D) C (.ok .next) s') :
  wpAny (model X.prog X.w) X.A (newList []) (fun acc s₃=>wpAny (model X.prog X.w) X.A (newFunctionEnv scope X.env.globals (Zaj scope X.env) [] X.env.qual none .none (some X.env)) (fun cenv s₄ =>
   codeAny (model X.prog X.w) X.A (.compStart (.ListComp elt [⟨tg,iter,ifs,0⟩] scope pos) 0 (.ref it) acc { cenv with scope:=relabel scope X.env }) (RR acc cenv.locals) s₄) E s₃) E s₂:=by
 have sc:=ck.scs x hx
 refine wpAny_newObj_type (wpAny_newFunctionEnv sc.nc (by intro y hy;simp at hy) (fun h₁ hns₁ hsb₁=>?_) sc.kind)
 dsimp only at hns₁ hsb₁ ⊢
 generalize hP2:s₂.heap.push { cls:=.type "list",dict:=none,data:=.seq ([]:List Value).toArray }=P2 at hns₁ hsb₁ ⊢
 have hCs:P2.objs.size=s₂.heap.objs.size+1:=by rw[<- hP2,Heap.size_push]
 have hCle:s₂.heap.objs.size<=P2.objs.size:=by rw[hCs];exact ZuA _
 have hDC:s₂.heap.objs.size≠P2.objs.size:=by rw[hCs];exact Zt1 (Zu7 _)
 generalize hCe:P2.objs.size=C at hns₁ hsb₁ hCs hCle hDC ⊢
 generalize hDe:s₂.heap.objs.size=D at hCs hCle hDC ⊢
 have fo:∀b∈fp,∃o,s₂.heap.get? b=some o:=fun b hb=>let ⟨o,e,_⟩:=T.obj _ _ st b hb;⟨o,e⟩
 have flt:∀b∈fp,b<D:=fun b hb=>by obtain⟨o,e⟩:=fo b hb;rw[<- hDe];exact Heap.lt_size e
 have old:∀b o,s₂.heap.get? b=some o->h₁.get? b=some o:=fun b o e=>by
  have hb:=Heap.lt_size e
  exact hsb₁.extBut b o (Zt1 (by rw[hCs];exact ZuK (hDe▸hb))) (Heap.get?_push_of_some _ (hP2▸Heap.get?_push_of_some _ e))
 have hacc:h₁.get? D=some { cls:=.type "list",data:=.seq ([]:List Value).toArray 0 }:=hsb₁.extBut _ _ hDC (Heap.get?_push_of_some _ (hP2▸hDe▸Heap.get?_push_size _ rfl))
 have okB:=Zku (x:=x) (xs:=xs) (C:=C) I sc (by rw[hDe];exact hCle) ff fo
 have hfreshD:H₂ D=none:=I.hok.fresh (by rw[hDe];exact ZsX _)
 have hfreshC:H₂ C=none:=I.hok.fresh (by rw[hDe];exact hCle)
 have I0:Inv (VT X scope xs C fp s₂ H₂) [(D,{ cls:=.type "list",data:=.seq ([]:List Value).toArray 0 })] (σ++List.replicate xs.length none) H₂ { s₂ with heap:=h₁,toks:=s₂.toks+([]:List (Str×Value)).length }:=by
  refine⟨okB,rfl,I.bare,Un.kept old,⟨_,hns₁,fun i y v e1 e2 e3=>?_⟩,fun y c e=>?_,hfreshC,fun y c e=>I.freeC y c (Jx sc I.ok e),fun p hp=>?_,I.hok.kept old,by simp[VT,I.len]⟩
  ·have hi:i<σ.length:=by
    by_cases hi:i<σ.length
    ·exact hi
    ·rw[Zth (by omega)] at e2
     rw[ZuC] at e2
     split at e2<;>cases e2
   rw[Ztl hi] at e2
   have e1':(X.N.map (Zbg xs)++xs)[i]?=some y:=e1
   rw[Ztl (by rw[ZsV,<- I.len];exact hi),ZsZ] at e1'
   have lk:scope.names.lookup y=some .local\/scope.names.lookup y=some .free:=by
    have e3':(relabel scope X.env).names.lookup y=some .local\/(relabel scope X.env).names.lookup y=some .cell\/(relabel scope X.env).names.lookup y=some .free:=e3
    rcases e3' with z|z|z
    ·exact .inl ((ZP sc.nc z).1 rfl)
    ·exact .inr ((ZP sc.nc z).2 (.inl rfl))
    ·exact .inr ((ZP sc.nc z).2 (.inr rfl))
   obtain⟨y0,ey0,ey⟩:∃y0,X.N[i]?=some y0/\Zbg xs y0=y:=by
    cases q:X.N[i]? with
    |none=>rw[q] at e1';cases e1'
    |some y0=>rw[q] at e1';exact⟨y0,rfl,Option.some.inj e1'⟩
   have hy0:y0 ∉ xs:=fun z=>by
    have:y=Str.ofString "":=by rw[<- ey];unfold Zbg;rw[if_pos (Zuy.mpr z)]
    rw[this,ck.noE] at lk
    rcases lk with z|z<;>cases z
   have ey2:y0=y:=by rw[<- ey];unfold Zbg;rw[if_neg (fun z=>hy0 (Zuy.mp z))]
   rw[ey2] at ey0 hy0
   have e1':X.N[i]?=some y:=ey0
   have yN:y∈X.N:=ZsW e1'
   have e3':(relabel scope X.env).names.lookup y=some .local\/(relabel scope X.env).names.lookup y=some .cell\/(relabel scope X.env).names.lookup y=some .free:=e3
   have hcf:(relabel scope X.env).names.lookup y=some .cell\/(relabel scope X.env).names.lookup y=some .free:=by
    rcases e3' with z|z
    ·exact absurd ((ZP sc.nc z).1 rfl) (ck.noN y yN hy0)
    ·exact z
   have hfree:scope.names.lookup y=some .free:=by
    rcases hcf with z|z
    ·exact(ZP sc.nc z).2 (.inl rfl)
    ·exact(ZP sc.nc z).2 (.inr rfl)
   obtain⟨c,hcl⟩:=Qt (X:=X) hfree
   have hcx:=Jx sc I.ok hcl
   have hvis:=sc.fr _ (PySem.mem_of_lookup hfree) rfl
   obtain⟨m,hn,hl⟩:=I.loc
   obtain⟨u,ru,hlook⟩:=hl i y v e1' e2 (.inr hvis)
   refine⟨u,ru,.inr ⟨hcf,c,hcl, ?_⟩⟩
   rcases hlook with ⟨k,_⟩|⟨k,c',ec,hcell⟩
   ·have k':X.env.scope.names.lookup y=some .local:=k
    have hv':X.env.scope.names.lookup y=some .cell\/X.env.scope.names.lookup y=some .free:=hvis
    rw[k'] at hv'
    rcases hv' with z|z<;>cases z
   ·rw[hcx] at ec;cases ec
    obtain⟨o,ho,hd⟩:=hcell
    exact⟨o,old _ _ ho,hd⟩
  ·obtain⟨v,o,ho,hd⟩:=I.cell y c (Jx sc I.ok e)
   exact⟨v,o,old _ _ ho,hd⟩
  ·have e:p=(D,{ cls:=.type "list",data:=.seq ([]:List Value).toArray 0 }):=by simpa[VT] using hp
   subst e
   exact⟨hacc,hfreshD,hDC,(fun z=>by
    rcases Zti.mp (I.stkSub D z) with e|e
    ·exact absurd I.lt (by rw[<- e,hDe];exact ZtV _)
    ·exact I.nofs (by rw[hDe];exact ZsX _) e),fun v z=>nomatch z⟩
 obtain⟨W,⟨m0,w0⟩,turn⟩:=hw
 have fpB:∀{H':Hp}{o:Obj},(∀b∈fp,H' b=none)->∀b∈fp,ZgF (VT X scope xs C fp s₂ H₂) [(D,o)] H' b:=fun {H' o} hn b hb=>by
  obtain⟨f0,f1,f2,f3,f4,f5⟩:=ff b hb
  obtain⟨g1,g2⟩:=okB.exf b hb
  exact⟨hn b hb,g1,okB.exfs b hb,.inl hb,g2,fun p hp=>by
   have e:p=(D,o):=by simpa[VT] using hp
   subst e
   exact(Zt1 (flt b hb)).symm⟩
 have hσ:σ.length=X.N.length:=I.len
 have loop:∀s₃:Shared,s₃={ s₂ with heap:=h₁,toks:=s₂.toks+([]:List (Str×Value)).length } ->
   codeAny (model X.prog X.w) X.A (.compLoop (.ListComp elt [⟨tg,iter,ifs,0⟩] scope pos) 0 (.ref it) (.ref D) (compEnvC scope (Zaj scope X.env) C X.env)) (RR (.ref D) C) s₃:=by
  rintro s₃ rfl
  refine Uf
   (fun n s'=>∃i ys its k σx H',σx.length=xs.length/\Inv (VT X scope xs C fp s₂ H₂) [(D,{ cls:=.type "list",data:=.seq (List.toArray its) k })] (σ++σx) H' s'/\tn i s'.heap/\(∀b∈fp,H' b=none)/\ZR ys its/\W i n ys H') ?_ m0
   ⟨0,[],[],0,List.replicate xs.length none,H₂,by simp,I0,T.keep _ _ _ st (fun b hb o e=>old b o e),fun b hb=>(ff b hb).1,.nil,w0⟩
  rintro n s' ⟨i,ys,its,k,σx,H',hσx,I',st',fr',rv,w'⟩
  obtain⟨hz,hcase⟩:=turn i n ys H' w'
  have hpinD:=I'.pin (D,{ cls:=.type "list",data:=.seq (List.toArray its) k }) (by simp[VT])
  rcases hcase with ⟨stop,q⟩|⟨go,N,hN,step⟩
  ·refine thn (T.done (VT X scope xs C fp s₂ H₂) rfl rfl rfl hc i _ s' _ H' _ I' (fpB fr') st' stop) fun r s4 ⟨hr,I4⟩=>?_
   subst hr
   have pD:=I4.pin (D,{ cls:=.type "list",data:=.seq (List.toArray its) k }) (by simp[VT])
   obtain⟨m4,hn4,_⟩:=I4.loc
   have IX:Inv X pins σ H' s4:=I.call' I4.os I4.base I4.hok I4.bare fun b hb=>by
    obtain⟨f0,f1,f2,f3,f4,f5⟩:=ff b hb
    exact⟨f3,f1,f4,f5⟩
   have IX2:=IX.adopt (D:=D) (ys:=ys) (its:=its) (n:=k) hpinD.2.1 (by rw[<- hDe];exact I.sz) (by rw[<- hDe];exact ZuO I.lt)
    (fun y c e z=>by
     obtain⟨v,o,ho,hd⟩:=I.cell y c e
     have:=Heap.lt_size ho
     rw[hDe,z] at this
     exact ZtV _ this)
    (fun p hp z=>by
     have:=Heap.lt_size (I.pin p hp).1
     rw[hDe,z] at this
     exact ZtV _ this) pD.1 rv hz
   refine hRR D C s4 _ m4 (by rw[hDe];exact hCle) IX2 hn4 ?_ (q D hpinD.2.1)
   rw[Zo (Ne.symm hDC)]
   exact I4.free
  ·refine thn (T.item (VT X scope xs C fp s₂ H₂) rfl rfl rfl hc i _ s' _ H' _ I' (fpB fr') st' go) fun r s4 ⟨u,hr,h4⟩=>?_
   subst hr
   refine thn h4 fun _ s5 ⟨y,H5,I5,r5,y5,st5,fr5⟩=>?_
   have I5':=I5.pinned (fpB fr5) (T.obj _ _ st5)
   obtain⟨vs,bd5,stp⟩:=step y H5 y5
   refine thn (hb C s₂ H₂ fp _ s5 σ σx H5 y u vs _ hσ hσx I5' r5 bd5) fun _ s6 I6=>?_
   refine thn (ht C s₂ H₂ fp _ s6 _ H5 _ _ I6 stp) fun ok s6' hok=>?_
   obtain⟨H6',I6',q6'⟩:=hok
   have hvl:=hvs _ _ _ bd5
   have stay:∀{s9:Shared}{H9:Hp}{ys':List V}{its':List Value}{k':Nat},True:=fun {_ _ _ _ _}=>trivial
   cases ok with
   |false =>
    rw[if_neg Bool.false_ne_true] at q6' ⊢
    have pD6:=I6'.pin (D,{ cls:=.type "list",data:=.seq (List.toArray its) k }) (by simp[VT])
    obtain⟨m',hm,w8⟩:=hN _ _ q6'
    refine⟨m',hm,i+1,ys,its,k,vs.map some,H6',by simp[hvl],I6'.pins_of fun p hp=>?_, ?_,fun b hb'=>?_,rv,w8⟩
    ·have e:p=(D,{ cls:=.type "list",data:=.seq (List.toArray its) k }):=by simpa using hp
     subst e
     exact⟨pD6.1,pD6.2.1,pD6.2.2.1,pD6.2.2.2.1,fun v z=>nomatch z⟩
    ·refine T.keep _ _ _ st5 fun b hb' o e=>?_
     exact(I6'.pin (b,o) (ZsY _ (ZsY _ (JG hb' e)))).1
    ·obtain⟨o,e,d⟩:=T.obj _ _ st5 b hb'
     exact(I6'.pin (b,o) (ZsY _ (ZsY _ (JG hb' e)))).2.1
   |true =>
   rw[if_pos rfl] at q6' ⊢
   refine wpAny_mono (he C s₂ H₂ fp _ s6' _ H6' _ I6' q6') (fun u7 s7 h7=>?_) fun _ _ f=>f.elim
   obtain⟨v7,H7,I7,r7,n7⟩:=h7
   have pD7:=I7.pin (D,{ cls:=.type "list",data:=.seq (List.toArray its) k }) (by simp[VT])
   have hlen:=rv.length
   refine append_at (hsz:=by show its.toArray.size<=sizeLine;rw[Ztc,<- hlen];exact hz) pD7.1 fun h8 hs8 hD8=>?_
   obtain⟨m',hm,w8⟩:=hN _ _ n7
   have hD8':h8.get? D=some { cls:=.type "list",data:=.seq (its++[u7]).toArray (k+1) }:=by rw[hD8,List.push_toArray]
   have I8:Inv (VT X scope xs C fp s₂ H₂) [] (σ++vs.map some) H7 { s7 with heap:=h8 }:=by
    refine(I7.pins_of (pins':=[]) fun p hp=>absurd hp (by simp)).turned (t':=s7.toks) (it:=D) (fun b o hb e=>(hs8.2 b hb).trans e) pD7.2.1 pD7.2.2.1 (.inr (by show s₂.heap.objs.size<=D;rw[hDe];exact ZsX _)) (fun y' c' e' z=>?_) fun p hp=>absurd (show p∈([]:List (Addr×Obj)) from by simpa[VT] using hp) (by simp)
    obtain⟨v,o,ho,hd⟩:=I.cell y' c' (Jx sc I.ok e')
    have:=Heap.lt_size ho
    rw[hDe,z] at this
    exact ZtV _ this
   refine⟨m',hm,i+1,ys++[v7],its++[u7],k+1,vs.map some,H7,by simp[hvl],I8.pins_of fun p hp=>?_, ?_,fun b hb'=>?_,rv.append (.cons r7 .nil),w8⟩
   ·have e:p=(D,{ cls:=.type "list",data:=.seq (its++[u7]).toArray (k+1) }):=by simpa using hp
    subst e
    exact⟨hD8',pD7.2.1,pD7.2.2.1,pD7.2.2.2.1,fun v z=>nomatch z⟩
   ·refine T.keep _ _ _ st5 fun b hb' o e=>?_
    have hpb:=I7.pin (b,o) (ZsY _ (ZsY _ (JG hb' e)))
    exact(hs8.2 b (Zt1 (flt b hb'))).trans hpb.1
   ·obtain⟨o,e,d⟩:=T.obj _ _ st5 b hb'
    exact(I7.pin (b,o) (ZsY _ (ZsY _ (JG hb' e)))).2.1
 exact codeAny_compStart_list (loop _ rfl) (T.self _ 0 _ _ _ (T.keep _ _ _ st fun b hb o e=>old b o e) (loop _ rfl))
theorem Zd0{c:Expr}(hx:∀e s,X.xe e s->False)(h:PT X c tt):PCi X [c] tt:=fun pins s σ H Q E I q =>
 wpAny_tests_one (wpAny_mono (h pins s σ H Q I q) (fun _ _ z=>z) fun e s z=>(hx e s z).elim)
theorem VZ{px:Pos}(hNd:X.N.Nodup)(hchk:JE X.N X.env.scope scope [x]=true:=by rfl):PB X scope [x] (.Name x px) tB1:=by
 intro C s₂ H₂ ex pins s σ σx H y u vs E hσ hσx I r hb
 have ck:=Vr hchk
 have sc:=ck.scs x (by simp)
 have hb:vs=[y]:=hb
 subst hb
 have ndB:=ck.nd
 refine wpAny_assign_Name ?_
 refine Qi (X:=VT X scope [x] C ex s₂ H₂) (i:=X.N.length) (x:=x) (v:=y) I ndB (by simp[VT]) (.inl (lookup_relabel_local sc.var)) r (fun s6 I6=>?_) (.inr (lookup_relabel_local sc.var))
 obtain⟨o,rfl⟩:∃o,σx=[o]:=by
  cases σx with
  |nil=>simp at hσx
  |cons a l =>
   cases l with
   |nil=>exact⟨a,rfl⟩
   |cons b l=>simp at hσx
 have eσ:(σ++[o]).set X.N.length (some y)=σ++[some y]:=by
  rw[<- hσ];simp
 rw[eσ] at I6
 exact I6
theorem ZjV{α:Type}:∀{l:List α},l.length=2->∃a b,l=[a,b]
 |[a,b],_=>⟨a,b,rfl⟩
theorem Zj8{x y:Str}{px py tp:Pos}{k:Nat}(hNd:X.N.Nodup)(hc:X.calm=true)(hchk:JE X.N X.env.scope scope [x,y]=true:=by rfl):PB X scope [x,y] (.Tuple [.Name x px,.Name y py] k tp) (tB2 X.K):=by
 intro C s₂ H₂ ex pins s σ σx H v u vs E hσ hσx I r hb
 have ck:=Vr hchk
 have sx:=ck.scs x (by simp)
 have sy:=ck.scs y (by simp)
 obtain⟨t,a,b,rfl,hq,rfl⟩:=hb
 have ndB:=ck.nd
 obtain⟨o1,o2,rfl⟩:=ZjV hσx
 have e1:(σ++[o1,o2]).set X.N.length (some a)=σ++[some a,o2]:=by
  rw[<- hσ];simp
 have e2:(σ++[some a,o2]).set (X.N.length+1) (some b)=σ++[some a,some b]:=by
  rw[<- hσ]
  show List.set (σ++([some a,o2]:St)) _ _=_
  rw[ZuR _ _ (ZuA _)]
  simp
 have g1:PG (VT X scope [x,y] C ex s₂ H₂) (.Name x px) (QP X.N.length):=Jb ndB (by
  show (X.N.map (Zbg [x,y])++[x,y])[X.N.length]?=some x
  rw[Zth (by simp)];simp) (.inl (lookup_relabel_local sx.var)) (.inr (lookup_relabel_local sx.var))
 have g2:PG (VT X scope [x,y] C ex s₂ H₂) (.Name y py) (QP (X.N.length+1)):=Jb ndB (by
  show (X.N.map (Zbg [x,y])++[x,y])[X.N.length+1]?=some y
  rw[Zth (by simp)];simp) (.inl (lookup_relabel_local sy.var)) (.inr (lookup_relabel_local sy.var))
 have g:PG (VT X scope [x,y] C ex s₂ H₂) (.Tuple [.Name x px,.Name y py] k tp) (Zn9 X.K 2 (Zkd (QP X.N.length) (Zkd (QP (X.N.length+1)) ZnB))):=Zlc (X:=VT X scope [x,y] C ex s₂ H₂) hc (Zdx g1 (Zdx g2 Zj4))
 refine wpAny_mono (g pins s _ H _ _ (fun σ' H'=>σ'=σ++[some a,some b]/\H'=H) I r ⟨t,[a,b],rfl,hq,rfl,a,[b],rfl,b,[],rfl,rfl, ?_⟩) (fun _ s' hq'=>?_) fun _ _ z=>z.elim
 ·exact⟨by rw[e1,e2],rfl⟩
 ·obtain⟨σ',H',I',e3,e4⟩:=hq'
  subst e3 e4
  exact I'
theorem VF{wi:TI}(hi:PI X tg iter wi)(hb:PB X scope xs tg Bd)(ht:∀C s₂ H₂ ex,PCi (VT X scope xs C ex s₂ H₂) ifs tt)(he:∀C s₂ H₂ ex,PE (VT X scope xs C ex s₂ H₂) elt te)(hvs:∀x H vs,Bd x H vs->vs.length=xs.length)(hNd:X.N.Nodup)(hc:X.calm=true)(hclos:closureFor scope X.env=pure (Zaj scope X.env):=by rfl)(hchk:JE X.N X.env.scope scope xs=true:=by rfl)(hs:∀x,foldedSetIterable iter X.env x=pure x:=by exact fun _=>rfl) :
  PE X (.ListComp elt [⟨tg,iter,ifs,0⟩] scope pos) (Zam wi Bd tt te):=by
 intro pins s σ H Q I h
 have ck:=Vr hchk
 obtain⟨x,hx⟩:=ck.ex
 have sc:=ck.scs x hx
 rw[eval_ListComp]
 refine wpAny_comprehension_free (use:=none) rfl hs hclos sc.kind sc.locs (thn (hi pins s σ H _ I h) fun xv s₁ h₁=>thn h₁ fun itv s₂ h₂=>?_)
 obtain⟨it,fp,tn,J,H2,e,I2,T,st2,f2,q⟩:=h₂
 subst e
 refine ZbZ (RR:=fun acc C=>compPost (model X.prog X.w) X.A X.xe none (EP X pins σ Q) acc C) I2 ck hx hNd hc T st2 f2 q hb ht he hvs ?_
 intro D C s' H' m' hC I' hn hC0 hq
 refine⟨m',hn,fun h'' hs''=>⟨.ref D,H', ?_,rfl,hq⟩⟩
 refine I'.turned (t':=s'.toks) (it:=C) (fun b o hb e=>(hs''.2 b hb).trans e) hC0 (ZuO (Zto I2.lt hC)) (.inr (Ztr I2.sz hC)) (fun y c e z=>?_) fun p hp z=>?_
 ·obtain⟨v,o,ho,hd⟩:=I2.cell y c e
  exact absurd (Heap.lt_size ho) (Zvs.mpr (by rw[z];exact hC))
 ·exact absurd (Heap.lt_size (I2.pin p hp).1) (Zvs.mpr (by rw[z];exact hC))
noncomputable def Q1(i:Nat)(wi:TI)(Bd:TB)(tt:TT)(te:TE):TS:=fun D σ H=>Zam wi Bd tt te σ H fun v H'=>D.nx (σ.set i (some v)) H'
theorem Q6{i:Nat}{y:Str}{py spos:Pos}{wi:TI}(hN:X.N.Nodup)(hi:X.N[i]?=some y)(hit:PI X tg iter wi)(hb:PB X scope xs tg Bd)(ht:∀C s₂ H₂ ex,PCi (VT X scope xs C ex s₂ H₂) ifs tt)(he:∀C s₂ H₂ ex,PE (VT X scope xs C ex s₂ H₂) elt te)(hvs:∀x H vs,Bd x H vs->vs.length=xs.length)(hc:X.calm=true)(hsw:swapsWith (.ListComp elt [⟨tg,iter,ifs,0⟩] scope pos) (some (.Name y py)) spos.line X.env=pure true:=by rfl)(hy:X.env.scope.names.lookup y=some .local:=by rfl)(hclos:closureFor scope X.env=pure (Zaj scope X.env):=by rfl)(hchk:JE X.N X.env.scope scope xs=true:=by rfl)(hs:∀x,foldedSetIterable iter X.env x=pure x:=by exact fun _=>rfl) :
  PS X (.Assign [.Name y py] (.ListComp elt [⟨tg,iter,ifs,0⟩] scope pos) spos) (Q1 i wi Bd tt te):=by
 intro pins s σ H D0 I h
 have ck:=Vr hchk
 obtain⟨x,hx⟩:=ck.ex
 have sc:=ck.scs x hx
 rw[exec_Assign_Name_used _ _ _ _ hsw]
 refine wpAny_bind (wpAny_standAt (wpAny_bind ?_))
 show wpAny _ X.A (do let _ <- comprehension (.ListComp elt [⟨tg,iter,ifs,0⟩] scope pos) scope X.env _ (newList []) false (eval iter X.env) (some (assign (.Name y py) X.env))) _ _ s
 refine wpAny_bind (wpAny_mono (wpAny_comprehension_free (use:=some (assign (.Name y py) X.env)) (Q:=fun _ s'=>SP X pins D0 .next s') rfl hs hclos sc.kind sc.locs
  (thn (hit pins s σ H _ I h) fun xv s₁ h₁=>thn h₁ fun itv s₂ h₂=>?_)) (fun _ s' hq=>wpAny_pure (wpAny_pure hq)) fun _ _ e=>e)
 obtain⟨it,fp,tn,J,H2,e,I2,T,st2,f2,q⟩:=h₂
 subst e
 refine ZbZ (RR:=fun acc C=>compPost (model X.prog X.w) X.A X.xe (some (assign (.Name y py) X.env)) (fun _ s'=>SP X pins D0 .next s') acc C) I2 ck hx hN hc T st2 f2 q hb ht he hvs ?_
 intro D C s' H' m' hC I' hn hC0 hq
 show wpAny _ X.A (assign (.Name y py) X.env (.ref D)) _ _ _
 have cellC:∀y c,X.env.cells.lookup y=some c->c≠C:=fun y c e z=>by
  obtain⟨v,o,ho,hd⟩:=I2.cell y c e
  exact absurd (Heap.lt_size ho) (Zvs.mpr (by rw[z];exact hC))
 have locC:C≠X.env.locals:=ZuO (Zto I2.lt hC)
 refine wpAny_assign_Name (Zb7 (i:=i) (v:=.ref D) I' hN hi (.inl hy) rfl (fun s'' I'' ⟨a,hsa,ha⟩=>?_) (.inr hy))
 have hCa:C≠a:=by
  rcases ha with z|z
  ·rw[z];exact locC
  ·exact(cellC _ _ z).symm
 refine⟨m',hn.sameBut hsa hCa,fun h'' hs''=>⟨σ.set i (some (.ref D)),H', ?_,hq⟩⟩
 refine I''.turned (t':=s''.toks) (it:=C) (fun b o hb e=>(hs''.2 b hb).trans e) hC0 locC (.inr (Ztr I2.sz hC)) cellC fun p hp z=>?_
 exact absurd (Heap.lt_size (I2.pin p hp).1) (Zvs.mpr (by rw[z];exact hC))
end
noncomputable def ZcD{α β:Type}(f:α->Rr (Option β)):List α->Rr (List β)
 |[]=>.ok []
 |x::xs=>(f x).bind fun o=>(ZcD f xs).bind fun ys=>.ok (o.toList++ys)
def DB(K:W.Frag)(Bd:TB)(k:Nat)(hb:PV->Rr (List PV)):Prop:=(∀x e,hb x≠.exc e)/\∀(H:Hp) (S:Addr->Prop) (x:PV) (v:V) (xs:List PV),Rep K H S x v->hb x=.ok xs->xs.length=k/\∃vs,Bd v H vs/\Reps K H S xs vs
theorem ZkB{K:W.Frag}:DB K tB1 1 (fun x=>.ok [x]):=⟨fun x e h=>(by cases h),fun H S x v xs r h=>by
 cases h
 exact⟨rfl,[v],rfl,v,[],rfl,r,rfl⟩⟩
theorem ZnS{K:W.Frag}:DB K (tB2 K) 2 (asT 2):=by
 refine⟨fun x e h=>?_,fun H S x v xs r h=>?_⟩
 ·unfold asT at h
  split at h
  ·split at h<;>cases h
  ·cases h
 ·unfold asT at h
  split at h
  ·rename_i ys
   split at h
   ·rename_i hl
    cases h
    obtain⟨a,vs,rfl,hq,hr⟩:=r
    refine⟨hl,vs, ?_,hr⟩
    match xs,vs,hl,hr,hq with
    |[p,q],vs,_,hr,hq =>
     obtain⟨u,w,rfl,_,_⟩:=ZkX hr
     exact⟨a,u,w,rfl,hq.sqT,rfl⟩
   ·cases h
  ·cases h
section
variable {K:W.Frag}{B:Addr->Prop}{EX:PX->Hp->Prop}{H0 H H':Hp}{σ:St}{Γ Γ' Γ1 Γ2:List Md}{ρ:List PV}{F:Nat->List Addr}{R:List Addr}{k:Nat}{x:PV}{v:V}{te:TE}{tt:TT}{f fe:List PV->Rr PV}{c:List PV->Rr Bool}{Bd:TB}{hb:PV->Rr (List PV)}
theorem Zgh:DT K EX Γ Γ ZkK (fun _=>.ok true):=fun B H0 H σ ρ F R Q A d=>d H F (Z7.refl H) (fun _ _ h=>h) A
theorem Ag.pushN:∀{xs:List PV}{vs:List V}{σ:St}{Γ:List Md}{ρ:List PV},Reps K H (NO B F R) xs vs->Ag K B H0 H σ Γ ρ F R->Ag K B H0 H (σ++vs.map some) (Γ++List.replicate xs.length .S) (ρ++xs) F R
 |[],vs,σ,Γ,ρ,h,A=>by
  have h:vs=[]:=h
  subst h
  simpa using A
 |x::xs,vs,σ,Γ,ρ,h,A=>by
  obtain⟨v,r,rfl,h1,h2⟩:=h
  have:=Ag.pushN (xs:=xs) (vs:=r) h2 (A.push h1)
  simpa[ZtT] using this
theorem Ag.popN{n:Nat}{τ:St}{xs:List PV}(A:Ag K B H0 H (σ++τ) (Γ++List.replicate n .S) (ρ++xs) F R)(l1:σ.length=Γ.length)(l2:ρ.length=Γ.length):Ag K B H0 H σ Γ ρ F R:=by
 refine⟨A.same,A.own,A.young,A.youngR,A.live,A.liveR,A.disj,A.disjR,l1,l2,fun i=>?_⟩
 have:=A.slot i
 by_cases h1:i<Γ.length
 ·rw[ZsS,ZsS,Ztl h1,Ztl (by rw[l2];exact h1),Ztl (by rw[l1];exact h1),<- ZsS,<- ZsS] at this
  exact this
 ·rw[ZsS,Ztt (by omega)]
  by_cases h2:i<Γ.length+n
  ·rw[ZsS,Zth (by omega),ZuC,if_pos (by omega)] at this
   simp only[ZtZ] at this
   exact this.1
  ·exact A.outF (by simp;omega)
theorem Vq{wi:TI}{fi:List PV->Rr (List PV)}(hi:DIc K EX Γ Γ1 wi fi)(hB:DB K Bd k hb)(ht:DT K EX (Γ1++List.replicate k .S) (Γ1++List.replicate k .S) tt c)(he:DE K EX (Γ1++List.replicate k .S) (Γ1++List.replicate k .S) .F te fe) :
  DE K EX Γ Γ1 .F (Zam wi Bd tt te) (fun ρ=>(fi ρ).bind fun xs=>(lenM xs).bind fun _=>(ZcD (fun x=>(hb x).bind fun as=>(c (ρ++as)).bind fun b=>if b=true then (fe (ρ++as)).bind fun y=>.ok (some y) else .ok none) xs).bind fun ys=>.ok (.lst ys)):=fun B H0 H σ ρ F R Q A d=>by
 refine hi B H0 H σ ρ F R _ A (d.bind.imp (fun xs _ d J H1 F1 s1 f1 A1 it=>?_) fun e q=>q)
 obtain⟨hlen,d⟩:=Dn.lenM d.bind
 generalize hgx:(fun x=>(hb x).bind fun as=>(c (ρ++as)).bind fun b=>if b=true then (fe (ρ++as)).bind fun y=>Rr.ok (some y) else .ok none)=gx at d
 have l1:=A1.lenS
 have l2:=A1.lenR
 refine⟨fun i m ys H2=>∃zs G F2,m=xs.length-i/\i<=xs.length/\ys.length<=i/\Z7 H1 H2/\Trees K H2 zs ys G/\(∀a∈G,a ∉ R/\(H1 a=none\/∃j,a∈F1 j))/\(∀i,∀a∈F2 i,a∈F1 i)/\Ag K B H0 H2 σ Γ1 ρ F2 (G++R) /\
  Dn ((ZcD gx (xs.drop i)).bind fun ys'=>.ok (.lst (zs++ys'))) (fun x=>∀v H',Z7 H H'->Res K B H0 H σ Γ1 ρ F R .F x v H'->Q v H') (fun e=>∀H',Z7 H0 H'->EX e H'),
  ⟨xs.length,[],[],F1,by simp,ZtB _,ZsX _,Z7.refl _,⟨rfl,rfl⟩,by simp,fun _ _ h=>h,A1,by simpa using d⟩, ?_⟩
 rintro i m ys H2 ⟨zs,G,F2,rfl,hi',hl,s2,tr,o2,f2,A2,dn⟩
 refine⟨JB (by omega), ?_⟩
 have itp:=it H2 F2 s2 f2 i
 cases hx:xs[i]? with
 |none =>
  refine .inl ⟨itp.2 hx,fun p hp=>?_⟩
  have hd:xs.drop i=[]:=ZuI (ZtI.mp hx)
  rw[hd] at dn
  have dn':∀v H',Z7 H H'->Res K B H0 H σ Γ1 ρ F R .F (.lst (zs++[])) v H'->Q v H':=dn
  rw[Zua] at dn'
  exact dn' _ _ ((s1.trans s2).trans (Z7.new hp)) (Res.newF (s1.trans s2) (fun i a h=>f1 i a (f2 i a h)) tr (fun a ha=>⟨(o2 a ha).1,(o2 a ha).2.elim (fun z=>.inl (s1.free z)) fun⟨j,z⟩=>.inr ⟨j,f1 j a z⟩⟩) A2 hp)
 |some x =>
  have hlt:i<xs.length:=(ZsU.mp hx).1
  obtain⟨go,yl⟩:=itp.1 x hx
  have hdx:xs.drop i=x::xs.drop (i+1):=by
   rw[Ztq hlt]
   rw[ZsT hlt] at hx;cases hx;rfl
  rw[hdx] at dn
  simp only[ZcD,Rr.assoc] at dn
  rw[<- hgx] at dn
  simp only[Rr.assoc] at dn
  rw[hgx] at dn
  refine .inr ⟨go,fun ys' H'=>∃zs G F2,ys'.length<=i+1/\Z7 H1 H'/\Trees K H' zs ys' G/\(∀a∈G,a ∉ R/\(H1 a=none\/∃j,a∈F1 j))/\(∀i,∀a∈F2 i,a∈F1 i)/\Ag K B H0 H' σ Γ1 ρ F2 (G++R) /\
   Dn ((ZcD gx (xs.drop (i+1))).bind fun ys'=>.ok (.lst (zs++ys'))) (fun x=>∀v H',Z7 H H'->Res K B H0 H σ Γ1 ρ F R .F x v H'->Q v H') (fun e=>∀H',Z7 H0 H'->EX e H'),
   fun ys' H' ⟨zs,G,F2,a1,a2,a3,a4,a5,a6,a7⟩=>⟨xs.length-(i+1),by omega,zs,G,F2,rfl,hlt,a1,a2,a3,a4,a5,a6,a7⟩,fun v H3 y=>?_⟩
  obtain⟨s3,rx⟩:=yl v H3 y
  have rx':Rep K H3 (NO B F2 (G++R)) x v:=Rep.mono (fun a us s r=>⟨r,s.1.1,fun z=>by
   rcases Zta.mp z with z|z
   ·rcases (o2 a z).2 with q|⟨j,q⟩
    ·exact s.2.1 q
    ·exact s.2.2 j q
   ·exact s.1.2.1 z,s.1.2.2⟩) (fun a us r=>r) rx
  cases hbx:hb x with
  |exc e=>exact absurd hbx (hB.1 x e)
  |bad=>rw[hbx] at dn;exact dn.elim
  |ok as =>
   rw[hbx] at dn
   simp only[Rr.bind_ok] at dn
   obtain⟨hk,vs,bd,ra⟩:=hB.2 H3 _ x v as rx' hbx
   refine⟨vs,bd, ?_⟩
   have A3:=Ag.pushN ra (A2.grow s3)
   rw[hk] at A3
   refine ht B H0 H3 _ _ F2 (G++R) _ A3 (dn.bind.imp (fun b _ dn H4 F4 s4 f4 A4=>?_) fun e q=>q)
   cases b with
   |false =>
    rw[if_neg Bool.false_ne_true] at dn ⊢
    simp only[Rr.bind_ok,Zvk] at dn
    refine⟨zs,G,F4,by omega,(s2.trans s3).trans s4,(tr.same s3).same s4,o2,fun i a h=>f2 i a (f4 i a h),A4.popN l1 l2, ?_⟩
    simp only[Rr.assoc,Rr.bind_ok,Zuh] at dn
    exact dn
   |true =>
    rw[if_pos rfl] at dn ⊢
    simp only[Rr.assoc] at dn
    refine he B H0 H4 _ _ F4 (G++R) _ A4 (dn.bind.imp (fun z _ dn w H5 s5 r5=>?_) fun e q=>q)
    obtain⟨F5,f5,G5,t5,o5,A5⟩:=r5
    refine⟨zs++[z],G++G5,F5,by simp;omega,((s2.trans s3).trans s4).trans s5,Trees.append (((tr.same s3).same s4).same s5) (Trees.one t5) (fun a ha z=>(o5 a z).1 (Ztb _ ha)),fun a ha=>?_,fun i a h=>f2 i a (f4 i a (f5 i a h)),(A5.popN l1 l2).less fun a ha=>?_, ?_⟩
    ·rcases Zta.mp ha with z|z
     ·exact o2 a z
     ·refine⟨fun q=>(o5 a z).1 (ZsY _ q), ?_⟩
      rcases (o5 a z).2 with q|⟨j,q⟩
      ·exact .inl (((s2.trans s3).trans s4).free q)
      ·exact .inr ⟨j,f2 j a (f4 j a q)⟩
    ·simp only[Zta] at ha ⊢
     rcases ha with (z|z)|z
     ·exact .inr (.inl z)
     ·exact .inl z
     ·exact .inr (.inr z)
    ·simp only[Rr.assoc,Rr.bind_ok,Zvk,Ztf,Zuz] at dn ⊢
     exact dn
theorem Ue{EX:PX->Hp->Prop}{kd:Kd}{i:Nat}{wi:TI}(he:DE K EX Γ Γ' .F (Zam wi Bd tt te) f)(hi:i<Γ'.length):DS K EX Γ ⟨Γ'.set i .O,Γ1,Γ2,kd⟩ (Q1 i wi Bd tt te) (fun ρ=>(f ρ).thenS fun x=>.next (ρ.set i x)):=ZH he hi
end
theorem hv1{n:Str}:∀(x:V) (H:Hp) (vs:List V),tB1 x H vs->vs.length=[n].length:=fun _ _ _ h=>congrArg List.length h
theorem hv2{K:W.Frag}{n m:Str}:∀(x:V) (H:Hp) (vs:List V),tB2 K x H vs->vs.length=[n,m].length:=fun _ _ _ ⟨_,_,_,_,_,h⟩=>congrArg List.length h
theorem Zhl{X:Cx}{K:W.Frag}{scope:Scope}{x y:Str}{px py tp:Pos}{k:Nat}(hNd:X.N.Nodup)(hc:X.calm=true)(hchk:JE X.N X.env.scope scope [x,y]=true:=by rfl)(e:X.K=K:=by rfl):PB X scope [x,y] (.Tuple [.Name x px,.Name y py] k tp) (tB2 K):=by subst e;exact Zj8 hNd hc hchk
section
end
theorem Qn{xs:List PV}{y:PV}(h:xs.length<1000000):pApp (.lst xs) y=.ok (.lst (xs++[y])):=if_pos h
theorem Znl{a b:PV}:asT 2 (.tup [a,b])=.ok [a,b]:=rfl
noncomputable def ZnH:Nat:=4000000
def Zmw(i j:Int):Prop:=i.natAbs<2^ZnH/\j.natAbs<2^ZnH
noncomputable instance (i j:Int):Decidable (Zmw i j):=by unfold Zmw;infer_instance
end L2
namespace Att
open PySem PySem.W PySem.Calls PyProof.Rows
end Att
namespace L2
open PySem PySem.Spec PyProof.Rows
section
variable {X:Cx}{K:W.Frag}
theorem Zin(hc:X.calm=true):Vc X (.builtin "any") (fun xs H Q=>∃p,∃bs:List Bool,xs=[.ref p]/\SqL X.K H p (bs.map V.bl)/\Q (.bl (bs.any id)) H):=by
 intro pins s σ H xs us Q I r h
 obtain⟨p,bs,rfl,hq,q⟩:=h
 obtain⟨u,rfl,rx⟩:=UX r
 cases rx
 obtain⟨its,r',pl,hz⟩:=I.list hq
 have hb:=Ug r'
 have hlt:p<s.heap.objs.size:=by obtain⟨_,e,_⟩:=pl.isList;exact Heap.lt_size e
 refine call_any_walk (wpAny_pyIter_list pl.isList ?_)
 refine⟨s.heap.objs.size,[s.heap.objs.size,p],[s.heap.objs.size],its.toArray.size,_,_,fun i=>(bs[i]?).getD false,rfl,Walks.list (A:=X.A.in1) (I.ok.hd hc) _ p (Zt1 hlt) its.toArray,
  ⟨⟨_,Heap.get?_push_size _ rfl,rfl,rfl⟩,pl.isList.push _⟩,fun i v s' Q' E' hP hQ=>?_,fun h' tk hk=>?_⟩
 ·obtain⟨b,e,rfl⟩:=hb.get i v (by simpa using hP)
  dsimp only at hQ
  rw[e,ZtZ] at hQ
  exact wpAny_truthy_bool hQ
 ·have e:(List.range its.toArray.size).any (fun i=>(bs[i]?).getD false)=bs.any id:=by
   rw[Ztc,hb.length,Bool.eq_iff_iff,Zvm,Zvm]
   constructor
   ·rintro⟨i,hi,hx⟩
    have hi:=Zty.mp hi
    rw[ZsT hi] at hx
    exact⟨bs[i],Zue _,hx⟩
   ·rintro⟨b,hb',hx⟩
    obtain⟨i,hi,rfl⟩:=List.getElem_of_mem hb'
    exact⟨i,Zty.mpr hi,by rw[ZsT hi];exact hx⟩
  rw[e]
  exact⟨.bl (bs.any id),H,I.kept (LSm.kept_iter hk),rfl,q⟩
theorem Zg4(hc:X.calm=true)(e:X.K=K:=by rfl):Vc X (.builtin "any") (fun xs H Q=>∃p,∃bs:List Bool,xs=[.ref p]/\SqL K H p (bs.map V.bl)/\Q (.bl (bs.any id)) H):=by subst e;exact Zin hc
end
noncomputable def Zly(xs:List PV):Rr PV:=match xs with
 |[.lst ys]=>match Zce ys with
  |some bs=>.ok (.bl (bs.any id))
  |none=>.bad
 |_=>.bad
theorem Zhz(bs:List Bool):Zly [.lst (bs.map PV.bl)]=.ok (.bl (bs.any id)):=by simp only[Zly,Zcd]
noncomputable def okE(x:PV):Bool:=x.noX&&x.dat.canLay0&&decide (x.dat.depth<=60)
noncomputable def Zm1(K:W.Frag)(g:Bool->Bool):R2:=fun x y H Q=>∃p qs a vs,Rep K H (fun _=>True) p x/\y=.ref a/\(SqL K H a vs\/SqT K H a vs)/\Reps K H (fun _=>True) qs vs/\okE p=true/\(qs.all okE)=true/\Q (.bl (g (qs.any fun q=>PyData.eqv q.dat p.dat))) H
open Classical in
noncomputable def Ze3(h:Heap)(dx:PyData)(y:Value):Bool:=if hy:∃d as,Reads h y d as/\d.canLay0=true/\d.depth<=60 then PyData.eqv hy.choose dx else false
section
variable {X:Cx}{K:W.Frag}
theorem ZbV{H:Hp}{pins:List (Addr×Obj)}{σ:St}{s:Shared}{S:Addr->Prop}(I:Inv X pins σ H s)(dx:PyData):∀{qs:List PV}{vs:List V}{us:List Value},Reps X.K H S qs vs->ZR vs us->(qs.all okE)=true ->
  (us.any (Ze3 s.heap dx)=qs.any fun q=>PyData.eqv q.dat dx)/\∀y∈us,∃d as,Reads s.heap y d as/\d.canLay0=true/\d.depth<=60
 |[],_,us,h,r,_=>by
  rw[h] at r;cases r
  exact⟨rfl,by simp⟩
 |q::qs,_,us,h,r,hk=>by
  obtain⟨v,vs,rfl,h1,h2⟩:=h
  simp only[List.all_cons,Bool.and_eq_true] at hk
  cases r with
  |cons r1 r2 =>
   rename_i u us
   obtain⟨e1,e2⟩:=ZbV I dx h2 r2 hk.2
   have h3:=hk.1
   simp only[okE,Bool.and_eq_true,decide_eq_true_eq] at h3
   obtain⟨as,ra⟩:=h1.reads I h3.1.1 r1
   have hx:∃d as,Reads s.heap u d as/\d.canLay0=true/\d.depth<=60:=⟨_,_,ra,h3.1.2,h3.2⟩
   refine⟨?_,fun y hy=>?_⟩
   ·have:Ze3 s.heap dx u=PyData.eqv q.dat dx:=by
     unfold Ze3
     rw[dif_pos hx]
     obtain⟨as',ra',c1,c2⟩:=hx.choose_spec
     rw[SeqAt.Reads.unique _ _ _ _ _ c1 ra' ra]
    rw[Zu1,Zu1,e1,this]
   ·rcases Zti.mp hy with rfl|hy
    ·exact hx
    ·exact e2 y hy
theorem ZiO{H:Hp}{pins:List (Addr×Obj)}{σ:St}{s:Shared}{g:Bool->Bool}{x y:V}{v u:Value}{Q:VK}(I:Inv X pins σ H s)(hu:X.A.units+64<cLine)(rx:Jn x v)(ry:Jn y u)(h:Zm1 X.K g x y H Q) :
  ∃a items,u=.ref a/\(s.heap.IsList a items\/s.heap.IsTuple a items)/\∃e:Value->Bool,(∀y,y∈items->SeqAt.EqAt X.A.in1 s y v (e y))/\Q (.bl (g (items.any e))) H:=by
 obtain⟨p,qs,a,vs,h1,rfl,hq,hr,h3,h4,q⟩:=h
 cases ry
 simp only[okE,Bool.and_eq_true,decide_eq_true_eq] at h3
 obtain⟨as,ra⟩:=h1.reads I h3.1.1 rx
 have fin:∀its:List Value,ZR vs its->(∀y,y∈its.toArray->SeqAt.EqAt X.A.in1 s y v (Ze3 s.heap p.dat y))/\Q (.bl (g (its.toArray.any (Ze3 s.heap p.dat)))) H:=fun its rv=>by
  obtain⟨e1,e2⟩:=ZbV I p.dat hr rv h4
  refine⟨fun y hy=>?_, ?_⟩
  ·have hx:=e2 y (by simpa using hy)
   unfold Ze3
   rw[dif_pos hx]
   obtain⟨as',ra',c1,c2⟩:=hx.choose_spec
   refine SeqAt.eqAt_reads _ _ _ _ _ _ _ _ ra' ra c1 h3.1.2 ?_
   have:=ZuY hx.choose.depth p.dat.depth
   have hin:X.A.in1.units<=X.A.units+1:=by simp[Around.in1]
   omega
  ·rw[List.any_toArray,e1];exact q
 rcases hq with hq|hq
 ·obtain⟨its,rv,pl,hz⟩:=I.list hq
  obtain⟨f1,f2⟩:=fin its rv
  exact⟨a,its.toArray,rfl,.inl pl.isList,_,f1,f2⟩
 ·obtain⟨its,rv,pl,hz⟩:=I.tuple hq
  obtain⟨f1,f2⟩:=fin its rv
  exact⟨a,its.toArray,rfl,.inr pl,_,f1,f2⟩
theorem ZiH(hu:X.A.units+64<cLine)(e:X.K=K:=by rfl):OpR X (compareOp .In) (Zm1 K id):=by
 subst e
 intro pins s σ H x y v u Q I rx ry h
 obtain⟨a,items,rfl,hl,e,he,q⟩:=ZiO I hu rx ry h
 rcases hl with hl|hl
 ·exact SeqAt.in_listAt e hl he ⟨.bl _,H,I,rfl,q⟩
 ·exact SeqAt.in_tupleAt e hl he ⟨.bl _,H,I,rfl,q⟩
theorem QB(hu:X.A.units+64<cLine)(e:X.K=K:=by rfl):OpR X (compareOp .NotIn) (Zm1 K (!·)):=by
 subst e
 intro pins s σ H x y v u Q I rx ry h
 obtain⟨a,items,rfl,hl,e,he,q⟩:=ZiO I hu rx ry h
 rcases hl with hl|hl
 ·exact SeqAt.notIn_listAt e hl he ⟨.bl _,H,I,rfl,q⟩
 ·exact SeqAt.notIn_tupleAt e hl he ⟨.bl _,H,I,rfl,q⟩
end
noncomputable def Zk8(g:Bool->Bool)(x y:PV):Rr PV:=match y with
 |.lst ys=>if (okE x&&ys.all okE)=true then .ok (.bl (g (ys.any fun q=>PyData.eqv q.dat x.dat))) else .bad
 |.tup ys=>if (okE x&&ys.all okE)=true then .ok (.bl (g (ys.any fun q=>PyData.eqv q.dat x.dat))) else .bad
 |_=>.bad
section
variable {K:W.Frag}{EX:PX->Hp->Prop}{Γ Γ' Γ1 Γ2:List Md}{tb tc:TE}{ta:TA}{fb fc:List PV->Rr PV}{fa:List PV->Rr (List PV)}
theorem ZbX{g:Bool->Bool}(ha:DE K EX Γ Γ1 .A tb fb)(hb:DE K EX Γ1 Γ2 .A tc fc):DE K EX Γ Γ2 .P (tOp (Zm1 K g) tb tc) (fun ρ=>(fb ρ).bind fun x=>(fc ρ).bind fun y=>Zk8 g x y):=by
 refine Zgo (fun {H x y v w Q} rx ry ⟨z,e,q⟩=>?_) (fun x y z h=>?_) (fun x y e h=>?_) ha hb
 ·unfold Zk8 at e
  split at e
  ·split at e
   ·rename_i ys hk
    cases e
    rw[Bool.and_eq_true] at hk
    obtain⟨a,vs,rfl,hn,hr⟩:=ry
    exact⟨x,_,a,vs,rx,rfl,.inl (JI (S:=fun _=>True) hn),hr,hk.1,hk.2,q rfl _ rfl⟩
   ·cases e
  ·split at e
   ·rename_i ys hk
    cases e
    rw[Bool.and_eq_true] at hk
    obtain⟨a,vs,rfl,hn,hr⟩:=ry
    exact⟨x,_,a,vs,rx,rfl,.inr hn.sqT,hr,hk.1,hk.2,q rfl _ rfl⟩
   ·cases e
  ·cases e
 ·unfold Zk8 at h
  split at h
  ·split at h<;>cases h;rfl
  ·split at h<;>cases h;rfl
  ·cases h
 ·unfold Zk8 at h
  split at h
  ·split at h<;>cases h
  ·split at h<;>cases h
  ·cases h
theorem Zmh(ha:DAA K EX Γ Γ' ta fa):DE K EX Γ Γ' .P (tCB (fun xs H Q=>∃p,∃bs:List Bool,xs=[.ref p]/\SqL K H p (bs.map V.bl)/\Q (.bl (bs.any id)) H) ta) (fun ρ=>(fa ρ).bind Zly):=by
 refine Ze7 (fun {H xs vs Q} h z e=>?_) (fun xs e h=>?_) ha
 ·unfold Zly at e
  split at e
  ·split at e
   ·rename_i bs hb
    cases e
    obtain⟨v,rfl,h1⟩:=VM h
    obtain⟨a,us,rfl,hn,hr⟩:=h1
    rw[Zbv hb] at hr
    have:=ZaN hr
    subst this
    exact⟨rfl,fun q=>⟨a,bs,rfl,JI (S:=fun _=>True) hn,q _ rfl⟩⟩
   ·cases e
  ·cases e
 ·unfold Zly at h
  split at h
  ·split at h<;>cases h
  ·cases h
end
theorem ZeM{c:List PV->Rr Bool}{b:List PV->RS}{ρ:List PV}{W:RS}(hw:Vs c b ρ=W)(I:List PV->Prop)(μ:List PV->Nat)(h0:I ρ)(hs:∀ρ,I ρ->c ρ=.ok false\/(c ρ=.ok true/\(b ρ).good fun ρ'=>I ρ'/\μ ρ'<μ ρ)):∃ρ',W=.next ρ'/\I ρ'/\c ρ'=.ok false:=by
 subst hw
 have key:∀n ρ,I ρ->μ ρ<n->∃ρ',Va c b n ρ=some (.next ρ')/\I ρ'/\c ρ'=.ok false:=by
  intro n
  induction n with
  |zero=>intro ρ _ h;omega
  |succ n ih =>
   intro ρ hI hμ
   rcases hs ρ hI with h|⟨h1,h2⟩
   ·refine⟨ρ, ?_,hI,h⟩
    unfold Va
    rw[h]
   ·obtain⟨ρ',h3,h4,h5⟩:=RS.good_ex h2
    obtain⟨ρ2,h6,h7⟩:=ih ρ' h4 (by omega)
    refine⟨ρ2, ?_,h7⟩
    unfold Va
    rw[h1]
    rcases h3 with h3|h3<;>(rw[h3];exact h6)
 obtain⟨ρ',h1,h2⟩:=key (μ ρ+1) ρ h0 (Zu7 _)
 exact⟨ρ',Qw h1,h2⟩
theorem Zgg{ns:List Int}{f:PV->Rr (Option PV)}{g:Nat->PV}(h:∀i,i<ns.length->f (.tup [.int i,.int (ns.getD i 0)])=.ok (some (g i))):ZcD f (Zah (ns.map PV.int))=.ok ((List.range ns.length).map g):=by
 have e:Zah (ns.map PV.int)=(List.range ns.length).map fun i=>PV.tup [.int (i:Nat),.int (ns.getD i 0)]:=by
  apply ZtL
  intro i
  unfold Zah
  rw[ZuU,ZsZ,ZsZ]
  by_cases hi:i<ns.length
  ·rw[ZsT hi,ZtO hi]
   simp[ZsS,ZsT hi]
  ·rw[Ztt (by omega),Ztt (by simpa using hi)];rfl
 rw[e]
 have:∀l:List Nat,(∀i∈l,i<ns.length)->ZcD f (l.map fun i=>PV.tup [.int (i:Nat),.int (ns.getD i 0)])=.ok (l.map g):=by
  intro l
  induction l with
  |nil=>intro _;rfl
  |cons a l ih =>
   intro hl
   simp only[Zte,ZcD,h a (hl a (by simp)),Rr.bind_ok,ih fun i hi=>hl i (by simp[hi]),Zvk,Zuz]
 exact this _ fun i hi=>Zty.mp hi
section
end
noncomputable def ZnW(x:PV):Rr (List PV):=match x with
 |.tup xs=>.ok xs
 |_=>.bad
section
variable {K:W.Frag}{H:Hp}{EX:PX->Hp->Prop}{Γ Γ':List Md}{te:TE}{f:List PV->Rr PV}
theorem ZjZ{a:Addr}{xs:List PV}{S:Addr->Prop}(h:Rep K H S (.tup xs) (.ref a)):ItP K S (Itt K a) xs H:=by
 obtain⟨a',vs,e,hn,hr⟩:=h
 cases e
 intro i
 constructor
 ·intro x hx
  obtain⟨u,e1,e2⟩:=hr.get hx
  refine⟨⟨vs,u,hn.sqT,e1⟩,fun v H' ⟨e,y⟩=>?_⟩
  subst e
  have:=y vs hn.sqT
  rw[e1] at this;cases this
  exact⟨Z7.refl _,e2⟩
 ·intro hx
  exact⟨vs,hn.sqT,by rw[hr.length];exact ZtI.mp hx⟩
theorem Zmb(he:DE K EX Γ Γ' .Z te f):DI K EX Γ Γ' (Zm6 K te) (fun ρ=>(f ρ).bind ZnW):=fun B H0 H σ ρ F R Q A d=>by
 refine he B H0 H σ ρ F R _ A (d.bind.imp (fun x _ d v H1 s1 r1=>?_) fun e q=>q)
 obtain⟨F1,f1,p1,A1⟩:=r1
 cases x with
 |tup xs =>
  obtain⟨a,vs,rfl,hn,hr⟩:=id p1
  exact⟨a,rfl,⟨vs,hn.sqT⟩,d _ H1 F1 s1 f1 A1 fun H2 F2 h=>ZjZ (p1.frm h A1)⟩
 |_=>exact d.elim
end
theorem Zlm{x y z:PV}{xs:List PV}:pIx (.tup (x::y::z::xs)) (.int 2)=.ok z:=by
 have:atI (x::y::z::xs) 2=some z:=by unfold atI;rw[ZbN (by omega) (by simp only[Ztw];omega)];rfl
 simp only[pIx,this]
section
end
noncomputable def Zd9(p q:Int->Int->Bool)(x y:PV)(r:Rr PV):Rr PV:=match x,y with
 |.int i,.int j=>if p i j=true then r.bind fun z=>oI (fun _ _=>true) (fun i j=>.bl (q i j)) (.int j) z else .ok (.bl false)
 |_,_=>.bad
theorem Zf7{p q:Int->Int->Bool}{i j k:Int}:Zd9 p q (.int i) (.int j) (.ok (.int k))=.ok (.bl (p i j&&q j k)):=by
 simp only[Zd9,Rr.bind_ok,oI,if_true]
 cases p i j<;>simp
section
variable {K:W.Frag}{B:Addr->Prop}{EX:PX->Hp->Prop}{H0 H H':Hp}{σ:St}{Γ Γ1 Γ2:List Md}{ρ:List PV}{F F':Nat->List Addr}{R:List Addr}{k:Nat}{x:PV}{v:V}{ta tb tc:TE}{fa fb fc:List PV->Rr PV}{hb:PV->Rr (List PV)}
theorem Zie{p q:Int->Int->Bool}(ha:DE K EX Γ Γ1 .A ta fa)(hb:DE K EX Γ1 Γ2 .A tb fb)(hc:DE K EX Γ2 Γ2 .A tc fc) :
  DE K EX Γ Γ2 .P (Zi2 (rI0 fun i j=>.bl (p i j)) (rI0 fun i j=>.bl (q i j)) ta tb tc) (fun ρ=>(fa ρ).bind fun x=>(fb ρ).bind fun y=>Zd9 p q x y (fc ρ)):=fun B H0 H σ ρ F R Q A d=>by
 refine two (Q:=fun v w H2=>(rI0 fun i j=>.bl (p i j)) v w H2 fun z H3=>∃k,z=.bl k/\(if k=true then tc σ H3 fun w' H4=>(rI0 fun i j=>.bl (q i j)) w w' H4 Q else Q (.bl false) H3)) ha hb A d.bind2 fun x y v w H' F' d s hF p1 p2 A'=>?_
 cases x<;>cases y<;>first|exact d.elim|skip
 rename_i i j
 cases p1;cases p2
 refine⟨i,j,rfl,rfl,_,rfl, ?_⟩
 simp only[Zd9] at d
 by_cases h:p i j=true
 ·rw[if_pos h] at d ⊢
  refine hc B H0 H' σ ρ F' R _ A' (d.bind.imp (fun z _ d u H3 s3 r3=>?_) fun e q=>q)
  obtain⟨F3,f3,p3,A3⟩:=r3
  cases z<;>first|exact d.elim|skip
  cases p3
  exact⟨j,_,rfl,rfl,d _ H3 (s.trans s3) ⟨F3,fun i a h=>hF i a (f3 i a h),rfl,rfl,A3⟩⟩
 ·rw[if_neg h] at d ⊢
  exact d _ H' s ⟨F',hF,rfl,rfl,A'⟩
end
theorem Zd6{xs:List PV}:ZeB [.lst xs]=.ok (.int xs.length):=by simp[ZeB]
theorem ZjF{xs:List PV}{k:Int}(h0:0<=k)(h1:k<xs.length):pIx (.lst xs) (.int k)=.ok (xs.getD k.toNat .non):=by
 simp only[pIx,atI,ZbN h0 h1,Option.bind_some]
 rw[ZsS,ZsT (by omega)]
 rfl
section
end
structure Dat(n:Nat)(x:PV):Prop where
 nx:x.noX=true
 can:x.dat.canLay0=true
 dep:x.dat.depth<=n
theorem Dat.ok{n:Nat}{x:PV}(h:Dat n x)(hn:n<=64:=by decide):okD x=true:=by
 unfold okD
 rw[h.nx,h.can,decide_eq_true (Ztr h.dep hn)];rfl
theorem Zbp(i:Int):Dat 0 (.int i):=⟨rfl,by simp[PV.dat,PyData.canLay0],by simp[PV.dat,PyData.depth]⟩
theorem Zbo{n:Nat}:∀{xs:List PV},(∀x∈xs,Dat n x)->PV.noXs xs=true/\PyData.canLayAll0 (PV.dats xs)=true/\PyData.depthAll (PV.dats xs)<=n
 |[],_=>⟨rfl,rfl,ZtB _⟩
 |x::xs,h=>by
  obtain⟨h1,h2,h3⟩:=Zbo (xs:=xs) fun y hy=>h y (by simp[hy])
  have hx:=h x (by simp)
  refine⟨by simp[PV.noXs,hx.nx,h1],by simp[PV.dats,PyData.canLayAll0,hx.can,h2], ?_⟩
  simp only[PV.dats,PyData.depthAll]
  exact Nat.max_le.mpr ⟨hx.dep,h3⟩
theorem ZcK{n:Nat}{xs:List PV}(h:∀x∈xs,Dat n x):Dat (n+1) (.lst xs):=by
 obtain⟨h1,h2,h3⟩:=Zbo h
 exact⟨by simp[PV.noX,h1],by simp[PV.dat,PyData.canLay0,h2],by simp only[PV.dat,PyData.depth];omega⟩
theorem Zkp{n:Nat}{xs:List PV}(h:∀x∈xs,Dat n x):Dat (n+1) (.tup xs):=by
 obtain⟨h1,h2,h3⟩:=Zbo h
 exact⟨by simp[PV.noX,h1],by simp[PV.dat,PyData.canLay0,h2],by simp only[PV.dat,PyData.depth];omega⟩
theorem Dat.up{m n:Nat}{x:PV}(h:Dat m x)(hn:m<=n):Dat n x:=⟨h.nx,h.can,Ztr h.dep hn⟩
theorem ZdT(ns:List Int):Dat 1 (.lst (ns.map PV.int)):=ZcK fun x hx=>by
 obtain⟨i,_,rfl⟩:=Ztm.mp hx
 exact Zbp i
theorem Zgr{a:Str}(h:PyData.canLay0 (.str a)=true):Dat 0 (.str a):=⟨rfl,h,by simp[PV.dat,PyData.depth]⟩
theorem ZhT{f:PV->Rr (Option PV)}{p:Nat->Bool}{g:Nat->PV}{lo:Int}{n:Nat}(h:∀i,i<n->f (.int (lo+(i:Nat)))=.ok (if p i=true then some (g i) else none)):ZcD f (Zck lo n)=.ok (((List.range n).filter p).map g):=by
 have key:∀(l:List Nat),(∀i∈l,i<n)->ZcD f (l.map fun(i:Nat)=>PV.int (lo+i))=.ok ((l.filter p).map g):=by
  intro l
  induction l with
  |nil=>intro _;rfl
  |cons a l ih =>
   intro hl
   simp only[Zte,ZcD,h a (hl a (by simp)),Rr.bind_ok,ih fun i hi=>hl i (by simp[hi])]
   cases hp:p a<;>simp[hp,List.filter_cons]
 exact key _ fun i hi=>Zty.mp hi
theorem Zh7{f:PV->Rr PV}{g:Nat->PV}{lo:Int}{n:Nat}(h:∀i,i<n->f (.int (lo+(i:Nat)))=.ok (g i)):Zba f (Zck lo n)=.ok ((List.range n).map g):=by
 have key:∀(l:List Nat),(∀i∈l,i<n)->Zba f (l.map fun(i:Nat)=>PV.int (lo+i))=.ok (l.map g):=by
  intro l
  induction l with
  |nil=>intro _;rfl
  |cons a l ih =>
   intro hl
   simp only[Zte,Zba,h a (hl a (by simp)),Rr.bind_ok,ih fun i hi=>hl i (by simp[hi])]
 exact key _ fun i hi=>Zty.mp hi
theorem Zlp{α:Type}{q:α->PV}{L:List α}{k:Int}{d:α}(h0:0<=k)(h1:k<L.length):pIx (.lst (L.map q)) (.int k)=.ok (q (L.getD k.toNat d)):=by
 rw[ZjF h0 (by simpa using h1),ZsS,ZsS,ZsZ,ZsT (by omega)]
 rfl
section
end
theorem us1{α:Type}{us:List α}(h:us.length=1):∃a,us=[a]:=match us,h with | [a],_=>⟨a,rfl⟩
theorem us2{α:Type}{us:List α}(h:us.length=2):∃a b,us=[a,b]:=match us,h with | [a,b],_=>⟨a,b,rfl⟩
theorem us3{α:Type}{us:List α}(h:us.length=3):∃a b c,us=[a,b,c]:=match us,h with | [a,b,c],_=>⟨a,b,c,rfl⟩
theorem us4{α:Type}{us:List α}(h:us.length=4):∃a b c d,us=[a,b,c,d]:=match us,h with | [a,b,c,d],_=>⟨a,b,c,d,rfl⟩
section
end
theorem Dat.okE{n:Nat}{x:PV}(h:Dat n x)(hn:n<=60:=by decide):okE x=true:=by
 unfold L2.okE
 rw[h.nx,h.can,decide_eq_true (Ztr h.dep hn)];rfl
theorem JK{g:Bool->Bool}{i:Int}{ns:List Int}:Zk8 g (.int i) (.lst (ns.map PV.int))=.ok (.bl (g (decide (i∈ns)))):=by
 have hall:∀ns:List Int,(okE (.int i)&&(ns.map PV.int).all okE)=true:=fun ns=>by
  rw[(Zbp i).okE,Bool.true_and,ZtF]
  intro x hx
  obtain⟨q,_,rfl⟩:=Ztm.mp hx
  exact(Zbp q).okE
 simp only[Zk8]
 rw[if_pos (hall ns)]
 congr 3
 induction ns with
 |nil=>simp
 |cons q M ih =>
  rw[Zte,Zu1,ih]
  simp only[PV.dat,PyData.eqv]
  by_cases c:q=i
  ·simp[c]
  ·have:¬i=q:=fun z=>c z.symm
   simp[c,this]
section
end
noncomputable abbrev PL2:=Addr×List Int
section
end
noncomputable def Vj(t:List Int):PV:=.lst (t.map PV.int)
theorem lstsQ_inj{a b:List (List Int)}(h:a.map Vj=b.map Vj):a=b:=by
 induction a generalizing b with
 |nil=>cases b with
  |nil=>rfl
  |cons x b=>simp at h
 |cons x a ih=>cases b with
  |nil=>simp at h
  |cons y b =>
   simp only[Zte,List.cons.injEq,Vj,PV.lst.injEq] at h
   rw[ZJ h.1,ih h.2]
section
end
theorem ZmU{g:Bool->Bool}{m n:Nat}{x y:PV}(hx:Dat m x)(hy:Dat n y)(h1:m<=64:=by decide)(h2:n<=64:=by decide):Zb1 g x y=.ok (.bl (g (PyData.eqv x.dat y.dat))):=by
 unfold Zb1
 rw[hx.ok h1,hy.ok h2,Bool.and_self,if_pos rfl]
theorem ZdL{α:Type}[DecidableEq α]{q:α->PV}(h:∀a b,PyData.eqv (q a).dat (q b).dat=decide (a=b)):∀L M:List α,PyData.eqvAll (PV.dats (L.map q)) (PV.dats (M.map q))=decide (L=M)
 |[],[]=>by simp[PV.dats,PyData.eqvAll]
 |[],b::M=>by simp[PV.dats,PyData.eqvAll]
 |a::L,[]=>by simp[PV.dats,PyData.eqvAll]
 |a::L,b::M=>by
  simp only[Zte,PV.dats,PyData.eqvAll,h a b,ZdL h L M,List.cons.injEq]
  by_cases c:a=b<;>by_cases d:L=M<;>simp[c,d]
theorem ZhU(a b:List Int):PyData.eqv (Vj a).dat (Vj b).dat=decide (a=b):=by
 simp only[Vj,PV.dat,QY,PyData.eqv,Ud]
theorem dat_lsts(M:List (List Int)):Dat 2 (.lst (M.map Vj)):=ZcK fun x hx=>by
 obtain⟨q,_,rfl⟩:=Ztm.mp hx
 exact ZdT q
theorem Zhu{g:Bool->Bool}(L M:List (List Int)):Zb1 g (.lst (L.map Vj)) (.lst (M.map Vj))=.ok (.bl (g (decide (L=M)))):=by
 rw[ZmU (dat_lsts L) (dat_lsts M)]
 simp only[PV.dat,PyData.eqv,ZdL ZhU]
theorem Zgf{α:Type}{f:PV->Rr (Option PV)}{q:α->PV}{p:α->Bool}{g:α->PV}{L:List α}(h:∀x∈L,f (q x)=.ok (if p x=true then some (g x) else none)):ZcD f (L.map q)=.ok ((L.filter p).map g):=by
 induction L with
 |nil=>rfl
 |cons a l ih =>
  simp only[Zte,ZcD,h a (by simp),Rr.bind_ok,ih fun z hz=>h z (by simp[hz])]
  cases hp:p a<;>simp[hp,List.filter_cons]
noncomputable def minus(H:Hp)(G:List Addr):Hp:=fun a=>if a∈G then none else H a
theorem Qq{H:Hp}{G:List Addr}{a:Addr}(h:a∈G):minus H G a=none:=if_pos h
theorem ZN{H:Hp}{G:List Addr}{a:Addr}(h:a ∉ G):minus H G a=H a:=if_neg h
theorem Zaw{H:Hp}{G:List Addr}:Z7 (minus H G) H:=fun a o h=>by
 unfold minus at h
 split at h
 ·cases h
 ·exact h
theorem Rd.minus{H:Hp}{G:List Addr}{a:Addr}{u:HO}(h:Rd H a u)(n:a ∉ G):Rd (minus H G) a u:=by
 rcases h with h|⟨o,h⟩
 ·exact .inl (by rw[ZN n];exact h)
 ·exact .inr ⟨o,by rw[ZN n];exact h⟩
theorem Im.minus{K:W.Frag}{H:Hp}{G:List Addr}{a:Addr}{k:HO}(hG:∀b∈G,∃vs:LvO,H b=some vs.1)(h:Im K H a k):Im K (minus H G) a k:=by
 refine⟨?_,h.2⟩
 rw[ZN fun z=>?_]
 ·exact h.1
 ·obtain⟨vs,q⟩:=hG a z
  exact Zbb vs.2 h.2 (by rw[h.1] at q;exact Option.some.inj q)
noncomputable def spC(K:W.Frag)(n:Nat)(m:List PV->Rr PV):Sp:=fun vs H Q E=>∃(B:Addr->Prop) (x:PV) (xs:List PV) (v:V) (us:List V) (G:List Addr),vs=v::us/\ZW K H x v G/\Reps K H B xs us/\(∀a,B a->a ∉ G)/\xs.length+1=n /\
 Dn (m (x::xs)) (fun y=>∀u H',Z7 (minus H G) H'->ZgN K B (minus H G) .P y u H'->Q u H') (fun _=>False)
section
variable {K:W.Frag}{B:Addr->Prop}{H0 H H':Hp}{σ:St}{Γ:List Md}{ρ:List PV}{F:Nat->List Addr}
theorem Ag.initC{x:PV}{v:V}{G:List Addr}{xs:List PV}{vs:List V}{n:Nat}(ht:ZW K H x v G)(h:Reps K H B xs vs)(hB:∀a,B a->a ∉ G):Ag K (fun a=>B a\/minus H G a=none) (minus H G) H (some v::(vs.map some++List.replicate n none)) (.O::(List.replicate xs.length .S++List.replicate n .U)) (x::(xs++List.replicate n .non)) (VN (fun _=>[]) 0 G) []:=by
 have fin:∀i,∀a∈VN (fun _=>[]) 0 G i,i=0/\a∈G:=fun i a ha=>by
  unfold VN at ha
  split at ha
  ·exact⟨by assumption,ha⟩
  ·simp at ha
 refine⟨Zaw,fun a h=>.inr h,fun i a ha=>Qq (fin i a ha).2,by simp,fun i a ha=>ht.alive a (fin i a ha).2,by simp,fun i j hij a ha z=>hij ((fin i a ha).1.trans (fin j a z).1.symm),by simp,by simp[h.length],by simp,fun i=>?_⟩
 cases i with
 |zero =>
  rw[Zu]
  exact⟨v,rfl,ht⟩
 |succ i =>
  rw[Z5 (by omega)]
  simp only[List.getD_cons_succ,Zut]
  have A:=(Ag.init (n:=n) h).slot i
  refine A.mono (fun a vs s r=>⟨r, ?_⟩) (fun a vs r=>r) (fun a ha=>by cases ha)
  refine⟨?_,by simp,fun j z=>?_⟩
  ·rcases s.1 with s|s
   ·exact .inl s
   ·exact .inr (by
     by_cases q:a∈G
     ·exact Qq q
     ·rw[ZN q];exact s)
  ·have z:=(fin j a z).2
   rcases s.1 with s|s
   ·exact hB a s z
   ·obtain⟨vs,q⟩:=ht.alive a z
    rw[s] at q;cases q
theorem Ag.lost{G:List Addr}(A:Ag K B H0 H σ Γ ρ F (G++[]))(s:Z7 (minus H G) H'):Ag K B H0 H' σ Γ ρ F []:=by
 have hG:∀b∈G,∃vs:LvO,H b=some vs.1:=fun b hb=>A.liveR b (by simp[hb])
 refine⟨fun a o h=>s a o ?_,A.own,A.young,by simp,fun i a ha=>?_,by simp,A.disj,by simp,A.lenS,A.lenR,fun i=>?_⟩
 ·rw[ZN (fun z=>by have:=A.youngR a (by simp[z]);rw[h] at this;cases this)]
  exact A.same a o h
 ·obtain⟨vs,q⟩:=A.live i a ha
  exact⟨vs,s _ _ (by rw[ZN (fun z=>A.disjR i a ha (by simp[z]))];exact q)⟩
 ·refine(A.slot i).mono (fun a vs n r=>⟨(r.minus (fun z=>n.2.1 (by simp[z]))).same s,n.1,by simp,n.2.2⟩) (fun a vs r=>s.im (r.minus hG)) fun a ha vs q=>s _ _ (by rw[ZN (fun z=>A.disjR i a ha (by simp[z]))];exact q)
end
section
variable {P:Program}{w:World}{K:W.Frag}{mg:Str->Option Value}{base:Heap}
theorem Fun.okC{x qual:Str}{st:Stmt}{f:Addr}{fd:FuncData}{N ps:List Str}{k n l:Nat}{m:List PV->Rr PV}(F:Fun K x qual st f fd)(S:Zx N ps (Zl st))(hn:ps.length=n+1)(hl:N.length-(n+1)=l)(hbody:∀(cdv:Value) (A:Around) (outer:List Env) (s:Shared) (H:Hp) (E:XK),VU k (A.deeper (envOfC qual (Zl st) s.heap.objs.size f cdv)) ->
   ∃t g Y,Y.r=.P/\PSs (ZgL CX0 P w K mg base N qual (Zl st) f cdv A outer s H E).nox (JO st) t/\DS K X0 (.O::(List.replicate n .S++List.replicate l .U)) Y t g/\∀xs,Ref (m xs) (g (xs++List.replicate l .non)).out) :
  J1 P w K mg base CX0 (k+1) f fd ps (spC K (n+1) m):=by
 refine F.ok S (fun vs H Q E h=>?_) (fun cdv A outer s H vs Q E hr h=>?_)
 ·obtain⟨B,x,xs,v,us,G,rfl,h0,h1,h2,h3,_⟩:=h
  rw[Ztw,h1.length,h3,hn]
 ·obtain⟨B,x,xs,v,us,G,rfl,h0,h1,h2,h3,dn⟩:=h
  obtain⟨t,g,Y,hY,ht,hd,href⟩:=hbody cdv A outer s H E hr
  refine⟨t,ht, ?_⟩
  have A0:=Ag.initC (n:=l) h0 h1 h2
  have est:VL N (v::us)=some v::(us.map some++List.replicate l none):=by
   unfold VL
   rw[Ztw,h1.length,h3,hl]
   rfl
  rw[est]
  rw[show xs.length=n by omega] at A0
  refine hd _ (minus H G) H _ _ _ _ A0 ?_
  have hdn:Dn (g (x::(xs++List.replicate l .non))).out (fun x=>∀v H',Z7 (minus H G) H'->ZgN K B (minus H G) .P x v H'->Q v H') (fun e=>False):=by
   rcases href (x::xs) with e|e
   ·rw[e] at dn;exact dn.elim
   ·rw[Zuv] at e;rw[<- e];exact dn
  cases e:g (x::(xs++List.replicate l .non)) with
  |next ρ =>
   rw[e] at hdn
   exact fun σ' H' F' fr A'=>hdn .non H' A'.same ⟨rfl,rfl⟩
  |ret y =>
   rw[e] at hdn
   refine fun v H' s r=>hdn v H' s ?_
   rw[hY] at r
   exact r
  |exc q=>rw[e] at hdn;exact hdn.elim
  |brk ρ=>rw[e] at hdn;exact hdn.elim
  |cont ρ=>rw[e] at hdn;exact hdn.elim
  |bad=>rw[e] at hdn;exact hdn.elim
end
noncomputable def pGo(f:PV->Rr PV):PV->List Int->Rr PV
 |x,[]=>f x
 |.lst xs,c::cs=>match ixN xs.length c with
  |some n=>(pGo f (xs.getD n .non) cs).bind fun z=>.ok (.lst (xs.set n z))
  |none=>.bad
 |.tup xs,c::cs=>match ixN xs.length c with
  |some n=>(pGo f (xs.getD n .non) cs).bind fun z=>.ok (.tup (xs.set n z))
  |none=>.bad
 |_,_::_=>.bad
noncomputable def AtP(K:W.Frag)(H:Hp):V->List Int->V->Prop
 |v,[],u=>u=v
 |v,c::cs,u=>∃a vs w,v=.ref a/\(SqL K H a vs\/SqT K H a vs)/\atI vs c=some w/\AtP K H w cs u
section
variable {K:W.Frag}{H:Hp}
theorem AtP.snoc{u:V}{c:Int}:∀{cs:List Int}{v:V},AtP K H v (cs++[c]) u->∃w,AtP K H v cs w/\AtP K H w [c] u
 |[],v,h=>⟨v,rfl,h⟩
 |_::cs,v,h=>by
  obtain⟨a,vs,w,rfl,h1,h2,h3⟩:=h
  obtain⟨z,h4,h5⟩:=AtP.snoc h3
  exact⟨z,⟨a,vs,w,rfl,h1,h2,h4⟩,h5⟩
theorem Trees.part:∀{xs:List PV}{vs:List V}{G:List Addr}{j:Nat}{y:PV},Trees K H xs vs G->xs[j]?=some y->∃v G2,vs[j]?=some v/\ZW K H y v G2/\(∀a∈G2,a∈G) /\
  ∀(p:Addr) (us:List V) (o:HO) (y':PV) (G3:List Addr),H p=some (.lst us)->p∈G2->(∀a∈G3,a∈G2)->ZW K (upd H p o) y' v G3->∃G',(∀a∈G',a∈G)/\Trees K (upd H p o) (xs.set j y') vs G'
 |[],_,_,_,_,_,e=>by simp at e
 |x::xs,_,_,0,y,h,e=>by
  obtain⟨w,r,G1,G2,rfl,h1,h2,h3,rfl⟩:=h
  simp at e;subst e
  refine⟨w,G1,rfl,h1,fun a ha=>by simp[ha],fun p us o y' G3 hp hpG hs ht=>⟨G3++G2,fun a ha=>?_,w,r,G3,G2,rfl,ht,Trees.put hp (h3 p hpG) h2,fun a ha=>h3 a (hs a ha),rfl⟩⟩
  rcases Zta.mp ha with z|z
  ·simp[hs a z]
  ·simp[z]
 |x::xs,_,_,j+1,y,h,e=>by
  obtain⟨w,r,G1,G2,rfl,h1,h2,h3,rfl⟩:=h
  obtain⟨v,G4,e1,e2,e3,e4⟩:=Trees.part h2 (j:=j) (by simpa using e)
  refine⟨v,G4,by simpa using e1,e2,fun a ha=>by simp[e3 a ha],fun p us o y' G3 hp hpG hs ht=>?_⟩
  obtain⟨G',c2,c3⟩:=e4 p us o y' G3 hp hpG hs ht
  refine⟨G1++G',fun a ha=>?_,w,r,G1,G',rfl,ZW.put hp (fun z=>h3 p z (e3 p hpG)) h1,c3,fun a ha z=>h3 a ha (c2 a z),rfl⟩
  rcases Zta.mp ha with z|z
  ·simp[z]
  ·simp[c2 a z]
theorem ZW.chgP{j:Int}:∀{cs:List Int}{x x':PV}{v:V}{G:List Addr},ZW K H x v G->pGo (fun z=>pApp z (.int j)) x cs=.ok x' ->
  ∃p us,AtP K H v cs (.ref p)/\H p=some (.lst us)/\us.length<sizeLine/\p∈G/\∃G',(∀a∈G',a∈G)/\ZW K (upd H p (.lst (us++[.int j]))) x' v G'
 |[],x,x',v,G,h,e=>by
  have d:Dn (pApp x (.int j)) (fun y=>y=x') (fun _=>False):=by
   have e:pApp x (.int j)=.ok x':=by cases x<;>exact e
   rw[e];exact rfl
  obtain⟨ys,rfl,hlen,rfl⟩:=Dn.pApp d
  obtain⟨p,us,G4,rfl,hH,hu,hn,rfl⟩:=h
  refine⟨p,us,rfl,hH,by rw[hu.length];exact Zto hlen (by decide),by simp,p::G4,fun b hb=>hb,p,_,G4,rfl,Zv, ?_,hn,rfl⟩
  have:=Trees.append (Trees.put (o:=.lst (us++[.int j])) hH hn hu) (Trees.one (x:=.int j) (v:=.int j) (F:=[]) ⟨rfl,rfl⟩) (by simp)
  rw[Zua] at this
  exact this
 |c::cs,.lst xs,x',v,G,h,e=>by
  simp only[pGo] at e
  cases en:ixN xs.length c with
  |none=>rw[en] at e;cases e
  |some n =>
   rw[en] at e
   dsimp only at e
   cases ez:pGo (fun z=>pApp z (.int j)) (xs.getD n .non) cs with
   |bad=>rw[ez] at e;cases e
   |exc q=>rw[ez] at e;cases e
   |ok z =>
    rw[ez] at e
    cases e
    have hnl:=(UK en).2.1
    have hx:xs[n]?=some (xs.getD n .non):=by rw[ZsS,ZsT hnl];rfl
    obtain⟨a,vs,G1,rfl,ha,ht,hna,rfl⟩:=h
    obtain⟨w,G2,e1,e2,e3,e4⟩:=ht.part hx
    obtain⟨p,us,p1,p2,p3,p4,G3,p5,p6⟩:=ZW.chgP e2 ez
    obtain⟨G',c2,c3⟩:=e4 p us _ _ G3 p2 p4 p5 p6
    refine⟨p,us,⟨a,vs,w,rfl,.inl (SqL.of ha),by unfold atI;rw[ht.length,en];exact e1,p1⟩,p2,p3,by simp[e3 p p4],a::G',fun b hb=>?_,a,vs,G',rfl, ?_,c3,fun z=>hna (c2 a z),rfl⟩
    ·rcases Zti.mp hb with rfl|hb
     ·simp
     ·simp[c2 b hb]
    ·rw[Zo (fun z=>hna (by rw[z];exact e3 p p4))];exact ha
 |c::cs,.tup xs,x',v,G,h,e=>by
  simp only[pGo] at e
  cases en:ixN xs.length c with
  |none=>rw[en] at e;cases e
  |some n =>
   rw[en] at e
   dsimp only at e
   cases ez:pGo (fun z=>pApp z (.int j)) (xs.getD n .non) cs with
   |bad=>rw[ez] at e;cases e
   |exc q=>rw[ez] at e;cases e
   |ok z =>
    rw[ez] at e
    cases e
    have hnl:=(UK en).2.1
    have hx:xs[n]?=some (xs.getD n .non):=by rw[ZsS,ZsT hnl];rfl
    obtain⟨a,vs,rfl,ha,ht⟩:=h
    obtain⟨w,G2,e1,e2,e3,e4⟩:=ht.part hx
    obtain⟨p,us,p1,p2,p3,p4,G3,p5,p6⟩:=ZW.chgP e2 ez
    obtain⟨G',c2,c3⟩:=e4 p us _ _ G3 p2 p4 p5 p6
    exact⟨p,us,⟨a,vs,w,rfl,.inr ha.sqT,by unfold atI;rw[ht.length,en];exact e1,p1⟩,p2,p3,e3 p p4,G',c2,a,vs,rfl,SqT.put p2 ha,c3⟩
 |_::_,.non,_,_,_,_,e=>by cases e
 |_::_,.bl _,_,_,_,_,e=>by cases e
 |_::_,.int _,_,_,_,_,e=>by cases e
 |_::_,.str _,_,_,_,_,e=>by cases e
 |_::_,.exc _,_,_,_,_,e=>by cases e
 |_::_,.exa _ _,_,_,_,_,e=>by cases e
 |_::_,.box _ _ _,_,_,_,_,e=>by cases e
 |_::_,.fz _,_,_,_,_,e=>by cases e
 |_::_,.any,_,_,_,_,e=>by cases e
theorem Zen(x y:PV)(e:PX):pApp x y≠.exc e:=by
 unfold pApp
 intro h
 split at h
 ·split at h<;>cases h
 ·cases h
theorem QA{f:PV->Rr PV}(hf:∀x e,f x≠.exc e):∀(cs:List Int) (x:PV) (e:PX),pGo f x cs≠.exc e
 |[],x,e=>by
  have:pGo f x []=f x:=by cases x<;>rfl
  rw[this];exact hf x e
 |c::cs,x,e=>by
  intro h
  cases x with
  |lst xs =>
   simp only[pGo] at h
   split at h
   ·rename_i n _
    cases ez:pGo f (xs.getD n .non) cs with
    |ok z=>rw[ez] at h;cases h
    |bad=>rw[ez] at h;cases h
    |exc q=>exact QA hf cs _ _ ez
   ·cases h
  |tup xs =>
   simp only[pGo] at h
   split at h
   ·rename_i n _
    cases ez:pGo f (xs.getD n .non) cs with
    |ok z=>rw[ez] at h;cases h
    |bad=>rw[ez] at h;cases h
    |exc q=>exact QA hf cs _ _ ez
   ·cases h
  |_=>cases h
def DPa(K:W.Frag)(Γ:List Md)(i:Nat)(tp:TE)(ix:List PV->Rr (List Int)):Prop:=(∀ρ e,ix ρ≠.exc e) /\
 ∀(B:Addr->Prop) (H0 H:Hp) (σ:St) (ρ:List PV) (F:Nat->List Addr) (R:List Addr) (cs:List Int) (v u:V) (Q:VK),Ag K B H0 H σ Γ ρ F R->ix ρ=.ok cs->σ[i]?=some (some v)->AtP K H v cs u->Q u H->tp σ H Q
variable {Γ Γ1 Γ2:List Md}{i:Nat}{tp:TE}{ix:List PV->Rr (List Int)}{EX:PX->Hp->Prop}{k:Kd}
theorem Zkg:DPa K Γ i (Qf i) (fun _=>.ok []):=⟨fun ρ e h=>(by cases h),fun B H0 H σ ρ F R cs v u Q A e hv h q=>by
 cases e
 cases h
 exact⟨v,hv,q⟩⟩
theorem ZiA{w u:V}{c:Int}{Q:VK}(h:AtP K H w [c] u)(q:Q u H):rIx K w (.int c) H Q:=by
 obtain⟨a,vs,z,rfl,hs,ha,rfl⟩:=h
 rcases hs with hs|hs
 ·exact .inl ⟨a,vs,c,u,rfl,rfl,hs,ha,q⟩
 ·exact .inr (.inl ⟨a,vs,c,u,rfl,rfl,hs,ha,q⟩)
theorem Zkh{l:Nat}{m:Md}(hl:Γ[l]?=some m)(hm:m≠.U)(h:DPa K Γ i tp ix):DPa K Γ i (tOp (rIx K) tp (Qf l)) (fun ρ=>(ix ρ).bind fun cs=>(asI (gv l ρ)).bind fun c=>.ok (cs++[c])):=by
 refine⟨fun ρ e z=>?_,fun B H0 H σ ρ F R cs v u Q A e hv ha q=>?_⟩
 ·dsimp only at z
  cases ec:ix ρ with
  |bad=>rw[ec] at z;cases z
  |exc q=>exact h.1 ρ q ec
  |ok ds =>
   rw[ec] at z
   cases eg:gv l ρ with
   |int c=>rw[eg] at z;cases z
   |_=>rw[eg] at z;cases z
 dsimp only at e
 cases ec:ix ρ with
 |bad=>rw[ec] at e;cases e
 |exc q=>rw[ec] at e;cases e
 |ok ds =>
  rw[ec] at e
  obtain⟨z,z1,z2⟩:=A.getA hl hm
  cases eg:gv l ρ with
  |int c =>
   rw[eg] at e
   cases e
   obtain⟨w,h1,h2⟩:=ha.snoc
   rw[show ρ.getD l .non=.int c from eg] at z2
   cases z2
   exact h.2 B H0 H σ ρ F R ds v w _ A ec hv h1 ⟨_,z1,ZiA h2 q⟩
  |_=>rw[eg] at e;cases e
theorem Ze4{j:Int}(hm:Γ[i]?=some .O)(hp:DPa K Γ i tp ix):DS K EX Γ ⟨Γ,Γ1,Γ2,k⟩ (ZeV (tBM K "list" Zcv tp (Vg (tC (.int j)) Zdg)))
  (fun ρ=>(ix ρ).thenS fun cs=>(pGo (fun z=>pApp z (.int j)) (gv i ρ) cs).thenS fun w=>.next (ρ.set i w)):=fun B H0 H σ ρ F D A d=>by
 have d1:=d.thenS
 cases ec:ix ρ with
 |bad=>rw[ec] at d1;exact d1.elim
 |exc q=>exact(hp.1 ρ q ec).elim
 |ok cs =>
  rw[ec] at d1
  have d2:=DnS.thenS d1
  obtain⟨v,h1,h2⟩:=A.getO hm
  cases ep:pGo (fun z=>pApp z (.int j)) (gv i ρ) cs with
  |bad=>rw[ep] at d2;exact d2.elim
  |exc q=>exact(QA (fun x e=>Zen _ _ e) _ _ _ ep).elim
  |ok w =>
   rw[ep] at d2
   obtain⟨p,us,p1,p2,p3,c1,G',c2,c3⟩:=ZW.chgP h2 ep
   refine hp.2 B H0 H σ ρ F [] cs v (.ref p) _ A ec h1 p1 ⟨.inl ⟨rfl,_,SqL.of p2⟩,p,us,.int j,rfl,rfl,p2,p3, ?_⟩
   exact d2 σ _ (VN F i G') (QR (Z7.refl _) (fun _ _ h=>h) c1 fun b hb=>.inr ⟨i,c2 b hb⟩) (Ag.chg (G:=[]) A hm c1 (fun b hb=>.inl (c2 b hb)) (by simp) ⟨_,h1,c3⟩)
end
noncomputable def ZnM(ns:List Int):Int:=- Zn7 (ns.map fun n=>-n)
section
end
noncomputable def frz(m:Md):Md:=if m=.O\/m=.T then .S else m
section
variable {K:W.Frag}{B:Addr->Prop}{H0 H:Hp}{σ:St}{Γ:List Md}{ρ:List PV}{F:Nat->List Addr}{R:List Addr}
theorem Ag.freezeAll(A:Ag K B H0 H σ Γ ρ F R):Ag K B H0 H σ (Γ.map frz) ρ (fun _=>[]) R:=by
 refine⟨A.same,A.own,by simp,A.youngR,by simp,A.liveR,by simp,by simp,by simp[A.lenS],by simp[A.lenR],fun i=>?_⟩
 have sl:=A.slot i
 have e:(Γ.map frz).getD i .U=frz (Γ.getD i .U):=by
  rw[ZsS,ZsS,ZsZ]
  cases Γ[i]?<;>rfl
 rw[e]
 have up:∀{a},NO B F R a->NO B (fun _=>[]) R a:=fun {a} s=>⟨s.1,s.2.1,by simp⟩
 have ow:∀a∈F i,NO B (fun _=>[]) R a:=fun a ha=>⟨A.own a (A.young i a ha),A.disjR i a ha,by simp⟩
 cases hm:Γ.getD i .U with
 |U=>exact rfl
 |P=>rw[hm] at sl;exact⟨rfl,sl.2⟩
 |S =>
  rw[hm] at sl
  obtain⟨_,v,h1,h2⟩:=sl
  exact⟨rfl,v,h1,Rep.mono (fun a vs s r=>⟨r,up s⟩) (fun a vs r=>r) h2⟩
 |T =>
  rw[hm] at sl
  obtain⟨a,vs,xs,h1,h2,h3,h4,h5⟩:=sl
  refine⟨rfl,.ref a,h1, ?_⟩
  rw[h2]
  exact⟨a,vs,rfl,.inl ⟨.inl h3,ow a (by rw[h5];simp)⟩,Reps.mono (fun a vs s r=>⟨r,up s⟩) (fun a vs r=>r) h4⟩
 |O =>
  rw[hm] at sl
  obtain⟨v,h1,h2⟩:=sl
  exact⟨rfl,v,h1,h2.rep ow⟩
end
end L2
namespace HL
open PySem PyProof.Rows
section
open PySem.SeqAt
open PySem.AutoSeq1 (wpAny_loadPart')
open PySem.MeetsSeq PySem.MeetsSeq2 PySem.MeetsSeq3 SeqRoads2
end
section
end
end HL
namespace L2
open PySem PySem.Spec PyProof.Rows
section
end
def G0(K:W.Frag)(B:Addr->Prop)(H0 H:Hp)(σ:St)(Γb:List Md)(ρ:List PV)(L v:Nat)(a:Addr)(vs:List V)(xs:List PV)(G Gx:List Addr):Prop:=
 Ag K B H0 H σ Γb ρ (fun _=>[]) (a::(G++Gx))/\σ[L]?=some (some (.ref a))/\gv L ρ=.lst xs/\H a=some (.lst vs)/\Trees K H xs vs G/\a ∉ G/\∃w,σ[v]?=some (some w)/\vs[0]?=some w/\xs[0]?=some (gv v ρ)
section
end
theorem Zbj{α β:Type}{f:α->Rr β}:∀{xs:List α},ZcD (fun x=>(f x).bind fun y=>.ok (some y)) xs=Zba f xs
 |[]=>rfl
 |x::xs=>by
  simp only[ZcD,Zba,Rr.assoc,Zbj (xs:=xs),Rr.bind_ok,Zvk,Zuz]
section
variable {K:W.Frag}{EX:PX->Hp->Prop}{Γ Γ1:List Md}{te:TE}{fe:List PV->Rr PV}
theorem Jz{wi:TI}{fi:List PV->Rr (List PV)}(hi:DIc K EX Γ Γ1 wi fi)(he:DE K EX (Γ1++[.S]) (Γ1++[.S]) .F te fe) :
  DE K EX Γ Γ1 .F (Zam wi tB1 ZkK te) (fun ρ=>(fi ρ).bind fun xs=>(lenM xs).bind fun _=>(Zba (fun x=>fe (ρ++[x])) xs).bind fun ys=>.ok (.lst ys)):=by
 have h:=Vq (k:=1) hi ZkB Zgh he
 simp only[Rr.bind_ok,if_true,Zbj] at h
 exact h
variable {X:Cx}{scope:Scope}{x y:Str}{elt iter:Expr}{pos px py spos:Pos}{wi:TI}{i:Nat}
theorem JW(hi:PI X (.Name x px) iter wi)(he:∀C s₂ H₂ ex,PE (VT X scope [x] C ex s₂ H₂) elt te)(hNd:X.N.Nodup)(hc:X.calm=true)(hclos:closureFor scope X.env=pure (Zaj scope X.env):=by rfl)(hchk:JE X.N X.env.scope scope [x]=true:=by rfl)(hs:∀x,foldedSetIterable iter X.env x=pure x:=by exact fun _=>rfl) :
  PE X (.ListComp elt [⟨.Name x px,iter,[],0⟩] scope pos) (Zam wi tB1 ZkK te):=VF hi (VZ hNd hchk) (fun _ _ _ _=>Zd1) he hv1 hNd hc hclos hchk hs
theorem Q5(hN:X.N.Nodup)(hi:X.N[i]?=some y)(hit:PI X (.Name x px) iter wi)(he:∀C s₂ H₂ ex,PE (VT X scope [x] C ex s₂ H₂) elt te)(hc:X.calm=true)(hsw:swapsWith (.ListComp elt [⟨.Name x px,iter,[],0⟩] scope pos) (some (.Name y py)) spos.line X.env=pure true:=by rfl)(hy:X.env.scope.names.lookup y=some .local:=by rfl)(hclos:closureFor scope X.env=pure (Zaj scope X.env):=by rfl)(hchk:JE X.N X.env.scope scope [x]=true:=by rfl)(hs:∀x,foldedSetIterable iter X.env x=pure x:=by exact fun _=>rfl) :
  PS X (.Assign [.Name y py] (.ListComp elt [⟨.Name x px,iter,[],0⟩] scope pos) spos) (Q1 i wi tB1 ZkK te):=Q6 hN hi hit (VZ hN hchk) (fun _ _ _ _=>Zd1) he hv1 hc hsw hy hclos hchk hs
end
section
open Builtin Builtin.Str
end
section
variable {K:W.Frag}{B:Addr->Prop}{EX:PX->Hp->Prop}{H0 H:Hp}{σ:St}{Γ Γ':List Md}{ρ:List PV}{F:Nat->List Addr}{R:List Addr}
theorem Zgp{ta:TA}{fa:List PV->Rr (List PV)}(ha:DAA K EX Γ Γ' ta fa):DE K EX Γ Γ' .A (Zmz ta) (fun ρ=>(fa ρ).bind mkL):=fun B H0 H σ ρ F R Q A d=>by
 refine ha B H0 H σ ρ F R _ A (d.bind.imp (fun xs _ d vs H1 F1 s1 f1 p1 A1=>?_) fun e q=>q)
 obtain⟨hl,d⟩:=Dn.mkL d
 refine⟨by rw[p1.length];exact Uz hl,fun p hp=>?_⟩
 have e:=Z7.new (H:=H1) (o:=.lst vs) hp
 exact d _ _ (s1.trans e) ⟨F1,f1,⟨p,vs,rfl,.inl ⟨.inl Zv,trivial⟩,p1.same e⟩,A1.grow e⟩
end
section
variable {κ:Type} [DecidableEq κ]
noncomputable def ZeO(kvs:List (κ×V))(k:κ):Option V:=(kvs.find? fun kv=>decide (kv.1=k)).map (·.2)
noncomputable def ZeA(kvs:List (κ×V))(k:κ)(v:V):List (κ×V):=
 if (kvs.any fun kv=>decide (kv.1=k))=true then kvs.map (fun kv=>if kv.1=k then (kv.1,v) else kv) else kvs++[(k,v)]
theorem Qa{p:κ×V}{r:List (κ×V)}{k:κ}(e:p.1=k):ZeO (p::r) k=some p.2:=by simp[ZeO,Zu0,e]
theorem Qb{p:κ×V}{r:List (κ×V)}{k:κ}(e:¬p.1=k):ZeO (p::r) k=ZeO r k:=by simp[ZeO,Zu0,e]
theorem Zdb(k:κ):∀kvs:List (κ×V),(kvs.any fun kv=>decide (kv.1=k))=(ZeO kvs k).isSome
 |[]=>rfl
 |p::r=>by
  rw[Zu1]
  by_cases e:p.1=k
  ·simp only[Qa e,decide_eq_true e,Bool.true_or,Option.isSome_some]
  ·rw[Qb e,decide_eq_false e,Bool.false_or];exact Zdb k r
theorem QG(kvs:List (κ×V))(k:κ)(v:V):(ZeA kvs k v).length<=kvs.length+1:=by
 unfold ZeA
 split
 ·rw[ZsV];omega
 ·rw[Ztv,Ztw,ZuZ];omega
theorem ZgO.isSome_eq{o:Option V}{u:Option Value}(r:ZgO o u):o.isSome=u.isSome:=by
 cases o with
 |none=>cases u with
  |none=>rfl
  |some _=>exact(show False from r).elim
 |some _=>cases u with
  |none=>exact(show False from r).elim
  |some _=>rfl
theorem KV.val{kvs:List (κ×V)}{vs:List (κ×Value)}(r:KV kvs vs)(k:κ):ZgO (ZeO kvs k) (valueAt vs k):=by
 unfold KV at r
 induction r with
 |nil=>exact True.intro
 |@cons p q ps qs h t ih =>
  obtain⟨h1,h2⟩:=h
  by_cases e:p.1=k
  ·have e':q.1=k:=h1.symm.trans e
   have b:valueAt (q::qs) k=some q.2:=by simp[valueAt,Zu0,e']
   rw[Qa e,b];exact h2
  ·have e':¬q.1=k:=fun z=>e (h1.trans z)
   have b:valueAt (q::qs) k=valueAt qs k:=by simp[valueAt,Zu0,e']
   rw[Qb e,b];exact ih
theorem KV.any{kvs:List (κ×V)}{vs:List (κ×Value)}(r:KV kvs vs)(k:κ):(kvs.any fun kv=>decide (kv.1=k))=vs.any fun kv=>decide (kv.1=k):=by
 unfold KV at r
 induction r with
 |nil=>rfl
 |cons h t ih=>rw[Zu1,Zu1,ih,h.1]
theorem KV.repl{kvs:List (κ×V)}{vs:List (κ×Value)}(r:KV kvs vs)(k:κ){y:V}{u:Value}(ry:Jn y u) :
  KV (kvs.map fun kv=>if kv.1=k then (kv.1,y) else kv) (vs.map fun kv=>if kv.1=k then (kv.1,u) else kv):=by
 unfold KV at r ⊢
 induction r with
 |nil=>exact .nil
 |@cons p q ps qs h t ih =>
  rw[Zte,Zte]
  refine .cons ?_ ih
  obtain⟨h1,h2⟩:=h
  by_cases e:p.1=k
  ·rw[if_pos e,if_pos (h1.symm.trans e)];exact⟨h1,ry⟩
  ·rw[if_neg e,if_neg (fun z=>e (h1.trans z))];exact⟨h1,h2⟩
theorem KV.put{kvs:List (κ×V)}{vs:List (κ×Value)}(r:KV kvs vs)(k:κ){y:V}{u:Value}(ry:Jn y u):KV (ZeA kvs k y) (stored vs k u):=by
 unfold ZeA stored
 rw[r.any k]
 by_cases e:(vs.any fun kv=>decide (kv.1=k))=true
 ·rw[if_pos e,if_pos e];exact r.repl k ry
 ·rw[if_neg e,if_neg e];exact Paired.snoc r ⟨rfl,ry⟩
theorem KV.length{kvs:List (κ×V)}{vs:List (κ×Value)}(r:KV kvs vs):kvs.length=vs.length:=Paired.length r
end
theorem ZfT{P:Program}{w:World}{k:Key}{u:Value}(r:Jn (kV k) u):(Jq P w).is k u=true:=by
 cases k with
 |inl i=>obtain⟨t,e⟩:=(show ∃t,u=Value.int i t from r);subst e;exact Zc2 P w i t
 |inr x=>obtain⟨t,e⟩:=(show ∃t,u=Value.str x t from r);subst e;exact Zc1 P w x t
theorem ZbO{P:Program}{w:World}:∀{ks:List Key}{us:List Value},ZR (ks.map kV) us->ItemsAre (Jq P w) ks us
 |[],_,r=>by rw[Zux] at r;cases r;exact .nil
 |k::ks,_,r=>by
  rw[Zte] at r
  cases r with
  |cons h t=>exact .cons (ZfT h) (ZbO t)
noncomputable abbrev KT(H:Hp):List (List Key×V)->List (List Key×Addr×Value)->Prop:=Paired fun p q=>p.1=q.1/\H q.2.1=some (.tup (p.1.map kV))/\Jn p.2 q.2.2
theorem KT.val{H:Hp}{kvs:List (List Key×V)}{xs:List (List Key×Addr×Value)}(r:KT H kvs xs)(k:List Key):ZgO (ZeO kvs k) ((atKey xs k).map (·.2)):=by
 induction r with
 |nil=>exact True.intro
 |@cons p q ps qs h t ih =>
  obtain⟨h1,_,h2⟩:=h
  by_cases e:p.1=k
  ·have e':q.1=k:=h1.symm.trans e
   have b:atKey (q::qs) k=some q.2:=by simp[atKey,Zu0,e']
   rw[Qa e,b];exact h2
  ·have e':¬q.1=k:=fun z=>e (h1.trans z)
   have b:atKey (q::qs) k=atKey qs k:=by simp[atKey,Zu0,e']
   rw[Qb e,b];exact ih
theorem KT.repl{H:Hp}{kvs:List (List Key×V)}{xs:List (List Key×Addr×Value)}(r:KT H kvs xs)(k:List Key){y:V}{u:Value}(ry:Jn y u) :
  KT H (kvs.map fun kv=>if kv.1=k then (kv.1,y) else kv) (xs.map (putAt k u)):=by
 induction r with
 |nil=>exact .nil
 |@cons p q ps qs h t ih =>
  rw[Zte,Zte]
  refine .cons ?_ ih
  obtain⟨h1,h2,h3⟩:=h
  unfold putAt
  by_cases e:p.1=k
  ·rw[if_pos e,if_pos (h1.symm.trans e)];exact⟨h1,h2,ry⟩
  ·rw[if_neg e,if_neg (fun z=>e (h1.trans z))];exact⟨h1,h2,h3⟩
theorem KT.put{H:Hp}{kvs:List (List Key×V)}{xs:List (List Key×Addr×Value)}(r:KT H kvs xs)(k:List Key){b:Addr}{y:V}{u:Value}(hb:H b=some (.tup (k.map kV)))(ry:Jn y u) :
  KT H (ZeA kvs k y) (storedH xs k b u):=by
 have e:(kvs.any fun kv=>decide (kv.1=k))=(atKey xs k).isSome:=by
  rw[Zdb,(r.val k).isSome_eq,Zvi]
 unfold ZeA storedH
 rw[e]
 by_cases q:(atKey xs k).isSome=true
 ·rw[if_pos q,if_pos q];exact r.repl k ry
 ·rw[if_neg q,if_neg q];exact Paired.snoc r ⟨rfl,hb,ry⟩
theorem KT.keeps{H H':Hp}{kvs:List (List Key×V)}{xs:List (List Key×Addr×Value)}(r:KT H kvs xs)(ht:∀b ys,H b=some (.tup ys)->H' b=some (.tup ys)):KT H' kvs xs:=
 Paired.mapP r fun _ _ z=>⟨z.1,ht _ _ z.2.1,z.2.2⟩
section
variable {P:Program}{w:World}{H:Hp}{h:Heap}{a:Addr}
theorem Zhc{u:HO}(ok:HOk P w H h)(e:Rd H a u):Ju P w H h a u:=e.ok ok
theorem Zgm{kvs:List (Key×V)}(ok:HOk P w H h)(e:Rd H a (.dK kvs)):kvs.length<=sizeLine/\(a==sysModules)=false/\∃vs,KV kvs vs/\h.DictOf (Jq P w) a vs:=
 show Ju P w H h a (.dK kvs) from Zhc ok e
theorem Zng{kvs:List (Key×V)}(ok:HOk P w H h)(e:H a=some (.dK kvs)):kvs.length<=sizeLine/\(a==sysModules)=false/\∃vs,KV kvs vs/\h.DictOf (Jq P w) a vs:=Zgm ok (.inl e)
theorem Zay{ks:List Key}(ok:HOk P w H h)(e:H a=some (.tup (ks.map kV))):(tupleKind (Jq P w)).is h ks a:=by
 obtain⟨_,its,r,o,h1,h2,n,h3⟩:=(show Ju P w H h a (.tup (ks.map kV)) from ok a _ e)
 exact⟨o,its.toArray,n,h1,h2,h3,by simpa using ZbO r⟩
theorem Zgi{kvs:List (List Key×V)}(ok:HOk P w H h)(e:Rd H a (.dT kvs)):kvs.length<=sizeLine/\(a==sysModules)=false /\
  ∃xs,KT H kvs xs/\h.DictOfH (tupleKind (Jq P w)) a xs:=by
 obtain⟨z,y,xs,r,o,es,ep,h1,h2,h3,h4,h5⟩:=(show Ju P w H h a (.dT kvs) from Zhc ok e)
 refine⟨z,y,xs,r,o,es,ep,h1,h2,h3,h4,fun x hx=>?_,h5⟩
 have all:∀{l:List (List Key×V)}{m:List (List Key×Addr×Value)},KT H l m->∀x∈m,(tupleKind (Jq P w)).is h x.1 x.2.1:=by
  intro l m q
  induction q with
  |nil=>intro x hx;exact nomatch hx
  |@cons p q ps qs hq t ih =>
   intro x hx
   rcases Zti.mp hx with e|hx
   ·subst e
    exact Zay ok (by rw[<- hq.1];exact hq.2.1)
   ·exact ih x hx
 exact all r x hx
theorem ZlW{kvs:List (List Key×V)}(ok:HOk P w H h)(e:H a=some (.dT kvs)):kvs.length<=sizeLine/\(a==sysModules)=false /\
  ∃xs,KT H kvs xs/\h.DictOfH (tupleKind (Jq P w)) a xs:=Zgi ok (.inl e)
end
def Zjf(H:Hp)(a:Addr)(y:V)(r:Option V):Prop:=
 (∃kvs k,Rd H a (.dK kvs)/\y=kV k/\r=ZeO kvs k)\/∃kvs k b,Rd H a (.dT kvs)/\y=.ref b/\H b=some (.tup (k.map kV))/\r=ZeO kvs k
def ZnG(H:Hp)(a:Addr)(y v:V)(H':Hp):Prop:=
 (∃kvs k,H a=some (.dK kvs)/\y=kV k/\kvs.length<sizeLine/\H'=upd H a (.dK (ZeA kvs k v))) \/
 ∃kvs k b,H a=some (.dT kvs)/\y=.ref b/\H b=some (.tup (k.map kV))/\kvs.length<sizeLine/\H'=upd H a (.dT (ZeA kvs k v))
section
variable {X:Cx}{pins:List (Addr×Obj)}{σ:St}{H:Hp}{s:Shared}{a:Addr}{y v:V}{u r:Value}{o:Option V}{A:Around}{E:Value->Shared->Prop}
theorem Inv.big(I:Inv X pins σ H s):sysModules<s.heap.objs.size:=by
 have h:mainGlobals<s.heap.objs.size:=(I.mod.glob.keeps I.bk).lt
 exact Nat.lt_trans (by decide) h
theorem Zgu{Q:Value->Shared->Prop}(hu:A.units+1<cLine)(I:Inv X pins σ H s)(g:Zjf H a y (some v))(ry:Jn y u)(h:∀w' s',Inv X pins σ H s'->Jn v w'->Q w' s') :
  wpAny (model X.prog X.w) A (getItem (.ref a) u) Q E s:=by
 rcases g with ⟨kvs,k,e,ey,l⟩|⟨kvs,k,b,e,ey,eb,l⟩
 ·subst ey
  obtain⟨z,hd,vs,rel,dd⟩:=Zgm I.hok e
  obtain⟨w',hw,rw'⟩:=ZgO.some_of (v:=v) (o:=valueAt vs k) (by rw[l];exact rel.val k)
  exact wpAny_getItem_of (ZfT ry) dd.mapOf hw (h w' _ (I.tok _) rw')
 ·subst ey
  cases (show u=Value.ref b from ry)
  obtain⟨z,hd,xs,rel,dd⟩:=Zgi I.hok e
  obtain⟨w',hw,rw'⟩:=ZgO.some_of (v:=v) (o:=(atKey xs k).map (·.2)) (by rw[l];exact rel.val k)
  obtain⟨p,hp,hp2⟩:=ZtM.mp hw
  refine wpAny_getItem_heap (tupleKind_room_in1 hu) (Zay I.hok eb) dd hp ?_
  rw[hp2]
  exact h w' _ (I.tok _) rw'
theorem ZnT{Q:Value->Shared->Prop}(hu:A.units+1<cLine)(I:Inv X pins σ H s)(g:Zjf H a y o)(ry:Jn y u)(h:∀s',Inv X pins σ H s'->Q (.bool o.isSome) s') :
  wpAny (model X.prog X.w) A (compareOp .In u (.ref a)) Q E s:=by
 rcases g with ⟨kvs,k,e,ey,l⟩|⟨kvs,k,b,e,ey,eb,l⟩
 ·subst ey
  obtain⟨z,hd,vs,rel,dd⟩:=Zgm I.hok e
  refine wpAny_in_of (ZfT ry) hd dd.mapOf ?_
  rw[<- (rel.val k).isSome_eq,<- l]
  exact h _ (I.tok _)
 ·subst ey
  cases (show u=Value.ref b from ry)
  obtain⟨z,hd,xs,rel,dd⟩:=Zgi I.hok e
  refine wpAny_in_heap (tupleKind_room_in1 hu) (Zay I.hok eb) hd dd ?_
  have q:=(rel.val k).isSome_eq
  rw[Zvi] at q
  rw[<- q,<- l]
  exact h _ (I.tok _)
theorem Zkq{Q:Value->Shared->Prop}(hu:A.units+1<cLine)(I:Inv X pins σ H s)(g:Zjf H a y o)(ry:Jn y u)(h:∀s',Inv X pins σ H s'->Q (.bool (!o.isSome)) s') :
  wpAny (model X.prog X.w) A (compareOp .NotIn u (.ref a)) Q E s:=by
 rcases g with ⟨kvs,k,e,ey,l⟩|⟨kvs,k,b,e,ey,eb,l⟩
 ·subst ey
  obtain⟨z,hd,vs,rel,dd⟩:=Zgm I.hok e
  refine wpAny_notIn_of (ZfT ry) hd dd.mapOf ?_
  rw[<- (rel.val k).isSome_eq,<- l]
  exact h _ (I.tok _)
 ·subst ey
  cases (show u=Value.ref b from ry)
  obtain⟨z,hd,xs,rel,dd⟩:=Zgi I.hok e
  refine wpAny_notIn_heap (tupleKind_room_in1 hu) (Zay I.hok eb) hd dd ?_
  have q:=(rel.val k).isSome_eq
  rw[Zvi] at q
  rw[<- q,<- l]
  exact h _ (I.tok _)
theorem ZcL{h':Heap}{t':Nat}{ob:HO}(I:Inv X pins σ H s)(mu:Mut (H a))(hs:Heap.SameBut a s.heap h')(he:∃q,h'.get? a=some q)(new:Ju X.prog X.w (upd H a ob) h' a ob) :
  Inv X pins σ (upd H a ob) { s with heap:=h',toks:=t' }:=
 I.write (x:=a) (e:=a) mu (.inl rfl) (fun b q hb z=>(hs.2 b hb).trans z) he new
theorem ZlZ{P:Program}{w:World}{H':Hp}{h':Heap}{kvs:List (Key×V)}{vs:List (Key×Value)}(z:kvs.length<=sizeLine)(hd:(a==sysModules)=false)(rel:KV kvs vs)(dd:h'.DictOf (Jq P w) a vs) :
  Ju P w H' h' a (.dK kvs):=⟨z,hd,vs,rel,dd⟩
theorem Zgt{H':Hp}{Q:Unit->Shared->Prop}(hu:A.units+1<cLine)(I:Inv X pins σ H s)(g:ZnG H a y v H')(ry:Jn y u)(rv:Jn v r)(h:∀s',Inv X pins σ H' s'->Q () s') :
  wpAny (model X.prog X.w) A (setItem (.ref a) u r) Q E s:=by
 rcases g with ⟨kvs,k,e,ey,l,eH⟩|⟨kvs,k,b,e,ey,eb,l,eH⟩
 ·subst ey eH
  obtain⟨z,hd,vs,rel,dd⟩:=Zng I.hok e
  have hz:vs.length<=sizeLine:=by rw[<- rel.length];exact z
  have hl:(ZeA kvs k v).length<=sizeLine:=by have:=QG kvs k v;omega
  refine wpAny_setItem_pairs (hsz:=hz) (ZfT ry) dd fun h' dd' hs=>h _ ?_
  have he:∃q,h'.get? a=some q:=let ⟨q,_,_,hq,_⟩:=dd';⟨q,hq⟩
  exact ZcL I (by rw[e];exact True.intro) hs he (ZlZ hl hd (rel.put k rv) dd')
 ·subst ey eH
  cases (show u=Value.ref b from ry)
  obtain⟨z,hd,xs,rel,dd⟩:=ZlW I.hok e
  have hz:xs.length<=sizeLine:=by rw[<- Paired.length rel];exact z
  have hl:(ZeA kvs k v).length<=sizeLine:=by have:=QG kvs k v;omega
  refine wpAny_setItem_heap (hsz:=hz) (tupleKind_room_in1 hu) (Zay I.hok eb) dd fun h' dd' hs=>h _ ?_
  obtain⟨q,es,ep,hq,h2,h3,h4,_,h5⟩:=dd'
  refine ZcL I (by rw[e];exact True.intro) hs ⟨q,hq⟩ ⟨hl,hd,_,(rel.put k eb rv).keeps fun c ys ec=>?_,q,es,ep,hq,h2,h3,h4,h5⟩
  rw[Zo (ZjR ec e (fun z=>nomatch z))]
  exact ec
end
def ZnF(i:Expr):Prop:=∀ov iv,subscripted i false ov iv=operate [ov,iv] (getItem ov iv)
theorem Zjp{prog:Program}{w:World}{A:Around}{E:Value->Shared->Prop}{s:Shared}{env:Env}{value slice:Expr}{pos:Pos}{T id:String}{Q:Value->Shared->Prop}(hl:typeLookup (.type T) "__getitem__"=pure (some (.builtin id)))(hs:ZnF slice)(h:wpAny (model prog w) A (eval value env) (fun o s₁=>wpAny (model prog w) A (eval slice env) (fun i s₂=>s₂.TypeIs o T/\wpAny (model prog w) A (getItem o i) Q E s₂) E s₁) E s) :
  wpAny (model prog w) A (eval (.Subscript value slice pos) env) Q E s:=by
 refine Subscript_ (wpAny_mono h (fun o s₁ h₁=>wpAny_mono h₁ (fun i s₂ h₂=>?_) fun _ _ x=>x) fun _ _ x=>x)
 obtain⟨hT,h₂⟩:=h₂
 unfold subscriptTail
 refine wpAny_bind ?_
 rw[getitemInPython_of_ne hT.not_modules]
 refine wpAny_bind (wpAny_specialOf hT hl ?_)
 have fin:wpAny (model prog w) A (subscripted slice false o i) (fun r s₃=>wpAny (model prog w) A (letTemporaryGo value o r >>= fun _=>pure r) Q E s₃) E s₂:=by
  rw[hs o i]
  exact wpAny_operating (wpAny_mono h₂ (fun r s₃ h₃=>wpAny_bind (wpAny_letTemporaryGo (wpAny_pure h₃))) fun _ _ x=>x)
 first
  |exact wpAny_pure (wpAny_bind fin)
  |exact wpAny_bind (wpAny_pure (wpAny_bind fin))
  |exact wpAny_bind fin
theorem ZcG{X:Cx}{pins:List (Addr×Obj)}{σ:St}{H:Hp}{s:Shared}{a:Addr}{y:V}{o:Option V}(I:Inv X pins σ H s)(g:Zjf H a y o):s.TypeIs (.ref a) "dict":=by
 rcases g with ⟨kvs,k,e,_,_⟩|⟨kvs,k,b,e,_,_,_⟩
 ·obtain⟨_,_,vs,_,dd⟩:=Zgm I.hok e
  exact dd.typeIs
 ·obtain⟨_,_,xs,_,dd⟩:=Zgi I.hok e
  exact dd.typeIs
noncomputable def ZkP(td ty:TE):TE:=fun σ H Q=>td σ H fun x H1=>ty σ H1 fun y H2=>∃a v,x=.ref a/\Zjf H2 a y (some v)/\Q v H2
noncomputable def Znv(ty td:TE):TE:=fun σ H Q=>ty σ H fun y H1=>td σ H1 fun x H2=>∃a o,x=.ref a/\Zjf H2 a y o/\Q (.bl o.isSome) H2
noncomputable def ZeX(ty td:TE):TE:=fun σ H Q=>ty σ H fun y H1=>td σ H1 fun x H2=>∃a o,x=.ref a/\Zjf H2 a y o/\Q (.bl (!o.isSome)) H2
noncomputable def ZkW(td ty tv:TE):TS:=fun D σ H=>tv σ H fun v H1=>td σ H1 fun x H2=>ty σ H2 fun y H3=>∃a H4,x=.ref a/\ZnG H3 a y v H4/\D.nx σ H4
section
variable {X:Cx}{o i value:Expr}{pos pos':Pos}{td ty tv:TE}
theorem ZaR(hu:X.A.units+1<cLine)(ho:PE X o td)(hi:PE X i ty)(hs:ZnF i):PE X (.Subscript o i pos) (ZkP td ty):=by
 intro pins s σ H Q I h
 refine Zjp PySem.F.slot_dict_getitem.lookup hs (thn (ho pins s σ H _ I h) fun u s1 ⟨x,H1,I1,rx,q1⟩=>thn (hi pins s1 σ H1 _ I1 q1) fun iv s2 ⟨y,H2,I2,ry,a,v,ex,g,q2⟩=>?_)
 subst ex
 obtain rfl:u=Value.ref a:=rx
 exact⟨ZcG I2 g,Zgu hu I2 g ry fun w' s3 I3 rw'=>⟨v,H2,I3,rw',q2⟩⟩
theorem Zd2(hu:X.A.units+1<cLine)(hi:PE X i ty)(ho:PE X o td):PC X .In i o (Znv ty td):=by
 intro pins s σ H Q I h
 refine thn (hi pins s σ H _ I h) fun iv s1 ⟨y,H1,I1,ry,q1⟩=>thn (ho pins s1 σ H1 _ I1 q1) fun u s2 ⟨x,H2,I2,rx,a,ov,ex,g,q2⟩=>?_
 subst ex
 obtain rfl:u=Value.ref a:=rx
 exact ZnT hu I2 g ry fun s3 I3=>⟨.bl ov.isSome,H2,I3,rfl,q2⟩
theorem Q8(hu:X.A.units+1<cLine)(hi:PE X i ty)(ho:PE X o td):PC X .NotIn i o (ZeX ty td):=by
 intro pins s σ H Q I h
 refine thn (hi pins s σ H _ I h) fun iv s1 ⟨y,H1,I1,ry,q1⟩=>thn (ho pins s1 σ H1 _ I1 q1) fun u s2 ⟨x,H2,I2,rx,a,ov,ex,g,q2⟩=>?_
 subst ex
 obtain rfl:u=Value.ref a:=rx
 exact Zkq hu I2 g ry fun s3 I3=>⟨.bl (!ov.isSome),H2,I3,rfl,q2⟩
theorem ZaP(hu:X.A.units+1<cLine)(ho:PE X o td)(hi:PE X i ty)(hv:PE X value tv)(hs:swapsWith value (some (.Subscript o i pos')) pos.line X.env=pure false) :
  PS X (.Assign [.Subscript o i pos'] value pos) (ZkW td ty tv):=by
 intro pins s σ H D I h
 refine wpAny_Assign_Subscript (thn (hv pins s σ H _ I h) fun r s1 ⟨v,H1,I1,rv,q1⟩=>thn (ho pins s1 σ H1 _ I1 q1) fun u s2 ⟨x,H2,I2,rx,q2⟩=>thn (hi pins s2 σ H2 _ I2 q2) fun iv s3 ⟨y,H3,I3,ry,a,H4,ex,g,q3⟩=>?_) hs
 subst ex
 obtain rfl:u=Value.ref a:=rx
 exact Zgt hu I3 g ry rv fun s4 I4=>⟨σ,H4,I4,q3⟩
end
theorem ZdM{P:Program}{w:World}{H:Hp}(h:Heap)(hb:sysModules<h.objs.size):Ju P w H (h.push { cls:=.type "dict",data:=.dict #[] }) h.objs.size (.dT []):=
 ⟨ZtB _,beq_eq_false_iff_ne.mpr (Ne.symm (Zt1 hb)),[],.nil,_,#[],0,Heap.get?_push_size _ rfl,⟨rfl,rfl,rfl⟩,rfl,rfl,List.nodup_nil⟩
noncomputable def Zi1:TE:=fun _ H Q=>∀p,H p=none->Q (.ref p) (upd H p (.dT []))
section
variable {X:Cx}{pos:Pos}
theorem Zdz:PE X (.Dict [] [] pos) Zi1:=fun pins s σ H Q I h =>
 wpAny_Dict_empty ⟨.ref s.heap.objs.size,_,I.laid (a:=s.heap.objs.size) (o:=.dT []) (t':=s.toks) (fun _ _ q=>Heap.get?_push_of_some _ q) (ZsX _) (ZdM s.heap I.big),rfl,h _ (I.hok.fresh (ZsX _))⟩
end
noncomputable def Zdf:List (TE×TE)->St->Hp->(List (V×V)->Hp->Prop)->Prop
 |[],_,H,Q=>Q [] H
 |(tk,tv)::r,σ,H,Q=>tk σ H fun x H1=>tv σ H1 fun y H2=>Zdf r σ H2 fun ps H3=>Q ((x,y)::ps) H3
noncomputable abbrev VV:List (V×V)->List (Value×Value)->Prop:=Paired fun p q=>Jn p.1 q.1/\Jn p.2 q.2
def PPs(X:Cx)(pos:Pos)(keys:List (Option Expr))(values:List Expr)(trs:List (TE×TE)):Prop:=
 ∀(pins:List (Addr×Obj)) (s:Shared) (σ:St) (H:Hp) (Q:List (V×V)->Hp->Prop),Inv X pins σ H s->Zdf trs σ H Q ->
  wpAny (model X.prog X.w) X.A (evalPairs (pairTrees keys values X.env pos)) (fun vs s'=>∃ps H',Inv X pins σ H' s'/\VV ps vs/\Q ps H') X.xe s
theorem Zj1{X:Cx}{pos:Pos}:PPs X pos [] [] []:=fun pins s σ H Q I h=>pairTrees_nil_walk ⟨[],H,I,.nil,h⟩
theorem Zhg{X:Cx}{pos:Pos}{k v:Expr}{ks:List (Option Expr)}{vs:List Expr}{tk tv:TE}{trs:List (TE×TE)}(hk:PE X k tk)(hv:PE X v tv)(hr:PPs X pos ks vs trs) :
  PPs X pos (some k::ks) (v::vs) ((tk,tv)::trs):=fun pins s σ H Q I h =>
 pairTrees_cons_walk (thn (hk pins s σ H _ I h) fun u s1 ⟨x,H1,I1,rx,q1⟩=>thn (hv pins s1 σ H1 _ I1 q1) fun w2 s2 ⟨y,H2,I2,ry,q2⟩ =>
  thn (hr pins s2 σ H2 _ I2 q2) fun ws s3 ⟨ps,H3,I3,rel,q3⟩=>⟨(x,y)::ps,H3,I3,.cons ⟨rx,ry⟩ rel,q3⟩)
section
end
noncomputable def Zc9:Key->PV
 |.inl i=>.int i
 |.inr x=>.str x
noncomputable def Zet:PV->Option Key
 |.int i=>some (.inl i)
 |.str x=>some (.inr x)
 |_=>none
noncomputable def U1:List PV->Option (List Key)
 |[]=>some []
 |x::xs=>match Zet x,U1 xs with
  |some k,some ks=>some (k::ks)
  |_,_=>none
theorem Zbe{x:PV}{k:Key}(h:Zet x=some k):x=Zc9 k:=by
 cases x<;>first|(cases h;rfl)|cases h
theorem U0:∀{xs:List PV}{ks:List Key},U1 xs=some ks->xs=ks.map Zc9
 |[],ks,h=>by cases h;rfl
 |x::xs,ks,h=>by
  unfold U1 at h
  split at h
  ·rename_i k ks' h1 h2
   cases h
   rw[Zbe h1,U0 h2];rfl
  ·cases h
@[simp] theorem Zk9(k:Key):Zet (Zc9 k)=some k:=by cases k<;>rfl
@[simp] theorem Vk:∀ks:List Key,U1 (ks.map Zc9)=some ks
 |[]=>rfl
 |k::ks=>by simp[U1,Vk ks]
section
variable {K:W.Frag}{H:Hp}{S:Addr->Prop}
theorem Zcu{k:Key}{v:V}(h:Rep K H S (Zc9 k) v):v=kV k:=by cases k<;>exact h
theorem Um:∀{ks:List Key}{vs:List V},Reps K H S (ks.map Zc9) vs->vs=ks.map kV
 |[],_,h=>h
 |k::ks,_,h=>by
  obtain⟨v,r,rfl,h1,h2⟩:=h
  rw[Zcu h1,Um h2];rfl
end
section
variable {κ:Type} [DecidableEq κ] {α:Type}
noncomputable def atK:List κ->List α->κ->Option α
 |k'::ks,x::xs,k=>if k'=k then some x else atK ks xs k
 |_,_,_=>none
noncomputable def ZgZ:List κ->List α->κ->α->List α
 |k'::ks,x::xs,k,y=>(if k'=k then y else x)::ZgZ ks xs k y
 |_,_,_,_=>[]
noncomputable def Znb(k:κ)(ks:List κ):Bool:=decide (k∈ks)
theorem ZfH{k:κ}{ks:List κ}(h:Znb k ks=false):k ∉ ks:=of_decide_eq_false h
noncomputable def Zae(ks:List κ)(k:κ):List κ:=if k∈ks then ks else ks++[k]
noncomputable def UI(ks:List κ)(xs:List α)(k:κ)(y:α):List α:=if k∈ks then ZgZ ks xs k y else xs++[y]
theorem Zdn:∀{ks:List κ}{xs:List α}{k:κ}{y:α},ks.length=xs.length->(ZgZ ks xs k y).length=ks.length
 |[],[],_,_,_=>rfl
 |k'::ks,x::xs,k,y,h=>by simp[ZgZ,Zdn (ks:=ks) (xs:=xs) (k:=k) (y:=y) (by simpa using h)]
 |[],_::_,_,_,h=>by simp at h
 |_::_,[],_,_,h=>by simp at h
theorem Zfp{ks:List κ}{xs:List α}{k:κ}{y:α}(h:ks.length=xs.length):(Zae ks k).length=(UI ks xs k y).length:=by
 unfold Zae UI
 split
 ·rw[Zdn h]
 ·simp[h]
theorem ZaF:∀{ks:List κ}{vs:List V}{k:κ},ks.length=vs.length->ZeO (ks.zip vs) k=atK ks vs k
 |[],[],_,_=>rfl
 |k'::ks,v::vs,k,h=>by
  rw[ZuD]
  unfold atK
  by_cases e:k'=k
  ·rw[Qa e,if_pos e]
  ·rw[Qb e,if_neg e,ZaF (by simpa using h)]
 |[],_::_,_,h=>by simp at h
 |_::_,[],_,h=>by simp at h
theorem ZcT:∀{ks:List κ}{vs:List V}{k:κ},ks.length=vs.length->(((ks.zip vs).any fun kv=>decide (kv.1=k))=true ↔ k∈ks)
 |[],[],_,_=>by simp
 |k'::ks,v::vs,k,h=>by
  rw[ZuD,Zu1,Bool.or_eq_true,ZcT (by simpa using h),Zti,decide_eq_true_eq]
  exact⟨fun z=>z.imp Eq.symm id,fun z=>z.imp Eq.symm id⟩
 |[],_::_,_,h=>by simp at h
 |_::_,[],_,h=>by simp at h
theorem Zfc:∀{ks:List κ}{vs:List V}{k:κ}{y:V},ks.length=vs.length->((ks.zip vs).map fun kv=>if kv.1=k then (kv.1,y) else kv)=ks.zip (ZgZ ks vs k y)
 |[],[],_,_,_=>rfl
 |k'::ks,v::vs,k,y,h=>by
  rw[ZuD,Zte,Zfc (by simpa using h)]
  show _=(k'::ks).zip ((if k'=k then y else v)::ZgZ ks vs k y)
  by_cases e:k'=k
  ·rw[if_pos e,if_pos e];rfl
  ·rw[if_neg e,if_neg e];rfl
 |[],_::_,_,_,h=>by simp at h
 |_::_,[],_,_,h=>by simp at h
theorem Zdt{ks:List κ}{vs:List V}{k:κ}{y:V}(h:ks.length=vs.length):ZeA (ks.zip vs) k y=(Zae ks k).zip (UI ks vs k y):=by
 unfold ZeA Zae UI
 by_cases c:k∈ks
 ·rw[if_pos ((ZcT h).mpr c),if_pos c,if_pos c,Zfc h]
 ·rw[if_neg (fun z=>c ((ZcT h).mp z)),if_neg c,if_neg c,List.zip_append h];rfl
end
section
variable {κ:Type} [DecidableEq κ] {K:W.Frag}{H:Hp}{S:Addr->Prop}
theorem Zdo:∀{ks:List κ}{xs:List PV}{vs:List V}{k:κ},Reps K H S xs vs->match atK ks xs k with
  |some y=>∃v,atK ks vs k=some v/\Rep K H S y v
  |none=>atK ks vs k=none
 |[],xs,vs,k,h=>by simp[atK]
 |k'::ks,[],vs,k,h=>by rw[h];simp[atK]
 |k'::ks,x::xs,vs,k,h=>by
  obtain⟨v,r,rfl,h1,h2⟩:=h
  unfold atK
  by_cases e:k'=k
  ·rw[if_pos e,if_pos e];exact⟨v,rfl,h1⟩
  ·rw[if_neg e,if_neg e];exact Zdo h2
theorem Zal:∀{ks:List κ}{xs:List PV}{vs:List V}{G:List Addr}{k:κ}{y:PV}{w:V},ks.length=xs.length->Trees K H xs vs G->ZW K H y w []->∃G',(∀a∈G',a∈G)/\Trees K H (ZgZ ks xs k y) (ZgZ ks vs k w) G'
 |[],[],vs,G,k,y,w,_,h,_=>⟨[],by simp,by rw[h.1];exact⟨rfl,rfl⟩⟩
 |k'::ks,x::xs,vs,G,k,y,w,hl,h,hy=>by
  obtain⟨v,r,G1,G2,rfl,h1,h2,h3,rfl⟩:=h
  obtain⟨G',g1,g2⟩:=Zal (ks:=ks) (k:=k) (y:=y) (w:=w) (by simpa using hl) h2 hy
  unfold ZgZ
  by_cases e:k'=k
  ·rw[if_pos e,if_pos e]
   exact⟨G',fun a ha=>ZsY _ (g1 a ha),w,_,[],G',rfl,hy,g2,by simp,rfl⟩
  ·rw[if_neg e,if_neg e]
   refine⟨G1++G',fun a ha=>?_,v,_,G1,G',rfl,h1,g2,fun a ha z=>h3 a ha (g1 a z),rfl⟩
   rcases Zta.mp ha with z|z
   ·exact Ztb _ z
   ·exact ZsY _ (g1 a z)
 |[],_::_,_,_,_,_,_,hl,_,_=>by simp at hl
 |_::_,[],_,_,_,_,_,hl,_,_=>by simp at hl
theorem ZW.flatG{x:PV}{v:V}{G:List Addr}(f:x.flat=true)(h:ZW K H x v G):ZW K H x v []:=Rep.tree f (h.rep (S:=fun _=>True) fun _ _=>trivial)
end
section
variable {K:W.Frag}{B:Addr->Prop}{EX:PX->Hp->Prop}{H0 H H':Hp}{σ:St}{Γ Γ' Γ1 Γ2 Γ3:List Md}{ρ:List PV}{F F':Nat->List Addr}{R:List Addr}{ta tb:TE}{f fa fb:List PV->Rr PV}{k:Kd}
theorem Res.newBox{H1:Hp}{F1:Nat->List Addr}{s:Sh}{xs:List PV}{vs:List V}{u:HO}{p:Addr}{S:Addr->Prop}(s1:Z7 H H1)(f1:∀i,∀a∈F1 i,a∈F i)(hb:ZkE K s vs u)(p1:Reps K H1 S xs vs)(hx:PV.flats xs=true)(A1:Ag K B H0 H1 σ Γ' ρ F1 R)(hp:H1 p=none) :
  Res K B H0 H σ Γ' ρ F R .F (.box none s xs) (.ref p) (upd H1 p u):=by
 have e:Z7 H1 (upd H1 p u):=Z7.new hp
 refine⟨F1,f1,[p],⟨p,vs,u,[],rfl,Zv,⟨trivial,hb⟩,(Reps.trees hx p1).same e,by simp,rfl⟩,fun a ha=>?_,A1.newB hb.lv hp⟩
 rw[Ztj.mp ha]
 exact⟨(A1.fresh hp).1,.inl (s1.free hp)⟩
theorem ZdR:DE K EX Γ Γ .F Zi1 (fun _=>.ok (.box none (.dt []) [])):=fun B H0 H σ ρ F R Q A d p hp =>
 d _ _ (Z7.new hp) (Res.newBox (S:=fun _=>True) (vs:=[]) (Z7.refl _) (fun _ _ h=>h) ⟨rfl,rfl⟩ rfl rfl A hp)
noncomputable def dAt(x y:PV):Option (Option PV):=match x,y with
 |.box _ (.dk ks) xs,y=>(Zet y).map fun k=>atK ks xs k
 |.box _ (.dt ks) xs,.tup ys=>(U1 ys).map fun k=>atK ks xs k
 |_,_=>none
noncomputable def ZiE(g:Bool->Bool)(y x:PV):Rr PV:=match dAt x y with
 |some o=>.ok (.bl (g o.isSome))
 |none=>.bad
noncomputable def Zhy(x y:PV):Rr PV:=match dAt x y with
 |some (some z)=>.ok z
 |_=>.bad
theorem ZcM{x y:PV}{v w:V}{o:Option PV}{S:Addr->Prop}(hx:Rep K H S x v)(hy:Rep K H (fun _=>True) y w)(e:dAt x y=some o) :
  ∃a r,v=.ref a/\Zjf H a w r/\r.isSome=o.isSome/\∀z,o=some z->∃u,r=some u/\Rep K H S z u:=by
 have fin:∀{κ:Type} [DecidableEq κ] {ks:List κ}{xs:List PV}{vs:List V}{k:κ},Reps K H S xs vs->o=atK ks xs k->(atK ks vs k).isSome=o.isSome/\∀z,o=some z->∃u,atK ks vs k=some u/\Rep K H S z u:=fun {κ} _ {ks xs vs k} h e=>by
  have:=Zdo (ks:=ks) (k:=k) h
  rw[<- e] at this
  cases o with
  |none=>exact⟨by rw[this];rfl,fun z q=>by cases q⟩
  |some z =>
   obtain⟨u,e1,e2⟩:=this
   exact⟨by rw[e1];rfl,fun z' q=>by cases q;exact⟨u,e1,e2⟩⟩
 unfold dAt at e
 split at e
 ·rename_i p ks xs
  obtain⟨a,vs,u,rfl,hr,⟨_,hl,rfl⟩,hxs⟩:=hx
  cases ek:Zet y with
  |none=>rw[ek] at e;cases e
  |some k =>
   rw[ek] at e
   cases e
   rw[Zbe ek] at hy
   obtain⟨g1,g2⟩:=fin (ks:=ks) (k:=k) hxs rfl
   exact⟨a,atK ks vs k,rfl,.inl ⟨_,k,hr.1,Zcu hy,(ZaF hl).symm⟩,g1,g2⟩
 ·rename_i p ks xs ys
  obtain⟨a,vs,u,rfl,hr,⟨_,hl,rfl⟩,hxs⟩:=hx
  cases ek:U1 ys with
  |none=>rw[ek] at e;cases e
  |some k =>
   rw[ek] at e
   cases e
   rw[U0 ek] at hy
   obtain⟨b,ws,rfl,hb,hws⟩:=hy
   rw[Um hws] at hb
   obtain⟨g1,g2⟩:=fin (ks:=ks) (k:=k) hxs rfl
   exact⟨a,atK ks vs k,rfl,.inr ⟨_,k,b,hr.1,rfl,hb.1,(ZaF hl).symm⟩,g1,g2⟩
 ·cases e
theorem ZdS(ha:DE K EX Γ Γ1 .A ta fa)(hb:DE K EX Γ1 Γ2 .A tb fb):DE K EX Γ Γ2 .P (Znv ta tb) (fun ρ=>(fa ρ).bind fun y=>(fb ρ).bind fun x=>ZiE id y x):=fun B H0 H σ ρ F R Q A d=>by
 refine two ha hb A d.bind2 fun y x w v H' F' d s f py px A'=>?_
 unfold ZiE at d
 cases e:dAt x y with
 |none=>rw[e] at d;exact d.elim
 |some o =>
  rw[e] at d
  obtain⟨a,r,rfl,g1,g2,_⟩:=ZcM px py e
  exact⟨a,r,rfl,g1,by rw[g2];exact d _ _ s ⟨F',f,rfl,rfl,A'⟩⟩
theorem QW(ha:DE K EX Γ Γ1 .A ta fa)(hb:DE K EX Γ1 Γ2 .A tb fb):DE K EX Γ Γ2 .P (ZeX ta tb) (fun ρ=>(fa ρ).bind fun y=>(fb ρ).bind fun x=>ZiE (!·) y x):=fun B H0 H σ ρ F R Q A d=>by
 refine two ha hb A d.bind2 fun y x w v H' F' d s f py px A'=>?_
 unfold ZiE at d
 cases e:dAt x y with
 |none=>rw[e] at d;exact d.elim
 |some o =>
  rw[e] at d
  obtain⟨a,r,rfl,g1,g2,_⟩:=ZcM px py e
  exact⟨a,r,rfl,g1,by rw[g2];exact d _ _ s ⟨F',f,rfl,rfl,A'⟩⟩
theorem Zbn(ha:DE K EX Γ Γ1 .A ta fa)(hb:DE K EX Γ1 Γ2 .A tb fb):DE K EX Γ Γ2 .A (ZkP ta tb) (fun ρ=>(fa ρ).bind fun x=>(fb ρ).bind fun y=>Zhy x y):=fun B H0 H σ ρ F R Q A d=>by
 refine two ha hb A d.bind2 fun x y v w H' F' d s f px py A'=>?_
 unfold Zhy at d
 cases e:dAt x y with
 |none=>rw[e] at d;exact d.elim
 |some o =>
  rw[e] at d
  cases o with
  |none=>exact d.elim
  |some z =>
   obtain⟨a,r,rfl,g1,_,g3⟩:=ZcM px py e
   obtain⟨u,rfl,hu⟩:=g3 z rfl
   exact⟨a,u,rfl,g1,d _ _ s ⟨F',f,hu,A'⟩⟩
noncomputable def Zhx(x y z:PV):Rr PV:=match x,y with
 |.box p (.dk ks) xs,y=>match Zet y with
  |some k=>if xs.length<1000000/\(Znb k ks=false\/z.flat=true) then .ok (.box p (.dk (Zae ks k)) (UI ks xs k z)) else .bad
  |none=>.bad
 |.box p (.dt ks) xs,.tup ys=>match U1 ys with
  |some k=>if xs.length<1000000/\(Znb k ks=false\/z.flat=true) then .ok (.box p (.dt (Zae ks k)) (UI ks xs k z)) else .bad
  |none=>.bad
 |_,_=>.bad
theorem Zb6{κ:Type}[DecidableEq κ]{ks:List κ}{xs:List PV}{vs:List V}{k:κ}{y:PV}{w:V}{G G2:List Addr}(hl:ks.length=xs.length)(h:Trees K H xs vs G)(hy:ZW K H y w G2)(hd:∀a∈G,a ∉ G2)(hk:k∈ks->y.flat=true) :
  ∃G',(∀a∈G',a∈G\/a∈G2)/\Trees K H (UI ks xs k y) (UI ks vs k w) G':=by
 unfold UI
 by_cases c:k∈ks
 ·rw[if_pos c,if_pos c]
  obtain⟨G',g1,g2⟩:=Zal (k:=k) hl h (hy.flatG (hk c))
  exact⟨G',fun a ha=>.inl (g1 a ha),g2⟩
 ·rw[if_neg c,if_neg c]
  exact⟨G++G2,fun a ha=>Zta.mp ha,Trees.append h (Trees.one hy) hd⟩
theorem Qs{i:Nat}{tv:TE}{fv:List PV->Rr PV}(hm:Γ1[i]?=some .O)(hv:DE K EX Γ Γ1 .F tv fv)(hk:DE K EX Γ1 Γ1 .A tb fb) :
  DS K EX Γ ⟨Γ1,Γ2,Γ3,k⟩ (ZkW (Qf i) tb tv) (fun ρ=>(fv ρ).thenS fun z=>(fb ρ).thenS fun y=>(Zhx (gv i ρ) y z).thenS fun x=>.next (ρ.set i x)):=fun B H0 H σ ρ F D A d=>by
 refine hv B H0 H σ ρ F [] _ A (d.thenS.imp (fun z _ d w H1 s1 r1=>?_) fun e q=>q)
 obtain⟨F1,f1,G2,t1,o1,A1⟩:=r1
 obtain⟨v,h1,h2⟩:=A1.getO hm
 refine⟨v,h1,hk B H0 H1 σ ρ F1 (G2++[]) _ A1 (d.thenS.imp (fun y _ d yv H2 s2 r2=>?_) fun e q=>q)⟩
 obtain⟨F2,f2,p2,A2⟩:=r2
 obtain⟨v',h1',h2'⟩:=A2.getO hm
 rw[h1] at h1';cases h1'
 have d:=d.thenS
 have t2:=t1.same s2
 have core:∀{p:Option Addr}{s s':Sh}{xs xs':List PV}{a:Addr}{vs vs':List V}{u u':HO}{G G':List Addr},ρ.getD i .non=.box p s xs->H2 a=some u->Zm9 p a->Trees K H2 xs vs G->a ∉ G->F2 i=a::G->ZkE K s' vs' u'->Trees K H2 xs' vs' G'->(∀b∈G',b∈G\/b∈G2) ->
   σ[i]?=some (some (.ref a))->DnS K B EX ⟨Γ1,Γ2,Γ3,k⟩ H0 H F D (.next (ρ.set i (.box p s' xs')))->D.nx σ (upd H2 a u'):=fun {p s s' xs xs' a vs vs' u u' G G'} er hH hpn ht hn hF hb ht' hsub hσ d=>by
  have haF:a∈F2 i:=by rw[hF];simp
  have na2:a ∉ G2:=fun z=>A2.disjR i a haF (Ztb _ z)
  have hna:a ∉ G':=fun z=>(hsub a z).elim hn na2
  have hsub2:∀b∈a::G',b∈F2 i\/b∈G2:=fun b hb=>by
   rcases Zti.mp hb with rfl|hb
   ·exact .inl haF
   ·rcases hsub b hb with z|z
    ·exact .inl (by rw[hF];simp[z])
    ·exact .inr z
  obtain⟨lv,hlv⟩:=A2.live i a haF
  refine d σ _ (VN F2 i (a::G')) (QR (s1.trans s2) (fun j b hb=>f1 j b (f2 j b hb)) haF fun b hb=>?_) (Ag.chgB hb.lv (G:=G2) (R:=[]) A2 hm haF hsub2 (by simp) ?_)
  ·rcases hsub2 b hb with z|z
   ·exact .inr ⟨i,f1 i b (f2 i b z)⟩
   ·exact(o1 b z).2
  ·exact⟨_,hσ,a,vs',u',G',rfl,Zv,⟨hpn,hb⟩,Trees.putL hlv hna ht',hna,rfl⟩
 unfold Zhx at d
 split at d
 ·rename_i p ks xs er _ _
  rw[show ρ.getD i .non=.box p (.dk ks) xs from er] at h2'
  obtain⟨a,vs,u,G,rfl,hH,⟨hpn,hl,rfl⟩,ht,hn,hF⟩:=h2'
  split at d
  ·rename_i kk ek
   split at d
   ·rename_i hc
    rw[Zbe ek] at p2
    have hl':ks.length=xs.length:=by rw[hl,ht.length]
    have dj:∀b∈G,b ∉ G2:=fun b hb z=>A2.disjR i b (by rw[hF];simp[hb]) (Ztb _ z)
    obtain⟨G',g1,g2⟩:=Zb6 (k:=kk) hl' ht t2 dj (fun c=>hc.2.resolve_left (fun z=>ZfH z c))
    refine⟨a,_,rfl,.inl ⟨_,kk,hH,Zcu p2, ?_,rfl⟩,core er hH hpn ht hn hF (s':=.dk (Zae ks kk)) (vs':=UI ks vs kk w) ⟨Zfp hl, ?_⟩ g2 g1 h1 d⟩
    ·rw[Zub,hl,Zvr,ht.length];exact Zto hc.1 (by decide)
    ·rw[Zdt hl]
   ·exact d.elim
  ·exact d.elim
 ·rename_i p ks xs ys er _ _
  rw[show ρ.getD i .non=.box p (.dt ks) xs from er] at h2'
  obtain⟨a,vs,u,G,rfl,hH,⟨hpn,hl,rfl⟩,ht,hn,hF⟩:=h2'
  split at d
  ·rename_i kk ek
   split at d
   ·rename_i hc
    rw[U0 ek] at p2
    obtain⟨b,ws,rfl,hb,hws⟩:=p2
    rw[Um hws] at hb
    have hl':ks.length=xs.length:=by rw[hl,ht.length]
    have dj:∀b∈G,b ∉ G2:=fun b hb z=>A2.disjR i b (by rw[hF];simp[hb]) (Ztb _ z)
    obtain⟨G',g1,g2⟩:=Zb6 (k:=kk) hl' ht t2 dj (fun c=>hc.2.resolve_left (fun z=>ZfH z c))
    refine⟨a,_,rfl,.inr ⟨_,kk,b,hH,rfl,hb.1, ?_,rfl⟩,core er hH hpn ht hn hF (s':=.dt (Zae ks kk)) (vs':=UI ks vs kk w) ⟨Zfp hl, ?_⟩ g2 g1 h1 d⟩
    ·rw[Zub,hl,Zvr,ht.length];exact Zto hc.1 (by decide)
    ·rw[Zdt hl]
   ·exact d.elim
  ·exact d.elim
 ·exact d.elim
end
noncomputable def ZeW(tk tv:TE):TE:=fun σ H Q=>∀p,H p=none->tk σ (upd H p (.dT [])) fun x H1=>tv σ H1 fun y H2=>∃b k,x=.ref b/\H2 b=some (.tup (k.map kV))/\H2 p=some (.dT [])/\Q (.ref p) (upd H2 p (.dT [(k,y)]))
theorem ZbC{X:Cx}{pos:Pos}{e v:Expr}{tk tv:TE}(hu:X.A.units+1<cLine)(hk:PE X e tk)(hv:PE X v tv):PE X (.Dict [some e] [v] pos) (ZeW tk tv):=by
 intro pins s σ H Q I q
 have hn:=I.hok.fresh (ZsX s.heap.objs.size)
 have I1:=I.laid (a:=s.heap.objs.size) (o:=.dT []) (h':=s.heap.push { cls:=.type "dict",data:=.dict #[] }) (t':=s.toks) (fun _ _ q=>Heap.get?_push_of_some _ q) (ZsX _) (ZdM s.heap I.big)
 have hp:=Zhg (pos:=pos) hk hv Zj1
 refine wpAny_Dict_any rfl rfl (by simp) (by simp) (thn (hp pins _ σ _ (fun ps H2=>∃x y,ps=[(x,y)]/\∃b k,x=.ref b/\H2 b=some (.tup (k.map kV))/\H2 s.heap.objs.size=some (.dT [])/\Q (.ref s.heap.objs.size) (upd H2 s.heap.objs.size (.dT [(k,y)]))) I1 ?_) fun ws s2 ⟨ps,H2,I2,rel,x,y,ep,b,kk,ex,eb,e,q2⟩=>?_)
 ·have:=q _ hn
  show Zdf [(tk,tv)] σ _ _
  unfold Zdf
  refine cast (congrArg (fun f=>tk σ (upd H s.heap.objs.size (.dT [])) f) (funext fun x=>funext fun H1=>congrArg (fun f=>tv σ H1 f) (funext fun y=>funext fun H2=>propext ⟨fun z=>⟨x,y,rfl,z⟩,fun⟨x',y',e',z⟩=>by cases e';exact z⟩))) this
 subst ep ex
 rcases ws with _|⟨⟨uk,uv⟩,ws⟩
 ·cases rel
 cases rel with
 |cons r1 r2 =>
  cases r2
  obtain⟨rk,rv⟩:=r1
  have ek:uk=Value.ref b:=rk
  subst ek
  obtain⟨z,hd,xs,rl,dd⟩:=ZlW I2.hok e
  cases rl
  show wpAny _ _ (forIn [(Value.ref b,uv)] PUnit.unit _) _ _ s2
  rw[List.forIn_cons]
  refine wpAny_bind (wpAny_bind (wpAny_dictSet_heap (hsz:=ZtB _) (show X.A.units<cLine by omega) (Zay I2.hok eb) dd fun h' dd' hs=>wpAny_pure ?_))
  dsimp only
  rw[List.forIn_nil]
  refine wpAny_pure ⟨.ref s.heap.objs.size,_, ?_,rfl,q2⟩
  obtain⟨qo,es,ep,hq,h2,h3,h4,_,h5⟩:=dd'
  refine ZcL I2 (by rw[e];exact True.intro) hs ⟨qo,hq⟩ ⟨?_,hd,_, ?_,qo,es,ep,hq,h2,h3,h4,h5⟩
  ·show 1<=sizeLine
   decide
  ·refine .cons ⟨rfl, ?_,rv⟩ .nil
   show upd H2 s.heap.objs.size _ b=_
   rw[Zo (ZjR eb e (fun z=>nomatch z))]
   exact eb
section
variable {K:W.Frag}{B:Addr->Prop}{EX:PX->Hp->Prop}{H0 H:Hp}{σ:St}{Γ Γ1 Γ2:List Md}{ρ:List PV}{F:Nat->List Addr}{R:List Addr}{ta tb:TE}{fa fb:List PV->Rr PV}{k:Kd}
noncomputable def Zau(y z:PV):Rr PV:=match y with
 |.tup ys=>match U1 ys with
  |some k=>.ok (.box none (.dt [k]) [z])
  |none=>.bad
 |_=>.bad
theorem ZbY(ha:DE K EX Γ Γ1 .A ta fa)(hb:DE K EX Γ1 Γ2 .P tb fb):DE K EX Γ Γ2 .F (ZeW ta tb) (fun ρ=>(fa ρ).bind fun y=>(fb ρ).bind fun z=>Zau y z):=fun B H0 H σ ρ F R Q A d p hp=>by
 have A0:=A.newB (u:=.dT []) trivial hp
 have s0:Z7 H (upd H p (.dT [])):=Z7.new hp
 refine ha B H0 _ σ ρ F (p::R) _ A0 (d.bind.imp (fun y _ d w H1 s1 r1=>?_) fun e q=>q)
 obtain⟨F1,f1,p1,A1⟩:=r1
 refine hb B H0 H1 σ ρ F1 (p::R) _ A1 (d.bind.imp (fun z _ d v H2 s2 r2=>?_) fun e q=>q)
 obtain⟨F2,f2,z1,z2,A2⟩:=r2
 have p1':=p1.same s2
 unfold Zau at d
 split at d
 ·rename_i ys
  split at d
  ·rename_i kk ek
   rw[U0 ek] at p1'
   obtain⟨b,ws,rfl,hb,hws⟩:=p1'
   rw[Um hws] at hb
   have hH:H2 p=some (.dT []):=s2 _ _ (s1 _ _ Zv)
   refine⟨b,kk,rfl,hb.1,hH, ?_⟩
   have hpR:p ∉ R:=fun q=>by obtain⟨u,e⟩:=A.liveR p q;rw[hp] at e;cases e
   have hpF:∀i,p ∉ F i:=fun i q=>by obtain⟨u,e⟩:=A.live i p q;rw[hp] at e;cases e
   have AR:Ag K B H0 (upd H2 p (.dT [(kk,v)])) σ Γ2 ρ F2 (p::R):=by
    refine⟨fun c o e=>?_,A2.own,A2.young,A2.youngR,fun i c hc=>?_,fun c hc=>?_,A2.disj,A2.disjR,A2.lenS,A2.lenR,fun i=>?_⟩
    ·rw[Zo (fun z=>by rw[z] at e;have:=A2.youngR p (by simp);rw[e] at this;cases this)];exact A2.same c o e
    ·rw[Zo (fun z=>by rw[z] at hc;exact A2.disjR i p hc (by simp))];exact A2.live i c hc
    ·by_cases q:c=p
     ·exact⟨⟨.dT [(kk,v)],trivial⟩,by rw[q,Zv]⟩
     ·rw[Zo q];exact A2.liveR c hc
    ·refine(A2.slot i).mono (fun c us s r=>⟨?_,s⟩) (fun c us r=>Im.putL (us:=⟨.dT [],trivial⟩) hH r) fun c hc us q=>?_
     ·have hne:c≠p:=fun z=>s.2.1 (by rw[z];simp)
      rcases r with r|⟨o',r⟩
      ·exact .inl (by rw[Zo hne];exact r)
      ·exact .inr ⟨o',by rw[Zo hne];exact r⟩
     ·have hne:c≠p:=fun z=>A2.disjR i c hc (by rw[z];simp)
      rw[Zo hne];exact q
   have sm:Z7 H (upd H2 p (.dT [(kk,v)])):=fun c o e=>by
    rw[Zo (Z8 e hp)];exact s2 _ _ (s1 _ _ (s0 _ _ e))
   refine d _ _ sm ⟨F2,fun i a h=>f1 i a (f2 i a h),[p],⟨p,[v],_,[],rfl,Zv,⟨trivial,rfl,rfl⟩, ?_,by simp,rfl⟩,fun a ha=>?_,AR⟩
   ·exact⟨v,[],[],[],rfl,ZW.mono (fun a ha=>by cases ha) (fun c us r=>Im.putL (us:=⟨.dT [],trivial⟩) hH r) (z2.tree z1),⟨rfl,rfl⟩,by simp,rfl⟩
   ·rw[Ztj.mp ha];exact⟨hpR,.inl hp⟩
  ·exact d.elim
 ·exact d.elim
end
section
variable {X:Cx}{K:W.Frag}
def Zi7(K:W.Frag):List V->Hp->VK->Prop:=fun xs H Q=>∃p ys,xs=[.ref p]/\((SqL K H p ys/\∀l,H l=none->Q (.ref l) (upd H l (.tup ys)))\/(SqT K H p ys/\Q (.ref p) H))
theorem ZZ(e:X.K=K:=by rfl):Vc X (.type "tuple") (Zi7 K):=by subst e;exact Zbs
theorem Jt:bootBuiltins "tuple"=some (.type "tuple"):=by decide +kernel
theorem Zj2{tg l:Expr}{tl:TE}(hl:PE X l tl)(e:X.K=K:=by rfl):PI X tg l (fun σ H R=>ZcA K tl σ H R\/Zm6 K tl σ H R):=by
 subst e
 intro pins s σ H R I h
 rcases h with h|h
 ·exact Zfv hl pins s σ H R I h
 ·exact Zlb hl pins s σ H R I h
noncomputable def Znt(K:W.Frag)(ta:TE):TT:=fun σ H Q=>ta σ H fun x H'=>∃k,Znn K x H' k/\Q k H'
theorem Zj0{a:Expr}{ta:TE}(ha:PE X a ta)(e:X.K=K:=by rfl)(he:∀whole,isTrue a X.env whole=(do let v <- whole;standAt a.pos;holding [v] (truthy v)):=by exact fun _=>rfl):PT X a (Znt K ta):=by subst e;exact Zhe ha he
variable {B:Addr->Prop}{EX:PX->Hp->Prop}{H0 H:Hp}{σ:St}{Γ Γ':List Md}{ρ:List PV}{F:Nat->List Addr}{R:List Addr}{te:TE}{ta:TA}{f:List PV->Rr PV}{fa:List PV->Rr (List PV)}
noncomputable def Uu(xs:List PV):Rr PV:=match xs with
 |[.lst ys]=>.ok (.tup ys)
 |[.tup ys]=>.ok (.tup ys)
 |_=>.bad
theorem JD(ha:DAA K EX Γ Γ' ta fa):DE K EX Γ Γ' .A (tCB (Zi7 K) ta) (fun ρ=>(fa ρ).bind Uu):=fun B H0 H σ ρ F R Q A d=>by
 refine ha B H0 H σ ρ F R _ A (d.bind.imp (fun xs _ d vs H1 F1 s1 f1 p1 A1=>?_) fun e q=>q)
 unfold Uu at d
 split at d
 ·obtain⟨v,rfl,a,ws,rfl,hn,hr⟩:=VM p1
  refine⟨a,ws,rfl,.inl ⟨JI (S:=fun _=>True) hn,fun l hl=>?_⟩⟩
  have e:=Z7.new (H:=H1) (o:=.tup ws) hl
  exact d _ _ (s1.trans e) ⟨F1,f1,⟨l,ws,rfl,⟨Zv,trivial⟩,hr.same e⟩,A1.grow e⟩
 ·obtain⟨v,rfl,a,ws,rfl,hn,hr⟩:=VM p1
  exact⟨a,ws,rfl,.inr ⟨hn.sqT,d _ _ s1 ⟨F1,f1,⟨a,ws,rfl,hn,hr⟩,A1⟩⟩⟩
 ·exact d.elim
noncomputable def ZnD(x:PV):Rr (List PV):=match x with
 |.lst xs=>.ok xs
 |.tup xs=>.ok xs
 |_=>.bad
theorem Zmc(he:DE K EX Γ Γ' .Z te f):DI K EX Γ Γ' (fun σ H R=>ZcA K te σ H R\/Zm6 K te σ H R) (fun ρ=>(f ρ).bind ZnD):=fun B H0 H σ ρ F R Q A d=>by
 dsimp only at d
 cases e:f ρ with
 |ok x =>
  cases x with
  |tup xs =>
   refine .inr (Zmb he B H0 H σ ρ F R Q A ?_)
   dsimp only
   rw[e] at d ⊢
   exact d
  |lst xs =>
   refine .inl (Jc he B H0 H σ ρ F R Q A ?_)
   dsimp only
   rw[e] at d ⊢
   exact d
  |_=>rw[e] at d;exact d.elim
 |exc q =>
  refine .inl (Jc he B H0 H σ ρ F R Q A ?_)
  dsimp only
  rw[e] at d ⊢
  exact d
 |bad=>rw[e] at d;exact d.elim
noncomputable def ZnK(x:PV):Rr Bool:=match x with
 |.lst xs=>.ok (!xs.isEmpty)
 |.bl b=>.ok b
 |_=>.bad
theorem ZlV(ha:DE K EX Γ Γ' .A te f):DT K EX Γ Γ' (Znt K te) (fun ρ=>(f ρ).bind ZnK):=fun B H0 H σ ρ F R Q A d=>by
 refine ha B H0 H σ ρ F R _ A (d.bind.imp (fun x _ d v H1 s1 r1=>?_) fun e q=>q)
 obtain⟨F1,f1,p1,A1⟩:=r1
 cases x with
 |lst xs =>
  obtain⟨a,vs,rfl,hn,hr⟩:=p1
  refine⟨!xs.isEmpty,.inl ⟨vs,JI (S:=fun _=>True) hn, ?_⟩,d _ F1 s1 f1 A1⟩
  cases xs with
  |nil=>rw[show vs=[] from hr];rfl
  |cons x xs=>obtain⟨v,r,rfl,_⟩:=hr;rfl
 |bl b=>cases p1;exact⟨b,rfl,d _ F1 s1 f1 A1⟩
 |_=>exact d.elim
end
noncomputable def ins{α:Type}:Nat->α->List α->List α
 |0,v,us=>v::us
 |_+1,v,[]=>[v]
 |j+1,v,u::us=>u::ins j v us
theorem V6{α:Type}:∀{j:Nat}{v:α}{us:List α},(ins j v us).length=us.length+1
 |0,_,_=>rfl
 |_+1,_,[]=>rfl
 |j+1,v,u::us=>by simp[ins,V6 (j:=j) (v:=v) (us:=us)]
theorem U3{α:Type}:∀{j:Nat}{v:α}{us:List α} (i:Nat),j<=us.length->(ins j v us)[i]?=if i<j then us[i]? else if i=j then some v else us[i-1]?
 |0,v,us,0,_=>rfl
 |0,v,us,i+1,_=>by simp[ins]
 |j+1,v,[],_,h=>by simp at h
 |j+1,v,u::us,0,_=>rfl
 |j+1,v,u::us,i+1,h=>by
  have:=U3 (j:=j) (v:=v) (us:=us) i (by simpa using h)
  rw[ins,Zut,this]
  by_cases c:i<j
  ·rw[if_pos c,if_pos (show i+1<j+1 by omega)];rfl
  ·by_cases e:i=j
   ·rw[if_neg c,if_pos e,if_neg (show ¬i+1<j+1 by omega),if_pos (show i+1=j+1 by omega)]
   ·rw[if_neg c,if_neg e,if_neg (show ¬i+1<j+1 by omega),if_neg (show ¬i+1=j+1 by omega)]
    obtain⟨m,rfl⟩:∃m,i=m+1:=⟨i-1,by omega⟩
    rfl
theorem ZbQ{α β:Type}{f:α->β}:∀{j:Nat}{v:α}{us:List α},(ins j v us).map f=ins j (f v) (us.map f)
 |0,_,_=>rfl
 |_+1,_,[]=>rfl
 |j+1,v,u::us=>by simp[ins,ZbQ (j:=j) (v:=v) (us:=us)]
theorem ZbR{α:Type}{r:List α}:∀{j:Nat}{v:α}{us:List α},j<=us.length->ins j v us++r=ins j v (us++r)
 |0,_,_,_=>rfl
 |_+1,_,[],h=>by simp at h
 |j+1,v,u::us,h=>by
  show u::(ins j v us++r)=u::ins j v (us++r)
  rw[ZbR (by simpa using h)]
section
variable {K:W.Frag}{H:Hp}
theorem ZW.pin{p:Option Addr}{s:Sh}{ys:List PV}{a:Addr}{G:List Addr}(h:ZW K H (.box p s ys) (.ref a) G):ZW K H (.box (some a) s ys) (.ref a) G:=by
 obtain⟨a',vs,u,G',e,h1,h2,h3⟩:=h
 cases e
 exact⟨a,vs,u,G',rfl,h1,⟨rfl,h2.2⟩,h3⟩
theorem ZW.unpin{p:Option Addr}{s:Sh}{ys:List PV}{v:V}{G:List Addr}(h:ZW K H (.box p s ys) v G):ZW K H (.box none s ys) v G:=by
 obtain⟨a',vs,u,G',e,h1,h2,h3⟩:=h
 exact⟨a',vs,u,G',e,h1,⟨trivial,h2.2⟩,h3⟩
theorem ZW.repin{p:Option Addr}{s:Sh}{ys:List PV}{a:Addr}{G:List Addr}(hp:Zm9 p a)(h:ZW K H (.box none s ys) (.ref a) G):ZW K H (.box p s ys) (.ref a) G:=by
 obtain⟨a',vs,u,G',e,h1,h2,h3⟩:=h
 cases e
 exact⟨a,vs,u,G',rfl,h1,⟨hp,h2.2⟩,h3⟩
theorem ZW.pinned{b:Addr}{s:Sh}{ys:List PV}{v:V}{G:List Addr}(h:ZW K H (.box (some b) s ys) v G):v=.ref b:=by
 obtain⟨a',vs,u,G',e,h1,h2,h3⟩:=h
 rw[e,show a'=b from h2.1]
end
noncomputable def spM(K:W.Frag)(n j:Nat)(m:PV->List PV->Rr PV):Sp:=fun vs H Q E=>∃(B:Addr->Prop) (xs:List PV) (us:List V) (a:Addr) (s:Sh) (ys:List PV) (G:List Addr),
 vs=ins j (.ref a) us/\xs.length=n/\Reps K H B xs us/\ZW K H (.box none s ys) (.ref a) G/\(∀b,B b->b ∉ G) /\
 Dn (m (.box none s ys) xs) (fun r=>∃y s' ys',r=.tup [y,.box none s' ys']/\∀u H' G1 G2,Z7 (minus H G) H'->ZW K H' y u G1->ZW K H' (.box none s' ys') (.ref a) G2->(∀b∈G1,b ∉ G2)->(∀b∈G1,minus H G b=none)->(∀b∈G2,minus H G b=none)->Q u H') (fun _=>False)
noncomputable def ZmQ(a:Addr)(b:PV):PV:=match b with
 |.box _ s ys=>.box (some a) s ys
 |x=>x
noncomputable def ZmP(a:Addr)(r:Rr PV):Rr PV:=match r with
 |.ok (.tup [y,.box _ s ys])=>.ok (.tup [y,.box (some a) s ys])
 |.ok _=>.bad
 |.exc e=>.exc e
 |.bad=>.bad
noncomputable def RS.outN(j:Nat)(r:RS):Rr PV:=match r with
 |.next ρ=>.ok (.tup [.non,gv j ρ])
 |.ret x=>.ok x
 |.exc e=>.exc e
 |_=>.bad
section
variable {K:W.Frag}{B:Addr->Prop}{EX:PX->Hp->Prop}{H0 H:Hp}{σ:St}{Γ Γ' Γ1 Γ2 Γ3:List Md}{ρ:List PV}{F:Nat->List Addr}
theorem Ag.initM{s:Sh}{ys:List PV}{a:Addr}{G:List Addr}{xs:List PV}{us:List V}{j l:Nat}(ht:ZW K H (.box none s ys) (.ref a) G)(h:Reps K H B xs us)(hB:∀b,B b->b ∉ G)(hj:j<=xs.length) :
  Ag K (fun b=>B b\/minus H G b=none) (minus H G) H (ins j (some (.ref a)) (us.map some++List.replicate l none)) (ins j .O (List.replicate xs.length .S++List.replicate l .U)) (ins j (.box (some a) s ys) (xs++List.replicate l .non)) (VN (fun _=>[]) j G) []:=by
 have fin:∀i,∀b∈VN (fun _=>[]) j G i,i=j/\b∈G:=fun i b hb=>by
  unfold VN at hb
  split at hb
  ·exact⟨by assumption,hb⟩
  ·simp at hb
 have A:=Ag.init (n:=l) h
 refine⟨Zaw,fun b h=>.inr h,fun i b hb=>Qq (fin i b hb).2,by simp,fun i b hb=>ht.alive b (fin i b hb).2,by simp,fun i k hik b hb z=>hik ((fin i b hb).1.trans (fin k b z).1.symm),by simp,by simp[V6,h.length],by simp[V6],fun i=>?_⟩
 have hjs:j<=(us.map some++List.replicate l (none:Option V)).length:=by simp[h.length];omega
 have hjg:j<=(List.replicate xs.length Md.S++List.replicate l Md.U).length:=by simp;omega
 have hjr:j<=(xs++List.replicate l PV.non).length:=by simp;omega
 rw[ZsS,ZsS,U3 i hjs,U3 i hjg,U3 i hjr]
 have go:∀q,q≠j\/True->UD K H (NO (fun b=>B b\/minus H G b=none) (VN (fun _=>[]) j G) []) ((List.replicate xs.length Md.S++List.replicate l Md.U)[q]?.getD .U) ((xs++List.replicate l PV.non)[q]?.getD .non) (us.map some++List.replicate l none)[q]? []:=fun q _=>by
  have sl:=A.slot q
  rw[ZsS,ZsS] at sl
  refine sl.mono (fun b u s r=>⟨r, ?_,by simp,fun k z=>?_⟩) (fun b u r=>r) (fun b hb=>by cases hb)
  ·rcases s.1 with s|s
   ·exact .inl s
   ·exact .inr (by
     by_cases q:b∈G
     ·exact Qq q
     ·rw[ZN q];exact s)
  ·have z:=(fin k b z).2
   rcases s.1 with s|s
   ·exact hB b s z
   ·obtain⟨vs,q⟩:=ht.alive b z
    rw[s] at q;cases q
 by_cases c:i<j
 ·rw[if_pos c,if_pos c,if_pos c,Z5 (by omega)]
  exact go i (.inr trivial)
 ·rw[if_neg c,if_neg c,if_neg c]
  by_cases e:i=j
  ·rw[if_pos e,if_pos e,if_pos e]
   subst e
   rw[Zu]
   exact⟨_,rfl,ht.pin⟩
  ·rw[if_neg e,if_neg e,if_neg e,Z5 e]
   exact go (i-1) (.inr trivial)
noncomputable def ZmM(y x:PV):RS:=match x with
 |.box (some a) s xs=>.ret (.tup [y,.box (some a) s xs])
 |_=>.bad
theorem Zkf{j:Nat}{te:TE}{f:List PV->Rr PV}(he:DE K EX Γ Γ' .F te f)(hm:Γ'[j]?=some .O):DS K EX Γ ⟨Γ3,Γ1,Γ2,.N⟩ (Zmy te) (fun ρ=>(f ρ).thenS fun y=>ZmM y (gv j ρ)):=fun B H0 H σ ρ F D A d=>by
 refine he B H0 H σ ρ F [] _ A (d.thenS.imp (fun y _ d v H1 s1 r1=>?_) fun e q=>q)
 obtain⟨F1,f1,G,h1,h2,A1⟩:=r1
 unfold ZmM at d
 split at d
 ·rename_i a s xs ex
  obtain⟨w,w1,w2⟩:=A1.getO hm
  rw[show ρ.getD j .non=.box (some a) s xs from ex] at w2
  have:=w2.pinned
  subst this
  exact d v H1 A1.same ⟨y,a,s,xs,G,F1 j,rfl,h1,w2,fun b hb z=>A1.disjR j b z (Ztb _ hb),fun b hb=>A1.youngR b (Ztb _ hb),fun b hb=>A1.young j b hb⟩
 ·exact d.elim
end
section
variable {P:Program}{w:World}{K:W.Frag}{mg:Str->Option Value}{base:Heap}
theorem Fun.okM{x qual:Str}{st:Stmt}{f:Addr}{fd:FuncData}{N ps:List Str}{k n l j:Nat}{m:PV->List PV->Rr PV}(F:Fun K x qual st f fd)(S:Zx N ps (Zl st))(hn:ps.length=n+1)(hl:N.length-(n+1)=l)(hj:j<=n)(hbody:∀(cdv:Value) (A:Around) (outer:List Env) (s:Shared) (H:Hp) (E:XK),VU k (A.deeper (envOfC qual (Zl st) s.heap.objs.size f cdv)) ->
   ∃t g Y,Y.r=.N/\Y.n[j]?=some .O/\PSs (ZgL CX0 P w K mg base N qual (Zl st) f cdv A outer s H E).nox (JO st) t/\DS K X0 (ins j .O (List.replicate n .S++List.replicate l .U)) Y t g /\
    ∀a b xs,Ref (ZmP a (m b xs)) ((g (ins j (ZmQ a b) (xs++List.replicate l .non))).outN j)) :
  J1 P w K mg base CX0 (k+1) f fd ps (spM K n j m):=by
 refine F.ok S (fun vs H Q E h=>?_) (fun cdv A outer s H vs Q E hr h=>?_)
 ·obtain⟨B,xs,us,a,s,ys,G,rfl,h1,h2,_⟩:=h
  rw[V6,h2.length,h1,hn]
 ·obtain⟨B,xs,us,a,s',ys,G,rfl,h1,h2,h3,h4,dn⟩:=h
  obtain⟨t,g,Y,hY,hYn,ht,hd,href⟩:=hbody cdv A outer s H E hr
  refine⟨t,ht, ?_⟩
  have A0:=Ag.initM (l:=l) h3 h2 h4 (show j<=xs.length by omega)
  have est:VL N (ins j (.ref a) us)=ins j (some (.ref a)) (us.map some++List.replicate l none):=by
   unfold VL
   rw[V6,h2.length,h1,hl,ZbQ,ZbR (by rw[ZsV,h2.length];omega)]
  rw[est]
  rw[h1] at A0
  refine hd _ (minus H G) H _ _ _ _ A0 ?_
  have hr:=href a (.box none s' ys) xs
  rw[show ZmQ a (.box none s' ys)=.box (some a) s' ys from rfl] at hr
  cases em:m (.box none s' ys) xs with
  |bad=>rw[em] at dn;exact dn.elim
  |exc q=>rw[em] at dn;exact dn.elim
  |ok r =>
   rw[em] at dn hr
   obtain⟨y,s2,ys2,rfl,q⟩:=dn
   have ho:(g (ins j (.box (some a) s' ys) (xs++List.replicate l .non))).outN j=.ok (.tup [y,.box (some a) s2 ys2]):=by
    rcases hr with e|e
    ·cases e
    ·exact e.symm
   cases e:g (ins j (.box (some a) s' ys) (xs++List.replicate l .non)) with
   |next ρ =>
    rw[e] at ho
    have hy:PV.tup [.non,gv j ρ]=.tup [y,.box (some a) s2 ys2]:=by simpa[RS.outN] using ho
    simp only[PV.tup.injEq,List.cons.injEq,and_true] at hy
    obtain⟨rfl,hb⟩:=hy
    refine fun σ' H' F' fr A'=>?_
    obtain⟨v,w1,w2⟩:=A'.getO hYn
    rw[show ρ.getD j .non=.box (some a) s2 ys2 from hb] at w2
    have:=w2.pinned
    subst this
    exact q .non H' [] (F' j) A'.same ⟨rfl,rfl⟩ w2.unpin (by simp) (by simp) fun b hb=>A'.young j b hb
   |ret z =>
    rw[e] at ho
    have hy:z=.tup [y,.box (some a) s2 ys2]:=by simpa[RS.outN] using ho
    subst hy
    refine fun v H' s r=>?_
    rw[hY] at r
    obtain⟨y',a',s3,xs3,G1,G2,e1,r1,r2,r3,r4,r5⟩:=r
    simp only[PV.tup.injEq,List.cons.injEq,and_true,PV.box.injEq,Option.some.injEq] at e1
    obtain⟨rfl,rfl,rfl,rfl⟩:=e1
    exact q v H' G1 G2 s r1 r2.unpin r3 r4 r5
   |exc q=>rw[e] at ho;cases ho
   |brk ρ=>rw[e] at ho;cases ho
   |cont ρ=>rw[e] at ho;cases ho
   |bad=>rw[e] at ho;cases ho
end
def NoE{α:Type}(f:List PV->Rr α):Prop:=∀ρ e,f ρ≠.exc e
def DER(K:W.Frag)(Γ:List Md)(te:TE)(f:List PV->Rr PV):Prop:=NoE f /\
 ∀(B:Addr->Prop) (H0 H:Hp) (σ:St) (ρ:List PV) (F:Nat->List Addr) (R:List Addr) (Q:VK),Ag K B H0 H σ Γ ρ F R ->
  (∃x,f ρ=.ok x/\∀v,Rep K H (fun a=>a ∉ R) x v->Q v H)->te σ H Q
def DAR(K:W.Frag)(Γ:List Md)(ta:TA)(f:List PV->Rr (List PV)):Prop:=NoE f /\
 ∀(B:Addr->Prop) (H0 H:Hp) (σ:St) (ρ:List PV) (F:Nat->List Addr) (R:List Addr) (Q:List V->Hp->Prop),Ag K B H0 H σ Γ ρ F R ->
  (∃xs,f ρ=.ok xs/\∀vs,Reps K H (fun a=>a ∉ R) xs vs->Q vs H)->ta σ H Q
def DAM(K:W.Frag)(Γ:List Md)(i j:Nat)(ta:TA)(f:List PV->Rr (List PV)):Prop:=NoE f /\
 ∀(B:Addr->Prop) (H0 H:Hp) (σ:St) (ρ:List PV) (F:Nat->List Addr) (R:List Addr) (v:V) (Q:List V->Hp->Prop),Ag K B H0 H σ Γ ρ F R->σ[i]?=some (some v) ->
  (∃xs,f ρ=.ok xs/\∀vs,Reps K H (fun a=>a ∉ R) xs vs->Q (ins j v vs) H)->ta σ H Q
theorem bind_ok{α β:Type}{r:Rr α}{g:α->Rr β}{y:β}(h:r.bind g=.ok y):∃x,r=.ok x/\g x=.ok y:=by
 cases r with
 |ok x=>exact⟨x,rfl,h⟩
 |exc e=>cases h
 |bad=>cases h
theorem Qp{α β:Type}{f:List PV->Rr α}{g:List PV->α->Rr β}(h1:NoE f)(h2:∀ρ x e,g ρ x≠.exc e):NoE (fun ρ=>(f ρ).bind (g ρ)):=fun ρ e q=>by
 cases ef:f ρ with
 |ok x=>simp only[ef] at q;exact h2 ρ x e q
 |exc e'=>exact h1 ρ e' ef
 |bad=>simp only[ef] at q;cases q
section
variable {K:W.Frag}{B:Addr->Prop}{EX:PX->Hp->Prop}{H0 H H':Hp}{σ:St}{Γ Γ1 Γ2:List Md}{ρ:List PV}{F F':Nat->List Addr}{R:List Addr}{te:TE}{ta:TA}{f:List PV->Rr PV}{fa:List PV->Rr (List PV)}{i j n:Nat}{m:PV->List PV->Rr PV}
theorem ZcI{l:Nat}{md:Md}(h:Γ[l]?=some md)(hm:md≠.U):DER K Γ (Qf l) (fun ρ=>.ok (gv l ρ)):=⟨fun ρ e q=>(by cases q),fun B H0 H σ ρ F R Q A d=>by
 obtain⟨x,e,d⟩:=d
 cases e
 cases md with
 |U=>exact absurd rfl hm
 |P=>obtain⟨v,h1,h2,h3⟩:=A.getP h;exact⟨v,h1,d v (h3.flatS h2)⟩
 |S=>obtain⟨v,h1,h2⟩:=A.getS h;exact⟨v,h1,d v (Rep.mono (fun a u s r=>⟨r,s.2.1⟩) (fun a u r=>r) h2)⟩
 |T =>
  obtain⟨a,vs,xs,h1,h2,h3,h4,h5⟩:=A.getT h
  refine⟨_,h1,d _ ?_⟩
  rw[show gv l ρ=.lst xs from h2]
  exact⟨a,vs,rfl,.inl ⟨.inl h3,A.disjR l a (by rw[h5];simp)⟩,Reps.mono (fun a u s r=>⟨r,s.2.1⟩) (fun a u r=>r) h4⟩
 |O=>obtain⟨v,h1,h2⟩:=A.getO h;exact⟨v,h1,d v (h2.rep fun a ha=>A.disjR l a ha)⟩⟩
theorem Zgs:DAR K Γ Zdg (fun _=>.ok []):=⟨fun ρ e q=>(by cases q),fun B H0 H σ ρ F R Q A d=>by
 obtain⟨x,e,d⟩:=d
 cases e
 exact d [] rfl⟩
theorem Zii(he:DER K Γ te f)(ha:DAR K Γ ta fa):DAR K Γ (Vg te ta) (fun ρ=>(f ρ).bind fun x=>(fa ρ).bind fun xs=>.ok (x::xs)):=⟨Qp he.1 fun ρ x e q=>(Qp (g:=fun _ xs=>.ok (x::xs)) ha.1 fun _ y e q=>by cases q) ρ e q,fun B H0 H σ ρ F R Q A d=>by
 obtain⟨z,e,d⟩:=d
 obtain⟨x,e1,e⟩:=bind_ok e
 obtain⟨y,e2,e⟩:=bind_ok e
 cases e
 exact he.2 B H0 H σ ρ F R _ A ⟨x,e1,fun v hv=>ha.2 B H0 H σ ρ F R _ A ⟨y,e2,fun vs hvs=>d _ ⟨v,vs,rfl,hv,hvs⟩⟩⟩⟩
theorem Zij(ha:DAR K Γ ta fa):DAM K Γ i 0 (Vg (Qf i) ta) fa:=⟨ha.1,fun B H0 H σ ρ F R v Q A hv d=>⟨v,hv,ha.2 B H0 H σ ρ F R _ A d⟩⟩
theorem ZdU(he:DER K Γ te f)(ha:DAM K Γ i j ta fa):DAM K Γ i (j+1) (Vg te ta) (fun ρ=>(f ρ).bind fun x=>(fa ρ).bind fun xs=>.ok (x::xs)):=⟨Qp he.1 fun ρ x e q=>(Qp (g:=fun _ xs=>.ok (x::xs)) ha.1 fun _ y e q=>by cases q) ρ e q,fun B H0 H σ ρ F R v Q A hv d=>by
 obtain⟨z,e,d⟩:=d
 obtain⟨x,e1,e⟩:=bind_ok e
 obtain⟨y,e2,e⟩:=bind_ok e
 cases e
 exact he.2 B H0 H σ ρ F R _ A ⟨x,e1,fun u hu=>ha.2 B H0 H σ ρ F R v _ A hv ⟨y,e2,fun vs hvs=>d (u::vs) ⟨u,vs,rfl,hu,hvs⟩⟩⟩⟩
def DM(K:W.Frag)(EX:PX->Hp->Prop)(Γ:List Md)(i:Nat)(te:TE)(fm:List PV->Rr (PV×PV)):Prop:=
 ∀(B:Addr->Prop) (H0 H:Hp) (σ:St) (ρ:List PV) (F:Nat->List Addr) (Q:VK),Ag K B H0 H σ Γ ρ F [] ->
  Dn (fm ρ) (fun r=>∀v H' F' G,Frm H F H' F'->ZW K H' r.1 v G->(∀b∈G,H b=none\/∃l,b∈F l)->Ag K B H0 H' σ Γ (ρ.set i r.2) F' (G++[])->Q v H') (fun e=>∀H',Z7 H0 H'->EX e H')->te σ H Q
noncomputable def Zg5(m:PV->List PV->Rr PV)(x:PV)(xs:List PV):Rr (PV×PV):=match x with
 |.box p s ys=>match m (.box none s ys) xs with
  |.ok (.tup [y,.box none s' ys'])=>.ok (y,.box p s' ys')
  |_=>.bad
 |_=>.bad
theorem Zfd{α:Type}{l:List α}{i:Nat}{v:α}(h:l[i]?=some v):l.set i v=l:=by
 apply ZtL
 intro q
 by_cases e:i=q
 ·subst e;rw[Ztx (ZsU.mp h).1,h]
 ·rw[Zt7 e]
theorem Zki(hm:Γ[i]?=some .O)(hn:Len fa n)(ha:DAM K (Γ.set i .U) i j ta fa):DM K EX Γ i (UQ (spM K n j m) ta) (fun ρ=>(fa ρ).bind fun xs=>Zg5 m (gv i ρ) xs):=fun B H0 H σ ρ F Q A d=>by
 obtain⟨v,h1,h2⟩:=A.getO hm
 have hi:=A.lt hm
 cases ea:fa ρ with
 |bad=>dsimp only at d;rw[ea] at d;exact d.elim
 |exc q=>exact absurd ea (ha.1 ρ q)
 |ok xs =>
  refine ha.2 B H0 H σ ρ _ (F i++[]) v _ (A.move hm) h1 ⟨xs,ea,fun vs hvs=>?_⟩
  dsimp only at d
  rw[ea] at d
  have d:Dn (Zg5 m (gv i ρ) xs) _ _:=d
  unfold Zg5 at d
  split at d
  ·rename_i p s ys er
   rw[show ρ.getD i .non=.box p s ys from er] at h2
   split at d
   ·rename_i y s2 ys2 em
    obtain⟨a,ws,u0,G0,rfl,hH,hb,ht,hna,hF⟩:=id h2
    refine⟨fun b=>b ∉ F i,xs,vs,a,s,ys,F i,rfl,hn ρ xs ea,Reps.mono (fun b u s r=>⟨r,fun z=>s (by simp[z])⟩) (fun b u r=>r) hvs,h2.unpin,fun b hb z=>hb z, ?_⟩
    rw[em]
    refine⟨y,s2,ys2,rfl,fun u H' G1 G2 sm t1 t2 dj n1 n2=>?_⟩
    have AL:=(A.move hm).lost sm
    have hiU:(Γ.set i .U)[i]?=some .U:=by rw[Ztx hi]
    have nw:∀b,minus H (F i) b=none->(∀l,b ∉ VN F i [] l)/\H0 b=none:=fun b hb=>by
     refine⟨fun l z=>?_, ?_⟩
     ·by_cases q:l=i
      ·subst q;rw[Zu] at z;simp at z
      ·rw[Z5 q] at z
       rw[ZN (fun w=>A.disj l i q b z w)] at hb
       obtain⟨o,e⟩:=A.live l b z
       rw[hb] at e;cases e
     ·by_cases q:b∈F i
      ·exact A.young i b q
      ·rw[ZN q] at hb
       exact A.same.free hb
    have AM:Ag K B H0 H' σ (Γ.set i .U) ρ (VN F i []) (G2++(G1++[])):=by
     refine⟨AL.same,AL.own,AL.young,fun b hb=>?_,AL.live,fun b hb=>?_,AL.disj,fun l b hb z=>?_,AL.lenS,AL.lenR,fun l=>?_⟩
     ·rcases Zta.mp hb with z|z
      ·exact(nw b (n2 b z)).2
      ·exact(nw b (n1 b (by simpa using z))).2
     ·rcases Zta.mp hb with z|z
      ·exact t2.alive b z
      ·exact t1.alive b (by simpa using z)
     ·rcases Zta.mp z with z|z
      ·exact(nw b (n2 b z)).1 l hb
      ·exact(nw b (n1 b (by simpa using z))).1 l hb
     ·refine((A.move hm).slot l).mono (fun b o s r=>⟨(r.minus (fun z=>s.2.1 (by simp[z]))).same sm,s.1,fun z=>?_,s.2.2⟩) (fun b o r=>sm.im (r.minus fun c hc=>A.live i c hc)) fun b hb o q=>sm _ _ ?_
      ·have hb:minus H (F i) b≠none:=by
        rw[ZN (fun z=>s.2.1 (by simp[z]))]
        rcases r with r|⟨o',r⟩<;>(rw[r];simp)
       rcases Zta.mp z with z|z
       ·exact hb (n2 b z)
       ·exact hb (n1 b (by simpa using z))
      ·rw[ZN (fun z=>(A.move hm).disjR l b hb (by simp[z]))];exact q
    have AP:=Ag.put (i:=i) (m:=.O) (x:=.box p s2 ys2) (v:=.ref a) (G:=G2) (R:=G1++[]) AM (by rw[Zuq];exact hi) (fun b hb z=>dj b (by simpa using z) hb) ⟨.ref a,rfl,t2.repin hb.1⟩
    rw[Zfd h1,List.set_set,ZgY hm] at AP
    refine d u H' _ G1 (fun b o h n=>?_) t1 (fun b hb=>?_) AP
    ·have e:minus H (F i) b=some o:=by rw[ZN (n i)];exact h
     refine⟨sm _ _ e,fun l z=>?_⟩
     by_cases q:l=i
     ·subst q
      rw[Zu] at z
      rw[n2 b z] at e;cases e
     ·rw[Z5 q,Z5 q] at z
      exact n l z
    ·have:=n1 b hb
     by_cases q:b∈F i
     ·exact .inr ⟨i,q⟩
     ·rw[ZN q] at this;exact .inl this
   ·exact d.elim
  ·exact d.elim
variable {fm:List PV->Rr (PV×PV)}{k:Kd}{l:Nat}
theorem Zbh{F1:Nat->List Addr}{G:List Addr}(fr:Frm H F H' F1)(hG:∀a∈G,H a=none\/∃j,a∈F j):Frm H F H' (VN F1 l G):=fun b o h n=>by
 obtain⟨h1,h2⟩:=fr b o h n
 refine⟨h1,fun q z=>?_⟩
 by_cases e:q=l
 ·subst e;rw[Zu] at z
  rcases hG b z with w|⟨c,w⟩
  ·rw[h] at w;cases w
  ·exact n c w
 ·rw[Z5 e] at z;exact h2 q z
theorem ZhW(he:DM K EX Γ i te fm)(hl:l<Γ.length):DS K EX Γ ⟨Γ.set l .O,Γ1,Γ2,k⟩ (Zk4 te (QP l)) (fun ρ=>(fm ρ).thenS fun r=>.next ((ρ.set i r.2).set l r.1)):=fun B H0 H σ ρ F D A d=>by
 refine he B H0 H σ ρ F _ A (d.thenS.imp (fun r _ d v H1 F1 G fr t1 h1 A1=>?_) fun e q=>q)
 exact d _ H1 _ (Zbh fr h1) (Ag.put (R:=[]) A1 hl (by simp) ⟨v,rfl,t1⟩)
end
noncomputable def Pm.fnM(m:Pm)(b:PV)(xs:List PV):Rr PV:=m.fn (b::xs)
theorem hu1{n c:Nat}(h:n+64<c):n+1<c:=by omega
theorem Zha{y:PV}{a:Addr}{s:Sh}{xs:List PV}:ZmM y (.box (some a) s xs)=.ret (.tup [y,.box (some a) s xs]):=rfl
theorem Zip{m:PV->List PV->Rr PV}{p:Option Addr}{s s':Sh}{ys ys' xs:List PV}{y:PV}(h:m (.box none s ys) xs=.ok (.tup [y,.box none s' ys'])):Zg5 m (.box p s ys) xs=.ok (y,.box p s' ys'):=by
 unfold Zg5
 simp only[h]
section
variable {prog:Program}{w:World}{A:Around}{s:Shared}
theorem Zbc{fin:Bool}{Q:Bool->Shared->Prop}:∀{ns ms:List Int}{vs ws:List Value}{i:Nat},ZR (ns.map V.int) vs->ZR (ms.map V.int) ws->fin=decide (vs.length<ws.length)->Q (HT.Z1 ns ms) s ->
  PySem.W.KatLex prog w A true fin Q (vs.zip ws) i s
 |[],[],_,_,i,.nil,.nil,e,q=>by subst e;exact q
 |[],m::ms,_,_,i,.nil,.cons r t,e,q=>by
  have:fin=true:=by rw[e];simp
  subst this
  exact q
 |n::ns,[],_,_,i,.cons r t,.nil,e,q=>by
  have:fin=false:=by rw[e];simp
  subst this
  exact q
 |n::ns,m::ms,_,_,i,.cons r t,.cons r' t',e,q=>by
  obtain⟨k,rfl⟩:=r
  obtain⟨k',rfl⟩:=r'
  rw[ZuD]
  refine PySem.W.kat_cons (wpAny_eqBool_int ?_)
  rw[HT.JH] at q
  by_cases h:n=m
  ·subst h
   rw[if_pos rfl] at q
   simp only[beq_self_eq_true]
   exact PySem.W.kat_yes (Zbc t t' (by rw[e];simp) q)
  ·rw[if_neg h] at q
   have hb:(n==m)=false:=by simpa using h
   rw[hb]
   refine PySem.W.kat_no ?_
   cases i with
   |zero=>exact oneLt_int q
   |succ i=>exact PySem.W.kat_one _ _ (PyProof.Rows.lt_int q)
end
noncomputable def ZD(t:List Int):PV:=.tup (t.map PV.int)
theorem V1:∀{a b:List (List Int)},a.map ZD=b.map ZD->a=b
 |[],[],_=>rfl
 |[],y::b,h=>by simp at h
 |x::a,[],h=>by simp at h
 |x::a,y::b,h=>by
  simp only[Zte,List.cons.injEq,ZD,PV.tup.injEq] at h
  rw[ZJ h.1,V1 h.2]
section
end
theorem Pm.refM2(m:Pm){r:Addr->PV->List PV->Rr PV}(h:∀i,m.pre i->∀a b xs,m.enc i=b::xs->r a b xs=ZmP a (m.out i)):∀a b xs,Ref (ZmP a (m.fnM b xs)) (r a b xs):=fun a b xs=>by
 unfold Pm.fnM Pm.fn
 by_cases hx:∃i,m.enc i=b::xs/\m.pre i
 ·rw[dif_pos hx]
  exact .inr (h _ hx.choose_spec.2 a b xs hx.choose_spec.1).symm
 ·rw[dif_neg hx];exact .inl rfl
theorem Zab:bootBuiltins "sorted"=some (.builtin "sorted"):=by decide +kernel
end L2
namespace My
open L2
noncomputable def tab(n:Nat)(f:Nat->Int):List Int:=(List.range n).map f
theorem Ji(n:Nat)(f:Nat->Int):(tab n f).length=n:=by simp[tab]
theorem Qz{n:Nat}{f:Nat->Int}{x:Nat}(h:x<n):(tab n f).getD x 0=f x:=by
 rw[ZsS,tab,ZsZ,ZtO h];rfl
theorem ZaH{n:Nat}{f:Nat->Int}{l:List Int}(hl:l.length=n)(h:∀x,x<n->l.getD x 0=f x):l=tab n f:=by
 apply Zvn
 ·rw[hl,Ji]
 ·intro i h1 h2
  have:=h i (by omega)
  rw[ZsS,ZsT h1] at this
  simp only[tab,List.getElem_map,List.getElem_range]
  exact this
theorem getD_set{l:List Int}{j x:Nat}{v:Int}(h:j<l.length):(l.set j v).getD x 0=if x=j then v else l.getD x 0:=by
 rw[ZsS,ZsS]
 by_cases e:x=j
 ·subst e;rw[Ztx h,if_pos rfl];rfl
 ·rw[Zt7 (Ne.symm e),if_neg e]
theorem ZeT{n:Nat}{f:Nat->Int}{j:Nat}{v:Int}(h:j<n):(tab n f).set j v=tab n fun x=>if x=j then v else f x:=by
 refine ZaH (by rw[Zuq,Ji]) fun x hx=>?_
 rw[getD_set (by rw[Ji];exact h)]
 by_cases e:x=j
 ·rw[if_pos e,if_pos e]
 ·rw[if_neg e,if_neg e,Qz hx]
theorem Q0{n:Nat}{f g:Nat->Int}(h:∀x,x<n->f x=g x):tab n f=tab n g:=ZaH (Ji _ _) fun x hx=>by rw[Qz hx,h x hx]
theorem V8{l:List Int}{x:Nat}(h:x<l.length):l.getD x 0∈l:=by
 rw[ZsS,ZsT h];exact Zue h
theorem Qh:∀{l:List Int}{j:Nat}{v:Int},j<l.length->(l.set j v).sum=l.sum-l.getD j 0+v
 |a::l,0,v,_=>by simp;omega
 |a::l,j+1,v,h=>by
  have:=Qh (l:=l) (j:=j) (v:=v) (by simpa using h)
  simp only[List.set_cons_succ,Zu2,List.getD_cons_succ,this];omega
theorem Q2:∀(ns:List Int) (c:Int),(ns.map fun v=>v+c).sum=ns.sum+ns.length*c
 |[],c=>by simp
 |a::l,c=>by
  simp only[Zte,Zu2,Ztw]
  rw[Q2 l c,Int.natCast_add,Int.add_mul];omega
theorem ZaV{n a b:Int}(ha:0<=a)(ha':a<n)(hb:0<=b)(hb':b<n):(a-b)%n=if b<=a then a-b else a-b+n:=by
 by_cases h:b<=a
 ·rw[if_pos h,Zt9 (by omega) (by omega)]
 ·rw[if_neg h,<- ZuE,Zt9 (by omega) (by omega)]
theorem QC{n a b:Int}(ha:0<=a)(ha':a<n)(hb:0<=b)(hb':b<n):(a+b)%n=if a+b<n then a+b else a+b-n:=by
 by_cases h:a+b<n
 ·rw[if_pos h,Zt9 (by omega) (by omega)]
 ·rw[if_neg h,<- Int.sub_emod_right,Zt9 (by omega) (by omega)]
structure Zmx(ns:List Int):Prop where
 lo:2<=ns.length
 hi:ns.length<=24
 nn:∀x∈ns,0<=x
 sm:ns.sum<=10^60
theorem sum_nn:∀{l:List Int},(∀x∈l,0<=x)->0<=l.sum
 |[],_=>by simp
 |a::l,h=>by
  have:=sum_nn (l:=l) fun x hx=>h x (by simp[hx])
  have:=h a (by simp)
  simp only[Zu2];omega
theorem ZbM:∀{l:List Int}{v:Int},(∀x∈l,0<=x)->v∈l->v<=l.sum
 |a::l,v,h,hv=>by
  have h1:=sum_nn (l:=l) fun x hx=>h x (by simp[hx])
  have h2:=h a (by simp)
  simp only[Zu2]
  rcases Zti.mp hv with rfl|hv
  ·omega
  ·have:=ZbM (l:=l) (fun x hx=>h x (by simp[hx])) hv
   omega
noncomputable def Zi4(ns:List Int)(p:Int)(x:Nat):Int:=(if (x:Int)=p then 0 else ns.getD x 0)+ns.getD p.toNat 0/ns.length
noncomputable def ZgV(n:Int)(p:Int)(i:Int)(x:Nat):Int:=if 1<=((x:Int)-p)%n/\((x:Int)-p)%n<=i then 1 else 0
noncomputable def Zb0(ns:List Int)(p:Int)(i:Int)(x:Nat):Int:=Zi4 ns p x+ZgV ns.length p i x
theorem Zcr(n p i:Int)(x:Nat):0<=ZgV n p i x:=by unfold ZgV;split<;>omega
theorem VE{n p i:Int}{x:Nat}(h:1<=((x:Int)-p)%n/\((x:Int)-p)%n<=i):ZgV n p i x=1:=if_pos h
theorem V2{n p i:Int}{x:Nat}(h:¬(1<=((x:Int)-p)%n/\((x:Int)-p)%n<=i)):ZgV n p i x=0:=if_neg h
theorem ZkV{ns:List Int}{p:Int}{x:Nat}(h:(x:Int)=p):Zi4 ns p x=ns.getD p.toNat 0/ns.length:=by unfold Zi4;rw[if_pos h];omega
theorem Zjv{ns:List Int}{p:Int}{x:Nat}(h:(x:Int)≠p):Zi4 ns p x=ns.getD x 0+ns.getD p.toNat 0/ns.length:=by unfold Zi4;rw[if_neg h]
noncomputable def Vo(ns:List Int)(p:Int):List Int:=tab ns.length (Zb0 ns p (ns.getD p.toNat 0%ns.length))
noncomputable def Zny(ns:List Int)(p:Int):Int:=(p+ns.getD p.toNat 0%ns.length)%ns.length
theorem Zcs(ns:List Int)(p:Int):(Vo ns p).length=ns.length:=Ji _ _
section
variable {ns:List Int}{p:Int}
theorem ZaM(h0:0<=p)(h1:p<ns.length):(ns.map fun v=>v+ns.getD p.toNat 0/ns.length).set p.toNat (ns.getD p.toNat 0/ns.length)=tab ns.length (Zb0 ns p 0):=by
 refine ZaH (by simp) fun x hx=>?_
 rw[getD_set (by simp;omega)]
 unfold Zb0
 rw[V2 (by omega)]
 by_cases e:x=p.toNat
 ·rw[if_pos e,ZkV (by omega)];omega
 ·rw[if_neg e,Zjv (by omega)]
  simp[ZsS,ZsT hx]
theorem Zdl(h0:0<=p)(h1:p<ns.length){i:Nat}(hi:(i:Int)+1<ns.length) :
  (tab ns.length (Zb0 ns p i)).set ((p+(i+1))%ns.length).toNat (Zb0 ns p i ((p+(i+1))%ns.length).toNat+1)=tab ns.length (Zb0 ns p ((i+1:Nat):Int)):=by
 have m1:=QC h0 h1 (show (0:Int)<=(i:Int)+1 by omega) hi
 have hlt:((p+((i:Int)+1))%ns.length).toNat<ns.length:=by
  rw[m1];split<;>omega
 rw[ZeT hlt]
 refine Q0 fun x hx=>?_
 have m2:=ZaV (n:=ns.length) (show (0:Int)<=(x:Int) by omega) (by omega) h0 h1
 by_cases e:x=((p+((i:Int)+1))%ns.length).toNat
 ·rw[if_pos e,<- e]
  unfold Zb0
  have hd:((x:Int)-p)%ns.length=i+1:=by
   rw[m2]
   rw[m1] at e
   split at e<;>split<;>omega
  rw[V2 (by omega),VE (by omega)];omega
 ·rw[if_neg e]
  unfold Zb0
  have hd:((x:Int)-p)%ns.length≠i+1:=by
   intro z
   apply e
   rw[m2] at z
   rw[m1]
   split at z<;>split<;>omega
  by_cases q:1<=((x:Int)-p)%ns.length/\((x:Int)-p)%ns.length<=i
  ·rw[VE q,VE (by omega)]
  ·rw[V2 q,V2 (by omega)]
theorem Zb9(h0:0<=p)(h1:p<ns.length):∀i:Nat,(i:Int)<ns.length->(tab ns.length (Zb0 ns p i)).sum=ns.sum+ns.length*(ns.getD p.toNat 0/ns.length)-ns.getD p.toNat 0+i
 |0,_=>by
  have:=ZaM h0 h1
  rw[Int.natCast_zero,<- this,Qh (by simp;omega)]
  have e:=Q2 ns (ns.getD p.toNat 0/ns.length)
  rw[e]
  have e2:(ns.map fun v=>v+ns.getD p.toNat 0/ns.length).getD p.toNat 0=ns.getD p.toNat 0+ns.getD p.toNat 0/ns.length:=by
   have hx:p.toNat<ns.length:=by omega
   rw[ZsS,ZsZ,ZsT hx]
   simp[hx]
  rw[e2];omega
 |i+1,hi=>by
  have ih:=Zb9 h0 h1 i (by omega)
  have m1:=QC h0 h1 (show (0:Int)<=(i:Int)+1 by omega) (by omega)
  have hlt:((p+((i:Int)+1))%ns.length).toNat<ns.length:=by rw[m1];split<;>omega
  rw[<- Zdl h0 h1 (by omega),Qh (by rw[Ji];exact hlt),ih,Qz hlt];omega
theorem ZgW(h0:0<=p)(h1:p<ns.length)(hs:0<=ns.getD p.toNat 0):(Vo ns p).sum=ns.sum:=by
 have b1:=Ztp (ns.getD p.toNat 0) (show (ns.length:Int)≠0 by omega)
 have b2:=Ztg (ns.getD p.toNat 0) (show (0:Int)<ns.length by omega)
 have:=Zb9 h0 h1 (ns.getD p.toNat 0%ns.length).toNat (by omega)
 rw[Zt6 b1] at this
 have e:=Zuk (ns.getD p.toNat 0) ns.length
 unfold Vo
 omega
theorem Zjt(hn:∀x∈ns,0<=x)(i:Int)(x:Nat)(hx:x<ns.length):0<=Zb0 ns p i x:=by
 have h1:=hn _ (V8 hx)
 have h2:0<=ns.getD p.toNat 0:=by
  by_cases hp:p.toNat<ns.length
  ·exact hn _ (V8 hp)
  ·rw[ZsS,Ztt (by omega)];exact Zva _
 have h3:=Int.ediv_nonneg h2 (show (0:Int)<=ns.length by omega)
 have h4:=Zcr ns.length p i x
 unfold Zb0 Zi4
 split<;>omega
end
noncomputable def run(f:Nat->Int):Nat->Nat->Nat
 |0,i=>i
 |k+1,i=>if 0<f i then run f k (i+1) else i
section
end
noncomputable def Zk5(a:List Int×Int):List Int×Int:=(Vo a.1 a.2,Zny a.1 a.2)
noncomputable def its{α:Type}(f:α->α):Nat->α->α
 |0,a=>a
 |n+1,a=>f (its f n a)
section
end
end My
namespace My
open PySem L2
noncomputable abbrev Zj9(a:List Int×Int):PV:=.tup [.lst (a.1.map PV.int),.int a.2]
noncomputable def VS(ns:List Int):Bool:=decide (2<=ns.length/\ns.length<=24/\(∀x∈ns,0<=x)/\ns.sum<=10^60)
theorem ZaC{ns:List Int}:VS ns=true ↔ Zmx ns:=by
 unfold VS
 rw[decide_eq_true_iff]
 exact⟨fun⟨a,b,c,d⟩=>⟨a,b,c,d⟩,fun h=>⟨h.lo,h.hi,h.nn,h.sm⟩⟩
end My
namespace L2
noncomputable def ZlM(p s:Int):Int:=p*s%(p+1)
noncomputable def ZnC(p s:Int):Int:=p*s/(p+1)
noncomputable def Zju(s:Int):Nat->Int
 |0=>s
 |k+1=>ZnC (k+1) (Zju s k)
noncomputable def ZlS(s:Int)(n:Nat):List Int:=(List.range n).map fun(k:Nat)=>ZlM (k+1) (Zju s k)
noncomputable def ZkF(s:Int):Nat->Nat->Nat
 |0,k=>k
 |n+1,k=>if 0<Zju s k then ZkF s n (k+1) else k
noncomputable def ZnI(s:Int):Nat:=ZkF s s.toNat 0
noncomputable def ZmC(s:Int):List Int:=ZlS s (ZnI s)
def ZgD(ns:List Int):Prop:=(∀x∈ns,0<=x)/\ns.length<=200/\ns.sum<=10000/\(ns=[]\/ns.getD (ns.length-1) 0≠0)
noncomputable instance (ns:List Int):Decidable (ZgD ns):=by unfold ZgD;infer_instance
def Zje(ns:List Int):Prop:=ZgD ns/\ns=ZmC ns.sum
noncomputable instance (ns:List Int):Decidable (Zje ns):=by unfold Zje;infer_instance
noncomputable def s2(ns:List Int)(r:Nat):Nat->Int
 |0=>0
 |i+1=>s2 ns r i+if i%2=r then ns.getD i 0 else 0
theorem Zgd{ns:List Int}{i:Nat}(h:i<ns.length):ns.getD i 0∈ns:=by
 rw[ZsS,ZsT h];exact Zue _
noncomputable def hs:Nat->Nat->Int->List Int
 |_,0,_=>[]
 |k,m+1,l=>ZlM (k+1) l::hs (k+1) m (ZnC (k+1) l)
noncomputable def s3(ns:List Int)(r:Nat):Nat->Int
 |0=>0
 |i+1=>s3 ns r i+if i%3=r then ns.getD i 0 else 0
def Zjd(ns:List Int):Prop:=(∀x∈ns,0<=x)/\ns.length<=100/\ns.sum<=100/\(ns=[]\/(ns.getD 0 0≠0/\ns.getD (ns.length-1) 0≠0))
noncomputable instance (ns:List Int):Decidable (Zjd ns):=by unfold Zjd;infer_instance
theorem ZhP{ns:List Int}{i:Nat}(h:ns.length<=i):ns.getD i 0=0:=by
 rw[ZsS,Ztt h];rfl
theorem Zgc{ns:List Int}(h:∀x∈ns,0<=x)(i:Nat):0<=ns.getD i 0:=by
 by_cases z:i<ns.length
 ·exact h _ (Zgd z)
 ·rw[ZhP (by omega)];omega
theorem sum_nn:∀{ns:List Int},(∀x∈ns,0<=x)->0<=ns.sum
 |[],_=>by simp
 |x::xs,h=>by
  have:=h x (by simp)
  have:=sum_nn (ns:=xs) (fun y hy=>h y (by simp[hy]))
  simp;omega
noncomputable def Q3(s:Int):Nat->Int
 |0=>s
 |k+1=>Q3 s k*48271%2147483647
theorem Zdk{s:Int}(h:0<=s/\s<=2147483647):∀k,0<=Q3 s k/\Q3 s k<=2147483647
 |0=>h
 |k+1=>by rw[Q3];omega
noncomputable def ZeC(s:Int)(m:Nat):List Int:=(List.range m).map fun(k:Nat)=>Q3 s (k+1)/16%1000000
theorem ZbS(s:Int)(m:Nat):ZeC s (m+1)=ZeC s m++[Q3 s (m+1)/16%1000000]:=by simp[ZeC,Zus]
@[simp] theorem Uc(s:Int)(m:Nat):(ZeC s m).length=m:=by simp[ZeC]
noncomputable def ZbU(fs ns:List Int)(m:Nat):Nat->List Int
 |0=>fs
 |i+1=>(ZbU fs ns m i).set (i%m) (((ZbU fs ns m i).getD (i%m) 0+ns.getD i 0)%1000000)
@[simp] theorem UT(fs ns:List Int)(m:Nat):∀i,(ZbU fs ns m i).length=fs.length
 |0=>rfl
 |i+1=>by rw[ZbU,Zuq,UT]
noncomputable def JU(ns:List Int):Int:=if 0<ns.length then 1+ns.getD 0 0%2147483646 else 1
theorem Zb8(ns:List Int):0<=JU ns/\JU ns<=2147483647:=by unfold JU;split<;>omega
noncomputable def Zep(ns:List Int)(m:Nat):List Int:=ZbU (ZeC (JU ns) m) ns m ns.length
@[simp] theorem ZbI(ns:List Int)(m:Nat):(Zep ns m).length=m:=by simp[Zep]
theorem getD_set{l:List Int}{i j:Nat}{v:Int}(h:i<l.length):(l.set i v).getD j 0=if i=j then v else l.getD j 0:=by
 simp only[ZsS,List.getElem?_set,if_pos h]
 split<;>rfl
noncomputable def stir(c j:Int):Int:=((c%2147483647+1009*j+7)*48271%2147483647)*((c%2147483647+1009*j+7)*48271%2147483647)%998244353/8
end L2
namespace My
open L2
noncomputable def ZmG(ns:List Int)(k:Int):List Int:=tab ns.length fun x=>ns.getD (((x:Int)-k)%ns.length).toNat 0
noncomputable def ZmF(a:List Int×Int)(s:Nat):Int:=((its Zk5 s a).2-a.2)%a.1.length
def isT(a:List Int×Int)(s:Nat):Prop:=(its Zk5 s a).1=ZmG a.1 (ZmF a s)
noncomputable instance (a:List Int×Int) (s:Nat):Decidable (isT a s):=by unfold isT;infer_instance
section
end
end My
namespace My
open PySem PySem.Spec PyProof.Rows L2
theorem Uv{ns:List Int}{k:Int}(h0:0<=k)(h1:k<ns.length):pIx (.tup (ns.map PV.int)) (.int k)=.ok (.int (ns.getD k.toNat 0)):=Qm (ns:=ns) h0 h1
theorem Zat{ns:List Int}:ZeB [.tup (ns.map PV.int)]=.ok (.int ns.length):=by simp[ZeB]
theorem ZhS{xs:List PV}:PV.flat (.tup xs)=PV.flats xs:=by simp[PV.flat]
theorem Za2{ns:List Int}:PV.flat (.tup (ns.map PV.int))=true:=by rw[ZhS];exact U4
theorem QO{ns:List Int}:grd (.tup (ns.map PV.int))=.ok (.tup (ns.map PV.int)):=by unfold grd;rw[Za2];rfl
noncomputable def tI(b:List Int):List Key:=b.map Sum.inl
theorem Uj(b:List Int):ZD b=.tup ((tI b).map Zc9):=by unfold ZD tI;rw[Zt2];rfl
theorem QS{α:Type}{q:α->PV}(h:∀a,PV.flat (q a)=true):∀L:List α,PV.flats (L.map q)=true
 |[]=>by simp[PV.flats]
 |a::L=>by
  rw[Zte]
  simp only[PV.flats,h a,QS h L,Bool.and_self]
theorem ZjQ{xs:List PV}(h:PV.flats xs=true)(hl:xs.length<=1000000):newF xs=.ok (.lst xs):=by
 unfold newF
 rw[h,decide_eq_true hl];rfl
theorem ZfE{α:Type}{q:α->PV}{L:List α}(h:∀a,PV.flat (q a)=true)(hl:L.length<=1000000):newF (L.map q)=.ok (.lst (L.map q)):=ZjQ (QS h L) (by simpa using hl)
theorem J0(t:List Int):PV.flat (ZD t)=true:=Za2
theorem Zdi{a b:List Int}(h:tI a=tI b):a=b:=by
 unfold tI at h
 exact(List.map_inj_right fun x y h=>Sum.inl.inj h).mp h
section
variable {κ:Type} [DecidableEq κ] {α:Type}{k:κ}{ks:List κ}
theorem Uq(h:k ∉ ks):Zae ks k=ks++[k]:=if_neg h
theorem Uo{xs:List α}{y:α}(h:k ∉ ks):UI ks xs k y=xs++[y]:=if_neg h
end
section
variable {ks:List (List Key)}{xs:List PV}{p:Option PySem.Addr}{g:List Int}{v:PV}
theorem Zmi:dAt (.box p (.dt ks) xs) (ZD g)=some (atK ks xs (tI g)):=by
 rw[Uj]
 simp only[dAt,Vk,ZuF]
theorem ZaU(h:atK ks xs (tI g)=some v):Zhy (.box p (.dt ks) xs) (ZD g)=.ok v:=by
 unfold Zhy
 rw[Zmi,h]
theorem Zd8{f:Bool->Bool}:ZiE f (ZD g) (.box p (.dt ks) xs)=.ok (.bl (f (atK ks xs (tI g)).isSome)):=by
 unfold ZiE
 rw[Zmi]
theorem ZaT(hv:v.flat=true)(hl:xs.length<1000000):Zhx (.box p (.dt ks) xs) (ZD g) v=.ok (.box p (.dt (Zae ks (tI g))) (UI ks xs (tI g) v)):=by
 rw[Uj]
 unfold Zhx
 simp only[Vk]
 rw[if_pos ⟨hl,.inr hv⟩]
theorem UC:∀{ks:List (List Key)}{xs:List PV}{k:List Key},k ∉ ks->atK ks xs k=none
 |[],_,_,_=>by unfold atK;rfl
 |k'::ks,[],k,_=>by unfold atK;rfl
 |k'::ks,x::xs,k,h=>by
  unfold atK
  rw[if_neg (fun e=>h (by rw[e];exact ZtG ..)),UC fun z=>h (Ztz _ z)]
theorem Zac:∀{ks:List (List Key)}{xs:List PV}{k:List Key},ks.length=xs.length->k∈ks->∃x,atK ks xs k=some x
 |[],_,_,_,h=>by simp at h
 |k'::ks,[],k,h,_=>by simp at h
 |k'::ks,x::xs,k,h,hm=>by
  unfold atK
  by_cases e:k'=k
  ·rw[if_pos e];exact⟨x,rfl⟩
  ·rw[if_neg e]
   exact Zac (by simpa using h) ((Zti.mp hm).resolve_left fun z=>e z.symm)
end
noncomputable def ZaK(x:Int×List Int):PV:=.tup [.int x.1,ZD x.2]
end My
namespace L2
noncomputable def cbI(s:Int):Nat->Int
 |0=>1
 |k+1=>cbI s k*(s+((k:Int)+1))/((k:Int)+1)
theorem Zg0{s:Int}(h:0<=s):∀k,0<=cbI s k
 |0=>by simp[cbI]
 |k+1=>by
  rw[cbI]
  exact Int.ediv_nonneg (Int.mul_nonneg (Zg0 h k) (by omega)) (by omega)
theorem ZiV{s:Int}(h:0<=s)(h1:s<=10^60):∀k:Nat,k<=1000->cbI s k<=(10^61)^k
 |0,_=>by simp[cbI]
 |k+1,hk=>by
  have ih:=ZiV h h1 k (by omega)
  have nn:=Zg0 h k
  rw[cbI]
  have e1:cbI s k*(s+((k:Int)+1))<=(10^61)^k*10^61:=Int.mul_le_mul ih (by omega) (by omega) (Int.pow_nonneg (by decide))
  have e2:cbI s k*(s+((k:Int)+1))/((k:Int)+1)<=cbI s k*(s+((k:Int)+1)):=Int.ediv_le_self _ (Int.mul_nonneg nn (by omega))
  rw[Int.pow_succ]
  omega
noncomputable def cbN(p s:Int):Int:=if s<0 then 0 else cbI s (p-1).toNat
theorem Zgz{s:Int}(h:0<=s)(h1:s<=10^60){k:Nat}(hk:k<=24):(cbI s k).natAbs<2^60000:=by
 have h2:=ZiV h h1 k (by omega)
 have h3:=Zg0 h k
 have h4:((10:Int)^61)^k<=(10^61)^24:=by
  have:((10:Nat)^61)^k<=(10^61)^24:=ZuT (by decide) hk
  exact_mod_cast this
 have h5:((10:Int)^61)^24=10^1464:=by rw[<- Int.pow_mul]
 have h6:(cbI s k).natAbs<=10^1464:=by
  have:cbI s k<=10^1464:=by rw[<- h5];exact Int.le_trans h2 h4
  have e:((cbI s k).natAbs:Int)=cbI s k:=Int.natAbs_of_nonneg h3
  have:((cbI s k).natAbs:Int)<=((10^1464:Nat):Int):=by rw[e];exact_mod_cast this
  exact_mod_cast this
 have h7:10^1464<2^60000:=by
  calc (10:Nat)^1464<=(2^4)^1464:=Zvb (by decide) _
   _=2^5856:=by rw[<- Nat.pow_mul]
   _<2^60000:=ZuV (by decide) (by decide)
 omega
noncomputable def bN:Nat->Nat->Nat
 |0=>fun _=>1
 |s+1=>fun k=>Nat.rec 1 (fun k ih=>bN s (k+1)+ih) k
@[simp] theorem ZnV(s:Nat):bN s 0=1:=by cases s<;>rfl
@[simp] theorem ZnU(k:Nat):bN 0 k=1:=by exact id rfl
theorem ZcR(s k:Nat):bN (s+1) (k+1)=bN s (k+1)+bN (s+1) k:=rfl
theorem Zmp:∀n s k,s+k=n->(k+1)*bN s (k+1)=(s+k+1)*bN s k/\(s+1)*bN (s+1) k=(s+k+1)*bN s k:=by
 intro n
 induction n using Nat.strongRecOn with
 |ind n ih =>
  intro s k h
  constructor
  ·cases s with
   |zero=>simp
   |succ s =>
    have h1:=(ih (s+k) (by omega) s k rfl).1
    have h2:=(ih (s+k) (by omega) s k rfl).2
    rw[ZcR,Nat.mul_add,h1,<- h2,<- Nat.add_mul]
    congr 1
  ·cases k with
   |zero=>simp
   |succ k =>
    have h1:=(ih (s+k) (by omega) s k rfl).1
    have h2:=(ih (s+k) (by omega) s k rfl).2
    rw[ZcR,Nat.mul_add,h2,<- h1,<- Nat.add_mul]
    congr 1
    omega
theorem ZiW(s:Nat):∀k:Nat,cbI s k=(bN s k:Nat)
 |0=>by simp[cbI]
 |k+1=>by
  have h:=(Zmp (s+k) s k rfl).1
  rw[cbI,ZiW s k]
  have e:((bN s k:Nat):Int)*((s:Int)+((k:Int)+1))=((k:Int)+1)*(bN s (k+1):Nat):=by
   have:(((k+1)*bN s (k+1):Nat):Int)=(((s+k+1)*bN s k:Nat):Int):=by rw[h]
   rw[Int.natCast_mul,Int.natCast_mul] at this
   rw[show ((k:Int)+1)=((k+1:Nat):Int) by omega,this,Int.mul_comm]
   congr 1
  rw[e,Int.mul_ediv_cancel_left _ (by omega)]
theorem ZaA{p s:Int}(hs:0<=s):cbN p s=(bN s.toNat (p-1).toNat:Nat):=by
 unfold cbN
 rw[if_neg (by omega)]
 have:=ZiW s.toNat (p-1).toNat
 rwa [Zt6 hs] at this
theorem ZcP{p s:Int}(hs:s<0):cbN p s=0:=if_pos hs
theorem Zgy(p s:Int):0<=cbN p s:=by
 by_cases h:s<0
 ·rw[ZcP h];exact Zva _
 ·rw[ZaA (by omega)];omega
theorem ZcO{s:Int}(hs:0<=s):cbN 1 s=1:=by rw[ZaA hs];simp
theorem ZdW(p:Int):cbN p 0=1:=by rw[ZaA (Zva _)];simp
theorem Zbr{p s:Int}(hp:2<=p)(hs:0<=s):cbN p s=cbN p (s-1)+cbN (p-1) s:=by
 by_cases h:s=0
 ·subst h
  rw[ZcP (p:=p) (s:=0-1) (by omega),ZdW,ZdW];rfl
 ·rw[ZaA hs,ZaA (p:=p) (s:=s-1) (by omega),ZaA (p:=p-1) hs]
  obtain⟨t,ht⟩:∃t:Nat,s=t+1:=⟨(s-1).toNat,by omega⟩
  obtain⟨q,hq⟩:∃q:Nat,p=q+2:=⟨(p-2).toNat,by omega⟩
  subst ht
  subst hq
  rw[show ((t:Int)+1).toNat=t+1 by omega,show ((q:Int)+2-1).toNat=q+1 by omega,show ((t:Int)+1-1).toNat=t by omega,show ((q:Int)+2-1-1).toNat=q by omega,ZcR]
  omega
theorem ZdX{p s t:Int}(hp:1<=p)(h:s<=t):cbN p s<=cbN p t:=by
 by_cases hs:s<0
 ·rw[ZcP hs];exact Zgy p t
 ·obtain⟨d,rfl⟩:∃d:Nat,t=s+d:=⟨(t-s).toNat,by omega⟩
  induction d with
  |zero=>simp
  |succ d ih =>
   have ih:=ih (by omega)
   by_cases h1:p=1
   ·subst h1;rw[ZcO (by omega),ZcO (by omega)];omega
   ·have h2:=Zbr (p:=p) (s:=s+((d+1:Nat):Int)) (by omega) (by omega)
    rw[show s+((d+1:Nat):Int)-1=s+(d:Int) by omega] at h2
    have:=Zgy (p-1) (s+((d+1:Nat):Int))
    omega
noncomputable def ZgM:List Int->Int
 |[]=>0
 |[_]=>0
 |_::y::r=>cbN (((y::r).length:Int)+1) ((y::r).sum-1)+ZgM (y::r)
theorem Zbw:∀(l:List Int),l≠[]->(∀x∈l,0<=x)->0<=ZgM l/\ZgM l+1<=cbN l.length l.sum
 |[],h,_=>absurd rfl h
 |[x],_,hn=>by
  have hx:=hn x (by simp)
  simp only[ZgM,Ztw,ZuZ,Zu2,List.sum_nil]
  rw[show ((0+1:Nat):Int)=1 by rfl,ZcO (by omega)]
  omega
 |x::y::r,_,hn=>by
  have hx:=hn x (by simp)
  have hr:∀z∈y::r,0<=z:=fun z hz=>hn z (by simp only[Zti] at hz ⊢;right;exact hz)
  have hs:=sum_nn hr
  obtain⟨h1,h2⟩:=Zbw (y::r) (by simp) hr
  rw[ZgM]
  have h3:=Zgy (((y::r).length:Int)+1) ((y::r).sum-1)
  refine⟨by omega, ?_⟩
  have h4:=Zbr (p:=((y::r).length:Int)+1) (s:=(y::r).sum) (by simp only[Ztw];omega) hs
  rw[show ((y::r).length:Int)+1-1=(y::r).length by omega] at h4
  have h5:=ZdX (p:=((y::r).length:Int)+1) (s:=(y::r).sum) (t:=(x::y::r).sum) (by omega) (by simp only[Zu2];omega)
  rw[show (((x::y::r).length:Nat):Int)=((y::r).length:Int)+1 by simp only[Ztw];omega]
  omega
noncomputable def ZfD(l:List Int):Int:=cbN l.length l.sum-1-ZgM l
theorem ZjP{l:List Int}(h:l≠[])(hn:∀x∈l,0<=x):0<=ZfD l/\ZfD l<cbN l.length l.sum:=by
 have:=Zbw l h hn
 unfold ZfD
 omega
theorem ZfC:∀{a b:List Int},a.length=b.length->a.sum=b.sum->(∀x∈a,0<=x)->(∀x∈b,0<=x)->a≠[] ->
  (∃i,i<a.length/\(∀j,j<i->a.getD j 0=b.getD j 0)/\a.getD i 0<b.getD i 0)->ZgM b<ZgM a
 |[],_,_,_,_,_,h,_=>absurd rfl h
 |[x],b,hl,hs,_,_,_,hd=>by
  obtain⟨i,hi,h1,h2⟩:=hd
  simp at hi
  subst hi
  match b,hl with
  |[z],_=>simp at hs h2;omega
 |x::y::r,b,hl,hs,hna,hnb,_,hd=>by
  match b,hl with
  |z::w::q,hl =>
   have hra:∀v∈y::r,0<=v:=fun v hv=>hna v (by simp only[Zti] at hv ⊢;right;exact hv)
   have hrb:∀v∈w::q,0<=v:=fun v hv=>hnb v (by simp only[Zti] at hv ⊢;right;exact hv)
   have hlen:(y::r).length=(w::q).length:=by simpa using hl
   have sa:=sum_nn hra
   have sb:=sum_nn hrb
   obtain⟨i,hi,h1,h2⟩:=hd
   rw[ZgM,ZgM]
   have hsum:x+(y::r).sum=z+(w::q).sum:=by simpa[Zu2] using hs
   cases i with
   |zero =>
    have h2:x<z:=by simpa using h2
    obtain⟨b1,b2⟩:=Zbw (w::q) (by simp) hrb
    have a1:=(Zbw (y::r) (by simp) hra).1
    have h4:=Zbr (p:=((w::q).length:Int)+1) (s:=(w::q).sum) (by simp only[Ztw];omega) sb
    rw[show ((w::q).length:Int)+1-1=(w::q).length by omega] at h4
    have h5:=ZdX (p:=((w::q).length:Int)+1) (s:=(w::q).sum) (t:=(y::r).sum-1) (by omega) (by omega)
    rw[hlen]
    omega
   |succ i =>
    have hxz:x=z:=by simpa using h1 0 (by omega)
    have ih:=ZfC (a:=y::r) (b:=w::q) hlen (by omega) hra hrb (by simp) ⟨i,by simpa using hi,fun j hj=>by simpa using h1 (j+1) (by omega),by simpa using h2⟩
    rw[hlen,show (y::r).sum=(w::q).sum by omega]
    omega
end L2
namespace My
open L2
end My
namespace L2
end L2
namespace My
open L2
end My
namespace L2
noncomputable def tri:Nat->Int
 |0=>0
 |k+1=>tri k+(k+1)
noncomputable def kN(s:Int):Nat:=((List.range (s.toNat+1)).find? fun(k:Nat)=>decide (s<tri (k+1))).getD 0
noncomputable def adI(l:List Int)(k i:Nat):Int:=l.getD i 0-((k:Int)-i)
structure Zob(l:List Int)(k:Nat):Prop where
 lo:tri k<=l.sum
 hi:l.sum<tri (k+1)
 ad:∀i,i<=k->0<=adI l k i/\adI l k i<=1
 z:∀i,k<i->l.getD i 0=0
noncomputable def ZnP:Bool:=(List.range 63).all fun n=>(List.range (n+1)).all fun m=>(List.range (n+1)).all fun a =>
 ((a*Nat.gcd (n+1) m%(n+1)==0)==(a%((n+1)/Nat.gcd (n+1) m)==0))&&(a*Nat.gcd (n+1) m/(n+1)==a/((n+1)/Nat.gcd (n+1) m))&&decide (a/((n+1)/Nat.gcd (n+1) m)<=Nat.gcd (n+1) m)&&decide (0<Nat.gcd (n+1) m)&&decide (0<(n+1)/Nat.gcd (n+1) m)&&decide (Nat.gcd (n+1) m<=n+1)
theorem ZlO:ZnP=true:=by decide +kernel
structure Gd(n m a:Nat):Prop where
 mod:a*Nat.gcd n m%n=0 ↔ a%(n/Nat.gcd n m)=0
 div:a*Nat.gcd n m/n=a/(n/Nat.gcd n m)
 le:a/(n/Nat.gcd n m)<=Nat.gcd n m
 p1:0<Nat.gcd n m
 p2:0<n/Nat.gcd n m
 le2:Nat.gcd n m<=n
theorem gd{n m a:Nat}(h1:n<=63)(hm:m<n)(ha:a<n):Gd n m a:=by
 have h:=ZtF.mp (ZtF.mp (ZtF.mp ZlO (n-1) (Zty.mpr (by omega))) m (Zty.mpr (by omega))) a (Zty.mpr (by omega))
 rw[show n-1+1=n by omega] at h
 simp only[Bool.and_eq_true,beq_iff_eq,decide_eq_true_eq] at h
 obtain⟨⟨⟨⟨⟨h1,h2⟩,h3⟩,h4⟩,h5⟩,h6⟩:=h
 refine⟨?_,h2,h3,h4,h5,h6⟩
 rw[<- beq_iff_eq (a:=a*Nat.gcd n m%n),<- beq_iff_eq (a:=a%(n/Nat.gcd n m)),h1]
end L2
namespace L2
open PySem
end L2
namespace My
open PySem L2
theorem ZgX{b:List Int}{p:Int}{x:Nat}(hx:x<b.length):(Vo b p).getD x 0=Zb0 b p (b.getD p.toNat 0%b.length) x:=by
 unfold Vo tab
 rw[ZsS,ZsZ,ZtO hx];rfl
end My
namespace L2
end L2
namespace My
open PySem L2
def Wide(ns:List Int):Prop:=∀x∈ns,0<=x/\x<=10^60
end My
namespace My
open L2
theorem Zn8:∀{x y:List Int},HT.Z1 x y=true->∃i,i<y.length/\(∀j,j<i->x.getD j 0=y.getD j 0)/\(x.getD i 0<y.getD i 0\/x.length<=i)
 |[],[],h=>by simp[HT.Z1] at h
 |[],b::y,h=>⟨0,by simp,by simp,.inr (by simp)⟩
 |a::x,[],h=>by simp[HT.Z1] at h
 |a::x,b::y,h=>by
  rw[HT.JH] at h
  by_cases e:a=b
  ·rw[if_pos e] at h
   obtain⟨i,h1,h2,h3⟩:=Zn8 h
   refine⟨i+1,by simp;exact h1,fun j hj=>?_, ?_⟩
   ·cases j with
    |zero=>simpa using e
    |succ j=>simpa using h2 j (by omega)
   ·rcases h3 with z|z
    ·exact .inl (by simpa using z)
    ·exact .inr (by simpa using z)
  ·rw[if_neg e] at h
   exact⟨0,by simp,by simp,.inl (by simpa using h)⟩
end My
namespace L2
open PySem PyProof.Rows
structure Vb(prog:Program)(w:World)(A:Around)(s:Shared)(κ:SortKind)(U:Keyed->Prop)(R:Keyed->Keyed->Bool)(Ok:Keyed->Keyed->Prop):Prop where
 ask:∀x y,U x->U y->Ok x y->∀(Q:Bool->Shared->Prop),Q (R x y) s->wpAny (model prog w) A (keyLt' κ x.1 y.1) Q (fun _ _=>False) s
 asy:∀x y,U x->U y->R x y=true->R y x=false
 tr:∀x y z,U x->U y->U z->R y x=false->R z y=false->R z x=false
section
variable {prog:Program}{w:World}{A:Around}{E:Value->Shared->Prop}{s:Shared}{κ:SortKind}{U:Keyed->Prop}{R:Keyed->Keyed->Bool}{Ok:Keyed->Keyed->Prop}
theorem Qv(C:Vb prog w A s κ U R Ok){st:SortSt}{x y:Keyed}{Q:Option Bool->SortSt->Prop}(hk:kindOf st=κ)(ux:U x)(uy:U y)(ok:Ok x y)(h:Q (some (R x y)) st):wpS (model prog w) A E s (lt' x y) Q st:=by
 rw[lt'_eq]
 refine wpS_bind (wpS_get ?_)
 rw[hk]
 refine wpS_bind (wpS_lift (wpAny_attempt (wpAny_mono (C.ask x y ux uy ok (fun b s'=>s'=s/\b=R x y) ⟨rfl,rfl⟩) (fun b s' q=>?_) fun _ _ q=>q.elim)))
 obtain⟨rfl,rfl⟩:=q
 exact⟨rfl,wpS_pure h⟩
theorem ZE{st:SortSt}{arr:Array Keyed}{i:Nat}{x:Keyed}{Q:Keyed->SortSt->Prop}(hx:arr[i]?=some x)(h:Q x st):wpS (model prog w) A E s (elem' arr i) Q st:=by
 rw[elem'_eq,hx]
 exact wpS_pure h
end
noncomputable def J6:Bool->Keyed->Array Keyed->Nat->Nat->Nat->StateT SortSt Sem (Option Nat):=sortPriv% PySem.Builtin.gallop
noncomputable def Zej(left:Bool)(key:Keyed)(arr:Array Keyed)(base:Nat)(i:Nat):StateT SortSt Sem (Option Bool):=do
 let x <- elem' arr (base+i)
 if left then lt' x key else return (<- lt' key x).map (!·)
theorem Zey(left:Bool)(key:Keyed)(arr:Array Keyed)(base n hint:Nat):J6 left key arr base n hint=(do
  let mut u:=0
  let mut v:=1
  let mut a:=0
  let mut b:=0
  let some r <- Zej left key arr base hint|return none
  if r then
   let w:=n-hint
   for _ in [0:n] do
    if v ≥ w then break
    let some m <- Zej left key arr base (hint+v)|return none
    if !m then break
    u:=v
    v:=2*v+1
   a:=hint+u+1
   b:=hint+min v w
  else
   let w:=hint+1
   for _ in [0:n] do
    if v ≥ w then break
    let some m <- Zej left key arr base (hint-v)|return none
    if m then break
    u:=v
    v:=2*v+1
   a:=hint+1-min v w
   b:=hint-u
  for _ in [0:n] do
   if a ≥ b then break
   let c:=a+(b-a)/2
   let some m <- Zej left key arr base c|return none
   if m then a:=c+1 else b:=c
  return some b):=rfl
section
variable {prog:Program}{w:World}{A:Around}{E:Value->Shared->Prop}{s:Shared}{κ:SortKind}{U:Keyed->Prop}{R:Keyed->Keyed->Bool}{Ok:Keyed->Keyed->Prop}
structure UV(U:Keyed->Prop)(R:Keyed->Keyed->Bool)(Ok:Keyed->Keyed->Prop)(left:Bool)(key:Keyed)(arr:Array Keyed)(base n:Nat)(P:Nat->Bool):Prop where
 uk:U key
 it:∀i,i<n->∃x,arr[base+i]?=some x/\U x/\(if left=true then Ok x key else Ok key x)/\P i=(if left=true then R x key else !R key x)
 mono:∀i j,i<=j->j<n->P j=true->P i=true
theorem Ui(C:Vb prog w A s κ U R Ok){st:SortSt}{left:Bool}{key:Keyed}{arr:Array Keyed}{base n i:Nat}{P:Nat->Bool}{Q:Option Bool->SortSt->Prop}(hk:kindOf st=κ)(K:UV U R Ok left key arr base n P)(hi:i<n)(h:Q (some (P i)) st) :
  wpS (model prog w) A E s (Zej left key arr base i) Q st:=by
 obtain⟨x,hx,ux,ok,hp⟩:=K.it i hi
 unfold Zej
 refine wpS_bind (ZE hx ?_)
 cases left with
 |true =>
  rw[if_pos rfl] at hp ok ⊢
  exact Qv C hk ux K.uk ok (by rw[<- hp];exact h)
 |false =>
  rw[if_neg (by decide)] at hp ok ⊢
  exact wpS_bind (Qv C hk K.uk ux ok (wpS_pure (by rw[ZuF,<- hp];exact h)))
theorem JF(C:Vb prog w A s κ U R Ok){st:SortSt}{left:Bool}{key:Keyed}{arr:Array Keyed}{base n hint:Nat}{P:Nat->Bool}{Q:Option Nat->SortSt->Prop}(hk:kindOf st=κ)(K:UV U R Ok left key arr base n P)(hh:hint<n)(h:∀k,k<=n->(∀i,i<k->P i=true)->(∀i,k<=i->i<n->P i=false)->Q (some k) st):wpS (model prog w) A E s (J6 left key arr base n hint) Q st:=by
 rw[Zey]
 refine wpS_bind (Ui C hk K hh ?_)
 dsimp only
 have down:∀{i j},i<=j->j<n->P i=false->P j=false:=fun {i j} h1 h2 h3=>by
  cases hj:P j with
  |false=>rfl
  |true=>rw[K.mono i j h1 h2 hj] at h3;cases h3
 cases hP:P hint with
 |true =>
  rw[if_pos rfl]
  refine wpS_bind (wpS_mono (wpS_forRange (I:=fun x (c:Option (Option Nat)×Nat×Nat) (st':SortSt)=>st'=st/\c.1=none/\P (hint+c.2.1)=true/\hint+c.2.1<n/\c.2.1<c.2.2/\x+1<=c.2.2)
   (Q:=fun(c:Option (Option Nat)×Nat×Nat) (st':SortSt)=>st'=st/\c.1=none/\P (hint+c.2.1)=true/\hint+c.2.1<n/\c.2.1<c.2.2/\(n-hint<=c.2.2\/(c.2.2<n-hint/\P (hint+c.2.2)=false))) ?_ ?_ ⟨rfl,rfl,by simpa using hP,by simpa using hh,Nat.zero_lt_one,ZsX _⟩) ?_)
  ·rintro x ⟨o,u,v⟩ st' _ hx ⟨rfl,rfl,q1,q2,q3,q4⟩
   dsimp only at q1 q2 q3 q4 ⊢
   by_cases hv:v ≥ n-hint
   ·rw[if_pos hv]
    exact wpS_pure ⟨rfl,rfl,q1,q2,q3,.inl hv⟩
   ·rw[if_neg hv]
    refine wpS_bind (Ui C hk K (by omega) ?_)
    dsimp only
    cases hm:P (hint+v) with
    |true =>
     rw[if_neg (by decide)]
     exact wpS_pure ⟨rfl,rfl,hm,by dsimp only;omega,by dsimp only;omega,by dsimp only;omega⟩
    |false =>
     rw[if_pos (by decide)]
     exact wpS_pure ⟨rfl,rfl,q1,q2,q3,.inr ⟨by dsimp only;omega,hm⟩⟩
  ·rintro⟨o,u,v⟩ st' ⟨rfl,rfl,q1,q2,q3,q4⟩
   dsimp only at q1 q2 q3 q4 ⊢
   exact⟨rfl,rfl,q1,q2,q3,.inl (by omega)⟩
  rintro⟨o,u,v⟩ st' ⟨hst,rfl,q1,q2,q3,q4⟩
  have hst:=hst.symm
  subst hst
  dsimp only at q1 q2 q3 q4 ⊢
  have ab:hint+u+1<=hint+min v (n-hint):=by omega
  have bn:hint+min v (n-hint)<=n:=by omega
  have pa:∀i,i<hint+u+1->P i=true:=fun i hi=>K.mono i (hint+u) (by omega) (by omega) q1
  have pb:∀i,hint+min v (n-hint)<=i->i<n->P i=false:=fun i h1 h2=>by
   rcases q4 with q4|⟨q4,q5⟩
   ·omega
   ·exact down (by omega) h2 q5
  refine wpS_bind (wpS_mono (wpS_forRange (I:=fun x (c:Option (Option Nat)×Nat×Nat) (st':SortSt)=>st'=st/\c.1=none/\c.2.1<=c.2.2/\c.2.2<=n/\(∀i,i<c.2.1->P i=true)/\(∀i,c.2.2<=i->i<n->P i=false)/\c.2.2-c.2.1<=n-x)
   (Q:=fun(c:Option (Option Nat)×Nat×Nat) (st':SortSt)=>st'=st/\c.1=none/\c.2.1=c.2.2/\c.2.2<=n/\(∀i,i<c.2.1->P i=true)/\(∀i,c.2.2<=i->i<n->P i=false)) ?_ ?_ ⟨rfl,rfl,ab,bn,pa,pb,by dsimp only;omega⟩) ?_)
  ·rintro x ⟨o,a,b⟩ st' _ hx ⟨rfl,rfl,q1,q2,q3,q4,q5⟩
   dsimp only at q1 q2 q3 q4 q5 ⊢
   by_cases hab:a ≥ b
   ·rw[if_pos hab]
    exact wpS_pure ⟨rfl,rfl,by dsimp only;omega,q2,q3,q4⟩
   ·rw[if_neg hab]
    refine wpS_bind (Ui C hk K (by omega) ?_)
    dsimp only
    cases hm:P (a+(b-a)/2) with
    |true =>
     rw[if_pos rfl]
     exact wpS_pure ⟨rfl,rfl,by dsimp only;omega,q2,fun i hi=>K.mono i (a+(b-a)/2) (by dsimp only at hi;omega) (by omega) hm,q4,by dsimp only;omega⟩
    |false =>
     rw[if_neg (by decide)]
     refine wpS_pure ⟨rfl,rfl,by dsimp only;omega,by dsimp only;omega,q3,fun i h1 h2=>?_,by dsimp only;omega⟩
     cases hi:P i with
     |false=>rfl
     |true=>rw[K.mono _ i h1 h2 hi] at hm;cases hm
  ·rintro⟨o,a,b⟩ st' ⟨rfl,rfl,q1,q2,q3,q4,q5⟩
   dsimp only at q1 q2 q3 q4 q5 ⊢
   exact⟨rfl,rfl,by omega,q2,q3,q4⟩
  ·rintro⟨o,a,b⟩ st' ⟨rfl,rfl,q1,q2,q3,q4⟩
   dsimp only at q1 q2 q3 q4 ⊢
   exact wpS_pure (h b q2 (by rw[<- q1];exact q3) q4)
 |false =>
  rw[if_neg (by decide)]
  refine wpS_bind (wpS_mono (wpS_forRange (I:=fun x (c:Option (Option Nat)×Nat×Nat) (st':SortSt)=>st'=st/\c.1=none/\P (hint-c.2.1)=false/\c.2.1<=hint/\c.2.1<c.2.2/\x+1<=c.2.2)
   (Q:=fun(c:Option (Option Nat)×Nat×Nat) (st':SortSt)=>st'=st/\c.1=none/\P (hint-c.2.1)=false/\c.2.1<=hint/\c.2.1<c.2.2/\(hint+1<=c.2.2\/(c.2.2<=hint/\P (hint-c.2.2)=true))) ?_ ?_ ⟨rfl,rfl,by simpa using hP,ZtB _,Nat.zero_lt_one,ZsX _⟩) ?_)
  ·rintro x ⟨o,u,v⟩ st' _ hx ⟨rfl,rfl,q1,q2,q3,q4⟩
   dsimp only at q1 q2 q3 q4 ⊢
   by_cases hv:v ≥ hint+1
   ·rw[if_pos hv]
    exact wpS_pure ⟨rfl,rfl,q1,q2,q3,.inl hv⟩
   ·rw[if_neg hv]
    refine wpS_bind (Ui C hk K (by omega) ?_)
    dsimp only
    cases hm:P (hint-v) with
    |true =>
     rw[if_pos rfl]
     exact wpS_pure ⟨rfl,rfl,q1,q2,q3,.inr ⟨by dsimp only;omega,hm⟩⟩
    |false =>
     rw[if_neg (by decide)]
     exact wpS_pure ⟨rfl,rfl,hm,by dsimp only;omega,by dsimp only;omega,by dsimp only;omega⟩
  ·rintro⟨o,u,v⟩ st' ⟨rfl,rfl,q1,q2,q3,q4⟩
   dsimp only at q1 q2 q3 q4 ⊢
   exact⟨rfl,rfl,q1,q2,q3,.inl (by omega)⟩
  rintro⟨o,u,v⟩ st' ⟨hst,rfl,q1,q2,q3,q4⟩
  have hst:=hst.symm
  subst hst
  dsimp only at q1 q2 q3 q4 ⊢
  have ab:hint+1-min v (hint+1)<=hint-u:=by omega
  have bn:hint-u<=n:=by omega
  have pa:∀i,i<hint+1-min v (hint+1)->P i=true:=fun i hi=>by
   rcases q4 with q4|⟨q4,q5⟩
   ·omega
   ·exact K.mono i (hint-v) (by omega) (by omega) q5
  have pb:∀i,hint-u<=i->i<n->P i=false:=fun i h1 h2=>down h1 h2 q1
  refine wpS_bind (wpS_mono (wpS_forRange (I:=fun x (c:Option (Option Nat)×Nat×Nat) (st':SortSt)=>st'=st/\c.1=none/\c.2.1<=c.2.2/\c.2.2<=n/\(∀i,i<c.2.1->P i=true)/\(∀i,c.2.2<=i->i<n->P i=false)/\c.2.2-c.2.1<=n-x)
   (Q:=fun(c:Option (Option Nat)×Nat×Nat) (st':SortSt)=>st'=st/\c.1=none/\c.2.1=c.2.2/\c.2.2<=n/\(∀i,i<c.2.1->P i=true)/\(∀i,c.2.2<=i->i<n->P i=false)) ?_ ?_ ⟨rfl,rfl,ab,bn,pa,pb,by dsimp only;omega⟩) ?_)
  ·rintro x ⟨o,a,b⟩ st' _ hx ⟨rfl,rfl,q1,q2,q3,q4,q5⟩
   dsimp only at q1 q2 q3 q4 q5 ⊢
   by_cases hab:a ≥ b
   ·rw[if_pos hab]
    exact wpS_pure ⟨rfl,rfl,by dsimp only;omega,q2,q3,q4⟩
   ·rw[if_neg hab]
    refine wpS_bind (Ui C hk K (by omega) ?_)
    dsimp only
    cases hm:P (a+(b-a)/2) with
    |true =>
     rw[if_pos rfl]
     exact wpS_pure ⟨rfl,rfl,by dsimp only;omega,q2,fun i hi=>K.mono i (a+(b-a)/2) (by dsimp only at hi;omega) (by omega) hm,q4,by dsimp only;omega⟩
    |false =>
     rw[if_neg (by decide)]
     refine wpS_pure ⟨rfl,rfl,by dsimp only;omega,by dsimp only;omega,q3,fun i h1 h2=>?_,by dsimp only;omega⟩
     cases hi:P i with
     |false=>rfl
     |true=>rw[K.mono _ i h1 h2 hi] at hm;cases hm
  ·rintro⟨o,a,b⟩ st' ⟨rfl,rfl,q1,q2,q3,q4,q5⟩
   dsimp only at q1 q2 q3 q4 q5 ⊢
   exact⟨rfl,rfl,by omega,q2,q3,q4⟩
  ·rintro⟨o,a,b⟩ st' ⟨rfl,rfl,q1,q2,q3,q4⟩
   dsimp only at q1 q2 q3 q4 ⊢
   exact wpS_pure (h b q2 (by rw[<- q1];exact q3) q4)
end
noncomputable def ZaX:Array Keyed->Array Keyed->StateT SortSt Sem (Array Keyed):=sortPriv% PySem.Builtin.mergeLo
noncomputable def Zjw(g:Nat):StateT SortSt Sem Unit:=modify fun s=>SortSt.mk' (kindOf s) (arrOf s) (pendingOf s) g (failedOf s)
noncomputable def endA(a b o:Array Keyed)(i j:Nat):Array Keyed:=o++a.extract i a.size++b.extract j b.size
noncomputable def endB(a b o:Array Keyed)(i j:Nat):Array Keyed:=o++b.extract j b.size++a.extract i a.size
theorem Zc4(a b:Array Keyed):ZaX a b=(do
  rule "list.sort.merge-lo"
  let n:=a.size+b.size
  let mut o:Array Keyed:=#[<- elem' b 0]
  let mut i:=0
  let mut j:=1
  if j==b.size then return endA a b o i j
  if i+1==a.size then return endB a b o i j
  let mut g:=gallopOf (<- get)
  for _ in [0:n] do
   let mut x:=0
   let mut y:=0
   for _ in [0:n] do
    let some t <- lt' (<- elem' b j) (<- elem' a i)|return endA a b o i j
    if t then
     o:=o.push (<- elem' b j);j:=j+1;y:=y+1;x:=0
     if j==b.size then return endA a b o i j
     if y ≥ g then break
    else
     o:=o.push (<- elem' a i);i:=i+1;x:=x+1;y:=0
     if i+1==a.size then return endB a b o i j
     if x ≥ g then break
   rule "list.sort.gallop"
   g:=g+1
   for _ in [0:n] do
    if g>1 then g:=g-1
    Zjw g
    let some k <- J6 false (<- elem' b j) a i (a.size-i) 0|return endA a b o i j
    x:=k
    if k>0 then
     o:=o++a.extract i (i+k);i:=i+k
     if i+1==a.size then return endB a b o i j
     if i==a.size then return endA a b o i j
    o:=o.push (<- elem' b j);j:=j+1
    if j==b.size then return endA a b o i j
    let some k <- J6 true (<- elem' a i) b j (b.size-j) 0|return endA a b o i j
    y:=k
    if k>0 then
     o:=o++b.extract j (j+k);j:=j+k
     if j==b.size then return endA a b o i j
    o:=o.push (<- elem' a i);i:=i+1
    if i+1==a.size then return endB a b o i j
    if x<7&&y<7 then break
   g:=g+1
   Zjw g
  unsupported "internal:list.sort.merge-bound"):=rfl
def Srt(R:Keyed->Keyed->Bool)(l:List Keyed):Prop:=l.Pairwise fun x y=>R y x=false
structure MI(R:Keyed->Keyed->Bool)(a b o:List Keyed)(i j:Nat):Prop where
 perm:o.Perm (a.take i++b.take j)
 srt:Srt R o
 ga:∀x∈o,∀y∈a.drop i,R y x=false
 gb:∀x∈o,∀y∈b.drop j,R y x=false
 hi:i<=a.length
 hj:j<=b.length
section
variable {R:Keyed->Keyed->Bool}{a b o:List Keyed}{i j:Nat}
theorem VH(l:List Keyed)(i k:Nat):(l.drop i).take k++l.drop (i+k)=l.drop i:=by
 rw[<- List.drop_drop];exact Zts k (l.drop i)
theorem Zdd(l:List Keyed)(i k:Nat):l.take i++(l.drop i).take k=l.take (i+k):=(List.take_add).symm
theorem Srt.drop{l:List Keyed}(h:Srt R l)(i:Nat):Srt R (l.drop i):=h.sublist (List.drop_sublist i l)
theorem MI.pushA(M:MI R a b o i j)(sa:Srt R a)(k:Nat)(hk:i+k<=a.length)(hle:∀x∈(a.drop i).take k,∀y∈b.drop j,R y x=false):MI R a b (o++(a.drop i).take k) (i+k) j:=by
 have sd:=sa.drop i
 rw[<- VH a i k] at sd
 obtain⟨s1,s2,s3⟩:=Ztn.mp sd
 refine⟨?_, ?_, ?_, ?_,hk,M.hj⟩
 ·rw[<- Zdd]
  refine(M.perm.append_right _).trans ?_
  rw[Ztf,Ztf]
  exact List.Perm.append_left _ Zuc
 ·exact Ztn.mpr ⟨M.srt,s1,fun x hx y hy=>M.ga x hx y (ZtD hy)⟩
 ·intro x hx y hy
  rcases Zta.mp hx with hx|hx
  ·exact M.ga x hx y (by rw[<- VH a i k];exact ZsY _ hy)
  ·exact s3 x hx y hy
 ·intro x hx y hy
  rcases Zta.mp hx with hx|hx
  ·exact M.gb x hx y hy
  ·exact hle x hx y hy
theorem MI.pushB(M:MI R a b o i j)(sb:Srt R b)(k:Nat)(hk:j+k<=b.length)(hle:∀x∈(b.drop j).take k,∀y∈a.drop i,R y x=false):MI R a b (o++(b.drop j).take k) i (j+k):=by
 have sd:=sb.drop j
 rw[<- VH b j k] at sd
 obtain⟨s1,s2,s3⟩:=Ztn.mp sd
 refine⟨?_, ?_, ?_, ?_,M.hi,hk⟩
 ·rw[<- Zdd]
  refine(M.perm.append_right _).trans ?_
  rw[Ztf]
 ·exact Ztn.mpr ⟨M.srt,s1,fun x hx y hy=>M.gb x hx y (ZtD hy)⟩
 ·intro x hx y hy
  rcases Zta.mp hx with hx|hx
  ·exact M.ga x hx y hy
  ·exact hle x hx y hy
 ·intro x hx y hy
  rcases Zta.mp hx with hx|hx
  ·exact M.gb x hx y (by rw[<- VH b j k];exact ZsY _ hy)
  ·exact s3 x hx y hy
theorem MI.all_perm(M:MI R a b o i j):(o++(a.drop i++b.drop j)).Perm (a++b):=by
 refine(M.perm.append_right _).trans ?_
 have e1:(a.take i++b.take j++(a.drop i++b.drop j))=a.take i++(b.take j++a.drop i)++b.drop j:=by simp[Ztf]
 rw[e1]
 have p1:(a.take i++(b.take j++a.drop i)++b.drop j).Perm (a.take i++(a.drop i++b.take j)++b.drop j):=(List.Perm.append_left _ Zuc).append_right _
 refine p1.trans ?_
 have e2:a.take i++(a.drop i++b.take j)++b.drop j=(a.take i++a.drop i)++(b.take j++b.drop j):=by rw[Ztf,Ztf,Ztf]
 rw[e2,Zts,Zts]
theorem MI.endA(M:MI R a b o i j)(sa:Srt R a)(sb:Srt R b)(h:i=a.length\/j=b.length):Srt R (o++(a.drop i++b.drop j))/\(o++(a.drop i++b.drop j)).Perm (a++b):=by
 refine⟨?_,M.all_perm⟩
 refine Ztn.mpr ⟨M.srt, ?_,fun x hx y hy=>?_⟩
 ·rcases h with h|h
  ·rw[h,List.drop_length,Zuh];exact sb.drop j
  ·rw[h,List.drop_length,Zua];exact sa.drop i
 ·rcases Zta.mp hy with hy|hy
  ·exact M.ga x hx y hy
  ·exact M.gb x hx y hy
theorem MI.endB(M:MI R a b o i j)(sa:Srt R a)(sb:Srt R b)(h:∀x∈b.drop j,∀y∈a.drop i,R y x=false):Srt R (o++(b.drop j++a.drop i))/\(o++(b.drop j++a.drop i)).Perm (a++b):=by
 refine⟨?_,(List.Perm.append_left _ Zuc).trans M.all_perm⟩
 refine Ztn.mpr ⟨M.srt,Ztn.mpr ⟨sb.drop j,sa.drop i,h⟩,fun x hx y hy=>?_⟩
 rcases Zta.mp hy with hy|hy
 ·exact M.gb x hx y hy
 ·exact M.ga x hx y hy
end
section
variable {prog:Program}{w:World}{A:Around}{s:Shared}{κ:SortKind}{U:Keyed->Prop}{R:Keyed->Keyed->Bool}{Ok:Keyed->Keyed->Prop}
noncomputable abbrev Jv(st:SortSt)(g:Nat):SortSt:=SortSt.mk' (kindOf st) (arrOf st) (pendingOf st) g (failedOf st)
structure MLo(U:Keyed->Prop)(R:Keyed->Keyed->Bool)(Ok:Keyed->Keyed->Prop)(a b:Array Keyed):Prop where
 ua:∀x∈a.toList,U x
 ub:∀x∈b.toList,U x
 ok:∀x∈b.toList,∀y∈a.toList,Ok x y
 sa:Srt R a.toList
 sb:Srt R b.toList
 na:0<a.size
 nb:0<b.size
 fst:∀x y,b.toList[0]?=some x->a.toList[0]?=some y->R y x=false
 lst:∀x∈b.toList,∀y,a.toList[a.size-1]?=some y->R y x=false
theorem Vb.irr(C:Vb prog w A s κ U R Ok){x:Keyed}(ux:U x):R x x=false:=by
 cases h:R x x with
 |false=>rfl
 |true=>have:=C.asy x x ux ux h;rw[h] at this;cases this
theorem Vb.dropLe(C:Vb prog w A s κ U R Ok){l:List Keyed}{i:Nat}{x z:Keyed}(ul:∀y∈l,U y)(hs:Srt R l)(hz:l[i]?=some z)(ux:U x)(h:R z x=false):∀y∈l.drop i,R y x=false:=fun y hy=>by
 have hi:=(ZsU.mp hz).1
 have e:l.drop i=z::l.drop (i+1):=by
  rw[Ztq hi]
  rw[ZsT hi] at hz
  cases hz;rfl
 have uz:U z:=ul z (ZsW hz)
 have sd:=hs.drop i
 rw[e] at sd hy
 rcases Zti.mp hy with rfl|hy'
 ·exact h
 ·have h2:=(ZtY.mp sd).1 y hy'
  exact C.tr x z y ux uz (ul y (ZtE hy')) h h2
theorem Srt.le(C:Vb prog w A s κ U R Ok){l:List Keyed}(ul:∀y∈l,U y)(hs:Srt R l){i j:Nat}{x y:Keyed}(hij:i<=j)(hx:l[i]?=some x)(hy:l[j]?=some y):R y x=false:=by
 by_cases e:i=j
 ·subst e
  rw[hx] at hy;cases hy
  exact C.irr (ul x (ZsW hx))
 ·have hi:=(ZsU.mp hx)
  have hj:=(ZsU.mp hy)
  have:=ZtR.mp hs i j hi.1 hj.1 (by omega)
  rw[hi.2,hj.2] at this
  exact this
theorem ZgS(a b o:Array Keyed)(i j:Nat):(endA a b o i j).toList=o.toList++(a.toList.drop i++b.toList.drop j):=by
 simp only[endA,Zuu,Zuo,Ztf,ZtJ]
 rw[ZtC (by simp),ZtC (by simp)]
theorem ZgR(a b o:Array Keyed)(i j:Nat):(endB a b o i j).toList=o.toList++(b.toList.drop j++a.toList.drop i):=by
 simp only[endB,Zuu,Zuo,Ztf,ZtJ]
 rw[ZtC (by simp),ZtC (by simp)]
theorem Qd{l:List Keyed}{i:Nat}{x:Keyed}(h:l[i]?=some x):(l.drop i).take 1=[x]:=by
 have hi:=(ZsU.mp h)
 rw[Ztq hi.1,hi.2];rfl
theorem ZfG{l:List Keyed}{i k:Nat}{x:Keyed}(h:x∈(l.drop i).take k):∃t,t<k/\l[i+t]?=some x:=by
 obtain⟨t,ht⟩:=Zt0 h
 rw[Zt3] at ht
 split at ht
 ·rename_i hk
  rw[Zt5] at ht
  exact⟨t,hk,ht⟩
 ·cases ht
theorem Ux{l:List Keyed}{i:Nat}{x:Keyed}(h:x∈l.drop i):∃t,l[i+t]?=some x:=by
 obtain⟨t,ht⟩:=Zt0 h
 rw[Zt5] at ht
 exact⟨t,ht⟩
theorem Zlf(C:Vb prog w A s κ U R Ok){l:Array Keyed}{key:Keyed}{i:Nat}(ul:∀y∈l.toList,U y)(hs:Srt R l.toList)(uk:U key)(okk:∀y∈l.toList,Ok key y)(hi:i<=l.size) :
  UV U R Ok false key l i (l.size-i) (fun t=>!R key (l.getD (i+t) (.none,.none))):=by
 have get:∀t,t<l.size-i->l.toList[i+t]?=some (l.getD (i+t) (.none,.none))/\l[i+t]?=some (l.getD (i+t) (.none,.none)):=fun t ht=>by
  have hlt:i+t<l.size:=by omega
  have e:l.getD (i+t) (.none,.none)=l[i+t]:=by simp[Array.getD,hlt]
  rw[e]
  exact⟨by simp[hlt],by simp[hlt]⟩
 refine⟨uk,fun t ht=>⟨_,(get t ht).2,ul _ (ZsW (get t ht).1),by rw[if_neg (by decide)];exact okk _ (ZsW (get t ht).1),by rw[if_neg (by decide)]⟩,fun t u htu hu h=>?_⟩
 have hu':=get u hu
 have ht':=get t (by omega)
 have h1:R key (l.getD (i+u) (.none,.none))=false:=by simpa using h
 have h2:=Srt.le C ul hs (show i+t<=i+u by omega) ht'.1 hu'.1
 have:=C.tr _ _ key (ul _ (ZsW ht'.1)) (ul _ (ZsW hu'.1)) uk h2 h1
 show (!R key _)=true
 rw[this];rfl
theorem Zlg(C:Vb prog w A s κ U R Ok){l:Array Keyed}{key:Keyed}{i:Nat}(ul:∀y∈l.toList,U y)(hs:Srt R l.toList)(uk:U key)(okk:∀y∈l.toList,Ok y key)(hi:i<=l.size) :
  UV U R Ok true key l i (l.size-i) (fun t=>R (l.getD (i+t) (.none,.none)) key):=by
 have get:∀t,t<l.size-i->l.toList[i+t]?=some (l.getD (i+t) (.none,.none))/\l[i+t]?=some (l.getD (i+t) (.none,.none)):=fun t ht=>by
  have hlt:i+t<l.size:=by omega
  have e:l.getD (i+t) (.none,.none)=l[i+t]:=by simp[Array.getD,hlt]
  rw[e]
  exact⟨by simp[hlt],by simp[hlt]⟩
 refine⟨uk,fun t ht=>⟨_,(get t ht).2,ul _ (ZsW (get t ht).1),by rw[if_pos rfl];exact okk _ (ZsW (get t ht).1),by rw[if_pos rfl]⟩,fun t u htu hu h=>?_⟩
 have hu':=get u hu
 have ht':=get t (by omega)
 cases hc:R (l.getD (i+t) (.none,.none)) key with
 |true=>rfl
 |false =>
  have h2:=Srt.le C ul hs (show i+t<=i+u by omega) ht'.1 hu'.1
  have:=C.tr key _ _ uk (ul _ (ZsW ht'.1)) (ul _ (ZsW hu'.1)) hc h2
  rw[this] at h;cases h
end
section
variable {prog:Program}{w:World}{A:Around}{E:Value->Shared->Prop}{s:Shared}{κ:SortKind}{U:Keyed->Prop}{R:Keyed->Keyed->Bool}{Ok:Keyed->Keyed->Prop}
def Uh(R:Keyed->Keyed->Bool)(a b:Array Keyed)(st:SortSt)(r:Array Keyed)(st':SortSt):Prop:=Srt R r.toList/\r.toList.Perm (a.toList++b.toList)/\∃g,st'=Jv st g
def JLo(R:Keyed->Keyed->Bool)(a b:Array Keyed)(st:SortSt)(o:Array Keyed)(i j:Nat)(st':SortSt):Prop:=MI R a.toList b.toList o.toList i j/\i+1<a.size/\j<b.size/\∃g,st'=Jv st g
theorem UZ{st:SortSt}{g:Nat}{Q:Unit->SortSt->Prop}(h:Q () (Jv st g)):wpS (model prog w) A E s (Zjw g) Q st:=wpS_modify h
theorem Vz{l:Array Keyed}{i:Nat}(h:i<l.size):∃x,l[i]?=some x/\l.toList[i]?=some x/\x∈l.toList:=
 ⟨l[i],by simp[h],by simp[h],by simp⟩
section
variable {st st':SortSt}{a b o:Array Keyed}{i j:Nat}
theorem MLo.finA(M:MLo U R Ok a b)(m:MI R a.toList b.toList o.toList i j)(h:i=a.size\/j=b.size)(hg:∃g,st'=Jv st g):Uh R a b st (endA a b o i j) st':=by
 obtain⟨h1,h2⟩:=m.endA M.sa M.sb (by simpa using h)
 rw[<- ZgS] at h1 h2
 exact⟨h1,h2,hg⟩
theorem MLo.finB(M:MLo U R Ok a b)(m:MI R a.toList b.toList o.toList i j)(h:i+1=a.size)(hg:∃g,st'=Jv st g):Uh R a b st (endB a b o i j) st':=by
 obtain⟨h1,h2⟩:=m.endB M.sa M.sb fun x hx y hy=>M.lst x (ZtE hx) y (by
  obtain⟨t,ht⟩:=Ux hy
  have hl:=(ZsU.mp ht).1
  rw[Ztd] at hl
  rw[show a.size-1=i+t by omega];exact ht)
 rw[<- ZgR] at h1 h2
 exact⟨h1,h2,hg⟩
theorem MLo.a1(C:Vb prog w A s κ U R Ok)(M:MLo U R Ok a b)(m:MI R a.toList b.toList o.toList i j){x:Keyed}(hx:a.toList[i]?=some x)(hle:∀y∈b.toList.drop j,R y x=false):MI R a.toList b.toList (o.push x).toList (i+1) j:=by
 have hi:=(ZsU.mp hx).1
 have:=m.pushA M.sa 1 (by omega) (by rw[Qd hx];intro y hy;rw[Ztj.mp hy];exact hle)
 rw[Qd hx] at this
 rw[ZuL];exact this
theorem MLo.b1(C:Vb prog w A s κ U R Ok)(M:MLo U R Ok a b)(m:MI R a.toList b.toList o.toList i j){x:Keyed}(hx:b.toList[j]?=some x)(hle:∀y∈a.toList.drop i,R y x=false):MI R a.toList b.toList (o.push x).toList i (j+1):=by
 have hj:=(ZsU.mp hx).1
 have:=m.pushB M.sb 1 (by omega) (by rw[Qd hx];intro y hy;rw[Ztj.mp hy];exact hle)
 rw[Qd hx] at this
 rw[ZuL];exact this
theorem ZeS(l:Array Keyed)(i k:Nat):(o++l.extract i (i+k)).toList=o.toList++(l.toList.drop i).take k:=by
 simp only[Zuu,Zuo,ZtJ]
 rw[show i+k-i=k by omega]
end
theorem V9{l:Array Keyed}{i:Nat}{x:Keyed}(h:l.toList[i]?=some x):l.getD i (.none,.none)=x:=by
 have hi:=ZsU.mp h
 have hs:i<l.size:=by simpa using hi.1
 simp only[Array.getD,hs,dif_pos]
 exact hi.2
noncomputable abbrev LoS:=Option (Array Keyed)×Array Keyed×Nat×Nat×Nat×Nat×Nat
noncomputable def loC(a b o:Array Keyed)(i j g x y:Nat):StateT SortSt Sem (ForInStep LoS):=do
 let t <- elem' a i
 if i+1+1==a.size then pure (.done (some (endB a b (o.push t) (i+1) j),o.push t,i+1,j,g,x,y))
 else if x<7&&y<7 then pure (.done (none,o.push t,i+1,j,g,x,y))
 else pure (.yield (none,o.push t,i+1,j,g,x,y))
noncomputable def loB(a b o:Array Keyed)(i j g x y:Nat):StateT SortSt Sem (ForInStep LoS):=do
 let t <- elem' b j
 if j+1==b.size then pure (.done (some (endA a b (o.push t) i (j+1)),o.push t,i,j+1,g,x,y))
 else do
  let e <- elem' a i
  let r <- J6 true e b (j+1) (b.size-(j+1)) 0
  match r with
  |some k =>
   if k>0 then
    if j+1+k==b.size then pure (.done (some (endA a b (o.push t++b.extract (j+1) (j+1+k)) i (j+1+k)),o.push t++b.extract (j+1) (j+1+k),i,j+1+k,g,x,k))
    else loC a b (o.push t++b.extract (j+1) (j+1+k)) i (j+1+k) g x k
   else loC a b (o.push t) i (j+1) g x k
  |_=>pure (.done (some (endA a b (o.push t) i (j+1)),o.push t,i,j+1,g,x,y))
noncomputable def loA(a b o:Array Keyed)(i j g x y:Nat):StateT SortSt Sem (ForInStep LoS):=do
 Zjw g
 let e <- elem' b j
 let r <- J6 false e a i (a.size-i) 0
 match r with
 |some k =>
  if k>0 then
   if i+k+1==a.size then pure (.done (some (endB a b (o++a.extract i (i+k)) (i+k) j),o++a.extract i (i+k),i+k,j,g,k,y))
   else if i+k==a.size then pure (.done (some (endA a b (o++a.extract i (i+k)) (i+k) j),o++a.extract i (i+k),i+k,j,g,k,y))
   else loB a b (o++a.extract i (i+k)) (i+k) j g k y
  else loB a b o i j g k y
 |_=>pure (.done (some (endA a b o i j),o,i,j,g,x,y))
structure LoK(R:Keyed->Keyed->Bool)(a b:Array Keyed)(st:SortSt)(p:Nat)(Y:ForInStep LoS->SortSt->Prop):Prop where
 fin:∀r o i j g x y st',Uh R a b st r st'->Y (.done (some r,o,i,j,g,x,y)) st'
 brk:∀o i j g x y st',JLo R a b st o i j st'->p<=i+j->Y (.done (none,o,i,j,g,x,y)) st'
 go:∀o i j g x y st',JLo R a b st o i j st'->p<=i+j->Y (.yield (none,o,i,j,g,x,y)) st'
section
variable {st st1:SortSt}{a b o:Array Keyed}{i j p g x y:Nat}{Y:ForInStep LoS->SortSt->Prop}{v z:Keyed}
theorem Zea{l:Array Keyed}(h:l.toList[i]?=some z):l[i]?=some z:=by simpa using h
theorem ZeF(K:LoK R a b st p Y)(C:Vb prog w A s κ U R Ok)(M:MLo U R Ok a b)(m:MI R a.toList b.toList o.toList i j)(hi:i+1<a.size)(hj:j<b.size)(hp:p<=i+j)(hz:a.toList[i]?=some z)(fz:∀v∈b.toList.drop j,R v z=false)(hg:∃g,st1=Jv st g) :
  wpS (model prog w) A E s (loC a b o i j g x y) Y st1:=by
 have m4:=MLo.a1 C M m hz fz
 refine wpS_bind (ZE (Zea hz) ?_)
 by_cases e4:i+1+1=a.size
 ·rw[if_pos (by simpa using e4)]
  exact wpS_pure (K.fin _ _ _ _ _ _ _ _ (M.finB m4 e4 hg))
 ·rw[if_neg (by simpa using e4)]
  split
  ·exact wpS_pure (K.brk _ _ _ _ _ _ _ ⟨m4,by omega,hj,hg⟩ (by omega))
  ·exact wpS_pure (K.go _ _ _ _ _ _ _ ⟨m4,by omega,hj,hg⟩ (by omega))
theorem ZeG(K:LoK R a b st p Y)(C:Vb prog w A s κ U R Ok)(hk:kindOf st1=κ)(M:MLo U R Ok a b)(m:MI R a.toList b.toList o.toList i j)(hi:i+1<a.size)(hj:j<b.size)(hp:p<=i+j)(hv:b.toList[j]?=some v)(fb:∀z∈a.toList.drop i,R z v=false)(hg:∃g,st1=Jv st g) :
  wpS (model prog w) A E s (loB a b o i j g x y) Y st1:=by
 have m2:=MLo.b1 C M m hv fb
 refine wpS_bind (ZE (Zea hv) ?_)
 by_cases e2:j+1=b.size
 ·rw[if_pos (by simpa using e2)]
  exact wpS_pure (K.fin _ _ _ _ _ _ _ _ (M.finA m2 (.inr e2) hg))
 rw[if_neg (by simpa using e2)]
 obtain⟨z,hz,hzl,hzm⟩:=Vz (show i<a.size by omega)
 refine wpS_bind (ZE hz (wpS_bind (JF C hk (Zlg C M.ub M.sb (M.ua _ hzm) (fun y hy=>M.ok y hy _ hzm) (show j+1<=b.size by omega)) (by omega) fun k q1 q2 q3=>?_)))
 have fz:∀y∈b.toList.drop (j+1+k),R y z=false:=fun y hy=>by
  obtain⟨t,ht⟩:=Ux hy
  have hl:=(ZsU.mp ht).1
  rw[Ztd] at hl
  have:=q3 (k+t) (by omega) (by omega)
  rw[show j+1+(k+t)=j+1+k+t by omega,V9 ht] at this
  exact this
 show wpS _ _ _ _ (if k>0 then _ else _) _ _
 by_cases hk2:k>0
 ·rw[if_pos hk2]
  have m3:=m2.pushB M.sb k (by rw[Ztd];omega) (fun x hx y hy=>by
   obtain⟨t,htk,ht⟩:=ZfG hx
   have h1:=q2 t htk
   rw[V9 ht] at h1
   have ux:=M.ub x (ZsW ht)
   exact C.dropLe M.ua M.sa hzl ux (C.asy _ _ ux (M.ua _ hzm) h1) y hy)
  rw[<- ZeS] at m3
  by_cases e3:j+1+k=b.size
  ·rw[if_pos (by simpa using e3)]
   exact wpS_pure (K.fin _ _ _ _ _ _ _ _ (M.finA m3 (.inr e3) hg))
  ·rw[if_neg (by simpa using e3)]
   exact ZeF K C M m3 hi (by omega) (by omega) hzl fz hg
 ·rw[if_neg hk2]
  obtain rfl:k=0:=by omega
  exact ZeF K C M m2 hi (by omega) (by omega) hzl fz hg
theorem ZeH(K:LoK R a b st p Y)(C:Vb prog w A s κ U R Ok)(hk:kindOf st=κ)(M:MLo U R Ok a b)(m:MI R a.toList b.toList o.toList i j)(hi:i+1<a.size)(hj:j<b.size)(hp:p<=i+j)(hg:∃g,st1=Jv st g) :
  wpS (model prog w) A E s (loA a b o i j g x y) Y st1:=by
 obtain⟨gs,rfl⟩:=hg
 obtain⟨v,hv,hvl,hvm⟩:=Vz hj
 refine wpS_bind (UZ (wpS_bind (ZE hv (wpS_bind (JF C (show kindOf (Jv _ _)=κ from hk) (Zlf C M.ua M.sa (M.ub _ hvm) (M.ok _ hvm) (show i<=a.size by omega)) (by omega) fun k p1 p2 p3=>?_)))))
 have hg:∃g',Jv (Jv st gs) g=Jv st g':=⟨_,rfl⟩
 have fb:∀z∈a.toList.drop (i+k),R z v=false:=fun z hz=>by
  obtain⟨t,ht⟩:=Ux hz
  have hl:=(ZsU.mp ht).1
  rw[Ztd] at hl
  have:=p3 (k+t) (by omega) (by omega)
  rw[show i+(k+t)=i+k+t by omega,V9 ht] at this
  exact C.asy _ _ (M.ub _ hvm) (M.ua _ (ZsW ht)) (by simpa using this)
 show wpS _ _ _ _ (if k>0 then _ else _) _ _
 by_cases hk1:k>0
 ·rw[if_pos hk1]
  have m2:=m.pushA M.sa k (by rw[Ztd];omega) (fun x hx z hz=>by
   obtain⟨t,htk,ht⟩:=ZfG hx
   have h1:=p2 t htk
   rw[V9 ht] at h1
   exact C.dropLe M.ub M.sb hvl (M.ua x (ZsW ht)) (by simpa using h1) z hz)
  rw[<- ZeS] at m2
  by_cases e0:i+k+1=a.size
  ·rw[if_pos (by simpa using e0)]
   exact wpS_pure (K.fin _ _ _ _ _ _ _ _ (M.finB m2 e0 hg))
  rw[if_neg (by simpa using e0)]
  by_cases e1:i+k=a.size
  ·rw[if_pos (by simpa using e1)]
   exact wpS_pure (K.fin _ _ _ _ _ _ _ _ (M.finA m2 (.inl e1) hg))
  rw[if_neg (by simpa using e1)]
  exact ZeG K C hk M m2 (by omega) hj (by omega) hvl fb hg
 ·rw[if_neg hk1]
  obtain rfl:k=0:=by omega
  exact ZeG K C hk M m hi hj hp hvl fb hg
end
theorem Zcm(C:Vb prog w A s κ U R Ok){st:SortSt}{a b:Array Keyed}{Q:Array Keyed->SortSt->Prop}(hk:kindOf st=κ)(M:MLo U R Ok a b)(h:∀o st',Uh R a b st o st'->Q o st'):wpS (model prog w) A E s (ZaX a b) Q st:=by
 rw[Zc4]
 obtain⟨b0,hb0,hb0l,hb0m⟩:=Vz M.nb
 obtain⟨a0,ha0,ha0l,ha0m⟩:=Vz M.na
 refine wpS_bind (wpS_lift (wpAny_rule ⟨rfl, ?_⟩))
 refine wpS_bind (ZE hb0 ?_)
 dsimp only
 have m0:MI R a.toList b.toList (#[]:Array Keyed).toList 0 0:=⟨by simp,List.Pairwise.nil,fun x hx=>by simp at hx,fun x hx=>by simp at hx,ZtB _,ZtB _⟩
 have m1:MI R a.toList b.toList (#[b0]:Array Keyed).toList 0 1:=MLo.b1 C M m0 hb0l (C.dropLe M.ua M.sa ha0l (M.ub _ hb0m) (M.fst _ _ hb0l ha0l))
 have g0:∃g,st=Jv st g:=⟨gallopOf st,rfl⟩
 by_cases c1:1=b.size
 ·rw[if_pos (by simpa using c1)]
  exact wpS_pure (h _ _ (M.finA m1 (.inr c1) g0))
 rw[if_neg (by simpa using c1)]
 by_cases c2:0+1=a.size
 ·rw[if_pos (by simpa using c2)]
  exact wpS_pure (h _ _ (M.finB m1 c2 g0))
 rw[if_neg (by simpa using c2)]
 refine wpS_bind (wpS_get ?_)
 have na:=M.na
 have nb:=M.nb
 refine wpS_bind (wpS_mono (wpS_forRange
  (I:=fun x (c:Option (Array Keyed)×Array Keyed×Nat×Nat×Nat) (st':SortSt)=>c.1=none/\JLo R a b st c.2.1 c.2.2.1 c.2.2.2.1 st'/\x+1<=c.2.2.1+c.2.2.2.1)
  (Q:=fun(c:Option (Array Keyed)×Array Keyed×Nat×Nat×Nat) (st':SortSt)=>∃r,c.1=some r/\Uh R a b st r st') ?step ?fin ⟨rfl,⟨m1,by dsimp only;omega,by dsimp only;omega,g0⟩,ZsX _⟩) ?post)
 case fin =>
  rintro⟨o1,o,i,j,g⟩ st' ⟨h1,⟨h2,h3,h4,h5⟩,h6⟩
  dsimp only at h3 h4 h6
  omega
 case post =>
  rintro⟨o1,o,i,j,g⟩ st' ⟨r,h1,h2⟩
  dsimp only at h1
  subst h1
  exact wpS_pure (h _ _ h2)
 case step =>
  rintro x ⟨o1,o,i,j,g⟩ st1 _ hx ⟨rfl,J,hm⟩
  dsimp only at J hm ⊢
  refine wpS_bind (wpS_mono (wpS_forRange
   (I:=fun x' (c:Option (Array Keyed)×Array Keyed×Nat×Nat×Nat×Nat) (st':SortSt)=>c.1=none/\JLo R a b st c.2.1 c.2.2.1 c.2.2.2.1 st'/\i+j+x'<=c.2.2.1+c.2.2.2.1)
   (Q:=fun(c:Option (Array Keyed)×Array Keyed×Nat×Nat×Nat×Nat) (st':SortSt)=>(∃r,c.1=some r/\Uh R a b st r st')\/(c.1=none/\JLo R a b st c.2.1 c.2.2.1 c.2.2.2.1 st'/\i+j+1<=c.2.2.1+c.2.2.2.1)) ?step1 ?fin1 ⟨rfl,J,ZsX _⟩) ?post1)
  case fin1 =>
   rintro⟨o1,o',i',j',u,v⟩ st' ⟨h1,h2,h3⟩
   dsimp only at h1 h2 h3
   exact .inr ⟨h1,h2,by dsimp only;omega⟩
  case step1 =>
   rintro x' ⟨o1,o',i',j',u,v⟩ st' _ hx' ⟨rfl,⟨m,hi,hj,gs,rfl⟩,hp⟩
   dsimp only at m hi hj hp ⊢
   obtain⟨y,hy,hyl,hym⟩:=Vz hj
   obtain⟨z,hz,hzl,hzm⟩:=Vz (show i'<a.size by omega)
   refine wpS_bind (ZE hy (wpS_bind (ZE hz (wpS_bind (Qv C hk (M.ub _ hym) (M.ua _ hzm) (M.ok _ hym _ hzm) ?_)))))
   dsimp only
   cases hR:R y z with
   |true =>
    rw[if_pos rfl]
    refine wpS_bind (ZE hy ?_)
    have m2:=MLo.b1 C M m hyl (C.dropLe M.ua M.sa hzl (M.ub _ hym) (C.asy _ _ (M.ub _ hym) (M.ua _ hzm) hR))
    by_cases e1:j'+1=b.size
    ·rw[if_pos (by simpa using e1)]
     exact wpS_pure (.inl ⟨_,rfl,M.finA m2 (.inr e1) ⟨gs,rfl⟩⟩)
    ·rw[if_neg (by simpa using e1)]
     have J2:JLo R a b st (o'.push y) i' (j'+1) (Jv st gs):=⟨m2,hi,by omega,gs,rfl⟩
     split
     ·exact wpS_pure (.inr ⟨rfl,J2,by dsimp only;omega⟩)
     ·exact wpS_pure ⟨rfl,J2,by dsimp only;omega⟩
   |false =>
    rw[if_neg (by decide)]
    refine wpS_bind (ZE hz ?_)
    have m2:=MLo.a1 C M m hzl (C.dropLe M.ub M.sb hyl (M.ua _ hzm) hR)
    by_cases e1:i'+1+1=a.size
    ·rw[if_pos (by simpa using e1)]
     exact wpS_pure (.inl ⟨_,rfl,M.finB m2 e1 ⟨gs,rfl⟩⟩)
    ·rw[if_neg (by simpa using e1)]
     have J2:JLo R a b st (o'.push z) (i'+1) j' (Jv st gs):=⟨m2,by omega,hj,gs,rfl⟩
     split
     ·exact wpS_pure (.inr ⟨rfl,J2,by dsimp only;omega⟩)
     ·exact wpS_pure ⟨rfl,J2,by dsimp only;omega⟩
  case post1 =>
   rintro⟨o1,o',i',j',u,v⟩ st' (⟨r,h1,h2⟩|⟨h1,h2,h3⟩)
   ·dsimp only at h1 h2 ⊢
    subst h1
    exact wpS_pure ⟨r,rfl,h2⟩
   ·dsimp only at h1 h2 h3 ⊢
    subst h1
    refine wpS_bind (wpS_lift (wpAny_rule ⟨rfl, ?_⟩))
    refine wpS_bind (wpS_mono (wpS_forRange
     (I:=fun _ (c:Option (Array Keyed)×Array Keyed×Nat×Nat×Nat×Nat×Nat) (st':SortSt)=>c.1=none/\JLo R a b st c.2.1 c.2.2.1 c.2.2.2.1 st'/\x+1+1<=c.2.2.1+c.2.2.2.1)
     (Q:=fun(c:Option (Array Keyed)×Array Keyed×Nat×Nat×Nat×Nat×Nat) (st':SortSt)=>(∃r,c.1=some r/\Uh R a b st r st')\/(c.1=none/\JLo R a b st c.2.1 c.2.2.1 c.2.2.2.1 st'/\x+1+1<=c.2.2.1+c.2.2.2.1)) ?step2 (fun c st' hc=>.inr hc) ⟨rfl,h2,by dsimp only;omega⟩) ?post2)
    case post2 =>
     rintro⟨o1,o',i',j',g',u,v⟩ st' (⟨r,h1,h2⟩|⟨h1,h2,h3⟩)
     ·dsimp only at h1 h2 ⊢
      subst h1
      exact wpS_pure ⟨r,rfl,h2⟩
     ·dsimp only at h1 h2 h3 ⊢
      subst h1
      obtain⟨m,hi,hj,gs,rfl⟩:=h2
      exact wpS_bind (UZ (wpS_pure ⟨rfl,⟨m,hi,hj,_,rfl⟩,by dsimp only;omega⟩))
    case step2 =>
     clear h2 h3 J hm m0 m1
     rintro x' ⟨o1,o,i,j,g,u,v⟩ st' _ hx' ⟨rfl,⟨m,hi,hj,hg⟩,hp⟩
     dsimp only at m hi hj hp
     show wpS (model prog w) A E s (if g>1 then loA a b o i j (g-1) u v else loA a b o i j g u v) _ _
     split
     ·exact ZeH (p:=x+1+1) ⟨fun r _ _ _ _ _ _ _ h=>Or.inl ⟨r,rfl,h⟩,fun _ _ _ _ _ _ _ h hp=>Or.inr ⟨rfl,h,hp⟩,fun _ _ _ _ _ _ _ h hp=>⟨rfl,h,hp⟩⟩ C hk M m hi hj hp hg
     ·exact ZeH (p:=x+1+1) ⟨fun r _ _ _ _ _ _ _ h=>Or.inl ⟨r,rfl,h⟩,fun _ _ _ _ _ _ _ h hp=>Or.inr ⟨rfl,h,hp⟩,fun _ _ _ _ _ _ _ h hp=>⟨rfl,h,hp⟩⟩ C hk M m hi hj hp hg
end
noncomputable def ZaY:Array Keyed->Array Keyed->StateT SortSt Sem (Array Keyed):=sortPriv% PySem.Builtin.mergeHi
noncomputable def hiA(a b o:Array Keyed)(i j:Nat):Array Keyed:=a.extract 0 i++b.extract 0 j++o.reverse
noncomputable def hiB(a b o:Array Keyed)(i j:Nat):Array Keyed:=b.extract 0 j++a.extract 0 i++o.reverse
theorem Zc5(a b:Array Keyed):ZaY a b=(do
  rule "list.sort.merge-hi"
  let n:=a.size+b.size
  let mut i:=a.size-1
  let mut j:=b.size
  let mut o:Array Keyed:=#[<- elem' a i]
  if i==0 then return hiA a b o i j
  if j==1 then return hiB a b o i j
  let mut g:=gallopOf (<- get)
  for _ in [0:n] do
   let mut x:=0
   let mut y:=0
   for _ in [0:n] do
    let some t <- lt' (<- elem' b (j-1)) (<- elem' a (i-1))|return hiA a b o i j
    if t then
     i:=i-1;o:=o.push (<- elem' a i);x:=x+1;y:=0
     if i==0 then return hiA a b o i j
     if x ≥ g then break
    else
     j:=j-1;o:=o.push (<- elem' b j);y:=y+1;x:=0
     if j==1 then return hiB a b o i j
     if y ≥ g then break
   rule "list.sort.gallop"
   g:=g+1
   for _ in [0:n] do
    if g>1 then g:=g-1
    Zjw g
    let some q <- J6 false (<- elem' b (j-1)) a 0 i (i-1)|return hiA a b o i j
    let k:=i-q
    x:=k
    if k>0 then
     o:=o++(a.extract q i).reverse;i:=q
     if i==0 then return hiA a b o i j
    j:=j-1;o:=o.push (<- elem' b j)
    if j==1 then return hiB a b o i j
    let some q <- J6 true (<- elem' a (i-1)) b 0 j (j-1)|return hiA a b o i j
    let k:=j-q
    y:=k
    if k>0 then
     o:=o++(b.extract q j).reverse;j:=q
     if j==1 then return hiB a b o i j
     if j==0 then return hiA a b o i j
    i:=i-1;o:=o.push (<- elem' a i)
    if i==0 then return hiA a b o i j
    if x<7&&y<7 then break
   g:=g+1
   Zjw g
  unsupported "internal:list.sort.merge-bound"):=rfl
structure MH(R:Keyed->Keyed->Bool)(a b q:List Keyed)(i j:Nat):Prop where
 perm:q.Perm (a.drop i++b.drop j)
 srt:Srt R q
 ga:∀x∈a.take i,∀y∈q,R y x=false
 gb:∀x∈b.take j,∀y∈q,R y x=false
 hi:i<=a.length
 hj:j<=b.length
section
variable {R:Keyed->Keyed->Bool}{a b q:List Keyed}{i j:Nat}
theorem Vf(l:List Keyed){c i:Nat}(h:c<=i):l.take c++(l.take i).drop c=l.take i:=by
 rw[show l.take c=(l.take i).take c by rw[List.take_take,Nat.min_eq_left h]]
 exact Zts c (l.take i)
theorem Za6(l:List Keyed){c i:Nat}(h:c<=i):(l.take i).drop c++l.drop i=l.drop c:=by
 have e:l.take c++((l.take i).drop c++l.drop i)=l.take c++l.drop c:=by
  rw[<- Ztf,Vf l h,Zts,Zts]
 exact List.append_cancel_left e
theorem Srt.take{l:List Keyed}(h:Srt R l)(i:Nat):Srt R (l.take i):=h.sublist (Zvh i l)
theorem MH.pushA(M:MH R a b q i j)(sa:Srt R a){c:Nat}(hc:c<=i)(hle:∀x∈b.take j,∀y∈(a.take i).drop c,R y x=false):MH R a b ((a.take i).drop c++q) c j:=by
 have sd:=sa.take i
 rw[<- Vf a hc] at sd
 obtain⟨s1,s2,s3⟩:=Ztn.mp sd
 refine⟨?_, ?_, ?_, ?_,Ztr hc M.hi,M.hj⟩
 ·refine(List.Perm.append_left _ M.perm).trans ?_
  rw[<- Ztf,Za6 a hc]
 ·exact Ztn.mpr ⟨s2,M.srt,fun x hx y hy=>M.ga x (ZtE hx) y hy⟩
 ·intro x hx y hy
  rcases Zta.mp hy with hy|hy
  ·exact s3 x hx y hy
  ·exact M.ga x (by rw[<- Vf a hc];exact Ztb _ hx) y hy
 ·intro x hx y hy
  rcases Zta.mp hy with hy|hy
  ·exact hle x hx y hy
  ·exact M.gb x hx y hy
theorem MH.pushB(M:MH R a b q i j)(sb:Srt R b){c:Nat}(hc:c<=j)(hle:∀x∈a.take i,∀y∈(b.take j).drop c,R y x=false):MH R a b ((b.take j).drop c++q) i c:=by
 have sd:=sb.take j
 rw[<- Vf b hc] at sd
 obtain⟨s1,s2,s3⟩:=Ztn.mp sd
 refine⟨?_, ?_, ?_, ?_,M.hi,Ztr hc M.hj⟩
 ·refine(List.Perm.append_left _ M.perm).trans ?_
  rw[<- Za6 b hc]
  have:∀X Y Z:List Keyed,(X++(Y++Z)).Perm (Y++(X++Z)):=fun X Y Z=>by
   rw[<- Ztf,<- Ztf]
   exact List.Perm.append_right _ Zuc
  exact this _ _ _
 ·exact Ztn.mpr ⟨s2,M.srt,fun x hx y hy=>M.gb x (ZtE hx) y hy⟩
 ·intro x hx y hy
  rcases Zta.mp hy with hy|hy
  ·exact hle x hx y hy
  ·exact M.ga x hx y hy
 ·intro x hx y hy
  rcases Zta.mp hy with hy|hy
  ·exact s3 x hx y hy
  ·exact M.gb x (by rw[<- Vf b hc];exact Ztb _ hx) y hy
theorem MH.all_perm(M:MH R a b q i j):(a.take i++(b.take j++q)).Perm (a++b):=by
 refine(List.Perm.append_left _ (List.Perm.append_left _ M.perm)).trans ?_
 have p1:∀X Y Z W:List Keyed,(X++(Y++(Z++W))).Perm ((X++Z)++(Y++W)):=fun X Y Z W=>by
  rw[Ztf]
  refine List.Perm.append_left _ ?_
  rw[<- Ztf,<- Ztf]
  exact List.Perm.append_right _ Zuc
 refine(p1 _ _ _ _).trans ?_
 rw[Zts,Zts]
theorem MH.endA(M:MH R a b q i j)(sa:Srt R a)(sb:Srt R b)(h:i=0\/j=0):Srt R (a.take i++(b.take j++q))/\(a.take i++(b.take j++q)).Perm (a++b):=by
 refine⟨?_,M.all_perm⟩
 have sq:Srt R (b.take j++q):=Ztn.mpr ⟨sb.take j,M.srt,M.gb⟩
 refine Ztn.mpr ⟨sa.take i,sq,fun x hx y hy=>?_⟩
 rcases h with h|h
 ·rw[h,List.take_zero] at hx;simp at hx
 ·rw[h,List.take_zero,Zuh] at hy
  exact M.ga x hx y hy
theorem MH.endB(M:MH R a b q i j)(sa:Srt R a)(sb:Srt R b)(h:∀x∈b.take j,∀y∈a.take i,R y x=false):Srt R (b.take j++(a.take i++q))/\(b.take j++(a.take i++q)).Perm (a++b):=by
 refine⟨?_, ?_⟩
 ·refine Ztn.mpr ⟨sb.take j,Ztn.mpr ⟨sa.take i,M.srt,M.ga⟩,fun x hx y hy=>?_⟩
  rcases Zta.mp hy with hy|hy
  ·exact h x hx y hy
  ·exact M.gb x hx y hy
 ·refine List.Perm.trans ?_ M.all_perm
  rw[<- Ztf,<- Ztf]
  exact List.Perm.append_right _ Zuc
end
section
variable {prog:Program}{w:World}{A:Around}{E:Value->Shared->Prop}{s:Shared}{κ:SortKind}{U:Keyed->Prop}{R:Keyed->Keyed->Bool}{Ok:Keyed->Keyed->Prop}
theorem UV.le{left:Bool}{key:Keyed}{arr:Array Keyed}{base n m:Nat}{P:Nat->Bool}(K:UV U R Ok left key arr base m P)(h:n<=m):UV U R Ok left key arr base n P:=
 ⟨K.uk,fun i hi=>K.it i (by omega),fun i j h1 h2 h3=>K.mono i j h1 (by omega) h3⟩
theorem Vb.takeLe(C:Vb prog w A s κ U R Ok){l:List Keyed}{n:Nat}{v z:Keyed}(ul:∀y∈l,U y)(hs:Srt R l)(hn:0<n)(hz:l[n-1]?=some z)(uv:U v)(h:R v z=false):∀x∈l.take n,R v x=false:=fun x hx=>by
 obtain⟨t,ht⟩:=Zt0 hx
 rw[Zt3] at ht
 split at ht
 ·rename_i htn
  have h1:=Srt.le C ul hs (show t<=n-1 by omega) ht hz
  exact C.tr x z v (ul x (ZsW ht)) (ul z (ZsW hz)) uv h1 h
 ·cases ht
theorem ZbJ{l:List Keyed}{i:Nat}{x:Keyed}(h:x∈l.take i):∃t,t<i/\l[t]?=some x:=by
 obtain⟨t,ht⟩:=Zt0 h
 rw[Zt3] at ht
 split at ht
 ·rename_i hi;exact⟨t,hi,ht⟩
 ·cases ht
theorem ZdG{l:List Keyed}{i c:Nat}{x:Keyed}(h:x∈(l.take i).drop c):∃t,(c<=t/\t<i)/\l[t]?=some x:=by
 obtain⟨t,ht⟩:=Zt0 h
 rw[Zt5,Zt3] at ht
 split at ht
 ·rename_i hi;exact⟨c+t,by omega,ht⟩
 ·cases ht
theorem Qe{l:List Keyed}{i:Nat}{x:Keyed}(hi:0<i)(h:l[i-1]?=some x):(l.take i).drop (i-1)=[x]:=by
 have hl:=ZsU.mp h
 have e:(l.take i)[i-1]?=some x:=by rw[Zt3,if_pos (by omega),h]
 have h2:=ZsU.mp e
 rw[Ztq h2.1,h2.2,ZtN (by rw[Ztu];omega)]
theorem Zjm(a b o:Array Keyed)(i j:Nat):(hiA a b o i j).toList=a.toList.take i++(b.toList.take j++o.toList.reverse):=by
 simp[hiA,Ztf,ZtJ]
theorem Zjl(a b o:Array Keyed)(i j:Nat):(hiB a b o i j).toList=b.toList.take j++(a.toList.take i++o.toList.reverse):=by
 simp[hiB,Ztf,ZtJ]
theorem ZeR(l o:Array Keyed)(q i:Nat):(o++(l.extract q i).reverse).toList.reverse=(l.toList.take i).drop q++o.toList.reverse:=by
 simp[ZtJ,List.drop_take]
theorem Zdc(o:Array Keyed)(x:Keyed):(o.push x).toList.reverse=[x]++o.toList.reverse:=by simp
def JHi(R:Keyed->Keyed->Bool)(a b:Array Keyed)(st:SortSt)(o:Array Keyed)(i j:Nat)(st':SortSt):Prop:=MH R a.toList b.toList o.toList.reverse i j/\0<i/\1<j/\∃g,st'=Jv st g
section
variable {st st':SortSt}{a b o:Array Keyed}{i j:Nat}
theorem MLo.hfA(M:MLo U R Ok a b)(m:MH R a.toList b.toList o.toList.reverse i j)(h:i=0\/j=0)(hg:∃g,st'=Jv st g):Uh R a b st (hiA a b o i j) st':=by
 obtain⟨h1,h2⟩:=m.endA M.sa M.sb h
 rw[<- Zjm] at h1 h2
 exact⟨h1,h2,hg⟩
theorem MLo.hfB(C:Vb prog w A s κ U R Ok)(M:MLo U R Ok a b)(m:MH R a.toList b.toList o.toList.reverse i j)(h:j=1)(hg:∃g,st'=Jv st g):Uh R a b st (hiB a b o i j) st':=by
 obtain⟨a0,ha0,ha0l,ha0m⟩:=Vz M.na
 obtain⟨h1,h2⟩:=m.endB M.sa M.sb fun x hx y hy=>by
  obtain⟨t,ht,hx⟩:=ZbJ hx
  have ht0:t=0:=by omega
  rw[ht0] at hx
  have:=C.dropLe M.ua M.sa ha0l (M.ub _ (ZsW hx)) (M.fst _ _ hx ha0l)
  rw[Zu6] at this
  exact this y (ZtD hy)
 rw[<- Zjl] at h1 h2
 exact⟨h1,h2,hg⟩
theorem MLo.ha1(M:MLo U R Ok a b)(m:MH R a.toList b.toList o.toList.reverse i j){x:Keyed}(hi:0<i)(hx:a.toList[i-1]?=some x)(hle:∀y∈b.toList.take j,R x y=false):MH R a.toList b.toList (o.push x).toList.reverse (i-1) j:=by
 have:=m.pushA M.sa (c:=i-1) (by omega) (by rw[Qe hi hx];intro y hy z hz;rw[Ztj.mp hz];exact hle y hy)
 rw[Qe hi hx] at this
 rw[Zdc];exact this
theorem MLo.hb1(M:MLo U R Ok a b)(m:MH R a.toList b.toList o.toList.reverse i j){x:Keyed}(hj:0<j)(hx:b.toList[j-1]?=some x)(hle:∀y∈a.toList.take i,R x y=false):MH R a.toList b.toList (o.push x).toList.reverse i (j-1):=by
 have:=m.pushB M.sb (c:=j-1) (by omega) (by rw[Qe hj hx];intro y hy z hz;rw[Ztj.mp hz];exact hle y hy)
 rw[Qe hj hx] at this
 rw[Zdc];exact this
end
noncomputable abbrev HiS:=Option (Array Keyed)×Nat×Nat×Array Keyed×Nat×Nat×Nat
noncomputable def Znd(a b o:Array Keyed)(i j g x y:Nat):StateT SortSt Sem (ForInStep HiS):=do
 let t <- elem' a (i-1)
 if i-1==0 then pure (.done (some (hiA a b (o.push t) (i-1) j),i-1,j,o.push t,g,x,y))
 else if x<7&&y<7 then pure (.done (none,i-1,j,o.push t,g,x,y))
 else pure (.yield (none,i-1,j,o.push t,g,x,y))
noncomputable def Zne(a b o:Array Keyed)(i j g x y:Nat):StateT SortSt Sem (ForInStep HiS):=do
 let t <- elem' b (j-1)
 if j-1==1 then pure (.done (some (hiB a b (o.push t) i (j-1)),i,j-1,o.push t,g,x,y))
 else do
  let e <- elem' a (i-1)
  let r <- J6 true e b 0 (j-1) (j-1-1)
  match r with
  |some q =>
   if j-1-q>0 then
    if q==1 then pure (.done (some (hiB a b (o.push t++(b.extract q (j-1)).reverse) i q),i,q,o.push t++(b.extract q (j-1)).reverse,g,x,j-1-q))
    else if q==0 then pure (.done (some (hiA a b (o.push t++(b.extract q (j-1)).reverse) i q),i,q,o.push t++(b.extract q (j-1)).reverse,g,x,j-1-q))
    else Znd a b (o.push t++(b.extract q (j-1)).reverse) i q g x (j-1-q)
   else Znd a b (o.push t) i (j-1) g x (j-1-q)
  |_=>pure (.done (some (hiA a b (o.push t) i (j-1)),i,j-1,o.push t,g,x,y))
noncomputable def Znf(a b o:Array Keyed)(i j g x y:Nat):StateT SortSt Sem (ForInStep HiS):=do
 Zjw g
 let e <- elem' b (j-1)
 let r <- J6 false e a 0 i (i-1)
 match r with
 |some q =>
  if i-q>0 then
   if q==0 then pure (.done (some (hiA a b (o++(a.extract q i).reverse) q j),q,j,o++(a.extract q i).reverse,g,i-q,y))
   else Zne a b (o++(a.extract q i).reverse) q j g (i-q) y
  else Zne a b o i j g (i-q) y
 |_=>pure (.done (some (hiA a b o i j),i,j,o,g,x,y))
structure HiK(R:Keyed->Keyed->Bool)(a b:Array Keyed)(st:SortSt)(p n:Nat)(Y:ForInStep HiS->SortSt->Prop):Prop where
 fin:∀r o i j g x y st',Uh R a b st r st'->Y (.done (some r,i,j,o,g,x,y)) st'
 brk:∀o i j g x y st',JHi R a b st o i j st'->i+j+p+1<=n->Y (.done (none,i,j,o,g,x,y)) st'
 go:∀o i j g x y st',JHi R a b st o i j st'->i+j+p+1<=n->Y (.yield (none,i,j,o,g,x,y)) st'
section
variable {st st1:SortSt}{a b o:Array Keyed}{i j p n g x y:Nat}{Y:ForInStep HiS->SortSt->Prop}{v z:Keyed}
theorem ZeI(K:HiK R a b st p n Y)(M:MLo U R Ok a b)(m:MH R a.toList b.toList o.toList.reverse i j)(hi:0<i)(hj:1<j)(hp:i+j+p+1<=n)(hz:a.toList[i-1]?=some z)(fz:∀v∈b.toList.take j,R z v=false)(hg:∃g,st1=Jv st g) :
  wpS (model prog w) A E s (Znd a b o i j g x y) Y st1:=by
 have m4:=M.ha1 m hi hz fz
 refine wpS_bind (ZE (Zea hz) ?_)
 by_cases e4:i-1=0
 ·rw[if_pos (by simpa using e4)]
  exact wpS_pure (K.fin _ _ _ _ _ _ _ _ (M.hfA m4 (.inl e4) hg))
 ·rw[if_neg (by simpa using e4)]
  split
  ·exact wpS_pure (K.brk _ _ _ _ _ _ _ ⟨m4,by omega,hj,hg⟩ (by omega))
  ·exact wpS_pure (K.go _ _ _ _ _ _ _ ⟨m4,by omega,hj,hg⟩ (by omega))
theorem ZeJ(K:HiK R a b st p n Y)(C:Vb prog w A s κ U R Ok)(hk:kindOf st1=κ)(M:MLo U R Ok a b)(m:MH R a.toList b.toList o.toList.reverse i j)(hi:0<i)(hj:1<j)(hp:i+j+p+1<=n)(hv:b.toList[j-1]?=some v)(fb:∀z∈a.toList.take i,R v z=false)(hg:∃g,st1=Jv st g) :
  wpS (model prog w) A E s (Zne a b o i j g x y) Y st1:=by
 have lia:=m.hi
 have ljb:=m.hj
 rw[Ztd] at lia ljb
 have m2:=M.hb1 m (by omega) hv fb
 refine wpS_bind (ZE (Zea hv) ?_)
 by_cases e2:j-1=1
 ·rw[if_pos (by simpa using e2)]
  exact wpS_pure (K.fin _ _ _ _ _ _ _ _ (MLo.hfB C M m2 e2 hg))
 rw[if_neg (by simpa using e2)]
 obtain⟨z,hz,hzl,hzm⟩:=Vz (show i-1<a.size by omega)
 refine wpS_bind (ZE hz (wpS_bind (JF C hk ((Zlg C M.ub M.sb (M.ua _ hzm) (fun y hy=>M.ok y hy _ hzm) (ZtB b.size)).le (show j-1<=b.size-0 by omega)) (by omega) fun q r1 r2 r3=>?_)))
 have fz:∀y∈b.toList.take q,R z y=false:=fun y hy=>by
  obtain⟨t,htk,ht⟩:=ZbJ hy
  have h1:=r2 t htk
  rw[Zul,V9 ht] at h1
  exact C.asy _ _ (M.ub _ (ZsW ht)) (M.ua _ hzm) h1
 show wpS _ _ _ _ (if j-1-q>0 then _ else _) _ _
 by_cases hk2:j-1-q>0
 ·rw[if_pos hk2]
  have m3:=m2.pushB M.sb (c:=q) (by omega) (fun x hx y hy=>by
   obtain⟨t,htk,ht⟩:=ZdG hy
   have h1:=r3 t htk.1 htk.2
   rw[Zul,V9 ht] at h1
   exact C.takeLe M.ua M.sa hi hzl (M.ub _ (ZsW ht)) h1 x hx)
  rw[<- ZeR] at m3
  by_cases e3:q=1
  ·rw[if_pos (by simpa using e3)]
   exact wpS_pure (K.fin _ _ _ _ _ _ _ _ (MLo.hfB C M m3 e3 hg))
  rw[if_neg (by simpa using e3)]
  by_cases e5:q=0
  ·rw[if_pos (by simpa using e5)]
   exact wpS_pure (K.fin _ _ _ _ _ _ _ _ (M.hfA m3 (.inr e5) hg))
  rw[if_neg (by simpa using e5)]
  exact ZeI K M m3 hi (by omega) (by omega) hzl fz hg
 ·rw[if_neg hk2]
  obtain rfl:q=j-1:=by omega
  exact ZeI K M m2 hi (by omega) (by omega) hzl fz hg
theorem ZeK(K:HiK R a b st p n Y)(C:Vb prog w A s κ U R Ok)(hk:kindOf st=κ)(M:MLo U R Ok a b)(m:MH R a.toList b.toList o.toList.reverse i j)(hi:0<i)(hj:1<j)(hp:i+j+p+1<=n)(hg:∃g,st1=Jv st g) :
  wpS (model prog w) A E s (Znf a b o i j g x y) Y st1:=by
 have lia:=m.hi
 have ljb:=m.hj
 rw[Ztd] at lia ljb
 obtain⟨gs,rfl⟩:=hg
 obtain⟨v,hv,hvl,hvm⟩:=Vz (show j-1<b.size by omega)
 refine wpS_bind (UZ (wpS_bind (ZE hv (wpS_bind (JF C (show kindOf (Jv _ _)=κ from hk) ((Zlf C M.ua M.sa (M.ub _ hvm) (M.ok _ hvm) (ZtB a.size)).le (show i<=a.size-0 by omega)) (by omega) fun q p1 p2 p3=>?_)))))
 have hg:∃g',Jv (Jv st gs) g=Jv st g':=⟨_,rfl⟩
 have fb:∀z∈a.toList.take q,R v z=false:=fun z hz=>by
  obtain⟨t,htk,ht⟩:=ZbJ hz
  have h1:=p2 t htk
  rw[Zul,V9 ht] at h1
  simpa using h1
 show wpS _ _ _ _ (if i-q>0 then _ else _) _ _
 by_cases hk1:i-q>0
 ·rw[if_pos hk1]
  have m2:=m.pushA M.sa (c:=q) (by omega) (fun x hx z hz=>by
   obtain⟨t,htk,ht⟩:=ZdG hz
   have h1:=p3 t htk.1 htk.2
   rw[Zul,V9 ht] at h1
   have uz:=M.ua z (ZsW ht)
   exact C.takeLe M.ub M.sb (by omega) hvl uz (C.asy _ _ (M.ub _ hvm) uz (by simpa using h1)) x hx)
  rw[<- ZeR] at m2
  by_cases e0:q=0
  ·rw[if_pos (by simpa using e0)]
   exact wpS_pure (K.fin _ _ _ _ _ _ _ _ (M.hfA m2 (.inl e0) hg))
  rw[if_neg (by simpa using e0)]
  exact ZeJ K C hk M m2 (by omega) hj (by omega) hvl fb hg
 ·rw[if_neg hk1]
  obtain rfl:q=i:=by omega
  exact ZeJ K C hk M m hi hj hp hvl fb hg
end
theorem Zcn(C:Vb prog w A s κ U R Ok){st:SortSt}{a b:Array Keyed}{Q:Array Keyed->SortSt->Prop}(hk:kindOf st=κ)(M:MLo U R Ok a b)(h:∀o st',Uh R a b st o st'->Q o st'):wpS (model prog w) A E s (ZaY a b) Q st:=by
 rw[Zc5]
 have na:=M.na
 have nb:=M.nb
 obtain⟨al,hal,hall,halm⟩:=Vz (show a.size-1<a.size by omega)
 refine wpS_bind (wpS_lift (wpAny_rule ⟨rfl, ?_⟩))
 refine wpS_bind (ZE hal ?_)
 dsimp only
 have m0:MH R a.toList b.toList (#[]:Array Keyed).toList.reverse a.size b.size:=⟨by simp,List.Pairwise.nil,fun x _ y hy=>by simp at hy,fun x _ y hy=>by simp at hy,by simp,by simp⟩
 have m1:MH R a.toList b.toList (#[al]:Array Keyed).toList.reverse (a.size-1) b.size:=M.ha1 m0 na hall fun y hy=>M.lst y (ZtD hy) al hall
 have g0:∃g,st=Jv st g:=⟨gallopOf st,rfl⟩
 by_cases c1:a.size-1=0
 ·rw[if_pos (by simpa using c1)]
  exact wpS_pure (h _ _ (M.hfA m1 (.inl c1) g0))
 rw[if_neg (by simpa using c1)]
 by_cases c2:b.size=1
 ·rw[if_pos (by simpa using c2)]
  exact wpS_pure (h _ _ (MLo.hfB C M m1 c2 g0))
 rw[if_neg (by simpa using c2)]
 refine wpS_bind (wpS_get ?_)
 refine wpS_bind (wpS_mono (wpS_forRange
  (I:=fun x (c:Option (Array Keyed)×Nat×Nat×Array Keyed×Nat) (st':SortSt)=>c.1=none/\JHi R a b st c.2.2.2.1 c.2.1 c.2.2.1 st'/\c.2.1+c.2.2.1+x+1<=a.size+b.size)
  (Q:=fun(c:Option (Array Keyed)×Nat×Nat×Array Keyed×Nat) (st':SortSt)=>∃r,c.1=some r/\Uh R a b st r st') ?step ?fin ⟨rfl,⟨m1,by dsimp only;omega,by dsimp only;omega,g0⟩,by dsimp only;omega⟩) ?post)
 case fin =>
  rintro⟨o1,i,j,o,g⟩ st' ⟨h1,⟨h2,h3,h4,h5⟩,h6⟩
  dsimp only at h3 h4 h6
  omega
 case post =>
  rintro⟨o1,i,j,o,g⟩ st' ⟨r,h1,h2⟩
  dsimp only at h1
  subst h1
  exact wpS_pure (h _ _ h2)
 case step =>
  rintro x ⟨o1,i,j,o,g⟩ st1 _ hx ⟨rfl,J,hm⟩
  dsimp only at J hm ⊢
  refine wpS_bind (wpS_mono (wpS_forRange
   (I:=fun x' (c:Option (Array Keyed)×Nat×Nat×Array Keyed×Nat×Nat) (st':SortSt)=>c.1=none/\JHi R a b st c.2.2.2.1 c.2.1 c.2.2.1 st'/\c.2.1+c.2.2.1+x'<=i+j)
   (Q:=fun(c:Option (Array Keyed)×Nat×Nat×Array Keyed×Nat×Nat) (st':SortSt)=>(∃r,c.1=some r/\Uh R a b st r st')\/(c.1=none/\JHi R a b st c.2.2.2.1 c.2.1 c.2.2.1 st'/\c.2.1+c.2.2.1+1<=i+j)) ?step1 ?fin1 ⟨rfl,J,ZsX _⟩) ?post1)
  case fin1 =>
   rintro⟨o1,i',j',o',u,v⟩ st' ⟨h1,h2,h3⟩
   dsimp only at h1 h2 h3
   exact .inr ⟨h1,h2,by dsimp only;omega⟩
  case step1 =>
   rintro x' ⟨o1,i',j',o',u,v⟩ st' _ hx' ⟨rfl,⟨m,hi,hj,gs,rfl⟩,hp⟩
   dsimp only at m hi hj hp ⊢
   have lia:=m.hi
   have ljb:=m.hj
   rw[Ztd] at lia ljb
   obtain⟨y,hy,hyl,hym⟩:=Vz (show j'-1<b.size by omega)
   obtain⟨z,hz,hzl,hzm⟩:=Vz (show i'-1<a.size by omega)
   refine wpS_bind (ZE hy (wpS_bind (ZE hz (wpS_bind (Qv C hk (M.ub _ hym) (M.ua _ hzm) (M.ok _ hym _ hzm) ?_)))))
   dsimp only
   cases hR:R y z with
   |true =>
    rw[if_pos rfl]
    refine wpS_bind (ZE hz ?_)
    have m2:=M.ha1 m hi hzl (C.takeLe M.ub M.sb (by omega) hyl (M.ua _ hzm) (C.asy _ _ (M.ub _ hym) (M.ua _ hzm) hR))
    by_cases e1:i'-1=0
    ·rw[if_pos (by simpa using e1)]
     exact wpS_pure (.inl ⟨_,rfl,M.hfA m2 (.inl e1) ⟨gs,rfl⟩⟩)
    ·rw[if_neg (by simpa using e1)]
     have J2:JHi R a b st (o'.push z) (i'-1) j' (Jv st gs):=⟨m2,by omega,hj,gs,rfl⟩
     split
     ·exact wpS_pure (.inr ⟨rfl,J2,by dsimp only;omega⟩)
     ·exact wpS_pure ⟨rfl,J2,by dsimp only;omega⟩
   |false =>
    rw[if_neg (by decide)]
    refine wpS_bind (ZE hy ?_)
    have m2:=M.hb1 m (by omega) hyl (C.takeLe M.ua M.sa hi hzl (M.ub _ hym) hR)
    by_cases e1:j'-1=1
    ·rw[if_pos (by simpa using e1)]
     exact wpS_pure (.inl ⟨_,rfl,MLo.hfB C M m2 e1 ⟨gs,rfl⟩⟩)
    ·rw[if_neg (by simpa using e1)]
     have J2:JHi R a b st (o'.push y) i' (j'-1) (Jv st gs):=⟨m2,hi,by omega,gs,rfl⟩
     split
     ·exact wpS_pure (.inr ⟨rfl,J2,by dsimp only;omega⟩)
     ·exact wpS_pure ⟨rfl,J2,by dsimp only;omega⟩
  case post1 =>
   rintro⟨o1,i',j',o',u,v⟩ st' (⟨r,h1,h2⟩|⟨h1,h2,h3⟩)
   ·dsimp only at h1 h2 ⊢
    subst h1
    exact wpS_pure ⟨r,rfl,h2⟩
   ·dsimp only at h1 h2 h3 ⊢
    subst h1
    refine wpS_bind (wpS_lift (wpAny_rule ⟨rfl, ?_⟩))
    refine wpS_bind (wpS_mono (wpS_forRange
     (I:=fun _ (c:Option (Array Keyed)×Nat×Nat×Array Keyed×Nat×Nat×Nat) (st':SortSt)=>c.1=none/\JHi R a b st c.2.2.2.1 c.2.1 c.2.2.1 st'/\c.2.1+c.2.2.1+(x+1)+1<=a.size+b.size)
     (Q:=fun(c:Option (Array Keyed)×Nat×Nat×Array Keyed×Nat×Nat×Nat) (st':SortSt)=>(∃r,c.1=some r/\Uh R a b st r st')\/(c.1=none/\JHi R a b st c.2.2.2.1 c.2.1 c.2.2.1 st'/\c.2.1+c.2.2.1+(x+1)+1<=a.size+b.size)) ?step2 (fun c st' hc=>.inr hc) ⟨rfl,h2,by dsimp only;omega⟩) ?post2)
    case post2 =>
     rintro⟨o1,i',j',o',g',u,v⟩ st' (⟨r,h1,h2⟩|⟨h1,h2,h3⟩)
     ·dsimp only at h1 h2 ⊢
      subst h1
      exact wpS_pure ⟨r,rfl,h2⟩
     ·dsimp only at h1 h2 h3 ⊢
      subst h1
      obtain⟨m,hi,hj,gs,rfl⟩:=h2
      exact wpS_bind (UZ (wpS_pure ⟨rfl,⟨m,hi,hj,_,rfl⟩,by dsimp only;omega⟩))
    case step2 =>
     clear h2 h3 J hm m0 m1
     rintro x' ⟨o1,i,j,o,g,u,v⟩ st' _ hx' ⟨rfl,⟨m,hi,hj,hg⟩,hp⟩
     dsimp only at m hi hj hp
     show wpS (model prog w) A E s (if g>1 then Znf a b o i j (g-1) u v else Znf a b o i j g u v) _ _
     split
     ·exact ZeK (p:=x+1) (n:=a.size+b.size) ⟨fun r _ _ _ _ _ _ _ h=>Or.inl ⟨r,rfl,h⟩,fun _ _ _ _ _ _ _ h hp=>Or.inr ⟨rfl,h,hp⟩,fun _ _ _ _ _ _ _ h hp=>⟨rfl,h,hp⟩⟩ C hk M m hi hj hp hg
     ·exact ZeK (p:=x+1) (n:=a.size+b.size) ⟨fun r _ _ _ _ _ _ _ h=>Or.inl ⟨r,rfl,h⟩,fun _ _ _ _ _ _ _ h hp=>Or.inr ⟨rfl,h,hp⟩,fun _ _ _ _ _ _ _ h hp=>⟨rfl,h,hp⟩⟩ C hk M m hi hj hp hg
end
theorem Zc6(i:Nat):mergeAt' i=(do
  let s <- get
  let (some (c,n,p),some (d,m,_)):=((pendingOf s)[i]?,(pendingOf s)[i+1]?)|unsupported "internal:list.sort.pending"
  set (setPending s (((pendingOf s).setIfInBounds i (c,n+m,p)).eraseIdxIfInBounds (i+1)))
  let some k <- J6 false (<- elem' (arrOf s) d) (arrOf s) c n 0|return false
  let (c,n):=(c+k,n-k)
  if n==0 then return true
  let some m <- J6 true (<- elem' (arrOf s) (c+n-1)) (arrOf s) d m (m-1)|return false
  if m==0 then return true
  let x:=(arrOf s).extract c d
  let y:=(arrOf s).extract d (d+m)
  let r <- if n<=m then ZaX x y else ZaY x y
  modify fun s=>setArr s (r.toList.zipIdx.foldl (fun a (p,j)=>a.setIfInBounds (c+j) p) (arrOf s))
  return (failedOf (<- get)).isNone):=rfl
section
variable {prog:Program}{w:World}{A:Around}{E:Value->Shared->Prop}{s:Shared}{κ:SortKind}{U:Keyed->Prop}{R:Keyed->Keyed->Bool}{Ok:Keyed->Keyed->Prop}
theorem ZcZ:∀(r:List Keyed) (c:Nat) (X:Array Keyed) (n:Nat),c+n+r.length<=X.size->((r.zipIdx n).foldl (fun a (p:Keyed×Nat)=>a.setIfInBounds (c+p.2) p.1) X).toList=X.toList.take (c+n)++r++X.toList.drop (c+n+r.length)
 |[],c,X,n,h=>by simp
 |x::r,c,X,n,h=>by
  simp only[Ztw] at h
  rw[List.zipIdx_cons,Zvq]
  have ih:=ZcZ r c (X.setIfInBounds (c+n) x) (n+1) (by rw[Array.size_setIfInBounds];omega)
  rw[ih,Zvd]
  have hl:c+n<X.toList.length:=by rw[Ztd];omega
  rw[show c+(n+1)=c+n+1 by omega]
  have e1:(X.toList.set (c+n) x).take (c+n+1)=X.toList.take (c+n)++[x]:=by
   rw[List.take_set,List.take_succ_eq_append_getElem hl,ZuR _ _ (by rw[Ztu];omega)]
   rw[show c+n-(X.toList.take (c+n)).length=0 by rw[Ztu,Ztd];omega]
   rfl
  have e2:(X.toList.set (c+n) x).drop (c+n+1+r.length)=X.toList.drop (c+n+1+r.length):=List.drop_set_of_lt (by omega)
  rw[e1,e2]
  simp only[Ztw,Ztf,Zuz,Zuv,Zuh]
  rw[show c+n+(r.length+1)=c+n+1+r.length by omega]
theorem Zfz(C:Vb prog w A s κ U R Ok)(left:Bool){X:Array Keyed}{key:Keyed}{c n:Nat}{P:List Keyed}(hP:∀t,t<n->X[c+t]?=P[t]?)(hn:P.length=n)(ul:∀y∈P,U y)(hs:Srt R P)(uk:U key)(okk:∀y∈P,if left=true then Ok y key else Ok key y) :
  UV U R Ok left key X c n (fun t=>if left=true then R (P.getD t (.none,.none)) key else !R key (P.getD t (.none,.none))):=by
 have get:∀t,t<n->P[t]?=some (P.getD t (.none,.none)):=fun t ht=>by
  rw[ZsS,ZsT (by omega)];rfl
 refine⟨uk,fun t ht=>⟨_,by rw[hP t ht,get t ht],ul _ (ZsW (get t ht)),okk _ (ZsW (get t ht)),rfl⟩,fun t u htu hu h=>?_⟩
 have hu':=get u hu
 have ht':=get t (by omega)
 have h2:=Srt.le C ul hs htu ht' hu'
 have u1:=ul _ (ZsW ht')
 have u2:=ul _ (ZsW hu')
 cases left with
 |false =>
  have h:(!R key (P.getD u (.none,.none)))=true:=h
  show (!R key (P.getD t (.none,.none)))=true
  rw[C.tr _ _ key u1 u2 uk h2 (by simpa using h)];rfl
 |true =>
  have h:R (P.getD u (.none,.none)) key=true:=h
  show R (P.getD t (.none,.none)) key=true
  cases hc:R (P.getD t (.none,.none)) key with
  |true=>rfl
  |false=>rw[C.tr key _ _ uk u1 u2 hc h2] at h;cases h
theorem Zji{σ:Type}{M:Model}{v:σ}{Q:PUnit->σ->Prop}{st:σ}(h:Q ⟨⟩ v):wpS M A E s (set v:StateT σ Sem PUnit) Q st:=by
 unfold wpS;rw[StateT.run_set];exact wpAny_pure ⟨rfl,h⟩
theorem Zco(C:Vb prog w A s κ U R Ok){st:SortSt}{i c n p d m p2:Nat}{pre P Y post:List Keyed}{Q:Bool->SortSt->Prop}(hk:kindOf st=κ)(hf:failedOf st=none)(h1:(pendingOf st)[i]?=some (c,n,p))(h2:(pendingOf st)[i+1]?=some (d,m,p2))(hX:(arrOf st).toList=pre++(P++(Y++post)))(lp:pre.length=c)(lP:P.length=n)(lY:Y.length=m)(hd:d=c+n)(n0:0<n)(m0:0<m)(uP:∀x∈P,U x)(uY:∀x∈Y,U x)(sP:Srt R P)(sY:Srt R Y)(oPY:∀y∈Y,∀x∈P,Ok y x)(h:∀st' W,kindOf st'=κ->failedOf st'=none->pendingOf st'=((pendingOf st).setIfInBounds i (c,n+m,p)).eraseIdxIfInBounds (i+1)->(arrOf st').toList=pre++(W++post)->Srt R W->W.Perm (P++Y)->Q true st') :
  wpS (model prog w) A E s (mergeAt' i) Q st:=by
 rw[Zc6]
 refine wpS_bind (wpS_get ?_)
 rw[h1,h2]
 dsimp only
 have size0:(arrOf st).size=c+(n+(m+post.length)):=by
  have:=congrArg List.length hX
  rw[Ztd] at this
  rw[this];simp[lp,lP,lY]
 have gP:∀t,t<n->(arrOf st)[c+t]?=P[t]?:=fun t ht=>by
  rw[<- Ztk,hX,Zth (by omega),lp,show c+t-c=t by omega,Ztl (by omega)]
 have gY:∀t,t<m->(arrOf st)[d+t]?=Y[t]?:=fun t ht=>by
  rw[<- Ztk,hX,Zth (by omega),lp,Zth (by omega),lP,show d+t-c-n=t by omega,Ztl (by omega)]
 refine wpS_bind (Zji ?_)
 have y0l:Y[0]?=some (Y.getD 0 (.none,.none)):=by rw[ZsS,ZsT (by omega)];rfl
 generalize Y.getD 0 (.none,.none)=y0 at y0l
 have uy0:=uY y0 (ZsW y0l)
 refine wpS_bind (ZE (x:=y0) (by have:=gY 0 m0;rw[Nat.add_zero] at this;rw[this,y0l]) (wpS_bind (JF C (show kindOf (setPending st _)=κ from hk) (Zfz C false gP lP uP sP uy0 (fun x hx=>by rw[if_neg (by decide)];exact oPY _ (ZsW y0l) x hx)) n0 fun k p1 p2 p3=>?_)))
 dsimp only at p2 p3 ⊢
 have gd:∀{l:List Keyed}{t:Nat}{x:Keyed},l[t]?=some x->l.getD t (.none,.none)=x:=fun {l t x} h=>by rw[ZsS,h];rfl
 have pk:∀x∈P.take k,R y0 x=false:=fun x hx=>by
  obtain⟨t,ht,hx⟩:=ZbJ hx
  have:=p2 t ht
  rw[gd hx] at this
  simpa using this
 have pk2:∀t x,k<=t->P[t]?=some x->R y0 x=true:=fun t x ht hx=>by
  have hl:=(ZsU.mp hx).1
  have:=p3 t ht (by omega)
  rw[gd hx] at this
  simpa using this
 by_cases e1:n-k=0
 ·rw[if_pos (by simpa using e1)]
  refine wpS_pure (h _ (P++Y) hk hf rfl (by rw[hX,Ztf]) (Ztn.mpr ⟨sP,sY,fun x hx y hy=>?_⟩) (List.Perm.refl _))
  have:=C.dropLe uY sY y0l (uP x hx) (pk x (by rw[ZtC (by omega)];exact hx))
  rw[Zu6] at this
  exact this y hy
 rw[if_neg (by simpa using e1)]
 have ll:P[n-1]?=some (P.getD (n-1) (.none,.none)):=by rw[ZsS,ZsT (by omega)];rfl
 generalize P.getD (n-1) (.none,.none)=l at ll
 have ul:=uP l (ZsW ll)
 refine wpS_bind (ZE (x:=l) (by have:=gP (n-1) (by omega);rw[show c+k+(n-k)-1=c+(n-1) by omega,this,ll]) (wpS_bind (JF C (show kindOf (setPending st _)=κ from hk) (Zfz C true gY lY uY sY ul (fun x hx=>by rw[if_pos rfl];exact oPY x hx _ (ZsW ll))) (by omega) fun k2 r1 r2 r3=>?_)))
 dsimp only at r2 r3 ⊢
 have yk:∀x∈Y.take k2,R x l=true:=fun x hx=>by
  obtain⟨t,ht,hx⟩:=ZbJ hx
  have:=r2 t ht
  rw[gd hx] at this
  simpa using this
 have yk2:∀x∈Y.drop k2,R x l=false:=fun x hx=>by
  obtain⟨t,hx⟩:=Ux hx
  have hl:=(ZsU.mp hx).1
  have:=r3 (k2+t) (by omega) (by omega)
  rw[gd hx] at this
  simpa using this
 have pl:∀v,U v->R v l=false->∀x∈P,R v x=false:=fun v uv hv x hx=>C.takeLe uP sP n0 ll uv hv x (by rw[ZtC (by omega)];exact hx)
 by_cases e2:k2=0
 ·rw[if_pos (by simpa using e2)]
  subst e2
  rw[Zu6] at yk2
  exact wpS_pure (h _ (P++Y) hk hf rfl (by rw[hX,Ztf]) (Ztn.mpr ⟨sP,sY,fun x hx y hy=>pl y (uY y hy) (yk2 y hy) x hx⟩) (List.Perm.refl _))
 rw[if_neg (by simpa using e2)]
 have ex:((arrOf st).extract (c+k) d).toList=P.drop k:=by
  refine ZtL fun t=>?_
  rw[Zuo,ZtJ,Zt3,Zt5,Zt5,Ztk]
  by_cases ht:t<d-(c+k)
  ·rw[if_pos ht,show c+k+t=c+(k+t) by omega,gP (k+t) (by omega)]
  ·rw[if_neg ht,Ztt (by omega)]
 have ey:((arrOf st).extract d (d+k2)).toList=Y.take k2:=by
  refine ZtL fun t=>?_
  rw[Zuo,ZtJ,Zt3,Zt5,Zt3,Ztk]
  by_cases ht:t<k2
  ·rw[if_pos (by omega),if_pos ht,gY t (by omega)]
  ·rw[if_neg (by omega),if_neg ht]
 have sx:((arrOf st).extract (c+k) d).size=n-k:=by
  have:=congrArg List.length ex
  rw[Ztd,Zui] at this
  omega
 have sy:((arrOf st).extract d (d+k2)).size=k2:=by
  have:=congrArg List.length ey
  rw[Ztd,Ztu] at this
  omega
 have MM:MLo U R Ok ((arrOf st).extract (c+k) d) ((arrOf st).extract d (d+k2)):=by
  refine⟨?_, ?_, ?_, ?_, ?_,by omega,by omega,fun x y hx hy=>?_,fun x hx y hy=>?_⟩
  ·rw[ex];exact fun x hx=>uP x (ZtE hx)
  ·rw[ey];exact fun x hx=>uY x (ZtD hx)
  ·rw[ex,ey];exact fun x hx y hy=>oPY x (ZtD hx) y (ZtE hy)
  ·rw[ex];exact sP.drop k
  ·rw[ey];exact sY.take k2
  ·rw[ey,Zt3,if_pos (by omega),y0l] at hx
   cases hx
   rw[ex,Zt5,Nat.add_zero] at hy
   exact C.asy _ _ uy0 (uP y (ZsW hy)) (pk2 k y (ZsX _) hy)
  ·rw[ey] at hx
   rw[ex,Zt5,sx,show k+(n-k-1)=n-1 by omega,ll] at hy
   cases hy
   exact C.asy _ _ (uY x (ZtD hx)) ul (yk x hx)
 have fin:∀r st2,Uh R ((arrOf st).extract (c+k) d) ((arrOf st).extract d (d+k2)) (setPending st (((pendingOf st).setIfInBounds i (c,n+m,p)).eraseIdxIfInBounds (i+1))) r st2 ->
   wpS (model prog w) A E s (do
    modify fun s=>setArr s (r.toList.zipIdx.foldl (fun a (p,j)=>a.setIfInBounds (c+k+j) p) (arrOf s))
    return (failedOf (<- get)).isNone) Q st2:=by
  rintro r st2 ⟨q1,q2,g,rfl⟩
  rw[ex,ey] at q2
  have lr:r.toList.length=n-k+k2:=by
   rw[q2.length_eq,Ztv,Zui,Ztu];omega
  refine wpS_bind (wpS_modify (wpS_bind (wpS_get (wpS_pure ?_))))
  show Q ((failedOf st).isNone) _
  rw[hf]
  have hw:=ZcZ r.toList (c+k) (arrOf st) 0 (by omega)
  have memr:∀x∈r.toList,(x∈P.drop k\/x∈Y.take k2):=fun x hx=>Zta.mp (q2.mem_iff.mp hx)
  refine h _ (P.take k++(r.toList++Y.drop k2)) hk hf rfl ?_ ?_ ?_
  ·show (r.toList.zipIdx.foldl (fun a (p:Keyed×Nat)=>a.setIfInBounds (c+k+p.2) p.1) (arrOf st)).toList=_
   rw[hw,Nat.add_zero,hX,lr]
   have d1:(pre++(P++(Y++post))).take (c+k)=pre++P.take k:=by
    rw[List.take_append,ZtC (by omega),lp,show c+k-c=k by omega,List.take_append_of_le_length (by omega)]
   have d2:(pre++(P++(Y++post))).drop (c+k+(n-k+k2))=Y.drop k2++post:=by
    rw[List.drop_append,ZtN (by omega),Zuh,lp,List.drop_append,ZtN (by omega),Zuh,lP,List.drop_append_of_le_length (by omega)]
    congr 2
    omega
   rw[d1,d2]
   simp only[Ztf]
  ·refine Ztn.mpr ⟨sP.take k,Ztn.mpr ⟨q1,sY.drop k2,fun x hx y hy=>?_⟩,fun x hx y hy=>?_⟩
   ·rcases memr x hx with z|z
    ·exact pl y (uY y (ZtE hy)) (yk2 y hy) x (ZtE z)
    ·have sd:=sY
     rw[<- Zts k2 Y] at sd
     exact(Ztn.mp sd).2.2 x z y hy
   ·have ux:=uP x (ZtD hx)
    have hyY:∀y∈Y,R y x=false:=fun y hy=>by
     have:=C.dropLe uY sY y0l ux (pk x hx)
     rw[Zu6] at this
     exact this y hy
    rcases Zta.mp hy with z|z
    ·rcases memr y z with z|z
     ·have sd:=sP
      rw[<- Zts k P] at sd
      exact(Ztn.mp sd).2.2 x hx y z
     ·exact hyY y (ZtD z)
    ·exact hyY y (ZtE z)
  ·have p1:(P.take k++(r.toList++Y.drop k2)).Perm (P.take k++((P.drop k++Y.take k2)++Y.drop k2)):=List.Perm.append_left _ (q2.append_right _)
   refine p1.trans ?_
   rw[Ztf,Zts,<- Ztf,Zts]
 by_cases e3:n-k<=k2
 ·rw[if_pos e3]
  exact wpS_bind (Zcm C (show kindOf (setPending st _)=κ from hk) MM fin)
 ·rw[if_neg e3]
  exact wpS_bind (Zcn C (show kindOf (setPending st _)=κ from hk) MM fin)
end
noncomputable def gA(X:Array Keyed)(i:Nat):Keyed:=X.getD i (.none,.none)
theorem VR{X:Array Keyed}{i:Nat}(h:i<X.size):X[i]?=some (gA X i):=by simp[gA,Array.getD,h]
theorem Zez{X:Array Keyed}{i:Nat}{x:Keyed}(h:X[i]?=some x):gA X i=x:=by
 have hi:i<X.size:=by
  rcases Nat.lt_or_ge i X.size with z|z
  ·exact z
  ·rw[Zuw z] at h;cases h
 rw[VR hi] at h;exact Option.some.inj h
theorem JX{X Y:Array Keyed}{i j:Nat}(h:X[i]?=Y[j]?):gA X i=gA Y j:=by
 simp only[gA,Array.getD_eq_getD_getElem?,h]
def Up(R:Keyed->Keyed->Bool)(X:Array Keyed)(lo m:Nat):Prop:=∀i j,i<j->j<m->R (gA X (lo+j)) (gA X (lo+i))=false
def Dn'(R:Keyed->Keyed->Bool)(X:Array Keyed)(lo m:Nat):Prop:=∀i j,i<j->j<m->R (gA X (lo+i)) (gA X (lo+j))=false
structure Vd(X Y:Array Keyed)(lo m:Nat):Prop where
 perm:Y.Perm X
 out:∀k,k<lo\/lo+m<=k->Y[k]?=X[k]?
theorem Vd.refl(X:Array Keyed)(lo m:Nat):Vd X X lo m:=⟨Array.Perm.refl _,fun _ _=>rfl⟩
theorem Vd.size{X Y:Array Keyed}{lo m:Nat}(h:Vd X Y lo m):Y.size=X.size:=h.perm.size_eq
theorem Vd.trans{X Y Z:Array Keyed}{lo m:Nat}(h:Vd X Y lo m)(g:Vd Y Z lo m):Vd X Z lo m:=⟨g.perm.trans h.perm,fun k hk=>(g.out k hk).trans (h.out k hk)⟩
theorem Vd.wide{X Y:Array Keyed}{lo lo' m m':Nat}(h:Vd X Y lo' m')(h1:lo<=lo')(h2:lo'+m'<=lo+m):Vd X Y lo m:=⟨h.perm,fun k hk=>h.out k (by omega)⟩
theorem Vd.back{X Y:Array Keyed}{lo m q:Nat}(h:Vd X Y lo m)(h1:lo<=q)(h2:q<lo+m)(hq:q<Y.size):∃q',lo<=q'/\q'<lo+m/\q'<X.size/\gA Y q=gA X q':=by
 have hs:=h.size
 have eX:X.toList=X.toList.take lo++((X.toList.drop lo).take m++(X.toList.drop lo).drop m):=by rw[Zts,Zts]
 have eY:Y.toList=Y.toList.take lo++((Y.toList.drop lo).take m++(Y.toList.drop lo).drop m):=by rw[Zts,Zts]
 have t1:Y.toList.take lo=X.toList.take lo:=by
  refine ZtL fun i=>?_
  rw[Zt3,Zt3]
  split
  ·rw[Ztk,Ztk];exact h.out i (.inl (by omega))
  ·rfl
 have t2:(Y.toList.drop lo).drop m=(X.toList.drop lo).drop m:=by
  refine ZtL fun i=>?_
  rw[List.drop_drop,List.drop_drop,Zt5,Zt5,Ztk,Ztk]
  exact h.out _ (.inr (by omega))
 have p:Y.toList.Perm X.toList:=h.perm.toList
 rw[eX,eY,t1,t2,List.perm_append_left_iff,List.perm_append_right_iff] at p
 have hm:gA Y q∈(Y.toList.drop lo).take m:=by
  refine ZsW (i:=q-lo) ?_
  rw[Zt3,if_pos (by omega),Zt5,show lo+(q-lo)=q by omega,Ztk]
  exact VR hq
 obtain⟨t,ht⟩:=Zt0 (p.mem_iff.mp hm)
 rw[Zt3] at ht
 split at ht
 ·rename_i c
  rw[Zt5,Ztk] at ht
  have hl:lo+t<X.size:=by
   rcases Nat.lt_or_ge (lo+t) X.size with z|z
   ·exact z
   ·rw[Zuw z] at ht;cases ht
  exact⟨lo+t,by omega,by omega,hl,(Zez ht).symm⟩
 ·cases ht
def Sep(Ok:Keyed->Keyed->Prop)(X:Array Keyed)(e:Nat):Prop:=∀p q,p<e->e<=q->q<X.size->Ok (gA X q) (gA X p)
theorem Vd.place{X Y:Array Keyed}{lo m q:Nat}(h:Vd X Y lo m)(hq:q<Y.size):∃q',q'<X.size/\gA Y q=gA X q'/\∀e,e<=lo\/lo+m<=e->(e<=q ↔ e<=q'):=by
 by_cases c:lo<=q/\q<lo+m
 ·obtain⟨q',a,b,d,e⟩:=h.back c.1 c.2 hq
  exact⟨q',d,e,fun e he=>by omega⟩
 ·exact⟨q,by rw[<- h.size];exact hq,JX (h.out q (by omega)),fun _ _=>Iff.rfl⟩
theorem Vd.sep{Ok:Keyed->Keyed->Prop}{X Y:Array Keyed}{lo m e:Nat}(h:Vd X Y lo m)(he:e<=lo\/lo+m<=e)(hX:Sep Ok X e):Sep Ok Y e:=fun p q hp hq hs=>by
 obtain⟨q',a1,a2,a3⟩:=h.place hs
 obtain⟨p',b1,b2,b3⟩:=h.place (q:=p) (by omega)
 rw[a2,b2]
 have:=b3 e he
 exact hX p' q' (by omega) ((a3 e he).mp hq) a1
section
variable {prog:Program}{w:World}{A:Around}{E:Value->Shared->Prop}{s:Shared}{κ:SortKind}{U:Keyed->Prop}{R:Keyed->Keyed->Bool}{Ok:Keyed->Keyed->Prop}
def ZcY(U:Keyed->Prop)(X:Array Keyed):Prop:=∀i,i<X.size->U (gA X i)
theorem ZcY.stir{X Y:Array Keyed}{lo m:Nat}(h:ZcY U X)(t:Vd X Y lo m):ZcY U Y:=fun i hi=>by
 have hm:gA Y i∈Y:=by
  have:=VR hi
  exact Array.mem_of_getElem? this
 obtain⟨j,hj⟩:=Array.getElem?_of_mem ((Array.Perm.mem_iff t.perm).mp hm)
 have hjs:j<X.size:=by
  rcases Nat.lt_or_ge j X.size with z|z
  ·exact z
  ·rw[Zuw z] at hj;cases hj
 rw[<- Zez hj]
 exact h j hjs
theorem UF(C:Vb prog w A s κ U R Ok){st:SortSt}{i j:Nat}{Q:Option Bool->SortSt->Prop}(hk:kindOf st=κ)(hU:ZcY U (arrOf st))(hi:i<(arrOf st).size)(hj:j<(arrOf st).size)(ok:Ok (gA (arrOf st) i) (gA (arrOf st) j))(h:Q (some (R (gA (arrOf st) i) (gA (arrOf st) j))) st) :
  wpS (model prog w) A E s (ltAt' i j) Q st:=by
 rw[ltAt'_eq]
 refine wpS_bind (wpS_get ?_)
 exact wpS_bind (ZE (VR hi) (wpS_bind (ZE (VR hj) (Qv C hk (hU i hi) (hU j hj) ok h))))
theorem Up.more(C:Vb prog w A s κ U R Ok){X:Array Keyed}{lo n:Nat}(hU:ZcY U X)(hs:lo+n<X.size)(h:Up R X lo n)(hl:n=0\/R (gA X (lo+n)) (gA X (lo+n-1))=false):Up R X lo (n+1):=fun i j hij hj=>by
 by_cases e:j<n
 ·exact h i j hij e
 ·obtain rfl:j=n:=by omega
  rcases hl with hl|hl
  ·omega
  ·by_cases e2:i=j-1
   ·subst e2;rw[show lo+(j-1)=lo+j-1 by omega];exact hl
   ·have h2:=h i (j-1) (by omega) (by omega)
    rw[show lo+(j-1)=lo+j-1 by omega] at h2
    exact C.tr _ _ _ (hU _ (by omega)) (hU _ (by omega)) (hU _ (by omega)) h2 hl
theorem Zjj(C:Vb prog w A s κ U R Ok){st:SortSt}{lo n ok:Nat}{Q:Bool->SortSt->Prop}(hk:kindOf st=κ)(hU:ZcY U (arrOf st))(hn:lo+n<=(arrOf st).size)(hok:ok<=n)(n1:1<=n)(hs:Up R (arrOf st) lo ok)(hO:∀e,lo+ok<=e->Sep Ok (arrOf st) e)(h:∀Y,Vd (arrOf st) Y lo n->Up R Y lo n->Q true (setArr st Y)):wpS (model prog w) A E s (binarySort' lo n ok) Q st:=by
 rw[binarySort'_eq]
 refine wpS_bind (wpS_mono (wpS_forRange
  (I:=fun k (c:Option Bool×Unit) (st':SortSt)=>c.1=none/\∃Y,st'=setArr st Y/\Vd (arrOf st) Y lo k/\Up R Y lo k)
  (Q:=fun(c:Option Bool×Unit) (st':SortSt)=>c.1=none/\∃Y,st'=setArr st Y/\Vd (arrOf st) Y lo n/\Up R Y lo n) ?step ?fin ?ini) ?post)
 case ini =>
  refine⟨rfl,arrOf st,rfl,Vd.refl _ _ _,fun i j hij hj=>?_⟩
  by_cases e:1<=ok
  ·exact hs i j hij (by omega)
  ·omega
 case fin =>
  rintro⟨o,u⟩ st' ⟨h1,Y,h2,h3,h4⟩
  exact⟨h1,Y,h2,h3.wide (ZsX _) (by omega),fun i j hij hj=>h4 i j hij (by omega)⟩
 case post =>
  rintro⟨o,u⟩ st' ⟨h1,Y,rfl,h3,h4⟩
  dsimp only at h1
  subst h1
  exact wpS_pure (h Y h3 h4)
 case step =>
  rintro k ⟨o,u⟩ st' hk1 hk2 ⟨h1,Y,rfl,h3,h4⟩
  dsimp only at h1
  subst h1
  have hYU:=hU.stir h3
  have hYs:=h3.size
  refine wpS_bind (wpS_mono (wpS_forRange
   (I:=fun x (c:Option Bool×Nat×Nat) (st':SortSt)=>c.1=none/\st'=setArr st Y/\c.2.1<=c.2.2/\c.2.2<=k/\(∀i,i<c.2.1->R (gA Y (lo+k)) (gA Y (lo+i))=false)/\(∀i,c.2.2<=i->i<k->R (gA Y (lo+k)) (gA Y (lo+i))=true)/\c.2.2-c.2.1<=k-x)
   (Q:=fun(c:Option Bool×Nat×Nat) (st':SortSt)=>c.1=none/\st'=setArr st Y/\c.2.1=c.2.2/\c.2.2<=k/\(∀i,i<c.2.1->R (gA Y (lo+k)) (gA Y (lo+i))=false)/\(∀i,c.2.2<=i->i<k->R (gA Y (lo+k)) (gA Y (lo+i))=true)) ?step1 ?fin1
   ⟨rfl,rfl,ZtB _,ZsX _,fun i hi=>absurd hi (Nat.not_lt_zero _),fun i h1 h2=>absurd h1 (by dsimp only;omega),by dsimp only;omega⟩) ?post1)
  case fin1 =>
   rintro⟨o,l,r⟩ st' ⟨rfl,q0,q1,q2,q3,q4,q5⟩
   dsimp only at q1 q2 q3 q4 q5 ⊢
   exact⟨rfl,q0,by omega,q2,q3,q4⟩
  case step1 =>
   rintro x ⟨o,l,r⟩ st' _ hx ⟨rfl,rfl,q1,q2,q3,q4,q5⟩
   dsimp only at q1 q2 q3 q4 q5 ⊢
   by_cases hlr:l ≥ r
   ·rw[if_pos hlr]
    exact wpS_pure ⟨rfl,rfl,by dsimp only;omega,q2,q3,q4⟩
   ·rw[if_neg hlr]
    refine wpS_bind (UF C (show kindOf (setArr st Y)=κ from hk) hYU (show lo+k<Y.size by omega) (show lo+(l+r)/2<Y.size by omega) (h3.sep (.inr (ZsX _)) (hO (lo+k) (by omega)) _ _ (by omega) (ZsX _) (by omega)) ?_)
    dsimp only
    show wpS _ _ _ _ (if R (gA Y (lo+k)) (gA Y (lo+(l+r)/2))=true then _ else _) _ _
    cases hm:R (gA Y (lo+k)) (gA Y (lo+(l+r)/2)) with
    |true =>
     rw[if_pos rfl]
     refine wpS_pure ⟨rfl,rfl,by dsimp only;omega,by dsimp only;omega,q3,fun i i1 i2=>?_,by dsimp only;omega⟩
     dsimp only at i1
     by_cases e:i=(l+r)/2
     ·subst e;exact hm
     ·cases hc:R (gA Y (lo+k)) (gA Y (lo+i)) with
      |true=>rfl
      |false =>
       have:=h4 ((l+r)/2) i (by omega) i2
       rw[C.tr _ _ _ (hYU _ (by omega)) (hYU _ (by omega)) (hYU _ (by omega)) this hc] at hm
       cases hm
    |false =>
     rw[if_neg (by decide)]
     refine wpS_pure ⟨rfl,rfl,by dsimp only;omega,q2,fun i i1=>?_,q4,by dsimp only;omega⟩
     dsimp only at i1
     by_cases e:i=(l+r)/2
     ·subst e;exact hm
     ·have:=h4 i ((l+r)/2) (by omega) (by omega)
      exact C.tr _ _ _ (hYU _ (by omega)) (hYU _ (by omega)) (hYU _ (by omega)) this hm
  case post1 =>
   rintro⟨o,l,r⟩ st' ⟨rfl,rfl,q1,q2,q3,q4⟩
   dsimp only at q1 q2 q3 q4 ⊢
   subst q1
   rw[moveDown'_eq]
   refine wpS_bind (wpS_modify (wpS_pure ⟨rfl,bubble Y (lo+k) (lo+k-(lo+l)),rfl, ?_, ?_⟩))
   ·refine(h3.wide (ZsX _) (by omega)).trans ⟨bubble_perm _ _ _,fun t ht=>?_⟩
    rw[getElem?_bubble (show lo+k<Y.size by omega) _ (by omega),if_neg (by omega),if_neg (by omega)]
   ·have bg:∀t,t<=k->gA (bubble Y (lo+k) (lo+k-(lo+l))) (lo+t)=if t=l then gA Y (lo+k) else if l<t then gA Y (lo+t-1) else gA Y (lo+t):=fun t ht=>by
     have e:=getElem?_bubble (show lo+k<Y.size by omega) (lo+k-(lo+l)) (by omega) (lo+t)
     by_cases e1:t=l
     ·rw[if_pos e1];rw[if_pos (by omega)] at e;exact JX e
     ·rw[if_neg e1];rw[if_neg (by omega)] at e
      by_cases e2:l<t
      ·rw[if_pos e2];rw[if_pos (by omega)] at e;exact JX e
      ·rw[if_neg e2];rw[if_neg (by omega)] at e;exact JX e
    intro i j hij hj
    rw[bg i (by omega),bg j (by omega)]
    by_cases a1:j=l
    ·rw[if_pos a1,if_neg (by omega),if_neg (by omega)]
     exact q3 i (by omega)
    ·rw[if_neg a1]
     by_cases a2:l<j
     ·rw[if_pos a2]
      by_cases b1:i=l
      ·rw[if_pos b1,show lo+j-1=lo+(j-1) by omega]
       exact C.asy _ _ (hYU _ (by omega)) (hYU _ (by omega)) (q4 (j-1) (by omega) (by omega))
      ·rw[if_neg b1]
       by_cases b2:l<i
       ·rw[if_pos b2,show lo+j-1=lo+(j-1) by omega,show lo+i-1=lo+(i-1) by omega]
        exact h4 (i-1) (j-1) (by omega) (by omega)
       ·rw[if_neg b2,show lo+j-1=lo+(j-1) by omega]
        exact h4 i (j-1) (by omega) (by omega)
     ·rw[if_neg a2,if_neg (by omega),if_neg (by omega)]
      exact h4 i j hij (by omega)
variable {R0:Keyed->Keyed->Bool}
noncomputable abbrev mir(X:Array Keyed)(i j:Nat):Array Keyed:=mirror X i j ((j-i)/2)
theorem ZaE{st:SortSt}{i j:Nat}{Q:Unit->SortSt->Prop}(h:Q () (setArr st (mir (arrOf st) i j))):wpS (model prog w) A E s (reverseSlice' i j) Q st:=by
 rw[reverseSlice'_eq];exact wpS_modify h
theorem ZaW{X:Array Keyed}{i j:Nat}(hij:i<=j)(hj:j<=X.size):Vd X (mir X i j) i (j-i):=
 ⟨mirror_perm _ _ _ _,fun k hk=>by rw[getElem?_mirror_all hj,if_neg (by omega)]⟩
theorem Uw{X:Array Keyed}{i j k:Nat}(hj:j<=X.size)(h1:i<=k)(h2:k<j):gA (mir X i j) k=gA X (i+j-1-k):=by
 refine JX ?_
 rw[getElem?_mirror_all hj,if_pos ⟨h1,h2⟩]
theorem QD{X:Array Keyed}{i j k:Nat}(hj:j<=X.size)(h:k<i\/j<=k):gA (mir X i j) k=gA X k:=by
 refine JX ?_
 rw[getElem?_mirror_all hj,if_neg (by omega)]
def Eqv(R:Keyed->Keyed->Bool)(X:Array Keyed)(lo a b:Nat):Prop:=∀i j,a<=i->i<b->a<=j->j<b->R (gA X (lo+i)) (gA X (lo+j))=false
theorem Dn'.up{X:Array Keyed}{lo n:Nat}(hs:lo+n<=X.size)(h:Dn' R X lo n):Up R (mir X lo (lo+n)) lo n:=fun i j hij hj=>by
 rw[Uw hs (by omega) (by omega),Uw hs (by omega) (by omega),show lo+(lo+n)-1-(lo+j)=lo+(n-1-j) by omega,show lo+(lo+n)-1-(lo+i)=lo+(n-1-i) by omega]
 exact h _ _ (by omega) (by omega)
structure Zmt(R0 R:Keyed->Keyed->Bool)(Ok:Keyed->Keyed->Prop):Prop where
 up:∀x y,R0 x y=true->R x y=true
 ok:∀x y,Ok x y->R x y=R0 x y
structure Fal(R0 R:Keyed->Keyed->Bool)(X Y:Array Keyed)(lo q k:Nat):Prop where
 t:Vd X Y lo q
 d:Dn' R Y lo q
 e:Eqv R0 Y lo q k
 st:∀i j,i<q->q<=j->j<k->R0 (gA Y (lo+j)) (gA Y (lo+i))=true
 qk:q<k
theorem Fal.turn(C:Vb prog w A s κ U R Ok)(L:Zmt R0 R Ok){X Y:Array Keyed}{lo q k n:Nat}(F:Fal R0 R X Y lo q k)(hU:ZcY U X)(hs:lo+k<=X.size)(hO:∀e,lo+n<=e->Sep Ok X e)(hq:n<=q) :
  Vd X (mir Y (lo+q) (lo+k)) lo k/\Dn' R (mir Y (lo+q) (lo+k)) lo k:=by
 have sz:=F.t.size
 have uY:=hU.stir F.t
 have qk:=F.qk
 have hsY:lo+k<=Y.size:=by omega
 refine⟨(F.t.wide (ZsX _) (by omega)).trans ((ZaW (by omega) hsY).wide (by omega) (by omega)),fun i j hij hj=>?_⟩
 by_cases a:i<q
 ·rw[QD hsY (.inl (by omega))]
  by_cases b:j<q
  ·rw[QD hsY (.inl (by omega))]
   exact F.d i j hij b
  ·rw[Uw hsY (by omega) (by omega),show lo+q+(lo+k)-1-(lo+j)=lo+(q+k-1-j) by omega]
   exact C.asy _ _ (uY _ (by omega)) (uY _ (by omega)) (L.up _ _ (F.st i (q+k-1-j) a (by omega) (by omega)))
 ·rw[Uw hsY (by omega) (by omega),Uw hsY (by omega) (by omega),show lo+q+(lo+k)-1-(lo+j)=lo+(q+k-1-j) by omega,show lo+q+(lo+k)-1-(lo+i)=lo+(q+k-1-i) by omega]
  have ok:=F.t.sep (e:=lo+(q+k-1-i)) (.inr (by omega)) (hO _ (by omega)) (lo+(q+k-1-j)) (lo+(q+k-1-i)) (by omega) (ZsX _) (by omega)
  rw[L.ok _ _ ok]
  exact F.e _ _ (by omega) (by omega) (by omega) (by omega)
theorem Fal.plain(C:Vb prog w A s κ U R Ok)(L:Zmt R0 R Ok){X Y:Array Keyed}{lo q:Nat}(F:Fal R0 R X Y lo q (q+1))(hU:ZcY U X)(hs:lo+(q+1)<=X.size):Vd X Y lo (q+1)/\Dn' R Y lo (q+1):=by
 have sz:=F.t.size
 have uY:=hU.stir F.t
 refine⟨F.t.wide (ZsX _) (by omega),fun i j hij hj=>?_⟩
 by_cases b:j<q
 ·exact F.d i j hij b
 ·exact C.asy _ _ (uY _ (by omega)) (uY _ (by omega)) (L.up _ _ (F.st i j (by omega) (by omega) hj))
theorem Fal.above(C0:Vb prog w A s κ U R0 (fun _ _=>True)){X Y:Array Keyed}{lo q k:Nat}(F:Fal R0 R X Y lo q k)(hU:ZcY U X)(hs:lo+k<=X.size)(i:Nat)(hi:i<k):R0 (gA Y (lo+i)) (gA Y (lo+(k-1)))=false:=by
 have sz:=F.t.size
 have uY:=hU.stir F.t
 have qk:=F.qk
 by_cases a:i<q
 ·exact C0.asy _ _ (uY _ (by omega)) (uY _ (by omega)) (F.st i (k-1) a (by omega) (by omega))
 ·exact F.e i (k-1) (by omega) hi (by omega) (by omega)
theorem ZiM(C0:Vb prog w A s κ U R0 (fun _ _=>True)){x y z:Keyed}(ux:U x)(uy:U y)(uz:U z)(h1:R0 x y=true)(h2:R0 z y=false):R0 x z=true:=by
 cases h:R0 x z with
 |true=>rfl
 |false=>rw[C0.tr y z x uy uz ux h2 h] at h1;cases h1
theorem Ziu(C:Vb prog w A s κ U R Ok){st:SortSt}{X Z:Array Keyed}{lo n N:Nat}{Q:Option Nat->SortSt->Prop}(hk:kindOf st=κ)(hU:ZcY U X)(hn:lo+N<=X.size)(n1:1<=n)(nN:n<=N)(hO:∀e,lo+n<=e->Sep Ok X e)(t:Vd X Z lo n)(d:Dn' R Z lo n)(h:∀m Y,n<=m->m<=N->Vd X Y lo m->Up R Y lo m->Q (some m) (setArr st Y)) :
  wpS (model prog w) A E s (do
   let mut n:=n
   reverseSlice' lo (lo+n)
   for _ in [n:N] do
    let some smaller <- ltAt' (lo+n) (lo+n-1)|return none
    if smaller then break
    n:=n+1
   return some n:StateT SortSt Sem (Option Nat)) Q (setArr st Z):=by
 have sZ:=t.size
 refine wpS_bind (ZaE ?_)
 have t3:Vd X (mir Z lo (lo+n)) lo n:=t.trans ((ZaW (by omega) (by omega)).wide (ZsX _) (by omega))
 have u3:Up R (mir Z lo (lo+n)) lo n:=d.up (by omega)
 show wpS _ _ _ _ _ _ (setArr st (mir Z lo (lo+n)))
 generalize mir Z lo (lo+n)=Y at t3 u3
 have sz3:=t3.size
 have uY:=hU.stir t3
 refine wpS_bind (wpS_mono (wpS_forRange
  (I:=fun x (c:Option (Option Nat)×Nat) (st':SortSt)=>c.1=none/\st'=setArr st Y/\c.2=x/\Up R Y lo x)
  (Q:=fun(c:Option (Option Nat)×Nat) (st':SortSt)=>c.1=none/\st'=setArr st Y/\(n<=c.2/\c.2<=N)/\Up R Y lo c.2) ?_ ?_ ⟨rfl,rfl,rfl,u3⟩) ?_)
 ·rintro x ⟨o,k⟩ st' hx1 hx2 ⟨rfl,rfl,h3,h4⟩
  dsimp only at h3 ⊢
  subst h3
  refine wpS_bind (UF C (show kindOf (setArr st Y)=κ from hk) uY (show lo+k<Y.size by omega) (show lo+k-1<Y.size by omega) (t3.sep (e:=lo+k) (.inr (by omega)) (hO _ (by omega)) _ _ (by omega) (ZsX _) (by omega)) ?_)
  dsimp only
  show wpS _ _ _ _ (if R (gA Y (lo+k)) (gA Y (lo+k-1))=true then _ else _) _ _
  cases hR:R (gA Y (lo+k)) (gA Y (lo+k-1)) with
  |true =>
   rw[if_pos rfl]
   exact wpS_pure ⟨rfl,rfl,⟨hx1,by dsimp only;omega⟩,h4⟩
  |false =>
   rw[if_neg (by decide)]
   exact wpS_pure ⟨rfl,rfl,rfl,h4.more C uY (by omega) (.inr hR)⟩
 ·rintro⟨o,k⟩ st' ⟨h1,h2,h3,h4⟩
  dsimp only at h3 ⊢
  subst h3
  exact⟨h1,h2,by omega,h4⟩
 ·rintro⟨o,k⟩ st' ⟨rfl,rfl,h3,h4⟩
  dsimp only at h3 h4 ⊢
  exact wpS_pure (h k Y h3.1 h3.2 (t3.wide (ZsX _) (by omega)) h4)
theorem Zda(C:Vb prog w A s κ U R Ok)(C0:Vb prog w A s κ U R0 (fun _ _=>True))(L:Zmt R0 R Ok){st:SortSt}{X:Array Keyed}{lo n N:Nat}{Q:Option Nat->SortSt->Prop}(hk:kindOf st=κ)(hU:ZcY U X)(hn:lo+N<=X.size)(n1:1<=n)(nN:n<N)(hO:∀e,lo+n<=e->Sep Ok X e)(d1:Dn' R X lo n)(s1:∀i,i<n->R0 (gA X (lo+n)) (gA X (lo+i))=true)(h:∀m Y,n<=m->m<=N->Vd X Y lo m->Up R Y lo m->Q (some m) (setArr st Y)) :
  wpS (model prog w) A E s (do
   rule "list.sort.descending-run"
   let mut n:=n+1
   let mut neq:=0
   for _ in [n:N] do
    let some smaller <- ltAt' (lo+n) (lo+n-1)|return none
    if smaller then
     if neq>0 then reverseSlice' (lo+n-(neq+1)) (lo+n)
     neq:=0
    else
     let some larger <- ltAt' (lo+n-1) (lo+n)|return none
     if larger then break
     neq:=neq+1
    n:=n+1
   if neq>0 then reverseSlice' (lo+n-(neq+1)) (lo+n)
   reverseSlice' lo (lo+n)
   for _ in [n:N] do
    let some smaller <- ltAt' (lo+n) (lo+n-1)|return none
    if smaller then break
    n:=n+1
   return some n:StateT SortSt Sem (Option Nat)) Q (setArr st X):=by
 refine wpS_bind (wpS_lift (wpAny_rule ⟨rfl, ?_⟩))
 have irr:∀{x:Keyed},U x->R0 x x=false:=fun {x} u=>by
  cases h:R0 x x with
  |false=>rfl
  |true=>have:=C0.asy x x u u h;rw[h] at this;cases this
 refine wpS_bind (wpS_mono (wpS_forRange
  (I:=fun x (c:Option (Option Nat)×Nat×Nat) (st':SortSt)=>c.1=none/\c.2.1=x/\c.2.2<x/\∃Y,st'=setArr st Y/\Fal R0 R X Y lo (x-1-c.2.2) x/\n<=x-1-c.2.2)
  (Q:=fun(c:Option (Option Nat)×Nat×Nat) (st':SortSt)=>c.1=none/\(n+1<=c.2.1/\c.2.1<=N)/\c.2.2<c.2.1/\∃Y,st'=setArr st Y/\Fal R0 R X Y lo (c.2.1-1-c.2.2) c.2.1/\n<=c.2.1-1-c.2.2) ?_ ?_
  ⟨rfl,rfl,Nat.succ_pos _,X,rfl,⟨(Vd.refl _ _ _),d1,fun i j i1 i2 j1 j2=>?_,fun i j i1 j1 j2=>?_, ?_⟩, ?_⟩) ?_)
 ·rintro x ⟨o,k,e⟩ st' hx1 hx2 ⟨rfl,h3,he,Y,rfl,F,hq⟩
  dsimp only at h3 he F hq ⊢
  subst h3
  have szY:=F.t.size
  have uY:=hU.stir F.t
  have kN:k<N:=by omega
  have i1:lo+k<Y.size:=by omega
  have i2:lo+k-1<Y.size:=by omega
  have ek:lo+(k-1)=lo+k-1:=by omega
  refine wpS_bind (UF C0 (show kindOf (setArr st Y)=κ from hk) uY i1 i2 trivial ?_)
  dsimp only
  show wpS _ _ _ _ (if R0 (gA Y (lo+k)) (gA Y (lo+k-1))=true then _ else _) _ _
  have nxt:∀Z,Vd X Z lo k->Dn' R Z lo k->(∀i,i<k->R0 (gA Z (lo+k)) (gA Z (lo+i))=true)->Fal R0 R X Z lo (k+1-1-0) (k+1):=fun Z t d a=>by
   rw[show k+1-1-0=k by omega]
   have uZ:=hU.stir t
   have sZ:=t.size
   refine⟨t,d,fun i j a1 a2 b1 b2=>?_,fun i j a1 b1 b2=>?_,Zu7 _⟩
   ·obtain rfl:i=k:=by omega
    obtain rfl:j=i:=by omega
    exact irr (uZ _ (by omega))
   ·obtain rfl:j=k:=by omega
    exact a i a1
  cases hR:R0 (gA Y (lo+k)) (gA Y (lo+k-1)) with
  |true =>
   rw[if_pos rfl]
   have low:∀i,i<k->R0 (gA Y (lo+k)) (gA Y (lo+i))=true:=fun i hi=>by
    have:=F.above C0 hU (by omega) i hi
    rw[ek] at this
    exact ZiM C0 (uY _ i1) (uY _ i2) (uY _ (by omega)) hR this
   by_cases he0:e>0
   ·rw[if_pos he0]
    obtain⟨t2,d2⟩:=F.turn C L hU (by omega) hO hq
    rw[show lo+(k-1-e)=lo+k-(e+1) by omega] at t2 d2
    refine wpS_bind (ZaE (wpS_pure ⟨rfl,rfl,Nat.succ_pos _,mir Y (lo+k-(e+1)) (lo+k),rfl,nxt _ t2 d2 fun i hi=>?_, ?_⟩))
    ·have hsY:lo+k<=Y.size:=by omega
     rw[QD hsY (.inr (ZsX _))]
     by_cases a:lo+i<lo+k-(e+1)
     ·rw[QD hsY (.inl a)];exact low i hi
     ·rw[Uw hsY (by omega) (by omega),show lo+k-(e+1)+(lo+k)-1-(lo+i)=lo+(k-(e+1)+k-1-i) by omega]
      exact low _ (by omega)
    ·dsimp only;omega
   ·rw[if_neg he0]
    obtain rfl:e=0:=by omega
    have F':Fal R0 R X Y lo (k-1) (k-1+1):=by
     rw[show k-1+1=k by omega];exact F
    obtain⟨t2,d2⟩:=F'.plain C L hU (by omega)
    rw[show k-1+1=k by omega] at t2 d2
    exact wpS_pure ⟨rfl,rfl,Nat.succ_pos _,Y,rfl,nxt _ t2 d2 low,by dsimp only;omega⟩
  |false =>
   rw[if_neg (by decide)]
   refine wpS_bind (UF C0 (show kindOf (setArr st Y)=κ from hk) uY i2 i1 trivial ?_)
   dsimp only
   show wpS _ _ _ _ (if R0 (gA Y (lo+k-1)) (gA Y (lo+k))=true then _ else _) _ _
   cases hL:R0 (gA Y (lo+k-1)) (gA Y (lo+k)) with
   |true =>
    rw[if_pos rfl]
    exact wpS_pure ⟨rfl,⟨by dsimp only;omega,by dsimp only;omega⟩,he,Y,rfl,F,hq⟩
   |false =>
    rw[if_neg (by decide)]
    refine wpS_pure ⟨rfl,rfl,Nat.succ_lt_succ he,Y,rfl, ?_, ?_⟩
    ·dsimp only
     rw[show k+1-1-(e+1)=k-1-e by omega]
     have qk:=F.qk
     have bd:∀q,q<k->U (gA Y (lo+q)):=fun q hq=>uY _ (by omega)
     have gr:∀q,k-1-e<=q->q<k->R0 (gA Y (lo+q)) (gA Y (lo+k))=false/\R0 (gA Y (lo+k)) (gA Y (lo+q))=false:=fun q q1 q2=>by
      have z1:=F.e q (k-1) q1 q2 (by omega) (by omega)
      have z2:=F.e (k-1) q (by omega) (by omega) q1 q2
      rw[ek] at z1 z2
      exact⟨C0.tr _ _ _ (uY _ i1) (uY _ i2) (bd q q2) hL z1,C0.tr _ _ _ (bd q q2) (uY _ i2) (uY _ i1) z2 hR⟩
     refine⟨F.t,F.d,fun i j a1 a2 b1 b2=>?_,fun i j a1 b1 b2=>?_,by omega⟩
     ·by_cases a:i<k
      ·by_cases b:j<k
       ·exact F.e i j a1 a b1 b
       ·obtain rfl:j=k:=by omega
        exact(gr i a1 a).1
      ·obtain rfl:i=k:=by omega
       by_cases b:j<i
       ·exact(gr j b1 b).2
       ·obtain rfl:j=i:=by omega
        exact irr (uY _ i1)
     ·by_cases b:j<k
      ·exact F.st i j a1 b1 b
      ·obtain rfl:j=k:=by omega
       have z:=F.st i (j-1) a1 (by omega) (by omega)
       rw[ek] at z
       cases hc:R0 (gA Y (lo+j)) (gA Y (lo+i)) with
       |true=>rfl
       |false=>rw[C0.tr _ _ _ (bd i (by omega)) (uY _ i1) (uY _ i2) hc hL] at z;cases z
    ·dsimp only;omega
 ·rintro⟨o,k,e⟩ st' ⟨h1,h3,he,Y,h4,F,hq⟩
  dsimp only at h3 he F hq ⊢
  subst h3
  rw[show max (n+1) N=N by omega] at *
  exact⟨h1,⟨by omega,ZsX _⟩,he,Y,h4,F,hq⟩
 ·dsimp only at i1 j1
  obtain rfl:i=n:=by omega
  obtain rfl:j=i:=by omega
  exact irr (hU _ (by omega))
 ·dsimp only at i1 j1
  obtain rfl:j=n:=by omega
  exact s1 i (by omega)
 ·dsimp only;omega
 ·dsimp only;omega
 ·rintro⟨o,n2,e⟩ st' ⟨rfl,hn2,he,Y,rfl,F,hq⟩
  dsimp only at hn2 he F hq ⊢
  have hO2:∀e,lo+n2<=e->Sep Ok X e:=fun e h=>hO e (by omega)
  by_cases he0:e>0
  ·rw[if_pos he0]
   refine wpS_bind (ZaE ?_)
   obtain⟨t2,d2⟩:=F.turn C L hU (by omega) hO hq
   rw[show lo+(n2-1-e)=lo+n2-(e+1) by omega] at t2 d2
   exact Ziu C hk hU hn (by omega) hn2.2 hO2 t2 d2 fun m Y a b=>h m Y (by omega) b
  ·rw[if_neg he0]
   obtain rfl:e=0:=by omega
   have F':Fal R0 R X Y lo (n2-1) (n2-1+1):=by
    rw[show n2-1+1=n2 by omega];exact F
   obtain⟨t2,d2⟩:=F'.plain C L hU (by omega)
   rw[show n2-1+1=n2 by omega] at t2 d2
   exact Ziu C hk hU hn (by omega) hn2.2 hO2 t2 d2 fun m Y a b=>h m Y (by omega) b
theorem ZeL(C:Vb prog w A s κ U R Ok)(C0:Vb prog w A s κ U R0 (fun _ _=>True))(L:Zmt R0 R Ok){st:SortSt}{lo N:Nat}{Q:Option Nat->SortSt->Prop}(hk:kindOf st=κ)(hU:ZcY U (arrOf st))(hn:lo+N<=(arrOf st).size)(n1:1<=N)(hO:∀e,lo<e->Sep Ok (arrOf st) e)(h:∀m Y,1<=m->m<=N->Vd (arrOf st) Y lo m->Up R Y lo m->Q (some m) (setArr st Y)):wpS (model prog w) A E s (countRun' lo N) Q st:=by
 rw[countRun'_eq]
 refine wpS_bind (wpS_mono (wpS_forRange
  (I:=fun x (c:Option (Option Nat)×Nat) (st':SortSt)=>c.1=none/\st'=st/\c.2=x/\Up R (arrOf st) lo x)
  (Q:=fun(c:Option (Option Nat)×Nat) (st':SortSt)=>c.1=none/\st'=st/\(1<=c.2/\c.2<=N)/\Up R (arrOf st) lo c.2/\(c.2=N\/R (gA (arrOf st) (lo+c.2)) (gA (arrOf st) (lo+c.2-1))=true)) ?step ?fin ⟨rfl,rfl,rfl,fun i j hij hj=>by omega⟩) ?post)
 case fin =>
  rintro⟨o,n⟩ st' ⟨h1,h2,h3,h4⟩
  dsimp only at h1 h3 ⊢
  subst h3
  exact⟨h1,h2,by omega,h4,.inl (by omega)⟩
 case step =>
  rintro x ⟨o,n⟩ st' hx1 hx2 ⟨rfl,rfl,h3,h4⟩
  dsimp only at h3 ⊢
  subst h3
  refine wpS_bind (UF C hk hU (show lo+n<_ by omega) (show lo+n-1<_ by omega) (hO (lo+n) (by omega) _ _ (by omega) (ZsX _) (by omega)) ?_)
  dsimp only
  cases hR:R (gA (arrOf st') (lo+n)) (gA (arrOf st') (lo+n-1)) with
  |true =>
   rw[if_pos rfl]
   exact wpS_pure ⟨rfl,rfl,by dsimp only;omega,h4,.inr hR⟩
  |false =>
   rw[if_neg (by decide)]
   exact wpS_pure ⟨rfl,rfl,rfl,h4.more C hU (by omega) (.inr hR)⟩
 case post =>
  rintro⟨o,n⟩ st' ⟨h1,h2,h3,h4,h5⟩
  have h2:=h2.symm
  subst h2
  dsimp only at h1 h3 h4 h5 ⊢
  subst h1
  dsimp only
  by_cases e1:n=N
  ·rw[if_pos (by simpa using e1)]
   exact wpS_pure (h n (arrOf st) h3.1 h3.2 (Vd.refl _ _ _) h4)
  rw[if_neg (by simpa using e1)]
  have h5:=h5.resolve_left e1
  have bn:lo+n<(arrOf st).size:=by omega
  have bn1:lo+n-1<(arrOf st).size:=by omega
  have en:lo+(n-1)=lo+n-1:=by omega
  rw[L.ok _ _ (hO (lo+n) (by omega) (lo+n-1) _ (by omega) (ZsX _) bn)] at h5
  have u:∀q,q<n->U (gA (arrOf st) (lo+q)):=fun q hq=>hU _ (by omega)
  have un:=hU _ bn
  have un1:U (gA (arrOf st) (lo+n-1)):=hU _ bn1
  by_cases e2:n>1
  ·rw[if_pos e2]
   refine wpS_bind (UF C0 hk hU (show lo<_ by omega) bn1 trivial ?_)
   dsimp only
   cases hR:R0 (gA (arrOf st) lo) (gA (arrOf st) (lo+n-1)) with
   |true =>
    rw[if_pos rfl]
    exact wpS_pure (h n (arrOf st) h3.1 h3.2 (Vd.refl _ _ _) h4)
   |false =>
    rw[if_neg (by decide)]
    refine wpS_bind (ZaE ?_)
    have u0:Up R0 (arrOf st) lo n:=fun i j hij hj=>by
     cases hc:R0 (gA (arrOf st) (lo+j)) (gA (arrOf st) (lo+i)) with
     |false=>rfl
     |true=>have:=L.up _ _ hc;rw[h4 i j hij hj] at this;cases this
    have irr:∀{x:Keyed},U x->R0 x x=false:=fun {x} u=>by
     cases h:R0 x x with
     |false=>rfl
     |true=>have:=C0.asy x x u u h;rw[h] at this;cases this
    have ul:U (gA (arrOf st) lo):=u 0 (by omega)
    have le1:∀q,q<n->R0 (gA (arrOf st) (lo+q)) (gA (arrOf st) lo)=false/\R0 (gA (arrOf st) (lo+n-1)) (gA (arrOf st) (lo+q))=false:=fun q hq=>by
     refine⟨?_, ?_⟩
     ·by_cases z:q=0
      ·subst z;exact irr ul
      ·exact u0 0 q (by omega) hq
     ·by_cases z:q=n-1
      ·subst z;rw[en];exact irr un1
      ·have:=u0 q (n-1) (by omega) (by omega);rw[en] at this;exact this
    have eq1:∀i j,i<n->j<n->R0 (gA (arrOf st) (lo+i)) (gA (arrOf st) (lo+j))=false:=fun i j hi hj=>C0.tr _ _ _ (u j hj) ul (u i hi) (C0.tr _ _ _ (u j hj) un1 ul (le1 j hj).2 hR) (le1 i hi).1
    have t0:Vd (arrOf st) (mir (arrOf st) lo (lo+n)) lo n:=(ZaW (by omega) (by omega)).wide (ZsX _) (by omega)
    have hs:lo+n<=(arrOf st).size:=by omega
    have d0:Dn' R (mir (arrOf st) lo (lo+n)) lo n:=fun i j hij hj=>by
     rw[Uw hs (by omega) (by omega),Uw hs (by omega) (by omega),show lo+(lo+n)-1-(lo+j)=lo+(n-1-j) by omega,show lo+(lo+n)-1-(lo+i)=lo+(n-1-i) by omega]
     rw[L.ok _ _ (hO (lo+(n-1-i)) (by omega) (lo+(n-1-j)) _ (by omega) (ZsX _) (by omega))]
     exact eq1 _ _ (by omega) (by omega)
    have s0:∀i,i<n->R0 (gA (mir (arrOf st) lo (lo+n)) (lo+n)) (gA (mir (arrOf st) lo (lo+n)) (lo+i))=true:=fun i hi=>by
     rw[QD hs (.inr (ZsX _)),Uw hs (by omega) (by omega),show lo+(lo+n)-1-(lo+i)=lo+(n-1-i) by omega]
     refine ZiM C0 un un1 (u _ (by omega)) h5 ?_
     rw[<- en]
     exact eq1 _ _ (by omega) (by omega)
    exact Zda C C0 L hk (hU.stir t0) (by rw[t0.size];exact hn) h3.1 (by omega) (fun e he=>t0.sep (.inr he) (hO e (by omega))) d0 s0 fun m Y a b c d=>h m Y (by omega) b ((t0.wide (ZsX _) (by omega)).trans c) d
  ·rw[if_neg e2]
   obtain rfl:n=1:=by omega
   show wpS _ _ _ _ _ _ (setArr st (arrOf st))
   refine Zda C C0 L hk hU hn (ZsX _) (by omega) (fun e he=>hO e (by omega)) (fun i j hij hj=>by omega) (fun i hi=>?_) fun m Y a b c d=>h m Y a b c d
   obtain rfl:i=0:=by omega
   rw[show lo+1-1=lo+0 by omega] at h5
   exact h5
end
noncomputable abbrev ZeE:=Nat×Nat×Nat
def UpS(R:Keyed->Keyed->Bool)(Ok:Keyed->Keyed->Prop)(X:Array Keyed)(c n:Nat):Prop:=Up R X c n/\Sep Ok X c
noncomputable def V0(R:Keyed->Keyed->Bool)(Ok:Keyed->Keyed->Prop)(X:Array Keyed):Nat->List ZeE->Nat->Prop
 |s,[],e=>s=e
 |s,(c,n,_)::r,e=>c=s/\0<n/\UpS R Ok X c n/\V0 R Ok X (s+n) r e
section
variable {prog:Program}{w:World}{A:Around}{E:Value->Shared->Prop}{s:Shared}{κ:SortKind}{U:Keyed->Prop}{R:Keyed->Keyed->Bool}{Ok:Keyed->Keyed->Prop}
theorem V0.le{X:Array Keyed}:∀{L:List ZeE}{a e:Nat},V0 R Ok X a L e->a+L.length<=e
 |[],a,e,h=>by have h:a=e:=h;simp[h]
 |(c,n,p)::L,a,e,h=>by
  obtain⟨_,h1,_,h2⟩:=h
  have:=V0.le h2
  simp only[Ztw];omega
theorem V0.app{X:Array Keyed}:∀{L M:List ZeE}{a e:Nat},V0 R Ok X a (L++M) e ↔ ∃q,V0 R Ok X a L q/\V0 R Ok X q M e
 |[],M,a,e=>⟨fun h=>⟨a,rfl,h⟩,fun⟨q,h1,h2⟩=>by have h1:a=q:=h1;subst h1;exact h2⟩
 |(c,n,p)::L,M,a,e=>by
  show (c=a/\0<n/\UpS R Ok X c n/\V0 R Ok X (a+n) (L++M) e) ↔ ∃q,(c=a/\0<n/\UpS R Ok X c n/\V0 R Ok X (a+n) L q)/\V0 R Ok X q M e
  constructor
  ·rintro⟨h1,h2,h3,h4⟩
   obtain⟨q,q1,q2⟩:=V0.app.mp h4
   exact⟨q,⟨h1,h2,h3,q1⟩,q2⟩
  ·rintro⟨q,⟨h1,h2,h3,h4⟩,q2⟩
   exact⟨h1,h2,h3,V0.app.mpr ⟨q,h4,q2⟩⟩
theorem Up.stir{X Y:Array Keyed}{lo m c n:Nat}(h:Up R X c n)(t:Vd X Y lo m)(d:c+n<=lo\/lo+m<=c):Up R Y c n:=fun i j hij hj=>by
 rw[JX (t.out (c+j) (by omega)),JX (t.out (c+i) (by omega))]
 exact h i j hij hj
theorem UpS.stir{X Y:Array Keyed}{lo m c n:Nat}(h:UpS R Ok X c n)(t:Vd X Y lo m)(d:c+n<=lo\/lo+m<=c):UpS R Ok Y c n:=⟨h.1.stir t d,t.sep (by omega) h.2⟩
theorem V0.stir{X Y:Array Keyed}{lo m:Nat}(t:Vd X Y lo m):∀{L:List ZeE}{a e:Nat},V0 R Ok X a L e->(e<=lo\/lo+m<=a)->V0 R Ok Y a L e
 |[],a,e,h,_=>h
 |(c,n,p)::L,a,e,h,d=>by
  obtain⟨h1,h2,h3,h4⟩:=h
  have:=V0.le h4
  exact⟨h1,h2,h3.stir t (by omega),V0.stir t h4 (by omega)⟩
theorem Up.srt{X:Array Keyed}{c n:Nat}(h:Up R X c n)(hs:c+n<=X.size):Srt R ((X.toList.drop c).take n):=by
 refine ZtR.mpr fun i j hi hj hij=>?_
 have hi':i<n:=by rw[Ztu] at hi;omega
 have hj':j<n:=by rw[Ztu] at hj;omega
 have e:∀t,t<n->∀ht,((X.toList.drop c).take n)[t]'ht=gA X (c+t):=fun t htn ht=>by
  have h1:((X.toList.drop c).take n)[t]?=some (gA X (c+t)):=by
   rw[Zt3,if_pos htn,Zt5,Ztk,VR (by omega)]
  rw[ZsT ht] at h1
  exact Option.some.inj h1
 rw[e i hi' hi,e j hj' hj]
 exact h i j hij hj'
theorem Srt.up{X:Array Keyed}{c n:Nat}{pre W post:List Keyed}(hX:X.toList=pre++(W++post))(lp:pre.length=c)(lW:W.length=n)(h:Srt R W):Up R X c n:=fun i j hij hj=>by
 have g:∀t (ht:t<n),gA X (c+t)=W[t]'(by omega):=fun t ht=>by
  refine Zez ?_
  rw[<- Ztk,hX,Zth (by omega),lp,show c+t-c=t by omega,Ztl (by omega),ZsT (by omega)]
 rw[g i (by omega),g j hj]
 exact ZtR.mp h i j (by omega) (by omega) hij
theorem Zhj{L M:List ZeE}{a b c:ZeE}{P:Array ZeE}(h:P.toList=L++a::b::M):(((P.setIfInBounds L.length c).eraseIdxIfInBounds (L.length+1))).toList=L++c::M:=by
 have hz:L.length+1<(P.setIfInBounds L.length c).size:=by
  have:=congrArg List.length h
  rw[Ztd] at this
  rw[Array.size_setIfInBounds,this];simp
 rw[Array.eraseIdxIfInBounds,dif_pos hz,Array.toList_eraseIdx,Zvd,h]
 rw[ZuR _ _ (ZsX _),Nat.sub_self,List.set_cons_zero,List.eraseIdx_append_of_length_le (by omega),show L.length+1-L.length=1 by omega]
 rfl
theorem Zb2(C:Vb prog w A s κ U R Ok){st:SortSt}{L M:List ZeE}{c n p d m p2 e:Nat}{Q:Bool->SortSt->Prop}(hk:kindOf st=κ)(hf:failedOf st=none)(hU:ZcY U (arrOf st))(hp:(pendingOf st).toList=L++(c,n,p)::(d,m,p2)::M)(hr:V0 R Ok (arrOf st) 0 (pendingOf st).toList e)(he:e<=(arrOf st).size)(h:∀st',kindOf st'=κ->failedOf st'=none->(pendingOf st').toList=L++(c,n+m,p)::M->Vd (arrOf st) (arrOf st') c (n+m)->c+n+m<=e->V0 R Ok (arrOf st') 0 (pendingOf st').toList e->Q true st') :
  wpS (model prog w) A E s (mergeAt' L.length) Q st:=by
 rw[hp] at hr
 obtain⟨q,r1,r2⟩:=V0.app.mp hr
 obtain⟨rfl,n0,u1,rfl,m0,u2,r3⟩:=r2
 have le3:=V0.le r3
 have hsz:c+n+m<=(arrOf st).size:=by omega
 have sp:(arrOf st).toList=(arrOf st).toList.take c++(((arrOf st).toList.drop c).take n++(((arrOf st).toList.drop (c+n)).take m++(arrOf st).toList.drop (c+n+m))):=by
  rw[VH,VH,Zts]
 have lt:(arrOf st).toList.length=(arrOf st).size:=Ztd
 have inU:∀x∈(arrOf st).toList,U x:=fun x hx=>by
  obtain⟨i,hi⟩:=Zt0 hx
  have hl:=(ZsU.mp hi).1
  rw[Ztk] at hi
  rw[<- Zez hi]
  exact hU i (by omega)
 have i1:(pendingOf st)[L.length]?=some (c,n,p):=by
  rw[<- Ztk,hp,Zth (ZsX _),Nat.sub_self];rfl
 have i2:(pendingOf st)[L.length+1]?=some (c+n,m,p2):=by
  rw[<- Ztk,hp,Zth (by omega),show L.length+1-L.length=1 by omega];rfl
 refine Zco C hk hf i1 i2 sp (by rw[Ztu];omega) (by rw[Ztu,Zui];omega) (by rw[Ztu,Zui];omega) rfl n0 m0
  (fun x hx=>inU x (ZtE (ZtD hx))) (fun x hx=>inU x (ZtE (ZtD hx))) (u1.1.srt (by omega)) (u2.1.srt (by omega)) (fun y hy x hx=>?ok) fun st' W k1 k2 k3 k4 k5 k6=>?main
 case ok =>
  obtain⟨i,hi⟩:=Zt0 hy
  obtain⟨j,hj⟩:=Zt0 hx
  rw[Zt3] at hi hj
  split at hi
  ·split at hj
   ·rename_i ci cj
    rw[Zt5,Ztk] at hi hj
    rw[<- Zez hi,<- Zez hj]
    exact u2.2 _ _ (by omega) (by omega) (by omega)
   ·cases hj
  ·cases hi
 have lW:W.length=n+m:=by rw[k6.length_eq,Ztv,Ztu,Ztu,Zui,Zui];omega
 have lpre:((arrOf st).toList.take c).length=c:=by rw[Ztu];omega
 have hst:Vd (arrOf st) (arrOf st') c (n+m):=by
  refine⟨?_,fun k hk'=>?_⟩
  ·refine Zu3.mpr ?_
   rw[k4]
   conv=>rhs;rw[sp]
   refine List.Perm.append_left _ ?_
   rw[<- Ztf]
   exact k6.append_right _
  ·rw[<- Ztk,<- Ztk,k4]
   rcases hk' with z|z
   ·rw[Ztl (by omega),Zt3,if_pos z]
   ·rw[Zth (by omega),lpre,Zth (by omega),lW,Zt5]
    congr 1;omega
 have kp:(pendingOf st').toList=L++(c,n+m,p)::M:=by rw[k3];exact Zhj hp
 refine h st' k1 k2 kp hst (by omega) ?_
 rw[kp]
 refine V0.app.mpr ⟨c,r1.stir hst (.inl (ZsX _)),rfl,by omega,⟨Srt.up k4 lpre lW k5,hst.sep (.inl (ZsX _)) u1.2⟩, ?_⟩
 rw[<- Nat.add_assoc]
 exact r3.stir hst (.inr (by omega))
variable {R0:Keyed->Keyed->Bool}
structure RSt(κ:SortKind)(U:Keyed->Prop)(R:Keyed->Keyed->Bool)(Ok:Keyed->Keyed->Prop)(X:Array Keyed)(lo hi:Nat)(st':SortSt):Prop where
 kd:kindOf st'=κ
 fl:failedOf st'=none
 pm:(arrOf st').Perm X
 us:ZcY U (arrOf st')
 rn:V0 R Ok (arrOf st') 0 (pendingOf st').toList lo
 le:lo<=X.size
 lh:lo<=hi
 sp:∀e,e=lo\/hi<=e->Sep Ok (arrOf st') e
theorem RSt.sz{X:Array Keyed}{lo hi:Nat}{st':SortSt}(h:RSt κ U R Ok X lo hi st'):(arrOf st').size=X.size:=h.pm.size_eq
theorem V0.mod{X:Array Keyed}{f:ZeE->ZeE}(hf:∀c n p,∃p',f (c,n,p)=(c,n,p')):∀{L:List ZeE}{a e:Nat},V0 R Ok X a L e->∀i,V0 R Ok X a (L.modify i f) e
 |[],a,e,h,i=>by simpa using h
 |(c,n,p)::L,a,e,h,0=>by
  obtain⟨p',hp'⟩:=hf c n p
  rw[List.modify_zero_cons,hp']
  exact h
 |(c,n,p)::L,a,e,h,i+1=>by
  rw[List.modify_succ_cons]
  exact⟨h.1,h.2.1,h.2.2.1,V0.mod hf h.2.2.2 i⟩
theorem ZkU{L:List ZeE}{i:Nat}(h:i+1<L.length):∃A a b B,L=A++a::b::B/\A.length=i:=by
 refine⟨L.take i,L[i],L[i+1],L.drop (i+2), ?_,by rw[Ztu];omega⟩
 rw[<- Ztq h,<- Ztq (by omega),Zts]
theorem UE(C:Vb prog w A s κ U R Ok){X:Array Keyed}{st1:SortSt}{lo hi i:Nat}{Q:Bool->SortSt->Prop}(S1:RSt κ U R Ok X lo hi st1)(hi':i+1<(pendingOf st1).size)(h:∀st',RSt κ U R Ok X lo hi st'->(pendingOf st').size+1=(pendingOf st1).size->(∀n,Up R (arrOf st1) lo n->Up R (arrOf st') lo n)->Q true st'):wpS (model prog w) A E s (mergeAt' i) Q st1:=by
 obtain⟨L,⟨c,n,p⟩,⟨d,m,p2⟩,M,hL,rfl⟩:=ZkU (L:=(pendingOf st1).toList) (by rw[Ztd];exact hi')
 refine Zb2 C S1.kd S1.fl S1.us hL S1.rn (by rw[S1.sz];exact S1.le) fun st' k1 k2 k3 k4 k5 k6=>h st' ⟨k1,k2,k4.perm.trans S1.pm,S1.us.stir k4,k6,S1.le,S1.lh,fun e he=>k4.sep (.inr (by have:=S1.lh;omega)) (S1.sp e he)⟩ ?_ fun q hq=>hq.stir k4 (.inr (by omega))
 have e1:=congrArg List.length hL
 have e2:=congrArg List.length k3
 rw[Ztd] at e1 e2
 simp only[Ztv,Ztw] at e1 e2
 omega
theorem Qu(C:Vb prog w A s κ U R Ok)(C0:Vb prog w A s κ U R0 (fun _ _=>True))(L:Zmt R0 R Ok){st:SortSt}{Q:Unit->SortSt->Prop}(hk:kindOf st=κ)(hf:failedOf st=none)(hU:ZcY U (arrOf st))(hp:pendingOf st=#[])(hO:∀e,Sep Ok (arrOf st) e)(h:∀st',failedOf st'=none->(arrOf st').Perm (arrOf st)->Up R (arrOf st') 0 (arrOf st).size->Q () st'):wpS (model prog w) A E s sortRuns' Q st:=by
 rw[sortRuns'_eq]
 refine wpS_bind (wpS_get ?_)
 dsimp only
 have S0:RSt κ U R Ok (arrOf st) 0 0 st:=⟨hk,hf,Array.Perm.refl _,hU,by rw[hp];rfl,ZtB _,ZsX _,fun e _=>hO e⟩
 generalize hX:arrOf st=X at S0 h
 refine wpS_bind (wpS_mono (wpS_forRange
  (I:=fun x (c:Option Unit×Nat) (st':SortSt)=>c.1=none/\RSt κ U R Ok X c.2 c.2 st'/\(x<=c.2\/X.size<=c.2))
  (Q:=fun(c:Option Unit×Nat) (st':SortSt)=>c.1=none/\RSt κ U R Ok X X.size X.size st') ?step ?fin ⟨rfl,S0,.inl (ZsX _)⟩) ?post)
 case fin =>
  rintro⟨o,lo⟩ st' ⟨h1,h2,h3⟩
  dsimp only at h1 h2 h3 ⊢
  have:=h2.le
  obtain rfl:lo=X.size:=by omega
  exact⟨h1,h2⟩
 case step =>
  rintro x ⟨o,lo⟩ st1 _ hx ⟨rfl,S1,h3⟩
  dsimp only at S1 h3 ⊢
  have hle:=S1.le
  have hsz:=S1.sz
  by_cases e0:lo ≥ X.size
  ·rw[if_pos e0]
   obtain rfl:lo=X.size:=by omega
   exact wpS_pure ⟨rfl,S1⟩
  rw[if_neg e0]
  refine wpS_bind (ZeL C C0 L S1.kd S1.us (show lo+(X.size-lo)<=_ by omega) (by omega) (fun e he=>S1.sp e (.inr (by omega))) fun m Y m1 m2 t u=>?_)
  dsimp only
  have S1':RSt κ U R Ok X lo (lo+m) (setArr st1 Y):=⟨S1.kd,S1.fl,t.perm.trans S1.pm,S1.us.stir t,S1.rn.stir t (.inl (ZsX _)),S1.le,by omega,fun e he=>t.sep (by omega) (S1.sp e (by omega))⟩
  by_cases e1:m<minRun' X.size X.size 0
  ·rw[if_pos e1]
   have f1:m<=min (X.size-lo) (minRun' X.size X.size 0):=by omega
   have f2:min (X.size-lo) (minRun' X.size X.size 0)<=X.size-lo:=ZuY _ _
   generalize min (X.size-lo) (minRun' X.size X.size 0)=N1 at f1 f2
   refine wpS_bind (wpS_lift (wpAny_rule ⟨rfl, ?_⟩))
   refine wpS_bind (Zjj C (show kindOf (setArr st1 Y)=κ from S1.kd) S1'.us (show lo+N1<=(arrOf (setArr st1 Y)).size by rw[S1'.sz];omega) f1 (by omega) u (fun e he=>S1'.sp e (.inr he)) fun Y2 t2 u2=>?_)
   rw[if_neg (by decide)]
   have t2:Vd Y Y2 lo N1:=t2
   have S2:RSt κ U R Ok X lo (lo+N1) (setArr st1 Y2):=⟨S1.kd,S1.fl,t2.perm.trans S1'.pm,S1'.us.stir t2,S1'.rn.stir t2 (.inl (ZsX _)),S1.le,by omega,fun e he=>t2.sep (by omega) (S1'.sp e (by omega))⟩
   show wpS _ _ _ _ _ _ (setArr st1 Y2)
   have PUSH:∀st3,RSt κ U R Ok X lo (lo+N1) st3->Up R (arrOf st3) lo (N1)->RSt κ U R Ok X (lo+(N1)) (lo+(N1)) (setPending st3 ((pendingOf st3).push (lo,N1,0))):=fun st3 S3 u3 =>
    ⟨S3.kd,S3.fl,S3.pm,S3.us,by
     show V0 R Ok (arrOf st3) 0 ((pendingOf st3).push (lo,N1,0)).toList (lo+(N1))
     rw[ZuL]
     exact V0.app.mpr ⟨lo,S3.rn,rfl,by omega,⟨u3,S3.sp lo (.inl rfl)⟩,rfl⟩,by omega,ZsX _,fun e he=>S3.sp e (.inr (by omega))⟩
   refine wpS_bind (wpS_get ?_)
   cases hb:(pendingOf (setArr st1 Y2)).back? with
   |none =>
    dsimp only
    exact wpS_bind (wpS_modify (wpS_pure ⟨rfl,PUSH _ S2 u2,.inl (by dsimp only;omega)⟩))
   |some q =>
    obtain⟨s1,n1,p1⟩:=q
    dsimp only
    refine wpS_bind (wpS_mono (wpS_forRange
     (I:=fun _ (c:Option Unit×Unit) (st':SortSt)=>c.1=none/\RSt κ U R Ok X lo (lo+N1) st'/\Up R (arrOf st') lo (N1))
     (Q:=fun(c:Option Unit×Unit) (st':SortSt)=>c.1=none/\RSt κ U R Ok X lo (lo+N1) st'/\Up R (arrOf st') lo (N1)) ?_ (fun c st' hc=>hc) ⟨rfl,S2,u2⟩) ?_)
    ·rintro y ⟨o,_⟩ st3 _ hy ⟨rfl,S3,u3⟩
     refine wpS_bind (wpS_get ?_)
     by_cases hsz3:(pendingOf st3).size>1
     ·rw[if_pos hsz3]
      have hg:(pendingOf st3)[(pendingOf st3).size-2]?=some ((pendingOf st3)[(pendingOf st3).size-2]'(by omega)):=Zun (by omega)
      rw[hg]
      generalize (pendingOf st3)[(pendingOf st3).size-2]'(by omega)=q3 at hg
      obtain⟨a3,b3,older⟩:=q3
      dsimp only
      split
      ·exact wpS_pure ⟨rfl,S3,u3⟩
      ·refine wpS_bind (UE C S3 (by omega) fun st4 S4 _ up4=>?_)
       rw[if_neg (by decide)]
       exact wpS_pure ⟨rfl,S4,up4 _ u3⟩
     ·rw[if_neg hsz3]
      exact wpS_pure ⟨rfl,S3,u3⟩
    ·rintro⟨o,_⟩ st3 ⟨h1,S3,u3⟩
     dsimp only at h1
     subst h1
     dsimp only
     refine wpS_bind (wpS_modify (wpS_bind (wpS_modify (wpS_pure ⟨rfl, ?_,.inl (by dsimp only;omega)⟩))))
     refine PUSH (setPending st3 _) ⟨S3.kd,S3.fl,S3.pm,S3.us, ?_,S3.le,S3.lh,S3.sp⟩ u3
     show V0 R Ok (arrOf st3) 0 ((pendingOf st3).modify _ _).toList lo
     rw[Array.toList_modify]
     exact S3.rn.mod (fun _ _ _=>⟨_,rfl⟩) _
  ·rw[if_neg e1]
   have S2:=S1'
   have u2:=u
   have PUSH:∀st3,RSt κ U R Ok X lo (lo+m) st3->Up R (arrOf st3) lo (m)->RSt κ U R Ok X (lo+(m)) (lo+(m)) (setPending st3 ((pendingOf st3).push (lo,m,0))):=fun st3 S3 u3 =>
    ⟨S3.kd,S3.fl,S3.pm,S3.us,by
     show V0 R Ok (arrOf st3) 0 ((pendingOf st3).push (lo,m,0)).toList (lo+(m))
     rw[ZuL]
     exact V0.app.mpr ⟨lo,S3.rn,rfl,by omega,⟨u3,S3.sp lo (.inl rfl)⟩,rfl⟩,by omega,ZsX _,fun e he=>S3.sp e (.inr (by omega))⟩
   refine wpS_bind (wpS_get ?_)
   cases hb:(pendingOf (setArr st1 Y)).back? with
   |none =>
    dsimp only
    exact wpS_bind (wpS_modify (wpS_pure ⟨rfl,PUSH _ S2 u2,.inl (by dsimp only;omega)⟩))
   |some q =>
    obtain⟨s1,n1,p1⟩:=q
    dsimp only
    refine wpS_bind (wpS_mono (wpS_forRange
     (I:=fun _ (c:Option Unit×Unit) (st':SortSt)=>c.1=none/\RSt κ U R Ok X lo (lo+m) st'/\Up R (arrOf st') lo (m))
     (Q:=fun(c:Option Unit×Unit) (st':SortSt)=>c.1=none/\RSt κ U R Ok X lo (lo+m) st'/\Up R (arrOf st') lo (m)) ?_ (fun c st' hc=>hc) ⟨rfl,S2,u2⟩) ?_)
    ·rintro y ⟨o,_⟩ st3 _ hy ⟨rfl,S3,u3⟩
     refine wpS_bind (wpS_get ?_)
     by_cases hsz3:(pendingOf st3).size>1
     ·rw[if_pos hsz3]
      have hg:(pendingOf st3)[(pendingOf st3).size-2]?=some ((pendingOf st3)[(pendingOf st3).size-2]'(by omega)):=Zun (by omega)
      rw[hg]
      generalize (pendingOf st3)[(pendingOf st3).size-2]'(by omega)=q3 at hg
      obtain⟨a3,b3,older⟩:=q3
      dsimp only
      split
      ·exact wpS_pure ⟨rfl,S3,u3⟩
      ·refine wpS_bind (UE C S3 (by omega) fun st4 S4 _ up4=>?_)
       rw[if_neg (by decide)]
       exact wpS_pure ⟨rfl,S4,up4 _ u3⟩
     ·rw[if_neg hsz3]
      exact wpS_pure ⟨rfl,S3,u3⟩
    ·rintro⟨o,_⟩ st3 ⟨h1,S3,u3⟩
     dsimp only at h1
     subst h1
     dsimp only
     refine wpS_bind (wpS_modify (wpS_bind (wpS_modify (wpS_pure ⟨rfl, ?_,.inl (by dsimp only;omega)⟩))))
     refine PUSH (setPending st3 _) ⟨S3.kd,S3.fl,S3.pm,S3.us, ?_,S3.le,S3.lh,S3.sp⟩ u3
     show V0 R Ok (arrOf st3) 0 ((pendingOf st3).modify _ _).toList lo
     rw[Array.toList_modify]
     exact S3.rn.mod (fun _ _ _=>⟨_,rfl⟩) _
 case post =>
  rintro⟨o,lo⟩ st1 ⟨h1,S1⟩
  dsimp only at h1
  subst h1
  dsimp only
  refine wpS_bind (wpS_mono (wpS_forRange
   (I:=fun x (c:Option Unit×Unit) (st':SortSt)=>c.1=none/\RSt κ U R Ok X X.size X.size st'/\((pendingOf st').size+x<=X.size\/(pendingOf st').size<=1))
   (Q:=fun(c:Option Unit×Unit) (st':SortSt)=>c.1=none/\RSt κ U R Ok X X.size X.size st'/\(pendingOf st').size<=1) ?_ ?_ ⟨rfl,S1,.inl ?_⟩) ?_)
  ·rintro x ⟨o,_⟩ st3 _ hx ⟨rfl,S3,h3⟩
   refine wpS_bind (wpS_get ?_)
   by_cases e1:(pendingOf st3).size<=1
   ·rw[if_pos e1]
    exact wpS_pure ⟨rfl,S3,e1⟩
   ·rw[if_neg e1]
    refine wpS_bind (UE C S3 ?_ fun st4 S4 z4 _=>?_)
    ·have hp3:1<(pendingOf st3).size:=Nat.lt_of_not_le e1
     have both:∀(b:Prop) [Decidable b],(if b then (pendingOf st3).size-2-1 else (pendingOf st3).size-2)+1<(pendingOf st3).size:=fun b _=>by
      by_cases hb:b
      ·rw[if_pos hb];omega
      ·rw[if_neg hb];omega
     exact both _
    ·rw[if_neg (by decide)]
     exact wpS_pure ⟨rfl,S4,by omega⟩
  ·rintro⟨o,_⟩ st3 ⟨h1,S3,h3⟩
   have:=V0.le S3.rn
   rw[Ztd] at this
   exact⟨h1,S3,by omega⟩
  ·have:=V0.le S1.rn
   rw[Ztd] at this
   omega
  ·rintro⟨o,_⟩ st3 ⟨h1,S3,h3⟩
   dsimp only at h1
   subst h1
   refine wpS_pure (h st3 S3.fl S3.pm ?_)
   have rn:=S3.rn
   have hl:(pendingOf st3).toList.length<=1:=by rw[Ztd];exact h3
   match hL:(pendingOf st3).toList with
   |[] =>
    rw[hL] at rn
    have z:0=X.size:=rn
    intro i j _ hj
    omega
   |[(c,n,p)] =>
    rw[hL] at rn
    obtain⟨rfl,_,z1,z2⟩:=rn
    have z2:0+n=X.size:=z2
    rw[<- z2,Zul];exact z1.1
   |_::_::_ =>
    rw[hL] at hl
    simp at hl
end
end L2
namespace L2
open PySem PySem.Spec PyProof.Rows
section
variable {prog:Program}{w:World}{A:Around}{E:Value->Shared->Prop}{s:Shared}
theorem ZiB{α:Type}{R:α->α->Prop}:∀{l:List α},l.length<2->l.Pairwise R
 |[],_=>List.Pairwise.nil
 |[_],_=>ZuG _ _
theorem Zeh{a:Addr}{vs:List Value}{n:Nat}{P:PySem.Fin->Shared->Prop}(κ:SortKind)(Rv:Value->Value->Bool)(ho:s.heap.get? a=some (seqObj "list" vs.toArray n))(hz:vs.length<=1000000)(hk:2<=vs.length->∀(s1:Shared) (Q:SortKind->Shared->Prop),(∀b o,b≠a->s.heap.get? b=some o->s1.heap.get? b=some o)->Q κ s1->wpAny (model prog w) A (keyKind' vs.toArray) Q E s1)(hc:∀(s1:Shared) x y,x∈vs->y∈vs->(∀b o,b≠a->s.heap.get? b=some o->s1.heap.get? b=some o)->∀C:Bool->Shared->Prop,C (Rv x y) s1->wpAny (model prog w) A (keyLt' κ x y) C (fun _ _=>False) s1)(asy:∀x y,x∈vs->y∈vs->Rv x y=true->Rv y x=false)(tr:∀x y z,x∈vs->y∈vs->z∈vs->Rv y x=false->Rv z y=false->Rv z x=false)(hq:∀h' c out,(∀b o,b≠a->s.heap.get? b=some o->h'.get? b=some o)->out.Perm vs->out.Pairwise (fun x y=>Rv y x=false)->h'.get? a=some (seqObj "list" (List.toArray out) c)->P (.done (.ret .none)) { s with heap:=h' }) :
  wpAny (model prog w) A (Builtin.«list.sort» ⟨[.ref a],[]⟩) P E s:=by
 have la:a<s.heap.objs.size:=Heap.lt_size ho
 have line:vs.length<=sizeLine:=JB hz
 obtain⟨e1,ho1⟩:∃c,(s.heap.update a (Obj.mapSeq fun _=>(#[]:Array Value))).get? a=some (seqObj "list" #[] c):=⟨_,get?_update_seq ho _⟩
 rw[list_sort_plain]
 refine wpAny_bind (listItems_at ho rfl (wpAny_bind (listUpdate_at ho rfl (wpAny_bind (seqEpoch_at ho1 rfl (wpAny_bind (wpAny_newTuple (wpAny_bind (wpAny_newList (wpAny_holding ?_) (ZtB _))) ?_)))) ?_ (ZtB _))))
 rotate_left
 ·exact line
 ·rw[Ztc];exact line
 generalize eh:((s.heap.update a (Obj.mapSeq fun _=>(#[]:Array Value))).push (seqObj "tuple" vs.toArray 0)).push (seqObj "list" #[] 0)=h3
 have k3:∀b o,b≠a->s.heap.get? b=some o->h3.get? b=some o:=fun b o nb q=>by
  subst eh
  exact Heap.get?_push_of_some _ (Heap.get?_push_of_some _ ((Heap.get?_update_ne _ _ _ _ nb).trans q))
 have a3:h3.get? a=some (seqObj "list" #[] e1):=by subst eh;exact Heap.get?_push_of_some _ (Heap.get?_push_of_some _ ho1)
 show wpAny _ _ _ P E { s with heap:=h3 }
 have fin:∀(out:List Value) (st:SortSt),(arrOf st).map (·.2)=List.toArray out->failedOf st=none->out.Perm vs->out.Pairwise (fun x y=>Rv y x=false) ->
   wpAny (model prog w) A (do
    let sorted:=(arrOf st).map (·.2)
    let touched:=(<- seqEpoch a) != e1
    Builtin.List.listUpdate (.ref a) fun _=>sorted
    if let some e:=failedOf st then rule "list.sort.comparison-raised";throw e
    if touched then rule "list.sort.modified";raiseError "ValueError" "list modified during sort"
    ret .none) P E { s with heap:=h3 }:=fun out st ho hf hl hout=>by
  dsimp only
  rw[ho,hf]
  obtain⟨c2,hc2⟩:∃c,(h3.update a (Obj.mapSeq fun _=>List.toArray out)).get? a=some (seqObj "list" (List.toArray out) c):=⟨_,get?_update_seq a3 _⟩
  refine wpAny_bind (seqEpoch_at a3 rfl (wpAny_bind (listUpdate_at a3 rfl ?_ (ZtB _) ?_)))
  ·simp only[bne_self_eq_false,Bool.false_eq_true,if_false]
   exact wpAny_pure (hq _ c2 out (fun b o nb q=>(Heap.get?_update_ne _ _ _ _ nb).trans (k3 b o nb q)) hl hout hc2)
  ·show (List.toArray out).size<=_
   rw[Ztc,hl.length_eq];exact Ztr line (ZuA _)
 dsimp only
 have zs:((vs.toArray.zip vs.toArray).map (·.2))=vs.toArray:=by
  apply Zu8.mp
  simp only[Zu9,Array.toList_zip]
  exact List.map_snd_zip (ZsX _)
 by_cases h2:vs.length<2
 ·have e2:vs.toArray.size<2:=by rw[Ztc];exact h2
  rw[if_pos e2,if_pos e2]
  refine wpAny_bind (wpAny_pure (wpAny_bind (wpAny_pure ?_)))
  refine fin vs _ zs rfl (List.Perm.refl _) ?_
  exact ZiB h2
 ·have e2:¬vs.toArray.size<2:=by rw[Ztc];exact h2
  rw[if_neg e2,if_neg e2]
  refine wpAny_bind (hk (by omega) _ _ k3 ?_)
  have zmem:∀x∈vs.toArray.zip vs.toArray,x.1∈vs/\x.1=x.2:=fun x hx=>by
   have hx:x∈vs.zip vs:=by simpa using hx
   obtain⟨i,hi⟩:=Zt0 hx
   rw[ZtS] at hi
   have e:=hi.1.symm.trans hi.2
   exact⟨ZsW hi.1,Option.some.inj e⟩
  have C:Vb prog w A { s with heap:=h3 } κ (fun x=>x.1∈vs/\x.1=x.2) (fun x y=>Rv x.1 y.1) (fun _ _=>True):=
   ⟨fun x y hx hy _ Q q=>hc _ _ _ hx.1 hy.1 k3 Q q,fun x y hx hy q=>asy _ _ hx.1 hy.1 q,fun x y z hx hy hz q r=>tr _ _ _ hx.1 hy.1 hz.1 q r⟩
  have run:=Qu (E:=E) C C ⟨fun _ _ h=>h,fun _ _ _=>rfl⟩ (st:=SortSt.mk' κ (vs.toArray.zip vs.toArray) #[] 7 none) (Q:=fun _ st'=>failedOf st'=none/\(arrOf st').Perm (vs.toArray.zip vs.toArray)/\Up (fun x y=>Rv x.1 y.1) (arrOf st') 0 (vs.toArray.zip vs.toArray).size) rfl rfl
   (fun i hi=>zmem _ (Array.mem_of_getElem? (VR hi))) rfl (fun _ _ _ _ _ _=>trivial) (fun st' k1 k2 k3=>⟨k1,k2,k3⟩)
  refine wpAny_bind (wpAny_mono run ?_ fun _ _ e=>e)
  rintro⟨⟨⟩,st⟩ s' ⟨rfl,hf,hp,hu⟩
  dsimp only at hf hp hu
  have hsz:(arrOf st).size=(vs.toArray.zip vs.toArray).size:=hp.size_eq
  have same:∀x∈(arrOf st).toList,x.1=x.2:=fun x hx=>(zmem x ((Array.Perm.mem_iff hp).mp (by simpa using hx))).2
  refine fin ((arrOf st).toList.map (·.2)) st ?_ hf ?_ ?_
  ·apply Zu8.mp
   rw[Zu9]
  ·have p1:((arrOf st).toList.map (·.2)).Perm ((vs.toArray.zip vs.toArray).toList.map (·.2)):=(Zu3.mp hp).map _
   have p2:=congrArg Array.toList zs
   rw[Zu9] at p2
   rw[p2] at p1
   simpa using p1
  ·have sr:=hu.srt (Zve (by rw[Zul,hsz]))
   rw[Zu6,ZtC (Zve (by rw[Ztd,hsz]))] at sr
   rw[ZtU]
   refine List.Pairwise.imp_of_mem ?_ sr
   intro x y hx hy q
   rw[<- same x hx,<- same y hy];exact q
theorem Zct{l:Addr}{vs:List Value}{Q:Value->Shared->Prop}(κ:SortKind)(Rv:Value->Value->Bool)(hl:s.heap.IsList l vs.toArray)(hz:vs.length<=1000000)(hk:2<=vs.length->∀(s1:Shared) (Q:SortKind->Shared->Prop),(∀b o,s.heap.get? b=some o->s1.heap.get? b=some o)->Q κ s1->wpAny (model prog w) A.in1.in1 (keyKind' vs.toArray) Q E s1)(hc:∀(s1:Shared) x y,x∈vs->y∈vs->(∀b o,s.heap.get? b=some o->s1.heap.get? b=some o)->∀C:Bool->Shared->Prop,C (Rv x y) s1->wpAny (model prog w) A.in1.in1 (keyLt' κ x y) C (fun _ _=>False) s1)(asy:∀x y,x∈vs->y∈vs->Rv x y=true->Rv y x=false)(tr:∀x y z,x∈vs->y∈vs->z∈vs->Rv y x=false->Rv z y=false->Rv z x=false)(hq:∀D h' c out,(∀b o,s.heap.get? b=some o->h'.get? b=some o)->s.heap.objs.size<=D->out.Perm vs->out.Pairwise (fun x y=>Rv y x=false)->h'.get? D=some (seqObj "list" (List.toArray out) c)->Q (.ref D) { s with heap:=h' }) :
  wpAny (model prog w) A (call (.builtin "sorted") [.ref l]) Q E s:=by
 refine Calls.call_function_entry kind_sorted plain_sorted entry_sorted (args_sorted1 _) ?_
 unfold Builtin.«sorted»
 have line:vs.length<=sizeLine:=JB hz
 refine wpAny_bind (m:=checkCount "sorted" 1 1 _) (wpAny_pure (wpAny_bind (collect_list hl (wpAny_bind (wpAny_newList ?_ line)) line)))
 generalize eg:(s.heap.push (seqObj "list" #[] 0)).update s.heap.objs.size (Obj.mapSeq (·++vs.toArray))=h1
 have z1:h1.objs.size=s.heap.objs.size+1:=by subst eg;rw[Heap.size_update,size_push']
 have k1:∀b o,s.heap.get? b=some o->h1.get? b=some o:=fun b o q=>by
  have lb:=Heap.lt_size q
  subst eg
  rw[Heap.get?_update_ne _ _ _ _ (Zt1 lb)]
  exact Heap.get?_push_of_some _ q
 have hD:(h1.push (seqObj "list" vs.toArray 0)).get? h1.objs.size=some (seqObj "list" vs.toArray 0):=Heap.get?_push_size _ rfl
 show wpAny _ _ _ _ _ { s with heap:=h1.push (seqObj "list" vs.toArray 0) }
 have up:∀(h2:Heap),(∀b o,b≠h1.objs.size->(h1.push (seqObj "list" vs.toArray 0)).get? b=some o->h2.get? b=some o)->∀b o,s.heap.get? b=some o->h2.get? b=some o:=fun h2 k b o q =>
  k b o (Zt1 (by rw[z1];exact ZuK (Heap.lt_size q))) (Heap.get?_push_of_some _ (k1 b o q))
 refine wpAny_bind (wpAny_holding (wpAny_call_entry slot_list_sort ⟨_,hD,rfl⟩ entry_list_sort (Zeh (s:={ s with heap:=h1.push (seqObj "list" vs.toArray 0) }) κ Rv hD hz (fun h2 s1 Q k q=>hk h2 s1 Q (up _ k) q) (fun s1 x y hx hy k C q=>hc s1 x y hx hy (up _ k) C q) asy tr fun h' c out k p1 p2 e=>?_) (args_list_sort _)))
 exact⟨_,rfl,wpAny_pure ⟨_,rfl,hq _ h' c out (up _ k) (by rw[z1];exact ZuA _) p1 p2 e⟩⟩
end
noncomputable def ZnJ:Value->Int
 |.int i _=>i
 |_=>0
theorem Ve:∀{ns:List Int}{us:List Value},ZR (ns.map V.int) us->us.map ZnJ=ns/\∀u∈us,∃i t,u=Value.int i t
 |[],_,.nil=>⟨rfl,by simp⟩
 |n::ns,_,.cons (b:=u) r rr=>by
  obtain⟨t,rfl⟩:=r
  obtain⟨h1,h2⟩:=Ve rr
  refine⟨by rw[Zte,h1];rfl,fun v hv=>?_⟩
  rcases Zti.mp hv with rfl|hv
  ·exact⟨n,t,rfl⟩
  ·exact h2 v hv
section
end
noncomputable def ZkA(x:List Int):List (List Int)->List (List Int)
 |[]=>[x]
 |y::l=>if HT.Z1 y x=true then y::ZkA x l else x::y::l
noncomputable def ZaL:List (List Int)->List (List Int)
 |[]=>[]
 |x::l=>ZkA x (ZaL l)
noncomputable abbrev UpU(l:List (List Int)):Prop:=l.Pairwise fun a b=>HT.Z1 b a=false
theorem QN(x:List Int):∀l,(ZkA x l).Perm (x::l)
 |[]=>List.Perm.refl _
 |y::l=>by
  unfold ZkA
  split
  ·exact((QN x l).cons y).trans (List.Perm.swap x y l)
  ·exact List.Perm.refl _
theorem ZC:∀l,(ZaL l).Perm l
 |[]=>List.Perm.refl _
 |x::l=>(QN x _).trans ((ZC l).cons x)
theorem V4{a b c:List Int}(h1:HT.Z1 b a=false)(h2:HT.Z1 c b=false):HT.Z1 c a=false:=by
 cases h:HT.Z1 c a with
 |false=>rfl
 |true =>
  exfalso
  cases h3:HT.Z1 a b with
  |true=>rw[HL.Ua h h3] at h2;cases h2
  |false=>rw[HL.JM h3 h1] at h;rw[h] at h2;cases h2
theorem QF{a b:List Int}(h:HT.Z1 a b=true):HT.Z1 b a=false:=by
 cases h2:HT.Z1 b a with
 |false=>rfl
 |true=>have:=HL.Ua h h2;rw[HL.V5] at this;cases this
theorem ZfY{x:List Int}:∀{l:List (List Int)},UpU l->UpU (ZkA x l)
 |[],_=>ZuG _ _
 |y::l,h=>by
  obtain⟨h1,h2⟩:=ZtY.mp h
  unfold ZkA
  split
  ·rename_i e
   refine ZtY.mpr ⟨fun z hz=>?_,ZfY h2⟩
   rcases Zti.mp ((QN x l).mem_iff.mp hz) with rfl|hz
   ·exact QF e
   ·exact h1 z hz
  ·rename_i e
   have e:=Bool.eq_false_iff.mpr e
   refine ZtY.mpr ⟨fun z hz=>?_,h⟩
   rcases Zti.mp hz with rfl|hz
   ·exact e
   ·exact V4 e (h1 z hz)
theorem VX:∀l,UpU (ZaL l)
 |[]=>List.Pairwise.nil
 |x::l=>ZfY (VX l)
theorem Qc:∀{l m:List (List Int)},UpU l->UpU m->l.Perm m->l=m
 |[],m,_,_,p=>(List.nil_perm.mp p).symm
 |x::l,[],_,_,p=>absurd (List.perm_nil.mp p) (by simp)
 |x::l,y::m,h1,h2,p=>by
  obtain⟨a1,a2⟩:=ZtY.mp h1
  obtain⟨b1,b2⟩:=ZtY.mp h2
  have e:x=y:=by
   have hx:x∈y::m:=p.mem_iff.mp (by simp)
   have hy:y∈x::l:=p.mem_iff.mpr (by simp)
   rcases Zti.mp hx with z|z
   ·exact z
   ·rcases Zti.mp hy with z'|z'
    ·exact z'.symm
    ·exact HL.JM (b1 x z) (a1 y z')
  subst e
  rw[Qc a2 b2 (List.perm_cons _ |>.mp p)]
theorem Zjr{l m:List (List Int)}(p:l.Perm m):ZaL l=ZaL m:=Qc (VX l) (VX m) ((ZC l).trans (p.trans (ZC m).symm))
noncomputable def VB(ts:List PL2)(a:Addr):List Int:=((ts.find? fun t=>decide (t.1=a)).map (·.2)).getD []
theorem JY{ts:List PL2}(hu:∀t∈ts,∀t'∈ts,t.1=t'.1->t.2=t'.2){t:PL2}(ht:t∈ts):VB ts t.1=t.2:=by
 unfold VB
 cases hf:ts.find? fun q=>decide (q.1=t.1) with
 |none=>exact absurd (decide_eq_true rfl) (ZuH.mp hf t ht)
 |some q =>
  have h1:=List.find?_some hf
  have h2:=List.mem_of_find?_eq_some hf
  exact hu q h2 t ht (of_decide_eq_true h1)
noncomputable def VI:Value->Addr
 |.ref a=>a
 |_=>0
theorem Qx:∀{ts:List PL2}{us:List Value},ZR (ts.map fun t=>V.ref t.1) us->us=ts.map fun t=>Value.ref t.1
 |[],_,.nil=>rfl
 |t::ts,_,.cons r rr=>by
  have r:_=Value.ref t.1:=r
  rw[r,Qx rr];rfl
theorem Q4:∀(ts:List PL2),ZR (ts.map fun t=>V.ref t.1) (ts.map fun t=>Value.ref t.1)
 |[]=>.nil
 |t::ts=>.cons rfl (Q4 ts)
section
variable {X:Cx}
def Zfo(K:W.Frag):List V->Hp->VK->Prop:=fun xs H Q=>∃p,∃ts:List PL2,xs=[.ref p]/\SqL K H p (ts.map fun t=>V.ref t.1) /\
  (∀t∈ts,SqT K H t.1 (t.2.map V.int)/\t.2≠[])/\ts.length<=1000000/\∀l,H l=none->∀qs:List PL2,qs.Perm ts->UpU (qs.map (·.2))->Q (.ref l) (upd H l (.lst (qs.map fun t=>V.ref t.1)))
theorem Ze8:Vc X (.builtin "sorted") (Zfo X.K):=by
 intro pins s σ H xs us Q I r h
 obtain⟨p,ts,rfl,hq,hall,hz0,q⟩:=h
 obtain⟨u,rfl,rx⟩:=UX r
 cases rx
 obtain⟨its,r',pl,hz⟩:=I.list hq
 have hits:=Qx r'
 subst hits
 have tup:∀(s1:Shared),(∀b o,s.heap.get? b=some o->s1.heap.get? b=some o)->∀t∈ts,∃vs:List Value,ZR (t.2.map V.int) vs/\IsTup s1.heap t.1 vs.toArray:=fun s1 k t ht=>by
  have I':Inv X pins σ H { s with heap:=s1.heap,toks:=s1.toks }:=I.kept k
  obtain⟨vs,rv,pt,_⟩:=I'.tuple (hall t ht).1
  exact⟨vs,rv,pt⟩
 have hu:∀t∈ts,∀t'∈ts,t.1=t'.1->t.2=t'.2:=fun t ht t' ht' e=>by
  obtain⟨vs,rv,ob,eo,oc,k1,od⟩:=tup s (fun _ _ h=>h) t ht
  obtain⟨vs',rv',ob',eo',oc',k1',od'⟩:=tup s (fun _ _ h=>h) t' ht'
  rw[e,eo'] at eo
  cases eo
  rw[od] at od'
  have e2:vs.toArray=vs'.toArray:=by injection od'
  have e3:vs=vs':=by simpa using e2
  subst e3
  rw[<- (Ve rv).1,<- (Ve rv').1]
 refine Zct (tuples' true) (fun x y=>HT.Z1 (VB ts (VI x)) (VB ts (VI y))) pl.isList (by simpa using hz0) (fun h2 s1 Q' k q'=>?_) (fun s1 x y hx hy k C q'=>?_) (fun x y _ _ h=>QF h) (fun x y z _ _ _ h1 h2=>V4 h1 h2) fun D h' c out k hD p1 p2 e=>?_
 ·have:∀(ts:List PL2) (its:List Value),(∀t∈ts,t.2≠[]/\∃vs:List Value,ZR (t.2.map V.int) vs/\IsTup s1.heap t.1 vs.toArray)->ZR (ts.map fun t=>V.ref t.1) its->∃fs:List Value,fs.length=ts.length/\PySem.W.KatTups s1.heap its fs/\∀v∈fs,∃n t,v=Value.int n t:=by
   intro ts
   induction ts with
   |nil =>
    intro its _ rv
    cases rv
    exact⟨[],rfl,trivial,by simp⟩
   |cons t ts ih =>
    intro its ht rv
    cases rv with
    |cons rv tv =>
     obtain⟨fs,e1,e2,e3⟩:=ih _ (fun t' h'=>ht t' (Ztz _ h')) tv
     obtain⟨hne,vs,rvs,ob,eo,oc,k,od⟩:=ht t (ZtG ..)
     obtain⟨n,ns,en⟩:=Zu4 hne
     rw[en] at rvs
     cases rvs with
     |cons rn tn =>
      obtain⟨tk,rfl⟩:=rn
      have rv':_=Value.ref t.1:=rv
      subst rv'
      exact⟨.int n tk::fs,by simp[e1],⟨⟨t.1,ob,_,k,rfl,eo,oc,od,rfl⟩,e2⟩,fun v hv=>(Zti.mp hv).elim (fun z=>⟨n,tk,z⟩) (e3 v)⟩
  obtain⟨fs,e1,e2,e3⟩:=this ts _ (fun t ht=>⟨(hall t ht).2,tup s1 k t ht⟩) r'
  exact PySem.W.kat_kind (T:=.type "int") e2 (by rw[e1];simp at h2;omega) (fun v hv=>by obtain⟨n,t,rfl⟩:=e3 v hv;exact PySem.W.Looks.of_pure rfl) rfl q'
 ·obtain⟨t,ht,rfl⟩:=Ztm.mp hx
  obtain⟨t',ht',rfl⟩:=Ztm.mp hy
  obtain⟨vs,rv,ob,eo,oc,k1,od⟩:=tup s1 k t ht
  obtain⟨vs',rv',ob',eo',oc',k1',od'⟩:=tup s1 k t' ht'
  refine PySem.W.kat_lt eo od eo' od' (Zbc rv rv' ?_ ?_)
  ·simp
  ·rw[show VI (.ref t.1)=t.1 from rfl,show VI (.ref t'.1)=t'.1 from rfl,JY hu ht,JY hu ht'] at q'
   exact q'
 ·have ho:∀u∈out,∃t∈ts,u=Value.ref t.1:=fun u hu=>by
   obtain⟨t,ht,e⟩:=Ztm.mp (p1.mem_iff.mp hu)
   exact⟨t,ht,e.symm⟩
  have hp:(out.map fun v=>((VI v,VB ts (VI v)):PL2)).Perm ts:=by
   have h1:=p1.map fun v=>((VI v,VB ts (VI v)):PL2)
   rw[Zt2] at h1
   have h2:ts.map ((fun v=>((VI v,VB ts (VI v)):PL2))∘fun t=>Value.ref t.1)=ts:=by
    have:ts.map ((fun v=>((VI v,VB ts (VI v)):PL2))∘fun t=>Value.ref t.1)=ts.map id:=ZtK fun t ht=>by
     show ((t.1,VB ts t.1):PL2)=t
     rw[JY hu ht]
    rw[this,List.map_id]
   rw[h2] at h1
   exact h1
  have hup:UpU ((out.map fun v=>((VI v,VB ts (VI v)):PL2)).map (·.2)):=by
   rw[Zt2]
   exact ZtU.mpr (p2.imp fun h=>h)
  have hout:out=(out.map fun v=>((VI v,VB ts (VI v)):PL2)).map fun t=>Value.ref t.1:=by
   rw[Zt2]
   have:out.map ((fun(t:PL2)=>Value.ref t.1)∘fun v=>((VI v,VB ts (VI v)):PL2))=out.map id:=ZtK fun u hu=>by
    obtain⟨t,ht,rfl⟩:=ho u hu
    rfl
   rw[this,List.map_id]
  generalize (out.map fun v=>((VI v,VB ts (VI v)):PL2))=qs at hp hup hout
  have I1:Inv X pins σ (upd H D (.lst (qs.map fun t=>V.ref t.1))) { s with heap:=h' }:=by
   refine I.laid (t':=s.toks) k hD ⟨?_,_,c, ?_,e⟩
   ·rw[ZsV,hp.length_eq];exact JB hz0
   ·rw[hout];exact Q4 qs
  exact⟨.ref D,_,I1,rfl,q D (I.hok.fresh hD) qs hp hup⟩
theorem QZ{K:W.Frag}(e:X.K=K:=by rfl):Vc X (.builtin "sorted") (Zfo K):=by subst e;exact Ze8
end
def OkU(ts:List (List Int)):Prop:=(∀t∈ts,t≠[])/\ts.length<=1000000
open Classical in
noncomputable def Zd3(xs:List PV):Rr PV:=if h:∃ts:List (List Int),xs=[.lst (ts.map ZD)]/\OkU ts then newF ((ZaL h.choose).map ZD) else .bad
theorem ZbE{ts:List (List Int)}(h:OkU ts):Zd3 [.lst (ts.map ZD)]=newF ((ZaL ts).map ZD):=by
 have hex:∃us:List (List Int),[PV.lst (ts.map ZD)]=[.lst (us.map ZD)]/\OkU us:=⟨ts,rfl,h⟩
 unfold Zd3
 rw[dif_pos hex]
 have hs:ts.map ZD=hex.choose.map ZD:=PV.lst.inj (List.cons.inj hex.choose_spec.1).1
 have e:hex.choose=ts:=(V1 hs).symm
 rw[e]
section
variable {K:W.Frag}{B:Addr->Prop}{EX:PX->Hp->Prop}{H0 H:Hp}{σ:St}{Γ Γ':List Md}{ρ:List PV}{F:Nat->List Addr}{R:List Addr}{ta:TA}{fa:List PV->Rr (List PV)}
theorem UG{S:Addr->Prop}:∀{ts:List (List Int)}{vs:List V},Reps K H S (ts.map ZD) vs->∃qs:List PL2,vs=(qs.map fun t=>V.ref t.1)/\(qs.map fun t=>t.2)=ts/\∀t∈qs,SqT K H t.1 (t.2.map V.int)/\Rep K H S (ZD t.2) (V.ref t.1)
 |[],vs,h=>⟨[],h,rfl,by simp⟩
 |ns::ts,vs,h=>by
  obtain⟨v,r,rfl,h1,h2⟩:=h
  obtain⟨qs,rfl,e2,e3⟩:=UG h2
  have h1':=h1
  obtain⟨a,ws,rfl,hn,hr⟩:=h1
  have:=Vh hr
  subst this
  refine⟨(a,ns)::qs,rfl,by rw[Zte,e2],fun t ht=>?_⟩
  rcases Zti.mp ht with rfl|ht
  ·exact⟨hn.sqT,h1'⟩
  ·exact e3 t ht
theorem Zff{S:Addr->Prop}:∀{qs:List PL2},(∀t∈qs,Rep K H S (ZD t.2) (V.ref t.1))->Reps K H S ((qs.map (·.2)).map ZD) (qs.map fun t=>V.ref t.1)
 |[],_=>rfl
 |t::qs,h=>⟨_,_,rfl,h t (ZtG ..),Zff fun q hq=>h q (Ztz _ hq)⟩
theorem ZdP(ha:DAA K EX Γ Γ' ta fa):DE K EX Γ Γ' .F (tCB (Zfo K) ta) (fun ρ=>(fa ρ).bind Zd3):=fun B H0 H σ ρ F R Q A d=>by
 refine ha B H0 H σ ρ F R _ A (d.bind.imp (fun xs _ d vs H1 F1 s1 f1 p1 A1=>?_) fun e q=>q)
 unfold Zd3 at d
 split at d
 ·rename_i hex
  have hs:=hex.choose_spec
  generalize hex.choose=ts at d hs
  obtain⟨rfl,hne,hl⟩:=hs
  obtain⟨h1,h2,d⟩:=Dn.newF d
  obtain⟨v,rfl,a,ws,rfl,hn,hr⟩:=VM p1
  obtain⟨qs,rfl,rfl,e3⟩:=UG hr
  refine⟨a,qs,rfl,JI (S:=fun _=>True) hn,fun t ht=>⟨(e3 t ht).1,hne _ (Zvc ht)⟩,by simpa using hl,fun l hz zs hp hup=>?_⟩
  have e:ZaL (qs.map (·.2))=zs.map (·.2):=Qc (VX _) hup ((ZC _).trans (hp.map (·.2)).symm)
  have pr:=Zff (K:=K) (H:=H1) (S:=fun _=>True) (qs:=zs) fun t ht=>(e3 t (hp.mem_iff.mp ht)).2
  rw[<- e] at pr
  exact d _ _ (s1.trans (Z7.new hz)) (Res.newP s1 f1 pr h1 A1 hz)
 ·exact d.elim
end
end L2
namespace My
open L2
def Bs(n:Nat)(s:Int)(b:List Int):Prop:=b.length=n/\(∀x∈b,0<=x)/\b.sum=s
theorem Bs.sow{n:Nat}{s:Int}{b:List Int}(h:Bs n s b){p:Int}(h0:0<=p)(h1:p<n):Bs n s (Vo b p):=by
 obtain⟨l,nn,sm⟩:=h
 refine⟨by rw[Zcs];exact l,fun x hx=>?_,by rw[ZgW h0 (by omega) (Zgc nn _)];exact sm⟩
 unfold Vo tab at hx
 obtain⟨y,hy,rfl⟩:=Ztm.mp hx
 exact Zjt nn _ y (Zty.mp hy)
theorem Zh4:∀(n:Nat) (l:List Nat),l.Nodup->(∀x∈l,x<n)->l.length<=n:=by
 intro n
 induction n with
 |zero=>intro l _ h;cases l with
  |nil=>exact ZsX _
  |cons x l=>exact absurd (h x (by simp)) (by omega)
 |succ n ih =>
  intro l hd h
  have e:=ih (l.erase n) (hd.erase n) (fun x hx=>by
   have:=h x (List.mem_of_mem_erase hx)
   have:x≠n:=fun z=>by subst z;exact(List.Nodup.mem_erase_iff hd).mp hx |>.1 rfl
   omega)
  by_cases c:n∈l
  ·rw[List.length_erase_of_mem c] at e;omega
  ·rw[List.erase_of_not_mem c] at e;omega
theorem ZiJ{a b:List Int}(hl:a.length=b.length)(hs:a.sum=b.sum)(ha:∀x∈a,0<=x)(hb:∀x∈b,0<=x)(h:HT.Z1 a b=true):ZfD a≠ZfD b:=by
 obtain⟨i,i1,i2,i3⟩:=Zn8 h
 have:=ZfC hl hs ha hb (fun z=>by rw[z] at hl;simp at hl;omega) ⟨i,by omega,i2,by omega⟩
 unfold ZfD
 rw[hl,hs]
 omega
theorem ZjO{a b:List Int}(hl:a.length=b.length)(hs:a.sum=b.sum)(ha:∀x∈a,0<=x)(hb:∀x∈b,0<=x)(h:ZfD a=ZfD b):a=b:=by
 cases h1:HT.Z1 a b with
 |true=>exact absurd h (ZiJ hl hs ha hb h1)
 |false =>
  cases h2:HT.Z1 b a with
  |true=>exact absurd h.symm (ZiJ hl.symm hs.symm hb ha h2)
  |false=>exact HL.JM h1 h2
theorem ZiX{n:Nat}{s:Int}(hn:1<=n){L:List (List Int)}(nd:L.Nodup)(hL:∀x∈L,Bs n s x):L.length<=(cbN n s).toNat:=by
 have hb:∀x∈L,0<=ZfD x/\ZfD x<cbN n s:=fun x hx=>by
  obtain⟨l,nn,sm⟩:=hL x hx
  have:=ZjP (l:=x) (fun z=>by rw[z] at l;simp at l;omega) nn
  rw[l,sm] at this
  exact this
 have h:=Zh4 (cbN n s).toNat (L.map fun x=>(ZfD x).toNat) (by
  rw[ZtQ,ZtU]
  refine(ZtQ.mp nd).imp_of_mem ?_
  intro a b ha hb' hab e
  obtain⟨l,nn,sm⟩:=hL a ha
  obtain⟨l',nn',sm'⟩:=hL b hb'
  have:=hb a ha
  have:=hb b hb'
  exact hab (ZjO (by omega) (by omega) nn nn' (by omega))) (fun z hz=>by
  obtain⟨x,hx,rfl⟩:=Ztm.mp hz
  have:=hb x hx
  omega)
 rw[ZsV] at h
 exact h
inductive Rch(P:List Int)(b:List Int):List Int->Prop
 |refl:Rch P b b
 |step {x:List Int}{p:Int}:Rch P b x->p∈P->0<x.getD p.toNat 0->Rch P b (Vo x p)
theorem Rch.bs{P b:List Int}{n:Nat}{s:Int}(hP:∀p∈P,0<=p/\p<n)(hb:Bs n s b){x:List Int}(h:Rch P b x):Bs n s x:=by
 induction h with
 |refl=>exact hb
 |step _ hp hx ih=>exact ih.sow (hP _ hp).1 (hP _ hp).2
noncomputable def Jk(P:List Int)(x:List Int):List (Int×List Int):=(P.filter fun p=>decide (0<x.getD p.toNat 0)).map fun p=>(p,Vo x p)
theorem Jp{P x:List Int}{y:Int×List Int}:y∈Jk P x ↔ y.1∈P/\0<x.getD y.1.toNat 0/\y.2=Vo x y.1:=by
 unfold Jk
 constructor
 ·intro h
  obtain⟨p,hp,rfl⟩:=Ztm.mp h
  obtain⟨h1,h2⟩:=ZtA.mp hp
  exact⟨h1,of_decide_eq_true h2,rfl⟩
 ·rintro⟨h1,h2,h3⟩
  refine Ztm.mpr ⟨y.1,ZtA.mpr ⟨h1,decide_eq_true h2⟩, ?_⟩
  rw[<- h3]
noncomputable abbrev NB:=List (List Int)×List (List Int)×List PV
noncomputable def stB(x:List Int)(st:NB)(y:Int×List Int):NB:=if y.2∈st.2.1 then st else (st.1++[y.2],st.2.1++[y.2],st.2.2++[.tup [ZD x,.int y.1]])
noncomputable def bdB(P x:List Int)(st:NB):NB:=(Jk P x).foldl (stB x) st
noncomputable def lvB(P:List Int)(lv:List (List Int))(st:NB):NB:=lv.foldl (fun st x=>bdB P x st) st
structure Fo(R:List Int->Prop)(bs0:List (List Int))(st:NB):Prop where
 app:st.2.1=bs0++st.1
 nd:st.2.1.Nodup
 re:∀x∈st.2.1,R x
 ln:st.2.2.length=st.2.1.length
 fl:PV.flats st.2.2=true
theorem Za0:∀(xs:List PV) (y:PV),PV.flats xs=true->PV.flat y=true->PV.flats (xs++[y])=true
 |[],y,_,h=>by simp[PV.flats,h]
 |x::xs,y,h1,h2=>by
  simp only[PV.flats,Bool.and_eq_true] at h1
  simp only[Zuv,PV.flats,Bool.and_eq_true]
  exact⟨h1.1,Za0 xs y h1.2 h2⟩
section
variable {R:List Int->Prop}{bs0:List (List Int)}{st:NB}
theorem Fo.one(h:Fo R bs0 st){x:List Int}{y:Int×List Int}(hy:R y.2):Fo R bs0 (stB x st y)/\(∀z∈st.2.1,z∈(stB x st y).2.1)/\y.2∈(stB x st y).2.1:=by
 unfold stB
 split
 ·rename_i c
  exact⟨h,fun z hz=>hz,c⟩
 ·rename_i c
  refine⟨⟨by simp[h.app], ?_,fun z hz=>?_,by simp[h.ln], ?_⟩,fun z hz=>by simp[hz],by simp⟩
  ·show (st.2.1++[y.2]).Nodup
   rw[ZuM]
   refine⟨h.nd,by simp,fun a ha b hb e=>?_⟩
   rw[Ztj.mp hb] at e
   rw[e] at ha
   exact c ha
  ·rcases Zta.mp hz with hz|hz
   ·exact h.re z hz
   ·rw[Ztj.mp hz];exact hy
  ·exact Za0 _ _ h.fl (by simp only[PV.flat,PV.flats,J0,Bool.and_self])
theorem Fo.fold{x:List Int}:∀{L:List (Int×List Int)}{st:NB},Fo R bs0 st->(∀y∈L,R y.2)->Fo R bs0 (L.foldl (stB x) st)/\(∀z∈st.2.1,z∈(L.foldl (stB x) st).2.1)/\∀y∈L,y.2∈(L.foldl (stB x) st).2.1
 |[],st,h,_=>⟨h,fun z hz=>hz,by simp⟩
 |y::L,st,h,hL=>by
  obtain⟨a1,a2,a3⟩:=h.one (x:=x) (hL y (by simp))
  obtain⟨b1,b2,b3⟩:=Fo.fold (x:=x) (L:=L) a1 fun z hz=>hL z (by simp[hz])
  refine⟨b1,fun z hz=>b2 z (a2 z hz),fun z hz=>?_⟩
  rcases Zti.mp hz with rfl|hz
  ·exact b2 _ a3
  ·exact b3 z hz
end
section
variable {P b:List Int}{bs0:List (List Int)}
theorem Fo.lv:∀{lv:List (List Int)}{st:NB},Fo (Rch P b) bs0 st->(∀x∈lv,Rch P b x)->Fo (Rch P b) bs0 (lvB P lv st)/\(∀z∈st.2.1,z∈(lvB P lv st).2.1)/\∀x∈lv,∀p∈P,0<x.getD p.toNat 0->Vo x p∈(lvB P lv st).2.1
 |[],st,h,_=>⟨h,fun z hz=>hz,by simp⟩
 |x::lv,st,h,hL=>by
  obtain⟨a1,a2,a3⟩:=Fo.fold (x:=x) (L:=Jk P x) h fun y hy=>by
   obtain⟨h1,h2,h3⟩:=Jp.mp hy
   rw[h3]
   exact .step (hL x (by simp)) h1 h2
  obtain⟨b1,b2,b3⟩:=Fo.lv (lv:=lv) a1 fun z hz=>hL z (by simp[hz])
  refine⟨b1,fun z hz=>b2 z (a2 z hz),fun z hz p hp hx=>?_⟩
  rcases Zti.mp hz with rfl|hz
  ·exact b2 _ (a3 (p,Vo z p) (Jp.mpr ⟨hp,hx,rfl⟩))
  ·exact b3 z hz p hp hx
end
noncomputable def wk(P b:List Int):Nat->NB
 |0=>([b],[b],[.non])
 |i+1=>lvB P (wk P b i).1 ([],(wk P b i).2)
structure Wk(P b:List Int)(st:NB):Prop where
 nd:st.2.1.Nodup
 re:∀x∈st.2.1,Rch P b x
 sub:∀x∈st.1,x∈st.2.1
 cl:∀x∈st.2.1,x∈st.1\/∀p∈P,0<x.getD p.toNat 0->Vo x p∈st.2.1
 bg:b∈st.2.1
 ln:st.2.2.length=st.2.1.length
 fl:PV.flats st.2.2=true
theorem Zb3(P b:List Int):∀i,Wk P b (wk P b i)
 |0=>⟨by simp[wk],fun x hx=>by rw[Ztj.mp hx];exact .refl,fun x hx=>hx,fun x hx=>.inl hx,by simp[wk],rfl,rfl⟩
 |i+1=>by
  have h:=Zb3 P b i
  have f0:Fo (Rch P b) (wk P b i).2.1 ([],(wk P b i).2):=⟨by simp,h.nd,h.re,h.ln,h.fl⟩
  obtain⟨a1,a2,a3⟩:=Fo.lv f0 fun x hx=>h.re x (h.sub x hx)
  show Wk P b (lvB P (wk P b i).1 ([],(wk P b i).2))
  refine⟨a1.nd,a1.re,fun x hx=>?_,fun x hx=>?_,a2 _ h.bg,a1.ln,a1.fl⟩
  ·rw[a1.app];exact Zta.mpr (.inr hx)
  ·rw[a1.app] at hx
   rcases Zta.mp hx with hx|hx
   ·right
    intro p hp hp0
    rcases h.cl x hx with c|c
    ·exact a3 x c p hp hp0
    ·exact a2 _ (c p hp hp0)
   ·exact .inl hx
theorem Ziw(P b:List Int)(i:Nat):(wk P b (i+1)).2.1=(wk P b i).2.1++(wk P b (i+1)).1:=by
 have h:=Zb3 P b i
 have f0:Fo (Rch P b) (wk P b i).2.1 ([],(wk P b i).2):=⟨by simp,h.nd,h.re,h.ln,h.fl⟩
 exact(Fo.lv f0 fun x hx=>h.re x (h.sub x hx)).1.app
theorem Ziv(P b:List Int):∀i,(∀j,j<=i->(wk P b j).1≠[])->i+1<=(wk P b i).2.1.length
 |0,_=>by simp[wk]
 |i+1,h=>by
  have ih:=Ziv P b i fun j hj=>h j (by omega)
  rw[Ziw,Ztv]
  have:=List.length_pos_iff.mpr (h (i+1) (ZsX _))
  omega
noncomputable def wkN(P b:List Int):Nat:=((List.range 1001).find? fun i=>(wk P b i).1.isEmpty).getD 0
structure Zbz(n:Nat)(s:Int)(P b:List Int):Prop where
 n1:1<=n
 hP:∀p∈P,0<=p/\p<n
 hb:Bs n s b
 few:cbN n s<=1000
theorem Zbz.le{n:Nat}{s:Int}{P b:List Int}(h:Zbz n s P b)(i:Nat):(wk P b i).2.1.length<=1000:=by
 have:=ZiX h.n1 (Zb3 P b i).nd fun x hx=>((Zb3 P b i).re x hx).bs h.hP h.hb
 have:=h.few
 omega
theorem Zbz.end{n:Nat}{s:Int}{P b:List Int}(h:Zbz n s P b):wkN P b<=1000/\(wk P b (wkN P b)).1=[]/\∀j,j<wkN P b->(wk P b j).1≠[]:=by
 have hex:∃i,i<1001/\(wk P b i).1=[]:=by
  apply Classical.byContradiction
  intro c
  have:=Ziv P b 1000 fun j hj e=>c ⟨j,by omega,e⟩
  have:=h.le 1000
  omega
 obtain⟨t,t1,t2⟩:=hex
 unfold wkN
 cases hf:(List.range 1001).find? fun i=>(wk P b i).1.isEmpty with
 |none =>
  have:=ZuH.mp hf t (Zty.mpr t1)
  rw[t2] at this
  exact absurd rfl this
 |some q =>
  obtain⟨q1,q2,q3⟩:=List.find?_range_eq_some.mp hf
  refine⟨by have:=Zty.mp q2;simp only[ZtZ];omega,List.isEmpty_iff.mp q1,fun j hj e=>?_⟩
  have:=q3 j hj
  simp[e] at this
noncomputable def Zaq(P b:List Int):List (List Int):=(wk P b (wkN P b)).2.1
theorem Zbz.mem{n:Nat}{s:Int}{P b:List Int}(h:Zbz n s P b){x:List Int}:x∈Zaq P b ↔ Rch P b x:=by
 have W:=Zb3 P b (wkN P b)
 have e:=h.end.2.1
 constructor
 ·exact fun hx=>W.re x hx
 ·intro hx
  induction hx with
  |refl=>exact W.bg
  |step _ hp h0 ih =>
   rcases W.cl _ ih with c|c
   ·rw[e] at c;cases c
   ·exact c _ hp h0
theorem ZaO(P b:List Int):(Zaq P b).Nodup:=(Zb3 P b _).nd
noncomputable def ZiU(P b:List Int):List (List Int):=ZaL (Zaq P b)
theorem Zkr(P b:List Int):(ZiU P b).Nodup:=(ZC _).nodup_iff.mpr (ZaO P b)
theorem Zbz.com{n:Nat}{s:Int}{P b:List Int}(h:Zbz n s P b){x:List Int}:x∈ZiU P b ↔ Rch P b x:=by
 unfold ZiU
 rw[(ZC _).mem_iff,h.mem]
theorem Zbz.go{n:Nat}{s:Int}{P b:List Int}(h:Zbz n s P b){x:List Int}(hx:Rch P b x):Zbz n s P x:=⟨h.n1,h.hP,hx.bs h.hP h.hb,h.few⟩
noncomputable def endB(P x:List Int):Bool:=P.all fun p=>decide (x.getD p.toNat 0=0)
noncomputable def Zj(n:Nat)(l:List Int):List Int:=((List.range n).filter fun(i:Nat)=>decide ((i:Int) ∉ l)).map fun(i:Nat)=>(i:Int)
theorem VA{n:Nat}{l:List Int}{p:Int}:p∈Zj n l ↔ (0<=p/\p<n)/\p ∉ l:=by
 unfold Zj
 constructor
 ·intro h
  obtain⟨i,hi,rfl⟩:=Ztm.mp h
  obtain⟨h1,h2⟩:=ZtA.mp hi
  have:=Zty.mp h1
  exact⟨by omega,of_decide_eq_true h2⟩
 ·rintro⟨h1,h2⟩
  exact Ztm.mpr ⟨p.toNat,ZtA.mpr ⟨Zty.mpr (by omega),decide_eq_true (by rw[Zt6 h1.1];exact h2)⟩,by omega⟩
theorem Vl(n:Nat)(l:List Int):(Zj n l).length<=n:=by
 unfold Zj
 rw[ZsV]
 exact Ztr (ZtH _ _) (by simp)
section
variable {n:Nat}{s:Int}{P b:List Int} (F:Zbz n s P b)
include F
end
end My
namespace My
open PySem L2
end My
namespace My
open L2
theorem Zja:∀{ks:List (List Key)}{xs:List PV}{k:List Key}{v:PV}{j:Nat},ks.Nodup->ks[j]?=some k->xs[j]?=some v->atK ks xs k=some v
 |[],_,_,_,_,_,h,_=>by simp at h
 |k'::ks,[],_,_,_,_,_,h=>by simp at h
 |k'::ks,x::xs,k,v,0,_,h1,h2=>by
  simp at h1 h2
  subst h1 h2
  simp[atK]
 |k'::ks,x::xs,k,v,j+1,nd,h1,h2=>by
  simp only[Zut] at h1 h2
  obtain⟨n1,n2⟩:=ZtW.mp nd
  have:k'≠k:=fun e=>n1 (by rw[e];exact ZsW h1)
  have ih:=Zja n2 h1 h2
  simp only[atK]
  rw[if_neg this]
  exact ih
theorem ZkN{bs:List (List Int)}(h:bs.Nodup):(bs.map tI).Nodup:=by
 rw[ZtQ,ZtU]
 exact(ZtQ.mp h).imp fun hab e=>hab (Zdi e)
structure Zoa(ks:List (List Key))(vs:List PV)(N:Nat)(ys:Nat->List Int)(ps:Nat->Int):Prop where
 up:∀t,t<N->atK ks vs (tI (ys t))=some (.tup [ZD (ys (t+1)),.int (ps t)])
 last:atK ks vs (tI (ys N))=some .non
section
variable {n:Nat}{s:Int}{P b o:List Int} (F:Zbz n s P b) (ho:Rch P b o)
include F ho
end
noncomputable abbrev DQ:=List (List Int)×List (List Int)
structure Dq(R:List Int->Prop)(M0:List (List Int))(st:DQ):Prop where
 app:st.2=M0++st.1
 nd:st.2.Nodup
 re:∀z∈st.1,R z
section
end
theorem Zcq{L:List (List Int)}(h:L.Nodup):(ZaL L).Pairwise fun a b=>HT.Z1 a b=true:=by
 have nd:(ZaL L).Nodup:=(ZC L).nodup_iff.mpr h
 have up:=VX L
 generalize ZaL L=M at nd up
 induction M with
 |nil=>exact List.Pairwise.nil
 |cons x M ih =>
  obtain⟨n1,n2⟩:=ZtW.mp nd
  obtain⟨u1,u2⟩:=ZtY.mp up
  refine ZtY.mpr ⟨fun y hy=>?_,ih n2 u2⟩
  cases h1:HT.Z1 x y with
  |true=>rfl
  |false=>exact absurd (HL.JM h1 (u1 y hy)) (fun e=>n1 (by rw[e];exact hy))
end My
namespace L2
open PySem PySem.Spec PyProof.Rows
noncomputable def ZeD(Rk:Value->Value->Bool)(tag:Value->Nat)(x y:Keyed):Bool:=Rk x.1 y.1 || (!(Rk y.1 x.1)&&decide (tag x.2<tag y.2))
theorem Za4{Rk:Value->Value->Bool}{tag:Value->Nat}{x y:Keyed}:ZeD Rk tag x y=false ↔ Rk x.1 y.1=false/\(Rk y.1 x.1=true\/tag y.2<=tag x.2):=by
 unfold ZeD
 cases h1:Rk x.1 y.1<;>cases h2:Rk y.1 x.1<;>simp
section
variable {prog:Program}{w:World}{A:Around}{E:Value->Shared->Prop}{s:Shared}{a kS:Addr}{e1:Nat}{vs ks:List Value}{P:PySem.Fin->Shared->Prop}
theorem ZjX(κ:SortKind)(Rk:Value->Value->Bool)(tag:Value->Nat)(ho:s.heap.get? a=some (seqObj "list" #[] e1)){ne:Nat}(hk0:s.heap.get? kS=some (seqObj "list" ks.toArray ne))(hka:kS≠a)(hz:vs.length<=1000000)(hl:ks.length=vs.length)(hk:2<=vs.length->∀(Q:SortKind->Shared->Prop),Q κ s->wpAny (model prog w) A (keyKind' ks.toArray) Q E s)(hc:∀x y,x∈ks->y∈ks->∀C:Bool->Shared->Prop,C (Rk x y) s->wpAny (model prog w) A (keyLt' κ x y) C (fun _ _=>False) s)(asy:∀x y,x∈ks->y∈ks->Rk x y=true->Rk y x=false)(tr:∀x y z,x∈ks->y∈ks->z∈ks->Rk y x=false->Rk z y=false->Rk z x=false)(ht:∀i x,vs[i]?=some x->tag x=i)(hq:∀h' c (ps:List Keyed),(∀b o,b≠a->b≠kS->s.heap.get? b=some o->h'.get? b=some o)->ps.Perm (ks.zip vs)->ps.Pairwise (fun x y=>ZeD Rk tag y x=false)->h'.get? a=some (seqObj "list" (ps.map (·.2)).toArray c)->P (.done (.ret .none)) { s with heap:=h' }) :
  wpAny (model prog w) A (ksk_end a false vs.toArray e1 (.ref kS) ks.toArray) P E s:=by
 have line:vs.length<=sizeLine:=JB hz
 have hzs:(ks.toArray.zip vs.toArray).size=vs.length:=by rw[Array.size_zip,Ztc,Ztc,hl,Zvr]
 have fin:∀st:SortSt,failedOf st=none->(arrOf st).Perm (ks.toArray.zip vs.toArray)->(arrOf st).toList.Pairwise (fun x y=>ZeD Rk tag y x=false)->wpAny (model prog w) A (ksk_tail a false e1 (.ref kS) st) P E s:=fun st hf hp hs=>by
  have hsz:(arrOf st).size=vs.length:=by rw[hp.size_eq,hzs]
  have b1:=Heap.SameBut.update s.heap kS (Obj.mapSeq fun _=>(#[]:Array Value))
  have a1:(s.heap.update kS (Obj.mapSeq fun _=>(#[]:Array Value))).get? a=some (seqObj "list" #[] e1):=(b1.2 a (Ne.symm hka)).trans ho
  have b2:=Heap.SameBut.update (s.heap.update kS (Obj.mapSeq fun _=>(#[]:Array Value))) a (Obj.mapSeq fun _=>(arrOf st).map (·.2))
  obtain⟨c2,hc2⟩:∃c2,((s.heap.update kS (Obj.mapSeq fun _=>(#[]:Array Value))).update a (Obj.mapSeq fun _=>(arrOf st).map (·.2))).get? a=some (seqObj "list" ((arrOf st).map (·.2)) c2):=⟨_,get?_update_seq a1 _⟩
  unfold ksk_tail
  dsimp only
  refine wpAny_bind (listUpdate_at hk0 rfl (wpAny_bind (wpAny_letGo (wpAny_bind (seqEpoch_at a1 rfl (wpAny_bind (listUpdate_at a1 rfl ?_ (ZtB _) ?_)))))) ?_ (ZtB _))
  ·rw[hf]
   simp only[bne_self_eq_false,Bool.false_eq_true,if_false]
   refine wpAny_pure (hq _ c2 (arrOf st).toList (fun b o nb nk q=>(b2.2 b nb).trans ((b1.2 b nk).trans q)) ?_ hs ?_)
   ·have:=Zu3.mp hp
    rwa [ksk_zip] at this
   ·rw[hc2]
    congr 1
    congr 1
    apply Zu8.mp
    rw[Zu9]
  ·simp only[Bool.false_eq_true,if_false]
   rw[Array.size_map,hsz];exact Ztr line (ZuA _)
  ·rw[Ztc,hl];exact line
 unfold ksk_end
 dsimp only
 simp only[Bool.false_eq_true,if_false]
 by_cases h2:vs.length<2
 ·have e2:vs.toArray.size<2:=by rw[Ztc];exact h2
  rw[if_pos e2,if_pos e2]
  refine wpAny_bind (wpAny_pure (wpAny_bind (wpAny_pure (fin _ rfl (Array.Perm.refl _) ?_))))
  show (ks.toArray.zip vs.toArray).toList.Pairwise _
  have hlen:(ks.toArray.zip vs.toArray).toList.length<2:=by rw[Ztd,hzs];exact h2
  exact ZiB hlen
 ·have e2:¬vs.toArray.size<2:=by rw[Ztc];exact h2
  rw[if_neg e2,if_neg e2]
  refine wpAny_bind (hk (by omega) _ ?_)
  have zget:∀(i:Nat) (x:Keyed),(ks.toArray.zip vs.toArray)[i]?=some x->x.1∈ks/\vs[i]?=some x.2:=fun i x hx=>by
   rw[<- Ztk,ksk_zip,ZtS] at hx
   exact⟨ZsW hx.1,hx.2⟩
  have C0:Vb prog w A s κ (fun x=>x.1∈ks) (fun x y=>Rk x.1 y.1) (fun _ _=>True):=
   ⟨fun x y hx hy _ Q q=>hc _ _ hx hy Q q,fun x y hx hy q=>asy _ _ hx hy q,fun x y z hx hy hz q r=>tr _ _ _ hx hy hz q r⟩
  have C:Vb prog w A s κ (fun x=>x.1∈ks) (ZeD Rk tag) (fun x y=>ZeD Rk tag x y=Rk x.1 y.1):=by
   refine⟨fun x y hx hy ok Q q=>hc _ _ hx hy Q (by rw[<- ok];exact q),fun x y hx hy q=>?_,fun x y z hx hy hz q r=>?_⟩
   ·rw[Za4]
    unfold ZeD at q
    simp only[Bool.or_eq_true,Bool.and_eq_true,Bool.not_eq_true',decide_eq_true_eq] at q
    rcases q with q|⟨q1,q2⟩
    ·exact⟨asy _ _ hx hy q,.inl q⟩
    ·exact⟨q1,.inr (ZuB q2)⟩
   ·rw[Za4] at q r ⊢
    refine⟨tr _ _ _ hx hy hz q.1 r.1, ?_⟩
    cases h:Rk x.1 z.1 with
    |true=>exact .inl rfl
    |false =>
     have h1:=tr _ _ _ hz hx hy h q.1
     have h2:=tr _ _ _ hy hz hx r.1 h
     right
     have t1:=q.2.resolve_left (by rw[h2];simp)
     have t2:=r.2.resolve_left (by rw[h1];simp)
     exact Ztr t1 t2
  have run:=Qu (E:=E) C C0 ⟨fun x y h=>by unfold ZeD;rw[h];rfl,fun _ _ h=>h⟩ (st:=SortSt.mk' κ (ks.toArray.zip vs.toArray) #[] 7 none)
   (Q:=fun _ st'=>failedOf st'=none/\(arrOf st').Perm (ks.toArray.zip vs.toArray)/\Up (ZeD Rk tag) (arrOf st') 0 (ks.toArray.zip vs.toArray).size) rfl rfl
   (fun i hi=>(zget i _ (VR hi)).1) rfl (fun e p q hp hq hs=>by
    have hs':q<(ks.toArray.zip vs.toArray).size:=hs
    have g1:=ht _ _ (zget q _ (VR hs')).2
    have g2:=ht _ _ (zget p _ (VR (Nat.lt_trans (Zto hp hq) hs'))).2
    show ZeD Rk tag (gA (ks.toArray.zip vs.toArray) q) (gA (ks.toArray.zip vs.toArray) p)=_
    unfold ZeD
    rw[g1,g2,decide_eq_false (by omega),Bool.and_false,Bool.or_false]) (fun st' k1 k2 k3=>⟨k1,k2,k3⟩)
  refine wpAny_bind (wpAny_mono run ?_ fun _ _ e=>e)
  rintro⟨⟨⟩,st⟩ s' ⟨rfl,hf,hp,hu⟩
  dsimp only at hf hp hu ⊢
  refine fin st hf hp ?_
  have sr:=hu.srt (Zve (by rw[Zul,hp.size_eq]))
  rw[Zu6,ZtC (Zve (by rw[Ztd,hp.size_eq]))] at sr
  exact sr
theorem ZhD{f:Value}(J:List Value->Shared->Prop)(h0:J [] s)(hz:vs.length<=1000000)(turn:∀(kz:List Value) (x:Value) (s1:Shared),vs[kz.length]?=some x->J kz s1->wpAny (model prog w) A (call f [x]) (fun k s2=>∃n,s2.heap.get? kS=some (seqObj "list" kz.toArray n) /\
   ∀h' c,Heap.SameBut kS s2.heap h'->h'.get? kS=some (seqObj "list" (kz++[k]).toArray c)->J (kz++[k]) { s2 with heap:=h' }) (fun _ _=>False) s1)(fin:∀(kz:List Value) (s1:Shared),kz.length=vs.length->J kz s1->∃n,s1.heap.get? kS=some (seqObj "list" kz.toArray n)/\wpAny (model prog w) A (ksk_end a false vs.toArray e1 (.ref kS) kz.toArray) P E s1) :
  wpAny (model prog w) A (ksk_rest a f false vs.toArray e1 (.ref kS)) P E s:=by
 have line:vs.length<=sizeLine:=JB hz
 unfold ksk_rest
 refine wpAny_bind (wpAny_rule ?_)
 rw[<- Array.forIn_toList]
 refine wpAny_bind (ksk_fold (fun i s'=>∃kz:List Value,kz.length=i/\J kz s') vs 0 s ⟨[],rfl,h0⟩ (fun j x s' hx hI=>?_) fun s' hI=>?_)
 ·obtain⟨kz,hkl,hJ⟩:=hI
  rw[Zul] at hkl
  have hj:j<vs.length:=(ZsU.mp hx).1
  refine wpAny_bind (wpAny_attempt (wpAny_mono (turn kz x s' (by rw[hkl];exact hx) hJ) (fun k s2 hk=>?_) fun _ _ q=>q.elim))
  obtain⟨n,e,hn⟩:=hk
  dsimp only
  refine wpAny_bind (listUpdate_at e rfl ?_ (by rw[Ztc];omega) (by rw[Array.size_push,Ztc];omega))
  refine wpAny_pure ⟨rfl,kz++[k],by rw[Ztv,hkl];simp, ?_⟩
  have e2:=get?_update_seq e (fun v=>v.push k)
  have e3:kz.toArray.push k=(kz++[k]).toArray:=by simp
  rw[e3] at e2
  exact hn _ _ (Heap.SameBut.update s2.heap kS _) e2
 ·obtain⟨kz,hkl,hJ⟩:=hI
  rw[Zul] at hkl
  obtain⟨n,e,hf⟩:=fin kz s' hkl hJ
  exact wpAny_bind (listItems_at e rfl hf)
theorem Zeg{l f:Addr}{Q:Value->Shared->Prop}(hl:s.heap.IsList l vs.toArray)(hz:vs.length<=1000000)(go:∀(D kS:Addr) (e1:Nat) (h3:Heap),(∀b o,s.heap.get? b=some o->h3.get? b=some o)->s.heap.objs.size<=D->D<kS->h3.get? D=some (seqObj "list" #[] e1)->h3.get? kS=some (seqObj "list" #[] 0) ->
   wpAny (model prog w) A.in1.in1 (ksk_rest D (.ref f) false vs.toArray e1 (.ref kS)) (fun r s'=>r=.done (.ret .none)/\Q (.ref D) s') E { s with heap:=h3 }) :
  wpAny (model prog w) A (call (.builtin "sorted") [.ref l] [("key",.ref f)]) Q E s:=by
 have line:vs.length<=sizeLine:=JB hz
 refine call_function_entry_kw kind_sorted plain_sorted entry_sorted (ksk_s1 _ _) ?_
 unfold Builtin.«sorted»
 refine wpAny_bind (m:=checkCount "sorted" 1 1 _) (wpAny_pure (wpAny_bind (collect_list hl (wpAny_bind (wpAny_newList ?_ line)) line)))
 generalize eg:(s.heap.push (seqObj "list" #[] 0)).update s.heap.objs.size (Obj.mapSeq (·++vs.toArray))=h1
 have z1:h1.objs.size=s.heap.objs.size+1:=by subst eg;rw[Heap.size_update,size_push']
 have k1:∀b o,s.heap.get? b=some o->h1.get? b=some o:=fun b o q=>by
  have lb:=Heap.lt_size q
  subst eg
  rw[Heap.get?_update_ne _ _ _ _ (Zt1 lb)]
  exact Heap.get?_push_of_some _ q
 have hD:(h1.push (seqObj "list" vs.toArray 0)).get? h1.objs.size=some (seqObj "list" vs.toArray 0):=Heap.get?_push_size _ rfl
 show wpAny _ _ _ _ _ { s with heap:=h1.push (seqObj "list" vs.toArray 0) }
 obtain⟨e1,ho1⟩:∃c,((h1.push (seqObj "list" vs.toArray 0)).update h1.objs.size (Obj.mapSeq fun _=>(#[]:Array Value))).get? h1.objs.size=some (seqObj "list" #[] c):=⟨_,get?_update_seq hD _⟩
 refine wpAny_bind (wpAny_holding (wpAny_call_entry_kw slot_list_sort ⟨_,hD,rfl⟩ entry_list_sort ?body (ksk_l1 _ _)))
 rw[show Builtin.«list.sort» ⟨[.ref h1.objs.size],[("key",.ref f)]⟩=ksk_tree h1.objs.size (.ref f) false from ksk_t1 f _]
 unfold ksk_tree
 refine wpAny_bind (listItems_at hD rfl (wpAny_bind (listUpdate_at hD rfl (wpAny_bind (seqEpoch_at ho1 rfl (wpAny_bind (wpAny_newTuple (wpAny_bind (wpAny_newList (wpAny_holding ?_) (ZtB _))) ?_)))) ?_ (ZtB _))))
 rotate_left
 ·exact line
 ·rw[Ztc];exact line
 refine wpAny_mono (go h1.objs.size _ e1 _ (fun b o q=>?_) (by rw[z1];exact ZuA _) ?_ ?_ ?_) (fun r s' ⟨e,q⟩=>?_) fun _ _ e=>e
 ·have nb:b≠h1.objs.size:=Zt1 (by rw[z1];exact ZuK (Heap.lt_size q))
  exact Heap.get?_push_of_some _ (Heap.get?_push_of_some _ ((Heap.get?_update_ne _ _ _ _ nb).trans (Heap.get?_push_of_some _ (k1 b o q))))
 ·rw[size_push',Heap.size_update,size_push'];exact ZuK (Zu7 _)
 ·exact Heap.get?_push_of_some _ (Heap.get?_push_of_some _ ho1)
 ·exact Heap.get?_push_size _ rfl
 ·subst e
  exact⟨_,rfl,wpAny_pure ⟨_,rfl,q⟩⟩
end
noncomputable abbrev QL:Str := "ends_first.<locals>.<lambda>"
theorem Qy{r:List Value}(hr:TriplesOk r):∀{l:List Value},TriplesOk l->TriplesOk (l++r)
 |[],_=>hr
 |.int _ _::.int _ _::c::l,h=>Qy (l:=l) hr h
theorem Zcj{pos:Pos}{r:List Value}{c:Value}:∀{l:List Value},TriplesOk l->codeAmong pos (l++r)=some c->codeAmong pos l=some c\/codeAmong pos r=some c
 |[],_,e=>.inr e
 |.int a ta::.int b tb::d::l,h,e=>by
  have e:(if a==pos.line&&b==pos.col then some d else codeAmong pos (l++r))=some c:=e
  show (if a==pos.line&&b==pos.col then some d else codeAmong pos l)=some c\/_
  split at e
  ·rename_i z;rw[if_pos z];exact .inl e
  ·rename_i z;rw[if_neg z];exact Zcj (l:=l) h e
theorem ZgB{pos p:Pos}{c d:Value}(e:codeAmong pos [rawInt p.line,rawInt p.col,c]=some d):d=c:=by
 have e:(if _ then some c else none)=some d:=e
 split at e
 ·exact(Option.some.inj e).symm
 ·cases e
noncomputable abbrev Zm5(params:Arguments)(body:Expr)(scope:Scope)(cl:List (Str×Addr))(pm:Value)(c':Addr)(ctv:Value):Obj:=PySem.W.kla_obj "<lambda>" QL params body scope cl pm c' ctv
section
variable {X:Cx}{pins:List (Addr×Obj)}{σ:St}{H:Hp}{s:Shared}{params:Arguments}{body:Expr}{scope:Scope}{pos:Pos}{f0 c P:Addr}{E:Value->Shared->Prop}{Q:Value->Shared->Prop}
theorem ZjW{H':Hp}{h':Heap}{tk:Nat}(I:Inv X pins σ H s)(hP:∃ps q,H P=some (.tbl ps q))(sm:Z7 H H')(fr:∀b,H b=none->H' b≠none->s.heap.objs.size<=b)(hx:∀b o,b≠P->s.heap.get? b=some o->h'.get? b=some o)(ht:∃o,h'.get? P=some o)(ok:HOk X.prog X.w H' h'):Inv X pins σ H' { s with heap:=h',toks:=tk }:=by
 obtain⟨ps,q,hP⟩:=hP
 have np:∀{b},H b=none->b≠P:=fun {b} e z=>by rw[z,hP] at e;cases e
 refine I.call (g':=s.gens) (d':=s.drawn) (ch:=[]) ⟨fun b o e n _ _=>hx b o (np n) e,fun b o e n _ _=>⟨o.slots,hx b o (np n) e⟩,fun b o e n _=>?_,fun b o e _=>?_,fun b xs e=>sm _ _ e,fun b o u e=>sm _ _ e,fun b p q e=>sm _ _ e⟩ ok I.bare (fun b z=>absurd z (by simp))
 ·cases q:H' b with
  |none=>rfl
  |some u=>exact absurd (Heap.lt_size e) (Zvs.mpr (fr b n (by rw[q];simp)))
 ·by_cases z:b=P
  ·rw[z];exact ht
  ·exact⟨o,hx b o z e⟩
theorem ZhA(I:Inv X pins σ H s)(hT:Zcl X.K f0=some (c,P))(hcode:X.env.code=.ref c)(hqual:X.env.qual ++ "<lambda>"=QL)(hcl:closureFor scope X.env=pure (Zaj scope X.env))(hdef:defaultsOf params X.env=([],[]))(h:∀(f c':Addr) (oc:Obj) (pm ctv:Value) (H':Hp) (s':Shared),Z7 H H'->Inv X pins σ H' s'->Zk3 QL oc->H' c'=some (.frz oc (.own c'))->H' f=some (.frz (Zm5 params body scope (Zaj scope X.env) pm c' ctv) (.own f))->Q (.ref f) s') :
  wpAny (model X.prog X.w) X.A (eval (.Lambda params body scope pos) X.env) Q E s:=by
 refine PySem.W.kla_eval hdef ?_
 rw[hqual]
 have hg:s.heap.Ns mainGlobals X.mg:=I.ok.mod.glob.keeps I.bk
 have hP:H P=some (.tbl #[] QL):=I.base.tbls _ _ _ (I.ok.tab f0 c P hT)
 obtain⟨more,e1,t1,cs⟩:=I.hok P _ hP
 have C:PySem.W.CodeHd s.heap c P:=PySem.W.codeHd_of_K I.kIn (ZfO hT)
 have hgP:mainGlobals≠P:=fun z=>by
  obtain⟨o,es,ep,e,d,_⟩:=hg
  rw[z,e1] at e;cases e;cases d
 have hb:s.heap.BuiltinsAt X.mg P:=by
  obtain⟨bm,o,b1,b2,b3,b4,b5,b6⟩:=I.ok.mod.bmod
  refine⟨bm,o,b1,b2,fun z=>?_,fun z=>?_,I.bk _ _ b3,b4,b5,b6⟩
  ·obtain⟨o',es,ep,e,d,_⟩:=I.ok.mod.glob
   rw[z,e] at b3;cases b3;rw[d] at b6;cases b6
  ·have:=I.bk _ _ b3
   rw[z,e1] at this;cases this;cases b6
 cases hcm:codeAmong pos ((#[]:Array Value)++more).toList with
 |some cv =>
  obtain⟨c',oc,rfl,hc',hCo⟩:=cs pos cv hcm
  refine PySem.W.kla_makeFunctionHit (mg:=X.mg) hcl I.ok.glob hg hcode C e1 t1 hcm hb fun ctv h' tk hk hsz=>?_
  have hf:H h'.objs.size=none:=I.hok.fresh hsz
  refine h h'.objs.size c' oc _ ctv (upd H h'.objs.size (.frz _ (.own h'.objs.size))) _ (Z7.new hf) (I.laid (t':=tk) (fun b u e=>Heap.get?_push_of_some _ (hk b u e)) hsz ⟨Heap.get?_push_size _ rfl,_,Heap.get?_push_size _ rfl⟩) hCo ?_ Zv
  rw[Zo (Z8 hc' hf)];exact hc'
 |none =>
  refine PySem.W.kla_makeFunction (mg:=X.mg) hcl I.ok.glob hg hcode C e1 t1 hcm hgP hb fun c' ctv h' tk hx hge hlt hrec htb=>?_
  obtain⟨c₂,oc,vs,t,e2,hoc,hd,hv⟩:=hrec
  cases e2
  have hc0:H c'=none:=I.hok.fresh hge
  have hf0:H h'.objs.size=none:=I.hok.fresh (Ztr hge (ZuB hlt))
  have hcf:c'≠h'.objs.size:=Zt1 hlt
  have hf1:upd H c' (.frz oc (.own c')) h'.objs.size=none:=by rw[Zo (Ne.symm hcf)];exact hf0
  have sm:∀u,Z7 H (upd (upd H c' (.frz oc (.own c'))) h'.objs.size u):=fun u=>(Z7.new hc0).trans (Z7.new hf1)
  refine h h'.objs.size c' oc ((X.mg "__name__").getD .none) ctv (upd (upd H c' (.frz oc (.own c'))) h'.objs.size (.frz (Zm5 params body scope (Zaj scope X.env) ((X.mg "__name__").getD .none) c' ctv) (.own h'.objs.size))) _ (sm _) ?_ ⟨vs,t,hd,hv⟩ ?_ Zv
  rotate_left
  ·rw[Zo hcf];exact Zv
  have push:∀{b o},h'.get? b=some o->(h'.push (Zm5 params body scope (Zaj scope X.env) ((X.mg "__name__").getD .none) c' ctv)).get? b=some o:=fun e=>Heap.get?_push_of_some _ e
  refine ZjW (P:=P) (h':=h'.push _) I ⟨_,_,hP⟩ (sm _) (fun b hn hn'=>?_) (fun b o nb e=>push (hx b o nb e)) ⟨_,push htb⟩ (fun b u e=>?_)
  ·by_cases z:b=h'.objs.size
   ·rw[z];exact Ztr hge (ZuB hlt)
   ·by_cases z':b=c'
    ·rw[z'];exact hge
    ·rw[Zo z,Zo z'] at hn';exact absurd hn hn'
  ·by_cases z:b=h'.objs.size
   ·subst z;rw[Zv] at e;cases e
    exact⟨Heap.get?_push_size _ rfl,_,Heap.get?_push_size _ rfl⟩
   ·rw[Zo z] at e
    by_cases z':b=c'
    ·subst z';rw[Zv] at e;cases e
     exact⟨push hoc,_,push hoc⟩
    ·rw[Zo z'] at e
     by_cases zP:b=P
     ·subst zP
      rw[hP] at e;cases e
      refine⟨more++#[rawInt pos.line,rawInt pos.col,.ref c'], ?_, ?_,fun pos' cv q=>?_⟩
      ·rw[push htb,Zvf]
      ·rw[<- Zvf,Zuu]
       exact Qy (by trivial) t1
      ·rw[<- Zvf,Zuu] at q
       rcases Zcj t1 q with q|q
       ·obtain⟨c1,o1,r1,r2,r3⟩:=cs pos' cv q
        exact⟨c1,o1,r1,sm _ _ _ r2,r3⟩
       ·have q:=ZgB q
        exact⟨c',oc,q,by rw[Zo hcf];exact Zv,vs,t,hd,hv⟩
     ·refine(I.hok b u e).stay (fun b' v hc q=>push (hx b' v (fun zz=>?_) q)) (fun b' q=>sm _ _ _ q) fun b' xs q=>sm _ _ _ q
      rcases hc with rfl|hc
      ·exact zP zz
      ·rw[zz,hP] at hc;cases hc
noncomputable abbrev Znc(X:Cx)(scope:Scope)(f c' L:Addr):Env:=PySem.W.envX QL scope L f (.ref c') (Zaj scope X.env)
noncomputable def ZhC(X:Cx)(A:Around)(scope:Scope)(N:List Str)(f c':Addr)(s₂:Shared)(H₂:Hp):Cx where
 prog:=X.prog
 w:=X.w
 K:=X.K
 mg:=X.mg
 base:=X.base
 A:=A.deeper (Znc X scope f c' s₂.heap.objs.size)
 N:=N
 s₀:=s₂
 H₀:=H₂
 env:=Znc X scope f c' s₂.heap.objs.size
 outer:=X.stack
 stack:=Znc X scope f c' s₂.heap.objs.size::X.stack
 ex:=[]
 fn:=fun _=>false
 calm:=true
 pn:=[]
 xe:=fun _ _=>False
structure ZcU(X:Cx)(scope:Scope)(x:Str)(FN:List Str)(js:List Nat):Prop where
 kind:scope.kind=.function
 co:scope.isCoroutine=false
 gen:scope.isGenerator=false
 cell:∀p∈scope.names,p.2≠.cell
 loc:scope.names.lookup x=some .local
 fr:∀p∈scope.names,p.2=.free->X.env.scope.names.lookup p.1=some .cell\/X.env.scope.names.lookup p.1=some .free
 fn:∀y∈FN,scope.names.lookup y=some .free
 at_:js.map (fun j=>X.N[j]?)=FN.map some
noncomputable def ZgG(js:List Nat)(σ:St):St:=js.map fun j=>(σ[j]?).join
theorem Vm{x:Str}{FN:List Str}{js:List Nat}(sc:ZcU X scope x FN js)(ok:X.Ok){y:Str}{c:Addr}(h:(Zaj scope X.env).lookup y=some c):X.env.cells.lookup y=some c:=by
 have hm:=PySem.mem_of_lookup h
 unfold Zaj at hm
 obtain⟨p,hp,e⟩:=Ztm.mp hm
 have hp':=ZtA.mp (Zvl.mp hp)
 obtain⟨e1,e2⟩:=Prod.mk.inj e
 have hk:=sc.fr p hp'.1 (beq_iff_eq.mp hp'.2)
 obtain⟨c',hc'⟩:=ok.has p.1 hk
 rw[hc'] at e2
 rw[<- e1,hc']
 exact congrArg some e2
theorem ZfN{A:Around}{x:Str}{FN:List Str}{js:List Nat}{f c':Addr}{h₁:Heap}{tk:Nat}{v:V}{u:Value}(I:Inv X pins σ H s)(sc:ZcU X scope x FN js)(hd:A.handled=none)(hA:A.frames=some X.stack)(r:Jn v u)(hns:h₁.Ns s.heap.objs.size (fun y=>[(x,u)].reverse.lookup y))(hk:∀b o,s.heap.get? b=some o->h₁.get? b=some o) :
  Inv (ZhC X A scope (x::FN) f c' s H) [] (some v::ZgG js σ) H { s with heap:=h₁,toks:=tk }:=by
 have noA:∀b:Addr,b ∉ (ZhC X A scope (x::FN) f c' s H).ex:=fun b z=>absurd (show b∈([]:List Addr) from z) (by simp)
 refine⟨⟨I.ok.mod,sc.kind,rfl,rfl,ZsX _,fun y z c h1 h2=>?_,fun y hy=>?_,fun y c hf _=>?_,fun _=>hd,Around.frames_deeper hA,.inr ⟨rfl,rfl⟩,fun b z=>absurd z (noA b),I.bs,Ztr I.ok.bsz I.sz,fun b _ _=>noA b,fun b z=>absurd z (noA b),I.stack,I.stkFree,fun f c P h1=>I.base.tbls _ _ _ (I.ok.tab f c P h1)⟩,
  rfl,I.bare,Un.kept hk,⟨_,hns,fun i y w h1 h2 h3=>?_⟩,fun y c h=>?_,I.hok.fresh (ZsX _),fun y c h=>?_,fun p hp=>absurd (show p∈([]:List (Addr×Obj)) from hp) (by simp),I.hok.kept hk, ?_⟩
 ·exact I.ok.inj y z c (Vm sc I.ok h1) (Vm sc I.ok h2)
 ·have hy:scope.names.lookup y=some .cell\/scope.names.lookup y=some .free:=hy
  rcases hy with hy|hy
  ·exact absurd rfl (sc.cell _ (PySem.mem_of_lookup hy))
  ·exact Qt (X:=X) hy
 ·have hf:false=true:=hf
  cases hf
 ·cases i with
  |zero =>
   have h1:x=y:=Option.some.inj h1
   subst h1
   have h2:v=w:=Option.some.inj (Option.some.inj h2)
   subst h2
   exact⟨u,r,.inl ⟨sc.loc,by simp⟩⟩
  |succ i =>
   have h1:FN[i]?=some y:=h1
   have h2:(ZgG js σ)[i]?=some (some w):=h2
   unfold ZgG at h2
   rw[ZsZ] at h2
   have hj:(js.map fun j=>X.N[j]?)[i]?=some (some y):=by rw[sc.at_,ZsZ,h1];rfl
   rw[ZsZ] at hj
   cases e:js[i]? with
   |none=>rw[e] at h2;cases h2
   |some j =>
    rw[e] at h2 hj
    have hj:X.N[j]?=some y:=Option.some.inj hj
    have h2:(σ[j]?).join=some w:=Option.some.inj h2
    have h2:σ[j]?=some (some w):=by
     cases q:σ[j]? with
     |none=>rw[q] at h2;cases h2
     |some o=>rw[q] at h2;rw[show o=some w from h2]
    have hfree:=sc.fn y (ZsW h1)
    have hvis:=sc.fr _ (PySem.mem_of_lookup hfree) rfl
    obtain⟨m,hn,hl⟩:=I.loc
    obtain⟨u',ru,hlook⟩:=hl j y w hj h2 (.inr hvis)
    obtain⟨c,hcl⟩:=Qt (X:=X) hfree
    have hcx:=Vm sc I.ok hcl
    refine⟨u',ru,.inr ⟨.inr hfree,c,hcl, ?_⟩⟩
    rcases hlook with ⟨k,_⟩|⟨k,c2,ec,hcell⟩
    ·have k':X.env.scope.names.lookup y=some .local:=k
     have hv':X.env.scope.names.lookup y=some .cell\/X.env.scope.names.lookup y=some .free:=hvis
     rw[k'] at hv'
     rcases hv' with z|z<;>cases z
    ·rw[hcx] at ec;cases ec
     obtain⟨o,ho,hdd⟩:=hcell
     exact⟨o,hk _ _ ho,hdd⟩
 ·obtain⟨v,o,ho,hdd⟩:=I.cell y c (Vm sc I.ok h)
  exact⟨v,o,hk _ _ ho,hdd⟩
 ·exact I.freeC y c (Vm sc I.ok h)
 ·have:=congrArg List.length sc.at_
  rw[ZsV,ZsV] at this
  show (some v::ZgG js σ).length=(x::FN).length
  unfold ZgG
  simp[this]
theorem ZhB{A:Around}{x:Str}{FN:List Str}{js:List Nat}{f c':Addr}{oc:Obj}{pm ctv:Value}{v:V}{u:Value}{te:TE}{Q:VK}(I:Inv X pins σ H s)(sc:ZcU X scope x FN js)(hd:A.handled=none)(hroom:A.depth<recursionLimit)(hA:A.frames=some X.stack)(hCo:Zk3 QL oc)(hc:H c'=some (.frz oc (.own c')))(hf:H f=some (.frz (Zm5 params body scope (Zaj scope X.env) pm c' ctv) (.own f)))(hb:∀u,bindArgs (PySem.W.kla_fn "<lambda>" QL params body scope (Zaj scope X.env) pm (.ref c') ctv) ⟨[u],[]⟩=pure [(x,u)])(hbody:PE (ZhC X A scope (x::FN) f c' s H) body te)(r:Jn v u)(hq:te (some v::ZgG js σ) H Q) :
  wpAny (model X.prog X.w) A (call (.ref f) [u]) (EP X pins σ fun v H'=>Q v H'/\∀b o u,H b=some (.frz o u)->H' b=some (.frz o u)) (fun _ _=>False) s:=by
 have ho:=(I.hok f _ hf).1
 have hcd:s.heap.CodeRec (.ref c') QL:=let ⟨vs,t,h1,h2⟩:=hCo;⟨c',oc,vs,t,rfl,(I.hok c' _ hc).1,h1,h2⟩
 refine wpAny_call (PySem.W.kla_callFunE hroom ho rfl sc.co sc.gen rfl hcd ?_)
 rw[hb]
 refine wpAny_pure (wpAny_newFunctionEnv sc.cell (fun y hy=>?_) (fun h₁ hns hsb=>?_) sc.kind)
 ·have:y=(x,u):=by simpa using hy
  rw[this];exact sc.loc
 have hk:∀b o,s.heap.get? b=some o->h₁.get? b=some o:=fun b o e=>hsb.extBut b o (Zt1 (Heap.lt_size e)) (Heap.get?_push_of_some _ e)
 refine⟨I.nolimit.keeps hk, ?_⟩
 have I1:=ZfN (tk:=s.toks+[(x,u)].length) (f:=f) (c':=c') I sc hd hA r hns hk
 refine PySem.W.kla_codeExpr (wpAny_mono (hbody [] _ _ H Q I1 hq) (fun u' s' h'=>?_) fun _ _ z=>z.elim)
 obtain⟨v',H',J,r',q'⟩:=h'
 exact I.after ⟨v',H',J.os,J.bare,J.base,J.hok,r',q',J.base.frzs⟩
end
noncomputable def Zil(kz:List (List Int)):List (List Int):=kz.zipIdx.map fun p=>p.1++[((p.2:Nat):Int)]
noncomputable def stK(kz:List (List Int)):List Nat:=(ZaL (Zil kz)).map fun l=>(l.getLastD 0).toNat
theorem ZdJ:∀{l:List Addr}{i:Nat}{a:Addr},l.Nodup->l[i]?=some a->l.idxOf a=i
 |[],i,a,_,h=>by simp at h
 |b::l,0,a,_,h=>by
  have h:b=a:=by simpa using h
  subst h;simp
 |b::l,i+1,a,nd,h=>by
  have h:l[i]?=some a:=by simpa using h
  obtain⟨n1,n2⟩:=ZtW.mp nd
  have hb:b≠a:=fun z=>n1 (by rw[z];exact ZsW h)
  rw[List.idxOf_cons,show (b==a)=false from beq_false_of_ne hb]
  simp only[cond_false]
  rw[ZdJ n2 h]
theorem ZnN{a b c d:Int}{i j:Nat}:HT.Z1 ([a,b]++[(i:Int)]) ([c,d]++[(j:Int)])=(HT.Z1 [a,b] [c,d] || (!(HT.Z1 [c,d] [a,b])&&decide (i<j))):=by
 have e:∀(x y z u v w:Int),HT.Z1 [x,y,z] [u,v,w]=decide (x<u\/(x=u/\(y<v\/(y=v/\z<w)))):=fun x y z u v w=>by
  unfold HT.Z1 HT.Z1 HT.Z1 HT.Z1
  by_cases h1:x=u<;>by_cases h2:y=v<;>by_cases h3:z=w<;>simp[h1,h2,h3]<;>omega
 have e2:∀(x y u v:Int),HT.Z1 [x,y] [u,v]=decide (x<u\/(x=u/\y<v)):=fun x y u v=>by
  unfold HT.Z1 HT.Z1 HT.Z1
  by_cases h1:x=u<;>by_cases h2:y=v<;>simp[h1,h2]<;>omega
 rw[show ([a,b]++[(i:Int)])=[a,b,(i:Int)] from rfl,show ([c,d]++[(j:Int)])=[c,d,(j:Int)] from rfl,e,e2,e2]
 rw[Bool.eq_iff_iff]
 simp only[Bool.or_eq_true,Bool.and_eq_true,Bool.not_eq_true',decide_eq_true_eq,decide_eq_false_iff_not]
 omega
noncomputable def Zdh(te:TE)(ws:St):List V->Hp->(List V->Hp->Prop)->Prop
 |[],H,Q=>Q [] H
 |x::xs,H,Q=>te (some x::ws) H fun k H1=>Zdh te ws xs H1 fun ks H2=>Q (k::ks) H2
noncomputable def Zde(K:W.Frag)(te:TE)(js:List Nat)(ta:TA):TE:=fun σ H Q=>ta σ H fun xs H1=>∃p,∃as:List Addr,xs=[.ref p]/\SqL K H1 p (as.map V.ref)/\as.Nodup/\as.length<=1000000 /\
 ∀H2,Z7 H1 H2->Zdh te (ZgG js σ) (as.map V.ref) H2 fun ks H3=>∃ys:List PL2,ks=(ys.map fun t=>V.ref t.1)/\(∀t∈ys,SqT K H3 t.1 (t.2.map V.int)/\t.2.length=2)/\ys.length=as.length /\
  ∀l,H3 l=none->Q (.ref l) (upd H3 l (.lst ((stK (ys.map (·.2))).map fun i=>V.ref (as.getD i 0))))
theorem Zb4:∀{as:List Addr}{us:List Value},ZR (as.map V.ref) us->us=as.map Value.ref
 |[],_,.nil=>rfl
 |a::as,_,.cons r rr=>by
  have r:_=Value.ref a:=r
  rw[r,Zb4 rr];rfl
theorem ZbB:∀(as:List Addr),ZR (as.map V.ref) (as.map Value.ref)
 |[]=>.nil
 |a::as=>.cons rfl (ZbB as)
noncomputable def ZiN(N:List Str)(sc scope:Scope)(x:Str)(FN:List Str)(js:List Nat):Bool:=(scope.kind==.function)&&!scope.isCoroutine&&!scope.isGenerator&&(scope.names.all fun p=>!(p.2==.cell))&&(scope.names.lookup x==some .local)
 && (scope.names.all fun p=>!(p.2==.free) || sc.names.lookup p.1==some .cell || sc.names.lookup p.1==some .free)&&(FN.all fun y=>scope.names.lookup y==some .free)&&decide (js.map (fun j=>N[j]?)=FN.map some)
theorem ZcU.of{X:Cx}{N:List Str}{sc scope:Scope}{x:Str}{FN:List Str}{js:List Nat}(h:ZiN N sc scope x FN js=true)(hs:X.env.scope=sc:=by rfl)(hN:X.N=N:=by rfl):ZcU X scope x FN js:=by
 subst hs;subst hN
 unfold ZiN at h
 simp only[Bool.and_eq_true,ZtF,decide_eq_true_eq,Bool.not_eq_true',Bool.or_eq_true,beq_iff_eq,beq_eq_false_iff_ne] at h
 obtain⟨⟨⟨⟨⟨⟨⟨h1,h2⟩,h3⟩,h4⟩,h5⟩,h6⟩,h7⟩,h8⟩:=h
 refine⟨h1,h2,h3,fun p hp=>h4 p hp,h5,fun p hp e=>?_,h7,h8⟩
 rcases h6 p hp with (z|z)|z
 ·exact absurd e z
 ·exact .inl z
 ·exact .inr z
theorem VU.lam{j k:Nat}{A:Around}{env:Env}(r:VU k A)(h:j+3<=k):VU j (A.in1.in1.deeper env):=((r.mono h).in1.in1).deeper env
section
variable {X:Cx}{params:Arguments}{body e:Expr}{scope:Scope}{np lpos kp pos:Pos}{f0 c P:Addr}{x:Str}{FN:List Str}{js:List Nat}{te:TE}{ta:TA}
theorem Zei{K:W.Frag}{k:Nat}(hg:Gl X "sorted")(hm:X.mg "sorted"=none)(hv:bootBuiltins "sorted"=some (.builtin "sorted"))(ha:PA X [e] ta)(hT:Zcl K f0=some (c,P))(hcode:X.env.code=.ref c)(hqual:X.env.qual ++ "<lambda>"=QL)(sc:ZcU X scope x FN js)(hr:VU (k+2) X.A)(hbody:∀f c' s H,PE (ZhC X X.A.in1.in1 scope (x::FN) f c' s H) body te)(hb:∀cl pm c' ctv u,bindArgs (PySem.W.kla_fn "<lambda>" QL params body scope cl pm (.ref c') ctv) ⟨[u],[]⟩=pure [(x,u)]:=by intros;rfl)(hcl:closureFor scope X.env=pure (Zaj scope X.env):=by rfl)(hdef:defaultsOf params X.env=([],[]):=by rfl)(he:backTo pos (starEach [e] X.env)=(false,eval e X.env)::backTo pos (starEach [] X.env):=by rfl)(hpl:(backTo pos (starEach [e] X.env)).any (·.1)=false:=by rfl)(eK:X.K=K:=by rfl) :
  PE X (.Call (.Name "sorted" np) [e] [⟨some "key",.Lambda params body scope lpos,kp⟩] pos) (Zde K te js ta):=by
 subst eK
 intro pins s σ H Q I h
 refine wpAny_Call_Name_kw (QI I hg hm hv ?_ (by decide) (by decide))
 refine callWith_kw (thn (ha pos pins s σ H _ I h) fun us s1 ⟨vs,H1,I1,r1,q1⟩=>?_) he hpl
 obtain⟨p,as,rfl,hS,nd,hz,q⟩:=q1
 obtain⟨u,rfl,rx⟩:=UX r1
 cases rx
 refine kws_cons (ZhA I1 hT hcode hqual hcl hdef fun f c' oc pm ctv H2 s2 sm I2 hCo hc hf=>kws_nil ?_)
 show wpAny _ _ (call (.builtin "sorted") [.ref p] [("key",.ref f)]) _ _ s2
 have q2:=q H2 sm
 obtain⟨its,r',pl,hz'⟩:=I2.list (show SqL X.K H2 p (as.map V.ref) from hS.imp (fun z=>z.same sm) id)
 have hits:=Zb4 r'
 subst hits
 refine Zeg pl.isList (by simpa using hz) fun D kS e1 h3 kk hD hDk oD okS=>?_
 have I3:Inv X pins σ H2 { s2 with heap:=h3 }:=I2.kept (t':=s2.toks) kk
 have fpD:ZgF X pins H2 D:=I2.fpOk hD (I2.hok.fresh hD)
 have hK:s2.heap.objs.size<=kS:=Ztr hD (ZuB hDk)
 have fpK:ZgF X pins H2 kS:=I2.fpOk hK (I2.hok.fresh hK)
 have hne:kS≠D:=ZuO hDk
 have pinned:∀{H4:Hp}{s4:Shared}{o1 o2:Obj},Inv X pins σ H4 s4->H4 D=none->H4 kS=none->s4.heap.get? D=some o1->s4.heap.get? kS=some o2->(∀v,o1.data≠.cell v)->(∀v,o2.data≠.cell v)->Inv X (pins++[(D,o1),(kS,o2)]) σ H4 s4:=fun {H4 s4 o1 o2} J n1 n2 g1 g2 d1 d2=>by
  refine J.pins_of fun pp hp=>?_
  rcases Zta.mp hp with hp|hp
  ·exact J.pin pp (ZsY _ hp)
  ·rcases Zti.mp hp with rfl|hp
   ·exact⟨g1,n1,fpD.2.1,fpD.2.2.1,d1⟩
   ·rw[Ztj.mp hp]
    exact⟨g2,n2,fpK.2.1,fpK.2.2.1,d2⟩
 have unpin:∀{H4:Hp}{s4:Shared}{o1 o2:Obj},Inv X (pins++[(D,o1),(kS,o2)]) σ H4 s4->Inv X pins σ H4 s4/\(s4.heap.get? D=some o1/\H4 D=none)/\s4.heap.get? kS=some o2/\H4 kS=none:=fun {H4 s4 o1 o2} J=>by
  have p1:=J.pin (D,o1) (by simp)
  have p2:=J.pin (kS,o2) (by simp)
  exact⟨J.pins_of fun pp hp=>J.pin pp (ZsY _ (Ztb _ hp)),⟨p1.1,p1.2.1⟩,p2.1,p2.2.1⟩
 refine ZhD (J:=fun kz s4=>∃H4 vks n,Inv X (pins++[(D,seqObj "list" #[] e1),(kS,seqObj "list" kz.toArray n)]) σ H4 s4/\(∀b o u,H2 b=some (.frz o u)->H4 b=some (.frz o u))/\ZR vks kz /\
  Zdh te (ZgG js σ) ((as.map V.ref).drop kz.length) H4 (fun ks H3=>∃ys:List PL2,vks++ks=(ys.map fun t=>V.ref t.1)/\(∀t∈ys,SqT X.K H3 t.1 (t.2.map V.int)/\t.2.length=2)/\ys.length=as.length /\
   ∀l,H3 l=none->Q (.ref l) (upd H3 l (.lst ((stK (ys.map (·.2))).map fun i=>V.ref (as.getD i 0)))))) ?_ (by simpa using hz) ?_ ?_
 ·exact⟨H2,[],0,pinned I3 fpD.1 fpK.1 oD okS (fun v z=>nomatch z) (fun v z=>nomatch z),fun _ _ _ z=>z,.nil,q2⟩
 ·rintro kz xv s4 hx ⟨H4,vks,n,I4,fz,rk,hq⟩
  obtain⟨a,ha',rfl⟩:∃a,as[kz.length]?=some a/\Value.ref a=xv:=by
   rw[ZsZ] at hx
   cases z:as[kz.length]? with
   |none=>rw[z] at hx;cases hx
   |some a=>rw[z] at hx;exact⟨a,rfl,Option.some.inj hx⟩
  have hdrop:(as.map V.ref).drop kz.length=V.ref a::(as.map V.ref).drop (kz.length+1):=by
   have hlt:kz.length<(as.map V.ref).length:=by rw[ZsV];exact(ZsU.mp ha').1
   rw[Ztq hlt]
   congr 1
   rw[List.getElem_map]
   rw[ZsU] at ha'
   obtain⟨_,e⟩:=ha'
   rw[e]
  rw[hdrop] at hq
  have hr2:VU k X.A.in1.in1:=hr.in1.in1
  refine wpAny_mono (ZhB I4 sc hr2.hd hr2.depth I4.ok.frames hCo (fz _ _ _ hc) (fz _ _ _ hf) (hb _ _ _ _) (hbody f c' s4 H4) (v:=V.ref a) rfl hq) (fun kv s5 h5=>?_) fun _ _ z=>z
  obtain⟨v5,H5,I5,r5,q5,fz5⟩:=h5
  obtain⟨I5',⟨gD,nD⟩,gK,nK⟩:=unpin I5
  refine⟨n,gK,fun h' cc sb g'=>⟨H5,vks++[v5],cc, ?_,fun b o u z=>fz5 _ _ _ (fz b o u z),rk.append (.cons r5 .nil), ?_⟩⟩
  ·have I6:Inv X pins σ H5 { s5 with heap:=h' }:=I5'.turned (t':=s5.toks) (it:=kS) (fun b o nb e=>(sb.2 b nb).trans e) nK fpK.2.1 fpK.2.2.2.1 fpK.2.2.2.2.1 fpK.2.2.2.2.2
   exact pinned I6 nD nK ((sb.2 D (Ne.symm hne)).trans gD) g' (fun v z=>nomatch z) (fun v z=>nomatch z)
  ·rw[show (kz++[kv]).length=kz.length+1 by simp]
   simpa[Ztf] using q5
 ·rintro kz s4 hkl ⟨H4,vks,n,I4,fz,rk,hq⟩
  obtain⟨I4',⟨gD,nD⟩,gK,nK⟩:=unpin I4
  refine⟨n,gK, ?_⟩
  rw[ZtN (by rw[ZsV] at hkl ⊢;omega)] at hq
  obtain⟨ys,ey,hy,hyl,hQ⟩:=hq
  rw[Zua] at ey
  subst ey
  have hkz:=Qx rk
  subst hkz
  have tup:∀t∈ys,∃vs:List Value,ZR (t.2.map V.int) vs/\IsTup s4.heap t.1 vs.toArray:=fun t ht=>by
   obtain⟨vs,rv,pt,_⟩:=I4'.tuple (hy t ht).1
   exact⟨vs,rv,pt⟩
  have hu:∀t∈ys,∀t'∈ys,t.1=t'.1->t.2=t'.2:=fun t ht t' ht' e=>by
   obtain⟨vs,rv,ob,eo,oc,k1,od⟩:=tup t ht
   obtain⟨vs',rv',ob',eo',oc',k1',od'⟩:=tup t' ht'
   rw[e,eo'] at eo
   cases eo
   rw[od] at od'
   have e2:vs.toArray=vs'.toArray:=by injection od'
   have e3:vs=vs':=by simpa using e2
   subst e3
   rw[<- (Ve rv).1,<- (Ve rv').1]
  refine ZjX (tuples' true) (fun x y=>HT.Z1 (VB ys (VI x)) (VB ys (VI y))) (fun v=>as.idxOf (VI v)) gD gK hne (by simpa using hz) (by simp[hyl]) (fun h2 Q' q'=>?_) (fun x y hx hy' C q'=>?_) (fun x y _ _ h=>QF h) (fun x y z _ _ _ h1 h2=>V4 h1 h2) (fun i x hx=>?_) fun h' cc ps k4 p1 p2 g'=>?_
  ·have:∀(ts:List PL2) (its:List Value),(∀t∈ts,t.2≠[]/\∃vs:List Value,ZR (t.2.map V.int) vs/\IsTup s4.heap t.1 vs.toArray)->ZR (ts.map fun t=>V.ref t.1) its->∃fs:List Value,fs.length=ts.length/\PySem.W.KatTups s4.heap its fs/\∀v∈fs,∃n t,v=Value.int n t:=by
    intro ts
    induction ts with
    |nil =>
     intro its _ rv
     cases rv
     exact⟨[],rfl,trivial,by simp⟩
    |cons t ts ih =>
     intro its ht rv
     cases rv with
     |cons rv tv =>
      obtain⟨fs,e1,e2,e3⟩:=ih _ (fun t' h'=>ht t' (Ztz _ h')) tv
      obtain⟨hne,vs,rvs,ob,eo,oc,k,od⟩:=ht t (ZtG ..)
      obtain⟨n,ns,en⟩:=Zu4 hne
      rw[en] at rvs
      cases rvs with
      |cons rn tn =>
       obtain⟨tk,rfl⟩:=rn
       have rv':_=Value.ref t.1:=rv
       subst rv'
       exact⟨.int n tk::fs,by simp[e1],⟨⟨t.1,ob,_,k,rfl,eo,oc,od,rfl⟩,e2⟩,fun v hv=>(Zti.mp hv).elim (fun z=>⟨n,tk,z⟩) (e3 v)⟩
   obtain⟨fs,e1,e2,e3⟩:=this ys _ (fun t ht=>⟨(fun z=>by have h2:=(hy t ht).2;rw[z] at h2;cases h2),tup t ht⟩) (Q4 ys)
   exact PySem.W.kat_kind (T:=.type "int") e2 (by rw[e1,hyl];rw[ZsV] at h2;omega) (fun v hv=>by obtain⟨n,t,rfl⟩:=e3 v hv;exact PySem.W.Looks.of_pure rfl) rfl q'
  ·obtain⟨t,ht,rfl⟩:=Ztm.mp hx
   obtain⟨t',ht',rfl⟩:=Ztm.mp hy'
   obtain⟨vs,rv,ob,eo,oc,k1,od⟩:=tup t ht
   obtain⟨vs',rv',ob',eo',oc',k1',od'⟩:=tup t' ht'
   refine PySem.W.kat_lt eo od eo' od' (Zbc rv rv' ?_ ?_)
   ·simp
   ·rw[show VI (.ref t.1)=t.1 from rfl,show VI (.ref t'.1)=t'.1 from rfl,JY hu ht,JY hu ht'] at q'
    exact q'
  ·rw[ZsZ] at hx
   cases z:as[i]? with
   |none=>rw[z] at hx;cases hx
   |some a =>
    rw[z] at hx
    have hx:Value.ref a=x:=Option.some.inj hx
    subst hx
    exact ZdJ nd z
  ·have mem:∀y∈ps,∃t∈ys,∃i a,as[i]?=some a/\y=(Value.ref t.1,Value.ref a):=fun y hy'=>by
    have hm:=p1.mem_iff.mp hy'
    obtain⟨i,hi⟩:=Zt0 hm
    rw[ZtS,ZsZ,ZsZ] at hi
    obtain⟨h1,h2⟩:=hi
    cases z1:ys[i]? with
    |none=>rw[z1] at h1;cases h1
    |some t =>
     cases z2:as[i]? with
     |none=>rw[z2] at h2;cases h2
     |some a =>
      rw[z1] at h1;rw[z2] at h2
      exact⟨t,ZsW z1,i,a,z2,Prod.ext (Option.some.inj h1).symm (Option.some.inj h2).symm⟩
   generalize hcmp:(fun y:Keyed=>VB ys (VI y.1)++[((as.idxOf (VI y.2):Nat):Int)])=cmp
   have up:UpU (ps.map cmp):=by
    refine ZtU.mpr (p2.imp_of_mem fun {y z} hy' hz' h=>?_)
    obtain⟨t,ht,i,a,hi,rfl⟩:=mem y hy'
    obtain⟨t',ht',i',a',hi',rfl⟩:=mem z hz'
    subst hcmp
    unfold ZeD at h
    dsimp only at h ⊢
    rw[show VI (.ref t.1)=t.1 from rfl,show VI (.ref t'.1)=t'.1 from rfl,JY hu ht,JY hu ht'] at h ⊢
    obtain⟨p0,p1,ep⟩:∃p0 p1,t.2=[p0,p1]:=by
     have:=(hy t ht).2
     match t.2,this with
     |[p0,p1],_=>exact⟨p0,p1,rfl⟩
    obtain⟨p0',p1',ep'⟩:∃p0 p1,t'.2=[p0,p1]:=by
     have:=(hy t' ht').2
     match t'.2,this with
     |[p0,p1],_=>exact⟨p0,p1,rfl⟩
    rw[ep,ep'] at h ⊢
    rw[ZnN]
    exact h
   have hz0:(((ys.map fun t=>Value.ref t.1).zip (as.map Value.ref)).map cmp)=Zil (ys.map (·.2)):=by
    subst hcmp
    unfold Zil
    apply ZtL
    intro i
    rw[ZsZ,ZsZ,List.getElem?_zipIdx,ZsZ]
    cases z1:ys[i]? with
    |none =>
     have hl1:=ZtI.mp z1
     rw[Ztt (by rw[Zub,ZsV,ZsV];omega)]
     rfl
    |some t =>
     have hi:i<as.length:=by rw[<- hyl];exact(ZsU.mp z1).1
     have z2:as[i]?=some as[i]:=ZsT hi
     rw[show ((ys.map fun t=>Value.ref t.1).zip (as.map Value.ref))[i]?=some (Value.ref t.1,Value.ref as[i]) from by
      rw[ZtS,ZsZ,ZsZ,z1,z2];exact⟨rfl,rfl⟩]
     simp only[ZuF,Option.some.injEq]
     rw[show VI (.ref t.1)=t.1 from rfl,JY hu (ZsW z1),show VI (.ref as[i])=as[i] from rfl,ZdJ nd z2,Zul]
   have hs:ps.map cmp=ZaL (Zil (ys.map (·.2))):=by
    refine Qc up (VX _) (((p1.map cmp).trans ?_).trans (ZC _).symm)
    rw[hz0]
   have hres:((stK (ys.map (·.2))).map fun i=>V.ref (as.getD i 0))=ps.map fun y=>V.ref (VI y.2):=by
    unfold stK
    rw[<- hs,Zt2,Zt2]
    refine ZtK fun y hy'=>?_
    obtain⟨t,ht,i,a,hi,rfl⟩:=mem y hy'
    subst hcmp
    show V.ref (as.getD ((VB ys t.1++[((as.idxOf a:Nat):Int)]).getLastD 0).toNat 0)=V.ref a
    rw[Zu5,Zt4,ZdJ nd hi,ZsS,hi]
    rfl
   have hv:ZR ((stK (ys.map (·.2))).map fun i=>V.ref (as.getD i 0)) (ps.map (·.2)):=by
    rw[hres]
    have:=ZbB (ps.map fun y=>VI y.2)
    rw[Zt2,Zt2] at this
    have e2:ps.map (Value.ref∘fun y=>VI y.2)=ps.map (·.2):=ZtK fun y hy'=>by
     obtain⟨t,ht,i,a,hi,rfl⟩:=mem y hy'
     rfl
    rw[e2] at this
    exact this
   have I7:Inv X pins σ H4 { s4 with heap:=h' }:=I4'.turned2 (t':=s4.toks) (it:=kS) (e:=D) (fun b o n1 n2 q=>k4 b o n1 n2 q) fun b hb'=>by
    rcases hb' with rfl|rfl
    ·exact⟨nD,fpD.2.1,fpD.2.2.2.1,fpD.2.2.2.2.1,fpD.2.2.2.2.2⟩
    ·exact⟨nK,fpK.2.1,fpK.2.2.2.1,fpK.2.2.2.2.1,fpK.2.2.2.2.2⟩
   have hsD:X.s₀.heap.objs.size<=D:=Ztr I2.sz hD
   have I8:=I7.adopt (D:=D) (ys:=(stK (ys.map (·.2))).map fun i=>V.ref (as.getD i 0)) (its:=ps.map (·.2)) (n:=cc) nD hsD fpD.2.1 fpD.2.2.2.2.1 fpD.2.2.2.2.2 g' hv (by
    rw[hv.length,ZsV,p1.length_eq,Zub,ZsV,ZsV]
    exact Ztr (Nat.min_le_right _ _) (JB hz))
   exact⟨rfl,.ref D,_,I8,rfl,hQ D nD⟩
end
noncomputable def ZgJ(m:List PV->Rr PV)(pa pb:PV)(t:List Int):List Int:=match m [ZD t,pa,pb] with
 |.ok (.tup [.int a,.int b])=>[a,b]
 |_=>[]
def OkK(m:List PV->Rr PV)(pa pb:PV)(ts:List (List Int)):Prop:=ts.Nodup/\ts.length<=1000000/\∀t∈ts,∃a b,m [ZD t,pa,pb]=.ok (.tup [.int a,.int b])
open Classical in
noncomputable def Ql(m:List PV->Rr PV)(pa pb:PV)(xs:List PV):Rr PV:=if h:∃ts:List (List Int),xs=[.lst (ts.map ZD)]/\OkK m pa pb ts then newF ((stK (h.choose.map (ZgJ m pa pb))).map fun i=>ZD (h.choose.getD i [])) else .bad
theorem Zcw{m:List PV->Rr PV}{pa pb:PV}{ts:List (List Int)}(h:OkK m pa pb ts):Ql m pa pb [.lst (ts.map ZD)]=newF ((stK (ts.map (ZgJ m pa pb))).map fun i=>ZD (ts.getD i [])):=by
 have hex:∃us:List (List Int),[PV.lst (ts.map ZD)]=[.lst (us.map ZD)]/\OkK m pa pb us:=⟨ts,rfl,h⟩
 unfold Ql
 rw[dif_pos hex]
 have hs:ts.map ZD=hex.choose.map ZD:=PV.lst.inj (List.cons.inj hex.choose_spec.1).1
 have e:hex.choose=ts:=(V1 hs).symm
 rw[e]
theorem Zbq{kz:List (List Int)}{l:List Int}(h:l∈Zil kz):∃i k,kz[i]?=some k/\l=k++[((i:Nat):Int)]:=by
 unfold Zil at h
 obtain⟨⟨k,i⟩,hp,rfl⟩:=Ztm.mp h
 have:=List.mem_zipIdx_iff_getElem?.mp hp
 exact⟨i,k,this,rfl⟩
theorem Zfa{kz:List (List Int)}{i:Nat}(h:i∈stK kz):i<kz.length:=by
 unfold stK at h
 obtain⟨l,hl,rfl⟩:=Ztm.mp h
 obtain⟨j,k,hj,rfl⟩:=Zbq ((ZC _).mem_iff.mp hl)
 rw[Zu5,Zt4]
 exact(ZsU.mp hj).1
theorem ZiK:∀{qs:List PL2},(qs.map fun t=>t.2).Nodup->(∀t∈qs,∀t'∈qs,t.1=t'.1->t.2=t'.2)->(qs.map (·.1)).Nodup
 |[],_,_=>List.nodup_nil
 |t::qs,nd,hi=>by
  rw[Zte] at nd ⊢
  obtain⟨n1,n2⟩:=ZtW.mp nd
  refine ZtW.mpr ⟨fun z=>?_,ZiK n2 fun a ha b hb=>hi a (Ztz _ ha) b (Ztz _ hb)⟩
  obtain⟨t',ht',e⟩:=Ztm.mp z
  exact n1 (Ztm.mpr ⟨t',ht',hi t' (Ztz _ ht') t (ZtG ..) e⟩)
section
variable {K:W.Frag}{EX:PX->Hp->Prop}{Γ Γ':List Md}{ta:TA}{fa:List PV->Rr (List PV)}{m:List PV->Rr PV}
noncomputable abbrev teL(K:W.Frag)(m:List PV->Rr PV):TE:=UQ (spF K 3 .P W0 m) (Vg (Qf 0) (Vg (Qf 1) (Vg (Qf 2) Zdg)))
theorem ZdI{pa pb:PV}{wa wb:V}:∀(qs:List PL2) (H2:Hp) (QQ:List V->Hp->Prop),Rep K H2 (fun _=>True) pa wa->Rep K H2 (fun _=>True) pb wb->(∀t∈qs,Rep K H2 (fun _=>True) (ZD t.2) (V.ref t.1)) ->
  (∀t∈qs,∃a b,m [ZD t.2,pa,pb]=.ok (.tup [.int a,.int b])) ->
  (∀H3 (ys:List PL2),Z7 H2 H3->ys.map (·.2)=qs.map (fun t=>ZgJ m pa pb t.2)->(∀t∈ys,SqT K H3 t.1 (t.2.map V.int)/\t.2.length=2)->QQ (ys.map fun t=>V.ref t.1) H3) ->
  Zdh (teL K m) [some wa,some wb] (qs.map fun t=>V.ref t.1) H2 QQ
 |[],H2,QQ,_,_,_,_,h=>h H2 [] (Z7.refl _) rfl (by simp)
 |t::qs,H2,QQ,ra,rb,rq,hm,h=>by
  obtain⟨a,b,e⟩:=hm t (by simp)
  show teL K m (some (V.ref t.1)::[some wa,some wb]) H2 _
  refine⟨_,rfl,_,rfl,_,rfl,fun _=>True,[ZD t.2,pa,pb],⟨_,_,rfl,rq t (by simp),_,_,rfl,ra,_,_,rfl,rb,rfl⟩,rfl, ?_⟩
  rw[e]
  intro v H1 s1 r1
  obtain⟨_,p,ws,rfl,hi,hr⟩:=r1
  obtain⟨v1,r',rfl,h1,h2⟩:=hr
  obtain⟨v2,r'',rfl,h3,h4⟩:=h2
  cases h1;cases h3;cases h4
  refine ZdI qs H1 _ (ra.same s1) (rb.same s1) (fun t' ht'=>(rq t' (by simp[ht'])).same s1) (fun t' ht'=>hm t' (by simp[ht'])) fun H3 ys s3 ey hy=>?_
  have hk:ZgJ m pa pb t.2=[a,b]:=by unfold ZgJ;rw[e]
  refine h H3 ((p,[a,b])::ys) (s1.trans s3) (by rw[Zte,Zte,ey,hk]) fun t' ht'=>?_
  rcases Zti.mp ht' with rfl|ht'
  ·exact⟨(s3.im hi).sqT,rfl⟩
  ·exact hy t' ht'
theorem Ze5{ja jb:Nat}{ma mb:Md}(ha:DAA K EX Γ Γ' ta fa)(h1:Γ'[ja]?=some ma)(hm1:ma≠.U)(h2:Γ'[jb]?=some mb)(hm2:mb≠.U) :
  DE K EX Γ Γ' .F (Zde K (teL K m) [ja,jb] ta) (fun ρ=>(fa ρ).bind (Ql m (gv ja ρ) (gv jb ρ))):=fun B H0 H σ ρ F R Q A d=>by
 refine ha B H0 H σ ρ F R _ A (d.bind.imp (fun xs _ d vs H1 F1 s1 f1 p1 A1=>?_) fun e q=>q)
 obtain⟨wa,ea,ra⟩:=A1.getA h1 hm1
 obtain⟨wb,eb,rb⟩:=A1.getA h2 hm2
 unfold Ql at d
 split at d
 ·rename_i hex
  have hs:=hex.choose_spec
  generalize hex.choose=ts at d hs
  obtain⟨rfl,nd,hl,hk⟩:=hs
  obtain⟨g1,g2,d⟩:=Dn.newF d
  obtain⟨v,rfl,a,ws,rfl,hn,hr⟩:=VM p1
  obtain⟨qs,rfl,rfl,e3⟩:=UG hr
  have hnd:(qs.map (·.1)).Nodup:=by
   have hinj:∀t∈qs,∀t'∈qs,t.1=t'.1->t.2=t'.2:=fun t ht t' ht' e=>by
    obtain⟨p,us,e1,i1,r1⟩:=(e3 t ht).2
    obtain⟨p',us',e1',i1',r1'⟩:=(e3 t' ht').2
    cases e1;cases e1'
    rw[e] at i1
    have h3:=i1.1.symm.trans i1'.1
    have h4:us=us':=by injection h3 with h3;injection h3
    subst h4
    have h5:=(Vh r1).symm.trans (Vh r1')
    exact List.map_inj_right (fun x y h=>by injection h) |>.mp h5
   exact ZiK nd hinj
  refine⟨a,qs.map (·.1),rfl, ?_,hnd,by simpa using hl,fun H2 sm=>?_⟩
  ·rw[Zt2]
   exact JI (S:=fun _=>True) hn
  have hsel:ZgG [ja,jb] σ=[some wa,some wb]:=by
   unfold ZgG
   rw[Zte,Zte,Zux,ea,eb];rfl
  rw[hsel,Zt2]
  refine ZdI (pa:=gv ja ρ) (pb:=gv jb ρ) qs H2 _ (ra.same sm) (rb.same sm) (fun t ht=>(e3 t ht).2.same sm) (fun t ht=>hk _ (Zvc ht)) fun H3 ys s3 ey hy=>?_
  have eyl:ys.length=qs.length:=by
   have:=congrArg List.length ey
   rwa [ZsV,ZsV] at this
  refine⟨ys,rfl,hy,by rw[ZsV];exact eyl,fun l hz=>?_⟩
  have A3:=A1.grow (sm.trans s3)
  have hst:stK (ys.map (·.2))=stK ((qs.map fun t=>t.2).map (ZgJ m (gv ja ρ) (gv jb ρ))):=by rw[ey,Zt2];rfl
  rw[hst]
  refine d _ _ ((s1.trans (sm.trans s3)).trans (Z7.new hz)) (Res.newP (S:=fun _=>True) (s1.trans (sm.trans s3)) f1 ?_ g1 A3 hz)
  have hlt:∀i∈stK ((qs.map fun t=>t.2).map (ZgJ m (gv ja ρ) (gv jb ρ))),i<qs.length:=fun i hi=>by
   have:=Zfa hi
   simpa using this
  generalize stK ((qs.map fun t=>t.2).map (ZgJ m (gv ja ρ) (gv jb ρ)))=is at hlt
  clear d g1 g2
  induction is with
  |nil=>exact rfl
  |cons i is ih =>
   have hi:=hlt i (by simp)
   refine⟨_,_,rfl, ?_,ih fun j hj=>hlt j (by simp[hj])⟩
   have:=((e3 qs[i] (Zue hi)).2.same (sm.trans s3))
   dsimp only
   rw[ZsS,ZsS,ZsZ,ZsZ,ZsT hi]
   exact this
 ·exact d.elim
end
def Zjg(K:W.Frag)(f:Addr)(cdv:Value):Prop:=∃oc od fd osl,K.lookup f=some ⟨oc,od,.func fd,osl⟩/\fd.code=cdv/\fd.name = "ends_first"
noncomputable def ZlA(K:W.Frag)(ts:List Addr):Bool:=K.all fun p=>match p.2 with
 |⟨_,_,.func fd,_⟩=>if fd.name = "ends_first" then (match Zcl K p.1 with
  |some (_,P)=>ts.contains P&&(K.lookup P).isNone
  |none=>false) else true
 |_=>true
theorem ZfQ{K:W.Frag}{ts:List Addr}{h:Heap}(hc:ZlA K ts=true)(ht:∀P∈ts,h.get? P=some (PySem.W.tabObj #[])):Zk2 K h:=fun f c P e=>by
 have e0:=e
 unfold Zcl at e
 split at e
 ·rename_i oc od fd osl hk
  have hm:=ZtF.mp hc _ (PySem.W.mem_of_lookupK hk)
  dsimp only at hm
  split at e
  ·rename_i hn
   rw[if_pos hn,e0] at hm
   simp only[Bool.and_eq_true,Zuy] at hm
   exact⟨ht _ hm.1,Option.isNone_iff_eq_none.mp hm.2⟩
  ·cases e
 ·cases e
noncomputable def Zl9(K:W.Frag):Bool:=K.all fun p=>match p.2 with
 |⟨_,_,.func fd,_⟩=>if fd.name = "ends_first" then (Zcl K p.1).isSome else true
 |_=>true
theorem ZfP{K:W.Frag}{f:Addr}{cdv:Value}(hc:Zl9 K=true)(hf:Zjg K f cdv):∃c P,Zcl K f=some (c,P)/\cdv=.ref c:=by
 obtain⟨oc,od,fd,osl,hk,e1,e2⟩:=hf
 have hm:=ZtF.mp hc _ (PySem.W.mem_of_lookupK hk)
 dsimp only at hm
 rw[if_pos e2] at hm
 cases e:Zcl K f with
 |none=>rw[e] at hm;cases hm
 |some cp =>
  obtain⟨c,P⟩:=cp
  refine⟨c,P,rfl, ?_⟩
  unfold Zcl at e
  rw[hk] at e
  dsimp only at e
  rw[if_pos e2,e1] at e
  cases cdv with
  |ref c0 =>
   dsimp only at e
   split at e
   ·split at e
    ·split at e
     ·cases e;rfl
     ·cases e
    ·cases e
   ·cases e
  |_=>cases e
section
variable {P:Program}{w:World}{K:W.Frag}{mg:Str->Option Value}{base:Heap}
theorem Fun.okL{qual:Str}{st:Stmt}{f:Addr}{fd:FuncData}{N ps:List Str}{k n l:Nat}{kd:Kd}{m:List PV->Rr PV}(F:Fun K "ends_first" qual st f fd)(S:Zx N ps (Zl st))(hn:ps.length=n)(hl:N.length-n=l)(hbody:∀(cdv:Value) (A:Around) (outer:List Env) (s:Shared) (H:Hp) (E:XK),Zjg K f cdv->VU k (A.deeper (envOfC qual (Zl st) s.heap.objs.size f cdv)) ->
   ∃t g Y,Y.r=kd/\PSs (ZgL CX0 P w K mg base N qual (Zl st) f cdv A outer s H E).nox (JO st) t/\DS K X0 (List.replicate n .S++List.replicate l .U) Y t g/\∀xs,Ref (m xs) (g (xs++List.replicate l .non)).out)(hkN:kd≠.N:=by nofun)(hkM:kd≠.M:=by nofun) :
  J1 P w K mg base CX0 (k+1) f fd ps (spF K n kd W0 m):=by
 obtain⟨oc,od,kV,doc,pm,an,cdv,ct,osl,rfl,lk,hcd⟩:=F.ex
 refine ZlR lk hcd S (fun vs H Q E h=>?_) (fun A outer s H vs Q E hr h=>?_)
 ·obtain⟨B,xs,h1,h2,_⟩:=h
  rw[h1.length,h2,hn]
 ·obtain⟨B,xs,h1,h2,dn⟩:=h
  obtain⟨t,g,Y,hY,ht,hd,href⟩:=hbody cdv A outer s H E ⟨_,_,_,_,lk,rfl,rfl⟩ hr
  refine⟨t,ht.nox, ?_⟩
  have A0:=Ag.init (n:=l) h1
  have est:VL N vs=vs.map some++List.replicate l none:=by
   unfold VL
   rw[h1.length,h2,hl]
  rw[est]
  rw[h2] at A0
  refine hd _ H H _ _ _ _ A0 ?_
  have hdn:Dn (g (xs++List.replicate l .non)).out (fun x=>∀v H',Z7 H H'->ZgN K B H kd x v H'->Q v H') (fun e=>∀H',Z7 H H'->W0 e E H'):=by
   rcases href xs with e|e
   ·rw[e] at dn;exact dn.elim
   ·rw[<- e];exact dn
  have retK:∀{x v H'},ZgN K (fun a=>B a\/H a=none) H kd x v H'->ZgN K B H kd x v H':=fun {x v H'} h=>by
   cases kd with
   |P=>exact h
   |F=>exact h
   |T=>exact Rep.mono (fun a us s r=>⟨r,s.elim id .inr⟩) (fun a us r=>r) h
   |Z=>exact Rep.mono (fun a us s r=>⟨r,s.elim id .inr⟩) (fun a us r=>r) h
   |A=>exact Rep.mono (fun a us s r=>⟨r,s.elim id .inr⟩) (fun a us r=>r) h
   |N=>exact h
   |M=>exact h
  cases e:g (xs++List.replicate l .non) with
  |next ρ =>
   rw[e] at hdn
   refine fun σ' H' F' fr A'=>hdn .non H' A'.same ?_
   cases kd with
   |P=>exact⟨rfl,rfl⟩
   |F=>exact⟨[],⟨rfl,rfl⟩,by simp⟩
   |T=>exact rfl
   |Z=>exact rfl
   |A=>exact rfl
   |N=>exact absurd rfl hkN
   |M=>exact absurd rfl hkM
  |ret x=>rw[e] at hdn;exact fun v H' s r=>hdn v H' s (retK (hY▸r))
  |exc q=>rw[e] at hdn;exact fun H' s=>hdn H' s
  |brk ρ=>rw[e] at hdn;exact hdn.elim
  |cont ρ=>rw[e] at hdn;exact hdn.elim
  |bad=>rw[e] at hdn;exact hdn.elim
end
theorem Zgw(kz:List (List Int)):(stK kz).Perm (List.range kz.length):=by
 unfold stK
 refine((ZC (Zil kz)).map _).trans (List.Perm.of_eq ?_)
 unfold Zil
 rw[Zt2]
 apply ZtL
 intro i
 rw[ZsZ,List.getElem?_zipIdx]
 by_cases hi:i<kz.length
 ·rw[ZsT hi,ZtO hi]
  simp only[ZuF,Function.comp,Option.some.injEq]
  rw[Zu5];omega
 ·rw[Ztt (by omega),Ztt (by simpa using hi)]
  rfl
theorem JZ{α:Type}(ts:List α)(d:α):(List.range ts.length).map (fun i=>ts.getD i d)=ts:=by
 apply ZtL
 intro i
 rw[ZsZ]
 by_cases hi:i<ts.length
 ·rw[ZtO hi,ZsT hi,ZuF,ZsS,ZsT hi];rfl
 ·rw[Ztt (by simpa using hi),Ztt (by omega)];rfl
theorem ZgU{α:Type}{ts:List α}{d:α}{kz:List (List Int)}(h:kz.length=ts.length):((stK kz).map fun i=>ts.getD i d).Perm ts:=by
 refine((Zgw kz).map _).trans (List.Perm.of_eq ?_)
 rw[h,JZ]
theorem ZjU{k k':List Int}{a b:Int}(hl:k.length=k'.length)(h:HT.Z1 (k++[a]) (k'++[b])=false):HT.Z1 k k'=false:=by
 induction k generalizing k' with
 |nil =>
  cases k' with
  |nil=>rfl
  |cons y k'=>simp at hl
 |cons x k ih =>
  cases k' with
  |nil=>simp at hl
  |cons y k' =>
   have hl:k.length=k'.length:=by simpa using hl
   rw[Zuv,Zuv] at h
   unfold HT.Z1 at h ⊢
   by_cases hx:x=y
   ·simp only[hx,if_true] at h ⊢
    first|exact ih hl h|simp_all
   ·simp only[hx,if_false] at h ⊢
    first|exact h|simp_all
theorem ZkT{kz:List (List Int)}(h2:∀k∈kz,k.length=2):((stK kz).map fun i=>kz.getD i []).Pairwise fun x y=>HT.Z1 y x=false:=by
 have hu:=VX (Zil kz)
 unfold stK
 rw[Zt2,ZtU]
 refine hu.imp_of_mem fun {x y} hx hy h=>?_
 obtain⟨i,k,hi,rfl⟩:=Zbq ((ZC _).mem_iff.mp hx)
 obtain⟨j,k',hj,rfl⟩:=Zbq ((ZC _).mem_iff.mp hy)
 simp only[Function.comp,Zu5,Zt4]
 rw[ZsS,ZsS,hi,hj]
 show HT.Z1 k' k=false
 exact ZjU (by rw[h2 _ (ZsW hi),h2 _ (ZsW hj)]) h
section
end
end L2
namespace My
open PySem PySem.Spec PyProof.Rows L2
noncomputable def Zag(n:Nat)(l:List Int)(p:Int):Nat:=((List.range (n+1)).find? fun(k:Nat)=>decide (1<=k/\(p+(k:Int))%n∈l)).getD 0
structure Zns(n:Nat)(l:List Int)(p:Int)(d:Nat):Prop where
 d1:1<=d
 dn:d<n
 at_:(p+(d:Int))%n∈l
 min:∀k:Nat,1<=k->k<d->(p+(k:Int))%n ∉ l
theorem Za3:∀{m:Nat}{f:Nat->Bool}{k:Nat},(List.range m).find? f=some k->f k=true/\k<m/\∀j,j<k->f j=false:=fun {m f k} h=>by
 have h1:=List.find?_some h
 have h2:=Zty.mp (List.mem_of_find?_eq_some h)
 refine⟨h1,h2,fun j hj=>?_⟩
 rw[List.find?_eq_some_iff_append] at h
 obtain⟨_,as,bs,e,hn⟩:=h
 have hlen:as.length=k:=by
  have e1:(List.range m)[as.length]?=some k:=by rw[e,Zth (ZsX _)];simp
  rw[ZtO (by
   have:=congrArg List.length e
   rw[ZuN,Ztv,Ztw] at this
   omega)] at e1
  exact Option.some.inj e1
 have e2:as[j]?=some j:=by
  have:(List.range m)[j]?=some j:=ZtO (by omega)
  rw[e,Ztl (by omega)] at this
  exact this
 have:=hn j (ZsW e2)
 simpa using this
theorem Zbk{n:Nat}{l:List Int}{p:Int}(h0:0<=p)(h1:p<n)(hp:p ∉ l)(hl:∃q∈l,0<=q/\q<n):Zns n l p (Zag n l p):=by
 unfold Zag
 cases hf:(List.range (n+1)).find? fun(k:Nat)=>decide (1<=k/\(p+(k:Int))%n∈l) with
 |none =>
  exfalso
  obtain⟨q,hq,q0,q1⟩:=hl
  have hn:=ZuH.mp hf
  have hne:q≠p:=fun z=>hp (by rw[<- z];exact hq)
  have m:=ZaV (n:=n) q0 q1 h0 h1
  have:=hn ((q-p)%n).toNat (Zty.mpr (by rw[m];split<;>omega))
  apply this
  refine decide_eq_true ⟨by rw[m];split<;>omega, ?_⟩
  have e:(p+(((q-p)%n).toNat:Int))%n=q:=by
   rw[m]
   split
   ·rw[show p+((q-p).toNat:Int)=q by omega];exact Zt9 q0 q1
   ·rw[show p+((q-p+n).toNat:Int)=q+n by omega,ZuE];exact Zt9 q0 q1
  rw[e];exact hq
 |some k =>
  obtain⟨a,b,c⟩:=Za3 hf
  have a:=of_decide_eq_true a
  rw[ZtZ]
  refine⟨a.1, ?_,a.2,fun j j1 j2 z=>?_⟩
  ·have:k≠n:=fun z=>by
    have a2:=a.2
    rw[z,ZuE,Zt9 h0 h1] at a2
    exact hp a2
   omega
  ·have:=c j j2
   rw[decide_eq_true ⟨j1,z⟩] at this
   cases this
noncomputable def VJ(n:Nat)(f:Nat->Int):Int:=((List.range n).map f).sum
theorem Ja(n:Nat)(f:Nat->Int):VJ (n+1) f=VJ n f+f n:=by
 unfold VJ
 rw[Zus,Zt8,List.sum_append];simp
theorem ZaI{n:Nat}{f g:Nat->Int}(h:∀i,i<n->f i<=g i):VJ n f<=VJ n g:=by
 induction n with
 |zero=>exact Zva _
 |succ n ih =>
  rw[Ja,Ja]
  have:=ih fun i hi=>h i (by omega)
  have:=h n (by omega)
  omega
theorem VD{n:Nat}{f g:Nat->Int}(h:∀i,i<n->f i=g i):VJ n f=VJ n g:=
 Int.le_antisymm (ZaI fun i hi=>Int.le_of_eq (h i hi)) (ZaI fun i hi=>Int.le_of_eq (h i hi).symm)
theorem Zjo{n:Nat}{f g:Nat->Int}(h:∀i,i<n->f i<=g i){r:Nat}(hr:r<n)(hs:f r<g r):VJ n f<VJ n g:=by
 induction n with
 |zero=>omega
 |succ n ih =>
  rw[Ja,Ja]
  by_cases e:r=n
  ·subst e
   have:=ZaI (n:=r) fun i hi=>h i (by omega)
   omega
  ·have:=ih (fun i hi=>h i (by omega)) (by omega)
   have:=h n (by omega)
   omega
theorem Ul(n:Nat)(f g:Nat->Int):VJ n (fun i=>f i+g i)=VJ n f+VJ n g:=by
 induction n with
 |zero=>rfl
 |succ n ih=>rw[Ja,Ja,Ja,ih];omega
theorem ZgT(n:Nat)(c:Int)(f:Nat->Int):VJ n (fun i=>f i*c)=VJ n f*c:=by
 induction n with
 |zero=>simp[VJ]
 |succ n ih=>rw[Ja,Ja,ih,Int.add_mul]
theorem Zdj{n:Nat}{p:Nat}(hp:p<n)(v:Int):VJ n (fun i=>if i=p then v else 0)=v:=by
 induction n with
 |zero=>omega
 |succ n ih =>
  rw[Ja]
  by_cases e:p=n
  ·subst e
   rw[if_pos rfl]
   have:VJ p (fun i=>if i=p then v else 0)=VJ p (fun _=>0):=VD fun i hi=>if_neg (by omega)
   rw[this]
   have z:∀m,VJ m (fun _=>(0:Int))=0:=fun m=>by
    induction m with
    |zero=>rfl
    |succ m ih=>rw[Ja,ih];rfl
   rw[z];omega
  ·rw[ih (by omega),if_neg (fun z=>e z.symm)];omega
theorem ZaJ:∀(x:List Int),VJ x.length (fun i=>x.getD i 0)=x.sum:=fun x=>by
 unfold VJ
 congr 1
 exact JZ x 0
theorem Zbi(n:Nat)(l:List Int)(g:Int->Int):((Zj n l).map g).sum=VJ n fun i=>if (i:Int)∈l then 0 else g i:=by
 unfold Zj
 rw[Zt2]
 induction n with
 |zero=>rfl
 |succ n ih =>
  rw[Ja,Zus,Zud,Zt8,List.sum_append,ih]
  by_cases e:(n:Int)∈l
  ·simp[e]
  ·simp[e]
noncomputable def ZgK(n:Nat)(l:List Int)(x:List Int):List Int:=[((Zj n l).map fun p=>x.getD p.toNat 0).sum,((Zj n l).map fun p=>x.getD p.toNat 0*(Zag n l p:Int)).sum]
theorem Zjs{n:Nat}{s:Int}{l x:List Int}(hB:Bs n s x)(hl:∃q∈l,0<=q/\q<n){p:Int}(hp:p∈Zj n l)(hx:0<x.getD p.toNat 0):HT.Z1 (ZgK n l (Vo x p)) (ZgK n l x)=true:=by
 obtain⟨⟨p0,p1⟩,pl⟩:=VA.mp hp
 obtain⟨hn,nn,sm⟩:=hB
 have D:=Zbk p0 p1 pl hl
 generalize hd:Zag n l p=d at D
 have hB':=Bs.sow (b:=x) ⟨hn,nn,sm⟩ p0 p1
 have get:∀i,i<n->(Vo x p).getD i 0=(if (i:Int)=p then 0 else x.getD i 0)+x.getD p.toNat 0/n+ZgV n p (x.getD p.toNat 0%n) i:=fun i hi=>by
  rw[ZgX (by omega)]
  unfold Zb0 Zi4
  rw[hn]
 have h0:=Int.ediv_nonneg (Int.le_of_lt hx) (show (0:Int)<=n by omega)
 have key2:∀a b c e:Int,(a<c\/(a=c/\b<e))->HT.Z1 [a,b] [c,e]=true:=fun a b c e h=>by
  unfold HT.Z1 HT.Z1 HT.Z1
  by_cases h1:a=c
  ·have:b<e:=by omega
   by_cases h2:b=e
   ·omega
   ·simp[h1,h2,this]
  ·have:a<c:=by omega
   simp[h1,this]
 unfold ZgK
 apply key2
 have whole:∀y:List Int,y.length=n->VJ n (fun i=>if (i:Int)∈l then y.getD i 0 else 0)+((Zj n l).map fun p=>y.getD p.toNat 0).sum=y.sum:=fun y hy=>by
  rw[Zbi n l fun p=>y.getD p.toNat 0,<- Ul,<- ZaJ y,hy]
  refine VD fun i hi=>?_
  by_cases e:(i:Int)∈l
  ·rw[if_pos e,if_pos e];omega
  ·rw[if_neg e,if_neg e,Zt4];omega
 have w1:=whole x hn
 have w2:=whole (Vo x p) hB'.1
 have hsum:(Vo x p).sum=x.sum:=by rw[hB'.2.2,sm]
 have grow:∀i,i<n->(if (i:Int)∈l then x.getD i 0 else 0)<=(if (i:Int)∈l then (Vo x p).getD i 0 else 0):=fun i hi=>by
  by_cases e:(i:Int)∈l
  ·rw[if_pos e,if_pos e,get i hi,if_neg (fun z=>pl (by rw[<- z];exact e))]
   have:=Zcr n p (x.getD p.toNat 0%n) i
   omega
  ·rw[if_neg e,if_neg e];exact Zva _
 by_cases c:(d:Int)<=x.getD p.toNat 0
 ·left
  have hr0:=Ztp (p+(d:Int)) (show (n:Int)≠0 by omega)
  have hr1:=Ztg (p+(d:Int)) (show (0:Int)<n by omega)
  have hrl:=D.at_
  have hmod:=QC p0 p1 (show (0:Int)<=(d:Int) by omega) (show (d:Int)<n from by have:=D.dn;omega)
  generalize hr:(p+(d:Int))%n=r at hr0 hr1 hrl hmod
  have hrn:r.toNat<n:=by omega
  have strict:=Zjo grow (r:=r.toNat) hrn (by
   rw[if_pos (by rw[Zt6 hr0];exact hrl),if_pos (by rw[Zt6 hr0];exact hrl),get _ hrn,Zt6 hr0,if_neg (fun z=>pl (by rw[<- z];exact hrl))]
   by_cases big:(n:Int)<=x.getD p.toNat 0
   ·have:1<=x.getD p.toNat 0/n:=Int.le_ediv_of_mul_le (by omega) (by omega)
    have:=Zcr n p (x.getD p.toNat 0%n) r.toNat
    omega
   ·rw[Zt9 (by omega) (by omega),VE]
    ·omega
    ·rw[Zt6 hr0]
     have m2:=ZaV (n:=n) hr0 hr1 p0 p1
     have:=D.d1
     have:=D.dn
     rw[m2]
     split at hmod<;>split<;>omega)
  omega
 ·right
  have hq:x.getD p.toNat 0/n=0:=Int.ediv_eq_zero_of_lt (by omega) (by have:=D.dn;omega)
  have hm:x.getD p.toNat 0%n=x.getD p.toNat 0:=Zt9 (by omega) (by have:=D.dn;omega)
  generalize hh:x.getD p.toNat 0=h at *
  have near:∀i:Nat,i<n->1<=((i:Int)-p)%n->((i:Int)-p)%n<=h->(i:Int) ∉ l/\(Zag n l i:Int)<=(d:Int)-1:=fun i hi k1 k2=>by
   obtain⟨k,k1,k2,k3⟩:∃k:Nat,1<=k/\(k:Int)<=h/\(p+(k:Int))%n=i:=by
    refine⟨(((i:Int)-p)%n).toNat,by omega,by omega, ?_⟩
    have m2:=ZaV (n:=n) (show (0:Int)<=(i:Int) by omega) (by omega) p0 p1
    rw[Zt6 (by omega),m2]
    split
    ·rw[show p+((i:Int)-p)=i by omega];exact Zt9 (by omega) (by omega)
    ·rw[show p+((i:Int)-p+n)=i+n by omega,ZuE];exact Zt9 (by omega) (by omega)
   have hil:(i:Int) ∉ l:=fun z=>by
    have:=D.min k k1 (by omega)
    rw[k3] at this
    exact this z
   refine⟨hil, ?_⟩
   have D':=Zbk (l:=l) (show (0:Int)<=(i:Int) by omega) (by omega) hil hl
   apply Classical.byContradiction
   intro z
   have:=D'.min (d-k) (by omega) (by omega)
   apply this
   have e:((i:Int)+((d-k:Nat):Int))%n=(p+(d:Int))%n:=by
    rw[<- k3,Int.emod_add_emod]
    congr 1
    omega
   rw[e];exact D.at_
  have same:VJ n (fun i=>if (i:Int)∈l then (Vo x p).getD i 0 else 0)=VJ n (fun i=>if (i:Int)∈l then x.getD i 0 else 0):=VD fun i hi=>by
   by_cases e:(i:Int)∈l
   ·rw[if_pos e,if_pos e,get i hi,if_neg (fun z=>pl (by rw[<- z];exact e)),hq,hm,V2 (fun z=>(near i hi z.1 z.2).1 e)]
    omega
   ·rw[if_neg e,if_neg e]
  refine⟨by omega, ?_⟩
  rw[Zbi n l fun q=>(Vo x p).getD q.toNat 0*(Zag n l q:Int),Zbi n l fun q=>x.getD q.toNat 0*(Zag n l q:Int)]
  have cnt:VJ n (fun i=>ZgV n p h i)=h:=by
   have e1:VJ n (fun i=>(Vo x p).getD i 0)=x.sum:=by rw[<- hsum,<- ZaJ (Vo x p),hB'.1]
   have e2:VJ n (fun i=>(Vo x p).getD i 0)+VJ n (fun i=>if i=p.toNat then h else 0)=VJ n (fun i=>x.getD i 0)+VJ n (fun i=>ZgV n p h i):=by
    rw[<- Ul,<- Ul]
    refine VD fun i hi=>?_
    rw[get i hi,hq,hm]
    by_cases e:(i:Int)=p
    ·rw[if_pos e,if_pos (by omega),show i=p.toNat by omega,hh];omega
    ·rw[if_neg e,if_neg (by omega)];omega
   rw[Zdj (by omega),e1] at e2
   have e3:=ZaJ x
   rw[hn] at e3
   omega
  have step:VJ n (fun i=>(if (i:Int)∈l then 0 else (Vo x p).getD ((i:Int)).toNat 0*(Zag n l i:Int))+(if i=p.toNat then h*(d:Int) else 0))<=VJ n (fun i=>(if (i:Int)∈l then 0 else x.getD ((i:Int)).toNat 0*(Zag n l i:Int))+ZgV n p h i*((d:Int)-1)):=by
   refine ZaI fun i hi=>?_
   rw[Zt4,get i hi,hq,hm]
   by_cases e:(i:Int)=p
   ·have e':i=p.toNat:=by omega
    rw[if_neg (by rw[e];exact pl),if_pos e,if_pos e',if_neg (by rw[e];exact pl),e',hh,Zt6 p0,hd,V2 (by rw[Zt6 p0,Int.sub_self,Int.zero_emod];omega)]
    simp
   ·rw[if_neg e,if_neg (show ¬i=p.toNat by omega)]
    by_cases g:1<=((i:Int)-p)%n/\((i:Int)-p)%n<=h
    ·obtain⟨g1,g2⟩:=near i hi g.1 g.2
     rw[VE g,if_neg g1,if_neg g1]
     have:(x.getD i 0+0+1)*(Zag n l i:Int)=x.getD i 0*(Zag n l i:Int)+(Zag n l i:Int):=by
      rw[Int.add_zero,Int.add_mul,Int.one_mul]
     rw[this]
     omega
    ·rw[V2 g]
     by_cases e2:(i:Int)∈l
     ·rw[if_pos e2,if_pos e2];omega
     ·rw[if_neg e2,if_neg e2];simp
  rw[Ul,Ul,ZgT,cnt,Zdj (show p.toNat<n by omega)] at step
  have:h*((d:Int)-1)=h*(d:Int)-h:=by rw[Int.mul_sub,ZuX]
  omega
noncomputable def enF(n:Nat)(l b:List Int):List (List Int):=(stK ((Zaq (Zj n l) b).map (ZgK n l))).map fun i=>(Zaq (Zj n l) b).getD i []
theorem Zbl(n:Nat)(l b:List Int):(enF n l b).Perm (Zaq (Zj n l) b):=ZgU (by simp)
theorem Za5(n:Nat)(l b:List Int):(enF n l b).Nodup:=(Zbl n l b).nodup_iff.mpr (ZaO _ _)
theorem ZlU(n:Nat)(l b:List Int):(enF n l b).Pairwise fun x y=>HT.Z1 (ZgK n l y) (ZgK n l x)=false:=by
 have h:=ZkT (kz:=(Zaq (Zj n l) b).map (ZgK n l)) (fun k hk=>by obtain⟨x,_,rfl⟩:=Ztm.mp hk;rfl)
 unfold enF
 rw[ZtU] at h ⊢
 refine h.imp_of_mem fun {i j} hi hj q=>?_
 have li:=Zfa hi
 have lj:=Zfa hj
 rw[ZsV] at li lj
 rw[ZsS,ZsS,ZsZ,ZsZ,ZsT li,ZsT lj] at q
 rw[ZsS,ZsS,ZsT li,ZsT lj]
 exact q
structure UW(n:Nat)(s:Int)(l b:List Int):Prop where
 f:Zbz n s (Zj n l) b
 bar:∃q∈l,0<=q/\q<n
theorem UW.len{n:Nat}{s:Int}{l b:List Int}(h:UW n s l b):(enF n l b).length<=1000:=by
 rw[(Zbl n l b).length_eq];exact h.f.le _
theorem UW.mem{n:Nat}{s:Int}{l b:List Int}(h:UW n s l b){x:List Int}:x∈enF n l b ↔ Rch (Zj n l) b x:=by
 rw[(Zbl n l b).mem_iff];exact h.f.mem
theorem UW.ahead{n:Nat}{s:Int}{l b:List Int}(h:UW n s l b){i:Nat}{x:List Int}(hi:(enF n l b)[i]?=some x){p:Int}(hp:p∈Zj n l)(hx:0<x.getD p.toNat 0):∃j,j<i/\(enF n l b)[j]?=some (Vo x p):=by
 have rx:=h.mem.mp (ZsW hi)
 have ry:Vo x p∈enF n l b:=h.mem.mpr (.step rx hp hx)
 have k:=Zjs (rx.bs h.f.hP h.f.hb) h.bar hp hx
 obtain⟨j,hj⟩:=Zt0 ry
 refine⟨j, ?_,hj⟩
 obtain⟨li,ei⟩:=ZsU.mp hi
 obtain⟨lj,ej⟩:=ZsU.mp hj
 apply Classical.byContradiction
 intro c
 by_cases e:i=j
 ·subst e
  rw[ei] at ej
  rw[<- ej,HL.V5] at k
  cases k
 ·have:=ZtR.mp (ZlU n l b) i j li lj (by omega)
  rw[ei,ej,k] at this
  cases this
noncomputable def vF(g:List Int->Int)(P:List Int):Nat->List Int->Int
 |0,_=>0
 |k+1,x=>g ((Jk P x).map fun y=>vF g P k y.2)
theorem Zcp(g:List Int->Int)(P:List Int)(k:Nat)(x:List Int):vF g P (k+1) x=g ((Jk P x).map fun y=>vF g P k y.2):=rfl
noncomputable def Zix(g:List Int->Int)(P:List Int)(x:List Int):Int:=vF g P (1001+P.length) x
theorem Zjk(g:List Int->Int)(P:List Int)(x:List Int):Zix g P x=g ((Jk P x).map fun y=>vF g P (1000+P.length) y.2):=by
 unfold Zix
 rw[show 1001+P.length=(1000+P.length)+1 by omega,Zcp]
theorem UW.same{n:Nat}{s:Int}{l b:List Int}(h:UW n s l b)(g:List Int->Int):∀(i k k':Nat) (x:List Int),i<k->i<k'->(enF n l b)[i]?=some x->vF g (Zj n l) k x=vF g (Zj n l) k' x:=by
 intro i
 induction i using Nat.strongRecOn with
 |_ i ih =>
  intro k k' x hk hk' hx
  match k,k',hk,hk' with
  |k+1,k'+1,hk,hk' =>
   rw[Zcp,Zcp]
   congr 1
   refine ZtK fun y hy=>?_
   obtain⟨y1,y2,y3⟩:=Jp.mp hy
   obtain⟨j,hj,ej⟩:=h.ahead hx y1 y2
   rw[<- y3] at ej
   exact ih j hj k k' y.2 (by omega) (by omega) ej
theorem UW.val{n:Nat}{s:Int}{l b:List Int}(h:UW n s l b)(g:List Int->Int){x:List Int}(hx:x∈enF n l b):Zix g (Zj n l) x=g ((Jk (Zj n l) x).map fun y=>Zix g (Zj n l) y.2):=by
 obtain⟨i,hi⟩:=Zt0 hx
 have hl:=h.len
 have li:=(ZsU.mp hi).1
 rw[Zjk]
 congr 1
 refine ZtK fun y hy=>?_
 obtain⟨y1,y2,y3⟩:=Jp.mp hy
 obtain⟨j,hj,ej⟩:=h.ahead hi y1 y2
 rw[<- y3] at ej
 unfold Zix
 exact h.same g j _ _ y.2 (by omega) (by omega) ej
theorem UW.go{n:Nat}{s:Int}{l b:List Int}(h:UW n s l b){x:List Int}(hx:Rch (Zj n l) b x):UW n s l x:=⟨h.f.go hx,h.bar⟩
noncomputable def gR(L:List Int):Int:=if L=[] then 0 else ZnM (L.map (·+1))
noncomputable def rkB(P x:List Int):Int:=Zix gR P x
theorem ZkI{g:List Int->Int}(hg:∀L:List Int,(∀v∈L,0<=v)->0<=g L)(P:List Int):∀k x,0<=vF g P k x
 |0,_=>Zva _
 |k+1,x=>hg _ fun v hv=>by
  obtain⟨y,_,rfl⟩:=Ztm.mp hv
  exact ZkI hg P k y.2
theorem ZdZ{E:List (List Int)}{f:List Int->PV}{i j:Nat}{y:List Int}(nd:E.Nodup)(hj:j<i)(hy:E[j]?=some y):atK ((E.take i).map tI) ((E.take i).map f) (tI y)=some (f y):=by
 refine Zja (j:=j) (ZkN (nd.sublist (Zvh _ _))) ?_ ?_
 ·rw[ZsZ,Zup hj,hy];rfl
 ·rw[ZsZ,Zup hj,hy];rfl
theorem Qg{E:List (List Int)}{i:Nat}{y:List Int}(nd:E.Nodup)(hy:E[i]?=some y):tI y ∉ (E.take i).map tI:=fun z=>by
 obtain⟨w,hw,e⟩:=Ztm.mp z
 have:=Zdi e
 subst this
 obtain⟨j,hj⟩:=Zt0 hw
 have hji:j<i:=by
  have:=(ZsU.mp hj).1
  rw[Ztu] at this
  omega
 rw[Zup hji] at hj
 obtain⟨l1,e1⟩:=ZsU.mp hj
 obtain⟨l2,e2⟩:=ZsU.mp hy
 have:=(List.getElem_inj nd).mp (e1.trans e2.symm)
 omega
theorem Uk{α β:Type}{E:List α}{f:α->β}{i:Nat}{y:α}(hy:E[i]?=some y):(E.take (i+1)).map f=(E.take i).map f++[f y]:=by
 rw[List.take_add_one,hy,Zt8];rfl
theorem ZdH{α:Type}{f:PV->Rr PV}{q g:α->PV}:∀{L:List α},(∀x∈L,f (q x)=.ok (g x))->Zba f (L.map q)=.ok (L.map g)
 |[],_=>rfl
 |x::L,h=>by
  rw[Zte,Zte]
  unfold Zba
  rw[h x (ZtG ..),ZdH fun y hy=>h y (Ztz _ hy)]
  rfl
end My
namespace L2
open PySem PySem.Spec PyProof.Rows
def Zeb(h:Heap)(d:Addr)(es:Array DictEntry)(ep:Nat):Prop:=∃o,h.get? d=some o/\o.ExactDict/\o.data=.dict es ep
theorem Zeb.at{h h':Heap}{d:Addr}{es:Array DictEntry}{ep:Nat}(x:Zeb h d es ep)(k:∀o,h.get? d=some o->h'.get? d=some o):Zeb h' d es ep:=by
 obtain⟨o,e,r⟩:=x
 exact⟨o,k o e,r⟩
section
variable {prog:Program}{w:World}{A:Around}{E:Value->Shared->Prop}{s:Shared}{d it:Addr}{es:Array DictEntry}{ep:Nat}
theorem Zeb.ty(x:Zeb s.heap d es ep):s.TypeIs (.ref d) "dict":=by
 obtain⟨o,e,r,_⟩:=x
 exact⟨o,e,r.1⟩
theorem Zdq{Q:Value->Shared->Prop}(nm:(d==sysModules)=false)(x:Zeb s.heap d es ep)(q:Q (.ref s.heap.objs.size) { s with heap:=s.heap.push { cls:=.type "dict_keyiterator",data:=.fields #[.ref d,.int 0 0,.int es.size 0,.int ep 0] } }):wpAny (model prog w) A (pyIter (.ref d)) Q E s:=by
 have ty:=x.ty
 obtain⟨o,e1,e2,e3⟩:=x
 refine wpAny_pyIter_slot ty F.slot_dict_iter (wpAny_call_entry F.slot_dict_iter ty F.entry_dict_iter (by
  unfold Builtin.«dict.__iter__»
  refine wpAny_bind (by
   unfold Builtin.Dict.dictSlotNone
   refine wpAny_bind (wpAny_notOrdered_dict ty (by
    show wpAny _ _ (pure (Value.ref d)) _ _ s
    refine wpAny_pure (by
     show wpAny _ _ (Builtin.Dict.showsAll d >>= _) _ _ s
     unfold Builtin.Dict.showsAll
     rw[if_neg (by rw[nm];exact Bool.false_ne_true)]
     refine wpAny_bind (wpAny_pure (wpAny_bind (wpAny_dictEntries e1 e3 (wpAny_bind (wpAny_dictEpoch e1 e3 (wpAny_bind (wpAny_newObj_type (wpAny_pure ⟨_,rfl, "dict_keyiterator",_,⟨_,Heap.get?_push_size _ rfl,rfl⟩,F.slot_dict_keyiterator_next.lookup, ?_⟩))))))))
     simpa[rawInt] using q))))) (F.args_dict_iter_1 _))
theorem Zdr{i:Nat}{Q:Option Value->Shared->Prop}(hi:s.heap.IsKeyIter it d i es.size ep)(x:Zeb s.heap d es ep)(hx:i<es.size)(q:∀h',h'.IsKeyIter it d (i+1) es.size ep->Heap.SameBut it s.heap h'->Q (some es[i].key) { s with heap:=h' }):wpAny (model prog w) A (pyNext (.ref it)) Q E s:=by
 have ty:=hi.typeIs
 obtain⟨o,e1,e2,e3⟩:=id hi
 obtain⟨u,u1,u2,u3⟩:=x
 unfold pyNext
 refine wpAny_bind (wpAny_attempt (wpAny_callSpecial?_slot (name:=Str.ofString "__next__") ty F.slot_dict_keyiterator_next (wpAny_call_entry F.slot_dict_keyiterator_next ty F.entry_dict_keyiterator_next (by
  refine wpAny_bind (wpAny_pure (wpAny_bind (wpAny_bind (by
   first
    |refine wpAny_bind (wpAny_typeNameOfWhole_keyiter ty (wpAny_pure (wpAny_bind (wpAny_fieldsOf e1 e3 ?_))))
    |refine wpAny_bind (wpAny_typeNameOf_keyiter ty (wpAny_pure (wpAny_bind (wpAny_fieldsOf e1 e3 ?_))))
   have n1:Builtin.Dict_items.ownsTuple "dict_keyiterator"=false:=by decide
   simp only[n1,Bool.false_eq_true,if_false]
   show wpAny _ _ (if (Value.ref d==Value.none)=true then _ else _) _ _ s
   rw[if_neg (show ¬((Value.ref d==Value.none)=true) from Bool.false_ne_true)]
   refine wpAny_bind (wpAny_pure (wpAny_bind (wpAny_dictEntries u1 u3 ?_)))
   rw[if_neg (by simp)]
   refine wpAny_bind (wpAny_pure (wpAny_bind (wpAny_dictEpoch u1 u3 ?_)))
   rw[if_neg (by simp)]
   refine wpAny_pure ?_
   simp only[show ¬((i:Int)<0) from by omega,if_false,Zt4,Zun hx]
   have hit':(s.heap.update it (Obj.mapFields (·.setIfInBounds 1 (rawInt ((i:Int)+1))))).IsKeyIter it d (i+1) es.size ep:=⟨_,Heap.get?_update_self _ e1 (Obj.isFreed_of_fields (Obj.data_mapFields e3 _)),(Obj.cls_mapFields ..).trans e2,by rw[Obj.data_mapFields e3];simp[rawInt]⟩
   refine wpAny_bind (by
    first
     |refine wpAny_bind (wpAny_typeNameOfWhole_keyiter ty (wpAny_pure (wpAny_bind (wpAny_isOneOf_keyiter ty ?_))))
     |refine wpAny_bind (wpAny_typeNameOf_keyiter ty (wpAny_pure (wpAny_bind (wpAny_isOneOf_keyiter ty ?_))))
    show wpAny _ _ (setField (.ref it) 1 (rawInt ((i:Int)+1)) >>= _) _ _ s
    refine wpAny_bind (wpAny_setField e1 e3 (by simp) (wpAny_bind (wpAny_holding (wpAny_bind (wpAny_isOneOf_keyiter (s:={ s with heap:=s.heap.update it (Obj.mapFields (·.setIfInBounds 1 (rawInt ((i:Int)+1)))) }) hit'.typeIs (by
     show wpAny _ _ (pure es[i].key) _ _ _
     exact wpAny_pure (wpAny_pure ⟨_,rfl,wpAny_pure (q _ hit' (Heap.SameBut.update ..))⟩))))))))))))) (F.args_dict_keyiterator_next_1 _))))
theorem Zfn{Q:Option Value->Shared->Prop}(hh:A.handled=none){i:Nat}(hge:es.size<=i)(hi:s.heap.IsKeyIter it d i es.size ep)(x:Zeb s.heap d es ep)(q:∀h',Heap.ExtBut it s.heap h'->Q none { s with heap:=h' }):wpAny (model prog w) A (pyNext (.ref it)) Q E s:=by
 have ty:=hi.typeIs
 obtain⟨o,e1,e2,e3⟩:=id hi
 obtain⟨u,u1,u2,u3⟩:=x
 unfold pyNext
 refine wpAny_bind (wpAny_attempt (wpAny_callSpecial?_slot (name:=Str.ofString "__next__") ty F.slot_dict_keyiterator_next (wpAny_call_entry F.slot_dict_keyiterator_next ty F.entry_dict_keyiterator_next (by
  refine wpAny_bind (wpAny_pure (wpAny_bind (wpAny_bind (by
   first
    |refine wpAny_bind (wpAny_typeNameOfWhole_keyiter ty (wpAny_pure (wpAny_bind (wpAny_fieldsOf e1 e3 ?_))))
    |refine wpAny_bind (wpAny_typeNameOf_keyiter ty (wpAny_pure (wpAny_bind (wpAny_fieldsOf e1 e3 ?_))))
   have n1:Builtin.Dict_items.ownsTuple "dict_keyiterator"=false:=by decide
   simp only[n1,Bool.false_eq_true,if_false]
   show wpAny _ _ (if (Value.ref d==Value.none)=true then _ else _) _ _ s
   rw[if_neg (show ¬((Value.ref d==Value.none)=true) from Bool.false_ne_true)]
   refine wpAny_bind (wpAny_pure (wpAny_bind (wpAny_dictEntries u1 u3 ?_)))
   rw[if_neg (by simp)]
   refine wpAny_bind (wpAny_pure (wpAny_bind (wpAny_dictEpoch u1 u3 ?_)))
   rw[if_neg (by simp)]
   refine wpAny_pure ?_
   simp only[show ¬((i:Int)<0) from by omega,if_false,Zt4,Zuw hge]
   refine wpAny_bind (by
    first
     |refine wpAny_bind (wpAny_typeNameOfWhole_keyiter ty (wpAny_pure ?_))
     |refine wpAny_bind (wpAny_typeNameOf_keyiter ty (wpAny_pure ?_))
    show wpAny _ _ (setField (.ref it) 0 .none >>= _) _ _ s
    refine wpAny_bind (wpAny_setField e1 e3 (by simp) ?_)
    show wpAny _ _ (newExc (.type "StopIteration") [] >>= _) _ _ _
    refine wpAny_bind ?_
    simp only[newExc,newTuple]
    refine wpAny_bind (wpAny_newObj_type (wpAny_bind (m:=firstArgMember _ _) (wpAny_of_eq (a:=Value.none) (by first|rfl|(simp only[firstArgMember];rfl)) ?_)) (by size_fits))
    refine wpAny_newObj_type ?_ (by size_fits)
    simp only[raiseNew]
    refine wpAny_bind (wpAny_handled ?_)
    rw[show A.in1.handled=none from hh]
    refine wpAny_bind (wpAny_pure (wpAny_throw ?_));refine wpAny_bind (wpAny_isInstance (T := "StopIteration") (b:=true) ⟨_,Heap.get?_push_size _ rfl,rfl⟩ isSubtype_stop ?_);exact wpAny_pure (q _ (((Heap.SameBut.update ..).extBut.push _).push _)))))))) (F.args_dict_keyiterator_next_1 _))))
theorem Zjx{Q:Value->Shared->Prop}(nm:(d==sysModules)=false)(x:Zeb s.heap d es ep)(hz:es.size<=2^24)(q:Q (.int es.size (s.toks+1)) { s with toks:=s.toks+1+1 }):wpAny (model prog w) A (call (.builtin "len") [.ref d]) Q E s:=by
 have ty:=x.ty
 refine PyProof.Rows.call_len_slot (n:=es.size) ty F.slot_dict_len (fun Q' hq=>wpAny_call_entry F.slot_dict_len ty F.entry_dict_len (by
  obtain⟨o,e1,e2,e3⟩:=x
  show wpAny _ _ (dictSize d >>= _) _ _ s
  unfold dictSize
  refine wpAny_bind (wpAny_bind (wpAny_dictEntries e1 e3 (wpAny_pure (by
   show wpAny _ _ (Builtin.Dict.pendingCount d >>= _) _ _ s
   refine wpAny_bind (wpAny_pendingCount_other nm (wpAny_ret_mkInt ?_))
   simpa using hq))))) (F.args_dict_len_1 _)) (by omega) (by omega) q
theorem ZeN(hh:A.handled=none)(I:Addr)(ne:d≠I):Walks prog w A I [I,d] [I] es.size (fun i v=>(es.map (·.key))[i]?=some v) (fun i h=>h.IsKeyIter I d i es.size ep/\Zeb h d es ep) where
 sub b hb:=by simp at hb;simp[hb]
 frame _ _ _ st k:=⟨st.1.at fun o e=>k I (by simp) o e,st.2.at fun o e=>k d (by simp) o e⟩
 item i s Q E hi st q:=Zdr st.1 st.2 hi fun h' st' sb=>q _ h' s.toks (by simp[hi]) ⟨st',st.2.at fun o e=>(sb.2 d ne).trans e⟩ fun b o hb e=>(sb.2 b (fun z=>hb (by simp[z]))).trans e
 done s Q E st q:=Zfn hh (ZsX _) st.1 st.2 fun h' eb=>q h' s.toks fun b o hb e=>eb b o (fun z=>hb (by simp[z])) e
 self _ _ _ _ st q:=wpAny_pyIter_keyiter st.1 q
theorem ZhJ{Q:Bool->Shared->Prop}(nm:(d==sysModules)=false)(x:Zeb s.heap d es ep)(hz:es.size<=1000000)(q:∀b tk,Q b { s with toks:=tk }):wpAny (model prog w) A (Builtin.List.listLengthHint (.ref d)) Q E s:=by
 have ty:=x.ty
 unfold Builtin.List.listLengthHint
 refine wpAny_bind (wpAny_specialOf ty F.slot_dict_len.lookup ?_)
 generalize hid:("dict.__len__":String)=nm0
 wp_delta
 rw[show splitId nm0=some ("dict", "__len__") from by subst hid;decide +kernel]
 subst hid
 exact wpAny_bind (wpAny_isInstance (T := "dict") (b:=true) ty (by rw[isSubtype_type];kernel_rfl) (wpAny_ite_split (fun z=>absurd z (by decide)) (fun _=>wpAny_ite_split (fun _=>wpAny_bind (wpAny_typeOf ty (wpAny_pure (q _ s.toks)))) (fun z=>absurd (by decide +kernel) z))))
theorem Ze1{R:Result->Shared->Prop}(hh:A.handled=none)(nm:(d==sysModules)=false)(x:Zeb s.heap d es ep)(hz:es.size<=1000000)(S:Addr)(res:Value)(c0:Nat)(hS:s.heap.get? S=some { cls:=.type "list",data:=.seq #[] c0 })(q:∀h' tk acc c',(∀b o,b≠S->s.heap.get? b=some o->h'.get? b=some o)->h'.get? S=some { cls:=.type "list",dict:=none,data:=.seq acc c',slots:=#[] } ->
   ItemsOf (fun i v=>(es.map (·.key))[i]?=some v) acc es.size->R (.ok (.ret res)) { s with heap:=h',toks:=tk }) :
  wpAny (model prog w) A.in1 (Builtin.List.listExtendWith (.ref S) (.ref d) res) (fun fin s'=>match fin with|.done f=>R (.ok f) s'|.again c'=>c'.quiet=true/\codeAny (model prog w) A c' R s') (fun e s'=>R (.error e) s') s:=by
 have ty:=x.ty
 have dne:S≠d:=fun e=>by
  obtain⟨o,e1,e2,e3⟩:=x
  rw[e,e1] at hS
  cases hS
  cases e3
 have sne:S≠s.heap.objs.size:=Zt1 (Heap.lt_size hS)
 have dI:d≠s.heap.objs.size:=by
  obtain⟨o,e1,_⟩:=x
  exact Zt1 (Heap.lt_size e1)
 have W:=(ZeN (prog:=prog) (w:=w) (A:=A.in1) (es:=es) (ep:=ep) hh s.heap.objs.size dI).toS
 have go:∀(h:Heap) (c1 tk:Nat),h.IsKeyIter s.heap.objs.size d 0 es.size ep->Zeb h d es ep->(∀b o,b≠S->s.heap.get? b=some o->h.get? b=some o) ->
   h.get? S=some { cls:=.type "list",data:=.seq #[] c1 }->codeAny (model prog w) A (.builtin "list.extend.loop" ⟨[.ref S,.ref s.heap.objs.size,res],[]⟩) R { s with heap:=h,toks:=tk }:=fun h c1 tk st st2 k hS1=>by
  refine codeAny_extend_loopS W (by rw[sizeLine_eq];omega) S (by simp[sne,dne]) res es.size 0 _ #[] c1 rfl (ZtB _) ⟨st,st2⟩ hS1 (ItemsOf.nil _) fun s' acc' c' hm hS' hacc=>?_
  rw[Moved.eq_with hm]
  refine q s'.heap s'.toks acc' c' (fun b o hb e=>hm.heap b o (fun z=>?_) (k b o hb e)) hS' hacc
  rcases Zti.mp z with z|z
  ·exact hb z
  ·exact absurd (Heap.lt_size e) (by rw[Ztj.mp z];exact ZtV _)
 unfold Builtin.List.listExtendWith
 refine wpAny_bind (wpAny_typeOf ty ?_)
 simp only[show Builtin.List.listSameRef (.ref S) (.ref d)=false by simp[Builtin.List.listSameRef,dne],show (Value.type "dict" == Value.type "list")=false by decide,show (Value.type "dict" == Value.type "tuple")=false by decide,Bool.or_false,Bool.false_eq_true,if_false]
 have p1:∀(ob:Obj) b o,s.heap.get? b=some o->(s.heap.push ob).get? b=some o:=fun ob b o e=>Heap.get?_push_of_some _ e
 refine wpAny_bind (Zdq nm x (wpAny_bind (wpAny_holding (ZhJ nm (x.at fun o e=>p1 _ _ _ e) hz fun bb tk=>?_))))
 have it0:(s.heap.push { cls:=.type "dict_keyiterator",data:=.fields #[.ref d,.int 0 0,.int es.size 0,.int ep 0] }).IsKeyIter s.heap.objs.size d 0 es.size ep:=⟨_,Heap.get?_push_size _ rfl,rfl,rfl⟩
 have S1:=p1 { cls:=.type "dict_keyiterator",data:=.fields #[.ref d,.int 0 0,.int es.size 0,.int ep 0] } S _ hS
 refine wpAny_ite_split (fun _=>wpAny_bind (wpAny_rule (wpAny_bind ?_))) (fun _=>wpAny_pure ⟨plainId_quiet F.plain_extend_loop _,go _ c0 _ it0 (x.at fun o e=>p1 _ _ _ e) (fun b o _ e=>p1 _ b o e) S1⟩)
 show wpAny _ _ (updateSeq S (·.push .none) >>= fun _=>updateSeq S (·.pop)) _ _ _
 have S2:=Heap.get?_update_self (Obj.mapSeq (·.push Value.none)) S1 rfl
 have S3:=Heap.get?_update_self (Obj.mapSeq (·.pop)) S2 rfl
 have oth:∀(h:Heap) f b o,b≠S->h.get? b=some o->(h.update S f).get? b=some o:=fun h f b o hb e=>(Heap.get?_update_other _ _ (Ne.symm hb)).trans e
 exact wpAny_bind (wpAny_updateSeq S1 rfl (wpAny_updateSeq (hz:=by seq_fits) S2 rfl (wpAny_pure ⟨plainId_quiet F.plain_extend_loop _,go _ _ _ (it0.at fun o e=>oth _ _ _ _ (Ne.symm sne) (oth _ _ _ _ (Ne.symm sne) e)) (x.at fun o e=>oth _ _ _ _ (Ne.symm dne) (oth _ _ _ _ (Ne.symm dne) (p1 _ _ _ e))) (fun b o hb e=>oth _ _ _ _ hb (oth _ _ _ _ hb (p1 _ _ _ e))) S3⟩)))
theorem Zh8{Q:Value->Shared->Prop}(hh:A.handled=none)(nm:(d==sysModules)=false)(x:Zeb s.heap d es ep)(hz:es.size<=1000000)(q:∀h' tk acc c',(∀b o,s.heap.get? b=some o->h'.get? b=some o)->h'.get? s.heap.objs.size=some { cls:=.type "list",dict:=none,data:=.seq acc c',slots:=#[] }->ItemsOf (fun i v=>(es.map (·.key))[i]?=some v) acc es.size->Q (.ref s.heap.objs.size) { s with heap:=h',toks:=tk }) :
  wpAny (model prog w) A (call (.type "list") [.ref d]) Q E s:=by
 have hS:(s.heap.push { cls:=.type "list",data:=.seq #[] }).get? s.heap.objs.size=some { cls:=.type "list",data:=.seq #[] }:=Heap.get?_push_size _ rfl
 have p1:∀b o,s.heap.get? b=some o->(s.heap.push { cls:=.type "list",data:=.seq #[] }).get? b=some o:=fun b o e=>Heap.get?_push_of_some _ e
 have dne:d≠s.heap.objs.size:=by
  obtain⟨o,e1,_⟩:=x
  exact Zt1 (Heap.lt_size e1)
 refine callType_codes (Q₁:=fun ob s1=>ob=.ref s.heap.objs.size/\s1={ s with heap:=s.heap.push { cls:=.type "list",data:=.seq #[] } }) F.called_list (F.typeCall_list_1 _) F.entry_list_init (code_list_new _ ⟨rfl,rfl⟩) fun ob s1 ⟨e1,e2⟩=>?_
 subst e1 e2
 refine⟨⟨_,hS,rfl⟩,F.args_list_init_2 _ _, ?_⟩
 show wpAny _ _ (do let old <- Builtin.List.listItems (.ref s.heap.objs.size);Builtin.List.listUpdate (.ref s.heap.objs.size) (fun _=>#[]);letGo old.toList.reverse;Builtin.List.listExtendWith (.ref s.heap.objs.size) (.ref d) .none) _ _ _
 refine wpAny_bind ?_
 unfold Builtin.List.listItems
 refine wpAny_bind (wpAny_seqItems hS rfl (wpAny_pure ?_))
 show wpAny _ _ (updateSeq s.heap.objs.size (fun _=>#[]) >>= fun _=>letGo (#[]:Array Value).toList.reverse >>= fun _=>Builtin.List.listExtendWith (.ref s.heap.objs.size) (.ref d) .none) _ _ _
 have S2:=Heap.get?_update_self (Obj.mapSeq (fun _=>(#[]:Array Value))) hS rfl
 have oth:∀b o,b≠s.heap.objs.size->s.heap.get? b=some o->((s.heap.push { cls:=.type "list",data:=.seq #[] }).update s.heap.objs.size (Obj.mapSeq (fun _=>(#[]:Array Value)))).get? b=some o:=fun b o hb e=>(Heap.get?_update_other _ _ (Ne.symm hb)).trans (p1 b o e)
 refine wpAny_bind (wpAny_updateSeq hS rfl (wpAny_bind (wpAny_letGo (Ze1 (A:=A.in1) hh nm (x.at fun o e=>oth _ _ dne e) hz _ .none _ S2 fun h' tk acc c' k hS' hacc=>⟨rfl,q h' tk acc c' (fun b o e=>?_) hS' hacc⟩))))
 have hb:b≠s.heap.objs.size:=Zt1 (Heap.lt_size e)
 exact k b o hb (oth b o hb e)
end
section
variable {X:Cx}
theorem Zax:∀{H:Hp}{kvs:List (List Key×V)}{xs:List (List Key×Addr×Value)},KT H kvs xs->kvs.length=xs.length/\∀(i:Nat) (k:List Key) (v:V),kvs[i]?=some (k,v)->∃b u,xs[i]?=some (k,b,u)/\H b=some (.tup (k.map kV))
 |_,_,_,.nil=>⟨rfl,fun i k v h=>by simp at h⟩
 |H,_,_,.cons (a:=p) (b:=q) r rr=>by
  obtain⟨e,f⟩:=Zax rr
  refine⟨by simp[e],fun i k v h=>?_⟩
  cases i with
  |zero =>
   simp only[Zug,Option.some.injEq] at h
   obtain⟨r1,r2,r3⟩:=r
   subst h
   exact⟨q.2.1,q.2.2,by rw[Zug,show k=q.1 from r1],r2⟩
  |succ i =>
   rw[Zut] at h ⊢
   exact f i k v h
def Zi9:List V->Hp->VK->Prop:=fun xs H Q=>∃p,∃kvs:List (List Key×V),xs=[.ref p]/\Rd H p (.dT kvs)/\kvs.length<=1000000 /\
  ∀l,H l=none->∀bs:List Addr,bs.length=kvs.length->(∀(i:Nat) (k:List Key) (v:V),kvs[i]?=some (k,v)->∃b,bs[i]?=some b/\H b=some (.tup (k.map kV)))->Q (.ref l) (upd H l (.lst (bs.map V.ref)))
theorem Zev{ks:List Value}{acc:Array Value}(h:ItemsOf (fun i v=>(List.toArray ks)[i]?=some v) acc ks.length):acc.toList=ks:=by
 obtain⟨h1,h2⟩:=h
 refine Zvn (by simpa using h1) fun i i1 i2=>?_
 have:=h2 i (acc.toList[i]) (by simp at i1 ⊢)
 have this:(List.toArray ks)[i]?=some acc.toList[i]:=this
 rw[List.getElem?_toArray,ZsT i2] at this
 exact(Option.some.inj this).symm
theorem Zap:∀(bs:List Addr),ZR (bs.map V.ref) (bs.map Value.ref)
 |[]=>.nil
 |b::bs=>.cons rfl (Zap bs)
theorem ZaB(hc:X.calm=true):Vc X (.type "list") Zi9:=by
 intro pins s σ H xs us Q I r h
 obtain⟨p,kvs,rfl,hp,hz0,q⟩:=h
 obtain⟨u,rfl,rx⟩:=UX r
 cases rx
 obtain⟨z,nm,xs,rv,o,es,ep,h1,h2,h3,h4,h5⟩:=(show Ju X.prog X.w H s.heap p (.dT kvs) from Zhc I.hok hp)
 obtain⟨g1,g2⟩:=Zax rv
 have hes:es.size=xs.length:=by rw[<- Ztd,h4,ZsV]
 refine Zh8 (I.ok.hd hc) nm ⟨o,h1,h2,h3⟩ (by omega) fun h' tk acc c' k e hacc=>?_
 have hk:es.map (·.key)=List.toArray (xs.map fun x=>Value.ref x.2.1):=by
  apply Zu8.mp
  rw[Zu9,h4,Zt2]
  rfl
 rw[hk,hes,show xs.length=(xs.map fun x=>Value.ref x.2.1).length by simp] at hacc
 have ha:=Zev hacc
 have ea:acc=List.toArray ((xs.map (·.2.1)).map Value.ref):=by
  apply Zu8.mp
  rw[ha,Zt2]
  rfl
 have I1:Inv X pins σ (upd H s.heap.objs.size (.lst ((xs.map (·.2.1)).map V.ref))) { s with heap:=h',toks:=tk }:=by
  refine I.laid (t':=tk) k (ZsX _) ⟨?_,_,c',Zap _,by rw[<- ea];exact e⟩
  rw[ZsV,ZsV,<- g1];exact z
 refine⟨.ref s.heap.objs.size,_,I1,rfl,q _ (I.hok.fresh (ZsX _)) (xs.map (·.2.1)) (by simp[g1]) fun i kk v hi=>?_⟩
 obtain⟨b,u,e1,e2⟩:=g2 i kk v hi
 exact⟨b,by rw[ZsZ,e1];rfl,e2⟩
end
noncomputable def Zd5(xs:List PV):Rr PV:=match xs with
 |[.box _ (.dt ks) ys]=>if ks.length=ys.length/\ks.length<=1000000 then .ok (.lst (ks.map fun k=>.tup (k.map Zc9))) else .bad
 |_=>.bad
theorem ZbF{p:Option Addr}{bs:List (List Int)}{ys:List PV}(h:ys.length=bs.length)(hz:bs.length<=1000000):Zd5 [.box p (.dt (bs.map fun b=>b.map Sum.inl)) ys]=.ok (.lst (bs.map ZD)):=by
 unfold Zd5
 simp only
 rw[if_pos ⟨by rw[ZsV];omega,by rw[ZsV];exact hz⟩,Zt2]
 congr 2
 refine ZtK fun b _=>?_
 simp only[Function.comp_apply,ZD,Zt2]
 rfl
theorem Qj{K:W.Frag}{H:Hp}{S:Addr->Prop}:∀(k:List Key),Reps K H S (k.map Zc9) (k.map kV)
 |[]=>rfl
 |.inl i::k=>⟨_,_,rfl,rfl,Qj k⟩
 |.inr x::k=>⟨_,_,rfl,rfl,Qj k⟩
theorem UM:∀(k:List Key),PV.flats (k.map Zc9)=true
 |[]=>rfl
 |.inl i::k=>by simp only[Zte,Zc9,PV.flats,PV.flat,UM k,Bool.and_self]
 |.inr x::k=>by simp only[Zte,Zc9,PV.flats,PV.flat,UM k,Bool.and_self]
theorem QT:∀(ks:List (List Key)),PV.flats (ks.map fun k=>.tup (k.map Zc9))=true
 |[]=>rfl
 |k::ks=>by simp only[Zte,PV.flats,PV.flat,UM k,QT ks,Bool.and_self]
theorem Zan{K:W.Frag}{H:Hp}{S:Addr->Prop}:∀(ks:List (List Key)) (bs:List Addr),bs.length=ks.length->(∀(i:Nat) (k:List Key),ks[i]?=some k->∃b,bs[i]?=some b/\H b=some (.tup (k.map kV)))->Reps K H S (ks.map fun k=>.tup (k.map Zc9)) (bs.map V.ref)
 |[],[],_,_=>rfl
 |[],b::bs,h,_=>by simp at h
 |k::ks,[],h,_=>by simp at h
 |k::ks,b::bs,h,f=>by
  obtain⟨b',e1,e2⟩:=f 0 k rfl
  have e1:b=b':=by simpa using e1
  subst e1
  exact⟨_,_,rfl,⟨b,_,rfl,⟨e2,trivial⟩,Qj k⟩,Zan ks bs (by simpa using h) fun i kk hi=>f (i+1) kk hi⟩
section
variable {K:W.Frag}{EX:PX->Hp->Prop}{Γ Γ':List Md}{ta:TA}{fa:List PV->Rr (List PV)}
theorem ZdQ(ha:DAA K EX Γ Γ' ta fa):DE K EX Γ Γ' .F (tCB Zi9 ta) (fun ρ=>(fa ρ).bind Zd5):=fun B H0 H σ ρ F R Q A d=>by
 refine ha B H0 H σ ρ F R _ A (d.bind.imp (fun xs _ d vs H1 F1 s1 f1 p1 A1=>?_) fun e q=>q)
 unfold Zd5 at d
 split at d
 ·rename_i p ks ys _
  split at d
  ·rename_i hc
   obtain⟨v,rfl,a,ws,u,rfl,⟨hr,_⟩,⟨_,hl,rfl⟩,_⟩:=VM p1
   refine⟨a,_,rfl,hr,by rw[Zub];omega,fun l hz bs hb f=>?_⟩
   have hlz:(ks.zip ws).length=ks.length:=by rw[Zub];omega
   have pr:=Zan (K:=K) (H:=H1) (S:=fun _=>True) ks bs (by omega) fun i k hi=>by
    have hi':i<ks.length:=(ZsU.mp hi).1
    have hw:i<ws.length:=by omega
    exact f i k ws[i] (by rw[ZtS];exact⟨hi,ZsT hw⟩)
   exact d _ _ (s1.trans (Z7.new hz)) (Res.newP s1 f1 pr (QT ks) A1 hz)
  ·exact d.elim
 ·exact d.elim
variable {X:Cx}
def ZkY:List V->Hp->VK->Prop:=fun xs H Q=>∃p,∃kvs:List (List Key×V),xs=[.ref p]/\Rd H p (.dT kvs)/\kvs.length<=1000000/\Q (.int kvs.length) H
theorem Zg1:Vc X (.builtin "len") ZkY:=by
 intro pins s σ H xs us Q I r h
 obtain⟨p,kvs,rfl,hp,hz0,q⟩:=h
 obtain⟨u,rfl,rx⟩:=UX r
 cases rx
 obtain⟨z,nm,xs,rv,o,es,ep,h1,h2,h3,h4,h5⟩:=(show Ju X.prog X.w H s.heap p (.dT kvs) from Zhc I.hok hp)
 obtain⟨g1,g2⟩:=Zax rv
 have hes:es.size=kvs.length:=by rw[<- Ztd,h4,ZsV,g1]
 refine Zjx nm ⟨o,h1,h2,h3⟩ (by omega) ?_
 rw[hes]
 exact⟨.int kvs.length,H,I.kept (t':=s.toks+1+1) (fun b o e=>e),⟨_,rfl⟩,q⟩
end
noncomputable def Zhr(xs:List PV):Rr PV:=match xs with
 |[.box _ (.dt ks) ys]=>if ks.length=ys.length/\ks.length<=1000000 then .ok (.int ks.length) else .bad
 |_=>.bad
theorem Zhq{p:Option Addr}{ks:List (List Key)}{ys:List PV}(h:ks.length=ys.length)(hz:ks.length<=1000000):Zhr [.box p (.dt ks) ys]=.ok (.int ks.length):=if_pos ⟨h,hz⟩
section
variable {K:W.Frag}{EX:PX->Hp->Prop}{Γ Γ':List Md}{ta:TA}{fa:List PV->Rr (List PV)}
theorem Zkm(ha:DAA K EX Γ Γ' ta fa):DE K EX Γ Γ' .P (tCB ZkY ta) (fun ρ=>(fa ρ).bind Zhr):=by
 refine Ze7 (fun {H xs vs Q} h z e=>?_) (fun xs e h=>?_) ha
 ·unfold Zhr at e
  split at e
  ·rename_i p ks ys
   split at e
   ·rename_i hc
    cases e
    obtain⟨v,rfl,a,ws,u,rfl,⟨hr,_⟩,⟨_,hl,rfl⟩,_⟩:=VM h
    refine⟨rfl,fun q=>⟨a,_,rfl,hr,by rw[Zub];omega, ?_⟩⟩
    have:(ks.zip ws).length=ks.length:=by rw[Zub];omega
    rw[this]
    exact q _ rfl
   ·cases e
  ·cases e
 ·unfold Zhr at h
  split at h
  ·split at h<;>cases h
  ·cases h
end
end L2
namespace My
open PySem PySem.Spec PyProof.Rows L2
end My
namespace L2
open PySem PySem.Spec PyProof.Rows
theorem Zjq{u:HO}(hu:ZnE u)(a:∀xs,u≠.tup xs)(b:∀o c,u≠.frz o (.own c)):False:=by
 cases u with
 |tup xs=>exact a _ rfl
 |frz o v =>
  cases v with
  |own c=>exact b _ _ rfl
  |_=>exact hu
 |_=>exact hu
section
variable {X:Cx}{pins:List (Addr×Obj)}{σ:St}{H:Hp}{s:Shared}
theorem Inv.swapO{a:Addr}{u u':HO}(I:Inv X pins σ H s)(ha:H a=some u)(n1:∀b,u≠.own b)(n2:∀xs,u≠.tup xs)(m1:∀xs,X.H₀ a≠some (.tup xs))(m2:∀o v,X.H₀ a≠some (.frz o v))(m3:∀ps w',X.H₀ a≠some (.tbl ps w'))(h0:∀o,X.s₀.heap.get? a=some o->X.H₀ a=none->a∈X.ex)(ok:Ju X.prog X.w (upd H a u') s.heap a u')(n3:∀o b,u≠.frz o (.own b):=by intro _ _ z;cases z):Inv X pins σ (upd H a u') s:=by
 have nn:∀{b},H b=none->b≠a:=fun {b} e z=>by rw[z,ha] at e;cases e
 refine⟨I.ok,I.os,I.bare,⟨I.base.keep,I.base.slot,fun b o q n hx=>?_,I.base.there,fun b xs q=>?_,fun b o v q=>?_,fun b ps w' q=>?_⟩,I.loc,I.cell, ?_,fun x c q=>?_,fun p hq=>?_,fun b v q=>?_,I.len⟩
 ·have e:=I.base.free b o q n hx
  rw[Zo (nn e)];exact e
 ·rw[Zo (fun z=>m1 xs (by rw[<- z];exact q))];exact I.base.tups b xs q
 ·rw[Zo (fun z=>m2 o v (by rw[<- z];exact q))];exact I.base.frzs b o v q
 ·rw[Zo (fun z=>m3 ps w' (by rw[<- z];exact q))];exact I.base.tbls b ps w' q
 ·rw[Zo (nn I.free)];exact I.free
 ·rw[Zo (nn (I.freeC x c q))];exact I.freeC x c q
 ·obtain⟨a1,b1,c1⟩:=I.pin p hq
  exact⟨a1,by rw[Zo (nn b1)];exact b1,c1⟩
 ·by_cases hb:b=a
  ·subst hb
   rw[Zv] at q;cases q
   exact ok
  ·rw[Zo hb] at q
   refine(I.hok b v q).stay (fun c w' _ z=>z) (fun c z=>?_) fun c xs z=>?_
   ·rw[Zo (fun y=>by rw[y,ha] at z;cases z;exact n1 _ rfl)];exact z
   ·obtain⟨w',hw⟩:=xs
    rw[Zo (fun y=>by
     rw[y,ha] at z
     have z:u=w':=Option.some.inj z
     subst z
     exact Zjq hw n2 n3)]
    exact z
end
section
variable {K:W.Frag}{H:Hp}
mutual
theorem ZW.flat_nil:∀{x:PV}{v:V}{G:List Addr},x.flat=true->ZW K H x v G->G=[]
 |.non,_,_,_,h=>h.2
 |.bl _,_,_,_,h=>h.2
 |.int _,_,_,_,h=>h.2
 |.str _,_,_,_,h=>h.2
 |.any,_,_,_,h=>h.2
 |.exc _,_,_,_,h=>h.2
 |.exa _ _,_,_,_,h=>h.2
 |.box _ _ _,_,_,f,_=>by simp[PV.flat] at f
 |.lst _,_,_,f,_=>by simp[PV.flat] at f
 |.tup xs,_,_,f,h=>by
  obtain⟨a,vs,rfl,ha,ht⟩:=h
  exact Trees.flat_nil (by simpa[PV.flat] using f) ht
 |.fz xs,_,_,f,h=>by
  obtain⟨a,vs,rfl,ha,ht⟩:=h
  exact Trees.flat_nil (by simpa[PV.flat] using f) ht
theorem Trees.flat_nil:∀{xs:List PV}{vs:List V}{G:List Addr},PV.flats xs=true->Trees K H xs vs G->G=[]
 |[],_,_,_,h=>h.2
 |x::xs,_,_,f,h=>by
  obtain⟨v,r,G1,G2,rfl,h3,h4,hd,rfl⟩:=h
  simp only[PV.flats,Bool.and_eq_true] at f
  rw[ZW.flat_nil f.1 h3,Trees.flat_nil f.2 h4];rfl
end
end
theorem ZdA{F:Nat->List Addr}{i:Nat}:VN F i (F i)=F:=by
 funext j
 by_cases q:j=i
 ·subst q;exact Zu
 ·exact Z5 q
section
variable {K:W.Frag}{B:Addr->Prop}{EX:PX->Hp->Prop}{H0 H H':Hp}{σ:St}{Γ:List Md}{ρ:List PV}{F F':Nat->List Addr}{R:List Addr}{te:TE}{fm:List PV->Rr (PV×PV)}{fs:List Str}{n:Str}{i:Nat}
def DMf(K:W.Frag)(EX:PX->Hp->Prop)(Γ:List Md)(i:Nat)(te:TE)(fm:List PV->Rr (PV×PV)):Prop:=
 ∀(B:Addr->Prop) (H0 H:Hp) (σ:St) (ρ:List PV) (F:Nat->List Addr) (Q:VK),Ag K B H0 H σ Γ ρ F [] ->
  Dn (fm ρ) (fun r=>∀v H' F',Frm H F H' F'->(∀a C dx fs,H a=some (.ins C dx fs)->H' a=some (.ins C dx fs))->r.1.flat=true->Rep K H' (fun _=>True) r.1 v->Ag K B H0 H' σ Γ (ρ.set i r.2) F' []->Q v H') (fun e=>∀H',Z7 H0 H'->EX e H')->te σ H Q
noncomputable def popL(ys:List PV):Rr (PV×List PV):=if PV.flats ys=true/\ys.length≠0 then .ok (ys.getD (ys.length-1) .non,ys.dropLast) else .bad
theorem Dn.popL{ys:List PV}{ok:PV×List PV->Prop}{ex:PX->Prop}(d:Dn (popL ys) ok ex):PV.flats ys=true/\0<ys.length/\ok (ys.getD (ys.length-1) .non,ys.dropLast):=by
 unfold L2.popL at d
 split at d
 ·rename_i h
  exact⟨h.1,by omega,d⟩
 ·exact d.elim
theorem Za1{ys:List PV}(h:PV.flats ys=true)(h0:0<ys.length):(ys.getD (ys.length-1) .non).flat=true:=by
 have hx:ys[ys.length-1]?=some (ys.getD (ys.length-1) .non):=by rw[ZsS,ZsT (by omega)];rfl
 exact PV.flats_all.mp h _ (ZsW hx)
theorem Ze0{ys:List PV}(h:PV.flats ys=true):PV.flats ys.dropLast=true:=PV.flats_all.mpr fun x hx=>PV.flats_all.mp h x (List.dropLast_subset _ hx)
theorem Zfh{S:Addr->Prop}{ys:List PV}{ws:List V}(h:Reps K H S ys ws):Reps K H S ys.dropLast ws.dropLast:=by
 rw[List.dropLast_eq_take,List.dropLast_eq_take,h.length];exact h.take _
theorem Zfg{S:Addr->Prop}{ys:List PV}{ws:List V}(h:Reps K H S ys ws)(h0:0<ys.length):∃w,ws[ws.length-1]?=some w/\Rep K H S (ys.getD (ys.length-1) .non) w:=by
 have hx:ys[ys.length-1]?=some (ys.getD (ys.length-1) .non):=by rw[ZsS,ZsT (by omega)];rfl
 obtain⟨w,e1,e2⟩:=h.get hx
 exact⟨w,by rw[h.length];exact e1,e2⟩
theorem ZhR{x:PV}{v:V}{q:Addr}{ws:List V}{o:HO}(hq:H q=some (.lst ws))(hf:x.flat=true)(h:Rep K H (fun _=>True) x v):Rep K (upd H q o) (fun _=>True) x v:=((h.tree hf).put hq (by simp)).rep (by simp)
theorem Zge{q:Addr}{o:HO}(hq:q∈F i):Frm H F (upd H q o) F:=fun b u h n=>⟨by rw[Zo (fun z=>n i (by rw[z];exact hq))];exact h,n⟩
noncomputable def Zm2(x:PV):Rr (PV×PV):=(asL x).bind fun ys=>(popL ys).bind fun r=>.ok (r.1,.lst r.2)
theorem ZhX(hm:Γ[i]?=some .O):DMf K EX Γ i (ZmL K "list" ZmN (Qf i)) (fun ρ=>Zm2 (gv i ρ)):=fun B H0 H σ ρ F Q A d=>by
 obtain⟨ys,e,d⟩:=Dn.asL d.bind
 obtain⟨hfl,h0,d⟩:=Dn.popL d.bind
 obtain⟨v,h1,h2⟩:=A.getO hm
 rw[show ρ.getD i .non=.lst ys from e] at h2
 obtain⟨q,ws,G,rfl,hq,ht,hn,hF⟩:=h2
 have hG:=Trees.flat_nil hfl ht
 subst hG
 have hr:Reps K H (fun _=>True) ys ws:=ht.reps fun _ _=>trivial
 obtain⟨w,hw,rw'⟩:=Zfg hr h0
 have hqF:q∈F i:=by rw[hF];simp
 refine⟨.ref q,h1,.inl ⟨rfl,_,SqL.of hq⟩,q,ws,w,rfl,rfl,hq,hw, ?_⟩
 have d:(∀v H' F',_):=d
 have AC:=Ag.chg (G:=[]) (G':=F i) (R:=[]) (x':=.lst ys.dropLast) (vs':=ws.dropLast) A hm hqF (fun b hb=>.inl hb) (by simp) ⟨_,h1,q,_,[],rfl,Zv,((Zfh hr).trees (Ze0 hfl)).put hq (by simp),by simp,hF⟩
 rw[ZdA] at AC
 refine d w _ F (Zge hqF) (fun b D ex gs' hb=>?_) (Za1 hfl h0) (ZhR hq (Za1 hfl h0) rw') AC
 rw[Zo (fun z=>by rw[z,hq] at hb;cases hb)];exact hb
end
section
variable {K:W.Frag}{H:Hp}
variable {Γ:List Md}{EX:PX->Hp->Prop}
variable {te:TE}{f:List PV->Rr PV}
theorem Zid(he:DE K EX (Γ.map frz) (Γ.map frz) .F te f):DE K EX Γ Γ .F te f:=fun B H0 H σ ρ F R Q A d=>by
 refine he B H0 H σ ρ _ R Q A.freezeAll (d.imp (fun x _ q v H' s r=>q v H' s ?_) fun e q=>q)
 obtain⟨F1,f1,G,t1,o1,_⟩:=r
 have fr:∀a∈G,H a=none:=fun a ha=>by
  rcases (o1 a ha).2 with q|⟨j,q⟩
  ·exact q
  ·simp at q
 exact⟨F,fun _ _ h=>h,G,t1,fun a ha=>⟨(o1 a ha).1,.inl (fr a ha)⟩,A.more s fr t1.alive⟩
end
def DTM(K:W.Frag)(EX:PX->Hp->Prop)(Γ:List Md)(i:Nat)(tt:TT)(fm:List PV->Rr (Bool×PV)):Prop:=
 ∀(B:Addr->Prop) (H0 H:Hp) (σ:St) (ρ:List PV) (F:Nat->List Addr) (Q:Bool->Hp->Prop),Ag K B H0 H σ Γ ρ F [] ->
  Dn (fm ρ) (fun r=>∀H' F',Frm H F H' F'->Ag K B H0 H' σ Γ (ρ.set i r.2) F' []->Q r.1 H') (fun e=>∀H',Z7 H0 H'->EX e H')->tt σ H Q
section
variable {K:W.Frag}{EX:PX->Hp->Prop}{Γ:List Md}{Y:Tys}{tt:TT}{t u:TS}{g g':List PV->RS}{fc:List PV->Rr (Bool×PV)}{i:Nat}
theorem ZlY(hc:DTM K EX Γ i tt fc)(h1:DS K EX Γ Y t g)(h2:DS K EX Γ Y u g'):DS K EX Γ Y (ZmJ tt t u) (fun ρ=>(fc ρ).thenS fun r=>if r.1=true then g (ρ.set i r.2) else g' (ρ.set i r.2)):=fun B H0 H σ ρ F D A d=>by
 refine hc B H0 H σ ρ F _ A (d.thenS.imp (fun r _ d H1 F1 fr A1=>?_) fun e q=>q)
 obtain⟨b,y⟩:=r
 cases b with
 |true=>exact h1 B H0 H1 σ _ F1 D A1 (DnS.shift fr d)
 |false=>exact h2 B H0 H1 σ _ F1 D A1 (DnS.shift fr d)
end
noncomputable def F3(a0 a1 a2:Addr):Nat->List Addr
 |0=>[a0]
 |1=>[a1]
 |2=>[a2]
 |_=>[]
section
end
section
variable {K:W.Frag}{Γ Γ1 Γ2 Γ3 Γl Γt:List Md}{k:Kd}{t:TS}{g:List PV->RS}{m:List PV->Rr PV}
theorem Zgk{i j:Nat}{mj:Md}{gt:TG}{h:PV->List PV->Rr (List PV)}(hm:Γ[i]?=some .O)(hj:Γ[j]?=some mj)(hmj:mj≠.U)(hw:Zh6 Γ Γl=true)(hg:DG K X0 Γl Γt gt h)(hb:DS K X0 Γt ⟨Γl,Γl,Γl,k⟩ t g) :
  DS K X0 Γ ⟨Γl,Γ2,Γ3,k⟩ (ZmK (ZcA K (UQ (spF K 2 .F W0 m) (Vg (ZmL K "list" ZmN (Qf i)) (Vg (Qf j) Zdg)))) gt t)
   (fun ρ=>(Zm2 (gv i ρ)).thenS fun r=>((m [r.1,gv j (ρ.set i r.2)]).bind asL).thenS fun xs=>US (fun x ρ=>(h x ρ).thenS g) xs (ρ.set i r.2)):=fun B H0 H σ ρ F D A d=>by
 refine ZhX hm B H0 H σ ρ F _ A (d.thenS.imp (fun r _ d=>?_) fun e q=>q)
 intro v H1 F1 fr _ hf rp A1
 have ha:DAA K X0 Γ Γ (fun σ' H' Q=>σ'=σ->H'=H1->(Vg (tC v) (Vg (Qf j) Zdg)) σ' H' Q) (fun ρ=>.ok [r.1,gv j ρ]):=fun B' H0' H' σ' ρ' F' R' Q' A' d' e1 e2=>by
  subst e1 e2
  obtain⟨w,hw',rw'⟩:=A'.getA hj hmj
  exact⟨w,hw',d' _ _ F' (Z7.refl _) (fun _ _ h=>h) ⟨_,_,rfl,rp,_,_,rfl,rw',rfl⟩ A'⟩
 have key:=JA (k:=k) (Γ2:=Γ2) (Γ3:=Γ3) (Jc (DE.FZ (Zai (m:=m) (n:=2) (fun ρ xs e=>by cases e;rfl) ha))) hw hg hb B H0 H1 σ (ρ.set i r.2) F1 D A1 (DnS.shift fr (by simpa using d))
 exact key rfl rfl
noncomputable def pPopAt(x y:PV):Rr PV:=match x,y with
 |.lst xs,.int c=>if PV.flats xs=true/\0<=c/\c<xs.length/\xs.length<=1000000 then .ok (.lst (xs.eraseIdx c.toNat)) else .bad
 |_,_=>.bad
theorem Dn.pPopAt{x y:PV}{ok:PV->Prop}{ex:PX->Prop}(d:Dn (pPopAt x y) ok ex):∃xs c,x=.lst xs/\y=.int c/\(PV.flats xs=true/\0<=c/\c<xs.length/\xs.length<=1000000)/\ok (.lst (xs.eraseIdx c.toNat)):=by
 unfold L2.pPopAt at d
 split at d
 ·split at d
  ·rename_i hc
   exact⟨_,_,rfl,rfl,hc,d⟩
  ·exact d.elim
 ·exact d.elim
theorem ZcC{xs:List PV}(h:PV.flats xs=true)(n:Nat):PV.flats (xs.eraseIdx n)=true:=PV.flats_all.mpr fun x hx=>PV.flats_all.mp h x (List.mem_of_mem_eraseIdx hx)
theorem Zao{H:Hp}{S:Addr->Prop}:∀{xs:List PV}{vs:List V} (n:Nat),Reps K H S xs vs->Reps K H S (xs.eraseIdx n) (vs.eraseIdx n)
 |[],_,n,h=>by cases h;exact rfl
 |x::xs,_,0,⟨v,r,rfl,h1,h2⟩=>h2
 |x::xs,_,n+1,⟨v,r,rfl,h1,h2⟩=>⟨v,_,rfl,h1,Zao n h2⟩
variable {EX:PX->Hp->Prop}
theorem Zgj{i:Nat}{te:TE}{f:List PV->Rr PV}(hm:Γ[i]?=some .O)(he:DE K EX Γ Γ .P te f) :
  DS K EX Γ ⟨Γ,Γ1,Γ3,k⟩ (ZeV (tBM K "list" Zi8 (Qf i) (Vg te Zdg))) (fun ρ=>(asL (gv i ρ)).thenS fun xs=>(f ρ).thenS fun y=>(pPopAt (.lst xs) y).thenS fun z=>.next (ρ.set i z)):=fun B H0 H σ ρ F D A d=>by
 obtain⟨v,h1,h2⟩:=A.getO hm
 refine⟨v,h1, ?_⟩
 obtain⟨xs,e1,d⟩:=Dn.asL d.thenS
 rw[show ρ.getD i .non=.lst xs from e1] at h2
 obtain⟨a,vs,G,rfl,hH,ht,hn,hF⟩:=h2
 refine⟨.inl ⟨rfl,_,SqL.of hH⟩,he B H0 H σ ρ F [] _ A (d.thenS.imp (fun y _ d w H2 s2 r2=>?_) fun e q=>q)⟩
 obtain⟨F2,f2,yf,y1,A2⟩:=r2
 obtain⟨xs',c,ex,ey,⟨c1,c2,c3,c4⟩,d2⟩:=Dn.pPopAt d.thenS
 cases ex
 subst ey
 cases y1
 obtain⟨v',h1',h2'⟩:=A2.getO hm
 rw[h1] at h1';cases h1'
 rw[show ρ.getD i .non=.lst xs from e1] at h2'
 obtain⟨a',vs',G',e,hH',ht',hn',hF'⟩:=h2'
 cases e
 have hG:=Trees.flat_nil c1 ht'
 subst hG
 have hr:Reps K H2 (fun _=>True) xs vs':=ht'.reps fun _ _=>trivial
 have hl:=hr.length
 have hk:c.toNat<vs'.length:=by omega
 refine⟨a,vs',c,c.toNat,_,rfl,rfl,hH',by omega,by omega, ?_,ZsT hk, ?_⟩
 ·exact(UK (by unfold ixN;rw[if_pos c2,if_pos (by omega)])).1
 ·have haF:a∈F2 i:=by rw[hF'];simp
  have AC:=Ag.chg (G:=[]) (G':=F2 i) (R:=[]) (x':=.lst (xs.eraseIdx c.toNat)) (vs':=vs'.eraseIdx c.toNat) A2 hm haF (fun b hb=>.inl hb) (by simp) ⟨_,h1,a,_,[],rfl,Zv,((Zao c.toNat hr).trees (ZcC c1 _)).put hH' (by simp),by simp,hF'⟩
  rw[ZdA] at AC
  exact d2 σ _ F2 ((Frm.of s2 f2).trans (Zge haF)) AC
end
end L2
namespace My
open PySem PySem.Spec PyProof.Rows L2
noncomputable def ZfF(L:List Int):Nat:=((List.range (L.length+1)).find? fun(k:Nat)=>decide ((k:Int) ∉ L)).getD 0
theorem ZeZ:∀(A L:List Int),A.Nodup->(∀x∈A,x∈L)->A.length<=L.length
 |[],_,_,_=>ZtB _
 |a::A,L,nd,h=>by
  obtain⟨n1,n2⟩:=ZtW.mp nd
  have ih:=ZeZ A (L.erase a) n2 fun x hx=>(List.mem_erase_of_ne (fun z=>n1 (by rw[<- z];exact hx))).mpr (h x (Ztz _ hx))
  have h1:=List.length_erase_of_mem (h a (ZtG ..))
  have h2:=List.length_pos_of_mem (h a (ZtG ..))
  rw[Ztw];omega
theorem Zc3(L:List Int):((ZfF L:Nat):Int) ∉ L/\ZfF L<=L.length/\∀k:Nat,k<ZfF L->(k:Int)∈L:=by
 unfold ZfF
 cases hf:(List.range (L.length+1)).find? fun(k:Nat)=>decide ((k:Int) ∉ L) with
 |none =>
  exfalso
  have hn:=ZuH.mp hf
  have hall:∀k:Nat,k<L.length+1->(k:Int)∈L:=fun k hk=>by
   have:=hn k (Zty.mpr hk)
   apply Classical.byContradiction
   intro z
   exact this (decide_eq_true z)
  have h1:((List.range (L.length+1)).map fun(k:Nat)=>(k:Int)).length<=L.length:=by
   refine ZeZ _ _ ?_ ?_
   ·rw[ZtQ,ZtU]
    exact(ZtQ.mp List.nodup_range).imp fun h z=>h (by omega)
   ·intro x hx
    obtain⟨k,hk,rfl⟩:=Ztm.mp hx
    exact hall k (Zty.mp hk)
  rw[ZsV,ZuN] at h1
  omega
 |some k =>
  obtain⟨a,b,c⟩:=Za3 hf
  rw[ZtZ]
  refine⟨of_decide_eq_true a,by omega,fun j hj=>?_⟩
  have:=c j hj
  apply Classical.byContradiction
  intro z
  rw[decide_eq_true z] at this
  cases this
noncomputable def gM(L:List Int):Int:=ZfF L
noncomputable def wtB(P x:List Int):Int:=Zix gM P x
theorem ZkG(P x:List Int):0<=wtB P x:=by
 unfold wtB Zix
 exact ZkI (fun L _=>by unfold gM;omega) P _ x
theorem UW.wt{n:Nat}{s:Int}{l b:List Int}(h:UW n s l b):wtB (Zj n l) b=gM ((Jk (Zj n l) b).map fun y=>wtB (Zj n l) y.2):=h.val gM (h.mem.mpr .refl)
theorem ZhY{a n:Int}(hn:0<n):(a+1)/n=a/n+if (a+1)%n=0 then 1 else 0:=by
 have e:=Zuk a n
 have r0:=Ztp a (show n≠0 by omega)
 have r1:=Ztg a hn
 by_cases c:a%n=n-1
 ·have u:=(Zuf hn (a:=a+1) (q:=a/n+1) (r:=0)).mpr ⟨by rw[Int.mul_add,ZuX];omega,by omega,hn⟩
  rw[u.1,u.2,if_pos rfl]
 ·have u:=(Zuf hn (a:=a+1) (q:=a/n) (r:=a%n+1)).mpr ⟨by omega,by omega,by omega⟩
  rw[u.1,u.2,if_neg (by omega)];omega
noncomputable def Zks(n p k:Int)(x:Nat):Int:=(k+(n-1-((x:Int)-p-1)%n))/n
noncomputable def ZgI(b:List Int)(p:Int)(k:Nat):List Int:=tab b.length fun x=>(if (x:Int)=p then 0 else b.getD x 0)+Zks b.length p k x
theorem Zik{n p k:Int}{x:Nat}(hn:0<n)(hx:(x:Int)<n):Zks n p (k+1) x=Zks n p k x+if (p+1+k)%n=x then 1 else 0:=by
 unfold Zks
 rw[show k+1+(n-1-((x:Int)-p-1)%n)=(k+(n-1-((x:Int)-p-1)%n))+1 by omega,ZhY hn]
 congr 1
 have hiff:(k+(n-1-((x:Int)-p-1)%n)+1)%n=0 ↔ (p+1+k)%n=x:=by
  have e:=Zuk ((x:Int)-p-1) n
  have e2:k+(n-1-((x:Int)-p-1)%n)+1=(p+1+k-x)+n*(1+((x:Int)-p-1)/n):=by
   rw[Int.mul_add,ZuX];omega
  rw[e2,Int.add_mul_emod_self_left]
  have hxn:(x:Int)%n=x:=Zt9 (by omega) hx
  rw[<- Int.emod_eq_emod_iff_emod_sub_eq_zero,hxn]
 by_cases c:(p+1+k)%n=x
 ·rw[if_pos c,if_pos (hiff.mpr c)]
 ·rw[if_neg c,if_neg (fun z=>c (hiff.mp z))]
theorem Zh1{b:List Int}{p:Int}(h0:0<=p)(h1:p<b.length):ZgI b p 0=b.set p.toNat 0:=by
 unfold ZgI
 symm
 refine ZaH (by simp) fun x hx=>?_
 have hx:x<b.length:=by simpa using hx
 have hc:Zks b.length p ((0:Nat):Int) x=0:=by
  unfold Zks
  have r0:=Ztp ((x:Int)-p-1) (show (b.length:Int)≠0 by omega)
  have r1:=Ztg ((x:Int)-p-1) (show (0:Int)<b.length by omega)
  exact Int.ediv_eq_zero_of_lt (by omega) (by omega)
 rw[getD_set (by omega),hc]
 by_cases e:x=p.toNat
 ·rw[if_pos e,if_pos (by omega)];omega
 ·rw[if_neg e,if_neg (by omega)];omega
theorem Zh2{b:List Int}{p:Int}(h0:0<=p)(h1:p<b.length)(k:Nat):(ZgI b p k).set ((p+1+k)%b.length).toNat ((ZgI b p k).getD ((p+1+k)%b.length).toNat 0+1)=ZgI b p (k+1):=by
 have r0:=Ztp (p+1+k) (show (b.length:Int)≠0 by omega)
 have r1:=Ztg (p+1+k) (show (0:Int)<b.length by omega)
 have hc:=fun(x:Nat) (hx:(x:Int)<b.length)=>Zik (n:=b.length) (p:=p) (k:=k) (x:=x) (by omega) hx
 unfold ZgI
 generalize (p+1+(k:Int))%(b.length:Int)=r at *
 rw[Qz (by omega),ZeT (by omega)]
 refine Q0 fun x hx=>?_
 rw[show ((k+1:Nat):Int)=(k:Int)+1 by omega,hc x (by omega)]
 by_cases e:x=r.toNat
 ·rw[if_pos e,if_pos (show r=x by omega),<- e];omega
 ·rw[if_neg e,if_neg (show ¬r=x by omega)];omega
theorem ZjL(b:List Int)(p:Int)(k:Nat):(ZgI b p k).length=b.length:=Ji _ _
theorem ZjM{b:List Int}{p:Int}(h0:0<=p)(h1:p<b.length)(hs:0<=b.getD p.toNat 0):ZgI b p (b.getD p.toNat 0).toNat=Vo b p:=by
 unfold ZgI Vo
 refine Q0 fun x hx=>?_
 unfold Zb0 Zi4
 rw[Zt6 hs,Int.add_assoc]
 congr 1
 generalize b.getD p.toNat 0=h at hs
 generalize hn:(b.length:Int)=n at *
 have n0:0<n:=by omega
 unfold Zks
 have e1:=Zuk h n
 have a0:=Ztp h (show n≠0 by omega)
 have a1:=Ztg h n0
 have r0:=Ztp ((x:Int)-p-1) (show n≠0 by omega)
 have r1:=Ztg ((x:Int)-p-1) n0
 have e2:=Zuk ((x:Int)-p-1) n
 have hd:((x:Int)-p)%n=if ((x:Int)-p-1)%n=n-1 then 0 else ((x:Int)-p-1)%n+1:=by
  split
  ·rename_i c
   exact((Zuf n0 (a:=(x:Int)-p) (q:=((x:Int)-p-1)/n+1) (r:=0)).mpr ⟨by rw[Int.mul_add,ZuX];omega,by omega,n0⟩).2
  ·exact((Zuf n0 (a:=(x:Int)-p) (q:=((x:Int)-p-1)/n) (r:=((x:Int)-p-1)%n+1)).mpr ⟨by omega,by omega,by omega⟩).2
 generalize ((x:Int)-p-1)%n=d at r0 r1 hd
 by_cases c:d+1<=h%n
 ·have u:=(Zuf n0 (a:=h+(n-1-d)) (q:=h/n+1) (r:=h%n-1-d)).mpr ⟨by rw[Int.mul_add,ZuX];omega,by omega,by omega⟩
  rw[u.1,VE (by rw[hd,if_neg (by omega)];omega)]
 ·have u:=(Zuf n0 (a:=h+(n-1-d)) (q:=h/n) (r:=h%n+(n-1-d))).mpr ⟨by omega,by omega,by omega⟩
  rw[u.1,V2 (by rw[hd];split<;>omega)];omega
structure Stk(P b:List Int)(M S:List (List Int)):Prop where
 nd:M.Nodup
 re:∀x∈M,Rch P b x
 b0:b∈M
 ns:S.Nodup
 sub:∀x∈S,x∈M
 cl:∀x∈M,x ∉ S->∀y∈Jk P x,y.2∈M
noncomputable def Zm0(M S:List (List Int))(y:Int×List Int):List (List Int)×List (List Int):=if y.2∈M then (M,S) else (M++[y.2],S++[y.2])
structure Stj(P b x:List Int)(L:List (Int×List Int))(M S:List (List Int)):Prop where
 nd:M.Nodup
 re:∀z∈M,Rch P b z
 b0:b∈M
 xM:x∈M
 ns:S.Nodup
 sub:∀z∈S,z∈M/\z≠x
 cl:∀z∈M,z ∉ S->z≠x->∀y∈Jk P z,y.2∈M
 got:∀y∈L,y.2∈M
theorem Stj.one{P b x:List Int}{L:List (Int×List Int)}{M S:List (List Int)}(h:Stj P b x L M S){y:Int×List Int}(hy:Rch P b y.2):Stj P b x (L++[y]) (Zm0 M S y).1 (Zm0 M S y).2:=by
 unfold Zm0
 by_cases c:y.2∈M
 ·rw[if_pos c]
  exact⟨h.nd,h.re,h.b0,h.xM,h.ns,h.sub,h.cl,fun z hz=>(Zta.mp hz).elim (h.got z) fun q=>by rw[Ztj.mp q];exact c⟩
 ·rw[if_neg c]
  refine⟨ZuM.mpr ⟨h.nd,by simp,fun a ha b' hb' e=>?_⟩,fun z hz=>?_,Ztb _ h.b0,Ztb _ h.xM,ZuM.mpr ⟨h.ns,by simp,fun a ha b' hb' e=>?_⟩,fun z hz=>?_,fun z hz hs hx w hw=>?_,fun z hz=>?_⟩
  ·rw[e,Ztj.mp hb'] at ha;exact c ha
  ·rcases Zta.mp hz with q|q
   ·exact h.re z q
   ·rw[Ztj.mp q];exact hy
  ·rw[e,Ztj.mp hb'] at ha;exact c (h.sub _ ha).1
  ·rcases Zta.mp hz with q|q
   ·exact⟨Ztb _ (h.sub z q).1,(h.sub z q).2⟩
   ·rw[Ztj.mp q]
    exact⟨ZsY _ (by simp),fun e=>c (by rw[e];exact h.xM)⟩
  ·rcases Zta.mp hz with q|q
   ·exact Ztb _ (h.cl z q (fun a=>hs (Ztb _ a)) hx w hw)
   ·exact absurd (ZsY _ q) hs
  ·rcases Zta.mp hz with q|q
   ·exact Ztb _ (h.got z q)
   ·rw[Ztj.mp q];exact ZsY _ (by simp)
theorem Stk.pop{P b x:List Int}{M S:List (List Int)}(h:Stk P b M (S++[x])):Stj P b x [] M S:=by
 obtain⟨n1,n2,n3⟩:=ZuM.mp h.ns
 refine⟨h.nd,h.re,h.b0,h.sub x (by simp),n1,fun z hz=>⟨h.sub z (by simp[hz]),fun e=>n3 z hz x (by simp) e⟩,fun z hz hs hx y hy=>h.cl z hz (fun q=>?_) y hy,by simp⟩
 rcases Zta.mp q with q|q
 ·exact hs q
 ·exact hx (Ztj.mp q)
theorem Stj.done{P b x:List Int}{M S:List (List Int)}(h:Stj P b x (Jk P x) M S):Stk P b M S:=by
 refine⟨h.nd,h.re,h.b0,h.ns,fun z hz=>(h.sub z hz).1,fun z hz hs y hy=>?_⟩
 by_cases e:z=x
 ·subst e;exact h.got y hy
 ·exact h.cl z hz hs e y hy
theorem Stk.fin{n:Nat}{s:Int}{P b:List Int}{M:List (List Int)}(F:Zbz n s P b)(h:Stk P b M []):ZaL M=ZiU P b:=by
 refine Zjr ((List.perm_ext_iff_of_nodup h.nd (ZaO P b)).mpr fun x=>⟨fun hx=>F.mem.mpr (h.re x hx),fun hx=>?_⟩)
 have rx:=F.mem.mp hx
 clear hx
 induction rx with
 |refl=>exact h.b0
 |@step y p hy hp h0 ih=>exact h.cl y ih (by simp) (p,Vo y p) (Jp.mpr ⟨hp,h0,rfl⟩)
structure Wst(P b:List Int)(T S:List (List Int)):Prop where
 nd:(T++S).Nodup
 re:∀x∈T++S,Rch P b x
 b0:b∈T++S
 cl:∀x∈T,∀y∈Jk P x,y.2∈T
 ch:S.Pairwise fun x y=>rkB P y<rkB P x
end My
namespace L2
theorem ZiY:(10:Nat)^61<2^60000:=by
 calc (10:Nat)^61<=(2^4)^61:=Zvb (by decide) _
  _=2^244:=by rw[<- Nat.pow_mul]
  _<2^60000:=ZuV (by decide) (by decide)
end L2
namespace L2
open PySem PySem.Spec PyProof.Rows
noncomputable def Znr(a:Addr)(o:Obj)(kvs:List (List Key×V)):It:=
 ⟨fun i H=>H a=some (.frz o (.dT kvs))/\i<kvs.length,fun i H x H'=>H'=H/\∃k v b,kvs[i]?=some (k,v)/\x=.ref b/\H b=some (.tup (k.map kV)),fun i H=>H a=some (.frz o (.dT kvs))/\kvs.length<=i⟩
theorem Zef{P:Program}{w:World}{K:W.Frag}{tg:Expr}(a it:Addr)(o:Obj)(kvs:List (List Key×V)){es:Array DictEntry}{ep:Nat}(hd:o.data=.dict es ep):Zk0 P w K tg (Znr a o kvs) [it] it (fun i h=>h.IsKeyIter it a i kvs.length ep) where
 mem:=by simp
 obj:=fun i h st b hb=>by
  have e:b=it:=by simpa using hb
  subst e
  obtain⟨o,e,c,d⟩:=st
  exact⟨o,e,fun v z=>by rw[d] at z;cases z⟩
 keep:=fun i h h' st k=>st.at fun o e=>k it (by simp) o e
 item:=by
  intro X hP hw hK hc i pins s σ H E I hf st hg
  subst hP hw hK
  obtain⟨hH,hi⟩:=hg
  obtain⟨ho,hz,hs,xs,rv,o',es',ep',e1,e2,e3,e4,e5⟩:=I.hok a _ hH
  rw[ho] at e1;cases e1
  rw[hd] at e3;cases e3
  obtain⟨g1,g2⟩:=Zax rv
  have hes:es.size=kvs.length:=by rw[<- Ztd,e4,ZsV,g1]
  obtain⟨b,u,hb,hHb⟩:=g2 i kvs[i].1 kvs[i].2 (ZsT hi)
  have hkey:es[i].key=.ref b:=by
   have h1:es.toList[i]?=some es[i]:=by rw[Ztk,Zun (by omega)]
   rw[e4,ZsZ,hb] at h1
   rw[<- Option.some.inj h1];rfl
  obtain⟨f0,f1,f2,f3,f4,f5⟩:=hf it (by simp)
  rw[<- hes] at st
  refine Zdr st ⟨o,ho,e2,hd⟩ (by omega) fun h' st' sb=>?_
  have I1:Inv X pins σ H { s with heap:=h' }:=I.turned (t':=s.toks) (fun b o hb e=>(sb.2 b hb).trans e) f0 f1 f3 f4 f5
  obtain⟨o2,q2,c2,d2⟩:=id st'
  rw[hes] at st'
  exact⟨es[i].key,rfl,ZhN (s:={ s with heap:=h' }) q2 c2 d2 (by decide) ⟨.ref b,H,I1,by rw[hkey];rfl,⟨rfl,_,_,b,ZsT hi,rfl,hHb⟩,st',fun b hb=>(hf b hb).1⟩⟩
 done:=by
  intro X hP hw hK hc i pins s σ H E I hf st hg
  subst hP hw hK
  obtain⟨hH,hi⟩:=hg
  obtain⟨ho,hz,hs,xs,rv,o',es',ep',e1,e2,e3,e4,e5⟩:=I.hok a _ hH
  rw[ho] at e1;cases e1
  rw[hd] at e3;cases e3
  obtain⟨g1,g2⟩:=Zax rv
  have hes:es.size=kvs.length:=by rw[<- Ztd,e4,ZsV,g1]
  obtain⟨f0,f1,f2,f3,f4,f5⟩:=hf it (by simp)
  rw[<- hes] at st
  exact Zfn (I.ok.hd hc) (by omega) st ⟨o,ho,e2,hd⟩ fun h' eb=>⟨rfl,I.turned (t':=s.toks) (fun b o hb e=>eb b o hb e) f0 f1 f3 f4 f5⟩
 self:=fun _ _ _ _ _ st h=>wpAny_pyIter_keyiter st h
noncomputable def ZlL(tl:TE):TI:=fun σ H R=>tl σ H fun x H1=>∃a o kvs,x=.ref a/\H1 a=some (.frz o (.dT kvs))/\R (Znr a o kvs) H1
section
variable {X:Cx}{tg:Expr}
theorem Zhi{l:Expr}{tl:TE}(hl:PE X l tl):PI X tg l (ZlL tl):=by
 intro pins s σ H R I h
 refine thn (hl pins s σ H _ I h) fun v s1 ⟨x,H1,I1,r1,a,o,kvs,e,hH,q⟩=>?_
 subst e
 cases r1
 obtain⟨ho,hz,hs,xs,rv,o',es,ep,e1,e2,e3,e4,e5⟩:=I1.hok a _ hH
 rw[ho] at e1;cases e1
 obtain⟨g1,g2⟩:=Zax rv
 have hes:es.size=kvs.length:=by rw[<- Ztd,e4,ZsV,g1]
 refine Zdq hs ⟨o,ho,e2,e3⟩ ?_
 refine⟨s1.heap.objs.size,[s1.heap.objs.size],_,_,H1,rfl,I1.kept (t':=s1.toks) fun b o e=>Heap.get?_push_of_some _ e,Zef a _ o kvs e3,⟨_,Heap.get?_push_size _ rfl,rfl,by rw[<- hes];rfl⟩,fun b hb=>?_,q⟩
 have e:b=s1.heap.objs.size:=by simpa using hb
 subst e
 exact I1.fpOk (ZsX _) (I1.hok.fresh (ZsX _))
theorem ZiI{P:Program}{w:World}{H:Hp}{h:Heap}{a:Addr}{u v:HO}(x:Ju P w H h a v)(n1:∀c,H a=some (.own c)->False)(n2:∀(c:Addr) (w':TF),H a=some w'.1->False):Ju P w (upd H a u) h a v:=
 x.stay (fun c w' _ z=>z) (fun c z=>by
  rw[Zo (fun y=>by rw[y] at z;exact n1 _ z)];exact z) fun c xs z=>by
  rw[Zo (fun y=>by rw[y] at z;exact n2 c xs z)];exact z
noncomputable def ZkO(i:Nat)(te:TE):TE:=fun σ H Q=>∃a kvs,σ[i]?=some (some (.ref a))/\H a=some (.dT kvs)/\∀o,te σ (upd H a (.frz o (.dT kvs))) fun v H2=>H2 a=some (.frz o (.dT kvs))/\Q v (upd H2 a (.dT kvs))
theorem Zj6{i:Nat}{e:Expr}{te:TE}(he:PE X e te):PE X e (ZkO i te):=by
 intro pins s σ H Q I ⟨a,kvs,hσ,ha,h⟩
 have ok0:Ju X.prog X.w H s.heap a (.dT kvs):=I.hok a _ ha
 obtain⟨o,ho⟩:=ok0.there
 have m1:∀xs,X.H₀ a≠some (.tup xs):=fun xs z=>by have:=I.base.tups a xs z;rw[ha] at this;cases this
 have m2:∀o v,X.H₀ a≠some (.frz o v):=fun o v z=>by have:=I.base.frzs a o v z;rw[ha] at this;cases this
 have m3:∀ps w',X.H₀ a≠some (.tbl ps w'):=fun ps w' z=>by have this:=I.base.tbls a ps w' z;rw[ha] at this;cases this
 have h0:∀o,X.s₀.heap.get? a=some o->X.H₀ a=none->a∈X.ex:=fun o q n=>by
  by_cases hx:a∈X.ex
  ·exact hx
  ·have:=I.base.free a o q n hx;rw[ha] at this;cases this
 have I1:=I.swapO (u':=.frz o (.dT kvs)) ha (fun _ z=>by cases z) (fun _ z=>by cases z) m1 m2 m3 h0 ⟨ho,ZiI ok0 (fun c z=>by rw[z] at ha;cases ha) (fun c xs z=>by have h:=xs.2;rw[Option.some.inj (z.symm.trans ha)] at h;exact h)⟩
 refine thn (he pins s σ _ _ I1 (h o)) fun v s1 ⟨x,H2,I2,r,hH,q⟩=>⟨x,_, ?_,r,q⟩
 have ok2:=(I2.hok a _ hH).2
 exact I2.swapO hH (fun _ z=>by cases z) (fun _ z=>by cases z) m1 m2 m3 h0 (ZiI ok2 (fun c z=>by rw[z] at hH;cases hH) (fun c xs z=>by have h:=xs.2;rw[Option.some.inj (z.symm.trans hH)] at h;exact h))
end
section
variable {K:W.Frag}{H H':Hp}
mutual
theorem ZW.monoN:∀{x:PV}{v:V}{F:List Addr},(∀a∈F,∀o,H a=some o->H' a=some o)->(∀a vs,(∀o kvs,vs≠.frz o (.dT kvs))->Im K H a vs->Im K H' a vs)->ZW K H x v F->ZW K H' x v F
 |.non,_,_,_,_,h=>h
 |.bl _,_,_,_,_,h=>h
 |.int _,_,_,_,_,h=>h
 |.str _,_,_,_,_,h=>h
 |.any,_,_,_,_,h=>h
 |.exc n,_,_,_,h2,h=>let ⟨⟨a,o,C,e1,e2,e3⟩,e4⟩:=h;⟨⟨a,o,C,e1,h2 a _ (fun _ _ z=>by cases z) e2,e3⟩,e4⟩
 |.exa n i,_,_,_,h2,h=>let ⟨⟨a,o,C,d,fs,e1,e2,e2',e3⟩,e4⟩:=h;⟨⟨a,o,C,d,fs,e1,h2 a _ (fun _ _ z=>by cases z) e2,h2 d _ (fun _ _ z=>by cases z) e2',e3⟩,e4⟩
 |.box p s xs,_,_,h1,h2,h=>by
  obtain⟨a,vs,u,G,rfl,ha,hb,ht,hn,rfl⟩:=h
  exact⟨a,vs,u,G,rfl,h1 a (by simp) _ ha,hb,Trees.monoN (fun b hb o e=>h1 b (by simp[hb]) o e) h2 ht,hn,rfl⟩
 |.lst xs,_,_,h1,h2,h=>by
  obtain⟨a,vs,G,rfl,ha,ht,hn,rfl⟩:=h
  exact⟨a,vs,G,rfl,h1 a (by simp) _ ha,Trees.monoN (fun b hb o e=>h1 b (by simp[hb]) o e) h2 ht,hn,rfl⟩
 |.tup xs,_,_,h1,h2,h=>by
  obtain⟨a,vs,rfl,ha,ht⟩:=h
  exact⟨a,vs,rfl,h2 a _ (fun _ _ z=>by cases z) ha,Trees.monoN h1 h2 ht⟩
 |.fz xs,_,_,h1,h2,h=>by
  obtain⟨a,vs,rfl,⟨o,ha⟩,ht⟩:=h
  exact⟨a,vs,rfl,⟨o,h2 a _ (fun _ _ z=>by cases z) ha⟩,Trees.monoN h1 h2 ht⟩
theorem Trees.monoN:∀{xs:List PV}{vs:List V}{F:List Addr},(∀a∈F,∀o,H a=some o->H' a=some o)->(∀a vs,(∀o kvs,vs≠.frz o (.dT kvs))->Im K H a vs->Im K H' a vs)->Trees K H xs vs F->Trees K H' xs vs F
 |[],_,_,_,_,h=>h
 |x::xs,_,_,h1,h2,h=>by
  obtain⟨v,r,G1,G2,rfl,h3,h4,hd,rfl⟩:=h
  exact⟨v,r,G1,G2,rfl,ZW.monoN (fun b hb o e=>h1 b (by simp[hb]) o e) h2 h3,Trees.monoN (fun b hb o e=>h1 b (by simp[hb]) o e) h2 h4,hd,rfl⟩
end
end
noncomputable def Zjb(x:PV):Rr (List PV):=match x with
 |.box _ (.dt ks) xs=>if ks.length=xs.length then .ok (ks.map fun k=>.tup (k.map Zc9)) else .bad
 |_=>.bad
noncomputable def wiT(i:Nat)(a:Addr)(o:Obj)(kvs:List (List Key×V)):TI:=fun σ H R=>σ[i]?=some (some (.ref a))->H a=some (.frz o (.dT kvs))->R (Znr a o kvs) H
section
variable {K:W.Frag}{EX:PX->Hp->Prop}{Γ:List Md}
theorem Zma{i:Nat}{a:Addr}{o:Obj}{kvs:List (List Key×V)}(hm:Γ[i]?=some .S):DIc K EX Γ Γ (wiT i a o kvs) (fun ρ=>Zjb (gv i ρ)):=fun B H0 H σ ρ F R Q A d hσ hH=>by
 have sl:=A.slot i
 rw[ZsS,hm] at sl
 obtain⟨_,v,hv,rp⟩:=(show F i=[]/\∃v,σ[i]?=some (some v)/\Rep K H (NO B F R) (ρ.getD i .non) v from sl)
 rw[hσ] at hv;cases hv
 have d:Dn (Zjb (ρ.getD i .non)) _ _:=d
 unfold Zjb at d
 split at d
 ·rename_i p ks xs hx
  rw[hx] at rp
  split at d
  ·rename_i hl
   obtain⟨a',vs,u,ea,⟨rd,_⟩,⟨_,hz,hu⟩,rr⟩:=rp
   cases ea
   subst hu
   have ek:kvs=ks.zip vs:=by
    rcases rd with z|⟨o',z⟩
    ·rw[hH] at z;cases z
    ·rw[hH] at z;cases z;rfl
   subst ek
   refine d _ H F (Z7.refl _) (fun _ _ h=>h) A fun H2 F2 s2 f2=>?_
   have hH2:=s2 _ _ hH
   have hln:(ks.zip vs).length=ks.length:=by rw[Zub,hz,Zvr]
   intro j
   refine⟨fun x hx=>?_,fun hx=>⟨hH2, ?_⟩⟩
   ·rw[ZsZ] at hx
    obtain⟨k,hk,rfl⟩:=ZtM.mp hx
    have hj:=(ZsU.mp hk).1
    refine⟨⟨hH2,by omega⟩,fun v H' ⟨e1,k',v',b',e2,e3,e5⟩=>?_⟩
    subst e1 e3
    refine⟨Z7.refl _, ?_⟩
    have e4:k'=k:=by
     rw[ZtS] at e2
     rw[hk] at e2
     exact(Option.some.inj e2.1).symm
    subst e4
    exact⟨b',_,rfl,⟨e5,trivial⟩,Qj k'⟩
   ·rw[ZsZ,Option.map_eq_none_iff,ZtI] at hx
    omega
  ·exact d.elim
 ·exact d.elim
theorem Zkn{i:Nat}{te:TE}{te':Addr->Obj->List (List Key×V)->TE}{f:List PV->Rr PV}(hm:Γ[i]?=some .O)(hno:Zna (Γ.set i .S)=true)(he:∀a o kvs,DE K EX (Γ.set i .S) (Γ.set i .S) .F (te' a o kvs) f)(hmono:∀a o kvs (σ:St) (H:Hp) (Q:VK),σ[i]?=some (some (.ref a))->H a=some (.frz o (.dT kvs))->te' a o kvs σ H Q->te σ H Q) :
  DE K EX Γ Γ .F (ZkO i te) (fun ρ=>(Zjb (gv i ρ)).bind fun _=>f ρ):=fun B H0 H σ ρ F R Q A d=>by
 obtain⟨v,hσ,tr⟩:=A.getO hm
 have d1:=d.bind
 have d1:Dn (Zjb (ρ.getD i .non)) _ _:=d1
 unfold Zjb at d1
 split at d1
 ·rename_i p ks xs hx
  split at d1
  ·rename_i hl
   have tr0:=tr
   rw[hx] at tr
   obtain⟨a,vs,u,G,rfl,hH,⟨hp,hz,rfl⟩,ht,hn,hF⟩:=tr
   refine⟨a,_,hσ,hH,fun o=>hmono a o _ σ _ _ hσ Zv ?_⟩
   have haF:a∈F i:=by rw[hF];simp
   have hi:i<Γ.length:=(ZsU.mp hm).1
   have gen:∀j,(Γ.set i .S).getD j .U=if j=i then .S else Γ.getD j .U:=fun j=>by
    by_cases hj:j=i
    ·subst hj;rw[if_pos rfl,ZsS,Ztx hi];rfl
    ·rw[if_neg hj,ZsS,Zt7 (Ne.symm hj),<- ZsS]
   have hFj:∀j,j≠i->F j=[]:=fun j hj=>by
    have sl:=A.slot j
    by_cases hjl:j<Γ.length
    ·have hmm:=ZtF.mp hno ((Γ.set i .S)[j]'(by simpa using hjl)) (Zue _)
     rw[List.getElem_set_ne (Ne.symm hj)] at hmm
     have e2:Γ.getD j .U=Γ[j]:=by rw[ZsS,ZsT hjl];rfl
     rw[e2] at sl
     simp only[Bool.or_eq_true,beq_iff_eq] at hmm
     rcases hmm with (z|z)|z
     ·rw[z] at sl;exact sl
     ·rw[z] at sl;exact sl.1
     ·rw[z] at sl;exact sl.1
    ·have e2:Γ.getD j .U=.U:=by rw[ZsS,Ztt (by omega)];rfl
     rw[e2] at sl;exact sl
   have ha0:H0 a=none:=A.young i a haF
   have hRa:a ∉ R:=A.disjR i a haF
   have s0:Z7 H0 (upd H a (.frz o (.dT (ks.zip vs)))):=fun b w' hb=>by
    rw[Zo (fun z=>by rw[z,ha0] at hb;cases hb)];exact A.same b w' hb
   have imne:∀b u,Im K H b u->Im K (upd H a (.frz o (.dT (ks.zip vs)))) b u:=fun b u ⟨h1,h2⟩=>by
    have nb:b≠a:=fun z=>by rw[z,hH] at h1;cases h1;exact h2
    exact⟨by rw[Zo nb];exact h1,h2⟩
   have gne:∀b∈G,b∈F i:=fun b hb=>by rw[hF];simp[hb]
   have rp0:Rep K H (fun b=>b∈F i) (ρ.getD i .non) (.ref a):=tr0.rep fun b hb=>hb
   have A2:Ag K B H0 (upd H a (.frz o (.dT (ks.zip vs)))) σ (Γ.set i .S) ρ (fun _=>[]) R:=by
    refine⟨s0,A.own,fun j b hb=>by simp at hb,A.youngR,fun j b hb=>by simp at hb,fun b hb=>?_,fun j k _ b hb=>by simp at hb,fun j b hb=>by simp at hb,by simpa using A.lenS,by simpa using A.lenR,fun j=>?_⟩
    ·obtain⟨w',z⟩:=A.liveR b hb
     exact⟨w',by rw[Zo (fun y=>hRa (by rw[<- y];exact hb))];exact z⟩
    ·rw[gen j]
     by_cases hj:j=i
     ·subst hj
      rw[if_pos rfl]
      refine⟨rfl,_,hσ,Rep.mono (fun b w' hb r=>?_) imne rp0⟩
      have bR:b ∉ R:=A.disjR j b hb
      refine⟨?_,A.own b (A.young j b hb),bR,fun k z=>by simp at z⟩
      by_cases hb2:b=a
      ·subst hb2
       rcases r with z|⟨o',z⟩
       ·rw[hH] at z;cases z
        exact .inr ⟨o,Zv⟩
       ·rw[hH] at z;cases z
      ·rcases r with z|⟨o',z⟩
       ·exact .inl (by rw[Zo hb2];exact z)
       ·exact .inr ⟨o',by rw[Zo hb2];exact z⟩
     ·rw[if_neg hj]
      have sl:=A.slot j
      rw[hFj j hj] at sl
      refine sl.mono (fun b w' hb r=>?_) imne (fun b hb=>by simp at hb)
      have nb:b≠a:=fun z=>hb.2.2 i (by rw[z];exact haF)
      refine⟨?_,hb.1,hb.2.1,fun k z=>by simp at z⟩
      rcases r with z|⟨o',z⟩
      ·exact .inl (by rw[Zo nb];exact z)
      ·exact .inr ⟨o',by rw[Zo nb];exact z⟩
   refine he a o _ B H0 _ σ ρ _ R _ A2 ((show Dn (f ρ) _ _ from d1).imp (fun x _ dx y H2 s2 r2=>?_) fun e q=>q)
   have hH2:=s2 _ _ (Zv (H:=H) (a:=a))
   refine⟨hH2, ?_⟩
   obtain⟨F1,f1,G2,t2,o2,A1⟩:=r2
   have fr0:∀b∈G2,b≠a/\H b=none:=fun b hb=>by
    rcases (o2 b hb).2 with q|⟨j,q⟩
    ·have nb:b≠a:=fun z=>by rw[z,Zv] at q;cases q
     rw[Zo nb] at q
     exact⟨nb,q⟩
    ·simp at q
   have s3:Z7 H (upd H2 a (.dT (ks.zip vs))):=fun b w' hb=>by
    by_cases hb2:b=a
    ·subst hb2;rw[hH] at hb;cases hb;exact Zv
    ·rw[Zo hb2];exact s2 b w' (by rw[Zo hb2];exact hb)
   have t3:ZW K (upd H2 a (.dT (ks.zip vs))) x y G2:=t2.monoN (fun b hb o' ho=>by rw[Zo (fr0 b hb).1];exact ho) fun b u nf ⟨h1,h2⟩=>by
    have nb:b≠a:=fun z=>by rw[z,hH2] at h1;cases h1;exact nf _ _ rfl
    exact⟨by rw[Zo nb];exact h1,h2⟩
   exact dx _ _ s3 ⟨F,fun _ _ h=>h,G2,t3,fun b hb=>⟨(o2 b hb).1,.inl (fr0 b hb).2⟩,A.more s3 (fun b hb=>(fr0 b hb).2) t3.alive⟩
  ·exact d1.elim
 ·exact d1.elim
end
end L2
namespace HL
open PySem PyProof.Rows
theorem Zhd(A:Around)(s:Shared)(x:Int)(t:Tok)(y:Int)(u:Tok)(prog:Program)(w:World)(E Q:Value->Shared->Prop)(h:Q (.bool (decide (x<=y))) s) :
  wpAny (model prog w) A (richCompare .LtE (.int x t) (.int y u)) Q E s:=
 (PyProof.Rows.le_int h:wpAny (model prog w) A (compareOp .LtE (.int x t) (.int y u)) Q E s)
section
open PySem.SeqAt
open PySem.AutoSeq1 (wpAny_loadPart')
open PySem.MeetsSeq PySem.MeetsSeq2 PySem.MeetsSeq3 SeqRoads2
theorem ZaG(p q:Addr)(xs ys:Array Value)(k1 k2:Nat)(d1 d2:Option Addr)(l1 l2:Array (Option Value))(ns ms:List Int)(hi:IntsAre xs.toList ns)(hj:IntsAre ys.toList ms) :
  Meets (Builtin.«tuple.__le__» ⟨[.ref p,.ref q],[]⟩)
   (fun _ R s=>s.heap.get? p=some ⟨.type "tuple",d1,.seq xs k1,l1⟩/\s.heap.get? q=some ⟨.type "tuple",d2,.seq ys k2,l2⟩/\R (.ok (.ret (.bool (!HT.Z1 ms ns)))) s):=.of_wp fun prog w A R s h=>by
 obtain⟨hh,g,d,tk,os⟩:=s
 obtain⟨hp,hq,h⟩:=h
 have z1:xs.size=ns.length:=by rw[<- hi.length];simp
 have z2:ys.size=ms.length:=by rw[<- hj.length];simp
 have f2:=AutoSeq1.sub_tuple_tuple
 have hz:(xs.toList.zip ys.toList).length=min ns.length ms.length:=by simp[z1,z2]
 wp_walk using wpAny_loadPart' hp,wpAny_loadPart' hq,wpAny_forIn_list _ (fun r c s'=>c.1=none/\s'=⟨hh,g,d,tk,os⟩/\∃i,r=(xs.toList.zip ys.toList).drop i/\i<=min ns.length ms.length /\
  R (.ok (.ret (.bool (!HT.Z1 (ms.drop i) (ns.drop i))))) ⟨hh,g,d,tk,os⟩) _
 case turn =>
  rintro⟨x,y⟩ r c s' ⟨hc,rfl,i,hr,hle,hR⟩
  have hlt:i<(xs.toList.zip ys.toList).length:=Nat.lt_of_not_le fun z=>by rw[ZtN z] at hr;cases hr
  have n1:i<ns.length:=by omega
  have n2:i<ms.length:=by omega
  rw[Ztq hlt] at hr
  obtain⟨e0,er⟩:=List.cons.inj hr
  obtain⟨t,e1⟩:=Ub hi (i:=i) (by simpa using (show i<xs.size by omega)) n1
  obtain⟨u,e2⟩:=Ub hj (i:=i) (by simpa using (show i<ys.size by omega)) n2
  have ex:x=.int ns[i] t:=by have:=congrArg Prod.fst e0;rw[<- e1];simpa using this
  have ey:y=.int ms[i] u:=by have:=congrArg Prod.snd e0;rw[<- e2];simpa using this
  subst ex ey
  rw[Ztq n1,Ztq n2,HT.JH] at hR
  obtain⟨e,he,hiff⟩:=HT.ZhV A.in1 ⟨hh,g,d,tk,os⟩ ns[i] t ms[i] u
  refine wpAny_bind (he prog w _ _ ?_)
  cases e with
  |true =>
   rw[if_pos (hiff.mp rfl).symm] at hR
   wp_walk
   exact⟨rfl,rfl,i+1,er,by omega,hR⟩
  |false =>
   have hne:¬ms[i]=ns[i]:=fun z=>absurd (hiff.mpr z.symm) Bool.false_ne_true
   rw[if_neg hne] at hR
   have hd:(!decide (ms[i]<ns[i]))=decide (ns[i]<=ms[i]):=by
    by_cases c:ms[i]<ns[i]
    ·rw[decide_eq_true c,decide_eq_false (by omega)];rfl
    ·rw[decide_eq_false c,decide_eq_true (by omega)];rfl
   rw[hd] at hR
   have hri:=Zhd A.in1 ⟨hh,g,d,tk,os⟩ ns[i] t ms[i] u prog w
   wp_walk using hri
   exact⟨_,rfl,hR⟩
 case fin =>
  rintro⟨c1,c2⟩ s' ⟨hc,rfl,i,hr,hle,hR⟩
  simp only at hc
  subst hc
  have hge:min ns.length ms.length<=i:=Nat.le_of_not_lt fun z=>by rw[Ztq (by omega)] at hr;cases hr
  have hv:(!HT.Z1 (ms.drop i) (ns.drop i))=decide (xs.size<=ys.size):=by
   rw[z1,z2]
   by_cases c:ns.length<=i
   ·rw[ZtN (l:=ns) c]
    by_cases c':ms.length<=i
    ·rw[ZtN c',HT.Zbd]
     exact(decide_eq_true (by omega)).symm
    ·rw[Ztq (l:=ms) (by omega),HT.Zaf]
     exact(decide_eq_true (by omega)).symm
   ·rw[ZtN (l:=ms) (by omega),Ztq (l:=ns) (by omega),HT.VP]
    exact(decide_eq_false (by omega)).symm
  rw[hv] at hR
  wp_walk
  exact⟨_,rfl,by simpa[Builtin.Tuple.tupleCompareSizes] using hR⟩
 case h =>
  exact⟨rfl,rfl,0,rfl,ZtB _,by simpa using h⟩
end
variable {prog:Program}{w:World}{A:Around}{E:Value->Shared->Prop}{s:Shared}
theorem Zfm{p q:Addr}{xs ys:Array Value}{ns ms:List Int}{Q:Value->Shared->Prop}(hp:IsTup s.heap p xs)(hq:IsTup s.heap q ys)(hi:IntsAre xs.toList ns)(hj:IntsAre ys.toList ms)(hu:A.units<cLine)(h:Q (.bool (!HT.Z1 ms ns)) s):wpAny (model prog w) A (richCompare .LtE (.ref p) (.ref q)) Q E s:=by
 obtain⟨⟨c1,d1,b1,l1⟩,o1,rfl,k1,rfl⟩:=id hp
 obtain⟨⟨c2,d2,b2,l2⟩,o2,rfl,k2,rfl⟩:=id hq
 exact richCompare_meets_room (op:=.LtE) ⟨_,o1,rfl⟩ ⟨_,o2,rfl⟩ PySem.F.slot_tuple_le PySem.F.entry_tuple_le (PySem.F.args_tuple_le_2 _ _) (ZaG p q xs ys k1 k2 d1 d2 l1 l2 ns ms hi hj)
  ⟨o1,o2,show Value.bool (!HT.Z1 ms ns)≠.notImplemented/\Q (.bool (!HT.Z1 ms ns)) s from ⟨(fun z=>nomatch z),h⟩⟩ hu
end HL
namespace L2
open PySem PySem.Spec PyProof.Rows
section
variable {X:Cx}{K:W.Frag}
noncomputable def Zn0(K:W.Frag):R2:=fun x y H Q=>∃a b ns ms,x=.ref a/\y=.ref b/\SqT K H a (ns.map V.int)/\SqT K H b (ms.map V.int)/\Q (.bl (!HT.Z1 ms ns)) H
theorem Zl2(hu:X.A.units+64<cLine)(e:X.K=K:=by rfl):OpR X (compareOp .LtE) (Zn0 K):=by
 subst e
 intro pins s σ H x y v u Q I rx ry h
 obtain⟨a,b,ns,ms,rfl,rfl,ha,hb,q⟩:=h
 cases rx;cases ry
 obtain⟨_,r1,p1,_⟩:=I.tuple ha
 obtain⟨_,r2,p2,_⟩:=I.tuple hb
 exact HL.Zfm p1 p2 (by simpa using UL r1) (by simpa using UL r2) (by omega) ⟨.bl (!HT.Z1 ms ns),H,I,rfl,q⟩
variable {EX:PX->Hp->Prop}{Γ Γ1 Γ2:List Md}{tb tc:TE}{fb fc:List PV->Rr PV}{H:Hp}
theorem Zdp{S:Addr->Prop}{ns:List Int}{v:V}(h:Rep K H S (.tup (ns.map PV.int)) v):∃a,v=.ref a/\SqT K H a (ns.map V.int):=by
 obtain⟨a,vs,rfl,hn,hr⟩:=h
 rw[Vh hr] at hn
 exact⟨a,rfl,hn.sqT⟩
noncomputable def Zk6(x y:PV):Rr PV:=match x,y with
 |.tup xs,.tup ys=>match VQ xs,VQ ys with
  |some ns,some ms=>.ok (.bl (!HT.Z1 ms ns))
  |_,_=>.bad
 |_,_=>.bad
theorem ZjE(ns ms:List Int):Zk6 (ZD ns) (ZD ms)=.ok (.bl (!HT.Z1 ms ns)):=by simp only[Zk6,ZD,Zex]
theorem Zmf(ha:DE K EX Γ Γ1 .A tb fb)(hb:DE K EX Γ1 Γ2 .A tc fc):DE K EX Γ Γ2 .P (tOp (Zn0 K) tb tc) (fun ρ=>(fb ρ).bind fun x=>(fc ρ).bind fun y=>Zk6 x y):=by
 refine Zgo (fun {H x y v w Q} rx ry ⟨z,e,q⟩=>?_) (fun x y z h=>?_) (fun x y e h=>?_) ha hb
 ·unfold Zk6 at e
  split at e
  ·split at e
   ·rename_i ns ms h1 h2
    cases e
    rw[U2 h1] at rx
    rw[U2 h2] at ry
    obtain⟨a,rfl,h3⟩:=Zdp rx
    obtain⟨b,rfl,h4⟩:=Zdp ry
    exact⟨a,b,ns,ms,rfl,rfl,h3,h4,q rfl _ rfl⟩
   ·cases e
  ·cases e
 ·unfold Zk6 at h
  split at h
  ·split at h
   ·cases h;rfl
   ·cases h
  ·cases h
 ·unfold Zk6 at h
  split at h
  ·split at h<;>cases h
  ·cases h
end
noncomputable def pHole(x:PV)(c:Int):Rr (PV×PV):=match x with
 |.tup xs=>match ixN xs.length c with
  |some k=>match xs.getD k .non with
   |.lst ys=>.ok (.lst ys,.tup (xs.set k .any))
   |_=>.bad
  |none=>.bad
 |_=>.bad
section
variable {K:W.Frag}{H:Hp}
theorem Dn.pHole{x:PV}{c:Int}{ok:PV×PV->Prop}{ex:PX->Prop}(d:Dn (pHole x c) ok ex):∃xs k ys,x=.tup xs/\ixN xs.length c=some k/\xs.getD k .non=.lst ys/\ok (.lst ys,.tup (xs.set k .any)):=by
 unfold L2.pHole at d
 split at d
 ·split at d
  ·rename_i k ek
   split at d
   ·rename_i ys ey
    exact⟨_,k,ys,rfl,ek,ey,d⟩
   ·exact d.elim
  ·exact d.elim
 ·exact d.elim
theorem Trees.hole{ys:List PV}:∀{xs:List PV}{vs:List V}{G:List Addr}{j:Nat},Trees K H xs vs G->xs[j]?=some (.lst ys)->∃v G2 G',vs[j]?=some v/\ZW K H (.lst ys) v G2/\(∀a∈G2,a∈G)/\(∀a∈G',a∈G/\a ∉ G2)/\Trees K H (xs.set j .any) vs G'
 |[],_,_,_,_,e=>by simp at e
 |x::xs,_,_,0,h,e=>by
  obtain⟨w,r,G1,G2,rfl,h1,h2,h3,rfl⟩:=h
  simp only[Zug,Option.some.injEq] at e
  subst e
  obtain⟨a,ws,G4,rfl,_⟩:=id h1
  exact⟨.ref a,G1,G2,rfl,h1,fun b hb=>by simp[hb],fun b hb=>⟨by simp[hb],fun z=>h3 b z hb⟩,.ref a,r,[],G2,rfl,⟨⟨a,rfl⟩,rfl⟩,h2,by simp,rfl⟩
 |x::xs,_,_,j+1,h,e=>by
  obtain⟨w,r,G1,G2,rfl,h1,h2,h3,rfl⟩:=h
  obtain⟨v,G4,G',e1,e2,e3,e4,e5⟩:=Trees.hole h2 (j:=j) (by simpa using e)
  refine⟨v,G4,G1++G',by simpa using e1,e2,fun b hb=>by simp[e3 b hb],fun b hb=>?_,w,r,G1,G',rfl,h1,e5,fun b hb z=>h3 b hb (e4 b z).1,rfl⟩
  rcases Zta.mp hb with z|z
  ·exact⟨by simp[z],fun q=>h3 b z (e3 b q)⟩
  ·exact⟨by simp[(e4 b z).1],(e4 b z).2⟩
end
section
variable {K:W.Frag}{Γ:List Md}{ta:TA}{fa:List PV->Rr (List PV)}{n:Nat}{m:List PV->Rr PV}{EX:PX->Hp->Prop}{tt:TT}{fc:List PV->Rr (Bool×PV)}
theorem Zke{i:Nat}(h:DTM K EX Γ i tt fc):DTM K EX Γ i (ZmI tt) (fun ρ=>(fc ρ).bind fun r=>.ok (!r.1,r.2)):=fun B H0 H σ ρ F Q A d =>
 h B H0 H σ ρ F _ A (d.bind.imp (fun r _ d=>d) fun e q=>q)
theorem ZbW{i:Nat}{c:Int}(hm:Γ[i]?=some .O)(hn:Len fa n)(ha:DAR K (Γ.set i .U) ta fa) :
  DTM K X0 Γ i (tB (UQ (spC K (n+1) m) (Vg (tOp (rIx K) (Qf i) (tC (.int c))) ta))) (fun ρ=>(pHole (gv i ρ) c).bind fun r=>(fa ρ).bind fun xs=>(m (r.1::xs)).bind fun y=>(asB y).bind fun b=>.ok (b,r.2)):=fun B H0 H σ ρ F Q A d=>by
 obtain⟨v,h1,h2⟩:=A.getO hm
 have hi:=A.lt hm
 obtain⟨xs,k,ys,ex,ek,ey,d⟩:=Dn.pHole d.bind
 rw[show ρ.getD i .non=.tup xs from ex] at h2
 obtain⟨a,vs,rfl,hI,ht⟩:=h2
 have hk:=(UK ek).2.1
 have hx:xs[k]?=some (.lst ys):=by rw[<- ey,ZsS,ZsT hk];rfl
 obtain⟨w,G2,G',e1,e2,e3,e4,e5⟩:=ht.hole hx
 dsimp only at d
 cases ea:fa ρ with
 |bad=>rw[ea] at d;exact d.elim
 |exc q=>exact absurd ea (ha.1 ρ q)
 |ok zs =>
  rw[ea] at d
  have d:Dn ((m (.lst ys::zs)).bind fun y=>(asB y).bind fun b=>.ok (b,PV.tup (xs.set k PV.any))) _ _:=d
  refine⟨.ref a,h1,ZiA (c:=c) (u:=w) ⟨a,vs,_,rfl,.inr hI.sqT,by unfold atI;rw[ht.length,ek];exact e1,rfl⟩ ?_⟩
  refine ha.2 B H0 H σ ρ _ (F i++[]) _ (A.move hm) ⟨zs,ea,fun us hus=>?_⟩
  refine⟨fun b=>b ∉ F i,.lst ys,zs,w,us,G2,rfl,e2,Reps.mono (fun b u s r=>⟨r,fun z=>s (by simp[z])⟩) (fun b u r=>r) hus,fun b hb z=>hb (e3 b z),by rw[hn ρ zs ea], ?_⟩
  have dn2:=d.bind
  cases e:m (.lst ys::zs) with
  |bad=>rw[e] at dn2;exact dn2.elim
  |exc q=>rw[e] at dn2;exact(dn2 H0 (Z7.refl _)).elim
  |ok y =>
   rw[e] at dn2
   have dn2:Dn ((asB y).bind fun b=>.ok (b,PV.tup (xs.set k PV.any))) _ _:=dn2
   obtain⟨b,rfl,d⟩:=Dn.asB dn2.bind
   refine fun u H' s r=>?_
   cases r.2
   have AM:=(A.move hm).less (R':=G'++(G2++[])) (fun b hb=>by
    rcases Zta.mp hb with z|z
    ·simp[(e4 b z).1]
    ·simp[e3 b (by simpa using z)])
   have AP:=Ag.put (i:=i) (m:=.O) (x:=.tup (xs.set k .any)) (v:=.ref a) (G:=G') (R:=G2++[]) AM (by rw[Zuq];exact hi) (fun b hb z=>(e4 b hb).2 (by simpa using z)) ⟨.ref a,rfl,a,vs,rfl,hI,e5⟩
   rw[Zfd h1,List.set_set,Zfd hm] at AP
   refine⟨b,rfl,(show ∀H' F',_ from d) H' _ (fun q o hq hn=>⟨?_,fun l z=>?_⟩) (AP.lost s)⟩
   ·exact s q o (by rw[ZN (fun z=>hn i (e3 q z))];exact hq)
   ·by_cases q':l=i
    ·subst q';rw[Zu] at z;exact hn l (e4 q z).1
    ·rw[Z5 q',Z5 q'] at z;exact hn l z
end
end L2
namespace My
open PySem L2
seal PE PT PA PS PSs DE DT DAA DAF DS
theorem Zk{K:W.Frag}{EX:_}{Γ:List Md}{i:Nat}(h:Γ[i]?=some .S):DE K EX Γ Γ .A (Qf i) (fun ρ=>.ok (gv i ρ)):=Zq h (by decide)
noncomputable def top(i:Nat):Stmt:=PySem.Challenge.pw_sowring_k29_who_wins.main.body.getD i (.Pass ⟨0,0,0,0⟩)
noncomputable abbrev ZoY:Stmt:=top 42
theorem Zog:Zx ["script", "many", "found", "step", "k"] ["script", "many"] (Zl ZoY):=⟨rfl,rfl,rfl,by decide +kernel,rfl,by decide +kernel,by decide +kernel⟩
theorem ZqN:Zt "_law_numbers" ZoY ["script", "many"]:=fun _ _ _ _ _ _ us hl=>by obtain⟨_,_,rfl⟩:=us2 hl;rfl
noncomputable abbrev Zpz:Stmt:=top 43
theorem Zof:Zx ["numbers", "first", "way", "pits", "board", "k"] ["numbers", "first"] (Zl Zpz):=⟨rfl,rfl,rfl,by decide +kernel,rfl,by decide +kernel,by decide +kernel⟩
theorem ZrC:Zt "_law_board" Zpz ["numbers", "first"]:=fun _ _ _ _ _ _ us hl=>by obtain⟨_,_,rfl⟩:=us2 hl;rfl
noncomputable abbrev Zpk:Stmt:=top 44
theorem ZoT:Zx ["numbers", "first", "pits", "barred", "pit"] ["numbers", "first", "pits"] (Zl Zpk):=⟨rfl,rfl,rfl,by decide +kernel,rfl,by decide +kernel,by decide +kernel⟩
theorem Zrj:Zt "_law_barred" Zpk ["numbers", "first", "pits"]:=fun _ _ _ _ _ _ us hl=>by obtain⟨_,_,_,rfl⟩:=us3 hl;rfl
noncomputable abbrev ZpX:Stmt:=top 10
theorem Zsj:Zx ["value"] ["value"] (Zl ZpX):=⟨rfl,rfl,rfl,by decide +kernel,rfl,by decide +kernel,by decide +kernel⟩
theorem Zsx:Zt "is_whole" ZpX ["value"]:=fun _ _ _ _ _ _ us hl=>by obtain⟨_,rfl⟩:=us1 hl;rfl
noncomputable abbrev ZoK:Stmt:=top 11
theorem Zqz:Zx ["value", "least"] ["value", "least"] (Zl ZoK):=⟨rfl,rfl,rfl,by decide +kernel,rfl,by decide +kernel,by decide +kernel⟩
theorem ZpK:Zt "is_whole_from" ZoK ["value", "least"]:=fun _ _ _ _ _ _ us hl=>by obtain⟨_,_,rfl⟩:=us2 hl;rfl
noncomputable abbrev Zom:Stmt:=top 12
theorem ZoP:Zx ["values"] ["values"] (Zl Zom):=⟨rfl,rfl,rfl,by decide +kernel,rfl,by decide +kernel,by decide +kernel⟩
theorem ZpM:Zt "is_list_from_nought" Zom ["values"]:=fun _ _ _ _ _ _ us hl=>by obtain⟨_,rfl⟩:=us1 hl;rfl
noncomputable abbrev Zpw:Stmt:=top 9
theorem Zrq:Zx [] [] (Zl Zpw):=⟨rfl,rfl,rfl,by decide +kernel,rfl,by decide +kernel,by decide +kernel⟩
theorem Zr8:Zt "most_seeds" Zpw []:=fun _ _ _ _ _ _ us hl=>match us,hl with | [],_=>rfl
noncomputable abbrev ZpY:Stmt:=top 13
theorem Zsk:Zx ["board"] ["board"] (Zl ZpY):=⟨rfl,rfl,rfl,by decide +kernel,rfl,by decide +kernel,by decide +kernel⟩
theorem Zsy:Zt "is_board" ZpY ["board"]:=fun _ _ _ _ _ _ us hl=>by obtain⟨_,rfl⟩:=us1 hl;rfl
noncomputable abbrev Zpi:Stmt:=top 14
theorem ZqR:Zx ["board"] ["board"] (Zl Zpi):=⟨rfl,rfl,rfl,by decide +kernel,rfl,by decide +kernel,by decide +kernel⟩
theorem Zrh:Zt "check_board" Zpi ["board"]:=fun _ _ _ _ _ _ us hl=>by obtain⟨_,rfl⟩:=us1 hl;rfl
noncomputable abbrev Zp9:Stmt:=top 16
theorem Zqt:Zx ["numbers"] ["numbers"] (Zl Zp9):=⟨rfl,rfl,rfl,by decide +kernel,rfl,by decide +kernel,by decide +kernel⟩
theorem Zsa:Zt "is_rising" Zp9 ["numbers"]:=fun _ _ _ _ _ _ us hl=>by obtain⟨_,rfl⟩:=us1 hl;rfl
noncomputable abbrev Zq6:Stmt:=top 15
theorem ZsG:Zx ["board", "pit"] ["board", "pit"] (Zl Zq6):=⟨rfl,rfl,rfl,by decide +kernel,rfl,by decide +kernel,by decide +kernel⟩
theorem ZsJ:Zt "is_pit" Zq6 ["board", "pit"]:=fun _ _ _ _ _ _ us hl=>by obtain⟨_,_,rfl⟩:=us2 hl;rfl
noncomputable abbrev ZoX:Stmt:=top 17
theorem ZpO:Zx ["board", "barred"] ["board", "barred"] (Zl ZoX):=⟨rfl,rfl,rfl,by decide +kernel,rfl,by decide +kernel,by decide +kernel⟩
theorem ZqM:Zt "check_barred" ZoX ["board", "barred"]:=fun _ _ _ _ _ _ us hl=>by obtain⟨_,_,rfl⟩:=us2 hl;rfl
noncomputable abbrev ZoW:Stmt:=top 19
theorem ZoH:Zx ["pits", "seeds", "count", "k"] ["pits", "seeds"] (Zl ZoW):=⟨rfl,rfl,rfl,by decide +kernel,rfl,by decide +kernel,by decide +kernel⟩
theorem ZqL:Zt "count_boards" ZoW ["pits", "seeds"]:=fun _ _ _ _ _ _ us hl=>by obtain⟨_,_,rfl⟩:=us2 hl;rfl
noncomputable abbrev Zoy:Stmt:=top 24
theorem Zqb:Zx ["board"] ["board"] (Zl Zoy):=⟨rfl,rfl,rfl,by decide +kernel,rfl,by decide +kernel,by decide +kernel⟩
theorem Zqd:Zt "check_few_boards" Zoy ["board"]:=fun _ _ _ _ _ _ us hl=>by obtain⟨_,rfl⟩:=us1 hl;rfl
noncomputable abbrev Zpy:Stmt:=top 29
theorem Zrr:Zx ["board", "barred"] ["board", "barred"] (Zl Zpy):=⟨rfl,rfl,rfl,by decide +kernel,rfl,by decide +kernel,by decide +kernel⟩
theorem ZrB:Zt "check_play" Zpy ["board", "barred"]:=fun _ _ _ _ _ _ us hl=>by obtain⟨_,_,rfl⟩:=us2 hl;rfl
noncomputable abbrev ZpA:Stmt:=top 31
theorem ZpN:Zx ["board", "barred"] ["board", "barred"] (Zl ZpA):=⟨rfl,rfl,rfl,by decide +kernel,rfl,by decide +kernel,by decide +kernel⟩
theorem Zp3:Zt "free_pits" ZpA ["board", "barred"]:=fun _ _ _ _ _ _ us hl=>by obtain⟨_,_,rfl⟩:=us2 hl;rfl
noncomputable abbrev ZoU:Stmt:=top 35
theorem Zpn:Zx ["board", "barred", "pit", "steps"] ["board", "barred", "pit"] (Zl ZoU):=⟨rfl,rfl,rfl,by decide +kernel,rfl,by decide +kernel,by decide +kernel⟩
theorem ZqJ:Zt "steps_to_bar" ZoU ["board", "barred", "pit"]:=fun _ _ _ _ _ _ us hl=>by obtain⟨_,_,_,rfl⟩:=us3 hl;rfl
noncomputable abbrev Zqi:Stmt:=top 21
theorem ZoA:Zx ["board", "pit", "pits", "rounds", "over", "other", "last", "step"] ["board", "pit"] (Zl Zqi):=⟨rfl,rfl,rfl,by decide +kernel,rfl,by decide +kernel,by decide +kernel⟩
theorem ZsC:Zt "sow_pit" Zqi ["board", "pit"]:=fun _ _ _ _ _ _ us hl=>by obtain⟨_,_,rfl⟩:=us2 hl;rfl
noncomputable abbrev Zpu:Stmt:=top 26
theorem Zp5:Zx ["board", "pits"] ["board", "pits"] (Zl Zpu):=⟨rfl,rfl,rfl,by decide +kernel,rfl,by decide +kernel,by decide +kernel⟩
theorem ZpG:Zt "sowings_of" Zpu ["board", "pits"]:=fun _ _ _ _ _ _ us hl=>by obtain⟨_,_,rfl⟩:=us2 hl;rfl
noncomputable abbrev Zpv:Stmt:=top 25
theorem Zpf:Zx ["level", "pits", "came_from", "found", "board", "step"] ["level", "pits", "came_from"] (Zl Zpv):=⟨rfl,rfl,rfl,by decide +kernel,rfl,by decide +kernel,by decide +kernel⟩
theorem Zr7:Zt "next_level" Zpv ["level", "pits", "came_from"]:=fun _ _ _ _ _ _ us hl=>by obtain⟨_,_,_,rfl⟩:=us3 hl;rfl
noncomputable abbrev Zp8:Stmt:=top 30
theorem ZoZ:Zx ["board", "barred", "pits", "came_from", "level"] ["board", "barred"] (Zl Zp8):=⟨rfl,rfl,rfl,by decide +kernel,rfl,by decide +kernel,by decide +kernel⟩
theorem ZrZ:Zt "walk_from" Zp8 ["board", "barred"]:=fun _ _ _ _ _ _ us hl=>by obtain⟨_,_,rfl⟩:=us2 hl;rfl
noncomputable abbrev Zpx:Stmt:=top 32
theorem Zqg:Zx ["board", "pits"] ["board", "pits"] (Zl Zpx):=⟨rfl,rfl,rfl,by decide +kernel,rfl,by decide +kernel,by decide +kernel⟩
theorem Zr9:Zt "free_seeds" Zpx ["board", "pits"]:=fun _ _ _ _ _ _ us hl=>by obtain⟨_,_,rfl⟩:=us2 hl;rfl
noncomputable abbrev Zo0:Stmt:=top 34
theorem ZoG:Zx ["board", "pits", "steps"] ["board", "pits", "steps"] (Zl Zo0):=⟨rfl,rfl,rfl,by decide +kernel,rfl,by decide +kernel,by decide +kernel⟩
theorem Zqn:Zt "seeds_and_steps" Zo0 ["board", "pits", "steps"]:=fun _ _ _ _ _ _ us hl=>by obtain⟨_,_,_,rfl⟩:=us3 hl;rfl
noncomputable abbrev Zpa:Stmt:=top 33
theorem Zpg:Zx ["board", "barred", "pits", "steps"] ["board", "barred"] (Zl Zpa):=⟨rfl,rfl,rfl,by decide +kernel,rfl,by decide +kernel,by decide +kernel⟩
theorem ZrA:Zt "ends_first" Zpa ["board", "barred"]:=fun _ _ _ _ _ _ us hl=>by obtain⟨_,_,rfl⟩:=us2 hl;rfl
noncomputable abbrev ZoJ:Stmt:=top 39
theorem Zpc:Zx ["numbers", "least"] ["numbers"] (Zl ZoJ):=⟨rfl,rfl,rfl,by decide +kernel,rfl,by decide +kernel,by decide +kernel⟩
theorem Zq4:Zt "least_missing" ZoJ ["numbers"]:=fun _ _ _ _ _ _ us hl=>by obtain⟨_,rfl⟩:=us1 hl;rfl
noncomputable abbrev Zph:Stmt:=top 38
theorem Zo5:Zx ["board", "barred", "pits", "found", "other"] ["board", "barred"] (Zl Zph):=⟨rfl,rfl,rfl,by decide +kernel,rfl,by decide +kernel,by decide +kernel⟩
theorem Zrg:Zt "worths_from" Zph ["board", "barred"]:=fun _ _ _ _ _ _ us hl=>by obtain⟨_,_,rfl⟩:=us2 hl;rfl
noncomputable abbrev ZoI:Stmt:=top 27
theorem ZpH:Zx ["boards"] ["boards"] (Zl ZoI):=⟨rfl,rfl,rfl,by decide +kernel,rfl,by decide +kernel,by decide +kernel⟩
theorem Zq3:Zt "rising_boards" ZoI ["boards"]:=fun _ _ _ _ _ _ us hl=>by obtain⟨_,rfl⟩:=us1 hl;rfl
noncomputable abbrev ZoV:Stmt:=top 40
theorem Zpo:Zx ["board", "barred", "found", "worth", "pits"] ["board", "barred", "found", "worth"] (Zl ZoV):=⟨rfl,rfl,rfl,by decide +kernel,rfl,by decide +kernel,by decide +kernel⟩
theorem ZqK:Zt "pit_to_worth" ZoV ["board", "barred", "found", "worth"]:=fun _ _ _ _ _ _ us hl=>by obtain⟨_,_,_,_,rfl⟩:=us4 hl;rfl
noncomputable abbrev ZpW:Stmt:=top 37
theorem Zpm:Zx ["board", "barred", "found", "lost"] ["board", "barred"] (Zl ZpW):=⟨rfl,rfl,rfl,by decide +kernel,rfl,by decide +kernel,by decide +kernel⟩
theorem Zsw:Zt "who_wins" ZpW ["board", "barred"]:=fun _ _ _ _ _ _ us hl=>by obtain⟨_,_,rfl⟩:=us2 hl;rfl
noncomputable abbrev Zot:Stmt:=top 48
theorem Zqa:Zx ["found"] ["found"] (Zl Zot):=⟨rfl,rfl,rfl,by decide +kernel,rfl,by decide +kernel,by decide +kernel⟩
theorem Zpe:Zt "_law_whole_number" Zot ["found"]:=fun _ _ _ _ _ _ us hl=>by obtain⟨_,rfl⟩:=us1 hl;rfl
noncomputable abbrev ZoL:Stmt:=top 49
theorem ZpI:Zx ["found", "pits", "seeds"] ["found", "pits"] (Zl ZoL):=⟨rfl,rfl,rfl,by decide +kernel,rfl,by decide +kernel,by decide +kernel⟩
theorem Zq5:Zt "_law_tuple_of" ZoL ["found", "pits"]:=fun _ _ _ _ _ _ us hl=>by obtain⟨_,_,rfl⟩:=us2 hl;rfl
noncomputable abbrev ZpC:Stmt:=top 50
theorem ZoB:Zx ["found", "pits", "lost", "last", "one", "told"] ["found", "pits"] (Zl ZpC):=⟨rfl,rfl,rfl,by decide +kernel,rfl,by decide +kernel,by decide +kernel⟩
theorem Zsb:Zt "_law_lost" ZpC ["found", "pits"]:=fun _ _ _ _ _ _ us hl=>by obtain⟨_,_,rfl⟩:=us2 hl;rfl
noncomputable abbrev Zp0:Stmt:=top 52
theorem Zqh:Zx ["found", "kept", "k"] ["found", "kept"] (Zl Zp0):=⟨rfl,rfl,rfl,by decide +kernel,rfl,by decide +kernel,by decide +kernel⟩
theorem ZrD:Zt "_law_apart" Zp0 ["found", "kept"]:=fun _ _ _ _ _ _ us hl=>by obtain⟨_,_,rfl⟩:=us2 hl;rfl
noncomputable abbrev ZpB:Stmt:=top 45
theorem Zpt:Zx ["board", "pit", "rest", "hand", "k"] ["board", "pit"] (Zl ZpB):=⟨rfl,rfl,rfl,by decide +kernel,rfl,by decide +kernel,by decide +kernel⟩
theorem Zqy:Zt "_law_sown" ZpB ["board", "pit"]:=fun _ _ _ _ _ _ us hl=>by obtain⟨_,_,rfl⟩:=us2 hl;rfl
noncomputable abbrev Zp1:Stmt:=top 46
theorem Zp7:Zx ["board", "barred", "after", "pit"] ["board", "barred"] (Zl Zp1):=⟨rfl,rfl,rfl,by decide +kernel,rfl,by decide +kernel,by decide +kernel⟩
theorem Zqo:Zt "_law_after" Zp1 ["board", "barred"]:=fun _ _ _ _ _ _ us hl=>by obtain⟨_,_,rfl⟩:=us2 hl;rfl
noncomputable abbrev Zpj:Stmt:=top 51
theorem Zov:Zx ["boards", "barred", "lost", "count", "board", "leads"] ["boards", "barred", "lost"] (Zl Zpj):=⟨rfl,rfl,rfl,by decide +kernel,rfl,by decide +kernel,by decide +kernel⟩
theorem Zri:Zt "_law_parted" Zpj ["boards", "barred", "lost"]:=fun _ _ _ _ _ _ us hl=>by obtain⟨_,_,_,rfl⟩:=us3 hl;rfl
noncomputable abbrev ZpZ:Stmt:=top 47
theorem Zp6:Zx ["board", "barred", "met", "line", "other"] ["board", "barred"] (Zl ZpZ):=⟨rfl,rfl,rfl,by decide +kernel,rfl,by decide +kernel,by decide +kernel⟩
theorem Zsz:Zt "_law_all" ZpZ ["board", "barred"]:=fun _ _ _ _ _ _ us hl=>by obtain⟨_,_,rfl⟩:=us2 hl;rfl
noncomputable abbrev ZsL:Stmt:=top 53
theorem Zqf:Zx ["script", "numbers", "board", "barred", "handed", "found", "lost", "pit", "kept"] ["script"] (Zl ZsL):=⟨rfl,rfl,rfl,by decide +kernel,rfl,by decide +kernel,by decide +kernel⟩
theorem ZsQ:Zt "law" ZsL ["script"]:=fun _ _ _ _ _ _ us hl=>by obtain⟨_,rfl⟩:=us1 hl;rfl
structure Txt(K:PySem.W.Frag)(mg:Str->Option Value):Prop where
 Zra:Dfn K mg "_law_numbers" ZoY
 ZrR:Dfn K mg "_law_board" Zpz
 Zr2:Dfn K mg "_law_barred" Zpk
 Zs5:Dfn K mg "is_whole" ZpX
 ZpQ:Dfn K mg "is_whole_from" ZoK
 ZpR:Dfn K mg "is_list_from_nought" Zom
 ZrN:Dfn K mg "most_seeds" Zpw
 Zs6:Dfn K mg "is_board" ZpY
 Zr0:Dfn K mg "check_board" Zpi
 Zsq:Dfn K mg "is_rising" Zp9
 ZsM:Dfn K mg "is_pit" Zq6
 ZqZ:Dfn K mg "check_barred" ZoX
 ZqY:Dfn K mg "count_boards" ZoW
 Zql:Dfn K mg "check_few_boards" Zoy
 ZrQ:Dfn K mg "check_play" Zpy
 ZpE:Dfn K mg "free_pits" ZpA
 ZqW:Dfn K mg "steps_to_bar" ZoU
 ZsI:Dfn K mg "sow_pit" Zqi
 ZpP:Dfn K mg "sowings_of" Zpu
 ZrM:Dfn K mg "next_level" Zpv
 Zsp:Dfn K mg "walk_from" Zp8
 ZrO:Dfn K mg "free_seeds" Zpx
 Zqq:Dfn K mg "seeds_and_steps" Zo0
 ZrP:Dfn K mg "ends_first" Zpa
 ZqD:Dfn K mg "least_missing" ZoJ
 Zrz:Dfn K mg "worths_from" Zph
 ZqC:Dfn K mg "rising_boards" ZoI
 ZqX:Dfn K mg "pit_to_worth" ZoV
 Zs4:Dfn K mg "who_wins" ZpW
 Zpq:Dfn K mg "_law_whole_number" Zot
 ZqE:Dfn K mg "_law_tuple_of" ZoL
 Zsr:Dfn K mg "_law_lost" ZpC
 ZrS:Dfn K mg "_law_apart" Zp0
 ZqF:Dfn K mg "_law_sown" ZpB
 Zqv:Dfn K mg "_law_after" Zp1
 Zr1:Dfn K mg "_law_parted" Zpj
 Zs7:Dfn K mg "_law_all" ZpZ
 ZsR:Dfn K mg "law" ZsL
 c_FEWEST_PITS:∃t,mg "FEWEST_PITS"=some (.int 2 t)
 c_MOST_BOARDS:∃t,mg "MOST_BOARDS"=some (.int 1000 t)
 c_MOST_PITS:∃t,mg "MOST_PITS"=some (.int 24 t)
 z_all:mg "all"=none
 z_any:mg "any"=none
 z_bool:mg "bool"=none
 z_enumerate:mg "enumerate"=none
 z_int:mg "int"=none
 z_isinstance:mg "isinstance"=none
 z_len:mg "len"=none
 z_list:mg "list"=none
 z_range:mg "range"=none
 z_sorted:mg "sorted"=none
 z_sum:mg "sum"=none
 z_tuple:mg "tuple"=none
 l_lam:Zl9 K=true
section
variable {P:Program}{w:World}{K:W.Frag}{mg:Str->Option Value}{base:Heap}
set_option hygiene false
local macro_rules | `(tactic| walk_at "pd")=>`(tactic| try simp -implicitDefEqProofs (disch:=first|omega|(simp only[ZsV,Ztv,Zuq,ZuP,Ztw,ZuZ,Ztu,Zui,ZuN,ZS];omega)|decide) only[Zga,Zgb,List.set_cons_zero,List.set_cons_succ,Zuv,Zuh,Zfl,Zfk,Zug,Rr.bind_ok,Rr.bind_exc,Rr.bind_bad,Rr.thenS_ok,RS.seq_next,RS.seq_ret,RS.out_next,RS.out_ret,   ZjJ,ZjA,Zlk,Zll,Zlu,Zlw,Zkc,Zkb,ZhM,Zmr,ZgA,Zir,Zkw,Zls,Zlr,Zlq,Zht,Zhs,Zlo,Zln,ZhH,ZhI,ZhG,ZhF,ZjH,Zd7,ZjG,ZbG,ZjC,Zf0,Ztw,ZuZ,Bool.not_true,Bool.not_false,Bool.false_eq_true,if_true,if_false,Nat.reduceAdd,Nat.reduceSub,id,Zte,Zux,Int.reduceToNat,Zem,Zcy,ZmX,Zl6,Zl5,Zlm,Zhv,Zhz,Znl,Nat.reduceLeDiff,ZsX,Int.reduceLT,Int.reduceLE,Int.reduceEq,decide_true,decide_false,
 Qm,Q9,ZbH,Zf7,Zd4,Zhm,QH,UJ,V3,Zhp,Zh0,beq_self_eq_true,Bool.and_true,Bool.true_and,Bool.and_false,Bool.false_and,Zlj,])
local macro_rules | `(tactic| walk_at "in")=>`(tactic| (simp only[List.cons.injEq,PV.lst.injEq,PV.int.injEq,PV.str.injEq,PV.bl.injEq,PV.tup.injEq,Zbf,and_true] at e ⊢;first|(simp only[e];done)|(subst e;rfl)|(rw[e])))
local macro_rules | `(tactic| walk_at "lo")=>`(tactic| first|exact Or.inl rfl|exact Or.inr rfl)
set_option hygiene true
noncomputable def Zor:Pm:=⟨List Int×Int,fun a=>[.lst (a.1.map PV.int),.int a.2],fun a=>a.1.length<=1000/\0<a.2/\a.2<=1000,fun a=>.ok (.lst ((Zep a.1 a.2.toNat).map PV.int))⟩
theorem ZqB(T:Txt K mg){f:Addr}{fd:FuncData}(F:Fun K "_law_numbers" "_law_numbers" ZoY f fd):J1 P w K mg base CX0 1 f fd ["script", "many"] (spF K 2 .F W0 Zor.fn):=by
 refine F.okP Zog rfl rfl (fun cdv A outer s H E hr=>?_)
 have hu:=hr.units
 refine⟨_,_,⟨[],[],[],.F⟩,rfl,(Zc (Z2 (i:=2) Zog.nd rfl (by walk_at "lo") (JJ Ze))
   (Zc (Z2 (i:=3) Zog.nd rfl (by walk_at "lo") Zi)
   (Zc (Jl (Z4 Zeo (Zr (Z6 (K:=K)) rfl T.z_len Jf (Za (pv 0) Ze)) Zi (ZF _)) (Zg (Z2 (i:=3) Zog.nd rfl (by walk_at "lo") (Zz ZT Zi (Zz Jd (ZK (Zs (K:=K)) (pv 0) Zi (fun _ _=>rfl)) Zi)))) ZA)
   (Zc (J8 PassesOwn.never rfl (Jg rfl T.z_range (Za (pv 1) Ze)) (Jb (i:=4) Zog.nd rfl (by walk_at "lo")) (Zc (Z2 (i:=3) Zog.nd rfl (by walk_at "lo") (Zz Jd (Zz J5 (pv 3) Zi) Zi))
   (Zg (J4 (ZbD PySem.F.plainAttrs_list PySem.F.slot_list_append PySem.F.type_list_append JL (pv 2) (Za (Zz Jd (Zz Jm (pv 3) Zi) Zi) Ze))))))
   (Zc (J8 PassesOwn.never rfl (Jg rfl T.z_range (Za (Zr (Z6 (K:=K)) rfl T.z_len Jf (Za (pv 0) Ze)) Ze)) (Jb (i:=4) Zog.nd rfl (by walk_at "lo")) (Zg (Zfq (Zz Jd (Zz ZT (ZK (Zs (K:=K)) (pv 2) (Zz Jd (pv 4) (pv 1)) (fun _ _=>rfl)) (ZK (Zs (K:=K)) (pv 0) (pv 4) (fun _ _=>rfl))) Zi) (Zfw (pv 2) (Zz Jd (pv 4) (pv 1)) JV))))
   (Zg (Zy (pv 2)))))))),
   (Zm (Γm:=[.S,.S,.O,.U,.U]) (ZH (i:=2) (JQ Jr) (by decide))
   (Zm (Γm:=[.S,.S,.O,.P,.U]) (ZO (i:=3) Zh (by decide))
   (Zm (Γm:=[.S,.S,.O,.P,.U]) (Jo (Z0 (DE.toA (Ze6 (DE.toA (Jh (Zb (Zk (i:=0) rfl) Zd))) (DE.toA Zh))))
   (ZO (i:=3) (ZU (DE.toA Zh) (DE.toA (Je (Z3 (te:=tC .non) (Zk (i:=0) rfl) (DE.toA Zh)) (DE.toA Zh)))) (by decide))
   ZB)
   (Zm (Γm:=[.S,.S,.O,.P,.U]) (JA (Γl:=[.S,.S,.O,.P,.U]) (JN (Zb (Zk (i:=1) rfl) Zd)) rfl (ZcH (i:=4) (by decide))
   (DS.out (Y:=⟨[.S,.S,.O,.P,.P],[.S,.S,.O,.P,.U],[.S,.S,.O,.P,.U],.F⟩) (Y':=⟨[.S,.S,.O,.P,.U],[.S,.S,.O,.P,.U],[.S,.S,.O,.P,.U],.F⟩) (Zm (Γm:=[.S,.S,.O,.P,.P]) (ZO (i:=3) (Je (DE.toA (Vx (DE.toA (Zn (i:=3) rfl)) (DE.toA Zh))) (DE.toA Zh)) (by decide))
   (UO (i:=2) rfl rfl (DE.PF (Je (DE.toA (Vy (DE.toA (Zn (i:=3) rfl)) (DE.toA Zh))) (DE.toA Zh))))) rfl rfl rfl rfl))
   (Zm (Γm:=[.S,.S,.O,.P,.U]) (JA (Γl:=[.S,.S,.O,.P,.U]) (JN (Zb (DE.toA (Jh (Zb (Zk (i:=0) rfl) Zd))) Zd)) rfl (ZcH (i:=4) (by decide))
   (DS.out (Y:=⟨[.S,.S,.O,.P,.P],[.S,.S,.O,.P,.U],[.S,.S,.O,.P,.U],.F⟩) (Y':=⟨[.S,.S,.O,.P,.U],[.S,.S,.O,.P,.U],[.S,.S,.O,.P,.U],.F⟩) (QU (i:=2) rfl (Je (DE.toA (ZU (Z3 (te:=tC .non) (Zq (i:=2) (m:=.O) rfl (by decide)) (DE.toA (Je (DE.toA (Zn (i:=4) rfl)) (Zk (i:=1) rfl)))) (Z3 (te:=tC .non) (Zk (i:=0) rfl) (DE.toA (Zn (i:=4) rfl))))) (DE.toA Zh)) (DE.toA (Je (DE.toA (Zn (i:=4) rfl)) (Zk (i:=1) rfl)))) rfl rfl rfl rfl))
   (ZV (J7 (i:=2) rfl))))))), ?_⟩
 refine Pm.ref Zor (g:=fun xs=>_) ?_
 rintro⟨ns,m⟩ ⟨hn,h0,h1⟩
 simp only at hn h0 h1
 simp only[Zor]
 have hst:JU ns=if 0<ns.length then 1+ns.getD 0 0%2147483646 else 1:=rfl
 walk_at "pd"
 by_cases hz:0<ns.length
 ·rw[if_pos hz] at hst
  rw[decide_eq_true (by omega)]
  walk_at "pd"
  rw[<- hst]
  clear hst
  generalize hw:US _ _ _=W
  obtain⟨ρ',rfl,v,rfl⟩:=ZL hw (fun i ρ=>∃v,ρ=[.lst (ns.map PV.int),.int m,.lst ((ZeC (JU ns) i).map PV.int),.int (Q3 (JU ns) i),v]) ⟨_,rfl⟩ (by
   rintro i x ρ hx ⟨v,rfl⟩
   obtain⟨hi,rfl⟩:=Jy hx
   have hb:=Zdk (Zb8 ns) i
   have hl:(ZeC (JU ns) i).length=i:=Uc _ _
   walk_at "pd"
   exact Jw ⟨_,by rw[ZbS,L2.Q3]⟩)
  walk_at "pd"
  rw[ZS]
  generalize hw:US _ _ _=W
  obtain⟨ρ',rfl,v,rfl⟩:=ZL hw (fun i ρ=>∃v,ρ=[.lst (ns.map PV.int),.int m,.lst ((ZbU (ZeC (JU ns) m.toNat) ns m.toNat i).map PV.int),.int (Q3 (JU ns) m.toNat),v]) ⟨_,rfl⟩ (by
   rintro i x ρ hx ⟨v,rfl⟩
   obtain⟨hi,rfl⟩:=Jy hx
   have hl:(ZbU (ZeC (JU ns) m.toNat) ns m.toNat i).length=m.toNat:=by rw[UT,Uc]
   have m0:=Ztp (0+(i:Int)) (show m≠0 by omega)
   have m1:=Ztg (0+(i:Int)) h0
   have e:((0+(i:Int))%m).toNat=i%m.toNat:=by
    have:((i%m.toNat:Nat):Int)=(0+(i:Int))%m:=by rw[Int.natCast_emod,Zt6 (by omega),Zum]
    omega
   walk_at "pd"
   exact Jw ⟨_,by rw[ZbU,e,show (0+(i:Int)).toNat=i by omega]⟩)
  walk_at "pd"
  rw[ZS,show (ns.length:Int).toNat=ns.length by omega]
  rfl
 ·rw[if_neg hz] at hst
  rw[decide_eq_false (by omega)]
  walk_at "pd"
  have hz2:ns=[]:=List.eq_nil_of_length_eq_zero (by omega)
  subst hz2
  generalize hw:US _ _ _=W
  obtain⟨ρ',rfl,v,rfl⟩:=ZL hw (fun i ρ=>∃v,ρ=[.lst [],.int m,.lst ((ZeC (JU []) i).map PV.int),.int (Q3 (JU []) i),v]) ⟨_,by rw[hst];rfl⟩ (by
   rintro i x ρ hx ⟨v,rfl⟩
   obtain⟨hi,rfl⟩:=Jy hx
   have hb:=Zdk (Zb8 []) i
   have hl:(ZeC (JU []) i).length=i:=Uc _ _
   walk_at "pd"
   exact Jw ⟨_,by rw[ZbS,L2.Q3]⟩)
  walk_at "pd"
  rw[ZS]
  rfl
theorem Zrf{ns:List Int}{m:Int}(h:ns.length<=1000/\0<m/\m<=1000):Zor.fn [.lst (ns.map PV.int),.int m]=.ok (.lst ((Zep ns m.toNat).map PV.int)):=Pm.fn_eq Zor (ns,m) h fun(a:List Int×Int) e=>by simp only[Zor] at e ⊢;walk_at "in"
noncomputable def lyI(n:Nat)(L:List Int):List Int:=L.foldl (fun b a=>b.set a.toNat (b.getD a.toNat 0+1)) (List.replicate n 0)
theorem ZiL{n:Nat}:∀(L:List Int) (b:List Int) (s:Int),Bs n s b->(∀a∈L,0<=a/\a<n)->Bs n (s+L.length) (L.foldl (fun b a=>b.set a.toNat (b.getD a.toNat 0+1)) b)
 |[],b,s,h,_=>by simpa using h
 |a::L,b,s,h,hL=>by
  obtain⟨l,nn,sm⟩:=h
  have ha:=hL a (by simp)
  have:=ZiL L (b.set a.toNat (b.getD a.toNat 0+1)) (s+1) ⟨by simp[l],fun x hx=>?_, ?_⟩ fun z hz=>hL z (by simp[hz])
  ·rw[Zvq,Ztw,show s+((L.length+1:Nat):Int)=s+1+L.length by omega]
   exact this
  ·rcases List.mem_or_eq_of_mem_set hx with z|z
   ·exact nn x z
   ·have:=Zgc nn a.toNat
    omega
  ·rw[Qh (by omega)];omega
theorem ZjT{n:Nat}{L:List Int}(h:∀a∈L,0<=a/\a<n):Bs n L.length (lyI n L):=by
 have:=ZiL L (List.replicate n 0) 0 ⟨by simp,fun x hx=>by rw[List.eq_of_mem_replicate hx];omega,by simp⟩ h
 rw[Zum] at this
 exact this
noncomputable def nAt(N:List Int)(k:Int):Int:=N.getD k.toNat 0
noncomputable def bdN(N:List Int)(f:Int):Int:=if nAt N 1/(1+7*f)%8=1 then 6+nAt N 0/(1+4*f)%19 else 2+nAt N 0/(1+4*f)%4
noncomputable def bdV(N:List Int)(f:Int):List Int:=
 if nAt N 1/(1+7*f)%8=1 then lyI (bdN N f).toNat [nAt N (20+f)%bdN N f,nAt N (22+f)%bdN N f]
 else if nAt N 1/(1+7*f)%8=2 then [nAt N (20+f)%40,nAt N (22+f)%40]
 else if nAt N 1/(1+7*f)%8=3 then (List.range 3).map fun(k:Nat)=>nAt N (20+2*f+k)/3%9
 else lyI (bdN N f).toNat ((List.range (nAt N 4/(1+9*f)%9).toNat).map fun(k:Nat)=>nAt N (24+9*f+k)/5%bdN N f)
noncomputable def Zo3:Pm:=⟨List Int×Int,fun a=>[.lst (a.1.map PV.int),.int a.2],fun a=>a.1.length=63/\0<=a.2/\a.2<=1,fun a=>.ok (.lst ((bdV a.1 a.2).map PV.int))⟩
theorem Zrx(T:Txt K mg){f:Addr}{fd:FuncData}(F:Fun K "_law_board" "_law_board" Zpz f fd):J1 P w K mg base CX0 1 f fd ["numbers", "first"] (spF K 2 .F W0 Zo3.fn):=by
 refine F.okP Zof rfl rfl (fun cdv A outer s H E hr=>?_)
 have hu:=hr.units
 refine⟨_,_,⟨[],[],[],.F⟩,rfl,(Zc (Z2 (i:=2) Zof.nd rfl (by walk_at "lo") (Zz Jd (Zz Jm (ZK (Zs (K:=K)) (pv 0) Zi (fun _ _=>rfl)) (Zz ZT Zi (Zz J5 Zi (pv 1)))) Zi))
   (Zc (Z2 (i:=3) Zof.nd rfl (by walk_at "lo") (Zz ZT Zi (Zz Jd (Zz Jm (ZK (Zs (K:=K)) (pv 0) Zi (fun _ _=>rfl)) (Zz ZT Zi (Zz J5 Zi (pv 1)))) Zi)))
   (Zc (Jl (Z4 (J9 (K:=K) hu) (pv 2) Zi (ZF _)) (Zc (Z2 (i:=3) Zof.nd rfl (by walk_at "lo") (Zz ZT Zi (Zz Jd (Zz Jm (ZK (Zs (K:=K)) (pv 0) Zi (fun _ _=>rfl)) (Zz ZT Zi (Zz J5 Zi (pv 1)))) Zi)))
   (Zc (Z2 (i:=4) Zof.nd rfl (by walk_at "lo") (Zz ZiF (JJ (Za Zi Ze)) (pv 3)))
   (Zc (Q7 (pv 4) (Zz Jd (ZK (Zs (K:=K)) (pv 0) (Zz ZT Zi (pv 1)) (fun _ _=>rfl)) (pv 3)) (V7 (K:=K)) Zi QK JV)
   (Zc (Q7 (pv 4) (Zz Jd (ZK (Zs (K:=K)) (pv 0) (Zz ZT Zi (pv 1)) (fun _ _=>rfl)) (pv 3)) (V7 (K:=K)) Zi QK JV)
   (Zg (Zy (pv 4))))))) ZA)
   (Zc (Jl (Z4 (J9 (K:=K) hu) (pv 2) Zi (ZF _)) (Zg (Zy (JJ (Za (Zz Jd (ZK (Zs (K:=K)) (pv 0) (Zz ZT Zi (pv 1)) (fun _ _=>rfl)) Zi) (Za (Zz Jd (ZK (Zs (K:=K)) (pv 0) (Zz ZT Zi (pv 1)) (fun _ _=>rfl)) Zi) Ze))))) ZA)
   (Zc (Jl (Z4 (J9 (K:=K) hu) (pv 2) Zi (ZF _)) (Zg (Zy (VF (Jg rfl T.z_range (Za Zi Ze)) (VZ Zof.nd) (fun _ _ _ _=>Zd1) (fun _ _ _ _=>(Zz Jd (Zz Jm (ZK (Zs (K:=K)) (pv 0) (Zz ZT (Zz ZT Zi (Zz J5 Zi (pv 1))) (pv 6)) (fun _ _=>rfl)) Zi) Zi)) hv1 Zof.nd rfl))) ZA)
   (Zc (Z2 (i:=4) Zof.nd rfl (by walk_at "lo") (Zz ZiF (JJ (Za Zi Ze)) (pv 3)))
   (Zc (J8 PassesOwn.never rfl (Jg rfl T.z_range (Za (Zz Jd (Zz Jm (ZK (Zs (K:=K)) (pv 0) Zi (fun _ _=>rfl)) (Zz ZT Zi (Zz J5 Zi (pv 1)))) Zi) Ze)) (Jb (i:=5) Zof.nd rfl (by walk_at "lo")) (Zg (Q7 (pv 4) (Zz Jd (Zz Jm (ZK (Zs (K:=K)) (pv 0) (Zz ZT (Zz ZT Zi (Zz J5 Zi (pv 1))) (pv 5)) (fun _ _=>rfl)) Zi) (pv 3)) (V7 (K:=K)) Zi QK JV)))
   (Zg (Zy (pv 4)))))))))),
   (Zm (Γm:=[.S,.S,.P,.U,.U,.U]) (ZO (i:=2) (Je (DE.toA (Vy (Z3 (te:=tC .non) (Zk (i:=0) rfl) (DE.toA Zh)) (DE.toA (ZU (DE.toA Zh) (DE.toA (Vx (DE.toA Zh) (Zk (i:=1) rfl))))))) (DE.toA Zh)) (by decide))
   (Zm (Γm:=[.S,.S,.P,.P,.U,.U]) (ZO (i:=3) (ZU (DE.toA Zh) (DE.toA (Je (DE.toA (Vy (Z3 (te:=tC .non) (Zk (i:=0) rfl) (DE.toA Zh)) (DE.toA (ZU (DE.toA Zh) (DE.toA (Vx (DE.toA Zh) (Zk (i:=1) rfl))))))) (DE.toA Zh)))) (by decide))
   (Zm (Γm:=[.S,.S,.P,.P,.U,.U]) (Jo (Z0 (DE.toA (Jj (g:=id) (DE.toA (Zn (i:=2) rfl)) (DE.toA Zh))))
   (Zm (Γm:=[.S,.S,.P,.P,.U,.U]) (ZO (i:=3) (ZU (DE.toA Zh) (DE.toA (Je (DE.toA (Vy (Z3 (te:=tC .non) (Zk (i:=0) rfl) (DE.toA Zh)) (DE.toA (ZU (DE.toA Zh) (DE.toA (Vx (DE.toA Zh) (Zk (i:=1) rfl))))))) (DE.toA Zh)))) (by decide))
   (Zm (Γm:=[.S,.S,.P,.P,.O,.U]) (ZH (i:=4) (Zgn (Zb (DE.toA Zh) Zd) (DE.toA (Zn (i:=3) rfl))) (by decide))
   (Zm (Γm:=[.S,.S,.P,.P,.O,.U]) (U6 (i:=4) rfl rfl (DE.toA (Je (Z3 (te:=tC .non) (Zk (i:=0) rfl) (DE.toA (ZU (DE.toA Zh) (Zk (i:=1) rfl)))) (DE.toA (Zn (i:=3) rfl)))) (DE.toA Zh))
   (Zm (Γm:=[.S,.S,.P,.P,.O,.U]) (U6 (i:=4) rfl rfl (DE.toA (Je (Z3 (te:=tC .non) (Zk (i:=0) rfl) (DE.toA (ZU (DE.toA Zh) (Zk (i:=1) rfl)))) (DE.toA (Zn (i:=3) rfl)))) (DE.toA Zh))
   (ZV (J7 (i:=4) rfl))))))
   ZB)
   (Zm (Γm:=[.S,.S,.P,.P,.U,.U]) (Jo (Z0 (DE.toA (Jj (g:=id) (DE.toA (Zn (i:=2) rfl)) (DE.toA Zh))))
   (ZV (JQ (ZY (DE.PF (Je (Z3 (te:=tC .non) (Zk (i:=0) rfl) (DE.toA (ZU (DE.toA Zh) (Zk (i:=1) rfl)))) (DE.toA Zh))) (ZY (DE.PF (Je (Z3 (te:=tC .non) (Zk (i:=0) rfl) (DE.toA (ZU (DE.toA Zh) (Zk (i:=1) rfl)))) (DE.toA Zh))) Jr))))
   ZB)
   (Zm (Γm:=[.S,.S,.P,.P,.U,.U]) (Jo (Z0 (DE.toA (Jj (g:=id) (DE.toA (Zn (i:=2) rfl)) (DE.toA Zh))))
   (ZV (Vq (k:=1) (DI.c (JN (Zb (DE.toA Zh) Zd))) ZkB Zgh (DE.PF (Je (DE.toA (Vy (Z3 (te:=tC .non) (Zk (i:=0) rfl) (DE.toA (ZU (DE.toA (ZU (DE.toA Zh) (DE.toA (Vx (DE.toA Zh) (Zk (i:=1) rfl))))) (Zk (i:=6) rfl)))) (DE.toA Zh))) (DE.toA Zh)))))
   ZB)
   (Zm (Γm:=[.S,.S,.P,.P,.O,.U]) (ZH (i:=4) (Zgn (Zb (DE.toA Zh) Zd) (DE.toA (Zn (i:=3) rfl))) (by decide))
   (Zm (Γm:=[.S,.S,.P,.P,.O,.U]) (JA (Γl:=[.S,.S,.P,.P,.O,.U]) (JN (Zb (DE.toA (Je (DE.toA (Vy (Z3 (te:=tC .non) (Zk (i:=0) rfl) (DE.toA Zh)) (DE.toA (ZU (DE.toA Zh) (DE.toA (Vx (DE.toA Zh) (Zk (i:=1) rfl))))))) (DE.toA Zh))) Zd)) rfl (ZcH (i:=5) (by decide))
   (DS.out (Y:=⟨[.S,.S,.P,.P,.O,.P],[.S,.S,.P,.P,.O,.U],[.S,.S,.P,.P,.O,.U],.F⟩) (Y':=⟨[.S,.S,.P,.P,.O,.U],[.S,.S,.P,.P,.O,.U],[.S,.S,.P,.P,.O,.U],.F⟩) (U6 (i:=4) rfl rfl (DE.toA (Je (DE.toA (Vy (Z3 (te:=tC .non) (Zk (i:=0) rfl) (DE.toA (ZU (DE.toA (ZU (DE.toA Zh) (DE.toA (Vx (DE.toA Zh) (Zk (i:=1) rfl))))) (DE.toA (Zn (i:=5) rfl))))) (DE.toA Zh))) (DE.toA (Zn (i:=3) rfl)))) (DE.toA Zh)) rfl rfl rfl rfl))
   (ZV (J7 (i:=4) rfl))))))))), ?_⟩
 refine Pm.ref Zo3 (g:=fun xs=>_) ?_
 rintro⟨N,f⟩ ⟨hN,h0,h1⟩
 simp only at hN h0 h1
 simp only[Zo3]
 walk_at "pd"
 have e1:N.getD 1 0=nAt N 1:=rfl
 have e0:N.getD 0 0=nAt N 0:=rfl
 have e20:N.getD (20+f).toNat 0=nAt N (20+f):=rfl
 have e22:N.getD (22+f).toNat 0=nAt N (22+f):=rfl
 have e4:N.getD 4 0=nAt N 4:=rfl
 unfold bdV
 have hp:bdN N f=if nAt N 1/(1+7*f)%8=1 then 6+nAt N 0/(1+4*f)%19 else 2+nAt N 0/(1+4*f)%4:=rfl
 generalize bdN N f=p at hp
 rw[e1,e0,e20]
 have r0:=Ztp (nAt N 0/(1+4*f)) (show (19:Int)≠0 by omega)
 have r1:=Ztg (nAt N 0/(1+4*f)) (show (0:Int)<19 by omega)
 have r2:=Ztp (nAt N 0/(1+4*f)) (show (4:Int)≠0 by omega)
 have r3:=Ztg (nAt N 0/(1+4*f)) (show (0:Int)<4 by omega)
 generalize nAt N 1/(1+7*f)%8=way at hp
 by_cases c1:way=1
 ·rw[if_pos c1] at hp
  rw[<- hp,decide_eq_true c1,if_pos c1]
  have q0:=Ztp (nAt N (20+f)) (show p≠0 by omega)
  have q1:=Ztg (nAt N (20+f)) (show (0:Int)<p by omega)
  have q2:=Ztp (nAt N (22+f)) (show p≠0 by omega)
  have q3:=Ztg (nAt N (22+f)) (show (0:Int)<p by omega)
  unfold lyI
  have hl:(List.replicate p.toNat (0:Int)).length=p.toNat:=ZuP
  generalize List.replicate p.toNat (0:Int)=bb at hl
  walk_at "pd"
  rw[e22]
  walk_at "pd"
  rfl
 ·rw[if_neg c1] at hp
  rw[<- hp,decide_eq_false c1,if_neg c1]
  walk_at "pd"
  by_cases c2:way=2
  ·rw[decide_eq_true c2,if_pos c2]
   walk_at "pd"
   rfl
  ·rw[decide_eq_false c2,if_neg c2]
   walk_at "pd"
   by_cases c3:way=3
   ·rw[decide_eq_true c3,if_pos c3]
    walk_at "pd"
    rw[Zbj,ZjS (g:=fun(k:Nat)=>nAt N (20+2*f+k)/3%9) (fun i hi=>by
     walk_at "pd"
     rw[Zum]
     rfl)]
    walk_at "pd"
   ·rw[decide_eq_false c3,if_neg c3]
    walk_at "pd"
    have q0:=Ztp (nAt N 4/(1+9*f)) (show (9:Int)≠0 by omega)
    have q1:=Ztg (nAt N 4/(1+9*f)) (show (0:Int)<9 by omega)
    rw[e4,show List.replicate p.toNat (0:Int)=lyI p.toNat ((List.range 0).map fun(k:Nat)=>nAt N (24+9*f+k)/5%p) from rfl]
    generalize hm:(nAt N 4/(1+9*f)%9).toNat=m
    generalize hw:US _ _ _=W
    obtain⟨ρ',rfl,v,rfl⟩:=ZL hw (fun i ρ=>∃v,ρ=[.lst (N.map PV.int),.int f,.int way,.int p,.lst ((lyI p.toNat ((List.range i).map fun(k:Nat)=>nAt N (24+9*f+k)/5%p)).map PV.int),v]) ⟨_,rfl⟩ (by
     rintro i x ρ hx ⟨v,rfl⟩
     obtain⟨hi,rfl⟩:=Jy hx
     rw[Zum]
     have a0:=Ztp (nAt N (24+9*f+i)/5) (show p≠0 by omega)
     have a1:=Ztg (nAt N (24+9*f+i)/5) (show (0:Int)<p by omega)
     have hl:=(ZjT (n:=p.toNat) (L:=(List.range i).map fun(k:Nat)=>nAt N (24+9*f+k)/5%p) fun z hz=>by
      obtain⟨k,hk,rfl⟩:=Ztm.mp hz
      have:=Ztp (nAt N (24+9*f+k)/5) (show p≠0 by omega)
      have:=Ztg (nAt N (24+9*f+k)/5) (show (0:Int)<p by omega)
      omega).1
     have hs:lyI p.toNat ((List.range (i+1)).map fun(k:Nat)=>nAt N (24+9*f+k)/5%p)=(lyI p.toNat ((List.range i).map fun(k:Nat)=>nAt N (24+9*f+k)/5%p)).set (nAt N (24+9*f+i)/5%p).toNat ((lyI p.toNat ((List.range i).map fun(k:Nat)=>nAt N (24+9*f+k)/5%p)).getD (nAt N (24+9*f+i)/5%p).toNat 0+1):=by
      unfold lyI
      rw[Zus,Zt8,Zvj];rfl
     rw[hs]
     generalize lyI p.toNat ((List.range i).map fun(k:Nat)=>nAt N (24+9*f+k)/5%p)=bb at hl
     walk_at "pd"
     rw[show N.getD (24+9*f+(i:Int)).toNat 0=nAt N (24+9*f+i) from rfl]
     walk_at "pd"
     exact Jw ⟨_,rfl⟩)
    walk_at "pd"
    rw[ZS]
theorem ZrX{N:List Int}{f:Int}(h:N.length=63/\0<=f/\f<=1):Zo3.fn [.lst (N.map PV.int),.int f]=.ok (.lst ((bdV N f).map PV.int)):=Pm.fn_eq Zo3 (N,f) h fun(a:List Int×Int) e=>by simp only[Zo3] at e ⊢;walk_at "in"
theorem ZiR{α β:Type}(f:α->β):∀(l:List α) (n:Nat),(l.map f).eraseIdx n=(l.eraseIdx n).map f
 |[],_=>rfl
 |_::_,0=>rfl
 |a::l,n+1=>by
  show f a::(l.map f).eraseIdx n=f a::(l.eraseIdx n).map f
  rw[ZiR f l n]
noncomputable def brI(N:List Int)(f:Int)(n:Nat):List Int:=((List.range n).filter fun(p:Nat)=>decide (nAt N (42+(7*f+p)%21)/3%3=0)).map fun(p:Nat)=>(p:Int)
noncomputable def brJ(N:List Int)(f n:Int):List Int:=if brI N f n.toNat=[] then [nAt N 5/(1+24*f)%n] else brI N f n.toNat
noncomputable def brV(N:List Int)(f n:Int):List Int:=if (brJ N f n).length=n then (brJ N f n).eraseIdx (nAt N 6/(1+24*f)%n).toNat else brJ N f n
noncomputable def Zox:Pm:=⟨List Int×Int×Int,fun a=>[.lst (a.1.map PV.int),.int a.2.1,.int a.2.2],fun a=>a.1.length=63/\(0<=a.2.1/\a.2.1<=1)/\2<=a.2.2/\a.2.2<=1000,fun a=>.ok (.lst ((brV a.1 a.2.1 a.2.2).map PV.int))⟩
theorem ZqV(T:Txt K mg){f:Addr}{fd:FuncData}(F:Fun K "_law_barred" "_law_barred" Zpk f fd):J1 P w K mg base CX0 1 f fd ["numbers", "first", "pits"] (spF K 3 .F W0 Zox.fn):=by
 refine F.okP ZoT rfl rfl (fun cdv A outer s H E hr=>?_)
 have hu:=hr.units
 refine⟨_,_,⟨[],[],[],.F⟩,rfl,(Zc (Z2 (i:=3) ZoT.nd rfl (by walk_at "lo") (JJ Ze))
   (Zc (J8 PassesOwn.never rfl (Jg rfl T.z_range (Za (pv 2) Ze)) (Jb (i:=4) ZoT.nd rfl (by walk_at "lo")) (Zg (Jl (Z4 (J9 (K:=K) hu) (Zz Jd (Zz Jm (ZK (Zs (K:=K)) (pv 0) (Zz ZT Zi (Zz Jd (Zz ZT (Zz J5 Zi (pv 1)) (pv 4)) Zi)) (fun _ _=>rfl)) Zi) Zi) Zi (ZF _)) (Zg (J4 (ZbD PySem.F.plainAttrs_list PySem.F.slot_list_append PySem.F.type_list_append JL (pv 3) (Za (pv 4) Ze)))) ZA)))
   (Zc (Jl (Z4 (J9 (K:=K) hu) (pv 3) (JJ Ze) (ZF _)) (Zg (Z2 (i:=3) ZoT.nd rfl (by walk_at "lo") (JJ (Za (Zz Jd (Zz Jm (ZK (Zs (K:=K)) (pv 0) Zi (fun _ _=>rfl)) (Zz ZT Zi (Zz J5 Zi (pv 1)))) (pv 2)) Ze)))) ZA)
   (Zc (Jl (Z4 (J9 (K:=K) hu) (Zr (Z6 (K:=K)) rfl T.z_len Jf (Za (pv 3) Ze)) (pv 2) (ZF _)) (Zg (J4 (ZbD PySem.F.plainAttrs_list PySem.F.slot_list_pop PySem.F.type_list_pop Zh5 (pv 3) (Za (Zz Jd (Zz Jm (ZK (Zs (K:=K)) (pv 0) Zi (fun _ _=>rfl)) (Zz ZT Zi (Zz J5 Zi (pv 1)))) (pv 2)) Ze)))) ZA)
   (Zg (Zy (pv 3))))))),
   (Zm (Γm:=[.S,.S,.S,.O,.U]) (ZH (i:=3) (JQ Jr) (by decide))
   (Zm (Γm:=[.S,.S,.S,.O,.U]) (JA (Γl:=[.S,.S,.S,.O,.U]) (JN (Zb (Zk (i:=2) rfl) Zd)) rfl (ZcH (i:=4) (by decide))
   (DS.out (Y:=⟨[.S,.S,.S,.O,.P],[.S,.S,.S,.O,.U],[.S,.S,.S,.O,.U],.F⟩) (Y':=⟨[.S,.S,.S,.O,.U],[.S,.S,.S,.O,.U],[.S,.S,.S,.O,.U],.F⟩) (Jo (Z0 (DE.toA (Jj (g:=id) (DE.toA (Je (DE.toA (Vy (Z3 (te:=tC .non) (Zk (i:=0) rfl) (DE.toA (ZU (DE.toA Zh) (DE.toA (Je (DE.toA (ZU (DE.toA (Vx (DE.toA Zh) (Zk (i:=1) rfl))) (DE.toA (Zn (i:=4) rfl)))) (DE.toA Zh)))))) (DE.toA Zh))) (DE.toA Zh))) (DE.toA Zh))))
   (UO (i:=3) rfl rfl (DE.PF (Zn (i:=4) rfl)))
   ZB) rfl rfl rfl rfl))
   (Zm (Γm:=[.S,.S,.S,.O,.U]) (Jo (Z0 (DE.toA (Jj (g:=id) (Zq (i:=3) (m:=.O) rfl (by decide)) (DE.toA (JQ Jr)))))
   (ZH (i:=3) (JQ (ZY (DE.PF (Je (DE.toA (Vy (Z3 (te:=tC .non) (Zk (i:=0) rfl) (DE.toA Zh)) (DE.toA (ZU (DE.toA Zh) (DE.toA (Vx (DE.toA Zh) (Zk (i:=1) rfl))))))) (Zk (i:=2) rfl))) Jr)) (by decide))
   ZB)
   (Zm (Γm:=[.S,.S,.S,.O,.U]) (Jo (Z0 (DE.toA (Jj (g:=id) (DE.toA (Jh (Zb (Zq (i:=3) (m:=.O) rfl (by decide)) Zd))) (Zk (i:=2) rfl))))
   (Zgj (i:=3) rfl (Je (DE.toA (Vy (Z3 (te:=tC .non) (Zk (i:=0) rfl) (DE.toA Zh)) (DE.toA (ZU (DE.toA Zh) (DE.toA (Vx (DE.toA Zh) (Zk (i:=1) rfl))))))) (Zk (i:=2) rfl)))
   ZB)
   (ZV (J7 (i:=3) rfl)))))), ?_⟩
 refine Pm.ref Zox (g:=fun xs=>_) ?_
 rintro⟨N,f,n⟩ ⟨hN,⟨h0,h1⟩,n2,n1⟩
 simp only at hN h0 h1 n2 n1
 simp only[Zox]
 walk_at "pd"
 generalize hw:US _ _ _=W
 obtain⟨ρ',rfl,v,rfl⟩:=ZL hw (fun i ρ=>∃v,ρ=[.lst (N.map PV.int),.int f,.int n,.lst ((brI N f i).map PV.int),v]) ⟨_,rfl⟩ (by
  rintro i x ρ hx ⟨v,rfl⟩
  obtain⟨hi,rfl⟩:=Jy hx
  rw[Zum]
  have y0:=Ztp (7*f+i) (show (21:Int)≠0 by omega)
  have y1:=Ztg (7*f+i) (show (0:Int)<21 by omega)
  have hlen:(brI N f i).length<=i:=by
   unfold brI
   rw[ZsV]
   exact Ztr (ZtH _ _) (by simp)
  have hs:brI N f (i+1)=brI N f i++if nAt N (42+(7*f+i)%21)/3%3=0 then [(i:Int)] else []:=by
   unfold brI
   rw[Zus,Zud,Zt8]
   congr 1
   by_cases c:nAt N (42+(7*f+i)%21)/3%3=0
   ·rw[if_pos c];simp[c]
   ·rw[if_neg c];simp[c]
  rw[hs]
  walk_at "pd"
  rw[show N.getD (42+(7*f+i)%21).toNat 0=nAt N (42+(7*f+i)%21) from rfl]
  by_cases c:nAt N (42+(7*f+i)%21)/3%3=0
  ·rw[decide_eq_true c,if_pos c]
   walk_at "pd"
   exact Jw ⟨_,rfl⟩
  ·rw[decide_eq_false c,if_neg c,Zua]
   walk_at "pd"
   exact Jw ⟨_,rfl⟩)
 rw[ZS]
 walk_at "pd"
 have hJ:(if decide (brI N f n.toNat=[])=true then RS.next [PV.lst (N.map PV.int),.int f,.int n,.lst [.int (N.getD 5 0/(1+24*f)%n)],v] else RS.next [PV.lst (N.map PV.int),.int f,.int n,.lst ((brI N f n.toNat).map PV.int),v])=RS.next [PV.lst (N.map PV.int),.int f,.int n,.lst ((brJ N f n).map PV.int),v]:=by
  unfold brJ nAt
  by_cases c:brI N f n.toNat=[]
  ·rw[decide_eq_true c,if_pos rfl,if_pos c];rfl
  ·rw[decide_eq_false c,if_neg (by simp),if_neg c]
 rw[hJ]
 have y0:=Ztp (N.getD 6 0/(1+24*f)) (show n≠0 by omega)
 have y1:=Ztg (N.getD 6 0/(1+24*f)) (show (0:Int)<n by omega)
 unfold brV
 generalize brJ N f n=J
 walk_at "pd"
 by_cases c:(J.length:Int)=n
 ·rw[decide_eq_true c,if_pos c]
  walk_at "pd"
  have hp:pPopAt (.lst (J.map PV.int)) (.int (N.getD 6 0/(1+24*f)%n))=.ok (.lst ((J.eraseIdx (N.getD 6 0/(1+24*f)%n).toNat).map PV.int)):=by
   unfold pPopAt
   simp only
   rw[if_pos ⟨U4,y0,by rw[ZsV];omega,by rw[ZsV];omega⟩,ZiR]
  rw[hp]
  walk_at "pd"
  rfl
 ·rw[decide_eq_false c,if_neg c]
  walk_at "pd"
theorem Zr6{N:List Int}{f n:Int}(h:N.length=63/\(0<=f/\f<=1)/\2<=n/\n<=1000):Zox.fn [.lst (N.map PV.int),.int f,.int n]=.ok (.lst ((brV N f n).map PV.int)):=Pm.fn_eq Zox (N,f,n) h fun(a:List Int×Int×Int) e=>by simp only[Zox] at e ⊢;walk_at "in"
noncomputable def Zpp:Pm:=⟨Int,fun i=>[.int i],fun _=>True,fun _=>.ok (.bl true)⟩
theorem Zsm(T:Txt K mg){f:Addr}{fd:FuncData}(F:Fun K "is_whole" "is_whole" ZpX f fd):J1 P w K mg base CX0 1 f fd ["value"] (spF K 1 .P W0 Zpp.fn):=by
 refine F.okP Zsj rfl rfl (fun cdv A outer s H E hr=>?_)
 have hu:=hr.units
 refine⟨_,_,⟨[],[],[],.P⟩,rfl,(Zg (Zy (Zas (Zr (Js (K:=K) (n := "int") rfl) rfl T.z_isinstance ZM (Za (pv 0) (Za (Vp (v:=.ty "int") rfl T.z_int Zg6 rfl) Ze))) (Zar (ZiD (Zr (Js (K:=K) (n := "bool") rfl) rfl T.z_isinstance ZM (Za (pv 0) (Za (Vp (v:=.ty "bool") rfl T.z_bool Zg7 rfl) Ze)))))))),
   (Z9 (Za9 (DE.toA (U8 (Zk (i:=0) rfl))) (ZiS (DE.toA (U8 (Zk (i:=0) rfl)))))), ?_⟩
 refine Pm.ref Zpp (g:=fun xs=>_) ?_
 intro (i:Int) _
 simp only[Zpp]
 walk_at "pd"
theorem Zs9{i:Int}:Zpp.fn [.int i]=.ok (.bl true):=Pm.fn_eq Zpp i trivial fun _ _=>rfl
noncomputable def Zok:Pm:=⟨Int×Int,fun a=>[.int a.1,.int a.2],fun _=>True,fun a=>.ok (.bl (decide (a.2<=a.1)))⟩
theorem ZpJ(T:Txt K mg){f:Addr}{fd:FuncData}(F:Fun K "is_whole_from" "is_whole_from" ZoK f fd):J1 P w K mg base CX0 2 f fd ["value", "least"] (spF K 2 .P W0 Zok.fn):=by
 have ZsD:=JT (P:=P) (w:=w) (base:=base) T.Zs5 Zsx (fun F=>Zsm T F)
 refine F.okP Zqz rfl rfl (fun cdv A outer s H E hr=>?_)
 have hu:=hr.units
 refine⟨_,_,⟨[],[],[],.P⟩,rfl,(Zg (Zy (Zas (Zp ZsD (hr.mono (by decide)) rfl (Za (pv 0) Ze)) (Zar (VY ZmY (pv 0) (pv 1) (ZF _)))))),
   (Z9 (Za9 (DE.toA (QX (Zf Zw) (Zb (Zk (i:=0) rfl) Zd))) (Zni (Zk (i:=0) rfl) (Zk (i:=1) rfl)))), ?_⟩
 refine Pm.ref Zok (g:=fun xs=>_) ?_
 rintro⟨i,j⟩ _
 simp only[Zok]
 walk_at "pd"
 rw[Zs9]
 walk_at "pd"
theorem ZpS{i j:Int}:Zok.fn [.int i,.int j]=.ok (.bl (decide (j<=i))):=Pm.fn_eq Zok (i,j) trivial fun(a:Int×Int) e=>by simp only[Zok] at e ⊢;walk_at "in"
noncomputable def Zod:Pm:=⟨List Int,fun ns=>[.lst (ns.map PV.int)],fun ns=>ns.length<=1000000,fun ns=>.ok (.bl (decide (∀x∈ns,0<=x)))⟩
theorem ZpL(T:Txt K mg){f:Addr}{fd:FuncData}(F:Fun K "is_list_from_nought" "is_list_from_nought" Zom f fd):J1 P w K mg base CX0 3 f fd ["values"] (spF K 1 .P W0 Zod.fn):=by
 have Zps:=JT (P:=P) (w:=w) (base:=base) T.ZpQ ZpK (fun F=>ZpJ T F)
 refine F.okP ZoP rfl rfl (fun cdv A outer s H E hr=>?_)
 have hu:=hr.units
 refine⟨_,_,⟨[],[],[],.P⟩,rfl,(Zg (Zy (Zas (Zr (Js (K:=K) (n := "list") rfl) rfl T.z_isinstance ZM (Za (pv 0) (Za (Vp (v:=.ty "list") rfl T.z_list JR rfl) Ze))) (Zar (Zr (Zaa (K:=K) rfl) rfl T.z_all Zg9 (Za (JW (ZQ (K:=K) (pv 0)) (fun _ _ _ _=>(Zp Zps (hr.mono (by decide)) rfl (Za (pv 1) (Za Zi Ze)))) ZoP.nd rfl) Ze)))))),
   (Z9 (Za9 (DE.toA (U8 (Zk (i:=0) rfl))) (Zgq (Zb (DE.toA (Jz (DI.c (Jc (JP (i:=0) rfl))) (DE.PF (QX (Zf (Zf Zw)) (Zb (Zk (i:=1) rfl) (Zb (DE.toA Zh) Zd)))))) Zd)))), ?_⟩
 refine Pm.ref Zod (g:=fun xs=>_) ?_
 intro (ns:List Int) (hn:ns.length<=1000000)
 simp only[Zod]
 walk_at "pd"
 rw[ZfI (g:=fun z=>decide (0<=z)) (fun z _=>ZpS)]
 walk_at "pd"
 rw[ZgC]
theorem ZpT{ns:List Int}(h:ns.length<=1000000):Zod.fn [.lst (ns.map PV.int)]=.ok (.bl (decide (∀x∈ns,0<=x))):=Pm.fn_eq Zod ns h fun(a:List Int) e=>by simp only[Zod] at e ⊢;walk_at "in"
noncomputable def ZoM:Pm:=⟨Unit,fun _=>[],fun _=>True,fun _=>.ok (.int (10^60))⟩
theorem Zrt(T:Txt K mg){f:Addr}{fd:FuncData}(F:Fun K "most_seeds" "most_seeds" Zpw f fd):J1 P w K mg base CX0 1 f fd [] (spF K 0 .P W0 ZoM.fn):=by
 refine F.okP Zrq rfl rfl (fun cdv A outer s H E hr=>?_)
 have hu:=hr.units
 refine⟨_,_,⟨[],[],[],.P⟩,rfl,(Zg (Zy (Zz Zl1 Zi Zi))),
   (Z9 (Zme (DE.toA Zh) (DE.toA Zh))), ?_⟩
 refine Pm.ref ZoM (g:=fun xs=>_) ?_
 rintro _ _
 simp only[ZoM]
 walk_at "pd"
theorem ZrU:ZoM.fn []=.ok (.int (10^60)):=Pm.fn_eq ZoM () trivial fun _ _=>rfl
noncomputable def ZoR:Pm:=⟨List Int,fun ns=>[.lst (ns.map PV.int)],fun ns=>ns.length<=1000,fun ns=>.ok (.bl (VS ns))⟩
theorem Zsn(T:Txt K mg){f:Addr}{fd:FuncData}(F:Fun K "is_board" "is_board" ZpY f fd):J1 P w K mg base CX0 4 f fd ["board"] (spF K 1 .P W0 ZoR.fn):=by
 have ZpU:=JT (P:=P) (w:=w) (base:=base) T.ZpR ZpM (fun F=>ZpL T F)
 have Zsd:=JT (P:=P) (w:=w) (base:=base) T.ZrN Zr8 (fun F=>Zrt T F)
 refine F.okP Zsk rfl rfl (fun cdv A outer s H E hr=>?_)
 have hu:=hr.units
 refine⟨_,_,⟨[],[],[],.P⟩,rfl,(Zc (Jl (Vi (Vv (Zp ZpU (hr.mono (by decide)) rfl (Za (pv 0) Ze)))) (Zg (Zy Ut)) ZA)
   (Zc (Jl (PW.pt (UH (Z4 Zf8 (Zr (Z6 (K:=K)) rfl T.z_len Jf (Za (pv 0) Ze)) (ZaQ T.c_FEWEST_PITS rfl) (ZF _)) (VO (Z4 Zeo (Zr (Z6 (K:=K)) rfl T.z_len Jf (Za (pv 0) Ze)) (ZaQ T.c_MOST_PITS rfl) (ZF _))))) (Zg (Zy Ut)) ZA)
   (Zg (Zy (VY Zl3 (Zr (UA (K:=K) rfl) rfl T.z_sum ZdY (Za (pv 0) Ze)) (Zfy Zsd (hr.mono (by decide)) rfl) (ZF _)))))),
   (Zm (Γm:=[.S]) (Jo (Vw (ZcF (DE.toA (QX (Zf Zw) (Zb (Zk (i:=0) rfl) Zd)))))
   (Z9 U9)
   ZB)
   (Zm (Γm:=[.S]) (Jo (UN (Z0 (DE.toA (Zic (DE.toA (Jh (Zb (Zk (i:=0) rfl) Zd))) (DE.toA Zh)))) (Z0 (DE.toA (Ze6 (DE.toA (Jh (Zb (Zk (i:=0) rfl) Zd))) (DE.toA Zh)))))
   (Z9 U9)
   ZB)
   (Z9 (Znh (DE.toA (ZdN (Zb (Zk (i:=0) rfl) Zd))) (DE.toA (QX Zw Zd)))))), ?_⟩
 refine Pm.ref ZoR (g:=fun xs=>_) ?_
 intro (ns:List Int) (hn:ns.length<=1000)
 simp only[ZoR]
 walk_at "pd"
 rw[ZpT (by omega)]
 walk_at "pd"
 by_cases h3:∀x∈ns,0<=x
 ·rw[decide_eq_true h3]
  walk_at "pd"
  by_cases h1:(ns.length:Int)<2
  ·rw[decide_eq_true h1]
   walk_at "pd"
   rw[show VS ns=false from decide_eq_false (by omega)]
  rw[decide_eq_false h1]
  walk_at "pd"
  by_cases h2:(24:Int)<ns.length
  ·rw[decide_eq_true h2]
   walk_at "pd"
   rw[show VS ns=false from decide_eq_false (by omega)]
  rw[decide_eq_false h2]
  walk_at "pd"
  rw[ZrU]
  walk_at "pd"
  by_cases h4:ns.sum<=10^60
  ·rw[decide_eq_true h4,ZaC.mpr ⟨by omega,by omega,h3,h4⟩]
  ·rw[decide_eq_false h4,show VS ns=false from decide_eq_false (fun z=>h4 z.2.2.2)]
 ·rw[decide_eq_false h3]
  walk_at "pd"
  rw[show VS ns=false from decide_eq_false (fun z=>h3 z.2.2.1)]
theorem ZsA{ns:List Int}(h:ns.length<=1000):ZoR.fn [.lst (ns.map PV.int)]=.ok (.bl (VS ns)):=Pm.fn_eq ZoR ns h fun(a:List Int) e=>by simp only[ZoR] at e ⊢;walk_at "in"
noncomputable def Zo6:Pm:=⟨List Int,fun ns=>[.lst (ns.map PV.int)],fun ns=>ns.length<=1000/\VS ns=true,fun _=>.ok .non⟩
theorem ZqT(T:Txt K mg){f:Addr}{fd:FuncData}(F:Fun K "check_board" "check_board" Zpi f fd):J1 P w K mg base CX0 5 f fd ["board"] (spF K 1 .P W0 Zo6.fn):=by
 have ZsE:=JT (P:=P) (w:=w) (base:=base) T.Zs6 Zsy (fun F=>Zsn T F)
 refine F.okP ZqR rfl rfl (fun cdv A outer s H E hr=>?_)
 have hu:=hr.units
 refine⟨_,_,⟨[.S],[],[],.P⟩,rfl,(Zg (Jl (Vi (Vv (Zp ZsE (hr.mono (by decide)) rfl (Za (pv 0) Ze)))) (Zg Ur) ZA)),
   (Jo (Vw (ZcF (DE.toA (QX (Zf Zw) (Zb (Zk (i:=0) rfl) Zd)))))
   U5
   ZB), ?_⟩
 refine Pm.ref Zo6 (g:=fun xs=>_) ?_
 rintro(ns:List Int) ⟨hn,h⟩
 simp only[Zo6]
 walk_at "pd"
 rw[ZsA hn,h]
 walk_at "pd"
theorem Zr4{ns:List Int}(h:ns.length<=1000/\VS ns=true):Zo6.fn [.lst (ns.map PV.int)]=.ok .non:=Pm.fn_eq Zo6 ns h fun _ _=>rfl
noncomputable def riB(l:List Int):Bool:=(List.range (l.length-1)).all fun i=>decide (l.getD i 0<l.getD (i+1) 0)
noncomputable def ZoD:Pm:=⟨List Int,fun a=>[.lst (a.map PV.int)],fun a=>a.length<=100000,fun a=>.ok (.bl (riB a))⟩
theorem ZrK(T:Txt K mg){f:Addr}{fd:FuncData}(F:Fun K "is_rising" "is_rising" Zp9 f fd):J1 P w K mg base CX0 1 f fd ["numbers"] (spF K 1 .P W0 ZoD.fn):=by
 refine F.okP Zqt rfl rfl (fun cdv A outer s H E hr=>?_)
 have hu:=hr.units
 refine⟨_,_,⟨[],[],[],.P⟩,rfl,(Zg (Zy (Zr (Zaa (K:=K) rfl) rfl T.z_all Zg9 (Za (JW (Jg rfl T.z_range (Za (Zz Zl0 (Zr (Z6 (K:=K)) rfl T.z_len Jf (Za (pv 0) Ze)) Zi) Ze)) (fun _ _ _ _=>(VY Zf8 (ZK (Zs (K:=K)) (pv 0) (pv 1) (fun _ _=>rfl)) (ZK (Zs (K:=K)) (pv 0) (Zz ZT (pv 1) Zi) (fun _ _=>rfl)) (ZF _))) Zqt.nd rfl) Ze)))),
   (Z9 (Zgq (Zb (DE.toA (Jz (DI.c (JN (Zb (DE.toA (Zmd (DE.toA (Jh (Zb (Zk (i:=0) rfl) Zd))) (DE.toA Zh))) Zd))) (DE.PF (Zic (Z3 (te:=tC .non) (Zk (i:=0) rfl) (Zk (i:=1) rfl)) (Z3 (te:=tC .non) (Zk (i:=0) rfl) (DE.toA (ZU (Zk (i:=1) rfl) (DE.toA Zh)))))))) Zd))), ?_⟩
 refine Pm.ref ZoD (g:=fun xs=>_) ?_
 rintro(l:List Int) (hl:l.length<=100000)
 simp only[ZoD]
 walk_at "pd"
 rw[Zh7 (g:=fun(i:Nat)=>PV.bl (decide (l.getD i 0<l.getD (i+1) 0))) (fun i hi=>by
  rw[Zum]
  walk_at "pd"
  rw[Zt4,show ((i:Int)+1).toNat=i+1 by omega])]
 rw[show (List.range ((l.length:Int)-1).toNat).map (fun(i:Nat)=>PV.bl (decide (l.getD i 0<l.getD (i+1) 0)))=((List.range (l.length-1)).map fun(i:Nat)=>decide (l.getD i 0<l.getD (i+1) 0)).map PV.bl by rw[Zt2,show ((l.length:Int)-1).toNat=l.length-1 by omega];rfl]
 walk_at "pd"
 unfold riB
 rw[List.all_map];rfl
theorem Zst{l:List Int}(h:l.length<=100000):ZoD.fn [.lst (l.map PV.int)]=.ok (.bl (riB l)):=Pm.fn_eq ZoD l h fun(a:List Int) e=>by simp only[ZoD] at e ⊢;walk_at "in"
noncomputable def Zp4:Pm:=⟨List Int×Int,fun a=>[.lst (a.1.map PV.int),.int a.2],fun _=>True,fun a=>.ok (.bl (decide (0<=a.2/\a.2<a.1.length)))⟩
theorem ZsH(T:Txt K mg){f:Addr}{fd:FuncData}(F:Fun K "is_pit" "is_pit" Zq6 f fd):J1 P w K mg base CX0 3 f fd ["board", "pit"] (spF K 2 .P W0 Zp4.fn):=by
 have Zps:=JT (P:=P) (w:=w) (base:=base) T.ZpQ ZpK (fun F=>ZpJ T F)
 refine F.okP ZsG rfl rfl (fun cdv A outer s H E hr=>?_)
 have hu:=hr.units
 refine⟨_,_,⟨[],[],[],.P⟩,rfl,(Zg (Zy (Zas (Zp Zps (hr.mono (by decide)) rfl (Za (pv 1) (Za Zi Ze))) (Zar (VY Zf8 (pv 1) (Zr (Z6 (K:=K)) rfl T.z_len Jf (Za (pv 0) Ze)) (ZF _)))))),
   (Z9 (Za9 (DE.toA (QX (Zf (Zf Zw)) (Zb (Zk (i:=1) rfl) (Zb (DE.toA Zh) Zd)))) (Zic (Zk (i:=1) rfl) (DE.toA (Jh (Zb (Zk (i:=0) rfl) Zd)))))), ?_⟩
 refine Pm.ref Zp4 (g:=fun xs=>_) ?_
 rintro⟨ns,p⟩ -
 simp only[Zp4]
 walk_at "pd"
 rw[ZpS]
 walk_at "pd"
 by_cases h0:0<=p
 ·rw[decide_eq_true h0]
  walk_at "pd"
  by_cases h1:p<ns.length
  ·rw[decide_eq_true h1,show decide (0<=p/\p<(ns.length:Int))=true from decide_eq_true ⟨h0,h1⟩]
  ·rw[decide_eq_false h1,show decide (0<=p/\p<(ns.length:Int))=false from decide_eq_false (fun z=>h1 z.2)]
 ·rw[decide_eq_false h0,show decide (0<=p/\p<(ns.length:Int))=false from decide_eq_false (fun z=>h0 z.1)]
  walk_at "pd"
theorem ZsN{ns:List Int}{p:Int}:Zp4.fn [.lst (ns.map PV.int),.int p]=.ok (.bl (decide (0<=p/\p<ns.length))):=Pm.fn_eq Zp4 (ns,p) trivial fun(a:List Int×Int) e=>by simp only[Zp4] at e ⊢;walk_at "in"
def ZmB(n:Nat)(l:List Int):Prop:=(∀p∈l,0<=p/\p<n)/\riB l=true/\l.length≠0/\l.length≠n
noncomputable def Zoz:Pm:=⟨List Int×List Int,fun a=>[.lst (a.1.map PV.int),.lst (a.2.map PV.int)],fun a=>(a.1.length<=1000/\a.2.length<=1000)/\ZmB a.1.length a.2,fun _=>.ok .non⟩
theorem ZqA(T:Txt K mg){f:Addr}{fd:FuncData}(F:Fun K "check_barred" "check_barred" ZoX f fd):J1 P w K mg base CX0 4 f fd ["board", "barred"] (spF K 2 .P W0 Zoz.fn):=by
 have Zs1:=JT (P:=P) (w:=w) (base:=base) T.Zsq Zsa (fun F=>ZrK T F)
 have ZsO:=JT (P:=P) (w:=w) (base:=base) T.ZsM ZsJ (fun F=>ZsH T F)
 refine F.okP ZpO rfl rfl (fun cdv A outer s H E hr=>?_)
 have hu:=hr.units
 refine⟨_,_,⟨[.S,.S],[],[],.P⟩,rfl,(Zc (Jl (PW.pt (UH (Vi (Vv (Zr (Js (K:=K) (n := "list") rfl) rfl T.z_isinstance ZM (Za (pv 1) (Za (Vp (v:=.ty "list") rfl T.z_list JR rfl) Ze))))) (VO (Vi (Vv (Zr (Zaa (K:=K) rfl) rfl T.z_all Zg9 (Za (JW (ZQ (K:=K) (pv 1)) (fun _ _ _ _=>(Zp ZsO (hr.mono (by decide)) rfl (Za (pv 0) (Za (pv 2) Ze)))) ZpO.nd rfl) Ze))))))) (Zg Ur) ZA)
   (Zc (Jl (Vi (Vv (Zp Zs1 (hr.mono (by decide)) rfl (Za (pv 1) Ze)))) (Zg Ur) ZA)
   (Zg (Jl (PW.pt (UH (Z4 (J9 (K:=K) hu) (Zr (Z6 (K:=K)) rfl T.z_len Jf (Za (pv 1) Ze)) Zi (ZF _)) (VO (Z4 (J9 (K:=K) hu) (Zr (Z6 (K:=K)) rfl T.z_len Jf (Za (pv 1) Ze)) (Zr (Z6 (K:=K)) rfl T.z_len Jf (Za (pv 0) Ze)) (ZF _))))) (Zg Ur) ZA)))),
   (Zm (Γm:=[.S,.S]) (Jo (UN (Vw (ZcF (DE.toA (U8 (Zk (i:=1) rfl))))) (Vw (ZcF (DE.toA (Zgq (Zb (DE.toA (Jz (DI.c (Jc (JP (i:=1) rfl))) (DE.PF (QX (Zf (Zf Zw)) (Zb (Zk (i:=0) rfl) (Zb (Zk (i:=2) rfl) Zd)))))) Zd))))))
   U5
   ZB)
   (Zm (Γm:=[.S,.S]) (Jo (Vw (ZcF (DE.toA (QX (Zf Zw) (Zb (Zk (i:=1) rfl) Zd)))))
   U5
   ZB)
   (Jo (UN (Z0 (DE.toA (Jj (g:=id) (DE.toA (Jh (Zb (Zk (i:=1) rfl) Zd))) (DE.toA Zh)))) (Z0 (DE.toA (Jj (g:=id) (DE.toA (Jh (Zb (Zk (i:=1) rfl) Zd))) (DE.toA (Jh (Zb (Zk (i:=0) rfl) Zd)))))))
   U5
   ZB))), ?_⟩
 refine Pm.ref Zoz (g:=fun xs=>_) ?_
 rintro⟨b,l⟩ ⟨⟨hb,hl⟩,h1,h2,h3,h4⟩
 simp only at hb hl h1 h2 h3 h4
 simp only[Zoz]
 walk_at "pd"
 rw[ZfI (g:=fun z=>decide (0<=z/\z<(b.length:Int))) (fun z _=>ZsN)]
 walk_at "pd"
 rw[ZgC,decide_eq_true h1]
 walk_at "pd"
 rw[Zst (by omega),h2]
 walk_at "pd"
 rw[decide_eq_false (show ¬(l.length:Int)=0 by omega)]
 walk_at "pd"
 rw[decide_eq_false (show ¬(l.length:Int)=b.length by omega)]
 walk_at "pd"
theorem Zre{b l:List Int}(h:(b.length<=1000/\l.length<=1000)/\ZmB b.length l):Zoz.fn [.lst (b.map PV.int),.lst (l.map PV.int)]=.ok .non:=Pm.fn_eq Zoz (b,l) h fun _ _=>rfl
theorem Znk:(10:Nat)^61<2^60000:=by
 calc (10:Nat)^61<=(2^4)^61:=Zvb (by decide) _
  _=2^244:=by rw[<- Nat.pow_mul]
  _<2^60000:=ZuV (by decide) (by decide)
noncomputable def Zoq:Pm:=⟨Int×Int,fun a=>[.int a.1,.int a.2],fun a=>(1<=a.1/\a.1<=24)/\a.2<=10^60,fun a=>.ok (.int (cbN a.1 a.2))⟩
theorem Zq9(T:Txt K mg){f:Addr}{fd:FuncData}(F:Fun K "count_boards" "count_boards" ZoW f fd):J1 P w K mg base CX0 1 f fd ["pits", "seeds"] (spF K 2 .P W0 Zoq.fn):=by
 refine F.okP ZoH rfl rfl (fun cdv A outer s H E hr=>?_)
 have hu:=hr.units
 refine⟨_,_,⟨[],[],[],.P⟩,rfl,(Zc (Jl (Z4 Zf8 (pv 1) Zi (ZF _)) (Zg (Zy Zi)) ZA)
   (Zc (Z2 (i:=2) ZoH.nd rfl (by walk_at "lo") Zi)
   (Zc (J8 PassesOwn.never rfl (Zfu rfl T.z_range (Za Zi (Za (pv 0) Ze))) (Jb (i:=3) ZoH.nd rfl (by walk_at "lo")) (Zg (Z2 (i:=2) ZoH.nd rfl (by walk_at "lo") (Zz Jm (Zz J5 (pv 2) (Zz ZT (pv 1) (pv 3))) (pv 3)))))
   (Zg (Zy (pv 2)))))),
   (Zm (Γm:=[.S,.S,.U,.U]) (Jo (Z0 (DE.toA (Zic (Zk (i:=1) rfl) (DE.toA Zh))))
   (Z9 Zh)
   ZB)
   (Zm (Γm:=[.S,.S,.P,.U]) (ZO (i:=2) Zh (by decide))
   (Zm (Γm:=[.S,.S,.P,.U]) (JA (Γl:=[.S,.S,.P,.U]) (Zkj (Zb (DE.toA Zh) (Zb (Zk (i:=0) rfl) Zd))) rfl (ZcH (i:=3) (by decide))
   (DS.out (Y:=⟨[.S,.S,.P,.P],[.S,.S,.P,.U],[.S,.S,.P,.U],.P⟩) (Y':=⟨[.S,.S,.P,.U],[.S,.S,.P,.U],[.S,.S,.P,.U],.P⟩) (ZO (i:=2) (Vy (DE.toA (Vx (DE.toA (Zn (i:=2) rfl)) (DE.toA (ZU (Zk (i:=1) rfl) (DE.toA (Zn (i:=3) rfl)))))) (DE.toA (Zn (i:=3) rfl))) (by decide)) rfl rfl rfl rfl))
   (Z9 (Zn (i:=2) rfl))))), ?_⟩
 refine Pm.ref Zoq (g:=fun xs=>_) ?_
 rintro⟨p,s⟩ ⟨⟨hp0,hp⟩,hs⟩
 simp only at hp0 hp hs
 simp only[Zoq]
 unfold cbN
 walk_at "pd"
 by_cases h:s<0
 ·rw[decide_eq_true h,if_pos h]
  walk_at "pd"
 ·rw[decide_eq_false h,if_neg h]
  walk_at "pd"
  generalize hw:US _ _ _=W
  obtain⟨ρ',rfl,v,rfl⟩:=ZL hw (fun i ρ=>∃v,ρ=[.int p,.int s,.int (cbI s i),v]) ⟨_,rfl⟩ (by
   rintro i x ρ hx ⟨v,rfl⟩
   obtain⟨hi,rfl⟩:=Jy hx
   walk_at "pd"
   rw[Zcx ⟨Zgz (by omega) hs (by omega),ZtX (show (s+(1+(i:Int))).natAbs<=10^61 by omega) Znk⟩]
   walk_at "pd"
   exact Jw ⟨.int (1+(i:Int)),by rw[cbI,Int.add_comm 1 (i:Int)]⟩)
  walk_at "pd"
  rw[ZS]
theorem Zrd{p s:Int}(h:(1<=p/\p<=24)/\s<=10^60):Zoq.fn [.int p,.int s]=.ok (.int (cbN p s)):=Pm.fn_eq Zoq (p,s) h fun(a:Int×Int) e=>by simp only[Zoq] at e ⊢;walk_at "in"
noncomputable def Zoh:Pm:=⟨List Int,fun a=>[.lst (a.map PV.int)],fun a=>((1<=a.length/\a.length<=24)/\a.sum<=10^60)/\¬1000<cbN a.length a.sum,fun _=>.ok .non⟩
theorem Zqc(T:Txt K mg){f:Addr}{fd:FuncData}(F:Fun K "check_few_boards" "check_few_boards" Zoy f fd):J1 P w K mg base CX0 2 f fd ["board"] (spF K 1 .P W0 Zoh.fn):=by
 have Zrm:=JT (P:=P) (w:=w) (base:=base) T.ZqY ZqL (fun F=>Zq9 T F)
 refine F.okP Zqb rfl rfl (fun cdv A outer s H E hr=>?_)
 have hu:=hr.units
 refine⟨_,_,⟨[.S],[],[],.P⟩,rfl,(Zg (Jl (Z4 Zeo (Zp Zrm (hr.mono (by decide)) rfl (Za (Zr (Z6 (K:=K)) rfl T.z_len Jf (Za (pv 0) Ze)) (Za (Zr (UA (K:=K) rfl) rfl T.z_sum ZdY (Za (pv 0) Ze)) Ze))) (ZaQ T.c_MOST_BOARDS rfl) (ZF _)) (Zg Ur) ZA)),
   (Jo (Z0 (DE.toA (Ze6 (DE.toA (QX (Zf (Zf Zw)) (Zb (DE.toA (Jh (Zb (Zk (i:=0) rfl) Zd))) (Zb (DE.toA (ZdN (Zb (Zk (i:=0) rfl) Zd))) Zd)))) (DE.toA Zh))))
   U5
   ZB), ?_⟩
 refine Pm.ref Zoh (g:=fun xs=>_) ?_
 rintro(b:List Int) ⟨⟨⟨h0,h1⟩,h2⟩,c⟩
 simp only[Zoh]
 walk_at "pd"
 rw[Zrd ⟨⟨by omega,by omega⟩,h2⟩]
 walk_at "pd"
 rw[decide_eq_false c]
 walk_at "pd"
theorem Zqm{b:List Int}(h:((1<=b.length/\b.length<=24)/\b.sum<=10^60)/\¬1000<cbN b.length b.sum):Zoh.fn [.lst (b.map PV.int)]=.ok .non:=Pm.fn_eq Zoh b h fun _ _=>rfl
def Zad(b l:List Int):Prop:=Zmx b/\ZmB b.length l/\cbN b.length b.sum<=1000/\l.length<=1000
noncomputable def ZoN:Pm:=⟨List Int×List Int,fun a=>[.lst (a.1.map PV.int),.lst (a.2.map PV.int)],fun a=>Zad a.1 a.2,fun _=>.ok .non⟩
theorem Zrw(T:Txt K mg){f:Addr}{fd:FuncData}(F:Fun K "check_play" "check_play" Zpy f fd):J1 P w K mg base CX0 6 f fd ["board", "barred"] (spF K 2 .P W0 ZoN.fn):=by
 have ZrF:=JT (P:=P) (w:=w) (base:=base) T.Zr0 Zrh (fun F=>ZqT T F)
 have Zrn:=JT (P:=P) (w:=w) (base:=base) T.ZqZ ZqM (fun F=>ZqA T F)
 have Zqp:=JT (P:=P) (w:=w) (base:=base) T.Zql Zqd (fun F=>Zqc T F)
 refine F.okP Zrr rfl rfl (fun cdv A outer s H E hr=>?_)
 have hu:=hr.units
 refine⟨_,_,⟨[.S,.S],[],[],.P⟩,rfl,(Zc (J4 (Zp ZrF (hr.mono (by decide)) rfl (Za (pv 0) Ze)))
   (Zc (J4 (Zp Zrn (hr.mono (by decide)) rfl (Za (pv 0) (Za (pv 1) Ze))))
   (Zg (J4 (Zp Zqp (hr.mono (by decide)) rfl (Za (pv 0) Ze)))))),
   (Zm (Γm:=[.S,.S]) (Zbm (DE.toA (QX (Zf Zw) (Zb (Zk (i:=0) rfl) Zd))))
   (Zm (Γm:=[.S,.S]) (Zbm (DE.toA (QX (Zf (Zf Zw)) (Zb (Zk (i:=0) rfl) (Zb (Zk (i:=1) rfl) Zd)))))
   (Zbm (DE.toA (QX (Zf Zw) (Zb (Zk (i:=0) rfl) Zd)))))), ?_⟩
 refine Pm.ref ZoN (g:=fun xs=>_) ?_
 rintro⟨b,l⟩ ⟨B,h2,h3,h4⟩
 simp only at B h2 h3 h4
 simp only[ZoN]
 have l1:=B.lo
 have l2:=B.hi
 have l3:=B.sm
 walk_at "pd"
 rw[Zr4 ⟨by omega,ZaC.mpr B⟩]
 walk_at "pd"
 rw[Zre ⟨⟨by omega,h4⟩,h2⟩]
 walk_at "pd"
 rw[Zqm ⟨⟨⟨by omega,by omega⟩,l3⟩,by omega⟩]
 walk_at "pd"
theorem ZrW{b l:List Int}(h:Zad b l):ZoN.fn [.lst (b.map PV.int),.lst (l.map PV.int)]=.ok .non:=Pm.fn_eq ZoN (b,l) h fun _ _=>rfl
theorem Zdv{b l:List Int}(h:Zad b l):b.length<=24/\2<=b.length/\(b.sum<=10^60/\UW b.length b.sum l b):=by
 obtain⟨B,h2,h3,h4⟩:=h
 have l1:=B.lo
 obtain⟨q,hq⟩:=List.exists_mem_of_ne_nil l (fun z=>h2.2.2.1 (by rw[z];rfl))
 exact⟨B.hi,B.lo,B.sm,⟨by omega,fun p hp=>(VA.mp hp).1,⟨rfl,B.nn,rfl⟩,by omega⟩,q,hq,h2.1 q hq⟩
noncomputable def ZoE:Pm:=⟨List Int×List Int,fun a=>[.lst (a.1.map PV.int),.lst (a.2.map PV.int)],fun a=>a.1.length<=1000,fun a=>.ok (.lst ((Zj a.1.length a.2).map PV.int))⟩
theorem Zp2(T:Txt K mg){f:Addr}{fd:FuncData}(F:Fun K "free_pits" "free_pits" ZpA f fd):J1 P w K mg base CX0 1 f fd ["board", "barred"] (spF K 2 .F W0 ZoE.fn):=by
 refine F.okP ZpN rfl rfl (fun cdv A outer s H E hr=>?_)
 have hu:=hr.units
 refine⟨_,_,⟨[],[],[],.F⟩,rfl,(Zg (Zy (VF (Jg rfl T.z_range (Za (Zr (Z6 (K:=K)) rfl T.z_len Jf (Za (pv 0) Ze)) Ze)) (VZ ZpN.nd) (fun _ _ _ _=>(Zd0 (fun _ _ h=>h) (Z4 (QB (K:=K) hu) (pv 2) (pv 1) rfl))) (fun _ _ _ _=>(pv 2)) hv1 ZpN.nd rfl))),
   (ZV (Vq (k:=1) (DI.c (JN (Zb (DE.toA (Jh (Zb (Zk (i:=0) rfl) Zd))) Zd))) ZkB (Z0 (DE.toA (ZbX (g:=(!·)) (Zk (i:=2) rfl) (Zk (i:=1) rfl)))) (DE.PF (DE.grd (Zk (i:=2) rfl))))), ?_⟩
 refine Pm.ref ZoE (g:=fun xs=>_) ?_
 rintro⟨b,l⟩ (hb:b.length<=1000)
 simp only[ZoE]
 walk_at "pd"
 rw[ZhT (p:=fun i=>decide ((i:Int) ∉ l)) (g:=fun(i:Nat)=>.int (i:Int)) (fun i hi=>by
  rw[Zum]
  walk_at "pd"
  rw[JK]
  walk_at "pd"
  by_cases e:(i:Int)∈l
  ·rw[decide_eq_true e,decide_eq_false (fun z=>z e)]
   walk_at "pd"
  ·rw[decide_eq_false e,decide_eq_true e]
   walk_at "pd")]
 walk_at "pd"
 unfold Zj
 rw[Zt2,Zt4];rfl
theorem ZpF{b l:List Int}(h:b.length<=1000):ZoE.fn [.lst (b.map PV.int),.lst (l.map PV.int)]=.ok (.lst ((Zj b.length l).map PV.int)):=Pm.fn_eq ZoE (b,l) h fun(a:List Int×List Int) e=>by simp only[ZoE] at e ⊢;walk_at "in"
noncomputable def Zoo:Pm:=⟨List Int×List Int×Int,fun a=>[.lst (a.1.map PV.int),.lst (a.2.1.map PV.int),.int a.2.2],fun a=>a.1.length<=24/\(0<=a.2.2/\a.2.2<a.1.length)/\a.2.2 ∉ a.2.1/\∃q∈a.2.1,0<=q/\q<a.1.length,fun a=>.ok (.int (Zag a.1.length a.2.1 a.2.2))⟩
theorem Zq7(T:Txt K mg){f:Addr}{fd:FuncData}(F:Fun K "steps_to_bar" "steps_to_bar" ZoU f fd):J1 P w K mg base CX0 1 f fd ["board", "barred", "pit"] (spF K 3 .P W0 Zoo.fn):=by
 refine F.okP Zpn rfl rfl (fun cdv A outer s H E hr=>?_)
 have hu:=hr.units
 refine⟨_,_,⟨[],[],[],.P⟩,rfl,(Zc (Z2 (i:=3) Zpn.nd rfl (by walk_at "lo") Zi)
   (Zc (Qk PassesOwn.never (Z4 (QB (K:=K) hu) (Zz Jd (Zz ZT (pv 2) (pv 3)) (Zr (Z6 (K:=K)) rfl T.z_len Jf (Za (pv 0) Ze))) (pv 1) rfl) (Zg (ZiC (i:=3) Zpn.nd rfl (by walk_at "lo") Zi QK)))
   (Zg (Zy (pv 3))))),
   (Zm (Γm:=[.S,.S,.S,.P]) (ZO (i:=3) Zh (by decide))
   (Zm (Γm:=[.S,.S,.S,.P]) (Qr (Γ:=[.S,.S,.S,.P]) (Z0 (DE.toA (ZbX (g:=(!·)) (DE.toA (Je (DE.toA (ZU (Zk (i:=2) rfl) (DE.toA (Zn (i:=3) rfl)))) (DE.toA (Jh (Zb (Zk (i:=0) rfl) Zd))))) (Zk (i:=1) rfl))))
   (Zgl (i:=3) rfl (DE.toA Zh)))
   (Z9 (Zn (i:=3) rfl)))), ?_⟩
 refine Pm.ref Zoo (g:=fun xs=>_) ?_
 rintro⟨b,l,p⟩ ⟨hl,⟨p0,p1⟩,hp,hq⟩
 simp only at hl p0 p1 hp hq
 simp only[Zoo]
 have D:=Zbk p0 p1 hp hq
 generalize Zag b.length l p=d at D
 have d1:=D.d1
 have dn:=D.dn
 walk_at "pd"
 generalize hw:Vs _ _ _=W
 obtain⟨ρ',rfl,rfl⟩:=VW hw (d-1) (fun i ρ=>ρ=[.lst (b.map PV.int),.lst (l.map PV.int),.int p,.int ((i:Int)+1)]) rfl (by
  rintro i ρ hi rfl
  have m:=D.min (i+1) (by omega) (by omega)
  constructor
  ·walk_at "pd"
   rw[JK]
   walk_at "pd"
   rw[show p+((i:Int)+1)=p+((i+1:Nat):Int) by omega,decide_eq_false m]
   walk_at "pd"
  ·walk_at "pd"
   exact Jw (by simp)) (by
  rintro ρ rfl
  walk_at "pd"
  rw[JK]
  walk_at "pd"
  rw[show p+(((d-1:Nat):Int)+1)=p+(d:Int) by omega,decide_eq_true D.at_]
  walk_at "pd")
 walk_at "pd"
 rw[show ((d-1:Nat):Int)+1=(d:Int) by omega]
theorem Zrb{b l:List Int}{p:Int}(h:b.length<=24/\(0<=p/\p<b.length)/\p ∉ l/\∃q∈l,0<=q/\q<b.length):Zoo.fn [.lst (b.map PV.int),.lst (l.map PV.int),.int p]=.ok (.int (Zag b.length l p)):=Pm.fn_eq Zoo (b,l,p) h fun(a:List Int×List Int×Int) e=>by simp only[Zoo] at e ⊢;walk_at "in"
noncomputable def bQ(t:Bool)(ns:List Int):PV:=if t=true then .tup (ns.map PV.int) else .lst (ns.map PV.int)
theorem ZjD{t:Bool}{ns:List Int}:ZeB [bQ t ns]=.ok (.int ns.length):=by
 cases t
 ·exact ZbG ns
 ·exact Zat
theorem Zf3{t:Bool}{ns:List Int}{k:Int}(h0:0<=k)(h1:k<ns.length):pIx (bQ t ns) (.int k)=.ok (.int (ns.getD k.toNat 0)):=by
 cases t
 ·exact Qm h0 h1
 ·exact Uv h0 h1
theorem Zkv{t:Bool}{ns:List Int}:ZnD (bQ t ns)=.ok (ns.map PV.int):=by
 cases t<;>rfl
theorem ZiZ{t t':Bool}{ns ns':List Int}(h:bQ t ns=bQ t' ns'):ns=ns':=by
 cases t<;>cases t'<;>simp only[bQ,Bool.false_eq_true,if_true,if_false,PV.tup.injEq,PV.lst.injEq,reduceCtorEq] at h
 ·exact ZJ h
 ·exact ZJ h
noncomputable def Zpl:Pm:=⟨Bool×List Int×Int,fun a=>[bQ a.1 a.2.1,.int a.2.2],fun a=>0<=a.2.2/\a.2.2<a.2.1.length/\a.2.1.length<=1000,fun a=>.ok (Zj9 (Zk5 a.2))⟩
theorem Zs3(T:Txt K mg){f:Addr}{fd:FuncData}(F:Fun K "sow_pit" "sow_pit" Zqi f fd):J1 P w K mg base CX0 1 f fd ["board", "pit"] (spF K 2 .F W0 Zpl.fn):=by
 refine F.okP ZoA rfl rfl (fun cdv A outer s H E hr=>?_)
 have hu:=hr.units
 refine⟨_,_,⟨[],[],[],.F⟩,rfl,(Zc (Z2 (i:=2) ZoA.nd rfl (by walk_at "lo") (Zr (Z6 (K:=K)) rfl T.z_len Jf (Za (pv 0) Ze)))
   (Zc (Z2 (i:=3) ZoA.nd rfl (by walk_at "lo") (Zz Jm (ZK (Zs (K:=K)) (pv 0) (pv 1) (fun _ _=>rfl)) (pv 2)))
   (Zc (Z2 (i:=4) ZoA.nd rfl (by walk_at "lo") (Zz Jd (ZK (Zs (K:=K)) (pv 0) (pv 1) (fun _ _=>rfl)) (pv 2)))
   (Zc (Q5 (i:=5) ZoA.nd rfl (Zj2 (K:=K) (pv 0)) (fun _ _ _ _=>(Zz ZT (pv 8) (pv 3))) rfl)
   (Zc (Zfq (pv 3) (Zfw (pv 5) (pv 1) JV))
   (Zc (Z2 (i:=6) ZoA.nd rfl (by walk_at "lo") (pv 1))
   (Zc (J8 PassesOwn.never rfl (Jg rfl T.z_range (Za (pv 4) Ze)) (Jb (i:=7) ZoA.nd rfl (by walk_at "lo")) (Zc (Z2 (i:=6) ZoA.nd rfl (by walk_at "lo") (Zz Jd (Zz ZT (pv 6) Zi) (pv 2)))
   (Zg (Q7 (pv 5) (pv 6) (V7 (K:=K)) Zi QK JV))))
   (Zg (Zy (UR (Za (pv 5) (Za (pv 6) Ze)))))))))))),
   (Zm (Γm:=[.S,.S,.P,.U,.U,.U,.U,.U]) (ZO (i:=2) (Jh (Zb (Zk (i:=0) rfl) Zd)) (by decide))
   (Zm (Γm:=[.S,.S,.P,.P,.U,.U,.U,.U]) (ZO (i:=3) (Vy (Z3 (te:=tC .non) (Zk (i:=0) rfl) (Zk (i:=1) rfl)) (DE.toA (Zn (i:=2) rfl))) (by decide))
   (Zm (Γm:=[.S,.S,.P,.P,.P,.U,.U,.U]) (ZO (i:=4) (Je (Z3 (te:=tC .non) (Zk (i:=0) rfl) (Zk (i:=1) rfl)) (DE.toA (Zn (i:=2) rfl))) (by decide))
   (Zm (Γm:=[.S,.S,.P,.P,.P,.O,.U,.U]) (Ue (i:=5) (Jz (DI.c (Zmc (JP (i:=0) rfl))) (DE.PF (ZU (Zk (i:=8) rfl) (DE.toA (Zn (i:=3) rfl))))) (by decide))
   (Zm (Γm:=[.S,.S,.P,.P,.P,.O,.U,.U]) (QU (i:=5) rfl (Zn (i:=3) rfl) (Zk (i:=1) rfl))
   (Zm (Γm:=[.S,.S,.P,.P,.P,.O,.P,.U]) (ZO (i:=6) (DE.grd (Zk (i:=1) rfl)) (by decide))
   (Zm (Γm:=[.S,.S,.P,.P,.P,.O,.P,.U]) (JA (Γl:=[.S,.S,.P,.P,.P,.O,.P,.U]) (JN (Zb (DE.toA (Zn (i:=4) rfl)) Zd)) rfl (ZcH (i:=7) (by decide))
   (DS.out (Y:=⟨[.S,.S,.P,.P,.P,.O,.P,.P],[.S,.S,.P,.P,.P,.O,.P,.U],[.S,.S,.P,.P,.P,.O,.P,.U],.F⟩) (Y':=⟨[.S,.S,.P,.P,.P,.O,.P,.U],[.S,.S,.P,.P,.P,.O,.P,.U],[.S,.S,.P,.P,.P,.O,.P,.U],.F⟩) (Zm (Γm:=[.S,.S,.P,.P,.P,.O,.P,.P]) (ZO (i:=6) (Je (DE.toA (ZU (DE.toA (Zn (i:=6) rfl)) (DE.toA Zh))) (DE.toA (Zn (i:=2) rfl))) (by decide))
   (U6 (i:=5) rfl rfl (DE.toA (Zn (i:=6) rfl)) (DE.toA Zh))) rfl rfl rfl rfl))
   (ZV (ZcJ (ZY (J7 (i:=5) rfl) (ZY (DE.PF (Zn (i:=6) rfl)) Jr))))))))))), ?_⟩
 refine Pm.ref Zpl (g:=fun xs=>_) ?_
 rintro⟨t,ns,p⟩ ⟨h0,h1,h2⟩
 simp only at h0 h1 h2
 simp only[Zpl]
 walk_at "pd"
 try rw[ZjD]
 walk_at "pd"
 try rw[Zf3 h0 h1]
 walk_at "pd"
 try rw[Zf5 (Zgx 3 (by omega) (by omega))]
 walk_at "pd"
 try rw[Zf3 h0 h1]
 walk_at "pd"
 try rw[Zcy (show (0:Int)<ns.length by omega)]
 walk_at "pd"
 try rw[QO]
 walk_at "pd"
 try rw[Zkv]
 walk_at "pd"
 try rw[QH (by simp;omega)]
 walk_at "pd"
 have hc:Zba (fun x=>ZmW x (.int (ns.getD p.toNat 0/ns.length))) (ns.map PV.int)=.ok ((ns.map fun z=>z+ns.getD p.toNat 0/ns.length).map PV.int):=by
  rw[Zc7 (g:=fun x=>match x with|.int z=>PV.int (z+ns.getD p.toNat 0/ns.length)|_=>.non)]
  ·simp[Function.comp_def]
  ·intro x hx
   obtain⟨z,_,rfl⟩:=Ztm.mp hx
   rfl
 rw[hc]
 walk_at "pd"
 first|rw[Q9 h0 (by simp;omega),ZaM h0 h1]|rw[ZaM h0 h1]
 walk_at "pd"
 have o0:=Ztp (ns.getD p.toNat 0) (show (ns.length:Int)≠0 by omega)
 have o1:=Ztg (ns.getD p.toNat 0) (show (0:Int)<ns.length by omega)
 try rw[Zd4 (by omega)]
 walk_at "pd"
 generalize hs:ns.getD p.toNat 0/ns.length=rounds
 generalize ho:ns.getD p.toNat 0%ns.length=over at o0 o1
 generalize hb:(fun(x:PV) (ρ:List PV)=>_)=body
 obtain⟨ρ',e1,e2⟩:=ZdK (b:=body) (xs:=Zck 0 over.toNat) (ρ:=[bQ t ns,.int p,.int ns.length,.int rounds,.int over,.lst ((tab ns.length (Zb0 ns p 0)).map PV.int),.int p,.non])
  (fun i ρ=>∃v,ρ=[bQ t ns,.int p,.int ns.length,.int rounds,.int over,.lst ((tab ns.length (Zb0 ns p i)).map PV.int),.int ((p+i)%ns.length),v]) ⟨_,by rw[Int.natCast_zero,Int.add_zero,Zt9 h0 h1]⟩ (by
  rintro i x ρ hx ⟨v,rfl⟩
  obtain⟨hi,rfl⟩:=Jy hx
  subst hb
  have m1:=QC h0 h1 (show (0:Int)<=i by omega) (by omega)
  have m2:=QC h0 h1 (show (0:Int)<=(i:Int)+1 by omega) (by omega)
  have e:((p+(i:Int))%ns.length+1)%ns.length=(p+((i:Int)+1))%ns.length:=by
   rw[m1,m2]
   split
   ·rw[show p+(i:Int)+1=p+((i:Int)+1) by omega,m2]
   ·rw[Zt9 (by omega) (by omega)];split<;>omega
  have b:0<=(p+((i:Int)+1))%ns.length/\(p+((i:Int)+1))%ns.length<ns.length:=by rw[m2];split<;>omega
  walk_at "pd"
  try rw[Zcy (by omega)]
  walk_at "pd"
  first|rw[e,Qm b.1 (by rw[Ji];exact b.2)]|rw[e]
  walk_at "pd"
  rw[Qz (by omega)]
  have hst:=Zdl h0 h1 (i:=i) (by omega)
  have hset:=Q9 (ns:=tab ns.length (Zb0 ns p i)) (k:=(p+((i:Int)+1))%ns.length) (y:=Zb0 ns p i ((p+((i:Int)+1))%ns.length).toNat+1) b.1 (by rw[Ji];exact b.2)
  rw[hst] at hset
  rw[hset]
  walk_at "pd"
  exact Jw ⟨_,by rw[show ((i+1:Nat):Int)=(i:Int)+1 by omega]⟩)
 obtain⟨v,rfl⟩:=e2
 rw[e1]
 walk_at "pd"
 rw[ZS,Zt6 o0]
 show Rr.ok (PV.tup _)=Rr.ok (PV.tup _)
 unfold Zk5 Vo Zny
 rw[ho]
theorem Ze9{t:Bool}{ns:List Int}{p:Int}(h:0<=p/\p<ns.length/\ns.length<=1000):Zpl.fn [bQ t ns,.int p]=.ok (Zj9 (Zk5 (ns,p))):=
 Pm.fn_eq Zpl (t,ns,p) h fun⟨t',ns',k'⟩ e=>by
  simp only[Zpl,List.cons.injEq,PV.int.injEq,and_true] at e ⊢
  rw[ZiZ e.1,e.2]
noncomputable def Zou:Pm:=⟨Bool×List Int×List Int,fun a=>[bQ a.1 a.2.1,.lst (a.2.2.map PV.int)],fun a=>(∀p∈a.2.2,0<=p/\p<a.2.1.length)/\a.2.1.length<=1000/\a.2.2.length<=1000,fun a=>.ok (.lst ((Jk a.2.2 a.2.1).map ZaK))⟩
theorem ZiP{i:Int}{b:List Int}:grd (.tup [.int i,ZD b])=.ok (.tup [.int i,ZD b]):=by
 unfold grd
 simp only[PV.flat,PV.flats,J0,Bool.and_self,if_true]
theorem ZpD(T:Txt K mg){f:Addr}{fd:FuncData}(F:Fun K "sowings_of" "sowings_of" Zpu f fd):J1 P w K mg base CX0 2 f fd ["board", "pits"] (spF K 2 .F W0 Zou.fn):=by
 have ZsK:=JT (P:=P) (w:=w) (base:=base) T.ZsI ZsC (fun F=>Zs3 T F)
 refine F.okP Zp5 rfl rfl (fun cdv A outer s H E hr=>?_)
 have hu:=hr.units
 refine⟨_,_,⟨[],[],[],.F⟩,rfl,(Zg (Zy (VF (ZQ (K:=K) (pv 1)) (VZ Zp5.nd) (fun _ _ _ _=>(Zd0 (fun _ _ h=>h) (Z4 Zeo (ZK (Zs (K:=K)) (pv 0) (pv 2) (fun _ _=>rfl)) Zi (ZF _)))) (fun _ _ _ _=>(UR (Za (pv 2) (Za (ZI (ZZ (K:=K)) rfl T.z_tuple Jt (Za (ZK (Zs (K:=K)) (Zp ZsK (hr.mono (by decide)) rfl (Za (pv 0) (Za (pv 2) Ze))) Zi (fun _ _=>rfl)) Ze)) Ze)))) hv1 Zp5.nd rfl))),
   (ZV (Vq (k:=1) (DI.c (Jc (JP (i:=1) rfl))) ZkB (Z0 (DE.toA (Ze6 (Z3 (te:=tC .non) (Zk (i:=0) rfl) (Zk (i:=2) rfl)) (DE.toA Zh)))) (DE.PF (DE.grd (QV (Zb (Zk (i:=2) rfl) (Zb (JD (Zb (Z3 (te:=tC .non) (DE.toA (Zai (Zf (Zf Zw)) (Zb (Zk (i:=0) rfl) (Zb (Zk (i:=2) rfl) Zd)))) (DE.toA Zh)) Zd)) Zd))))))), ?_⟩
 refine Pm.ref Zou (g:=fun xs=>_) ?_
 rintro⟨t,b,Q⟩ ⟨h0,h1,h2⟩
 simp only at h0 h1 h2
 simp only[Zou]
 walk_at "pd"
 rw[Zgf (q:=PV.int) (p:=fun p=>decide (0<b.getD p.toNat 0)) (g:=fun p=>ZaK (p,Vo b p)) (fun p hp=>by
  have hp':=h0 p hp
  walk_at "pd"
  rw[Zf3 (by omega) (by omega)]
  walk_at "pd"
  by_cases c:0<b.getD p.toNat 0
  ·rw[decide_eq_true c]
   walk_at "pd"
   rw[Ze9 ⟨by omega,by omega,h1⟩]
   simp only[Zj9,Zk5]
   walk_at "pd"
   rw[show Uu [PV.lst ((Vo b p).map PV.int)]=.ok (ZD (Vo b p)) from rfl]
   walk_at "pd"
   rw[ZiP]
   walk_at "pd"
   rfl
  ·rw[decide_eq_false c]
   walk_at "pd")]
 walk_at "pd"
 unfold Jk
 rw[Zt2];rfl
theorem UB{t:Bool}{b Q:List Int}(h:(∀p∈Q,0<=p/\p<b.length)/\b.length<=1000/\Q.length<=1000):Zou.fn [bQ t b,.lst (Q.map PV.int)]=.ok (.lst ((Jk Q b).map ZaK)):=Pm.fn_eq Zou (t,b,Q) h (fun⟨t',b',Q'⟩ e=>by
 simp only[Zou,List.cons.injEq,PV.lst.injEq,and_true] at e ⊢
 rw[ZiZ e.1,ZJ e.2])
theorem Zqw{b Q:List Int}(h:(∀p∈Q,0<=p/\p<b.length)/\b.length<=1000/\Q.length<=1000):Zou.fn [ZD b,.lst (Q.map PV.int)]=.ok (.lst ((Jk Q b).map ZaK)):=UB (t:=true) h
theorem ZlN{b:List Int}{i:Int}:grd (.tup [ZD b,.int i])=.ok (.tup [ZD b,.int i]):=by
 unfold grd
 simp only[PV.flat,PV.flats,J0,Bool.and_self,if_true]
theorem JC{t:List Int}:grd (ZD t)=.ok (ZD t):=QO
theorem ZeU:∀{a b:List (List Int)},a.map tI=b.map tI->a=b
 |[],[],_=>rfl
 |[],y::b,h=>by simp at h
 |x::a,[],h=>by simp at h
 |x::a,y::b,h=>by
  simp only[Zte,List.cons.injEq] at h
  rw[Zdi h.1,ZeU h.2]
theorem Vu{x:List Int}{bs:List (List Int)}:tI x∈bs.map tI ↔ x∈bs:=by
 constructor
 ·intro h
  obtain⟨y,hy,e⟩:=Ztm.mp h
  rw[<- Zdi e];exact hy
 ·exact fun h=>Zvc h
structure NlP(lv:List (List Int))(Q:List Int)(bs:List (List Int))(vs:List PV):Prop where
 hl:∀x∈lv,(∀p∈Q,0<=p/\p<x.length)/\x.length<=1000
 hq:Q.length<=1000
 ln:vs.length=bs.length
 sz:bs.length+lv.length*Q.length<=900000
 fl:PV.flats vs=true
theorem Zdm(Q x:List Int):(Jk Q x).length<=Q.length:=by
 unfold Jk
 rw[ZsV]
 exact ZtH _ _
structure NlI(n:Nat)(st:NB):Prop where
 ln:st.2.2.length=st.2.1.length
 sz:st.2.1.length<=n
 fz:st.1.length<=n
theorem NlI.step{n:Nat}{st:NB}(h:NlI n st)(x:List Int)(y:Int×List Int):NlI (n+1) (stB x st y):=by
 have h1:=h.ln
 have h2:=h.sz
 have h3:=h.fz
 unfold stB
 split
 ·exact⟨h1,by omega,by omega⟩
 ·exact⟨by simp[h1],by simp;omega,by simp;omega⟩
theorem NlI.fold{x:List Int}:∀{L:List (Int×List Int)}{n:Nat}{st:NB},NlI n st->NlI (n+L.length) (L.foldl (stB x) st)
 |[],n,st,h=>h
 |y::L,n,st,h=>by
  have:=NlI.fold (x:=x) (L:=L) (h.step x y)
  rw[Ztw,show n+(L.length+1)=n+1+L.length by omega]
  exact this
theorem NlI.up{n m:Nat}{st:NB}(h:NlI n st)(hm:n<=m):NlI m st:=⟨h.ln,Ztr h.sz hm,Ztr h.fz hm⟩
theorem NlI.lv{Q:List Int}:∀{lv:List (List Int)}{n:Nat}{st:NB},NlI n st->NlI (n+lv.length*Q.length) (lvB Q lv st)
 |[],n,st,h=>by simpa[lvB] using h
 |x::lv,n,st,h=>by
  have h1:NlI (n+Q.length) (bdB Q x st):=(NlI.fold (x:=x) (L:=Jk Q x) h).up (by have:=Zdm Q x;omega)
  have:=NlI.lv (Q:=Q) (lv:=lv) h1
  rw[Ztw,Nat.add_mul,show n+(lv.length*Q.length+1*Q.length)=n+Q.length+lv.length*Q.length by omega]
  exact this
noncomputable def Zo1:Pm:=⟨List (List Int)×List Int×List (List Int)×List PV,fun a=>[.box none (.dt (a.2.2.1.map tI)) a.2.2.2,.lst (a.1.map ZD),.lst (a.2.1.map PV.int)],fun a=>NlP a.1 a.2.1 a.2.2.1 a.2.2.2,fun a=>.ok (.tup [.lst ((lvB a.2.1 a.1 ([],a.2.2)).1.map ZD),.box none (.dt ((lvB a.2.1 a.1 ([],a.2.2)).2.1.map tI)) (lvB a.2.1 a.1 ([],a.2.2)).2.2])⟩
theorem Zrs(T:Txt K mg){f:Addr}{fd:FuncData}(F:Fun K "next_level" "next_level" Zpv f fd):J1 P w K mg base CX0 3 f fd ["level", "pits", "came_from"] (spM K 2 2 Zo1.fnM):=by
 have Zpb:=JT (P:=P) (w:=w) (base:=base) T.ZpP ZpG (fun F=>ZpD T F)
 refine F.okM (n:=2) (j:=2) Zpf rfl rfl (by decide) (fun cdv A outer s H E hr=>?_)
 have hu:=hr.units
 refine⟨_,_,⟨[.S,.S,.O,.U,.U,.U],[],[],.N⟩,rfl,rfl,(Zc (Z2 (i:=3) Zpf.nd rfl (by walk_at "lo") (JJ Ze))
   (Zc (J8 PassesOwn.never rfl (ZQ (K:=K) (pv 0)) (Jb (i:=4) Zpf.nd rfl (by walk_at "lo")) (Zg (J8 PassesOwn.never rfl (ZQ (K:=K) (Zp Zpb (hr.mono (by decide)) rfl (Za (pv 4) (Za (pv 1) Ze)))) (Jb (i:=5) Zpf.nd rfl (by walk_at "lo")) (Zg (Jl (Zdu (Q8 (hu1 hu) (ZK (Zs (K:=K)) (pv 5) Zi (fun _ _=>rfl)) (pv 2))) (Zc (ZaP (hu1 hu) (pv 2) (ZK (Zs (K:=K)) (pv 5) Zi (fun _ _=>rfl)) (UR (Za (pv 4) (Za (ZK (Zs (K:=K)) (pv 5) Zi (fun _ _=>rfl)) Ze))) rfl)
   (Zg (J4 (ZbD PySem.F.plainAttrs_list PySem.F.slot_list_append PySem.F.type_list_append JL (pv 3) (Za (ZK (Zs (K:=K)) (pv 5) Zi (fun _ _=>rfl)) Ze))))) ZA)))))
   (Zg (Zy (pv 3))))),
   (Zm (Γm:=[.S,.S,.O,.O,.U,.U]) (ZH (i:=3) (JQ Jr) (by decide))
   (Zm (Γm:=[.S,.S,.O,.O,.U,.U]) (JA (Γl:=[.S,.S,.O,.O,.U,.U]) (Jc (JP (i:=0) rfl)) rfl (ZcH (i:=4) (by decide))
   (DS.out (Y:=⟨[.S,.S,.O,.O,.P,.U],[.S,.S,.O,.O,.U,.U],[.S,.S,.O,.O,.U,.U],.N⟩) (Y':=⟨[.S,.S,.O,.O,.U,.U],[.S,.S,.O,.O,.U,.U],[.S,.S,.O,.O,.U,.U],.N⟩) (JA (Γl:=[.S,.S,.O,.O,.P,.U]) (Jc (DE.FZ (Zai (Zf (Zf Zw)) (Zb (DE.toA (Zn (i:=4) rfl)) (Zb (Zk (i:=1) rfl) Zd))))) rfl (ZcH (i:=5) (by decide))
   (DS.out (Y:=⟨[.S,.S,.O,.O,.P,.P],[.S,.S,.O,.O,.P,.U],[.S,.S,.O,.O,.P,.U],.N⟩) (Y':=⟨[.S,.S,.O,.O,.P,.U],[.S,.S,.O,.O,.P,.U],[.S,.S,.O,.O,.P,.U],.N⟩) (Jo (ZcF (DE.toA (QW (Z3 (te:=tC .non) (DE.toA (Zn (i:=5) rfl)) (DE.toA Zh)) (Zq (i:=2) (m:=.O) rfl (by decide)))))
   (Zm (Γm:=[.S,.S,.O,.O,.P,.P]) (Qs (i:=2) rfl (DE.PF (DE.grd (QV (Zb (DE.toA (Zn (i:=4) rfl)) (Zb (Z3 (te:=tC .non) (DE.toA (Zn (i:=5) rfl)) (DE.toA Zh)) Zd))))) (Z3 (te:=tC .non) (DE.toA (Zn (i:=5) rfl)) (DE.toA Zh)))
   (UO (i:=3) rfl rfl (DE.PF (DE.grd (Z3 (te:=tC .non) (DE.toA (Zn (i:=5) rfl)) (DE.toA Zh))))))
   ZB) rfl rfl rfl rfl)) rfl rfl rfl rfl))
   (Zkf (j:=2) (J7 (i:=3) rfl) rfl))), ?_⟩
 refine Pm.refM2 Zo1 ?_
 rintro⟨lv,Q,bs,vs⟩ (hp:NlP lv Q bs vs) a b' xs e
 cases e
 simp only[Zo1]
 have hq:=hp.hq
 have hz:=hp.sz
 walk_at "pd"
 simp only[ins,ZmQ]
 walk_at "pd"
 generalize hw:US _ _ _=W
 obtain⟨ρ',rfl,v,w,rfl⟩:=ZL hw (fun i ρ=>∃v w,ρ=[.lst (lv.map ZD),.lst (Q.map PV.int),.box (some a) (.dt ((lvB Q (lv.take i) ([],bs,vs)).2.1.map tI)) (lvB Q (lv.take i) ([],bs,vs)).2.2,.lst ((lvB Q (lv.take i) ([],bs,vs)).1.map ZD),v,w]) ⟨_,_,rfl⟩ (by
  rintro i x ρ hx ⟨v,w,rfl⟩
  rw[ZsZ] at hx
  obtain⟨b,hb,rfl⟩:=ZtM.mp hx
  have hi:i<lv.length:=(ZsU.mp hb).1
  obtain⟨b1,b2⟩:=hp.hl b (ZsW hb)
  have hs:lvB Q (lv.take (i+1)) ([],bs,vs)=(Jk Q b).foldl (stB b) (lvB Q (lv.take i) ([],bs,vs)):=by
   unfold lvB
   rw[Zvg,hb,Zvj];rfl
  rw[hs]
  have I0:NlI (bs.length+(lv.take i).length*Q.length) (lvB Q (lv.take i) ([],bs,vs)):=NlI.lv ⟨hp.ln,ZsX _,ZtB _⟩
  have hsz:bs.length+(lv.take i).length*Q.length+Q.length<=900000:=by
   have h1:(lv.take i).length=i:=by rw[Ztu];omega
   rw[h1]
   have h2:(i+1)*Q.length<=lv.length*Q.length:=Nat.mul_le_mul_right _ hi
   rw[Nat.add_mul] at h2
   omega
  generalize lvB Q (lv.take i) ([],bs,vs)=st0 at I0
  walk_at "pd"
  rw[JC]
  walk_at "pd"
  rw[Zqw ⟨b1,b2,hq⟩]
  walk_at "pd"
  have hsl:=Zdm Q b
  generalize Jk Q b=SL at hsl
  generalize hw2:US _ _ _=W2
  obtain⟨ρ2,rfl,v2,rfl⟩:=ZL hw2 (fun n ρ=>∃v,ρ=[.lst (lv.map ZD),.lst (Q.map PV.int),.box (some a) (.dt (((SL.take n).foldl (stB b) st0).2.1.map tI)) ((SL.take n).foldl (stB b) st0).2.2,.lst (((SL.take n).foldl (stB b) st0).1.map ZD),ZD b,v]) ⟨_,rfl⟩ (by
   rintro n x ρ hx ⟨v,rfl⟩
   rw[ZsZ] at hx
   obtain⟨y,hy,rfl⟩:=ZtM.mp hx
   have hn:n<SL.length:=(ZsU.mp hy).1
   have hs2:(SL.take (n+1)).foldl (stB b) st0=stB b ((SL.take n).foldl (stB b) st0) y:=by
    rw[Zvg,hy,Zvj];rfl
   rw[hs2]
   have I:=NlI.fold (x:=b) (L:=SL.take n) I0
   have htl:(SL.take n).length<=Q.length:=by rw[Ztu];omega
   generalize (SL.take n).foldl (stB b) st0=st at I
   obtain⟨i1,i2,i3⟩:=I
   unfold ZaK
   rw[ZiP]
   walk_at "pd"
   rw[Zd8]
   walk_at "pd"
   unfold stB
   by_cases c:y.2∈st.2.1
   ·obtain⟨z,hz⟩:=Zac (ks:=st.2.1.map tI) (xs:=st.2.2) (by rw[ZsV];omega) (Vu.mpr c)
    rw[hz,if_pos c]
    walk_at "pd"
    exact Jw ⟨_,rfl⟩
   ·rw[UC (fun z=>c (Vu.mp z)),if_neg c]
    walk_at "pd"
    rw[ZlN]
    walk_at "pd"
    rw[ZaT (by simp only[PV.flat,PV.flats,J0,Bool.and_self]) (by omega),Uq (fun z=>c (Vu.mp z)),Uo (fun z=>c (Vu.mp z))]
    walk_at "pd"
    rw[JC]
    walk_at "pd"
    rw[Qn (by rw[ZsV];omega)]
    walk_at "pd"
    refine Jw ⟨.tup [.int y.1,ZD y.2], ?_⟩
    rw[Zt8,Zt8]
    rfl)
  walk_at "pd"
  refine Jw ⟨ZD b,v2, ?_⟩
  rw[ZsV,Zuj])
 walk_at "pd"
 rw[ZsV,Zuj]
 rw[Zha]
 rfl
theorem ZrT{lv:List (List Int)}{Q:List Int}{bs:List (List Int)}{vs:List PV}(h:NlP lv Q bs vs):Zo1.fnM (.box none (.dt (bs.map tI)) vs) [.lst (lv.map ZD),.lst (Q.map PV.int)]=.ok (.tup [.lst ((lvB Q lv ([],bs,vs)).1.map ZD),.box none (.dt ((lvB Q lv ([],bs,vs)).2.1.map tI)) (lvB Q lv ([],bs,vs)).2.2]):=Pm.fn_eq Zo1 (lv,Q,bs,vs) h (fun(a:List (List Int)×List Int×List (List Int)×List PV) e=>by
 have e':a=(lv,Q,bs,vs):=by
  simp only[Zo1,List.cons.injEq,PV.lst.injEq,PV.box.injEq,and_true] at e
  obtain⟨e1,e2,e3⟩:=e
  refine Prod.ext (V1 e2) (Prod.ext (ZJ e3) (Prod.ext (ZeU ?_) e1.2.2))
  have:=e1.2.1
  injection this
 rw[e'])
theorem Zhw{b:List Int}:Zau (ZD b) .non=.ok (.box none (.dt [tI b]) [.non]):=by
 rw[Uj]
 unfold Zau
 simp only[Vk]
noncomputable def ZoC:Pm:=⟨List Int×List Int,fun a=>[.lst (a.1.map PV.int),.lst (a.2.map PV.int)],fun a=>a.1.length<=24/\∃s,Zbz a.1.length s (Zj a.1.length a.2) a.1,fun a=>.ok (.box none (.dt ((Zaq (Zj a.1.length a.2) a.1).map tI)) (wk (Zj a.1.length a.2) a.1 (wkN (Zj a.1.length a.2) a.1)).2.2)⟩
theorem ZrJ(T:Txt K mg){f:Addr}{fd:FuncData}(F:Fun K "walk_from" "walk_from" Zp8 f fd):J1 P w K mg base CX0 4 f fd ["board", "barred"] (spF K 2 .F W0 ZoC.fn):=by
 have Zo8:=JT (P:=P) (w:=w) (base:=base) T.ZpE Zp3 (fun F=>Zp2 T F)
 have Zsc:=JT (P:=P) (w:=w) (base:=base) T.ZrM Zr7 (fun F=>Zrs T F)
 refine F.okP ZoZ rfl rfl (fun cdv A outer s H E hr=>?_)
 have hu:=hr.units
 refine⟨_,_,⟨[],[],[],.F⟩,rfl,(Zc (Z2 (i:=2) ZoZ.nd rfl (by walk_at "lo") (Zp Zo8 (hr.mono (by decide)) rfl (Za (pv 0) (Za (pv 1) Ze))))
   (Zc (Z2 (i:=3) ZoZ.nd rfl (by walk_at "lo") (ZbC (hu1 hu) (ZI (ZZ (K:=K)) rfl T.z_tuple Jt (Za (pv 0) Ze)) Us))
   (Zc (Z2 (i:=4) ZoZ.nd rfl (by walk_at "lo") (JJ (Za (ZI (ZZ (K:=K)) rfl T.z_tuple Jt (Za (pv 0) Ze)) Ze)))
   (Zc (Qk PassesOwn.never (Zj0 (K:=K) (pv 4)) (Zg (Z2 (i:=4) ZoZ.nd rfl (by walk_at "lo") (Zp Zsc (hr.mono (by decide)) rfl (Za (pv 4) (Za (pv 2) (Za (pv 3) Ze)))))))
   (Zg (Zy (pv 3))))))),
   (Zm (Γm:=[.S,.S,.O,.U,.U]) (ZH (i:=2) (Zai (Zf (Zf Zw)) (Zb (Zk (i:=0) rfl) (Zb (Zk (i:=1) rfl) Zd))) (by decide))
   (Zm (Γm:=[.S,.S,.O,.O,.U]) (ZH (i:=3) (ZbY (JD (Zb (Zk (i:=0) rfl) Zd)) Za8) (by decide))
   (Zm (Γm:=[.S,.S,.O,.O,.O]) (ZH (i:=4) (JQ (ZY (DE.PF (DE.grd (JD (Zb (Zk (i:=0) rfl) Zd)))) Jr)) (by decide))
   (Zm (Γm:=[.S,.S,.O,.O,.O]) (Qr (Γ:=[.S,.S,.O,.O,.O]) (ZlV (Zq (i:=4) (m:=.O) rfl (by decide)))
   (ZhW (l:=4) (Zki (i:=3) rfl (Zf (Zf Zw)) (ZdU (ZcI (l:=4) (md:=.O) rfl (by decide)) (ZdU (ZcI (l:=2) (md:=.O) rfl (by decide)) (Zij Zgs)))) (by decide)))
   (ZV (J7 (i:=3) rfl)))))), ?_⟩
 refine Pm.ref ZoC (g:=fun xs=>_) ?_
 rintro⟨b,l⟩ ⟨hl,s,F⟩
 simp only at hl F
 simp only[ZoC]
 walk_at "pd"
 rw[ZpF (by omega)]
 have hpl:=Vl b.length l
 unfold Zaq
 generalize Zj b.length l=Q at F hpl
 walk_at "pd"
 obtain⟨w1,w2,w3⟩:=F.end
 have hT:Uu [PV.lst (b.map PV.int)]=.ok (ZD b):=rfl
 rw[hT]
 walk_at "pd"
 rw[Zhw]
 walk_at "pd"
 rw[hT]
 walk_at "pd"
 rw[JC]
 walk_at "pd"
 generalize hw:Vs _ _ _=W
 obtain⟨ρ',rfl,rfl⟩:=VW hw (wkN Q b) (fun i ρ=>ρ=[.lst (b.map PV.int),.lst (l.map PV.int),.lst (Q.map PV.int),.box none (.dt ((wk Q b i).2.1.map tI)) (wk Q b i).2.2,.lst ((wk Q b i).1.map ZD)]) rfl (by
  rintro i ρ hi rfl
  have W:=Zb3 Q b i
  have hle:=F.le i
  have hsub:(wk Q b i).1.length<=1000:=by
   cases i with
   |zero=>simp[wk]
   |succ i =>
    have:=Ziw Q b i
    rw[this,Ztv] at hle
    omega
  constructor
  ·walk_at "pd"
   obtain⟨y,ys,e⟩:=Zu4 (w3 i hi)
   rw[e];rfl
  ·walk_at "pd"
   rw[Zip (ZrT (lv:=(wk Q b i).1) (Q:=Q) (bs:=(wk Q b i).2.1) (vs:=(wk Q b i).2.2) ⟨fun x hx=>by
    have B:=(W.re x (W.sub x hx)).bs F.hP F.hb
    exact⟨fun p hp=>by have:=F.hP p hp;have:=B.1;omega,by have:=B.1;omega⟩,by omega,W.ln,by
    have:(wk Q b i).1.length*Q.length<=1000*24:=Nat.mul_le_mul hsub (by omega)
    omega,W.fl⟩)]
   walk_at "pd"
   exact Jw rfl) (by
  rintro ρ rfl
  rw[w2]
  walk_at "pd"
  rfl)
 walk_at "pd"
theorem Zss{b l:List Int}(h:b.length<=24/\∃s,Zbz b.length s (Zj b.length l) b):ZoC.fn [.lst (b.map PV.int),.lst (l.map PV.int)]=.ok (.box none (.dt ((Zaq (Zj b.length l) b).map tI)) (wk (Zj b.length l) b (wkN (Zj b.length l) b)).2.2):=Pm.fn_eq ZoC (b,l) h fun(a:List Int×List Int) e=>by simp only[ZoC] at e ⊢;walk_at "in"
noncomputable def Zon:Pm:=⟨Bool×List Int×List Int,fun a=>[if a.1=true then ZD a.2.1 else .lst (a.2.1.map PV.int),.lst (a.2.2.map PV.int)],fun a=>(∀p∈a.2.2,0<=p/\p<a.2.1.length)/\a.2.2.length<=1000,fun a=>.ok (.int ((a.2.2.map fun p=>a.2.1.getD p.toNat 0).sum))⟩
theorem Zru(T:Txt K mg){f:Addr}{fd:FuncData}(F:Fun K "free_seeds" "free_seeds" Zpx f fd):J1 P w K mg base CX0 1 f fd ["board", "pits"] (spF K 2 .P W0 Zon.fn):=by
 refine F.okP Zqg rfl rfl (fun cdv A outer s H E hr=>?_)
 have hu:=hr.units
 refine⟨_,_,⟨[],[],[],.P⟩,rfl,(Zg (Zy (Zr (UA (K:=K) rfl) rfl T.z_sum ZdY (Za (JW (ZQ (K:=K) (pv 1)) (fun _ _ _ _=>(ZK (Zs (K:=K)) (pv 0) (pv 2) (fun _ _=>rfl))) Zqg.nd rfl) Ze)))),
   (Z9 (ZdN (Zb (DE.toA (Jz (DI.c (Jc (JP (i:=1) rfl))) (DE.PF (DE.grd (Z3 (te:=tC .non) (Zk (i:=0) rfl) (Zk (i:=2) rfl)))))) Zd))), ?_⟩
 refine Pm.ref Zon (g:=fun xs=>_) ?_
 rintro⟨t,b,Q⟩ ⟨h0,h1⟩
 simp only at h0 h1
 simp only[Zon]
 cases t with
 |false =>
  rw[if_neg (by simp)]
  walk_at "pd"
  rw[ZaZ (g:=fun p=>b.getD p.toNat 0) (fun p hp=>by
   have:=h0 p hp
   walk_at "pd")]
  walk_at "pd"
 |true =>
  rw[if_pos rfl]
  walk_at "pd"
  rw[ZaZ (g:=fun p=>b.getD p.toNat 0) (fun p hp=>by
   have:=h0 p hp
   unfold ZD
   walk_at "pd"
   rw[Uv (by omega) (by omega)]
   walk_at "pd")]
  walk_at "pd"
theorem Zbt{t:Bool}{b Q:List Int}(h:(∀p∈Q,0<=p/\p<b.length)/\Q.length<=1000):Zon.fn (Zon.enc (t,b,Q))=.ok (.int ((Q.map fun p=>b.getD p.toNat 0).sum)):=Pm.fn_eq Zon (t,b,Q) h (fun(a:Bool×List Int×List Int) e=>by
 obtain⟨t',b',Q'⟩:=a
 simp only[Zon,List.cons.injEq,PV.lst.injEq,and_true] at e
 have e2:=ZJ e.2
 have e1:b'=b:=by
  have e1:=e.1
  unfold ZD at e1
  cases t<;>cases t'<;>simp at e1<;>exact ZJ e1
 show Rr.ok (PV.int ((Q'.map fun p=>b'.getD p.toNat 0).sum))=_
 rw[e1,e2];rfl)
theorem Zbu{b Q:List Int}(h:(∀p∈Q,0<=p/\p<b.length)/\Q.length<=1000):Zon.fn [ZD b,.lst (Q.map PV.int)]=.ok (.int ((Q.map fun p=>b.getD p.toNat 0).sum)):=Zbt (t:=true) h
noncomputable def Zoc:Pm:=⟨List Int×List Int×List Int,fun a=>[ZD a.1,.lst (a.2.1.map PV.int),.lst (a.2.2.map PV.int)],fun a=>(∀p∈a.2.1,0<=p/\p<a.1.length)/\a.2.1.length<=1000/\a.2.2.length=a.2.1.length/\(∀x∈a.1,0<=x/\x<=10^60)/\(∀x∈a.2.2,0<=x/\x<=100),
 fun a=>.ok (ZD [(a.2.1.map fun p=>a.1.getD p.toNat 0).sum,((List.range a.2.1.length).map fun i=>a.1.getD (a.2.1.getD i 0).toNat 0*a.2.2.getD i 0).sum])⟩
theorem Zqj(T:Txt K mg){f:Addr}{fd:FuncData}(F:Fun K "seeds_and_steps" "seeds_and_steps" Zo0 f fd):J1 P w K mg base CX0 2 f fd ["board", "pits", "steps"] (spF K 3 .P W0 Zoc.fn):=by
 have Zse:=JT (P:=P) (w:=w) (base:=base) T.ZrO Zr9 (fun F=>Zru T F)
 refine F.okP ZoG rfl rfl (fun cdv A outer s H E hr=>?_)
 have hu:=hr.units
 refine⟨_,_,⟨[],[],[],.P⟩,rfl,(Zg (Zy (UR (Za (Zp Zse (hr.mono (by decide)) rfl (Za (pv 0) (Za (pv 1) Ze))) (Za (Zr (UA (K:=K) rfl) rfl T.z_sum ZdY (Za (VF (Zhh (K:=K) rfl T.z_enumerate (Za (pv 1) Ze)) (Zhl (K:=K) ZoG.nd rfl) (fun _ _ _ _=>Zd1) (fun _ _ _ _=>(Zz J5 (ZK (Zs (K:=K)) (pv 0) (pv 4) (fun _ _=>rfl)) (ZK (Zs (K:=K)) (pv 2) (pv 3) (fun _ _=>rfl)))) hv2 ZoG.nd rfl) Ze)) Ze))))),
   (Z9 (DE.grd (QV (Zb (DE.toA (QX (Zf (Zf Zw)) (Zb (Zk (i:=0) rfl) (Zb (Zk (i:=1) rfl) Zd)))) (Zb (DE.toA (ZdN (Zb (DE.toA (Vq (k:=2) (DI.c (Zkk (Zih (JP (i:=1) rfl) Zko))) ZnS Zgh (DE.PF (Vx (Z3 (te:=tC .non) (Zk (i:=0) rfl) (Zk (i:=4) rfl)) (Z3 (te:=tC .non) (Zk (i:=2) rfl) (Zk (i:=3) rfl)))))) Zd))) Zd))))), ?_⟩
 refine Pm.ref Zoc (g:=fun xs=>_) ?_
 rintro⟨b,Q,S⟩ ⟨h0,h1,h2,h3,h4⟩
 simp only at h0 h1 h2 h3 h4
 simp only[Zoc]
 walk_at "pd"
 rw[Zbu ⟨h0,by omega⟩]
 walk_at "pd"
 rw[QH (by rw[ZcE];simp;omega)]
 walk_at "pd"
 rw[Zgg (g:=fun(i:Nat)=>PV.int (b.getD (Q.getD i 0).toNat 0*S.getD i 0)) (fun i hi=>by
  have hq:=h0 (Q.getD i 0) (V8 hi)
  have e1:=h3 _ (V8 (x:=(Q.getD i 0).toNat) (by omega:(Q.getD i 0).toNat<b.length))
  have e2:=h4 _ (V8 (by omega:i<S.length))
  unfold ZD
  walk_at "pd"
  rw[Uv (by omega) (by omega)]
  walk_at "pd"
  rw[Zcx ⟨ZtX (show (b.getD (Q.getD i 0).toNat 0).natAbs<=10^61 by omega) ZiY,ZtX (show (S.getD (i:Int).toNat 0).natAbs<=10^61 by rw[Zt4];omega) ZiY⟩,Zt4]
  walk_at "pd")]
 walk_at "pd"
 rw[show (List.range Q.length).map (fun(i:Nat)=>PV.int (b.getD (Q.getD i 0).toNat 0*S.getD i 0))=((List.range Q.length).map fun(i:Nat)=>b.getD (Q.getD i 0).toNat 0*S.getD i 0).map PV.int by rw[Zt2];rfl]
 walk_at "pd"
 rfl
theorem Zqr{b Q S:List Int}(h:(∀p∈Q,0<=p/\p<b.length)/\Q.length<=1000/\S.length=Q.length/\(∀x∈b,0<=x/\x<=10^60)/\(∀x∈S,0<=x/\x<=100)):Zoc.fn [ZD b,.lst (Q.map PV.int),.lst (S.map PV.int)]=.ok (ZD [(Q.map fun p=>b.getD p.toNat 0).sum,((List.range Q.length).map fun i=>b.getD (Q.getD i 0).toNat 0*S.getD i 0).sum]):=Pm.fn_eq Zoc (b,Q,S) h (fun(a:List Int×List Int×List Int) e=>by
 have e':a=(b,Q,S):=by
  simp only[Zoc,ZD,List.cons.injEq,PV.tup.injEq,PV.lst.injEq,and_true] at e
  exact Prod.ext (ZJ e.1) (Prod.ext (ZJ e.2.1) (ZJ e.2.2))
 rw[e'])
noncomputable def Zo2:Pm:=⟨List Int×List Int,fun a=>[.lst (a.1.map PV.int),.lst (a.2.map PV.int)],fun a=>a.1.length<=24/\∃s,s<=10^60/\UW a.1.length s a.2 a.1,fun a=>.ok (.lst ((enF a.1.length a.2 a.1).map ZD))⟩
theorem Zrv(T:Txt K mg){f:Addr}{fd:FuncData}(F:Fun K "ends_first" "ends_first" Zpa f fd):J1 P w K mg base CX0 6 f fd ["board", "barred"] (spF K 2 .F W0 Zo2.fn):=by
 have Zo8:=JT (P:=P) (w:=w) (base:=base) T.ZpE Zp3 (fun F=>Zp2 T F)
 have Zrk:=JT (P:=P) (w:=w) (base:=base) T.ZqW ZqJ (fun F=>Zq7 T F)
 have Zs0:=JT (P:=P) (w:=w) (base:=base) T.Zsp ZrZ (fun F=>ZrJ T F)
 have Zqs:=JT (P:=P) (w:=w) (base:=base) T.Zqq Zqn (fun F=>Zqj T F)
 refine F.okL Zpg rfl rfl (fun cdv A outer s H E hcd hr=>?_)
 obtain⟨c0,P0,hT0,rfl⟩:=ZfP T.l_lam hcd
 have hu:=hr.units
 refine⟨_,_,⟨[],[],[],.F⟩,rfl,(Zc (Z2 (i:=2) Zpg.nd rfl (by walk_at "lo") (Zp Zo8 (hr.mono (by decide)) rfl (Za (pv 0) (Za (pv 1) Ze))))
   (Zc (Z2 (i:=3) Zpg.nd rfl (by walk_at "lo") (JW (ZQ (K:=K) (pv 2)) (fun _ _ _ _=>(Zp Zrk (hr.mono (by decide)) rfl (Za (pv 0) (Za (pv 1) (Za (pv 4) Ze))))) Zpg.nd rfl))
   (Zg (Zy (Zei (K:=K) (x := "found") (FN:=["pits", "steps"]) (js:=[2,3]) (k:=3) rfl T.z_sorted Zab (Za (ZI (ZaB rfl) rfl T.z_list JR (Za (Zp Zs0 (hr.mono (by decide)) rfl (Za (pv 0) (Za (pv 1) Ze))) Ze)) Ze) hT0 rfl rfl (ZcU.of (N:=["board", "barred", "pits", "steps"]) (sc:=Zl Zpa) (by decide +kernel)) (hr.mono (by decide)) (fun f c s H=>Zp Zqs (hr.lam (by decide)) rfl (Za (pv 0) (Za (pv 1) (Za (pv 2) Ze))))))))),
   (Zm (Γm:=[.S,.S,.O,.U]) (ZH (i:=2) (Zai (Zf (Zf Zw)) (Zb (Zk (i:=0) rfl) (Zb (Zk (i:=1) rfl) Zd))) (by decide))
   (Zm (Γm:=[.S,.S,.O,.O]) (ZH (i:=3) (Jz (ZhZ (Zq (i:=2) (m:=.O) rfl (by decide))) (DE.PF (QX (Zf (Zf (Zf Zw))) (Zb (Zk (i:=0) rfl) (Zb (Zk (i:=1) rfl) (Zb (Zk (i:=4) rfl) Zd)))))) (by decide))
   (ZV (Ze5 (m:=Zoc.fn) (ja:=2) (jb:=3) (Zb (DE.toA (ZdQ (Zb (DE.toA (Zai (Zf (Zf Zw)) (Zb (Zk (i:=0) rfl) (Zb (Zk (i:=1) rfl) Zd)))) Zd))) Zd) rfl (by decide) rfl (by decide))))), ?_⟩
 refine Pm.ref Zo2 (g:=fun xs=>_) ?_
 rintro⟨b,l⟩ ⟨hl,s,hs,F⟩
 simp only at hl F
 simp only[Zo2]
 walk_at "pd"
 rw[ZpF (by omega)]
 have hpl:=Vl b.length l
 walk_at "pd"
 rw[ZaZ (g:=fun p=>(Zag b.length l p:Int)) (fun p hp=>by
  obtain⟨q1,q2⟩:=VA.mp hp
  walk_at "pd"
  rw[Zrb ⟨hl,q1,q2,F.bar⟩]
  walk_at "pd")]
 walk_at "pd"
 rw[Zss ⟨hl,_,F.f⟩]
 have W:=Zb3 (Zj b.length l) b (wkN (Zj b.length l) b)
 have hle:=F.f.le (wkN (Zj b.length l) b)
 walk_at "pd"
 rw[show List.map tI (Zaq (Zj b.length l) b)=(Zaq (Zj b.length l) b).map (fun b=>b.map Sum.inl) from rfl,ZbF (bs:=Zaq (Zj b.length l) b) W.ln (by unfold Zaq;omega)]
 walk_at "pd"
 have hk:∀x∈Zaq (Zj b.length l) b,Zoc.fn [ZD x,.lst ((Zj b.length l).map PV.int),.lst (((Zj b.length l).map fun p=>(Zag b.length l p:Int)).map PV.int)]=.ok (ZD (ZgK b.length l x)):=fun x hx=>by
  have B:=(F.f.mem.mp hx).bs F.f.hP F.f.hb
  rw[Zqr ⟨fun p hp=>by have:=F.f.hP p hp;have:=B.1;omega,by omega,by simp,fun y hy=>⟨B.2.1 y hy,by have:=ZbM B.2.1 hy;have:=B.2.2;omega⟩,fun y hy=>by
   obtain⟨p,hp,rfl⟩:=Ztm.mp hy
   obtain⟨q1,q2⟩:=VA.mp hp
   have:=(Zbk q1.1 q1.2 q2 F.bar).dn
   omega⟩]
  have hB:((List.range (Zj b.length l).length).map fun i=>x.getD ((Zj b.length l).getD i 0).toNat 0*((Zj b.length l).map fun p=>(Zag b.length l p:Int)).getD i 0)=((Zj b.length l).map fun p=>x.getD p.toNat 0*(Zag b.length l p:Int)):=by
   have:=congrArg (List.map fun p=>x.getD p.toNat 0*(Zag b.length l p:Int)) (JZ (Zj b.length l) 0)
   rw[<- this,Zt2]
   refine ZtK fun i hi=>?_
   have hi:=Zty.mp hi
   simp only[Function.comp]
   congr 1
   rw[ZsS,ZsZ,ZsT hi,ZsS,ZsT hi]
   rfl
  rw[hB]
  rfl
 rw[Zcw ⟨ZaO _ _,by unfold Zaq;omega,fun x hx=>⟨_,_,hk x hx⟩⟩]
 have hkz:(Zaq (Zj b.length l) b).map (ZgJ Zoc.fn (.lst ((Zj b.length l).map PV.int)) (.lst (((Zj b.length l).map fun p=>(Zag b.length l p:Int)).map PV.int)))=(Zaq (Zj b.length l) b).map (ZgK b.length l):=ZtK fun x hx=>by
  unfold ZgJ
  rw[hk x hx]
  rfl
 rw[hkz]
 have hfin:((stK ((Zaq (Zj b.length l) b).map (ZgK b.length l))).map fun i=>ZD ((Zaq (Zj b.length l) b).getD i []))=(enF b.length l b).map ZD:=by unfold enF;rw[Zt2];rfl
 rw[hfin,ZfE J0 (by have:=F.len;omega)]
 walk_at "pd"
theorem ZrV{b l:List Int}(h:b.length<=24/\∃s,s<=10^60/\UW b.length s l b):Zo2.fn [.lst (b.map PV.int),.lst (l.map PV.int)]=.ok (.lst ((enF b.length l b).map ZD)):=Pm.fn_eq Zo2 (b,l) h fun(a:List Int×List Int) e=>by simp only[Zo2] at e ⊢;walk_at "in"
noncomputable def Zoj:Pm:=⟨List Int,fun L=>[.lst (L.map PV.int)],fun L=>L.length<=1000,fun L=>.ok (.int (ZfF L:Nat))⟩
theorem Zq1(T:Txt K mg){f:Addr}{fd:FuncData}(F:Fun K "least_missing" "least_missing" ZoJ f fd):J1 P w K mg base CX0 1 f fd ["numbers"] (spF K 1 .P W0 Zoj.fn):=by
 refine F.okP Zpc rfl rfl (fun cdv A outer s H E hr=>?_)
 have hu:=hr.units
 refine⟨_,_,⟨[],[],[],.P⟩,rfl,(Zc (Z2 (i:=1) Zpc.nd rfl (by walk_at "lo") Zi)
   (Zc (Qk PassesOwn.never (Z4 (ZiH (K:=K) hu) (pv 1) (pv 0) rfl) (Zg (ZiC (i:=1) Zpc.nd rfl (by walk_at "lo") Zi QK)))
   (Zg (Zy (pv 1))))),
   (Zm (Γm:=[.S,.P]) (ZO (i:=1) Zh (by decide))
   (Zm (Γm:=[.S,.P]) (Qr (Γ:=[.S,.P]) (Z0 (DE.toA (ZbX (g:=id) (DE.toA (Zn (i:=1) rfl)) (Zk (i:=0) rfl))))
   (Zgl (i:=1) rfl (DE.toA Zh)))
   (Z9 (Zn (i:=1) rfl)))), ?_⟩
 refine Pm.ref Zoj (g:=fun xs=>_) ?_
 intro (L:List Int) (hL:L.length<=1000)
 simp only[Zoj]
 obtain⟨m1,m2,m3⟩:=Zc3 L
 generalize ZfF L=m at m1 m2 m3
 walk_at "pd"
 generalize hw:Vs _ _ _=W
 obtain⟨ρ',rfl,rfl⟩:=VW hw m (fun i ρ=>ρ=[.lst (L.map PV.int),.int (i:Nat)]) rfl (by
  rintro i ρ hi rfl
  constructor
  ·walk_at "pd"
   rw[JK,decide_eq_true (m3 i hi)]
   walk_at "pd"
  ·walk_at "pd"
   exact Jw rfl) (by
  rintro ρ rfl
  walk_at "pd"
  rw[JK,decide_eq_false m1]
  walk_at "pd")
 walk_at "pd"
theorem ZqH{L:List Int}(h:L.length<=1000):Zoj.fn [.lst (L.map PV.int)]=.ok (.int (ZfF L:Nat)):=Pm.fn_eq Zoj L h fun(a:List Int) e=>by simp only[Zoj] at e ⊢;walk_at "in"
noncomputable def Zow:Pm:=⟨List Int×List Int,fun a=>[.lst (a.1.map PV.int),.lst (a.2.map PV.int)],fun a=>a.1.length<=24/\∃s,s<=10^60/\UW a.1.length s a.2 a.1,fun a=>.ok (.box none (.dt ((enF a.1.length a.2 a.1).map tI)) ((enF a.1.length a.2 a.1).map fun x=>.int (wtB (Zj a.1.length a.2) x)))⟩
theorem ZqS(T:Txt K mg){f:Addr}{fd:FuncData}(F:Fun K "worths_from" "worths_from" Zph f fd):J1 P w K mg base CX0 7 f fd ["board", "barred"] (spF K 2 .F W0 Zow.fn):=by
 have Zo8:=JT (P:=P) (w:=w) (base:=base) T.ZpE Zp3 (fun F=>Zp2 T F)
 have Zsf:=JT (P:=P) (w:=w) (base:=base) T.ZrP ZrA (fun F=>Zrv T F)
 have ZqP:=JT (P:=P) (w:=w) (base:=base) T.ZqD Zq4 (fun F=>Zq1 T F)
 have Zpb:=JT (P:=P) (w:=w) (base:=base) T.ZpP ZpG (fun F=>ZpD T F)
 refine F.okP Zo5 rfl rfl (fun cdv A outer s H E hr=>?_)
 have hu:=hr.units
 refine⟨_,_,⟨[],[],[],.F⟩,rfl,(Zc (Z2 (i:=2) Zo5.nd rfl (by walk_at "lo") (Zp Zo8 (hr.mono (by decide)) rfl (Za (pv 0) (Za (pv 1) Ze))))
   (Zc (Z2 (i:=3) Zo5.nd rfl (by walk_at "lo") Zdz)
   (Zc (J8 PassesOwn.never rfl (ZQ (K:=K) (Zp Zsf (hr.mono (by decide)) rfl (Za (pv 0) (Za (pv 1) Ze)))) (Jb (i:=4) Zo5.nd rfl (by walk_at "lo")) (Zg (ZaP (hu1 hu) (pv 3) (pv 4) (Zp ZqP (hr.mono (by decide)) rfl (Za (JW (ZQ (K:=K) (Zp Zpb (hr.mono (by decide)) rfl (Za (pv 4) (Za (pv 2) Ze)))) (fun _ _ _ _=>(ZaR (hu1 hu) (pv 3) (ZK (Zs (K:=K)) (pv 5) Zi (fun _ _=>rfl)) (fun _ _=>rfl))) Zo5.nd rfl) Ze)) rfl)))
   (Zg (Zy (pv 3)))))),
   (Zm (Γm:=[.S,.S,.O,.U,.U]) (ZH (i:=2) (Zai (Zf (Zf Zw)) (Zb (Zk (i:=0) rfl) (Zb (Zk (i:=1) rfl) Zd))) (by decide))
   (Zm (Γm:=[.S,.S,.O,.O,.U]) (ZH (i:=3) ZdR (by decide))
   (Zm (Γm:=[.S,.S,.O,.O,.U]) (JA (Γl:=[.S,.S,.O,.O,.U]) (Jc (DE.FZ (Zai (Zf (Zf Zw)) (Zb (Zk (i:=0) rfl) (Zb (Zk (i:=1) rfl) Zd))))) rfl (ZcH (i:=4) (by decide))
   (DS.out (Y:=⟨[.S,.S,.O,.O,.P],[.S,.S,.O,.O,.U],[.S,.S,.O,.O,.U],.F⟩) (Y':=⟨[.S,.S,.O,.O,.U],[.S,.S,.O,.O,.U],[.S,.S,.O,.O,.U],.F⟩) (Qs (i:=3) rfl (DE.PF (QX (Zf Zw) (Zb (DE.toA (Jz (DI.c (Jc (DE.FZ (Zai (Zf (Zf Zw)) (Zb (DE.toA (Zn (i:=4) rfl)) (Zb (Zq (i:=2) (m:=.O) rfl (by decide)) Zd)))))) (DE.PF (DE.grd (Zbn (Zq (i:=3) (m:=.O) rfl (by decide)) (Z3 (te:=tC .non) (Zk (i:=5) rfl) (DE.toA Zh))))))) Zd))) (DE.toA (Zn (i:=4) rfl))) rfl rfl rfl rfl))
   (ZV (J7 (i:=3) rfl))))), ?_⟩
 refine Pm.ref Zow (g:=fun xs=>_) ?_
 rintro⟨b,l⟩ ⟨hl,s,hs,F⟩
 simp only at hl F
 simp only[Zow]
 walk_at "pd"
 rw[ZpF (by omega)]
 walk_at "pd"
 rw[ZrV ⟨hl,s,hs,F⟩]
 walk_at "pd"
 have hlen:=F.len
 have nd:=Za5 b.length l b
 have hpl:=Vl b.length l
 generalize hw:US _ _ _=W
 obtain⟨ρ',rfl,v,rfl⟩:=ZL hw (fun i ρ=>∃v,ρ=[.lst (b.map PV.int),.lst (l.map PV.int),.lst ((Zj b.length l).map PV.int),.box none (.dt (((enF b.length l b).take i).map tI)) (((enF b.length l b).take i).map fun x=>.int (wtB (Zj b.length l) x)),v]) ⟨_,rfl⟩ (by
  rintro i x ρ hx ⟨v,rfl⟩
  rw[ZsZ] at hx
  cases hy:(enF b.length l b)[i]? with
  |none=>rw[hy] at hx;cases hx
  |some y =>
   rw[hy] at hx
   have hx:x=ZD y:=by simpa using hx.symm
   subst hx
   have hi:=(ZsU.mp hy).1
   have ry:=F.mem.mp (ZsW hy)
   have B:=ry.bs F.f.hP F.f.hb
   rw[JC]
   walk_at "pd"
   rw[Zqw ⟨fun p hp=>by have:=F.f.hP p hp;have:=B.1;omega,by have:=B.1;omega,by omega⟩]
   walk_at "pd"
   have hsl:(Jk (Zj b.length l) y).length<=24:=by
    unfold Jk
    rw[ZsV]
    exact Ztr (ZtH _ _) (by omega)
   rw[QH (by rw[ZsV];omega)]
   walk_at "pd"
   rw[ZdH (q:=ZaK) (g:=fun z=>.int (wtB (Zj b.length l) z.2)) (fun z hz=>by
    obtain⟨z1,z2,z3⟩:=Jp.mp hz
    obtain⟨j,hj,ej⟩:=F.ahead hy z1 z2
    rw[<- z3] at ej
    unfold ZaK
    walk_at "pd"
    rw[ZaU (ZdZ (f:=fun x=>PV.int (wtB (Zj b.length l) x)) nd hj ej)]
    walk_at "pd")]
   walk_at "pd"
   rw[show ((Jk (Zj b.length l) y).map fun z=>PV.int (wtB (Zj b.length l) z.2))=((Jk (Zj b.length l) y).map fun z=>wtB (Zj b.length l) z.2).map PV.int by rw[Zt2];rfl,ZqH (by rw[ZsV];omega)]
   walk_at "pd"
   have hv:((ZfF ((Jk (Zj b.length l) y).map fun z=>wtB (Zj b.length l) z.2):Nat):Int)=wtB (Zj b.length l) y:=(F.go ry).wt.symm
   rw[hv,ZaT rfl (by rw[ZsV,Ztu];omega),Uq (Qg nd hy),Uo (Qg nd hy)]
   walk_at "pd"
   exact Jw ⟨_,by rw[Uk (f:=tI) hy,Uk (f:=fun x=>PV.int (wtB (Zj b.length l) x)) hy]⟩)
 walk_at "pd"
 rw[ZsV,Zuj]
theorem Zr3{b l:List Int}(h:b.length<=24/\∃s,s<=10^60/\UW b.length s l b):Zow.fn [.lst (b.map PV.int),.lst (l.map PV.int)]=.ok (.box none (.dt ((enF b.length l b).map tI)) ((enF b.length l b).map fun x=>.int (wtB (Zj b.length l) x))):=Pm.fn_eq Zow (b,l) h fun(a:List Int×List Int) e=>by simp only[Zow] at e ⊢;walk_at "in"
noncomputable def Zoi:Pm:=⟨List (List Int),fun ts=>[.lst (ts.map ZD)],fun ts=>(∀t∈ts,t≠[]/\t.length<=1000)/\ts.length<=100000,fun ts=>.ok (.lst ((ZaL ts).map Vj))⟩
theorem Zq0(T:Txt K mg){f:Addr}{fd:FuncData}(F:Fun K "rising_boards" "rising_boards" ZoI f fd):J1 P w K mg base CX0 1 f fd ["boards"] (spF K 1 .F W0 Zoi.fn):=by
 refine F.okP ZpH rfl rfl (fun cdv A outer s H E hr=>?_)
 have hu:=hr.units
 refine⟨_,_,⟨[],[],[],.F⟩,rfl,(Zg (Zy (JW (ZQ (K:=K) (Zr (QZ (K:=K)) rfl T.z_sorted Zab (Za (pv 0) Ze))) (fun _ _ _ _=>(ZI (Vn (K:=K)) rfl T.z_list JR (Za (pv 1) Ze))) ZpH.nd rfl))),
   (ZV (Jz (DI.c (Jc (DE.FZ (ZdP (Zb (Zk (i:=0) rfl) Zd))))) (U7 (Zb (Zk (i:=1) rfl) Zd)))), ?_⟩
 refine Pm.ref Zoi (g:=fun xs=>_) ?_
 rintro(ts:List (List Int)) ⟨h1,h2⟩
 simp only[Zoi]
 walk_at "pd"
 have hl:(ZaL ts).length=ts.length:=(ZC ts).length_eq
 rw[ZbE ⟨fun t ht=>(h1 t ht).1,by omega⟩,ZfE J0 (by omega)]
 walk_at "pd"
 rw[Zc7 (g:=fun x=>match x with|.tup ys=>.lst ys|_=>.non) (fun x hx=>by
  obtain⟨t,ht,rfl⟩:=Ztm.mp hx
  have:=(h1 t ((ZC ts).mem_iff.mp ht)).2
  unfold ZD
  show Zcz [.tup (t.map PV.int)]=_
  simp only[Zcz]
  rw[V3 (by omega)])]
 walk_at "pd"
 rw[Zt2];rfl
theorem ZqG{ts:List (List Int)}(h:(∀t∈ts,t≠[]/\t.length<=1000)/\ts.length<=100000):Zoi.fn [.lst (ts.map ZD)]=.ok (.lst ((ZaL ts).map Vj)):=Pm.fn_eq Zoi ts h (fun(a:List (List Int)) e=>by
 have e':a=ts:=by
  simp only[Zoi,List.cons.injEq,PV.lst.injEq,and_true] at e
  exact V1 e
 rw[e'])
noncomputable def stW(P x:List Int)(w:Int):Int×List Int:=((Jk P x).filter fun y=>decide (wtB P y.2=w)).headD (0,[])
theorem Zi3{P x:List Int}{w:Int}(h:∃y∈Jk P x,wtB P y.2=w):stW P x w∈Jk P x/\wtB P (stW P x w).2=w/\∃ys,((Jk P x).filter fun y=>decide (wtB P y.2=w))=stW P x w::ys:=by
 obtain⟨y,hy,e⟩:=h
 unfold stW
 have hm:y∈(Jk P x).filter fun y=>decide (wtB P y.2=w):=ZtA.mpr ⟨hy,decide_eq_true e⟩
 cases hf:(Jk P x).filter fun y=>decide (wtB P y.2=w) with
 |nil=>rw[hf] at hm;simp at hm
 |cons z zs =>
  have hz:z∈(Jk P x).filter fun y=>decide (wtB P y.2=w):=by rw[hf];simp
  obtain⟨z1,z2⟩:=ZtA.mp hz
  exact⟨z1,of_decide_eq_true z2,zs,rfl⟩
theorem Zit{n:Nat}{s:Int}{l b:List Int}(F:UW n s l b){k:Nat}(h:(k:Int)<wtB (Zj n l) b):∃y∈Jk (Zj n l) b,wtB (Zj n l) y.2=k:=by
 have e:wtB (Zj n l) b=(ZfF ((Jk (Zj n l) b).map fun y=>wtB (Zj n l) y.2):Nat):=F.wt
 obtain⟨_,_,m3⟩:=Zc3 ((Jk (Zj n l) b).map fun y=>wtB (Zj n l) y.2)
 obtain⟨y,hy,e2⟩:=Ztm.mp (m3 k (by omega))
 exact⟨y,hy,e2⟩
theorem Zbx{E:List (List Int)}{f:List Int->PV}{y:List Int}(nd:E.Nodup)(hy:y∈E):atK (E.map tI) (E.map f) (tI y)=some (f y):=by
 obtain⟨j,hj⟩:=Zt0 hy
 have:=ZdZ (f:=f) nd (ZsU.mp hj).1 hj
 rwa [Zuj] at this
noncomputable def Zop:Pm:=⟨List Int×List Int×Int,fun a=>[.lst (a.1.map PV.int),.lst (a.2.1.map PV.int),.box none (.dt ((enF a.1.length a.2.1 a.1).map tI)) ((enF a.1.length a.2.1 a.1).map fun x=>.int (wtB (Zj a.1.length a.2.1) x)),.int a.2.2],fun a=>a.1.length<=24/\(∃s,UW a.1.length s a.2.1 a.1)/\∃y∈Jk (Zj a.1.length a.2.1) a.1,wtB (Zj a.1.length a.2.1) y.2=a.2.2,fun a=>.ok (.int (stW (Zj a.1.length a.2.1) a.1 a.2.2).1)⟩
theorem Zq8(T:Txt K mg){f:Addr}{fd:FuncData}(F:Fun K "pit_to_worth" "pit_to_worth" ZoV f fd):J1 P w K mg base CX0 3 f fd ["board", "barred", "found", "worth"] (spF K 4 .P W0 Zop.fn):=by
 have Zpb:=JT (P:=P) (w:=w) (base:=base) T.ZpP ZpG (fun F=>ZpD T F)
 have Zo8:=JT (P:=P) (w:=w) (base:=base) T.ZpE Zp3 (fun F=>Zp2 T F)
 refine F.okP Zpo rfl rfl (fun cdv A outer s H E hr=>?_)
 have hu:=hr.units
 refine⟨_,_,⟨[],[],[],.P⟩,rfl,(Zc (Q6 (i:=4) Zpo.nd rfl (ZQ (K:=K) (Zp Zpb (hr.mono (by decide)) rfl (Za (pv 0) (Za (Zp Zo8 (hr.mono (by decide)) rfl (Za (pv 0) (Za (pv 1) Ze))) Ze)))) (VZ Zpo.nd) (fun _ _ _ _=>(Zd0 (fun _ _ h=>h) (Z4 (J9 (K:=K) hu) (ZaR (hu1 hu) (pv 2) (ZK (Zs (K:=K)) (pv 5) Zi (fun _ _=>rfl)) (fun _ _=>rfl)) (pv 3) (ZF _)))) (fun _ _ _ _=>(ZK (Zs (K:=K)) (pv 5) Zi (fun _ _=>rfl))) hv1 rfl)
   (Zg (Zy (ZK (Zs (K:=K)) (pv 4) Zi (fun _ _=>rfl))))),
   (Zm (Γm:=[.S,.S,.S,.S,.O]) (Ue (i:=4) (Vq (k:=1) (DI.c (Jc (DE.FZ (Zai (Zf (Zf Zw)) (Zb (Zk (i:=0) rfl) (Zb (DE.toA (Zai (Zf (Zf Zw)) (Zb (Zk (i:=0) rfl) (Zb (Zk (i:=1) rfl) Zd)))) Zd)))))) ZkB (Z0 (DE.toA (Jj (g:=id) (Zbn (Zk (i:=2) rfl) (Z3 (te:=tC .non) (Zk (i:=5) rfl) (DE.toA Zh))) (Zk (i:=3) rfl)))) (DE.PF (DE.grd (Z3 (te:=tC .non) (Zk (i:=5) rfl) (DE.toA Zh))))) (by decide))
   (Z9 (DE.grd (Z3 (te:=tC .non) (Zq (i:=4) (m:=.O) rfl (by decide)) (DE.toA Zh))))), ?_⟩
 refine Pm.ref Zop (g:=fun xs=>_) ?_
 rintro⟨b,l,w⟩ ⟨hl,⟨s,F⟩,hex⟩
 simp only at hl F hex
 simp only[Zop]
 have hpl:=Vl b.length l
 have nd:=Za5 b.length l b
 walk_at "pd"
 rw[ZpF (by omega)]
 walk_at "pd"
 rw[show PV.lst (b.map PV.int)=bQ false b from rfl,UB ⟨fun p hp=>by have:=F.f.hP p hp;omega,by omega,by omega⟩,show bQ false b=PV.lst (b.map PV.int) from rfl]
 walk_at "pd"
 have hsl:(Jk (Zj b.length l) b).length<=24:=by
  unfold Jk
  rw[ZsV]
  exact Ztr (ZtH _ _) (by omega)
 rw[QH (by rw[ZsV];omega)]
 walk_at "pd"
 rw[Zgf (q:=ZaK) (p:=fun y=>decide (wtB (Zj b.length l) y.2=w)) (g:=fun y=>.int y.1) (fun z hz=>by
  obtain⟨z1,z2,z3⟩:=Jp.mp hz
  have rz:z.2∈enF b.length l b:=F.mem.mpr (by rw[z3];exact .step .refl z1 z2)
  unfold ZaK
  walk_at "pd"
  rw[ZaU (Zbx (f:=fun x=>PV.int (wtB (Zj b.length l) x)) nd rz)]
  walk_at "pd"
  by_cases c:wtB (Zj b.length l) z.2=w
  ·rw[decide_eq_true c]
   walk_at "pd"
  ·rw[decide_eq_false c]
   walk_at "pd")]
 walk_at "pd"
 obtain⟨_,_,ys,hf⟩:=Zi3 hex
 rw[hf]
 rw[Zte,show ∀(x:PV) (xs:List PV),pIx (PV.lst (x::xs)) (.int 0)=.ok x from fun x xs=>by simp[pIx,atI,ixN]]
 walk_at "pd"
theorem Zrc{b l:List Int}{w:Int}(h:b.length<=24/\(∃s,UW b.length s l b)/\∃y∈Jk (Zj b.length l) b,wtB (Zj b.length l) y.2=w):Zop.fn [.lst (b.map PV.int),.lst (l.map PV.int),.box none (.dt ((enF b.length l b).map tI)) ((enF b.length l b).map fun x=>.int (wtB (Zj b.length l) x)),.int w]=.ok (.int (stW (Zj b.length l) b w).1):=Pm.fn_eq Zop (b,l,w) h (fun(a:List Int×List Int×Int) e=>by
 obtain⟨b',l',w'⟩:=a
 simp only[Zop,List.cons.injEq,PV.lst.injEq,PV.int.injEq,and_true] at e
 have e1:=ZJ e.1
 have e2:=ZJ e.2.1
 show Rr.ok (PV.int (stW (Zj b'.length l') b' w').1)=_
 rw[e1,e2,e.2.2.2];rfl)
noncomputable def ZbK(P:List Int)(E:List (List Int)):List (List Int):=ZaL (E.filter fun x=>decide (wtB P x=0))
noncomputable def ZkH(b l:List Int):PV:=if wtB (Zj b.length l) b=0 then .tup [.str "second",.non,.lst ((ZbK (Zj b.length l) (enF b.length l b)).map Vj)] else .tup [.str "first",.int (stW (Zj b.length l) b 0).1,.lst ((ZbK (Zj b.length l) (enF b.length l b)).map Vj)]
noncomputable def ZoQ:Pm:=⟨List Int×List Int,fun a=>[.lst (a.1.map PV.int),.lst (a.2.map PV.int)],fun a=>Zad a.1 a.2,fun a=>.ok (ZkH a.1 a.2)⟩
theorem Zmq{p:Option Addr}{E:List (List Int)}{ys:List PV}(h:E.length=ys.length):Zjb (.box p (.dt (E.map tI)) ys)=.ok (E.map ZD):=by
 unfold Zjb
 simp only
 rw[if_pos (by rw[ZsV];exact h),Zt2]
 congr 1
 exact ZtK fun x _=>(Uj x).symm
theorem Zsl(T:Txt K mg){f:Addr}{fd:FuncData}(F:Fun K "who_wins" "who_wins" ZpW f fd):J1 P w K mg base CX0 8 f fd ["board", "barred"] (spF K 2 .F W0 ZoQ.fn):=by
 have Zsg:=JT (P:=P) (w:=w) (base:=base) T.ZrQ ZrB (fun F=>Zrw T F)
 have ZrE:=JT (P:=P) (w:=w) (base:=base) T.Zrz Zrg (fun F=>ZqS T F)
 have ZqO:=JT (P:=P) (w:=w) (base:=base) T.ZqC Zq3 (fun F=>Zq0 T F)
 have Zrl:=JT (P:=P) (w:=w) (base:=base) T.ZqX ZqK (fun F=>Zq8 T F)
 refine F.okP Zpm rfl rfl (fun cdv A outer s H E hr=>?_)
 have hu:=hr.units
 refine⟨_,_,⟨[],[],[],.F⟩,rfl,(Zc (J4 (Zp Zsg (hr.mono (by decide)) rfl (Za (pv 0) (Za (pv 1) Ze))))
   (Zc (Z2 (i:=2) Zpm.nd rfl (by walk_at "lo") (Zp ZrE (hr.mono (by decide)) rfl (Za (pv 0) (Za (pv 1) Ze))))
   (Zc (Z2 (i:=3) Zpm.nd rfl (by walk_at "lo") (Zp ZqO (hr.mono (by decide)) rfl (Za (Zj6 (i:=2) (VF (Zhi (pv 2)) (VZ Zpm.nd) (fun _ _ _ _=>(Zd0 (fun _ _ h=>h) (Z4 (J9 (K:=K) hu) (ZaR (hu1 hu) (pv 2) (pv 4) (fun _ _=>rfl)) Zi (ZF _)))) (fun _ _ _ _=>(pv 4)) hv1 Zpm.nd rfl)) Ze)))
   (Zc (Jl (Z4 (J9 (K:=K) hu) (ZaR (hu1 hu) (pv 2) (ZI (ZZ (K:=K)) rfl T.z_tuple Jt (Za (pv 0) Ze)) (fun _ _=>rfl)) Zi (ZF _)) (Zg (Zy (UR (Za Zdy (Za Us (Za (pv 3) Ze)))))) ZA)
   (Zg (Zy (UR (Za Zdy (Za (Zp Zrl (hr.mono (by decide)) rfl (Za (pv 0) (Za (pv 1) (Za (pv 2) (Za Zi Ze))))) (Za (pv 3) Ze)))))))))),
   (Zm (Γm:=[.S,.S,.U,.U]) (Zbm (DE.toA (QX (Zf (Zf Zw)) (Zb (Zk (i:=0) rfl) (Zb (Zk (i:=1) rfl) Zd)))))
   (Zm (Γm:=[.S,.S,.O,.U]) (ZH (i:=2) (Zai (Zf (Zf Zw)) (Zb (Zk (i:=0) rfl) (Zb (Zk (i:=1) rfl) Zd))) (by decide))
   (Zm (Γm:=[.S,.S,.O,.O]) (ZH (i:=3) (Zai (Zf Zw) (Zb (DE.toA (Zkn (i:=2) rfl rfl (fun a o kvs=>Vq (k:=1) (Zma (i:=2) rfl) ZkB (Z0 (DE.toA (Jj (g:=id) (Zbn (Zk (i:=2) rfl) (Zk (i:=4) rfl)) (DE.toA Zh)))) (DE.PF (DE.grd (Zk (i:=4) rfl)))) (fun a o kvs σ H Q h1 h2 h=>⟨.ref a,h1,a,o,kvs,rfl,h2,h h1 h2⟩))) Zd)) (by decide))
   (Zm (Γm:=[.S,.S,.O,.O]) (Jo (Z0 (DE.toA (Jj (g:=id) (Zbn (Zq (i:=2) (m:=.O) rfl (by decide)) (JD (Zb (Zk (i:=0) rfl) Zd))) (DE.toA Zh))))
   (ZV (ZcJ (ZY (DE.PF ZdO) (ZY (DE.PF Za8) (ZY (J7 (i:=3) rfl) Jr)))))
   ZB)
   (ZV (ZcJ (ZY (DE.PF ZdO) (ZY (DE.PF (QX (Zf (Zf (Zf (Zf Zw)))) (Zb (Zk (i:=0) rfl) (Zb (Zk (i:=1) rfl) (Zb (Zq (i:=2) (m:=.O) rfl (by decide)) (Zb (DE.toA Zh) Zd)))))) (ZY (J7 (i:=3) rfl) Jr))))))))), ?_⟩
 refine Pm.ref ZoQ (g:=fun xs=>_) ?_
 rintro⟨b,l⟩ (hX:Zad b l)
 simp only[ZoQ]
 walk_at "pd"
 rw[ZrW hX]
 obtain⟨p1,p2,hs,F⟩:=Zdv hX
 have nd:=Za5 b.length l b
 have hlen:=F.len
 walk_at "pd"
 rw[Zr3 ⟨p1,_,hs,F⟩]
 walk_at "pd"
 rw[Zmq (by simp)]
 walk_at "pd"
 rw[Zgf (q:=ZD) (p:=fun x=>decide (wtB (Zj b.length l) x=0)) (g:=ZD) (fun z hz=>by
  rw[ZaU (Zbx (f:=fun x=>PV.int (wtB (Zj b.length l) x)) nd hz)]
  walk_at "pd"
  by_cases c:wtB (Zj b.length l) z=0
  ·rw[decide_eq_true c]
   walk_at "pd"
   rw[JC]
   walk_at "pd"
  ·rw[decide_eq_false c]
   walk_at "pd")]
 walk_at "pd"
 have hfl:((enF b.length l b).filter fun x=>decide (wtB (Zj b.length l) x=0)).length<=(enF b.length l b).length:=ZtH _ _
 rw[ZqG ⟨fun t ht=>by
  have B:=(F.mem.mp (ZtA.mp ht).1).bs F.f.hP F.f.hb
  have:=B.1
  exact⟨fun z=>by rw[z] at this;simp at this;omega,by omega⟩,by omega⟩]
 walk_at "pd"
 rw[show Uu [PV.lst (b.map PV.int)]=.ok (ZD b) from rfl]
 walk_at "pd"
 rw[ZaU (Zbx (f:=fun x=>PV.int (wtB (Zj b.length l) x)) nd (F.mem.mpr .refl))]
 walk_at "pd"
 unfold ZkH ZbK
 by_cases c:wtB (Zj b.length l) b=0
 ·rw[decide_eq_true c,if_pos c]
  walk_at "pd"
 ·rw[decide_eq_false c,if_neg c]
  walk_at "pd"
  have:=ZkG (Zj b.length l) b
  rw[Zrc (w:=0) ⟨p1,⟨_,F⟩,Zit F (k:=0) (by omega)⟩]
  walk_at "pd"
theorem Zs8{b l:List Int}(h:Zad b l):ZoQ.fn [.lst (b.map PV.int),.lst (l.map PV.int)]=.ok (ZkH b l):=Pm.fn_eq ZoQ (b,l) h fun(a:List Int×List Int) e=>by simp only[ZoQ] at e ⊢;walk_at "in"
noncomputable def Zoe:Pm:=⟨Int,fun i=>[.int i],fun _=>True,fun _=>.ok (.bl true)⟩
theorem Zpd(T:Txt K mg){f:Addr}{fd:FuncData}(F:Fun K "_law_whole_number" "_law_whole_number" Zot f fd):J1 P w K mg base CX0 1 f fd ["found"] (spF K 1 .P W0 Zoe.fn):=by
 refine F.okP Zqa rfl rfl (fun cdv A outer s H E hr=>?_)
 have hu:=hr.units
 refine⟨_,_,⟨[],[],[],.P⟩,rfl,(Zg (Zy (Zas (Zr (Js (K:=K) (n := "int") rfl) rfl T.z_isinstance ZM (Za (pv 0) (Za (Vp (v:=.ty "int") rfl T.z_int Zg6 rfl) Ze))) (Zar (ZiD (Zr (Js (K:=K) (n := "bool") rfl) rfl T.z_isinstance ZM (Za (pv 0) (Za (Vp (v:=.ty "bool") rfl T.z_bool Zg7 rfl) Ze)))))))),
   (Z9 (Za9 (DE.toA (U8 (Zk (i:=0) rfl))) (ZiS (DE.toA (U8 (Zk (i:=0) rfl)))))), ?_⟩
 refine Pm.ref Zoe (g:=fun xs=>_) ?_
 intro (i:Int) _
 simp only[Zoe]
 walk_at "pd"
theorem Zpr{i:Int}:Zoe.fn [.int i]=.ok (.bl true):=Pm.fn_eq Zoe i trivial fun _ _=>rfl
noncomputable def Zol:Pm:=⟨List Int,fun x=>[.lst (x.map PV.int),.int x.length],fun x=>x.length<=1000,fun x=>.ok (ZD x)⟩
theorem Zq2(T:Txt K mg){f:Addr}{fd:FuncData}(F:Fun K "_law_tuple_of" "_law_tuple_of" ZoL f fd):J1 P w K mg base CX0 2 f fd ["found", "pits"] (spF K 2 .P W0 Zol.fn):=by
 have Zo9:=JT (P:=P) (w:=w) (base:=base) T.Zpq Zpe (fun F=>Zpd T F)
 refine F.okP ZpI rfl rfl (fun cdv A outer s H E hr=>?_)
 have hu:=hr.units
 refine⟨_,_,⟨[],[],[],.P⟩,rfl,(Zc (Jl (PW.pt (UH (Vi (Vv (Zr (Js (K:=K) (n := "list") rfl) rfl T.z_isinstance ZM (Za (pv 0) (Za (Vp (v:=.ty "list") rfl T.z_list JR rfl) Ze))))) (VO (Z4 (Zav (K:=K) hu) (Zr (Z6 (K:=K)) rfl T.z_len Jf (Za (pv 0) Ze)) (pv 1) (ZF _))))) (Zg (Zy Us)) ZA)
   (Zc (J8 PassesOwn.never rfl (ZQ (K:=K) (pv 0)) (Jb (i:=2) ZpI.nd rfl (by walk_at "lo")) (Zg (Jl (Vi (Vv (Zp Zo9 (hr.mono (by decide)) rfl (Za (pv 2) Ze)))) (Zg (Zy Us)) ZA)))
   (Zg (Zy (ZI (ZZ (K:=K)) rfl T.z_tuple Jt (Za (pv 0) Ze)))))),
   (Zm (Γm:=[.S,.S,.U]) (Jo (UN (Vw (ZcF (DE.toA (U8 (Zk (i:=0) rfl))))) (Z0 (DE.toA (Jj (g:=(!·)) (DE.toA (Jh (Zb (Zk (i:=0) rfl) Zd))) (Zk (i:=1) rfl)))))
   (Z9 Za8)
   ZB)
   (Zm (Γm:=[.S,.S,.U]) (JA (Γl:=[.S,.S,.U]) (Jc (JP (i:=0) rfl)) rfl (ZcH (i:=2) (by decide))
   (DS.out (Y:=⟨[.S,.S,.P],[.S,.S,.U],[.S,.S,.U],.P⟩) (Y':=⟨[.S,.S,.U],[.S,.S,.U],[.S,.S,.U],.P⟩) (Jo (Vw (ZcF (DE.toA (QX (Zf Zw) (Zb (DE.toA (Zn (i:=2) rfl)) Zd)))))
   (Z9 Za8)
   ZB) rfl rfl rfl rfl))
   (Z9 (DE.grd (JD (Zb (Zk (i:=0) rfl) Zd)))))), ?_⟩
 refine Pm.ref Zol (g:=fun xs=>_) ?_
 rintro(x:List Int) (hx:x.length<=1000)
 simp only[Zol]
 walk_at "pd"
 generalize hw:US _ _ _=W
 obtain⟨ρ',rfl,v,rfl⟩:=ZL hw (fun i ρ=>∃v,ρ=[.lst (x.map PV.int),.int x.length,v]) ⟨_,rfl⟩ (by
  rintro i u ρ hu ⟨v,rfl⟩
  rw[ZsZ] at hu
  obtain⟨a,ha,rfl⟩:=ZtM.mp hu
  walk_at "pd"
  rw[Zpr]
  walk_at "pd"
  exact Jw ⟨_,rfl⟩)
 walk_at "pd"
 rw[show Uu [PV.lst (x.map PV.int)]=.ok (ZD x) from rfl]
 walk_at "pd"
 rw[JC]
 walk_at "pd"
theorem ZqI{x:List Int}(h:x.length<=1000):Zol.fn [.lst (x.map PV.int),.int x.length]=.ok (ZD x):=Pm.fn_eq Zol x h fun(a:List Int) e=>by
 simp only[Zol,List.cons.injEq,PV.lst.injEq,PV.int.injEq,Zbf,and_true] at e ⊢
 rw[e.1]
theorem lstsQ_inj:∀{a b:List (List Int)},a.map Vj=b.map Vj->a=b
 |[],[],_=>rfl
 |[],y::b,e=>by simp at e
 |x::a,[],e=>by simp at e
 |x::a,y::b,e=>by
  simp only[Zte,List.cons.injEq,Vj,PV.lst.injEq] at e
  rw[ZJ e.1,lstsQ_inj e.2]
noncomputable def UY(L:List (List Int)):PV:=.box none (.dt (L.map tI)) (L.map fun _=>.bl true)
noncomputable def ZoF:Pm:=⟨List (List Int)×Nat,fun a=>[.lst (a.1.map Vj),.int a.2],fun a=>a.1.length<=1000/\a.2<=24/\1<=a.2/\(∀x∈a.1,x.length=a.2)/\a.1.Nodup/\a.1.Pairwise fun x y=>HT.Z1 x y=true,fun a=>.ok (UY a.1)⟩
theorem ZrL(T:Txt K mg){f:Addr}{fd:FuncData}(F:Fun K "_law_lost" "_law_lost" ZpC f fd):J1 P w K mg base CX0 3 f fd ["found", "pits"] (spF K 2 .F W0 ZoF.fn):=by
 have ZqQ:=JT (P:=P) (w:=w) (base:=base) T.ZqE Zq5 (fun F=>Zq2 T F)
 refine F.okP ZoB rfl rfl (fun cdv A outer s H E hr=>?_)
 have hu:=hr.units
 refine⟨_,_,⟨[],[],[],.F⟩,rfl,(Zc (Jl (Vi (Vv (Zr (Js (K:=K) (n := "list") rfl) rfl T.z_isinstance ZM (Za (pv 0) (Za (Vp (v:=.ty "list") rfl T.z_list JR rfl) Ze))))) (Zg (Zy Us)) ZA)
   (Zc (Z2 (i:=2) ZoB.nd rfl (by walk_at "lo") Zdz)
   (Zc (Z2 (i:=3) ZoB.nd rfl (by walk_at "lo") (UR Ze))
   (Zc (J8 PassesOwn.never rfl (ZQ (K:=K) (pv 0)) (Jb (i:=4) ZoB.nd rfl (by walk_at "lo")) (Zc (Z2 (i:=5) ZoB.nd rfl (by walk_at "lo") (Zp ZqQ (hr.mono (by decide)) rfl (Za (pv 4) (Za (pv 1) Ze))))
   (Zc (Jl (PW.pt (UH (Z4 ZiG (pv 5) Us (ZF _)) (VO (Z4 (Zl2 (K:=K) hu) (pv 5) (pv 3) (ZF _))))) (Zg (Zy Us)) ZA)
   (Zc (ZaP (hu1 hu) (pv 2) (pv 5) Ut rfl)
   (Zg (Z2 (i:=3) ZoB.nd rfl (by walk_at "lo") (pv 5)))))))
   (Zg (Zy (pv 2))))))),
   (Zm (Γm:=[.S,.S,.U,.U,.U,.U]) (Jo (Vw (ZcF (DE.toA (U8 (Zk (i:=0) rfl)))))
   (ZV (DE.PF Za8))
   ZB)
   (Zm (Γm:=[.S,.S,.O,.U,.U,.U]) (ZH (i:=2) ZdR (by decide))
   (Zm (Γm:=[.S,.S,.O,.P,.U,.U]) (ZO (i:=3) (DE.grd (QV Zd)) (by decide))
   (Zm (Γm:=[.S,.S,.O,.P,.U,.U]) (JA (Γl:=[.S,.S,.O,.P,.U,.U]) (Jc (JP (i:=0) rfl)) rfl (ZnR (i:=4) (by decide))
   (DS.out (Y:=⟨[.S,.S,.O,.P,.S,.P],[.S,.S,.O,.P,.U,.U],[.S,.S,.O,.P,.U,.U],.F⟩) (Y':=⟨[.S,.S,.O,.P,.U,.U],[.S,.S,.O,.P,.U,.U],[.S,.S,.O,.P,.U,.U],.F⟩) (Zm (Γm:=[.S,.S,.O,.P,.S,.P]) (ZO (i:=5) (QX (Zf (Zf Zw)) (Zb (Zk (i:=4) rfl) (Zb (Zk (i:=1) rfl) Zd))) (by decide))
   (Zm (Γm:=[.S,.S,.O,.P,.S,.P]) (Jo (UN (Z0 (DE.toA (ZiT (DE.toA (Zn (i:=5) rfl))))) (Z0 (DE.toA (Zmf (DE.toA (Zn (i:=5) rfl)) (DE.toA (Zn (i:=3) rfl))))))
   (ZV (DE.PF Za8))
   ZB)
   (Zm (Γm:=[.S,.S,.O,.P,.S,.P]) (Qs (i:=2) rfl (DE.PF U9) (DE.toA (Zn (i:=5) rfl)))
   (ZO (i:=3) (Zn (i:=5) rfl) (by decide))))) rfl rfl rfl rfl))
   (ZV (J7 (i:=2) rfl)))))), ?_⟩
 refine Pm.ref ZoF (g:=fun xs=>_) ?_
 rintro⟨L,n⟩ ⟨hl,hn,h1,hx,nd,up⟩
 simp only at hl hn h1 hx nd up
 simp only[ZoF]
 walk_at "pd"
 rw[show grd (PV.tup [])=.ok (ZD []) from rfl]
 walk_at "pd"
 generalize hw:US _ _ _=W
 obtain⟨ρ',rfl,la,v,w,rfl,_⟩:=ZL hw (fun i ρ=>∃la v w,ρ=[.lst (L.map Vj),.int n,UY (L.take i),ZD la,v,w]/\∀y,L[i]?=some y->HT.Z1 la y=true) ⟨[],_,_,rfl,fun y hy=>by
   have:=hx y (ZsW hy)
   cases y with
   |nil=>simp at this;omega
   |cons a y=>exact HT.VP ..⟩ (by
  rintro i u ρ hu ⟨la,v,w,rfl,hla⟩
  rw[ZsZ] at hu
  obtain⟨y,hy,rfl⟩:=ZtM.mp hu
  have hyn:=hx y (ZsW hy)
  have hc:=ZqI (x:=y) (by omega)
  rw[hyn] at hc
  unfold Vj
  walk_at "pd"
  rw[hc]
  walk_at "pd"
  rw[show Zk7 id (ZD y)=.ok (.bl false) from rfl]
  walk_at "pd"
  rw[ZjE,hla y hy]
  walk_at "pd"
  unfold UY
  rw[ZaT rfl (by rw[ZsV,Ztu];omega),Uq (Qg nd hy),Uo (Qg nd hy)]
  walk_at "pd"
  refine Jw ⟨y,_,_,by rw[Uk (f:=tI) hy,Uk (f:=fun _=>PV.bl true) hy],fun z hz=>?_⟩
  obtain⟨i1,rfl⟩:=ZsU.mp hy
  obtain⟨i2,rfl⟩:=ZsU.mp hz
  exact ZtR.mp up i (i+1) i1 i2 (by omega))
 walk_at "pd"
 rw[ZsV,Zuj]
theorem Zsv{L:List (List Int)}{n:Nat}(h:L.length<=1000/\n<=24/\1<=n/\(∀x∈L,x.length=n)/\L.Nodup/\L.Pairwise fun x y=>HT.Z1 x y=true):ZoF.fn [.lst (L.map Vj),.int n]=.ok (UY L):=Pm.fn_eq ZoF (L,n) h (fun(a:List (List Int)×Nat) e=>by
 obtain⟨L',n'⟩:=a
 simp only[ZoF,List.cons.injEq,PV.lst.injEq,and_true] at e
 show Rr.ok (UY L')=_
 rw[lstsQ_inj e.1];rfl)
theorem Zlv{L:List (List Int)}{k:Nat}{j:Int}(h:k<L.length)(hq:(L.getD k []).length<1000000):pGo (fun z=>pApp z (.int j)) (.lst (L.map Vj)) [(k:Int)]=.ok (.lst ((L.set k (L.getD k []++[j])).map Vj)):=by
 have e1:ixN (L.map Vj).length (k:Int)=some k:=by
  unfold ixN
  rw[if_pos (by omega),if_pos (by rw[ZsV];omega)];simp
 have e2:(L.map Vj).getD k .non=.lst ((L.getD k []).map PV.int):=by
  rw[ZsS,ZsZ,ZsT h,ZsS,ZsT h];rfl
 simp only[pGo,e1,e2]
 rw[ZbH hq]
 simp only[Rr.bind_ok,List.map_set]
 rfl
noncomputable def Zak(L:List (List Int))(k:Nat):List (List Int):=(List.range L.length).map fun i=>if i<k then L.getD i []++[0] else L.getD i []
theorem JS(L:List (List Int))(k:Nat):(Zak L k).length=L.length:=by simp[Zak]
theorem VC{L:List (List Int)}{k i:Nat}(h:i<L.length):(Zak L k).getD i []=if i<k then L.getD i []++[0] else L.getD i []:=by simp[Zak,h]
theorem ZlT{a b:List (List Int)}(hl:a.length=b.length)(h:∀i,i<a.length->a.getD i []=b.getD i []):a=b:=by
 refine Zvn hl fun i h1 h2=>?_
 have:=h i h1
 rw[ZsS,ZsS,ZsT h1,ZsT h2] at this
 exact this
theorem Zky(L:List (List Int)):Zak L 0=L:=ZlT (JS L 0) fun i hi=>by
 rw[JS] at hi
 rw[VC hi,if_neg (by omega)]
theorem Zkx{L:List (List Int)}{k:Nat}(h:k<L.length):(Zak L k).set k ((Zak L k).getD k []++[0])=Zak L (k+1):=ZlT (by simp[JS]) fun i hi=>by
 rw[Zuq,JS] at hi
 rw[VC hi]
 by_cases c:k=i
 ·subst c
  rw[if_pos (by omega),ZsS,Ztx (by rw[JS];exact h)]
  show (Zak L k).getD k []++[0]=_
  rw[VC h,if_neg (by omega)]
 ·rw[ZsS,Zt7 c,<- ZsS,VC hi]
  by_cases d:i<k
  ·rw[if_pos d,if_pos (by omega)]
  ·rw[if_neg d,if_neg (by omega)]
noncomputable def ZoO:Pm:=⟨List (List Int),fun L=>[.lst (L.map Vj),.lst (L.map Vj)],fun L=>L.length<=1000/\∀q∈L,q.length<=1000,fun _=>.ok (.bl true)⟩
theorem Zry(T:Txt K mg){f:Addr}{fd:FuncData}(F:Fun K "_law_apart" "_law_apart" Zp0 f fd):J1 P w K mg base CX0 1 f fd ["found", "kept"] (spC K 2 ZoO.fn):=by
 refine F.okC (n:=1) Zqh rfl rfl (fun cdv A outer s H E hr=>?_)
 have hu:=hr.units
 refine⟨_,_,⟨[],[],[],.P⟩,rfl,(Zc (J8 PassesOwn.never rfl (Jg rfl T.z_range (Za (Zr (Z6 (K:=K)) rfl T.z_len Jf (Za (pv 1) Ze)) Ze)) (Jb (i:=2) Zqh.nd rfl (by walk_at "lo")) (Zc (Jl (Z4 (Zav (K:=K) hu) (ZK (Zs (K:=K)) (pv 0) (pv 2) (fun _ _=>rfl)) (ZK (Zs (K:=K)) (pv 1) (pv 2) (fun _ _=>rfl)) (ZF _)) (Zg (Zy Ut)) ZA)
   (Zg (J4 (ZbD PySem.F.plainAttrs_list PySem.F.slot_list_append PySem.F.type_list_append JL (ZK (Zs (K:=K)) (pv 0) (pv 2) (fun _ _=>rfl)) (Za Zi Ze))))))
   (Zc (J4 (ZbD PySem.F.plainAttrs_list PySem.F.slot_list_append PySem.F.type_list_append JL (pv 0) (Za (JJ Ze) Ze)))
   (Zg (Zy Ut)))),
   (Zm (Γm:=[.O,.S,.U]) (JA (Γl:=[.O,.S,.U]) (JN (Zb (DE.toA (Jh (Zb (Zk (i:=1) rfl) Zd))) Zd)) rfl (ZcH (i:=2) (by decide))
   (DS.out (Y:=⟨[.O,.S,.P],[.O,.S,.U],[.O,.S,.U],.P⟩) (Y':=⟨[.O,.S,.U],[.O,.S,.U],[.O,.S,.U],.P⟩) (Zm (Γm:=[.O,.S,.P]) (Jo (Z0 (DE.toA (Jj (g:=(!·)) (Z3 (te:=tC .non) (Zq (i:=0) (m:=.O) rfl (by decide)) (DE.toA (Zn (i:=2) rfl))) (Z3 (te:=tC .non) (Zk (i:=1) rfl) (DE.toA (Zn (i:=2) rfl))))))
   (Z9 U9)
   ZB)
   (Ze4 (i:=0) rfl (Zkh (l:=2) (m:=.P) rfl (by decide) Zkg))) rfl rfl rfl rfl))
   (Zm (Γm:=[.O,.S,.U]) (UO (i:=0) rfl rfl (JQ Jr))
   (Z9 U9))), ?_⟩
 refine Pm.ref ZoO (g:=fun xs=>_) ?_
 rintro(L:List (List Int)) ⟨hl,hq⟩
 simp only[ZoO]
 walk_at "pd"
 rw[show ZeB [PV.lst (L.map Vj)]=.ok (.int (L.length:Nat)) by show Rr.ok (PV.int _)=_;rw[ZsV]]
 walk_at "pd"
 generalize hw:US _ _ _=W
 obtain⟨ρ',rfl,v,rfl⟩:=ZL hw (fun i ρ=>∃v,ρ=[.lst ((Zak L i).map Vj),.lst (L.map Vj),v]) ⟨_,by rw[Zky]⟩ (by
  rintro i x ρ hx ⟨v,rfl⟩
  obtain⟨hi,rfl⟩:=Jy hx
  have hi2:i<L.length:=by omega
  have al:=JS L i
  have ag:=VC (k:=i) hi2
  rw[if_neg (ZtV i)] at ag
  have hqi:(L.getD i []).length<=1000:=hq _ (by rw[ZsS,ZsT hi2];exact Zue _)
  walk_at "pd"
  rw[Zlp (q:=Vj) (d:=[]) (by omega) (by omega)]
  walk_at "pd"
  rw[Zlp (q:=Vj) (d:=[]) (by omega) (by omega)]
  simp only[Zum,Zt4]
  rw[ag,show Vj (L.getD i [])=.lst ((L.getD i []).map PV.int) from rfl]
  walk_at "pd"
  rw[Zlv (by omega) (by rw[ag];omega),Zkx hi2]
  walk_at "pd"
  exact Jw ⟨_,rfl⟩)
 walk_at "pd"
 rw[Qn (by rw[ZsV,JS];omega)]
 walk_at "pd"
theorem ZrY{L:List (List Int)}(h:L.length<=1000/\∀q∈L,q.length<=1000):ZoO.fn [.lst (L.map Vj),.lst (L.map Vj)]=.ok (.bl true):=Pm.fn_eq ZoO L h fun _ _=>rfl
noncomputable def Zos:Pm:=⟨Bool×List Int×Int,fun a=>[bQ a.1 a.2.1,.int a.2.2],fun a=>0<=a.2.2/\a.2.2<a.2.1.length/\a.2.1.length<=1000/\0<=a.2.1.getD a.2.2.toNat 0/\a.2.1.getD a.2.2.toNat 0<=100000,fun a=>.ok (ZD (Vo a.2.1 a.2.2))⟩
theorem Zqu(T:Txt K mg){f:Addr}{fd:FuncData}(F:Fun K "_law_sown" "_law_sown" ZpB f fd):J1 P w K mg base CX0 1 f fd ["board", "pit"] (spF K 2 .P W0 Zos.fn):=by
 refine F.okP Zpt rfl rfl (fun cdv A outer s H E hr=>?_)
 have hu:=hr.units
 refine⟨_,_,⟨[],[],[],.P⟩,rfl,(Zc (Z2 (i:=2) Zpt.nd rfl (by walk_at "lo") (ZI (Vn (K:=K)) rfl T.z_list JR (Za (pv 0) Ze)))
   (Zc (Z2 (i:=3) Zpt.nd rfl (by walk_at "lo") (ZK (Zs (K:=K)) (pv 2) (pv 1) (fun _ _=>rfl)))
   (Zc (Zfq Zi (Zfw (pv 2) (pv 1) JV))
   (Zc (J8 PassesOwn.never rfl (Jg rfl T.z_range (Za (pv 3) Ze)) (Jb (i:=4) Zpt.nd rfl (by walk_at "lo")) (Zg (Q7 (pv 2) (Zz Jd (Zz ZT (Zz ZT (pv 1) Zi) (pv 4)) (Zr (Z6 (K:=K)) rfl T.z_len Jf (Za (pv 2) Ze))) (V7 (K:=K)) Zi QK JV)))
   (Zg (Zy (ZI (ZZ (K:=K)) rfl T.z_tuple Jt (Za (pv 2) Ze)))))))),
   (Zm (Γm:=[.S,.S,.O,.U,.U]) (ZH (i:=2) (U7 (Zb (Zk (i:=0) rfl) Zd)) (by decide))
   (Zm (Γm:=[.S,.S,.O,.P,.U]) (ZO (i:=3) (DE.grd (Z3 (te:=tC .non) (Zq (i:=2) (m:=.O) rfl (by decide)) (Zk (i:=1) rfl))) (by decide))
   (Zm (Γm:=[.S,.S,.O,.P,.U]) (QU (i:=2) rfl Zh (Zk (i:=1) rfl))
   (Zm (Γm:=[.S,.S,.O,.P,.U]) (JA (Γl:=[.S,.S,.O,.P,.U]) (JN (Zb (DE.toA (Zn (i:=3) rfl)) Zd)) rfl (ZcH (i:=4) (by decide))
   (DS.out (Y:=⟨[.S,.S,.O,.P,.P],[.S,.S,.O,.P,.U],[.S,.S,.O,.P,.U],.P⟩) (Y':=⟨[.S,.S,.O,.P,.U],[.S,.S,.O,.P,.U],[.S,.S,.O,.P,.U],.P⟩) (U6 (i:=2) rfl rfl (DE.toA (Je (DE.toA (ZU (DE.toA (ZU (Zk (i:=1) rfl) (DE.toA Zh))) (DE.toA (Zn (i:=4) rfl)))) (DE.toA (Jh (Zb (Zq (i:=2) (m:=.O) rfl (by decide)) Zd))))) (DE.toA Zh)) rfl rfl rfl rfl))
   (Z9 (DE.grd (JD (Zb (Zq (i:=2) (m:=.O) rfl (by decide)) Zd)))))))), ?_⟩
 refine Pm.ref Zos (g:=fun xs=>_) ?_
 rintro⟨t,b,p⟩ ⟨h0,h1,h2,h3,h4⟩
 simp only at h0 h1 h2 h3 h4
 simp only[Zos,ZD]
 have hL:Zcz [bQ t b]=.ok (.lst (b.map PV.int)):=by
  cases t
  ·exact UJ (by omega)
  ·exact V3 (by omega)
 walk_at "pd"
 rw[hL]
 walk_at "pd"
 rw[<- Zh1 h0 h1]
 generalize hw:US _ _ _=W
 obtain⟨ρ',rfl,v,rfl⟩:=ZL hw (fun i ρ=>∃v,ρ=[bQ t b,.int p,.lst ((ZgI b p i).map PV.int),.int (b.getD p.toNat 0),v]) ⟨_,rfl⟩ (by
  rintro i x ρ hx ⟨v,rfl⟩
  obtain⟨hi,rfl⟩:=Jy hx
  rw[Zum]
  have hlen:=ZjL b p i
  have y0:=Ztp (p+1+i) (show (b.length:Int)≠0 by omega)
  have y1:=Ztg (p+1+i) (show (0:Int)<b.length by omega)
  have hst:=Zh2 h0 h1 i
  walk_at "pd"
  rw[hlen]
  walk_at "pd"
  rw[hst]
  exact Jw ⟨_,rfl⟩)
 walk_at "pd"
 rw[ZS,ZjM h0 h1 h3,show Uu [PV.lst ((Vo b p).map PV.int)]=.ok (.tup ((Vo b p).map PV.int)) from rfl]
 walk_at "pd"
 rw[QO]
 walk_at "pd"
theorem UU{t:Bool}{b:List Int}{p:Int}(h:0<=p/\p<b.length/\b.length<=1000/\0<=b.getD p.toNat 0/\b.getD p.toNat 0<=100000):Zos.fn [bQ t b,.int p]=.ok (ZD (Vo b p)):=Pm.fn_eq Zos (t,b,p) h fun(a:Bool×List Int×Int) e=>by
 obtain⟨t',b',p'⟩:=a
 simp only[Zos,List.cons.injEq,PV.int.injEq,and_true] at e ⊢
 have hb:b'=b:=by
  cases t<;>cases t'<;>simp only[bQ,if_true,Bool.false_eq_true,if_false,PV.lst.injEq,PV.tup.injEq,reduceCtorEq,false_and] at e
  ·exact ZJ e.1
  ·exact ZJ e.1
 rw[hb,e.2]
theorem Zsu{b:List Int}{p:Int}(h:0<=p/\p<b.length/\b.length<=1000/\0<=b.getD p.toNat 0/\b.getD p.toNat 0<=100000):Zos.fn [ZD b,.int p]=.ok (ZD (Vo b p)):=UU (t:=true) h
theorem ZbA(Q x:List Int):(Jk Q x).length<=Q.length:=by
 unfold Jk
 rw[ZsV]
 exact ZtH _ _
noncomputable def ZkC(y:Int×List Int):PV:=ZD y.2
noncomputable def Zo4:Pm:=⟨List Int×List Int,fun a=>[ZD a.1,.lst (a.2.map PV.int)],fun a=>a.1.length<=1000/\∀x∈a.1,0<=x/\x<=100000,fun a=>.ok (.lst ((Jk (Zj a.1.length a.2) a.1).map ZkC))⟩
theorem Zqk(T:Txt K mg){f:Addr}{fd:FuncData}(F:Fun K "_law_after" "_law_after" Zp1 f fd):J1 P w K mg base CX0 2 f fd ["board", "barred"] (spF K 2 .F W0 Zo4.fn):=by
 have Zqe:=JT (P:=P) (w:=w) (base:=base) T.ZqF Zqy (fun F=>Zqu T F)
 refine F.okP Zp7 rfl rfl (fun cdv A outer s H E hr=>?_)
 have hu:=hr.units
 refine⟨_,_,⟨[],[],[],.F⟩,rfl,(Zc (Z2 (i:=2) Zp7.nd rfl (by walk_at "lo") (JJ Ze))
   (Zc (J8 PassesOwn.never rfl (Jg rfl T.z_range (Za (Zr (Z6 (K:=K)) rfl T.z_len Jf (Za (pv 0) Ze)) Ze)) (Jb (i:=3) Zp7.nd rfl (by walk_at "lo")) (Zg (Jl (PW.pt (Zla (Z4 Zeo (ZK (Zs (K:=K)) (pv 0) (pv 3) (fun _ _=>rfl)) Zi (ZF _)) (Zjz (Z4 (QB (K:=K) hu) (pv 3) (pv 1) rfl)))) (Zg (J4 (ZbD PySem.F.plainAttrs_list PySem.F.slot_list_append PySem.F.type_list_append JL (pv 2) (Za (Zp Zqe (hr.mono (by decide)) rfl (Za (pv 0) (Za (pv 3) Ze))) Ze)))) ZA)))
   (Zg (Zy (pv 2))))),
   (Zm (Γm:=[.S,.S,.O,.U]) (ZH (i:=2) (JQ Jr) (by decide))
   (Zm (Γm:=[.S,.S,.O,.U]) (JA (Γl:=[.S,.S,.O,.U]) (JN (Zb (DE.toA (Jh (Zb (Zk (i:=0) rfl) Zd))) Zd)) rfl (ZcH (i:=3) (by decide))
   (DS.out (Y:=⟨[.S,.S,.O,.P],[.S,.S,.O,.U],[.S,.S,.O,.U],.F⟩) (Y':=⟨[.S,.S,.O,.U],[.S,.S,.O,.U],[.S,.S,.O,.U],.F⟩) (Jo (ZlX (Z0 (DE.toA (Ze6 (Z3 (te:=tC .non) (Zk (i:=0) rfl) (DE.toA (Zn (i:=3) rfl))) (DE.toA Zh)))) (Z0 (DE.toA (ZbX (g:=(!·)) (DE.toA (Zn (i:=3) rfl)) (Zk (i:=1) rfl)))))
   (UO (i:=2) rfl rfl (DE.PF (QX (Zf (Zf Zw)) (Zb (Zk (i:=0) rfl) (Zb (DE.toA (Zn (i:=3) rfl)) Zd)))))
   ZB) rfl rfl rfl rfl))
   (ZV (J7 (i:=2) rfl)))), ?_⟩
 refine Pm.ref Zo4 (g:=fun xs=>_) ?_
 rintro⟨b,l⟩ ⟨hb,hx0⟩
 simp only at hb hx0
 simp only[Zo4,ZD]
 walk_at "pd"
 rw[Zat]
 walk_at "pd"
 generalize hw:US _ _ _=W
 obtain⟨ρ',rfl,v,rfl⟩:=ZL hw (fun i ρ=>∃v,ρ=[.tup (b.map PV.int),.lst (l.map PV.int),.lst ((Jk (Zj i l) b).map ZkC),v]) ⟨_,rfl⟩ (by
  rintro i x ρ hx ⟨v,rfl⟩
  obtain⟨hi,rfl⟩:=Jy hx
  rw[Zum]
  have hlen:(Jk (Zj i l) b).length<=i:=Ztr (ZbA _ _) (Vl _ _)
  have hY:(i:Int) ∉ l->0<b.getD i 0->Jk (Zj (i+1) l) b=Jk (Zj i l) b++[((i:Int),Vo b i)]:=fun e e2=>by
   unfold Jk Zj
   rw[Zus,Zud,Zt8,Zud,Zt8]
   congr 1
   rw[show List.filter (fun(i:Nat)=>decide ((i:Int) ∉ l)) [i]=[i] from List.filter_eq_self.mpr fun z hz=>by rw[Ztj.mp hz];exact decide_eq_true e]
   rw[show List.filter (fun(p:Int)=>decide (0<b.getD p.toNat 0)) ([i].map fun(i:Nat)=>(i:Int))=[(i:Int)] from List.filter_eq_self.mpr fun z hz=>by rw[Ztj.mp hz];exact decide_eq_true e2]
   rfl
  have hN:¬((i:Int) ∉ l/\0<b.getD i 0)->Jk (Zj (i+1) l) b=Jk (Zj i l) b:=fun c=>by
   unfold Jk Zj
   rw[Zus,Zud,Zt8,Zud,Zt8]
   rw[show List.filter (fun(p:Int)=>decide (0<b.getD p.toNat 0)) ((List.filter (fun(i:Nat)=>decide ((i:Int) ∉ l)) [i]).map fun(i:Nat)=>(i:Int))=[] from List.filter_eq_nil_iff.mpr fun z hz=>by
    obtain⟨k,hk,rfl⟩:=Ztm.mp hz
    obtain⟨k1,k2⟩:=ZtA.mp hk
    rw[Ztj.mp k1] at k2 ⊢
    intro z
    exact c ⟨of_decide_eq_true k2,of_decide_eq_true z⟩]
   rw[Zux,Zua]
  walk_at "pd"
  rw[Uv (by omega) (by omega),Zt4]
  walk_at "pd"
  have hi':i<b.length:=by omega
  have hq:=hx0 (b.getD i 0) (by rw[ZsS,ZsT hi',ZtZ];exact Zue hi')
  by_cases e2:0<b.getD i 0
  ·rw[decide_eq_true e2]
   walk_at "pd"
   rw[JK]
   by_cases e:(i:Int)∈l
   ·rw[decide_eq_true e,hN (fun z=>z.1 e)]
    walk_at "pd"
    exact Jw ⟨_,rfl⟩
   ·rw[decide_eq_false e,hY e e2]
    walk_at "pd"
    have hc:=Zsu (b:=b) (p:=i) ⟨by omega,by omega,by omega,by rw[Zt4];exact hq.1,by rw[Zt4];exact hq.2⟩
    simp only[ZD] at hc
    rw[hc]
    walk_at "pd"
    rw[Qn (by rw[ZsV];omega)]
    walk_at "pd"
    exact Jw ⟨_,by rw[Zt8];rfl⟩
  ·rw[decide_eq_false e2,hN (fun z=>e2 z.2)]
   walk_at "pd"
   exact Jw ⟨_,rfl⟩)
 walk_at "pd"
 rw[ZS,Zt4]
theorem Zqx{b l:List Int}(h:b.length<=1000/\∀x∈b,0<=x/\x<=100000):Zo4.fn [ZD b,.lst (l.map PV.int)]=.ok (.lst ((Jk (Zj b.length l) b).map ZkC)):=Pm.fn_eq Zo4 (b,l) h fun(a:List Int×List Int) e=>by
 simp only[Zo4,ZD,List.cons.injEq,PV.tup.injEq,PV.lst.injEq,Zbf,and_true] at e ⊢
 rw[show a=(b,l) from Prod.ext e.1 e.2]
theorem Zlx{g:Bool->Bool}{a b:Bool}:Zb1 g (.bl a) (.bl b)=.ok (.bl (g (a==b))):=by
 cases a<;>cases b<;>rfl
structure ZgE(n:Nat)(C:List (List Int))(l:List Int)(L:List (List Int)):Prop where
 n24:n<=24
 len:C.length<=1000
 lel:L.length<=1000
 ok:∀x∈C,x.length=n/\∀z∈x,0<=z/\z<=100000
 two:∀x∈C,(x∈L ↔ ¬∃y∈Jk (Zj n l) x,y.2∈L)
 cnt:(C.filter fun x=>decide (x∈L)).length=L.length
noncomputable def Zo7:Pm:=⟨List (List Int)×List Int×List (List Int),fun a=>[.lst (a.1.map ZD),.lst (a.2.1.map PV.int),UY a.2.2],fun a=>∃n,ZgE n a.1 a.2.1 a.2.2,fun _=>.ok (.bl true)⟩
theorem ZqU(T:Txt K mg){f:Addr}{fd:FuncData}(F:Fun K "_law_parted" "_law_parted" Zpj f fd):J1 P w K mg base CX0 3 f fd ["boards", "barred", "lost"] (spF K 3 .P W0 Zo7.fn):=by
 have ZpV:=JT (P:=P) (w:=w) (base:=base) T.Zqv Zqo (fun F=>Zqk T F)
 refine F.okP Zov rfl rfl (fun cdv A outer s H E hr=>?_)
 have hu:=hr.units
 refine⟨_,_,⟨[],[],[],.P⟩,rfl,(Zc (Z2 (i:=3) Zov.nd rfl (by walk_at "lo") Zi)
   (Zc (J8 PassesOwn.never rfl (ZQ (K:=K) (pv 0)) (Jb (i:=4) Zov.nd rfl (by walk_at "lo")) (Zc (Z2 (i:=5) Zov.nd rfl (by walk_at "lo") (Zr (Zg4 (K:=K) rfl) rfl T.z_any Zmo (Za (JW (ZQ (K:=K) (Zp ZpV (hr.mono (by decide)) rfl (Za (pv 4) (Za (pv 1) Ze)))) (fun _ _ _ _=>(Zfx (Zd2 (hu1 hu) (pv 6) (pv 2)))) Zov.nd rfl) Ze)))
   (Zc (Jl (Z4 (J9 (K:=K) hu) (Zfx (Zd2 (hu1 hu) (pv 4) (pv 2))) (pv 5) (ZF _)) (Zg (Zy Ut)) ZA)
   (Zg (Z2 (i:=3) Zov.nd rfl (by walk_at "lo") (Zz ZT (pv 3) (ZI Zg3 rfl T.z_int Zg6 (Za (Zfx (Zd2 (hu1 hu) (pv 4) (pv 2))) Ze))))))))
   (Zg (Zy (VY (J9 (K:=K) hu) (pv 3) (Zr Zg1 rfl T.z_len Jf (Za (pv 2) Ze)) (ZF _)))))),
   (Zm (Γm:=[.S,.S,.S,.P,.U,.U]) (ZO (i:=3) Zh (by decide))
   (Zm (Γm:=[.S,.S,.S,.P,.U,.U]) (JA (Γl:=[.S,.S,.S,.P,.U,.U]) (Jc (JP (i:=0) rfl)) rfl (ZcH (i:=4) (by decide))
   (DS.out (Y:=⟨[.S,.S,.S,.P,.P,.P],[.S,.S,.S,.P,.U,.U],[.S,.S,.S,.P,.U,.U],.P⟩) (Y':=⟨[.S,.S,.S,.P,.U,.U],[.S,.S,.S,.P,.U,.U],[.S,.S,.S,.P,.U,.U],.P⟩) (Zm (Γm:=[.S,.S,.S,.P,.P,.P]) (ZO (i:=5) (Zmh (Zb (DE.toA (Jz (DI.c (Jc (DE.FZ (Zai (Zf (Zf Zw)) (Zb (DE.toA (Zn (i:=4) rfl)) (Zb (Zk (i:=1) rfl) Zd)))))) (DE.PF (ZdS (Zk (i:=6) rfl) (Zk (i:=2) rfl))))) Zd)) (by decide))
   (Zm (Γm:=[.S,.S,.S,.P,.P,.P]) (Jo (Z0 (DE.toA (Jj (g:=id) (DE.toA (ZdS (DE.toA (Zn (i:=4) rfl)) (Zk (i:=2) rfl))) (DE.toA (Zn (i:=5) rfl)))))
   (Z9 U9)
   ZB)
   (ZO (i:=3) (ZU (DE.toA (Zn (i:=3) rfl)) (DE.toA (Zia (Zb (DE.toA (ZdS (DE.toA (Zn (i:=4) rfl)) (Zk (i:=2) rfl))) Zd)))) (by decide)))) rfl rfl rfl rfl))
   (Z9 (Jj (g:=id) (DE.toA (Zn (i:=3) rfl)) (DE.toA (Zkm (Zb (Zk (i:=2) rfl) Zd))))))), ?_⟩
 refine Pm.ref Zo7 (g:=fun xs=>_) ?_
 rintro⟨C,l,L⟩ ⟨n,h⟩
 simp only at h
 simp only[Zo7,UY]
 walk_at "pd"
 generalize hw:US _ _ _=W
 have hIn:∀y,ZiE id (ZD y) (.box none (.dt (L.map tI)) (L.map fun _=>.bl true))=.ok (.bl (decide (y∈L))):=fun y=>by
  rw[Zd8]
  by_cases c:y∈L
  ·obtain⟨z,hz⟩:=Zac (ks:=L.map tI) (xs:=L.map fun _=>PV.bl true) (by simp) (Vu.mpr c)
   rw[hz,decide_eq_true c];rfl
  ·rw[UC (fun z=>c (Vu.mp z)),decide_eq_false c];rfl
 obtain⟨ρ',rfl,v,w,rfl⟩:=ZL hw (fun i ρ=>∃v w,ρ=[.lst (C.map ZD),.lst (l.map PV.int),.box none (.dt (L.map tI)) (L.map fun _=>.bl true),.int (((C.take i).filter fun x=>decide (x∈L)).length:Nat),v,w]) ⟨_,_,rfl⟩ (by
  rintro i u ρ hu ⟨v,w,rfl⟩
  rw[ZsZ] at hu
  obtain⟨x,hx,rfl⟩:=ZtM.mp hu
  have xm:=ZsW hx
  obtain⟨x1,x2⟩:=h.ok x xm
  have n24:=h.n24
  have hlen:=h.len
  have hlt:=(ZsU.mp hx).1
  have hsl:(Jk (Zj n l) x).length<=24:=by
   have h1:=ZbA (Zj n l) x
   have h2:=Vl n l
   omega
  have htk:(C.take (i+1)).filter (fun x=>decide (x∈L))=(C.take i).filter (fun x=>decide (x∈L))++if x∈L then [x] else []:=by
   rw[Zvg,hx,Zud]
   congr 1
   by_cases c:x∈L
   ·simp[c]
   ·simp[c]
  have hfl:((C.take i).filter fun x=>decide (x∈L)).length<=1000:=Ztr (ZtH _ _) (by rw[Ztu];omega)
  rw[JC]
  walk_at "pd"
  rw[Zqx ⟨by omega,x2⟩,x1]
  walk_at "pd"
  rw[ZdH (q:=ZkC) (g:=fun y=>.bl (decide (y.2∈L))) (fun y _=>by unfold ZkC;exact hIn y.2)]
  walk_at "pd"
  rw[show ((Jk (Zj n l) x).map fun y=>PV.bl (decide (y.2∈L)))=((Jk (Zj n l) x).map fun y=>decide (y.2∈L)).map PV.bl by rw[Zt2];rfl]
  walk_at "pd"
  have hany:(((Jk (Zj n l) x).map fun y=>decide (y.2∈L)).any id)=!decide (x∈L):=by
   have:=h.two x xm
   by_cases c:x∈L
   ·rw[decide_eq_true c]
    refine List.any_eq_false.mpr fun b hb=>?_
    obtain⟨y,hy,rfl⟩:=Ztm.mp hb
    intro z
    exact this.mp c ⟨y,hy,of_decide_eq_true z⟩
   ·rw[decide_eq_false c]
    have ⟨y,hy,hm⟩:=Classical.not_not.mp (fun z=>c (this.mpr z))
    exact Zvm.mpr ⟨_,Ztm.mpr ⟨y,hy,rfl⟩,decide_eq_true hm⟩
  rw[hany,hIn]
  walk_at "pd"
  rw[Zlx,show ∀b:Bool,(b==!b)=false from fun b=>by cases b<;>rfl]
  walk_at "pd"
  rw[hIn]
  walk_at "pd"
  rw[show Zm3 [.bl (decide (x∈L))]=.ok (.int (if x∈L then 1 else 0)) by
   by_cases c:x∈L
   ·rw[if_pos c,decide_eq_true c];rfl
   ·rw[if_neg c,decide_eq_false c];rfl]
  rw[htk]
  by_cases c:x∈L
  ·rw[if_pos c,if_pos c]
   walk_at "pd"
   exact Jw ⟨_,_,by rw[Ztv];rfl⟩
  ·rw[if_neg c,if_neg c,Zua]
   walk_at "pd"
   exact Jw ⟨_,_,by rw[Int.add_zero]⟩)
 walk_at "pd"
 have:=h.lel
 rw[Zhq (by simp) (by rw[ZsV];omega),ZsV,ZsV,Zuj,h.cnt]
 walk_at "pd"
theorem Zr5{n:Nat}{C:List (List Int)}{l:List Int}{L:List (List Int)}(h:ZgE n C l L):Zo7.fn [.lst (C.map ZD),.lst (l.map PV.int),UY L]=.ok (.bl true):=Pm.fn_eq Zo7 (C,l,L) ⟨n,h⟩ fun _ _=>rfl
theorem Zfs{S:List (List Int)}{x:List Int}(h:S.length<=1000):Zm2 (.lst ((S++[x]).map ZD))=.ok (ZD x,.lst (S.map ZD)):=by
 unfold Zm2
 rw[ZgA,Rr.bind_ok,Zt8]
 show (popL (S.map ZD++[ZD x])).bind _=_
 unfold popL
 rw[if_pos ⟨by rw[<- List.map_singleton,<- Zt8];exact QS J0 _,by simp⟩]
 simp
theorem Zf6{b:List Int}:Zau (ZD b) (.bl true)=.ok (.box none (.dt [tI b]) [.bl true]):=by
 rw[Uj]
 unfold Zau
 simp only[Vk]
noncomputable def Zl8(ρ:List PV):Nat:=match ρ with
 |[_,_,.box _ _ ys,.lst xs,_]=>2*(1001-ys.length)+xs.length
 |_=>0
noncomputable def ZoS:Pm:=⟨List Int×List Int,fun a=>[.lst (a.1.map PV.int),.lst (a.2.map PV.int)],fun a=>a.1.length<=24/\∃s,s<=100000/\Zbz a.1.length s (Zj a.1.length a.2) a.1,fun a=>.ok (.lst ((ZiU (Zj a.1.length a.2) a.1).map ZD))⟩
theorem Zso(T:Txt K mg){f:Addr}{fd:FuncData}(F:Fun K "_law_all" "_law_all" ZpZ f fd):J1 P w K mg base CX0 3 f fd ["board", "barred"] (spF K 2 .F W0 ZoS.fn):=by
 have ZpV:=JT (P:=P) (w:=w) (base:=base) T.Zqv Zqo (fun F=>Zqk T F)
 refine F.okP Zp6 rfl rfl (fun cdv A outer s H E hr=>?_)
 have hu:=hr.units
 refine⟨_,_,⟨[],[],[],.F⟩,rfl,(Zc (Z2 (i:=2) Zp6.nd rfl (by walk_at "lo") (ZbC (hu1 hu) (ZI (ZZ (K:=K)) rfl T.z_tuple Jt (Za (pv 0) Ze)) Ut))
   (Zc (Z2 (i:=3) Zp6.nd rfl (by walk_at "lo") (JJ (Za (ZI (ZZ (K:=K)) rfl T.z_tuple Jt (Za (pv 0) Ze)) Ze)))
   (Zc (Qk PassesOwn.never (Z4 Zeo (Zr (Z6 (K:=K)) rfl T.z_len Jf (Za (pv 3) Ze)) Zi (ZF _)) (Zg (J8 PassesOwn.never rfl (ZQ (K:=K) (Zp ZpV (hr.mono (by decide)) rfl (Za (Zle PySem.F.plainAttrs_list PySem.F.slot_list_pop PySem.F.type_list_pop Zl4 (pv 3)) (Za (pv 1) Ze)))) (Jb (i:=4) Zp6.nd rfl (by walk_at "lo")) (Zg (Jl (Zdu (Q8 (hu1 hu) (pv 4) (pv 2))) (Zc (ZaP (hu1 hu) (pv 2) (pv 4) Ut rfl)
   (Zg (J4 (ZbD PySem.F.plainAttrs_list PySem.F.slot_list_append PySem.F.type_list_append JL (pv 3) (Za (pv 4) Ze))))) ZA)))))
   (Zg (Zy (Zr (QZ (K:=K)) rfl T.z_sorted Zab (Za (ZI (ZaB rfl) rfl T.z_list JR (Za (pv 2) Ze)) Ze))))))),
   (Zm (Γm:=[.S,.S,.O,.U,.U]) (ZH (i:=2) (ZbY (JD (Zb (Zk (i:=0) rfl) Zd)) U9) (by decide))
   (Zm (Γm:=[.S,.S,.O,.O,.U]) (ZH (i:=3) (JQ (ZY (DE.PF (DE.grd (JD (Zb (Zk (i:=0) rfl) Zd)))) Jr)) (by decide))
   (Zm (Γm:=[.S,.S,.O,.O,.U]) (Qr (Γ:=[.S,.S,.O,.O,.U]) (Z0 (DE.toA (Ze6 (DE.toA (Jh (Zb (Zq (i:=3) (m:=.O) rfl (by decide)) Zd))) (DE.toA Zh))))
   (Zgk (i:=3) (j:=1) (mj:=.S) (Γl:=[.S,.S,.O,.O,.U]) rfl rfl (by decide) rfl (ZcH (i:=4) (by decide))
   (DS.out (Y:=⟨[.S,.S,.O,.O,.P],[.S,.S,.O,.O,.U],[.S,.S,.O,.O,.U],.F⟩) (Y':=⟨[.S,.S,.O,.O,.U],[.S,.S,.O,.O,.U],[.S,.S,.O,.O,.U],.F⟩) (Jo (ZcF (DE.toA (QW (DE.toA (Zn (i:=4) rfl)) (Zq (i:=2) (m:=.O) rfl (by decide)))))
   (Zm (Γm:=[.S,.S,.O,.O,.P]) (Qs (i:=2) rfl (DE.PF U9) (DE.toA (Zn (i:=4) rfl)))
   (UO (i:=3) rfl rfl (DE.PF (Zn (i:=4) rfl))))
   ZB) rfl rfl rfl rfl)))
   (ZV (ZdP (Zb (DE.toA (ZdQ (Zb (Zq (i:=2) (m:=.O) rfl (by decide)) Zd))) Zd)))))), ?_⟩
 refine Pm.ref ZoS (g:=fun xs=>_) ?_
 rintro⟨b,l⟩ ⟨hl,s,hs,F⟩
 simp only at hl F
 simp only[ZoS]
 have hT:Uu [PV.lst (b.map PV.int)]=.ok (ZD b):=rfl
 walk_at "pd"
 rw[hT]
 walk_at "pd"
 rw[Zf6]
 walk_at "pd"
 rw[hT]
 walk_at "pd"
 rw[JC]
 walk_at "pd"
 have hM:∀{M:List (List Int)},M.Nodup->(∀x∈M,Rch (Zj b.length l) b x)->M.length<=1000:=fun nd re=>by
  have:=ZiX F.n1 nd fun x hx=>(re x hx).bs F.hP F.hb
  have:=F.few
  omega
 generalize hw:Vs _ _ _=W
 obtain⟨ρ',rfl,⟨M,S,v,rfl,K⟩,hc⟩:=ZeM hw (fun ρ=>∃M S v,ρ=[.lst (b.map PV.int),.lst (l.map PV.int),.box none (.dt (M.map tI)) (M.map fun _=>.bl true),.lst (S.map ZD),v]/\Stk (Zj b.length l) b M S) Zl8 ⟨[b],[b],_,rfl,by
   exact⟨by simp,fun x hx=>by rw[Ztj.mp hx];exact .refl,by simp,by simp,fun x hx=>hx,fun x hx hs=>absurd hx hs⟩⟩ (by
  rintro ρ ⟨M,S,v,rfl,K⟩
  have m1:=hM K.nd K.re
  have m2:S.length<=1000:=hM K.ns fun x hx=>K.re x (K.sub x hx)
  rcases S.eq_nil_or_concat with rfl|⟨S,x,e⟩
  ·left
   walk_at "pd"
   rfl
  ·right
   rw[List.concat_eq_append] at e
   subst e
   rw[Ztv] at m2
   have hx:=K.re x (K.sub x (by simp))
   have B:=hx.bs F.hP F.hb
   constructor
   ·walk_at "pd"
    rw[Zd6]
    walk_at "pd"
    rw[ZsV,Ztv,decide_eq_true (by simp)]
   ·walk_at "pd"
    rw[Zfs (by omega)]
    walk_at "pd"
    rw[Zqx ⟨by have:=B.1;omega,fun z hz=>⟨B.2.1 z hz,by have:=ZbM B.2.1 hz;have:=B.2.2;omega⟩⟩,B.1]
    walk_at "pd"
    generalize hw2:US _ _ _=W2
    obtain⟨ρ2,rfl,M',S',v2,rfl,J,hmu⟩:=ZL hw2 (fun n ρ=>∃M' S' v,ρ=[.lst (b.map PV.int),.lst (l.map PV.int),.box none (.dt (M'.map tI)) (M'.map fun _=>.bl true),.lst (S'.map ZD),v]/\Stj (Zj b.length l) b x ((Jk (Zj b.length l) x).take n) M' S'/\2*(1001-M'.length)+S'.length<=2*(1001-M.length)+S.length) ⟨M,S,_,rfl,K.pop,ZsX _⟩ (by
     rintro n u ρ hu ⟨M',S',v,rfl,J,hmu⟩
     rw[ZsZ] at hu
     obtain⟨y,hy,rfl⟩:=ZtM.mp hu
     have m3:=hM J.nd J.re
     have m4:S'.length<=1000:=hM J.ns fun z hz=>J.re z (J.sub z hz).1
     have hyr:Rch (Zj b.length l) b y.2:=by
      obtain⟨y1,y2,y3⟩:=Jp.mp (ZsW hy)
      rw[y3];exact .step hx y1 y2
     have J2:=J.one hyr
     have ht:(Jk (Zj b.length l) x).take (n+1)=(Jk (Zj b.length l) x).take n++[y]:=by
      rw[Zvg,hy];rfl
     unfold ZkC
     rw[JC]
     walk_at "pd"
     rw[Zd8]
     walk_at "pd"
     unfold Zm0 at J2
     by_cases c:y.2∈M'
     ·obtain⟨z,hz⟩:=Zac (ks:=M'.map tI) (xs:=M'.map fun _=>PV.bl true) (by simp) (Vu.mpr c)
      rw[if_pos c] at J2
      rw[hz]
      walk_at "pd"
      exact Jw ⟨M',S',_,rfl,by rw[ht];exact J2,hmu⟩
     ·rw[if_neg c] at J2
      have m5:=hM J2.nd J2.re
      rw[Ztv] at m5
      rw[UC (fun z=>c (Vu.mp z))]
      walk_at "pd"
      rw[ZaT rfl (by rw[ZsV];omega),Uq (fun z=>c (Vu.mp z)),Uo (fun z=>c (Vu.mp z))]
      walk_at "pd"
      rw[Qn (by rw[ZsV];omega)]
      walk_at "pd"
      exact Jw ⟨M'++[y.2],S'++[y.2],_,by rw[Zt8,Zt8,Zt8];rfl,by rw[ht];exact J2,by simp only[Ztv,ZuQ] at m5 ⊢;omega⟩)
    walk_at "pd"
    have J3:Stj (Zj b.length l) b x (Jk (Zj b.length l) x) M' S':=by
     rw[ZsV,Zuj] at J;exact J
    exact Jw ⟨⟨M',S',v2,rfl,J3.done⟩,by
     simp only[Zl8,ZsV,Ztv,ZuQ]
     omega⟩)
 have hS:S=[]:=by
  rcases S.eq_nil_or_concat with rfl|⟨S,x,e⟩
  ·rfl
  ·exfalso
   rw[List.concat_eq_append] at e
   subst e
   simp only[Zgb,Zga,Zd6,Rr.bind_ok,ZsV,Ztv] at hc
   have:decide (((S.length+[x].length:Nat):Int)>0)=false:=by simpa[pGt,asB] using hc
   simp at this
 subst hS
 have m1:=hM K.nd K.re
 walk_at "pd"
 rw[show M.map tI=M.map (fun b=>b.map Sum.inl) from rfl,ZbF (by simp) (by omega)]
 walk_at "pd"
 rw[ZbE ⟨fun t ht z=>by have B:=(K.re t ht).bs F.hP F.hb;have:=B.1;have:=F.n1;rw[z] at B;have:=B.1;simp at this;omega,by omega⟩,K.fin F,ZfE J0 (by rw[<- K.fin F,(ZC _).length_eq];omega)]
 walk_at "pd"
theorem ZsB{b l:List Int}(h:b.length<=24/\∃s,s<=100000/\Zbz b.length s (Zj b.length l) b):ZoS.fn [.lst (b.map PV.int),.lst (l.map PV.int)]=.ok (.lst ((ZiU (Zj b.length l) b).map ZD)):=Pm.fn_eq ZoS (b,l) h fun(a:List Int×List Int) e=>by simp only[ZoS] at e ⊢;walk_at "in"
structure Bar(n:Nat)(l:List Int):Prop where
 al:∀p∈l,0<=p/\p<n
 up:l.Pairwise (·<·)
 ne:l≠[]
 nn:l.length≠n
theorem Bar.barB{n:Nat}{l:List Int}(h:Bar n l):ZmB n l:=by
 refine⟨h.al, ?_,fun z=>h.ne (List.length_eq_zero_iff.mp z),h.nn⟩
 unfold riB
 refine ZtF.mpr fun i hi=>decide_eq_true ?_
 have hi:=Zty.mp hi
 have:=ZtR.mp h.up i (i+1) (by omega) (by omega) (by omega)
 rw[ZsS,ZsS,ZsT (show i<l.length by omega),ZsT (show i+1<l.length by omega)]
 exact this
theorem ZaS{g:Bool->Bool}{n:Nat}{x:PV}(h:Dat n x)(hn:n<=64:=by decide):Zb1 g x x=.ok (.bl (g true)):=by
 unfold Zb1
 rw[h.ok hn,Bool.and_self,if_pos rfl,PySem.SeqAt.eqv_refl _ h.can]
theorem Zft{n:Nat}{s:Int}{b l:List Int}(h2:2<=n)(h24:n<=24)(hs:s<=10^60)(hB:Bs n s b)(hl:Bar n l)(hc:cbN n s<=1000)(hll:l.length<=1000):Zad b l:=by
 obtain⟨e1,e2,e3⟩:=hB
 exact⟨⟨by omega,by omega,e2,by omega⟩,by rw[e1];exact hl.barB,by rw[e1,e3];exact hc,hll⟩
theorem Zmk(N:List Int)(f:Int)(n:Nat):(brI N f n).Pairwise (·<·):=by
 unfold brI
 rw[ZtU]
 exact(List.pairwise_lt_range.filter _).imp fun h=>by omega
theorem Zml(N:List Int)(f:Int)(n:Nat):∀p∈brI N f n,0<=p/\p<n:=fun p hp=>by
 unfold brI at hp
 obtain⟨k,hk,rfl⟩:=Ztm.mp hp
 have:=Zty.mp (ZtA.mp hk).1
 omega
theorem Zmj(N:List Int)(f:Int){n:Nat}(h:2<=n):Bar n (brV N f n)/\(brV N f n).length<=n:=by
 have hJ:(∀p∈brJ N f n,0<=p/\p<n)/\(brJ N f n).Pairwise (·<·)/\brJ N f n≠[]/\(brJ N f n).length<=n:=by
  unfold brJ
  rw[Zt4]
  by_cases c:brI N f n=[]
  ·rw[if_pos c]
   have y0:=Ztp (nAt N 5/(1+24*f)) (show (n:Int)≠0 by omega)
   have y1:=Ztg (nAt N 5/(1+24*f)) (show (0:Int)<n by omega)
   exact⟨fun p hp=>by rw[Ztj.mp hp];exact⟨y0,y1⟩,ZuG _ _,by simp,by simp;omega⟩
  ·rw[if_neg c]
   refine⟨Zml N f n,Zmk N f n,c, ?_⟩
   unfold brI
   rw[ZsV]
   exact Ztr (ZtH _ _) (by simp)
 obtain⟨j1,j2,j3,j4⟩:=hJ
 unfold brV
 generalize brJ N f n=J at j1 j2 j3 j4
 have y0:=Ztp (nAt N 6/(1+24*f)) (show (n:Int)≠0 by omega)
 have y1:=Ztg (nAt N 6/(1+24*f)) (show (0:Int)<n by omega)
 by_cases c:(J.length:Int)=n
 ·rw[if_pos c]
  have hl:(J.eraseIdx (nAt N 6/(1+24*f)%(n:Int)).toNat).length=n-1:=by
   rw[List.length_eraseIdx,if_pos (by omega)];omega
  exact⟨⟨fun p hp=>j1 p (List.mem_of_mem_eraseIdx hp),j2.sublist (List.eraseIdx_sublist _ _),fun z=>by rw[z] at hl;simp at hl;omega,by omega⟩,by omega⟩
 ·rw[if_neg c]
  exact⟨⟨j1,j2,j3,by omega⟩,j4⟩
noncomputable def ZnQ:Bool:=(List.range 25).all fun(p:Nat)=>(List.range 79).all fun(s:Nat)=>decide ((p=2\/(p=3/\s<25)\/(p<6/\s<9)\/s<3)->cbN p s<=1000)
theorem ZlP:ZnQ=true:=by decide +kernel
structure BdO(b:List Int):Prop where
 lo:2<=b.length
 hi:b.length<=24
 nn:∀x∈b,0<=x
 sm:b.sum<=78
 few:cbN b.length b.sum<=1000
theorem ZhQ{n:Nat}{b:List Int}{s:Int}(B:Bs n s b)(h2:2<=n)(h24:n<=24)(hs:s<=78)(hc:n=2\/(n=3/\s<25)\/(n<6/\s<9)\/s<3):BdO b:=by
 have h0:=sum_nn B.2.1
 obtain⟨e1,e2,e⟩:=B
 subst e1 e
 have h:=ZtF.mp (ZtF.mp ZlP b.length (Zty.mpr (by omega))) b.sum.toNat (Zty.mpr (by omega))
 have:=of_decide_eq_true h (by omega)
 rw[Zt6 (by omega)] at this
 exact⟨h2,h24,e2,by omega,this⟩
theorem Zmn(N:List Int){f:Int}(h0:0<=f)(h1:f<=1):BdO (bdV N f):=by
 unfold bdV
 have hp:bdN N f=if nAt N 1/(1+7*f)%8=1 then 6+nAt N 0/(1+4*f)%19 else 2+nAt N 0/(1+4*f)%4:=rfl
 generalize bdN N f=p at hp
 have r0:=Ztp (nAt N 0/(1+4*f)) (show (19:Int)≠0 by omega)
 have r1:=Ztg (nAt N 0/(1+4*f)) (show (0:Int)<19 by omega)
 have r2:=Ztp (nAt N 0/(1+4*f)) (show (4:Int)≠0 by omega)
 have r3:=Ztg (nAt N 0/(1+4*f)) (show (0:Int)<4 by omega)
 generalize nAt N 0/(1+4*f)%19=u at *
 generalize nAt N 0/(1+4*f)%4=u' at *
 have pos:∀x:Int,0<p->0<=x%p/\x%p<p.toNat:=fun x hp=>by
  have:=Ztp x (show p≠0 by omega)
  have:=Ztg x hp
  omega
 by_cases c1:nAt N 1/(1+7*f)%8=1
 ·rw[if_pos c1] at hp ⊢
  have B:=ZjT (n:=p.toNat) (L:=[nAt N (20+f)%p,nAt N (22+f)%p]) fun a ha=>by
   simp only[Zti,Zvo,or_false] at ha
   rcases ha with rfl|rfl
   ·exact pos _ (by omega)
   ·exact pos _ (by omega)
  exact ZhQ (s:=2) B (by omega) (by omega) (by omega) (.inr (.inr (.inr (by omega))))
 ·rw[if_neg c1] at hp ⊢
  by_cases c2:nAt N 1/(1+7*f)%8=2
  ·rw[if_pos c2]
   have a0:=Ztp (nAt N (20+f)) (show (40:Int)≠0 by omega)
   have a1:=Ztg (nAt N (20+f)) (show (0:Int)<40 by omega)
   have a2:=Ztp (nAt N (22+f)) (show (40:Int)≠0 by omega)
   have a3:=Ztg (nAt N (22+f)) (show (0:Int)<40 by omega)
   refine ZhQ (s:=nAt N (20+f)%40+nAt N (22+f)%40) ⟨rfl,fun x hx=>?_,by simp⟩ (by simp) (by simp) (by omega) (.inl rfl)
   simp only[Zti,Zvo,or_false] at hx
   rcases hx with rfl|rfl<;>omega
  ·rw[if_neg c2]
   by_cases c3:nAt N 1/(1+7*f)%8=3
   ·rw[if_pos c3]
    have q:∀k:Nat,0<=nAt N (20+2*f+k)/3%9/\nAt N (20+2*f+k)/3%9<=8:=fun k=>by
     have:=Ztp (nAt N (20+2*f+k)/3) (show (9:Int)≠0 by omega)
     have:=Ztg (nAt N (20+2*f+k)/3) (show (0:Int)<9 by omega)
     omega
    generalize hg:(fun(k:Nat)=>nAt N (20+2*f+k)/3%9)=g
    have q:∀k:Nat,0<=g k/\g k<=8:=fun k=>by rw[<- hg];exact q k
    have q0:=q 0
    have q1:=q 1
    have q2:=q 2
    refine ZhQ (s:=g 0+(g 1+g 2)) ⟨rfl,fun x hx=>?_, ?_⟩ (by simp) (by simp) (by omega) (.inr (.inl ⟨by simp,by omega⟩))
    ·obtain⟨k,_,rfl⟩:=Ztm.mp hx
     exact(q k).1
    ·show ([g 0,g 1,g 2]:List Int).sum=_
     simp
   ·rw[if_neg c3]
    have a0:=Ztp (nAt N 4/(1+9*f)) (show (9:Int)≠0 by omega)
    have a1:=Ztg (nAt N 4/(1+9*f)) (show (0:Int)<9 by omega)
    generalize nAt N 4/(1+9*f)%9=m at a0 a1
    have B:=ZjT (n:=p.toNat) (L:=(List.range m.toNat).map fun(k:Nat)=>nAt N (24+9*f+k)/5%p) fun a ha=>by
     obtain⟨k,_,rfl⟩:=Ztm.mp ha
     exact pos _ (by omega)
    rw[ZsV,ZuN] at B
    exact ZhQ B (by omega) (by omega) (by omega) (.inr (.inr (.inl ⟨by omega,by omega⟩)))
theorem ZfJ{g:Bool->Bool}{L:List (List Int)}{y:List Int}:ZiE g (ZD y) (UY L)=.ok (.bl (g (decide (y∈L)))):=by
 unfold UY
 rw[Zd8]
 by_cases c:y∈L
 ·obtain⟨z,hz⟩:=Zac (ks:=L.map tI) (xs:=L.map fun _=>PV.bl true) (by simp) (Vu.mpr c)
  rw[hz,decide_eq_true c];rfl
 ·rw[UC (fun z=>c (Vu.mp z)),decide_eq_false c];rfl
theorem dat_lsts(L:List (List Int)):Dat 2 (.lst (L.map Vj)):=ZcK fun x hx=>by
 obtain⟨y,_,rfl⟩:=Ztm.mp hx
 exact ZdT _
theorem ZfK{n:Nat}{s:Int}{l b:List Int}(F:UW n s l b){x:List Int}:x∈ZbK (Zj n l) (enF n l b) ↔ Rch (Zj n l) b x/\wtB (Zj n l) x=0:=by
 unfold ZbK
 rw[(ZC _).mem_iff,ZtA,F.mem,decide_eq_true_eq]
theorem Zjh{n:Nat}{s:Int}{l b:List Int}(F:UW n s l b):wtB (Zj n l) b=0 ↔ ¬∃y∈Jk (Zj n l) b,wtB (Zj n l) y.2=0:=by
 have e:wtB (Zj n l) b=(ZfF ((Jk (Zj n l) b).map fun y=>wtB (Zj n l) y.2):Nat):=F.wt
 obtain⟨m1,_,m3⟩:=Zc3 ((Jk (Zj n l) b).map fun y=>wtB (Zj n l) y.2)
 refine⟨fun z ⟨y,hy,ey⟩=>m1 (Ztm.mpr ⟨y,hy,by omega⟩),fun z=>?_⟩
 apply Classical.byContradiction
 intro c
 obtain⟨y,hy,ey⟩:=Ztm.mp (m3 0 (by omega))
 exact z ⟨y,hy,ey⟩
theorem Zer{n:Nat}{s:Int}{l b:List Int}(F:UW n s l b)(h24:n<=24)(hs:s<=100000)(hl:(ZbK (Zj n l) (enF n l b)).length<=1000):ZgE n (ZiU (Zj n l) b) l (ZbK (Zj n l) (enF n l b)):=by
 have hm:=fun {x}=>ZfK F (x:=x)
 refine⟨h24, ?_,hl,fun x hx=>?_,fun x hx=>?_, ?_⟩
 ·unfold ZiU
  rw[(ZC _).length_eq]
  exact F.f.le _
 ·have B:=(F.f.com.mp hx).bs F.f.hP F.f.hb
  exact⟨B.1,fun z hz=>⟨B.2.1 z hz,by have:=ZbM B.2.1 hz;have:=B.2.2;omega⟩⟩
 ·have rx:=F.f.com.mp hx
  rw[hm,and_iff_right rx,Zjh (F.go rx)]
  refine not_congr ⟨fun⟨y,hy,e⟩=>⟨y,hy,hm.mpr ⟨?_,e⟩⟩,fun⟨y,hy,e⟩=>⟨y,hy,(hm.mp e).2⟩⟩
  obtain⟨y1,y2,y3⟩:=Jp.mp hy
  rw[y3];exact .step rx y1 y2
 ·refine List.Perm.length_eq ((List.perm_ext_iff_of_nodup ((Zkr _ _).filter _) ((ZC _).nodup_iff.mpr ((Za5 n l b).filter _))).mpr fun x=>?_)
  rw[ZtA,decide_eq_true_eq]
  exact⟨fun z=>z.2,fun z=>⟨F.f.com.mpr (hm.mp z).1,z⟩⟩
noncomputable def ZrI:Pm:=⟨List Int,fun ns=>[.lst (ns.map PV.int)],fun ns=>ns.length<=63,fun _=>.ok (.bl true)⟩
theorem ZsP(T:Txt K mg){f:Addr}{fd:FuncData}(F:Fun K "law" "law" ZsL f fd):J1 P w K mg base CX0 9 f fd ["script"] (spF K 1 .P W0 ZrI.fn):=by
 have Zro:=JT (P:=P) (w:=w) (base:=base) T.Zra ZqN (fun F=>ZqB T F)
 have Zsh:=JT (P:=P) (w:=w) (base:=base) T.ZrR ZrC (fun F=>Zrx T F)
 have ZrH:=JT (P:=P) (w:=w) (base:=base) T.Zr2 Zrj (fun F=>ZqV T F)
 have Zrp:=JT (P:=P) (w:=w) (base:=base) T.Zs4 Zsw (fun F=>Zsl T F)
 have Zs2:=JT (P:=P) (w:=w) (base:=base) T.Zsr Zsb (fun F=>ZrL T F)
 have Zsi:=JT (P:=P) (w:=w) (base:=base) T.ZrS ZrD (fun F=>Zry T F)
 have ZrG:=JT (P:=P) (w:=w) (base:=base) T.Zr1 Zri (fun F=>ZqU T F)
 have ZsF:=JT (P:=P) (w:=w) (base:=base) T.Zs7 Zsz (fun F=>Zso T F)
 have Zo9:=JT (P:=P) (w:=w) (base:=base) T.Zpq Zpe (fun F=>Zpd T F)
 have Zqe:=JT (P:=P) (w:=w) (base:=base) T.ZqF Zqy (fun F=>Zqu T F)
 refine F.okP Zqf rfl rfl (fun cdv A outer s H E hr=>?_)
 have hu:=hr.units
 refine⟨_,_,⟨[],[],[],.P⟩,rfl,(Zc (Z2 (i:=1) Zqf.nd rfl (by walk_at "lo") (Zp Zro (hr.mono (by decide)) rfl (Za (pv 0) (Za Zi Ze))))
   (Zc (Z2 (i:=2) Zqf.nd rfl (by walk_at "lo") (Zp Zsh (hr.mono (by decide)) rfl (Za (pv 1) (Za Zi Ze))))
   (Zc (Z2 (i:=3) Zqf.nd rfl (by walk_at "lo") (Zp ZrH (hr.mono (by decide)) rfl (Za (pv 1) (Za Zi (Za (Zr (Z6 (K:=K)) rfl T.z_len Jf (Za (pv 2) Ze)) Ze)))))
   (Zc (Z2 (i:=4) Zqf.nd rfl (by walk_at "lo") (JJ (Za (ZI (Vn (K:=K)) rfl T.z_list JR (Za (pv 2) Ze)) (Za (ZI (Vn (K:=K)) rfl T.z_list JR (Za (pv 3) Ze)) Ze))))
   (Zc (Z2 (i:=5) Zqf.nd rfl (by walk_at "lo") (Zp Zrp (hr.mono (by decide)) rfl (Za (ZK (Zs (K:=K)) (pv 4) Zi (fun _ _=>rfl)) (Za (ZK (Zs (K:=K)) (pv 4) Zi (fun _ _=>rfl)) Ze))))
   (Zc (Jl (PW.pt (UH (Z4 (Zav (K:=K) hu) (pv 4) (JJ (Za (pv 2) (Za (pv 3) Ze))) (ZF _)) (UH (Vi (Vv (Zr (Js (K:=K) (n := "tuple") rfl) rfl T.z_isinstance ZM (Za (pv 5) (Za (Vp (v:=.ty "tuple") rfl T.z_tuple Ziq rfl) Ze))))) (VO (Z4 (Zav (K:=K) hu) (Zr (Z6 (K:=K)) rfl T.z_len Jf (Za (pv 5) Ze)) Zi (ZF _)))))) (Zg (Zy Ut)) ZA)
   (Zc (Z2 (i:=6) Zqf.nd rfl (by walk_at "lo") (Zp Zs2 (hr.mono (by decide)) rfl (Za (ZK (Zs (K:=K)) (pv 5) Zi (fun _ _=>rfl)) (Za (Zr (Z6 (K:=K)) rfl T.z_len Jf (Za (pv 2) Ze)) Ze))))
   (Zc (Jl (PW.pt (UH (Z4 ZiG (pv 6) Us (ZF _)) (VO (Vi (Vv (Zp ZrG (hr.mono (by decide)) rfl (Za (Zp ZsF (hr.mono (by decide)) rfl (Za (pv 2) (Za (pv 3) Ze))) (Za (pv 3) (Za (pv 6) Ze))))))))) (Zg (Zy Ut)) ZA)
   (Zc (Jl (Zdu (Zd2 (hu1 hu) (ZI (ZZ (K:=K)) rfl T.z_tuple Jt (Za (pv 2) Ze)) (pv 6))) (Zg (Jl (PW.pt (UH (Z4 (Zav (K:=K) hu) (ZK (Zs (K:=K)) (pv 5) Zi (fun _ _=>rfl)) Zdy (ZF _)) (VO (Z4 ZjK (ZK (Zs (K:=K)) (pv 5) Zi (fun _ _=>rfl)) Us (ZF _))))) (Zg (Zy Ut)) ZA)) (Zc (Z2 (i:=7) Zqf.nd rfl (by walk_at "lo") (ZK (Zs (K:=K)) (pv 5) Zi (fun _ _=>rfl)))
   (Zc (Jl (PW.pt (UH (Z4 (Zav (K:=K) hu) (ZK (Zs (K:=K)) (pv 5) Zi (fun _ _=>rfl)) Zdy (ZF _)) (UH (Vi (Vv (Zp Zo9 (hr.mono (by decide)) rfl (Za (pv 7) Ze)))) (VO (Vi (Zhf Zl3 Zf8 Zi (pv 7) (Zr (Z6 (K:=K)) rfl T.z_len Jf (Za (pv 2) Ze)) (by rfl))))))) (Zg (Zy Ut)) ZA)
   (Zg (Jl (PW.pt (UH (Z4 (J9 (K:=K) hu) (ZK (Zs (K:=K)) (pv 2) (pv 7) (fun _ _=>rfl)) Zi (ZF _)) (UH (Z4 (ZiH (K:=K) hu) (pv 7) (pv 3) rfl) (VO (Zdu (Q8 (hu1 hu) (Zp Zqe (hr.mono (by decide)) rfl (Za (pv 2) (Za (pv 7) Ze))) (pv 6))))))) (Zg (Zy Ut)) ZA)))))
   (Zc (Q5 (i:=8) Zqf.nd rfl (ZQ (K:=K) (ZK (Zs (K:=K)) (pv 5) Zi (fun _ _=>rfl))) (fun _ _ _ _=>(ZI (Vn (K:=K)) rfl T.z_list JR (Za (pv 9) Ze))) rfl)
   (Zc (Jl (Vi (Vv (Zp Zsi (hr.mono (by decide)) rfl (Za (ZK (Zs (K:=K)) (pv 5) Zi (fun _ _=>rfl)) (Za (pv 8) Ze))))) (Zg (Zy Ut)) ZA)
   (Zg (Zy (Zas (VY (J9 (K:=K) hu) (Zp Zrp (hr.mono (by decide)) rfl (Za (ZK (Zs (K:=K)) (pv 4) Zi (fun _ _=>rfl)) (Za (ZK (Zs (K:=K)) (pv 4) Zi (fun _ _=>rfl)) Ze))) (UR (Za (ZK (Zs (K:=K)) (pv 5) Zi (fun _ _=>rfl)) (Za (ZK (Zs (K:=K)) (pv 5) Zi (fun _ _=>rfl)) (Za (pv 8) Ze)))) (ZF _)) (Zar (VY (J9 (K:=K) hu) (pv 4) (JJ (Za (pv 2) (Za (pv 3) Ze))) (ZF _))))))))))))))))),
   (Zm (Γm:=[.S,.O,.U,.U,.U,.U,.U,.U,.U]) (ZH (i:=1) (Zai (Zf (Zf Zw)) (Zb (Zk (i:=0) rfl) (Zb (DE.toA Zh) Zd))) (by decide))
   (Zm (Γm:=[.S,.O,.O,.U,.U,.U,.U,.U,.U]) (ZH (i:=2) (Zai (Zf (Zf Zw)) (Zb (Zq (i:=1) (m:=.O) rfl (by decide)) (Zb (DE.toA Zh) Zd))) (by decide))
   (Zm (Γm:=[.S,.O,.O,.O,.U,.U,.U,.U,.U]) (ZH (i:=3) (Zai (Zf (Zf (Zf Zw))) (Zb (Zq (i:=1) (m:=.O) rfl (by decide)) (Zb (DE.toA Zh) (Zb (DE.toA (Jh (Zb (Zq (i:=2) (m:=.O) rfl (by decide)) Zd))) Zd)))) (by decide))
   (Zm (Γm:=[.S,.O,.O,.O,.O,.U,.U,.U,.U]) (ZH (i:=4) (JQ (ZY (U7 (Zb (Zq (i:=2) (m:=.O) rfl (by decide)) Zd)) (ZY (U7 (Zb (Zq (i:=3) (m:=.O) rfl (by decide)) Zd)) Jr))) (by decide))
   (Zm (Γm:=[.S,.O,.O,.O,.O,.O,.U,.U,.U]) (ZH (i:=5) (Zai (Zf (Zf Zw)) (Zb (Z3 (te:=tC .non) (Zq (i:=4) (m:=.O) rfl (by decide)) (DE.toA Zh)) (Zb (Z3 (te:=tC .non) (Zq (i:=4) (m:=.O) rfl (by decide)) (DE.toA Zh)) Zd))) (by decide))
   (Zm (Γm:=[.S,.O,.O,.O,.O,.O,.U,.U,.U]) (Jo (UN (Z0 (DE.toA (Jj (g:=(!·)) (Zq (i:=4) (m:=.O) rfl (by decide)) (Zgp (Zb (Zq (i:=2) (m:=.O) rfl (by decide)) (Zb (Zq (i:=3) (m:=.O) rfl (by decide)) Zd)))))) (UN (Vw (ZcF (DE.toA (U8 (Zq (i:=5) (m:=.O) rfl (by decide)))))) (Z0 (DE.toA (Jj (g:=(!·)) (DE.toA (Jh (Zb (Zq (i:=5) (m:=.O) rfl (by decide)) Zd))) (DE.toA Zh))))))
   (Z9 U9)
   ZB)
   (Zm (Γm:=[.S,.O,.O,.O,.O,.O,.O,.U,.U]) (ZH (i:=6) (Zai (Zf (Zf Zw)) (Zb (Z3 (te:=tC .non) (Zq (i:=5) (m:=.O) rfl (by decide)) (DE.toA Zh)) (Zb (DE.toA (Jh (Zb (Zq (i:=2) (m:=.O) rfl (by decide)) Zd))) Zd))) (by decide))
   (Zm (Γm:=[.S,.O,.O,.O,.O,.O,.O,.U,.U]) (Jo (UN (Z0 (DE.toA (ZiT (Zq (i:=6) (m:=.O) rfl (by decide))))) (Vw (ZcF (DE.toA (QX (Zf (Zf (Zf Zw))) (Zb (DE.toA (Zai (Zf (Zf Zw)) (Zb (Zq (i:=2) (m:=.O) rfl (by decide)) (Zb (Zq (i:=3) (m:=.O) rfl (by decide)) Zd)))) (Zb (Zq (i:=3) (m:=.O) rfl (by decide)) (Zb (Zq (i:=6) (m:=.O) rfl (by decide)) Zd))))))))
   (Z9 U9)
   ZB)
   (Zm (Γm:=[.S,.O,.O,.O,.O,.O,.O,.U,.U]) (Jo (ZcF (DE.toA (ZdS (JD (Zb (Zq (i:=2) (m:=.O) rfl (by decide)) Zd)) (Zq (i:=6) (m:=.O) rfl (by decide)))))
   (Jo (UN (Z0 (DE.toA (Jj (g:=(!·)) (Z3 (te:=tC .non) (Zq (i:=5) (m:=.O) rfl (by decide)) (DE.toA Zh)) (DE.toA ZdO)))) (Z0 (DE.toA (Zkl (Z3 (te:=tC .non) (Zq (i:=5) (m:=.O) rfl (by decide)) (DE.toA Zh))))))
   (Z9 U9)
   ZB)
   (DS.out (Y:=⟨[.S,.O,.O,.O,.O,.O,.O,.P,.U],[],[],.P⟩) (Y':=⟨[.S,.O,.O,.O,.O,.O,.O,.U,.U],[],[],.P⟩) (Zm (Γm:=[.S,.O,.O,.O,.O,.O,.O,.P,.U]) (ZO (i:=7) (DE.grd (Z3 (te:=tC .non) (Zq (i:=5) (m:=.O) rfl (by decide)) (DE.toA Zh))) (by decide))
   (Zm (Γm:=[.S,.O,.O,.O,.O,.O,.O,.P,.U]) (Jo (UN (Z0 (DE.toA (Jj (g:=(!·)) (Z3 (te:=tC .non) (Zq (i:=5) (m:=.O) rfl (by decide)) (DE.toA Zh)) (DE.toA ZdO)))) (UN (Vw (ZcF (DE.toA (QX (Zf Zw) (Zb (DE.toA (Zn (i:=7) rfl)) Zd))))) (Vw (Z0 (DE.toA (Zie (p:=fun i j=>decide (i<=j)) (q:=fun i j=>decide (i<j)) (DE.toA Zh) (DE.toA (Zn (i:=7) rfl)) (DE.toA (Jh (Zb (Zq (i:=2) (m:=.O) rfl (by decide)) Zd)))))))))
   (Z9 U9)
   ZB)
   (Jo (UN (Z0 (DE.toA (Jj (g:=id) (Z3 (te:=tC .non) (Zq (i:=2) (m:=.O) rfl (by decide)) (DE.toA (Zn (i:=7) rfl))) (DE.toA Zh)))) (UN (Z0 (DE.toA (ZbX (g:=id) (DE.toA (Zn (i:=7) rfl)) (Zq (i:=3) (m:=.O) rfl (by decide))))) (ZcF (DE.toA (QW (DE.toA (QX (Zf (Zf Zw)) (Zb (Zq (i:=2) (m:=.O) rfl (by decide)) (Zb (DE.toA (Zn (i:=7) rfl)) Zd)))) (Zq (i:=6) (m:=.O) rfl (by decide)))))))
   (Z9 U9)
   ZB))) rfl rfl rfl rfl))
   (Zm (Γm:=[.S,.O,.O,.O,.O,.O,.O,.U,.O]) (Ue (i:=8) (Zid (Jz (DI.c (Jc (Zmg (te:=tC .non) (JP (i:=5) rfl) (DE.toA Zh)))) (U7 (Zb (Zk (i:=9) rfl) Zd)))) (by decide))
   (Zm (Γm:=[.S,.O,.O,.O,.O,.O,.O,.U,.O]) (ZlY (Zke (ZbW (i:=5) (c:=2) rfl (Zf Zw) (Zii (ZcI (l:=8) (md:=.O) rfl (by decide)) Zgs)))
   (Z9 U9)
   ZB)
   (Z9 (Za9 (DE.toA (Jj (g:=id) (DE.toA (Zai (Zf (Zf Zw)) (Zb (Z3 (te:=tC .non) (Zq (i:=4) (m:=.O) rfl (by decide)) (DE.toA Zh)) (Zb (Z3 (te:=tC .non) (Zq (i:=4) (m:=.O) rfl (by decide)) (DE.toA Zh)) Zd)))) (QV (Zb (Z3 (te:=tC .non) (Zq (i:=5) (m:=.O) rfl (by decide)) (DE.toA Zh)) (Zb (Z3 (te:=tC .non) (Zq (i:=5) (m:=.O) rfl (by decide)) (DE.toA Zh)) (Zb (Zq (i:=8) (m:=.O) rfl (by decide)) Zd)))))) (Jj (g:=id) (Zq (i:=4) (m:=.O) rfl (by decide)) (Zgp (Zb (Zq (i:=2) (m:=.O) rfl (by decide)) (Zb (Zq (i:=3) (m:=.O) rfl (by decide)) Zd))))))))))))))))), ?_⟩
 refine Pm.ref ZrI (g:=fun xs=>_) ?_
 intro (ns:List Int) (hn:ns.length<=63)
 simp only[ZrI]
 walk_at "pd"
 rw[Zrf ⟨by omega,by omega,by omega⟩]
 have hN:(Zep ns (63:Int).toNat).length=63:=ZbI ..
 generalize Zep ns (63:Int).toNat=N at hN
 walk_at "pd"
 rw[ZrX ⟨hN,by omega,by omega⟩]
 have hB:=Zmn N (f:=0) (by omega) (by omega)
 generalize bdV N 0=b at hB
 obtain⟨b2,b24,bn,bs,bf⟩:=hB
 have hbl:b.length<=1000:=by omega
 walk_at "pd"
 rw[Zr6 ⟨hN,⟨by omega,by omega⟩,by omega,by omega⟩]
 obtain⟨L,hll⟩:=Zmj N 0 b2
 generalize brV N 0 b.length=l at L hll
 have hll2:l.length<=1000:=by omega
 have B:Bs b.length b.sum b:=⟨rfl,bn,rfl⟩
 have PX:=Zft (b:=b) (l:=l) (by omega) (by omega) (by omega) B L bf hll2
 have hC:=Zs8 PX
 obtain⟨_,_,_,F⟩:=Zdv PX
 have hk0:∀x y:PV,pIx (.lst [x,y]) (.int 0)=.ok x:=fun _ _=>rfl
 have hk1:∀x y:PV,pIx (.lst [x,y]) (.int 1)=.ok y:=fun _ _=>rfl
 have hE:∀g:Bool->Bool,Zb1 g (.lst [.lst (b.map PV.int),.lst (l.map PV.int)]) (.lst [.lst (b.map PV.int),.lst (l.map PV.int)])=.ok (.bl (g true)):=fun g=>by
  have:=Zhu (g:=g) [b,l] [b,l]
  rw[decide_eq_true rfl] at this
  exact this
 walk_at "pd"
 rw[hk0,hk1]
 walk_at "pd"
 rw[hC]
 walk_at "pd"
 rw[hE]
 have hle:(ZbK (Zj b.length l) (enF b.length l b)).length<=1000:=by
  unfold ZbK
  rw[(ZC _).length_eq]
  exact Ztr (ZtH _ _) F.len
 have hmem:∀{x:List Int},x∈ZbK (Zj b.length l) (enF b.length l b) ↔ Rch (Zj b.length l) b x/\wtB (Zj b.length l) x=0:=fun {x}=>ZfK F
 have hnd:(ZbK (Zj b.length l) (enF b.length l b)).Nodup:=(ZC _).nodup_iff.mpr ((Za5 b.length l b).filter _)
 have hup:(ZbK (Zj b.length l) (enF b.length l b)).Pairwise fun x y=>HT.Z1 x y=true:=Zcq ((Za5 b.length l b).filter _)
 have hpart:=Zer F b24 (by omega) hle
 have hxl:∀x∈ZbK (Zj b.length l) (enF b.length l b),x.length=b.length:=fun x hx=>((hmem.mp hx).1.bs F.f.hP F.f.hb).1
 have hb0:b∈ZbK (Zj b.length l) (enF b.length l b) ↔ wtB (Zj b.length l) b=0:=⟨fun z=>(hmem.mp z).2,fun z=>hmem.mpr ⟨.refl,z⟩⟩
 have hst:wtB (Zj b.length l) b≠0->stW (Zj b.length l) b 0∈Jk (Zj b.length l) b/\(stW (Zj b.length l) b 0).2∈ZbK (Zj b.length l) (enF b.length l b):=fun z=>by
  have:=ZkG (Zj b.length l) b
  obtain⟨y,hy,ey⟩:=Zit F (k:=0) (by omega)
  obtain⟨s1,s2,_⟩:=Zi3 (w:=0) ⟨y,hy,by omega⟩
  obtain⟨z1,z2,z3⟩:=Jp.mp s1
  exact⟨s1,hmem.mpr ⟨by rw[z3];exact .step .refl z1 z2,s2⟩⟩
 have hall:=ZsB ⟨b24,b.sum,by omega,F.f⟩
 have hw3:∃x0 x1,ZkH b l=.tup [x0,x1,.lst ((ZbK (Zj b.length l) (enF b.length l b)).map Vj)]/\Dat 1 x0/\Dat 1 x1/\((wtB (Zj b.length l) b=0/\x0=.str "second"/\x1=.non)\/(wtB (Zj b.length l) b≠0/\x0=.str "first"/\x1=.int (stW (Zj b.length l) b 0).1)):=by
  unfold ZkH
  by_cases c:wtB (Zj b.length l) b=0
  ·rw[if_pos c]
   exact⟨_,_,rfl,(Zgr (by rw[PyData.canLay0];decide +kernel)).up (by decide),(show Dat 0 PV.non from ⟨rfl,by simp[PV.dat,PyData.canLay0],by simp[PV.dat,PyData.depth]⟩).up (by decide),.inl ⟨c,rfl,rfl⟩⟩
  ·rw[if_neg c]
   exact⟨_,_,rfl,(Zgr (by rw[PyData.canLay0];decide +kernel)).up (by decide),(Zbp _).up (by decide),.inr ⟨c,rfl,rfl⟩⟩
 obtain⟨x0,x1,hW,dx0,dx1,hcase⟩:=hw3
 rw[hW] at hC ⊢
 generalize ZbK (Zj b.length l) (enF b.length l b)=Ls at *
 walk_at "pd"
 rw[Zsv ⟨hle,b24,by omega,hxl,hnd,hup⟩]
 walk_at "pd"
 rw[show Zk7 id (UY Ls)=.ok (.bl false) from rfl]
 walk_at "pd"
 rw[hall]
 walk_at "pd"
 rw[Zr5 hpart]
 walk_at "pd"
 rw[show Uu [PV.lst (b.map PV.int)]=.ok (ZD b) from rfl]
 walk_at "pd"
 rw[ZfJ]
 walk_at "pd"
 generalize hT:(fun(ρ:List PV)=>RS.seq (Rr.thenS (Rr.bind (Rr.bind (pIx _ _) asL) _) _) _)=TAIL
 have tail:∀v7:PV,TAIL [.lst (ns.map PV.int),.lst (N.map PV.int),.lst (b.map PV.int),.lst (l.map PV.int),.lst [.lst (b.map PV.int),.lst (l.map PV.int)],.tup [x0,x1,.lst (Ls.map Vj)],UY Ls,v7,.non]=.ret (.bl true):=by
  intro v7
  rw[<- hT]
  clear hT TAIL
  walk_at "pd"
  rw[ZdH (q:=Vj) (g:=Vj) (fun x hx=>by
   have:=hxl x hx
   exact UJ (by omega))]
  walk_at "pd"
  rw[show pHole (.tup [x0,x1,.lst (Ls.map Vj)]) 2=.ok (.lst (Ls.map Vj),.tup [x0,x1,.any]) from rfl]
  walk_at "pd"
  rw[ZrY ⟨hle,fun q hq=>by have:=hxl q hq;omega⟩]
  walk_at "pd"
  rw[hk0,hk1]
  walk_at "pd"
  rw[hC]
  walk_at "pd"
  rw[ZaS (n:=3) (Zkp fun a ha=>by
   simp only[Zti,Zvo,or_false] at ha
   rcases ha with rfl|rfl|rfl
   ·exact dx0.up (by decide)
   ·exact dx1.up (by decide)
   ·exact dat_lsts _)]
  walk_at "pd"
  rw[hE]
  walk_at "pd"
 rcases hcase with ⟨c,rfl,rfl⟩|⟨c,rfl,rfl⟩
 ·rw[decide_eq_true (hb0.mpr c)]
  walk_at "pd"
  rw[ZaS dx0]
  walk_at "pd"
  rw[tail]
  rfl
 ·rw[decide_eq_false (fun z=>c (hb0.mp z))]
  walk_at "pd"
  rw[ZaS dx0]
  walk_at "pd"
  rw[Zpr]
  walk_at "pd"
  obtain⟨s1,s3⟩:=hst c
  generalize stW (Zj b.length l) b 0=z at *
  obtain⟨z1,z2,z3⟩:=Jp.mp s1
  obtain⟨z4,z5⟩:=VA.mp z1
  have z6:=ZbM bn (v:=b.getD z.1.toNat 0) (by rw[ZsS,ZsT (show z.1.toNat<b.length by omega),ZtZ];exact Zue _)
  rw[show (decide ((0:Int)<=z.1)&&decide (z.1<(b.length:Int)))=true by rw[decide_eq_true z4.1,decide_eq_true z4.2];rfl]
  walk_at "pd"
  rw[decide_eq_false (show ¬b.getD z.1.toNat 0=0 by omega)]
  walk_at "pd"
  rw[JK,decide_eq_false z5]
  walk_at "pd"
  have hsw:=UU (t:=false) (b:=b) (p:=z.1) ⟨z4.1,z4.2,by omega,by omega,by omega⟩
  rw[<- z3] at hsw
  rw[show Zos.fn [PV.lst (b.map PV.int),PV.int z.1]=.ok (ZD z.2) from hsw]
  walk_at "pd"
  rw[ZfJ,decide_eq_true s3]
  walk_at "pd"
  rw[tail]
  rfl
noncomputable def Zfb(K:W.Frag):Sp:=spF K 1 .P W0 ZrI.fn
theorem Zl7{l:PySem.W.OpenLaw}(T:Txt K mg){fa:Addr}(hmg:mg "law"=some (.ref fa)):∃fd:FuncData,(∀(s:Shared) (u:Value),BindsTo s fd ⟨[u],[]⟩ [("script",u)]) /\
  ∀base:Heap,K.In base->base.Ns mainGlobals mg->J1 l.prog w K mg base CX0 9 fa fd ["script"] (Zfb K):=by
 obtain⟨f,fd,F,hm⟩:=T.ZsR
 rw[hmg] at hm
 cases hm
 refine⟨fd,fun s u=>?_,fun base _ _=>ZsP T F⟩
 obtain⟨oc,od,kV,doc,pm,an,cdv,ct,osl,rfl,lk,hcd⟩:=F.ex
 exact .of_eq (ZsQ kV doc pm an cdv ct [u] rfl)
theorem ZfM{H:Hp}{a:Addr}{ns:List Int}(hl:ns.length<=63)(hS:SqL K H a (ns.map V.int)):Zfb K [.ref a] H (fun v _=>v=.bl true) fun _ _ _=>False:=
 Zes (Pm.fn_eq ZrI ns hl fun _ _=>rfl) hS
end
theorem ZG{K:W.Frag}{h:Heap}{mg:Str->Option Value}{x:Str}{st:Stmt}{f:Addr}{od an:Option Addr}{sl:Array (Option Value)}{oc kV dc pm cd ct:Value}(X:K.In h)(G:h.Ns mainGlobals mg)(a:PySem.W.nsIn K mainGlobals x=some (some (.ref f)))(l:K.lookup f=some ⟨oc,od,.func (PySem.W.fnOf x x (UP st) (JO st) (Zl st) .none kV dc pm an cd ct),sl⟩)(c:PySem.W.codeIn K cd x=true)(k:PySem.W.keepIn K (.ref f)=true):Dfn K mg x st:=⟨_,_,ZlQ (st:=st) l c k,PySem.W.mg_of X G a⟩
theorem Zgv{K:W.Frag}{h:Heap}{mg:Str->Option Value}{x:Str}{v:Tok->Value}{t:Tok}(X:K.In h)(G:h.Ns mainGlobals mg)(a:PySem.W.nsIn K mainGlobals x=some (some (v t))):∃t,mg x=some (v t):=⟨t,PySem.W.mg_of X G a⟩
end My
namespace PySem.W.Fast
noncomputable def tw12162980529612701728:=()
noncomputable def tw406639715444806752:=()
noncomputable def tw7276399335806412160:=()
noncomputable def tw13440981996743699232:=()
noncomputable def tw15284272272770752577:=()
noncomputable def tw7974766376798738657:=()
noncomputable def tw6502631299445546241:=()
noncomputable def tw14892113048055099745:=()
noncomputable def tw18127215789907957185:=()
noncomputable def tw3695653032336818625:=()
noncomputable def tw2587800113629692705:=()
noncomputable def tw4684845100864737121:=()
noncomputable def tw4129462509423226721:=()
noncomputable def tw11131775909090904162:=()
noncomputable def tw11648323981102466274:=()
noncomputable def tw18372750011010501954:=()
noncomputable def tw11106237595381056898:=()
noncomputable def tw8092507186356063874:=()
noncomputable def tw8046749864549450498:=()
noncomputable def tw935856411666641987:=()
noncomputable def tw18279550487116571747:=()
noncomputable def tw14412379237161880931:=()
noncomputable def tw9829793526218262979:=()
noncomputable def tw1704758729460561603:=()
noncomputable def tw7793340819122560004:=()
noncomputable def tw12397100796773309476:=()
noncomputable def tw11803224794909940836:=()
noncomputable def tw13528509355296133316:=()
noncomputable def tw3462093515681982660:=()
noncomputable def tw962697841238100260:=()
noncomputable def tw8151598009240824100:=()
noncomputable def tw15139346427121946980:=()
noncomputable def tw6518939299055097316:=()
noncomputable def tw1552234653923350116:=()
noncomputable def tw4936832070993980004:=()
noncomputable def tw10844521590764188260:=()
noncomputable def tw475139209304743588:=()
noncomputable def tw2065222113789708964:=()
noncomputable def tw1136319995491793604:=()
noncomputable def tw17222397583200395076:=()
noncomputable def tw1660133280265352004:=()
noncomputable def tw15654281756129960900:=()
noncomputable def tw14321810826824177604:=()
noncomputable def tw11364025625331161125:=()
noncomputable def tw11358809975897335845:=()
noncomputable def tw7228661442714009765:=()
noncomputable def tw1913221447217602789:=()
noncomputable def tw14749148339419126181:=()
noncomputable def tw17347557829895148997:=()
noncomputable def tw1073492946528094693:=()
noncomputable def tw135692574190060165:=()
noncomputable def tw5417902582115044997:=()
noncomputable def tw2831873301123595013:=()
noncomputable def tw6270867550443708197:=()
noncomputable def tw9897440084888734597:=()
noncomputable def tw5908011762015182821:=()
noncomputable def tw5836752600985859078:=()
noncomputable def tw5290649056880704646:=()
noncomputable def tw6347382697267408006:=()
noncomputable def tw13528487631512857830:=()
noncomputable def tw6387772484745388358:=()
noncomputable def tw15989624944959009126:=()
noncomputable def tw6411496529310526182:=()
noncomputable def tw2248251727162660614:=()
noncomputable def tw2259865113596057382:=()
noncomputable def tw7857504764741901094:=()
noncomputable def tw5530637287123910502:=()
noncomputable def tw10002426089322046310:=()
noncomputable def tw6693062664185458566:=()
noncomputable def tw17489841497800649670:=()
noncomputable def tw125556852211827719:=()
noncomputable def tw13646608579695586471:=()
noncomputable def tw15967257815077905863:=()
noncomputable def tw4677042029421178663:=()
noncomputable def tw1458228285615895431:=()
noncomputable def tw11719573236485648327:=()
noncomputable def tw144221841869855719:=()
noncomputable def tw2675590692957704264:=()
noncomputable def tw5895797174321764616:=()
noncomputable def tw9796181487058191752:=()
noncomputable def tw15828115987057499528:=()
noncomputable def tw12013671181359336136:=()
noncomputable def tw5901913346146368200:=()
noncomputable def tw9104825588976789288:=()
noncomputable def tw2136929164537075945:=()
noncomputable def tw941609221444049193:=()
noncomputable def tw18210552377282514249:=()
noncomputable def tw17709186628745695817:=()
noncomputable def tw15961998423723117161:=()
noncomputable def tw5477233557260891785:=()
noncomputable def tw17655210689566783209:=()
noncomputable def tw8352225443758599945:=()
noncomputable def tw3593698490437602185:=()
noncomputable def tw8140125516855674793:=()
noncomputable def tw1253441486264793162:=()
noncomputable def tw7660837590306671754:=()
noncomputable def tw7858388525925689578:=()
noncomputable def tw4014702113636854026:=()
noncomputable def tw3678618196988835146:=()
noncomputable def tw6966535279853771146:=()
noncomputable def tw16637143916335976938:=()
noncomputable def tw5976513509892988426:=()
noncomputable def tw6920410063404968554:=()
noncomputable def tw4661307795721459338:=()
noncomputable def tw12440235436440773386:=()
noncomputable def tw14605483685931969739:=()
noncomputable def tw1704516436978538859:=()
noncomputable def tw5697722626602126795:=()
noncomputable def tw16032691445944365643:=()
noncomputable def tw4219327314143850668:=()
noncomputable def tw13315928527805410572:=()
noncomputable def tw17209834447500988780:=()
noncomputable def tw16376073819415915052:=()
noncomputable def tw5048995808483580460:=()
noncomputable def tw10028941561455114988:=()
noncomputable def tw18320461934890749676:=()
noncomputable def tw1487658166693583756:=()
noncomputable def tw14356505170501517357:=()
noncomputable def tw11069315776401551469:=()
noncomputable def tw2709806848019494157:=()
noncomputable def tw10930368404828648749:=()
noncomputable def tw14045963082619251149:=()
noncomputable def tw12903015453927529965:=()
noncomputable def tw13939509181882404461:=()
noncomputable def tw2887733210117510829:=()
noncomputable def tw15095967736959763309:=()
noncomputable def tw11182736657877451661:=()
noncomputable def tw5448497247735290062:=()
noncomputable def tw17147315507150650606:=()
noncomputable def tw14143104890380442990:=()
noncomputable def tw7132340762704283182:=()
noncomputable def tw12225482715977944718:=()
noncomputable def tw1153751955945235086:=()
noncomputable def tw11278441133388872751:=()
noncomputable def tw6096081660777800815:=()
noncomputable def tw2616449965768204463:=()
noncomputable def tw900503635783577839:=()
noncomputable def tw12292907724725909743:=()
noncomputable def tw13556520118328395087:=()
noncomputable def tw2225872285287758191:=()
noncomputable def tw4664368603755406799:=()
noncomputable def tw17333814056989087247:=()
noncomputable def tw12564550542630705711:=()
noncomputable def tw969852986297350799:=()
noncomputable def tw8357937092018513775:=()
noncomputable def tw3605517932412777423:=()
noncomputable def tw15271746635599999152:=()
noncomputable def tw11026772972144640400:=()
noncomputable def tw16164998052646748592:=()
noncomputable def tw5398472424281835952:=()
noncomputable def tw4001210247455915472:=()
noncomputable def tw8280248207844186576:=()
noncomputable def tw3310966954900884080:=()
noncomputable def tw18428345058893813392:=()
noncomputable def tw15846538865455858416:=()
noncomputable def tw9817546022005430064:=()
noncomputable def tw9799958884234783664:=()
noncomputable def tw16851313803767795664:=()
noncomputable def tw3518684482468320305:=()
noncomputable def tw11176891826479973489:=()
noncomputable def tw1393895735275658385:=()
noncomputable def tw4613828413701832497:=()
noncomputable def tw4862673271861316497:=()
noncomputable def tw12347935230520576210:=()
noncomputable def tw12940135298087377266:=()
noncomputable def tw3248191587432881650:=()
noncomputable def tw17777360561245334098:=()
noncomputable def tw12387984922288650962:=()
noncomputable def tw10899967934761904946:=()
noncomputable def tw16448901818981003058:=()
noncomputable def tw3607146618889639794:=()
noncomputable def tw14590504441110265810:=()
noncomputable def tw218352577164618738:=()
noncomputable def tw1046977427757807731:=()
noncomputable def tw12125181485523810451:=()
noncomputable def tw7379791074485114035:=()
noncomputable def tw16645612876268577043:=()
noncomputable def tw5847679965962326291:=()
noncomputable def tw7034038275787587891:=()
noncomputable def tw7911746117368602099:=()
noncomputable def tw7502912445629971668:=()
noncomputable def tw18020774692993600820:=()
noncomputable def tw4544570101175765716:=()
noncomputable def tw13448880274175834004:=()
noncomputable def tw12042499720033126549:=()
noncomputable def tw396128985214268597:=()
noncomputable def tw15760722421936061685:=()
noncomputable def tw4700577118219095605:=()
noncomputable def tw17850541655783239285:=()
noncomputable def tw13989893427373850389:=()
noncomputable def tw6859316469122689845:=()
noncomputable def tw10949914097018167093:=()
noncomputable def tw12290663176693913589:=()
noncomputable def tw12823299447597401238:=()
noncomputable def tw9483697585336060054:=()
noncomputable def tw7978908075458597174:=()
noncomputable def tw14855416309443949078:=()
noncomputable def tw3237828174014089142:=()
noncomputable def tw9732097563906202550:=()
noncomputable def tw15828352583260037110:=()
noncomputable def tw14954129446779760759:=()
noncomputable def tw2533928222506326167:=()
noncomputable def tw17584203220012023063:=()
noncomputable def tw11261666547383006807:=()
noncomputable def tw5931721157730161591:=()
noncomputable def tw14415025697913620407:=()
noncomputable def tw6685810194053053399:=()
noncomputable def tw8840336384291024887:=()
noncomputable def tw16299071126984071384:=()
noncomputable def tw9651461351165877016:=()
noncomputable def tw6490327147227038937:=()
noncomputable def tw17862380717432759577:=()
noncomputable def tw2190428871638466905:=()
noncomputable def tw4372464959399026073:=()
noncomputable def tw138585789660147577:=()
noncomputable def tw9532073486474747865:=()
noncomputable def tw12516271751203462394:=()
noncomputable def tw234244024817449210:=()
noncomputable def tw5518971000910057754:=()
noncomputable def tw13595180558622616954:=()
noncomputable def tw10543412003475939834:=()
noncomputable def tw3946065516124037786:=()
noncomputable def tw13493281529064701754:=()
noncomputable def tw1177708795068938299:=()
noncomputable def tw5265656456804736059:=()
noncomputable def tw15271657010319537243:=()
noncomputable def tw17388286419495789851:=()
noncomputable def tw14585479257093845435:=()
noncomputable def tw179552717778263035:=()
noncomputable def tw16418257849036873852:=()
noncomputable def tw8016168119919109372:=()
noncomputable def tw9815381524059296028:=()
noncomputable def tw14985450781532425788:=()
noncomputable def tw11385259474454944380:=()
noncomputable def tw8765051779227621340:=()
noncomputable def tw18001096380758830141:=()
noncomputable def tw1412514799117847741:=()
noncomputable def tw11210461962667559133:=()
noncomputable def tw5810202194392108349:=()
noncomputable def tw9739150039647083901:=()
noncomputable def tw18386550954286353949:=()
noncomputable def tw11690972259683799645:=()
noncomputable def tw16833604320388515485:=()
noncomputable def tw6508010394440940189:=()
noncomputable def tw6127131961680363197:=()
noncomputable def tw2164027779347567421:=()
noncomputable def tw8758015829857261373:=()
noncomputable def tw62550625484179389:=()
noncomputable def tw5552620164488068061:=()
noncomputable def tw1012024929687883102:=()
noncomputable def tw18042188366314855774:=()
noncomputable def tw8278387864208103806:=()
noncomputable def tw168609607805407710:=()
noncomputable def tw13528476097009080894:=()
noncomputable def tw4664331306669233790:=()
noncomputable def tw11772254665963164510:=()
noncomputable def tw1615154691501292478:=()
noncomputable def tw17424984127468499199:=()
noncomputable def tw18360838355345322271:=()
noncomputable def tw8083753791101475167:=()
noncomputable def tw14452899158971246239:=()
noncomputable def tw10010289867223302847:=()
noncomputable def tw18150271770200956046:=()
noncomputable def tw2664392211635847221:=()
noncomputable def tw4281999576877816571:=()
noncomputable def tw16579234646899176140:=()
noncomputable def tw7442045655844276632:=()
noncomputable def tw14797414208502760508:=()
noncomputable def tw2283875410395593561:=()
noncomputable def tw6591548228377526066:=()
noncomputable def tw16733136744335213660:=()
noncomputable def tw5535922953769420829:=()
noncomputable def tw13011168700952101069:=()
noncomputable def tw15785020949350065418:=()
noncomputable def tw17797425042545349949:=()
noncomputable def tw16280396110157968235:=()
noncomputable def tw13846180012867660476:=()
noncomputable def tw1356631470057524442:=()
noncomputable def tw15256149937624346261:=()
noncomputable def tw258990517624811728:=()
noncomputable def tw17674227042301975551:=()
noncomputable def tw7428188279593211195:=()
noncomputable def tw9714860678970538954:=()
noncomputable def tw3508571324388043912:=()
noncomputable def tw6884610215048234142:=()
noncomputable def tw16670739563178007212:=()
noncomputable def tw11461630376399966832:=()
noncomputable def tw10595976289912352246:=()
noncomputable def tw16554024400597854937:=()
noncomputable def tw7630413372936453351:=()
noncomputable def tw12153612563501116035:=()
noncomputable def tw15559790602752946765:=()
noncomputable def tw18440989034273688720:=()
noncomputable def tw16050268828456079060:=()
noncomputable def tw10609542467241726209:=()
noncomputable def tw14675035917467259245:=()
noncomputable def tw11872769300009425036:=()
noncomputable def tw14830779358317362248:=()
end PySem.W.Fast
open PySem PySem.W PyProof.Rows
set_option maxRecDepth 100000 in
set_option maxHeartbeats 0 in
theorem PySem.Challenge.cw_sowring_k29_who_wins_holds : PySem.Challenge.rw_sowring_k29_who_wins.Holds := by
 w_on;o_law;k_head;(case hw=>w_witness2)
 k_fill
 refine L2.ZgP (l:=PySem.Challenge.rw_sowring_k29_who_wins) (n:=63) (k:=9) (x := "script") (CX:=L2.CX0) (sp:=My.Zfb) rfl (by decide) rfl ⟨rfl,by decide,by decide⟩ (fun w h Y=>⟨PySem.W.km_in_of Y,L2.ZfQ (by kernel_rfl) (PySem.W.km_tabs_of Y)⟩) ?F ?S ?C
 case F =>
  intro w mg fa h KX G hmg
  have T:My.Txt (L2.KOf KX) mg:=by
   dsimp only[L2.KOf]
   refine' ⟨My.ZG KX G ?a0 ?l0 ?c0 ?k0,My.ZG KX G ?a1 ?l1 ?c1 ?k1,My.ZG KX G ?a2 ?l2 ?c2 ?k2,My.ZG KX G ?a3 ?l3 ?c3 ?k3,My.ZG KX G ?a4 ?l4 ?c4 ?k4,My.ZG KX G ?a5 ?l5 ?c5 ?k5,My.ZG KX G ?a6 ?l6 ?c6 ?k6,My.ZG KX G ?a7 ?l7 ?c7 ?k7,My.ZG KX G ?a8 ?l8 ?c8 ?k8,My.ZG KX G ?a9 ?l9 ?c9 ?k9,My.ZG KX G ?a10 ?l10 ?c10 ?k10,My.ZG KX G ?a11 ?l11 ?c11 ?k11,My.ZG KX G ?a12 ?l12 ?c12 ?k12,My.ZG KX G ?a13 ?l13 ?c13 ?k13,My.ZG KX G ?a14 ?l14 ?c14 ?k14,My.ZG KX G ?a15 ?l15 ?c15 ?k15,My.ZG KX G ?a16 ?l16 ?c16 ?k16,My.ZG KX G ?a17 ?l17 ?c17 ?k17,My.ZG KX G ?a18 ?l18 ?c18 ?k18,My.ZG KX G ?a19 ?l19 ?c19 ?k19,My.ZG KX G ?a20 ?l20 ?c20 ?k20,My.ZG KX G ?a21 ?l21 ?c21 ?k21,My.ZG KX G ?a22 ?l22 ?c22 ?k22,My.ZG KX G ?a23 ?l23 ?c23 ?k23,My.ZG KX G ?a24 ?l24 ?c24 ?k24,My.ZG KX G ?a25 ?l25 ?c25 ?k25,My.ZG KX G ?a26 ?l26 ?c26 ?k26,My.ZG KX G ?a27 ?l27 ?c27 ?k27,My.ZG KX G ?a28 ?l28 ?c28 ?k28,My.ZG KX G ?a29 ?l29 ?c29 ?k29,My.ZG KX G ?a30 ?l30 ?c30 ?k30,My.ZG KX G ?a31 ?l31 ?c31 ?k31,My.ZG KX G ?a32 ?l32 ?c32 ?k32,My.ZG KX G ?a33 ?l33 ?c33 ?k33,My.ZG KX G ?a34 ?l34 ?c34 ?k34,My.ZG KX G ?a35 ?l35 ?c35 ?k35,My.ZG KX G ?a36 ?l36 ?c36 ?k36,My.ZG KX G ?a37 ?l37 ?c37 ?k37,My.Zgv KX G ?b0,My.Zgv KX G ?b1,My.Zgv KX G ?b2,PySem.W.mg_none_of KX G ?z0,PySem.W.mg_none_of KX G ?z1,PySem.W.mg_none_of KX G ?z2,PySem.W.mg_none_of KX G ?z3,PySem.W.mg_none_of KX G ?z4,PySem.W.mg_none_of KX G ?z5,PySem.W.mg_none_of KX G ?z6,PySem.W.mg_none_of KX G ?z7,PySem.W.mg_none_of KX G ?z8,PySem.W.mg_none_of KX G ?z9,PySem.W.mg_none_of KX G ?z10,PySem.W.mg_none_of KX G ?z11, ?l_lam⟩
   (case a0=>k_is)
   (case l0=>k_is)
   (case c0=>k_is)
   (case k0=>k_is)
   (case a1=>k_is)
   (case l1=>k_is)
   (case c1=>k_is)
   (case k1=>k_is)
   (case a2=>k_is)
   (case l2=>k_is)
   (case c2=>k_is)
   (case k2=>k_is)
   (case a3=>k_is)
   (case l3=>k_is)
   (case c3=>k_is)
   (case k3=>k_is)
   (case a4=>k_is)
   (case l4=>k_is)
   (case c4=>k_is)
   (case k4=>k_is)
   (case a5=>k_is)
   (case l5=>k_is)
   (case c5=>k_is)
   (case k5=>k_is)
   (case a6=>k_is)
   (case l6=>k_is)
   (case c6=>k_is)
   (case k6=>k_is)
   (case a7=>k_is)
   (case l7=>k_is)
   (case c7=>k_is)
   (case k7=>k_is)
   (case a8=>k_is)
   (case l8=>k_is)
   (case c8=>k_is)
   (case k8=>k_is)
   (case a9=>k_is)
   (case l9=>k_is)
   (case c9=>k_is)
   (case k9=>k_is)
   (case a10=>k_is)
   (case l10=>k_is)
   (case c10=>k_is)
   (case k10=>k_is)
   (case a11=>k_is)
   (case l11=>k_is)
   (case c11=>k_is)
   (case k11=>k_is)
   (case a12=>k_is)
   (case l12=>k_is)
   (case c12=>k_is)
   (case k12=>k_is)
   (case a13=>k_is)
   (case l13=>k_is)
   (case c13=>k_is)
   (case k13=>k_is)
   (case a14=>k_is)
   (case l14=>k_is)
   (case c14=>k_is)
   (case k14=>k_is)
   (case a15=>k_is)
   (case l15=>k_is)
   (case c15=>k_is)
   (case k15=>k_is)
   (case a16=>k_is)
   (case l16=>k_is)
   (case c16=>k_is)
   (case k16=>k_is)
   (case a17=>k_is)
   (case l17=>k_is)
   (case c17=>k_is)
   (case k17=>k_is)
   (case a18=>k_is)
   (case l18=>k_is)
   (case c18=>k_is)
   (case k18=>k_is)
   (case a19=>k_is)
   (case l19=>k_is)
   (case c19=>k_is)
   (case k19=>k_is)
   (case a20=>k_is)
   (case l20=>k_is)
   (case c20=>k_is)
   (case k20=>k_is)
   (case a21=>k_is)
   (case l21=>k_is)
   (case c21=>k_is)
   (case k21=>k_is)
   (case a22=>k_is)
   (case l22=>k_is)
   (case c22=>k_is)
   (case k22=>k_is)
   (case a23=>k_is)
   (case l23=>k_is)
   (case c23=>k_is)
   (case k23=>k_is)
   (case a24=>k_is)
   (case l24=>k_is)
   (case c24=>k_is)
   (case k24=>k_is)
   (case a25=>k_is)
   (case l25=>k_is)
   (case c25=>k_is)
   (case k25=>k_is)
   (case a26=>k_is)
   (case l26=>k_is)
   (case c26=>k_is)
   (case k26=>k_is)
   (case a27=>k_is)
   (case l27=>k_is)
   (case c27=>k_is)
   (case k27=>k_is)
   (case a28=>k_is)
   (case l28=>k_is)
   (case c28=>k_is)
   (case k28=>k_is)
   (case a29=>k_is)
   (case l29=>k_is)
   (case c29=>k_is)
   (case k29=>k_is)
   (case a30=>k_is)
   (case l30=>k_is)
   (case c30=>k_is)
   (case k30=>k_is)
   (case a31=>k_is)
   (case l31=>k_is)
   (case c31=>k_is)
   (case k31=>k_is)
   (case a32=>k_is)
   (case l32=>k_is)
   (case c32=>k_is)
   (case k32=>k_is)
   (case a33=>k_is)
   (case l33=>k_is)
   (case c33=>k_is)
   (case k33=>k_is)
   (case a34=>k_is)
   (case l34=>k_is)
   (case c34=>k_is)
   (case k34=>k_is)
   (case a35=>k_is)
   (case l35=>k_is)
   (case c35=>k_is)
   (case k35=>k_is)
   (case a36=>k_is)
   (case l36=>k_is)
   (case c36=>k_is)
   (case k36=>k_is)
   (case a37=>k_is)
   (case l37=>k_is)
   (case c37=>k_is)
   (case k37=>k_is)
   (case b0=>k_is)
   (case b1=>k_is)
   (case b2=>k_is)
   (case z0=>k_is)
   (case z1=>k_is)
   (case z2=>k_is)
   (case z3=>k_is)
   (case z4=>k_is)
   (case z5=>k_is)
   (case z6=>k_is)
   (case z7=>k_is)
   (case z8=>k_is)
   (case z9=>k_is)
   (case z10=>k_is)
   (case z11=>k_is)
   (case l_lam=>kernel_rfl)
  exact My.Zl7 T hmg
 case S=>exact fun K H a ns hl hS=>My.ZfM hl hS
 case C=>exact fun _ _ _ _ z=>z
