import PyProof.Rows.All
import Wide.All
import OpenK.AllK
import Wide.FinOn
import Lean
import PyProof.EqAt
import PyProof.EqKinds
import PyProof.TupleCall
import KE.KTryMore
import PyProof.NsDelKeeps
import PyProof.EnumStmt
import KE.KRevIter
import PyProof.ListNew
import PyProof.Rows.SortRuns
import KE.KIntText
import PyProof.ListRange
import PyProof.Rows.Range3
import PyProof.Rows.TupDisplay
import KE.KSortTup
import PyProof.DictWalks
import PyProof.DictTruth
import PyProof.StrBlock2
import PyProof.ExcInit
import PyProof.ExcClass2
import PySem.Challenge.RW_sowring_k16_whole_all_rounds
open List renaming getD_eq_getElem?_getD->Ztf,mem_append_right->Ztg,getElem?_eq_getElem->Zth,mem_append->Zti,mem_append_left->Ztj,getElem?_eq_some_iff->Ztk,getElem?_set_ne->Ztl,getElem?_append_left->Ztn,length_map->Ztp,getElem?_set_self->Ztq,size_toArray->Ztr,mem_cons->Zts,getElem?_eq_none->Ztt,mem_range->Ztu,drop_eq_getElem_cons->Ztv,getElem?_append_right->Ztw,mem_map->Ztx,length_cons->Ztz,mem_singleton->Zt0,getElem?_map->Zt2,length_append->Zt3,getElem?_eq_none_iff->Zt8,mem_cons_of_mem->Zt9,map_cons->ZtB,lookup_cons->ZtC,map_append->ZtE,all_eq_true->ZtF,append_nil->ZtG,length_set->ZtH,append_assoc->ZtI,nodup_cons->ZtJ,length_replicate->ZtK,set_cons_succ->ZtM,drop_eq_nil_of_le->ZtP,length_take->ZtQ,contains_iff_mem->ZtR,sum_cons->ZtS,set_cons_zero->ZtT,set_append_right->ZtU,mem_filter->ZtV,nodup_append->ZtX,length_nil->ZtY,getElem?_range->Zua,getElem?_cons_zero->Zub,not_mem_nil->Zud,length_drop->Zue,mem_flatMap->Zuf,pairwise_lt_range->Zug,mem_cons_self->Zuh,mem_of_getElem?->Zuj,mem_or_eq_of_mem_set->Zuk,getElem_mem->Zum,flatMap_append->Zun,getElem?_replicate->Zuo,drop_of_length_le->Zup,ext_getElem?->Zuq,map_nil->Zus,map_map->Zut,singleton_append->Zuv,take_append_drop->Zuw,getElem?_replicate_of_lt->Zuy,filter_cons->Zu0,cons_append->Zu1,filterMap_cons->Zu3,nil_append->Zu4,sum_append->Zu6,foldl_cons->Zu7,mem_filterMap->Zu8,foldl_append->ZuC,mem_reverse->ZuE,getElem_map->ZuF,of_mem_zip->ZuG,set_set->ZuI,range_succ->ZuK
open Nat renaming lt_of_lt_of_le->Ztm,le_refl->Zto,ne_of_lt->Zt1,le_trans->Zt7,lt_irrefl->ZtA,lt_of_le_of_lt->ZtL,pow_le_pow_right->ZtN,zero_le->Zui,lt_succ_self->Zul,ne_of_gt->Zur,sub_self->Zuu,pow_lt_pow_right->Zu2,pow_le_pow_left->Zu5,not_lt->ZuB
open Int renaming emod_lt_of_pos->Zty,emod_nonneg->Zt4,toNat_of_nonneg->Zt5,toNat_natCast->Zt6,emod_eq_of_lt->ZtD,le_refl->ZtZ,mul_ediv_add_emod->Zux,mul_comm->ZuA,le_trans->ZuH,add_comm->ZuJ,zero_add->ZuL
open Array renaming length_toList->ZtO,forIn_toList->Zu9
open Option renaming isSome_iff_exists->ZtW,getD_some->Zuc,bind_some->Zuz,toList->ZuD
set_option Elab.async false
set_option genSizeOf false
set_option genSizeOfSpec false
set_option linter.all false
set_option maxRecDepth 100000
namespace L2
open PySem PySem.Spec PyProof.Rows
noncomputable abbrev Key:=Sum Int Str
noncomputable def Zki:Key->Value->Bool
 |.inl k,v=>Value.isInt k v
 |.inr x,v=>Value.isStrOf x v
noncomputable def Zmh(w:World):Key->Int
 |.inl k=>hashInt k
 |.inr x=>hashStr w x
theorem ZU:∀{k:Key}{v:Value},Zki k v=true->(∃i t,k=Sum.inl i/\v=Value.int i t)\/(∃x t,k=Sum.inr x/\v=Value.str x t)
 |.inl i,v,h=>by
  obtain⟨t,e⟩:=Value.isInt_shape (k:=i) (v:=v) h
  exact .inl ⟨i,t,rfl,e⟩
 |.inr x,v,h=>by
  obtain⟨t,e⟩:=Value.isStrOf_shape (x:=x) (v:=v) h
  exact .inr ⟨x,t,rfl,e⟩
theorem Zkh(a b:Int):decide ((Sum.inl a:Key)=Sum.inl b)=(a==b):=by
 by_cases e:a=b
 ·subst e;simp
 ·have h:¬(Sum.inl a:Key)=Sum.inl b:=fun q=>e (Sum.inl.inj q)
  rw[decide_eq_false h]
  exact(beq_eq_false_iff_ne.mpr e).symm
theorem Zke(a b:Str):decide ((Sum.inr a:Key)=Sum.inr b)=decide (a=b):=by
 by_cases e:a=b
 ·subst e;simp
 ·have h:¬(Sum.inr a:Key)=Sum.inr b:=fun q=>e (Sum.inr.inj q)
  rw[decide_eq_false h,decide_eq_false e]
theorem Zkg(a:Int)(b:Str):decide ((Sum.inl a:Key)=Sum.inr b)=false:=decide_eq_false (fun q=>nomatch q)
theorem Zkf(a:Str)(b:Int):decide ((Sum.inr a:Key)=Sum.inl b)=false:=decide_eq_false (fun q=>nomatch q)
noncomputable def Zfv(prog:Program)(w:World):PySem.KeyKind prog w Key where
 is:=Zki
 hash:=Zmh w
 inj:=fun v a b ha hb=>by
  rcases ZU ha with ⟨i,t,rfl,rfl⟩|⟨x,t,rfl,rfl⟩
  ·rcases ZU hb with ⟨j,u,rfl,e⟩|⟨y,u,rfl,e⟩
   ·injection e with e1 _;rw[e1]
   ·exact nomatch e
  ·rcases ZU hb with ⟨j,u,rfl,e⟩|⟨y,u,rfl,e⟩
   ·exact nomatch e
   ·injection e with e1 _;rw[e1]
 byValue:=fun k v h=>by
  rcases ZU h with ⟨i,t,rfl,rfl⟩|⟨x,t,rfl,rfl⟩<;>rfl
 pyHash:=fun hv h=>by
  rcases ZU hv with ⟨i,t,rfl,rfl⟩|⟨x,t,rfl,rfl⟩
  ·exact wpAny_pyHash_int h
  ·exact wpAny_pyHash_str h
 eqBool:=fun hu hv h=>by
  rcases ZU hu with ⟨i,t,rfl,rfl⟩|⟨x,t,rfl,rfl⟩
  ·rcases ZU hv with ⟨j,u,rfl,rfl⟩|⟨y,u,rfl,rfl⟩
   ·rw[Zkh] at h;exact wpAny_eqBool_int h
   ·rw[Zkg] at h;exact SeqAt.EqAt.int_str i t y u _ _ _ _ h
  ·rcases ZU hv with ⟨j,u,rfl,rfl⟩|⟨y,u,rfl,rfl⟩
   ·rw[Zkf] at h;exact SeqAt.EqAt.str_int x t j u _ _ _ _ h
   ·rw[Zke] at h;exact wpAny_eqBool_str h
 «strs»:=fun k x t v h=>by
  rcases ZU h with ⟨i,u,rfl,e⟩|⟨y,u,rfl,e⟩
  ·exact nomatch e
  ·injection e with e1 _
   subst e1
   cases v<;>rfl
inductive V where
 |non|bl (b:Bool)|int (i:Int)|str (x:Str)|byt (b:Array UInt8)|flt (b:UInt64)|ref (a:Addr)|ty (n:String)
 deriving DecidableEq
noncomputable def JX:V->Value->Prop
 |.non,u=>u=Value.none
 |.bl b,u=>u=Value.bool b
 |.int i,u=>∃t,u=Value.int i t
 |.str x,u=>∃t,u=Value.str x t
 |.byt b,u=>∃t,u=Value.bytes b t
 |.flt b,u=>∃t,u=Value.float b t
 |.ref a,u=>u=Value.ref a
 |.ty n,u=>u=Value.type n
noncomputable abbrev Jr:List V->List Value->Prop:=Paired JX
theorem Jr.length{xs:List V}{us:List Value}(r:Jr xs us):xs.length=us.length:=Paired.length r
theorem Jr.get:∀{xs:List V}{us:List Value}{i:Nat}{x:V},Jr xs us->xs[i]?=some x->∃u,us[i]?=some u/\JX x u
 |_,_,_,_,.nil,e=>by simp at e
 |_,_,0,_,.cons r _,e=>by simp at e;subst e;exact⟨_,rfl,r⟩
 |_,_,i+1,x,.cons _ t,e=>by
  obtain⟨u,h1,h2⟩:=Jr.get (i:=i) (x:=x) t (by simpa using e)
  exact⟨u,by simpa using h1,h2⟩
theorem Jr.set{x:V}{u:Value}(r:JX x u):∀{xs:List V}{us:List Value} (i:Nat),Jr xs us->Jr (xs.set i x) (us.set i u)
 |_,_,_,.nil=>.nil
 |_,_,0,.cons _ t=>.cons r t
 |_,_,i+1,.cons q t=>.cons q (Jr.set r i t)
theorem Jr.append:∀{xs ys:List V}{us ws:List Value},Jr xs us->Jr ys ws->Jr (xs++ys) (us++ws)
 |_,_,_,_,.nil,s=>s
 |_,_,_,_,.cons r t,s=>.cons r (Jr.append t s)
noncomputable def Zmb:Option V->Option Value->Prop
 |some v,some u=>JX v u
 |none,none=>True
 |_,_=>False
def KV{κ:Type}:List (κ×V)->List (κ×Value)->Prop:=Paired fun(p:κ×V) (q:κ×Value)=>p.1=q.1/\JX p.2 q.2
noncomputable def kV:Key->V
 |.inl i=>.int i
 |.inr x=>.str x
inductive HO where
  |lst (xs:List V)
  |tup (xs:List V)
  |dK (kvs:List (Key×V))|dT (kvs:List (List Key×V))
  |set (S:Int->Bool) (n:Nat)
  |ins (C dx:Addr) (fs:List (Str×V))
  |own (x:Addr)
  |xd (fs:List (Str×V))
  |met (f x:Addr)
  |rng (lo hi:Int)
  |frz (o:Obj) (u:HO)
  |tbl (ps:Array Value)
  |ext (φ:Heap->Prop)
noncomputable abbrev Hp:=Addr->Option HO
noncomputable def upd(H:Hp)(a:Addr)(o:HO):Hp:=fun b=>if b=a then some o else H b
theorem ZD{H:Hp}{a:Addr}{o:HO}:upd H a o a=some o:=by unfold upd;rw[if_pos rfl]
theorem Z1{H:Hp}{a b:Addr}{o:HO}(h:b≠a):upd H a o b=H b:=by unfold upd;rw[if_neg h]
theorem Zlx{H:Hp}{a b:Addr}{o u:HO}(h:H a=some o)(h':H b=some u)(d:o≠u):a≠b:=by
 intro e;subst e;rw[h] at h';exact d (Option.some.inj h')
theorem ZG{H:Hp}{a b:Addr}{o:HO}(h:H a=some o)(h':H b=none):a≠b:=by
 intro e;subst e;rw[h] at h';cases h'
section
variable (P:Program) (w:World)
noncomputable def JZ(H:Hp)(h:Heap)(a:Addr):HO->Prop
 |.lst xs=>xs.length<=sizeLine/\∃(its:List Value) (n:Nat),Jr xs its/\h.get? a=some { cls:=.type "list",data:=.seq its.toArray n }
 |.tup xs=>xs.length<=sizeLine/\∃its:List Value,Jr xs its/\IsTup h a its.toArray
 |.dK kvs=>kvs.length<=sizeLine/\(a==sysModules)=false/\∃vs,KV kvs vs/\h.DictOf (Zfv P w) a vs
 |.dT kvs=>kvs.length<=sizeLine/\(a==sysModules)=false/\∃xs:List (List Key×Addr×Value),
   Paired (fun(p:List Key×V) (q:List Key×Addr×Value)=>p.1=q.1/\H q.2.1=some (.tup (p.1.map kV))/\JX p.2 q.2.2) kvs xs /\
   ∃o es ep,h.get? a=some o/\o.ExactDict/\o.data=.dict es ep/\es.toList=xs.map (entryOfKey (tupleKind (Zfv P w)))/\(xs.map (·.1)).Nodup
 |.set S n=>h.SetOf (intKind P w) a S n
 |.ins C dx fs=>H dx=some (.own a)/\fs.length<=1000/\dx≠a/\h.get? a=some (PySem.W.instObj C dx) /\
   ∃mA,h.Ns1 dx mA/\(∀f,Zmb (fs.lookup f) (mA f))/\PySem.Within mA (fs.map (·.1))
 |.own _=>∃o,h.get? a=some o
 |.xd fs=>∃mA,h.Ns1 a mA/\∀f,Zmb (fs.lookup f) (mA f)
 |.rng lo hi=>∃t u v,h.get? a=some { cls:=.type "range",data:=.fields #[.int lo t,.int hi u,.int 1 v] }
 |.frz o u=>h.get? a=some o/\JZ H h a u
 |.tbl ps=>h.get? a=some { cls:=.none,data:=.fields ps }
 |.met f x=>h.get? a=some (PySem.W.methodObj (.ref f) (.ref x))
 |.ext φ=>φ h/\(∃o,h.get? a=some o)/\∀h1 h2:Heap,φ h1->(∀o,h1.get? a=some o->h2.get? a=some o)->φ h2
def HOk(H:Hp)(h:Heap):Prop:=∀a o,H a=some o->JZ P w H h a o
end
section
variable {P:Program}{w:World}{H H':Hp}{h h':Heap}{a:Addr}{o:HO}
theorem JZ.lt(x:JZ P w H h a o):a<h.objs.size:=by
 cases o with
 |lst xs=>obtain⟨_,_,_,_,e⟩:=x;exact Heap.lt_size e
 |tup xs=>obtain⟨_,_,_,p⟩:=x;exact p.lt
 |dK kvs=>obtain⟨_,_,_,_,o,_,_,e,_⟩:=x;exact Heap.lt_size e
 |dT kvs=>obtain⟨_,_,_,_,o,_,_,e,_⟩:=x;exact Heap.lt_size e
 |set S n=>obtain⟨o,_,_,_,e,_⟩:=x;exact Heap.lt_size e
 |ins C dx fs=>obtain⟨_,_,_,e,_⟩:=x;exact Heap.lt_size e
 |own y=>obtain⟨_,e⟩:=x;exact Heap.lt_size e
 |xd fs=>obtain⟨_,⟨_,_,_,e,_⟩,_⟩:=x;exact Heap.lt_size e
 |rng lo hi=>obtain⟨_,_,_,e⟩:=x;exact Heap.lt_size e
 |frz ob u=>obtain⟨e,_⟩:=x;exact Heap.lt_size e
 |tbl ps=>exact Heap.lt_size (show h.get? a=some _ from x)
 |met f y=>exact Heap.lt_size (show h.get? a=some _ from x)
 |ext φ=>obtain⟨_,⟨_,e⟩,_⟩:=x;exact Heap.lt_size e
theorem Paired.mapP{α β:Type}{F G:α->β->Prop}:∀{l₁:List α}{l₂:List β},Paired F l₁ l₂->(∀a b,F a b->G a b)->Paired G l₁ l₂
 |_,_,.nil,_=>.nil
 |_,_,.cons r t,f=>.cons (f _ _ r) (Paired.mapP t f)
theorem JZ.stay(x:JZ P w H h a o)(k:∀b u,(b=a\/H b=some (.own a))->h.get? b=some u->h'.get? b=some u)(ho:∀b,H b=some (.own a)->H' b=some (.own a))(ht:∀b xs,H b=some (.tup xs)->H' b=some (.tup xs)):JZ P w H' h' a o:=by
 induction o with
 |lst xs=>obtain⟨z,its,n,r,e⟩:=x;exact⟨z,its,n,r,k _ _ (.inl rfl) e⟩
 |tup xs=>obtain⟨z,its,r,ob,e,c⟩:=x;exact⟨z,its,r,ob,k _ _ (.inl rfl) e,c⟩
 |dK kvs=>obtain⟨z,y,vs,r,ob,es,ep,e,c⟩:=x;exact⟨z,y,vs,r,ob,es,ep,k _ _ (.inl rfl) e,c⟩
 |dT kvs =>
  obtain⟨z,y,xs,r,ob,es,ep,e,c⟩:=x
  exact⟨z,y,xs,Paired.mapP r fun p q z=>⟨z.1,ht _ _ z.2.1,z.2.2⟩,ob,es,ep,k _ _ (.inl rfl) e,c⟩
 |set S n=>obtain⟨ob,es,ep,t,e,c⟩:=x;exact⟨ob,es,ep,t,k _ _ (.inl rfl) e,c⟩
 |ins C dx fs =>
  obtain⟨d,z,ne,e,mA,⟨od,es,ep,e2,c⟩,r⟩:=x
  exact⟨ho _ d,z,ne,k _ _ (.inl rfl) e,mA,⟨od,es,ep,k _ _ (.inr d) e2,c⟩,r⟩
 |own y=>obtain⟨ob,e⟩:=x;exact⟨ob,k _ _ (.inl rfl) e⟩
 |xd fs=>obtain⟨mA,⟨od,es,ep,e,c⟩,r⟩:=x;exact⟨mA,⟨od,es,ep,k _ _ (.inl rfl) e,c⟩,r⟩
 |rng lo hi=>obtain⟨t,u,v,e⟩:=x;exact⟨t,u,v,k _ _ (.inl rfl) e⟩
 |frz ob u ih=>obtain⟨e,q⟩:=x;exact⟨k _ _ (.inl rfl) e,ih q⟩
 |tbl ps =>
  have e:h.get? a=some { cls:=.none,data:=.fields ps }:=x
  show h'.get? a=some { cls:=.none,data:=.fields ps }
  exact k a _ (.inl rfl) e
 |met f y =>
  have e:h.get? a=some (PySem.W.methodObj (.ref f) (.ref y)):=x
  show h'.get? a=some (PySem.W.methodObj (.ref f) (.ref y))
  exact k a _ (.inl rfl) e
 |ext φ=>obtain⟨p,⟨o,e⟩,st⟩:=x;exact⟨st _ _ p fun o q=>k _ _ (.inl rfl) q,⟨o,k _ _ (.inl rfl) e⟩,st⟩
theorem HOk.lt(x:HOk P w H h)(e:H a=some o):a<h.objs.size:=(x a o e).lt
theorem HOk.fresh(x:HOk P w H h)(e:h.objs.size<=a):H a=none:=by
 cases q:H a with
 |none=>rfl
 |some u=>exact absurd (Ztm (x.lt q) e) (ZtA _)
theorem HOk.kept(x:HOk P w H h)(k:∀b u,h.get? b=some u->h'.get? b=some u):HOk P w H h':=fun a o e =>
 (x a o e).stay (fun b u _ q=>k b u q) (fun _ q=>q) fun _ _ q=>q
theorem HOk.laid(x:HOk P w H h)(k:∀b u,h.get? b=some u->h'.get? b=some u)(hp:h.objs.size<=a)(new:JZ P w (upd H a o) h' a o):HOk P w (upd H a o) h':=fun b u e=>by
 have hn:=x.fresh hp
 by_cases hb:b=a
 ·subst hb;rw[ZD] at e;cases e;exact new
 ·rw[Z1 hb] at e
  exact(x b u e).stay (fun c v _ q=>k c v q) (fun c q=>by rw[Z1 (ZG q hn)];exact q) fun c xs q=>by rw[Z1 (ZG q hn)];exact q
end
def Rd(H:Hp)(a:Addr)(u:HO):Prop:=H a=some u\/∃o,H a=some (.frz o u)
theorem Rd.ok{P:Program}{w:World}{H:Hp}{h:Heap}{a:Addr}{u:HO}(r:Rd H a u)(x:HOk P w H h):JZ P w H h a u:=by
 rcases r with r|⟨o,r⟩
 ·exact x a u r
 ·obtain⟨_,q⟩:=x a _ r
  exact q
noncomputable def Mut:Option HO->Prop
 |some (.lst _)=>True
 |some (.dK _)=>True
 |some (.dT _)=>True
 |some (.set _ _)=>True
 |some (.ins _ _ _)=>True
 |some (.ext _)=>True
 |_=>False
section
variable {P:Program}{w:World}{H:Hp}{h h':Heap}{x e:Addr}{o':HO}
theorem HOk.write(ok:HOk P w H h)(mu:Mut (H x))(he:e=x\/H e=some (.own x))(k:∀b u,b≠e->h.get? b=some u->h'.get? b=some u)(heo:∃u,h'.get? e=some u)(new:JZ P w (upd H x o') h' x o'):HOk P w (upd H x o') h':=fun b u q=>by
 have nown:∀c y,H c=some (.own y)->c≠x:=fun c y r z=>by subst z;rw[r] at mu;exact mu
 have ntup:∀c xs,H c=some (.tup xs)->c≠x:=fun c xs r z=>by subst z;rw[r] at mu;exact mu
 by_cases hb:b=x
 ·subst hb;rw[ZD] at q;cases q;exact new
 ·rw[Z1 hb] at q
  by_cases hbe:b=e
  ·have q':H b=some (.own x):=by
    rcases he with z|z
    ·exact absurd (hbe.trans z) hb
    ·rw[hbe];exact z
   rw[q] at q';cases q'
   obtain⟨v,hv⟩:=heo
   exact⟨v,by rw[hbe];exact hv⟩
  ·refine(ok b u q).stay (fun c v hc r=>k c v ?_ r) (fun c r=>by rw[Z1 (nown c b r)];exact r) fun c xs r=>by rw[Z1 (ntup c xs r)];exact r
   rcases hc with rfl|hc
   ·exact hbe
   ·rintro rfl
    rcases he with z|z
    ·exact nown c b hc z
    ·rw[hc] at z;cases z;exact hb rfl
end
structure Un(fs ex:List Addr)(H H':Hp)(h h':Heap):Prop where
 keep:∀b o,h.get? b=some o->H b=none->b ∉ fs->b ∉ ex->h'.get? b=some o
 slot:∀b o,h.get? b=some o->H b=none->b∈fs->b ∉ ex->∃sl,h'.get? b=some { o with slots:=sl }
 free:∀b o,h.get? b=some o->H b=none->b ∉ ex->H' b=none
 there:∀b o,h.get? b=some o->b ∉ ex->∃o',h'.get? b=some o'
 tups:∀b xs,H b=some (.tup xs)->H' b=some (.tup xs)
 frzs:∀b o u,H b=some (.frz o u)->H' b=some (.frz o u)
 tbls:∀b ps,H b=some (.tbl ps)->∃more,H' b=some (.tbl (ps++more))
section
variable {fs ex:List Addr}{H H1:Hp}{h h1 h':Heap}{a x e:Addr}{o:HO}
theorem Un.any(u:Un fs ex H H1 h h1){b:Addr}{ob:Obj}(q:h.get? b=some ob)(n:H b=none)(hx:b ∉ ex):∃sl,h1.get? b=some { ob with slots:=sl }:=by
 by_cases hb:b∈fs
 ·exact u.slot b ob q n hb hx
 ·exact⟨ob.slots,u.keep b ob q n hb hx⟩
theorem Un.kept(k:∀b u,h.get? b=some u->h'.get? b=some u):Un fs ex H H h h':=
 ⟨fun b ob q _ _ _=>k b ob q,fun b ob q _ _ _=>⟨ob.slots,k b ob q⟩,fun _ _ _ n _=>n,fun b ob q _=>⟨ob,k b ob q⟩,fun _ _ q=>q,fun _ _ _ q=>q,fun _ ps q=>⟨#[],by rw[q];simp⟩⟩
theorem Un.refl:Un fs ex H H h h:=Un.kept fun _ _ q=>q
theorem Un.laid(k:∀b u,h.get? b=some u->h'.get? b=some u)(hp:h.objs.size<=a)(hn:H a=none):Un fs ex H (upd H a o) h h' where
 keep:=fun b u q _ _ _=>k b u q
 slot:=fun b u q _ _ _=>⟨u.slots,k b u q⟩
 free:=fun b u q n _=>by rw[Z1 (Zt1 (Ztm (Heap.lt_size q) hp))];exact n
 there:=fun b u q _=>⟨u,k b u q⟩
 tups:=fun b xs q=>by rw[Z1 (ZG q hn)];exact q
 frzs:=fun b u xs q=>by rw[Z1 (ZG q hn)];exact q
 tbls:=fun b ps q=>⟨#[],by rw[Z1 (ZG q hn),q];simp⟩
theorem Un.write(mu:Mut (H x))(he:e=x\/H e=some (.own x))(k:∀b u,b≠e->h.get? b=some u->h'.get? b=some u)(heo:∃u,h'.get? e=some u):Un fs ex H (upd H x o) h h':=by
 have hx:∀b,H b=none->b≠x:=fun b n z=>by subst z;rw[n] at mu;exact mu
 have hb:∀b,H b=none->b≠e:=fun b n z=>by
  subst z
  rcases he with r|r
  ·exact hx b n r
  ·rw[n] at r;cases r
 have hm:∀b u,H b=some u->¬Mut (some u)->b≠x:=fun b u q nm z=>by subst z;rw[q] at mu;exact nm mu
 refine⟨fun b u q n _ _=>k b u (hb b n) q,fun b u q n _ _=>⟨u.slots,k b u (hb b n) q⟩,fun b u q n _=>by rw[Z1 (hx b n)];exact n,fun b u q _=>?_,
  fun b xs q=>by rw[Z1 (hm b _ q fun z=>z)];exact q,fun b u xs q=>by rw[Z1 (hm b _ q fun z=>z)];exact q,fun b ps q=>⟨#[],by rw[Z1 (hm b _ q fun z=>z),q];simp⟩⟩
 by_cases hbe:b=e
 ·subst hbe;exact heo
 ·exact⟨u,k b u hbe q⟩
end
noncomputable def trk(h:Heap)(H:Hp):List Addr:=(List.range h.objs.size).filter fun a=>(H a).isSome
noncomputable def Zhb(h:Heap)(H:Hp):Heap:=PySem.W.hideAll h (trk h H)
theorem ZfB(h:Heap)(H:Hp):(Zhb h H).objs.size=h.objs.size:=PySem.W.hideAll_size _ _
theorem Zha{h:Heap}{H:Hp}{b:Addr}{o:Obj}(e:h.get? b=some o)(n:H b=none):(Zhb h H).get? b=some o:=
 PySem.W.hideAll_get _ e fun hm=>by
  have q:(H b).isSome=true:=(ZtV.mp hm).2
  rw[n] at q;simp at q
theorem ZiB{h:Heap}{H:Hp}{b:Addr}{o:Obj}(e:(Zhb h H).get? b=some o):h.get? b=some o/\H b=none:=by
 have e':h.get? b=some o:=PySem.W.of_hideAll (trk h H) e
 refine⟨e', ?_⟩
 cases q:H b with
 |none=>rfl
 |some x =>
  have hm:b∈trk h H:=ZtV.mpr ⟨Ztu.mpr (Heap.lt_size e'),by simp[q]⟩
  have z:(Zhb h H).get? b=none:=PySem.W.hideAll_none (trk h H) hm
  rw[z] at e;cases e
noncomputable def Zjn(g h:Heap)(L:Addr):List (Addr×Obj):=(List.range h.objs.size).filterMap fun a=>if a=L\/(g.get? a).isSome=true then none else (h.get? a).map fun o=>(a,o)
noncomputable def JY(g h:Heap)(L d:Addr):List (Addr×Obj):=(Zjn g h L).filter fun p=>decide (p.1≠d)
structure Mod(K:PySem.W.Frag)(mg:Str->Option Value)(base:Heap):Prop where
 kin:K.In base
 glob:base.Ns mainGlobals mg
 blt:∃mb,base.Ns builtinsNs mb/\∀x:Str,x ≠ "__name__"->mb x=bootBuiltins x
 nolimit:base.NoLimit
structure Cx where
 prog:Program
 w:World
 K:PySem.W.Frag
 mg:Str->Option Value
 base:Heap
 A:Around
 N:List Str
 s₀:Shared
 H₀:Hp
 env:Env
 outer:List Env
 stack:List Env
 ex:List Addr
 fn:Str->Bool
 calm:Bool
 pn:List (Addr×Obj)
 xe:Value->Shared->Prop
noncomputable def frs(l:List Env):List Addr:=l.filterMap (·.frame)
noncomputable abbrev Cx.fs(X:Cx):List Addr:=frs X.outer
def Vis(sc:Scope)(x:Str):Prop:=sc.names.lookup x=some .local\/sc.names.lookup x=some .cell\/sc.names.lookup x=some .free
def Loc(sc:Scope)(x:Str):Prop:=sc.names.lookup x=some .local\/sc.names.lookup x=some .cell
def Zmd(env:Env)(h:Heap)(m:Str->Option Value)(x:Str)(u:Value):Prop:=
 (env.kindOf x=some .local/\m x=some u)\/((env.kindOf x=some .cell\/env.kindOf x=some .free)/\∃c,env.cells.lookup x=some c/\h.IsCell c (some u))
structure Cx.Ok(X:Cx):Prop where
 mod:Mod X.K X.mg X.base
 kind:X.env.scope.kind=.function
 glob:X.env.globals=mainGlobals
 blt:X.env.builtins=builtinsNs
 above:X.s₀.heap.objs.size<=X.env.locals
 inj:∀x y c,X.env.cells.lookup x=some c->X.env.cells.lookup y=some c->x=y
 has:∀x,(X.env.kindOf x=some .cell\/X.env.kindOf x=some .free)->∃c,X.env.cells.lookup x=some c
 cab:∀x c,X.fn x=true->X.env.cells.lookup x=some c->X.s₀.heap.objs.size<=c
 hd:X.calm=true->X.A.handled=none
 frames:X.A.frames=some X.stack
 stk:X.stack=X.outer\/(X.stack=X.env::X.outer/\X.env.frame=some X.env.locals)
 exf:∀b∈X.ex,b≠X.env.locals/\∀x c,X.env.cells.lookup x=some c->c≠b
 bs:∀b o,X.base.get? b=some o->X.s₀.heap.get? b=some o/\X.H₀ b=none
 bsz:X.base.objs.size<=X.s₀.heap.objs.size
 noex:∀b o,X.base.get? b=some o->b ∉ X.ex
 exfs:∀b∈X.ex,b ∉ X.fs
 funs:X.s₀.heap.FunFrames X.base X.outer
 frf:∀b∈X.fs,X.H₀ b=none
structure Inv(X:Cx)(pins:List (Addr×Obj))(σ:List (Option V))(H:Hp)(s:Shared):Prop where
 ok:X.Ok
 os:s.os=X.s₀.os
 bare:AllBare s.gens
 base:Un X.fs X.ex X.H₀ H X.s₀.heap s.heap
 loc:∃m,s.heap.Ns X.env.locals m/\∀(i:Nat) (x:Str) (v:V),X.N[i]?=some x->σ[i]?=some (some v)->Vis X.env.scope x->∃u,JX v u/\Zmd X.env s.heap m x u
 cell:∀x c,X.env.cells.lookup x=some c->∃v,s.heap.IsCell c v
 free:H X.env.locals=none
 freeC:∀x c,X.env.cells.lookup x=some c->H c=none
 pin:∀p∈X.pn++pins,s.heap.get? p.1=some p.2/\H p.1=none/\p.1≠X.env.locals/\p.1 ∉ X.fs/\∀v,p.2.data≠.cell v
 hok:HOk X.prog X.w H s.heap
 len:σ.length=X.N.length
section
variable {X:Cx}{pins:List (Addr×Obj)}{σ:List (Option V)}{H H':Hp}{s:Shared}{h':Heap}
theorem Cx.Ok.nofr(ok:X.Ok){b:Addr}{o:Obj}(e:X.base.get? b=some o):b ∉ X.fs:=fun hb=>by
 have:=(ok.funs.mem hb).1
 rw[e] at this;cases this
theorem Inv.bs(I:Inv X pins σ H s):∀b o,X.base.get? b=some o->s.heap.get? b=some o/\H b=none:=fun b o e =>
 ⟨I.base.keep b o (I.ok.bs b o e).1 (I.ok.bs b o e).2 (I.ok.nofr e) (I.ok.noex b o e),I.base.free b o (I.ok.bs b o e).1 (I.ok.bs b o e).2 (I.ok.noex b o e)⟩
theorem Inv.bk(I:Inv X pins σ H s):∀b o,X.base.get? b=some o->s.heap.get? b=some o:=fun b o e=>(I.bs b o e).1
theorem Inv.mod(I:Inv X pins σ H s):Mod X.K X.mg X.base:=I.ok.mod
theorem Inv.kIn(I:Inv X pins σ H s):X.K.In s.heap:=I.ok.mod.kin.keeps I.bk
theorem Inv.lt(I:Inv X pins σ H s):X.env.locals<s.heap.objs.size:=let ⟨_,hn,_⟩:=I.loc;hn.lt
theorem Inv.sz(I:Inv X pins σ H s):X.s₀.heap.objs.size<=s.heap.objs.size:=Zt7 I.ok.above (Nat.le_of_lt I.lt)
theorem Inv.nofs(I:Inv X pins σ H s){a:Addr}(h:s.heap.objs.size<=a):a ∉ X.fs:=fun hb=>by
 obtain⟨_,o,ho,_⟩:=I.ok.funs.mem hb
 exact absurd (Ztm (Heap.lt_size ho) (Zt7 I.sz h)) (ZtA _)
theorem Inv.cne(I:Inv X pins σ H s):∀x c,X.env.cells.lookup x=some c->c≠X.env.locals:=fun x c e z=>by
 obtain⟨v,o,ho,hd⟩:=I.cell x c e
 obtain⟨m,⟨o',es,ep,ho',hd',_⟩,_⟩:=I.loc
 rw[z,ho'] at ho;cases ho;rw[hd'] at hd;cases hd
theorem Inv.funs(I:Inv X pins σ H s):s.heap.FunFrames X.base X.outer:=by
 have all:∀(l:List Env),(∀b∈frs l,b∈X.fs)->X.s₀.heap.FunFrames X.base l->s.heap.FunFrames X.base l:=by
  intro l
  induction l with
  |nil=>intro _ _;trivial
  |cons env r ih =>
   intro hs hl
   obtain⟨hk,⟨L,o,hf,hn,ho,hd⟩,hr⟩:=hl
   have hL:L∈X.fs:=hs L (by unfold frs;rw[Zu3,hf];exact Zuh)
   obtain⟨sl,e⟩:=I.base.slot L o ho (I.ok.frf L hL) hL fun z=>I.ok.exfs L z hL
   exact⟨hk,⟨L,_,hf,hn,e,hd⟩,ih (fun b hb=>hs b (by unfold frs;rw[Zu3,hf];exact Zt9 _ hb)) hr⟩
 exact all X.outer (fun _ hb=>hb) I.ok.funs
theorem Inv.stack(I:Inv X pins σ H s):s.heap.FunFrames X.base X.stack:=by
 rcases I.ok.stk with e|⟨e,hf⟩
 ·rw[e];exact I.funs
 ·rw[e]
  obtain⟨m,hn,_⟩:=I.loc
  refine .cons (by rw[I.ok.kind];decide) hf hn ?_ I.funs
  exact Heap.get?_none_of_le (Zt7 I.ok.bsz I.ok.above)
theorem Inv.stkSub(I:Inv X pins σ H s):∀b∈frs X.stack,b∈X.env.locals::X.fs:=fun b hb=>by
 rcases I.ok.stk with e|⟨e,hf⟩
 ·rw[e] at hb;exact Zt9 _ hb
 ·rw[e] at hb
  unfold frs at hb
  rw[Zu3,hf] at hb
  exact hb
theorem Inv.stkFree(I:Inv X pins σ H s):∀b∈frs X.stack,H b=none:=fun b hb=>by
 rcases Zts.mp (I.stkSub b hb) with e|hb
 ·rw[e];exact I.free
 ·obtain⟨_,o,ho,_⟩:=I.ok.funs.mem hb
  exact I.base.free b o ho (I.ok.frf b hb) fun z=>I.ok.exfs b z hb
theorem Inv.step{g':Array GenState}{t':Nat}{d':Drawn}{ch:List Addr}(I:Inv X pins σ H s)(hch:∀b∈ch,(b∈X.ex\/X.s₀.heap.objs.size<=b)/\b≠X.env.locals/\(∀x c,X.env.cells.lookup x=some c->c≠b)/\∀p∈X.pn++pins,p.1≠b)(keep:∀b o,b≠X.env.locals->b ∉ X.fs->b ∉ ch->s.heap.get? b=some o->H b=none->h'.get? b=some o)(slot:∀b o,b≠X.env.locals->b∈X.fs->b ∉ ch->s.heap.get? b=some o->H b=none->∃sl,h'.get? b=some { o with slots:=sl })(free:∀b o,b ∉ ch->s.heap.get? b=some o->H b=none->H' b=none)(there:∀b o,b ∉ ch->s.heap.get? b=some o->∃o',h'.get? b=some o')(tups:∀b xs,H b=some (.tup xs)->H' b=some (.tup xs))(frzs:∀b o u,H b=some (.frz o u)->H' b=some (.frz o u))(tbls:∀b ps,H b=some (.tbl ps)->∃more,H' b=some (.tbl (ps++more)))(ns:∀m,s.heap.Ns X.env.locals m->h'.Ns X.env.locals m)(hok:HOk X.prog X.w H' h')(hg:AllBare g') :
  Inv X pins σ H' { s with heap:=h',gens:=g',drawn:=d',toks:=t' }:=by
 have neL:∀b o,X.s₀.heap.get? b=some o->b≠X.env.locals:=fun b o e=>Zt1 (Ztm (Heap.lt_size e) I.ok.above)
 have neC:∀b o,X.s₀.heap.get? b=some o->b ∉ X.ex->b ∉ ch:=fun b o e hx hb=>by
  rcases (hch b hb).1 with z|z
  ·exact hx z
  ·exact absurd (Ztm (Heap.lt_size e) z) (ZtA _)
 have cellK:∀x c,X.env.cells.lookup x=some c->∀v,s.heap.IsCell c v->h'.IsCell c v:=fun x c e v ⟨o,ho,hd⟩=>by
  have nch:c ∉ ch:=fun z=>(hch c z).2.2.1 x c e rfl
  by_cases hc:c∈X.fs
  ·obtain⟨sl,q⟩:=slot c o (I.cne x c e) hc nch ho (I.freeC x c e)
   exact⟨_,q,hd⟩
  ·exact⟨o,keep c o (I.cne x c e) hc nch ho (I.freeC x c e),hd⟩
 refine⟨I.ok,I.os,hg,⟨fun b o e n hb hx=>?_,fun b o e n hb hx=>?_,fun b o e n hx=>?_,fun b o e hx=>?_,fun b xs e=>tups b xs (I.base.tups b xs e),fun b o xs e=>frzs b o xs (I.base.frzs b o xs e),fun b ps e=>?_⟩, ?_,fun x c e=>?_, ?_,fun x c e=>?_,fun p hp=>?_,hok,I.len⟩
 ·exact keep b o (neL b o e) hb (neC b o e hx) (I.base.keep b o e n hb hx) (I.base.free b o e n hx)
 ·obtain⟨sl,e1⟩:=I.base.slot b o e n hb hx
  obtain⟨sl',e2⟩:=slot b _ (neL b o e) hb (neC b o e hx) e1 (I.base.free b o e n hx)
  exact⟨sl',e2⟩
 ·obtain⟨o',e1⟩:=I.base.there b o e hx
  exact free b o' (neC b o e hx) e1 (I.base.free b o e n hx)
 ·obtain⟨o',e1⟩:=I.base.there b o e hx
  exact there b o' (neC b o e hx) e1
 ·obtain⟨m1,e1⟩:=I.base.tbls b ps e
  obtain⟨m2,e2⟩:=tbls b _ e1
  exact⟨m1++m2,by rw[e2,Array.append_assoc]⟩
 ·obtain⟨m,hn,hl⟩:=I.loc
  refine⟨m,ns m hn,fun i x v e1 e2 e3=>?_⟩
  obtain⟨u,r,l⟩:=hl i x v e1 e2 e3
  refine⟨u,r, ?_⟩
  rcases l with l|⟨k,c,e,z⟩
  ·exact .inl l
  ·exact .inr ⟨k,c,e,cellK x c e _ z⟩
 ·obtain⟨v,z⟩:=I.cell x c e
  exact⟨v,cellK x c e v z⟩
 ·obtain⟨m,⟨o,_,_,ho,_⟩,_⟩:=I.loc
  exact free _ o (fun z=>(hch _ z).2.1 rfl) ho I.free
 ·obtain⟨v,o,ho,hd⟩:=I.cell x c e
  exact free c o (fun z=>(hch c z).2.2.1 x c e rfl) ho (I.freeC x c e)
 ·obtain⟨e,n,ne,nf,d⟩:=I.pin p hp
  have nch:p.1 ∉ ch:=fun z=>(hch p.1 z).2.2.2 p hp rfl
  exact⟨keep p.1 p.2 ne nf nch e n,free p.1 p.2 nch e n,ne,nf,d⟩
theorem Inv.un{t':Nat}(I:Inv X pins σ H s)(u:Un X.fs [] H H' s.heap h')(hok:HOk X.prog X.w H' h'):Inv X pins σ H' { s with heap:=h',toks:=t' }:=by
 obtain⟨m,⟨o,es,ep,ho,r⟩,_⟩:=id I.loc
 obtain⟨sl,hL⟩:=u.any ho I.free (by simp)
 exact I.step (g':=s.gens) (d':=s.drawn) (ch:=[]) (fun _ z=>nomatch z) (fun b o _ hb _ e n=>u.keep b o e n hb (by simp)) (fun b o _ hb _ e n=>u.slot b o e n hb (by simp)) (fun b o _ e n=>u.free b o e n (by simp)) (fun b o _ e=>u.there b o e (by simp)) u.tups u.frzs u.tbls (fun m' hm=>by
  obtain⟨o',es',ep',ho',r'⟩:=hm
  rw[ho] at ho';cases ho'
  exact⟨_,es',ep',hL,r'⟩) hok I.bare
theorem Inv.call{g':Array GenState}{t':Nat}{d':Drawn}{ch:List Addr}(I:Inv X pins σ H s)(u:Un (frs X.stack) ch H H' s.heap h')(hok:HOk X.prog X.w H' h')(hg:AllBare g')(hch:∀b∈ch,(b∈X.ex\/X.s₀.heap.objs.size<=b)/\b≠X.env.locals/\(∀x c,X.env.cells.lookup x=some c->c≠b)/\∀p∈X.pn++pins,p.1≠b) :
  Inv X pins σ H' { s with heap:=h',gens:=g',drawn:=d',toks:=t' }:=by
 obtain⟨m,⟨o,es,ep,ho,r⟩,_⟩:=id I.loc
 obtain⟨sl,hL⟩:=u.any ho I.free fun z=>(hch _ z).2.1 rfl
 exact I.step (ch:=ch) hch (fun b o hL hb hc e n=>u.keep b o e n (fun z=>(Zts.mp (I.stkSub b z)).elim hL hb) hc) (fun b o _ _ hc e n=>u.any e n hc) (fun b o hc e n=>u.free b o e n hc) (fun b o hc e=>u.there b o e hc) u.tups u.frzs u.tbls (fun m' hm=>by
  obtain⟨o',es',ep',ho',r'⟩:=hm
  rw[ho] at ho';cases ho'
  exact⟨_,es',ep',hL,r'⟩) hok hg
theorem Inv.turned{t':Nat}{it:Addr}(I:Inv X pins σ H s)(k:∀b o,b≠it->s.heap.get? b=some o->h'.get? b=some o)(hn:H it=none)(hL:it≠X.env.locals)(h1:it∈X.ex\/X.s₀.heap.objs.size<=it)(h2:∀x c,X.env.cells.lookup x=some c->c≠it)(h3:∀p∈X.pn++pins,p.1≠it):Inv X pins σ H { s with heap:=h',toks:=t' }:=by
 have nit:∀b u,H b=some u->b≠it:=fun b u e z=>by rw[z,hn] at e;cases e
 refine I.step (g':=s.gens) (d':=s.drawn) (ch:=[it]) (fun b hb=>?_) (fun b o _ _ hc e _=>k b o (fun z=>hc (by simp[z])) e) (fun b o _ _ hc e _=>⟨o.slots,k b o (fun z=>hc (by simp[z])) e⟩) (fun _ _ _ _ n=>n)
  (fun b o hc e=>⟨o,k b o (fun z=>hc (by simp[z])) e⟩) (fun _ _ e=>e) (fun _ _ _ e=>e) (fun b ps e=>⟨#[],by rw[e];simp⟩) (fun m hm=>?_) (fun b u e=>?_) I.bare
 ·have e:b=it:=by simpa using hb
  subst e
  exact⟨h1,hL,h2,h3⟩
 ·obtain⟨o,es,ep,ho,r⟩:=hm
  exact⟨o,es,ep,k _ o (Ne.symm hL) ho,r⟩
 ·refine(I.hok b u e).stay (fun c v hc q=>k c v ?_ q) (fun _ q=>q) fun _ _ q=>q
  rcases hc with z|z
  ·rw[z];exact nit b u e
  ·exact nit c _ z
theorem Inv.tok(I:Inv X pins σ H s)(t:Nat):Inv X pins σ H { s with toks:=t }:=I.un (h':=s.heap) (t':=t) Un.refl I.hok
theorem Inv.kept{t':Nat}(I:Inv X pins σ H s)(k:∀b u,s.heap.get? b=some u->h'.get? b=some u):Inv X pins σ H { s with heap:=h',toks:=t' }:=I.un (Un.kept k) (I.hok.kept k)
theorem Inv.laid{a:Addr}{o:HO}{t':Nat}(I:Inv X pins σ H s)(k:∀b u,s.heap.get? b=some u->h'.get? b=some u)(hp:s.heap.objs.size<=a)(new:JZ X.prog X.w (upd H a o) h' a o) :
  Inv X pins σ (upd H a o) { s with heap:=h',toks:=t' }:=I.un (Un.laid k hp (I.hok.fresh hp)) (I.hok.laid k hp new)
theorem Inv.write{x e:Addr}{o:HO}{t':Nat}(I:Inv X pins σ H s)(mu:Mut (H x))(he:e=x\/H e=some (.own x))(k:∀b u,b≠e->s.heap.get? b=some u->h'.get? b=some u)(heo:∃u,h'.get? e=some u)(new:JZ X.prog X.w (upd H x o) h' x o):Inv X pins σ (upd H x o) { s with heap:=h',toks:=t' }:=I.un (Un.write mu he k heo) (I.hok.write mu he k heo new)
theorem Inv.pins_of{pins':List (Addr×Obj)}(I:Inv X pins σ H s)(h:∀p∈pins',s.heap.get? p.1=some p.2/\H p.1=none/\p.1≠X.env.locals/\p.1 ∉ X.fs/\∀v,p.2.data≠.cell v):Inv X pins' σ H s:=
 ⟨I.ok,I.os,I.bare,I.base,I.loc,I.cell,I.free,I.freeC,fun p hp=>(Zti.mp hp).elim (fun z=>I.pin p (Ztj _ z)) (h p),I.hok,I.len⟩
theorem ZaE{N:List Str}(hN:N.Nodup){i j:Nat}{x:Str}(a:N[i]?=some x)(b:N[j]?=some x):i=j:=by
 obtain⟨h1,e1⟩:=Ztk.mp a
 obtain⟨h2,e2⟩:=Ztk.mp b
 exact(List.getElem_inj hN).mp (e1.trans e2.symm)
theorem Qr{M:Model}{A:Around}{E:Value->Shared->Prop}{i:Nat}{x:Str}{v:V}{u:Value}{Q:Unit->Shared->Prop}(I:Inv X pins σ H s)(hN:X.N.Nodup)(hi:X.N[i]?=some x)(hx:Loc X.env.scope x)(r:JX v u)(h:∀s',Inv X pins (σ.set i (some v)) H s'->(∃a,Heap.SameBut a s.heap s'.heap/\(a=X.env.locals\/X.env.cells.lookup x=some a))->Q () s')(hf:X.fn x=true\/X.env.scope.names.lookup x=some .local):wpAny M A (storeName X.env x u) Q E s:=by
 obtain⟨m,hn,hl⟩:=id I.loc
 have hcls:(X.env.scope.kind==.class || (X.env.scope.kind==.module&&X.env.locals != X.env.globals))=false:=by rw[I.ok.kind];rfl
 have hiσ:i<σ.length:=by rw[I.len];exact(Ztk.mp hi).1
 have cne:=I.cne
 have tracked:∀{a:Addr}{h':Heap},(∃o,s.heap.get? a=some o/\H a=none)->Heap.SameBut a s.heap h'->HOk X.prog X.w H h':=fun {a h'} ha hs b ob e=>by
  obtain⟨_,_,hfree⟩:=ha
  refine(I.hok b ob e).stay (fun c w' hc q=>(hs.2 c ?_).trans q) (fun _ q=>q) fun _ _ q=>q
  rintro rfl
  rcases hc with rfl|hc
  ·rw[hfree] at e;cases e
  ·rw[hfree] at hc;cases hc
 rcases hx with hk|hk
 ·refine wpAny_storeName_local hk hn (fun h' hn' hs=>?_) hcls
  obtain⟨oL,_,_,hoL,_⟩:=id hn
  refine h _ ⟨I.ok,I.os,I.bare,⟨fun b o e n hb hx=>?_,fun b o e n hb hx=>?_,I.base.free,fun b o e hx=>?_,I.base.tups,I.base.frzs,I.base.tbls⟩,⟨_,hn',fun j y v' e1 e2 e3=>?_⟩,fun y c e=>?_,I.free,I.freeC,fun p hp=>?_,tracked ⟨oL,hoL,I.free⟩ hs,by simpa using I.len⟩ ⟨_,hs,.inl rfl⟩
  ·exact(hs.2 b (Zt1 (Ztm (Heap.lt_size e) I.ok.above))).trans (I.base.keep b o e n hb hx)
  ·obtain⟨sl,e1⟩:=I.base.slot b o e n hb hx
   exact⟨sl,(hs.2 b (Zt1 (Ztm (Heap.lt_size e) I.ok.above))).trans e1⟩
  ·obtain⟨o',e1⟩:=I.base.there b o e hx
   exact⟨o',(hs.2 b (Zt1 (Ztm (Heap.lt_size e) I.ok.above))).trans e1⟩
  ·by_cases hj:j=i
   ·subst hj
    rw[hi] at e1;cases e1
    rw[Ztq hiσ] at e2
    cases e2
    exact⟨u,r,.inl ⟨hk,by simp⟩⟩
   ·rw[Ztl (Ne.symm hj)] at e2
    obtain⟨u',r',q⟩:=hl j y v' e1 e2 e3
    refine⟨u',r', ?_⟩
    rcases q with ⟨k,e⟩|⟨k,c,e,z⟩
    ·refine .inl ⟨k, ?_⟩
     have:y≠x:=fun e=>hj (ZaE hN e1 (e▸hi))
     simp[this,e]
    ·exact .inr ⟨k,c,e,z.sameBut hs (cne y c e)⟩
  ·obtain⟨w',z⟩:=I.cell y c e
   exact⟨w',z.sameBut hs (cne y c e)⟩
  ·obtain⟨e,n,ne,nf,d⟩:=I.pin p hp
   exact⟨(hs.2 p.1 ne).trans e,n,ne,nf,d⟩
 ·have hfn:X.fn x=true:=by
   rcases hf with z|z
   ·exact z
   ·rw[z] at hk;cases hk
  obtain⟨c,hc⟩:=I.ok.has x (.inl hk)
  obtain⟨w',z⟩:=I.cell x c hc
  refine wpAny_storeName_cell I.ok.kind hk hc z (fun h' hc' hs=>?_)
  obtain⟨oc,hoc,hocd⟩:=id z
  refine h { s with heap:=h' } ⟨I.ok,I.os,I.bare,⟨fun b o e n hb hx=>?_,fun b o e n hb hx=>?_,I.base.free,fun b o e hx=>?_,I.base.tups,I.base.frzs,I.base.tbls⟩,⟨m,hn.sameBut hs (Ne.symm (cne x c hc)),fun j y v' e1 e2 e3=>?_⟩,fun y c' e=>?_,I.free,I.freeC,fun p hp=>?_,tracked ⟨oc,hoc,I.freeC x c hc⟩ hs,by simpa using I.len⟩ ⟨c,hs,.inr hc⟩
  ·exact(hs.2 b (Zt1 (Ztm (Heap.lt_size e) (I.ok.cab x c hfn hc)))).trans (I.base.keep b o e n hb hx)
  ·obtain⟨sl,e1⟩:=I.base.slot b o e n hb hx
   exact⟨sl,(hs.2 b (Zt1 (Ztm (Heap.lt_size e) (I.ok.cab x c hfn hc)))).trans e1⟩
  ·obtain⟨o',e1⟩:=I.base.there b o e hx
   exact⟨o',(hs.2 b (Zt1 (Ztm (Heap.lt_size e) (I.ok.cab x c hfn hc)))).trans e1⟩
  ·by_cases hj:j=i
   ·subst hj
    rw[hi] at e1;cases e1
    rw[Ztq hiσ] at e2
    cases e2
    exact⟨u,r,.inr ⟨.inl hk,c,hc,hc'⟩⟩
   ·rw[Ztl (Ne.symm hj)] at e2
    obtain⟨u',r',q⟩:=hl j y v' e1 e2 e3
    refine⟨u',r', ?_⟩
    rcases q with q|⟨k,c',e,z'⟩
    ·exact .inl q
    ·refine .inr ⟨k,c',e,z'.sameBut hs ?_⟩
     rintro rfl
     exact hj (ZaE hN e1 (I.ok.inj _ _ _ e hc▸hi))
  ·by_cases hcc:c'=c
   ·subst hcc;exact⟨_,hc'⟩
   ·obtain⟨w2,z2⟩:=I.cell y c' e
    exact⟨w2,z2.sameBut hs hcc⟩
  ·obtain⟨e,n,ne,nf,d⟩:=I.pin p hp
   refine⟨(hs.2 p.1 ?_).trans e,n,ne,nf,d⟩
   intro q
   rw[q,hoc] at e
   have q':oc=p.2:=Option.some.inj e
   exact d w' (by rw[<- q'];exact hocd)
theorem VN{M:Model}{A:Around}{E:Value->Shared->Prop}{i:Nat}{x:Str}{v:V}{u:Value}{Q:Unit->Shared->Prop}(I:Inv X pins σ H s)(hN:X.N.Nodup)(hi:X.N[i]?=some x)(hx:Loc X.env.scope x)(r:JX v u)(h:∀s',Inv X pins (σ.set i (some v)) H s'->Q () s')(hf:X.fn x=true\/X.env.scope.names.lookup x=some .local):wpAny M A (storeName X.env x u) Q E s:=
 Qr I hN hi hx r (fun s' I' _=>h s' I') hf
theorem Inv.call'{s':Shared}{ch:List Addr}(I:Inv X pins σ H s)(ho:s'.os=s.os)(u:Un (frs X.stack) ch H H' s.heap s'.heap)(hok:HOk X.prog X.w H' s'.heap)(hg:AllBare s'.gens)(hch:∀b∈ch,(b∈X.ex\/X.s₀.heap.objs.size<=b)/\b≠X.env.locals/\(∀x c,X.env.cells.lookup x=some c->c≠b)/\∀p∈X.pn++pins,p.1≠b):Inv X pins σ H' s':=by
 obtain⟨h',g',d',t',o'⟩:=s'
 have e:o'=s.os:=ho
 subst e
 exact I.call (g':=g') (t':=t') (d':=d') u hok hg hch
end
noncomputable abbrev XK:=Value->Option Addr->Hp->Prop
noncomputable abbrev St:=List (Option V)
noncomputable abbrev VK:=V->Hp->Prop
noncomputable abbrev TE:=St->Hp->VK->Prop
noncomputable abbrev TT:=St->Hp->(Bool->Hp->Prop)->Prop
noncomputable abbrev TA:=St->Hp->(List V->Hp->Prop)->Prop
structure Zex where
 nx:St->Hp->Prop
 rt:VK
 bk:St->Hp->Prop:=fun _ _=>False
 ct:St->Hp->Prop:=fun _ _=>False
noncomputable abbrev TS:=Zex->St->Hp->Prop
def EP(X:Cx)(pins:List (Addr×Obj))(σ:St)(Q:VK)(u:Value)(s':Shared):Prop:=∃v H',Inv X pins σ H' s'/\JX v u/\Q v H'
def TP(X:Cx)(pins:List (Addr×Obj))(σ:St)(Q:Bool->Hp->Prop)(b:Bool)(s':Shared):Prop:=∃H',Inv X pins σ H' s'/\Q b H'
def AP(X:Cx)(pins:List (Addr×Obj))(σ:St)(Q:List V->Hp->Prop)(us:List Value)(s':Shared):Prop:=∃vs H',Inv X pins σ H' s'/\Jr vs us/\Q vs H'
def SP(X:Cx)(pins:List (Addr×Obj))(D:Zex)(f:Flow)(s':Shared):Prop:=
 match f with
 |.next=>∃σ' H',Inv X pins σ' H' s'/\D.nx σ' H'
 |.brk=>∃σ' H',Inv X pins σ' H' s'/\D.bk σ' H'
 |.cont=>∃σ' H',Inv X pins σ' H' s'/\D.ct σ' H'
 |.ret u=>∃v σ' H',Inv X pins σ' H' s'/\JX v u/\D.rt v H'
def PE(X:Cx)(e:Expr)(t:TE):Prop:=
 ∀(pins:List (Addr×Obj)) (s:Shared) (σ:St) (H:Hp) (Q:VK),Inv X pins σ H s->t σ H Q->wpAny (model X.prog X.w) X.A (eval e X.env) (EP X pins σ Q) X.xe s
def PT(X:Cx)(e:Expr)(t:TT):Prop:=
 ∀(pins:List (Addr×Obj)) (s:Shared) (σ:St) (H:Hp) (Q:Bool->Hp->Prop),Inv X pins σ H s->t σ H Q->wpAny (model X.prog X.w) X.A (isTrue e X.env (eval e X.env)) (TP X pins σ Q) X.xe s
def PW(X:Cx)(e:Expr)(t:TT):Prop:=
 ∀(whole:Sem Value) (pins:List (Addr×Obj)) (s:Shared) (σ:St) (H:Hp) (Q:Bool->Hp->Prop),Inv X pins σ H s->t σ H Q->wpAny (model X.prog X.w) X.A (isTrue e X.env whole) (TP X pins σ Q) X.xe s
theorem PW.pt{X:Cx}{e:Expr}{t:TT}(h:PW X e t):PT X e t:=h _
def PA(X:Cx)(es:List Expr)(t:TA):Prop:=
 ∀(pos:Pos) (pins:List (Addr×Obj)) (s:Shared) (σ:St) (H:Hp) (Q:List V->Hp->Prop),Inv X pins σ H s->t σ H Q->wpAny (model X.prog X.w) X.A (spliced (backTo pos (starEach es X.env))) (AP X pins σ Q) X.xe s
def PS(X:Cx)(st:Stmt)(t:TS):Prop:=
 ∀(pins:List (Addr×Obj)) (s:Shared) (σ:St) (H:Hp) (D:Zex),Inv X pins σ H s->t D σ H->wpAny (model X.prog X.w) X.A (exec st X.env) (SP X pins D) X.xe s
def PSs(X:Cx)(st:List Stmt)(t:TS):Prop:=
 ∀(pins:List (Addr×Obj)) (s:Shared) (σ:St) (H:Hp) (D:Zex),Inv X pins σ H s->t D σ H->wpAny (model X.prog X.w) X.A (execs st X.env) (SP X pins D) X.xe s
theorem thn{α:Type}{t:Sem α}{Q Q':α->Shared->Prop}{M:Model}{A:Around}{E:Value->Shared->Prop}{s:Shared}(h:wpAny M A t Q E s)(hQ:∀a s,Q a s->Q' a s):wpAny M A t Q' E s:=wpAny_mono h hQ fun _ _ x=>x
section
variable {X:Cx}
noncomputable def Zab(i:Nat):TE:=fun σ H Q=>∃v,σ[i]?=some (some v)/\Q v H
noncomputable def tC(v:V):TE:=fun _ H Q=>Q v H
theorem ZjL{i:Nat}{x:Str}{pos:Pos}(hN:X.N[i]?=some x)(hv:Vis X.env.scope x)(hd:(x==("__debug__":Str))=false:=by decide)(hcd:(x==("__classdict__":Str))=false:=by decide):PE X (.Name x pos) (Zab i):=by
 intro pins s σ H Q I h
 obtain⟨v,e,h⟩:=h
 obtain⟨m,hn,hl⟩:=I.loc
 obtain⟨u,r,l⟩:=hl i x v hN e hv
 have fin:EP X pins σ Q u s:=⟨v,H,I,r,h⟩
 rcases l with ⟨hk,hm⟩|⟨hk,c,hc,hcell⟩
 ·exact wpAny_Name (wpAny_loadName_local I.ok.kind hk hn hm fin) hd
 ·rcases hk with hk|hk
  ·exact wpAny_Name (wpAny_loadName_cell I.ok.kind hk hc hcell fin) hd
  ·exact wpAny_Name (wpAny_loadName_free I.ok.kind hk hc hcell fin hcd) hd
theorem Zj{i j pos}:PE X (.Constant (.int i) j pos) (tC (.int i)):=fun _ _ _ H _ I h=>wpAny_Constant_int ⟨.int i,H,I.tok _,⟨_,rfl⟩,h⟩
theorem V8{b j pos}:PE X (.Constant (.bool b) j pos) (tC (.bl b)):=fun _ _ _ H _ I h=>Constant_bool ⟨.bl b,H,I,rfl,h⟩
theorem Zbn{j pos}:PE X (.Constant .none j pos) (tC .non):=fun _ _ _ H _ I h=>Constant_none ⟨.non,H,I,rfl,h⟩
theorem JE{x j pos}:PE X (.Constant (.str x) j pos) (tC (.str x)):=fun _ _ _ H _ I h=>Calls.Constant_str ⟨.str x,H,I.tok _,⟨_,rfl⟩,h⟩
def Gl(X:Cx)(x:Str):Prop:=X.env.kindOf x=some .globalImplicit
theorem UI{E:Value->Shared->Prop}{pins:List (Addr×Obj)}{s:Shared}{σ:St}{H:Hp}{x:Str}{u:Value}{pos:Pos}{Q:Value->Shared->Prop}(I:Inv X pins σ H s)(hg:Gl X x)(hm:X.mg x=some u)(h:Q u s)(hd:(x==("__debug__":Str))=false:=by decide):wpAny (model X.prog X.w) X.A (eval (.Name x pos) X.env) Q E s:=
 Calls.Name_function_global I.ok.kind hg (Calls.loadGlobal_global (by rw[I.ok.glob];exact I.mod.glob.keeps I.bk) hm h) hd
theorem Zaq{E:Value->Shared->Prop}{pins:List (Addr×Obj)}{s:Shared}{σ:St}{H:Hp}{x:Str}{u:Value}{pos:Pos}{Q:Value->Shared->Prop}(I:Inv X pins σ H s)(hg:Gl X x)(hm:X.mg x=none)(hv:bootBuiltins x=some u)(h:Q u s)(hn:x ≠ "__name__":=by decide)(hd:(x==("__debug__":Str))=false:=by decide):wpAny (model X.prog X.w) X.A (eval (.Name x pos) X.env) Q E s:=by
 obtain⟨mb,h1,h2⟩:=I.mod.blt
 exact Calls.Name_function_global I.ok.kind hg (Calls.loadGlobal_builtin (by rw[I.ok.glob];exact I.mod.glob.keeps I.bk) hm (by rw[I.ok.blt];exact h1.keeps I.bk) ((h2 x hn).trans hv) h) hd
theorem Q0{x:Str}{v:V}{u:Value}{pos:Pos}(hg:Gl X x)(hm:X.mg x=some u)(r:JX v u)(hd:(x==("__debug__":Str))=false:=by decide):PE X (.Name x pos) (tC v):=
 fun _ _ _ H _ I h=>UI I hg hm ⟨v,H,I,r,h⟩ hd
theorem Va{x:Str}{v:V}{u:Value}{pos:Pos}(hg:Gl X x)(hm:X.mg x=none)(hv:bootBuiltins x=some u)(r:JX v u)(hn:x ≠ "__name__":=by decide)(hd:(x==("__debug__":Str))=false:=by decide):PE X (.Name x pos) (tC v):=
 fun _ _ _ H _ I h=>Zaq I hg hm hv ⟨v,H,I,r,h⟩ hn hd
variable {a b:Expr}{ta tb:TE}{pos:Pos}
def PC(X:Cx)(op:CmpOp)(a b:Expr)(t:TE):Prop:=
 ∀(pins:List (Addr×Obj)) (s:Shared) (σ:St) (H:Hp) (Q:VK),Inv X pins σ H s->t σ H Q ->
  wpAny (model X.prog X.w) X.A (eval a X.env) (fun v s₁=>wpAny (model X.prog X.w) X.A (eval b X.env) (fun u s₂=>wpAny (model X.prog X.w) X.A (compareOp op v u) (EP X pins σ Q) X.xe s₂) X.xe s₁) X.xe s
noncomputable def tB(t:TE):TT:=fun σ H Q=>t σ H fun x H1=>∃c,x=.bl c/\Q c H1
theorem Zh9{op:CmpOp}{t:TE}(h:PC X op a b t)(h1:behindInMarks op b=false:=by rfl):PT X (.Compare a [op] [b] pos) (tB t):=by
 intro pins s σ H Q I hw
 refine wpAny_isTrue_Compare1 (thn (h pins s σ H _ I hw) fun v s1 h1=>thn h1 fun u s2 h2=>thn h2 fun c s3 ⟨x,H1,I1,r1,q1⟩=>?_) h1
 obtain⟨d,rfl,q⟩:=q1
 cases r1
 exact wpAny_truthy_bool ⟨H1,I1,q⟩
theorem Jo{e:Expr}{t:TE}(h:PE X e t)(he:∀whole,isTrue e X.env whole=(do let v <- whole;standAt e.pos;holding [v] (truthy v)):=by exact fun _=>rfl):PT X e (tB t):=by
 intro pins s σ H Q I hw
 refine isTrue_plain (thn (h pins s σ H _ I hw) fun v s1 ⟨x,H1,I1,r1,q1⟩=>?_) (he _)
 obtain⟨d,rfl,q⟩:=q1
 cases r1
 exact wpAny_truthy_bool ⟨H1,I1,q⟩
variable {tA tB':TT}{JY:List Expr}
noncomputable def ZlO(t u:TT):TT:=fun σ H Q=>t σ H fun c H1=>if c=true then u σ H1 Q else Q false H1
noncomputable def tOr(t u:TT):TT:=fun σ H Q=>t σ H fun c H1=>if c=true then Q true H1 else u σ H1 Q
noncomputable def Zlb(t:TT):TT:=fun σ H Q=>t σ H fun c H1=>Q (!c) H1
theorem Za6(ha:PT X a tA):PW X (.BoolOp .And [a] pos) tA:=by
 intro wh pins s σ H Q I h
 refine isTrue_and (thn (ha pins s σ H Q I h) fun c s1 e=>?_)
 cases c with
 |true=>exact isTrue_and_nil e
 |false=>exact e
theorem VX(ha:PT X a tA):PW X (.BoolOp .Or [a] pos) tA:=by
 intro wh pins s σ H Q I h
 refine isTrue_or (thn (ha pins s σ H Q I h) fun c s1 e=>?_)
 cases c with
 |false=>exact isTrue_or_nil e
 |true=>exact e
theorem Zaj(ha:PT X a tA)(hb:PW X (.BoolOp .And (b::JY) pos) tB'):PW X (.BoolOp .And (a::b::JY) pos) (ZlO tA tB'):=by
 intro wh pins s σ H Q I h
 refine isTrue_and (thn (ha pins s σ H _ I h) fun c s1 ⟨H1,I1,q1⟩=>?_)
 cases c with
 |true=>exact hb wh pins s1 σ H1 Q I1 q1
 |false=>exact⟨H1,I1,q1⟩
theorem V7(ha:PT X a tA)(hb:PW X (.BoolOp .Or (b::JY) pos) tB'):PW X (.BoolOp .Or (a::b::JY) pos) (tOr tA tB'):=by
 intro wh pins s σ H Q I h
 refine isTrue_or (thn (ha pins s σ H _ I h) fun c s1 ⟨H1,I1,q1⟩=>?_)
 cases c with
 |true=>exact⟨H1,I1,q1⟩
 |false=>exact hb wh pins s1 σ H1 Q I1 q1
theorem Jt(ha:PT X a tA):PT X (.UnaryOp .Not a pos) (Zlb tA):=by
 intro pins s σ H Q I h
 exact isTrue_not (ha pins s σ H (fun c H1=>Q (!c) H1) I h)
noncomputable def ZjA(ta tb:TE):TE:=fun σ H Q=>ta σ H fun x H1=>∃c,x=.bl c/\if c=true then tb σ H1 Q else Q (.bl false) H1
noncomputable def ZlK(ta tb:TE):TE:=fun σ H Q=>ta σ H fun x H1=>∃c,x=.bl c/\if c=true then Q (.bl true) H1 else tb σ H1 Q
noncomputable def Zj6(ta:TE):TE:=fun σ H Q=>ta σ H fun x H1=>∃c,x=.bl c/\Q (.bl (!c)) H1
theorem Zak{op}{t:TE}(h:PE X a t):PE X (.BoolOp op [a] pos) t:=fun pins s σ H Q I hw=>BoolOp_one (h pins s σ H Q I hw)
theorem Zbp(ha:PE X a ta)(hb:PE X (.BoolOp .And (b::JY) pos) tb):PE X (.BoolOp .And (a::b::JY) pos) (ZjA ta tb):=by
 intro pins s σ H Q I h
 refine BoolOp_and (thn (ha pins s σ H _ I h) fun v s1 ⟨x,H1,I1,r1,q1⟩=>?_)
 obtain⟨c,rfl,q1⟩:=q1
 cases r1
 refine wpAny_truthy_bool ?_
 cases c with
 |true=>exact hb pins s1 σ H1 Q I1 q1
 |false=>exact⟨.bl false,H1,I1,rfl,q1⟩
theorem Zln(ha:PE X a ta)(hb:PE X (.BoolOp .Or (b::JY) pos) tb):PE X (.BoolOp .Or (a::b::JY) pos) (ZlK ta tb):=by
 intro pins s σ H Q I h
 refine BoolOp_or (thn (ha pins s σ H _ I h) fun v s1 ⟨x,H1,I1,r1,q1⟩=>?_)
 obtain⟨c,rfl,q1⟩:=q1
 cases r1
 refine wpAny_truthy_bool ?_
 cases c with
 |false=>exact hb pins s1 σ H1 Q I1 q1
 |true=>exact⟨.bl true,H1,I1,rfl,q1⟩
theorem ZjM(ha:PE X a ta):PE X (.UnaryOp .Not a pos) (Zj6 ta):=by
 intro pins s σ H Q I h
 refine UnaryOp_ (thn (ha pins s σ H _ I h) fun v s1 ⟨x,H1,I1,r1,q1⟩=>?_)
 obtain⟨c,rfl,q1⟩:=q1
 cases r1
 exact not_of (wpAny_truthy_bool ⟨.bl (!c),H1,I1,rfl,q1⟩)
end
def SqL(K:W.Frag)(H:Hp)(a:Addr)(xs:List V):Prop:=
 Rd H a (.lst xs) \/
  ∃(o:Obj) (its:Array Value) (n:Nat),K.lookup a=some o/\o.cls=.type "list"/\o.dict=none/\o.data=.seq its n/\its.size<=sizeLine/\Jr xs its.toList
def SqT(K:W.Frag)(H:Hp)(a:Addr)(xs:List V):Prop:=
 Rd H a (.tup xs) \/
  ∃(o:Obj) (its:Array Value) (n:Nat),K.lookup a=some o/\o.cls=.type "tuple"/\o.data=.seq its n/\its.size<=sizeLine/\Jr xs its.toList
noncomputable def Zmm:Value->Option V
 |.none=>some .non
 |.bool b=>some (.bl b)
 |.int i _=>some (.int i)
 |.str x _=>some (.str x)
 |.bytes b _=>some (.byt b)
 |.float b _=>some (.flt b)
 |.ref a=>some (.ref a)
 |.type n=>some (.ty n)
 |_=>none
theorem JX.abs{x:V}{u:Value}(r:JX x u):Zmm u=some x:=by
 cases x with
 |non=>cases r;rfl
 |bl _=>cases r;rfl
 |int _=>obtain⟨t,rfl⟩:=r;rfl
 |str _=>obtain⟨t,rfl⟩:=r;rfl
 |byt _=>obtain⟨t,rfl⟩:=r;rfl
 |flt _=>obtain⟨t,rfl⟩:=r;rfl
 |ref _=>cases r;rfl
 |ty _=>cases r;rfl
theorem JX.inj{x y:V}{u:Value}(r:JX x u)(q:JX y u):x=y:=Option.some.inj (r.abs.symm.trans q.abs)
theorem Jr.inj:∀{xs ys:List V}{us:List Value},Jr xs us->Jr ys us->xs=ys
 |_,_,_,.nil,.nil=>rfl
 |_,_,_,.cons r t,.cons r' t'=>by rw[r.inj r',Jr.inj t t']
section
variable {X:Cx}{pins:List (Addr×Obj)}{σ:St}{H:Hp}{s:Shared}{a:Addr}{xs ys:List V}
theorem SqL.of{K:W.Frag}(h:H a=some (.lst xs)):SqL K H a xs:=.inl (.inl h)
theorem Inv.list(I:Inv X pins σ H s)(h:SqL X.K H a xs):∃its:List Value,Jr xs its/\PlainL s.heap a its.toArray/\xs.length<=sizeLine:=by
 rcases h with h|⟨o,its,n,hk,hc,hd,hs,hz,r⟩
 ·obtain⟨z,its,n,r,e⟩:=h.ok I.hok
  exact⟨its,r,⟨_,n,e,rfl,rfl,rfl⟩,z⟩
 ·refine⟨its.toList,r,⟨o,n,I.kIn a o hk,hc,hd,by simpa using hs⟩, ?_⟩
  have e:=r.length
  simp only[ZtO] at e
  lia
theorem Inv.tuple(I:Inv X pins σ H s)(h:SqT X.K H a xs):∃its:List Value,Jr xs its/\IsTup s.heap a its.toArray/\xs.length<=sizeLine:=by
 rcases h with h|⟨o,its,n,hk,hc,hs,hz,r⟩
 ·obtain⟨z,its,r,p⟩:=h.ok I.hok
  exact⟨its,r,p,z⟩
 ·refine⟨its.toList,r,⟨o,I.kIn a o hk,hc,n,by simpa using hs⟩, ?_⟩
  have e:=r.length
  simp only[ZtO] at e
  lia
theorem Inv.list_inj(I:Inv X pins σ H s)(h:SqL X.K H a xs)(h':SqL X.K H a ys):xs=ys:=by
 obtain⟨its,r,⟨o,n,e,_,_,d⟩,_⟩:=I.list h
 obtain⟨its',r',⟨o',n',e',_,_,d'⟩,_⟩:=I.list h'
 rw[e] at e';cases e'
 rw[d] at d'
 injection d' with d1 _
 have:its=its':=by simpa using congrArg Array.toList d1
 subst this
 exact r.inj r'
end
noncomputable abbrev Cx.wish(X:Cx)(E:Value->Shared->Prop):Cx:={ X with xe:=E }
noncomputable abbrev Cx.nox(X:Cx):Cx:=X.wish fun _ _=>False
theorem Cx.Ok.wish{X:Cx}(ok:X.Ok)(E:Value->Shared->Prop):(X.wish E).Ok:=
 ⟨ok.mod,ok.kind,ok.glob,ok.blt,ok.above,ok.inj,ok.has,ok.cab,ok.hd,ok.frames,ok.stk,ok.exf,ok.bs,ok.bsz,ok.noex,ok.exfs,ok.funs,ok.frf⟩
theorem Cx.Ok.unwish{X:Cx}{E:Value->Shared->Prop}(ok:(X.wish E).Ok):X.Ok:=
 ⟨ok.mod,ok.kind,ok.glob,ok.blt,ok.above,ok.inj,ok.has,ok.cab,ok.hd,ok.frames,ok.stk,ok.exf,ok.bs,ok.bsz,ok.noex,ok.exfs,ok.funs,ok.frf⟩
section
variable {X:Cx}{pins:List (Addr×Obj)}{σ:St}{H:Hp}{s:Shared}{E:Value->Shared->Prop}
theorem Inv.wish(I:Inv X pins σ H s)(E:Value->Shared->Prop):Inv (X.wish E) pins σ H s:=⟨I.ok.wish E,I.os,I.bare,I.base,I.loc,I.cell,I.free,I.freeC,I.pin,I.hok,I.len⟩
theorem Inv.unwish(I:Inv (X.wish E) pins σ H s):Inv X pins σ H s:=⟨I.ok.unwish,I.os,I.bare,I.base,I.loc,I.cell,I.free,I.freeC,I.pin,I.hok,I.len⟩
theorem SP.unwish{D:Zex}{f:Flow}{s':Shared}(h:SP (X.wish E) pins D f s'):SP X pins D f s':=by
 cases f with
 |next=>obtain⟨σ',H',I,q⟩:=h;exact⟨σ',H',I.unwish,q⟩
 |brk=>obtain⟨σ',H',I,q⟩:=h;exact⟨σ',H',I.unwish,q⟩
 |cont=>obtain⟨σ',H',I,q⟩:=h;exact⟨σ',H',I.unwish,q⟩
 |ret u=>obtain⟨v,σ',H',I,r,q⟩:=h;exact⟨v,σ',H',I.unwish,r,q⟩
theorem PSs.nox{st:List Stmt}{t:TS}(h:PSs X.nox st t):PSs X st t:=fun pins s σ H D I hw =>
 wpAny_mono (h pins s σ H D (I.wish _) hw) (fun _ _ q=>q.unwish) fun _ _ z=>False.elim z
end
section
variable {X:Cx}{st:Stmt}{JY:List Stmt}{t u:TS}{e:Expr}{te:TE}{pos:Pos}
noncomputable def Zj7:TS:=fun D σ H=>D.nx σ H
noncomputable def Zhy(t u:TS):TS:=fun D σ H=>t { D with nx:=u D } σ H
theorem ZB:PSs X [] Zj7:=fun _ _ σ H _ I h=>wpAny_execs_nil ⟨σ,H,I,h⟩
theorem Zd(h1:PS X st t)(h2:PSs X JY u):PSs X (st::JY) (Zhy t u):=by
 intro pins s σ H D I h
 refine wpAny_execs_cons (thn (h1 pins s σ H { D with nx:=u D } I h) fun f s1 q=>?_)
 cases f with
 |next =>
  obtain⟨σ',H',I',q⟩:=q
  exact h2 pins s1 σ' H' D I' q
 |ret v=>exact q
 |brk=>exact q
 |cont=>exact q
theorem Zl(h1:PS X st t):PSs X [st] t:=by
 intro pins s σ H D I h
 refine wpAny_execs_cons (thn (h1 pins s σ H D I h) fun f s1 q=>?_)
 cases f with
 |next=>exact wpAny_execs_nil q
 |ret v=>exact q
 |brk=>exact q
 |cont=>exact q
theorem Inv.quiet{pins:List (Addr×Obj)}{σ:St}{H:Hp}{s:Shared}(I:Inv X pins σ H s):interactive X.env=false:=by simp[interactive,I.ok.kind]
noncomputable def Zbf(te:TE):TS:=fun D σ H=>te σ H fun _ H1=>D.nx σ H1
theorem ZQ(he:PE X e te)(hs:swapsWith e none pos.line X.env=pure false:=by rfl):PS X (.Expr e pos) (Zbf te):=by
 intro pins s σ H D I h
 exact wpAny_Expr_any (thn (he pins s σ H _ I h) fun v s1 ⟨x,H1,I1,r1,q1⟩=>⟨σ,H1,I1,q1⟩) I.quiet hs
noncomputable def Zj5(te:TE):TS:=fun D σ H=>te σ H D.rt
theorem Zx(he:PE X e te):PS X (.Return (some e) pos) (Zj5 te):=by
 intro pins s σ H D I h
 exact wpAny_Return_some (thn (he pins s σ H _ I h) fun v s1 ⟨x,H1,I1,r1,q1⟩=>⟨x,σ,H1,I1,r1,q1⟩)
noncomputable def Zld(c:TT)(t u:TS):TS:=fun D σ H=>c σ H fun b H1=>if b=true then t D σ H1 else u D σ H1
theorem Jd{c:Expr}{a b:List Stmt}{tc:TT}(hc:PT X c tc)(ha:PSs X a t)(hb:PSs X b u):PS X (.If c a b pos) (Zld tc t u):=by
 intro pins s σ H D I h
 refine wpAny_If (thn (hc pins s σ H _ I h) fun d s1 ⟨H1,I1,q1⟩=>?_)
 cases d with
 |true=>exact ha pins s1 σ H1 D I1 q1
 |false=>exact hb pins s1 σ H1 D I1 q1
noncomputable def Zh0:TS:=fun _ _ _=>False
theorem U2:PS X st Zh0:=fun _ _ _ _ _ _ h=>h.elim
end
noncomputable abbrev TG:=V->St->Hp->(St->Hp->Prop)->Prop
noncomputable abbrev TGs:=List V->St->Hp->(St->Hp->Prop)->Prop
def PG(X:Cx)(target:Expr)(t:TG):Prop:=
 ∀(pins:List (Addr×Obj)) (s:Shared) (σ:St) (H:Hp) (v:V) (u:Value) (Q:St->Hp->Prop),Inv X pins σ H s->JX v u->t v σ H Q ->
  wpAny (model X.prog X.w) X.A (assign target X.env u) (fun _ s'=>∃σ' H',Inv X pins σ' H' s'/\Q σ' H') X.xe s
def PGs(X:Cx)(ts:List Expr)(t:TGs):Prop:=
 ∀(pins:List (Addr×Obj)) (s:Shared) (σ:St) (H:Hp) (vs:List V) (us:List Value) (Q:St->Hp->Prop),Inv X pins σ H s->Jr vs us->t vs σ H Q ->
  wpAny (model X.prog X.w) X.A (assignInOrder ((assignEach ts X.env).map (·.2)) us) (fun _ s'=>∃σ' H',Inv X pins σ' H' s'/\Q σ' H') X.xe s
noncomputable abbrev ZkF:=V->V->V->Hp->(Hp->Prop)->Prop
def ZlD(X:Cx)(t:ZkF):Prop:=
 ∀(pins:List (Addr×Obj)) (s:Shared) (σ:St) (H:Hp) (o i v:V) (ov iv u:Value) (Q:Hp->Prop),Inv X pins σ H s->JX o ov->JX i iv->JX v u->t o i v H Q ->
  wpAny (model X.prog X.w) X.A (setItem ov iv u) (fun _ s'=>∃H',Inv X pins σ H' s'/\Q H') X.xe s
noncomputable abbrev TIp:=V->V->Hp->VK->Prop
def PIp(X:Cx)(op:Operator)(t:TIp):Prop:=
 ∀(pins:List (Addr×Obj)) (s:Shared) (σ:St) (H:Hp) (x y:V) (v u:Value) (Q:VK),Inv X pins σ H s->JX x v->JX y u->t x y H Q ->
  wpAny (model X.prog X.w) X.A (inplaceOp op v u) (EP X pins σ Q) X.xe s
section
variable {X:Cx}{pos:Pos}
noncomputable def QH(i:Nat):TG:=fun v σ H Q=>Q (σ.set i (some v)) H
theorem Ji{i:Nat}{x:Str}(hN:X.N.Nodup)(hi:X.N[i]?=some x)(hx:Loc X.env.scope x)(hf:X.fn x=true\/X.env.scope.names.lookup x=some .local:=by first|exact .inl rfl|exact .inr rfl|assumption):PG X (.Name x pos) (QH i):=by
 intro pins s σ H v u Q I r h
 exact wpAny_assign_Name (VN I hN hi hx r (fun s' I'=>⟨_,H,I',h⟩) hf)
noncomputable def Zl1:TGs:=fun vs σ H Q=>vs=[]/\Q σ H
noncomputable def ZiQ(t:TG)(u:TGs):TGs:=fun vs σ H Q=>∃v r,vs=v::r/\t v σ H fun σ' H'=>u r σ' H' Q
theorem ZeR:PGs X [] Zl1:=by
 intro pins s σ H vs us Q I r h
 obtain⟨e,h⟩:=h
 subst e
 cases r
 exact assignInOrder_nil ⟨σ,H,I,h⟩
theorem Qa{e:Expr}{es:List Expr}{t:TG}{u:TGs}(h1:PG X e t)(h2:PGs X es u)(hs:(assignEach (e::es) X.env).map (·.2)=assign e X.env::(assignEach es X.env).map (·.2):=by rfl):PGs X (e::es) (ZiQ t u):=by
 intro pins s σ H vs us Q I r h
 obtain⟨v,vr,e1,h⟩:=h
 subst e1
 cases r with
 |cons r rr =>
  rw[hs]
  refine assignInOrder_cons (thn (h1 pins s σ H _ _ _ I r h) fun _ s1 ⟨σ1,H1,I1,q1⟩=>?_)
  exact h2 pins s1 σ1 H1 _ _ Q I1 rr q1
noncomputable def Zl0(K:W.Frag)(n:Nat)(t:TGs):TG:=fun v σ H Q=>∃a xs,v=.ref a/\SqT K H a xs/\xs.length=n/\t xs σ H Q
theorem ZhB{es:List Expr}{k:Nat}{t:TGs}{n:Nat}(hc:X.calm=true)(h:PGs X es t)(hn:(assignEach es X.env).length=n:=by rfl)(hst:(assignEach es X.env).findIdx? (·.1)=none:=by rfl):PG X (.Tuple es k pos) (Zl0 X.K n t):=by
 intro pins s σ H v u Q I r hw
 obtain⟨a,xs,e1,hq,hl,hw⟩:=hw
 subst e1
 cases r
 obtain⟨its,rv,ht,hz⟩:=I.tuple hq
 refine assign_Tuple_tuple (I.ok.hd hc) ht (by simp[hn,<- hl,rv.length]) hst fun h' hx=>?_
 have I1:Inv X pins σ H { s with heap:=h' }:=I.kept (t':=s.toks) fun b o e=>hx b o (Zt1 (Heap.lt_size e)) e
 exact h pins _ σ H xs _ Q I1 (by simpa using rv) hw
noncomputable def ZlX(to ti:TE)(t:ZkF):TG:=fun v σ H Q=>to σ H fun o H1=>ti σ H1 fun i H2=>t o i v H2 fun H3=>Q σ H3
theorem Qz{o i:Expr}{to ti:TE}{t:ZkF}(ho:PE X o to)(hi:PE X i ti)(hs:ZlD X t)(ha:∀v,assign (.Subscript o i pos) X.env v=(do
   let ov <- holding [v] (eval o X.env)
   let iv <- holding [v,ov] (eval i X.env)
   standAt pos
   holding [v,ov,iv] (setItem ov iv v)
   release [v,ov,iv] []):=by exact fun _=>rfl):PG X (.Subscript o i pos) (ZlX to ti t):=by
 intro pins s σ H v u Q I r h
 rw[ha]
 refine wpAny_bind (wpAny_holding (thn (ho pins s σ H _ I h) fun ov s1 ⟨x,H1,I1,r1,q1⟩=>?_))
 refine wpAny_bind (wpAny_holding (thn (hi pins s1 σ H1 _ I1 q1) fun iv s2 ⟨y,H2,I2,r2,q2⟩=>?_))
 refine wpAny_bind (wpAny_standAt (wpAny_bind (wpAny_holding (thn (hs pins s2 σ H2 x y v ov iv u _ I2 r1 r2 r q2) fun _ s3 ⟨H3,I3,q3⟩=>?_))))
 exact wpAny_release ⟨σ,H3,I3,q3⟩
noncomputable def Ze6(te:TE)(g:TG):TS:=fun D σ H=>te σ H fun x H1=>g x σ H1 D.nx
theorem U3{tg e:Expr}{te:TE}{g:TG}(he:PE X e te)(hg:PG X tg g)(hs:swapsWithSole [tg] e pos.line X.env=pure false:=by rfl)(hw:swappedStores [tg] e X.env=pure none:=by rfl)(h1:(assignEach [tg] X.env).map (·.2)=[assign tg X.env]:=by rfl):PS X (.Assign [tg] e pos) (Ze6 te g):=by
 intro pins s σ H D I h
 refine wpAny_Assign_stores (thn (he pins s σ H _ I h) fun v s1 ⟨x,H1,I1,r1,q1⟩=>?_) hs hw
 rw[h1]
 exact thn (hg pins s1 σ H1 x v _ I1 r1 q1) fun _ s2 q=>q
theorem Z2{i:Nat}{x:Str}{e:Expr}{te:TE}{pos':Pos}(hN:X.N.Nodup)(hi:X.N[i]?=some x)(hx:Loc X.env.scope x)(he:PE X e te)(hs:swapsWith e (some (.Name x pos')) pos.line X.env=pure false:=by rfl)(hf:X.fn x=true\/X.env.scope.names.lookup x=some .local:=by first|exact .inl rfl|exact .inr rfl|assumption) :
  PS X (.Assign [.Name x pos'] e pos) (Ze6 te (QH i)):=by
 intro pins s σ H D I h
 refine wpAny_Assign_Name (thn (he pins s σ H _ I h) fun v s1 ⟨y,H1,I1,r1,q1⟩=>?_) hs
 exact VN I1 hN hi hx r1 (fun s2 I2=>⟨_,H1,I2,q1⟩) hf
noncomputable def ZlN(i:Nat)(te:TE)(ti:TIp):TS:=fun D σ H=>∃x,σ[i]?=some (some x)/\te σ H fun y H1=>ti x y H1 fun z H2=>D.nx (σ.set i (some z)) H2
theorem ZhA{i:Nat}{x:Str}{e:Expr}{te:TE}{op:Operator}{ti:TIp}{pos':Pos}(hN:X.N.Nodup)(hi:X.N[i]?=some x)(hx:Loc X.env.scope x)(he:PE X e te)(ho:PIp X op ti)(hf:X.fn x=true\/X.env.scope.names.lookup x=some .local:=by first|exact .inl rfl|exact .inr rfl|assumption) :
  PS X (.AugAssign (.Name x pos') op e pos) (ZlN i te ti):=by
 intro pins s σ H D I h
 obtain⟨v,e1,h⟩:=h
 obtain⟨m,hn,hl⟩:=I.loc
 have vis:Vis X.env.scope x:=by rcases hx with k|k;exact .inl k;exact .inr (.inl k)
 obtain⟨u,r,l⟩:=hl i x v hi e1 vis
 refine wpAny_AugAssign_Name ?_
 have go:wpAny (model X.prog X.w) X.A (eval e X.env) (fun w s₂=>wpAny (model X.prog X.w) X.A (inplaceOp op u w) (fun r s₃=>wpAny (model X.prog X.w) X.A (storeName X.env x r) (fun _=>SP X pins D .next) X.xe s₃) X.xe s₂) X.xe s:=by
  refine thn (he pins s σ H _ I h) fun w s1 ⟨y,H1,I1,r1,q1⟩=>?_
  refine thn (ho pins s1 σ H1 v y u w _ I1 r r1 q1) fun z s2 ⟨zv,H2,I2,r2,q2⟩=>?_
  exact VN I2 hN hi hx r2 (fun s3 I3=>⟨_,H2,I3,q2⟩) hf
 rcases l with ⟨hk,hm⟩|⟨hk,c,hc,hcell⟩
 ·exact wpAny_loadName_local I.ok.kind hk hn hm go
 ·rcases hk with hk|hk
  ·exact wpAny_loadName_cell I.ok.kind hk hc hcell go
  ·rcases hx with k|k
   ·have:X.env.scope.names.lookup x=some .free:=hk
    rw[k] at this;cases this
   ·have:X.env.scope.names.lookup x=some .free:=hk
    rw[k] at this;cases this
noncomputable def Zj9(to ti te:TE)(tget:V->V->Hp->VK->Prop)(tip:TIp)(tset:ZkF):TS:=fun D σ H=>to σ H fun o H1=>ti σ H1 fun i H2=>tget o i H2 fun x H3=>te σ H3 fun y H4=>tip x y H4 fun z H5=>tset o i z H5 fun H6=>D.nx σ H6
def ZlE(X:Cx)(t:V->V->Hp->VK->Prop):Prop:=
 ∀(pins:List (Addr×Obj)) (s:Shared) (σ:St) (H:Hp) (o i:V) (ov iv:Value) (Q:VK),Inv X pins σ H s->JX o ov->JX i iv->t o i H Q ->
  wpAny (model X.prog X.w) X.A (getItem ov iv) (EP X pins σ Q) X.xe s
theorem ZeN{o i e:Expr}{to ti te:TE}{tget:V->V->Hp->VK->Prop}{tip:TIp}{tset:ZkF}{op:Operator}{tpos:Pos}(ho:PE X o to)(hi:PE X i ti)(hg:ZlE X tget)(he:PE X e te)(hp:PIp X op tip)(hs:ZlD X tset)(ha:∀ov iv new,augStore i ov iv new=(do holding [new,ov,iv] (setItem ov iv new);release [new,ov,iv] [];pure .next):=by intros;rfl):PS X (.AugAssign (.Subscript o i tpos) op e pos) (Zj9 to ti te tget tip tset):=by
 intro pins s σ H D I h
 refine wpAny_AugAssign_SubscriptAny (thn (ho pins s σ H _ I h) fun ov s1 ⟨x1,H1,I1,r1,q1⟩=>?_) ha
 refine thn (hi pins s1 σ H1 _ I1 q1) fun iv s2 ⟨x2,H2,I2,r2,q2⟩=>?_
 refine thn (hg pins s2 σ H2 x1 x2 ov iv _ I2 r1 r2 q2) fun old s3 ⟨x3,H3,I3,r3,q3⟩=>?_
 refine thn (he pins s3 σ H3 _ I3 q3) fun v s4 ⟨x4,H4,I4,r4,q4⟩=>?_
 refine thn (hp pins s4 σ H4 x3 x4 old v _ I4 r3 r4 q4) fun new s5 ⟨x5,H5,I5,r5,q5⟩=>?_
 exact thn (hs pins s5 σ H5 x1 x2 x5 ov iv new _ I5 r1 r2 r5 q5) fun _ s6 ⟨H6,I6,q6⟩=>⟨σ,H6,I6,q6⟩
noncomputable def ipI(f:Int->Int->Int):TIp:=fun x y H Q=>∃i j,x=.int i/\y=.int j/\Q (.int (f i j)) H
theorem ZhW:PIp X .Add (ipI fun i j=>i+j):=by
 intro pins s σ H x y v u Q I r1 r2 h
 obtain⟨i,j,e1,e2,q⟩:=h
 subst e1;subst e2
 obtain⟨t,rfl⟩:=r1
 obtain⟨t',rfl⟩:=r2
 exact iadd_int ⟨.int _,H,I.tok _,⟨_,rfl⟩,q⟩
theorem ZhV:PIp X .Sub (ipI fun i j=>i-j):=by
 intro pins s σ H x y v u Q I r1 r2 h
 obtain⟨i,j,e1,e2,q⟩:=h
 subst e1;subst e2
 obtain⟨t,rfl⟩:=r1
 obtain⟨t',rfl⟩:=r2
 exact isub_int ⟨.int _,H,I.tok _,⟨_,rfl⟩,q⟩
noncomputable def ZcJ(c:TT)(tb:TS):TS:=fun D σ H=>∃W:Nat->St->Hp->Prop,(∃m,W m σ H)/\∀m σ H,W m σ H ->
 c σ H fun b H1=>if b=true then ∃N:St->Hp->Prop,(∀σ' H',N σ' H'->∃m',m'<m/\W m' σ' H')/\tb { D with nx:=N,ct:=N,bk:=D.nx } σ H1 else D.nx σ H1
theorem U1{c:Expr}{body:List Stmt}{tc:TT}{tb:TS}(hp:PassesOwn (model X.prog X.w) X.A X.env X.xe)(hc:PT X c tc)(hb:PSs X body tb):PS X (.While c body [] pos) (ZcJ tc tb):=by
 intro pins s σ H D I h
 obtain⟨W,⟨m0,w0⟩,turn⟩:=h
 refine wpAny_While (codeAny_whileLoop (fun n s'=>∃σ' H',Inv X pins σ' H' s'/\W n σ' H') ?_ m0 ⟨σ,H,I,w0⟩)
 rintro n s1 ⟨σ1,H1,I1,w1⟩
 refine wpAny_passesOwn hp (thn (hc pins s1 σ1 H1 _ I1 (turn n σ1 H1 w1)) fun b s2 ⟨H2,I2,q2⟩=>?_)
 cases b with
 |true =>
  obtain⟨N,hN,q2⟩:=q2
  rw[if_pos rfl]
  refine wpAny_passesOwn hp (thn (hb pins s2 σ1 H2 _ I2 q2) fun f s3 q3=>?_)
  cases f with
  |next =>
   obtain⟨σ3,H3,I3,n3⟩:=q3
   obtain⟨m',hm,w3⟩:=hN σ3 H3 n3
   exact⟨m',hm,σ3,H3,I3,w3⟩
  |cont =>
   obtain⟨σ3,H3,I3,n3⟩:=q3
   obtain⟨m',hm,w3⟩:=hN σ3 H3 n3
   exact⟨m',hm,σ3,H3,I3,w3⟩
  |brk=>exact q3
  |ret v=>exact q3
 |false =>
  rw[if_neg Bool.false_ne_true]
  exact wpAny_execs_nil ⟨σ1,H2,I2,q2⟩
end
structure It where
 go:Nat->Hp->Prop
 yld:Nat->Hp->V->Hp->Prop
 stop:Nat->Hp->Prop
def Zew(X:Cx)(pins:List (Addr×Obj))(H:Hp)(b:Addr):Prop:=
 H b=none/\b≠X.env.locals/\b ∉ X.fs/\(b∈X.ex\/X.s₀.heap.objs.size<=b)/\(∀x c,X.env.cells.lookup x=some c->c≠b)/\∀p∈X.pn++pins,p.1≠b
theorem Inv.fpOk{X:Cx}{pins:List (Addr×Obj)}{σ:St}{H H':Hp}{s:Shared}{b:Addr}(I:Inv X pins σ H s)(hb:s.heap.objs.size<=b)(hn:H' b=none):Zew X pins H' b:=by
 refine⟨hn,Zur (Ztm I.lt hb),I.nofs hb,.inr (Zt7 I.sz hb),fun x c e z=>?_,fun p hp z=>?_⟩
 ·obtain⟨v,q⟩:=I.cell x c e
  exact absurd (Ztm q.lt (by rw[z];exact hb)) (ZtA _)
 ·exact absurd (Ztm (Heap.lt_size (I.pin p hp).1) (by rw[z];exact hb)) (ZtA _)
structure Zjy(P:Program)(w:World)(K:PySem.W.Frag)(tg:Expr)(J:It)(fp:List Addr)(it:Addr)(tn:Nat->Heap->Prop):Prop where
 mem:it∈fp
 obj:∀i h,tn i h->∀b∈fp,∃o,h.get? b=some o/\∀v,o.data≠.cell v
 keep:∀i h h',tn i h->(∀b∈fp,∀o,h.get? b=some o->h'.get? b=some o)->tn i h'
 item:∀(X:Cx),X.prog=P->X.w=w->X.K=K->X.calm=true->∀(i:Nat) (pins:List (Addr×Obj)) (s:Shared) (σ:St) (H:Hp) (E:Value->Shared->Prop),Inv X pins σ H s->(∀b∈fp,Zew X pins H b)->tn i s.heap->J.go i H ->
  wpAny (model P w) X.A (pyNext (.ref it)) (fun r s1=>∃u,r=some u /\
   wpAny (model P w) X.A (letOwnedTupleGo tg (.ref it) u) (fun _ s2=>∃x H',Inv X pins σ H' s2/\JX x u/\J.yld i H x H'/\tn (i+1) s2.heap/\∀b∈fp,H' b=none) E s1) E s
 done:∀(X:Cx),X.prog=P->X.w=w->X.K=K->X.calm=true->∀(i:Nat) (pins:List (Addr×Obj)) (s:Shared) (σ:St) (H:Hp) (E:Value->Shared->Prop),Inv X pins σ H s->(∀b∈fp,Zew X pins H b)->tn i s.heap->J.stop i H ->
  wpAny (model P w) X.A (pyNext (.ref it)) (fun r s1=>r=none/\Inv X pins σ H s1) E s
 self:∀(A:Around) (i:Nat) (s:Shared) (Q:Value->Shared->Prop) (E:Value->Shared->Prop),tn i s.heap->Q (.ref it) s->wpAny (model P w) A (pyIter (.ref it)) Q E s
noncomputable abbrev TI:=St->Hp->(It->Hp->Prop)->Prop
def PIE(X:Cx)(pins:List (Addr×Obj))(σ:St)(tg:Expr)(R:It->Hp->Prop)(itv:Value)(s2:Shared):Prop:=
 ∃(it:Addr) (fp:List Addr) (tn:Nat->Heap->Prop) (J:It) (H':Hp),itv=.ref it/\Inv X pins σ H' s2/\Zjy X.prog X.w X.K tg J fp it tn/\tn 0 s2.heap/\(∀b∈fp,Zew X pins H' b)/\R J H'
def PI(X:Cx)(tg iter:Expr)(wi:TI):Prop:=
 ∀(pins:List (Addr×Obj)) (s:Shared) (σ:St) (H:Hp) (R:It->Hp->Prop),Inv X pins σ H s->wi σ H R ->
  wpAny (model X.prog X.w) X.A (eval iter X.env) (fun v s1=>wpAny (model X.prog X.w) X.A (pyIter v) (PIE X pins σ tg R) X.xe s1) X.xe s
theorem ZiO{M:Model}{A:Around}{E:Value->Shared->Prop}{s:Shared}{tg:Expr}{it:Addr}{u:Value}{o:Obj}{n:String}{vs:Array Value}{Q:Unit->Shared->Prop}(ho:s.heap.get? it=some o)(hc:o.cls=.type n)(hd:o.data=.fields vs)(hn:["enumerate", "zip", "dict_itemiterator", "dict_reverseitemiterator", "odict_iterator", "itertools.zip_longest", "itertools.pairwise"].contains n=false)(hQ:Q () s):wpAny M A (letOwnedTupleGo tg (.ref it) u) Q E s:=by
 unfold letOwnedTupleGo
 cases tg<;>first
  |exact wpAny_pure hQ
  |(cases u<;>first
    |exact wpAny_pure hQ
    |(refine wpAny_bind (wpAny_load ho ?_)
      rw[hc,hd]
      show wpAny M A (if (["enumerate", "zip", "dict_itemiterator", "dict_reverseitemiterator", "odict_iterator", "itertools.zip_longest", "itertools.pairwise"].contains n&&vs[0]?==some (rawInt _))=true then _ else _) Q E s
      rw[if_neg (by intro h;rw[hn,Bool.false_and] at h;cases h)]
      exact wpAny_pure hQ))
noncomputable def Itl(K:W.Frag)(a:Addr):It:=
 ⟨fun i H=>∃xs x,SqL K H a xs/\xs[i]?=some x,fun i H x H'=>H'=H/\∀xs,SqL K H a xs->xs[i]?=some x,fun i H=>∃xs,SqL K H a xs/\xs.length<=i⟩
noncomputable def Itr(lo:Int)(n:Nat):It:=⟨fun i _=>i<n,fun i H x H'=>H'=H/\x=.int (lo+i),fun i _=>n<=i⟩
theorem Ze0{P:Program}{w:World}{K:W.Frag}{tg:Expr}(a it:Addr):Zjy P w K tg (Itl K a) [it] it (fun i h=>h.IsListIter it a i) where
 mem:=by simp
 obj:=fun i h st b hb=>by
  have e:b=it:=by simpa using hb
  subst e
  obtain⟨o,e,c,d⟩:=st
  exact⟨o,e,fun v z=>by rw[d] at z;cases z⟩
 keep:=fun i h h' st k=>st.at fun o e=>k it (by simp) o e
 item:=by
  intro X hP hw hK hc i pins s σ H E I hf st hg
  subst hP hw hK
  obtain⟨xs,x,hq,hx⟩:=hg
  obtain⟨its,rv,p,hz⟩:=I.list hq
  obtain⟨u,hu,ru⟩:=rv.get hx
  obtain⟨f0,f1,f2,f3,f4,f5⟩:=hf it (by simp)
  refine wpAny_pyNext_list_item st p.isList (x:=u) (by simpa using hu) fun h' st' sb=>?_
  have I1:Inv X pins σ H { s with heap:=h' }:=I.turned (t':=s.toks) (fun b o hb e=>(sb.2 b hb).trans e) f0 f1 f3 f4 f5
  obtain⟨o,e,c,d⟩:=id st'
  exact⟨u,rfl,ZiO (s:={ s with heap:=h' }) e c d (by decide) ⟨x,H,I1,ru,⟨rfl,fun ys hy=>by rw[I.list_inj hy hq];exact hx⟩,st',fun b hb=>(hf b hb).1⟩⟩
 done:=by
  intro X hP hw hK hc i pins s σ H E I hf st hg
  subst hP hw hK
  obtain⟨xs,hq,hx⟩:=hg
  obtain⟨its,rv,p,hz⟩:=I.list hq
  obtain⟨f0,f1,f2,f3,f4,f5⟩:=hf it (by simp)
  have hl:=rv.length
  exact wpAny_pyNext_list_end (I.ok.hd hc) st p.isList (by simp;lia) fun h' eb=>⟨rfl,I.turned (t':=s.toks) (fun b o hb e=>eb b o hb e) f0 f1 f3 f4 f5⟩
 self:=fun _ _ _ _ _ st h=>wpAny_pyIter_listiter st h
theorem ZdM{P:Program}{w:World}{K:W.Frag}{tg:Expr}(it:Addr)(lo:Int)(n:Nat):Zjy P w K tg (Itr lo n) [it] it (fun i h=>IsRangeIter h it (lo+(i:Nat)*1) ((n:Int)-(i:Nat)) 1) where
 mem:=by simp
 obj:=fun i h st b hb=>by
  have e:b=it:=by simpa using hb
  subst e
  exact⟨_,st,fun v z=>by
   have z':Data.fields _=Data.cell v:=z
   cases z'⟩
 keep:=fun i h h' st k=>k it (by simp) _ st
 item:=by
  intro X hP hw hK hc i pins s σ H E I hf st hg
  subst hP hw hK
  obtain⟨f0,f1,f2,f3,f4,f5⟩:=hf it (by simp)
  have W:=Walks.range (prog:=X.prog) (w:=X.w) (I.ok.hd hc) it lo 1 n
  refine W.item i s _ _ hg st fun v h' tk hv st' kk=>?_
  obtain⟨t,rfl⟩:=hv
  have I1:Inv X pins σ H { s with heap:=h',toks:=tk }:=I.turned (fun b o hb e=>kk b o (by simpa using hb) e) f0 f1 f3 f4 f5
  refine⟨_,rfl,ZiO (s:={ s with heap:=h',toks:=tk }) (n := "range_iterator") st' rfl rfl (by decide) ⟨.int (lo+i),H,I1,⟨t, ?_⟩,⟨rfl,rfl⟩,st',fun b hb=>(hf b hb).1⟩⟩
  rw[Int.mul_one]
 done:=by
  intro X hP hw hK hc i pins s σ H E I hf st hg
  subst hP hw hK
  obtain⟨f0,f1,f2,f3,f4,f5⟩:=hf it (by simp)
  exact wpAny_pyNext_range_end (I.ok.hd hc) st (by have:n<=i:=hg;lia) fun h' eb=>⟨rfl,I.turned (t':=s.toks) (fun b o hb e=>eb b o hb e) f0 f1 f3 f4 f5⟩
 self:=fun _ _ _ _ _ st h=>wpAny_pyIter_rangeiter st h
section
variable {X:Cx}{tg:Expr}
noncomputable def ZgZ(K:W.Frag)(tl:TE):TI:=fun σ H R=>tl σ H fun x H1=>∃a,x=.ref a/\(∃xs,SqL K H1 a xs)/\R (Itl K a) H1
theorem Ziz{l:Expr}{tl:TE}(hl:PE X l tl):PI X tg l (ZgZ X.K tl):=by
 intro pins s σ H R I h
 refine thn (hl pins s σ H _ I h) fun v s1 ⟨x,H1,I1,r1,q1⟩=>?_
 obtain⟨a,e,⟨xs,hq⟩,q⟩:=q1
 subst e
 cases r1
 obtain⟨its,rv,p,hz⟩:=I1.list hq
 refine wpAny_pyIter_list p.isList ?_
 refine⟨s1.heap.objs.size,[s1.heap.objs.size],_,_,H1,rfl,I1.kept (t':=s1.toks) fun b o e=>Heap.get?_push_of_some _ e,Ze0 a _,⟨_,Heap.get?_push_size _ rfl,rfl,rfl⟩,fun b hb=>?_,q⟩
 have e:b=s1.heap.objs.size:=by simpa using hb
 subst e
 exact I1.fpOk (Zto _) (I1.hok.fresh (Zto _))
theorem ZcT{pins:List (Addr×Obj)}{σ:St}{H:Hp}{s:Shared}{R:It->Hp->Prop}{E:Value->Shared->Prop}{lo hi:Int}{t u v:Tok}{tk:Nat}(I:Inv X pins σ H s)(h1:-(2^62)<=lo)(h2:lo<2^62)(h3:-(2^62)<=hi)(h4:hi<2^62)(q:R (Itr lo (hi-lo).toNat) H):wpAny (model X.prog X.w) X.A (pyIter (.ref s.heap.objs.size)) (PIE X pins σ tg R) E { s with heap:=s.heap.push { cls:=.type "range",data:=.fields #[.int lo t,.int hi u,.int 1 v] },toks:=tk }:=by
 refine wpAny_pyIter_range (IsRange.new ..) (small_one h1 h2 h3 h4) ?_
 have I1:Inv X pins σ H { s with heap:=s.heap.push { cls:=.type "range",data:=.fields #[.int lo t,.int hi u,.int 1 v] },toks:=tk }:=I.kept fun b o e=>Heap.get?_push_of_some _ e
 refine⟨(s.heap.push { cls:=.type "range",data:=.fields #[.int lo t,.int hi u,.int 1 v] }).objs.size,[(s.heap.push { cls:=.type "range",data:=.fields #[.int lo t,.int hi u,.int 1 v] }).objs.size],_,_,H,rfl,
  I1.kept (t':=tk) fun b o e=>Heap.get?_push_of_some _ e,ZdM _ lo (hi-lo).toNat, ?_,fun b hb=>?_,q⟩
 ·have e1:lo+((0:Nat):Int)*1=lo:=by simp
  have e2:(((hi-lo).toNat:Nat):Int)-((0:Nat):Int)=Builtin.Range.rangeSize lo hi 1:=by rw[rangeSize_one];split<;>lia
  show IsRangeIter _ _ (lo+((0:Nat):Int)*1) ((((hi-lo).toNat:Nat):Int)-((0:Nat):Int)) 1
  rw[e1,e2]
  exact Heap.get?_push_size _ rfl
 ·have e:b=(s.heap.push { cls:=.type "range",data:=.fields #[.int lo t,.int hi u,.int 1 v] }).objs.size:=by simpa using hb
  subst e
  exact I1.fpOk (Zto _) (I1.hok.fresh (Zto _))
noncomputable def Zkr(ta:TA):TI:=fun σ H R=>ta σ H fun vs H1=>∃j:Int,vs=[.int j]/\-(2^62)<=j/\j<2^62/\R (Itr 0 j.toNat) H1
noncomputable def Zkq(ta:TA):TI:=fun σ H R=>ta σ H fun vs H1=>∃i j:Int,vs=[.int i,.int j]/\(-(2^62)<=i/\i<2^62/\-(2^62)<=j/\j<2^62)/\R (Itr i (j-i).toNat) H1
theorem JQ{a:Expr}{ta:TA}{p pos:Pos}(hg:Gl X "range")(hm:X.mg "range"=none)(ha:PA X [a] ta)(hs:starEach [a] X.env=[(false,eval a X.env)]:=by rfl):PI X tg (.Call (.Name "range" p) [a] [] pos) (Zkr ta):=by
 intro pins s σ H R I h
 refine Call_ (Zaq I hg hm boot_range (PyProof.Rows.callWith_type1 (thn (ha pos pins s σ H _ I h) fun us s1 ⟨vs,H1,I1,r1,q1⟩=>?_) hs rfl))
 obtain⟨j,e,q1,q2,q⟩:=q1
 subst e
 cases r1 with
 |cons r rr =>
  cases rr
  obtain⟨t,rfl⟩:=r
  exact call_range_1 (ZcT I1 (by lia) (by lia) q1 q2 (by simpa using q))
theorem Qy{a b:Expr}{ta:TA}{p pos:Pos}(hg:Gl X "range")(hm:X.mg "range"=none)(ha:PA X [a,b] ta)(hs:starEach [a,b] X.env=[(false,eval a X.env),(false,eval b X.env)]:=by rfl)(hs2:starEach [b] X.env=[(false,eval b X.env)]:=by rfl) :
  PI X tg (.Call (.Name "range" p) [a,b] [] pos) (Zkq ta):=by
 intro pins s σ H R I h
 refine Call_ (Zaq I hg hm boot_range (PyProof.Rows.callWith_type1 (thn (ha pos pins s σ H _ I h) fun us s1 ⟨vs,H1,I1,r1,q1⟩=>?_) (by rw[hs,hs2]) (by rw[hs2];rfl)))
 obtain⟨i,j,e,⟨q1,q2,q3,q4⟩,q⟩:=q1
 subst e
 cases r1 with
 |cons r rr =>
  cases rr with
  |cons r' rr =>
   cases rr
   obtain⟨t,rfl⟩:=r
   obtain⟨t',rfl⟩:=r'
   exact call_range_2 (ZcT I1 q1 q2 q3 q4 q)
noncomputable def ZlM(wi:TI)(g:TG)(tb:TS):TS:=fun D σ H=>wi σ H fun J H1=>∃W:Nat->Nat->St->Hp->Prop,(∃m,W 0 m σ H1)/\∀i m σ H,W i m σ H ->
 (J.stop i H/\D.nx σ H)\/(J.go i H/\∃N:St->Hp->Prop,(∀σ' H',N σ' H'->∃m',m'<m/\W (i+1) m' σ' H')/\∀x H',J.yld i H x H'->g x σ H' fun σ2 H2=>tb { D with nx:=N,ct:=N,bk:=D.nx } σ2 H2)
noncomputable def ZcW(fp:List Addr)(h:Heap):List (Addr×Obj):=fp.filterMap fun b=>(h.get? b).map fun o=>(b,o)
theorem Jp{fp:List Addr}{h:Heap}{b:Addr}{o:Obj}(hb:b∈fp)(e:h.get? b=some o):(b,o)∈ZcW fp h:=Zu8.mpr ⟨b,hb,by rw[e];rfl⟩
theorem Zfl{fp:List Addr}{h:Heap}{p:Addr×Obj}(hp:p∈ZcW fp h):p.1∈fp/\h.get? p.1=some p.2:=by
 obtain⟨b,hb,e⟩:=Zu8.mp hp
 cases q:h.get? b with
 |none=>rw[q] at e;cases e
 |some o =>
  rw[q] at e
  have e':(b,o)=p:=Option.some.inj e
  subst e'
  exact⟨hb,q⟩
theorem Inv.pinned{pins:List (Addr×Obj)}{σ:St}{H:Hp}{s:Shared}{fp:List Addr}(I:Inv X pins σ H s)(hf:∀b∈fp,Zew X pins H b)(ho:∀b∈fp,∃o,s.heap.get? b=some o/\∀v,o.data≠.cell v):Inv X (pins++ZcW fp s.heap) σ H s:=
 I.pins_of fun p hp=>(Zti.mp hp).elim (fun z=>I.pin p (Ztg _ z)) fun z=>by
  obtain⟨hb,e⟩:=Zfl z
  obtain⟨f0,f1,f2,_⟩:=hf p.1 hb
  obtain⟨o,e',d⟩:=ho p.1 hb
  rw[e] at e';cases e'
  exact⟨e,f0,f1,f2,d⟩
theorem Inv.unpinned{pins pl:List (Addr×Obj)}{σ:St}{H:Hp}{s:Shared}(I:Inv X (pins++pl) σ H s):Inv X pins σ H s:=I.pins_of fun p hp=>I.pin p (Ztg _ (Ztj _ hp))
theorem V0{iter:Expr}{body:List Stmt}{wi:TI}{g:TG}{tb:TS}{pos:Pos}(hp:PassesOwn (model X.prog X.w) X.A X.env X.xe)(hc:X.calm=true)(hi:PI X tg iter wi)(hg:PG X tg g)(hb:PSs X body tb)(hs:∀x,foldedSetIterable iter X.env x=pure x:=by exact fun _=>rfl):PS X (.For tg iter body [] pos) (ZlM wi g tb):=by
 intro pins s σ H D I h
 refine wpAny_For (thn (hi pins s σ H _ I h) fun v s1 h1=>thn h1 fun itv s2 h2=>?_) hs
 obtain⟨it,fp,tn,J,H2,e,I2,T,st2,f2,W,⟨m0,w0⟩,turn⟩:=h2
 subst e
 have stat:∀{H':Hp},(∀b∈fp,H' b=none)->∀b∈fp,Zew X pins H' b:=fun hn b hb=>⟨hn b hb,(f2 b hb).2⟩
 refine codeAny_forLoop_any (fun n s'=>∃i σ' H',Inv X pins σ' H' s'/\tn i s'.heap/\(∀b∈fp,H' b=none)/\W i n σ' H') ?_ m0 ⟨0,σ,H2,I2,st2,fun b hb=>(f2 b hb).1,w0⟩
 rintro n s3 ⟨i,σ3,H3,I3,st3,fr3,w3⟩
 rcases turn i n σ3 H3 w3 with ⟨stop,qn⟩|⟨go,N,hN,step⟩
 ·refine wpAny_passesOwn hp (thn (T.done X rfl rfl rfl hc i pins s3 σ3 H3 X.xe I3 (stat fr3) st3 stop) fun r s4 ⟨hr,I4⟩=>?_)
  subst hr
  exact wpAny_execs_nil ⟨σ3,H3,I4,qn⟩
 ·refine wpAny_passesOwn hp (thn (T.item X rfl rfl rfl hc i pins s3 σ3 H3 X.xe I3 (stat fr3) st3 go) fun r s4 ⟨u,hr,h4⟩=>?_)
  subst hr
  refine wpAny_passesOwn hp (thn h4 fun _ s5 ⟨x,H5,I5,r5,y5,st5,fr5⟩=>?_)
  have I5':=I5.pinned (stat fr5) (T.obj _ _ st5)
  refine wpAny_passesOwn hp (thn (hg _ s5 σ3 H5 x u _ I5' r5 (step x H5 y5)) fun _ s6 ⟨σ6,H6,I6,q6⟩=>?_)
  refine wpAny_passesOwn hp (thn (hb _ s6 σ6 H6 _ I6 q6) fun f s7 q7=>?_)
  have again:∀{σ7:St}{H7:Hp},Inv X (pins++ZcW fp s5.heap) σ7 H7 s7->N σ7 H7->∃m,m<n/\∃i σ' H',Inv X pins σ' H' s7/\tn i s7.heap/\(∀b∈fp,H' b=none)/\W i m σ' H':=fun {σ7 H7} I7 n7=>by
   obtain⟨m',hm,w7⟩:=hN σ7 H7 n7
   refine⟨m',hm,i+1,σ7,H7,I7.unpinned,T.keep _ _ _ st5 fun b hb o e=>(I7.pin (b,o) (Ztg _ (Ztg _ (Jp hb e)))).1,fun b hb=>?_,w7⟩
   obtain⟨o,e,d⟩:=T.obj _ _ st5 b hb
   exact(I7.pin (b,o) (Ztg _ (Ztg _ (Jp hb e)))).2.1
  cases f with
  |next=>obtain⟨σ7,H7,I7,n7⟩:=q7;exact again I7 n7
  |cont=>obtain⟨σ7,H7,I7,n7⟩:=q7;exact again I7 n7
  |brk=>obtain⟨σ7,H7,I7,q7⟩:=q7;exact⟨σ7,H7,I7.unpinned,q7⟩
  |ret v=>obtain⟨x7,σ7,H7,I7,r7,q7⟩:=q7;exact⟨x7,σ7,H7,I7.unpinned,r7,q7⟩
end
noncomputable abbrev R2:=V->V->Hp->VK->Prop
def OpR(X:Cx)(f:Value->Value->Sem Value)(r:R2):Prop:=
 ∀(pins:List (Addr×Obj)) (s:Shared) (σ:St) (H:Hp) (x y:V) (v u:Value) (Q:VK),Inv X pins σ H s->JX x v->JX y u->r x y H Q ->
  wpAny (model X.prog X.w) X.A (f v u) (EP X pins σ Q) X.xe s
def UnR(X:Cx)(f:Value->Sem Value)(r:V->Hp->VK->Prop):Prop:=
 ∀(pins:List (Addr×Obj)) (s:Shared) (σ:St) (H:Hp) (x:V) (v:Value) (Q:VK),Inv X pins σ H s->JX x v->r x H Q ->
  wpAny (model X.prog X.w) X.A (f v) (EP X pins σ Q) X.xe s
def Vy(X:Cx)(f:Value)(r:List V->Hp->VK->Prop):Prop:=
 ∀(pins:List (Addr×Obj)) (s:Shared) (σ:St) (H:Hp) (xs:List V) (us:List Value) (Q:VK),Inv X pins σ H s->Jr xs us->r xs H Q ->
  wpAny (model X.prog X.w) X.A (call f us) (EP X pins σ Q) X.xe s
noncomputable def tOp(r:R2)(ta tb:TE):TE:=fun σ H Q=>ta σ H fun x H1=>tb σ H1 fun y H2=>r x y H2 Q
noncomputable def tUn(r:V->Hp->VK->Prop)(ta:TE):TE:=fun σ H Q=>ta σ H fun x H1=>r x H1 Q
noncomputable def rI(C:Int->Int->Prop)(g:Int->Int->V):R2:=fun x y H Q=>∃i j,x=.int i/\y=.int j/\C i j/\Q (g i j) H
noncomputable def rI0(g:Int->Int->V):R2:=fun x y H Q=>∃i j,x=.int i/\y=.int j/\Q (g i j) H
def rU(g:Int->V):V->Hp->VK->Prop:=fun x H Q=>∃i,x=.int i/\Q (g i) H
section
variable {X:Cx}{a b:Expr}{ta tb:TE}{pos:Pos}
theorem Zl9(ha:PE X a ta)(hb:PE X b tb){pins:List (Addr×Obj)}{s:Shared}{σ:St}{H:Hp}{R:V->V->Hp->Prop}(I:Inv X pins σ H s)(h:ta σ H fun x H1=>tb σ H1 fun y H2=>R x y H2){Q:Value->Shared->Prop}{f:Value->Value->Sem Value}(hf:∀v u s2 x y H2,Inv X pins σ H2 s2->JX x v->JX y u->R x y H2->wpAny (model X.prog X.w) X.A (f v u) Q X.xe s2) :
  wpAny (model X.prog X.w) X.A (eval a X.env) (fun v s₁=>wpAny (model X.prog X.w) X.A (eval b X.env) (fun u s₂=>wpAny (model X.prog X.w) X.A (f v u) Q X.xe s₂) X.xe s₁) X.xe s:=by
 refine thn (ha pins s σ H _ I h) fun v s1 ⟨x,H1,I1,r1,q1⟩=>?_
 refine thn (hb pins s1 σ H1 _ I1 q1) fun u s2 ⟨y,H2,I2,r2,q2⟩=>?_
 exact hf v u s2 x y H2 I2 r1 r2 q2
theorem Z8{op:Operator}{r:R2}(ho:OpR X (binaryOp op) r)(ha:PE X a ta)(hb:PE X b tb):PE X (.BinOp a op b pos) (tOp r ta tb):=by
 intro pins s σ H Q I h
 exact wpAny_BinOp (Zl9 ha hb I h fun v u s2 x y H2 I2 rx ry q=>ho pins s2 σ H2 x y v u Q I2 rx ry q)
theorem Zg7{op:UnaryOp}{r:V->Hp->VK->Prop}(ho:UnR X (unaryOp op) r)(ha:PE X a ta):PE X (.UnaryOp op a pos) (tUn r ta):=by
 intro pins s σ H Q I h
 exact UnaryOp_ (thn (ha pins s σ H _ I h) fun v s1 ⟨x,H1,I1,r1,q1⟩=>ho pins s1 σ H1 x v Q I1 r1 q1)
theorem opI{f:Value->Value->Sem Value}{C:Int->Int->Prop}{g:Int->Int->Int}(rule:∀(i j:Int) (t u:Tok) (s:Shared) (Q:Value->Shared->Prop) (E:Value->Shared->Prop),C i j->Q (.int (g i j) s.toks) { s with toks:=s.toks+1 }->wpAny (model X.prog X.w) X.A (f (.int i t) (.int j u)) Q E s) :
  OpR X f (rI C fun i j=>.int (g i j)):=by
 intro pins s σ H x y v u Q I rx ry h
 obtain⟨i,j,rfl,rfl,hc,q⟩:=h
 obtain⟨t,rfl⟩:=rx
 obtain⟨t',rfl⟩:=ry
 exact rule i j t t' s _ _ hc ⟨.int (g i j),H,I.tok _,⟨_,rfl⟩,q⟩
theorem ZlW{f:Value->Value->Sem Value}{g:Int->Int->Int}(rule:∀(i j:Int) (t u:Tok) (s:Shared) (Q:Value->Shared->Prop) (E:Value->Shared->Prop),Q (.int (g i j) s.toks) { s with toks:=s.toks+1 }->wpAny (model X.prog X.w) X.A (f (.int i t) (.int j u)) Q E s) :
  OpR X f (rI0 fun i j=>.int (g i j)):=by
 intro pins s σ H x y v u Q I rx ry h
 obtain⟨i,j,rfl,rfl,q⟩:=h
 obtain⟨t,rfl⟩:=rx
 obtain⟨t',rfl⟩:=ry
 exact rule i j t t' s _ _ ⟨.int (g i j),H,I.tok _,⟨_,rfl⟩,q⟩
theorem ZkP{f:Value->Value->Sem Value}{g:Int->Int->Bool}(rule:∀(i j:Int) (t u:Tok) (s:Shared) (Q:Value->Shared->Prop) (E:Value->Shared->Prop),Q (.bool (g i j)) s->wpAny (model X.prog X.w) X.A (f (.int i t) (.int j u)) Q E s) :
  OpR X f (rI0 fun i j=>.bl (g i j)):=by
 intro pins s σ H x y v u Q I rx ry h
 obtain⟨i,j,rfl,rfl,q⟩:=h
 obtain⟨t,rfl⟩:=rx
 obtain⟨t',rfl⟩:=ry
 exact rule i j t t' s _ _ ⟨.bl (g i j),H,I,rfl,q⟩
def Zjz(i j:Int):Prop:=0<=j/\j<=1000000/\i.natAbs<2^64
theorem Ju:OpR X (binaryOp .Add) (rI0 fun i j=>.int (i+j)):=ZlW fun _ _ _ _ _ _ _ q=>add_int q
theorem V9:OpR X (binaryOp .Sub) (rI0 fun i j=>.int (i-j)):=ZlW fun _ _ _ _ _ _ _ q=>sub_int q
theorem Jy:OpR X (binaryOp .Mod) (rI (fun _ j=>0<j) fun i j=>.int (i%j)):=opI fun i j _ _ _ _ _ hc q=>by
 have h1:(0:Int)<j:=hc
 exact mod_int' (by lia) (by rw[Int.fmod_eq_emod_of_nonneg i (by lia)];exact q)
theorem Q7:OpR X (binaryOp .Pow) (rI Zjz fun i j=>.int (i^j.toNat)):=opI fun _ _ _ _ _ _ _ hc q=>pow_int_small hc.1 hc.2.1 hc.2.2 q
theorem unI{f:Value->Sem Value}{g:Int->Int}(rule:∀(i:Int) (t:Tok) (s:Shared) (Q:Value->Shared->Prop) (E:Value->Shared->Prop),Q (.int (g i) s.toks) { s with toks:=s.toks+1 }->wpAny (model X.prog X.w) X.A (f (.int i t)) Q E s) :
  UnR X f (rU fun i=>.int (g i)):=by
 intro pins s σ H x v Q I rx h
 obtain⟨i,rfl,q⟩:=h
 obtain⟨t,rfl⟩:=rx
 exact rule i t s _ _ ⟨.int (g i),H,I.tok _,⟨_,rfl⟩,q⟩
theorem ZcH:UnR X (unaryOp .USub) (rU fun i=>.int (-i)):=unI fun _ _ _ _ _ q=>neg_int q
variable {c:Expr}{tc:TE}
theorem ZhX{pins:List (Addr×Obj)}{σ:St}{H:Hp}{s:Shared}{Q:VK}{k k':Bool}(I:Inv X pins σ H s)(q:Q (.bl k) H)(e:k=k'):EP X pins σ Q (.bool k') s:=by
 subst e
 exact⟨.bl k,H,I,rfl,q⟩
theorem Zac:OpR X (compareOp .Lt) (rI0 fun i j=>.bl (decide (i<j))):=ZkP fun _ _ _ _ _ _ _ q=>lt_int q
theorem ZjV:OpR X (compareOp .LtE) (rI0 fun i j=>.bl (decide (i<=j))):=ZkP fun _ _ _ _ _ _ _ q=>le_int q
theorem Q8:OpR X (compareOp .Gt) (rI0 fun i j=>.bl (decide (j<i))):=ZkP fun _ _ _ _ _ _ _ q=>gt_int q
theorem ZjX:OpR X (compareOp .GtE) (rI0 fun i j=>.bl (decide (j<=i))):=ZkP fun _ _ _ _ _ _ _ q=>ge_int q
theorem ZjW:OpR X (compareOp .Is) (fun x y H Q=>y=.non/\Q (.bl (decide (x=.non))) H):=by
 intro pins s σ H x y v u Q I rx ry h
 obtain⟨rfl,q⟩:=h
 cases ry
 refine is_none_gen (ZhX I q ?_)
 cases x<;>first
  |(cases rx;rfl)
  |(obtain⟨t,rfl⟩:=rx;rfl)
theorem ZiA:OpR X (compareOp .IsNot) (fun x y H Q=>y=.non/\Q (.bl (!decide (x=.non))) H):=by
 intro pins s σ H x y v u Q I rx ry h
 obtain⟨rfl,q⟩:=h
 cases ry
 refine isnot_none_gen (ZhX I q ?_)
 cases x<;>first
  |(cases rx;rfl)
  |(obtain⟨t,rfl⟩:=rx;rfl)
theorem Z3(b:Expr){op:CmpOp}(h:op≠.In:=by decide)(h2:op≠.NotIn:=by decide):behindInMarks op b=false:=by
 have e1:(op==CmpOp.In)=false:=by cases op<;>first|rfl|exact absurd rfl h
 have e2:(op==CmpOp.NotIn)=false:=by cases op<;>first|rfl|exact absurd rfl h2
 cases b<;>simp[behindInMarks,e1,e2]
theorem JR{op:CmpOp}{r:R2}(ho:OpR X (compareOp op) r)(ha:PE X a ta)(hb:PE X b tb)(hm:behindInMarks op b=false):PE X (.Compare a [op] [b] pos) (tOp r ta tb):=by
 intro pins s σ H Q I h
 exact wpAny_Compare1 (Zl9 ha hb I h fun v u s2 x y H2 I2 rx ry q=>ho pins s2 σ H2 x y v u Q I2 rx ry q) hm
noncomputable def Zis(t:TE):TT:=fun σ H Q=>t σ H fun x H'=>∃k,x=.bl k/\Q k H'
theorem Z0{op:CmpOp}{r:R2}(ho:OpR X (compareOp op) r)(ha:PE X a ta)(hb:PE X b tb)(hm:behindInMarks op b=false):PT X (.Compare a [op] [b] pos) (Zis (tOp r ta tb)):=by
 intro pins s σ H Q I h
 refine wpAny_isTrue_Compare1 (thn (ha pins s σ H _ I h) fun v s1 ⟨x,H1,I1,r1,q1⟩=>thn (hb pins s1 σ H1 _ I1 q1) fun u s2 ⟨y,H2,I2,r2,q2⟩ =>
  thn (ho pins s2 σ H2 x y v u _ I2 r1 r2 q2) fun c s3 ⟨z,H3,I3,r3,k,e,q3⟩=>?_) hm
 subst e
 cases r3
 exact wpAny_truthy_bool ⟨H3,I3,q3⟩
noncomputable def Zh3(r r':R2)(ta tb tc:TE):TE:=fun σ H Q=>ta σ H fun x H1=>tb σ H1 fun y H2=>r x y H2 fun z H3=>∃k,z=.bl k /\
 (if k=true then tc σ H3 fun w' H4=>r' y w' H4 Q else Q (.bl false) H3)
theorem Zg6{op op':CmpOp}{r r':R2}(ho:OpR X (compareOp op) r)(ho':OpR X (compareOp op') r')(ha:PE X a ta)(hb:PE X b tb)(hc:PE X c tc)(hm:lastMarks [op,op'] [b,c]=false:=by with_unfolding_all rfl):PT X (.Compare a [op,op'] [b,c] pos) (Zis (Zh3 r r' ta tb tc)):=by
 intro pins s σ H Q I h
 refine isTrue_chain (thn (ha pins s σ H _ I h) fun v s1 ⟨x,H1,I1,r1,q1⟩=>test_link (thn (hb pins s1 σ H1 _ I1 q1) fun u s2 ⟨y,H2,I2,r2,q2⟩ =>
  thn (ho pins s2 σ H2 x y v u _ I2 r1 r2 q2) fun d s3 ⟨z,H3,I3,r3,k,e,q3⟩=>?_)) hm
 subst e
 cases r3
 refine wpAny_truthy_bool ?_
 cases k with
 |false =>
  obtain⟨k',e',q'⟩:=q3
  cases e'
  exact ite_ff ⟨H3,I3,q'⟩
 |true =>
  refine ite_tt (test_last (thn (hc pins s3 σ H3 _ I3 q3) fun w' s4 ⟨z',H4,I4,r4,q4⟩=>thn (ho' pins s4 σ H4 y z' u w' _ I4 r2 r4 q4) fun d' s5 ⟨z2,H5,I5,r5,k2,e2,q5⟩=>?_))
  subst e2
  cases r5
  exact wpAny_truthy_bool ⟨H5,I5,q5⟩
theorem Zap:(sizeLine:Nat)<2^63:=by rw[sizeLine_eq];decide
theorem Za0{x:V}{us:List Value}(r:Jr [x] us):∃u,us=[u]/\JX x u:=by
 cases r with
 |cons r1 r2=>cases r2;exact⟨_,rfl,r1⟩
theorem Zgt{x y:V}{us:List Value}(r:Jr [x,y] us):∃u w',us=[u,w']/\JX x u/\JX y w':=by
 cases r with
 |cons r1 r2 =>
  cases r2 with
  |cons r3 r4=>cases r4;exact⟨_,_,rfl,r1,r3⟩
theorem Zgb:Vy X (.type "int") (fun xs H Q=>(∃i,xs=[.int i]/\Q (.int i) H)\/∃k,xs=[.bl k]/\Q (.int (if k then 1 else 0)) H):=by
 intro pins s σ H xs us Q I r h
 rcases h with ⟨i,rfl,q⟩|⟨k,rfl,q⟩
 ·obtain⟨u,rfl,t,rfl⟩:=Za0 r
  exact call_int_int ⟨.int i,H,I,⟨_,rfl⟩,q⟩
 ·obtain⟨u,rfl,r1⟩:=Za0 r
  cases r1
  exact call_int_bool ⟨.int (if k then 1 else 0),H,I.tok _,⟨_,rfl⟩,q⟩
end
theorem Zfz{h:Heap}{dx:Addr}{mA:Str->Option Value}(n:h.Ns1 dx mA):∃od,h.get? dx=some od/\∀name,PySem.W.lookIn name od=some (mA name):=by
 obtain⟨o,es,ep,ho,hd,hk,_,hm⟩:=n
 refine⟨o,ho,fun name=>?_⟩
 have e:=hm name
 unfold nsFind findBy at e
 rw[<- Array.find?_toList] at e
 unfold PySem.W.lookIn
 rw[hd]
 dsimp only
 split
 ·rename_i y q
  rw[q] at e
  exact congrArg some e
 ·rename_i q
  rw[q] at e
  have a:es.toList.any (·.refKey)=false:=by
   rw[List.any_eq_false]
   intro y hy
   obtain⟨z,t,hkey⟩:=hk y (Array.mem_toList_iff.mp hy)
   simp[DictEntry.refKey,hkey]
  have a':¬es.toList.any (·.refKey)=true:=by rw[a];exact Bool.false_ne_true
  rw[if_neg a']
  exact congrArg some e
section
end
structure Cls(K:PySem.W.Frag)(C:Addr):Prop where
 pg:PySem.W.plainGet K C Str.empty=true
 hd:PySem.W.hasDictIn K C=true
 po:PySem.W.plainOver K C=true
 sa:PySem.W.findIn K (.ref C) "__setattr__"=some (some (.builtin "object.__setattr__"))
section
end
structure UR(k:Nat)(A:Around):Prop where
 hd:A.handled=none
 dp:A.depth+3*k+5<recursionLimit
 un:A.units+16*k+200<cLine
theorem UR.mono{j k:Nat}{A:Around}(r:UR k A)(h:j<=k):UR j A:=⟨r.hd,by have:=r.dp;lia,by have:=r.un;lia⟩
theorem UR.deeper{k:Nat}{A:Around}(r:UR (k+1) A)(env:Env):UR k (A.deeper env):=
 ⟨r.hd,by have:=r.dp;show A.depth+1+3*k+5<_;lia,by have:=r.un;show A.units+3+16*k+200<_;lia⟩
theorem UR.depth{k:Nat}{A:Around}(r:UR k A):A.depth<recursionLimit:=by have:=r.dp;lia
theorem UR.units{k:Nat}{A:Around}(r:UR k A):A.units+64<cLine:=by have:=r.un;lia
noncomputable def ZbT:TA:=fun _ H Q=>Q [] H
noncomputable def V6(ta:TE)(tr:TA):TA:=fun σ H Q=>ta σ H fun x H1=>tr σ H1 fun xs H2=>Q (x::xs) H2
section
variable {X:Cx}{e:Expr}{es:List Expr}{te:TE}{t:TA}{pos:Pos}
theorem Zh:PA X [] ZbT:=fun _ _ _ _ H Q I h=>Calls.spliced_nil ⟨[],H,I,.nil,h⟩
theorem Za(ha:PE X e te)(hr:PA X es t)(hs:starEach (e::es) X.env=(false,eval e X.env)::starEach es X.env:=by rfl):PA X (e::es) (V6 te t):=by
 intro pos pins s σ H Q I h
 rw[hs]
 show wpAny _ _ (spliced ((false,eval e X.env)::backTo pos (starEach es X.env))) _ _ s
 refine Calls.spliced_cons (thn (ha pins s σ H _ I h) fun u s1 ⟨x,H1,I1,r1,q1⟩=>?_)
 exact thn (hr pos pins s1 σ H1 _ I1 q1) fun us s2 ⟨xs,H2,I2,r2,q2⟩=>⟨x::xs,H2,I2,.cons r1 r2,q2⟩
noncomputable def ZkM(t:TA):TE:=fun σ H Q=>t σ H fun xs H1=>xs.length<=sizeLine/\∀p,H1 p=none->Q (.ref p) (upd H1 p (.tup xs))
noncomputable def Zlc(t:TA):TE:=fun σ H Q=>t σ H fun xs H1=>xs.length<=sizeLine/\∀p,H1 p=none->Q (.ref p) (upd H1 p (.lst xs))
theorem ZN{x1}(h:PA X es t):PE X (.Tuple es x1 pos) (ZkM t):=by
 intro pins s σ H Q I hq
 refine wpAny_Tuple_spliced (thn (h pos pins s σ H _ I hq) fun us s1 ⟨xs,H1,I1,r,z,q⟩=>⟨by rw[<- r.length];exact z, ?_⟩)
 have hf:H1 s1.heap.objs.size=none:=I1.hok.fresh (Zto _)
 refine⟨.ref s1.heap.objs.size,upd H1 s1.heap.objs.size (.tup xs),I1.laid (t':=s1.toks) (fun b u e=>Heap.get?_push_of_some _ e) (Zto _) ?_,rfl,q _ hf⟩
 exact⟨z,us,r,⟨_,Heap.get?_push_size _ rfl,rfl,_,rfl⟩⟩
theorem VY(h:PA X es t):PE X (.List es pos) (Zlc t):=by
 intro pins s σ H Q I hq
 refine wpAny_List_spliced (thn (h pos pins s σ H _ I hq) fun us s1 ⟨xs,H1,I1,r,z,q⟩=>⟨by rw[<- r.length];exact z, ?_⟩)
 have hf:H1 s1.heap.objs.size=none:=I1.hok.fresh (Zto _)
 refine⟨.ref s1.heap.objs.size,upd H1 s1.heap.objs.size (.lst xs),I1.laid (t':=s1.toks) (fun b u e=>Heap.get?_push_of_some _ e) (Zto _) ?_,rfl,q _ hf⟩
 exact⟨z,us,0,r,Heap.get?_push_size _ rfl⟩
end
noncomputable abbrev Sp:=List V->Hp->VK->XK->Prop
noncomputable abbrev CXT:=List Env->Hp->Shared->XK->Value->Shared->Prop
structure ZkT(P:Program)(w:World)(K:PySem.W.Frag)(mg:Str->Option Value)(base:Heap)(A:Around)(outer:List Env)(s:Shared)(H:Hp):Prop where
 frames:A.frames=some outer
 mod:Mod K mg base
 bs:∀b o,base.get? b=some o->s.heap.get? b=some o/\H b=none
 bsz:base.objs.size<=s.heap.objs.size
 funs:s.heap.FunFrames base outer
 frf:∀b∈frs outer,H b=none
 hok:HOk P w H s.heap
 bare:AllBare s.gens
def CE(outer:List Env)(P:Program)(w:World)(H:Hp)(s:Shared)(Q:VK)(u:Value)(s':Shared):Prop:=
 ∃v H',s'.os=s.os/\AllBare s'.gens/\Un (frs outer) [] H H' s.heap s'.heap/\HOk P w H' s'.heap/\JX v u/\Q v H'
def CR(CX:CXT)(outer:List Env)(P:Program)(w:World)(H:Hp)(s:Shared)(Q:VK)(E:XK)(r:Result)(s':Shared):Prop:=
 match r with
 |.ok (.ret u)=>CE outer P w H s Q u s'
 |.ok _=>False
 |.error e=>CX outer H s E e s'
structure J8(P:Program)(w:World)(K:PySem.W.Frag)(mg:Str->Option Value)(base:Heap)(CX:CXT)(k:Nat)(f:Addr)(fd:FuncData)(ps:List Str)(sp:Sp):Prop where
 len:∀vs H Q E,sp vs H Q E->vs.length=ps.length
 run:∀(A:Around) (outer:List Env) (s:Shared) (H:Hp) (args:Args) (us:List Value) (vs:List V) (Q:VK) (E:XK),UR k A->ZkT P w K mg base A outer s H->BindsTo s fd args (ps.zip us)->Jr vs us->sp vs H Q E ->
  codeAny (model P w) A (.call (.ref f) args) (CR CX outer P w H s Q E) s
section
variable {X:Cx}{pins:List (Addr×Obj)}{σ:St}{H:Hp}{s s':Shared}
theorem Inv.env0(I:Inv X pins σ H s):ZkT X.prog X.w X.K X.mg X.base X.A X.stack s H:=
 ⟨I.ok.frames,I.ok.mod,I.bs,Zt7 I.ok.bsz I.sz,I.stack,I.stkFree,I.hok,I.bare⟩
theorem Inv.after{Q:VK}{u:Value}(I:Inv X pins σ H s)(h:CE X.stack X.prog X.w H s Q u s'):EP X pins σ Q u s':=by
 obtain⟨v,H',os,bare,un,hok,r,q⟩:=h
 obtain⟨hh,g,d,t,os'⟩:=s'
 obtain rfl:os'=s.os:=os
 exact⟨v,H',I.call (h':=hh) (g':=g) (d':=d) (t':=t) (ch:=[]) un hok bare (fun b z=>absurd z (by simp)),r,q⟩
end
noncomputable def Zj8(sp:Sp)(dvs:List V)(E:XK)(t:TA):TE:=fun σ H Q=>t σ H fun vs H1=>sp (vs++dvs) H1 Q E
def Zba(K:W.Frag)(fd:FuncData)(ps:List Str)(ds:List Value):Prop:=
 ∀(s:Shared) (us:List Value),K.In s.heap->(us++ds).length=ps.length->BindsTo s fd ⟨us,[]⟩ (ps.zip (us++ds))
theorem Zba.all{K:W.Frag}{fd:FuncData}{ps:List Str}(h:∀us:List Value,us.length=ps.length->bindArgs fd ⟨us,[]⟩=pure (ps.zip us)):Zba K fd ps []:=fun s us _ hl=>by
 rw[ZtG] at hl ⊢
 exact .of_eq (h us hl)
def ZdL(CX:CXT)(X:Cx)(E:XK):Prop:=∀(pins:List (Addr×Obj)) (σ:St) (H:Hp) (s:Shared) (e:Value) (s':Shared),Inv X pins σ H s->CX X.stack H s E e s'->X.xe e s'
section
variable {X:Cx}{CX:CXT}{k:Nat}{f:Addr}{fd:FuncData}{ps:List Str}{sp:Sp}{dvs:List V}{ds:List Value}{E:XK}{x:Str}{p pos:Pos}{e:Expr}{es:List Expr}{t:TA}
theorem ZeD{pins:List (Addr×Obj)}{σ:St}{H:Hp}{s:Shared}{Q:VK}{us:List Value}{vs:List V}(F:J8 X.prog X.w X.K X.mg X.base CX k f fd ps sp)(hr:UR k X.A)(hb:Zba X.K fd ps ds)(hd:Jr dvs ds)(hx:ZdL CX X E)(I:Inv X pins σ H s)(r:Jr vs us)(h:sp (vs++dvs) H Q E):wpAny (model X.prog X.w) X.A (call (.ref f) us) (EP X pins σ Q) X.xe s:=by
 have r2:Jr (vs++dvs) (us++ds):=r.append hd
 have hl:(us++ds).length=ps.length:=by rw[<- r2.length];exact F.len _ _ _ _ h
 refine wpAny_call (codeAny_mono (F.run X.A X.stack s H ⟨us,[]⟩ (us++ds) (vs++dvs) Q E hr I.env0 (hb s us I.kIn hl) r2 h) fun r s' hq=>?_)
 cases r with
 |error e=>exact hx pins σ H s e s' I hq
 |ok fl =>
  cases fl with
  |ret u=>exact I.after hq
  |next=>exact False.elim hq
  |brk=>exact False.elim hq
  |cont=>exact False.elim hq
theorem Zi1(F:J8 X.prog X.w X.K X.mg X.base CX k f fd ps sp)(hr:UR k X.A)(hg:Gl X x)(hm:X.mg x=some (.ref f))(hk:PySem.W.keepIn X.K (.ref f)=true)(hb:Zba X.K fd ps ds)(hd:Jr dvs ds)(hx:ZdL CX X E)(ha:PA X (e::es) t)(hdb:(x==("__debug__":Str))=false:=by decide)(he:starEach (e::es) X.env=(false,eval e X.env)::starEach es X.env:=by rfl)(hpl:(backTo pos (starEach es X.env)).any (·.1)=false:=by rfl) :
  PE X (.Call (.Name x p) (e::es) [] pos) (Zj8 sp dvs E t):=by
 intro pins s σ H Q I h
 refine wpAny_Call_Name_kw (UI I hg hm ?_ hdb)
 refine PySem.W.callWith_K (h₀:=X.base) I.ok.mod.kin hk (thn (ha pos pins s σ H _ I h) fun us s1 ⟨vs,H1,I1,r,q⟩=>⟨I1.kIn, ?_⟩) he hpl
 exact ZeD F hr hb hd hx I1 r q
theorem Zg8(F:J8 X.prog X.w X.K X.mg X.base CX k f fd ps sp)(hr:UR k X.A)(hg:Gl X x)(hm:X.mg x=some (.ref f))(hk:PySem.W.keepIn X.K (.ref f)=true)(hb:Zba X.K fd ps ds)(hd:Jr dvs ds)(hx:ZdL CX X E)(hdb:(x==("__debug__":Str))=false:=by decide):PE X (.Call (.Name x p) [] [] pos) (Zj8 sp dvs E ZbT):=by
 intro pins s σ H Q I h
 refine wpAny_Call_Name_kw (UI I hg hm ?_ hdb)
 exact PySem.W.callWith_K0 I.kIn hk (ZeD (us:=[]) F hr hb hd hx I .nil h)
end
structure Zt(N P:List Str)(sc:Scope):Prop where
 kind:sc.kind=.function
 co:sc.isCoroutine=false
 gen:sc.isGenerator=false
 nd:N.Nodup
 pre:N.take P.length=P
 par:∀x∈P,sc.names.lookup x=some .local\/sc.names.lookup x=some .cell
 nofree:∀y∈sc.names,y.2≠.free
theorem ZbJ{kindOf:Str->Option NameKind}{x:Str}:∀{binds:List (Str×Value)}{m:Str->Option Value},(∀v,(x,v) ∉ binds)->bindL kindOf binds m x=m x
 |[],_,_=>rfl
 |(n,v)::r,m,h=>by
  unfold bindL
  rw[ZbJ fun w hw=>h w (Zt9 _ hw)]
  split
  ·have:x≠n:=by rintro rfl;exact h v Zuh
   simp[this]
  ·rfl
theorem ZbL{kindOf:Str->Option NameKind}{x:Str}:∀{binds:List (Str×Value)}{m:Str->Option Value},(∀v,(x,v) ∉ binds)->bindC kindOf binds m x=m x
 |[],_,_=>rfl
 |(n,v)::r,m,h=>by
  unfold bindC
  rw[ZbL fun w hw=>h w (Zt9 _ hw)]
  split
  ·rfl
  ·have:x≠n:=by rintro rfl;exact h v Zuh
   simp[this]
theorem ZbK{kindOf:Str->Option NameKind}{x:Str}{v:Value}:∀{P:List Str}{vs:List Value}{i:Nat}{m:Str->Option Value},P.Nodup->P[i]?=some x->vs[i]?=some v->kindOf x=some .local ->
  bindL kindOf (P.zip vs) m x=some v
 |[],_,_,_,_,h,_,_=>by simp at h
 |_::_,[],_,_,_,_,h,_=>by simp at h
 |p::P,w::vs,0,m,nd,h1,h2,hk=>by
  simp at h1 h2;subst h1;subst h2
  show bindL kindOf ((p,w)::P.zip vs) m p=_
  unfold bindL
  rw[ZbJ fun v hv=>(ZtJ.mp nd).1 (ZuG hv).1,if_pos hk]
  simp
 |p::P,w::vs,i+1,m,nd,h1,h2,hk=>by
  show bindL kindOf ((p,w)::P.zip vs) m x=_
  unfold bindL
  exact ZbK (i:=i) (ZtJ.mp nd).2 (by simpa using h1) (by simpa using h2) hk
theorem ZbM{kindOf:Str->Option NameKind}{x:Str}{v:Value}:∀{P:List Str}{vs:List Value}{i:Nat}{m:Str->Option Value},P.Nodup->P[i]?=some x->vs[i]?=some v->kindOf x≠some .local ->
  bindC kindOf (P.zip vs) m x=some v
 |[],_,_,_,_,h,_,_=>by simp at h
 |_::_,[],_,_,_,_,h,_=>by simp at h
 |p::P,w::vs,0,m,nd,h1,h2,hk=>by
  simp at h1 h2;subst h1;subst h2
  show bindC kindOf ((p,w)::P.zip vs) m p=_
  unfold bindC
  rw[ZbL fun v hv=>(ZtJ.mp nd).1 (ZuG hv).1,if_neg hk]
  simp
 |p::P,w::vs,i+1,m,nd,h1,h2,hk=>by
  show bindC kindOf ((p,w)::P.zip vs) m x=_
  unfold bindC
  exact ZbM (i:=i) (ZtJ.mp nd).2 (by simpa using h1) (by simpa using h2) hk
noncomputable def U0(N:List Str)(vs:List V):St:=vs.map some++List.replicate (N.length-vs.length) none
noncomputable def ZbF(CX:CXT)(P:Program)(w:World)(K:W.Frag)(mg:Str->Option Value)(base:Heap)(N:List Str)(qual:Str)(scope:Scope)(f:Addr)(cd:Value)(A:Around)(outer:List Env)(s:Shared)(H:Hp)(E:XK):Cx where
 prog:=P
 w:=w
 K:=K
 mg:=mg
 base:=base
 A:=A.deeper (envOfC qual scope s.heap.objs.size f cd)
 N:=N
 s₀:=s
 H₀:=H
 env:=envOfC qual scope s.heap.objs.size f cd
 outer:=outer
 stack:=envOfC qual scope s.heap.objs.size f cd::outer
 ex:=[]
 calm:=true
 fn:=fun _=>true
 pn:=[]
 xe:=fun e s'=>wpAny (model P w) (A.deeper (envOfC qual scope s.heap.objs.size f cd)) (leaving (envOfC qual scope s.heap.objs.size f cd) e) (fun _ s''=>CX outer H s E e s'') (fun e' s''=>CX outer H s E e' s'') s'
theorem ZdD{sc:Scope}{n:Nat}{x:Str}(h:sc.names.lookup x=some .cell):∃c,(cellsFrom n sc.names []).lookup x=some c:=by
 have q:=PySem.W.cellsFrom_some sc.names n [] (.inl h)
 exact ZtW.mp q
theorem Zf9{CX:CXT}{P:Program}{w:World}{K:W.Frag}{mg:Str->Option Value}{base:Heap}{N ps:List Str}{qual:Str}{scope:Scope}{f:Addr}{cd:Value}{A:Around}{outer:List Env}{s s1:Shared}{H:Hp}{E:XK}{us:List Value}{vs:List V}(S:Zt N ps scope)(hd:A.handled=none)(e0:ZkT P w K mg base A outer s H)(hl:vs.length=ps.length)(r:Jr vs us)(x:InCallC s s.heap.objs.size (bindL (envOfC qual scope s.heap.objs.size f cd).kindOf (ps.zip us) fun _=>none) (cellsFrom (s.heap.objs.size+1) scope.names []) (bindC (envOfC qual scope s.heap.objs.size f cd).kindOf (ps.zip us) fun _=>none) s1) :
  Inv (ZbF CX P w K mg base N qual scope f cd A outer s H E) [] (U0 N vs) H s1:=by
 have hpl:ps.length<=N.length:=by have:=congrArg List.length S.pre;rw[ZtQ] at this;lia
 obtain⟨h1,tk,rfl,hk⟩:=x.done
 have noA:∀b:Addr,b ∉ (ZbF CX P w K mg base N qual scope f cd A outer s H E).ex:=fun b z=>absurd (show b∈([]:List Addr) from z) (by simp)
 refine⟨⟨e0.mod,S.kind,rfl,rfl,Zto _,fun y z c h1 h2=>?_,fun y hy=>?_,fun y c _ h=>?_,fun _=>hd,Around.frames_deeper e0.frames,.inr ⟨rfl,rfl⟩,fun b z=>absurd z (noA b),e0.bs,e0.bsz,fun b _ _=>noA b,fun b z=>absurd z (noA b),e0.funs,e0.frf⟩,
  rfl,e0.bare,Un.kept hk,⟨_,x.toInCall.ns,fun i y v h1 h2 h3=>?_⟩,fun y c h=>⟨_,x.cell y c h⟩,e0.hok.fresh (Zto _),fun y c h=>?_,fun p hp=>absurd (show p∈([]:List (Addr×Obj)) from hp) (by simp),e0.hok.kept hk, ?_⟩
 ·exact name_of_addr x.apart (PySem.mem_of_lookup h1) (PySem.mem_of_lookup h2)
 ·have hy:scope.names.lookup y=some .cell\/scope.names.lookup y=some .free:=hy
  rcases hy with hy|hy
  ·exact ZdD hy
  ·exact absurd rfl (S.nofree _ (PySem.mem_of_lookup hy))
 ·exact Nat.le_of_lt (x.above y c (PySem.mem_of_lookup h))
 ·have hi:i<vs.length:=by
   unfold U0 at h2
   by_cases hi:i<vs.length
   ·exact hi
   ·rw[Ztw (by simpa using hi)] at h2
    rw[Zuo] at h2
    split at h2<;>cases h2
  have ha:vs[i]?=some v:=by
   unfold U0 at h2
   rw[Ztn (by simpa using hi),Zt2] at h2
   cases e:vs[i]? with
   |none=>rw[e] at h2;cases h2
   |some a=>rw[e] at h2;cases h2;rfl
  obtain⟨u,hu,rv⟩:=r.get ha
  have hp:ps[i]?=some y:=by
   rw[<- S.pre,List.getElem?_take_of_lt (by lia)];exact h1
  have ndP:ps.Nodup:=by rw[<- S.pre];exact S.nd.sublist (List.take_sublist _ _)
  refine⟨u,rv, ?_⟩
  rcases S.par y (Zuj hp) with k|k
  ·exact .inl ⟨k,ZbK ndP hp hu k⟩
  ·obtain⟨c,e⟩:=ZdD (n:=s.heap.objs.size+1) k
   refine .inr ⟨.inl k,c,e, ?_⟩
   have q:=x.cell y c e
   rw[ZbM ndP hp hu (by show scope.names.lookup y≠_;rw[k];decide)] at q
   exact q
 ·exact e0.hok.fresh (Nat.le_of_lt (x.above y c (PySem.mem_of_lookup h)))
 ·unfold U0
  show _=N.length
  rw[Zt3,Ztp,ZtK]
  lia
theorem Zkt{CX:CXT}{P:Program}{w:World}{K:W.Frag}{mg:Str->Option Value}{base:Heap}{k:Nat}{f:Addr}{name qual:Str}{params:Arguments}{body:List Stmt}{scope:Scope}{dV kV doc pm cdv ct oc:Value}{an od:Option Addr}{osl:Array (Option Value)}{N ps:List Str}{sp:Sp}(lk:K.lookup f=some ⟨oc,od,.func (PySem.W.fnOf name qual params body scope dV kV doc pm an cdv ct),osl⟩)(hcd:PySem.W.codeIn K cdv qual=true)(S:Zt N ps scope)(len:∀vs H Q E,sp vs H Q E->vs.length=ps.length)(hbody:∀(A:Around) (outer:List Env) (s:Shared) (H:Hp) (vs:List V) (Q:VK) (E:XK),UR k (A.deeper (envOfC qual scope s.heap.objs.size f cdv))->sp vs H Q E ->
   ∃t,PSs (ZbF CX P w K mg base N qual scope f cdv A outer s H E) body t/\t { nx:=fun _ H'=>Q .non H',rt:=Q } (U0 N vs) H) :
  J8 P w K mg base CX (k+1) f (PySem.W.fnOf name qual params body scope dV kV doc pm an cdv ct) ps sp:=by
 refine⟨len,fun A outer s H args us vs Q E hr e0 hb r hsp=>?_⟩
 have hl:=len _ _ _ _ hsp
 have KX:K.In s.heap:=e0.mod.kin.keeps fun b o e=>(e0.bs b o e).1
 have lim:s.heap.NoLimit:=e0.mod.nolimit.keeps fun b o e=>(e0.bs b o e).1
 have hkind:∀y∈ps.zip us,scope.names.lookup y.1=some .local\/(scope.names.lookup y.1=some .cell/\((cellsFrom (s.heap.objs.size+1) scope.names []).lookup y.1).isSome=true):=fun⟨n,v⟩ hy=>by
  rcases S.par n (ZuG hy).1 with q|q
  ·exact .inl q
  ·exact .inr ⟨q,PySem.W.cellsFrom_some _ _ _ (.inl q)⟩
 refine codeAny_call_function hr.depth (KX _ _ lk) rfl S.co S.gen rfl (PySem.W.codeRec_of KX hcd) (hb _ _ _ _ ?_)
 refine wpAny_newFunctionEnv_cells S.kind hkind fun env he s1 x=>?_
 subst he
 refine⟨lim.keeps x.toInCall.keep,codeAny_func ?_⟩
 obtain⟨t,ht,hq⟩:=hbody A outer s H vs Q E (hr.deeper _) hsp
 have I:Inv (ZbF CX P w K mg base N qual scope f cdv A outer s H E) [] (U0 N vs) H s1:=Zf9 S hr.hd e0 hl r x
 refine wpAny_mono (ht [] s1 (U0 N vs) H _ I hq) (fun fl s' hs=>?_) fun e s' hs=>hs
 have fin:∀{σ':St}{H':Hp}{v:V}{u:Value},Inv (ZbF CX P w K mg base N qual scope f cdv A outer s H E) [] σ' H' s'->JX v u->Q v H'->CE outer P w H s Q u s':=
  fun {σ' H' v u} J rv q=>⟨v,H',J.os,J.bare,J.base,J.hok,rv,q⟩
 cases fl with
 |ret u =>
  obtain⟨v,σ',H',J,rv,q⟩:=hs
  exact fin J rv q
 |next =>
  obtain⟨σ',H',J,q⟩:=hs
  exact fin (v:=V.non) (u:=Value.none) J rfl q
 |brk =>
  obtain⟨_,_,_,q⟩:=hs
  exact False.elim q
 |cont =>
  obtain⟨_,_,_,q⟩:=hs
  exact False.elim q
section
variable {X:Cx}{x:Str}{p pos:Pos}{e:Expr}{es:List Expr}{t:TA}{id T:String}{r:List V->Hp->VK->Prop}
noncomputable def tCB(r:List V->Hp->VK->Prop)(t:TA):TE:=fun σ H Q=>t σ H fun vs H1=>r vs H1 Q
theorem Zs(hc:Vy X (.builtin id) r)(hg:Gl X x)(hm:X.mg x=none)(hv:bootBuiltins x=some (.builtin id))(ha:PA X (e::es) t)(hn:x ≠ "__name__":=by decide)(hdb:(x==("__debug__":Str))=false:=by decide)(he:starEach (e::es) X.env=(false,eval e X.env)::starEach es X.env:=by rfl)(hpl:(backTo pos (starEach es X.env)).any (·.1)=false:=by rfl):PE X (.Call (.Name x p) (e::es) [] pos) (tCB r t):=by
 intro pins s σ H Q I h
 refine wpAny_Call_Name_kw (Zaq I hg hm hv ?_ hn hdb)
 exact PyProof.Rows.callWith_builtin1 (thn (ha pos pins s σ H _ I h) fun us s1 ⟨vs,H1,I1,r1,q1⟩=>hc pins s1 σ H1 vs us Q I1 r1 q1) he hpl
theorem ZP(hc:Vy X (.type T) r)(hg:Gl X x)(hm:X.mg x=none)(hv:bootBuiltins x=some (.type T))(ha:PA X (e::es) t)(hn:x ≠ "__name__":=by decide)(hdb:(x==("__debug__":Str))=false:=by decide)(he:starEach (e::es) X.env=(false,eval e X.env)::starEach es X.env:=by rfl)(hpl:(backTo pos (starEach es X.env)).any (·.1)=false:=by rfl):PE X (.Call (.Name x p) (e::es) [] pos) (tCB r t):=by
 intro pins s σ H Q I h
 refine wpAny_Call_Name_kw (Zaq I hg hm hv ?_ hn hdb)
 exact PyProof.Rows.callWith_type1 (thn (ha pos pins s σ H _ I h) fun us s1 ⟨vs,H1,I1,r1,q1⟩=>hc pins s1 σ H1 vs us Q I1 r1 q1) he hpl
end
end L2
namespace HT
open PySem PyProof.Rows
noncomputable def ZZ:List Int->List Int->Bool
 |[],[]=>false
 |[],_::_=>true
 |_::_,[]=>false
 |x::xs,y::ys=>if x=y then ZZ xs ys else decide (x<y)
theorem Vh(x y:Int)(xs ys:List Int):ZZ (x::xs) (y::ys)=if x=y then ZZ xs ys else decide (x<y):=rfl
theorem ZaK:ZZ [] []=false:=rfl
theorem Zad(y:Int)(ys:List Int):ZZ [] (y::ys)=true:=rfl
theorem Zae(x:Int)(xs:List Int):ZZ (x::xs) []=false:=rfl
theorem Zd1(A:Around)(s:Shared)(a:Int)(t:Tok)(c:Int)(u:Tok):∃e,SeqAt.EqAt A s (.int a t) (.int c u) e/\(e=true ↔ a=c):=
 ⟨(a==c),SeqAt.EqAt.int_int a t c u,by simp⟩
theorem ZcS(A:Around)(s:Shared)(a:Int)(t:Tok)(c:Int)(u:Tok)(prog:Program)(w:World)(E:Value->Shared->Prop)(Q:Value->Shared->Prop)(h:Q (.bool (decide (a<c))) s) :
  wpAny (model prog w) A (richCompare .Lt (.int a t) (.int c u)) Q E s:=
 (PyProof.Rows.lt_int h:wpAny (model prog w) A (compareOp .Lt (.int a t) (.int c u)) Q E s)
section
open PySem.SeqAt
open PySem.AutoSeq1 (wpAny_loadPart')
open PySem.MeetsSeq PySem.MeetsSeq2 PySem.MeetsSeq3
end
section
end
end HT
namespace L2
open PySem PySem.Spec PyProof.Rows
noncomputable abbrev TO:=St->Hp->(Option Int->Hp->Prop)->Prop
theorem Vi{ns:List Int}:∀{us:List Value},Jr (ns.map V.int) us->IntsAre us ns:=by
 induction ns with
 |nil=>intro us r;rw[Zus] at r;cases r;exact .nil
 |cons n ns ih =>
  intro us r
  rw[ZtB] at r
  cases r with
  |cons r1 r2 =>
   obtain⟨t,e⟩:=r1
   subst e
   exact .cons n t (ih r2)
section
end
noncomputable def ixN(n:Nat)(i:Int):Option Nat:=if 0<=i then (if i<n then some i.toNat else none) else if -(n:Int)<=i then some (i+n).toNat else none
noncomputable def atI{α:Type}(xs:List α)(i:Int):Option α:=(ixN xs.length i).bind fun j=>xs[j]?
theorem ZaL{n:Nat}{i:Int}{j:Nat}(h:ixN n i=some j):seqIndex? i n=some j/\j<n/\-(n:Int)<=i/\i<n:=by
 unfold ixN at h
 by_cases h0:0<=i
 ·rw[if_pos h0] at h
  by_cases h1:i<n
  ·rw[if_pos h1] at h
   have e:i.toNat=j:=Option.some.inj h
   exact⟨by rw[seqIndex_of h0 h1,e],by lia,by lia,h1⟩
  ·rw[if_neg h1] at h;cases h
 ·rw[if_neg h0] at h
  by_cases h1:-(n:Int)<=i
  ·rw[if_pos h1] at h
   have e:(i+n).toNat=j:=Option.some.inj h
   exact⟨by rw[seqIndex_neg (by lia) h1,e],by lia,h1,by lia⟩
  ·rw[if_neg h1] at h;cases h
theorem ZaY{α:Type}{xs:List α}{i:Int}{v:α}(h:atI xs i=some v):∃j,seqIndex? i xs.length=some j/\xs[j]?=some v/\j<xs.length/\-(xs.length:Int)<=i/\i<xs.length:=by
 unfold atI at h
 cases e:ixN xs.length i with
 |none=>rw[e] at h;cases h
 |some j =>
  rw[e] at h
  obtain⟨h1,h2,h3,h4⟩:=ZaL e
  exact⟨j,h1,h,h2,h3,h4⟩
def Zjo(b:Expr):Prop:=∀o i,subscripted b false o i=operate [o,i] (getItem o i)
def IxR(X:Cx)(r:R2):Prop:=
 ∀(value slice:Expr) (pins:List (Addr×Obj)) (s:Shared) (σ:St) (H:Hp) (x y:V) (v u:Value) (Q:VK),Inv X pins σ H s->JX x v->JX y u->r x y H Q ->
  subscripted slice false v u=operate [v,u] (getItem v u)->wpAny (model X.prog X.w) X.A (subscriptTail value slice v u) (EP X pins σ Q) X.xe s
def MtR(X:Cx)(id:String)(r:V->List V->Hp->VK->Prop):Prop:=
 ∀(pins:List (Addr×Obj)) (s:Shared) (σ:St) (H:Hp) (x:V) (xs:List V) (v:Value) (us:List Value) (Q:VK),Inv X pins σ H s->JX x v->Jr xs us->r x xs H Q ->
  wpAny (model X.prog X.w) X.A (call (.builtin id) (v::us)) (EP X pins σ Q) X.xe s
section
variable {X:Cx}{a b:Expr}{ta tb:TE}{pos:Pos}
theorem IxR.or{r r':R2}(h:IxR X r)(h':IxR X r'):IxR X (fun x y H Q=>r x y H Q\/r' x y H Q):=by
 intro value slice pins s σ H x y v u Q I rx ry q hs
 rcases q with q|q
 ·exact h value slice pins s σ H x y v u Q I rx ry q hs
 ·exact h' value slice pins s σ H x y v u Q I rx ry q hs
theorem ZK{r:R2}(hr:IxR X r)(ha:PE X a ta)(hb:PE X b tb)(hs:Zjo b):PE X (.Subscript a b pos) (tOp r ta tb):=by
 intro pins s σ H Q I h
 exact Subscript_ (Zl9 ha hb I h fun v u s2 x y H2 I2 rx ry q=>hr a b pins s2 σ H2 x y v u Q I2 rx ry q (hs _ _))
noncomputable def ZjI(K:W.Frag):R2:=fun x y H Q=>∃p xs i v,x=.ref p/\y=.int i/\SqL K H p xs/\atI xs i=some v/\Q v H
noncomputable def ZlQ(K:W.Frag):R2:=fun x y H Q=>∃p xs i v,x=.ref p/\y=.int i/\SqT K H p xs/\atI xs i=some v/\Q v H
noncomputable def ZlR:R2:=fun x y H Q=>∃z i c,x=.str z/\y=.int i/\z.length<=sizeLine/\atI z.cps.toList i=some c/\Q (.str ⟨#[c]⟩) H
theorem ZiL:IxR X (ZjI X.K):=by
 intro value slice pins s σ H x y v u Q I rx ry h hs
 obtain⟨p,xs,i,z,rfl,rfl,hq,he,q⟩:=h
 cases rx
 obtain⟨t,rfl⟩:=ry
 obtain⟨its,r,pl,hz⟩:=I.list hq
 obtain⟨j,h1,h2,h3,h4,h5⟩:=ZaY he
 obtain⟨w,ew,rw'⟩:=r.get h2
 have hl:=r.length
 have hn:=Zap
 have fin:EP X pins σ Q w s:=⟨z,H,I,rw',q⟩
 by_cases h0:0<=i
 ·have hj:i.toNat=j:=by
   rw[seqIndex_of h0 h5] at h1
   exact Option.some.inj h1
  exact item_listR pl.isList h0 (by lia) (by rw[hj];simpa using ew) fin hs
 ·have hj:(i+(its.toArray.size:Int)).toNat=j:=by
   rw[seqIndex_neg (by lia) h4] at h1
   rw[Ztr,<- hl]
   exact Option.some.inj h1
  exact subscriptTail_builtinR (x:=w) pl.isList.typeIs slot_list_getitem.lookup
   (wpAny_getItem_list_neg (Q:=fun r s'=>r=w/\EP X pins σ Q r s') pl.isList (by lia) (by rw[Ztr]<;>lia) (by lia) (by rw[hj];simpa using ew) ⟨rfl,fin⟩) hs
theorem Zkk:IxR X (ZlQ X.K):=by
 intro value slice pins s σ H x y v u Q I rx ry h hs
 obtain⟨p,xs,i,z,rfl,rfl,hq,he,q⟩:=h
 cases rx
 obtain⟨t,rfl⟩:=ry
 obtain⟨its,r,pl,hz⟩:=I.tuple hq
 obtain⟨j,h1,h2,h3,h4,h5⟩:=ZaY he
 obtain⟨w,ew,rw'⟩:=r.get h2
 have hl:=r.length
 have hn:=Zap
 have fin:EP X pins σ Q w s:=⟨z,H,I,rw',q⟩
 exact subscriptTail_builtinR (x:=w) pl.typeIs slot_tuple_getitem.lookup
  (getItem_tuple (j:=j) (Q:=fun r s'=>r=w/\EP X pins σ Q r s') pl (by lia) (by lia) (by rw[Ztr,<- hl];exact h1) (by simpa using ew) ⟨rfl,fin⟩) hs
theorem Zkl:IxR X ZlR:=by
 intro value slice pins s σ H x y v u Q I rx ry h hs
 obtain⟨z,i,c,rfl,rfl,hz,he,q⟩:=h
 obtain⟨t,rfl⟩:=rx
 obtain⟨t',rfl⟩:=ry
 obtain⟨j,h1,h2,h3,h4,h5⟩:=ZaY he
 have hl:z.cps.toList.length=z.length:=by simp[Str.length]
 rw[hl] at h1 h4 h5
 have hn:=Zap
 exact tail_any (typeIs_str s z t) slot_str_getitem.lookup (getItem_str (c:=c) (by
  have e1:decide (i < -(2^63:Int))=false:=decide_eq_false (by lia)
  have e2:decide (i ≥ 2^63)=false:=decide_eq_false (by lia)
  rw[e1,e2,Bool.or_false]) (by rw[h1];simpa using h2) ⟨.str ⟨#[c]⟩,H,I.tok _,⟨_,rfl⟩,q⟩) hs
noncomputable def rIx(K:W.Frag):R2:=fun x y H Q=>ZjI K x y H Q\/ZlQ K x y H Q\/ZlR x y H Q
theorem Zkm:IxR X (rIx X.K):=ZiL.or (Zkk.or Zkl)
theorem Zee(its:List Value)(n j:Nat)(u:Value):Obj.mapSeq (·.setIfInBounds j u) { cls:=.type "list",data:=.seq its.toArray n }={ cls:=.type "list",data:=.seq (its.set j u).toArray n }:=by
 simp[Obj.mapSeq]
theorem Inv.lst{pins:List (Addr×Obj)}{σ:St}{H:Hp}{s:Shared}{p:Addr}{xs:List V}(I:Inv X pins σ H s)(h:H p=some (.lst xs)) :
  ∃(its:List Value) (n:Nat),Jr xs its/\s.heap.get? p=some { cls:=.type "list",data:=.seq its.toArray n }/\xs.length<=sizeLine:=by
 obtain⟨z,its,n,r,e⟩:=I.hok p _ h
 exact⟨its,n,r,e,z⟩
theorem Inv.lstUpd{pins:List (Addr×Obj)}{σ:St}{H:Hp}{s:Shared}{p:Addr}{xs ys:List V}{its its':List Value}{n n':Nat}{f:Obj->Obj}(I:Inv X pins σ H s)(h:H p=some (.lst xs))(ho:s.heap.get? p=some { cls:=.type "list",data:=.seq its.toArray n })(hf:f { cls:=.type "list",data:=.seq its.toArray n }={ cls:=.type "list",data:=.seq its'.toArray n' })(r:Jr ys its')(hz:ys.length<=sizeLine)(t:Nat) :
  Inv X pins σ (upd H p (.lst ys)) { s with heap:=s.heap.update p f,toks:=t }:=by
 have e:(s.heap.update p f).get? p=some { cls:=.type "list",data:=.seq its'.toArray n' }:=by
  rw[Heap.get?_update_self f ho (by rw[hf]<;>rfl),hf]
 refine I.write (x:=p) (e:=p) (by rw[h];trivial) (.inl rfl) (fun b u hb q=>(Heap.get?_update_other _ _ (Ne.symm hb)).trans q) ⟨_,e⟩ ?_
 exact⟨hz,its',n',r,e⟩
def Zix:V->V->V->Hp->(Hp->Prop)->Prop:=fun o i v H Q=>∃p xs k j,o=.ref p/\i=.int k/\H p=some (.lst xs)/\ixN xs.length k=some j/\Q (upd H p (.lst (xs.set j v)))
theorem JH:ZlD X Zix:=by
 intro pins s σ H o i v ov iv u Q I ro ri rv h
 obtain⟨p,xs,k,j,rfl,rfl,hp,hj,q⟩:=h
 cases ro
 obtain⟨t,rfl⟩:=ri
 obtain⟨its,n,r,ho,hz⟩:=I.lst hp
 obtain⟨h1,h2,h3,h4⟩:=ZaL hj
 have hl:=r.length
 have hn:=Zap
 have I':Inv X pins σ (upd H p (.lst (xs.set j v))) { s with heap:=s.heap.update p (Obj.mapSeq (·.setIfInBounds j u)) }:=
  I.lstUpd hp ho (Zee its n j u) (r.set rv j) (by rw[ZtH];exact hz) s.toks
 by_cases h0:0<=k
 ·have hk:k.toNat=j:=by
   rw[seqIndex_of h0 h4] at h1
   exact Option.some.inj h1
  exact PySem.W.ki_setAt ho h0 (by lia) (by rw[Ztr,<- hl];exact h4) (by rw[hk];exact⟨_,I',q⟩)
 ·have hk:(k+(its.toArray.size:Int)).toNat=j:=by
   rw[seqIndex_neg (by lia) h3] at h1
   rw[Ztr,<- hl]
   exact Option.some.inj h1
  exact PySem.W.ki_setBack ho (by lia) (by rw[Ztr,<- hl];exact h3) (by lia) (by rw[hk];exact⟨_,I',q⟩)
theorem ZbI:Vy X (.builtin "len") (fun xs H Q=>∃p ys,xs=[.ref p]/\(SqL X.K H p ys\/SqT X.K H p ys)/\Q (.int ys.length) H):=by
 intro pins s σ H xs us Q I r h
 obtain⟨p,ys,rfl,hq,q⟩:=h
 obtain⟨u,rfl,rx⟩:=Za0 r
 cases rx
 have hn:=Zap
 rcases hq with hq|hq
 ·obtain⟨its,r',pl,hz⟩:=I.list hq
  have hlen:=r'.length
  exact Calls.call_len_list pl.isList (by simp only[Ztr]<;>lia) ⟨.int ys.length,H,I.tok _,⟨s.toks+1,by rw[Ztr,hlen]⟩,q⟩
 ·obtain⟨its,r',pl,hz⟩:=I.tuple hq
  have hlen:=r'.length
  exact len_tuple pl (by simp only[Ztr]<;>lia) ⟨.int ys.length,H,I.tok _,⟨s.toks+1,by rw[Ztr,hlen]⟩,q⟩
theorem ZbH:Vy X (.type "list") (fun xs H Q=>∃p ys,xs=[.ref p]/\(SqL X.K H p ys\/SqT X.K H p ys)/\∀l,H l=none->Q (.ref l) (upd H l (.lst ys))):=by
 intro pins s σ H xs us Q I r h
 obtain⟨p,ys,rfl,hq,q⟩:=h
 obtain⟨u,rfl,rx⟩:=Za0 r
 cases rx
 have fin:∀(its:List Value),Jr ys its->ys.length<=sizeLine->∀(h':Heap) (c':Nat),(∀b o',s.heap.get? b=some o'->h'.get? b=some o') ->
   h'.get? s.heap.objs.size=some { cls:=.type "list",dict:=none,data:=.seq its.toArray c',slots:=#[] }->EP X pins σ Q (.ref s.heap.objs.size) { s with heap:=h' }:=fun its r' hz h' c' kp e =>
  ⟨.ref s.heap.objs.size,_,I.laid (t':=s.toks) kp (Zto _) (show JZ X.prog X.w _ h' _ (.lst ys) from ⟨hz,its,c',r',e⟩),rfl,q _ (I.hok.fresh (Zto _))⟩
 rcases hq with hq|hq
 ·obtain⟨its,r',pl,hz⟩:=I.list hq
  have hlen:=r'.length
  obtain⟨o,ho,hc,n,hd⟩:=pl.isList
  exact call_list_seq p (.inl rfl) ho hc hd (fun h' c' kp e=>fin its r' hz h' c' kp e) (by simp only[Ztr]<;>lia)
 ·obtain⟨its,r',pl,hz⟩:=I.tuple hq
  have hlen:=r'.length
  obtain⟨o,ho,hc,n,hd⟩:=pl
  exact call_list_seq p (.inr rfl) ho hc hd (fun h' c' kp e=>fin its r' hz h' c' kp e) (by simp only[Ztr]<;>lia)
theorem ZaV:Vy X (.type "tuple") (fun xs H Q=>∃p ys,xs=[.ref p]/\((SqL X.K H p ys/\∀l,H l=none->Q (.ref l) (upd H l (.tup ys)))\/(SqT X.K H p ys/\Q (.ref p) H))):=by
 intro pins s σ H xs us Q I r h
 obtain⟨p,ys,rfl,h⟩:=h
 obtain⟨u,rfl,rx⟩:=Za0 r
 cases rx
 rcases h with ⟨hq,q⟩|⟨hq,q⟩
 ·obtain⟨its,r',pl,hz⟩:=I.list hq
  have hlen:=r'.length
  refine call_tuple_list pl.isList (fun h' kp=>?_) (by simp only[Ztr]<;>lia)
  have I1:Inv X pins σ H { s with heap:=h' }:=I.kept (t':=s.toks) kp
  have I2:Inv X pins σ (upd H h'.objs.size (.tup ys)) { s with heap:=h'.push { cls:=.type "tuple",data:=.seq its.toArray } }:=
   I1.laid (t':=s.toks) (fun b o e=>Heap.get?_push_of_some _ e) (Zto _) (show JZ X.prog X.w _ _ _ (.tup ys) from ⟨hz,its,r',IsTup.new _ _⟩)
  exact⟨.ref h'.objs.size,_,I2,rfl,q _ (I1.hok.fresh (Zto _))⟩
 ·obtain⟨its,r',pl,hz⟩:=I.tuple hq
  exact call_tuple_same pl ⟨.ref p,H,I,rfl,q⟩
def tyV(K:W.Frag)(T:String)(x:V)(H:Hp):Prop:=match x with
 |.str _=>T = "str"
 |.int _=>T = "int"
 |.ref p=>(T = "list"/\∃xs,SqL K H p xs)\/(T = "tuple"/\∃o,K.lookup p=some o/\o.cls=.type "tuple"/\o.dict=none) \/
   (T = "dict"/\((∃kvs,H p=some (.dK kvs))\/∃kvs,H p=some (.dT kvs)))\/(T = "set"/\∃S n,H p=some (.set S n))
 |_=>False
theorem Zj2{pins:List (Addr×Obj)}{σ:St}{H:Hp}{s:Shared}{T:String}{x:V}{v:Value}(I:Inv X pins σ H s)(r:JX x v)(ty:tyV X.K T x H) :
  s.TypeIs v T/\∀a,v=.ref a->∃ob,s.heap.get? a=some ob/\ob.dict=none:=by
 cases x with
 |str z =>
  obtain⟨t,rfl⟩:=r
  cases (show T = "str" from ty)
  exact⟨typeIs_str s z t,fun _ e=>nomatch e⟩
 |int i =>
  obtain⟨t,rfl⟩:=r
  cases (show T = "int" from ty)
  exact⟨typeIs_int s i t,fun _ e=>nomatch e⟩
 |ref p =>
  cases r
  rcases ty with ⟨rfl,xs,hq⟩|⟨rfl,o,hk,hc,hd⟩|⟨rfl,hk⟩|⟨rfl,S,n,hk⟩
  ·obtain⟨its,_,pl,_⟩:=I.list hq
   refine⟨pl.isList.typeIs,fun a e=>?_⟩
   cases e
   obtain⟨o,n,e,c,hd,_⟩:=pl
   exact⟨o,e,hd⟩
  ·refine⟨⟨o,I.kIn p o hk,hc⟩,fun a e=>?_⟩
   cases e
   exact⟨o,I.kIn _ o hk,hd⟩
  ·have z:∃o,s.heap.get? p=some o/\o.ExactDict:=by
    rcases hk with ⟨kvs,hk⟩|⟨kvs,hk⟩
    ·obtain⟨_,_,_,_,o,_,_,e,ex,_⟩:=I.hok p _ hk
     exact⟨o,e,ex⟩
    ·obtain⟨_,_,_,_,o,_,_,e,ex,_⟩:=I.hok p _ hk
     exact⟨o,e,ex⟩
   obtain⟨o,e,ex⟩:=z
   refine⟨⟨o,e,ex.1⟩,fun a e2=>?_⟩
   cases e2
   exact⟨o,e,ex.2.1⟩
  ·obtain⟨o,_,_,_,e,ex,_⟩:=I.hok p _ hk
   refine⟨⟨o,e,ex.1⟩,fun a e2=>?_⟩
   cases e2
   exact⟨o,e,ex.2.1⟩
 |_=>exact False.elim ty
noncomputable def tBM(K:W.Frag)(T:String)(r:V->List V->Hp->VK->Prop)(to:TE)(t:TA):TE:=fun σ H Q=>to σ H fun x H1=>tyV K T x H1/\t σ H1 fun xs H2=>r x xs H2 Q
variable {o e:Expr}{es:List Expr}{to:TE}{t:TA}{name:Str}{apos cpos:Pos}{T id:String}{r:V->List V->Hp->VK->Prop}
theorem Zcc(pa:PlainAttrs T)(slot:Slot T name id)(hty:typeOf (.builtin id)=pure (.type "method_descriptor"))(hm:MtR X id r)(ho:PE X o to)(ha:PA X (e::es) t)(hbase:attributeBase o name X.env (eval o X.env)=eval o X.env:=by rfl)(hfew:((backTo cpos (starEach (e::es) X.env)).all (fun x=>!x.1)&&(backToKw cpos (keywordEach [] X.env)).all (fun x=>x.1.isSome)
   && decide ((e::es).length+([]:List Keyword).length+(if ([]:List Keyword).isEmpty then 0 else 1)<30))=true:=by rfl)(hline:(apos.endLine==cpos.line)=true:=by rfl)(hs:starEach (e::es) X.env=(false,eval e X.env)::starEach es X.env:=by rfl)(hplain:(backTo cpos (starEach es X.env)).any (·.1)=false:=by rfl) :
  PE X (.Call (.Attribute o name apos) (e::es) [] cpos) (tBM X.K T r to t):=by
 intro pins s σ H Q I h
 refine wpAny_Call_method_late hbase hfew hline rfl (thn (ho pins s σ H _ I h) fun v s1 ⟨x,H1,I1,r1,ty,q1⟩=>?_)
 obtain⟨h1,h2⟩:=Zj2 I1 r1 ty
 refine⟨T,id,pa,slot,hty,h1,h2, ?_⟩
 have hA:=ha cpos pins s1 σ H1 _ I1 q1
 rw[hs] at hA ⊢
 refine Calls.callWith_builtin (by show (false || (backTo cpos (starEach es X.env)).any (·.1))=false;rw[hplain]<;>rfl) (Calls.evalArgs_plain ?_)
 exact thn hA fun us s2 ⟨vs,H2,I2,r2,q2⟩=>hm pins s2 σ H2 x vs v us Q I2 r1 r2 q2
end
def MtM(X:Cx)(id:String)(r:V->List V->Hp->VK->Prop):Prop:=
 ∀(pins:List (Addr×Obj)) (s:Shared) (σ:St) (H:Hp) (x:V) (xs:List V) (v:Value) (us:List Value) (Q:VK),Inv X pins σ H s->JX x v->Jr xs us->r x xs H Q ->
  wpAny (model X.prog X.w) X.A (call (.builtin id) (v::us)) (EP X pins σ Q) X.xe s
theorem Jr.one:∀{x:V}{us:List Value},Jr [x] us->∃u,us=[u]/\JX x u
 |_,_,.cons r .nil=>⟨_,rfl,r⟩
section
variable {X:Cx}{pins:List (Addr×Obj)}{σ:St}{H:Hp}{s:Shared}{l:Addr}{xs ys:List V}
theorem Inv.lset{its its':List Value}{n:Nat}{f:Array Value->Array Value}{t':Nat}(I:Inv X pins σ H s)(hH:H l=some (.lst xs))(e:s.heap.get? l=some { cls:=.type "list",data:=.seq its.toArray n })(hf:f its.toArray=its'.toArray)(hv:Jr ys its')(hz:ys.length<=sizeLine) :
  Inv X pins σ (upd H l (.lst ys)) { s with heap:=s.heap.update l (Obj.mapSeq f),toks:=t' }:=by
 have q:=PySem.IsL.update e f
 rw[hf] at q
 refine I.write (x:=l) (e:=l) (by rw[hH];exact trivial) (.inl rfl) (fun b' u hb hu=>(Heap.get?_update_other s.heap (Obj.mapSeq f) (Ne.symm hb)).trans hu) ⟨_,q⟩ ?_
 exact⟨hz,its',_,hv,q⟩
theorem Inv.lstM(I:Inv X pins σ H s)(hH:H l=some (.lst xs)):xs.length<=sizeLine/\∃(its:List Value) (n:Nat),Jr xs its/\xs.length=its.length/\s.heap.get? l=some { cls:=.type "list",data:=.seq its.toArray n }:=by
 obtain⟨z,its,n,r,e⟩:=I.hok l _ hH
 exact⟨z,its,n,r,r.length,e⟩
theorem ZgR{n:Nat}(h:n<=sizeLine):Builtin.List.listTooLong n=false:=by
 unfold Builtin.List.listTooLong
 exact decide_eq_false (by lia)
end
section
variable {X:Cx}
def Qw:V->List V->Hp->VK->Prop:=fun x vs H Q=>∃l xs y,x=.ref l/\vs=[y]/\H l=some (.lst xs)/\xs.length<sizeLine/\Q .non (upd H l (.lst (xs++[y])))
theorem Vg:MtM X "list.append" Qw:=by
 intro pins s σ H x vs v us Q I rx rv h
 obtain⟨l,xs,y,rfl,rfl,hH,hz,q⟩:=h
 cases rx
 obtain⟨u,rfl,ru⟩:=rv.one
 obtain⟨z,its,n,r,hl,e⟩:=I.lstM hH
 refine call_meets F.slot_list_append ⟨_,e,rfl⟩ F.entry_list_append (F.args_list_append_2 _ _) (PySem.list_append l its.toArray n u (by rw[Ztr];lia)) ⟨e, ?_⟩
 refine⟨.non,_,I.lset (its':=its++[u]) hH e (by simp) (r.append (.cons ru .nil)) ?_,rfl,q⟩
 rw[Zt3,List.length_singleton]
 lia
def ZeK:V->List V->Hp->VK->Prop:=fun x vs H Q=>∃l b xs zs,x=.ref l/\vs=[.ref b]/\H l=some (.lst xs)/\H b=some (.lst zs)/\xs.length+zs.length<=sizeLine/\Q .non (upd H l (.lst (xs++zs)))
theorem Zft:MtM X "list.extend" ZeK:=by
 intro pins s σ H x vs v us Q I rx rv h
 obtain⟨l,b,xs,zs,rfl,rfl,hH,hB,hz,q⟩:=h
 cases rx
 obtain⟨u,rfl,ru⟩:=rv.one
 cases ru
 obtain⟨z,its,n,r,hl,e⟩:=I.lstM hH
 obtain⟨z2,its2,n2,r2,hl2,e2⟩:=I.lstM hB
 have hsz:its.toArray.size+its2.toArray.size<=sizeLine:=by rw[Ztr,Ztr];lia
 have hlong:¬(!its.toArray.isEmpty&&Builtin.List.listTooLong (its.toArray.size+its2.toArray.size))=true:=by
  rw[ZgR hsz,Bool.and_false]
  exact Bool.false_ne_true
 refine call_meets F.slot_list_extend ⟨_,e,rfl⟩ F.entry_list_extend (F.args_list_extend_2 _ _)
  (AutoSeq1.list_extend_list_list_0 l its.toArray n b its2.toArray n2 hlong (by rw[Ztr];lia) (by lia)) ⟨e,e2, ?_⟩
 refine⟨.non,_,I.lset (its':=its++its2) hH e (by simp) (r.append r2) ?_,rfl,q⟩
 rw[Zt3]
 lia
end
section
set_option maxRecDepth 100000 in
end
section
end
end L2
namespace Att
open PySem PySem.W PySem.Calls PyProof.Rows
theorem QF{P:Params}{h:Heap}:∀(ns:List Int) (vs:List Value),WellAll P h vs (ns.map WData.int)->IntsAre vs ns:=by
 intro ns
 induction ns with
 |nil =>
  intro vs w
  rw[Zus] at w
  cases w
  exact .nil
 |cons n ns ih =>
  intro vs w
  rw[ZtB] at w
  cases w with
  |cons a b =>
   cases a
   exact .cons _ _ (ih _ b)
theorem ZeC{l:OpenLaw}{n:Nat}(hn:l.most=some n){P:Params}{h:Heap}{args:List WData}{vals:List Value}(hpre:l.row.toRowW.claim.pre args=true)(hwl:WellAll P h vals args) :
  ∃a vs ns,vals=[Value.ref a]/\args=[WData.list (ns.map WData.int)]/\h.get? a=some { cls:=.type "list",data:=.seq vs.toArray }/\IntsAre vs ns/\ns.length<=n:=by
 have hsh:WShape.hasAll [] args [.list .int]=true:=(pre_splitW hpre).1
 have hc:l.pre.holds [] { args:=args }=true:=(pre_splitW hpre).2
 obtain⟨d,r,rfl,h1,h2⟩:=hasAllW_cons hsh
 obtain rfl:=hasAllW_nil h2
 obtain⟨xs,rfl,h3⟩:=hasW_list h1
 obtain⟨ns,rfl⟩:=items_int h3
 have hlen:ns.length<=n:=by
  unfold OpenLaw.pre at hc
  have h4:(WTm.not (.lt (.lit (.int (n:Int))) (.len (.arg 0)))).holds [] { args:=[.list (ns.map .int)] }=true:=by
   have h4:=(holds_andW hc).1
   rw[hn] at h4
   exact h4
  have h5:=condW_of h4 (w_not (w_lt w_lit (w_len_list (w_arg rfl))))
  rw[Ztp] at h5
  refine Nat.le_of_not_lt fun q=>?_
  have q':(n:Int)<((ns.length:Nat):Int):=by lia
  first
   |(rw[decide_eq_true q'] at h5;exact absurd h5 (by decide))
   |(simp at h5;lia)
 cases hwl with
 |cons w1 w2 =>
  cases w2
  cases w1 with
  |list ho hall=>exact⟨_,_,ns,rfl,rfl,ho,QF ns _ hall,hlen⟩
theorem ZeO(l:OpenLaw)(args:List WData):l.row.toRowW.claim.post args (.bool true) args=true:=
 postW_of (r:=l.row.toRowW) (X:=(true==true))
  (show WShape.has [] (.bool true) .bool=true by first|rfl|decide|simp[WShape.has,WShape.arms,WShape.armsAll])
  (show (WTm.eq .res (.lit (.bool true))).value [] { args:=args,res:=some (.bool true),after:=args }=some (.bool (true==true)) from w_eq_bool (w_res rfl) w_lit) rfl
theorem Zc6{l:OpenLaw}{n:Nat}{q:Program}{loose:List Str}{XP:(Str->Option Value)->Heap->Prop}{YP:World->Heap->Prop}{d:DefRec}(hn:l.most=some n)(hdf:d.params.defaults=[])(call:∀(w:World) (s₀ s₁:Shared) (mg mb:Str->Option Value) (fa:Addr) (o:Obj) (pm cd doc:Value) (a:Addr) (vs:List Value) (ns:List Int),
   Ground q loose [] XP w s₀ mg mb s₁.heap->YP w s₁.heap ->
   s₁.heap.get? fa=some o->o.data=.func (docDef d.name d.params d.body d.scope pm cd doc)->s₁.heap.CodeRec cd d.name->mg d.name=some (.ref fa) ->
   s₁.heap.get? a=some { cls:=.type "list",data:=.seq vs.toArray }->IntsAre vs ns->ns.length<=n->s₁.gens=#[] ->
   codeAny (model l.prog w) callerA (.call (.ref fa) ⟨[.ref a],[]⟩) (fun r s'=>r=.ok (.ret (.bool true))/\OldK s₁.heap s'.heap/\s'.os=s₁.os/\AllBare s'.gens) s₁) :
  WalkO q loose XP YP l.row.toRowW d [] (fun f vs=>PySem.call f vs):=by
 intro w s₀ s₁ mg mb G Y fa o pm cd doc dV kV ho hd hcd hD hmg hg args vals as hpre hlay hrd hwl hlo
 obtain rfl:dV=.none:=Dflts.none hD hdf
 obtain rfl:kV=.none:=Dflts.noKw hD
 obtain⟨a,vs,ns,rfl,rfl,hobj,hints,hlen⟩:=ZeC hn hpre hwl
 refine enter_call (codeAny_mono (call w s₀ s₁ mg mb fa o pm cd doc a vs ns G Y ho (fd_plain hd) hcd hmg hobj hints hlen hg) fun r s' hq=>?_)
 obtain⟨rfl,h2,h3,h4⟩:=hq
 exact⟨.inl ⟨.bool true,.bool true,[],rfl,fun _=>rfl,.bool true,ZeO l _,fun _=>⟨List.Pairwise.nil,fun _ hm=>(nomatch hm)⟩⟩,h2,h3,h4⟩
section
end
end Att
namespace L2
open PySem PySem.Spec PyProof.Rows
theorem Zbd:∀{vs:List Value}{ns:List Int},IntsAre vs ns->Jr (ns.map V.int) vs
 |_,_,.nil=>.nil
 |_,_,.cons n t h=>.cons ⟨t,rfl⟩ (Zbd h)
def ZkG(H:Hp):Prop:=∀b,H b=none\/∃o xs,H b=some (.frz o (.lst xs))
theorem ZgU{P:Program}{w:World}{K:W.Frag}{mg mb:Str->Option Value}{CX:CXT}{k:Nat}{fa a:Addr}{fd:FuncData}{x:Str}{sp:Sp}{s₁:Shared}{vs:List Value}{ns:List Int}(KX:K.In s₁.heap)(hns:s₁.heap.Ns mainGlobals mg)(hb:s₁.heap.Ns builtinsNs mb)(hbb:∀x:Str,x ≠ "__name__"->mb x=bootBuiltins x)(hlim:s₁.heap.NoLimit)(hg:s₁.gens=#[])(ha:s₁.heap.get? a=some { cls:=.type "list",data:=.seq vs.toArray })(hi:IntsAre vs ns)(hl:ns.length<=sizeLine)(hr:UR k callerA)(F:∀base:Heap,K.In base->base.Ns mainGlobals mg->J8 P w K mg base CX k fa fd [x] sp)(hbind:∀(s:Shared) (u:Value),BindsTo s fd ⟨[u],[]⟩ [(x,u)])(hsp:∀H:Hp,ZkG H->SqL K H a (ns.map V.int)->sp [.ref a] H (fun v _=>v=.bl true) fun _ _ _=>False)(hCX:∀H e s',CX [] H s₁ (fun _ _ _=>False) e s'->False) :
  codeAny (model P w) callerA (.call (.ref fa) ⟨[.ref a],[]⟩) (fun r s'=>r=.ok (.ret (.bool true))/\OldK s₁.heap s'.heap/\s'.os=s₁.os/\AllBare s'.gens) s₁:=by
 have rv:=Zbd hi
 have lenV:=hi.length
 have core:∀H:Hp,ZkG H->SqL K H a (ns.map V.int)->HOk P w H s₁.heap->(∀b,H b≠none->b=a)->(H a≠none->K.lookup a=none) ->
   codeAny (model P w) callerA (.call (.ref fa) ⟨[.ref a],[]⟩) (fun r s'=>r=.ok (.ret (.bool true))/\OldK s₁.heap s'.heap/\s'.os=s₁.os/\AllBare s'.gens) s₁:=by
  intro H hO hS hok hA hK
  have base_of:∀{b:Addr}{o:Obj},s₁.heap.get? b=some o->H b=none->(Zhb s₁.heap H).get? b=some o:=fun e n=>Zha e n
  have noA:∀{b:Addr}{o:Obj}{es:Array DictEntry}{ep:Nat},s₁.heap.get? b=some o->o.data=.dict es ep->H b=none:=fun {b o es ep} e d=>by
   cases q:H b with
   |none=>rfl
   |some u =>
    have e':b=a:=hA b (by rw[q];simp)
    subst e'
    rw[ha] at e;cases e
    have d':Data.seq vs.toArray _=Data.dict es ep:=d
    cases d'
  have nsK:∀{b:Addr}{m:Str->Option Value},s₁.heap.Ns b m->(Zhb s₁.heap H).Ns b m:=fun {b m} ⟨o,es,ep,e,d,r⟩=>⟨o,es,ep,base_of e (noA e d),d,r⟩
  have hKb:K.In (Zhb s₁.heap H):=fun b o e=>base_of (KX b o e) (by
   cases q:H b with
   |none=>rfl
   |some u =>
    have e':b=a:=hA b (by rw[q];simp)
    subst e'
    rw[hK (by rw[q];simp)] at e;cases e)
  have hM:Mod K mg (Zhb s₁.heap H):=⟨hKb,nsK hns,⟨mb,nsK hb,hbb⟩,let ⟨mc,h1,h2⟩:=hlim;⟨mc,nsK h1,h2⟩⟩
  have e0:ZkT P w K mg (Zhb s₁.heap H) callerA [] s₁ H:=⟨rfl,hM,fun b o e=>ZiB e,Nat.le_of_eq (ZfB _ _),trivial,fun b hb=>absurd (show b∈([]:List Addr) from hb) (by simp),hok,.of_eq hg⟩
  refine codeAny_mono ((F _ hKb (nsK hns)).run callerA [] s₁ H ⟨[.ref a],[]⟩ [.ref a] [.ref a] _ _ hr e0 (hbind s₁ (.ref a)) (.cons rfl .nil) (hsp H hO hS)) fun r s' h=>?_
  cases r with
  |error e=>exact(hCX H e s' h).elim
  |ok fl =>
   cases fl with
   |next=>exact False.elim h
   |brk=>exact False.elim h
   |cont=>exact False.elim h
   |ret u =>
    obtain⟨v,H',os,bare,un,hok',r',q⟩:=h
    have q':v=.bl true:=q
    subst q'
    obtain rfl:u=Value.bool true:=r'
    refine⟨rfl,OldK.of_keep fun b o e=>?_,os,bare⟩
    cases q:H b with
    |none=>exact un.keep b o e q (by intro z;exact absurd (show b∈([]:List Addr) from z) (by simp)) (by simp)
    |some u =>
     rcases hO b with z|⟨ob,xs,z⟩
     ·rw[q] at z;cases z
     ·have z2:=un.frzs b ob _ z
      obtain⟨e1,_⟩:=hok b _ z
      obtain⟨e2,_⟩:=hok' b _ z2
      rw[e] at e1;cases e1
      exact e2
 cases hk:K.lookup a with
 |some o =>
  have e:=KX a o hk
  rw[ha] at e
  cases e
  refine core (fun _=>none) (fun _=>.inl rfl) (.inr ⟨_,vs.toArray,_,hk,rfl,rfl,rfl,by rw[Ztr,lenV];exact hl,by simpa using rv⟩) (fun b u z=>by have z':(none:Option HO)=some u:=z;cases z') (fun b z=>absurd rfl z) fun z=>absurd rfl z
 |none =>
  refine core (fun b=>if b=a then some (.frz { cls:=.type "list",data:=.seq vs.toArray } (.lst (ns.map V.int))) else none) (fun b=>?_) (.inl (.inr ⟨{ cls:=.type "list",data:=.seq vs.toArray },if_pos rfl⟩)) (fun b u z=>?_) (fun b z=>?_) fun _=>hk
  ·by_cases hb:b=a
   ·exact .inr ⟨_,_,if_pos hb⟩
   ·exact .inl (if_neg hb)
  ·by_cases hb:b=a
   ·have z':=(if_pos hb).symm.trans z
    cases z'
    subst hb
    exact⟨ha,by rw[Ztp];exact hl,vs,_,rv,ha⟩
   ·have z':=(if_neg hb).symm.trans z
    cases z'
  ·by_cases hb:b=a
   ·exact hb
   ·exact absurd (if_neg hb) z
noncomputable abbrev KOf{K:W.Frag}{h:Heap}(_:K.In h):W.Frag:=K
theorem Zim{l:PySem.W.OpenLaw}{n k:Nat}{q:Program}{loose:List Str}{XP:(Str->Option Value)->Heap->Prop}{YP:World->Heap->Prop}{d:DefRec}{K:Params->W.Frag}{CX:World->CXT}{sp:World->Sp}{x:Str}(hn:l.most=some n)(hn2:n<=sizeLine)(hdf:d.params.defaults=[])(hr:UR k callerA)(hY:∀(w:World) (h:Heap),YP w h->(K w.params).In h)(F:∀(w:World) (mg:Str->Option Value) (fa:Addr) (h:Heap),(K w.params).In h->h.Ns mainGlobals mg->mg d.name=some (.ref fa) ->
   ∃fd:FuncData,(∀(s:Shared) (u:Value),BindsTo s fd ⟨[u],[]⟩ [(x,u)]) /\
    ∀base:Heap,(K w.params).In base->base.Ns mainGlobals mg->J8 l.prog w (K w.params) mg base (CX w) k fa fd [x] (sp w))(hsp:∀(w:World) (H:Hp) (a:Addr) (ns:List Int),ns.length<=n->ZkG H->SqL (K w.params) H a (ns.map V.int)->sp w [.ref a] H (fun v _=>v=.bl true) fun _ _ _=>False)(hCX:∀(w:World) (H:Hp) (s:Shared) (e:Value) (s':Shared),CX w [] H s (fun _ _ _=>False) e s'->False) :
  PySem.W.WalkO q loose XP YP l.row.toRowW d [] (fun f vs=>PySem.call f vs):=by
 refine Att.Zc6 hn hdf fun w s₀ s₁ mg mb fa o pm cd doc a vs ns G Y ho hd hcd hmg hobj hints hlen hg=>?_
 have KX:=hY w _ Y
 obtain⟨fd,hb,hF⟩:=F w mg fa _ KX G.T.g hmg
 exact ZgU KX G.T.g G.T.b G.T.builtins G.T.nolimit hg hobj hints (Zt7 hlen hn2) hr hF hb (fun H hO hS=>hsp w H a ns hlen hO hS) fun H e s'=>hCX w H s₁ e s'
theorem Zgs{l:PySem.W.OpenLaw}{n k:Nat}{q:Program}{loose:List Str}{XP:(Str->Option Value)->Heap->Prop}{YP:World->Heap->Prop}{d:DefRec}{K:Params->W.Frag}{CX:CXT}{sp:W.Frag->Sp}{x:Str}(hn:l.most=some n)(hn2:n<=sizeLine)(hdf:d.params.defaults=[])(hr:UR k callerA)(hY:∀(w:World) (h:Heap),YP w h->(K w.params).In h)(F:∀(w:World) (mg:Str->Option Value) (fa:Addr) (h:Heap),(K w.params).In h->h.Ns mainGlobals mg->mg d.name=some (.ref fa) ->
   ∃fd:FuncData,(∀(s:Shared) (u:Value),BindsTo s fd ⟨[u],[]⟩ [(x,u)]) /\
    ∀base:Heap,(K w.params).In base->base.Ns mainGlobals mg->J8 l.prog w (K w.params) mg base CX k fa fd [x] (sp (K w.params)))(hsp:∀(K:PySem.W.Frag) (H:Hp) (a:Addr) (ns:List Int),ns.length<=n->ZkG H->SqL K H a (ns.map V.int)->sp K [.ref a] H (fun v _=>v=.bl true) fun _ _ _=>False)(hCX:∀(H:Hp) (s:Shared) (e:Value) (s':Shared),CX [] H s (fun _ _ _=>False) e s'->False) :
  PySem.W.WalkO q loose XP YP l.row.toRowW d [] (fun f vs=>PySem.call f vs):=
 Zim (K:=K) (CX:=fun _=>CX) (sp:=fun w=>sp (K w.params)) hn hn2 hdf hr hY F (fun w H a ns h1 h2 h3=>hsp (K w.params) H a ns h1 h2 h3) fun _ H s e s'=>hCX H s e s'
noncomputable def Uq(s:Stmt)(j:Nat):Stmt:=match s with
 |.ClassDef _ _ _ body _ _ _ _ _ _ _=>body.getD j (.Pass ⟨0,0,0,0⟩)
 |_=>.Pass ⟨0,0,0,0⟩
noncomputable def Zv(s:Stmt):Arguments:=match s with
 |.FunctionDef _ a _ _ _ _ _ _ _ _=>a
 |_=>{ posonlyargs:=[],args:=[],vararg:=none,kwonlyargs:=[],kw_defaults:=[],kwarg:=none,defaults:=[] }
noncomputable def Zq(s:Stmt):List Stmt:=match s with
 |.FunctionDef _ _ b _ _ _ _ _ _ _=>b
 |_=>[]
noncomputable def Zf(s:Stmt):Scope:=match s with
 |.FunctionDef _ _ _ _ _ _ sc _ _ _=>sc
 |_=>{ kind:=.function,names:=[],isGenerator:=false,isCoroutine:=false }
noncomputable abbrev CX0:CXT:=fun _ _ _ _ _ _=>False
noncomputable abbrev E0:XK:=fun _ _ _=>False
theorem Zi3{X:Cx}:ZdL CX0 X E0:=fun _ _ _ _ _ _ _ h=>h.elim
structure Fun(K:PySem.W.Frag)(x qual:Str)(st:Stmt)(f:Addr)(fd:FuncData):Prop where
 ex:∃(oc:Value) (od:Option Addr) (kV doc pm:Value) (an:Option Addr) (cdv ct:Value) (osl:Array (Option Value)),
  fd=PySem.W.fnOf x qual (Zv st) (Zq st) (Zf st) .none kV doc pm an cdv ct/\K.lookup f=some ⟨oc,od,.func fd,osl⟩/\PySem.W.codeIn K cdv qual=true
 kp:PySem.W.keepIn K (.ref f)=true
section
variable {P:Program}{w:World}{K:W.Frag}{mg:Str->Option Value}{base:Heap}
theorem Fun.ok{x qual:Str}{st:Stmt}{f:Addr}{fd:FuncData}{N ps:List Str}{k:Nat}{sp:Sp}(F:Fun K x qual st f fd)(S:Zt N ps (Zf st))(len:∀vs H Q E,sp vs H Q E->vs.length=ps.length)(hbody:∀(cdv:Value) (A:Around) (outer:List Env) (s:Shared) (H:Hp) (vs:List V) (Q:VK) (E:XK),UR k (A.deeper (envOfC qual (Zf st) s.heap.objs.size f cdv))->sp vs H Q E ->
   ∃t,PSs (ZbF CX0 P w K mg base N qual (Zf st) f cdv A outer s H E).nox (Zq st) t/\t { nx:=fun _ H'=>Q .non H',rt:=Q } (U0 N vs) H):J8 P w K mg base CX0 (k+1) f fd ps sp:=by
 obtain⟨oc,od,kV,doc,pm,an,cdv,ct,osl,rfl,lk,hcd⟩:=F.ex
 refine Zkt lk hcd S len fun A outer s H vs Q E hr hsp=>?_
 obtain⟨t,h,q⟩:=hbody cdv A outer s H vs Q E hr hsp
 exact⟨t,h.nox,q⟩
theorem Fun.binds{x qual:Str}{st:Stmt}{f:Addr}{fd:FuncData}{ps:List Str}(F:Fun K x qual st f fd)(h:∀(kV doc pm:Value) (an:Option Addr) (cdv ct:Value) (us:List Value),us.length=ps.length->bindArgs (PySem.W.fnOf x qual (Zv st) (Zq st) (Zf st) .none kV doc pm an cdv ct) ⟨us,[]⟩=pure (ps.zip us)):Zba K fd ps []:=by
 obtain⟨oc,od,kV,doc,pm,an,cdv,ct,osl,rfl,lk,hcd⟩:=F.ex
 exact .all (h kV doc pm an cdv ct)
theorem ZF{x qual:Str}{st:Stmt}{f:Addr}{oc:Value}{od an:Option Addr}{osl:Array (Option Value)}{kV doc pm cdv ct:Value}(l:K.lookup f=some ⟨oc,od,.func (PySem.W.fnOf x qual (Zv st) (Zq st) (Zf st) .none kV doc pm an cdv ct),osl⟩)(c:PySem.W.codeIn K cdv qual=true)(k:PySem.W.keepIn K (.ref f)=true):Fun K x qual st f (PySem.W.fnOf x qual (Zv st) (Zq st) (Zf st) .none kV doc pm an cdv ct):=⟨⟨oc,od,kV,doc,pm,an,cdv,ct,osl,rfl,l,c⟩,k⟩
variable {X:Cx}
theorem pv(i:Nat){x:Str}{pos:Pos}(hN:X.N[i]?=some x:=by rfl)(hv:Vis X.env.scope x:=by first|exact Or.inl rfl|exact Or.inr (Or.inl rfl)|exact Or.inr (Or.inr rfl))(hd:(x==("__debug__":Str))=false:=by decide)(hcd:(x==("__classdict__":Str))=false:=by decide):PE X (.Name x pos) (Zab i):=ZjL hN hv hd hcd
end
def Z5(H H':Hp):Prop:=∀b o,H b=some o->H' b=some o
theorem Z5.refl(H:Hp):Z5 H H:=fun _ _ h=>h
theorem Z5.trans{H H1 H2:Hp}(a:Z5 H H1)(b:Z5 H1 H2):Z5 H H2:=fun c o h=>b c o (a c o h)
theorem Z5.free{H H':Hp}(e:Z5 H H'){l:Addr}(h:H' l=Option.none):H l=Option.none:=by
 cases q:H l with
 |none=>rfl
 |some o =>
  rw[e l o q] at h
  cases h
end L2
set_option maxHeartbeats 4000000
namespace L2
open PySem PySem.Spec PyProof.Rows
noncomputable def ZbP(scope:Scope)(env:Env):List (Str×Addr):=
 ((scope.names.filter fun p=>p.2==.free).reverse).map fun p=>(p.1,(env.cells.lookup p.1).getD 0)
theorem UA{β:Type}:∀{l:List (Str×β)}{a:Str}{b:β},(a,b)∈l->∃c,l.lookup a=some c
 |[],_,_,h=>absurd h (by simp)
 |(n,v)::r,a,b,h=>by
  cases e:a==n with
  |true=>exact⟨v,by simp[ZtC,e]⟩
  |false =>
   rcases Zts.mp h with z|z
   ·cases z;simp at e
   ·obtain⟨c,hc⟩:=UA z
    exact⟨c,by simp[ZtC,e,hc]⟩
theorem ZE{env:Env}:∀{names:List (Str×NameKind)}{y:Str}{k:NameKind},(∀p∈names,p.2≠.cell) ->
  (names.map fun(n,k)=>if (k==NameKind.free&&env.scope.kind==.function&&env.kindOf n==some .cell) then (n,NameKind.cell) else (n,k)).lookup y=some k ->
  (k=.local->names.lookup y=some .local)/\(k=.cell\/k=.free->names.lookup y=some .free)
 |[],_,_,_,h=>by simp at h
 |(n,k0)::r,y,k,nc,h=>by
  have ih:=@ZE env r y k (fun p hp=>nc p (Zt9 _ hp))
  have nc0:=nc (n,k0) Zuh
  have h':List.lookup y ((if (k0==NameKind.free&&env.scope.kind==.function&&env.kindOf n==some .cell)=true then (n,NameKind.cell) else (n,k0))::(r.map fun(n,k)=>if (k==NameKind.free&&env.scope.kind==.function&&env.kindOf n==some .cell) then (n,NameKind.cell) else (n,k)))=some k:=h
  cases hx:y==n with
  |true =>
   by_cases hc:(k0==NameKind.free&&env.scope.kind==.function&&env.kindOf n==some .cell)=true
   ·rw[if_pos hc] at h'
    simp only[ZtC,hx] at h'
    have hk:NameKind.cell=k:=Option.some.inj h'
    subst hk
    have hf:k0=.free:=by
     simp only[Bool.and_eq_true] at hc
     exact beq_iff_eq.mp hc.1.1
    subst hf
    exact⟨(fun z=>nomatch z),fun _=>by simp[ZtC,hx]⟩
   ·rw[if_neg hc] at h'
    simp only[ZtC,hx] at h'
    have hk:k0=k:=Option.some.inj h'
    subst hk
    refine⟨fun z=>by subst z;simp[ZtC,hx],fun z=>?_⟩
    rcases z with z|z
    ·exact absurd z nc0
    ·subst z;simp[ZtC,hx]
  |false =>
   by_cases hc:(k0==NameKind.free&&env.scope.kind==.function&&env.kindOf n==some .cell)=true
   ·rw[if_pos hc] at h'
    simp only[ZtC,hx] at h'
    have:=ih h'
    simpa[ZtC,hx] using this
   ·rw[if_neg hc] at h'
    simp only[ZtC,hx] at h'
    have:=ih h'
    simpa[ZtC,hx] using this
noncomputable def blk(X:Cx)(scope:Scope)(x:Str)(C:Addr)(ex:List Addr)(s₂:Shared)(H₂:Hp):Cx:=
 { X with N:=X.N++[x],s₀:=s₂,H₀:=H₂,env:=compEnvC scope (ZbP scope X.env) C X.env,outer:=X.stack,ex:=ex,fn:=fun _=>false,pn:=[],xe:=fun _ _=>False }
noncomputable def QR(N:List Str)(sc scope:Scope)(x:Str):Bool:=
 (scope.names.all fun p=>!(p.2==.cell))&&(scope.kind==.function)&&(scope.names.all fun p=>!(p.2==.local) || scope.names.lookup p.1==some .local)&&(scope.names.lookup x==some .local)
  && (N.all fun y=>!(scope.names.lookup y==some .local))&&(scope.names.all fun p=>!(p.2==.free) || sc.names.lookup p.1==some .cell || sc.names.lookup p.1==some .free)
structure VM(N:List Str)(sc scope:Scope)(x:Str):Prop where
 nc:∀p∈scope.names,p.2≠.cell
 kind:scope.kind=.function
 locs:∀p∈scope.names,p.2=.local->scope.names.lookup p.1=some .local
 var:scope.names.lookup x=some .local
 noN:∀y∈N,scope.names.lookup y≠some .local
 fr:∀p∈scope.names,p.2=.free->sc.names.lookup p.1=some .cell\/sc.names.lookup p.1=some .free
theorem VM.of{N:List Str}{sc scope:Scope}{x:Str}(h:QR N sc scope x=true):VM N sc scope x:=by
 unfold QR at h
 simp only[Bool.and_eq_true,ZtF,Bool.or_eq_true,Bool.not_eq_true',beq_iff_eq,beq_eq_false_iff_ne] at h
 obtain⟨⟨⟨⟨⟨h1,h2⟩,h3⟩,h4⟩,h5⟩,h6⟩:=h
 refine⟨h1,h2,fun p hp e=>?_,h4,h5,fun p hp e=>?_⟩
 ·rcases h3 p hp with z|z
  ·exact absurd e z
  ·exact z
 ·rcases h6 p hp with (z|z)|z
  ·exact absurd e z
  ·exact .inl z
  ·exact .inr z
section
variable {X:Cx}{pins:List (Addr×Obj)}{σ:St}{H:Hp}{s:Shared}
theorem Inv.adopt{D:Addr}{ys:List V}{its:List Value}{n:Nat}(I:Inv X pins σ H s)(hn:H D=none)(h1:X.s₀.heap.objs.size<=D)(hL:D≠X.env.locals)(hc:∀x c,X.env.cells.lookup x=some c->c≠D)(hp:∀p∈X.pn++pins,p.1≠D)(ho:s.heap.get? D=some { cls:=.type "list",data:=.seq its.toArray n })(r:Jr ys its)(hz:ys.length<=sizeLine):Inv X pins σ (upd H D (.lst ys)) s:=by
 refine I.step (h':=s.heap) (g':=s.gens) (d':=s.drawn) (t':=s.toks) (ch:=[D]) (fun b hb=>?_) (fun b o _ _ _ e _=>e) (fun b o _ _ _ e _=>⟨o.slots,e⟩) (fun b o hb _ e=>?_) (fun b o _ e=>⟨o,e⟩)
  (fun b xs e=>?_) (fun b o u e=>?_) (fun b ps e=>⟨#[], ?_⟩) (fun m hm=>hm) (fun b u e=>?_) I.bare
 ·have e:b=D:=by simpa using hb
  subst e
  exact⟨.inr h1,hL,hc,hp⟩
 ·rw[Z1 (by simpa using hb)];exact e
 ·rw[Z1 (ZG e hn)];exact e
 ·rw[Z1 (ZG e hn)];exact e
 ·rw[Z1 (ZG e hn),e];simp
 ·by_cases hb:b=D
  ·subst hb
   rw[ZD] at e;cases e
   exact⟨hz,its,n,r,ho⟩
  ·rw[Z1 hb] at e
   exact(I.hok b u e).stay (fun c v _ q=>q) (fun c q=>by rw[Z1 (ZG q hn)];exact q) fun c xs q=>by rw[Z1 (ZG q hn)];exact q
variable {s₂:Shared}{H₂:Hp}{scope:Scope}{x:Str}{fp:List Addr}
theorem JW{sc:VM X.N X.env.scope scope x}(ok:X.Ok){y:Str}{c:Addr}(h:(ZbP scope X.env).lookup y=some c):X.env.cells.lookup y=some c:=by
 have hm:=PySem.mem_of_lookup h
 unfold ZbP at hm
 obtain⟨p,hp,e⟩:=Ztx.mp hm
 have hp':=ZtV.mp (ZuE.mp hp)
 obtain⟨e1,e2⟩:=Prod.mk.inj e
 have hk:=sc.fr p hp'.1 (beq_iff_eq.mp hp'.2)
 obtain⟨c',hc'⟩:=ok.has p.1 hk
 rw[hc'] at e2
 rw[<- e1,hc']
 exact congrArg some e2
theorem Ql{y:Str}(h:scope.names.lookup y=some .free):∃c,(ZbP scope X.env).lookup y=some c:=by
 have hm:=PySem.mem_of_lookup h
 refine UA (b:=(X.env.cells.lookup y).getD 0) ?_
 unfold ZbP
 exact Ztx.mpr ⟨(y,.free),ZuE.mpr (ZtV.mpr ⟨hm,rfl⟩),rfl⟩
theorem ZkB(I:Inv X pins σ H₂ s₂)(sc:VM X.N X.env.scope scope x){C:Addr}(hC:s₂.heap.objs.size<=C)(ff:∀b∈fp,Zew X pins H₂ b)(fo:∀b∈fp,∃o,s₂.heap.get? b=some o):(blk X scope x C fp s₂ H₂).Ok where
 mod:=I.ok.mod
 kind:=sc.kind
 glob:=I.ok.glob
 blt:=I.ok.blt
 above:=hC
 inj:=fun y z c h1 h2=>I.ok.inj y z c (JW (sc:=sc) I.ok h1) (JW (sc:=sc) I.ok h2)
 has:=fun y hy=>by
  have hy':(relabel scope X.env).names.lookup y=some .cell\/(relabel scope X.env).names.lookup y=some .free:=hy
  have hf:scope.names.lookup y=some .free:=by
   rcases hy' with z|z
   ·exact(ZE sc.nc z).2 (.inl rfl)
   ·exact(ZE sc.nc z).2 (.inr rfl)
  exact Ql hf
 cab:=fun y c h=>by cases h
 hd:=I.ok.hd
 frames:=I.ok.frames
 stk:=.inl rfl
 exf:=fun b hb=>by
  obtain⟨f0,f1,f2,f3,f4,f5⟩:=ff b hb
  obtain⟨o,ho⟩:=fo b hb
  exact⟨Zt1 (Ztm (Heap.lt_size ho) hC),fun y c h=>f4 y c (JW (sc:=sc) I.ok h)⟩
 bs:=I.bs
 bsz:=Zt7 I.ok.bsz I.sz
 noex:=fun b o e hb=>by
  obtain⟨f0,f1,f2,f3,f4,f5⟩:=ff b hb
  rcases f3 with z|z
  ·exact I.ok.noex b o e z
  ·exact absurd (Ztm (Heap.lt_size e) (Zt7 I.ok.bsz z)) (ZtA _)
 exfs:=fun b hb z=>by
  obtain⟨f0,f1,f2,f3,f4,f5⟩:=ff b hb
  rcases Zts.mp (I.stkSub b z) with e|e
  ·exact f1 e
  ·exact f2 e
 funs:=I.stack
 frf:=I.stkFree
end
def Zh2(σ:St)(te:TE)(J:It)(H1:Hp)(Q:VK):Prop:=∃W:Nat->Nat->List V->Hp->Prop,(∃m,W 0 m [] H1)/\∀i m ys H2,W i m ys H2->ys.length<=sizeLine /\
 ((J.stop i H2/\∀p,H2 p=none->Q (.ref p) (upd H2 p (.lst ys))) \/
  (J.go i H2/\∃N:List V->Hp->Prop,(∀ys' H',N ys' H'->∃m',m'<m/\W (i+1) m' ys' H')/\∀x H3,J.yld i H2 x H3->te (σ++[some x]) H3 fun y H4=>N (ys++[y]) H4))
noncomputable def Zgy(wi:TI)(te:TE):TE:=fun σ H Q=>wi σ H fun J H1=>Zh2 σ te J H1 Q
section
variable {X:Cx}{pins:List (Addr×Obj)}{σ:St}{s₂:Shared}{H₂:Hp}{scope:Scope}{x:Str}{px:Pos}{elt iter:Expr}{pos:Pos}{te:TE}{J:It}{fp:List Addr}{it:Addr}{tn:Nat->Heap->Prop}
theorem ZdC{E:Value->Shared->Prop}{Q:VK}{RR:Value->Addr->Result->Shared->Prop}(I:Inv X pins σ H₂ s₂)(sc:VM X.N X.env.scope scope x)(hNd:X.N.Nodup)(hc:X.calm=true)(T:Zjy X.prog X.w X.K (.Name x px) J fp it tn)(st:tn 0 s₂.heap)(ff:∀b∈fp,Zew X pins H₂ b)(hw:Zh2 σ te J H₂ Q)(he:∀C s₂ H₂ ex,PE (blk X scope x C ex s₂ H₂) elt te)(hRR:∀D C s' H' m',s₂.heap.objs.size<=C->Inv X pins σ H' s'->s'.heap.Ns C m'->H' C=none->Q (.ref D) H'->RR (.ref D) C (.ok .next) s') :
  wpAny (model X.prog X.w) X.A (newList []) (fun acc s₃=>wpAny (model X.prog X.w) X.A (newFunctionEnv scope X.env.globals (ZbP scope X.env) [] X.env.qual none .none (some X.env)) (fun cenv s₄ =>
   codeAny (model X.prog X.w) X.A (.compStart (.ListComp elt [⟨.Name x px,iter,[],0⟩] scope pos) 0 (.ref it) acc { cenv with scope:=relabel scope X.env }) (RR acc cenv.locals) s₄) E s₃) E s₂:=by
 refine wpAny_newObj_type (wpAny_newFunctionEnv sc.nc (by intro y hy;simp at hy) (fun h₁ hns₁ hsb₁=>?_) sc.kind)
 dsimp only at hns₁ hsb₁ ⊢
 generalize hP2:s₂.heap.push { cls:=.type "list",dict:=none,data:=.seq ([]:List Value).toArray }=P2 at hns₁ hsb₁ ⊢
 have hCs:P2.objs.size=s₂.heap.objs.size+1:=by rw[<- hP2,Heap.size_push]
 have hCle:s₂.heap.objs.size<=P2.objs.size:=by rw[hCs];exact Nat.le_succ _
 have hDC:s₂.heap.objs.size≠P2.objs.size:=by rw[hCs];exact Zt1 (Zul _)
 generalize hCe:P2.objs.size=C at hns₁ hsb₁ hCs hCle hDC ⊢
 generalize hDe:s₂.heap.objs.size=D at hCs hCle hDC ⊢
 have fo:∀b∈fp,∃o,s₂.heap.get? b=some o:=fun b hb=>let ⟨o,e,_⟩:=T.obj _ _ st b hb;⟨o,e⟩
 have flt:∀b∈fp,b<D:=fun b hb=>by obtain⟨o,e⟩:=fo b hb;rw[<- hDe];exact Heap.lt_size e
 have old:∀b o,s₂.heap.get? b=some o->h₁.get? b=some o:=fun b o e=>by
  have hb:=Heap.lt_size e
  exact hsb₁.extBut b o (Zt1 (by rw[hCs];exact Nat.lt_succ_of_lt (hDe▸hb))) (Heap.get?_push_of_some _ (hP2▸Heap.get?_push_of_some _ e))
 have hacc:h₁.get? D=some { cls:=.type "list",data:=.seq ([]:List Value).toArray 0 }:=hsb₁.extBut _ _ hDC (Heap.get?_push_of_some _ (hP2▸hDe▸Heap.get?_push_size _ rfl))
 have okB:=ZkB (x:=x) (C:=C) I sc (by rw[hDe];exact hCle) ff fo
 have hfreshD:H₂ D=none:=I.hok.fresh (by rw[hDe];exact Zto _)
 have hfreshC:H₂ C=none:=I.hok.fresh (by rw[hDe];exact hCle)
 have hxN:x ∉ X.N:=fun z=>sc.noN x z sc.var
 have ndB:(X.N++[x]).Nodup:=ZtX.mpr ⟨hNd,by simp,fun a ha b hb=>by
  have:b=x:=by simpa using hb
  subst this;rintro rfl;exact hxN ha⟩
 have I0:Inv (blk X scope x C fp s₂ H₂) [(D,{ cls:=.type "list",data:=.seq ([]:List Value).toArray 0 })] (σ++[none]) H₂ { s₂ with heap:=h₁,toks:=s₂.toks+([]:List (Str×Value)).length }:=by
  refine⟨okB,rfl,I.bare,Un.kept old,⟨_,hns₁,fun i y v e1 e2 e3=>?_⟩,fun y c e=>?_,hfreshC,fun y c e=>I.freeC y c (JW (sc:=sc) I.ok e),fun p hp=>?_,I.hok.kept old,by simp[blk,I.len]⟩
  ·have hi:i<σ.length:=by
    by_cases hi:i<σ.length
    ·exact hi
    ·rw[Ztw (by lia)] at e2
     have:([none]:St)[i-σ.length]?=some (some v):=e2
     cases hj:i-σ.length with
     |zero=>rw[hj] at this;simp at this
     |succ j=>rw[hj] at this;simp at this
   rw[Ztn hi] at e2
   have e1':(X.N++[x])[i]?=some y:=e1
   rw[Ztn (by rw[<- I.len];exact hi)] at e1'
   have yN:y∈X.N:=Zuj e1'
   have e3':(relabel scope X.env).names.lookup y=some .local\/(relabel scope X.env).names.lookup y=some .cell\/(relabel scope X.env).names.lookup y=some .free:=e3
   have hcf:(relabel scope X.env).names.lookup y=some .cell\/(relabel scope X.env).names.lookup y=some .free:=by
    rcases e3' with z|z
    ·exact absurd ((ZE sc.nc z).1 rfl) (sc.noN y yN)
    ·exact z
   have hfree:scope.names.lookup y=some .free:=by
    rcases hcf with z|z
    ·exact(ZE sc.nc z).2 (.inl rfl)
    ·exact(ZE sc.nc z).2 (.inr rfl)
   obtain⟨c,hcl⟩:=Ql (X:=X) hfree
   have hcx:=JW (sc:=sc) I.ok hcl
   have hvis:=sc.fr _ (PySem.mem_of_lookup hfree) rfl
   obtain⟨m,hn,hl⟩:=I.loc
   obtain⟨u,ru,hlook⟩:=hl i y v e1' e2 (.inr hvis)
   refine⟨u,ru,.inr ⟨hcf,c,hcl, ?_⟩⟩
   rcases hlook with ⟨k,_⟩|⟨k,c',ec,hcell⟩
   ·have k':X.env.scope.names.lookup y=some .local:=k
    have hv':X.env.scope.names.lookup y=some .cell\/X.env.scope.names.lookup y=some .free:=hvis
    rw[k'] at hv'
    rcases hv' with z|z<;>cases z
   ·rw[hcx] at ec;cases ec
    obtain⟨o,ho,hd⟩:=hcell
    exact⟨o,old _ _ ho,hd⟩
  ·obtain⟨v,o,ho,hd⟩:=I.cell y c (JW (sc:=sc) I.ok e)
   exact⟨v,o,old _ _ ho,hd⟩
  ·have e:p=(D,{ cls:=.type "list",data:=.seq ([]:List Value).toArray 0 }):=by simpa[blk] using hp
   subst e
   exact⟨hacc,hfreshD,hDC,(fun z=>by
    rcases Zts.mp (I.stkSub D z) with e|e
    ·exact absurd I.lt (by rw[<- e,hDe];exact ZtA _)
    ·exact I.nofs (by rw[hDe];exact Zto _) e),fun v z=>nomatch z⟩
 obtain⟨W,⟨m0,w0⟩,turn⟩:=hw
 have fpB:∀{H':Hp}{o:Obj},(∀b∈fp,H' b=none)->∀b∈fp,Zew (blk X scope x C fp s₂ H₂) [(D,o)] H' b:=fun {H' o} hn b hb=>by
  obtain⟨f0,f1,f2,f3,f4,f5⟩:=ff b hb
  obtain⟨g1,g2⟩:=okB.exf b hb
  exact⟨hn b hb,g1,okB.exfs b hb,.inl hb,g2,fun p hp=>by
   have e:p=(D,o):=by simpa[blk] using hp
   subst e
   exact(Zt1 (flt b hb)).symm⟩
 have hσ:σ.length=X.N.length:=I.len
 have loop:∀s₃:Shared,s₃={ s₂ with heap:=h₁,toks:=s₂.toks+([]:List (Str×Value)).length } ->
   codeAny (model X.prog X.w) X.A (.compLoop (.ListComp elt [⟨.Name x px,iter,[],0⟩] scope pos) 0 (.ref it) (.ref D) (compEnvC scope (ZbP scope X.env) C X.env)) (RR (.ref D) C) s₃:=by
  rintro s₃ rfl
  refine codeAny_compLoop_tests
   (fun n s'=>∃i ys its k σx H',Inv (blk X scope x C fp s₂ H₂) [(D,{ cls:=.type "list",data:=.seq (List.toArray its) k })] (σ++[σx]) H' s'/\tn i s'.heap/\(∀b∈fp,H' b=none)/\Jr ys its/\W i n ys H') ?_ m0
   ⟨0,[],[],0,none,H₂,I0,T.keep _ _ _ st (fun b hb o e=>old b o e),fun b hb=>(ff b hb).1,.nil,w0⟩
  rintro n s' ⟨i,ys,its,k,σx,H',I',st',fr',rv,w'⟩
  obtain⟨hz,hcase⟩:=turn i n ys H' w'
  have hpinD:=I'.pin (D,{ cls:=.type "list",data:=.seq (List.toArray its) k }) (by simp[blk])
  rcases hcase with ⟨stop,q⟩|⟨go,N,hN,step⟩
  ·refine thn (T.done (blk X scope x C fp s₂ H₂) rfl rfl rfl hc i _ s' _ H' _ I' (fpB fr') st' stop) fun r s4 ⟨hr,I4⟩=>?_
   subst hr
   have pD:=I4.pin (D,{ cls:=.type "list",data:=.seq (List.toArray its) k }) (by simp[blk])
   obtain⟨m4,hn4,_⟩:=I4.loc
   have IX:Inv X pins σ H' s4:=I.call' I4.os I4.base I4.hok I4.bare fun b hb=>by
    obtain⟨f0,f1,f2,f3,f4,f5⟩:=ff b hb
    exact⟨f3,f1,f4,f5⟩
   have IX2:=IX.adopt (D:=D) (ys:=ys) (its:=its) (n:=k) hpinD.2.1 (by rw[<- hDe];exact I.sz) (by rw[<- hDe];exact Zur I.lt)
    (fun y c e z=>by
     obtain⟨v,o,ho,hd⟩:=I.cell y c e
     have:=Heap.lt_size ho
     rw[hDe,z] at this
     exact ZtA _ this)
    (fun p hp z=>by
     have:=Heap.lt_size (I.pin p hp).1
     rw[hDe,z] at this
     exact ZtA _ this) pD.1 rv hz
   refine hRR D C s4 _ m4 (by rw[hDe];exact hCle) IX2 hn4 ?_ (q D hpinD.2.1)
   rw[Z1 (Ne.symm hDC)]
   exact I4.free
  ·refine thn (T.item (blk X scope x C fp s₂ H₂) rfl rfl rfl hc i _ s' _ H' _ I' (fpB fr') st' go) fun r s4 ⟨u,hr,h4⟩=>?_
   subst hr
   show wpAny _ _ (letOwnedTupleGo (.Name x px) (.ref it) u >>= fun _=>assign (.Name x px) (compEnvC scope (ZbP scope X.env) C X.env) u) _ _ s4
   refine wpAny_bind (thn h4 fun _ s5 ⟨y,H5,I5,r5,y5,st5,fr5⟩=>?_)
   have I5':=I5.pinned (fpB fr5) (T.obj _ _ st5)
   refine wpAny_assign_Name ?_
   refine VN (X:=blk X scope x C fp s₂ H₂) (i:=X.N.length) (x:=x) (v:=y) I5' ndB (by simp[blk]) (.inl (lookup_relabel_local sc.var)) r5 (fun s6 I6=>?_) (.inr (lookup_relabel_local sc.var))
   have eσ:(σ++[σx]).set X.N.length (some y)=σ++[some y]:=by
    rw[<- hσ];simp
   rw[eσ] at I6
   refine wpAny_tests_nil ?_
   simp only[if_true]
   refine wpAny_mono (he C s₂ H₂ fp _ s6 _ H5 _ I6 (step y H5 y5)) (fun u7 s7 h7=>?_) fun _ _ f=>f.elim
   obtain⟨v7,H7,I7,r7,n7⟩:=h7
   have pD7:=I7.pin (D,{ cls:=.type "list",data:=.seq (List.toArray its) k }) (by simp[blk])
   have hlen:=rv.length
   refine append_at (hsz:=by show its.toArray.size<=sizeLine;rw[Ztr,<- hlen];exact hz) pD7.1 fun h8 hs8 hD8=>?_
   obtain⟨m',hm,w8⟩:=hN _ _ n7
   have hD8':h8.get? D=some { cls:=.type "list",data:=.seq (its++[u7]).toArray (k+1) }:=by rw[hD8,List.push_toArray]
   have I8:Inv (blk X scope x C fp s₂ H₂) [] (σ++[some y]) H7 { s7 with heap:=h8 }:=by
    refine(I7.pins_of (pins':=[]) fun p hp=>absurd hp (by simp)).turned (t':=s7.toks) (it:=D) (fun b o hb e=>(hs8.2 b hb).trans e) pD7.2.1 pD7.2.2.1 (.inr (by show s₂.heap.objs.size<=D;rw[hDe];exact Zto _)) (fun y' c' e' z=>?_) fun p hp=>absurd (show p∈([]:List (Addr×Obj)) from by simpa[blk] using hp) (by simp)
    obtain⟨v,o,ho,hd⟩:=I.cell y' c' (JW (sc:=sc) I.ok e')
    have:=Heap.lt_size ho
    rw[hDe,z] at this
    exact ZtA _ this
   refine⟨m',hm,i+1,ys++[v7],its++[u7],k+1,some y,H7,I8.pins_of fun p hp=>?_, ?_,fun b hb=>?_,rv.append (.cons r7 .nil),w8⟩
   ·have e:p=(D,{ cls:=.type "list",data:=.seq (its++[u7]).toArray (k+1) }):=by simpa using hp
    subst e
    exact⟨hD8',pD7.2.1,pD7.2.2.1,pD7.2.2.2.1,fun v z=>nomatch z⟩
   ·refine T.keep _ _ _ st5 fun b hb o e=>?_
    have hpb:=I7.pin (b,o) (Ztg _ (Ztg _ (Jp hb e)))
    exact(hs8.2 b (Zt1 (flt b hb))).trans hpb.1
   ·obtain⟨o,e,d⟩:=T.obj _ _ st5 b hb
    exact(I7.pin (b,o) (Ztg _ (Ztg _ (Jp hb e)))).2.1
 exact codeAny_compStart_list (loop _ rfl) (T.self _ 0 _ _ _ (T.keep _ _ _ st fun b hb o e=>old b o e) (loop _ rfl))
theorem Zi0{wi:TI}(hi:PI X (.Name x px) iter wi)(he:∀C s₂ H₂ ex,PE (blk X scope x C ex s₂ H₂) elt te)(hNd:X.N.Nodup)(hc:X.calm=true)(hclos:closureFor scope X.env=pure (ZbP scope X.env):=by rfl)(hchk:QR X.N X.env.scope scope x=true:=by rfl)(hs:∀x,foldedSetIterable iter X.env x=pure x:=by exact fun _=>rfl) :
  PE X (.ListComp elt [⟨.Name x px,iter,[],0⟩] scope pos) (Zgy wi te):=by
 intro pins s σ H Q I h
 have sc:=VM.of hchk
 rw[eval_ListComp]
 refine wpAny_comprehension_free (use:=none) rfl hs hclos sc.kind sc.locs (thn (hi pins s σ H _ I h) fun xv s₁ h₁=>thn h₁ fun itv s₂ h₂=>?_)
 obtain⟨it,fp,tn,J,H2,e,I2,T,st2,f2,q⟩:=h₂
 subst e
 refine ZdC (RR:=fun acc C=>compPost (model X.prog X.w) X.A X.xe none (EP X pins σ Q) acc C) I2 sc hNd hc T st2 f2 q he ?_
 intro D C s' H' m' hC I' hn hC0 hq
 refine⟨m',hn,fun h'' hs''=>⟨.ref D,H', ?_,rfl,hq⟩⟩
 refine I'.turned (t':=s'.toks) (it:=C) (fun b o hb e=>(hs''.2 b hb).trans e) hC0 (Zur (Ztm I2.lt hC)) (.inr (Zt7 I2.sz hC)) (fun y c e z=>?_) fun p hp z=>?_
 ·obtain⟨v,o,ho,hd⟩:=I2.cell y c e
  exact absurd (Heap.lt_size ho) (ZuB.mpr (by rw[z];exact hC))
 ·exact absurd (Heap.lt_size (I2.pin p hp).1) (ZuB.mpr (by rw[z];exact hC))
noncomputable def ZcK(i:Nat)(wi:TI)(te:TE):TS:=fun D σ H=>Zgy wi te σ H fun v H'=>D.nx (σ.set i (some v)) H'
theorem ZdV{i:Nat}{y:Str}{py spos:Pos}{wi:TI}(hN:X.N.Nodup)(hi:X.N[i]?=some y)(hit:PI X (.Name x px) iter wi)(he:∀C s₂ H₂ ex,PE (blk X scope x C ex s₂ H₂) elt te)(hc:X.calm=true)(hsw:swapsWith (.ListComp elt [⟨.Name x px,iter,[],0⟩] scope pos) (some (.Name y py)) spos.line X.env=pure true:=by rfl)(hy:X.env.scope.names.lookup y=some .local:=by rfl)(hclos:closureFor scope X.env=pure (ZbP scope X.env):=by rfl)(hchk:QR X.N X.env.scope scope x=true:=by rfl)(hs:∀x,foldedSetIterable iter X.env x=pure x:=by exact fun _=>rfl) :
  PS X (.Assign [.Name y py] (.ListComp elt [⟨.Name x px,iter,[],0⟩] scope pos) spos) (ZcK i wi te):=by
 intro pins s σ H D0 I h
 have sc:=VM.of hchk
 rw[exec_Assign_Name_used _ _ _ _ hsw]
 refine wpAny_bind (wpAny_standAt (wpAny_bind ?_))
 show wpAny _ X.A (do let _ <- comprehension (.ListComp elt [⟨.Name x px,iter,[],0⟩] scope pos) scope X.env _ (newList []) false (eval iter X.env) (some (assign (.Name y py) X.env))) _ _ s
 refine wpAny_bind (wpAny_mono (wpAny_comprehension_free (use:=some (assign (.Name y py) X.env)) (Q:=fun _ s'=>SP X pins D0 .next s') rfl hs hclos sc.kind sc.locs
  (thn (hit pins s σ H _ I h) fun xv s₁ h₁=>thn h₁ fun itv s₂ h₂=>?_)) (fun _ s' hq=>wpAny_pure (wpAny_pure hq)) fun _ _ e=>e)
 obtain⟨it,fp,tn,J,H2,e,I2,T,st2,f2,q⟩:=h₂
 subst e
 refine ZdC (RR:=fun acc C=>compPost (model X.prog X.w) X.A X.xe (some (assign (.Name y py) X.env)) (fun _ s'=>SP X pins D0 .next s') acc C) I2 sc hN hc T st2 f2 q he ?_
 intro D C s' H' m' hC I' hn hC0 hq
 show wpAny _ X.A (assign (.Name y py) X.env (.ref D)) _ _ _
 have cellC:∀y c,X.env.cells.lookup y=some c->c≠C:=fun y c e z=>by
  obtain⟨v,o,ho,hd⟩:=I2.cell y c e
  exact absurd (Heap.lt_size ho) (ZuB.mpr (by rw[z];exact hC))
 have locC:C≠X.env.locals:=Zur (Ztm I2.lt hC)
 refine wpAny_assign_Name (Qr (i:=i) (v:=.ref D) I' hN hi (.inl hy) rfl (fun s'' I'' ⟨a,hsa,ha⟩=>?_) (.inr hy))
 have hCa:C≠a:=by
  rcases ha with z|z
  ·rw[z];exact locC
  ·exact(cellC _ _ z).symm
 refine⟨m',hn.sameBut hsa hCa,fun h'' hs''=>⟨σ.set i (some (.ref D)),H', ?_,hq⟩⟩
 refine I''.turned (t':=s''.toks) (it:=C) (fun b o hb e=>(hs''.2 b hb).trans e) hC0 locC (.inr (Zt7 I2.sz hC)) cellC fun p hp z=>?_
 exact absurd (Heap.lt_size (I2.pin p hp).1) (ZuB.mpr (by rw[z];exact hC))
end
end L2
namespace HL
open PySem PyProof.Rows
section
open PySem.SeqAt
open PySem.AutoSeq1 (wpAny_loadPart')
open PySem.MeetsSeq PySem.MeetsSeq2 PySem.MeetsSeq3 SeqRoads2
theorem Vr:∀{vs:List Value}{ns:List Int}{i:Nat} (_:IntsAre vs ns) (h1:i<vs.length) (h2:i<ns.length),∃t,vs[i]=Value.int ns[i] t
 |_,_,0,.cons n t _,_,_=>⟨t,rfl⟩
 |_,_,i+1,.cons n t h,h1,h2=>by
  obtain⟨u,e⟩:=Vr (i:=i) h (by simpa using h1) (by simpa using h2)
  exact⟨u,by simpa using e⟩
theorem ZiG(l b:Addr)(items items2:Array Value)(n n2:Nat)(dd dd2:Option Addr)(sl sl2:Array (Option Value))(ns ms:List Int)(hi:IntsAre items.toList ns)(hj:IntsAre items2.toList ms)(k:Nat) :
  ∀i:Nat,min items.size items2.size-i=k->i<=min items.size items2.size->Meets (Builtin.«list.__eq__.loop» ⟨[.ref l,.ref b,rawInt i,rawInt 0],[]⟩)
   (fun A R s=>s.heap.get? l=some { cls:=.type "list",dict:=dd,data:=.seq items n,slots:=sl }/\s.heap.get? b=some { cls:=.type "list",dict:=dd2,data:=.seq items2 n2,slots:=sl2 } /\
    R (.ok (.ret (.bool (HT.ZZ (ns.drop i) (ms.drop i))))) s):=by
 have z1:items.size=ns.length:=by rw[<- hi.length];simp
 have z2:items2.size=ms.length:=by rw[<- hj.length];simp
 induction k with
 |zero =>
  intro i hk hle prog w A R s h
  obtain⟨hp,g,d,tk,os⟩:=s;obtain⟨hl,hb,h⟩:=h
  have hmin:min items.size items2.size=i:=by lia
  have fin:HT.ZZ (ns.drop i) (ms.drop i)=decide (items.size<items2.size):=by
   rw[z1,z2] at hmin ⊢
   by_cases h1:ns.length<=i
   ·rw[Zup h1]
    by_cases h2:ms.length<=i
    ·rw[Zup h2,HT.ZaK]
     exact(decide_eq_false (by lia)).symm
    ·rw[Ztv (by lia),HT.Zad]
     exact(decide_eq_true (by lia)).symm
   ·rw[Ztv (by lia),Zup (l:=ms) (by lia),HT.Zae]
    exact(decide_eq_false (by lia)).symm
  rw[fin] at h
  wp_walk using wpAny_loadPart' hl,wpAny_loadPart' hb
  by_cases h1:items.size<=i
  ·have hi1:items[((i:Nat):Int).toNat]?=none:=by simp;lia
   rw[hi1]
   cases h2:items2[((i:Nat):Int).toNat]? <;>
   ·wp_walk using wpAny_loadPart' hl,wpAny_loadPart' hb
    exact h
  ·have hi1:items[((i:Nat):Int).toNat]?=some (items[i]'(by lia)):=by simp
   have hi2:items2[((i:Nat):Int).toNat]?=none:=by simp;lia
   rw[hi1,hi2]
   wp_walk using wpAny_loadPart' hl,wpAny_loadPart' hb
   exact h
 |succ k ih =>
  intro i hk hle prog w A R s h
  obtain⟨hp,g,d,tk,os⟩:=s;obtain⟨hl,hb,h⟩:=h
  wp_walk using wpAny_loadPart' hl,wpAny_loadPart' hb
  have hlt:i<items.size:=by lia
  have hlt2:i<items2.size:=by lia
  have hn1:i<ns.length:=by lia
  have hn2:i<ms.length:=by lia
  have hi1:items[((i:Nat):Int).toNat]?=some items[i]:=by simp[hlt]
  have hi2:items2[((i:Nat):Int).toNat]?=some items2[i]:=by simp[hlt2]
  have hc:((i:Int)+1)=((i+1:Nat):Int):=by push_cast;rfl
  obtain⟨t,e1⟩:∃t,items[i]=Value.int ns[i] t:=by
   obtain⟨t,e⟩:=Vr hi (i:=i) (by simpa using hlt) hn1
   exact⟨t,by simpa using e⟩
  obtain⟨u,e2⟩:∃t,items2[i]=Value.int ms[i] t:=by
   obtain⟨t,e⟩:=Vr hj (i:=i) (by simpa using hlt2) hn2
   exact⟨t,by simpa using e⟩
  rw[Ztv hn1,Ztv hn2,HT.Vh] at h
  rw[hi1,hi2,e1,e2]
  obtain⟨e,he,hiff⟩:=HT.Zd1 A.in1 ⟨hp,g,d,tk,os⟩ ns[i] t ms[i] u
  refine wpAny_bind (he prog w _ _ ?_)
  cases e with
  |true =>
   rw[if_pos (hiff.mp rfl)] at h
   wp_walk
   rw[hc]
   exact⟨plainId_quiet plain_eq_loop _,codeAny_builtin entry_eq_loop (by
    rw[Around.under_plainId plain_eq_loop _]
    exact ih (i+1) (by lia) (by lia) prog w A R _ ⟨hl,hb,h⟩)⟩
  |false =>
   rw[if_neg (fun q=>absurd (hiff.mpr q) Bool.false_ne_true)] at h
   wp_walk using wpAny_loadPart' hl,wpAny_loadPart' hb
   rw[hi1,hi2,e1,e2]
   have hri:=HT.ZcS A.in1 ⟨hp,g,d,tk,os⟩ ns[i] t ms[i] u prog w
   wp_walk using hri
   exact h
theorem Zb2(l b:Addr)(items items2:Array Value)(n n2:Nat)(dd dd2:Option Addr)(sl sl2:Array (Option Value))(ns ms:List Int)(hi:IntsAre items.toList ns)(hj:IntsAre items2.toList ms) :
  Meets (Builtin.«list.__lt__» ⟨[.ref l,.ref b],[]⟩)
   (fun _ R s=>s.heap.get? l=some { cls:=.type "list",dict:=dd,data:=.seq items n,slots:=sl }/\s.heap.get? b=some { cls:=.type "list",dict:=dd2,data:=.seq items2 n2,slots:=sl2 } /\
    R (.ok (.ret (.bool (HT.ZZ ns ms)))) s):=by
 intro prog w A R s h
 obtain⟨hp,g,d,tk,os⟩:=s;obtain⟨hl,hb,h⟩:=h
 have f3:=AutoSeq1.sub_list_list
 wp_walk using wpAny_loadPart' hl,wpAny_loadPart' hb
 exact⟨plainId_quiet plain_eq_loop _,codeAny_builtin entry_eq_loop (by
  rw[Around.under_plainId plain_eq_loop _]
  exact ZiG l b items items2 n n2 dd dd2 sl sl2 ns ms hi hj _ 0 rfl (Zui _) prog w A R _ ⟨hl,hb,by simpa using h⟩)⟩
end
section
variable {prog:Program}{w:World}{A:Around}{E:Value->Shared->Prop}{s:Shared}
theorem ZdU{l b:Addr}{items items2:Array Value}{ns ms:List Int}{Q:Value->Shared->Prop}(hl:s.heap.IsList l items)(hb:s.heap.IsList b items2)(hi:IntsAre items.toList ns)(hj:IntsAre items2.toList ms)(hu:A.units<cLine)(h:Q (.bool (HT.ZZ ns ms)) s):wpAny (model prog w) A (richCompare .Lt (.ref l) (.ref b)) Q E s:=by
 obtain⟨⟨cls,dd,data,sl⟩,ho,hc,n,hd⟩:=id hl
 obtain⟨⟨cls2,dd2,data2,sl2⟩,ho2,hc2,n2,hd2⟩:=id hb
 simp only at hc hd hc2 hd2
 subst hc hd hc2 hd2
 exact richCompare_meets_room (op:=.Lt) ⟨_,ho,rfl⟩ ⟨_,ho2,rfl⟩ PySem.F.slot_list_lt PySem.F.entry_list_lt (PySem.F.args_list_lt_2 _ _) (Zb2 l b items items2 n n2 dd dd2 sl sl2 ns ms hi hj)
  ⟨ho,ho2,show Value.bool (HT.ZZ ns ms)≠Value.notImplemented/\Q (.bool (HT.ZZ ns ms)) s from ⟨(fun x=>nomatch x),h⟩⟩ hu
end
end HL
namespace L2
open PySem PySem.Spec PyProof.Rows
section
variable {X:Cx}
theorem Zbc{ns:List Int}{its:List Value}(r:Jr (ns.map V.int) its){j:Nat}(h:j<its.length):∃t,its[j]=Value.int (ns.getD j 0) t:=by
 have hl:=r.length
 rw[Ztp] at hl
 obtain⟨t,e⟩:=HL.Vr (Vi r) h (by lia)
 exact⟨t,by rw[e,Ztf,Zth (by lia)];rfl⟩
theorem Zej{A:Around}{s:Shared}{ns ms:List Int}{its its2:List Value}(r:Jr (ns.map V.int) its)(r2:Jr (ms.map V.int) its2)(j:Nat)(h1:j<its.toArray.size)(h2:j<its2.toArray.size) :
  SeqAt.EqAt A s its.toArray[j] its2.toArray[j] (ns.getD j 0==ms.getD j 0):=by
 obtain⟨t,e⟩:=Zbc r (j:=j) (by simpa using h1)
 obtain⟨u,e2⟩:=Zbc r2 (j:=j) (by simpa using h2)
 have a1:its.toArray[j]=Value.int (ns.getD j 0) t:=by simpa using e
 have a2:its2.toArray[j]=Value.int (ms.getD j 0) u:=by simpa using e2
 rw[a1,a2]
 exact SeqAt.EqAt.int_int _ t _ u
theorem Zc9:∀{ns ms:List Int},ns.length=ms.length->((List.range ns.length).all fun j=>ns.getD j 0==ms.getD j 0)=decide (ns=ms):=by
 intro ns ms hl
 rw[Bool.eq_iff_iff,ZtF,decide_eq_true_iff]
 constructor
 ·intro h
  apply List.ext_getElem hl
  intro i h1 h2
  have:=beq_iff_eq.mp (h i (Ztu.mpr h1))
  rw[Ztf,Ztf,Zth h1,Zth h2] at this
  exact this
 ·intro h i _
  rw[h];simp
theorem Zcx{s:Shared}{a b:Addr}{ns ms:List Int}{its its2:List Value}{A:Around}(hu:A.units<cLine)(p1:s.heap.IsList a its.toArray)(p2:s.heap.IsList b its2.toArray)(r1:Jr (ns.map V.int) its)(r2:Jr (ms.map V.int) its2) :
  SeqAt.RcAt A s (.ref a) (.ref b) (decide (ns=ms)):=by
 have l1:=r1.length
 have l2:=r2.length
 rw[Ztp] at l1 l2
 by_cases hl:ns.length=ms.length
 ·have:=SeqAt.RcAt.lists (A:=A) p1 p2 (by simp;lia) hu (fun j h1 h2=>Zej (A:=A.in1) (s:=s) r1 r2 j h1 h2)
  rw[Ztr,<- l1,Zc9 hl] at this
  exact this
 ·have:=SeqAt.RcAt.lists_lengths (A:=A) p1 p2 (by simp;lia) hu
  rw[show decide (ns=ms)=false from decide_eq_false (fun e=>hl (by rw[e]))]
  exact this
theorem Zbs{l:Addr}{i:Int}{its:List Value}(r:Jr [V.ref l,V.int i] its):∃t,its=[Value.ref l,Value.int i t]:=by
 obtain⟨u,w',rfl,r1,t,rfl⟩:=Zgt r
 cases r1
 exact⟨t,rfl⟩
theorem Zho(hc:X.calm=true):Vy X (.builtin "sum") (fun xs H Q=>∃p,∃ns:List Int,xs=[.ref p]/\SqL X.K H p (ns.map V.int)/\Q (.int ns.sum) H):=by
 intro pins s σ H xs us Q I r h
 obtain⟨p,ns,rfl,hq,q⟩:=h
 obtain⟨u,rfl,rx⟩:=Za0 r
 cases rx
 obtain⟨its,r',pl,hz⟩:=I.list hq
 have hi:IntsAre its ns:=Vi r'
 obtain⟨xs,hx⟩:=hi.allInts.items
 have hl':s.heap.IsList p (intItems xs):=hx▸pl.isList
 refine sum_intListG (I.ok.hd hc) hl' fun h' tk t' hk=>?_
 have e1:ns=xs.toList.map (·.1):=by
  rw[<- nums_intItems,<- hx]
  exact(show numsOf its.toArray.toList=ns from hi.numsOf).symm
 have e2:preSum (numAt xs) xs.size=ns.sum:=by
  rw[preSum_eq,List.take_of_length_le (by simp),e1]
 rw[e2]
 exact⟨.int ns.sum,H,I.kept hk,⟨_,rfl⟩,q⟩
theorem QX:∀{bs:List Bool}{us:List Value},Jr (bs.map V.bl) us->LSm.BoolsAre us bs
 |[],_,.nil=>.nil
 |b::bs,_,.cons r t=>by
  cases r
  exact .cons b (QX t)
theorem Zhp(hc:X.calm=true):Vy X (.builtin "all") (fun xs H Q=>∃p,∃bs:List Bool,xs=[.ref p]/\SqL X.K H p (bs.map V.bl)/\Q (.bl (bs.all id)) H):=by
 intro pins s σ H xs us Q I r h
 obtain⟨p,bs,rfl,hq,q⟩:=h
 obtain⟨u,rfl,rx⟩:=Za0 r
 cases rx
 obtain⟨its,r',pl,hz⟩:=I.list hq
 have hb:=QX r'
 have hlt:p<s.heap.objs.size:=by obtain⟨_,e,_⟩:=pl.isList;exact Heap.lt_size e
 refine call_all_walk (wpAny_pyIter_list pl.isList ?_)
 refine⟨s.heap.objs.size,[s.heap.objs.size,p],[s.heap.objs.size],its.toArray.size,_,_,fun i=>(bs[i]?).getD true,rfl,Walks.list (A:=X.A.in1) (I.ok.hd hc) _ p (Zt1 hlt) its.toArray,
  ⟨⟨_,Heap.get?_push_size _ rfl,rfl,rfl⟩,pl.isList.push _⟩,fun i v s' Q' E' hP hQ=>?_,fun h' tk hk=>?_⟩
 ·obtain⟨b,e,rfl⟩:=hb.get i v (by simpa using hP)
  dsimp only at hQ
  rw[e,Zuc] at hQ
  exact wpAny_truthy_bool hQ
 ·rw[Ztr,hb.length,LSm.range_all]
  exact⟨.bl (bs.all id),H,I.kept (LSm.kept_iter hk),rfl,q⟩
end
end L2
namespace HL
open PySem PyProof.Rows
section
end
section
open PySem.SeqAt
open PySem.AutoSeq1 (wpAny_loadPart')
open PySem.MeetsSeq PySem.MeetsSeq2 PySem.MeetsSeq3
theorem Zi4(l b a1 a2:Addr)(i j:Int)(t u:Tok)(n n2:Nat)(dd dd2:Option Addr)(sl sl2:Array (Option Value))(e c:Bool) :
  Meets (Builtin.«tuple.__lt__» ⟨[.ref l,.ref b],[]⟩)
   (fun A R s=>s.heap.get? l=some { cls:=.type "tuple",dict:=dd,data:=.seq #[.ref a1,.int i t] n,slots:=sl }/\s.heap.get? b=some { cls:=.type "tuple",dict:=dd2,data:=.seq #[.ref a2,.int j u] n2,slots:=sl2 } /\
    EqAt A.in1 s (.ref a1) (.ref a2) e/\(∀(prog:Program) (w:World) (E:Value->Shared->Prop) (Q:Value->Shared->Prop),Q (.bool c) s->wpAny (model prog w) A.in1 (richCompare .Lt (.ref a1) (.ref a2)) Q E s) /\
    R (.ok (.ret (.bool (if e=true then decide (i<j) else c)))) s):=
 .of_wp fun prog w A R s h=>by
  obtain⟨hp,g,d,tk,os⟩:=s;obtain⟨hl,hb,he,hc,h⟩:=h
  have f2:=AutoSeq1.sub_tuple_tuple
  wp_walk using wpAny_loadPart' hl,wpAny_loadPart' hb,wpAny_forIn_list _ (fun JY b s'=>b.1=none/\s'=⟨hp,g,d,tk,os⟩ /\
   ((JY=[(Value.ref a1,Value.ref a2),(Value.int i t,Value.int j u)])\/(e=true/\JY=[(Value.int i t,Value.int j u)])\/(e=true/\i=j/\JY=[]))) _
  case turn =>
   rintro⟨y,x⟩ JY b s' ⟨hb',rfl,h1|⟨h0,h1⟩|⟨_,_,h1⟩⟩
   ·injection h1 with hyx hrest
    injection hyx with hy hx
    subst hy hx
    refine wpAny_bind (he prog w _ _ ?_)
    cases e with
    |true =>
     wp_walk
     exact⟨rfl,rfl,.inr (.inl ⟨rfl,hrest⟩)⟩
    |false =>
     have hri:=hc prog w
     wp_walk using hri
     exact⟨_,rfl,by simpa using h⟩
   ·injection h1 with hyx hrest
    injection hyx with hy hx
    subst hy hx
    rw[if_pos h0] at h
    obtain⟨e',he',hiff⟩:=HT.Zd1 A.in1 ⟨hp,g,d,tk,os⟩ i t j u
    refine wpAny_bind (he' prog w _ _ ?_)
    cases e' with
    |true =>
     wp_walk
     exact⟨rfl,rfl,.inr (.inr ⟨h0,hiff.mp rfl,hrest⟩)⟩
    |false =>
     have hri:=HT.ZcS A.in1 ⟨hp,g,d,tk,os⟩ i t j u prog w
     wp_walk using hri
     exact⟨_,rfl,by simpa using h⟩
   ·cases h1
  case fin =>
   rintro⟨b1,b2⟩ s' ⟨hb',rfl,h1|⟨h0,h1⟩|⟨h0,hij,h1⟩⟩
   ·cases h1
   ·cases h1
   ·simp only at hb'
    subst hb'
    rw[if_pos h0] at h
    wp_walk
    exact⟨_,rfl,by simpa[Builtin.Tuple.tupleCompareSizes,hij] using h⟩
  case h =>
   exact⟨rfl,rfl,.inl rfl⟩
end
end HL
namespace HL
open PySem
theorem VB:∀a:List Int,HT.ZZ a a=false
 |[]=>rfl
 |x::xs=>by rw[HT.Vh,if_pos rfl];exact VB xs
theorem QB:∀{a b c:List Int},HT.ZZ a b=true->HT.ZZ b c=true->HT.ZZ a c=true
 |[],[],_,h,_=>by simp[HT.ZZ] at h
 |[],_::_,[],_,h=>by simp[HT.ZZ] at h
 |[],_::_,_::_,_,_=>rfl
 |_::_,[],_,h,_=>by simp[HT.ZZ] at h
 |_::_,_::_,[],_,h=>by simp[HT.ZZ] at h
 |x::xs,y::ys,z::zs,h1,h2=>by
  rw[HT.Vh] at h1 h2 ⊢
  by_cases e1:x=y
  ·rw[if_pos e1] at h1
   subst e1
   by_cases e2:x=z
   ·rw[if_pos e2] at h2 ⊢
    exact QB h1 h2
   ·rw[if_neg e2] at h2 ⊢
    exact h2
  ·rw[if_neg e1] at h1
   have h1':=of_decide_eq_true h1
   by_cases e2:y=z
   ·subst e2
    rw[if_neg e1]
    exact h1
   ·rw[if_neg e2] at h2
    have h2':=of_decide_eq_true h2
    rw[if_neg (by lia)]
    exact decide_eq_true (by lia)
theorem QC:∀{a b:List Int},HT.ZZ a b=false->HT.ZZ b a=false->a=b
 |[],[],_,_=>rfl
 |[],_::_,h,_=>by simp[HT.ZZ] at h
 |_::_,[],_,h=>by simp[HT.ZZ] at h
 |x::xs,y::ys,h1,h2=>by
  rw[HT.Vh] at h1 h2
  by_cases e:x=y
  ·subst e
   rw[if_pos rfl] at h1 h2
   rw[QC h1 h2]
  ·rw[if_neg e] at h1
   rw[if_neg (Ne.symm e)] at h2
   have:=of_decide_eq_false h1
   have:=of_decide_eq_false h2
   lia
noncomputable def Jg(a b:List Int×Int):Bool:=if a.1=b.1 then decide (a.2<b.2) else HT.ZZ a.1 b.1
theorem Vn(a:List Int×Int):Jg a a=false:=by unfold Jg;rw[if_pos rfl];exact decide_eq_false (by lia)
theorem Zbr{a b c:List Int×Int}(h1:Jg a b=true)(h2:Jg b c=true):Jg a c=true:=by
 unfold Jg at *
 by_cases e1:a.1=b.1
 ·rw[if_pos e1] at h1
  rw[e1]
  by_cases e2:b.1=c.1
  ·rw[if_pos e2] at h2 ⊢
   have:=of_decide_eq_true h1
   have:=of_decide_eq_true h2
   exact decide_eq_true (by lia)
  ·rw[if_neg e2] at h2 ⊢
   exact h2
 ·rw[if_neg e1] at h1
  by_cases e2:b.1=c.1
  ·rw[if_pos e2] at h2
   rw[<- e2,if_neg e1]
   exact h1
  ·rw[if_neg e2] at h2
   have h3:=QB h1 h2
   by_cases e3:a.1=c.1
   ·rw[e3,VB] at h3;cases h3
   ·rw[if_neg e3];exact h3
end HL
namespace L2
open PySem PySem.Spec PyProof.Rows
section
variable {X:Cx}
theorem ZfY(hc:X.calm=true):Vy X (.builtin "min") (fun xs H Q=>∃p,∃ns:List Int,xs=[.ref p]/\SqL X.K H p (ns.map V.int)/\0<ns.length/\∀m,m∈ns->(∀a∈ns,m<=a)->Q (.int m) H):=by
 intro pins s σ H xs us Q I r h
 obtain⟨p,ns,rfl,hq,hne,q⟩:=h
 obtain⟨u,rfl,rx⟩:=Za0 r
 cases rx
 obtain⟨its,r',pl,hz⟩:=I.list hq
 have hi:IntsAre its ns:=Vi r'
 obtain⟨zs,e⟩:=hi.allInts.items
 have hns:ns=zs.toList.map (·.1):=by rw[<- hi.numsOf,<- nums_intItems,<- e]
 have hsz:0<zs.size:=by
  have h3:=hne
  rw[hns,Ztp,ZtO] at h3
  exact h3
 have hl:=pl.isList
 rw[e] at hl
 refine min_intList (I.ok.hd hc) hl hsz fun v h' tk hv hk=>?_
 obtain⟨t,rfl⟩:=intItems_at hv
 obtain⟨h1,h2⟩:=argBest_lt (numAt zs) (zs.size-1)
 refine⟨.int _,H,I.kept hk,⟨_,rfl⟩,q _ ?_ fun a ha=>?_⟩
 ·rw[hns,numAt_eq];exact getD_mem (by rw[Ztp,ZtO];lia)
 ·rw[hns] at ha
  obtain⟨j,hj,rfl⟩:=mem_getD ha
  rw[Ztp,ZtO] at hj
  rw[<- numAt_eq];exact h2 j (by lia)
theorem ZgY{ns ms:List Int}(e:ns.map V.int=ms.map V.int):ns=ms:=by
 have:=congrArg (List.map fun v=>match v with|V.int i=>i|_=>0) e
 simpa[Zut,Function.comp_def] using this
def ZjG(K:W.Frag):List V->Hp->VK->Prop:=fun xs H Q=>∃p,∃ns:List Int,xs=[.ref p]/\SqL K H p (ns.map V.int)/\0<ns.length/\∀m,m∈ns->(∀a∈ns,m<=a)->Q (.int m) H
end
def Dfn(K:W.Frag)(mg:Str->Option Value)(x:Str)(st:Stmt):Prop:=∃f fd,Fun K x x st f fd/\mg x=some (.ref f)
noncomputable abbrev Zw(x:Str)(st:Stmt)(ps:List Str):Prop:=∀(kV doc pm:Value) (an:Option Addr) (cdv ct:Value) (us:List Value),us.length=ps.length ->
 bindArgs (PySem.W.fnOf x x (Zv st) (Zq st) (Zf st) .none kV doc pm an cdv ct) ⟨us,[]⟩=pure (ps.zip us)
def Ok(P:Program)(w:World)(K:W.Frag)(mg:Str->Option Value)(base:Heap)(k:Nat)(x:Str)(ps:List Str)(sp:Sp):Prop:=
 ∃f fd,J8 P w K mg base CX0 k f fd ps sp/\mg x=some (.ref f)/\PySem.W.keepIn K (.ref f)=true/\Zba K fd ps []
theorem Vc{P:Program}{w:World}{K:W.Frag}{mg:Str->Option Value}{base:Heap}{k:Nat}{x:Str}{st:Stmt}{ps:List Str}{sp:Sp}(d:Dfn K mg x st)(b:Zw x st ps)(h:∀{f fd},Fun K x x st f fd->J8 P w K mg base CX0 k f fd ps sp):Ok P w K mg base k x ps sp:=by
 obtain⟨f,fd,F,hm⟩:=d
 exact⟨f,fd,h F,hm,F.kp,F.binds b⟩
section
variable {X:Cx}{k:Nat}{x:Str}{ps:List Str}{sp:Sp}{p pos:Pos}{e:Expr}{es:List Expr}{t:TA}
noncomputable def Qp(sp:Sp)(t:TA):TE:=fun σ H Q=>t σ H fun vs H1=>sp vs H1 Q E0
theorem Zn(G:Ok X.prog X.w X.K X.mg X.base k x ps sp)(hr:UR k X.A)(hg:Gl X x)(ha:PA X (e::es) t)(hdb:(x==("__debug__":Str))=false:=by decide)(he:starEach (e::es) X.env=(false,eval e X.env)::starEach es X.env:=by rfl)(hpl:(backTo pos (starEach es X.env)).any (·.1)=false:=by rfl):PE X (.Call (.Name x p) (e::es) [] pos) (Qp sp t):=by
 obtain⟨f,fd,F,hm,hk,hb⟩:=G
 intro pins s σ H Q I h
 refine Zi1 (CX:=CX0) (E:=E0) (dvs:=[]) F hr hg hm hk hb .nil Zi3 ha hdb he hpl pins s σ H Q I ?_
 have e:(fun vs H1=>sp (vs++[]) H1 Q E0)=fun vs H1=>sp vs H1 Q E0:=by funext vs H1;rw[ZtG]
 show t σ H (fun vs H1=>sp (vs++[]) H1 Q E0)
 rw[e]
 exact h
theorem Q1(G:Ok X.prog X.w X.K X.mg X.base k x ps sp)(hr:UR k X.A)(hg:Gl X x)(hdb:(x==("__debug__":Str))=false:=by decide):PE X (.Call (.Name x p) [] [] pos) (Qp sp ZbT):=by
 obtain⟨f,fd,F,hm,hk,hb⟩:=G
 exact Zg8 (CX:=CX0) (E:=E0) (dvs:=[]) F hr hg hm hk hb .nil Zi3 hdb
theorem JJ{i:Int}(hm:∃t,X.mg x=some (.int i t))(hg:Gl X x)(hd:(x==("__debug__":Str))=false:=by decide):PE X (.Name x pos) (tC (.int i)):=by
 obtain⟨t,hm⟩:=hm
 exact Q0 (v:=.int i) hg hm ⟨t,rfl⟩ hd
theorem Zhd:ZlE X (ZjI X.K):=by
 intro pins s σ H o i ov iv Q I ro ri h
 obtain⟨p,xs,i,z,rfl,rfl,hq,he,q⟩:=h
 cases ro
 obtain⟨t,rfl⟩:=ri
 obtain⟨its,r,pl,hz⟩:=I.list hq
 obtain⟨j,h1,h2,h3,h4,h5⟩:=ZaY he
 obtain⟨w,ew,rw'⟩:=r.get h2
 have hl:=r.length
 have hn:=Zap
 have fin:EP X pins σ Q w s:=⟨z,H,I,rw',q⟩
 by_cases h0:0<=i
 ·have hj:i.toNat=j:=by
   rw[seqIndex_of h0 h5] at h1
   exact Option.some.inj h1
  exact wpAny_getItem_list pl.isList h0 (by lia) (by rw[hj];simpa using ew) fin
 ·have hj:(i+(its.toArray.size:Int)).toNat=j:=by
   rw[seqIndex_neg (by lia) h4] at h1
   rw[Ztr,<- hl]
   exact Option.some.inj h1
  exact wpAny_getItem_list_neg pl.isList (by lia) (by rw[Ztr]<;>lia) (by lia) (by rw[hj];simpa using ew) fin
end
theorem Zga{X:Cx}:Vy X (.builtin "len") (fun xs H Q=>∃p ys,xs=[.ref p]/\(SqL X.K H p ys\/SqT X.K H p ys)/\Q (.int ys.length) H):=ZbI
theorem Jq:bootBuiltins "len"=some (.builtin "len"):=by decide +kernel
theorem Z4:bootBuiltins "isinstance"=some (.builtin "isinstance"):=by decide +kernel
theorem Zgk:bootBuiltins "sum"=some (.builtin "sum"):=by decide +kernel
theorem ZkE:bootBuiltins "all"=some (.builtin "all"):=by decide +kernel
theorem ZkD:bootBuiltins "min"=some (.builtin "min"):=by decide +kernel
theorem J7:bootBuiltins "list"=some (.type "list"):=by decide +kernel
theorem Zge:bootBuiltins "int"=some (.type "int"):=by decide +kernel
theorem Zgf:bootBuiltins "bool"=some (.type "bool"):=by decide +kernel
theorem ZdH:bootBuiltins "tuple"=some (.type "tuple"):=by decide +kernel
section
variable {X:Cx}{K:W.Frag}
theorem Zr(e:X.K=K:=by rfl):IxR X (rIx K):=by subst e;exact Zkm
theorem ZH(e:X.K=K:=by rfl):Vy X (.builtin "len") (fun xs H Q=>∃p ys,xs=[.ref p]/\(SqL K H p ys\/SqT K H p ys)/\Q (.int ys.length) H):=by subst e;exact Zga
theorem QU(hc:X.calm=true)(e:X.K=K:=by rfl):Vy X (.builtin "sum") (fun xs H Q=>∃p,∃ns:List Int,xs=[.ref p]/\SqL K H p (ns.map V.int)/\Q (.int ns.sum) H):=by subst e;exact Zho hc
theorem Zgc(hc:X.calm=true)(e:X.K=K:=by rfl):Vy X (.builtin "all") (fun xs H Q=>∃p,∃bs:List Bool,xs=[.ref p]/\SqL K H p (bs.map V.bl)/\Q (.bl (bs.all id)) H):=by subst e;exact Zhp hc
theorem Je(e:X.K=K:=by rfl):Vy X (.type "list") (fun xs H Q=>∃p ys,xs=[.ref p]/\(SqL K H p ys\/SqT K H p ys)/\∀l,H l=none->Q (.ref l) (upd H l (.lst ys))):=by subst e;exact ZbH
theorem Zb8(e:X.K=K:=by rfl):ZlE X (ZjI K):=by subst e;exact Zhd
theorem U4{tg l:Expr}{tl:TE}(hl:PE X l tl)(e:X.K=K:=by rfl):PI X tg l (ZgZ K tl):=by subst e;exact Ziz hl
variable {u:TS}{H:Hp}{b:TA}
theorem Zdq{n:Nat}{k:Int}(h0:0<=k)(h1:k<n):ixN n k=some k.toNat:=by unfold ixN;rw[if_pos h0,if_pos h1]
theorem Z5.upd{H H':Hp}{p:Addr}{o:HO}(h:Z5 H H')(hp:H p=none):Z5 H (upd H' p o):=fun b u e=>by
 rw[Z1 (ZG e hp)]
 exact h b u e
theorem Z5.new{H:Hp}{p:Addr}{o:HO}(hp:H p=none):Z5 H (L2.upd H p o):=Z5.upd (Z5.refl H) hp
theorem ZaJ{n:Nat}(h:n<=1000):n<=sizeLine:=Zt7 h (by decide)
end
inductive Sh where
 |dk (ks:List Key)|dt (ks:List (List Key))|ob (n:Str) (fs:List Str)
  |jk
  |ls
  |dn (ks:List (List Int×Int))
inductive PV where
 |non|bl (b:Bool)|int (i:Int)|str (x:Str)|lst (xs:List PV)|tup (xs:List PV)
  |exc (n:Str)
  |exa (n:Str) (i:Int)
  |box (p:Option Addr) (s:Sh) (xs:List PV)
  |fz (xs:List PV)
mutual
noncomputable def PV.flat:PV->Bool
 |.lst _=>false
 |.tup xs=>PV.flats xs
 |.non=>true
 |.bl _=>true
 |.int _=>true
 |.str _=>true
 |.exc _=>true
 |.exa _ _=>true
 |.box _ _ _=>false
 |.fz xs=>PV.flats xs
noncomputable def PV.flats:List PV->Bool
 |[]=>true
 |x::xs=>x.flat&&PV.flats xs
end
def KL(K:W.Frag)(a:Addr)(xs:List V):Prop:=
 ∃(o:Obj) (its:Array Value) (n:Nat),K.lookup a=some o/\o.cls=.type "list"/\o.dict=none/\o.data=.seq its n/\its.size<=sizeLine/\Jr xs its.toList
noncomputable def ImO:HO->Prop
 |.tup _=>True
 |.frz _ _=>True
 |.xd _=>True
 |_=>False
def Im(K:W.Frag)(H:Hp)(a:Addr)(u:HO):Prop:=H a=some u/\ImO u
noncomputable def Lvo:HO->Prop
 |.lst _=>True
 |.dK _=>True
 |.dT _=>True
 |.ins _ _ _=>True
 |.ext _=>True
 |_=>False
noncomputable abbrev LvO:={ u:HO // Lvo u }
def Zah(K:W.Frag)(n:Str)(C:Addr):Prop:=PySem.W.nsIn K mainGlobals n=some (some (.ref C))
def Zjs(K:W.Frag)(H:Hp)(n:Str)(v:V):Prop:=∃a o C,v=.ref a/\Im K H a (.frz o (.own a))/\o.cls=.ref C/\o.dict=none/\PySem.W.notCls o=true/\Zah K n C
def Zjt(K:W.Frag)(H:Hp)(n:Str)(i:Int)(v:V):Prop:=∃a o C d fs,v=.ref a/\Im K H a (.frz o (.own a))/\Im K H d (.xd fs)/\o.cls=.ref C/\o.dict=some d/\PySem.W.notCls o=true/\Zah K n C/\fs=[(("at":Str),V.int i)]
noncomputable def Zlz(k:List Int×Int):Int:=reduceHash (Builtin.Tuple.tupleHashOf [reduceHash (Builtin.Tuple.tupleHashOf (k.1.map hashInt)),hashInt k.2])
def DnP(a:Addr)(xs:List ((List Int×Int)×Addr))(h:Heap):Prop:=(a==sysModules)=false/\xs.length<=sizeLine /\
 ∃o es ep,h.get? a=some o/\o.ExactDict/\o.data=.dict es ep/\es.toList=xs.map (fun x=>⟨Zlz x.1,.ref x.2,.bool true⟩)/\(xs.map (·.1)).Nodup
noncomputable def DnO(a:Addr)(xs:List ((List Int×Int)×Addr)):HO:=.ext (DnP a xs)
noncomputable def ZkJ(K:W.Frag):Sh->List V->HO->Prop
 |.dk ks,vs,u=>ks.length=vs.length/\u=.dK (ks.zip vs)
 |.dt ks,vs,u=>ks.length=vs.length/\u=.dT (ks.zip vs)
 |.ob n fs,vs,u=>fs.length=vs.length/\∃C dx,u=.ins C dx (fs.zip vs)/\Zah K n C
 |.jk,vs,u=>vs=[]/\∃ws,u=.lst ws
 |.ls,vs,u=>u=.lst vs
 |.dn ks,vs,u=>∃(a:Addr) (bs:List Addr),vs=bs.map V.ref/\ks.length=bs.length/\u=DnO a (ks.zip bs)
def ZlC(p:Option Addr)(a:Addr):Prop:=match p with
 |none=>True
 |some b=>a=b
theorem ZkJ.lv{K:W.Frag}{s:Sh}{vs:List V}{u:HO}(h:ZkJ K s vs u):Lvo u:=by
 cases s with
 |dk ks=>obtain⟨_,rfl⟩:=h;trivial
 |dt ks=>obtain⟨_,rfl⟩:=h;trivial
 |ob n fs=>obtain⟨_,C,dx,rfl,_⟩:=h;trivial
 |jk=>obtain⟨_,ws,rfl⟩:=h;trivial
 |ls=>cases h;trivial
 |dn ks=>obtain⟨a,bs,_,_,rfl⟩:=h;trivial
theorem ZaI{u o:HO}(h:Lvo u)(h':ImO o):o≠u:=by
 intro e;subst e
 cases o<;>first|exact h|exact h'
def FzL(K:W.Frag)(H:Hp)(a:Addr)(vs:List V):Prop:=∃o,Im K H a (.frz o (.lst vs))
mutual
noncomputable def Rep(K:W.Frag)(H:Hp)(S:Addr->Prop):PV->V->Prop
 |.non,v=>v=.non
 |.bl b,v=>v=.bl b
 |.int i,v=>v=.int i
 |.str x,v=>v=.str x
 |.exc n,v=>Zjs K H n v
 |.exa n i,v=>Zjt K H n i v
 |.box p s xs,v=>∃a vs u,v=.ref a/\(Rd H a u/\S a)/\(ZlC p a/\ZkJ K s vs u)/\Reps K H S xs vs
 |.lst xs,v=>∃a vs,v=.ref a/\((Rd H a (.lst vs)/\S a)\/KL K a vs)/\Reps K H S xs vs
 |.tup xs,v=>∃a vs,v=.ref a/\Im K H a (.tup vs)/\Reps K H S xs vs
 |.fz xs,v=>∃a vs,v=.ref a/\FzL K H a vs/\Reps K H S xs vs
noncomputable def Reps(K:W.Frag)(H:Hp)(S:Addr->Prop):List PV->List V->Prop
 |[],vs=>vs=[]
 |x::xs,vs=>∃v r,vs=v::r/\Rep K H S x v/\Reps K H S xs r
end
mutual
noncomputable def Jf(K:W.Frag)(H:Hp):PV->V->List Addr->Prop
 |.non,v,F=>v=.non/\F=[]
 |.bl b,v,F=>v=.bl b/\F=[]
 |.int i,v,F=>v=.int i/\F=[]
 |.str x,v,F=>v=.str x/\F=[]
 |.exc n,v,F=>Zjs K H n v/\F=[]
 |.exa n i,v,F=>Zjt K H n i v/\F=[]
 |.box p s xs,v,F=>∃a vs u G,v=.ref a/\H a=some u/\(ZlC p a/\ZkJ K s vs u)/\Trees K H xs vs G/\a ∉ G/\F=a::G
 |.lst xs,v,F=>∃a vs G,v=.ref a/\H a=some (.lst vs)/\Trees K H xs vs G/\a ∉ G/\F=a::G
 |.tup xs,v,F=>∃a vs,v=.ref a/\Im K H a (.tup vs)/\Trees K H xs vs F
 |.fz xs,v,F=>∃a vs,v=.ref a/\FzL K H a vs/\Trees K H xs vs F
noncomputable def Trees(K:W.Frag)(H:Hp):List PV->List V->List Addr->Prop
 |[],vs,F=>vs=[]/\F=[]
 |x::xs,vs,F=>∃v r G1 G2,vs=v::r/\Jf K H x v G1/\Trees K H xs r G2/\(∀a∈G1,a ∉ G2)/\F=G1++G2
end
section
variable {K:W.Frag}{H H':Hp}{S S':Addr->Prop}
mutual
theorem Rep.mono(h1:∀a u,S a->Rd H a u->Rd H' a u/\S' a)(h2:∀a u,Im K H a u->Im K H' a u):∀{x:PV}{v:V},Rep K H S x v->Rep K H' S' x v
 |.non,_,h=>h
 |.bl _,_,h=>h
 |.int _,_,h=>h
 |.str _,_,h=>h
 |.exc n,_,h=>let ⟨a,o,C,e1,e2,e3⟩:=h;⟨a,o,C,e1,h2 a _ e2,e3⟩
 |.exa n i,_,h=>let ⟨a,o,C,d,fs,e1,e2,e2',e3⟩:=h;⟨a,o,C,d,fs,e1,h2 a _ e2,h2 d _ e2',e3⟩
 |.box p s xs,_,h=>by
  obtain⟨a,vs,u,rfl,⟨n1,n2⟩,hb,hr⟩:=h
  exact⟨a,vs,u,rfl,h1 a u n2 n1,hb,Reps.mono h1 h2 hr⟩
 |.lst xs,_,h=>by
  obtain⟨a,vs,rfl,hn,hr⟩:=h
  refine⟨a,vs,rfl, ?_,Reps.mono h1 h2 hr⟩
  rcases hn with ⟨n1,n2⟩|n
  ·exact .inl (h1 a _ n2 n1)
  ·exact .inr n
 |.tup xs,_,h=>by
  obtain⟨a,vs,rfl,hn,hr⟩:=h
  exact⟨a,vs,rfl,h2 a _ hn,Reps.mono h1 h2 hr⟩
 |.fz xs,_,h=>by
  obtain⟨a,vs,rfl,⟨o,hn⟩,hr⟩:=h
  exact⟨a,vs,rfl,⟨o,h2 a _ hn⟩,Reps.mono h1 h2 hr⟩
theorem Reps.mono(h1:∀a u,S a->Rd H a u->Rd H' a u/\S' a)(h2:∀a u,Im K H a u->Im K H' a u):∀{xs:List PV}{vs:List V},Reps K H S xs vs->Reps K H' S' xs vs
 |[],_,h=>h
 |x::xs,_,h=>by
  obtain⟨v,r,rfl,h3,h4⟩:=h
  exact⟨v,r,rfl,Rep.mono h1 h2 h3,Reps.mono h1 h2 h4⟩
end
mutual
theorem Jf.mono:∀{x:PV}{v:V}{F:List Addr},(∀a∈F,∀o,H a=some o->H' a=some o)->(∀a vs,Im K H a vs->Im K H' a vs)->Jf K H x v F->Jf K H' x v F
 |.non,_,_,_,_,h=>h
 |.bl _,_,_,_,_,h=>h
 |.int _,_,_,_,_,h=>h
 |.str _,_,_,_,_,h=>h
 |.exc n,_,_,_,h2,h=>let ⟨⟨a,o,C,e1,e2,e3⟩,e4⟩:=h;⟨⟨a,o,C,e1,h2 a _ e2,e3⟩,e4⟩
 |.exa n i,_,_,_,h2,h=>let ⟨⟨a,o,C,d,fs,e1,e2,e2',e3⟩,e4⟩:=h;⟨⟨a,o,C,d,fs,e1,h2 a _ e2,h2 d _ e2',e3⟩,e4⟩
 |.box p s xs,_,_,h1,h2,h=>by
  obtain⟨a,vs,u,G,rfl,ha,hb,ht,hn,rfl⟩:=h
  exact⟨a,vs,u,G,rfl,h1 a (by simp) _ ha,hb,Trees.mono (fun b hb o e=>h1 b (by simp[hb]) o e) h2 ht,hn,rfl⟩
 |.lst xs,_,_,h1,h2,h=>by
  obtain⟨a,vs,G,rfl,ha,ht,hn,rfl⟩:=h
  exact⟨a,vs,G,rfl,h1 a (by simp) _ ha,Trees.mono (fun b hb o e=>h1 b (by simp[hb]) o e) h2 ht,hn,rfl⟩
 |.tup xs,_,_,h1,h2,h=>by
  obtain⟨a,vs,rfl,ha,ht⟩:=h
  exact⟨a,vs,rfl,h2 a _ ha,Trees.mono h1 h2 ht⟩
 |.fz xs,_,_,h1,h2,h=>by
  obtain⟨a,vs,rfl,⟨o,ha⟩,ht⟩:=h
  exact⟨a,vs,rfl,⟨o,h2 a _ ha⟩,Trees.mono h1 h2 ht⟩
theorem Trees.mono:∀{xs:List PV}{vs:List V}{F:List Addr},(∀a∈F,∀o,H a=some o->H' a=some o)->(∀a vs,Im K H a vs->Im K H' a vs)->Trees K H xs vs F->Trees K H' xs vs F
 |[],_,_,_,_,h=>h
 |x::xs,_,_,h1,h2,h=>by
  obtain⟨v,r,G1,G2,rfl,h3,h4,hd,rfl⟩:=h
  exact⟨v,r,G1,G2,rfl,Jf.mono (fun b hb o e=>h1 b (by simp[hb]) o e) h2 h3,Trees.mono (fun b hb o e=>h1 b (by simp[hb]) o e) h2 h4,hd,rfl⟩
end
mutual
theorem Jf.rep:∀{x:PV}{v:V}{F:List Addr},(∀a∈F,S a)->Jf K H x v F->Rep K H S x v
 |.non,_,_,_,h=>h.1
 |.bl _,_,_,_,h=>h.1
 |.int _,_,_,_,h=>h.1
 |.str _,_,_,_,h=>h.1
 |.exc _,_,_,_,h=>h.1
 |.exa _ _,_,_,_,h=>h.1
 |.box p s xs,_,_,h1,h=>by
  obtain⟨a,vs,u,G,rfl,ha,hb,ht,hn,rfl⟩:=h
  exact⟨a,vs,u,rfl,⟨.inl ha,h1 a (by simp)⟩,hb,Trees.reps (fun b hb=>h1 b (by simp[hb])) ht⟩
 |.lst xs,_,_,h1,h=>by
  obtain⟨a,vs,G,rfl,ha,ht,hn,rfl⟩:=h
  exact⟨a,vs,rfl,.inl ⟨.inl ha,h1 a (by simp)⟩,Trees.reps (fun b hb=>h1 b (by simp[hb])) ht⟩
 |.tup xs,_,_,h1,h=>by
  obtain⟨a,vs,rfl,ha,ht⟩:=h
  exact⟨a,vs,rfl,ha,Trees.reps h1 ht⟩
 |.fz xs,_,_,h1,h=>by
  obtain⟨a,vs,rfl,ha,ht⟩:=h
  exact⟨a,vs,rfl,ha,Trees.reps h1 ht⟩
theorem Trees.reps:∀{xs:List PV}{vs:List V}{F:List Addr},(∀a∈F,S a)->Trees K H xs vs F->Reps K H S xs vs
 |[],_,_,_,h=>h.1
 |x::xs,_,_,h1,h=>by
  obtain⟨v,r,G1,G2,rfl,h3,h4,hd,rfl⟩:=h
  exact⟨v,r,rfl,Jf.rep (fun b hb=>h1 b (by simp[hb])) h3,Trees.reps (fun b hb=>h1 b (by simp[hb])) h4⟩
end
mutual
theorem Jf.alive:∀{x:PV}{v:V}{F:List Addr},Jf K H x v F->∀a∈F,∃vs:LvO,H a=some vs.1
 |.non,_,_,h=>by rw[h.2];simp
 |.bl _,_,_,h=>by rw[h.2];simp
 |.int _,_,_,h=>by rw[h.2];simp
 |.str _,_,_,h=>by rw[h.2];simp
 |.exc _,_,_,h=>by rw[h.2];simp
 |.exa _ _,_,_,h=>by rw[h.2];simp
 |.box p s xs,_,_,h=>by
  obtain⟨a,vs,u,G,rfl,ha,hb,ht,hn,rfl⟩:=h
  intro b hb'
  rcases Zts.mp hb' with rfl|hb'
  ·exact⟨⟨u,hb.2.lv⟩,ha⟩
  ·exact Trees.alive ht b hb'
 |.lst xs,_,_,h=>by
  obtain⟨a,vs,G,rfl,ha,ht,hn,rfl⟩:=h
  intro b hb
  rcases Zts.mp hb with rfl|hb
  ·exact⟨⟨.lst vs,trivial⟩,ha⟩
  ·exact Trees.alive ht b hb
 |.tup xs,_,_,h=>by
  obtain⟨a,vs,rfl,ha,ht⟩:=h
  exact Trees.alive ht
 |.fz xs,_,_,h=>by
  obtain⟨a,vs,rfl,ha,ht⟩:=h
  exact Trees.alive ht
theorem Trees.alive:∀{xs:List PV}{vs:List V}{F:List Addr},Trees K H xs vs F->∀a∈F,∃vs:LvO,H a=some vs.1
 |[],_,_,h=>by rw[h.2];simp
 |x::xs,_,_,h=>by
  obtain⟨v,r,G1,G2,rfl,h3,h4,hd,rfl⟩:=h
  intro b hb
  rcases Zti.mp hb with hb|hb
  ·exact Jf.alive h3 b hb
  ·exact Trees.alive h4 b hb
end
mutual
theorem Rep.tree:∀{x:PV}{v:V},x.flat=true->Rep K H S x v->Jf K H x v []
 |.non,_,_,h=>⟨h,rfl⟩
 |.bl _,_,_,h=>⟨h,rfl⟩
 |.int _,_,_,h=>⟨h,rfl⟩
 |.str _,_,_,h=>⟨h,rfl⟩
 |.exc _,_,_,h=>⟨h,rfl⟩
 |.exa _ _,_,_,h=>⟨h,rfl⟩
 |.box p s xs,_,f,_=>by simp[PV.flat] at f
 |.lst xs,_,f,_=>by simp[PV.flat] at f
 |.tup xs,_,f,h=>by
  obtain⟨a,vs,rfl,ha,ht⟩:=h
  exact⟨a,vs,rfl,ha,Reps.trees (by simpa[PV.flat] using f) ht⟩
 |.fz xs,_,f,h=>by
  obtain⟨a,vs,rfl,ha,ht⟩:=h
  exact⟨a,vs,rfl,ha,Reps.trees (by simpa[PV.flat] using f) ht⟩
theorem Reps.trees:∀{xs:List PV}{vs:List V},PV.flats xs=true->Reps K H S xs vs->Trees K H xs vs []
 |[],_,_,h=>⟨h,rfl⟩
 |x::xs,_,f,h=>by
  obtain⟨v,r,rfl,h3,h4⟩:=h
  simp only[PV.flats,Bool.and_eq_true] at f
  exact⟨v,r,[],[],rfl,Rep.tree f.1 h3,Reps.trees f.2 h4,by simp,rfl⟩
end
theorem Rep.any(h:Rep K H S x v):Rep K H (fun _=>True) x v:=Rep.mono (fun a vs _ r=>⟨r,trivial⟩) (fun a vs r=>r) h
theorem Reps.any(h:Reps K H S xs vs):Reps K H (fun _=>True) xs vs:=Reps.mono (fun a vs _ r=>⟨r,trivial⟩) (fun a vs r=>r) h
theorem Rep.flatS{x:PV}{v:V}(f:x.flat=true)(h:Rep K H S x v):Rep K H S' x v:=Jf.rep (F:=[]) (by simp) (Rep.tree f h)
theorem Reps.length:∀{xs:List PV}{vs:List V},Reps K H S xs vs->vs.length=xs.length
 |[],_,h=>by rw[h];rfl
 |x::xs,_,h=>by
  obtain⟨v,r,rfl,h3,h4⟩:=h
  simp[Reps.length h4]
theorem Trees.length{xs:List PV}{vs:List V}{F:List Addr}(h:Trees K H xs vs F):vs.length=xs.length:=(Trees.reps (S:=fun _=>True) (fun _ _=>trivial) h).length
theorem Reps.get:∀{xs:List PV}{vs:List V}{i:Nat}{x:PV},Reps K H S xs vs->xs[i]?=some x->∃v,vs[i]?=some v/\Rep K H S x v
 |[],_,_,_,_,e=>by simp at e
 |y::xs,_,0,x,h,e=>by
  obtain⟨v,r,rfl,h3,h4⟩:=h
  simp at e;subst e
  exact⟨v,rfl,h3⟩
 |y::xs,_,i+1,x,h,e=>by
  obtain⟨v,r,rfl,h3,h4⟩:=h
  obtain⟨w,e1,e2⟩:=Reps.get (i:=i) h4 (by simpa using e)
  exact⟨w,by simpa using e1,e2⟩
theorem Reps.append:∀{xs ys:List PV}{vs ws:List V},Reps K H S xs vs->Reps K H S ys ws->Reps K H S (xs++ys) (vs++ws)
 |[],_,_,_,h,h'=>by rw[h];exact h'
 |x::xs,_,_,_,h,h'=>by
  obtain⟨v,r,rfl,h3,h4⟩:=h
  exact⟨v,r++_,rfl,h3,Reps.append h4 h'⟩
theorem Reps.one{x:PV}{v:V}(h:Rep K H S x v):Reps K H S [x] [v]:=⟨v,[],rfl,h,rfl⟩
theorem Trees.append:∀{xs ys:List PV}{vs ws:List V}{F G:List Addr},Trees K H xs vs F->Trees K H ys ws G->(∀a∈F,a ∉ G)->Trees K H (xs++ys) (vs++ws) (F++G)
 |[],_,_,_,_,_,h,h',_=>by rw[h.1,h.2];exact h'
 |x::xs,_,_,_,_,_,h,h',hd=>by
  obtain⟨v,r,G1,G2,rfl,h3,h4,hd',rfl⟩:=h
  refine⟨v,r++_,G1,G2++_,rfl,h3,Trees.append h4 h' (fun a ha=>hd a (by simp[ha])),fun a ha z=>?_,by simp⟩
  rcases Zti.mp z with z|z
  ·exact hd' a ha z
  ·exact hd a (by simp[ha]) z
theorem Trees.one{x:PV}{v:V}{F:List Addr}(h:Jf K H x v F):Trees K H [x] [v] F:=⟨v,[],F,[],rfl,h,⟨rfl,rfl⟩,by simp,by simp⟩
theorem PV.flats_all:∀{xs:List PV},PV.flats xs=true ↔ ∀x∈xs,x.flat=true
 |[]=>by simp[PV.flats]
 |x::xs=>by simp[PV.flats,PV.flats_all (xs:=xs)]
theorem PV.flats_ints(ns:List Int):PV.flats (ns.map PV.int)=true:=PV.flats_all.mpr (by simp[PV.flat])
theorem Rd.same(e:Z5 H H')(h:Rd H a u):Rd H' a u:=by
 rcases h with h|⟨o,h⟩
 ·exact .inl (e _ _ h)
 ·exact .inr ⟨o,e _ _ h⟩
theorem Z5.im(e:Z5 H H'){k:HO}(h:Im K H a k):Im K H' a k:=⟨e _ _ h.1,h.2⟩
theorem Im.sqT{vs:List V}(h:Im K H a (.tup vs)):SqT K H a vs:=.inl (.inl h.1)
theorem Rep.same(e:Z5 H H')(h:Rep K H S x v):Rep K H' S x v:=Rep.mono (fun a vs s r=>⟨r.same e,s⟩) (fun a vs r=>e.im r) h
theorem Reps.same(e:Z5 H H')(h:Reps K H S xs vs):Reps K H' S xs vs:=Reps.mono (fun a vs s r=>⟨r.same e,s⟩) (fun a vs r=>e.im r) h
theorem Jf.same(e:Z5 H H')(h:Jf K H x v F):Jf K H' x v F:=Jf.mono (fun a _ o q=>e a o q) (fun a vs r=>e.im r) h
theorem Trees.same(e:Z5 H H')(h:Trees K H xs vs F):Trees K H' xs vs F:=Trees.mono (fun a _ o q=>e a o q) (fun a vs r=>e.im r) h
theorem Im.putL{p:Addr}{us:LvO}{o:HO}{k:HO}(hp:H p=some us.1)(h:Im K H a k):Im K (upd H p o) a k:=
 ⟨by rw[Z1 (Zlx h.1 hp (ZaI us.2 h.2))];exact h.1,h.2⟩
theorem Im.put{p:Addr}{us:List V}{o:HO}{k:HO}(hp:H p=some (.lst us))(h:Im K H a k):Im K (upd H p o) a k:=Im.putL (us:=⟨.lst us,trivial⟩) hp h
theorem SqT.put{p:Addr}{us:List V}{o:HO}(hp:H p=some (.lst us))(h:Im K H a (.tup vs)):Im K (upd H p o) a (.tup vs):=Im.put hp h
theorem Jf.putL{p:Addr}{us:LvO}{o:HO}(hp:H p=some us.1)(hS:p ∉ F)(h:Jf K H x v F):Jf K (upd H p o) x v F:=
 Jf.mono (fun a ha o q=>by
  have hne:a≠p:=fun z=>hS (z▸ha)
  rw[Z1 hne];exact q) (fun a vs r=>Im.putL hp r) h
theorem Trees.putL{p:Addr}{us:LvO}{o:HO}(hp:H p=some us.1)(hS:p ∉ F)(h:Trees K H xs vs F):Trees K (upd H p o) xs vs F:=
 Trees.mono (fun a ha o q=>by
  have hne:a≠p:=fun z=>hS (z▸ha)
  rw[Z1 hne];exact q) (fun a vs r=>Im.putL hp r) h
theorem Jf.put{p:Addr}{us:List V}{o:HO}(hp:H p=some (.lst us))(hS:p ∉ F)(h:Jf K H x v F):Jf K (upd H p o) x v F:=Jf.putL (us:=⟨.lst us,trivial⟩) hp hS h
theorem Trees.put{p:Addr}{us:List V}{o:HO}(hp:H p=some (.lst us))(hS:p ∉ F)(h:Trees K H xs vs F):Trees K (upd H p o) xs vs F:=Trees.putL (us:=⟨.lst us,trivial⟩) hp hS h
end
inductive Md|U|P|S|T|O
 deriving DecidableEq
def NO(B:Addr->Prop)(F:Nat->List Addr)(R:List Addr)(a:Addr):Prop:=B a/\a ∉ R/\∀i,a ∉ F i
def Ua(K:W.Frag)(H:Hp)(S:Addr->Prop)(m:Md)(x:PV)(o:Option (Option V))(G:List Addr):Prop:=match m with
 |.U=>G=[]
 |.P=>G=[]/\∃v,o=some (some v)/\x.flat=true/\Rep K H (fun _=>True) x v
 |.S=>G=[]/\∃v,o=some (some v)/\Rep K H S x v
 |.T=>∃a vs xs,o=some (some (.ref a))/\x=.lst xs/\H a=some (.lst vs)/\Reps K H S xs vs/\G=[a]
 |.O=>∃v,o=some (some v)/\Jf K H x v G
structure Ag(K:PySem.W.Frag)(B:Addr->Prop)(H0 H:Hp)(σ:St)(Γ:List Md)(ρ:List PV)(F:Nat->List Addr)(R:List Addr):Prop where
 same:Z5 H0 H
 own:∀a,H0 a=none->B a
 young:∀i,∀a∈F i,H0 a=none
 youngR:∀a∈R,H0 a=none
 live:∀i,∀a∈F i,∃vs:LvO,H a=some vs.1
 liveR:∀a∈R,∃vs:LvO,H a=some vs.1
 disj:∀i j,i≠j->∀a∈F i,a ∉ F j
 disjR:∀i,∀a∈F i,a ∉ R
 lenS:σ.length=Γ.length
 lenR:ρ.length=Γ.length
 slot:∀i,Ua K H (NO B F R) (Γ.getD i .U) (ρ.getD i .non) σ[i]? (F i)
theorem Ua.mono{K:W.Frag}{H H':Hp}{S S':Addr->Prop}{m:Md}{x:PV}{o:Option (Option V)}{G:List Addr}(h:Ua K H S m x o G)(h1:∀a u,S a->Rd H a u->Rd H' a u/\S' a)(h2:∀a u,Im K H a u->Im K H' a u)(h3:∀a∈G,∀u,H a=some u->H' a=some u):Ua K H' S' m x o G:=by
 cases m with
 |U=>exact h
 |P =>
  obtain⟨e,v,h4,h5,h6⟩:=h
  exact⟨e,v,h4,h5,Jf.rep (F:=[]) (by simp) (Jf.mono (by simp) h2 (Rep.tree h5 h6))⟩
 |S =>
  obtain⟨e,v,h4,h5⟩:=h
  exact⟨e,v,h4,Rep.mono h1 h2 h5⟩
 |T =>
  obtain⟨a,vs,xs,h4,h5,h6,h7,rfl⟩:=h
  exact⟨a,vs,xs,h4,h5,h3 a (by simp) _ h6,Reps.mono h1 h2 h7,rfl⟩
 |O =>
  obtain⟨v,h4,h5⟩:=h
  exact⟨v,h4,Jf.mono (fun a ha o q=>h3 a ha o q) h2 h5⟩
section
variable {K:W.Frag}{B:Addr->Prop}{H0 H H':Hp}{σ:St}{Γ:List Md}{ρ:List PV}{F:Nat->List Addr}{R R':List Addr}
theorem Ag.grow(A:Ag K B H0 H σ Γ ρ F R)(e:Z5 H H'):Ag K B H0 H' σ Γ ρ F R:=
 ⟨A.same.trans e,A.own,A.young,A.youngR,fun i a ha=>let ⟨vs,q⟩:=A.live i a ha;⟨vs,e _ _ q⟩,fun a ha=>let ⟨vs,q⟩:=A.liveR a ha;⟨vs,e _ _ q⟩,A.disj,A.disjR,A.lenS,A.lenR,
  fun i=>(A.slot i).mono (fun a vs s r=>⟨r.same e,s⟩) (fun a vs r=>e.im r) fun a ha vs q=>e _ _ q⟩
theorem Ag.less(A:Ag K B H0 H σ Γ ρ F R)(h:∀a∈R',a∈R):Ag K B H0 H σ Γ ρ F R':=
 ⟨A.same,A.own,A.young,fun a ha=>A.youngR a (h a ha),A.live,fun a ha=>A.liveR a (h a ha),A.disj,fun i a ha z=>A.disjR i a ha (h a z),A.lenS,A.lenR,
  fun i=>(A.slot i).mono (fun a vs s r=>⟨r,s.1,fun z=>s.2.1 (h a z),s.2.2⟩) (fun a vs r=>r) fun a ha vs q=>q⟩
theorem Ag.more{G:List Addr}(A:Ag K B H0 H σ Γ ρ F R)(e:Z5 H H')(hf:∀a∈G,H a=none)(hl:∀a∈G,∃vs:LvO,H' a=some vs.1):Ag K B H0 H' σ Γ ρ F (G++R):=by
 refine⟨A.same.trans e,A.own,A.young,fun a ha=>?_,fun i a ha=>let ⟨vs,q⟩:=A.live i a ha;⟨vs,e _ _ q⟩,fun a ha=>?_,A.disj,fun i a ha z=>?_,A.lenS,A.lenR,fun i=>?_⟩
 ·rcases Zti.mp ha with z|z
  ·exact A.same.free (hf a z)
  ·exact A.youngR a z
 ·rcases Zti.mp ha with z|z
  ·exact hl a z
  ·obtain⟨vs,q⟩:=A.liveR a z
   exact⟨vs,e _ _ q⟩
 ·rcases Zti.mp z with z|z
  ·obtain⟨vs,q⟩:=A.live i a ha
   rw[hf a z] at q;cases q
  ·exact A.disjR i a ha z
 ·refine(A.slot i).mono (fun a vs s r=>⟨r.same e,s.1,fun z=>?_,s.2.2⟩) (fun a vs r=>e.im r) fun a ha vs q=>e _ _ q
  rcases Zti.mp z with z|z
  ·have:=hf a z
   rcases r with r|⟨o,r⟩<;>(rw[this] at r;cases r)
  ·exact s.2.1 z
theorem Ag.fresh(A:Ag K B H0 H σ Γ ρ F R){p:Addr}(hp:H p=none):p ∉ R/\(∀i,p ∉ F i)/\H0 p=none/\B p:=by
 refine⟨fun z=>?_,fun i z=>?_,A.same.free hp,A.own p (A.same.free hp)⟩
 ·obtain⟨vs,q⟩:=A.liveR p z
  rw[hp] at q;cases q
 ·obtain⟨vs,q⟩:=A.live i p z
  rw[hp] at q;cases q
theorem Ag.new{p:Addr}{xs:List V}(A:Ag K B H0 H σ Γ ρ F R)(hp:H p=none):Ag K B H0 (upd H p (.lst xs)) σ Γ ρ F (p::R):=
 A.more (G:=[p]) (Z5.new hp) (fun a ha=>by rw[Zt0.mp ha];exact hp) fun a ha=>⟨⟨.lst xs,trivial⟩,by rw[Zt0.mp ha,ZD]⟩
theorem Ag.newB{p:Addr}{u:HO}(hu:Lvo u)(A:Ag K B H0 H σ Γ ρ F R)(hp:H p=none):Ag K B H0 (upd H p u) σ Γ ρ F (p::R):=
 A.more (G:=[p]) (Z5.new hp) (fun a ha=>by rw[Zt0.mp ha];exact hp) fun a ha=>⟨⟨u,hu⟩,by rw[Zt0.mp ha,ZD]⟩
theorem Ag.getO{i:Nat}(A:Ag K B H0 H σ Γ ρ F R)(h:Γ[i]?=some .O):∃v,σ[i]?=some (some v)/\Jf K H (ρ.getD i .non) v (F i):=by
 have:=A.slot i
 rw[Ztf,h] at this
 exact this
theorem Ag.getT{i:Nat}(A:Ag K B H0 H σ Γ ρ F R)(h:Γ[i]?=some .T):∃a vs xs,σ[i]?=some (some (.ref a))/\ρ.getD i .non=.lst xs/\H a=some (.lst vs)/\Reps K H (NO B F R) xs vs/\F i=[a]:=by
 have:=A.slot i
 rw[Ztf (l:=Γ),h] at this
 exact this
theorem Ag.getS{i:Nat}(A:Ag K B H0 H σ Γ ρ F R)(h:Γ[i]?=some .S):∃v,σ[i]?=some (some v)/\Rep K H (NO B F R) (ρ.getD i .non) v:=by
 have:=A.slot i
 rw[Ztf (l:=Γ),h] at this
 exact this.2
theorem Ag.getP{i:Nat}(A:Ag K B H0 H σ Γ ρ F R)(h:Γ[i]?=some .P):∃v,σ[i]?=some (some v)/\(ρ.getD i .non).flat=true/\Rep K H (fun _=>True) (ρ.getD i .non) v:=by
 have:=A.slot i
 rw[Ztf (l:=Γ),h] at this
 exact this.2
theorem Ag.getA{i:Nat}{m:Md}(A:Ag K B H0 H σ Γ ρ F R)(h:Γ[i]?=some m)(hm:m≠.U):∃v,σ[i]?=some (some v)/\Rep K H (fun _=>True) (ρ.getD i .non) v:=by
 cases m with
 |U=>exact absurd rfl hm
 |P=>obtain⟨v,h1,h2,h3⟩:=A.getP h;exact⟨v,h1,h3⟩
 |S=>obtain⟨v,h1,h2⟩:=A.getS h;exact⟨v,h1,h2.any⟩
 |T =>
  obtain⟨a,vs,xs,h1,h2,h3,h4,h5⟩:=A.getT h
  exact⟨_,h1,by rw[h2];exact⟨a,vs,rfl,.inl ⟨.inl h3,trivial⟩,h4.any⟩⟩
 |O=>obtain⟨v,h1,h2⟩:=A.getO h;exact⟨v,h1,h2.rep (fun _ _=>trivial)⟩
theorem Ag.lt{i:Nat}{m:Md}(A:Ag K B H0 H σ Γ ρ F R)(h:Γ[i]?=some m):i<Γ.length:=(Ztk.mp h).1
noncomputable def Vo(F:Nat->List Addr)(i:Nat)(G:List Addr):Nat->List Addr:=fun j=>if j=i then G else F j
theorem Zu{i:Nat}{G:List Addr}:Vo F i G i=G:=if_pos rfl
theorem Z6{i j:Nat}{G:List Addr}(h:j≠i):Vo F i G j=F j:=if_neg h
theorem Ag.put{i:Nat}{m:Md}{x:PV}{v:V}{G:List Addr}(A:Ag K B H0 H σ Γ ρ F (G++R))(hi:i<Γ.length)(hG:∀a∈G,a ∉ R)(hs:Ua K H (NO B (Vo F i G) R) m x (some (some v)) G) :
  Ag K B H0 H (σ.set i (some v)) (Γ.set i m) (ρ.set i x) (Vo F i G) R:=by
 refine⟨A.same,A.own,fun j a ha=>?_,fun a ha=>A.youngR a (Ztg _ ha),fun j a ha=>?_,fun a ha=>A.liveR a (Ztg _ ha),fun j k hjk a ha z=>?_,fun j a ha z=>?_,by simp[A.lenS],by simp[A.lenR],fun j=>?_⟩
 ·by_cases h:j=i
  ·subst h;rw[Zu] at ha;exact A.youngR a (Ztj _ ha)
  ·rw[Z6 h] at ha;exact A.young j a ha
 ·by_cases h:j=i
  ·subst h;rw[Zu] at ha;exact A.liveR a (Ztj _ ha)
  ·rw[Z6 h] at ha;exact A.live j a ha
 ·by_cases h:j=i
  ·subst h
   rw[Zu] at ha
   rw[Z6 (Ne.symm hjk)] at z
   exact A.disjR k a z (Ztj _ ha)
  ·rw[Z6 h] at ha
   by_cases h':k=i
   ·subst h'
    rw[Zu] at z
    exact A.disjR j a ha (Ztj _ z)
   ·rw[Z6 h'] at z
    exact A.disj j k hjk a ha z
 ·by_cases h:j=i
  ·subst h;rw[Zu] at ha;exact hG a ha z
  ·rw[Z6 h] at ha;exact A.disjR j a ha (Ztg _ z)
 ·by_cases h:j=i
  ·subst h
   rw[Zu,Ztf,Ztf,Ztq hi,Ztq (by rw[A.lenR];exact hi),Ztq (by rw[A.lenS];exact hi)]
   exact hs
  ·rw[Z6 h,Ztf,Ztf,Ztl (Ne.symm h),Ztl (Ne.symm h),Ztl (Ne.symm h),<- Ztf,<- Ztf]
   refine(A.slot j).mono (fun a vs s r=>⟨r,s.1,fun z=>s.2.1 (Ztg _ z),fun k z=>?_⟩) (fun a vs r=>r) fun a ha vs q=>q
   by_cases h':k=i
   ·subst h';rw[Zu] at z;exact s.2.1 (Ztj _ z)
   ·rw[Z6 h'] at z;exact s.2.2 k z
theorem Ag.turn{i:Nat}{m m':Md}{G:List Addr}(A:Ag K B H0 H σ Γ ρ F R)(h:Γ[i]?=some m)(hG:∀a∈G,a∈F i)(hs:Ua K H (NO B (Vo F i []) (G++R)) m' (ρ.getD i .non) σ[i]? []) :
  Ag K B H0 H σ (Γ.set i m') ρ (Vo F i []) (G++R):=by
 have hi:=A.lt h
 refine⟨A.same,A.own,fun j a ha=>?_,fun a ha=>?_,fun j a ha=>?_,fun a ha=>?_,fun j k hjk a ha z=>?_,fun j a ha z=>?_,by simp[A.lenS],by simp[A.lenR],fun j=>?_⟩
 ·by_cases h:j=i
  ·subst h;rw[Zu] at ha;simp at ha
  ·rw[Z6 h] at ha;exact A.young j a ha
 ·rcases Zti.mp ha with z|z
  ·exact A.young i a (hG a z)
  ·exact A.youngR a z
 ·by_cases h:j=i
  ·subst h;rw[Zu] at ha;simp at ha
  ·rw[Z6 h] at ha;exact A.live j a ha
 ·rcases Zti.mp ha with z|z
  ·exact A.live i a (hG a z)
  ·exact A.liveR a z
 ·by_cases h:j=i
  ·subst h;rw[Zu] at ha;simp at ha
  ·by_cases h':k=i
   ·subst h';rw[Zu] at z;simp at z
   ·rw[Z6 h] at ha;rw[Z6 h'] at z;exact A.disj j k hjk a ha z
 ·by_cases h:j=i
  ·subst h;rw[Zu] at ha;simp at ha
  ·rw[Z6 h] at ha
   rcases Zti.mp z with z|z
   ·exact A.disj j i h a ha (hG a z)
   ·exact A.disjR j a ha z
 ·by_cases h:j=i
  ·subst h
   rw[Zu,Ztf (l:=Γ.set _ _),Ztq hi]
   exact hs
  ·rw[Z6 h,Ztf (l:=Γ.set _ _),Ztl (Ne.symm h),<- Ztf]
   refine(A.slot j).mono (fun a vs s r=>⟨r,s.1,fun z=>?_,fun k z=>?_⟩) (fun a vs r=>r) fun a ha vs q=>q
   ·rcases Zti.mp z with z|z
    ·exact s.2.2 i (hG a z)
    ·exact s.2.1 z
   ·by_cases h':k=i
    ·subst h';rw[Zu] at z;simp at z
    ·rw[Z6 h'] at z;exact s.2.2 k z
theorem Ag.noF(A:Ag K B H0 H σ Γ ρ F R){i:Nat}{a:Addr}(ha:a∈F i):NO B (Vo F i []) R a:=⟨A.own a (A.young i a ha),A.disjR i a ha,fun j z=>by
 by_cases h:j=i
 ·subst h;rw[Zu] at z;simp at z
 ·rw[Z6 h] at z;exact A.disj j i h a z ha⟩
theorem Ag.freeze{i:Nat}{m:Md}(A:Ag K B H0 H σ Γ ρ F R)(h:Γ[i]?=some m)(hm:m≠.U):Ag K B H0 H σ (Γ.set i .S) ρ (Vo F i []) R:=by
 refine A.turn (G:=[]) h (by simp) ?_
 show Ua K H (NO B (Vo F i []) R) .S (ρ.getD i .non) σ[i]? []
 have up:∀{a vs},NO B F R a->Rd H a vs->Rd H a vs/\NO B (Vo F i []) R a:=fun {a vs} s r=>⟨r,s.1,s.2.1,fun j z=>by
  by_cases h:j=i
  ·subst h;rw[Zu] at z;simp at z
  ·rw[Z6 h] at z;exact s.2.2 j z⟩
 cases m with
 |U=>exact absurd rfl hm
 |P=>obtain⟨v,h1,h2,h3⟩:=A.getP h;exact⟨rfl,v,h1,h3.flatS h2⟩
 |S=>obtain⟨v,h1,h2⟩:=A.getS h;exact⟨rfl,v,h1,Rep.mono (fun a vs s r=>up s r) (fun a vs r=>r) h2⟩
 |T =>
  obtain⟨a,vs,xs,h1,h2,h3,h4,h5⟩:=A.getT h
  refine⟨rfl,_,h1, ?_⟩
  rw[h2]
  exact⟨a,vs,rfl,.inl ⟨.inl h3,A.noF (by rw[h5];simp)⟩,Reps.mono (fun a vs s r=>up s r) (fun a vs r=>r) h4⟩
 |O =>
  obtain⟨v,h1,h2⟩:=A.getO h
  exact⟨rfl,v,h1,h2.rep fun a ha=>A.noF ha⟩
theorem Ag.move{i:Nat}(A:Ag K B H0 H σ Γ ρ F R)(h:Γ[i]?=some .O):Ag K B H0 H σ (Γ.set i .U) ρ (Vo F i []) (F i++R):=A.turn (G:=F i) h (fun a ha=>ha) rfl
end
noncomputable abbrev PX:=Str×PV
inductive Rr(α:Type) where
 |ok (a:α)|exc (e:PX)|bad
noncomputable def Rr.bind{α β:Type}:Rr α->(α->Rr β)->Rr β
 |.ok a,f=>f a
 |.exc e,_=>.exc e
 |.bad,_=>.bad
def Dn{α:Type}(r:Rr α)(ok:α->Prop)(ex:PX->Prop):Prop:=match r with
 |.ok a=>ok a
 |.exc e=>ex e
 |.bad=>False
theorem Dn.bind{α β:Type}{r:Rr α}{f:α->Rr β}{ok:β->Prop}{ex:PX->Prop}(h:Dn (r.bind f) ok ex):Dn r (fun a=>Dn (f a) ok ex) ex:=by
 cases r with
 |ok a=>exact h
 |exc e=>exact h
 |bad=>exact h
theorem Dn.imp{α:Type}{r:Rr α}{ok ok':α->Prop}{ex ex':PX->Prop}(h:Dn r ok ex)(h1:∀a,r=.ok a->ok a->ok' a)(h2:∀e,ex e->ex' e):Dn r ok' ex':=by
 cases r with
 |ok a=>exact h1 a rfl h
 |exc e=>exact h2 e h
 |bad=>exact h
@[simp] theorem Rr.bind_ok{α β:Type}{a:α}{f:α->Rr β}:(Rr.ok a).bind f=f a:=rfl
@[simp] theorem Rr.bind_exc{α β:Type}{e:PX}{f:α->Rr β}:(Rr.exc e:Rr α).bind f=.exc e:=rfl
@[simp] theorem Rr.bind_bad{α β:Type}{f:α->Rr β}:(Rr.bad:Rr α).bind f=.bad:=rfl
inductive Kd|P|F|T|Z|A|N|M
def Res(K:W.Frag)(B:Addr->Prop)(H0 H:Hp)(σ:St)(Γ':List Md)(ρ:List PV)(F:Nat->List Addr)(R:List Addr)(k:Kd)(x:PV)(v:V)(H':Hp):Prop:=
 ∃F',(∀i,∀a∈F' i,a∈F i)/\match k with
 |.P=>x.flat=true/\Rep K H' (fun _=>True) x v/\Ag K B H0 H' σ Γ' ρ F' R
 |.F=>∃G,Jf K H' x v G/\(∀a∈G,a ∉ R/\(H a=none\/∃i,a∈F i))/\Ag K B H0 H' σ Γ' ρ F' (G++R)
 |.T=>∃a vs xs,x=.lst xs/\v=.ref a/\H' a=some (.lst vs)/\Reps K H' (NO B F' (a::R)) xs vs/\a ∉ R/\(H a=none\/∃i,a∈F i)/\Ag K B H0 H' σ Γ' ρ F' (a::R)
 |.Z=>Rep K H' (NO B F' R) x v/\Ag K B H0 H' σ Γ' ρ F' R
 |.A=>Rep K H' (fun _=>True) x v/\Ag K B H0 H' σ Γ' ρ F' R
 |.N=>False
 |.M=>False
def DE(K:W.Frag)(EX:PX->Hp->Prop)(Γ Γ':List Md)(k:Kd)(te:TE)(f:List PV->Rr PV):Prop:=
 ∀(B:Addr->Prop) (H0 H:Hp) (σ:St) (ρ:List PV) (F:Nat->List Addr) (R:List Addr) (Q:VK),Ag K B H0 H σ Γ ρ F R ->
  Dn (f ρ) (fun x=>∀v H',Z5 H H'->Res K B H0 H σ Γ' ρ F R k x v H'->Q v H') (fun e=>∀H',Z5 H0 H'->EX e H')->te σ H Q
def DT(K:W.Frag)(EX:PX->Hp->Prop)(Γ Γ':List Md)(tt:TT)(f:List PV->Rr Bool):Prop:=
 ∀(B:Addr->Prop) (H0 H:Hp) (σ:St) (ρ:List PV) (F:Nat->List Addr) (R:List Addr) (Q:Bool->Hp->Prop),Ag K B H0 H σ Γ ρ F R ->
  Dn (f ρ) (fun b=>∀H' F',Z5 H H'->(∀i,∀a∈F' i,a∈F i)->Ag K B H0 H' σ Γ' ρ F' R->Q b H') (fun e=>∀H',Z5 H0 H'->EX e H')->tt σ H Q
section
variable {K:W.Frag}{B:Addr->Prop}{EX:PX->Hp->Prop}{H0 H H':Hp}{σ:St}{Γ Γ' Γ1 Γ2:List Md}{ρ:List PV}{F F':Nat->List Addr}{R:List Addr}{k:Kd}{x:PV}{v:V}{te ta tb:TE}{f fa fb:List PV->Rr PV}
theorem Res.ag(h:Res K B H0 H σ Γ' ρ F R k x v H'):∃F',(∀i,∀a∈F' i,a∈F i)/\Rep K H' (fun _=>True) x v/\Ag K B H0 H' σ Γ' ρ F' R:=by
 obtain⟨F',hF,h⟩:=h
 refine⟨F',hF, ?_⟩
 cases k with
 |P=>exact⟨h.2.1,h.2.2⟩
 |F=>obtain⟨G,h1,h2,h3⟩:=h;exact⟨h1.rep fun _ _=>trivial,h3.less fun a ha=>Ztg _ ha⟩
 |T=>obtain⟨a,vs,xs,rfl,rfl,h1,h2,h3,h4,h5⟩:=h;exact⟨⟨a,vs,rfl,.inl ⟨.inl h1,trivial⟩,h2.any⟩,h5.less fun a ha=>Zt9 _ ha⟩
 |Z=>exact⟨h.1.any,h.2⟩
 |A=>exact h
 |N=>exact h.elim
 |M=>exact h.elim
theorem Res.toA(h:Res K B H0 H σ Γ' ρ F R k x v H'):Res K B H0 H σ Γ' ρ F R .A x v H':=let ⟨F',a,b,c⟩:=h.ag;⟨F',a,b,c⟩
theorem Res.PF(h:Res K B H0 H σ Γ' ρ F R .P x v H'):Res K B H0 H σ Γ' ρ F R .F x v H':=by
 obtain⟨F',hF,h1,h2,h3⟩:=h
 exact⟨F',hF,[],h2.tree h1,by simp,h3⟩
theorem DE.imp{k':Kd}(h:DE K EX Γ Γ' k te f)(hr:∀{B:Addr->Prop}{H0 H H':Hp}{σ:St}{ρ:List PV}{F:Nat->List Addr}{R:List Addr}{x:PV}{v:V},Res K B H0 H σ Γ' ρ F R k x v H'->Res K B H0 H σ Γ' ρ F R k' x v H'):DE K EX Γ Γ' k' te f:=
 fun B H0 H σ ρ F R Q A d=>h B H0 H σ ρ F R Q A (d.imp (fun x _ q v H' s r=>q v H' s (hr r)) fun e q=>q)
theorem DE.toA(h:DE K EX Γ Γ' k te f):DE K EX Γ Γ' .A te f:=h.imp Res.toA
theorem DE.PF(h:DE K EX Γ Γ' .P te f):DE K EX Γ Γ' .F te f:=h.imp Res.PF
noncomputable def grd(x:PV):Rr PV:=if x.flat=true then .ok x else .bad
theorem DE.grd(h:DE K EX Γ Γ' .A te f):DE K EX Γ Γ' .P te (fun ρ=>(f ρ).bind grd):=fun B H0 H σ ρ F R Q A d=>by
 refine h B H0 H σ ρ F R Q A (d.bind.imp (fun x _ q v H' s r=>?_) fun e q=>q)
 unfold L2.grd at q
 by_cases hx:x.flat=true
 ·rw[if_pos hx] at q
  obtain⟨F',h1,h2,h3⟩:=r
  exact q v H' s ⟨F',h1,hx,h2,h3⟩
 ·rw[if_neg hx] at q;exact q.elim
theorem ZkS{v:V}(hf:x.flat=true)(hr:∀H,Rep K H (fun _=>True) x v):DE K EX Γ Γ .P (tC v) (fun _=>.ok x):=fun B H0 H σ ρ F R Q A d =>
 d v H (Z5.refl H) ⟨F,fun _ _ h=>h,hf,hr H,A⟩
theorem Zi{i:Int}:DE K EX Γ Γ .P (tC (.int i)) (fun _=>.ok (.int i)):=ZkS rfl fun _=>rfl
theorem Us{b:Bool}:DE K EX Γ Γ .P (tC (.bl b)) (fun _=>.ok (.bl b)):=ZkS rfl fun _=>rfl
theorem ZfP:DE K EX Γ Γ .P (tC .non) (fun _=>.ok .non):=ZkS rfl fun _=>rfl
theorem JF{x:Str}:DE K EX Γ Γ .P (tC (.str x)) (fun _=>.ok (.str x)):=ZkS rfl fun _=>rfl
noncomputable def gv(i:Nat)(ρ:List PV):PV:=ρ.getD i .non
theorem Zc{i:Nat}{m:Md}(h:Γ[i]?=some m)(hm:m≠.U):DE K EX Γ Γ .A (Zab i) (fun ρ=>.ok (gv i ρ)):=fun B H0 H σ ρ F R Q A d=>by
 obtain⟨v,h1,h2⟩:=A.getA h hm
 exact⟨v,h1,d v H (Z5.refl H) ⟨F,fun _ _ h=>h,h2,A⟩⟩
theorem Zk{i:Nat}(h:Γ[i]?=some .P):DE K EX Γ Γ .P (Zab i) (fun ρ=>.ok (gv i ρ)):=fun B H0 H σ ρ F R Q A d=>by
 obtain⟨v,h1,h2,h3⟩:=A.getP h
 exact⟨v,h1,d v H (Z5.refl H) ⟨F,fun _ _ h=>h,h2,h3,A⟩⟩
theorem ZaQ{i:Nat}(h:Γ[i]?=some .S):DE K EX Γ Γ .Z (Zab i) (fun ρ=>.ok (gv i ρ)):=fun B H0 H σ ρ F R Q A d=>by
 obtain⟨v,h1,h2⟩:=A.getS h
 exact⟨v,h1,d v H (Z5.refl H) ⟨F,fun _ _ h=>h,h2,A⟩⟩
theorem VO{i:Nat}{F:Nat->List Addr}:∀j,∀a∈Vo F i [] j,a∈F j:=fun j a ha=>by
 by_cases h:j=i
 ·subst h;rw[Zu] at ha;simp at ha
 ·rw[Z6 h] at ha;exact ha
theorem VJ{i:Nat}(h:Γ[i]?=some .O):DE K EX Γ (Γ.set i .U) .F (Zab i) (fun ρ=>.ok (gv i ρ)):=fun B H0 H σ ρ F R Q A d=>by
 obtain⟨v,h1,h2⟩:=A.getO h
 exact⟨v,h1,d v H (Z5.refl H) ⟨Vo F i [],VO,F i,h2,fun a ha=>⟨A.disjR i a ha,.inr ⟨i,ha⟩⟩,A.move h⟩⟩
theorem Zje{i:Nat}{m:Md}(h:Γ[i]?=some m)(hm:m≠.U):DE K EX Γ (Γ.set i .S) .Z (Zab i) (fun ρ=>.ok (gv i ρ)):=fun B H0 H σ ρ F R Q A d=>by
 have A':=A.freeze h hm
 obtain⟨v,h1,h2⟩:=A'.getS (Ztq (A.lt h))
 exact⟨v,h1,d v H (Z5.refl H) ⟨Vo F i [],VO,h2,A'⟩⟩
def OpP(K:W.Frag)(r:R2)(o:PV->PV->Rr PV):Prop:=∀{H:Hp}{x y:PV}{v w:V}{Q:VK},Rep K H (fun _=>True) x v->Rep K H (fun _=>True) y w ->
 (∃z,o x y=.ok z/\(z.flat=true->∀u,Rep K H (fun _=>True) z u->Q u H))->r v w H Q
theorem Dn.bind2{α β γ:Type}{r:Rr α}{q:Rr β}{f:α->β->Rr γ}{ok:γ->Prop}{ex:PX->Prop}(h:Dn (r.bind fun a=>q.bind fun b=>f a b) ok ex):Dn r (fun a=>Dn q (fun b=>Dn (f a b) ok ex) ex) ex:=
 h.bind.imp (fun a _ h=>h.bind) fun e h=>h
theorem two{Q:V->V->Hp->Prop}{ok:PV->PV->Prop}(ha:DE K EX Γ Γ1 .A ta fa)(hb:DE K EX Γ1 Γ2 .A tb fb)(A:Ag K B H0 H σ Γ ρ F R)(d:Dn (fa ρ) (fun x=>Dn (fb ρ) (fun y=>ok x y) (fun e=>∀H',Z5 H0 H'->EX e H')) (fun e=>∀H',Z5 H0 H'->EX e H'))(hq:∀x y v w H' F',ok x y->Z5 H H'->(∀i,∀a∈F' i,a∈F i)->Rep K H' (fun _=>True) x v->Rep K H' (fun _=>True) y w->Ag K B H0 H' σ Γ2 ρ F' R->Q v w H') :
  ta σ H fun v H1=>tb σ H1 fun w H2=>Q v w H2:=by
 refine ha B H0 H σ ρ F R _ A (d.imp (fun x _ d v H1 s1 r1=>?_) fun e q=>q)
 obtain⟨F1,f1,p1,A1⟩:=r1
 refine hb B H0 H1 σ ρ F1 R _ A1 (d.imp (fun y _ q w H2 s2 r2=>?_) fun e q=>q)
 obtain⟨F2,f2,p2,A2⟩:=r2
 exact hq x y v w H2 F2 q (s1.trans s2) (fun i a h=>f1 i a (f2 i a h)) (p1.same s2) p2 A2
theorem Zhi{r:R2}{o:PV->PV->Rr PV}(hr:OpP K r o)(ho:∀x y z,o x y=.ok z->z.flat=true)(hx:∀x y e,o x y≠.exc e)(ha:DE K EX Γ Γ1 .A ta fa)(hb:DE K EX Γ1 Γ2 .A tb fb) :
  DE K EX Γ Γ2 .P (tOp r ta tb) (fun ρ=>(fa ρ).bind fun x=>(fb ρ).bind fun y=>o x y):=fun B H0 H σ ρ F R Q A d=>by
 refine two ha hb A d.bind2 fun x y v w H' F' d s hF p1 p2 A'=>?_
 cases e:o x y with
 |ok z=>rw[e] at d;exact hr p1 p2 ⟨z,e,fun hf u hu=>d u H' s ⟨F',hF,hf,hu,A'⟩⟩
 |exc q=>exact absurd e (hx x y q)
 |bad=>rw[e] at d;exact d.elim
def UnP(K:W.Frag)(r:V->Hp->VK->Prop)(o:PV->Rr PV):Prop:=∀{H:Hp}{x:PV}{v:V}{Q:VK},Rep K H (fun _=>True) x v->(∃z,o x=.ok z/\(z.flat=true->∀u,Rep K H (fun _=>True) z u->Q u H))->r v H Q
theorem Zl4{r:V->Hp->VK->Prop}{o:PV->Rr PV}(hr:UnP K r o)(hx:∀x e,o x≠.exc e)(ha:DE K EX Γ Γ1 .A ta fa):DE K EX Γ Γ1 .P (tUn r ta) (fun ρ=>(fa ρ).bind o):=fun B H0 H σ ρ F R Q A d=>by
 refine ha B H0 H σ ρ F R _ A (d.bind.imp (fun x _ d v H1 s1 r1=>?_) fun e q=>q)
 obtain⟨F1,f1,p1,A1⟩:=r1
 cases e:o x with
 |ok z=>rw[e] at d;exact hr p1 ⟨z,e,fun hf u hu=>d u H1 s1 ⟨F1,f1,hf,hu,A1⟩⟩
 |exc q=>exact absurd e (hx x q)
 |bad=>rw[e] at d;exact d.elim
noncomputable def oI(C:Int->Int->Bool)(g:Int->Int->PV)(x y:PV):Rr PV:=match x,y with
 |.int i,.int j=>if C i j=true then .ok (g i j) else .bad
 |_,_=>.bad
theorem Zdd{C:Int->Int->Bool}{g:Int->Int->PV}{i j:Int}(h:C i j=true):oI C g (.int i) (.int j)=.ok (g i j):=if_pos h
theorem Zmg{C:Int->Int->Bool}{D:Int->Int->Prop}{g:Int->Int->PV}{g':Int->Int->V}(hC:∀i j,C i j=true->D i j)(hg:∀H i j,Rep K H (fun _=>True) (g i j) (g' i j))(hf:∀i j,(g i j).flat=true):OpP K (rI D g') (oI C g):=by
 intro H x y v w Q rx ry ⟨z,e,q⟩
 cases x<;>cases y<;>first|(simp only[oI] at e;cases e;done)|skip
 rename_i i j
 simp only[oI] at e
 by_cases h:C i j=true
 ·rw[if_pos h] at e;cases e
  cases rx;cases ry
  exact⟨i,j,rfl,rfl,hC i j h,q (hf i j) _ (hg H i j)⟩
 ·rw[if_neg h] at e;cases e
theorem Zlv{g:Int->Int->PV}{g':Int->Int->V}(hg:∀H i j,Rep K H (fun _=>True) (g i j) (g' i j))(hf:∀i j,(g i j).flat=true):OpP K (rI0 g') (oI (fun _ _=>true) g):=by
 intro H x y v w Q rx ry ⟨z,e,q⟩
 cases x<;>cases y<;>first|(simp only[oI] at e;cases e;done)|skip
 rename_i i j
 simp only[oI,if_true] at e
 cases e;cases rx;cases ry
 exact⟨i,j,rfl,rfl,q (hf i j) _ (hg H i j)⟩
theorem Zdc{C:Int->Int->Bool}{g:Int->Int->PV}(x y:PV)(e:PX):oI C g x y≠.exc e:=by
 cases x<;>cases y<;>first|(intro h;simp only[oI] at h;cases h;done)|skip
 intro h
 simp only[oI] at h
 split at h<;>cases h
theorem Zfm{C:Int->Int->Bool}{g:Int->Int->PV}(hf:∀i j,(g i j).flat=true)(x y z:PV)(h:oI C g x y=.ok z):z.flat=true:=by
 cases x<;>cases y<;>first|(simp only[oI] at h;cases h;done)|skip
 simp only[oI] at h
 split at h
 ·cases h;exact hf _ _
 ·cases h
end
mutual
noncomputable def PV.noX:PV->Bool
 |.exc _=>false
 |.exa _ _=>false
 |.box _ _ _=>false
 |.fz xs=>PV.noXs xs
 |.lst xs=>PV.noXs xs
 |.tup xs=>PV.noXs xs
 |.non=>true
 |.bl _=>true
 |.int _=>true
 |.str _=>true
noncomputable def PV.noXs:List PV->Bool
 |[]=>true
 |x::xs=>x.noX&&PV.noXs xs
end
theorem PV.noXs_ints:∀(ns:List Int),PV.noXs (ns.map PV.int)=true
 |[]=>rfl
 |n::ns=>by simp[PV.noXs,PV.noX,PV.noXs_ints ns]
mutual
noncomputable def PV.dat:PV->PyData
 |.non=>.none
 |.bl b=>.bool b
 |.int i=>.int i
 |.str x=>.str x
 |.exc _=>.none
 |.exa _ _=>.none
 |.box _ _ _=>.none
 |.fz xs=>.list (PV.dats xs)
 |.lst xs=>.list (PV.dats xs)
 |.tup xs=>.tuple (PV.dats xs)
noncomputable def PV.dats:List PV->List PyData
 |[]=>[]
 |x::xs=>x.dat::PV.dats xs
end
section
variable {X:Cx}{pins:List (Addr×Obj)}{σ:St}{H:Hp}{s:Shared}{S:Addr->Prop}
theorem Uc{K:W.Frag}{a:Addr}{vs:List V}(h:(Rd H a (.lst vs)/\S a)\/KL K a vs):SqL K H a vs:=by
 rcases h with h|h
 ·exact .inl h.1
 ·exact .inr h
mutual
theorem Rep.reads(I:Inv X pins σ H s):∀{x:PV}{v:V}{u:Value},x.noX=true->Rep X.K H S x v->JX v u->∃as,Reads s.heap u x.dat as
 |.non,_,_,_,h,r=>by cases h;cases r;exact⟨_,.none⟩
 |.bl _,_,_,_,h,r=>by cases h;cases r;exact⟨_,.bool _⟩
 |.int _,_,_,_,h,r=>by cases h;obtain⟨t,rfl⟩:=r;exact⟨_,.int _ _⟩
 |.str _,_,_,_,h,r=>by cases h;obtain⟨t,rfl⟩:=r;exact⟨_,.str _ _⟩
 |.exc _,_,_,z,_,_=>by simp[PV.noX] at z
 |.exa _ _,_,_,z,_,_=>by simp[PV.noX] at z
 |.box _ _ _,_,_,z,_,_=>by simp[PV.noX] at z
 |.fz xs,_,_,z,h,r=>by
  obtain⟨a,vs,rfl,⟨o,hn⟩,hr⟩:=h
  cases r
  obtain⟨its,rv,pl,_⟩:=I.list (Uc (S:=fun _=>True) (.inl ⟨.inr ⟨o,hn.1⟩,trivial⟩))
  obtain⟨as,ra⟩:=Reps.reads I (by simpa[PV.noX] using z) hr rv
  obtain⟨o,ho,hc,n,hd⟩:=pl.isList
  exact⟨_,.list ho hc hd (by simpa using ra)⟩
 |.lst xs,_,_,z,h,r=>by
  obtain⟨a,vs,rfl,hn,hr⟩:=h
  cases r
  obtain⟨its,rv,pl,_⟩:=I.list (Uc hn)
  obtain⟨as,ra⟩:=Reps.reads I (by simpa[PV.noX] using z) hr rv
  obtain⟨o,ho,hc,n,hd⟩:=pl.isList
  exact⟨_,.list ho hc hd (by simpa using ra)⟩
 |.tup xs,_,_,z,h,r=>by
  obtain⟨a,vs,rfl,hn,hr⟩:=h
  cases r
  obtain⟨its,rv,⟨o,ho,hc,n,hd⟩,_⟩:=I.tuple hn.sqT
  obtain⟨as,ra⟩:=Reps.reads I (by simpa[PV.noX] using z) hr rv
  exact⟨_,.tuple ho hc hd (by simpa using ra)⟩
theorem Reps.reads(I:Inv X pins σ H s):∀{xs:List PV}{vs:List V}{us:List Value},PV.noXs xs=true->Reps X.K H S xs vs->Jr vs us->∃as,ReadsAll s.heap us (PV.dats xs) as
 |[],_,_,_,h,r=>by rw[h] at r;cases r;exact⟨_,.nil⟩
 |x::xs,_,_,z,h,r=>by
  simp only[PV.noXs,Bool.and_eq_true] at z
  obtain⟨v,vs,rfl,h1,h2⟩:=h
  cases r with
  |cons r1 r2 =>
   obtain⟨as,a1⟩:=Rep.reads I z.1 h1 r1
   obtain⟨bs,b1⟩:=Reps.reads I z.2 h2 r2
   exact⟨_,.cons a1 b1⟩
end
noncomputable def okD(x:PV):Bool:=x.noX&&x.dat.canLay0&&decide (x.dat.depth<=64)
noncomputable def Zlk(K:W.Frag)(g:Bool->Bool):R2:=fun x y H Q=>∃p q,Rep K H (fun _=>True) p x/\Rep K H (fun _=>True) q y/\okD p=true/\okD q=true/\Q (.bl (g (PyData.eqv p.dat q.dat))) H
theorem JS{K:W.Frag}(hu:X.A.units+64<cLine)(e:X.K=K:=by rfl):OpR X (compareOp .Eq) (Zlk K id):=by
 subst e
 intro pins s σ H x y v u Q I rx ry h
 obtain⟨p,q,h1,h2,h3,h4,hq⟩:=h
 simp only[okD,Bool.and_eq_true,decide_eq_true_eq] at h3 h4
 obtain⟨as,ra⟩:=h1.reads I h3.1.1 rx
 obtain⟨bs,rb⟩:=h2.reads I h4.1.1 ry
 exact SeqAt.rcAt_reads ra rb h3.1.2 h4.1.2 (by have:=Nat.min_le_left p.dat.depth q.dat.depth;lia) _ _ _ _ ⟨.bl (PyData.eqv p.dat q.dat),H,I,rfl,hq⟩
theorem UP{K:W.Frag}(hu:X.A.units+64<cLine)(e:X.K=K:=by rfl):OpR X (compareOp .NotEq) (Zlk K (!·)):=by
 subst e
 intro pins s σ H x y v u Q I rx ry h
 obtain⟨p,q,h1,h2,h3,h4,hq⟩:=h
 simp only[okD,Bool.and_eq_true,decide_eq_true_eq] at h3 h4
 obtain⟨as,ra⟩:=h1.reads I h3.1.1 rx
 obtain⟨bs,rb⟩:=h2.reads I h4.1.1 ry
 exact SeqAt.rcNeAt_reads ra rb h3.1.2 h4.1.2 (by have:=Nat.min_le_left p.dat.depth q.dat.depth;lia) _ _ _ _ ⟨.bl (!PyData.eqv p.dat q.dat),H,I,rfl,hq⟩
end
noncomputable def Zbx(g:Bool->Bool)(x y:PV):Rr PV:=if (okD x&&okD y)=true then .ok (.bl (g (PyData.eqv x.dat y.dat))) else .bad
def ZcD(i j:Int):Prop:=i.natAbs<2^60000/\j.natAbs<2^60000
def ZcE(i j:Int):Prop:=0<j/\j.natAbs<2^9000
noncomputable instance (i j:Int):Decidable (ZcD i j):=by unfold ZcD;infer_instance
noncomputable instance (i j:Int):Decidable (ZcE i j):=by unfold ZcE;infer_instance
noncomputable instance (i j:Int):Decidable (Zjz i j):=by unfold Zjz;infer_instance
theorem Zgi{i:Int}{n:Nat}(h:i.natAbs<2^n):Builtin.Int.intBits i<=n:=by
 unfold Builtin.Int.intBits
 split
 ·exact Zui _
 ·rename_i h0
  have:i.natAbs≠0:=by simpa using h0
  exact Nat.succ_le_of_lt ((Nat.log2_lt this).mpr h)
section
variable {X:Cx}
theorem Ug:OpR X (binaryOp .Mult) (rI ZcD fun i j=>.int (i*j)):=opI fun _ _ _ _ _ _ _ hc q=>mul_int q (PyProof.Rows.mulOk_of_bits (Zgi hc.1) (Zgi hc.2) (by decide))
theorem Vp:OpR X (binaryOp .FloorDiv) (rI ZcE fun i j=>.int (i/j)):=opI fun i j _ _ _ _ _ hc q=>by
 refine floordiv_int (by have:=hc.1;lia) ?_ (.inl (PyProof.noPylong_of_log2 ?_))
 ·rw[Int.fdiv_eq_ediv_of_nonneg _ (by have:=hc.1;lia)];exact q
 ·have h0:j.natAbs≠0:=by have:=hc.1;lia
  exact(Nat.log2_lt h0).mpr hc.2
variable {K:W.Frag}{B:Addr->Prop}{EX:PX->Hp->Prop}{H0 H:Hp}{σ:St}{Γ Γ' Γ1 Γ2:List Md}{ρ:List PV}{F:Nat->List Addr}{R:List Addr}{k:Kd}{x:PV}{v:V}{ta tb:TE}{fa fb fc:List PV->Rr PV}
noncomputable abbrev Zls:PV->PV->Rr PV:=oI (fun _ _=>true) fun i j=>.int (i+j)
noncomputable abbrev ZlU:PV->PV->Rr PV:=oI (fun _ _=>true) fun i j=>.int (i-j)
noncomputable abbrev Zlp:PV->PV->Rr PV:=oI (fun i j=>decide (ZcD i j)) fun i j=>.int (i*j)
noncomputable abbrev Zlr:PV->PV->Rr PV:=oI (fun i j=>decide (ZcE i j)) fun i j=>.int (i/j)
noncomputable abbrev ZlV:PV->PV->Rr PV:=oI (fun _ j=>decide (0<j)) fun i j=>.int (i%j)
noncomputable abbrev ZjN:PV->PV->Rr PV:=oI (fun i j=>decide (Zjz i j)) fun i j=>.int (i^j.toNat)
noncomputable abbrev pLt:PV->PV->Rr PV:=oI (fun _ _=>true) fun i j=>.bl (decide (i<j))
noncomputable abbrev pLe:PV->PV->Rr PV:=oI (fun _ _=>true) fun i j=>.bl (decide (i<=j))
noncomputable abbrev pGt:PV->PV->Rr PV:=oI (fun _ _=>true) fun i j=>.bl (decide (j<i))
noncomputable abbrev pGe:PV->PV->Rr PV:=oI (fun _ _=>true) fun i j=>.bl (decide (j<=i))
theorem Zhj{D:Int->Int->Prop}{C:Int->Int->Bool}{g:Int->Int->PV}{g':Int->Int->V}(hC:∀i j,C i j=true->D i j)(hg:∀H i j,Rep K H (fun _=>True) (g i j) (g' i j))(hf:∀i j,(g i j).flat=true)(ha:DE K EX Γ Γ1 .A ta fa)(hb:DE K EX Γ1 Γ2 .A tb fb):DE K EX Γ Γ2 .P (tOp (rI D g') ta tb) (fun ρ=>(fa ρ).bind fun x=>(fb ρ).bind fun y=>oI C g x y):=
 Zhi (Zmg hC hg hf) (Zfm hf) Zdc ha hb
theorem Zav{g:Int->Int->PV}{g':Int->Int->V}(hg:∀H i j,Rep K H (fun _=>True) (g i j) (g' i j))(hf:∀i j,(g i j).flat=true)(ha:DE K EX Γ Γ1 .A ta fa)(hb:DE K EX Γ1 Γ2 .A tb fb):DE K EX Γ Γ2 .P (tOp (rI0 g') ta tb) (fun ρ=>(fa ρ).bind fun x=>(fb ρ).bind fun y=>oI (fun _ _=>true) g x y):=
 Zhi (Zlv hg hf) (Zfm hf) Zdc ha hb
theorem Jw(ha:DE K EX Γ Γ1 .A ta fa)(hb:DE K EX Γ1 Γ2 .A tb fb):DE K EX Γ Γ2 .P (tOp (rI0 fun i j=>.int (i+j)) ta tb) (fun ρ=>(fa ρ).bind fun x=>(fb ρ).bind fun y=>Zls x y):=Zav (fun _ _ _=>rfl) (fun _ _=>rfl) ha hb
theorem VL(ha:DE K EX Γ Γ1 .A ta fa)(hb:DE K EX Γ1 Γ2 .A tb fb):DE K EX Γ Γ2 .P (tOp (rI0 fun i j=>.int (i-j)) ta tb) (fun ρ=>(fa ρ).bind fun x=>(fb ρ).bind fun y=>ZlU x y):=Zav (fun _ _ _=>rfl) (fun _ _=>rfl) ha hb
theorem ZaR(ha:DE K EX Γ Γ1 .A ta fa)(hb:DE K EX Γ1 Γ2 .A tb fb):DE K EX Γ Γ2 .P (tOp (rI0 fun i j=>.bl (decide (i<j))) ta tb) (fun ρ=>(fa ρ).bind fun x=>(fb ρ).bind fun y=>pLt x y):=Zav (fun _ _ _=>rfl) (fun _ _=>rfl) ha hb
theorem Zl6(ha:DE K EX Γ Γ1 .A ta fa)(hb:DE K EX Γ1 Γ2 .A tb fb):DE K EX Γ Γ2 .P (tOp (rI0 fun i j=>.bl (decide (i<=j))) ta tb) (fun ρ=>(fa ρ).bind fun x=>(fb ρ).bind fun y=>pLe x y):=Zav (fun _ _ _=>rfl) (fun _ _=>rfl) ha hb
theorem QO(ha:DE K EX Γ Γ1 .A ta fa)(hb:DE K EX Γ1 Γ2 .A tb fb):DE K EX Γ Γ2 .P (tOp (rI0 fun i j=>.bl (decide (j<i))) ta tb) (fun ρ=>(fa ρ).bind fun x=>(fb ρ).bind fun y=>pGt x y):=Zav (fun _ _ _=>rfl) (fun _ _=>rfl) ha hb
theorem Zk7(ha:DE K EX Γ Γ1 .A ta fa)(hb:DE K EX Γ1 Γ2 .A tb fb):DE K EX Γ Γ2 .P (tOp (rI0 fun i j=>.bl (decide (j<=i))) ta tb) (fun ρ=>(fa ρ).bind fun x=>(fb ρ).bind fun y=>pGe x y):=Zav (fun _ _ _=>rfl) (fun _ _=>rfl) ha hb
theorem QN(ha:DE K EX Γ Γ1 .A ta fa)(hb:DE K EX Γ1 Γ2 .A tb fb):DE K EX Γ Γ2 .P (tOp (rI ZcD fun i j=>.int (i*j)) ta tb) (fun ρ=>(fa ρ).bind fun x=>(fb ρ).bind fun y=>Zlp x y):=Zhj (fun _ _ h=>of_decide_eq_true h) (fun _ _ _=>rfl) (fun _ _=>rfl) ha hb
theorem QP(ha:DE K EX Γ Γ1 .A ta fa)(hb:DE K EX Γ1 Γ2 .A tb fb):DE K EX Γ Γ2 .P (tOp (rI ZcE fun i j=>.int (i/j)) ta tb) (fun ρ=>(fa ρ).bind fun x=>(fb ρ).bind fun y=>Zlr x y):=Zhj (fun _ _ h=>of_decide_eq_true h) (fun _ _ _=>rfl) (fun _ _=>rfl) ha hb
theorem J0(ha:DE K EX Γ Γ1 .A ta fa)(hb:DE K EX Γ1 Γ2 .A tb fb):DE K EX Γ Γ2 .P (tOp (rI (fun _ j=>0<j) fun i j=>.int (i%j)) ta tb) (fun ρ=>(fa ρ).bind fun x=>(fb ρ).bind fun y=>ZlV x y):=Zhj (fun _ _ h=>of_decide_eq_true h) (fun _ _ _=>rfl) (fun _ _=>rfl) ha hb
theorem QM(ha:DE K EX Γ Γ1 .A ta fa)(hb:DE K EX Γ1 Γ2 .A tb fb):DE K EX Γ Γ2 .P (tOp (rI Zjz fun i j=>.int (i^j.toNat)) ta tb) (fun ρ=>(fa ρ).bind fun x=>(fb ρ).bind fun y=>ZjN x y):=Zhj (fun _ _ h=>of_decide_eq_true h) (fun _ _ _=>rfl) (fun _ _=>rfl) ha hb
noncomputable def ZkO(x:PV):Rr PV:=match x with
 |.int i=>.ok (.int (-i))
 |_=>.bad
theorem Zd6(ha:DE K EX Γ Γ1 .A ta fa):DE K EX Γ Γ1 .P (tUn (rU fun i=>.int (-i)) ta) (fun ρ=>(fa ρ).bind ZkO):=by
 refine Zl4 (fun {H x v Q} rx ⟨z,e,q⟩=>?_) (fun x e h=>?_) ha
 ·cases x<;>first|(simp only[ZkO] at e;cases e;done)|skip
  cases e;cases rx
  exact⟨_,rfl,q rfl _ rfl⟩
 ·cases x<;>(simp only[ZkO] at h;cases h)
theorem ZdZ{g:Bool->Bool}(x y:PV)(e:PX):Zbx g x y≠.exc e:=by
 unfold Zbx
 intro h
 split at h<;>cases h
theorem Zff{g:Bool->Bool}(x y z:PV)(h:Zbx g x y=.ok z):z.flat=true:=by
 unfold Zbx at h
 split at h
 ·cases h;rfl
 ·cases h
theorem Jc{g:Bool->Bool}(ha:DE K EX Γ Γ1 .A ta fa)(hb:DE K EX Γ1 Γ2 .A tb fb):DE K EX Γ Γ2 .P (tOp (Zlk K g) ta tb) (fun ρ=>(fa ρ).bind fun x=>(fb ρ).bind fun y=>Zbx g x y):=by
 refine Zhi (fun {H x y v w Q} rx ry ⟨z,e,q⟩=>?_) Zff ZdZ ha hb
 unfold Zbx at e
 by_cases h:(okD x&&okD y)=true
 ·rw[if_pos h] at e;cases e
  rw[Bool.and_eq_true] at h
  exact⟨x,y,rx,ry,h.1,h.2,q rfl _ rfl⟩
 ·rw[if_neg h] at e;cases e
noncomputable def ZjR(g:Bool->Bool)(x:PV):Rr PV:=match x with
 |.non=>.ok (.bl (g true))
 |_=>.ok (.bl (g false))
theorem ZeG{x:PV}{v:V}{S:Addr->Prop}(h:Rep K H S x v):decide (v=.non)=match x with|.non=>true|_=>false:=by
 cases x<;>first|(cases h;rfl)|(obtain⟨a,vs,rfl,_⟩:=h;rfl)|(obtain⟨a,vs,c,rfl,_⟩:=h;rfl)|(obtain⟨a,o,c,d,fs,rfl,_⟩:=h;rfl)
theorem Zk6(ha:DE K EX Γ Γ1 .A ta fa):DE K EX Γ Γ1 .P (tOp (fun x y H Q=>y=.non/\Q (.bl (decide (x=.non))) H) ta (tC .non)) (fun ρ=>(fa ρ).bind (ZjR id)):=fun B H0 H σ ρ F R Q A d=>by
 refine ha B H0 H σ ρ F R _ A (d.bind.imp (fun x _ d v H1 s1 r1=>?_) fun e q=>q)
 obtain⟨F1,f1,p1,A1⟩:=r1
 have e:=ZeG p1
 refine⟨rfl, ?_⟩
 rw[e]
 cases x<;>exact d _ H1 s1 ⟨F1,f1,rfl,rfl,A1⟩
theorem Zjf(ha:DE K EX Γ Γ1 .A ta fa):DE K EX Γ Γ1 .P (tOp (fun x y H Q=>y=.non/\Q (.bl (!decide (x=.non))) H) ta (tC .non)) (fun ρ=>(fa ρ).bind (ZjR (!·))):=fun B H0 H σ ρ F R Q A d=>by
 refine ha B H0 H σ ρ F R _ A (d.bind.imp (fun x _ d v H1 s1 r1=>?_) fun e q=>q)
 obtain⟨F1,f1,p1,A1⟩:=r1
 have e:=ZeG p1
 refine⟨rfl, ?_⟩
 rw[e]
 cases x<;>exact d _ H1 s1 ⟨F1,f1,rfl,rfl,A1⟩
noncomputable def asB(x:PV):Rr Bool:=match x with
 |.bl b=>.ok b
 |_=>.bad
theorem Dn.asB{x:PV}{ok:Bool->Prop}{ex:PX->Prop}(d:Dn (asB x) ok ex):∃b,x=.bl b/\ok b:=by
 cases x with
 |bl b=>exact⟨b,rfl,d⟩
 |_=>exact d.elim
theorem Zk3(ha:DE K EX Γ Γ1 .A ta fa):DE K EX Γ Γ1 .P (Zj6 ta) (fun ρ=>(fa ρ).bind fun x=>(asB x).bind fun b=>.ok (.bl (!b))):=fun B H0 H σ ρ F R Q A d=>by
 refine ha B H0 H σ ρ F R _ A (d.bind.imp (fun x _ d v H1 s1 r1=>?_) fun e q=>q)
 obtain⟨b,rfl,d⟩:=d.bind.asB
 obtain⟨F1,f1,p1,A1⟩:=r1
 cases p1
 exact⟨b,rfl,d _ H1 s1 ⟨F1,f1,rfl,rfl,A1⟩⟩
theorem Res.shift{H1:Hp}{F1:Nat->List Addr}{k:Kd}{Γ2:List Md}{y:PV}{w:V}{H2:Hp}(s1:Z5 H H1)(f1:∀i,∀a∈F1 i,a∈F i)(h:Res K B H0 H1 σ Γ2 ρ F1 R k y w H2):Res K B H0 H σ Γ2 ρ F R k y w H2:=by
 obtain⟨F2,f2,h⟩:=h
 refine⟨F2,fun i a ha=>f1 i a (f2 i a ha), ?_⟩
 have org:∀a,(H1 a=none\/∃i,a∈F1 i)->(H a=none\/∃i,a∈F i):=fun a h=>h.elim (fun z=>.inl (s1.free z)) fun⟨i,z⟩=>.inr ⟨i,f1 i a z⟩
 cases k with
 |P=>exact h
 |F=>obtain⟨G,h1,h2,h3⟩:=h;exact⟨G,h1,fun a ha=>⟨(h2 a ha).1,org a (h2 a ha).2⟩,h3⟩
 |T=>obtain⟨a,vs,xs,h1,h2,h3,h4,h5,h6,h7⟩:=h;exact⟨a,vs,xs,h1,h2,h3,h4,h5,org a h6,h7⟩
 |Z=>exact h
 |A=>exact h
 |N=>exact h.elim
 |M=>exact h.elim
theorem ZbC(ha:DE K EX Γ Γ .A ta fa)(hb:DE K EX Γ Γ .P tb fb):DE K EX Γ Γ .P (ZjA ta tb) (fun ρ=>(fa ρ).bind fun x=>(asB x).bind fun b=>if b=true then fb ρ else .ok (.bl false)):=fun B H0 H σ ρ F R Q A d=>by
 refine ha B H0 H σ ρ F R _ A (d.bind.imp (fun x _ d v H1 s1 r1=>?_) fun e q=>q)
 obtain⟨b,rfl,d⟩:=d.bind.asB
 obtain⟨F1,f1,p1,A1⟩:=r1
 cases p1
 refine⟨b,rfl, ?_⟩
 cases b with
 |true=>exact hb B H0 H1 σ ρ F1 R _ A1 (d.imp (fun y _ q w H2 s2 r2=>q w H2 (s1.trans s2) (r2.shift s1 f1)) fun e q=>q)
 |false=>exact d _ H1 s1 ⟨F1,f1,rfl,rfl,A1⟩
theorem Zl5(ha:DE K EX Γ Γ .A ta fa)(hb:DE K EX Γ Γ .P tb fb):DE K EX Γ Γ .P (ZlK ta tb) (fun ρ=>(fa ρ).bind fun x=>(asB x).bind fun b=>if b=true then .ok (.bl true) else fb ρ):=fun B H0 H σ ρ F R Q A d=>by
 refine ha B H0 H σ ρ F R _ A (d.bind.imp (fun x _ d v H1 s1 r1=>?_) fun e q=>q)
 obtain⟨b,rfl,d⟩:=d.bind.asB
 obtain⟨F1,f1,p1,A1⟩:=r1
 cases p1
 refine⟨b,rfl, ?_⟩
 cases b with
 |false=>exact hb B H0 H1 σ ρ F1 R _ A1 (d.imp (fun y _ q w H2 s2 r2=>q w H2 (s1.trans s2) (r2.shift s1 f1)) fun e q=>q)
 |true=>exact d _ H1 s1 ⟨F1,f1,rfl,rfl,A1⟩
theorem Zy(ha:DE K EX Γ Γ' .A ta fa):DT K EX Γ Γ' (Zis ta) (fun ρ=>(fa ρ).bind asB):=fun B H0 H σ ρ F R Q A d=>by
 refine ha B H0 H σ ρ F R _ A (d.bind.imp (fun x _ d v H1 s1 r1=>?_) fun e q=>q)
 obtain⟨b,rfl,d⟩:=d.asB
 obtain⟨F1,f1,p1,A1⟩:=r1
 cases p1
 exact⟨b,rfl,d H1 F1 s1 f1 A1⟩
theorem Zag(ha:DE K EX Γ Γ' .A ta fa):DT K EX Γ Γ' (tB ta) (fun ρ=>(fa ρ).bind asB):=Zy ha
theorem Zat{c d:TT}{fc fd:List PV->Rr Bool}(hc:DT K EX Γ Γ c fc)(hd:DT K EX Γ Γ d fd):DT K EX Γ Γ (ZlO c d) (fun ρ=>(fc ρ).bind fun b=>if b=true then fd ρ else .ok false):=fun B H0 H σ ρ F R Q A dn=>by
 refine hc B H0 H σ ρ F R _ A (dn.bind.imp (fun b _ dn H1 F1 s1 f1 A1=>?_) fun e q=>q)
 cases b with
 |true=>exact hd B H0 H1 σ ρ F1 R _ A1 (dn.imp (fun y _ q H2 F2 s2 f2 A2=>q H2 F2 (s1.trans s2) (fun i a h=>f1 i a (f2 i a h)) A2) fun e q=>q)
 |false=>exact dn H1 F1 s1 f1 A1
theorem VH{c d:TT}{fc fd:List PV->Rr Bool}(hc:DT K EX Γ Γ c fc)(hd:DT K EX Γ Γ d fd):DT K EX Γ Γ (tOr c d) (fun ρ=>(fc ρ).bind fun b=>if b=true then .ok true else fd ρ):=fun B H0 H σ ρ F R Q A dn=>by
 refine hc B H0 H σ ρ F R _ A (dn.bind.imp (fun b _ dn H1 F1 s1 f1 A1=>?_) fun e q=>q)
 cases b with
 |false=>exact hd B H0 H1 σ ρ F1 R _ A1 (dn.imp (fun y _ q H2 F2 s2 f2 A2=>q H2 F2 (s1.trans s2) (fun i a h=>f1 i a (f2 i a h)) A2) fun e q=>q)
 |true=>exact dn H1 F1 s1 f1 A1
theorem Jz{c:TT}{fc:List PV->Rr Bool}(hc:DT K EX Γ Γ' c fc):DT K EX Γ Γ' (Zlb c) (fun ρ=>(fc ρ).bind fun b=>.ok (!b)):=fun B H0 H σ ρ F R Q A dn =>
 hc B H0 H σ ρ F R _ A (dn.bind.imp (fun b _ dn H1 F1 s1 f1 A1=>dn H1 F1 s1 f1 A1) fun e q=>q)
end
def DAA(K:W.Frag)(EX:PX->Hp->Prop)(Γ Γ':List Md)(ta:TA)(f:List PV->Rr (List PV)):Prop:=
 ∀(B:Addr->Prop) (H0 H:Hp) (σ:St) (ρ:List PV) (F:Nat->List Addr) (R:List Addr) (Q:List V->Hp->Prop),Ag K B H0 H σ Γ ρ F R ->
  Dn (f ρ) (fun xs=>∀vs H' F',Z5 H H'->(∀i,∀a∈F' i,a∈F i)->Reps K H' (fun _=>True) xs vs->Ag K B H0 H' σ Γ' ρ F' R->Q vs H') (fun e=>∀H',Z5 H0 H'->EX e H')->ta σ H Q
def DAF(K:W.Frag)(EX:PX->Hp->Prop)(Γ Γ':List Md)(ta:TA)(f:List PV->Rr (List PV)):Prop:=
 ∀(B:Addr->Prop) (H0 H:Hp) (σ:St) (ρ:List PV) (F:Nat->List Addr) (R:List Addr) (Q:List V->Hp->Prop),Ag K B H0 H σ Γ ρ F R ->
  Dn (f ρ) (fun xs=>∀vs H' F' G,Z5 H H'->(∀i,∀a∈F' i,a∈F i)->Trees K H' xs vs G->(∀a∈G,a ∉ R/\(H a=none\/∃i,a∈F i))->Ag K B H0 H' σ Γ' ρ F' (G++R)->Q vs H') (fun e=>∀H',Z5 H0 H'->EX e H')->ta σ H Q
section
variable {K:W.Frag}{B:Addr->Prop}{EX:PX->Hp->Prop}{H0 H H':Hp}{σ:St}{Γ Γ' Γ1 Γ2:List Md}{ρ:List PV}{F F':Nat->List Addr}{R:List Addr}{k:Kd}{x:PV}{v:V}{te tb:TE}{ta:TA}{f fb:List PV->Rr PV}{fa:List PV->Rr (List PV)}
theorem Zg:DAA K EX Γ Γ ZbT (fun _=>.ok []):=fun B H0 H σ ρ F R Q A d=>d [] H F (Z5.refl H) (fun _ _ h=>h) rfl A
theorem Zb(he:DE K EX Γ Γ1 .A te f)(ha:DAA K EX Γ1 Γ2 ta fa):DAA K EX Γ Γ2 (V6 te ta) (fun ρ=>(f ρ).bind fun x=>(fa ρ).bind fun xs=>.ok (x::xs)):=fun B H0 H σ ρ F R Q A d=>by
 refine he B H0 H σ ρ F R _ A (d.bind.imp (fun x _ d v H1 s1 r1=>?_) fun e q=>q)
 obtain⟨F1,f1,p1,A1⟩:=r1
 refine ha B H0 H1 σ ρ F1 R _ A1 (d.bind.imp (fun xs _ d vs H2 F2 s2 f2 p2 A2=>?_) fun e q=>q)
 exact d (v::vs) H2 F2 (s1.trans s2) (fun i a h=>f1 i a (f2 i a h)) ⟨v,vs,rfl,p1.same s2,p2⟩ A2
theorem ZY:DAF K EX Γ Γ ZbT (fun _=>.ok []):=fun B H0 H σ ρ F R Q A d=>d [] H F [] (Z5.refl H) (fun _ _ h=>h) ⟨rfl,rfl⟩ (by simp) A
theorem Zp(he:DE K EX Γ Γ1 .F te f)(ha:DAF K EX Γ1 Γ2 ta fa):DAF K EX Γ Γ2 (V6 te ta) (fun ρ=>(f ρ).bind fun x=>(fa ρ).bind fun xs=>.ok (x::xs)):=fun B H0 H σ ρ F R Q A d=>by
 refine he B H0 H σ ρ F R _ A (d.bind.imp (fun x _ d v H1 s1 r1=>?_) fun e q=>q)
 obtain⟨F1,f1,G1,p1,o1,A1⟩:=r1
 refine ha B H0 H1 σ ρ F1 (G1++R) _ A1 (d.bind.imp (fun xs _ d vs H2 F2 G2 s2 f2 p2 o2 A2=>?_) fun e q=>q)
 refine d (v::vs) H2 F2 (G1++G2) (s1.trans s2) (fun i a h=>f1 i a (f2 i a h)) ⟨v,vs,G1,G2,rfl,p1.same s2,p2,fun a ha z=>(o2 a z).1 (Ztj _ ha),rfl⟩ (fun a ha=>?_) (A2.less fun a ha=>?_)
 ·rcases Zti.mp ha with z|z
  ·exact o1 a z
  ·obtain⟨o3,o4⟩:=o2 a z
   exact⟨fun q=>o3 (Ztg _ q),o4.elim (fun q=>.inl (s1.free q)) fun⟨i,q⟩=>.inr ⟨i,f1 i a q⟩⟩
 ·simp only[Zti] at ha ⊢
  rcases ha with (z|z)|z
  ·exact .inr (.inl z)
  ·exact .inl z
  ·exact .inr (.inr z)
noncomputable def mkT(xs:List PV):Rr PV:=if xs.length<=1000 then .ok (.tup xs) else .bad
noncomputable def mkL(xs:List PV):Rr PV:=if xs.length<=1000 then .ok (.lst xs) else .bad
theorem Dn.mkT{xs:List PV}{ok:PV->Prop}{ex:PX->Prop}(d:Dn (mkT xs) ok ex):xs.length<=1000/\ok (.tup xs):=by
 unfold L2.mkT at d
 by_cases h:xs.length<=1000
 ·rw[if_pos h] at d;exact⟨h,d⟩
 ·rw[if_neg h] at d;exact d.elim
theorem Dn.mkL{xs:List PV}{ok:PV->Prop}{ex:PX->Prop}(d:Dn (mkL xs) ok ex):xs.length<=1000/\ok (.lst xs):=by
 unfold L2.mkL at d
 by_cases h:xs.length<=1000
 ·rw[if_pos h] at d;exact⟨h,d⟩
 ·rw[if_neg h] at d;exact d.elim
theorem Vt(ha:DAF K EX Γ Γ' ta fa):DE K EX Γ Γ' .F (ZkM ta) (fun ρ=>(fa ρ).bind mkT):=fun B H0 H σ ρ F R Q A d=>by
 refine ha B H0 H σ ρ F R _ A (d.bind.imp (fun xs _ d vs H1 F1 G s1 f1 p1 o1 A1=>?_) fun e q=>q)
 obtain⟨hl,d⟩:=d.mkT
 refine⟨by rw[p1.length];exact ZaJ hl,fun p hp=>?_⟩
 have e:Z5 H1 (upd H1 p (.tup vs)):=Z5.new hp
 exact d _ _ (s1.trans e) ⟨F1,f1,G,⟨p,vs,rfl,⟨ZD,trivial⟩,p1.same e⟩,o1,A1.grow e⟩
theorem ZT(ha:DAA K EX Γ Γ' ta fa):DE K EX Γ Γ' .A (ZkM ta) (fun ρ=>(fa ρ).bind mkT):=fun B H0 H σ ρ F R Q A d=>by
 refine ha B H0 H σ ρ F R _ A (d.bind.imp (fun xs _ d vs H1 F1 s1 f1 p1 A1=>?_) fun e q=>q)
 obtain⟨hl,d⟩:=d.mkT
 refine⟨by rw[p1.length];exact ZaJ hl,fun p hp=>?_⟩
 have e:Z5 H1 (upd H1 p (.tup vs)):=Z5.new hp
 exact d _ _ (s1.trans e) ⟨F1,f1,⟨p,vs,rfl,⟨ZD,trivial⟩,p1.same e⟩,A1.grow e⟩
theorem Res.newF{H1:Hp}{F1:Nat->List Addr}{G:List Addr}{xs:List PV}{vs:List V}{p:Addr}(s1:Z5 H H1)(f1:∀i,∀a∈F1 i,a∈F i)(p1:Trees K H1 xs vs G)(o1:∀a∈G,a ∉ R/\(H a=none\/∃i,a∈F i))(A1:Ag K B H0 H1 σ Γ' ρ F1 (G++R))(hp:H1 p=none) :
  Res K B H0 H σ Γ' ρ F R .F (.lst xs) (.ref p) (upd H1 p (.lst vs)):=by
 have e:Z5 H1 (upd H1 p (.lst vs)):=Z5.new hp
 have hf:=A1.fresh hp
 refine⟨F1,f1,p::G,⟨p,vs,G,rfl,ZD,p1.same e,fun z=>hf.1 (Ztj _ z),rfl⟩,fun a ha=>?_,A1.new hp⟩
 rcases Zts.mp ha with rfl|z
 ·exact⟨fun z=>hf.1 (Ztg _ z),.inl (s1.free hp)⟩
 ·exact o1 a z
theorem Res.newP{H1:Hp}{F1:Nat->List Addr}{xs:List PV}{vs:List V}{p:Addr}{S:Addr->Prop}(s1:Z5 H H1)(f1:∀i,∀a∈F1 i,a∈F i)(p1:Reps K H1 S xs vs)(hx:PV.flats xs=true)(A1:Ag K B H0 H1 σ Γ' ρ F1 R)(hp:H1 p=none) :
  Res K B H0 H σ Γ' ρ F R .F (.lst xs) (.ref p) (upd H1 p (.lst vs)):=Res.newF (G:=[]) s1 f1 (p1.trees hx) (by simp) A1 hp
theorem Vu(ha:DAF K EX Γ Γ' ta fa):DE K EX Γ Γ' .F (Zlc ta) (fun ρ=>(fa ρ).bind mkL):=fun B H0 H σ ρ F R Q A d=>by
 refine ha B H0 H σ ρ F R _ A (d.bind.imp (fun xs _ d vs H1 F1 G s1 f1 p1 o1 A1=>?_) fun e q=>q)
 obtain⟨hl,d⟩:=d.mkL
 refine⟨by rw[p1.length];exact ZaJ hl,fun p hp=>d _ _ (s1.trans (Z5.new hp)) (Res.newF s1 f1 p1 o1 A1 hp)⟩
noncomputable def pIx(x y:PV):Rr PV:=match x,y with
 |.lst xs,.int i=>match atI xs i with
  |some z=>.ok z
  |none=>.bad
 |.tup xs,.int i=>match atI xs i with
  |some z=>.ok z
  |none=>.bad
 |_,_=>.bad
theorem ZeF{S:Addr->Prop}{xs:List PV}{vs:List V}{i:Int}{z:PV}(h:Reps K H S xs vs)(e:atI xs i=some z):∃u,atI vs i=some u/\Rep K H S z u:=by
 unfold atI at e ⊢
 rw[h.length]
 cases q:ixN xs.length i with
 |none=>rw[q] at e;cases e
 |some j =>
  rw[q] at e
  obtain⟨u,e1,e2⟩:=h.get e
  exact⟨u,e1,e2⟩
theorem Zh5{S:Addr->Prop}{x y z:PV}{v w:V}{Q:VK}(hx:Rep K H S x v)(hy:Rep K H (fun _=>True) y w)(e:pIx x y=.ok z)(q:∀u,Rep K H S z u->Q u H):rIx K v w H Q:=by
 cases x<;>cases y<;>first|(simp only[pIx] at e;cases e;done)|skip
 ·rename_i xs i
  obtain⟨a,vs,rfl,hn,hr⟩:=hx
  cases hy
  simp only[pIx] at e
  cases e1:atI xs i with
  |none=>rw[e1] at e;cases e
  |some z' =>
   rw[e1] at e;cases e
   obtain⟨u,e2,e3⟩:=ZeF hr e1
   exact .inl ⟨a,vs,i,u,rfl,rfl,Uc hn,e2,q u e3⟩
 ·rename_i xs i
  obtain⟨a,vs,rfl,hn,hr⟩:=hx
  cases hy
  simp only[pIx] at e
  cases e1:atI xs i with
  |none=>rw[e1] at e;cases e
  |some z' =>
   rw[e1] at e;cases e
   obtain⟨u,e2,e3⟩:=ZeF hr e1
   exact .inr (.inl ⟨a,vs,i,u,rfl,rfl,hn.sqT,e2,q u e3⟩)
theorem Zfc(x y:PV)(e:PX):pIx x y≠.exc e:=by
 cases x<;>cases y<;>first|(intro h;simp only[pIx] at h;cases h;done)|skip
 all_goals
  intro h
  simp only[pIx] at h
  split at h<;>cases h
theorem Dn.pIx{x y:PV}{ok:PV->Prop}{ex:PX->Prop}(d:Dn (pIx x y) ok ex):∃z,pIx x y=.ok z/\ok z:=by
 cases e:L2.pIx x y with
 |ok z=>rw[e] at d;exact⟨z,rfl,d⟩
 |exc q=>exact absurd e (Zfc x y q)
 |bad=>rw[e] at d;exact d.elim
theorem Z7{te ta':TE}{fa':List PV->Rr PV}(ha:DE K EX Γ Γ1 .A ta' fa')(hb:DE K EX Γ1 Γ2 .A tb fb):DE K EX Γ Γ2 .A (tOp (rIx K) ta' tb) (fun ρ=>(fa' ρ).bind fun x=>(fb ρ).bind fun y=>pIx x y):=fun B H0 H σ ρ F R Q A d=>by
 refine two ha hb A d.bind2 fun x y v w H' F' d s hF p1 p2 A'=>?_
 obtain⟨z,e,d⟩:=d.pIx
 exact Zh5 p1 p2 e fun u hu=>d u H' s ⟨F',hF,hu,A'⟩
theorem Zk5{te ta':TE}{fa':List PV->Rr PV}(ha:DE K EX Γ Γ1 .Z ta' fa')(hb:DE K EX Γ1 Γ2 .A tb fb):DE K EX Γ Γ2 .Z (tOp (rIx K) ta' tb) (fun ρ=>(fa' ρ).bind fun x=>(fb ρ).bind fun y=>pIx x y):=fun B H0 H σ ρ F R Q A d=>by
 refine ha B H0 H σ ρ F R _ A (d.bind.imp (fun x _ d v H1 s1 r1=>?_) fun e q=>q)
 obtain⟨F1,f1,p1,A1⟩:=r1
 refine hb B H0 H1 σ ρ F1 R _ A1 (d.bind.imp (fun y _ d w H2 s2 r2=>?_) fun e q=>q)
 obtain⟨F2,f2,p2,A2⟩:=r2
 obtain⟨z,e,d⟩:=d.pIx
 have p1':Rep K H2 (NO B F2 R) x v:=Rep.mono (fun a us s r=>⟨r.same s2,s.1,s.2.1,fun i z=>s.2.2 i (f2 i a z)⟩) (fun a us r=>s2.im r) p1
 exact Zh5 p1' p2 e fun u hu=>d u H2 (s1.trans s2) ⟨F2,fun i a h=>f1 i a (f2 i a h),hu,A2⟩
def CbP(K:W.Frag)(r:List V->Hp->VK->Prop)(o:List PV->Rr PV):Prop:=∀{H:Hp}{xs:List PV}{vs:List V}{Q:VK},Reps K H (fun _=>True) xs vs->∀z,o xs=.ok z->z.flat=true/\((∀u,Rep K H (fun _=>True) z u->Q u H)->r vs H Q)
theorem Zem{r:List V->Hp->VK->Prop}{o:List PV->Rr PV}(hr:CbP K r o)(hx:∀xs e,o xs≠.exc e)(ha:DAA K EX Γ Γ' ta fa):DE K EX Γ Γ' .P (tCB r ta) (fun ρ=>(fa ρ).bind o):=fun B H0 H σ ρ F R Q A d=>by
 refine ha B H0 H σ ρ F R _ A (d.bind.imp (fun xs _ d vs H1 F1 s1 f1 p1 A1=>?_) fun e q=>q)
 cases e:o xs with
 |ok z =>
  rw[e] at d
  obtain⟨hf,h⟩:=hr (Q:=Q) p1 z e
  exact h fun u hu=>d u H1 s1 ⟨F1,f1,hf,hu,A1⟩
 |exc q=>exact absurd e (hx xs q)
 |bad=>rw[e] at d;exact d.elim
noncomputable def ZhE(xs:List PV):Rr PV:=match xs with
 |[.lst ys]=>.ok (.int ys.length)
 |[.tup ys]=>.ok (.int ys.length)
 |_=>.bad
theorem UT{S:Addr->Prop}{x:PV}{vs:List V}(h:Reps K H S [x] vs):∃v,vs=[v]/\Rep K H S x v:=by
 obtain⟨v,r,rfl,h1,h2⟩:=h
 cases h2
 exact⟨v,rfl,h1⟩
theorem Zli{S:Addr->Prop}{x y:PV}{vs:List V}(h:Reps K H S [x,y] vs):∃v w,vs=[v,w]/\Rep K H S x v/\Rep K H S y w:=by
 obtain⟨v,r,rfl,h1,w,r',rfl,h2,h3⟩:=h
 cases h3
 exact⟨v,w,rfl,h1,h2⟩
theorem Jv(ha:DAA K EX Γ Γ' ta fa):DE K EX Γ Γ' .P (tCB (fun xs H Q=>∃p ys,xs=[.ref p]/\(SqL K H p ys\/SqT K H p ys)/\Q (.int ys.length) H) ta) (fun ρ=>(fa ρ).bind ZhE):=by
 refine Zem (fun {H xs vs Q} h z e=>?_) (fun xs e h=>?_) ha
 ·unfold ZhE at e
  split at e<;>first|(cases e;done)|skip
  all_goals
   cases e
   refine⟨rfl,fun q=>?_⟩
   obtain⟨v,rfl,a,ws,rfl,hn,hr⟩:=UT h
   refine⟨a,ws,rfl, ?_,by rw[hr.length];exact q _ rfl⟩
   first|exact .inl (Uc (S:=fun _=>True) hn)|exact .inr hn.sqT
 ·unfold ZhE at h;split at h<;>cases h
noncomputable def V1:List PV->Option (List Int)
 |[]=>some []
 |.int i::xs=>(V1 xs).map (i::·)
 |_::_=>none
@[simp] theorem Zei(ns:List Int):V1 (ns.map PV.int)=some ns:=by
 induction ns with
 |nil=>rfl
 |cons n ns ih=>simp[V1,ih]
theorem VF:∀{xs:List PV}{ns:List Int},V1 xs=some ns->xs=ns.map PV.int
 |[],_,h=>by cases h;rfl
 |.int i::xs,ns,h=>by
  simp only[V1] at h
  cases e:V1 xs with
  |none=>rw[e] at h;cases h
  |some ms=>rw[e] at h;cases h;rw[VF e];rfl
 |.non::_,_,h=>by cases h
 |.bl _::_,_,h=>by cases h
 |.str _::_,_,h=>by cases h
 |.exc _::_,_,h=>by cases h
 |.exa _ _::_,_,h=>by cases h
 |.box _ _ _::_,_,h=>by cases h
 |.fz _::_,_,h=>by cases h
 |.lst _::_,_,h=>by cases h
 |.tup _::_,_,h=>by cases h
theorem Qv{S:Addr->Prop}:∀{ns:List Int}{vs:List V},Reps K H S (ns.map PV.int) vs->vs=ns.map V.int
 |[],_,h=>h
 |n::ns,_,h=>by
  obtain⟨v,r,rfl,h1,h2⟩:=h
  cases h1
  rw[Qv h2];rfl
theorem Zb5{S:Addr->Prop}:∀(ns:List Int),Reps K H S (ns.map PV.int) (ns.map V.int)
 |[]=>rfl
 |n::ns=>⟨_,_,rfl,rfl,Zb5 ns⟩
theorem Za5{S:Addr->Prop}{ns:List Int}{v:V}(h:Rep K H S (.lst (ns.map PV.int)) v):∃a,v=.ref a/\SqL K H a (ns.map V.int):=by
 obtain⟨a,vs,rfl,hn,hr⟩:=h
 rw[Qv hr] at hn
 exact⟨a,rfl,Uc hn⟩
noncomputable def Zbv(g:List Int->Rr PV)(xs:List PV):Rr PV:=match xs with
 |[.lst ys]=>match V1 ys with
  |some ns=>g ns
  |none=>.bad
 |_=>.bad
theorem Rr.ints{g:List Int->Rr PV}{xs:List PV}{z:PV}(e:Zbv g xs=.ok z):∃ns,xs=[.lst (ns.map PV.int)]/\g ns=.ok z:=by
 unfold Zbv at e
 split at e
 ·split at e
  ·rename_i ns h
   exact⟨ns,by rw[VF h],e⟩
  ·cases e
 ·cases e
theorem Q4{g:List Int->Rr PV}(hg:∀ns e,g ns≠.exc e)(xs:List PV)(e:PX):Zbv g xs≠.exc e:=by
 intro h
 unfold Zbv at h
 split at h
 ·split at h
  ·exact hg _ _ h
  ·cases h
 ·cases h
noncomputable abbrev Zlo:=Zbv fun ns=>.ok (.int ns.sum)
theorem ZfO(ha:DAA K EX Γ Γ' ta fa):DE K EX Γ Γ' .P (tCB (fun xs H Q=>∃p,∃ns:List Int,xs=[.ref p]/\SqL K H p (ns.map V.int)/\Q (.int ns.sum) H) ta) (fun ρ=>(fa ρ).bind Zlo):=by
 refine Zem (fun {H xs vs Q} h z e=>?_) (Q4 fun ns e h=>by cases h) ha
 obtain⟨ns,rfl,e'⟩:=Rr.ints e
 cases e'
 obtain⟨v,rfl,h1⟩:=UT h
 obtain⟨a,rfl,h2⟩:=Za5 h1
 exact⟨rfl,fun q=>⟨a,ns,rfl,h2,q _ rfl⟩⟩
noncomputable def Zb0:List Int->Int
 |[]=>0
 |[n]=>n
 |n::ns=>min n (Zb0 ns)
theorem U8:∀{ns:List Int},ns≠[]->Zb0 ns∈ns
 |[],h=>absurd rfl h
 |[n],_=>by simp[Zb0]
 |n::m::ns,_=>by
  have:=U8 (ns:=m::ns) (by simp)
  show min n (Zb0 (m::ns))∈n::m::ns
  rcases Int.le_total n (Zb0 (m::ns)) with h|h
  ·rw[Int.min_eq_left h];simp
  ·rw[Int.min_eq_right h];exact Zt9 _ this
theorem Zcn:∀{ns:List Int}{x:Int},x∈ns->Zb0 ns<=x
 |[n],x,h=>by simp at h;subst h;exact ZtZ _
 |n::m::ns,x,h=>by
  show min n (Zb0 (m::ns))<=x
  rcases Zts.mp h with rfl|h
  ·exact Int.min_le_left _ _
  ·exact ZuH (Int.min_le_right _ _) (Zcn h)
theorem Zfw{ns:List Int}{m:Int}(h1:m∈ns)(h2:∀a∈ns,m<=a):m=Zb0 ns:=Int.le_antisymm (h2 _ (U8 (List.ne_nil_of_mem h1))) (Zcn h1)
noncomputable abbrev Zlq:=Zbv fun ns=>if ns=[] then .bad else .ok (.int (Zb0 ns))
theorem Zk4(ha:DAA K EX Γ Γ' ta fa):DE K EX Γ Γ' .P (tCB (ZjG K) ta) (fun ρ=>(fa ρ).bind Zlq):=by
 refine Zem (fun {H xs vs Q} h z e=>?_) (Q4 fun ns e h=>by split at h<;>cases h) ha
 obtain⟨ns,rfl,e'⟩:=Rr.ints e
 by_cases hn:ns=[]
 ·rw[if_pos hn] at e';cases e'
 rw[if_neg hn] at e'
 cases e'
 obtain⟨v,rfl,h1⟩:=UT h
 obtain⟨a,rfl,h2⟩:=Za5 h1
 exact⟨rfl,fun q=>⟨a,ns,rfl,h2,List.length_pos_iff.mpr hn,fun m hm hl=>by rw[Zfw hm hl];exact q _ rfl⟩⟩
noncomputable def Zc5:List PV->Option (List Bool)
 |[]=>some []
 |.bl i::xs=>(Zc5 xs).map (i::·)
 |_::_=>none
@[simp] theorem Zgh(ns:List Bool):Zc5 (ns.map PV.bl)=some ns:=by
 induction ns with
 |nil=>rfl
 |cons n ns ih=>simp[Zc5,ih]
theorem ZdI:∀{xs:List PV}{ns:List Bool},Zc5 xs=some ns->xs=ns.map PV.bl
 |[],_,h=>by cases h;rfl
 |.bl i::xs,ns,h=>by
  simp only[Zc5] at h
  cases e:Zc5 xs with
  |none=>rw[e] at h;cases h
  |some ms=>rw[e] at h;cases h;rw[ZdI e];rfl
 |.non::_,_,h=>by cases h
 |.int _::_,_,h=>by cases h
 |.str _::_,_,h=>by cases h
 |.exc _::_,_,h=>by cases h
 |.exa _ _::_,_,h=>by cases h
 |.box _ _ _::_,_,h=>by cases h
 |.fz _::_,_,h=>by cases h
 |.lst _::_,_,h=>by cases h
 |.tup _::_,_,h=>by cases h
theorem ZcR{S:Addr->Prop}:∀{ns:List Bool}{vs:List V},Reps K H S (ns.map PV.bl) vs->vs=ns.map V.bl
 |[],_,h=>h
 |n::ns,_,h=>by
  obtain⟨v,r,rfl,h1,h2⟩:=h
  cases h1
  rw[ZcR h2];rfl
noncomputable def ZjT(xs:List PV):Rr PV:=match xs with
 |[.lst ys]=>match Zc5 ys with
  |some bs=>.ok (.bl (bs.all id))
  |none=>.bad
 |_=>.bad
theorem Zk8(ha:DAA K EX Γ Γ' ta fa):DE K EX Γ Γ' .P (tCB (fun xs H Q=>∃p,∃bs:List Bool,xs=[.ref p]/\SqL K H p (bs.map V.bl)/\Q (.bl (bs.all id)) H) ta) (fun ρ=>(fa ρ).bind ZjT):=by
 refine Zem (fun {H xs vs Q} h z e=>?_) (fun xs e h=>?_) ha
 ·unfold ZjT at e
  split at e
  ·split at e
   ·rename_i bs hb
    cases e
    rw[ZdI hb] at h
    obtain⟨v,rfl,a,ws,rfl,hn,hr⟩:=UT h
    rw[ZcR hr] at hn
    exact⟨rfl,fun q=>⟨a,bs,rfl,Uc (S:=fun _=>True) hn,q _ rfl⟩⟩
   ·cases e
  ·cases e
 ·unfold ZjT at h
  split at h
  ·split at h<;>cases h
  ·cases h
noncomputable def ZjS(xs:List PV):Rr PV:=match xs with
 |[.int i]=>.ok (.int i)
 |[.bl b]=>.ok (.int (if b then 1 else 0))
 |_=>.bad
theorem Zhh(ha:DAA K EX Γ Γ' ta fa):DE K EX Γ Γ' .P (tCB (fun xs H Q=>(∃i,xs=[.int i]/\Q (.int i) H)\/∃k,xs=[.bl k]/\Q (.int (if k then 1 else 0)) H) ta) (fun ρ=>(fa ρ).bind ZjS):=by
 refine Zem (fun {H xs vs Q} h z e=>?_) (fun xs e h=>?_) ha
 ·unfold ZjS at e
  split at e<;>first|(cases e;done)|skip
  ·cases e
   obtain⟨v,rfl,h1⟩:=UT h
   cases h1
   exact⟨rfl,fun q=>.inl ⟨_,rfl,q _ rfl⟩⟩
  ·cases e
   obtain⟨v,rfl,h1⟩:=UT h
   cases h1
   exact⟨rfl,fun q=>.inr ⟨_,rfl,q _ rfl⟩⟩
 ·unfold ZjS at h;split at h<;>cases h
end
theorem Qg{n:Nat}(h:n<=1000000):n<=sizeLine:=Zt7 h (by decide)
section
end
def Frm(H:Hp)(F:Nat->List Addr)(H':Hp)(F':Nat->List Addr):Prop:=∀a o,H a=some o->(∀i,a ∉ F i)->H' a=some o/\∀i,a ∉ F' i
theorem Frm.refl{H:Hp}{F:Nat->List Addr}:Frm H F H F:=fun a o h n=>⟨h,n⟩
theorem Frm.trans{H H1 H2:Hp}{F F1 F2:Nat->List Addr}(h1:Frm H F H1 F1)(h2:Frm H1 F1 H2 F2):Frm H F H2 F2:=fun a o h n=>let ⟨h3,n3⟩:=h1 a o h n;h2 a o h3 n3
theorem Frm.of{H H':Hp}{F F':Nat->List Addr}(s:Z5 H H')(f:∀i,∀a∈F' i,a∈F i):Frm H F H' F':=fun a o h n=>⟨s a o h,fun i z=>n i (f i a z)⟩
def ItP(K:W.Frag)(S:Addr->Prop)(J:It)(xs:List PV)(H:Hp):Prop:=
 ∀i,(∀x,xs[i]?=some x->J.go i H/\∀v H',J.yld i H v H'->Z5 H H'/\Rep K H' S x v)/\(xs[i]?=none->J.stop i H)
def DI(K:W.Frag)(EX:PX->Hp->Prop)(Γ Γ':List Md)(wi:TI)(f:List PV->Rr (List PV)):Prop:=
 ∀(B:Addr->Prop) (H0 H:Hp) (σ:St) (ρ:List PV) (F:Nat->List Addr) (R:List Addr) (Q:It->Hp->Prop),Ag K B H0 H σ Γ ρ F R ->
  Dn (f ρ) (fun xs=>∀J H' F',Z5 H H'->(∀i,∀a∈F' i,a∈F i)->Ag K B H0 H' σ Γ' ρ F' R->(∀H2 F2,Frm H' F' H2 F2->ItP K (fun a=>NO B F2 R a/\H' a≠none/\∀i,a ∉ F' i) J xs H2)->Q J H') (fun e=>∀H',Z5 H0 H'->EX e H')->wi σ H Q
def DIc(K:W.Frag)(EX:PX->Hp->Prop)(Γ Γ':List Md)(wi:TI)(f:List PV->Rr (List PV)):Prop:=
 ∀(B:Addr->Prop) (H0 H:Hp) (σ:St) (ρ:List PV) (F:Nat->List Addr) (R:List Addr) (Q:It->Hp->Prop),Ag K B H0 H σ Γ ρ F R ->
  Dn (f ρ) (fun xs=>∀J H' F',Z5 H H'->(∀i,∀a∈F' i,a∈F i)->Ag K B H0 H' σ Γ' ρ F' R->(∀H2 F2,Z5 H' H2->(∀i,∀a∈F2 i,a∈F' i)->ItP K (fun a=>NO B F2 R a/\H' a≠none/\∀i,a ∉ F' i) J xs H2)->Q J H') (fun e=>∀H',Z5 H0 H'->EX e H')->wi σ H Q
theorem DI.c{K:W.Frag}{EX:PX->Hp->Prop}{Γ Γ':List Md}{wi:TI}{f:List PV->Rr (List PV)}(h:DI K EX Γ Γ' wi f):DIc K EX Γ Γ' wi f:=fun B H0 H σ ρ F R Q A d =>
 h B H0 H σ ρ F R Q A (d.imp (fun xs _ d J H' F' s1 f1 A1 it=>d J H' F' s1 f1 A1 fun H2 F2 s2 f2=>it H2 F2 (Frm.of s2 f2)) fun e q=>q)
section
variable {K:W.Frag}{B:Addr->Prop}{EX:PX->Hp->Prop}{H0 H H':Hp}{σ:St}{Γ Γ':List Md}{ρ:List PV}{F:Nat->List Addr}{R:List Addr}{k:Kd}{x:PV}{v:V}{te:TE}{ta:TA}{f:List PV->Rr PV}{fa:List PV->Rr (List PV)}
theorem Rep.frm{F2:Nat->List Addr}{H2:Hp}(h:Frm H F H2 F2)(A:Ag K B H0 H σ Γ ρ F R)(r:Rep K H (NO B F R) x v):Rep K H2 (fun a=>NO B F2 R a/\H a≠none/\∀i,a ∉ F i) x v:=by
 refine Rep.mono (fun a us s r=>?_) (fun a us r=>?_) r
 ·rcases r with r|⟨o,r⟩
  ·obtain⟨h1,h2⟩:=h a _ r s.2.2;exact⟨.inl h1,⟨s.1,s.2.1,h2⟩,by rw[r];simp,s.2.2⟩
  ·obtain⟨h1,h2⟩:=h a _ r s.2.2;exact⟨.inr ⟨o,h1⟩,⟨s.1,s.2.1,h2⟩,by rw[r];simp,s.2.2⟩
 ·refine⟨(h a _ r.1 fun i z=>?_).1,r.2⟩
  obtain⟨vs,q⟩:=A.live i a z
  exact ZaI vs.2 r.2 (by rw[r.1] at q;exact Option.some.inj q)
noncomputable def ZdS(lo:Int)(n:Nat):List PV:=(List.range n).map fun(k:Nat)=>PV.int (lo+(k:Int))
theorem Zf6{lo:Int}{n:Nat}{S:Addr->Prop}:ItP K S (Itr lo n) (ZdS lo n) H:=by
 intro i
 constructor
 ·intro x hx
  unfold ZdS at hx
  rw[Zt2] at hx
  by_cases h:i<n
  ·rw[Zua h] at hx
   cases hx
   exact⟨h,fun v H' ⟨e1,e2⟩=>by subst e1 e2;exact⟨Z5.refl _,rfl⟩⟩
  ·rw[Ztt (by simpa using h)] at hx;cases hx
 ·intro hx
  unfold ZdS at hx
  have:=Zt8.mp hx
  show n<=i
  simpa using this
noncomputable def okR(j:Int):Bool:=decide (-(2^62)<=j/\j<2^62)
noncomputable def ZgE(xs:List PV):Rr (List PV):=match xs with
 |[.int j]=>if okR j=true then .ok (ZdS 0 j.toNat) else .bad
 |_=>.bad
noncomputable def ZgD(xs:List PV):Rr (List PV):=match xs with
 |[.int i,.int j]=>if (okR i&&okR j)=true then .ok (ZdS i (j-i).toNat) else .bad
 |_=>.bad
theorem Ur(ha:DAA K EX Γ Γ' ta fa):DI K EX Γ Γ' (Zkr ta) (fun ρ=>(fa ρ).bind ZgE):=fun B H0 H σ ρ F R Q A d=>by
 refine ha B H0 H σ ρ F R _ A (d.bind.imp (fun xs _ d vs H1 F1 s1 f1 p1 A1=>?_) fun e q=>q)
 unfold ZgE at d
 split at d
 ·rename_i j _
  obtain⟨v,rfl,h1⟩:=UT p1
  cases h1
  by_cases h:okR j=true
  ·rw[if_pos h] at d
   have h':=of_decide_eq_true h
   exact⟨j,rfl,h'.1,h'.2,d _ H1 F1 s1 f1 A1 fun H2 F2 _=>Zf6⟩
  ·rw[if_neg h] at d;exact d.elim
 ·exact d.elim
theorem Zc0(ha:DAA K EX Γ Γ' ta fa):DI K EX Γ Γ' (Zkq ta) (fun ρ=>(fa ρ).bind ZgD):=fun B H0 H σ ρ F R Q A d=>by
 refine ha B H0 H σ ρ F R _ A (d.bind.imp (fun xs _ d vs H1 F1 s1 f1 p1 A1=>?_) fun e q=>q)
 unfold ZgD at d
 split at d
 ·rename_i i j _
  obtain⟨v,w,rfl,h1,h2⟩:=Zli p1
  cases h1;cases h2
  by_cases h:(okR i&&okR j)=true
  ·rw[if_pos h] at d
   rw[Bool.and_eq_true] at h
   have h':=of_decide_eq_true h.1
   have h'':=of_decide_eq_true h.2
   exact⟨i,j,rfl,⟨h'.1,h'.2,h''.1,h''.2⟩,d _ H1 F1 s1 f1 A1 fun H2 F2 _=>Zf6⟩
  ·rw[if_neg h] at d;exact d.elim
 ·exact d.elim
noncomputable def asL(x:PV):Rr (List PV):=match x with
 |.lst xs=>.ok xs
 |_=>.bad
theorem ZiM{a:Addr}{xs:List PV}{S:Addr->Prop}(h:Rep K H S (.lst xs) (.ref a)):ItP K S (Itl K a) xs H:=by
 obtain⟨a',vs,e,hn,hr⟩:=h
 cases e
 intro i
 constructor
 ·intro x hx
  obtain⟨u,e1,e2⟩:=hr.get hx
  refine⟨⟨vs,u,Uc hn,e1⟩,fun v H' ⟨e,y⟩=>?_⟩
  subst e
  have:=y vs (Uc hn)
  rw[e1] at this;cases this
  exact⟨Z5.refl _,e2⟩
 ·intro hx
  exact⟨vs,Uc hn,by rw[hr.length];exact Zt8.mp hx⟩
theorem ZaP(he:DE K EX Γ Γ' .Z te f):DI K EX Γ Γ' (ZgZ K te) (fun ρ=>(f ρ).bind asL):=fun B H0 H σ ρ F R Q A d=>by
 refine he B H0 H σ ρ F R _ A (d.bind.imp (fun x _ d v H1 s1 r1=>?_) fun e q=>q)
 obtain⟨F1,f1,p1,A1⟩:=r1
 cases x with
 |lst xs =>
  obtain⟨a,vs,rfl,hn,hr⟩:=id p1
  exact⟨a,rfl,⟨vs,Uc hn⟩,d _ H1 F1 s1 f1 A1 fun H2 F2 h=>ZiM (p1.frm h A1)⟩
 |_=>exact d.elim
noncomputable def asI(x:PV):Rr Int:=match x with
 |.int i=>.ok i
 |_=>.bad
noncomputable def newF(xs:List PV):Rr PV:=if (PV.flats xs&&decide (xs.length<=1000000))=true then .ok (.lst xs) else .bad
theorem Dn.newF{xs:List PV}{ok:PV->Prop}{ex:PX->Prop}(d:Dn (newF xs) ok ex):PV.flats xs=true/\xs.length<=1000000/\ok (.lst xs):=by
 unfold L2.newF at d
 by_cases h:(PV.flats xs&&decide (xs.length<=1000000))=true
 ·rw[if_pos h] at d
  rw[Bool.and_eq_true] at h
  exact⟨h.1,of_decide_eq_true h.2,d⟩
 ·rw[if_neg h] at d;exact d.elim
noncomputable def ZgG(xs:List PV):Rr PV:=match xs with
 |[.lst ys]=>newF ys
 |[.tup ys]=>newF ys
 |_=>.bad
theorem JL(ha:DAA K EX Γ Γ' ta fa):DE K EX Γ Γ' .F (tCB (fun xs H Q=>∃p ys,xs=[.ref p]/\(SqL K H p ys\/SqT K H p ys)/\∀l,H l=none->Q (.ref l) (upd H l (.lst ys))) ta) (fun ρ=>(fa ρ).bind ZgG):=fun B H0 H σ ρ F R Q A d=>by
 refine ha B H0 H σ ρ F R _ A (d.bind.imp (fun xs _ d vs H1 F1 s1 f1 p1 A1=>?_) fun e q=>q)
 unfold ZgG at d
 split at d
 ·obtain⟨h1,h2,d⟩:=Dn.newF d
  obtain⟨v,rfl,a,ws,rfl,hn,hr⟩:=UT p1
  exact⟨a,ws,rfl,.inl (Uc (S:=fun _=>True) hn),fun l hl=>d _ _ (s1.trans (Z5.new hl)) (Res.newP s1 f1 hr h1 A1 hl)⟩
 ·obtain⟨h1,h2,d⟩:=Dn.newF d
  obtain⟨v,rfl,a,ws,rfl,hn,hr⟩:=UT p1
  exact⟨a,ws,rfl,.inr hn.sqT,fun l hl=>d _ _ (s1.trans (Z5.new hl)) (Res.newP s1 f1 hr h1 A1 hl)⟩
 ·exact d.elim
noncomputable def Vz:PV->String
 |.non => "NoneType"
 |.bl _ => "bool"
 |.int _ => "int"
 |.str _ => "str"
 |.lst _ => "list"
 |.tup _ => "tuple"
 |.exc _ => "?"
 |.exa _ _ => "?"
 |.box _ (.dk _) _ => "dict"
 |.box _ (.dt _) _ => "dict"
 |.box _ (.ob _ _) _ => "?"
 |.box _ .jk _ => "?"
 |.box _ .ls _ => "?"
 |.box _ (.dn _) _ => "?"
 |.fz _ => "?"
noncomputable def PV.isX:PV->Bool
 |.exc _=>true
 |.exa _ _=>true
 |.box _ _ _=>true
 |.fz _=>true
 |_=>false
noncomputable def QE(t n:String):Bool:=t==n || (t == "bool" && n == "int")
noncomputable def ZkW(n:String):Bool:=n == "int" || n == "bool" || n == "str" || n == "list" || n == "tuple"
theorem Zkd(K:W.Frag){n:String}(h:ZkW n=true)(x:PV)(hx:x.isX=false):PySem.W.kitOne K (.type (Vz x)) (.type n)=some (QE (Vz x) n):=by
 simp only[ZkW,Bool.or_eq_true,beq_iff_eq] at h
 rcases h with (((rfl|rfl)|rfl)|rfl)|rfl<;>cases x<;>first|rfl|cases hx
def ZlS(K:W.Frag)(n:String):List V->Hp->VK->Prop:=fun xs H Q=>∃x p,xs=[x,.ty n]/\Rep K H (fun _=>True) p x/\p.isX=false/\Q (.bl (QE (Vz p) n)) H
theorem Jl{X:Cx}{n:String}(hn:ZkW n=true)(e:X.K=K:=by rfl):Vy X (.builtin "isinstance") (ZlS K n):=by
 subst e
 intro pins s σ H xs us Q I r h
 obtain⟨x,p,rfl,hp,hx,q⟩:=h
 obtain⟨u,w',rfl,rx,rn⟩:=Zgt r
 cases rn
 have e:=Zkd X.K hn p hx
 have fin:∀tk,EP X pins σ Q (.bool (QE (Vz p) n)) { s with toks:=tk }:=fun tk=>⟨.bl _,H,I.tok _,rfl,q⟩
 cases p with
 |non=>cases hp;cases rx;exact PySem.W.kia_one PySem.W.kitx_none I.kIn True.intro e (fun z=>nomatch z) fin
 |bl y=>cases hp;cases rx;exact PySem.W.kia_one PySem.W.kitx_bool I.kIn True.intro e (fun z=>nomatch z) fin
 |int i=>cases hp;obtain⟨t,rfl⟩:=rx;exact PySem.W.kia_one PySem.W.kitx_int I.kIn True.intro e (fun z=>nomatch z) fin
 |str y=>cases hp;obtain⟨t,rfl⟩:=rx;exact PySem.W.kia_one PySem.W.kitx_str I.kIn True.intro e (fun z=>nomatch z) fin
 |exc y=>cases hx
 |exa y i=>cases hx
 |box p s ps=>cases hx
 |fz ps=>cases hx
 |lst ps =>
  obtain⟨a,vs,rfl,hn',hr⟩:=hp
  cases rx
  obtain⟨its,_,pl,_⟩:=I.list (Uc (S:=fun _=>True) hn')
  obtain⟨o,h1,h2,_⟩:=pl.isList
  exact PySem.W.kia_one PySem.W.kitx_list I.kIn ⟨o,h1,h2⟩ e (fun z=>nomatch z) fin
 |tup ps =>
  obtain⟨a,vs,rfl,hn',hr⟩:=hp
  cases rx
  obtain⟨its,_,⟨o,h1,h2,_⟩,_⟩:=I.tuple hn'.sqT
  exact PySem.W.kia_one PySem.W.kitx_tuple I.kIn ⟨o,h1,h2⟩ e (fun z=>nomatch z) fin
noncomputable def ZjQ(n:String)(x:PV):Rr PV:=if x.isX=true then .bad else .ok (.bl (QE (Vz x) n))
theorem VZ{n:String}(he:DE K EX Γ Γ' .A te f):DE K EX Γ Γ' .P (tCB (ZlS K n) (V6 te (V6 (tC (.ty n)) ZbT))) (fun ρ=>(f ρ).bind (ZjQ n)):=fun B H0 H σ ρ F R Q A d=>by
 refine he B H0 H σ ρ F R _ A (d.bind.imp (fun x _ d v H1 s1 r1=>?_) fun e q=>q)
 obtain⟨F1,f1,p1,A1⟩:=r1
 unfold ZjQ at d
 cases hx:x.isX with
 |true=>rw[hx] at d;exact d.elim
 |false=>rw[hx] at d;exact⟨v,x,rfl,p1,hx,d _ H1 s1 ⟨F1,f1,rfl,rfl,A1⟩⟩
def Len(fa:List PV->Rr (List PV))(n:Nat):Prop:=∀ρ xs,fa ρ=.ok xs->xs.length=n
theorem Zo:Len (fun _=>.ok []) 0:=fun ρ xs h=>by cases h;rfl
theorem Ze{f:List PV->Rr PV}{fa:List PV->Rr (List PV)}{n:Nat}(h:Len fa n):Len (fun ρ=>(f ρ).bind fun x=>(fa ρ).bind fun xs=>.ok (x::xs)) (n+1):=fun ρ xs e=>by
 dsimp only at e
 cases h1:f ρ with
 |ok x =>
  rw[h1] at e
  cases h2:fa ρ with
  |ok ys=>simp only[Rr.bind_ok,h2] at e;cases e;simp[h ρ ys h2]
  |exc q=>simp only[Rr.bind_ok,h2,Rr.bind_exc] at e;cases e
  |bad=>simp only[Rr.bind_ok,h2,Rr.bind_bad] at e;cases e
 |exc q=>rw[h1] at e;cases e
 |bad=>rw[h1] at e;cases e
def ZlF(K:W.Frag)(H:Hp)(a:Addr)(xs:List PV):Prop:=PV.flats xs=true/\∃vs,H a=some (.lst vs)/\Reps K H (fun _=>True) xs vs
def LsR(K:W.Frag)(H:Hp)(x:PV)(v:V)(H':Hp):Prop:=∃y a0 x0 a1 x1 a2 x2,x=.tup [y,.box (some a0) .ls x0,.box (some a1) .ls x1,.box (some a2) .ls x2]/\y.flat=true/\Rep K H' (fun _=>True) y v /\
 ZlF K H' a0 x0/\ZlF K H' a1 x1/\ZlF K H' a2 x2/\H a0=none/\H a1=none/\H a2=none
def Zgq(K:W.Frag)(B:Addr->Prop)(H:Hp)(k:Kd)(x:PV)(v:V)(H':Hp):Prop:=match k with
 |.P=>x.flat=true/\Rep K H' (fun _=>True) x v
 |.F=>∃G,Jf K H' x v G/\∀a∈G,H a=none
 |.N=>∃y a s xs G1 G2,x=.tup [y,.box (some a) s xs]/\Jf K H' y v G1/\Jf K H' (.box (some a) s xs) (.ref a) G2/\(∀b∈G1,b ∉ G2)/\(∀b∈G1,H b=none)/\∀b∈G2,H b=none
 |.M=>LsR K H x v H'
 |_=>Rep K H' (fun a=>B a\/H a=none) x v
noncomputable def spF(K:PySem.W.Frag)(n:Nat)(k:Kd)(W:PX->XK->Hp->Prop)(m:List PV->Rr PV):Sp:=fun vs H Q E=>∃B xs,Reps K H B xs vs/\xs.length=n /\
 Dn (m xs) (fun x=>∀v H',Z5 H H'->Zgq K B H k x v H'->Q v H') (fun e=>∀H',Z5 H H'->W e E H')
def W0:PX->XK->Hp->Prop:=fun _ _ _=>False
def X0:PX->Hp->Prop:=fun _ _=>False
section
variable {n:Nat}{W:PX->XK->Hp->Prop}{m:List PV->Rr PV}{E:XK}
theorem ZdA{t:TE}(ht:∀σ H Q,(ta σ H fun vs H1=>spF K n .P W m vs H1 Q E)->t σ H Q)(hW:∀e H',EX e H'->W e E H')(hn:Len fa n)(ha:DAA K EX Γ Γ' ta fa):DE K EX Γ Γ' .P t (fun ρ=>(fa ρ).bind m):=fun B H0 H σ ρ F R Q A d=>by
 refine ht _ _ _ (ha B H0 H σ ρ F R _ A (d.bind.imp (fun xs hx d vs H1 F1 s1 f1 p1 A1=>?_) fun e q=>q))
 exact⟨fun _=>True,xs,p1,hn ρ xs hx,d.imp (fun x _ d v H2 s2 r=>d v H2 (s1.trans s2) ⟨F1,f1,r.1,r.2,A1.grow s2⟩) fun e q H2 s2=>hW e H2 (q H2 (A1.same.trans s2))⟩
theorem ZdB{t:TE}(ht:∀σ H Q,(ta σ H fun vs H1=>spF K n .F W m vs H1 Q E)->t σ H Q)(hW:∀e H',EX e H'->W e E H')(hn:Len fa n)(ha:DAA K EX Γ Γ' ta fa):DE K EX Γ Γ' .F t (fun ρ=>(fa ρ).bind m):=fun B H0 H σ ρ F R Q A d=>by
 refine ht _ _ _ (ha B H0 H σ ρ F R _ A (d.bind.imp (fun xs hx d vs H1 F1 s1 f1 p1 A1=>?_) fun e q=>q))
 refine⟨fun _=>True,xs,p1,hn ρ xs hx,d.imp (fun x _ d v H2 s2 r=>?_) fun e q H2 s2=>hW e H2 (q H2 (A1.same.trans s2))⟩
 obtain⟨G,r1,r2⟩:=r
 exact d v H2 (s1.trans s2) ⟨F1,f1,G,r1,fun a ha=>⟨(A1.fresh (r2 a ha)).1,.inl (s1.free (r2 a ha))⟩,A1.more s2 r2 r1.alive⟩
end
end
noncomputable def Zgp{α β:Type}(f:α->Rr β):List α->Rr (List β)
 |[]=>.ok []
 |x::xs=>(f x).bind fun y=>(Zgp f xs).bind fun ys=>.ok (y::ys)
noncomputable def lenM(xs:List PV):Rr Unit:=if xs.length<=1000000 then .ok () else .bad
theorem Dn.lenM{xs:List PV}{ok:Unit->Prop}{ex:PX->Prop}(d:Dn (lenM xs) ok ex):xs.length<=1000000/\ok ():=by
 unfold L2.lenM at d
 by_cases h:xs.length<=1000000
 ·rw[if_pos h] at d;exact⟨h,d⟩
 ·rw[if_neg h] at d;exact d.elim
theorem Rr.assoc{α β γ:Type}{r:Rr α}{f:α->Rr β}{g:β->Rr γ}:(r.bind f).bind g=r.bind fun a=>(f a).bind g:=by cases r<;>rfl
section
variable {K:W.Frag}{B:Addr->Prop}{EX:PX->Hp->Prop}{H0 H H':Hp}{σ:St}{Γ Γ1:List Md}{ρ:List PV}{F:Nat->List Addr}{R:List Addr}{x:PV}{v:V}{te:TE}{fe:List PV->Rr PV}
theorem Ag.outF(A:Ag K B H0 H σ Γ ρ F R){i:Nat}(h:Γ.length<=i):F i=[]:=by
 have:=A.slot i
 rw[Ztf,Ztt h] at this
 exact this
theorem Ag.push(A:Ag K B H0 H σ Γ ρ F R)(h:Rep K H (NO B F R) x v):Ag K B H0 H (σ++[some v]) (Γ++[.S]) (ρ++[x]) F R:=by
 refine⟨A.same,A.own,A.young,A.youngR,A.live,A.liveR,A.disj,A.disjR,by simp[A.lenS],by simp[A.lenR],fun i=>?_⟩
 by_cases h1:i<Γ.length
 ·have:=A.slot i
  rw[Ztf,Ztf,Ztn h1,Ztn (by rw[A.lenR];exact h1),Ztn (by rw[A.lenS];exact h1),<- Ztf,<- Ztf]
  exact this
 ·by_cases h2:i=Γ.length
  ·subst h2
   rw[Ztf,Ztf,Ztw (Zto _),Ztw (by rw[A.lenR];exact Zto _),Ztw (by rw[A.lenS];exact Zto _),A.lenR,A.lenS]
   simp only[Zuu,Zub,Zuc]
   exact⟨A.outF (Zto _),v,rfl,h⟩
  ·rw[Ztf,Ztt (by simp;lia)]
   exact A.outF (by lia)
theorem Ag.pop{o:Option V}(A:Ag K B H0 H (σ++[o]) (Γ++[.S]) (ρ++[x]) F R):Ag K B H0 H σ Γ ρ F R:=by
 have l1:σ.length=Γ.length:=by have:=A.lenS;simpa using this
 have l2:ρ.length=Γ.length:=by have:=A.lenR;simpa using this
 refine⟨A.same,A.own,A.young,A.youngR,A.live,A.liveR,A.disj,A.disjR,l1,l2,fun i=>?_⟩
 have:=A.slot i
 by_cases h1:i<Γ.length
 ·rw[Ztf,Ztf,Ztn h1,Ztn (by rw[l2];exact h1),Ztn (by rw[l1];exact h1),<- Ztf,<- Ztf] at this
  exact this
 ·rw[Ztf,Ztt (by lia)]
  by_cases h2:i=Γ.length
  ·subst h2
   rw[Ztf,Ztw (Zto _)] at this
   simp only[Zuu,Zub,Zuc] at this
   exact this.1
  ·exact A.outF (by simp;lia)
theorem Zd9{wi:TI}{fi:List PV->Rr (List PV)}(hi:DIc K EX Γ Γ1 wi fi)(he:DE K EX (Γ1++[.S]) (Γ1++[.S]) .F te fe) :
  DE K EX Γ Γ1 .F (Zgy wi te) (fun ρ=>(fi ρ).bind fun xs=>(lenM xs).bind fun _=>(Zgp (fun x=>fe (ρ++[x])) xs).bind fun ys=>.ok (.lst ys)):=fun B H0 H σ ρ F R Q A d=>by
 refine hi B H0 H σ ρ F R _ A (d.bind.imp (fun xs _ d J H1 F1 s1 f1 A1 it=>?_) fun e q=>q)
 obtain⟨hlen,d⟩:=Dn.lenM d.bind
 refine⟨fun i m ys H2=>∃zs G F2,m=xs.length-i/\i<=xs.length/\ys.length=i/\Z5 H1 H2/\Trees K H2 zs ys G/\(∀a∈G,a ∉ R/\(H1 a=none\/∃j,a∈F1 j))/\(∀i,∀a∈F2 i,a∈F1 i)/\Ag K B H0 H2 σ Γ1 ρ F2 (G++R) /\
  Dn ((Zgp (fun x=>fe (ρ++[x])) (xs.drop i)).bind fun ys'=>.ok (.lst (zs++ys'))) (fun x=>∀v H',Z5 H H'->Res K B H0 H σ Γ1 ρ F R .F x v H'->Q v H') (fun e=>∀H',Z5 H0 H'->EX e H'),
  ⟨xs.length,[],[],F1,by simp,Zui _,rfl,Z5.refl _,⟨rfl,rfl⟩,by simp,fun _ _ h=>h,A1,by simpa using d⟩, ?_⟩
 rintro i m ys H2 ⟨zs,G,F2,rfl,hi',hl,s2,tr,o2,f2,A2,dn⟩
 refine⟨Qg (by lia), ?_⟩
 have itp:=it H2 F2 s2 f2 i
 cases hx:xs[i]? with
 |none =>
  refine .inl ⟨itp.2 hx,fun p hp=>?_⟩
  have hd:xs.drop i=[]:=ZtP (Zt8.mp hx)
  rw[hd] at dn
  have dn':∀v H',Z5 H H'->Res K B H0 H σ Γ1 ρ F R .F (.lst (zs++[])) v H'->Q v H':=dn
  rw[ZtG] at dn'
  exact dn' _ _ ((s1.trans s2).trans (Z5.new hp)) (Res.newF (s1.trans s2) (fun i a h=>f1 i a (f2 i a h)) tr (fun a ha=>⟨(o2 a ha).1,(o2 a ha).2.elim (fun z=>.inl (s1.free z)) fun⟨j,z⟩=>.inr ⟨j,f1 j a z⟩⟩) A2 hp)
 |some x =>
  have hlt:i<xs.length:=(Ztk.mp hx).1
  obtain⟨go,yl⟩:=itp.1 x hx
  have hdx:xs.drop i=x::xs.drop (i+1):=by
   rw[Ztv hlt]
   rw[Zth hlt] at hx;cases hx;rfl
  rw[hdx] at dn
  simp only[Zgp,Rr.assoc] at dn
  refine .inr ⟨go,fun ys' H'=>∃zs G F2,ys'.length=i+1/\Z5 H1 H'/\Trees K H' zs ys' G/\(∀a∈G,a ∉ R/\(H1 a=none\/∃j,a∈F1 j))/\(∀i,∀a∈F2 i,a∈F1 i)/\Ag K B H0 H' σ Γ1 ρ F2 (G++R) /\
   Dn ((Zgp (fun x=>fe (ρ++[x])) (xs.drop (i+1))).bind fun ys'=>.ok (.lst (zs++ys'))) (fun x=>∀v H',Z5 H H'->Res K B H0 H σ Γ1 ρ F R .F x v H'->Q v H') (fun e=>∀H',Z5 H0 H'->EX e H'),
   fun ys' H' ⟨zs,G,F2,a1,a2,a3,a4,a5,a6,a7⟩=>⟨xs.length-(i+1),by lia,zs,G,F2,rfl,hlt,a1,a2,a3,a4,a5,a6,a7⟩,fun v H3 y=>?_⟩
  obtain⟨s3,rx⟩:=yl v H3 y
  have A3:=(A2.grow s3).push (x:=x) (v:=v) (Rep.mono (fun a us s r=>⟨r,s.1.1,fun z=>by
   rcases Zti.mp z with z|z
   ·rcases (o2 a z).2 with q|⟨j,q⟩
    ·exact s.2.1 q
    ·exact s.2.2 j q
   ·exact s.1.2.1 z,s.1.2.2⟩) (fun a us r=>r) rx)
  refine he B H0 H3 _ _ F2 (G++R) _ A3 (dn.bind.imp (fun z _ dn w H4 s4 r4=>?_) fun e q=>q)
  obtain⟨F4,f4,G4,t4,o4,A4⟩:=r4
  refine⟨zs++[z],G++G4,F4,by simp[hl],(s2.trans s3).trans s4,Trees.append ((tr.same s3).same s4) (Trees.one t4) (fun a ha z=>(o4 a z).1 (Ztj _ ha)),fun a ha=>?_,fun i a h=>f2 i a (f4 i a h),A4.pop.less fun a ha=>?_, ?_⟩
  ·rcases Zti.mp ha with z|z
   ·exact o2 a z
   ·refine⟨fun q=>(o4 a z).1 (Ztg _ q), ?_⟩
    rcases (o4 a z).2 with q|⟨j,q⟩
    ·exact .inl ((s2.trans s3).free q)
    ·exact .inr ⟨j,f2 j a q⟩
  ·simp only[Zti] at ha ⊢
   rcases ha with (z|z)|z
   ·exact .inr (.inl z)
   ·exact .inl z
   ·exact .inr (.inr z)
  ·simp only[Rr.assoc,Rr.bind_ok,ZtI,Zuv] at dn ⊢
   exact dn
end
inductive RS where
 |next (ρ:List PV)|ret (x:PV)|brk (ρ:List PV)|cont (ρ:List PV)|exc (e:PX)|bad
noncomputable def Rr.thenS{α:Type}:Rr α->(α->RS)->RS
 |.ok a,f=>f a
 |.exc e,_=>.exc e
 |.bad,_=>.bad
noncomputable def RS.seq:RS->(List PV->RS)->RS
 |.next ρ,f=>f ρ
 |r,_=>r
@[simp] theorem Rr.thenS_ok{α:Type}{a:α}{f:α->RS}:(Rr.ok a).thenS f=f a:=rfl
@[simp] theorem Rr.thenS_exc{α:Type}{e:PX}{f:α->RS}:(Rr.exc e:Rr α).thenS f=.exc e:=rfl
@[simp] theorem RS.seq_next{ρ:List PV}{f:List PV->RS}:(RS.next ρ).seq f=f ρ:=rfl
@[simp] theorem RS.seq_ret{x:PV}{f:List PV->RS}:(RS.ret x).seq f=.ret x:=rfl
@[simp] theorem RS.seq_exc{e:PX}{f:List PV->RS}:(RS.exc e).seq f=.exc e:=rfl
structure Tys where
 n:List Md
 b:List Md
 c:List Md
 r:Kd
def DnS(K:W.Frag)(B:Addr->Prop)(EX:PX->Hp->Prop)(Y:Tys)(H0 H:Hp)(F:Nat->List Addr)(D:Zex)(r:RS):Prop:=match r with
 |.next ρ=>∀σ' H' F',Frm H F H' F'->Ag K B H0 H' σ' Y.n ρ F' []->D.nx σ' H'
 |.brk ρ=>∀σ' H' F',Frm H F H' F'->Ag K B H0 H' σ' Y.b ρ F' []->D.bk σ' H'
 |.cont ρ=>∀σ' H' F',Frm H F H' F'->Ag K B H0 H' σ' Y.c ρ F' []->D.ct σ' H'
 |.ret x=>∀v H',Z5 H0 H'->Zgq K B H0 Y.r x v H'->D.rt v H'
 |.exc e=>∀H',Z5 H0 H'->EX e H'
 |.bad=>False
def DS(K:W.Frag)(EX:PX->Hp->Prop)(Γ:List Md)(Y:Tys)(t:TS)(g:List PV->RS):Prop:=
 ∀(B:Addr->Prop) (H0 H:Hp) (σ:St) (ρ:List PV) (F:Nat->List Addr) (D:Zex),Ag K B H0 H σ Γ ρ F []->DnS K B EX Y H0 H F D (g ρ)->t D σ H
section
variable {K:W.Frag}{B:Addr->Prop}{EX:PX->Hp->Prop}{H0 H H':Hp}{σ:St}{Γ Γ' Γ1 Γ2 Γ3:List Md}{ρ:List PV}{F F':Nat->List Addr}{R:List Addr}{k:Kd}{x:PV}{v:V}{te:TE}{f fc:List PV->Rr PV}{t u:TS}{g g':List PV->RS}{Y:Tys}{D:Zex}
theorem DnS.shift{H1:Hp}{F1:Nat->List Addr}{r:RS}(fr:Frm H F H1 F1)(h:DnS K B EX Y H0 H F D r):DnS K B EX Y H0 H1 F1 D r:=by
 cases r with
 |next ρ=>exact fun σ' H' F' fr' A=>h σ' H' F' (fr.trans fr') A
 |brk ρ=>exact fun σ' H' F' fr' A=>h σ' H' F' (fr.trans fr') A
 |cont ρ=>exact fun σ' H' F' fr' A=>h σ' H' F' (fr.trans fr') A
 |ret x=>exact h
 |exc e=>exact h
 |bad=>exact h
theorem DnS.thenS{α:Type}{r:Rr α}{f:α->RS}(h:DnS K B EX Y H0 H F D (r.thenS f)):Dn r (fun a=>DnS K B EX Y H0 H F D (f a)) (fun e=>∀H',Z5 H0 H'->EX e H'):=by
 cases r with
 |ok a=>exact h
 |exc e=>exact h
 |bad=>exact h
theorem ZC:DS K EX Γ ⟨Γ,Γ1,Γ2,k⟩ Zj7 (fun ρ=>.next ρ):=fun B H0 H σ ρ F D A d=>d σ H F Frm.refl A
theorem Zm{Γm:List Md}(h1:DS K EX Γ ⟨Γm,Y.b,Y.c,Y.r⟩ t g)(h2:DS K EX Γm Y u g'):DS K EX Γ Y (Zhy t u) (fun ρ=>(g ρ).seq g'):=fun B H0 H σ ρ F D A d=>by
 refine h1 B H0 H σ ρ F _ A ?_
 dsimp only at d
 cases e:g ρ with
 |next ρ1 =>
  rw[e] at d
  exact fun σ' H' F' fr A'=>h2 B H0 H' σ' ρ1 F' D A' (DnS.shift fr d)
 |brk ρ1=>rw[e] at d;exact d
 |cont ρ1=>rw[e] at d;exact d
 |ret x=>rw[e] at d;exact d
 |exc q=>rw[e] at d;exact d
 |bad=>rw[e] at d;exact d
noncomputable def mle(m m':Md):Bool:=m==m' || m'==.U || (m'==.S&&m != .U) || (m'==.O&&m==.P)
noncomputable def UQ:List Md->List Md->Bool
 |[],[]=>true
 |m::ms,m'::ms'=>mle m m'&&UQ ms ms'
 |_,_=>false
theorem ZaH:∀{Γ Γ':List Md},UQ Γ Γ'=true->Γ.length=Γ'.length/\∀i,mle (Γ.getD i .U) (Γ'.getD i .U)=true
 |[],[],_=>⟨rfl,fun i=>by simp[mle]⟩
 |m::ms,m'::ms',h=>by
  simp only[UQ,Bool.and_eq_true] at h
  obtain⟨h1,h2⟩:=ZaH h.2
  refine⟨by simp[h1],fun i=>?_⟩
  cases i with
  |zero=>simpa using h.1
  |succ i=>simpa using h2 i
 |[],_::_,h=>by cases h
 |_::_,[],h=>by cases h
theorem Ag.weak(A:Ag K B H0 H σ Γ ρ F R)(h:UQ Γ Γ'=true):∃F',(∀i,∀a∈F' i,a∈F i)/\Ag K B H0 H σ Γ' ρ F' R:=by
 obtain⟨hl,hm⟩:=ZaH h
 let F':Nat->List Addr:=fun i=>if Γ.getD i .U=Γ'.getD i .U then F i else []
 have hF:∀i,∀a∈F' i,a∈F i:=fun i a ha=>by
  by_cases q:Γ.getD i .U=Γ'.getD i .U
  ·simp only[F',if_pos q] at ha;exact ha
  ·simp only[F',if_neg q] at ha;simp at ha
 have up:∀{a},NO B F R a->NO B F' R a:=fun {a} s=>⟨s.1,s.2.1,fun j z=>s.2.2 j (hF j a z)⟩
 refine⟨F',hF,A.same,A.own,fun i a ha=>A.young i a (hF i a ha),A.youngR,fun i a ha=>A.live i a (hF i a ha),A.liveR,fun i j hij a ha z=>A.disj i j hij a (hF i a ha) (hF j a z),fun i a ha=>A.disjR i a (hF i a ha),by rw[A.lenS,hl],by rw[A.lenR,hl],fun i=>?_⟩
 have sl:=A.slot i
 have hmi:=hm i
 by_cases q:Γ.getD i .U=Γ'.getD i .U
 ·simp only[F',if_pos q]
  rw[<- q]
  exact sl.mono (fun a vs s r=>⟨r,up s⟩) (fun a vs r=>r) fun a ha vs r=>r
 ·simp only[F',if_neg q]
  simp only[mle,Bool.or_eq_true,beq_iff_eq,Bool.and_eq_true,bne_iff_ne] at hmi
  rcases hmi with ((z|z)|z)|z
  ·exact absurd z q
  ·rw[z];exact rfl
  rotate_left
  ·rw[z.1]
   rw[z.2] at sl
   obtain⟨e,v,h1,h2,h3⟩:=sl
   exact⟨v,h1,h3.tree h2⟩
  ·rw[z.1]
   have own:∀a∈F i,NO B F' R a:=fun a ha=>⟨A.own a (A.young i a ha),A.disjR i a ha,fun j w=>by
    by_cases hj:j=i
    ·subst hj;simp only[F',if_neg q] at w;simp at w
    ·exact A.disj j i hj a (hF j a w) ha⟩
   cases hmm:Γ.getD i .U with
   |U=>exact absurd hmm z.2
   |P=>rw[hmm] at sl;obtain⟨e,v,h1,h2,h3⟩:=sl;exact⟨rfl,v,h1,h3.flatS h2⟩
   |S=>rw[hmm] at sl;obtain⟨e,v,h1,h2⟩:=sl;exact⟨rfl,v,h1,Rep.mono (fun a vs s r=>⟨r,up s⟩) (fun a vs r=>r) h2⟩
   |T =>
    rw[hmm] at sl
    obtain⟨a,vs,xs,h1,h2,h3,h4,h5⟩:=sl
    refine⟨rfl,_,h1, ?_⟩
    rw[h2]
    exact⟨a,vs,rfl,.inl ⟨.inl h3,own a (by rw[h5];simp)⟩,Reps.mono (fun a vs s r=>⟨r,up s⟩) (fun a vs r=>r) h4⟩
   |O=>rw[hmm] at sl;obtain⟨v,h1,h2⟩:=sl;exact⟨rfl,v,h1,h2.rep own⟩
theorem DS.out{Y':Tys}(h:DS K EX Γ Y t g)(hn:UQ Y.n Y'.n=true)(hb:UQ Y.b Y'.b=true)(hc:UQ Y.c Y'.c=true)(hr:Y.r=Y'.r):DS K EX Γ Y' t g:=fun B H0 H σ ρ F D A d=>by
 refine h B H0 H σ ρ F D A ?_
 cases e:g ρ with
 |next ρ1=>rw[e] at d;exact fun σ' H' F' fr A'=>let ⟨F2,f2,A2⟩:=A'.weak hn;d σ' H' F2 (fr.trans (Frm.of (Z5.refl _) f2)) A2
 |brk ρ1=>rw[e] at d;exact fun σ' H' F' fr A'=>let ⟨F2,f2,A2⟩:=A'.weak hb;d σ' H' F2 (fr.trans (Frm.of (Z5.refl _) f2)) A2
 |cont ρ1=>rw[e] at d;exact fun σ' H' F' fr A'=>let ⟨F2,f2,A2⟩:=A'.weak hc;d σ' H' F2 (fr.trans (Frm.of (Z5.refl _) f2)) A2
 |ret x=>rw[e] at d;exact fun v H' s r=>d v H' s (hr▸r)
 |exc q=>rw[e] at d;exact d
 |bad=>rw[e] at d;exact d
theorem ZaO{H1:Hp}{F1:Nat->List Addr}{i:Nat}{G:List Addr}(s1:Z5 H H1)(f1:∀i,∀a∈F1 i,a∈F i)(o:∀a∈G,H a=none\/∃i,a∈F i):Frm H F H1 (Vo F1 i G):=fun a u h n=>by
 refine⟨s1 a u h,fun j z=>?_⟩
 by_cases q:j=i
 ·subst q
  rw[Zu] at z
  rcases o a z with w|⟨l,w⟩
  ·rw[h] at w;cases w
  ·exact n l w
 ·rw[Z6 q] at z;exact n j (f1 j a z)
theorem Z9{i:Nat}(he:DE K EX Γ Γ' .P te f)(hi:i<Γ'.length):DS K EX Γ ⟨Γ'.set i .P,Γ1,Γ2,k⟩ (Ze6 te (QH i)) (fun ρ=>(f ρ).thenS fun x=>.next (ρ.set i x)):=fun B H0 H σ ρ F D A d=>by
 refine he B H0 H σ ρ F [] _ A (d.thenS.imp (fun x _ d v H1 s1 r1=>?_) fun e q=>q)
 obtain⟨F1,f1,h1,h2,A1⟩:=r1
 exact d _ H1 _ (ZaO (G:=[]) s1 f1 (by simp)) (Ag.put (G:=[]) (R:=[]) A1 hi (by simp) ⟨rfl,v,rfl,h1,h2⟩)
theorem Jb{i:Nat}(he:DE K EX Γ Γ' .F te f)(hi:i<Γ'.length):DS K EX Γ ⟨Γ'.set i .O,Γ1,Γ2,k⟩ (Ze6 te (QH i)) (fun ρ=>(f ρ).thenS fun x=>.next (ρ.set i x)):=fun B H0 H σ ρ F D A d=>by
 refine he B H0 H σ ρ F [] _ A (d.thenS.imp (fun x _ d v H1 s1 r1=>?_) fun e q=>q)
 obtain⟨F1,f1,G,h1,h2,A1⟩:=r1
 exact d _ H1 _ (ZaO s1 f1 fun a ha=>(h2 a ha).2) (Ag.put (R:=[]) A1 hi (by simp) ⟨v,rfl,h1⟩)
theorem J5(he:DE K EX Γ Γ' .A te f):DS K EX Γ ⟨Γ',Γ1,Γ2,k⟩ (Zbf te) (fun ρ=>(f ρ).thenS fun _=>.next ρ):=fun B H0 H σ ρ F D A d=>by
 refine he B H0 H σ ρ F [] _ A (d.thenS.imp (fun x _ d v H1 s1 r1=>?_) fun e q=>q)
 obtain⟨F1,f1,h1,A1⟩:=r1
 exact d σ H1 F1 (Frm.of s1 f1) A1
theorem Zz(he:DE K EX Γ Γ' .P te f):DS K EX Γ ⟨Γ3,Γ1,Γ2,.P⟩ (Zj5 te) (fun ρ=>(f ρ).thenS fun x=>.ret x):=fun B H0 H σ ρ F D A d=>by
 refine he B H0 H σ ρ F [] _ A (d.thenS.imp (fun x _ d v H1 s1 r1=>?_) fun e q=>q)
 obtain⟨F1,f1,h1,h2,A1⟩:=r1
 exact d v H1 A1.same ⟨h1,h2⟩
theorem JV(he:DE K EX Γ Γ' .F te f):DS K EX Γ ⟨Γ3,Γ1,Γ2,.F⟩ (Zj5 te) (fun ρ=>(f ρ).thenS fun x=>.ret x):=fun B H0 H σ ρ F D A d=>by
 refine he B H0 H σ ρ F [] _ A (d.thenS.imp (fun x _ d v H1 s1 r1=>?_) fun e q=>q)
 obtain⟨F1,f1,G,h1,h2,A1⟩:=r1
 exact d v H1 A1.same ⟨G,h1,fun a ha=>A1.youngR a (by simpa using ha)⟩
theorem Jj{c:TT}{fc:List PV->Rr Bool}(hc:DT K EX Γ Γ' c fc)(h1:DS K EX Γ' Y t g)(h2:DS K EX Γ' Y u g'):DS K EX Γ Y (Zld c t u) (fun ρ=>(fc ρ).thenS fun b=>if b=true then g ρ else g' ρ):=fun B H0 H σ ρ F D A d=>by
 refine hc B H0 H σ ρ F [] _ A (d.thenS.imp (fun b _ d H1 F1 s1 f1 A1=>?_) fun e q=>q)
 cases b with
 |true=>exact h1 B H0 H1 σ ρ F1 D A1 (DnS.shift (Frm.of s1 f1) d)
 |false=>exact h2 B H0 H1 σ ρ F1 D A1 (DnS.shift (Frm.of s1 f1) d)
theorem UD:DS K EX Γ Y Zh0 (fun _=>.bad):=fun B H0 H σ ρ F D A d=>d
theorem ZfJ{i:Nat}{h:Int->Int->Int}(hm:Γ[i]?=some .P)(he:DE K EX Γ Γ .A te f):DS K EX Γ ⟨Γ,Γ1,Γ2,k⟩ (ZlN i te (ipI h)) (fun ρ=>(f ρ).thenS fun y=>(oI (fun _ _=>true) (fun i j=>.int (h i j)) (gv i ρ) y).thenS fun z=>.next (ρ.set i z)):=fun B H0 H σ ρ F D A d=>by
 obtain⟨v,h1,h2,h3⟩:=A.getP hm
 refine⟨v,h1,he B H0 H σ ρ F [] _ A (d.thenS.imp (fun y _ d w H1 s1 r1=>?_) fun e q=>q)⟩
 obtain⟨F1,f1,p1,A1⟩:=r1
 have h3':=h3.same s1
 change Rep K H1 _ (gv i ρ) v at h3'
 generalize gv i ρ=gx at h3' d
 cases gx<;>cases y<;>first|(exact d.elim;done)|skip
 rename_i p q _
 cases h3';cases p1
 refine⟨p,q,rfl,rfl,d _ H1 _ (ZaO (i:=i) (G:=[]) s1 f1 (by simp)) ?_⟩
 have:=Ag.put (i:=i) (m:=.P) (x:=.int (h p q)) (v:=.int (h p q)) (G:=[]) (R:=[]) A1 (A.lt hm) (by simp) ⟨rfl,_,rfl,rfl,rfl⟩
 have e:Γ.set i .P=Γ:=by
  apply Zuq
  intro j
  by_cases q:i=j
  ·subst q;rw[Ztq (A.lt hm),hm]
  ·rw[Ztl q]
 rw[e] at this
 exact this
variable {ti:TE}{fi:List PV->Rr PV}
theorem Zg2{i:Nat}{m:Md}(h:Γ[i]?=some m):Γ.set i m=Γ:=by
 apply Zuq
 intro j
 by_cases q:i=j
 ·subst q;rw[Ztq (Ztk.mp h).1,h]
 ·rw[Ztl q]
theorem Ag.chgB{i:Nat}{m:Md}{a:Addr}{o':HO}(ho:Lvo o'){x':PV}{G G':List Addr}(A:Ag K B H0 H σ Γ ρ F (G++R))(hm:Γ[i]?=some m)(ha:a∈F i)(hG:∀b∈G',b∈F i\/b∈G)(hGR:∀b∈G,b ∉ R)(hs:Ua K (upd H a o') (NO B (Vo F i G') R) m x' σ[i]? G'):Ag K B H0 (upd H a o') σ Γ (ρ.set i x') (Vo F i G') R:=by
 obtain⟨us,hH⟩:=A.live i a ha
 have hi:=A.lt hm
 have liveU:∀b,(∃us:LvO,H b=some us.1)->∃us:LvO,upd H a o' b=some us.1:=fun b ⟨us,q⟩=>by
  by_cases e:b=a
  ·exact⟨⟨o',ho⟩,by rw[e,ZD]⟩
  ·exact⟨us,by rw[Z1 e];exact q⟩
 refine⟨A.same.upd (A.young i a ha),A.own,fun j b hb=>?_,fun b hb=>A.youngR b (Ztg _ hb),fun j b hb=>liveU b ?_,fun b hb=>liveU b (A.liveR b (Ztg _ hb)),fun j l hjl b hb z=>?_,fun j b hb z=>?_,A.lenS,by simp[A.lenR],fun j=>?_⟩
 ·by_cases q:j=i
  ·subst q;rw[Zu] at hb
   rcases hG b hb with z|z
   ·exact A.young j b z
   ·exact A.youngR b (Ztj _ z)
  ·rw[Z6 q] at hb;exact A.young j b hb
 ·by_cases q:j=i
  ·subst q;rw[Zu] at hb
   rcases hG b hb with z|z
   ·exact A.live j b z
   ·exact A.liveR b (Ztj _ z)
  ·rw[Z6 q] at hb;exact A.live j b hb
 ·by_cases q:j=i
  ·subst q
   rw[Zu] at hb
   rw[Z6 (Ne.symm hjl)] at z
   rcases hG b hb with w|w
   ·exact A.disj j l hjl b w z
   ·exact A.disjR l b z (Ztj _ w)
  ·rw[Z6 q] at hb
   by_cases q':l=i
   ·subst q'
    rw[Zu] at z
    rcases hG b z with w|w
    ·exact A.disj j l hjl b hb w
    ·exact A.disjR j b hb (Ztj _ w)
   ·rw[Z6 q'] at z;exact A.disj j l hjl b hb z
 ·by_cases q:j=i
  ·subst q;rw[Zu] at hb
   rcases hG b hb with w|w
   ·exact A.disjR j b w (Ztg _ z)
   ·exact hGR b w z
  ·rw[Z6 q] at hb;exact A.disjR j b hb (Ztg _ z)
 ·by_cases q:j=i
  ·subst q
   rw[Zu,Ztf,Ztf,hm,Ztq (by rw[A.lenR];exact hi)]
   exact hs
  ·rw[Z6 q,Ztf (l:=ρ.set _ _),Ztl (Ne.symm q),<- Ztf]
   refine(A.slot j).mono (fun b us s r=>?_) (fun b us r=>Im.putL hH r) fun b hb us r=>?_
   ·have hne:b≠a:=fun z=>s.2.2 i (z▸ha)
    refine⟨?_,s.1,fun z=>s.2.1 (Ztg _ z),fun l z=>?_⟩
    ·rcases r with r|⟨o,r⟩
     ·exact .inl (by rw[Z1 hne];exact r)
     ·exact .inr ⟨o,by rw[Z1 hne];exact r⟩
    ·by_cases q':l=i
     ·subst q';rw[Zu] at z
      rcases hG b z with w|w
      ·exact s.2.2 l w
      ·exact s.2.1 (Ztj _ w)
     ·rw[Z6 q'] at z;exact s.2.2 l z
   ·have hne:b≠a:=fun z=>A.disj j i q b hb (z▸ha)
    rw[Z1 hne];exact r
theorem Ag.chg{i:Nat}{m:Md}{a:Addr}{vs':List V}{x':PV}{G G':List Addr}(A:Ag K B H0 H σ Γ ρ F (G++R))(hm:Γ[i]?=some m)(ha:a∈F i)(hG:∀b∈G',b∈F i\/b∈G)(hGR:∀b∈G,b ∉ R)(hs:Ua K (upd H a (.lst vs')) (NO B (Vo F i G') R) m x' σ[i]? G'):Ag K B H0 (upd H a (.lst vs')) σ Γ (ρ.set i x') (Vo F i G') R:=Ag.chgB (o':=.lst vs') trivial A hm ha hG hGR hs
theorem QI{H1:Hp}{F1:Nat->List Addr}{i:Nat}{a:Addr}{o:HO}{G':List Addr}(s1:Z5 H H1)(f1:∀i,∀b∈F1 i,b∈F i)(ha:a∈F1 i)(hG:∀b∈G',H b=none\/∃j,b∈F j):Frm H F (upd H1 a o) (Vo F1 i G'):=fun b u h n=>by
 have hne:b≠a:=fun z=>n i (f1 i b (z▸ha))
 refine⟨by rw[Z1 hne];exact s1 b u h,fun j z=>?_⟩
 by_cases q:j=i
 ·subst q;rw[Zu] at z
  rcases hG b z with w|⟨l,w⟩
  ·rw[h] at w;cases w
  ·exact n l w
 ·rw[Z6 q] at z;exact n j (f1 j b z)
theorem Trees.setP:∀{xs:List PV}{vs:List V}{G:List Addr}{j:Nat}{y:PV}{w:V},Trees K H xs vs G->Jf K H y w []->∃G',(∀a∈G',a∈G)/\Trees K H (xs.set j y) (vs.set j w) G'
 |[],_,_,_,_,_,h,_=>⟨[],by simp,by rw[h.1];exact⟨rfl,rfl⟩⟩
 |x::xs,_,_,0,y,w,h,h'=>by
  obtain⟨v,r,G1,G2,rfl,h1,h2,h3,rfl⟩:=h
  exact⟨G2,fun a ha=>by simp[ha],w,r,[],G2,rfl,h',h2,by simp,rfl⟩
 |x::xs,_,_,j+1,y,w,h,h'=>by
  obtain⟨v,r,G1,G2,rfl,h1,h2,h3,rfl⟩:=h
  obtain⟨G',h4,h5⟩:=Trees.setP (j:=j) h2 h'
  refine⟨G1++G',fun a ha=>?_,v,r.set j w,G1,G',rfl,h1,h5,fun a ha z=>h3 a ha (h4 a z),rfl⟩
  rcases Zti.mp ha with z|z
  ·simp[z]
  ·simp[h4 a z]
noncomputable def pSet(x i y:PV):Rr PV:=match x,i with
 |.lst xs,.int j=>match ixN xs.length j with
  |some n=>.ok (.lst (xs.set n y))
  |none=>.bad
 |_,_=>.bad
theorem Dn.pSet{x i y:PV}{ok:PV->Prop}{ex:PX->Prop}(d:Dn (pSet x i y) ok ex):∃xs j n,x=.lst xs/\i=.int j/\ixN xs.length j=some n/\ok (.lst (xs.set n y)):=by
 unfold L2.pSet at d
 split at d
 ·rename_i xs j
  cases e:ixN xs.length j with
  |none=>rw[e] at d;exact d.elim
  |some n=>rw[e] at d;exact⟨xs,j,n,rfl,rfl,e,d⟩
 ·exact d.elim
theorem JU{i:Nat}(hm:Γ2[i]?=some .O)(he:DE K EX Γ Γ2 .P te f)(hi:DE K EX Γ2 Γ2 .A ti fi) :
  DS K EX Γ ⟨Γ2,Γ1,Γ3,k⟩ (Ze6 te (ZlX (Zab i) ti Zix)) (fun ρ=>(f ρ).thenS fun y=>(fi ρ).thenS fun j=>(pSet (gv i ρ) j y).thenS fun z=>.next (ρ.set i z)):=fun B H0 H σ ρ F D A d=>by
 refine he B H0 H σ ρ F [] _ A (d.thenS.imp (fun y _ d w H1 s1 r1=>?_) fun e q=>q)
 obtain⟨F1,f1,y1,y2,A1⟩:=r1
 obtain⟨v,h1,h2⟩:=A1.getO hm
 refine⟨v,h1,hi B H0 H1 σ ρ F1 [] _ A1 (d.thenS.imp (fun j _ d jv H2 s2 r2=>?_) fun e q=>q)⟩
 obtain⟨F2,f2,p2,A2⟩:=r2
 obtain⟨xs,jj,n,e1,rfl,e2,d⟩:=Dn.pSet d.thenS
 obtain⟨v',h1',h2'⟩:=A2.getO hm
 rw[h1] at h1';cases h1'
 rw[show ρ.getD i .non=.lst xs from e1] at h2'
 obtain⟨a,vs,G,rfl,hH,ht,hn,hF⟩:=h2'
 cases p2
 refine⟨a,vs,jj,n,rfl,rfl,hH,by rw[ht.length];exact e2, ?_⟩
 obtain⟨G',g1,g2⟩:=Trees.setP (j:=n) ht ((y2.same s2).tree y1)
 have haF:a∈F2 i:=by rw[hF];simp
 have hsub:∀b∈a::G',b∈F2 i:=fun b hb=>by
  rw[hF]
  rcases Zts.mp hb with rfl|hb
  ·simp
  ·simp[g1 b hb]
 refine d σ _ (Vo F2 i (a::G')) (QI (s1.trans s2) (fun j b hb=>f1 j b (f2 j b hb)) haF fun b hb=>.inr ⟨i,f1 i b (f2 i b (hsub b hb))⟩) (Ag.chg (G:=[]) A2 hm haF (fun b hb=>.inl (hsub b hb)) (by simp) ?_)
 exact⟨_,h1,a,_,G',rfl,ZD,g2.put hH (fun z=>hn (g1 a z)),fun z=>hn (g1 a z),rfl⟩
noncomputable def pApp(x y:PV):Rr PV:=match x with
 |.lst xs=>if xs.length<1000000 then .ok (.lst (xs++[y])) else .bad
 |_=>.bad
theorem Dn.pApp{x y:PV}{ok:PV->Prop}{ex:PX->Prop}(d:Dn (pApp x y) ok ex):∃xs,x=.lst xs/\xs.length<1000000/\ok (.lst (xs++[y])):=by
 unfold L2.pApp at d
 split at d
 ·rename_i xs
  by_cases h:xs.length<1000000
  ·rw[if_pos h] at d;exact⟨xs,rfl,h,d⟩
  ·rw[if_neg h] at d;exact d.elim
 ·exact d.elim
theorem Dn.asL{x:PV}{ok:List PV->Prop}{ex:PX->Prop}(d:Dn (asL x) ok ex):∃xs,x=.lst xs/\ok xs:=by
 cases x with
 |lst xs=>exact⟨xs,rfl,d⟩
 |_=>exact d.elim
theorem Zcy{i:Nat}(hm:Γ[i]?=some .O)(hm2:Γ2[i]?=some .O)(he:DE K EX Γ Γ2 .F te f) :
  DS K EX Γ ⟨Γ2,Γ1,Γ3,k⟩ (Zbf (tBM K "list" Qw (Zab i) (V6 te ZbT))) (fun ρ=>(asL (gv i ρ)).thenS fun xs=>(f ρ).thenS fun y=>(pApp (.lst xs) y).thenS fun z=>.next (ρ.set i z)):=fun B H0 H σ ρ F D A d=>by
 obtain⟨v,h1,h2⟩:=A.getO hm
 refine⟨v,h1, ?_⟩
 obtain⟨xs,e1,d⟩:=Dn.asL d.thenS
 rw[show ρ.getD i .non=.lst xs from e1] at h2
 obtain⟨a,vs,G,rfl,hH,ht,hn,hF⟩:=h2
 refine⟨.inl ⟨rfl,_,SqL.of hH⟩,he B H0 H σ ρ F [] _ A (d.thenS.imp (fun y _ d w H2 s2 r2=>?_) fun e q=>q)⟩
 obtain⟨F2,f2,G2,y1,y2,A2⟩:=r2
 obtain⟨xs',e2,hlen,d⟩:=Dn.pApp d.thenS
 cases e2
 obtain⟨v',h1',h2'⟩:=A2.getO hm2
 rw[h1] at h1';cases h1'
 rw[show ρ.getD i .non=.lst xs from e1] at h2'
 obtain⟨a',vs',G',e,hH',ht',hn',hF'⟩:=h2'
 cases e
 refine⟨a,vs',w,rfl,rfl,hH',by rw[ht'.length];exact Ztm hlen (by decide), ?_⟩
 have haF:a∈F2 i:=by rw[hF'];simp
 have dj:∀b∈G',b ∉ G2:=fun b hb z=>A2.disjR i b (by rw[hF'];simp[hb]) (Ztj _ z)
 have na:a ∉ G2:=fun z=>A2.disjR i a haF (Ztj _ z)
 have hsub:∀b∈a::(G'++G2),b∈F2 i\/b∈G2:=fun b hb=>by
  rw[hF']
  rcases Zts.mp hb with rfl|hb
  ·simp
  ·rcases Zti.mp hb with z|z
   ·simp[z]
   ·exact .inr z
 have hna:a ∉ G'++G2:=fun z=>(Zti.mp z).elim hn' na
 refine d σ _ (Vo F2 i (a::(G'++G2))) (QI s2 f2 haF fun b hb=>?_) (Ag.chg (G:=G2) (R:=[]) A2 hm2 haF hsub (by simp) ?_)
 ·rcases hsub b hb with z|z
  ·exact .inr ⟨i,f2 i b z⟩
  ·exact(y2 b z).2
 ·exact⟨_,h1,a,_,G'++G2,rfl,ZD,(Trees.append ht' (Trees.one y1) dj).put hH' hna,hna,rfl⟩
def DG(K:W.Frag)(EX:PX->Hp->Prop)(Γ Γ':List Md)(g:TG)(h:PV->List PV->Rr (List PV)):Prop:=
 ∀(B:Addr->Prop) (H0 H:Hp) (σ:St) (ρ:List PV) (F:Nat->List Addr) (v:V) (x:PV) (N:St->Hp->Prop),Ag K B H0 H σ Γ ρ F []->Rep K H (NO B F []) x v ->
  Dn (h x ρ) (fun ρ'=>∀σ' F',(∀i,∀a∈F' i,a∈F i)->Ag K B H0 H σ' Γ' ρ' F' []->N σ' H) (fun e=>∀H',Z5 H0 H'->EX e H')->g v σ H N
def DGs(K:W.Frag)(EX:PX->Hp->Prop)(Γ Γ':List Md)(g:TGs)(h:List PV->List PV->Rr (List PV)):Prop:=
 ∀(B:Addr->Prop) (H0 H:Hp) (σ:St) (ρ:List PV) (F:Nat->List Addr) (vs:List V) (xs:List PV) (N:St->Hp->Prop),Ag K B H0 H σ Γ ρ F []->Reps K H (NO B F []) xs vs ->
  Dn (h xs ρ) (fun ρ'=>∀σ' F',(∀i,∀a∈F' i,a∈F i)->Ag K B H0 H σ' Γ' ρ' F' []->N σ' H) (fun e=>∀H',Z5 H0 H'->EX e H')->g vs σ H N
theorem Zl3{i:Nat}(hi:i<Γ.length):DG K EX Γ (Γ.set i .S) (QH i) (fun x ρ=>.ok (ρ.set i x)):=fun B H0 H σ ρ F v x N A r d =>
 d _ (Vo F i []) VO (Ag.put (G:=[]) (R:=[]) A hi (by simp) ⟨rfl,v,rfl,Rep.mono (fun a us s r=>⟨r,s.1,s.2.1,fun j z=>s.2.2 j (VO j a z)⟩) (fun a us r=>r) r⟩)
theorem ZfM{i:Nat}(hi:i<Γ.length):DG K EX Γ (Γ.set i .P) (QH i) (fun x ρ=>(grd x).bind fun x=>.ok (ρ.set i x)):=fun B H0 H σ ρ F v x N A r d=>by
 unfold grd at d;dsimp only at d
 by_cases h:x.flat=true
 ·rw[if_pos h] at d
  exact d _ (Vo F i []) VO (Ag.put (G:=[]) (R:=[]) A hi (by simp) ⟨rfl,v,rfl,h,r.any⟩)
 ·rw[if_neg h] at d;exact d.elim
noncomputable def Zlw(xs ρ:List PV):Rr (List PV):=match xs with
 |[]=>.ok ρ
 |_=>.bad
theorem Zjc:DGs K EX Γ Γ Zl1 Zlw:=fun B H0 H σ ρ F vs xs N A r d=>by
 cases xs with
 |nil=>exact⟨r,d σ F (fun _ _ h=>h) A⟩
 |cons x xs=>exact d.elim
noncomputable def hdR(h:PV->List PV->Rr (List PV))(hs:List PV->List PV->Rr (List PV))(xs:List PV)(ρ:List PV):Rr (List PV):=match xs with
 |x::r=>(h x ρ).bind fun ρ'=>hs r ρ'
 |[]=>.bad
theorem Zd5{g:TG}{gs:TGs}{h:PV->List PV->Rr (List PV)}{hs:List PV->List PV->Rr (List PV)}(h1:DG K EX Γ Γ1 g h)(h2:DGs K EX Γ1 Γ2 gs hs):DGs K EX Γ Γ2 (ZiQ g gs) (hdR h hs):=fun B H0 H σ ρ F vs xs N A r d=>by
 cases xs with
 |nil=>exact d.elim
 |cons x xs =>
  obtain⟨v,r',rfl,r1,r2⟩:=r
  refine⟨v,r',rfl,h1 B H0 H σ ρ F v x _ A r1 ((show Dn ((h x ρ).bind fun ρ'=>hs xs ρ') _ _ from d).bind.imp (fun ρ' _ d σ' F' f' A'=>?_) fun e q=>q)⟩
  refine h2 B H0 H σ' ρ' F' r' xs _ A' (Reps.mono (fun a us s r=>⟨r,s.1,s.2.1,fun j z=>s.2.2 j (f' j a z)⟩) (fun a us r=>r) r2) (d.imp (fun ρ2 _ d σ2 F2 f2 A2=>d σ2 F2 (fun j a ha=>f' j a (f2 j a ha)) A2) fun e q=>q)
noncomputable def asT(n:Nat)(x:PV):Rr (List PV):=match x with
 |.tup xs=>if xs.length=n then .ok xs else .bad
 |_=>.bad
theorem Dn.asT{n:Nat}{x:PV}{ok:List PV->Prop}{ex:PX->Prop}(d:Dn (asT n x) ok ex):∃xs,x=.tup xs/\xs.length=n/\ok xs:=by
 cases x with
 |tup xs =>
  unfold L2.asT at d
  by_cases h:xs.length=n
  ·simp only[if_pos h] at d;exact⟨xs,rfl,h,d⟩
  ·simp only[if_neg h] at d;exact d.elim
 |_=>exact d.elim
theorem Zk1{n:Nat}{gs:TGs}{hs:List PV->List PV->Rr (List PV)}(h2:DGs K EX Γ Γ2 gs hs):DG K EX Γ Γ2 (Zl0 K n gs) (fun x ρ=>(asT n x).bind fun xs=>hs xs ρ):=fun B H0 H σ ρ F v x N A r d=>by
 obtain⟨xs,rfl,hl,d⟩:=Dn.asT d.bind
 obtain⟨a,vs,rfl,hn,hr⟩:=r
 exact⟨a,vs,rfl,hn.sqT,by rw[hr.length];exact hl,h2 B H0 H σ ρ F vs xs N A hr d⟩
def DGF(K:W.Frag)(EX:PX->Hp->Prop)(Γ Γ':List Md)(g:TG)(h:PV->List PV->Rr (List PV)):Prop:=
 ∀(B:Addr->Prop) (H0 H:Hp) (σ:St) (ρ:List PV) (F:Nat->List Addr) (G R:List Addr) (v:V) (x:PV) (N:St->Hp->Prop),Ag K B H0 H σ Γ ρ F (G++R)->(∀a∈G,a ∉ R)->Jf K H x v G ->
  Dn (h x ρ) (fun ρ'=>∀σ' F',(∀i,∀a∈F' i,a∈F i\/a∈G)->Ag K B H0 H σ' Γ' ρ' F' R->N σ' H) (fun e=>∀H',Z5 H0 H'->EX e H')->g v σ H N
def ZkU(K:W.Frag)(EX:PX->Hp->Prop)(Γ Γ':List Md)(g:TGs)(h:List PV->List PV->Rr (List PV)):Prop:=
 ∀(B:Addr->Prop) (H0 H:Hp) (σ:St) (ρ:List PV) (F:Nat->List Addr) (G R:List Addr) (vs:List V) (xs:List PV) (N:St->Hp->Prop),Ag K B H0 H σ Γ ρ F (G++R)->(∀a∈G,a ∉ R)->Trees K H xs vs G ->
  Dn (h xs ρ) (fun ρ'=>∀σ' F',(∀i,∀a∈F' i,a∈F i\/a∈G)->Ag K B H0 H σ' Γ' ρ' F' R->N σ' H) (fun e=>∀H',Z5 H0 H'->EX e H')->g vs σ H N
theorem Zk0{i:Nat}(hi:i<Γ.length):DGF K EX Γ (Γ.set i .P) (QH i) (fun x ρ=>(grd x).bind fun x=>.ok (ρ.set i x)):=fun B H0 H σ ρ F G R v x N A hG r d=>by
 unfold grd at d;dsimp only at d
 by_cases h:x.flat=true
 ·rw[if_pos h] at d
  exact d _ (Vo F i []) (fun j a ha=>.inl (VO j a ha)) (Ag.put (G:=[]) (A.less fun a ha=>Ztg _ ha) hi (by simp) ⟨rfl,v,rfl,h,r.rep fun _ _=>trivial⟩)
 ·rw[if_neg h] at d;exact d.elim
theorem Zhf:ZkU K EX Γ Γ Zl1 Zlw:=fun B H0 H σ ρ F G R vs xs N A hG r d=>by
 cases xs with
 |nil=>exact⟨r.1,d σ F (fun _ _ h=>.inl h) (A.less fun a ha=>Ztg _ ha)⟩
 |cons x xs=>exact d.elim
theorem ZbA{g:TG}{gs:TGs}{h:PV->List PV->Rr (List PV)}{hs:List PV->List PV->Rr (List PV)}(h1:DGF K EX Γ Γ1 g h)(h2:ZkU K EX Γ1 Γ2 gs hs):ZkU K EX Γ Γ2 (ZiQ g gs) (hdR h hs):=fun B H0 H σ ρ F G R vs xs N A hG r d=>by
 cases xs with
 |nil=>exact d.elim
 |cons x xs =>
  obtain⟨v,r',G1,G2,rfl,r1,r2,dj,rfl⟩:=r
  refine⟨v,r',rfl,h1 B H0 H σ ρ F G1 (G2++R) v x _ (by rw[<- ZtI];exact A) (fun a ha z=>?_) r1 ((show Dn ((h x ρ).bind fun ρ'=>hs xs ρ') _ _ from d).bind.imp (fun ρ' _ d σ' F' f' A'=>?_) fun e q=>q)⟩
  ·rcases Zti.mp z with z|z
   ·exact dj a ha z
   ·exact hG a (Ztj _ ha) z
  ·refine h2 B H0 H σ' ρ' F' G2 R r' xs _ A' (fun a ha=>hG a (Ztg _ ha)) r2 (d.imp (fun ρ2 _ d σ2 F2 f2 A2=>d σ2 F2 (fun j a ha=>?_) A2) fun e q=>q)
   rcases f2 j a ha with z|z
   ·rcases f' j a z with w|w
    ·exact .inl w
    ·exact .inr (Ztj _ w)
   ·exact .inr (Ztg _ z)
theorem Zjd{n:Nat}{gs:TGs}{hs:List PV->List PV->Rr (List PV)}(h2:ZkU K EX Γ Γ2 gs hs):DGF K EX Γ Γ2 (Zl0 K n gs) (fun x ρ=>(asT n x).bind fun xs=>hs xs ρ):=fun B H0 H σ ρ F G R v x N A hG r d=>by
 obtain⟨xs,rfl,hl,d⟩:=Dn.asT d.bind
 obtain⟨a,vs,rfl,hn,hr⟩:=r
 exact⟨a,vs,rfl,hn.sqT,by rw[hr.length];exact hl,h2 B H0 H σ ρ F G R vs xs N A hG hr d⟩
theorem ZiW{gt:TG}{h:PV->List PV->Rr (List PV)}(he:DE K EX Γ Γ1 .F te f)(hg:DGF K EX Γ1 Γ2 gt h):DS K EX Γ ⟨Γ2,Γ3,Γ',k⟩ (Ze6 te gt) (fun ρ=>(f ρ).thenS fun x=>(h x ρ).thenS fun ρ'=>.next ρ'):=fun B H0 H σ ρ F D A d=>by
 refine he B H0 H σ ρ F [] _ A (d.thenS.imp (fun x _ d v H1 s1 r1=>?_) fun e q=>q)
 obtain⟨F1,f1,G,h1,h2,A1⟩:=r1
 refine hg B H0 H1 σ ρ F1 G [] v x _ A1 (by simp) h1 (d.thenS.imp (fun ρ' _ d σ' F' f' A'=>d σ' H1 F' (fun a o ho n=>⟨s1 a o ho,fun j z=>?_⟩) A') fun e q=>q)
 rcases f' j a z with w|w
 ·exact n j (f1 j a w)
 ·rcases (h2 a w).2 with q|⟨l,q⟩
  ·rw[ho] at q;cases q
  ·exact n l q
theorem ZiV{gt:TG}{h:PV->List PV->Rr (List PV)}(he:DE K EX Γ Γ1 .Z te f)(hg:DG K EX Γ1 Γ2 gt h):DS K EX Γ ⟨Γ2,Γ3,Γ',k⟩ (Ze6 te gt) (fun ρ=>(f ρ).thenS fun x=>(h x ρ).thenS fun ρ'=>.next ρ'):=fun B H0 H σ ρ F D A d=>by
 refine he B H0 H σ ρ F [] _ A (d.thenS.imp (fun x _ d v H1 s1 r1=>?_) fun e q=>q)
 obtain⟨F1,f1,h1,A1⟩:=r1
 exact hg B H0 H1 σ ρ F1 v x _ A1 h1 (d.thenS.imp (fun ρ' _ d σ' F' f' A'=>d σ' H1 F' (Frm.of s1 fun j a ha=>f1 j a (f' j a ha)) A') fun e q=>q)
end
noncomputable def RS.turn:RS->(List PV->RS)->RS
 |.next ρ,f=>f ρ
 |.cont ρ,f=>f ρ
 |.brk ρ,_=>.next ρ
 |r,_=>r
noncomputable def Zas(b:PV->List PV->RS):List PV->List PV->RS
 |[],ρ=>.next ρ
 |x::xs,ρ=>(b x ρ).turn (Zas b xs)
noncomputable def JB(c:List PV->Rr Bool)(b:List PV->RS):Nat->List PV->Option RS
 |0,_=>none
 |n+1,ρ=>match c ρ with
  |.ok true=>match b ρ with
   |.next ρ'=>JB c b n ρ'
   |.cont ρ'=>JB c b n ρ'
   |.brk ρ'=>some (.next ρ')
   |r=>some r
  |.ok false=>some (.next ρ)
  |.exc e=>some (.exc e)
  |.bad=>some .bad
open Classical in
noncomputable def Js(c:List PV->Rr Bool)(b:List PV->RS)(ρ:List PV):RS:=if h:∃n r,JB c b n ρ=some r then h.choose_spec.choose else .bad
theorem VQ{c:List PV->Rr Bool}{b:List PV->RS}:∀{n m:Nat}{ρ:List PV}{r:RS},n<=m->JB c b n ρ=some r->JB c b m ρ=some r
 |0,_,_,_,_,h=>by cases h
 |n+1,0,_,_,hl,_=>by lia
 |n+1,m+1,ρ,r,hl,h=>by
  unfold JB at h ⊢
  cases hc:c ρ with
  |ok b' =>
   cases b' with
   |true =>
    rw[hc] at h
    cases hb:b ρ with
    |next ρ'=>rw[hb] at h;exact VQ (by lia) h
    |cont ρ'=>rw[hb] at h;exact VQ (by lia) h
    |brk ρ'=>rw[hb] at h;exact h
    |ret x=>rw[hb] at h;exact h
    |exc e=>rw[hb] at h;exact h
    |bad=>rw[hb] at h;exact h
   |false=>rw[hc] at h;exact h
  |exc e=>rw[hc] at h;exact h
  |bad=>rw[hc] at h;exact h
theorem Zf7{c:List PV->Rr Bool}{b:List PV->RS}{n m:Nat}{ρ:List PV}{r r':RS}(h:JB c b n ρ=some r)(h':JB c b m ρ=some r'):r=r':=by
 rcases Nat.le_total n m with q|q
 ·have:=VQ q h;rw[h'] at this;exact(Option.some.inj this).symm
 ·have:=VQ q h';rw[h] at this;exact Option.some.inj this
theorem Uw{c:List PV->Rr Bool}{b:List PV->RS}{n:Nat}{ρ:List PV}{r:RS}(h:JB c b n ρ=some r):Js c b ρ=r:=by
 unfold Js
 have hx:∃n r,JB c b n ρ=some r:=⟨n,r,h⟩
 rw[dif_pos hx]
 exact Zf7 hx.choose_spec.choose_spec h
section
variable {K:W.Frag}{B:Addr->Prop}{EX:PX->Hp->Prop}{H0 H H':Hp}{σ:St}{Γ Γ1 Γ2 Γ3 Γl Γt:List Md}{ρ:List PV}{F F':Nat->List Addr}{k:Kd}{x:PV}{v:V}{te ti:TE}{f fc fe:List PV->Rr PV}{t u:TS}{g:List PV->RS}{D:Zex}
theorem V2{wi:TI}{gt:TG}{fi:List PV->Rr (List PV)}{h:PV->List PV->Rr (List PV)}(hi:DI K EX Γ Γ1 wi fi)(hw:UQ Γ1 Γl=true)(hg:DG K EX Γl Γt gt h)(hb:DS K EX Γt ⟨Γl,Γl,Γl,k⟩ t g) :
  DS K EX Γ ⟨Γl,Γ2,Γ3,k⟩ (ZlM wi gt t) (fun ρ=>(fi ρ).thenS fun xs=>Zas (fun x ρ=>(h x ρ).thenS g) xs ρ):=fun B H0 H σ ρ F D A d=>by
 refine hi B H0 H σ ρ F [] _ A (d.thenS.imp (fun xs _ d J H1 F1 s1 f1 A1 it=>?_) fun e q=>q)
 obtain⟨Fl,fl,Al⟩:=A1.weak hw
 have fr0:Frm H F H1 Fl:=Frm.of s1 fun j a ha=>f1 j a (fl j a ha)
 have fr1:Frm H1 F1 H1 Fl:=Frm.of (Z5.refl _) fl
 refine⟨fun i m σ' H'=>∃ρ' F',m=xs.length-i/\i<=xs.length/\Frm H1 F1 H' F'/\Ag K B H0 H' σ' Γl ρ' F' []/\DnS K B EX ⟨Γl,Γ2,Γ3,k⟩ H0 H' F' D (Zas (fun x ρ=>(h x ρ).thenS g) (xs.drop i) ρ'),
  ⟨xs.length,ρ,Fl,by simp,Zui _,fr1,Al,by simpa using DnS.shift fr0 d⟩, ?_⟩
 rintro i m σ' H' ⟨ρ',F',rfl,hi',fr,A',dn⟩
 have itp:=it H' F' fr i
 cases hx:xs[i]? with
 |none =>
  refine .inl ⟨itp.2 hx, ?_⟩
  have hd:xs.drop i=[]:=ZtP (Zt8.mp hx)
  rw[hd] at dn
  exact dn σ' H' F' Frm.refl A'
 |some x =>
  have hlt:i<xs.length:=(Ztk.mp hx).1
  obtain⟨go,yl⟩:=itp.1 x hx
  have hdx:xs.drop i=x::xs.drop (i+1):=by
   rw[Ztv hlt]
   rw[Zth hlt] at hx;cases hx;rfl
  rw[hdx] at dn
  simp only[Zas] at dn
  refine .inr ⟨go,fun σ2 H2=>∃ρ2 F2,Frm H1 F1 H2 F2/\Ag K B H0 H2 σ2 Γl ρ2 F2 []/\DnS K B EX ⟨Γl,Γ2,Γ3,k⟩ H0 H2 F2 D (Zas (fun x ρ=>(h x ρ).thenS g) (xs.drop (i+1)) ρ2),
   fun σ2 H2 ⟨ρ2,F2,a1,a2,a3⟩=>⟨xs.length-(i+1),by lia,ρ2,F2,rfl,hlt,a1,a2,a3⟩,fun v H3 y=>?_⟩
  obtain⟨s3,rx⟩:=yl v H3 y
  have fr3:Frm H' F' H3 F':=Frm.of s3 fun _ _ h=>h
  refine hg B H0 H3 σ' ρ' F' v x _ (A'.grow s3) (Rep.mono (fun a us s r=>⟨r,s.1⟩) (fun a us r=>r) rx) ?_
  cases e:h x ρ' with
  |ok ρt =>
   rw[e] at dn
   refine fun σt Ft ft At=>hb B H0 H3 σt ρt Ft _ At ?_
   have frt:Frm H' F' H3 Ft:=Frm.of s3 ft
   simp only[Rr.thenS_ok] at dn
   cases e2:g ρt with
   |next ρ2=>rw[e2] at dn;exact fun σ2 H2 F2 fr2 A2=>⟨ρ2,F2,fr.trans (frt.trans fr2),A2,DnS.shift (frt.trans fr2) dn⟩
   |cont ρ2=>rw[e2] at dn;exact fun σ2 H2 F2 fr2 A2=>⟨ρ2,F2,fr.trans (frt.trans fr2),A2,DnS.shift (frt.trans fr2) dn⟩
   |brk ρ2=>rw[e2] at dn;exact fun σ2 H2 F2 fr2 A2=>dn σ2 H2 F2 (frt.trans fr2) A2
   |ret y=>rw[e2] at dn;exact dn
   |exc q=>rw[e2] at dn;exact dn
   |bad=>rw[e2] at dn;exact dn
  |exc q=>rw[e] at dn;exact dn
  |bad=>rw[e] at dn;exact dn
theorem Qi{c:TT}{fc:List PV->Rr Bool}(hc:DT K EX Γ Γ c fc)(hb:DS K EX Γ ⟨Γ,Γ,Γ,k⟩ t g):DS K EX Γ ⟨Γ,Γ2,Γ3,k⟩ (ZcJ c t) (fun ρ=>Js fc g ρ):=fun B H0 H σ ρ F D A d=>by
 dsimp only at d
 have ex:∃n,JB fc g n ρ=some (Js fc g ρ):=by
  by_cases hx:∃n r,JB fc g n ρ=some r
  ·obtain⟨n,r,e⟩:=hx
   exact⟨n,by rw[Uw e];exact e⟩
  ·unfold Js at d
   rw[dif_neg hx] at d
   exact d.elim
 obtain⟨n0,e0⟩:=ex
 generalize hr:Js fc g ρ=r at e0 d
 refine⟨fun m σ' H'=>∃ρ' F',Frm H F H' F'/\Ag K B H0 H' σ' Γ ρ' F' []/\JB fc g m ρ'=some r,⟨n0,ρ,F,Frm.refl,A,e0⟩, ?_⟩
 rintro m σ' H' ⟨ρ',F',fr,A',e⟩
 cases m with
 |zero=>cases e
 |succ m =>
  unfold JB at e
  refine hc B H0 H' σ' ρ' F' [] _ A' ?_
  cases e1:fc ρ' with
  |ok b =>
   rw[e1] at e
   refine fun H2 F2 s2 f2 A2=>?_
   have fr2:Frm H' F' H2 F2:=Frm.of s2 f2
   cases b with
   |true =>
    refine⟨fun σ3 H3=>∃ρ3 F3,Frm H F H3 F3/\Ag K B H0 H3 σ3 Γ ρ3 F3 []/\JB fc g m ρ3=some r,fun σ3 H3 h=>⟨m,Zul _,h⟩, ?_⟩
    refine hb B H0 H2 σ' ρ' F2 _ A2 ?_
    cases e2:g ρ' with
    |next ρ2=>rw[e2] at e;exact fun σ3 H3 F3 fr3 A3=>⟨ρ2,F3,fr.trans (fr2.trans fr3),A3,e⟩
    |cont ρ2=>rw[e2] at e;exact fun σ3 H3 F3 fr3 A3=>⟨ρ2,F3,fr.trans (fr2.trans fr3),A3,e⟩
    |brk ρ2 =>
     rw[e2] at e
     have e':RS.next ρ2=r:=Option.some.inj e
     rw[<- e'] at d
     exact fun σ3 H3 F3 fr3 A3=>d σ3 H3 F3 (fr.trans (fr2.trans fr3)) A3
    |ret y =>
     rw[e2] at e
     have e':RS.ret y=r:=Option.some.inj e
     rw[<- e'] at d
     exact d
    |exc q =>
     rw[e2] at e
     have e':RS.exc q=r:=Option.some.inj e
     rw[<- e'] at d
     exact d
    |bad =>
     rw[e2] at e
     have e':RS.bad=r:=Option.some.inj e
     rw[<- e'] at d
     exact d
   |false =>
    have e':RS.next ρ'=r:=Option.some.inj e
    rw[<- e'] at d
    exact d σ' H2 F2 (fr.trans fr2) A2
  |exc q =>
   rw[e1] at e
   have e':RS.exc q=r:=Option.some.inj e
   rw[<- e'] at d
   exact d
  |bad =>
   rw[e1] at e
   have e':RS.bad=r:=Option.some.inj e
   rw[<- e'] at d
   exact d
theorem Trees.get:∀{xs:List PV}{vs:List V}{G:List Addr}{j:Nat}{x:PV},Trees K H xs vs G->xs[j]?=some x->∃v G',vs[j]?=some v/\Jf K H x v G'/\∀a∈G',a∈G
 |[],_,_,_,_,_,e=>by simp at e
 |y::xs,_,_,0,x,h,e=>by
  obtain⟨v,r,G1,G2,rfl,h1,h2,h3,rfl⟩:=h
  simp at e;subst e
  exact⟨v,G1,rfl,h1,fun a ha=>by simp[ha]⟩
 |y::xs,_,_,j+1,x,h,e=>by
  obtain⟨v,r,G1,G2,rfl,h1,h2,h3,rfl⟩:=h
  obtain⟨w,G',e1,e2,e3⟩:=Trees.get (j:=j) h2 (by simpa using e)
  exact⟨w,G',by simpa using e1,e2,fun a ha=>by simp[e3 a ha]⟩
theorem Zgv{xs:List PV}{vs:List V}{G:List Addr}{i:Int}{z:PV}(h:Trees K H xs vs G)(e:atI xs i=some z):∃u G',atI vs i=some u/\Jf K H z u G'/\∀a∈G',a∈G:=by
 unfold atI at e ⊢
 rw[h.length]
 cases q:ixN xs.length i with
 |none=>rw[q] at e;cases e
 |some j=>rw[q] at e;exact h.get e
theorem Zd4{i:Nat}{h:Int->Int->Int}(hm:Γ2[i]?=some .O)(hmΓ:Γ[i]?=some .O)(hi:DE K EX Γ Γ2 .A ti f)(he:DE K EX Γ2 Γ2 .A te fe) :
  DS K EX Γ ⟨Γ2,Γ1,Γ3,k⟩ (Zj9 (Zab i) ti te (ZjI K) (ipI h) Zix) (fun ρ=>(f ρ).thenS fun j=>(pIx (gv i ρ) j).thenS fun z=>(asL (gv i ρ)).thenS fun _=>(fe ρ).thenS fun y=>(oI (fun _ _=>true) (fun a b=>.int (h a b)) z y).thenS fun w=>(pSet (gv i ρ) j w).thenS fun z=>.next (ρ.set i z)):=fun B H0 H σ ρ F D A d=>by
 obtain⟨v,h1,h2⟩:=A.getO hmΓ
 refine⟨v,h1,hi B H0 H σ ρ F [] _ A (d.thenS.imp (fun j _ d jv H1 s1 r1=>?_) fun e q=>q)⟩
 obtain⟨F1,f1,p1,A1⟩:=r1
 obtain⟨z,ez,d⟩:=Dn.pIx d.thenS
 obtain⟨xs,ex,d⟩:=Dn.asL d.thenS
 rw[ex] at ez
 obtain⟨v',h1',h2'⟩:=A1.getO hm
 rw[h1] at h1';cases h1'
 rw[show ρ.getD i .non=.lst xs from ex] at h2'
 obtain⟨a,vs,G,rfl,hH,ht,hn,hF⟩:=h2'
 obtain⟨j,rfl⟩:∃j',j=PV.int j':=by cases j<;>first|exact⟨_,rfl⟩|(simp only[pIx] at ez;cases ez;done)
 cases p1
 simp only[pIx] at ez
 cases e1:atI xs j with
 |none=>rw[e1] at ez;cases ez
 |some z' =>
  rw[e1] at ez;cases ez
  obtain⟨u,G2,e2,e3,e4⟩:=Zgv ht e1
  refine⟨a,vs,j,u,rfl,rfl,SqL.of hH,e2,he B H0 H1 σ ρ F1 [] _ A1 (d.thenS.imp (fun y _ d w H2 s2 r2=>?_) fun e q=>q)⟩
  obtain⟨F2,f2,p2,A2⟩:=r2
  obtain⟨zi,yi,rfl,rfl⟩:∃zi yi,z=PV.int zi/\y=PV.int yi:=by cases z<;>cases y<;>first|exact⟨_,_,rfl,rfl⟩|(exact d.elim;done)
  obtain⟨e5,_⟩:=e3
  subst e5
  cases p2
  refine⟨zi,yi,rfl,rfl, ?_⟩
  obtain⟨xs',jj,n,ex',e6,e7,d⟩:=Dn.pSet (show DnS _ _ _ _ _ _ _ _ ((pSet (gv i ρ) (.int j) (.int (h zi yi))).thenS _) from d).thenS
  cases e6
  rw[ex] at ex';cases ex'
  obtain⟨v',h1',h2'⟩:=A2.getO hm
  rw[h1] at h1';cases h1'
  rw[show ρ.getD i .non=.lst xs from ex] at h2'
  obtain⟨a',vs',G',e,hH',ht',hn',hF'⟩:=h2'
  cases e
  refine⟨a,vs',j,n,rfl,rfl,hH',by rw[ht'.length];exact e7, ?_⟩
  obtain⟨G'',g1,g2⟩:=Trees.setP (j:=n) (y:=.int (h zi yi)) (w:=.int (h zi yi)) ht' ⟨rfl,rfl⟩
  have haF:a∈F2 i:=by rw[hF'];simp
  have hsub:∀b∈a::G'',b∈F2 i:=fun b hb=>by
   rw[hF']
   rcases Zts.mp hb with rfl|hb
   ·simp
   ·simp[g1 b hb]
  refine d σ _ (Vo F2 i (a::G'')) (QI (s1.trans s2) (fun j b hb=>f1 j b (f2 j b hb)) haF fun b hb=>.inr ⟨i,f1 i b (f2 i b (hsub b hb))⟩) (Ag.chg (G:=[]) A2 hm haF (fun b hb=>.inl (hsub b hb)) (by simp) ?_)
  exact⟨_,h1,a,_,G'',rfl,ZD,g2.put hH' (fun z=>hn' (g1 a z)),fun z=>hn' (g1 a z),rfl⟩
end
noncomputable def RS.out:RS->Rr PV
 |.next _=>.ok .non
 |.ret x=>.ok x
 |.exc e=>.exc e
 |.brk _=>.bad
 |.cont _=>.bad
 |.bad=>.bad
@[simp] theorem RS.out_next{ρ:List PV}:(RS.next ρ).out=.ok .non:=rfl
@[simp] theorem RS.out_ret{x:PV}:(RS.ret x).out=.ok x:=rfl
@[simp] theorem RS.out_exc{e:PX}:(RS.exc e).out=.exc e:=rfl
def Ref(r r':Rr PV):Prop:=r=.bad\/r=r'
structure Pm where
 α:Type
 enc:α->List PV
 pre:α->Prop
 out:α->Rr PV
open Classical in
noncomputable def Pm.fn(m:Pm)(xs:List PV):Rr PV:=if h:∃a,m.enc a=xs/\m.pre a then m.out h.choose else .bad
theorem Pm.fn_eq(m:Pm)(a:m.α)(h:m.pre a)(inj:∀b,m.enc b=m.enc a->m.out b=m.out a):m.fn (m.enc a)=m.out a:=by
 unfold Pm.fn
 have hx:∃b,m.enc b=m.enc a/\m.pre b:=⟨a,rfl,h⟩
 rw[dif_pos hx]
 exact inj _ hx.choose_spec.1
theorem Pm.ref(m:Pm){g:List PV->Rr PV}(h:∀a,m.pre a->g (m.enc a)=m.out a)(xs:List PV):Ref (m.fn xs) (g xs):=by
 unfold Pm.fn
 by_cases hx:∃a,m.enc a=xs/\m.pre a
 ·rw[dif_pos hx]
  have h2:=hx.choose_spec
  right
  have:=h _ h2.2
  rw[h2.1] at this
  exact this.symm
 ·rw[dif_neg hx];exact .inl rfl
section
variable {K:W.Frag}{B:Addr->Prop}{H:Hp}
theorem Ag.init{xs:List PV}{vs:List V}{n:Nat}(h:Reps K H B xs vs):Ag K (fun a=>B a\/H a=none) H H (vs.map some++List.replicate n none) (List.replicate xs.length .S++List.replicate n .U) (xs++List.replicate n .non) (fun _=>[]) []:=by
 refine⟨Z5.refl _,fun a h=>.inr h,by simp,by simp,by simp,by simp,by simp,by simp,by simp[h.length],by simp,fun i=>?_⟩
 by_cases hi:i<xs.length
 ·have e1:(List.replicate xs.length Md.S++List.replicate n Md.U).getD i .U=.S:=by
   rw[Ztf,Ztn (by simpa using hi),Zuy hi];rfl
  have e2:(xs++List.replicate n PV.non).getD i .non=xs[i]:=by
   rw[Ztf,Ztn hi,Zth hi];rfl
  rw[e1,e2]
  obtain⟨v,h1,h2⟩:=h.get (Zth hi)
  refine⟨rfl,v, ?_,Rep.mono (fun a us s r=>⟨r,.inl s,by simp,by simp⟩) (fun a us r=>r) h2⟩
  rw[Ztn (by rw[Ztp,h.length];exact hi),Zt2,h1];rfl
 ·have e1:(List.replicate xs.length Md.S++List.replicate n Md.U).getD i .U=.U:=by
   rw[Ztf,Ztw (by simpa using hi)]
   by_cases q:i-(List.replicate xs.length Md.S).length<n
   ·rw[Zuy q];rfl
   ·rw[Ztt (by simpa using q)];rfl
  rw[e1]
  exact rfl
end
section
variable {P:Program}{w:World}{K:W.Frag}{mg:Str->Option Value}{base:Heap}
theorem Fun.okP{x qual:Str}{st:Stmt}{f:Addr}{fd:FuncData}{N ps:List Str}{k n l:Nat}{kd:Kd}{m:List PV->Rr PV}(F:Fun K x qual st f fd)(S:Zt N ps (Zf st))(hn:ps.length=n)(hl:N.length-n=l)(hbody:∀(cdv:Value) (A:Around) (outer:List Env) (s:Shared) (H:Hp) (E:XK),UR k (A.deeper (envOfC qual (Zf st) s.heap.objs.size f cdv)) ->
   ∃t g Y,Y.r=kd/\PSs (ZbF CX0 P w K mg base N qual (Zf st) f cdv A outer s H E).nox (Zq st) t/\DS K X0 (List.replicate n .S++List.replicate l .U) Y t g/\∀xs,Ref (m xs) (g (xs++List.replicate l .non)).out)(hkN:kd≠.N:=by nofun)(hkM:kd≠.M:=by nofun) :
  J8 P w K mg base CX0 (k+1) f fd ps (spF K n kd W0 m):=by
 refine F.ok S (fun vs H Q E h=>?_) (fun cdv A outer s H vs Q E hr h=>?_)
 ·obtain⟨B,xs,h1,h2,_⟩:=h
  rw[h1.length,h2,hn]
 ·obtain⟨B,xs,h1,h2,dn⟩:=h
  obtain⟨t,g,Y,hY,ht,hd,href⟩:=hbody cdv A outer s H E hr
  refine⟨t,ht, ?_⟩
  have A0:=Ag.init (n:=l) h1
  have est:U0 N vs=vs.map some++List.replicate l none:=by
   unfold U0
   rw[h1.length,h2,hl]
  rw[est]
  rw[h2] at A0
  refine hd _ H H _ _ _ _ A0 ?_
  have hdn:Dn (g (xs++List.replicate l .non)).out (fun x=>∀v H',Z5 H H'->Zgq K B H kd x v H'->Q v H') (fun e=>∀H',Z5 H H'->W0 e E H'):=by
   rcases href xs with e|e
   ·rw[e] at dn;exact dn.elim
   ·rw[<- e];exact dn
  have retK:∀{x v H'},Zgq K (fun a=>B a\/H a=none) H kd x v H'->Zgq K B H kd x v H':=fun {x v H'} h=>by
   cases kd with
   |P=>exact h
   |F=>exact h
   |T=>exact Rep.mono (fun a us s r=>⟨r,s.elim id .inr⟩) (fun a us r=>r) h
   |Z=>exact Rep.mono (fun a us s r=>⟨r,s.elim id .inr⟩) (fun a us r=>r) h
   |A=>exact Rep.mono (fun a us s r=>⟨r,s.elim id .inr⟩) (fun a us r=>r) h
   |N=>exact h
   |M=>exact h
  cases e:g (xs++List.replicate l .non) with
  |next ρ =>
   rw[e] at hdn
   refine fun σ' H' F' fr A'=>hdn .non H' A'.same ?_
   cases kd with
   |P=>exact⟨rfl,rfl⟩
   |F=>exact⟨[],⟨rfl,rfl⟩,by simp⟩
   |T=>exact rfl
   |Z=>exact rfl
   |A=>exact rfl
   |N=>exact absurd rfl hkN
   |M=>exact absurd rfl hkM
  |ret x=>rw[e] at hdn;exact fun v H' s r=>hdn v H' s (retK (hY▸r))
  |exc q=>rw[e] at hdn;exact fun H' s=>hdn H' s
  |brk ρ=>rw[e] at hdn;exact hdn.elim
  |cont ρ=>rw[e] at hdn;exact hdn.elim
  |bad=>rw[e] at hdn;exact hdn.elim
end
section
variable {K:W.Frag}{n:Nat}{m:List PV->Rr PV}{e:Expr}{ta:TA}{Γ Γ':List Md}{fa:List PV->Rr (List PV)}
theorem Zjh(hn:Len fa n)(ha:DAA K X0 Γ Γ' ta fa):DE K X0 Γ Γ' .F (Qp (spF K n .F W0 m) ta) (fun ρ=>(fa ρ).bind m):=ZdB (E:=E0) (W:=W0) (fun σ H Q h=>h) (fun e H' h=>h) hn ha
theorem VR(hn:Len fa n)(ha:DAA K X0 Γ Γ' ta fa):DE K X0 Γ Γ' .P (Qp (spF K n .P W0 m) ta) (fun ρ=>(fa ρ).bind m):=ZdA (E:=E0) (W:=W0) (fun σ H Q h=>h) (fun e H' h=>h) hn ha
end
theorem Zeg{K:W.Frag}{H:Hp}{a:Addr}{ns:List Int}{m:List PV->Rr PV}(hm:m [.lst (ns.map PV.int)]=.ok (.bl true))(hS:SqL K H a (ns.map V.int)):spF K 1 .P W0 m [.ref a] H (fun v _=>v=.bl true) fun _ _ _=>False:=by
 refine⟨fun _=>True,[.lst (ns.map PV.int)],Reps.one ⟨a,_,rfl,hS.elim (fun h=>.inl ⟨h,trivial⟩) .inr,Zb5 ns⟩,rfl, ?_⟩
 rw[hm]
 exact fun v H' _ r=>r.2
section
variable {X:Cx}{K:W.Frag}{EX:PX->Hp->Prop}{Γ Γ' Γ1 Γ2:List Md}{k:Kd}{te:TE}{f:List PV->Rr PV}
theorem Zeq(hc:X.calm=true)(e:X.K=K:=by rfl):Vy X (.builtin "min") (ZjG K):=by subst e;exact ZfY hc
theorem Zek{i:Nat}{wi:TI}(he:DE K EX Γ Γ' .F (Zgy wi te) f)(hi:i<Γ'.length):DS K EX Γ ⟨Γ'.set i .O,Γ1,Γ2,k⟩ (ZcK i wi te) (fun ρ=>(f ρ).thenS fun x=>.next (ρ.set i x)):=Jb he hi
end
def RS.good(r:RS)(I:List PV->Prop):Prop:=match r with
 |.next ρ=>I ρ
 |.cont ρ=>I ρ
 |_=>False
theorem RS.good_ex{r:RS}{I:List PV->Prop}(h:r.good I):∃ρ',(r=.next ρ'\/r=.cont ρ')/\I ρ':=by
 cases r with
 |next ρ=>exact⟨ρ,.inl rfl,h⟩
 |cont ρ=>exact⟨ρ,.inr rfl,h⟩
 |ret x=>exact h.elim
 |brk ρ=>exact h.elim
 |exc e=>exact h.elim
 |bad=>exact h.elim
theorem Zdy{b:PV->List PV->RS}{xs:List PV}{ρ:List PV}(I:Nat->List PV->Prop)(h0:I 0 ρ)(h:∀i x ρ,xs[i]?=some x->I i ρ->(b x ρ).good (I (i+1))) :
  ∃ρ',Zas b xs ρ=.next ρ'/\I xs.length ρ':=by
 have key:∀n i ρ,xs.length=i+n->I i ρ->∃ρ',Zas b (xs.drop i) ρ=.next ρ'/\I xs.length ρ':=by
  intro n
  induction n with
  |zero =>
   intro i ρ hl hI
   rw[ZtP (by lia)]
   exact⟨ρ,rfl,by rw[hl];exact hI⟩
  |succ n ih =>
   intro i ρ hl hI
   have hi:i<xs.length:=by lia
   rw[Ztv hi]
   obtain⟨ρ',h1,h2⟩:=RS.good_ex (h i _ ρ (Zth hi) hI)
   obtain⟨ρ2,h3,h4⟩:=ih (i+1) ρ' (by lia) h2
   refine⟨ρ2, ?_,h4⟩
   simp only[Zas]
   rcases h1 with h1|h1<;>(rw[h1];exact h3)
 exact key xs.length 0 ρ (by lia) h0
theorem JI{lo:Int}{n i:Nat}{x:PV}(h:(ZdS lo n)[i]?=some x):i<n/\x=.int (lo+i):=by
 unfold ZdS at h
 rw[Zt2] at h
 by_cases hi:i<n
 ·rw[Zua hi] at h;cases h;exact⟨hi,rfl⟩
 ·rw[Ztt (by simpa using hi)] at h;cases h
@[simp] theorem Jn{lo:Int}{n:Nat}:(ZdS lo n).length=n:=by simp[ZdS]
theorem Zfx{α β:Type}{f:α->Rr β}{g:α->β}:∀{xs:List α},(∀x∈xs,f x=.ok (g x))->Zgp f xs=.ok (xs.map g)
 |[],_=>rfl
 |x::xs,h=>by
  simp only[Zgp,h x (by simp),Rr.bind_ok,Zfx (xs:=xs) fun y hy=>h y (by simp[hy]),ZtB]
@[simp] theorem Zcu{x:PV}{ρ:List PV}:gv 0 (x::ρ)=x:=rfl
@[simp] theorem Zcv{x:PV}{ρ:List PV}{i:Nat}:gv (i+1) (x::ρ)=gv i ρ:=rfl
theorem U6{ns:List Int}{k:Int}(h0:0<=k)(h1:k<ns.length):pIx (.lst (ns.map PV.int)) (.int k)=.ok (.int (ns.getD k.toNat 0)):=by
 have:atI (ns.map PV.int) k=some (.int (ns.getD k.toNat 0)):=by
  unfold atI
  rw[Ztp,Zdq h0 h1]
  show (ns.map PV.int)[k.toNat]?=_
  rw[Zt2,Zth (by lia),Ztf,Zth (by lia)]
  rfl
 simp only[pIx,this]
theorem Q3{ns:List Int}{k y:Int}(h0:0<=k)(h1:k<ns.length):pSet (.lst (ns.map PV.int)) (.int k) (.int y)=.ok (.lst ((ns.set k.toNat y).map PV.int)):=by
 simp only[pSet,Ztp,Zdq h0 h1,List.map_set]
theorem Zby{ns:List Int}{y:Int}(h:ns.length<1000000):pApp (.lst (ns.map PV.int)) (.int y)=.ok (.lst ((ns++[y]).map PV.int)):=by
 simp only[pApp,Ztp,if_pos h,ZtE,ZtB,Zus]
theorem Zbz{ns:List Int}(h:ns.length<=1000000):newF (ns.map PV.int)=.ok (.lst (ns.map PV.int)):=by
 unfold newF
 rw[PV.flats_ints,Ztp,decide_eq_true h];rfl
theorem ZbD(ns:List Int):PV.dats (ns.map PV.int)=ns.map PyData.int:=by
 induction ns with
 |nil=>rfl
 |cons n ns ih=>simp[PV.dats,PV.dat,ih]
theorem Zc4(ns:List Int):PyData.canLayAll0 (ns.map PyData.int)=true:=by
 induction ns with
 |nil=>rfl
 |cons n ns ih=>simp[PyData.canLayAll0,PyData.canLay0,ih]
theorem Zfk(i:Int):okD (.int i)=true:=by simp[okD,PV.noX,PV.dat,PyData.canLay0,PyData.depth]
theorem QJ:∀(ns ms:List Int),PyData.eqvAll (ns.map PyData.int) (ms.map PyData.int)=decide (ns=ms)
 |[],[]=>by simp[PyData.eqvAll]
 |[],m::ms=>by simp[PyData.eqvAll]
 |n::ns,[]=>by simp[PyData.eqvAll]
 |n::ns,m::ms=>by
  simp only[ZtB,PyData.eqvAll,PyData.eqv,QJ ns ms,List.cons.injEq,Bool.decide_and]
  rw[Bool.beq_eq_decide_eq]
theorem Zfe{g:Bool->Bool}(i j:Int):Zbx g (.int i) (.int j)=.ok (.bl (g (decide (i=j)))):=by
 unfold Zbx
 rw[Zfk,Zfk]
 simp only[Bool.and_self,if_true,PV.dat,PyData.eqv]
 rw[Bool.beq_eq_decide_eq]
theorem Zdb(ns:List Int)(i:Int):okD (.tup [.lst (ns.map PV.int),.int i])=true:=by
 have hd:PyData.depthAll (ns.map PyData.int)=0:=by
  induction ns with
  |nil=>rfl
  |cons n ns ih=>simp[PyData.depthAll,PyData.depth,ih]
 simp[okD,PV.noX,PV.noXs,PV.noXs_ints,PV.dat,PV.dats,ZbD,PyData.canLay0,PyData.canLayAll0,Zc4,PyData.depth,PyData.depthAll,hd]
theorem ZcZ{g:Bool->Bool}(ns ms:List Int)(i j:Int):Zbx g (.tup [.lst (ns.map PV.int),.int i]) (.tup [.lst (ms.map PV.int),.int j])=.ok (.bl (g (decide (ns=ms)&&decide (i=j)))):=by
 unfold Zbx
 rw[Zdb,Zdb]
 simp only[Bool.and_self,if_true,PV.dat,PV.dats,ZbD,PyData.eqv,PyData.eqvAll,QJ,Bool.and_true]
 rw[Bool.beq_eq_decide_eq]
theorem Zbu(ns:List Int):ZhE [.lst (ns.map PV.int)]=.ok (.int ns.length):=by simp[ZhE]
theorem Zbt(ns:List Int):Zlo [.lst (ns.map PV.int)]=.ok (.int ns.sum):=by simp[Zlo,Zbv]
theorem ZeZ{ns:List Int}(h:ns≠[]):Zlq [.lst (ns.map PV.int)]=.ok (.int (Zb0 ns)):=by simp[Zlq,Zbv,h]
theorem ZdY{ns:List Int}(h:ns.length<=1000000):ZgG [.lst (ns.map PV.int)]=.ok (.lst (ns.map PV.int)):=by
 simp only[ZgG];exact Zbz h
theorem Zjj{i j:Int}(a b:Nat)(h1:i.natAbs<=10^a)(h2:j.natAbs<=10^b)(ha:a<=4000:=by decide)(hb:b<=4000:=by decide):ZcD i j:=by
 have t:∀c:Nat,c<=4000->(10:Nat)^c<2^60000:=fun c hc=>ZtL (ZtN (by decide) hc) (by decide +kernel)
 exact⟨ZtL h1 (t a ha),ZtL h2 (t b hb)⟩
theorem ZfU{i j:Int}(b:Nat)(h1:0<j)(h2:j.natAbs<=10^b)(hb:b<=2000:=by decide):ZcE i j:=by
 have t:∀c:Nat,c<=2000->(10:Nat)^c<2^9000:=fun c hc=>ZtL (ZtN (by decide) hc) (by decide +kernel)
 exact⟨h1,ZtL h2 (t b hb)⟩
theorem Zfg{i j:Int}(h:ZcE i j):Zlr (.int i) (.int j)=.ok (.int (i/j)):=Zdd (decide_eq_true h)
theorem ZaB{i j:Int}(h:ZcD i j):Zlp (.int i) (.int j)=.ok (.int (i*j)):=Zdd (decide_eq_true h)
theorem ZaC{i j:Int}(h:0<j):ZlV (.int i) (.int j)=.ok (.int (i%j)):=Zdd (decide_eq_true h)
theorem Zcf{i j:Int}(h:Zjz i j):ZjN (.int i) (.int j)=.ok (.int (i^j.toNat)):=Zdd (decide_eq_true h)
@[simp] theorem Zfi{i j:Int}:Zls (.int i) (.int j)=.ok (.int (i+j)):=rfl
@[simp] theorem ZeV{i j:Int}:ZlU (.int i) (.int j)=.ok (.int (i-j)):=rfl
@[simp] theorem ZhD{i j:Int}:pLt (.int i) (.int j)=.ok (.bl (decide (i<j))):=rfl
@[simp] theorem ZhF{i j:Int}:pLe (.int i) (.int j)=.ok (.bl (decide (i<=j))):=rfl
@[simp] theorem ZhL{i j:Int}:pGt (.int i) (.int j)=.ok (.bl (decide (j<i))):=rfl
@[simp] theorem ZhM{i j:Int}:pGe (.int i) (.int j)=.ok (.bl (decide (j<=i))):=rfl
@[simp] theorem ZfD{i:Int}:grd (.int i)=.ok (.int i):=rfl
@[simp] theorem Zig{b:Bool}:asB (.bl b)=.ok b:=rfl
@[simp] theorem Zc8{xs:List PV}:asL (.lst xs)=.ok xs:=rfl
@[simp] theorem Zgl{i:Int}:asI (.int i)=.ok i:=rfl
@[simp] theorem ZhK{n:String}{x:Int}:ZjQ n (.int x)=.ok (.bl (QE (Vz (.int x)) n)):=rfl
@[simp] theorem ZhJ{n:String}{x:List PV}:ZjQ n (.lst x)=.ok (.bl (QE (Vz (.lst x)) n)):=rfl
@[simp] theorem ZhI{n:String}{x:List PV}:ZjQ n (.tup x)=.ok (.bl (QE (Vz (.tup x)) n)):=rfl
@[simp] theorem ZeX{i:Int}:ZkO (.int i)=.ok (.int (-i)):=rfl
@[simp] theorem ZhH{x:PV}{xs:List PV}:pIx (.tup (x::xs)) (.int 0)=.ok x:=by simp[pIx,atI,ixN]
@[simp] theorem ZhG{x y:PV}{xs:List PV}:pIx (.tup (x::y::xs)) (.int 1)=.ok y:=by
 have:atI (x::y::xs) 1=some y:=by unfold atI;rw[Zdq (by lia) (by simp only[Ztz];lia)];rfl
 simp only[pIx,this]
theorem ZcY{j:Int}(h:-(2^62)<=j/\j<2^62):ZgE [.int j]=.ok (ZdS 0 j.toNat):=by simp only[ZgE,okR,decide_eq_true h,if_true]
theorem ZgC{i j:Int}(h:-(2^62)<=i/\i<2^62)(h':-(2^62)<=j/\j<2^62):ZgD [.int i,.int j]=.ok (ZdS i (j-i).toNat):=by simp only[ZgD,okR,decide_eq_true h,decide_eq_true h',Bool.and_self,if_true]
theorem Zf0{xs:List PV}(h:xs.length<=1000000):lenM xs=.ok ():=by simp only[lenM,if_pos h]
@[simp] theorem Zdt:QE (Vz (.int i)) "int"=true:=rfl
@[simp] theorem Zdu:QE (Vz (.int i)) "bool"=false:=rfl
@[simp] theorem Zds:QE (Vz (.lst xs)) "list"=true:=rfl
@[simp] theorem Zdr:QE (Vz (.tup xs)) "tuple"=true:=rfl
theorem Vd{I:List PV->Prop}{ρ:List PV}(h:I ρ):(RS.next ρ).good I:=h
theorem Zdw{h:PV->List PV->Rr (List PV)}{hs:List PV->List PV->Rr (List PV)}{x:PV}{xs ρ:List PV}:hdR h hs (x::xs) ρ=(h x ρ).bind fun ρ'=>hs xs ρ':=rfl
theorem Zdg{ρ:List PV}:Zlw [] ρ=.ok ρ:=rfl
theorem VE{ns ms:List Int}(e:ns.map PV.int=ms.map PV.int):ns=ms:=by
 have:=congrArg V1 e
 simpa using this
theorem Zal{i j:Int}(h0:0<j)(h1:j<1000000000000):Zlr (.int i) (.int j)=.ok (.int (i/j)):=Zfg (ZfU 12 h0 (by lia))
theorem ZjU:ZjN (.int 10) (.int 60)=.ok (.int (10^60)):=by rw[Zcf (by decide)];rfl
theorem ZhR{xs:List PV}(h:xs.length<=1000):mkT xs=.ok (.tup xs):=if_pos h
theorem ZhS{xs:List PV}(h:xs.length<=1000):mkL xs=.ok (.lst xs):=if_pos h
noncomputable def KD{α:Type}:Sem α->Prop
 |.pure _=>True
 |.raise _=>True
 |.unsupported _=>True
 |.finish _=>True
 |.rule _ k=>KD (k ())
 |.at _ k=>KD (k ())
 |.load _ _ k=>∀o,KD (k o)
 |.update _ _ f k=>(∀o:Obj,(f o).dict=o.dict/\(o.isFreed=false->(f o).isFreed=false))/\KD (k ())
 |.alloc _ k=>∀a,KD (k a)
 |.loadIfAlive _ k=>∀o,KD (k o)
 |.point _ k=>KD (k ())
 |.register _ _=>True
 |.fresh k=>∀t,KD (k t)
 |.ask k=>∀x,KD (k x)
 |.choose _ _ k=>∀n,KD (k n)
 |.os _ _ k=>∀r,KD (k r)
 |.call _ _ _ _ _=>False
 |.handled _ k=>∀x,KD (k x)
 |.newGen _ k=>∀g,KD (k g)
 |.genState _ k=>∀x,KD (k x)
 |.resume _ _ _ _=>False
 |.yield _ _ _ _=>True
 |.stack k=>∀x,KD (k x)
 |.fork _ _=>True
 |.thread k=>∀x,KD (k x)
 |.await _ _ _ _ _=>True
def DK(h h':Heap):Prop:=∀b o,h.get? b=some o->∃o',h'.get? b=some o'/\o'.dict=o.dict
theorem DK.refl(h:Heap):DK h h:=fun b o e=>⟨o,e,rfl⟩
theorem DK.trans{h1 h2 h3:Heap}(a:DK h1 h2)(b:DK h2 h3):DK h1 h3:=fun x o e=>by
 obtain⟨o1,e1,d1⟩:=a x o e
 obtain⟨o2,e2,d2⟩:=b x o1 e1
 exact⟨o2,e2,d2.trans d1⟩
theorem Zly{M:Model}{Γ:PySem.Ctx}{α:Type}{Q:α->Pos->Shared->Prop}{E:Value->Pos->Shared->Prop}{h0:Heap}:∀(t:Sem α) (p:Pos) (s:Shared),KD t->DK h0 s.heap->Sem.wp M Γ t Q E p s ->
  Sem.wp M Γ t (fun a p' s'=>Q a p' s'/\DK h0 s'.heap) (fun e p' s'=>E e p' s'/\DK h0 s'.heap) p s:=by
 intro t
 induction t with
 |pure a=>intro p s _ d h;exact⟨h,d⟩
 |raise e=>intro p s _ d h;exact⟨h,d⟩
 |unsupported w=>intro p s _ _ h;exact h
 |finish e=>intro p s _ _ h;exact h
 |rule t k ih=>intro p s k d h;exact ih () p s k d h
 |«at» q k ih=>intro p s k d h;exact ih () q s k d h
 |load a q k ih=>intro p s k d h;obtain⟨o,e,h⟩:=h;exact⟨o,e,ih o p s (k o) d h⟩
 |update a q f k ih =>
  intro p s k d h
  refine⟨h.1,ih () p _ k.2 (d.trans fun b o e=>?_) h.2⟩
  by_cases hb:a=b
  ·subst hb
   exact⟨_,Heap.get?_update_self f e ((k.1 o).2 (Heap.get?_some_iff.mp e).2),(k.1 o).1⟩
  ·exact⟨o,(Heap.get?_update_other _ f hb).trans e,rfl⟩
 |alloc o k ih=>intro p s k d h;exact ih _ p _ (k _) (d.trans fun b o' e=>⟨o',Heap.get?_push_of_some _ e,rfl⟩) h
 |loadIfAlive a k ih=>intro p s k d h;exact ih _ p s (k _) d h
 |point l k ih=>intro p s k d h;exact ih () p s k d h
 |register a k ih=>intro p s _ _ h;exact h
 |fresh k ih=>intro p s k d h;exact ih _ p _ (k _) d h
 |ask k ih=>intro p s k d h;exact ih _ p _ (k _) d h
 |choose a n k ih=>intro p s k d h;exact⟨h.1,ih _ p _ (k _) d h.2⟩
 |os q l k ih=>intro p s k d h;exact ih _ p _ (k _) d h
 |call c h g l k ih=>intro p s k d h;exact k.elim
 |handled o k ih=>intro p s k d h;exact ih _ p _ (k _) d h
 |newGen c k ih=>intro p s k d h;exact ih _ p _ (k _) d h
 |genState g k ih=>intro p s k d h;obtain⟨st,e,h⟩:=h;exact⟨st,e,ih _ p s (k _) d h⟩
 |resume g r l k ih=>intro p s k d h;exact k.elim
 |yield v g l k ih=>intro p s _ _ h;exact h
 |stack k ih=>intro p s k d h;exact ih _ p _ (k _) d h
 |fork c k ih=>intro p s _ _ h;exact h
 |thread k ih=>intro p s k d h;exact ih _ p _ (k _) d h
 |await a t d l k ih=>intro p s _ _ h;exact h
theorem Zb4{M:Model}{A:Around}{α:Type}{t:Sem α}{Q:α->Shared->Prop}{E:Value->Shared->Prop}{s:Shared}(k:KD t)(h:wpAny M A t Q E s):wpAny M A t (fun a s'=>Q a s'/\DK s.heap s'.heap) (fun e s'=>E e s'/\DK s.heap s'.heap) s:=
 fun Γ p hΓ=>Zly t p s k (DK.refl _) (h Γ p hΓ)
theorem ZJ{α β:Type}:∀(m:Sem α) {f:α->Sem β},KD m->(∀a,KD (f a))->KD (m >>= f):=by
 intro m f
 show KD m->_->KD (m.bind f)
 induction m with
 |pure a=>intro _ h;exact h a
 |raise e=>intro _ _;trivial
 |unsupported w=>intro _ _;trivial
 |finish e=>intro _ _;trivial
 |rule t k ih=>intro k h;exact ih () k h
 |«at» q k ih=>intro k h;exact ih () k h
 |load a q k ih=>intro k h o;exact ih o (k o) h
 |update a q g k ih=>intro k h;exact⟨k.1,ih () k.2 h⟩
 |alloc o k ih=>intro k h a;exact ih a (k a) h
 |loadIfAlive a k ih=>intro k h o;exact ih o (k o) h
 |point l k ih=>intro k h;exact ih () k h
 |register a k ih=>intro _ _;trivial
 |fresh k ih=>intro k h a;exact ih a (k a) h
 |ask k ih=>intro k h a;exact ih a (k a) h
 |choose a n k ih=>intro k h a;exact ih a (k a) h
 |os q l k ih=>intro k h a;exact ih a (k a) h
 |call c h g l k ih=>intro k h;exact k.elim
 |handled o k ih=>intro k h a;exact ih a (k a) h
 |newGen c k ih=>intro k h a;exact ih a (k a) h
 |genState g k ih=>intro k h a;exact ih a (k a) h
 |resume g r l k ih=>intro k h;exact k.elim
 |yield v g l k ih=>intro _ _;trivial
 |stack k ih=>intro k h a;exact ih a (k a) h
 |fork c k ih=>intro _ _;trivial
 |thread k ih=>intro k h a;exact ih a (k a) h
 |await a t d l k ih=>intro _ _;trivial
theorem ZV{α:Type}{a:α}:KD (pure a:Sem α):=trivial
theorem Zaf{α:Type}{w:String}:KD (unsupported w:Sem α):=trivial
theorem Zcq{a:Addr}:KD (load a):=fun _=>trivial
theorem Zkj(g:Array Value->Array Value)(o:Obj):(Obj.mapFields g o).dict=o.dict/\(o.isFreed=false->(Obj.mapFields g o).isFreed=false):=by
 obtain⟨c,d,dt,sl⟩:=o
 cases dt<;>exact⟨rfl,fun h=>h⟩
theorem Zcs(v:Value):KD (fieldsOf v):=by
 unfold fieldsOf
 cases v<;>try exact Zaf
 refine ZJ _ Zcq fun o=>?_
 cases o.data<;>first|exact ZV|exact Zaf
theorem Qh(v:Value)(i:Nat):KD (field v i):=by
 unfold field
 refine ZJ _ (Zcs v) fun vs=>?_
 cases vs[i]?<;>first|exact ZV|exact Zaf
theorem Uo(v:Value)(i:Nat)(x:Value):KD (setField v i x):=by
 unfold setField
 cases v<;>try exact Zaf
 unfold updateField
 refine ZJ _ Zcq fun o=>?_
 cases o.data<;>try exact Zaf
 dsimp only
 split
 ·exact⟨fun o=>Zkj _ o,trivial⟩
 ·exact Zaf
theorem VC(e:Value)(f:Option Addr):KD (setFlight e f):=by
 unfold setFlight
 refine ZJ _ (Qh e 1) fun tb=>?_
 split
 ·exact Uo _ _ _
 ·exact ZV
theorem Zb3(ty:String)(vs:List Value):KD (newFields ty vs):=by
 unfold newFields newObj newObjAsIs
 dsimp only
 have al:∀(o:Obj),KD (alloc o):=fun _ _=>trivial
 split
 ·exact ZJ _ Zaf fun _=>ZJ _ (al _) fun _=>ZV
 ·exact ZJ _ (al _) fun _=>ZV
theorem Zf4(env:Env)(outer:List Env):KD (behindIsImport env outer):=by
 unfold behindIsImport
 split
 ·exact ZV
 ·split
  ·exact ZV
  ·exact ZJ _ (Qh _ _) fun _=>ZV
theorem Zcr(env:Env)(i:Bool)(outer:List Env):KD (keptBack env i outer):=by
 cases outer with
 |nil =>
  have u:KD underTheClaimsCaller:=by
   unfold underTheClaimsCaller
   exact ZJ _ (show KD stack from fun _=>trivial) fun _=>ZV
  rw[keptBack]
  split
  ·exact ZV
  ·exact ZJ _ u fun _=>ZV
 |cons c r=>unfold keptBack;exact ZV
theorem ZgV{o:Obj}{sl:Array (Option Value)}:({ o with slots:=sl }:Obj).dict=o.dict/\(o.isFreed=false->({ o with slots:=sl }:Obj).isFreed=false):=by
 obtain⟨c,d,dt,s⟩:=o
 cases dt<;>exact⟨rfl,fun h=>h⟩
theorem Zdp:∀(l:List Env),KD (readyFrames l)
 |[]=>trivial
 |env::outer=>by
  unfold readyFrames
  cases env.frame with
  |none=>exact Zaf
  |some f =>
   dsimp only
   refine ZJ _ Zcq fun o=>?_
   split
   ·exact ZV
   ·refine ZJ _ (Zf4 _ _) fun _=>ZJ _ (Zcr _ _ _) fun _=>ZJ _ ⟨fun o=>ZgV,trivial⟩ fun _=>Zdp outer
theorem Zeh(env:Env):KD (PySem.frameOf env):=by
 unfold PySem.frameOf
 refine ZJ _ ?_ fun l=>ZJ _ ?_ fun r=>?_
 ·unfold frameEnvs
  exact ZJ _ (fun _=>trivial) fun _=>ZV
 ·cases (List.dropWhile (fun x=>x.frame != env.frame) l) with
  |nil=>exact ZV
  |cons a r=>exact ZJ _ (Zdp _) fun _=>ZV
 ·cases r<;>first|exact ZV|exact Zaf
theorem ZgW(f:Addr)(b:Bool):KD (entryPlaceOf f b):=by
 unfold entryPlaceOf
 refine ZJ _ (show KD stack from fun _=>trivial) fun acts=>?_
 split<;>exact ZV
theorem Zf3(e:Value)(env:Env):KD (noteFrame e env):=by
 unfold noteFrame
 cases env.frame with
 |none=>exact Zaf
 |some f =>
  dsimp only
  refine ZJ _ (Qh _ _) fun head=>?_
  have tail:∀(hd:Bool),KD (do setField e 1 (<- EntryCells.newEntry head (<- PySem.frameOf env) .none (rawInt f) .none (<- entryPlaceOf f hd))):=fun hd =>
   ZJ _ (Zeh env) fun _=>ZJ _ (ZgW _ _) fun _=>ZJ _ (Zb3 _ _) fun _=>Uo _ _ _
  split
  ·refine ZJ _ (Qh _ _) fun x=>?_
   split
   ·exact ZV
   ·exact ZJ _ (Uo _ _ _) fun _=>tail _
  ·exact tail _
theorem Zar(env:Env)(e:Value):KD (leaving env e):=ZJ _ (Zf3 e env) fun _=>VC e none
theorem JZ.there{P:Program}{w:World}{H:Hp}{h:Heap}{a:Addr}{o:HO}(x:JZ P w H h a o):∃u,h.get? a=some u:=by
 cases o with
 |lst xs=>obtain⟨_,_,_,_,e⟩:=x;exact⟨_,e⟩
 |tup xs=>obtain⟨_,_,_,_,e,_⟩:=x;exact⟨_,e⟩
 |dK kvs=>obtain⟨_,_,_,_,o,_,_,e,_⟩:=x;exact⟨_,e⟩
 |dT kvs=>obtain⟨_,_,_,_,o,_,_,e,_⟩:=x;exact⟨_,e⟩
 |set S n=>obtain⟨o,_,_,_,e,_⟩:=x;exact⟨_,e⟩
 |ins C dx fs=>obtain⟨_,_,_,e,_⟩:=x;exact⟨_,e⟩
 |own y=>obtain⟨_,e⟩:=x;exact⟨_,e⟩
 |xd fs=>obtain⟨_,⟨_,_,_,e,_⟩,_⟩:=x;exact⟨_,e⟩
 |rng lo hi=>obtain⟨_,_,_,e⟩:=x;exact⟨_,e⟩
 |frz ob u=>exact⟨_,x.1⟩
 |tbl ps=>exact⟨_,x⟩
 |met f y=>exact⟨_,x⟩
 |ext φ=>exact x.2.1
def Zjr(H:Hp)(ea k:Addr)(o:Obj):Prop:=(o.dict=none/\k=ea)\/(o.dict=some k/\∃fs,H k=some (.xd fs))
structure Fly(P:Program)(w:World)(outer:List Env)(H:Hp)(s:Shared)(ea k:Addr)(cls:Value)(H':Hp)(s':Shared):Prop where
 os:s'.os=s.os
 bare:AllBare s'.gens
 un:Un (frs outer) [] H H' s.heap s'.heap
 hok:HOk P w H' s'.heap
 new:H' ea=none
 dict:∃o,s'.heap.get? ea=some o/\Zjr H' ea k o
 fly:∃(Bh:Heap) (t:Addr),Heap.FlyingW Bh outer ea cls (.ref t) s'.heap/\(∀b u,H' b=some u->∀o,s'.heap.get? b=some o->Bh.get? b=some o)/\∀b o,s.heap.get? b=some o->b ∉ frs outer->∃o',Bh.get? b=some o'
noncomputable def CX1(P:Program)(w:World):CXT:=fun outer H s E e s'=>∃ea k cls H',e=.ref ea/\Fly P w outer H s ea k cls H' s'/\E cls (some k) H'
section
variable {P:Program}{w:World}{K:W.Frag}{mg:Str->Option Value}{base:Heap}{N:List Str}{qual:Str}{scope:Scope}{f:Addr}{cd:Value}{A:Around}{outer:List Env}{s:Shared}{H:Hp}{E:XK}{pins:List (Addr×Obj)}{σ:St}{H1 H':Hp}{s1 s':Shared}{g h'' Bh:Heap}{ea k t:Addr}{cls:Value}
theorem ZfG(I:Inv (ZbF (CX1 P w) P w K mg base N qual scope f cd A outer s H E) pins σ H1 s1)(os:s'.os=s1.os)(bare:AllBare s'.gens)(un:Un (s.heap.objs.size::frs outer) [] H1 H' s1.heap g)(hok:HOk P w H' g)(up:g.UpToSlots h'')(fl:Heap.FlyingW Bh outer ea cls (.ref t) h'')(st:Bh.StaysIn g)(c1:∀b u,H' b=some u->∀o,g.get? b=some o->Bh.get? b=some o)(c2:∀b o,s.heap.get? b=some o->b ∉ s.heap.objs.size::frs outer->∃o',Bh.get? b=some o')(new:H' ea=none)(dn:∃o,g.get? ea=some o/\Zjr H' ea k o)(dk:DK g h''):Fly P w outer H s ea k cls H' { s' with heap:=h'' }:=by
 have neL:∀b o,s.heap.get? b=some o->b≠s.heap.objs.size:=fun b o e=>Zt1 (Heap.lt_size e)
 have nin:∀b o,s.heap.get? b=some o->b ∉ frs outer->b ∉ s.heap.objs.size::frs outer:=fun b o e n z=>(Zts.mp z).elim (neL b o e) n
 have b0:Un (frs outer) [] H H1 s.heap s1.heap:=I.base
 have fr0:∀b∈frs outer,H b=none:=I.ok.frf
 have slot:∀b o,s.heap.get? b=some o->H b=none->b∈frs outer->∃sl,h''.get? b=some { o with slots:=sl }:=fun b o q n hb=>by
  obtain⟨s2,e1⟩:=b0.slot b o q n hb (by simp)
  obtain⟨s3,e2⟩:=un.slot b _ e1 (b0.free b o q n (by simp)) (Zt9 _ hb) (by simp)
  obtain⟨_,o',ho',hnf⟩:=Heap.FunFrames.mem (show s.heap.FunFrames base outer from I.ok.funs) hb
  rw[q] at ho';cases ho'
  obtain⟨s4,e3⟩:=up b _ e2 hnf
  exact⟨s4,e3⟩
 have keepB:∀b o,s.heap.get? b=some o->H b=none->b ∉ frs outer->Bh.get? b=some o:=fun b o q n hb=>by
  have e1:=b0.keep b o q n hb (by simp)
  have e2:=un.keep b o e1 (b0.free b o q n (by simp)) (nin b o q hb) (by simp)
  obtain⟨o',e3⟩:=c2 b o q (nin b o q hb)
  have e4:=st b o' e3
  rw[e2] at e4;cases e4
  exact e3
 have thereB:∀b o,s.heap.get? b=some o->b ∉ frs outer->∃o',Bh.get? b=some o':=fun b o q hb=>by
  exact c2 b o q (nin b o q hb)
 refine⟨os.trans I.os,bare,⟨fun b o q n hb _=>fl.1 b o (keepB b o q n hb),fun b o q n hb _=>slot b o q n hb,fun b o q n _=>?_,fun b o q _=>?_,fun b xs q=>un.tups b xs (b0.tups b xs q),fun b o xs q=>un.frzs b o xs (b0.frzs b o xs q),fun b ps q=>?_⟩,fun b u e=>?_,new,(let ⟨o,e,d⟩:=dn;let ⟨o',e',d'⟩:=dk ea o e;⟨o',e',by unfold Zjr at d ⊢;rw[d'];exact d⟩),Bh,t,fl,fun b u e o q=>?_,thereB⟩
 ·obtain⟨o1,e1⟩:=b0.there b o q (by simp)
  exact un.free b o1 e1 (b0.free b o q n (by simp)) (by simp)
 ·by_cases hb:b∈frs outer
  ·obtain⟨sl,e⟩:=slot b o q (fr0 b hb) hb
   exact⟨_,e⟩
  ·obtain⟨o',e⟩:=thereB b o q hb
   exact⟨o',fl.1 b o' e⟩
 ·obtain⟨m1,e1⟩:=b0.tbls b ps q
  obtain⟨m2,e2⟩:=un.tbls b _ e1
  exact⟨m1++m2,by rw[e2,Array.append_assoc]⟩
 ·refine(hok b u e).stay (fun c v hc q=>?_) (fun _ q=>q) fun _ _ q=>q
  rcases hc with rfl|hc
  ·exact fl.1 c v (c1 c u e v q)
  ·exact fl.1 c v (c1 c _ hc v q)
 ·obtain⟨o1,e1⟩:=(hok b u e).there
  have e2:=c1 b u e o1 e1
  have e3:=fl.1 b o1 e2
  rw[e3] at q;cases q
  exact e2
def Zjp(X:Cx)(E:St->XK):Prop:=∀(pins:List (Addr×Obj)) (σ:St) (H:Hp) (s:Shared) (e:Value) (s':Shared),Inv X pins σ H s->CX1 X.prog X.w X.stack H s (E σ) e s'->X.xe e s'
def ZkH(X:Cx)(E:St->XK):Prop:=∀(pins:List (Addr×Obj)) (σ:St) (H:Hp) (s:Shared) (h':Heap) (ea:Addr) (cls:Value) (args:List Value),Inv X pins σ H s->Heap.MadeExcOf s.heap h' ea cls args->E σ cls (some ea) H->X.xe (.ref ea) { s with heap:=h' }
theorem Za9:Zjp (ZbF (CX1 P w) P w K mg base N qual scope f cd A outer s H E) (fun _=>E):=fun pins σ H1 s1 e s' I hq=>by
 obtain⟨ea,k,cls,H',rfl,F,hE⟩:=hq
 obtain⟨Bh,t,fl,c1,c2⟩:=F.fly
 refine wpAny_mono (Zb4 (Zar _ _) (wpAny_leaves_onW (Q:=fun _ s''=>∃h'',s''={ s' with heap:=h'' }/\Heap.FlyingW Bh outer ea cls (.ref t) h''/\s'.heap.UpToSlots h'') I.ok.frames rfl fl fun h'' fl'' up=>⟨h'',rfl,fl'',up⟩)) (fun _ s'' q=>?_) fun _ _ q=>q.1
 obtain⟨⟨h'',rfl,fl'',up⟩,dk⟩:=q
 exact⟨ea,k,cls,H',rfl,ZfG I F.os F.bare F.un F.hok up fl'' fl.1 c1 (fun b o e n=>let ⟨o1,e1⟩:=(show Un (frs outer) [] H H1 s.heap s1.heap from I.base).there b o e (by simp);c2 b o1 e1 n) F.new F.dict dk,hE⟩
theorem Zfy:ZkH (ZbF (CX1 P w) P w K mg base N qual scope f cd A outer s H E) (fun _=>E):=fun pins σ H1 s1 h' ea cls args I hx hE=>by
 have hin:∀env∈(ZbF (CX1 P w) P w K mg base N qual scope f cd A outer s H E).stack,∀b,env.frame=some b->b∈frs (ZbF (CX1 P w) P w K mg base N qual scope f cd A outer s H E).stack:=fun env he b hb=>Zu8.mpr ⟨env,he,hb⟩
 have trk:∀b u,H1 b=some u->b ∉ frs (ZbF (CX1 P w) P w K mg base N qual scope f cd A outer s H E).stack:=fun b u e z=>by rw[I.stkFree b z] at e;cases e
 have new:H1 ea=none:=by
  cases q:H1 ea with
  |none=>rfl
  |some u=>obtain⟨o,e⟩:=(I.hok ea u q).there;rw[hx.new] at e;cases e
 refine wpAny_mono (Zb4 (Zar _ _) (wpAny_leaves_madeW (Q:=fun _ s''=>∃h'' t,s''={ s1 with heap:=h'' }/\Heap.FlyingW (PySem.W.hideAll s1.heap (frs (ZbF (CX1 P w) P w K mg base N qual scope f cd A outer s H E).stack)) outer ea cls (.ref t) h''/\h'.UpToSlots h'')
  (base:=PySem.W.hideAll s1.heap (frs (ZbF (CX1 P w) P w K mg base N qual scope f cd A outer s H E).stack)) (h:=s1.heap) I.ok.frames rfl (fun b o q=>PySem.W.of_hideAll _ q) (PySem.W.funFrames_hide I.stack hin) hx fun h'' t fl _ _ up=>⟨h'',t,rfl,fl,up⟩)) (fun _ s'' q=>?_) fun _ _ q=>q.1
 obtain⟨⟨h'',t,rfl,fl,up⟩,dk⟩:=q
 have dn:∃o,h'.get? ea=some o/\Zjr H1 ea ea o:=by obtain⟨t,e,_⟩:=hx.there;exact⟨_,e,.inl ⟨rfl,rfl⟩⟩
 refine⟨ea,ea,cls,H1,rfl,ZfG (g:=h') (t:=t) (s':={ s1 with heap:=h' }) I rfl I.bare (Un.kept hx.keeps) (I.hok.kept hx.keeps) up fl (fun b o q=>hx.keeps b o (PySem.W.of_hideAll _ q)) (fun b u e o q=>?_) (fun b o q n=>let ⟨o1,e1⟩:=(show Un (frs outer) [] H H1 s.heap s1.heap from I.base).there b o q (by simp);⟨o1,PySem.W.hideAll_get _ e1 n⟩) new dn dk,hE⟩
 obtain⟨o1,e1⟩:=(I.hok b u e).there
 have e2:=hx.keeps b o1 e1
 rw[q] at e2;cases e2
 exact PySem.W.hideAll_get _ e1 (trk b u e)
end
noncomputable def Zl8:List Value:=[.type "ValueError",.type "Exception",.type "BaseException",.type "object"]
noncomputable def Zhz(C:Addr)(E:St->XK)(ta:TA):TS:=fun D σ H=>ta σ H fun vs H1=>vs.length<=1000/\∀ea,H1 ea=none->E σ (.ref C) (some ea) H1
theorem ZiR{K:W.Frag}{h₀:Heap}{C:Addr}{bmB:List Value}{newId:String}(X:K.In h₀)(q:PySem.W.excIn K C bmB newId=true) :
  ∃tl N nm qn bs hdct sn sub ab col dd k0 k1 k2 k3 k5 mN,h₀.get? C=some (excClassObj nm qn C N bs tl hdct sn sub ab col dd k0 k1 k2 k3 k5 newId)/\h₀.Ns N mN/\mN "__init__"=none/\OwnTail h₀ bmB tl:=by
 unfold PySem.W.excIn at q
 split at q
 ·rename_i dd cd sl ho
  split at q
  ·rename_i C' bm k0 k1 k2 k3 n k5 hm hs
   simp only[Bool.and_eq_true,beq_iff_eq,Bool.not_eq_true'] at q
   obtain⟨⟨⟨⟨⟨rfl,rfl⟩,hdel⟩,ht⟩,hok⟩,hni⟩:=q
   obtain⟨nm,bs,mro,ns,qn,hd,sn,sub,ab,col,del⟩:=cd
   dsimp only at hm hdel hok hni
   subst hm hdel
   have hsl:sl=#[k0,k1,k2,k3,some (.builtin n),k5]:=by
    obtain⟨l⟩:=sl
    simp only at hs
    rw[hs]
   subst hsl
   exact⟨bm,ns,nm,qn,bs,hd,sn,sub,ab,col,dd,k0,k1,k2,k3,k5,_,X _ _ ho,.of_isNs (PySem.W.isNs_of_in X hok),PySem.W.nsMap_none_of_in X hok hni,PySem.W.tail_of_in X ht⟩
  ·cases q
 ·cases q
section
variable {X:Cx}{E:St->XK}{x:Str}{C:Addr}{np cpos pos:Pos}{e:Expr}{es:List Expr}{ta:TA}
theorem ZcV(hM:ZkH X E)(hq:PySem.W.excIn X.K C Zl8 "ValueError.__new__"=true)(hg:Gl X x)(hm:X.mg x=some (.ref C))(hc:X.calm=true)(ha:PA X (e::es) ta)(hdb:(x==("__debug__":Str))=false:=by decide)(he:starEach (e::es) X.env=(false,eval e X.env)::starEach es X.env:=by rfl)(hpl:(backTo cpos (starEach es X.env)).any (·.1)=false:=by rfl) :
  PS X (.Raise (some (.Call (.Name x np) (e::es) [] cpos)) none pos) (Zhz C E ta):=by
 intro pins s σ H D I h
 obtain⟨tl,N,nm,q,bs,hdct,sn,sub,ab,col,dd,k0,k1,k2,k3,k5,mN,hC,hN,hni,T⟩:=ZiR I.ok.mod.kin hq
 refine wpAny_Raise_call_subT (C:=C) (nm:=nm) (q:=q) (N:=N) (bs:=bs) (bm:=tl) (hdct:=hdct) (sn:=sn) (sub:=sub) (ab:=ab) (col:=col) (dd:=dd) (k0:=k0) (k1:=k1) (k2:=k2) (k3:=k3) (k5:=k5)
  PySem.F.excBase_ValueError (mN:=mN) (T.hasType PySem.F.excBase_ValueError.hasBase) (I.ok.hd hc) (by rw[he];show (false || (backTo cpos (starEach es X.env)).any (·.1))=false;rw[hpl];rfl) hni (UI I hg hm ⟨rfl, ?_⟩ hdb)
 have h2:=ha cpos pins s σ H _ I h
 rw[he] at h2 ⊢
 refine Calls.evalArgs_plain (wpAny_mono h2 (fun us s₂ z=>?_) fun _ _ y=>y)
 obtain⟨vs,H1,I1,r,hl,hE⟩:=z
 have hnew:∀{h':Heap}{ea:Addr}{args:List Value},Heap.MadeExcOf s₂.heap h' ea (.ref C) args->H1 ea=none:=fun {h' ea args} hx=>by
  cases q:H1 ea with
  |none=>rfl
  |some u=>obtain⟨o,e⟩:=(I1.hok ea u q).there;rw[hx.new] at e;cases e
 exact⟨rfl,Zt7 (by rw[<- r.length];exact hl) (by decide),I1.bk _ _ hC,hN.keeps I1.bk,T.keeps I1.bk,fun h' ea hx=>hM pins σ H1 s₂ h' ea _ _ I1 hx (hE ea (hnew hx))⟩
end
theorem Zku{P:Program}{w:World}{outer:List Env}{H H':Hp}{s s':Shared}{ea k t:Addr}{cls:Value}{Bh h'':Heap}(F:Fly P w outer H s ea k cls H' s')(fl:Heap.FlyingW Bh outer ea cls (.ref t) s'.heap)(c1:∀b u,H' b=some u->∀o,s'.heap.get? b=some o->Bh.get? b=some o)(c2:∀b o,s.heap.get? b=some o->b ∉ frs outer->∃o',Bh.get? b=some o')(st:Bh.StaysIn h'')(up:s'.heap.UpToSlots h'') :
  Un (frs outer) [] H H' s.heap h''/\HOk P w H' h'':=by
 refine⟨⟨fun b o q n hb _=>?_,fun b o q n hb _=>?_,fun b o q n hx=>F.un.free b o q n hx,fun b o q _=>?_,F.un.tups,F.un.frzs,F.un.tbls⟩,fun b u e=>?_⟩
 ·have e2:=F.un.keep b o q n hb (by simp)
  obtain⟨o',e3⟩:=c2 b o q hb
  have e4:=fl.1 b o' e3
  rw[e2] at e4;cases e4
  exact st b o e3
 ·obtain⟨s2,e2⟩:=F.un.slot b o q n hb (by simp)
  obtain⟨_,o',ho',hnf⟩:=Heap.FunFrames.mem fl.2.2.1 hb
  rw[e2] at ho';cases ho'
  obtain⟨s3,e3⟩:=up b _ e2 hnf
  exact⟨s3,e3⟩
 ·by_cases hb:b∈frs outer
  ·obtain⟨_,o',ho',hnf⟩:=Heap.FunFrames.mem fl.2.2.1 hb
   obtain⟨sl,e⟩:=up b _ ho' hnf
   exact⟨_,e⟩
  ·obtain⟨o',e⟩:=c2 b o q hb
   exact⟨o',st b o' e⟩
 ·refine(F.hok b u e).stay (fun c v hc q=>?_) (fun _ q=>q) fun _ _ q=>q
  rcases hc with rfl|hc
  ·exact st c v (c1 c u e v q)
  ·exact st c v (c1 c _ hc v q)
section
variable {X:Cx}{pins:List (Addr×Obj)}{σ:St}{H:Hp}{s:Shared}
theorem Inv.track{ea:Addr}{oe:Obj}(I:Inv X pins σ H s)(e:s.heap.get? ea=some oe)(hn:H ea=none)(hL:ea≠X.env.locals)(hC:∀x c,X.env.cells.lookup x=some c->c≠ea)(hp:∀p∈X.pn++pins,p.1≠ea)(h0:X.s₀.heap.get? ea=none) :
  Inv X pins σ (upd H ea (.frz oe (.own ea))) s:=by
 refine⟨I.ok,I.os,I.bare,⟨I.base.keep,I.base.slot,fun b o q n hx=>?_,I.base.there,fun b xs q=>?_,fun b o u q=>?_,fun b ps q=>?_⟩,I.loc,I.cell, ?_,fun x c q=>?_,fun p hq=>?_,fun b u q=>?_,I.len⟩
 ·rw[Z1 (fun z=>by rw[z,h0] at q;cases q)];exact I.base.free b o q n hx
 ·have:=I.base.tups b xs q
  rw[Z1 (ZG this hn)];exact this
 ·have:=I.base.frzs b o u q
  rw[Z1 (ZG this hn)];exact this
 ·obtain⟨m,this⟩:=I.base.tbls b ps q
  exact⟨m,by rw[Z1 (ZG this hn)];exact this⟩
 ·rw[Z1 (Ne.symm hL)];exact I.free
 ·rw[Z1 (hC x c q)];exact I.freeC x c q
 ·obtain⟨a,b,c,d,e⟩:=I.pin p hq
  exact⟨a,by rw[Z1 (hp p hq)];exact b,c,d,e⟩
 ·by_cases hb:b=ea
  ·subst hb
   rw[ZD] at q;cases q
   exact⟨e,oe,e⟩
  ·rw[Z1 hb] at q
   exact(I.hok b u q).stay (fun c v _ z=>z) (fun c z=>by rw[Z1 (ZG z hn)];exact z) fun c xs z=>by rw[Z1 (ZG z hn)];exact z
theorem Inv.gone{i:Nat}{n:Str}{m:Str->Option Value}{v:Option Value}{h':Heap}{t':Nat}(I:Inv X pins σ H s)(hN:X.N.Nodup)(hi:X.N[i]?=some n)(hm:∀(j:Nat) (x:Str) (v:V),X.N[j]?=some x->σ[j]?=some (some v)->Vis X.env.scope x->∃u,JX v u/\Zmd X.env s.heap m x u)(hn:h'.Ns X.env.locals (fun x=>if x=n then v else m x))(hs:Heap.SameBut X.env.locals s.heap h')(hoL:∃o,s.heap.get? X.env.locals=some o):Inv X pins (σ.set i none) H { s with heap:=h',toks:=t' }:=by
 have tracked:HOk X.prog X.w H h':=fun b ob e=>by
  refine(I.hok b ob e).stay (fun c w' hc q=>(hs.2 c ?_).trans q) (fun _ q=>q) fun _ _ q=>q
  intro z
  rw[z] at hc
  rcases hc with hc|hc
  ·rw[<- hc,I.free] at e;cases e
  ·rw[I.free] at hc;cases hc
 have neL:∀b o,X.s₀.heap.get? b=some o->b≠X.env.locals:=fun b o e=>Zt1 (Ztm (Heap.lt_size e) I.ok.above)
 refine⟨I.ok,I.os,I.bare,⟨fun b o e n hb hx=>?_,fun b o e n hb hx=>?_,I.base.free,fun b o e hx=>?_,I.base.tups,I.base.frzs,I.base.tbls⟩,⟨_,hn,fun j y v' e1 e2 e3=>?_⟩,fun y c e=>?_,I.free,I.freeC,fun p hp=>?_,tracked,by simpa using I.len⟩
 ·exact(hs.2 b (neL b o e)).trans (I.base.keep b o e n hb hx)
 ·obtain⟨sl,e1⟩:=I.base.slot b o e n hb hx
  exact⟨sl,(hs.2 b (neL b o e)).trans e1⟩
 ·obtain⟨o',e1⟩:=I.base.there b o e hx
  exact⟨o',(hs.2 b (neL b o e)).trans e1⟩
 ·by_cases hj:j=i
  ·subst hj
   rw[List.getElem?_set] at e2
   simp only[if_true] at e2
   split at e2<;>cases e2
  ·rw[Ztl (Ne.symm hj)] at e2
   obtain⟨u',r',q⟩:=hm j y v' e1 e2 e3
   refine⟨u',r', ?_⟩
   rcases q with ⟨k,e⟩|⟨k,c,e,z⟩
   ·refine .inl ⟨k, ?_⟩
    have:y≠n:=fun e=>hj (ZaE hN e1 (e▸hi))
    simp[this,e]
   ·exact .inr ⟨k,c,e,z.sameBut hs (I.cne y c e)⟩
 ·obtain⟨w',z⟩:=I.cell y c e
  exact⟨w',z.sameBut hs (I.cne y c e)⟩
 ·obtain⟨e,n,ne,nf,d⟩:=I.pin p hp
  exact⟨(hs.2 p.1 ne).trans e,n,ne,nf,d⟩
end
noncomputable def unE(D:Zex)(i:Nat):Zex:=⟨fun σ H=>D.nx (σ.set i none) H,D.rt,fun σ H=>D.bk (σ.set i none) H,fun σ H=>D.ct (σ.set i none) H⟩
noncomputable def ZkQ(K:W.Frag)(C:Addr)(i:Nat)(th:TS)(D:Zex):St->XK:=fun σ1 cls ea H1=>PySem.W.exmOne K cls (.ref C)=some true/\∃k,ea=some k/\∀(a:Addr) (oe:Obj),H1 a=none->oe.cls=cls->Zjr H1 a k oe->PySem.W.notCls oe=true->th (unE D i) (σ1.set i (some (.ref a))) (upd H1 a (.frz oe (.own a)))
noncomputable def ZlJ(K:W.Frag)(C:Addr)(i:Nat)(tb:(St->XK)->TS)(th:TS):TS:=fun D σ H=>tb (ZkQ K C i th D) D σ H
noncomputable abbrev Cx.inTry(X:Cx)(xe:Value->Shared->Prop)(pn:List (Addr×Obj)):Cx:={ X with xe:=xe,pn:=pn }
noncomputable abbrev Cx.inExc(X:Cx)(A:Around):Cx:={ X with A:=A,calm:=false,xe:=fun _ _=>False }
section
variable {X:Cx}{pins:List (Addr×Obj)}{σ:St}{H:Hp}{s:Shared}
theorem Inv.tryIn{xe:Value->Shared->Prop}(I:Inv X pins σ H s):Inv (X.inTry xe (X.pn++pins)) [] σ H s:=
 ⟨⟨I.ok.mod,I.ok.kind,I.ok.glob,I.ok.blt,I.ok.above,I.ok.inj,I.ok.has,I.ok.cab,I.ok.hd,I.ok.frames,I.ok.stk,I.ok.exf,I.ok.bs,I.ok.bsz,I.ok.noex,I.ok.exfs,I.ok.funs,I.ok.frf⟩,I.os,I.bare,I.base,I.loc,I.cell,I.free,I.freeC,fun p hp=>I.pin p (by simpa using hp),I.hok,I.len⟩
theorem Inv.tryOut{xe:Value->Shared->Prop}{pins':List (Addr×Obj)}(I:Inv (X.inTry xe (X.pn++pins)) pins' σ H s):Inv X pins σ H s:=
 ⟨⟨I.ok.mod,I.ok.kind,I.ok.glob,I.ok.blt,I.ok.above,I.ok.inj,I.ok.has,I.ok.cab,I.ok.hd,I.ok.frames,I.ok.stk,I.ok.exf,I.ok.bs,I.ok.bsz,I.ok.noex,I.ok.exfs,I.ok.funs,I.ok.frf⟩,I.os,I.bare,I.base,I.loc,I.cell,I.free,I.freeC,fun p hp=>I.pin p (Ztj _ hp),I.hok,I.len⟩
theorem Inv.excIn{e:Value}(I:Inv X pins σ H s):Inv (X.inExc (X.A.mark (some e))) pins σ H s:=
 ⟨⟨I.ok.mod,I.ok.kind,I.ok.glob,I.ok.blt,I.ok.above,I.ok.inj,I.ok.has,I.ok.cab,fun z=>(by cases z),I.ok.frames,I.ok.stk,I.ok.exf,I.ok.bs,I.ok.bsz,I.ok.noex,I.ok.exfs,I.ok.funs,I.ok.frf⟩,I.os,I.bare,I.base,I.loc,I.cell,I.free,I.freeC,I.pin,I.hok,I.len⟩
theorem Inv.excOut{e:Value}(h:X.Ok)(I:Inv (X.inExc (X.A.mark (some e))) pins σ H s):Inv X pins σ H s:=⟨h,I.os,I.bare,I.base,I.loc,I.cell,I.free,I.freeC,I.pin,I.hok,I.len⟩
end
section
variable {X:Cx}{C:Addr}{i:Nat}{tb:(St->XK)->TS}{th:TS}{c n:Str}{np hpos pos:Pos}{body suite:List Stmt}{b₀:Stmt}
theorem ZjJ(hb:∀(xe:Value->Shared->Prop) (pn:List (Addr×Obj)) (E:St->XK),Zjp (X.inTry xe pn) E->PSs (X.inTry xe pn) body (tb E))(hh:∀A,PSs (X.inExc A) (b₀::suite) th)(hN:X.N.Nodup)(hi:X.N[i]?=some n)(hl:X.env.scope.names.lookup n=some .local)(hg:Gl X c)(hm:X.mg c=some (.ref C))(hst:X.stack=X.env::X.outer)(hf:X.env.frame=some X.env.locals)(hex:X.ex=[])(hdb:(c==("__debug__":Str))=false:=by decide) :
  PS X (.Try body [.ExceptHandler (some (.Name c np)) (some n) (b₀::suite) hpos] [] [] pos) (ZlJ X.K C i tb th):=by
 intro pins s σ H D I h
 refine wpAny_Try_except ?_
 refine wpAny_mono (hb (fun e s'=>∃σ1 H1 s1,Inv X pins σ1 H1 s1/\CX1 X.prog X.w X.stack H1 s1 (ZkQ X.K C i th D σ1) e s') (X.pn++pins) (ZkQ X.K C i th D) (fun pins' σ1 H1 s1 e s' I' hq=>⟨σ1,H1,s1,I'.tryOut,hq⟩) [] s σ H D I.tryIn h) (fun f s1 q=>?_) (fun e s1 q=>?_)
 ·cases f with
  |next=>obtain⟨σ',H',I',q⟩:=q;exact wpAny_execs_nil ⟨σ',H',I'.tryOut,q⟩
  |brk=>obtain⟨σ',H',I',q⟩:=q;exact⟨σ',H',I'.tryOut,q⟩
  |cont=>obtain⟨σ',H',I',q⟩:=q;exact⟨σ',H',I'.tryOut,q⟩
  |ret u=>obtain⟨v,σ',H',I',r,q⟩:=q;exact⟨v,σ',H',I'.tryOut,r,q⟩
 ·obtain⟨σ1,H1,s0,I1,ea,kk,cls,H',rfl,F,hx,a,ha,hth⟩:=q
  cases ha
  obtain⟨Bh,t,fl,c1,c2⟩:=F.fly
  have hfr:X.A.frames=some (X.env::X.outer):=by rw[<- hst];exact I.ok.frames
  have fl0:=fl
  rw[hst] at fl
  have new0:s0.heap.get? ea=none:=by
   cases q:s0.heap.get? ea with
   |none=>rfl
   |some o =>
    exfalso
    by_cases hb:ea∈frs X.stack
    ·obtain⟨_,o',ho',hnf⟩:=Heap.FunFrames.mem fl0.2.2.1 hb
     obtain⟨oe,vs,hoe,_,hd,_⟩:=fl0.first
     rw[hoe] at ho';cases ho'
     exact hnf vs hd
    ·obtain⟨o',e⟩:=c2 ea o q hb
     rw[fl0.2.1] at e;cases e
  have neL:ea≠X.env.locals:=fun z=>by
   obtain⟨m,⟨o,_,_,ho,_⟩,_⟩:=I1.loc
   rw[<- z,new0] at ho;cases ho
  have neC:∀x c,X.env.cells.lookup x=some c->c≠ea:=fun x c e z=>by
   obtain⟨v,o,ho,_⟩:=I1.cell x c e
   rw[z,new0] at ho;cases ho
  have neP:∀p∈X.pn++pins,p.1≠ea:=fun p hp z=>by
   have:=(I1.pin p hp).1
   rw[z,new0] at this;cases this
  have new1:X.s₀.heap.get? ea=none:=by
   cases q:X.s₀.heap.get? ea with
   |none=>rfl
   |some o=>obtain⟨o',e⟩:=I1.base.there ea o q (by rw[hex];simp);rw[new0] at e;cases e
  have land:∀{h'':Heap},Bh.StaysIn h''->s1.heap.UpToSlots h''->Inv X pins σ1 H' { s1 with heap:=h'' }:=fun {h''} st up=>by
   obtain⟨u,hok⟩:=Zku F fl0 c1 c2 st up
   exact I1.call' (s':={ s1 with heap:=h'' }) (ch:=[]) F.os u hok F.bare (fun b z=>absurd z (by simp))
  refine wpAny_mono (Zb4 (Zf3 _ _) (wpAny_looks_onW (Q:=fun _ s''=>∃h4,s''={ s1 with heap:=h4 }/\Heap.HeldW Bh (X.env::X.outer) ea cls (.ref t) X.env.locals h4/\s1.heap.UpToSlots h4) hfr hf fl fun h4 held4 up4=>⟨h4,rfl,held4,up4⟩)) (fun _ s'' q=>?_) fun _ _ q=>q.1
  obtain⟨⟨h4,rfl,held4,up4⟩,dk4⟩:=q
  refine wpAny_mono (Zb4 (VC _ _) (wpAny_landsW (Q:=fun _ s''=>∃h5,s''={ s1 with heap:=h5 }/\Heap.FlyingW Bh (X.env::X.outer) ea cls (.ref t) h5/\h4.UpToSlots h5) held4 fun h5 fl5 up5=>⟨h5,rfl,fl5,up5⟩)) (fun _ s'' q=>?_) fun _ _ q=>q.1
  obtain⟨⟨h5,rfl,fl5,up5⟩,dk5⟩:=q
  have up5':s1.heap.UpToSlots h5:=up4.trans up5
  have I5:=land fl5.1 up5'
  refine wpAny_handleBy_cons (codeAny_handlers_test ?_) (by intro q;cases q)
  refine UI (X:=X.inExc (X.A.mark (some (.ref ea)))) I5.excIn hg hm ?_ hdb
  obtain⟨oe5,hoe5,hc5⟩:=fl5.there
  have LT:PySem.W.Looks (model X.prog X.w) h5 (typeOf (.ref ea)) cls:=by
   subst hc5
   exact(PySem.W.Looks.ld hoe5).andThen .now
  refine PySem.W.Looks.here (s:={ s1 with heap:=h5 }) (PySem.W.exm_one I5.kIn LT hx) ?_
  refine codeAny_handlers_suite_as ?_
  refine wpAny_mono (Zb4 (VC _ _) (lands_againW (Q:=fun _ s''=>∃h6,s''={ s1 with heap:=h6 }/\Heap.FlyingW Bh (X.env::X.outer) ea cls (.ref t) h6/\h5.UpToSlots h6) fl5 fun h6 fl6 up6=>⟨h6,rfl,fl6,up6⟩)) (fun _ s'' q=>?_) fun _ _ q=>q.1
  obtain⟨⟨h6,rfl,fl6,up6⟩,dk6⟩:=q
  have I6:=land fl6.1 (up5'.trans up6)
  obtain⟨oe,ws,hoe,hc,hfd,_⟩:=fl6.first
  have hdn:Zjr H' ea kk oe:=by
   obtain⟨o1,e1,d1⟩:=F.dict
   obtain⟨o2,e2,d2⟩:=dk4 ea o1 e1
   obtain⟨o3,e3,d3⟩:=dk5 ea o2 e2
   obtain⟨o4,e4,d4⟩:=dk6 ea o3 e3
   have e4':h6.get? ea=some o4:=e4
   rw[hoe] at e4';cases e4'
   unfold Zjr at d1 ⊢
   rw[d4,d3,d2];exact d1
  have hnc:PySem.W.notCls oe=true:=by unfold PySem.W.notCls;rw[hfd]
  have I7:=I6.track (ea:=ea) (oe:=oe) hoe F.new neL neC neP new1
  refine VN (X:=X) I7 hN hi (.inl hl) (v:=.ref ea) rfl (fun s8 I8=>?_) (.inr hl)
  refine wpAny_mono (hh (X.A.mark (some (.ref ea))) pins s8 _ _ (unE D i) I8.excIn (hth ea oe F.new hc hdn hnc)) (fun f s9 q=>?_) (fun _ _ z=>False.elim z)
  have hcls:(X.env.scope.kind==.class || (X.env.scope.kind==.module&&X.env.locals != X.env.globals))=false:=by rw[I.ok.kind];rfl
  have go:∀{σ9:St}{H9:Hp},Inv (X.inExc (X.A.mark (some (.ref ea)))) pins σ9 H9 s9->∀{Q:Unit->Shared->Prop},(∀s',Inv X pins (σ9.set i none) H9 s'->Q () s') ->
    wpAny (model X.prog X.w) X.A (do bindName X.env n .none;unbindBehindTheSuite X.env n hpos) Q X.xe s9:=fun {σ9 H9} J {Q} hQ=>by
   have J':=Inv.excOut I.ok J
   obtain⟨m,hn,hlook⟩:=id J'.loc
   obtain⟨o,_,_,ho,_⟩:=id hn
   exact wpAny_nameGoes_keeps hl hn hcls fun h' v hn' hs'=>hQ _ (J'.gone hN hi hlook hn' hs' ⟨o,ho⟩)
  cases f with
  |next=>obtain⟨σ',H',I',q⟩:=q;exact go I' fun s' J=>⟨_,_,J,q⟩
  |brk=>obtain⟨σ',H',I',q⟩:=q;exact go I' fun s' J=>⟨_,_,J,q⟩
  |cont=>obtain⟨σ',H',I',q⟩:=q;exact go I' fun s' J=>⟨_,_,J,q⟩
  |ret u=>obtain⟨v,σ',H',I',r,q⟩:=q;exact go I' fun s' J=>⟨v,_,_,J,r,q⟩
end
end L2
namespace PySem.W
open PySem PySem.Spec PySem.Calls PyProof.Rows
section
variable {prog:Program}{w:World}{A:Around}{E:Value->Shared->Prop}{s:Shared}{K:Frag}{x D:Addr}{ox:Obj}{od:Option Obj}
theorem Zep:Manifest.canonical "BaseException.__getattribute__" = "object.__getattribute__":=by decide +kernel
theorem method_exc{name:Str}{f:Addr}{pl:Sem Bool}{Q:Value×List Value->Shared->Prop}(X:K.In s.heap)(I:InstAt s.heap x ox D od)(hga:findIn K (.ref D) "__getattribute__"=some (some (.builtin "BaseException.__getattribute__")))(hk:findIn K (.ref D) "__getattr__"=some none)(hown:∀o,od=some o->lookIn name o=some none)(hf:findIn K (.ref D) name=some (some (.ref f)))(ht:typeIn K (.ref f)=some (.type "function"))(h:Q (.ref f,[.ref x]) s):wpAny (model prog w) A (getMethod (.ref x) name pl) Q E s:=by
 have hcan:=Zep
 unfold getMethod specialOf
 refine wpAny_bind (wpAny_bind (I.type.here ((looks_findIn X hga).here ?_)))
 dsimp only
 rw[hcan,if_neg (by decide)]
 refine wpAny_bind (wpAny_bind (I.type.here ((looks_findIn X hk).here ?_)))
 refine wpAny_bind (wpAny_bind (I.type.here ((looks_findIn X hf).here (wpAny_bind ((looks_typeIn X ht).here ?_)))))
 rw[if_neg (by decide +kernel)]
 refine wpAny_bind (wpAny_loadPart I.at_ ?_)
 have hd:=I.dict
 cases e:ox.dict with
 |none=>exact wpAny_bind (wpAny_rule (wpAny_pure h))
 |some dx =>
  rw[e] at hd
  cases od with
  |none=>exact hd.elim
  |some o =>
   dsimp only
   refine wpAny_bind (wpAny_bind (wpAny_loadPart hd ?_))
   rw[nsLook_of (hown o rfl)]
   exact wpAny_pure (wpAny_bind (wpAny_rule (wpAny_pure h)))
theorem Zeo{M:Model}{nameV:Value}{Q:Unit->Shared->Prop}(X:K.In s.heap)(I:InstAt s.heap x ox D od)(hb:mroIn K D (.type "BaseException")=some true)(hq:Q () s):wpAny M A (checkBuiltinCall "BaseException.__getattribute__" ⟨[.ref x,nameV],[]⟩) Q E s:=by
 have hk:builtinKind "BaseException.__getattribute__"=some .slot:=by decide +kernel
 have hsplit:splitId "BaseException.__getattribute__"=some ("BaseException", "__getattribute__"):=by decide +kernel
 have ha:=F.args_bexc_ga (.ref x) nameV
 have L:Looks M s.heap (isInstance (.ref x) (.type "BaseException")) true:=(I.type (M:=M)).andThen (looks_mroIn X hb)
 simp only[checkBuiltinCall,hk,hsplit]
 refine wpAny_bind ?_
 refine L.here ?_
 obtain⟨h,g,d,t,os⟩:=s
 repeat (first|wp_step)
 all_goals exact hq
theorem ZfH{Q:Option Value->Shared->Prop}(X:K.In s.heap)(I:InstAt s.heap x ox D od)(hga:findIn K (.ref D) "__getattribute__"=some (some (.builtin "BaseException.__getattribute__")))(hk:findIn K (.ref D) "__getattr__"=some none)(hb:mroIn K D (.type "BaseException")=some true)(hf:findObj K D od "__class__"=some (.bind (.builtin "getset_descriptor.__get__") (.builtin "object.__class__")))(hm:mroIn K D (.type "object")=some true)(h:Q (some (.ref D)) { s with toks:=s.toks+1 }):wpAny (model prog w) A (getAttr? (.ref x) "__class__") Q E s:=by
 obtain⟨hh,g,d,t,os⟩:=s
 have L0:=I.type (M:=model prog w)
 have L1:=looks_findIn (M:=model prog w) X hga
 have L2:=looks_findIn (M:=model prog w) X hk
 have L3:=looks_find (M:=model prog w) X I hf
 unfold getAttr? getAttrBy? getAttrBy
 refine wpAny_bind (wpAny_mkText (wpAny_bind (wpAny_attempt (wpAny_holding (wpAny_bind (L0.at (wpAny_bind (L1.at ?_))))))))
 dsimp only
 have hne:(onTheHeap (Value.ref D)&&Value.builtin "BaseException.__getattribute__" == Value.builtin "object.__getattribute__")=false:=by
  have hx2:(Value.builtin "BaseException.__getattribute__" == Value.builtin "object.__getattribute__")=false:=by decide +kernel
  rw[hx2];rfl
 rw[if_neg (by rw[hne];decide)]
 unfold getAttrByItsOwn hookBefore
 rw[show onTheHeap (Value.ref D)=true from rfl,if_pos rfl]
 refine wpAny_bind (L2.at ?_)
 refine wpAny_bind (wpAny_attempt (wpAny_holding ?_))
 unfold callGetattribute
 rw[if_neg (by decide)]
 unfold boundAndCalled
 refine wpAny_bind (wpAny_of_eq (PySem.F.attrBase_ValueError.ga.bind (.ref x)) ?_)
 refine wpAny_call (codeAny_call_builtin PySem.F.attrBase_ValueError.ga.plain F.entry_bexc_ga (Zeo X I hb ?_))
 unfold Builtin.«object.__getattribute__»
 refine wpAny_bind (wpAny_pure ?_)
 refine wpAny_bind (wpAny_pure ?_)
 refine wpAny_bind (L0.at (wpAny_bind (L3.at ?_)))
 show wpAny _ _ (holding [Value.builtin "object.__class__"] (call (.builtin "getset_descriptor.__get__") [.builtin "object.__class__",.ref x,.ref D]) >>= fun v=>ret v) _ _ _
 refine wpAny_bind (wpAny_holding (wpAny_call (class_get (s:=⟨hh,g,d,t+1,os⟩) (ox:=ox) (od:=od) X I hm ?_)))
 exact wpAny_pure (handed_on rfl (wpAny_pure h))
noncomputable def exOk(K:Frag)(D:Addr):Bool:=(findIn K (.ref D) "__getattribute__" == some (some (.builtin "BaseException.__getattribute__")))&&(findIn K (.ref D) "__getattr__" == some none)&&(mroIn K D (.type "BaseException")==some true)&&(mroIn K D (.type "object")==some true) &&
 (findIn K (.ref D) "__class__" == some (some (.builtin "object.__class__")))&&(specialIn K (.builtin "object.__class__") "__get__" == some (some (.builtin "getset_descriptor.__get__")))&&(takesIn K (.builtin "object.__class__")==some true)&&(clsIn K D).isSome
theorem Zb9{C:Addr}{name:Str}{a g:Value}(hc:(clsIn K C).isSome=true)(ha:findIn K (.ref C) name=some (some a))(hg:specialIn K a "__get__"=some (some g))(ht:takesIn K a=some true):findObj K C od name=some (.bind g a):=by
 obtain⟨cd,hc⟩:=ZtW.mp hc
 unfold findObj
 rw[hc,Zuz,ha,Zuz]
 simp only[hg,ht,Zuz]
theorem kitx_exc(h:exOk K D=true):KitX K (.ref x) (.ref D) (fun h=>∃ox od,InstAt h x ox D od):=by
 simp only[exOk,Bool.and_eq_true,beq_iff_eq] at h
 obtain⟨⟨⟨⟨⟨⟨⟨h1,h2⟩,h3⟩,h4⟩,h5⟩,h6⟩,h7⟩,h8⟩:=h
 have hob:∃c' d' cd' sl',K.lookup D=some ⟨c',d',.cls cd',sl'⟩:=by
  obtain⟨cd,e⟩:=ZtW.mp h8
  unfold clsIn at e
  split at e
  ·rename_i c' d' cd' sl' ho;exact⟨_,_,_,_,ho⟩
  ·cases e
 obtain⟨c',d',cd',sl',ho⟩:=hob
 refine⟨fun M h _ ⟨ox,od,I⟩=>I.type,fun M h X _=>?_,fun h tp dd its n sl X htp=>?_,fun X ⟨ox,od,I⟩ k=>ZfH X I h1 h2 h3 (Zb9 h8 h5 h6 h7) h4 k⟩
 ·intro A' Q' E' s' k q
  unfold isType loadHead
  exact wpAny_bind (wpAny_loadPart (k _ _ (X _ _ ho)) (wpAny_pure q))
 ·refine Bool.eq_false_iff.mpr fun q=>?_
  have e:D=tp:=Value.ref.inj (beq_iff_eq.mp q)
  subst e
  have z:=(X _ _ ho).symm.trans htp
  cases z
end
end PySem.W
namespace L2
open PySem PySem.Spec PyProof.Rows
def OkX(P:Program)(w:World)(K:W.Frag)(mg:Str->Option Value)(base:Heap)(k:Nat)(x:Str)(ps:List Str)(sp:Sp):Prop:=
 ∃f fd,J8 P w K mg base (CX1 P w) k f fd ps sp/\mg x=some (.ref f)/\PySem.W.keepIn K (.ref f)=true/\Zba K fd ps []
theorem ZgP{P:Program}{w:World}{K:W.Frag}{mg:Str->Option Value}{base:Heap}{k:Nat}{x:Str}{st:Stmt}{ps:List Str}{sp:Sp}(d:Dfn K mg x st)(b:Zw x st ps)(h:∀{f fd},Fun K x x st f fd->J8 P w K mg base (CX1 P w) k f fd ps sp):OkX P w K mg base k x ps sp:=by
 obtain⟨f,fd,F,hm⟩:=d
 exact⟨f,fd,h F,hm,F.kp,F.binds b⟩
section
variable {X:Cx}{k:Nat}{x:Str}{ps:List Str}{sp:Sp}{p pos:Pos}{e:Expr}{es:List Expr}{t:TA}{E:St->XK}
noncomputable def Ze5(sp:Sp)(E:St->XK)(t:TA):TE:=fun σ H Q=>t σ H fun vs H1=>sp vs H1 Q (E σ)
theorem U5(G:OkX X.prog X.w X.K X.mg X.base k x ps sp)(hr:UR k X.A)(hg:Gl X x)(hx:Zjp X E)(ha:PA X (e::es) t)(hdb:(x==("__debug__":Str))=false:=by decide)(he:starEach (e::es) X.env=(false,eval e X.env)::starEach es X.env:=by rfl)(hpl:(backTo pos (starEach es X.env)).any (·.1)=false:=by rfl):PE X (.Call (.Name x p) (e::es) [] pos) (Ze5 sp E t):=by
 obtain⟨f,fd,F,hm,hk,hb⟩:=G
 intro pins s σ H Q I h
 refine wpAny_Call_Name_kw (UI I hg hm ?_ hdb)
 refine PySem.W.callWith_K (h₀:=X.base) I.ok.mod.kin hk (thn (ha pos pins s σ H _ I h) fun us s1 ⟨vs,H1,I1,r,q⟩=>⟨I1.kIn, ?_⟩) he hpl
 have hl:(us++[]).length=ps.length:=by rw[ZtG,<- r.length];exact F.len _ _ _ _ q
 have hb':=hb s1 us I1.kIn hl
 rw[ZtG] at hb'
 refine wpAny_call (codeAny_mono (F.run X.A X.stack s1 H1 ⟨us,[]⟩ us vs Q (E σ) hr I1.env0 hb' r q) fun r s' hq=>?_)
 cases r with
 |error e=>exact hx pins σ H1 s1 e s' I1 hq
 |ok fl =>
  cases fl with
  |ret u=>exact I1.after hq
  |next=>exact False.elim hq
  |brk=>exact False.elim hq
  |cont=>exact False.elim hq
end
noncomputable def Zmp:PV->Hp->Addr->Prop
 |.non,H,k=>H k=none
 |.int i,H,k=>∃fs,H k=some (.xd fs)/\fs=[(("at":Str),V.int i)]
 |_,_,_=>False
def W1(K:W.Frag):PX->XK->Hp->Prop:=fun e E H'=>∀C k,Zah K e.1 C->Zmp e.2 H' k->E (.ref C) (some k) H'
section
variable {P:Program}{w:World}{K:W.Frag}{mg:Str->Option Value}{base:Heap}
theorem Fun.okX{x qual:Str}{st:Stmt}{f:Addr}{fd:FuncData}{N ps:List Str}{k n l:Nat}{kd:Kd}{m:List PV->Rr PV}(F:Fun K x qual st f fd)(S:Zt N ps (Zf st))(hn:ps.length=n)(hl:N.length-n=l)(hbody:∀(cdv:Value) (A:Around) (outer:List Env) (s:Shared) (H:Hp) (E:XK),UR k (A.deeper (envOfC qual (Zf st) s.heap.objs.size f cdv)) ->
   ∃t g Y,Y.r=kd/\PSs (ZbF (CX1 P w) P w K mg base N qual (Zf st) f cdv A outer s H E) (Zq st) t/\DS K (fun e H'=>W1 K e E H') (List.replicate n .S++List.replicate l .U) Y t g/\∀xs,Ref (m xs) (g (xs++List.replicate l .non)).out)(hkN:kd≠.N:=by nofun)(hkM:kd≠.M:=by nofun) :
  J8 P w K mg base (CX1 P w) (k+1) f fd ps (spF K n kd (W1 K) m):=by
 obtain⟨oc,od,kV,doc,pm,an,cdv,ct,osl,rfl,lk,hcd⟩:=F.ex
 refine Zkt lk hcd S (fun vs H Q E h=>?_) fun A outer s H vs Q E hr h=>?_
 ·obtain⟨B,xs,h1,h2,_⟩:=h
  rw[h1.length,h2,hn]
 ·obtain⟨B,xs,h1,h2,dn⟩:=h
  obtain⟨t,g,Y,hY,ht,hd,href⟩:=hbody cdv A outer s H E hr
  refine⟨t,ht, ?_⟩
  have A0:=Ag.init (n:=l) h1
  have est:U0 N vs=vs.map some++List.replicate l none:=by
   unfold U0
   rw[h1.length,h2,hl]
  rw[est]
  rw[h2] at A0
  refine hd _ H H _ _ _ _ A0 ?_
  have hdn:Dn (g (xs++List.replicate l .non)).out (fun x=>∀v H',Z5 H H'->Zgq K B H kd x v H'->Q v H') (fun e=>∀H',Z5 H H'->W1 K e E H'):=by
   rcases href xs with e|e
   ·rw[e] at dn;exact dn.elim
   ·rw[<- e];exact dn
  have retK:∀{x v H'},Zgq K (fun a=>B a\/H a=none) H kd x v H'->Zgq K B H kd x v H':=fun {x v H'} h=>by
   cases kd with
   |P=>exact h
   |F=>exact h
   |T=>exact Rep.mono (fun a us s r=>⟨r,s.elim id .inr⟩) (fun a us r=>r) h
   |Z=>exact Rep.mono (fun a us s r=>⟨r,s.elim id .inr⟩) (fun a us r=>r) h
   |A=>exact Rep.mono (fun a us s r=>⟨r,s.elim id .inr⟩) (fun a us r=>r) h
   |N=>exact h
   |M=>exact h
  cases e:g (xs++List.replicate l .non) with
  |next ρ =>
   rw[e] at hdn
   refine fun σ' H' F' fr A'=>hdn .non H' A'.same ?_
   cases kd with
   |P=>exact⟨rfl,rfl⟩
   |F=>exact⟨[],⟨rfl,rfl⟩,by simp⟩
   |T=>exact rfl
   |Z=>exact rfl
   |A=>exact rfl
   |N=>exact absurd rfl hkN
   |M=>exact absurd rfl hkM
  |ret x=>rw[e] at hdn;exact fun v H' s r=>hdn v H' s (retK (hY▸r))
  |exc q=>rw[e] at hdn;exact fun H' s=>hdn H' s
  |brk ρ=>rw[e] at hdn;exact hdn.elim
  |cont ρ=>rw[e] at hdn;exact hdn.elim
  |bad=>rw[e] at hdn;exact hdn.elim
end
section
variable {K:W.Frag}{n:Nat}{m:List PV->Rr PV}{ta:TA}{Γ Γ':List Md}{fa:List PV->Rr (List PV)}{E:XK}
noncomputable abbrev EX1(K:W.Frag)(E:XK):PX->Hp->Prop:=fun e H'=>W1 K e E H'
theorem Zmi(hn:Len fa n)(ha:DAA K (EX1 K E) Γ Γ' ta fa):DE K (EX1 K E) Γ Γ' .F (Ze5 (spF K n .F (W1 K) m) (fun _=>E) ta) (fun ρ=>(fa ρ).bind m):=ZdB (E:=E) (W:=W1 K) (fun σ H Q h=>h) (fun e H' h=>h) hn ha
theorem ZkR(hn:Len fa n)(ha:DAA K (EX1 K E) Γ Γ' ta fa):DE K (EX1 K E) Γ Γ' .P (Ze5 (spF K n .P (W1 K) m) (fun _=>E) ta) (fun ρ=>(fa ρ).bind m):=ZdA (E:=E) (W:=W1 K) (fun σ H Q h=>h) (fun e H' h=>h) hn ha
theorem ZlY{EX:PX->Hp->Prop}(hn:Len fa n)(hm:∀xs q,m xs≠.exc q)(ha:DAA K EX Γ Γ' ta fa):DE K EX Γ Γ' .F (Qp (spF K n .F W0 m) ta) (fun ρ=>(fa ρ).bind m):=fun B H0 H σ ρ F R Q A d=>by
 refine ha B H0 H σ ρ F R _ A (d.bind.imp (fun xs hx d vs H1 F1 s1 f1 p1 A1=>?_) fun e q=>q)
 refine⟨fun _=>True,xs,p1,hn ρ xs hx, ?_⟩
 cases e:m xs with
 |ok x =>
  rw[e] at d
  intro v H2 s2 r
  obtain⟨G,r1,r2⟩:=r
  exact d v H2 (s1.trans s2) ⟨F1,f1,G,r1,fun a ha=>⟨(A1.fresh (r2 a ha)).1,.inl (s1.free (r2 a ha))⟩,A1.more s2 r2 r1.alive⟩
 |exc q=>exact(hm xs q e).elim
 |bad=>rw[e] at d;exact d.elim
theorem Zl2{EX:PX->Hp->Prop}(hn:Len fa n)(hm:∀xs q,m xs≠.exc q)(ha:DAA K EX Γ Γ' ta fa):DE K EX Γ Γ' .P (Qp (spF K n .P W0 m) ta) (fun ρ=>(fa ρ).bind m):=fun B H0 H σ ρ F R Q A d=>by
 refine ha B H0 H σ ρ F R _ A (d.bind.imp (fun xs hx d vs H1 F1 s1 f1 p1 A1=>?_) fun e q=>q)
 refine⟨fun _=>True,xs,p1,hn ρ xs hx, ?_⟩
 cases e:m xs with
 |ok x=>rw[e] at d;exact fun v H2 s2 r=>d v H2 (s1.trans s2) ⟨F1,f1,r.1,r.2,A1.grow s2⟩
 |exc q=>exact(hm xs q e).elim
 |bad=>rw[e] at d;exact d.elim
def Pm.calm(m:Pm):Prop:=∀a q,m.out a≠.exc q
theorem Pm.calm_fn{m:Pm}(h:m.calm)(xs:List PV)(q:PX):m.fn xs≠.exc q:=by
 unfold Pm.fn
 by_cases hx:∃a,m.enc a=xs/\m.pre a
 ·rw[dif_pos hx];exact h _ q
 ·rw[dif_neg hx];exact fun z=>by cases z
theorem Zd2{C:Addr}{x:Str}{Y:Tys}(hC:Zah K x C)(hn:Len fa n)(hl:n<=1000)(ha:DAA K (EX1 K E) Γ Γ' ta fa):DS K (EX1 K E) Γ Y (Zhz C (fun _=>E) ta) (fun ρ=>(fa ρ).thenS fun _=>.exc (x,.non)):=fun B H0 H σ ρ F D A d=>by
 refine ha B H0 H σ ρ F [] _ A (d.thenS.imp (fun xs hx d vs H1 F1 s1 f1 p1 A1=>?_) fun e q=>q)
 exact⟨by rw[p1.length,hn ρ xs hx];exact hl,fun ea hea=>d H1 A1.same C ea hC hea⟩
end
theorem PS.nox{X:Cx}{st:Stmt}{t:TS}(h:PS X.nox st t):PS X st t:=fun pins s σ H D I hw =>
 wpAny_mono (h pins s σ H D (I.wish _) hw) (fun _ _ q=>q.unwish) fun _ _ z=>False.elim z
noncomputable def Zl7:V->Value
 |.ref a=>.ref a
 |.ty n=>.type n
 |_=>.none
noncomputable def Zko:V->Bool
 |.ref _=>true
 |.ty _=>true
 |_=>false
theorem Zk9{c:V}{u:Value}(h:Zko c=true)(r:JX c u):u=Zl7 c:=by
 cases c<;>first|exact r|cases h
structure IsT(K:PySem.W.Frag)(c:V)(L:List (Str×Bool)):Prop where
 cls:Zko c=true
 non:PySem.W.kitOne K (.type "NoneType") (Zl7 c)=some false
 own:∀n b,L.lookup n=some b->∀D,Zah K n D->PySem.W.exOk K D=true/\PySem.W.kitOne K (.ref D) (Zl7 c)=some b
def Zhu(K:W.Frag)(H:Hp)(n:Str)(v:V):Prop:=Zjs K H n v\/∃i,Zjt K H n i v
theorem Zhu.inst{X:Cx}{pins:List (Addr×Obj)}{σ:St}{H:Hp}{s:Shared}{n:Str}{v:V}(I:Inv X pins σ H s)(h:Zhu X.K H n v):∃a o C od,v=.ref a/\Zah X.K n C/\PySem.W.InstAt s.heap a o C od/\∀u,od=some u->PySem.W.lookIn ("called":Str) u=some none:=by
 rcases h with ⟨a,o,C,rfl,h1,h2,h3,h4,h5⟩|⟨i,a,o,C,d,fs,rfl,h1,h1d,h2,h3,h4,h5,rfl⟩
 ·exact⟨a,o,C,none,rfl,h5,⟨(I.hok a _ h1.1).1,h2,h4,by rw[h3];trivial⟩,fun u z=>by cases z⟩
 ·obtain⟨m,n1,n2⟩:=I.hok d _ h1d.1
  obtain⟨ou,hu,hl⟩:=Zfz n1
  refine⟨a,o,C,some ou,rfl,h5,⟨(I.hok a _ h1.1).1,h2,h4,by rw[h3];exact hu⟩,fun u z=>?_⟩
  cases z
  rw[hl]
  have z:=n2 ("called":Str)
  cases q:m ("called":Str) with
  |none=>rfl
  |some y=>rw[q] at z;exact z.elim
def ZlT(K:W.Frag)(c:V)(L:List (Str×Bool)):List V->Hp->VK->Prop:=fun xs H Q=>∃x,xs=[x,c]/\((x=.non/\Q (.bl false) H)\/∃n b,Zhu K H n x/\L.lookup n=some b/\Q (.bl b) H)
theorem Qm{X:Cx}{K:W.Frag}{c:V}{L:List (Str×Bool)}(T:IsT K c L)(e:X.K=K:=by rfl):Vy X (.builtin "isinstance") (ZlT K c L):=by
 subst e
 intro pins s σ H xs us Q I r h
 obtain⟨x,rfl,h⟩:=h
 obtain⟨u,w',rfl,rx,rn⟩:=Zgt r
 obtain rfl:=Zk9 T.cls rn
 rcases h with ⟨rfl,q⟩|⟨n,b,hx,hb,q⟩
 ·cases rx
  exact PySem.W.kia_one PySem.W.kitx_none I.kIn True.intro T.non (fun z=>nomatch z) fun tk=>⟨.bl false,H,I.tok _,rfl,q⟩
 ·obtain⟨a,o,C,od,rfl,h5,hI,-⟩:=hx.inst I
  cases rx
  obtain⟨t1,t2⟩:=T.own n b hb C h5
  exact PySem.W.kia_one (PySem.W.kitx_exc t1) I.kIn ⟨o,od,hI⟩ t2 (fun z=>nomatch z) fun tk=>⟨.bl b,H,I.tok _,rfl,q⟩
noncomputable def ZgI(L:List (Str×Bool))(x:PV):Rr PV:=match x with
 |.non=>.ok (.bl false)
 |.exc n=>(match L.lookup n with|some b=>.ok (.bl b)|none=>.bad)
 |.exa n _=>(match L.lookup n with|some b=>.ok (.bl b)|none=>.bad)
 |_=>.bad
section
variable {K:W.Frag}{EX:PX->Hp->Prop}{Γ Γ':List Md}{te:TE}{f:List PV->Rr PV}
theorem Zd7{c:V}{L:List (Str×Bool)}(he:DE K EX Γ Γ' .A te f):DE K EX Γ Γ' .P (tCB (ZlT K c L) (V6 te (V6 (tC c) ZbT))) (fun ρ=>(f ρ).bind (ZgI L)):=fun B H0 H σ ρ F R Q A d=>by
 refine he B H0 H σ ρ F R _ A (d.bind.imp (fun x _ d v H1 s1 r1=>?_) fun e q=>q)
 obtain⟨F1,f1,p1,A1⟩:=r1
 cases x with
 |non=>exact⟨v,rfl,.inl ⟨p1,d _ H1 s1 ⟨F1,f1,rfl,rfl,A1⟩⟩⟩
 |exc n =>
  simp only[ZgI] at d
  cases hb:L.lookup n with
  |some b=>rw[hb] at d;exact⟨v,rfl,.inr ⟨n,b,.inl p1,hb,d _ H1 s1 ⟨F1,f1,rfl,rfl,A1⟩⟩⟩
  |none=>rw[hb] at d;exact d.elim
 |exa n i =>
  simp only[ZgI] at d
  cases hb:L.lookup n with
  |some b=>rw[hb] at d;exact⟨v,rfl,.inr ⟨n,b,.inr ⟨i,p1⟩,hb,d _ H1 s1 ⟨F1,f1,rfl,rfl,A1⟩⟩⟩
  |none=>rw[hb] at d;exact d.elim
 |_=>exact d.elim
end
def MOk(P:Program)(w:World)(K:W.Frag)(mg:Str->Option Value)(base:Heap)(k:Nat)(m n:Str):Prop:=
 ∃C f fd,Zah K n C/\PySem.W.exOk K C=true/\PySem.W.findIn K (.ref C) m=some (some (.ref f))/\PySem.W.typeIn K (.ref f)=some (.type "function")/\PySem.W.keepIn K (.ref f)=true/\Zba K fd ["self"] [] /\
  J8 P w K mg base CX0 k f fd ["self"] (spF K 1 .P W0 fun _=>.ok (.str n))
noncomputable def Ze4(K:W.Frag)(L:List Str)(ta:TE):TE:=fun σ H Q=>ta σ H fun v H1=>∃n,n∈L/\Zhu K H1 n v/\∀H2,Z5 H1 H2->Q (.str n) H2
theorem Zbo{X:Cx}{k:Nat}{L:List Str}{o:Expr}{ta:TE}{apos pos:Pos}{pl:Sem Bool}(hM:∀n∈L,MOk X.prog X.w X.K X.mg X.base k "called" n)(hr:UR k X.A)(he:PE X o ta)(ht:eval (.Call (.Attribute o "called" apos) [] [] pos) X.env=(do
   let ov <- eval o X.env
   standAt apos.atName
   let (f,first) <- holding [ov] (getMethod ov "called" pl)
   callWith pos f first (backTo pos (starEach [] X.env)) (backToKw pos (keywordEach [] X.env))):=by rfl) :
  PE X (.Call (.Attribute o "called" apos) [] [] pos) (Ze4 X.K L ta):=by
 intro pins s σ H Q I h
 refine PySem.W.methodCall_KW (pl:=pl) (thn (he pins s σ H _ I h) fun u s1 ⟨x,H1,I1,rx,n,hn,hx,q⟩=>?_) ht
 obtain⟨a,oe,C,od,rfl,h5,hI,hl⟩:=hx.inst I1
 obtain rfl:u=Value.ref a:=rx
 obtain⟨C',f,fd,c1,c2,c3,c4,c5,c6,c7⟩:=hM n hn
 have hCC:C'=C:=by have z:=c1.symm.trans h5;simpa using z
 subst hCC
 simp only[PySem.W.exOk,Bool.and_eq_true,beq_iff_eq] at c2
 obtain⟨⟨⟨⟨⟨⟨⟨d1,d2⟩,d3⟩,d4⟩,d5⟩,d6⟩,d7⟩,d8⟩:=c2
 refine PySem.W.method_exc I1.kIn hI d1 d2 hl c3 c4 ?_
 refine PySem.W.callWith_K0 (first:=[.ref a]) I1.kIn c5 (ZeD (us:=[.ref a]) (vs:=[.ref a]) (dvs:=[]) (E:=E0) c7 hr c6 .nil Zi3 I1 (.cons rfl .nil) ?_)
 have fin:∀v H',Z5 H1 H'->Zgq X.K (fun _=>True) H1 .P (.str n) v H'->Q v H':=fun v H' sm r=>by
  obtain rfl:v=.str n:=r.2
  exact q H' sm
 rcases hx with hx|⟨i,hx⟩
 ·exact⟨fun _=>True,[.exc n],⟨_,_,rfl,hx,rfl⟩,rfl,fin⟩
 ·exact⟨fun _=>True,[.exa n i],⟨_,_,rfl,hx,rfl⟩,rfl,fin⟩
noncomputable def Uf(L:List Str)(x:PV):Rr PV:=match x with
 |.exc n=>if n∈L then .ok (.str n) else .bad
 |.exa n _=>if n∈L then .ok (.str n) else .bad
 |_=>.bad
section
variable {K:W.Frag}{EX:PX->Hp->Prop}{Γ Γ':List Md}{te:TE}{f:List PV->Rr PV}
theorem ZbB{L:List Str}(he:DE K EX Γ Γ' .A te f):DE K EX Γ Γ' .P (Ze4 K L te) (fun ρ=>(f ρ).bind (Uf L)):=fun B H0 H σ ρ F R Q A d=>by
 refine he B H0 H σ ρ F R _ A (d.bind.imp (fun x _ d v H1 s1 r1=>?_) fun e q=>q)
 obtain⟨F1,f1,p1,A1⟩:=r1
 cases x with
 |exc n =>
  simp only[Uf] at d
  by_cases hn:n∈L
  ·rw[if_pos hn] at d;exact⟨n,hn,.inl p1,fun H2 s2=>d _ H2 (s1.trans s2) ⟨F1,f1,rfl,rfl,A1.grow s2⟩⟩
  ·rw[if_neg hn] at d;exact d.elim
 |exa n i =>
  simp only[Uf] at d
  by_cases hn:n∈L
  ·rw[if_pos hn] at d;exact⟨n,hn,.inr ⟨i,p1⟩,fun H2 s2=>d _ H2 (s1.trans s2) ⟨F1,f1,rfl,rfl,A1.grow s2⟩⟩
  ·rw[if_neg hn] at d;exact d.elim
 |_=>exact d.elim
end
noncomputable def ZiC(Γ:List Md):Bool:=Γ.all fun m=>m==.U || m==.P || m==.S
theorem Zch{K:W.Frag}{B:Addr->Prop}{H0 H:Hp}{σ:St}{Γ:List Md}{ρ:List PV}{F:Nat->List Addr}{R:List Addr}(h:ZiC Γ=true)(A:Ag K B H0 H σ Γ ρ F R):∀i,F i=[]:=fun i=>by
 have sl:=A.slot i
 by_cases hi:i<Γ.length
 ·have hm:=ZtF.mp h Γ[i] (Zum hi)
  have e:Γ.getD i .U=Γ[i]:=by rw[Ztf,Zth hi];rfl
  rw[e] at sl
  simp only[Bool.or_eq_true,beq_iff_eq] at hm
  rcases hm with (hm|hm)|hm
  ·rw[hm] at sl;exact sl
  ·rw[hm] at sl;exact sl.1
  ·rw[hm] at sl;exact sl.1
 ·have e:Γ.getD i .U=.U:=by rw[Ztf,Ztt (by lia)];rfl
  rw[e] at sl
  exact sl
theorem Ag.near{K:W.Frag}{B:Addr->Prop}{H0 H:Hp}{σ:St}{Γ:List Md}{ρ:List PV}{F:Nat->List Addr}(A:Ag K B H0 H σ Γ ρ F [])(h:∀i,F i=[]):Ag K B H H σ Γ ρ F []:=
 ⟨Z5.refl _,fun a q=>A.own a (A.same.free q),fun i a ha=>by rw[h i] at ha;simp at ha,by simp,A.live,A.liveR,A.disj,A.disjR,A.lenS,A.lenR,A.slot⟩
theorem Ag.far{K:W.Frag}{B:Addr->Prop}{H0 H1 H:Hp}{σ:St}{Γ:List Md}{ρ:List PV}{F:Nat->List Addr}(A:Ag K B H1 H σ Γ ρ F [])(s:Z5 H0 H1)(own:∀a,H0 a=none->B a):Ag K B H0 H σ Γ ρ F []:=
 ⟨s.trans A.same,own,fun i a ha=>s.free (A.young i a ha),by simp,A.live,A.liveR,A.disj,A.disjR,A.lenS,A.lenR,A.slot⟩
theorem Z5.newO{H:Hp}{p:Addr}{o:HO}(hp:H p=none):Z5 H (L2.upd H p o):=fun b u h=>by rw[L2.Z1 (ZG h hp)];exact h
theorem Ag.unset{K:W.Frag}{B:Addr->Prop}{H0 H:Hp}{σ:St}{Γ Γ':List Md}{ρ:List PV}{F:Nat->List Addr}(i:Nat)(A:Ag K B H0 H σ Γ ρ F [])(h:UQ (Γ.set i .U) Γ'=true) :
  ∃F',(∀i,∀a∈F' i,a∈F i)/\Ag K B H0 H (σ.set i none) Γ' ρ F' []:=by
 have h0:UQ Γ (Γ.set i .U)=true:=by
  have:∀(Γ:List Md) (i:Nat),UQ Γ (Γ.set i .U)=true:=fun Γ=>by
   induction Γ with
   |nil=>intro i;rfl
   |cons m ms ih =>
    intro i
    have refl:∀l:List Md,UQ l l=true:=fun l=>by induction l with|nil=>rfl|cons a l ih=>simp[UQ,mle,ih]
    cases i with
    |zero=>simp[UQ,mle,refl]
    |succ i=>simp[UQ,mle,ih i]
  exact this Γ i
 obtain⟨F1,f1,A1⟩:=A.weak h0
 have hFi:F1 i=[]:=by
  have sl:=A1.slot i
  by_cases hi:i<Γ.length
  ·have e:(Γ.set i .U).getD i .U=.U:=by rw[Ztf,Ztq hi];rfl
   rw[e] at sl;exact sl
  ·have e:(Γ.set i .U).getD i .U=.U:=by rw[Ztf,Ztt (by simp;lia)];rfl
   rw[e] at sl;exact sl
 have A2:Ag K B H0 H (σ.set i none) (Γ.set i .U) ρ F1 []:=⟨A1.same,A1.own,A1.young,A1.youngR,A1.live,A1.liveR,A1.disj,A1.disjR,by simpa using A1.lenS,A1.lenR,fun j=>by
  by_cases hj:j=i
  ·subst hj
   have e:(Γ.set j .U).getD j .U=.U:=by
    by_cases hi:j<Γ.length
    ·rw[Ztf,Ztq hi];rfl
    ·rw[Ztf,Ztt (by simp;lia)];rfl
   rw[e];exact hFi
  ·have sl:=A1.slot j
   rw[Ztl (Ne.symm hj)];exact sl⟩
 obtain⟨F3,f3,A3⟩:=A2.weak h
 exact⟨F3,fun j a ha=>f1 j a (f3 j a ha),A3⟩
noncomputable def Zjw(e:PX):PV:=match e.2 with
 |.int i=>.exa e.1 i
 |_=>.exc e.1
noncomputable def ZkK(L:List Str)(i:Nat)(gb gh:List PV->RS)(ρ:List PV):RS:=match gb ρ with
 |.exc e=>if e.1∈L then gh (ρ.set i (Zjw e)) else .bad
 |r=>r
section
variable {K:W.Frag}{EX:PX->Hp->Prop}{Γ Γs:List Md}{Y Yh:Tys}{tb:(St->XK)->TS}{th:TS}{gb gh:List PV->RS}{C:Addr}{i:Nat}{L:List Str}
theorem Zkx(hL:∀n∈L,∀D,Zah K n D->PySem.W.exmOne K (.ref D) (.ref C)=some true)(hb:∀E:XK,DS K (EX1 K E) Γs Y (tb fun _=>E) gb)(hloc:∀(E:St->XK) D σ H,tb (fun _=>E σ) D σ H->tb E D σ H)(hh:DS K EX (Γs.set i .P) Yh th gh)(hs:UQ Γ Γs=true)(ho:ZiC Γs=true)(hi:i<Γs.length)(hn:UQ (Yh.n.set i .U) Y.n=true)(hbk:UQ (Yh.b.set i .U) Y.b=true)(hct:UQ (Yh.c.set i .U) Y.c=true)(hr:Yh.r=Y.r) :
  DS K EX Γ Y (ZlJ K C i tb th) (ZkK L i gb gh):=fun B H0 H σ ρ F D A d=>by
 obtain⟨F1,f1,A1⟩:=A.weak hs
 have hF:=Zch ho A1
 have AN:=A1.near hF
 refine hloc _ D σ H (hb (ZkQ K C i th D σ) B H H σ ρ F1 D AN ?_)
 have frm0:∀{H' F'},Frm H F1 H' F'->Frm H F H' F':=fun {H' F'} fr=>(Frm.of (Z5.refl _) f1).trans fr
 unfold ZkK at d
 cases e:gb ρ with
 |next ρ1=>rw[e] at d;exact fun σ' H' F' fr A'=>d σ' H' F' (frm0 fr) (A'.far A.same A.own)
 |brk ρ1=>rw[e] at d;exact fun σ' H' F' fr A'=>d σ' H' F' (frm0 fr) (A'.far A.same A.own)
 |cont ρ1=>rw[e] at d;exact fun σ' H' F' fr A'=>d σ' H' F' (frm0 fr) (A'.far A.same A.own)
 |ret x =>
  rw[e] at d
  refine fun v H' s r=>d v H' (A.same.trans s) ?_
  cases hk:Y.r with
  |P=>rw[hk] at r;exact r
  |F=>rw[hk] at r;obtain⟨G,r1,r2⟩:=r;exact⟨G,r1,fun a ha=>A.same.free (r2 a ha)⟩
  |T=>rw[hk] at r;exact Rep.mono (fun a us s r=>⟨r,s.elim .inl fun z=>.inr (A.same.free z)⟩) (fun a us r=>r) r
  |Z=>rw[hk] at r;exact Rep.mono (fun a us s r=>⟨r,s.elim .inl fun z=>.inr (A.same.free z)⟩) (fun a us r=>r) r
  |A=>rw[hk] at r;exact Rep.mono (fun a us s r=>⟨r,s.elim .inl fun z=>.inr (A.same.free z)⟩) (fun a us r=>r) r
  |N=>rw[hk] at r;obtain⟨y,a,s,xs,G1,G2,r1,r2,r3,r4,r5,r6⟩:=r;exact⟨y,a,s,xs,G1,G2,r1,r2,r3,r4,fun b hb=>A.same.free (r5 b hb),fun b hb=>A.same.free (r6 b hb)⟩
  |M=>rw[hk] at r;obtain⟨y,a0,x0,a1,x1,a2,x2,r1,r2,r3,r4,r5,r6,r7,r8,r9⟩:=r;exact⟨y,a0,x0,a1,x1,a2,x2,r1,r2,r3,r4,r5,r6,A.same.free r7,A.same.free r8,A.same.free r9⟩
 |bad=>rw[e] at d;exact d
 |exc q =>
  rw[e] at d
  dsimp only at d
  by_cases hq:q.1∈L
  ·rw[if_pos hq] at d
   intro H' sm C' k hC' hk
   refine⟨hL q.1 hq C' hC',k,rfl,fun ea oe hea hc hdn hnc=>?_⟩
   have s1:Z5 H' (upd H' ea (.frz oe (.own ea))):=Z5.newO hea
   have s2:Z5 H (upd H' ea (.frz oe (.own ea))):=sm.trans s1
   have A2:Ag K B H0 (upd H' ea (.frz oe (.own ea))) σ Γs ρ F1 []:=A1.grow s2
   have key:∀S:Addr->Prop,PV.flat (Zjw q)=true/\Rep K (upd H' ea (.frz oe (.own ea))) S (Zjw q) (.ref ea):=fun S=>by
    obtain⟨qn,qv⟩:=q
    cases qv with
    |non =>
     have hk:H' k=none:=hk
     rcases hdn with ⟨z,_⟩|⟨_,fs,z⟩
     ·exact⟨rfl,ea,oe,C',rfl,⟨ZD,trivial⟩,hc,z,hnc,hC'⟩
     ·rw[hk] at z;cases z
    |int i =>
     obtain⟨fs,z1,z2⟩:=(show ∃fs,H' k=some (.xd fs)/\fs=[(("at":Str),V.int i)] from hk)
     rcases hdn with ⟨_,z⟩|⟨z,_⟩
     ·rw[z,hea] at z1;cases z1
     ·exact⟨rfl,ea,oe,C',k,fs,rfl,⟨ZD,trivial⟩,⟨s1 _ _ z1,trivial⟩,hc,z,hnc,hC',z2⟩
    |_=>exact hk.elim
   have A3:=Ag.put (i:=i) (m:=.P) (x:=Zjw q) (v:=.ref ea) (G:=[]) (R:=[]) A2 hi (by simp) ⟨rfl,_,rfl,(key fun _=>True).1,(key _).2⟩
   refine hh B H0 _ _ _ _ (unE D i) A3 ?_
   have fr3:Frm H F (upd H' ea (.frz oe (.own ea))) (Vo F1 i []):=frm0 (ZaO (G:=[]) s2 (fun _ _ h=>h) (by simp))
   cases e2:gh (ρ.set i (Zjw q)) with
   |next ρ1 =>
    rw[e2] at d
    intro σ' H2 F2 fr A'
    obtain⟨F4,f4,A4⟩:=A'.unset i hn
    exact d _ H2 F4 (fr3.trans (fr.trans (Frm.of (Z5.refl _) f4))) A4
   |brk ρ1 =>
    rw[e2] at d
    intro σ' H2 F2 fr A'
    obtain⟨F4,f4,A4⟩:=A'.unset i hbk
    exact d _ H2 F4 (fr3.trans (fr.trans (Frm.of (Z5.refl _) f4))) A4
   |cont ρ1 =>
    rw[e2] at d
    intro σ' H2 F2 fr A'
    obtain⟨F4,f4,A4⟩:=A'.unset i hct
    exact d _ H2 F4 (fr3.trans (fr.trans (Frm.of (Z5.refl _) f4))) A4
   |ret x=>rw[e2] at d;exact fun v H2 s r=>d v H2 s (hr▸r)
   |exc q2=>rw[e2] at d;exact d
   |bad=>rw[e2] at d;exact d
  ·rw[if_neg hq] at d;exact d.elim
end
noncomputable def ZlH(K:W.Frag)(n:Str):Bool:=match PySem.W.nsIn K mainGlobals n with
 |some (some (.ref C))=>PySem.W.exOk K C&&(PySem.W.kitOne K (.type "NoneType") (.ref C)==some false)&&(PySem.W.kitOne K (.ref C) (.type "ValueError")==some true)
 |_=>false
noncomputable def ZlG(K:W.Frag)(q:Str×Str×Bool):Bool:=match PySem.W.nsIn K mainGlobals q.1,PySem.W.nsIn K mainGlobals q.2.1 with
 |some (some (.ref D)),some (some (.ref C))=>(PySem.W.kitOne K (.ref D) (.ref C)==some q.2.2)&&(PySem.W.exmOne K (.ref D) (.ref C)==some q.2.2)
 |_,_=>false
noncomputable def Zhv(K:W.Frag)(ns:List Str)(ss:List (Str×Str×Bool)):Bool:=(PySem.W.kitOne K (.type "NoneType") (.type "ValueError")==some false)&&(ns.all (ZlH K)&&ss.all (ZlG K))
section
variable {K:W.Frag}{ns:List Str}{ss:List (Str×Str×Bool)}{n c:Str}
theorem JG(h:Zhv K ns ss=true)(hn:n∈ns):∃C,Zah K n C/\True/\PySem.W.exOk K C=true/\PySem.W.kitOne K (.type "NoneType") (.ref C)=some false/\PySem.W.kitOne K (.ref C) (.type "ValueError")=some true:=by
 simp only[Zhv,Bool.and_eq_true] at h
 have:=ZtF.mp h.2.1 n hn
 unfold ZlH at this
 split at this
 ·rename_i C e
  simp only[Bool.and_eq_true,beq_iff_eq] at this
  exact⟨C,e,trivial,this.1.1,this.1.2,this.2⟩
 ·cases this
noncomputable def Zil(K:W.Frag)(ns:List Str):Bool:=ns.all fun n=>match PySem.W.nsIn K mainGlobals n with
 |some (some (.ref C))=>PySem.W.excIn K C Zl8 "ValueError.__new__"
 |_=>false
theorem Zaz(h:Zil K ns=true)(hn:n∈ns):∃C,Zah K n C/\PySem.W.excIn K C Zl8 "ValueError.__new__"=true:=by
 have:=ZtF.mp h n hn
 split at this
 ·rename_i C e
  exact⟨C,e,this⟩
 ·cases this
theorem Zah.inj{C D:Addr}(a:Zah K n C)(b:Zah K n D):C=D:=by have z:=a.symm.trans b;simpa using z
theorem ZcF(h:Zhv K ns ss=true){b:Bool}(hm:(n,c,b)∈ss){D C:Addr}(hD:Zah K n D)(hC:Zah K c C):PySem.W.kitOne K (.ref D) (.ref C)=some b/\PySem.W.exmOne K (.ref D) (.ref C)=some b:=by
 simp only[Zhv,Bool.and_eq_true] at h
 have:=ZtF.mp h.2.2 _ hm
 unfold ZlG at this
 have hD':PySem.W.nsIn K mainGlobals n=some (some (.ref D)):=hD
 have hC':PySem.W.nsIn K mainGlobals c=some (some (.ref C)):=hC
 simp only[hD',hC',Bool.and_eq_true,beq_iff_eq] at this
 exact this
theorem Zco{L:List (Str×Bool)}{b:Bool}(h:L.lookup n=some b):(n,b)∈L:=PySem.mem_of_lookup h
theorem ZcG{L:List (Str×Bool)}(h:Zhv K ns ss=true)(hc:c∈ns)(hL:(L.all fun p=>ns.contains p.1&&ss.contains (p.1,c,p.2))=true):∃C,Zah K c C/\IsT K (.ref C) L:=by
 obtain⟨C,e,_,_,e2,_⟩:=JG h hc
 refine⟨C,e,rfl,e2,fun n b hb D hD=>?_⟩
 have:=ZtF.mp hL _ (Zco hb)
 simp only[Bool.and_eq_true,ZtR] at this
 obtain⟨D',d1,_,d2,_⟩:=JG h this.1
 obtain rfl:=d1.inj hD
 exact⟨d2,(ZcF h this.2 hD e).1⟩
theorem Zgr{L:List Str}{C:Addr}(h:Zhv K ns ss=true)(hC:Zah K c C)(hL:(L.all fun n=>ss.contains (n,c,true))=true):∀n∈L,∀D,Zah K n D->PySem.W.exmOne K (.ref D) (.ref C)=some true:=fun n hn D hD=>by
 have:=ZtF.mp hL n hn
 exact(ZcF h (ZtR.mp this) hD hC).2
end
def Zjq(K:W.Frag)(n m qual:Str)(st:Stmt):Prop:=∃C f fd,Zah K n C/\PySem.W.findIn K (.ref C) m=some (some (.ref f))/\PySem.W.typeIn K (.ref f)=some (.type "function")/\Fun K m qual st f fd
section
end
noncomputable def Zj4(L:List Str)(i:Nat)(gh:List PV->RS)(ρ:List PV)(r:RS):RS:=match r with
 |.exc e=>if e.1∈L then gh (ρ.set i (Zjw e)) else .bad
 |r=>r
@[simp] theorem Zir{L:List Str}{i:Nat}{gb gh:List PV->RS}{ρ:List PV}:ZkK L i gb gh ρ=Zj4 L i gh ρ (gb ρ):=by
 unfold ZkK Zj4
 cases gb ρ<;>rfl
@[simp] theorem Ze1{L:List Str}{i:Nat}{gh:List PV->RS}{ρ ρ':List PV}:Zj4 L i gh ρ (.next ρ')=.next ρ':=rfl
@[simp] theorem Zgu{L:List Str}{i:Nat}{gh:List PV->RS}{ρ:List PV}{n:Str}:Zj4 L i gh ρ (.exc (n,.non))=if n∈L then gh (ρ.set i (.exc n)) else .bad:=rfl
theorem Qd{L:List (Str×Bool)}{n:Str}{b:Bool}(h:L.lookup n=some b):ZgI L (.exc n)=.ok (.bl b):=by unfold ZgI;simp only[h]
theorem Q6{L:List Str}{n:Str}(h:n∈L):Uf L (.exc n)=.ok (.str n):=by unfold Uf;simp only[if_pos h]
@[simp] theorem ZgL{n:Str}{g:Bool->Bool}:ZjR g (.exc n)=.ok (.bl (g false)):=rfl
section
end
theorem Zfj{x:Str}(h:PyData.canLay0 (.str x)=true):okD (.str x)=true:=by simp[okD,PV.noX,PV.dat,PyData.depth,h]
theorem Zcg{g:Bool->Bool}{a b:Str}(ha:PyData.canLay0 (.str a)=true)(hb:PyData.canLay0 (.str b)=true):Zbx g (.str a) (.str b)=.ok (.bl (g (a==b))):=by
 unfold Zbx
 rw[Zfj ha,Zfj hb]
 simp only[Bool.and_self,if_true,PV.dat,PyData.eqv]
section
end
noncomputable def Itd(lo:Int)(n:Nat):It:=⟨fun i _=>i<n,fun i H x H'=>H'=H/\x=.int (lo-i),fun i _=>n<=i⟩
theorem ZbR{P:Program}{w:World}{K:W.Frag}{tg:Expr}(it:Addr)(lo:Int)(n:Nat):Zjy P w K tg (Itd lo n) [it] it (fun i h=>IsRangeIter h it (lo+(i:Nat)*(-1)) ((n:Int)-(i:Nat)) (-1)) where
 mem:=by simp
 obj:=fun i h st b hb=>by
  have e:b=it:=by simpa using hb
  subst e
  exact⟨_,st,fun v z=>by
   have z':Data.fields _=Data.cell v:=z
   cases z'⟩
 keep:=fun i h h' st k=>k it (by simp) _ st
 item:=by
  intro X hP hw hK hc i pins s σ H E I hf st hg
  subst hP hw hK
  obtain⟨f0,f1,f2,f3,f4,f5⟩:=hf it (by simp)
  have W:=Walks.range (prog:=X.prog) (w:=X.w) (I.ok.hd hc) it lo (-1) n
  refine W.item i s _ _ hg st fun v h' tk hv st' kk=>?_
  obtain⟨t,rfl⟩:=hv
  have I1:Inv X pins σ H { s with heap:=h',toks:=tk }:=I.turned (fun b o hb e=>kk b o (by simpa using hb) e) f0 f1 f3 f4 f5
  refine⟨_,rfl,ZiO (s:={ s with heap:=h',toks:=tk }) (n := "range_iterator") st' rfl rfl (by decide) ⟨.int (lo-i),H,I1,⟨t, ?_⟩,⟨rfl,rfl⟩,st',fun b hb=>(hf b hb).1⟩⟩
  rw[show lo+(i:Int)*(-1)=lo-i by lia]
 done:=by
  intro X hP hw hK hc i pins s σ H E I hf st hg
  subst hP hw hK
  obtain⟨f0,f1,f2,f3,f4,f5⟩:=hf it (by simp)
  exact wpAny_pyNext_range_end (I.ok.hd hc) st (by have:n<=i:=hg;lia) fun h' eb=>⟨rfl,I.turned (t':=s.toks) (fun b o hb e=>eb b o hb e) f0 f1 f3 f4 f5⟩
 self:=fun _ _ _ _ _ st h=>wpAny_pyIter_rangeiter st h
section
variable {X:Cx}{tg:Expr}
theorem VW(a b:Int):Builtin.Range.rangeSize a b (-1)=if b<a then a-b else 0:=by
 unfold Builtin.Range.rangeSize
 simp only[show ¬((-1:Int)>0) by decide,if_false,Int.neg_neg,Int.ediv_one]
 by_cases h:a>b
 ·rw[if_pos h,if_pos (by lia)];lia
 ·rw[if_neg h,if_neg (by lia)]
theorem ZdQ{a b:Int}(ha:-(2^62)<=a)(ha':a<2^62)(hb:-(2^62)<=b)(hb':b<2^62):Builtin.Range.small a b (-1)=true:=by
 unfold Builtin.Range.small
 rw[VW]
 simp only[Builtin.Range.rangeFitsLong,Bool.and_eq_true,Bool.or_eq_true,decide_eq_true_eq,beq_iff_eq,show ¬((-1:Int)>0) by decide,if_false]
 split<;>lia
theorem ZeJ{pins:List (Addr×Obj)}{σ:St}{H:Hp}{s:Shared}{R:It->Hp->Prop}{E:Value->Shared->Prop}{lo hi:Int}{t u v:Tok}{tk:Nat}(I:Inv X pins σ H s)(h1:-(2^62)<=lo)(h2:lo<2^62)(h3:-(2^62)<=hi)(h4:hi<2^62)(q:R (Itd lo (lo-hi).toNat) H):wpAny (model X.prog X.w) X.A (pyIter (.ref s.heap.objs.size)) (PIE X pins σ tg R) E { s with heap:=s.heap.push { cls:=.type "range",data:=.fields #[.int lo t,.int hi u,.int (-1) v] },toks:=tk }:=by
 refine wpAny_pyIter_range (IsRange.new ..) (ZdQ h1 h2 h3 h4) ?_
 have I1:Inv X pins σ H { s with heap:=s.heap.push { cls:=.type "range",data:=.fields #[.int lo t,.int hi u,.int (-1) v] },toks:=tk }:=I.kept fun b o e=>Heap.get?_push_of_some _ e
 refine⟨(s.heap.push { cls:=.type "range",data:=.fields #[.int lo t,.int hi u,.int (-1) v] }).objs.size,[(s.heap.push { cls:=.type "range",data:=.fields #[.int lo t,.int hi u,.int (-1) v] }).objs.size],_,_,H,rfl,
  I1.kept (t':=tk) fun b o e=>Heap.get?_push_of_some _ e,ZbR _ lo (lo-hi).toNat, ?_,fun b hb=>?_,q⟩
 ·have e1:lo+((0:Nat):Int)*(-1)=lo:=by simp
  have e2:(((lo-hi).toNat:Nat):Int)-((0:Nat):Int)=Builtin.Range.rangeSize lo hi (-1):=by rw[VW];split<;>lia
  show IsRangeIter _ _ (lo+((0:Nat):Int)*(-1)) ((((lo-hi).toNat:Nat):Int)-((0:Nat):Int)) (-1)
  rw[e1,e2]
  exact Heap.get?_push_size _ rfl
 ·have e:b=(s.heap.push { cls:=.type "range",data:=.fields #[.int lo t,.int hi u,.int (-1) v] }).objs.size:=by simpa using hb
  subst e
  exact I1.fpOk (Zto _) (I1.hok.fresh (Zto _))
noncomputable def Zkp(ta:TA):TI:=fun σ H R=>ta σ H fun vs H1=>∃i j:Int,vs=[.int i,.int j,.int (-1)]/\(-(2^62)<=i/\i<2^62/\-(2^62)<=j/\j<2^62)/\R (Itd i (i-j).toNat) H1
theorem ZeQ{a b c:Expr}{ta:TA}{p pos:Pos}(hg:Gl X "range")(hm:X.mg "range"=none)(ha:PA X [a,b,c] ta)(hs:starEach [a,b,c] X.env=[(false,eval a X.env),(false,eval b X.env),(false,eval c X.env)]:=by rfl)(hs2:starEach [b,c] X.env=[(false,eval b X.env),(false,eval c X.env)]:=by rfl) :
  PI X tg (.Call (.Name "range" p) [a,b,c] [] pos) (Zkp ta):=by
 intro pins s σ H R I h
 refine Call_ (Zaq I hg hm boot_range (PyProof.Rows.callWith_type1 (thn (ha pos pins s σ H _ I h) fun us s1 ⟨vs,H1,I1,r1,q1⟩=>?_) (by rw[hs,hs2]) (by rw[hs2];rfl)))
 obtain⟨i,j,e,⟨q1,q2,q3,q4⟩,q⟩:=q1
 subst e
 cases r1 with
 |cons r rr =>
  cases rr with
  |cons r' rr =>
   cases rr with
   |cons r'' rr =>
    cases rr
    obtain⟨t,rfl⟩:=r
    obtain⟨t',rfl⟩:=r'
    obtain⟨t'',rfl⟩:=r''
    exact call_range_3 (by decide) (ZeJ I1 q1 q2 q3 q4 q)
end
noncomputable def Zg4(lo:Int)(n:Nat):List PV:=(List.range n).map fun(k:Nat)=>PV.int (lo-(k:Int))
theorem ZgX{K:W.Frag}{H:Hp}{lo:Int}{n:Nat}{S:Addr->Prop}:ItP K S (Itd lo n) (Zg4 lo n) H:=by
 intro i
 constructor
 ·intro x hx
  unfold Zg4 at hx
  rw[Zt2] at hx
  by_cases h:i<n
  ·rw[Zua h] at hx
   cases hx
   exact⟨h,fun v H' ⟨e1,e2⟩=>by subst e1 e2;exact⟨Z5.refl _,rfl⟩⟩
  ·rw[Ztt (by simpa using h)] at hx;cases hx
 ·intro hx
  unfold Zg4 at hx
  have:=Zt8.mp hx
  show n<=i
  simpa using this
theorem Zlh{K:W.Frag}{H:Hp}{S:Addr->Prop}{x y z:PV}{vs:List V}(h:Reps K H S [x,y,z] vs):∃v w u,vs=[v,w,u]/\Rep K H S x v/\Rep K H S y w/\Rep K H S z u:=by
 obtain⟨v,vs1,rfl,h1,h⟩:=h
 obtain⟨w,vs2,rfl,h2,h⟩:=h
 obtain⟨u,vs3,rfl,h3,h⟩:=h
 cases h
 exact⟨v,w,u,rfl,h1,h2,h3⟩
noncomputable def ZgB(xs:List PV):Rr (List PV):=match xs with
 |[.int i,.int j,.int (-1)]=>if (okR i&&okR j)=true then .ok (Zg4 i (i-j).toNat) else .bad
 |_=>.bad
theorem Zjb{K:W.Frag}{EX:PX->Hp->Prop}{Γ Γ':List Md}{ta:TA}{fa:List PV->Rr (List PV)}(ha:DAA K EX Γ Γ' ta fa):DI K EX Γ Γ' (Zkp ta) (fun ρ=>(fa ρ).bind ZgB):=fun B H0 H σ ρ F R Q A d=>by
 refine ha B H0 H σ ρ F R _ A (d.bind.imp (fun xs _ d vs H1 F1 s1 f1 p1 A1=>?_) fun e q=>q)
 unfold ZgB at d
 split at d
 ·rename_i i j _
  obtain⟨v,w,u,rfl,h1,h2,h3⟩:=Zlh p1
  cases h1;cases h2;cases h3
  by_cases h:(okR i&&okR j)=true
  ·rw[if_pos h] at d
   rw[Bool.and_eq_true] at h
   have h':=of_decide_eq_true h.1
   have h'':=of_decide_eq_true h.2
   exact⟨i,j,rfl,⟨h'.1,h'.2,h''.1,h''.2⟩,d _ H1 F1 s1 f1 A1 fun H2 F2 _=>ZgX⟩
  ·rw[if_neg h] at d;exact d.elim
 ·exact d.elim
theorem ZgA{i j:Int}(h:-(2^62)<=i/\i<2^62)(h':-(2^62)<=j/\j<2^62):ZgB [.int i,.int j,.int (-1)]=.ok (Zg4 i (i-j).toNat):=by simp only[ZgB,okR,decide_eq_true h,decide_eq_true h',Bool.and_self,if_true]
theorem Zg3{lo:Int}{n i:Nat}{x:PV}(h:(Zg4 lo n)[i]?=some x):i<n/\x=.int (lo-i):=by
 unfold Zg4 at h
 rw[Zt2] at h
 by_cases hi:i<n
 ·rw[Zua hi] at h;cases h;exact⟨hi,rfl⟩
 ·rw[Ztt (by simpa using hi)] at h;cases h
@[simp] theorem Qu{lo:Int}{n:Nat}:(Zg4 lo n).length=n:=by simp[Zg4]
theorem ZI{ns ms:List Int}:ns.map PV.int=ms.map PV.int ↔ ns=ms:=⟨VE,fun h=>by rw[h]⟩
noncomputable def orX(o:Option Str)(x:PV):Rr PV:=match o with
 |none=>.ok x
 |some n=>.exc (n,.non)
theorem Ja{b:PV->List PV->RS}{xs:List PV}{ρ:List PV}{W:RS}(hw:Zas b xs ρ=W)(I:Nat->List PV->Prop)(h0:I 0 ρ)(h:∀i x ρ,xs[i]?=some x->I i ρ->(b x ρ).good (I (i+1))) :
  ∃ρ',W=.next ρ'/\I xs.length ρ':=by
 obtain⟨ρ',h1,h2⟩:=Zdy I h0 h
 exact⟨ρ',hw.symm.trans h1,h2⟩
theorem Ub{c:List PV->Rr Bool}{b:List PV->RS}{ρ:List PV}{W:RS}(hw:Js c b ρ=W)(N:Nat)(I:Nat->List PV->Prop)(h0:I 0 ρ)(hs:∀i ρ,i<N->I i ρ->c ρ=.ok true/\(b ρ).good (I (i+1)))(he:∀ρ,I N ρ->c ρ=.ok false) :
  ∃ρ',W=.next ρ'/\I N ρ':=by
 subst hw
 have key:∀m i ρ,N=i+m->I i ρ->∃ρ',JB c b (m+1) ρ=some (.next ρ')/\I N ρ':=by
  intro m
  induction m with
  |zero =>
   intro i ρ hl hI
   obtain rfl:N=i:=by lia
   refine⟨ρ, ?_,hI⟩
   unfold JB
   rw[he ρ hI]
  |succ m ih =>
   intro i ρ hl hI
   obtain⟨h1,h2⟩:=hs i ρ (by lia) hI
   obtain⟨ρ',h3,h4⟩:=RS.good_ex h2
   obtain⟨ρ2,h5,h6⟩:=ih (i+1) ρ' (by lia) h4
   refine⟨ρ2, ?_,h6⟩
   unfold JB
   rw[h1]
   rcases h3 with h3|h3<;>(rw[h3];exact h5)
 obtain⟨ρ',h1,h2⟩:=key N 0 ρ (by lia) h0
 exact⟨ρ',Uw h1,h2⟩
theorem ZiF{f:PV->Rr PV}{g:Int->Bool}{ns:List Int}(h:∀z∈ns,f (.int z)=.ok (.bl (g z))):Zgp f (ns.map PV.int)=.ok ((ns.map g).map PV.bl):=by
 induction ns with
 |nil=>rfl
 |cons n ns ih =>
  simp only[ZtB,Zgp,h n (by simp),Rr.bind_ok,ih fun z hz=>h z (by simp[hz])]
theorem ZgM(bs:List Bool):ZjT [.lst (bs.map PV.bl)]=.ok (.bl (bs.all id)):=by simp only[ZjT,Zgh]
theorem Zjm{ns:List Int}{p:Int->Prop}[DecidablePred p]:(ns.map fun z=>decide (p z)).all id=decide (∀x∈ns,p x):=by
 rw[Bool.eq_iff_iff,ZtF,decide_eq_true_iff]
 simp
theorem ZjP{i j:Int}(h1:-(10^80)<=i)(h2:i<=10^80)(h3:-(10^80)<=j)(h4:j<=10^80):Zlp (.int i) (.int j)=.ok (.int (i*j)):=ZaB (Zjj 80 80 (by lia) (by lia))
theorem ZgO{x:PV}:orX none x=.ok x:=rfl
theorem ZgN{x:PV}{n:Str}:orX (some n) x=.exc (n,.non):=rfl
theorem Ziq{L:List Str}{i:Nat}{gh:List PV->RS}{ρ:List PV}{n:Str}(h:n∈L):Zj4 L i gh ρ (.exc (n,.non))=gh (ρ.set i (.exc n)):=by rw[Zgu,if_pos h]
theorem ZeI{n:Nat}:List.replicate (n+1) PV.non=PV.non::List.replicate n PV.non:=rfl
theorem ZeH:List.replicate 0 PV.non=[]:=rfl
theorem Zi8{a b:PV}:ZhE [.tup [a,b]]=.ok (.int 2):=rfl
section
end
theorem Zdx{a b:Int}:grd (.tup [.int a,.int b])=.ok (.tup [.int a,.int b]):=rfl
theorem ZgJ{g:Bool->Bool}:ZjR g .non=.ok (.bl (g true)):=rfl
theorem ZgK{g:Bool->Bool}{xs:List PV}:ZjR g (.lst xs)=.ok (.bl (g false)):=rfl
section
variable {prog:Program}{w:World}{A:Around}{R:Result->Shared->Prop}{s:Shared}
theorem Ut{elt target iter:Expr}{ifs:List Expr}{scope:Scope}{pos:Pos}{it acc:Value}{env:Env}(I:Nat->Shared->Prop)(turn:∀n s,I n s->wpAny (model prog w) A (pyNext it) (fun r s₁=>match r with
   |none=>R (.ok .next) s₁
   |some v=>wpAny (model prog w) A (letOwnedTupleGo target it v) (fun _ s₁'=>wpAny (model prog w) A (assign target env v) (fun _ s₂ =>
     wpAny (model prog w) A (forIn ifs true fun c r=>if r=true then do let ok <- isTrue c env (eval c env);pure (ForInStep.yield ok) else pure (ForInStep.yield r)) (fun ok s₃ =>
      if ok=true then wpAny (model prog w) A (eval elt env) (fun x s₄ =>
       wpAny (model prog w) A (call (.builtin "list.append") [acc,x]) (fun _ s₅=>∃m,m<n/\I m s₅) (notedBy (model prog w) A env fun e s'=>R (.error e) s') s₄) (notedBy (model prog w) A env fun e s'=>R (.error e) s') s₃
      else ∃m,m<n/\I m s₃) (notedBy (model prog w) A env fun e s'=>R (.error e) s') s₂) (notedBy (model prog w) A env fun e s'=>R (.error e) s') s₁') (notedBy (model prog w) A env fun e s'=>R (.error e) s') s₁) (notedBy (model prog w) A env fun e s'=>R (.error e) s') s)(n:Nat)(h:I n s) :
  codeAny (model prog w) A (.compLoop (.ListComp elt [⟨target,iter,ifs,0⟩] scope pos) 0 it acc env) R s:=by
 refine codeAny_loop rfl I (fun n s hI=>?_) n h
 show wpAny _ A ((compTurn (.ListComp elt [⟨target,iter,ifs,0⟩] scope pos) 0 it acc env).onRaise (fun x=>do noteFrame x env;theTreesLotGoes x)) _ _ s
 refine wpAny_noted ?_
 rw[compTurn_list]
 refine wpAny_bind (wpAny_standAt (wpAny_bind (wpAny_mono (turn n s hI) (fun r s₁ h₁=>?_) fun _ _ h'=>h')))
 cases r with
 |none=>exact wpAny_pure h₁
 |some v =>
  refine wpAny_bind (wpAny_mono h₁ (fun _ s₁' h₁'=>?_) fun _ _ h'=>h')
  refine wpAny_bind (wpAny_mono h₁' (fun _ s₂ h₂=>wpAny_bind (wpAny_mono h₂ (fun ok s₃ h₃=>?_) fun _ _ h'=>h')) fun _ _ h'=>h')
  cases ok with
  |false=>exact wpAny_pure ⟨rfl,h₃⟩
  |true =>
   exact wpAny_bind (wpAny_bind (wpAny_mono h₃ (fun x s₄ h₄=>wpAny_bind (wpAny_mono h₄ (fun _ s₅ h₅=>wpAny_pure (wpAny_pure ⟨rfl,h₅⟩)) fun _ _ h'=>h')) fun _ _ h'=>h'))
end
noncomputable def Zct(xs:List Str)(y:Str):Str:=if xs.contains y then "" else y
noncomputable def Qn(X:Cx)(scope:Scope)(xs:List Str)(C:Addr)(ex:List Addr)(s₂:Shared)(H₂:Hp):Cx:=
 { X with N:=X.N.map (Zct xs)++xs,s₀:=s₂,H₀:=H₂,env:=compEnvC scope (ZbP scope X.env) C X.env,outer:=X.stack,ex:=ex,fn:=fun _=>false,pn:=[],xe:=fun _ _=>False }
noncomputable abbrev TB:=V->Hp->List V->Prop
noncomputable def tB1:TB:=fun x _ vs=>vs=[x]
def PB(X:Cx)(scope:Scope)(xs:List Str)(tg:Expr)(Bd:TB):Prop:=∀C s₂ H₂ ex,∀(pins:List (Addr×Obj)) (s:Shared) (σ σx:St) (H:Hp) (x:V) (u:Value) (vs:List V) (E:Value->Shared->Prop),σ.length=X.N.length->σx.length=xs.length ->
 Inv (Qn X scope xs C ex s₂ H₂) pins (σ++σx) H s->JX x u->Bd x H vs->wpAny (model X.prog X.w) X.A (assign tg (Qn X scope xs C ex s₂ H₂).env u) (fun _ s'=>Inv (Qn X scope xs C ex s₂ H₂) pins (σ++vs.map some) H s') E s
def PCi(X:Cx)(ifs:List Expr)(t:TT):Prop:=∀(pins:List (Addr×Obj)) (s:Shared) (σ:St) (H:Hp) (Q:Bool->Hp->Prop) (E:Value->Shared->Prop),Inv X pins σ H s->t σ H Q ->
 wpAny (model X.prog X.w) X.A (forIn ifs true fun c r=>if r=true then do let ok <- isTrue c X.env (eval c X.env);pure (ForInStep.yield ok) else pure (ForInStep.yield r)) (TP X pins σ Q) E s
noncomputable def ZlI:TT:=fun _ H Q=>Q true H
theorem ZhC{X:Cx}:PCi X [] ZlI:=fun pins s σ H Q E I h=>wpAny_tests_nil ⟨_,I,h⟩
def Ze3(σ:St)(Bd:TB)(tt:TT)(te:TE)(J:It)(H1:Hp)(Q:VK):Prop:=∃W:Nat->Nat->List V->Hp->Prop,(∃m,W 0 m [] H1)/\∀i m ys H2,W i m ys H2->ys.length<=sizeLine /\
 ((J.stop i H2/\∀p,H2 p=none->Q (.ref p) (upd H2 p (.lst ys))) \/
  (J.go i H2/\∃N:List V->Hp->Prop,(∀ys' H',N ys' H'->∃m',m'<m/\W (i+1) m' ys' H')/\∀x H3,J.yld i H2 x H3->∃vs,Bd x H3 vs/\tt (σ++vs.map some) H3 fun b H4=>if b=true then te (σ++vs.map some) H4 fun y H5=>N (ys++[y]) H5 else N ys H4))
noncomputable def ZcL(wi:TI)(Bd:TB)(tt:TT)(te:TE):TE:=fun σ H Q=>wi σ H fun J H1=>Ze3 σ Bd tt te J H1 Q
noncomputable def Qk(N:List Str)(sc scope:Scope)(xs:List Str):Bool:=xs.all (fun x=>QR [] sc scope x)&&decide (N.map (Zct xs)++xs).Nodup&&!xs.isEmpty&&(N.all fun y=>xs.contains y || !(scope.names.lookup y==some .local))&&(scope.names.lookup (Str.ofString "")==none)
structure CkN(N:List Str)(sc scope:Scope)(xs:List Str):Prop where
 scs:∀x∈xs,VM [] sc scope x
 nd:(N.map (Zct xs)++xs).Nodup
 ex:∃x,x∈xs
 noN:∀y∈N,y ∉ xs->scope.names.lookup y≠some .local
 noE:scope.names.lookup (Str.ofString "")=none
theorem QQ{N:List Str}{sc scope:Scope}{xs:List Str}(h:Qk N sc scope xs=true):CkN N sc scope xs:=by
 unfold Qk at h
 simp only[Bool.and_eq_true,ZtF,decide_eq_true_eq,Bool.not_eq_true',Bool.or_eq_true,beq_iff_eq,beq_eq_false_iff_ne] at h
 obtain⟨⟨⟨⟨h1,h2⟩,h3⟩,h4⟩,h5⟩:=h
 refine⟨fun x hx=>VM.of (h1 x hx),h2, ?_,fun y hy hn=>?_,h5⟩
 ·cases xs with
  |nil=>simp at h3
  |cons a l=>exact⟨a,by simp⟩
 ·rcases h4 y hy with z|z
  ·exact absurd (ZtR.mp z) hn
  ·exact z
section
variable {X:Cx}{pins:List (Addr×Obj)}{σ:St}{s₂:Shared}{H₂:Hp}{scope:Scope}{x:Str}{xs:List Str}{tg elt iter:Expr}{ifs:List Expr}{pos:Pos}{Bd:TB}{tt:TT}{te:TE}{J:It}{fp:List Addr}{it:Addr}{tn:Nat->Heap->Prop}
theorem J6{N0:List Str}(sc:VM N0 X.env.scope scope x)(ok:X.Ok){y:Str}{c:Addr}(h:(ZbP scope X.env).lookup y=some c):X.env.cells.lookup y=some c:=by
 have hm:=PySem.mem_of_lookup h
 unfold ZbP at hm
 obtain⟨p,hp,e⟩:=Ztx.mp hm
 have hp':=ZtV.mp (ZuE.mp hp)
 obtain⟨e1,e2⟩:=Prod.mk.inj e
 have hk:=sc.fr p hp'.1 (beq_iff_eq.mp hp'.2)
 obtain⟨c',hc'⟩:=ok.has p.1 hk
 rw[hc'] at e2
 rw[<- e1,hc']
 exact congrArg some e2
theorem Zjk{N0:List Str}(I:Inv X pins σ H₂ s₂)(sc:VM N0 X.env.scope scope x){C:Addr}(hC:s₂.heap.objs.size<=C)(ff:∀b∈fp,Zew X pins H₂ b)(fo:∀b∈fp,∃o,s₂.heap.get? b=some o):(Qn X scope xs C fp s₂ H₂).Ok where
 mod:=I.ok.mod
 kind:=sc.kind
 glob:=I.ok.glob
 blt:=I.ok.blt
 above:=hC
 inj:=fun y z c h1 h2=>I.ok.inj y z c (J6 sc I.ok h1) (J6 sc I.ok h2)
 has:=fun y hy=>by
  have hy':(relabel scope X.env).names.lookup y=some .cell\/(relabel scope X.env).names.lookup y=some .free:=hy
  have hf:scope.names.lookup y=some .free:=by
   rcases hy' with z|z
   ·exact(ZE sc.nc z).2 (.inl rfl)
   ·exact(ZE sc.nc z).2 (.inr rfl)
  exact Ql hf
 cab:=fun y c h=>by cases h
 hd:=I.ok.hd
 frames:=I.ok.frames
 stk:=.inl rfl
 exf:=fun b hb=>by
  obtain⟨f0,f1,f2,f3,f4,f5⟩:=ff b hb
  obtain⟨o,ho⟩:=fo b hb
  exact⟨Zt1 (Ztm (Heap.lt_size ho) hC),fun y c h=>f4 y c (J6 sc I.ok h)⟩
 bs:=I.bs
 bsz:=Zt7 I.ok.bsz I.sz
 noex:=fun b o e hb=>by
  obtain⟨f0,f1,f2,f3,f4,f5⟩:=ff b hb
  rcases f3 with z|z
  ·exact I.ok.noex b o e z
  ·exact absurd (Ztm (Heap.lt_size e) (Zt7 I.ok.bsz z)) (ZtA _)
 exfs:=fun b hb z=>by
  obtain⟨f0,f1,f2,f3,f4,f5⟩:=ff b hb
  rcases Zts.mp (I.stkSub b z) with e|e
  ·exact f1 e
  ·exact f2 e
 funs:=I.stack
 frf:=I.stkFree
theorem ZfS{E:Value->Shared->Prop}{Q:VK}{RR:Value->Addr->Result->Shared->Prop}(I:Inv X pins σ H₂ s₂)(ck:CkN X.N X.env.scope scope xs)(hx:x∈xs)(hNd:X.N.Nodup)(hc:X.calm=true)(T:Zjy X.prog X.w X.K tg J fp it tn)(st:tn 0 s₂.heap)(ff:∀b∈fp,Zew X pins H₂ b)(hw:Ze3 σ Bd tt te J H₂ Q)(hb:PB X scope xs tg Bd)(ht:∀C s₂ H₂ ex,PCi (Qn X scope xs C ex s₂ H₂) ifs tt)(he:∀C s₂ H₂ ex,PE (Qn X scope xs C ex s₂ H₂) elt te)(hvs:∀x H vs,Bd x H vs->vs.length=xs.length)(hRR:∀D C s' H' m',s₂.heap.objs.size<=C->Inv X pins σ H' s'->s'.heap.Ns C m'->H' C=none->Q (.ref D) H'->RR (.ref D) C (.ok .next) s') :
  wpAny (model X.prog X.w) X.A (newList []) (fun acc s₃=>wpAny (model X.prog X.w) X.A (newFunctionEnv scope X.env.globals (ZbP scope X.env) [] X.env.qual none .none (some X.env)) (fun cenv s₄ =>
   codeAny (model X.prog X.w) X.A (.compStart (.ListComp elt [⟨tg,iter,ifs,0⟩] scope pos) 0 (.ref it) acc { cenv with scope:=relabel scope X.env }) (RR acc cenv.locals) s₄) E s₃) E s₂:=by
 have sc:=ck.scs x hx
 refine wpAny_newObj_type (wpAny_newFunctionEnv sc.nc (by intro y hy;simp at hy) (fun h₁ hns₁ hsb₁=>?_) sc.kind)
 dsimp only at hns₁ hsb₁ ⊢
 generalize hP2:s₂.heap.push { cls:=.type "list",dict:=none,data:=.seq ([]:List Value).toArray }=P2 at hns₁ hsb₁ ⊢
 have hCs:P2.objs.size=s₂.heap.objs.size+1:=by rw[<- hP2,Heap.size_push]
 have hCle:s₂.heap.objs.size<=P2.objs.size:=by rw[hCs];exact Nat.le_succ _
 have hDC:s₂.heap.objs.size≠P2.objs.size:=by rw[hCs];exact Zt1 (Zul _)
 generalize hCe:P2.objs.size=C at hns₁ hsb₁ hCs hCle hDC ⊢
 generalize hDe:s₂.heap.objs.size=D at hCs hCle hDC ⊢
 have fo:∀b∈fp,∃o,s₂.heap.get? b=some o:=fun b hb=>let ⟨o,e,_⟩:=T.obj _ _ st b hb;⟨o,e⟩
 have flt:∀b∈fp,b<D:=fun b hb=>by obtain⟨o,e⟩:=fo b hb;rw[<- hDe];exact Heap.lt_size e
 have old:∀b o,s₂.heap.get? b=some o->h₁.get? b=some o:=fun b o e=>by
  have hb:=Heap.lt_size e
  exact hsb₁.extBut b o (Zt1 (by rw[hCs];exact Nat.lt_succ_of_lt (hDe▸hb))) (Heap.get?_push_of_some _ (hP2▸Heap.get?_push_of_some _ e))
 have hacc:h₁.get? D=some { cls:=.type "list",data:=.seq ([]:List Value).toArray 0 }:=hsb₁.extBut _ _ hDC (Heap.get?_push_of_some _ (hP2▸hDe▸Heap.get?_push_size _ rfl))
 have okB:=Zjk (x:=x) (xs:=xs) (C:=C) I sc (by rw[hDe];exact hCle) ff fo
 have hfreshD:H₂ D=none:=I.hok.fresh (by rw[hDe];exact Zto _)
 have hfreshC:H₂ C=none:=I.hok.fresh (by rw[hDe];exact hCle)
 have I0:Inv (Qn X scope xs C fp s₂ H₂) [(D,{ cls:=.type "list",data:=.seq ([]:List Value).toArray 0 })] (σ++List.replicate xs.length none) H₂ { s₂ with heap:=h₁,toks:=s₂.toks+([]:List (Str×Value)).length }:=by
  refine⟨okB,rfl,I.bare,Un.kept old,⟨_,hns₁,fun i y v e1 e2 e3=>?_⟩,fun y c e=>?_,hfreshC,fun y c e=>I.freeC y c (J6 sc I.ok e),fun p hp=>?_,I.hok.kept old,by simp[Qn,I.len]⟩
  ·have hi:i<σ.length:=by
    by_cases hi:i<σ.length
    ·exact hi
    ·rw[Ztw (by lia)] at e2
     rw[Zuo] at e2
     split at e2<;>cases e2
   rw[Ztn hi] at e2
   have e1':(X.N.map (Zct xs)++xs)[i]?=some y:=e1
   rw[Ztn (by rw[Ztp,<- I.len];exact hi),Zt2] at e1'
   have lk:scope.names.lookup y=some .local\/scope.names.lookup y=some .free:=by
    have e3':(relabel scope X.env).names.lookup y=some .local\/(relabel scope X.env).names.lookup y=some .cell\/(relabel scope X.env).names.lookup y=some .free:=e3
    rcases e3' with z|z|z
    ·exact .inl ((ZE sc.nc z).1 rfl)
    ·exact .inr ((ZE sc.nc z).2 (.inl rfl))
    ·exact .inr ((ZE sc.nc z).2 (.inr rfl))
   obtain⟨y0,ey0,ey⟩:∃y0,X.N[i]?=some y0/\Zct xs y0=y:=by
    cases q:X.N[i]? with
    |none=>rw[q] at e1';cases e1'
    |some y0=>rw[q] at e1';exact⟨y0,rfl,Option.some.inj e1'⟩
   have hy0:y0 ∉ xs:=fun z=>by
    have:y=Str.ofString "":=by rw[<- ey];unfold Zct;rw[if_pos (ZtR.mpr z)]
    rw[this,ck.noE] at lk
    rcases lk with z|z<;>cases z
   have ey2:y0=y:=by rw[<- ey];unfold Zct;rw[if_neg (fun z=>hy0 (ZtR.mp z))]
   rw[ey2] at ey0 hy0
   have e1':X.N[i]?=some y:=ey0
   have yN:y∈X.N:=Zuj e1'
   have e3':(relabel scope X.env).names.lookup y=some .local\/(relabel scope X.env).names.lookup y=some .cell\/(relabel scope X.env).names.lookup y=some .free:=e3
   have hcf:(relabel scope X.env).names.lookup y=some .cell\/(relabel scope X.env).names.lookup y=some .free:=by
    rcases e3' with z|z
    ·exact absurd ((ZE sc.nc z).1 rfl) (ck.noN y yN hy0)
    ·exact z
   have hfree:scope.names.lookup y=some .free:=by
    rcases hcf with z|z
    ·exact(ZE sc.nc z).2 (.inl rfl)
    ·exact(ZE sc.nc z).2 (.inr rfl)
   obtain⟨c,hcl⟩:=Ql (X:=X) hfree
   have hcx:=J6 sc I.ok hcl
   have hvis:=sc.fr _ (PySem.mem_of_lookup hfree) rfl
   obtain⟨m,hn,hl⟩:=I.loc
   obtain⟨u,ru,hlook⟩:=hl i y v e1' e2 (.inr hvis)
   refine⟨u,ru,.inr ⟨hcf,c,hcl, ?_⟩⟩
   rcases hlook with ⟨k,_⟩|⟨k,c',ec,hcell⟩
   ·have k':X.env.scope.names.lookup y=some .local:=k
    have hv':X.env.scope.names.lookup y=some .cell\/X.env.scope.names.lookup y=some .free:=hvis
    rw[k'] at hv'
    rcases hv' with z|z<;>cases z
   ·rw[hcx] at ec;cases ec
    obtain⟨o,ho,hd⟩:=hcell
    exact⟨o,old _ _ ho,hd⟩
  ·obtain⟨v,o,ho,hd⟩:=I.cell y c (J6 sc I.ok e)
   exact⟨v,o,old _ _ ho,hd⟩
  ·have e:p=(D,{ cls:=.type "list",data:=.seq ([]:List Value).toArray 0 }):=by simpa[Qn] using hp
   subst e
   exact⟨hacc,hfreshD,hDC,(fun z=>by
    rcases Zts.mp (I.stkSub D z) with e|e
    ·exact absurd I.lt (by rw[<- e,hDe];exact ZtA _)
    ·exact I.nofs (by rw[hDe];exact Zto _) e),fun v z=>nomatch z⟩
 obtain⟨W,⟨m0,w0⟩,turn⟩:=hw
 have fpB:∀{H':Hp}{o:Obj},(∀b∈fp,H' b=none)->∀b∈fp,Zew (Qn X scope xs C fp s₂ H₂) [(D,o)] H' b:=fun {H' o} hn b hb=>by
  obtain⟨f0,f1,f2,f3,f4,f5⟩:=ff b hb
  obtain⟨g1,g2⟩:=okB.exf b hb
  exact⟨hn b hb,g1,okB.exfs b hb,.inl hb,g2,fun p hp=>by
   have e:p=(D,o):=by simpa[Qn] using hp
   subst e
   exact(Zt1 (flt b hb)).symm⟩
 have hσ:σ.length=X.N.length:=I.len
 have loop:∀s₃:Shared,s₃={ s₂ with heap:=h₁,toks:=s₂.toks+([]:List (Str×Value)).length } ->
   codeAny (model X.prog X.w) X.A (.compLoop (.ListComp elt [⟨tg,iter,ifs,0⟩] scope pos) 0 (.ref it) (.ref D) (compEnvC scope (ZbP scope X.env) C X.env)) (RR (.ref D) C) s₃:=by
  rintro s₃ rfl
  refine Ut
   (fun n s'=>∃i ys its k σx H',σx.length=xs.length/\Inv (Qn X scope xs C fp s₂ H₂) [(D,{ cls:=.type "list",data:=.seq (List.toArray its) k })] (σ++σx) H' s'/\tn i s'.heap/\(∀b∈fp,H' b=none)/\Jr ys its/\W i n ys H') ?_ m0
   ⟨0,[],[],0,List.replicate xs.length none,H₂,by simp,I0,T.keep _ _ _ st (fun b hb o e=>old b o e),fun b hb=>(ff b hb).1,.nil,w0⟩
  rintro n s' ⟨i,ys,its,k,σx,H',hσx,I',st',fr',rv,w'⟩
  obtain⟨hz,hcase⟩:=turn i n ys H' w'
  have hpinD:=I'.pin (D,{ cls:=.type "list",data:=.seq (List.toArray its) k }) (by simp[Qn])
  rcases hcase with ⟨stop,q⟩|⟨go,N,hN,step⟩
  ·refine thn (T.done (Qn X scope xs C fp s₂ H₂) rfl rfl rfl hc i _ s' _ H' _ I' (fpB fr') st' stop) fun r s4 ⟨hr,I4⟩=>?_
   subst hr
   have pD:=I4.pin (D,{ cls:=.type "list",data:=.seq (List.toArray its) k }) (by simp[Qn])
   obtain⟨m4,hn4,_⟩:=I4.loc
   have IX:Inv X pins σ H' s4:=I.call' I4.os I4.base I4.hok I4.bare fun b hb=>by
    obtain⟨f0,f1,f2,f3,f4,f5⟩:=ff b hb
    exact⟨f3,f1,f4,f5⟩
   have IX2:=IX.adopt (D:=D) (ys:=ys) (its:=its) (n:=k) hpinD.2.1 (by rw[<- hDe];exact I.sz) (by rw[<- hDe];exact Zur I.lt)
    (fun y c e z=>by
     obtain⟨v,o,ho,hd⟩:=I.cell y c e
     have:=Heap.lt_size ho
     rw[hDe,z] at this
     exact ZtA _ this)
    (fun p hp z=>by
     have:=Heap.lt_size (I.pin p hp).1
     rw[hDe,z] at this
     exact ZtA _ this) pD.1 rv hz
   refine hRR D C s4 _ m4 (by rw[hDe];exact hCle) IX2 hn4 ?_ (q D hpinD.2.1)
   rw[Z1 (Ne.symm hDC)]
   exact I4.free
  ·refine thn (T.item (Qn X scope xs C fp s₂ H₂) rfl rfl rfl hc i _ s' _ H' _ I' (fpB fr') st' go) fun r s4 ⟨u,hr,h4⟩=>?_
   subst hr
   refine thn h4 fun _ s5 ⟨y,H5,I5,r5,y5,st5,fr5⟩=>?_
   have I5':=I5.pinned (fpB fr5) (T.obj _ _ st5)
   obtain⟨vs,bd5,stp⟩:=step y H5 y5
   refine thn (hb C s₂ H₂ fp _ s5 σ σx H5 y u vs _ hσ hσx I5' r5 bd5) fun _ s6 I6=>?_
   refine thn (ht C s₂ H₂ fp _ s6 _ H5 _ _ I6 stp) fun ok s6' hok=>?_
   obtain⟨H6',I6',q6'⟩:=hok
   have hvl:=hvs _ _ _ bd5
   have stay:∀{s9:Shared}{H9:Hp}{ys':List V}{its':List Value}{k':Nat},True:=fun {_ _ _ _ _}=>trivial
   cases ok with
   |false =>
    rw[if_neg Bool.false_ne_true] at q6' ⊢
    have pD6:=I6'.pin (D,{ cls:=.type "list",data:=.seq (List.toArray its) k }) (by simp[Qn])
    obtain⟨m',hm,w8⟩:=hN _ _ q6'
    refine⟨m',hm,i+1,ys,its,k,vs.map some,H6',by simp[hvl],I6'.pins_of fun p hp=>?_, ?_,fun b hb'=>?_,rv,w8⟩
    ·have e:p=(D,{ cls:=.type "list",data:=.seq (List.toArray its) k }):=by simpa using hp
     subst e
     exact⟨pD6.1,pD6.2.1,pD6.2.2.1,pD6.2.2.2.1,fun v z=>nomatch z⟩
    ·refine T.keep _ _ _ st5 fun b hb' o e=>?_
     exact(I6'.pin (b,o) (Ztg _ (Ztg _ (Jp hb' e)))).1
    ·obtain⟨o,e,d⟩:=T.obj _ _ st5 b hb'
     exact(I6'.pin (b,o) (Ztg _ (Ztg _ (Jp hb' e)))).2.1
   |true =>
   rw[if_pos rfl] at q6' ⊢
   refine wpAny_mono (he C s₂ H₂ fp _ s6' _ H6' _ I6' q6') (fun u7 s7 h7=>?_) fun _ _ f=>f.elim
   obtain⟨v7,H7,I7,r7,n7⟩:=h7
   have pD7:=I7.pin (D,{ cls:=.type "list",data:=.seq (List.toArray its) k }) (by simp[Qn])
   have hlen:=rv.length
   refine append_at (hsz:=by show its.toArray.size<=sizeLine;rw[Ztr,<- hlen];exact hz) pD7.1 fun h8 hs8 hD8=>?_
   obtain⟨m',hm,w8⟩:=hN _ _ n7
   have hD8':h8.get? D=some { cls:=.type "list",data:=.seq (its++[u7]).toArray (k+1) }:=by rw[hD8,List.push_toArray]
   have I8:Inv (Qn X scope xs C fp s₂ H₂) [] (σ++vs.map some) H7 { s7 with heap:=h8 }:=by
    refine(I7.pins_of (pins':=[]) fun p hp=>absurd hp (by simp)).turned (t':=s7.toks) (it:=D) (fun b o hb e=>(hs8.2 b hb).trans e) pD7.2.1 pD7.2.2.1 (.inr (by show s₂.heap.objs.size<=D;rw[hDe];exact Zto _)) (fun y' c' e' z=>?_) fun p hp=>absurd (show p∈([]:List (Addr×Obj)) from by simpa[Qn] using hp) (by simp)
    obtain⟨v,o,ho,hd⟩:=I.cell y' c' (J6 sc I.ok e')
    have:=Heap.lt_size ho
    rw[hDe,z] at this
    exact ZtA _ this
   refine⟨m',hm,i+1,ys++[v7],its++[u7],k+1,vs.map some,H7,by simp[hvl],I8.pins_of fun p hp=>?_, ?_,fun b hb'=>?_,rv.append (.cons r7 .nil),w8⟩
   ·have e:p=(D,{ cls:=.type "list",data:=.seq (its++[u7]).toArray (k+1) }):=by simpa using hp
    subst e
    exact⟨hD8',pD7.2.1,pD7.2.2.1,pD7.2.2.2.1,fun v z=>nomatch z⟩
   ·refine T.keep _ _ _ st5 fun b hb' o e=>?_
    have hpb:=I7.pin (b,o) (Ztg _ (Ztg _ (Jp hb' e)))
    exact(hs8.2 b (Zt1 (flt b hb'))).trans hpb.1
   ·obtain⟨o,e,d⟩:=T.obj _ _ st5 b hb'
    exact(I7.pin (b,o) (Ztg _ (Ztg _ (Jp hb' e)))).2.1
 exact codeAny_compStart_list (loop _ rfl) (T.self _ 0 _ _ _ (T.keep _ _ _ st fun b hb o e=>old b o e) (loop _ rfl))
theorem ZeS{px:Pos}(hNd:X.N.Nodup)(hchk:Qk X.N X.env.scope scope [x]=true:=by rfl):PB X scope [x] (.Name x px) tB1:=by
 intro C s₂ H₂ ex pins s σ σx H y u vs E hσ hσx I r hb
 have ck:=QQ hchk
 have sc:=ck.scs x (by simp)
 have hb:vs=[y]:=hb
 subst hb
 have ndB:=ck.nd
 refine wpAny_assign_Name ?_
 refine VN (X:=Qn X scope [x] C ex s₂ H₂) (i:=X.N.length) (x:=x) (v:=y) I ndB (by simp[Qn]) (.inl (lookup_relabel_local sc.var)) r (fun s6 I6=>?_) (.inr (lookup_relabel_local sc.var))
 obtain⟨o,rfl⟩:∃o,σx=[o]:=by
  cases σx with
  |nil=>simp at hσx
  |cons a l =>
   cases l with
   |nil=>exact⟨a,rfl⟩
   |cons b l=>simp at hσx
 have eσ:(σ++[o]).set X.N.length (some y)=σ++[some y]:=by
  rw[<- hσ];simp
 rw[eσ] at I6
 exact I6
noncomputable def Zbe(i:Nat)(wi:TI)(Bd:TB)(tt:TT)(te:TE):TS:=fun D σ H=>ZcL wi Bd tt te σ H fun v H'=>D.nx (σ.set i (some v)) H'
theorem Qx{i:Nat}{y:Str}{py spos:Pos}{wi:TI}(hN:X.N.Nodup)(hi:X.N[i]?=some y)(hit:PI X tg iter wi)(hb:PB X scope xs tg Bd)(ht:∀C s₂ H₂ ex,PCi (Qn X scope xs C ex s₂ H₂) ifs tt)(he:∀C s₂ H₂ ex,PE (Qn X scope xs C ex s₂ H₂) elt te)(hvs:∀x H vs,Bd x H vs->vs.length=xs.length)(hc:X.calm=true)(hsw:swapsWith (.ListComp elt [⟨tg,iter,ifs,0⟩] scope pos) (some (.Name y py)) spos.line X.env=pure true:=by rfl)(hy:X.env.scope.names.lookup y=some .local:=by rfl)(hclos:closureFor scope X.env=pure (ZbP scope X.env):=by rfl)(hchk:Qk X.N X.env.scope scope xs=true:=by rfl)(hs:∀x,foldedSetIterable iter X.env x=pure x:=by exact fun _=>rfl) :
  PS X (.Assign [.Name y py] (.ListComp elt [⟨tg,iter,ifs,0⟩] scope pos) spos) (Zbe i wi Bd tt te):=by
 intro pins s σ H D0 I h
 have ck:=QQ hchk
 obtain⟨x,hx⟩:=ck.ex
 have sc:=ck.scs x hx
 rw[exec_Assign_Name_used _ _ _ _ hsw]
 refine wpAny_bind (wpAny_standAt (wpAny_bind ?_))
 show wpAny _ X.A (do let _ <- comprehension (.ListComp elt [⟨tg,iter,ifs,0⟩] scope pos) scope X.env _ (newList []) false (eval iter X.env) (some (assign (.Name y py) X.env))) _ _ s
 refine wpAny_bind (wpAny_mono (wpAny_comprehension_free (use:=some (assign (.Name y py) X.env)) (Q:=fun _ s'=>SP X pins D0 .next s') rfl hs hclos sc.kind sc.locs
  (thn (hit pins s σ H _ I h) fun xv s₁ h₁=>thn h₁ fun itv s₂ h₂=>?_)) (fun _ s' hq=>wpAny_pure (wpAny_pure hq)) fun _ _ e=>e)
 obtain⟨it,fp,tn,J,H2,e,I2,T,st2,f2,q⟩:=h₂
 subst e
 refine ZfS (RR:=fun acc C=>compPost (model X.prog X.w) X.A X.xe (some (assign (.Name y py) X.env)) (fun _ s'=>SP X pins D0 .next s') acc C) I2 ck hx hN hc T st2 f2 q hb ht he hvs ?_
 intro D C s' H' m' hC I' hn hC0 hq
 show wpAny _ X.A (assign (.Name y py) X.env (.ref D)) _ _ _
 have cellC:∀y c,X.env.cells.lookup y=some c->c≠C:=fun y c e z=>by
  obtain⟨v,o,ho,hd⟩:=I2.cell y c e
  exact absurd (Heap.lt_size ho) (ZuB.mpr (by rw[z];exact hC))
 have locC:C≠X.env.locals:=Zur (Ztm I2.lt hC)
 refine wpAny_assign_Name (Qr (i:=i) (v:=.ref D) I' hN hi (.inl hy) rfl (fun s'' I'' ⟨a,hsa,ha⟩=>?_) (.inr hy))
 have hCa:C≠a:=by
  rcases ha with z|z
  ·rw[z];exact locC
  ·exact(cellC _ _ z).symm
 refine⟨m',hn.sameBut hsa hCa,fun h'' hs''=>⟨σ.set i (some (.ref D)),H', ?_,hq⟩⟩
 refine I''.turned (t':=s''.toks) (it:=C) (fun b o hb e=>(hs''.2 b hb).trans e) hC0 locC (.inr (Zt7 I2.sz hC)) cellC fun p hp z=>?_
 exact absurd (Heap.lt_size (I2.pin p hp).1) (ZuB.mpr (by rw[z];exact hC))
end
noncomputable def Zd0{α β:Type}(f:α->Rr (Option β)):List α->Rr (List β)
 |[]=>.ok []
 |x::xs=>(f x).bind fun o=>(Zd0 f xs).bind fun ys=>.ok (o.toList++ys)
def DB(K:W.Frag)(Bd:TB)(k:Nat)(hb:PV->Rr (List PV)):Prop:=(∀x e,hb x≠.exc e)/\∀(H:Hp) (S:Addr->Prop) (x:PV) (v:V) (xs:List PV),Rep K H S x v->hb x=.ok xs->xs.length=k/\∃vs,Bd v H vs/\Reps K H S xs vs
theorem Zmj{K:W.Frag}:DB K tB1 1 (fun x=>.ok [x]):=⟨fun x e h=>(by cases h),fun H S x v xs r h=>by
 cases h
 exact⟨rfl,[v],rfl,v,[],rfl,r,rfl⟩⟩
section
variable {K:W.Frag}{B:Addr->Prop}{EX:PX->Hp->Prop}{H0 H H':Hp}{σ:St}{Γ Γ' Γ1 Γ2:List Md}{ρ:List PV}{F:Nat->List Addr}{R:List Addr}{k:Nat}{x:PV}{v:V}{te:TE}{tt:TT}{f fe:List PV->Rr PV}{c:List PV->Rr Bool}{Bd:TB}{hb:PV->Rr (List PV)}
theorem ZhZ:DT K EX Γ Γ ZlI (fun _=>.ok true):=fun B H0 H σ ρ F R Q A d=>d H F (Z5.refl H) (fun _ _ h=>h) A
theorem Ag.pushN:∀{xs:List PV}{vs:List V}{σ:St}{Γ:List Md}{ρ:List PV},Reps K H (NO B F R) xs vs->Ag K B H0 H σ Γ ρ F R->Ag K B H0 H (σ++vs.map some) (Γ++List.replicate xs.length .S) (ρ++xs) F R
 |[],vs,σ,Γ,ρ,h,A=>by
  have h:vs=[]:=h
  subst h
  simpa using A
 |x::xs,vs,σ,Γ,ρ,h,A=>by
  obtain⟨v,r,rfl,h1,h2⟩:=h
  have:=Ag.pushN (xs:=xs) (vs:=r) h2 (A.push h1)
  simpa[List.replicate_succ] using this
theorem Ag.popN{n:Nat}{τ:St}{xs:List PV}(A:Ag K B H0 H (σ++τ) (Γ++List.replicate n .S) (ρ++xs) F R)(l1:σ.length=Γ.length)(l2:ρ.length=Γ.length):Ag K B H0 H σ Γ ρ F R:=by
 refine⟨A.same,A.own,A.young,A.youngR,A.live,A.liveR,A.disj,A.disjR,l1,l2,fun i=>?_⟩
 have:=A.slot i
 by_cases h1:i<Γ.length
 ·rw[Ztf,Ztf,Ztn h1,Ztn (by rw[l2];exact h1),Ztn (by rw[l1];exact h1),<- Ztf,<- Ztf] at this
  exact this
 ·rw[Ztf,Ztt (by lia)]
  by_cases h2:i<Γ.length+n
  ·rw[Ztf,Ztw (by lia),Zuo,if_pos (by lia)] at this
   simp only[Zuc] at this
   exact this.1
  ·exact A.outF (by simp;lia)
theorem Zhk{wi:TI}{fi:List PV->Rr (List PV)}(hi:DIc K EX Γ Γ1 wi fi)(hB:DB K Bd k hb)(ht:DT K EX (Γ1++List.replicate k .S) (Γ1++List.replicate k .S) tt c)(he:DE K EX (Γ1++List.replicate k .S) (Γ1++List.replicate k .S) .F te fe) :
  DE K EX Γ Γ1 .F (ZcL wi Bd tt te) (fun ρ=>(fi ρ).bind fun xs=>(lenM xs).bind fun _=>(Zd0 (fun x=>(hb x).bind fun as=>(c (ρ++as)).bind fun b=>if b=true then (fe (ρ++as)).bind fun y=>.ok (some y) else .ok none) xs).bind fun ys=>.ok (.lst ys)):=fun B H0 H σ ρ F R Q A d=>by
 refine hi B H0 H σ ρ F R _ A (d.bind.imp (fun xs _ d J H1 F1 s1 f1 A1 it=>?_) fun e q=>q)
 obtain⟨hlen,d⟩:=Dn.lenM d.bind
 generalize hgx:(fun x=>(hb x).bind fun as=>(c (ρ++as)).bind fun b=>if b=true then (fe (ρ++as)).bind fun y=>Rr.ok (some y) else .ok none)=gx at d
 have l1:=A1.lenS
 have l2:=A1.lenR
 refine⟨fun i m ys H2=>∃zs G F2,m=xs.length-i/\i<=xs.length/\ys.length<=i/\Z5 H1 H2/\Trees K H2 zs ys G/\(∀a∈G,a ∉ R/\(H1 a=none\/∃j,a∈F1 j))/\(∀i,∀a∈F2 i,a∈F1 i)/\Ag K B H0 H2 σ Γ1 ρ F2 (G++R) /\
  Dn ((Zd0 gx (xs.drop i)).bind fun ys'=>.ok (.lst (zs++ys'))) (fun x=>∀v H',Z5 H H'->Res K B H0 H σ Γ1 ρ F R .F x v H'->Q v H') (fun e=>∀H',Z5 H0 H'->EX e H'),
  ⟨xs.length,[],[],F1,by simp,Zui _,Zto _,Z5.refl _,⟨rfl,rfl⟩,by simp,fun _ _ h=>h,A1,by simpa using d⟩, ?_⟩
 rintro i m ys H2 ⟨zs,G,F2,rfl,hi',hl,s2,tr,o2,f2,A2,dn⟩
 refine⟨Qg (by lia), ?_⟩
 have itp:=it H2 F2 s2 f2 i
 cases hx:xs[i]? with
 |none =>
  refine .inl ⟨itp.2 hx,fun p hp=>?_⟩
  have hd:xs.drop i=[]:=ZtP (Zt8.mp hx)
  rw[hd] at dn
  have dn':∀v H',Z5 H H'->Res K B H0 H σ Γ1 ρ F R .F (.lst (zs++[])) v H'->Q v H':=dn
  rw[ZtG] at dn'
  exact dn' _ _ ((s1.trans s2).trans (Z5.new hp)) (Res.newF (s1.trans s2) (fun i a h=>f1 i a (f2 i a h)) tr (fun a ha=>⟨(o2 a ha).1,(o2 a ha).2.elim (fun z=>.inl (s1.free z)) fun⟨j,z⟩=>.inr ⟨j,f1 j a z⟩⟩) A2 hp)
 |some x =>
  have hlt:i<xs.length:=(Ztk.mp hx).1
  obtain⟨go,yl⟩:=itp.1 x hx
  have hdx:xs.drop i=x::xs.drop (i+1):=by
   rw[Ztv hlt]
   rw[Zth hlt] at hx;cases hx;rfl
  rw[hdx] at dn
  simp only[Zd0,Rr.assoc] at dn
  rw[<- hgx] at dn
  simp only[Rr.assoc] at dn
  rw[hgx] at dn
  refine .inr ⟨go,fun ys' H'=>∃zs G F2,ys'.length<=i+1/\Z5 H1 H'/\Trees K H' zs ys' G/\(∀a∈G,a ∉ R/\(H1 a=none\/∃j,a∈F1 j))/\(∀i,∀a∈F2 i,a∈F1 i)/\Ag K B H0 H' σ Γ1 ρ F2 (G++R) /\
   Dn ((Zd0 gx (xs.drop (i+1))).bind fun ys'=>.ok (.lst (zs++ys'))) (fun x=>∀v H',Z5 H H'->Res K B H0 H σ Γ1 ρ F R .F x v H'->Q v H') (fun e=>∀H',Z5 H0 H'->EX e H'),
   fun ys' H' ⟨zs,G,F2,a1,a2,a3,a4,a5,a6,a7⟩=>⟨xs.length-(i+1),by lia,zs,G,F2,rfl,hlt,a1,a2,a3,a4,a5,a6,a7⟩,fun v H3 y=>?_⟩
  obtain⟨s3,rx⟩:=yl v H3 y
  have rx':Rep K H3 (NO B F2 (G++R)) x v:=Rep.mono (fun a us s r=>⟨r,s.1.1,fun z=>by
   rcases Zti.mp z with z|z
   ·rcases (o2 a z).2 with q|⟨j,q⟩
    ·exact s.2.1 q
    ·exact s.2.2 j q
   ·exact s.1.2.1 z,s.1.2.2⟩) (fun a us r=>r) rx
  cases hbx:hb x with
  |exc e=>exact absurd hbx (hB.1 x e)
  |bad=>rw[hbx] at dn;exact dn.elim
  |ok as =>
   rw[hbx] at dn
   simp only[Rr.bind_ok] at dn
   obtain⟨hk,vs,bd,ra⟩:=hB.2 H3 _ x v as rx' hbx
   refine⟨vs,bd, ?_⟩
   have A3:=Ag.pushN ra (A2.grow s3)
   rw[hk] at A3
   refine ht B H0 H3 _ _ F2 (G++R) _ A3 (dn.bind.imp (fun b _ dn H4 F4 s4 f4 A4=>?_) fun e q=>q)
   cases b with
   |false =>
    rw[if_neg Bool.false_ne_true] at dn ⊢
    simp only[Rr.bind_ok,ZuD] at dn
    refine⟨zs,G,F4,by lia,(s2.trans s3).trans s4,(tr.same s3).same s4,o2,fun i a h=>f2 i a (f4 i a h),A4.popN l1 l2, ?_⟩
    simp only[Rr.assoc,Rr.bind_ok,Zu4] at dn
    exact dn
   |true =>
    rw[if_pos rfl] at dn ⊢
    simp only[Rr.assoc] at dn
    refine he B H0 H4 _ _ F4 (G++R) _ A4 (dn.bind.imp (fun z _ dn w H5 s5 r5=>?_) fun e q=>q)
    obtain⟨F5,f5,G5,t5,o5,A5⟩:=r5
    refine⟨zs++[z],G++G5,F5,by simp;lia,((s2.trans s3).trans s4).trans s5,Trees.append (((tr.same s3).same s4).same s5) (Trees.one t5) (fun a ha z=>(o5 a z).1 (Ztj _ ha)),fun a ha=>?_,fun i a h=>f2 i a (f4 i a (f5 i a h)),(A5.popN l1 l2).less fun a ha=>?_, ?_⟩
    ·rcases Zti.mp ha with z|z
     ·exact o2 a z
     ·refine⟨fun q=>(o5 a z).1 (Ztg _ q), ?_⟩
      rcases (o5 a z).2 with q|⟨j,q⟩
      ·exact .inl (((s2.trans s3).trans s4).free q)
      ·exact .inr ⟨j,f2 j a (f4 j a q)⟩
    ·simp only[Zti] at ha ⊢
     rcases ha with (z|z)|z
     ·exact .inr (.inl z)
     ·exact .inl z
     ·exact .inr (.inr z)
    ·simp only[Rr.assoc,Rr.bind_ok,ZuD,ZtI,Zuv] at dn ⊢
     exact dn
theorem QK{EX:PX->Hp->Prop}{kd:Kd}{i:Nat}{wi:TI}(he:DE K EX Γ Γ' .F (ZcL wi Bd tt te) f)(hi:i<Γ'.length):DS K EX Γ ⟨Γ'.set i .O,Γ1,Γ2,kd⟩ (Zbe i wi Bd tt te) (fun ρ=>(f ρ).thenS fun x=>.next (ρ.set i x)):=Jb he hi
end
theorem hv1{n:Str}:∀(x:V) (H:Hp) (vs:List V),tB1 x H vs->vs.length=[n].length:=fun _ _ _ h=>congrArg List.length h
section
end
theorem ZaD{xs:List PV}{y:PV}(h:xs.length<1000000):pApp (.lst xs) y=.ok (.lst (xs++[y])):=if_pos h
theorem Zlt:ZjN (.int 10) (.int 62)=.ok (.int (10^62)):=by rw[Zcf (by decide)];rfl
theorem Zlu:ZjN (.int 10) (.int 61)=.ok (.int (10^61)):=by rw[Zcf (by decide)];rfl
theorem ZlA{a b:PV}:asT 2 (.tup [a,b])=.ok [a,b]:=rfl
noncomputable def Zme:Nat:=4000000
def ZkI(i j:Int):Prop:=i.natAbs<2^Zme/\j.natAbs<2^Zme
noncomputable instance (i j:Int):Decidable (ZkI i j):=by unfold ZkI;infer_instance
end L2
namespace Att
open PySem PySem.W PySem.Calls PyProof.Rows
end Att
namespace L2
open PySem PySem.Spec PyProof.Rows
section
end
theorem Zbb{c:List PV->Rr Bool}{b:List PV->RS}{ρ:List PV}{W:RS}(hw:Js c b ρ=W)(I:List PV->Prop)(μ:List PV->Nat)(h0:I ρ)(hs:∀ρ,I ρ->c ρ=.ok false\/(c ρ=.ok true/\(b ρ).good fun ρ'=>I ρ'/\μ ρ'<μ ρ)):∃ρ',W=.next ρ'/\I ρ'/\c ρ'=.ok false:=by
 subst hw
 have key:∀n ρ,I ρ->μ ρ<n->∃ρ',JB c b n ρ=some (.next ρ')/\I ρ'/\c ρ'=.ok false:=by
  intro n
  induction n with
  |zero=>intro ρ _ h;lia
  |succ n ih =>
   intro ρ hI hμ
   rcases hs ρ hI with h|⟨h1,h2⟩
   ·refine⟨ρ, ?_,hI,h⟩
    unfold JB
    rw[h]
   ·obtain⟨ρ',h3,h4,h5⟩:=RS.good_ex h2
    obtain⟨ρ2,h6,h7⟩:=ih ρ' h4 (by lia)
    refine⟨ρ2, ?_,h7⟩
    unfold JB
    rw[h1]
    rcases h3 with h3|h3<;>(rw[h3];exact h6)
 obtain⟨ρ',h1,h2⟩:=key (μ ρ+1) ρ h0 (Zul _)
 exact⟨ρ',Uw h1,h2⟩
section
end
noncomputable def Zda(p q:Int->Int->Bool)(x y:PV)(r:Rr PV):Rr PV:=match x,y with
 |.int i,.int j=>if p i j=true then r.bind fun z=>oI (fun _ _=>true) (fun i j=>.bl (q i j)) (.int j) z else .ok (.bl false)
 |_,_=>.bad
theorem Zfh{p q:Int->Int->Bool}{i j k:Int}:Zda p q (.int i) (.int j) (.ok (.int k))=.ok (.bl (p i j&&q j k)):=by
 simp only[Zda,Rr.bind_ok,oI,if_true]
 cases p i j<;>simp
section
variable {K:W.Frag}{B:Addr->Prop}{EX:PX->Hp->Prop}{H0 H H':Hp}{σ:St}{Γ Γ1 Γ2:List Md}{ρ:List PV}{F F':Nat->List Addr}{R:List Addr}{k:Nat}{x:PV}{v:V}{ta tb tc:TE}{fa fb fc:List PV->Rr PV}{hb:PV->Rr (List PV)}
theorem Zhl{p q:Int->Int->Bool}(ha:DE K EX Γ Γ1 .A ta fa)(hb:DE K EX Γ1 Γ2 .A tb fb)(hc:DE K EX Γ2 Γ2 .A tc fc) :
  DE K EX Γ Γ2 .P (Zh3 (rI0 fun i j=>.bl (p i j)) (rI0 fun i j=>.bl (q i j)) ta tb tc) (fun ρ=>(fa ρ).bind fun x=>(fb ρ).bind fun y=>Zda p q x y (fc ρ)):=fun B H0 H σ ρ F R Q A d=>by
 refine two (Q:=fun v w H2=>(rI0 fun i j=>.bl (p i j)) v w H2 fun z H3=>∃k,z=.bl k/\(if k=true then tc σ H3 fun w' H4=>(rI0 fun i j=>.bl (q i j)) w w' H4 Q else Q (.bl false) H3)) ha hb A d.bind2 fun x y v w H' F' d s hF p1 p2 A'=>?_
 cases x<;>cases y<;>first|exact d.elim|skip
 rename_i i j
 cases p1;cases p2
 refine⟨i,j,rfl,rfl,_,rfl, ?_⟩
 simp only[Zda] at d
 by_cases h:p i j=true
 ·rw[if_pos h] at d ⊢
  refine hc B H0 H' σ ρ F' R _ A' (d.bind.imp (fun z _ d u H3 s3 r3=>?_) fun e q=>q)
  obtain⟨F3,f3,p3,A3⟩:=r3
  cases z<;>first|exact d.elim|skip
  cases p3
  exact⟨j,_,rfl,rfl,d _ H3 (s.trans s3) ⟨F3,fun i a h=>hF i a (f3 i a h),rfl,rfl,A3⟩⟩
 ·rw[if_neg h] at d ⊢
  exact d _ H' s ⟨F',hF,rfl,rfl,A'⟩
end
theorem Qc{xs:List PV}:ZhE [.lst xs]=.ok (.int xs.length):=by simp[ZhE]
theorem Zfd{xs:List PV}{k:Int}(h0:0<=k)(h1:k<xs.length):pIx (.lst xs) (.int k)=.ok (xs.getD k.toNat .non):=by
 simp only[pIx,atI,Zdq h0 h1,Zuz]
 rw[Ztf,Zth (by lia)]
 rfl
noncomputable def Vb(a:List Int×Int):PV:=.tup [.lst (a.1.map PV.int),.int a.2]
section
end
structure Dat(n:Nat)(x:PV):Prop where
 nx:x.noX=true
 can:x.dat.canLay0=true
 dep:x.dat.depth<=n
theorem Dat.ok{n:Nat}{x:PV}(h:Dat n x)(hn:n<=64:=by decide):okD x=true:=by
 unfold okD
 rw[h.nx,h.can,decide_eq_true (Zt7 h.dep hn)];rfl
theorem Zc2(i:Int):Dat 0 (.int i):=⟨rfl,by simp[PV.dat,PyData.canLay0],by simp[PV.dat,PyData.depth]⟩
theorem ZaS{n:Nat}:∀{xs:List PV},(∀x∈xs,Dat n x)->PV.noXs xs=true/\PyData.canLayAll0 (PV.dats xs)=true/\PyData.depthAll (PV.dats xs)<=n
 |[],_=>⟨rfl,rfl,Zui _⟩
 |x::xs,h=>by
  obtain⟨h1,h2,h3⟩:=ZaS (xs:=xs) fun y hy=>h y (by simp[hy])
  have hx:=h x (by simp)
  refine⟨by simp[PV.noXs,hx.nx,h1],by simp[PV.dats,PyData.canLayAll0,hx.can,h2], ?_⟩
  simp only[PV.dats,PyData.depthAll]
  exact Nat.max_le.mpr ⟨hx.dep,h3⟩
theorem ZfR{n:Nat}{xs:List PV}(h:∀x∈xs,Dat n x):Dat (n+1) (.lst xs):=by
 obtain⟨h1,h2,h3⟩:=ZaS h
 exact⟨by simp[PV.noX,h1],by simp[PV.dat,PyData.canLay0,h2],by simp only[PV.dat,PyData.depth];lia⟩
theorem ZfQ{n:Nat}{xs:List PV}(h:∀x∈xs,Dat n x):Dat (n+1) (.tup xs):=by
 obtain⟨h1,h2,h3⟩:=ZaS h
 exact⟨by simp[PV.noX,h1],by simp[PV.dat,PyData.canLay0,h2],by simp only[PV.dat,PyData.depth];lia⟩
theorem Dat.up{m n:Nat}{x:PV}(h:Dat m x)(hn:m<=n):Dat n x:=⟨h.nx,h.can,Zt7 h.dep hn⟩
theorem Zhn(ns:List Int):Dat 1 (.lst (ns.map PV.int)):=ZfR fun x hx=>by
 obtain⟨i,_,rfl⟩:=Ztx.mp hx
 exact Zc2 i
theorem Zhm(a:List Int×Int):Dat 2 (Vb a):=ZfQ fun x hx=>by
 simp only[Zts,Zud,or_false] at hx
 rcases hx with rfl|rfl
 ·exact Zhn a.1
 ·exact(Zc2 _).up (by lia)
theorem Zhe{f:PV->Rr (Option PV)}{p:Nat->Bool}{g:Nat->PV}{lo:Int}{n:Nat}(h:∀i,i<n->f (.int (lo+(i:Nat)))=.ok (if p i=true then some (g i) else none)):Zd0 f (ZdS lo n)=.ok (((List.range n).filter p).map g):=by
 have key:∀(l:List Nat),(∀i∈l,i<n)->Zd0 f (l.map fun(i:Nat)=>PV.int (lo+i))=.ok ((l.filter p).map g):=by
  intro l
  induction l with
  |nil=>intro _;rfl
  |cons a l ih =>
   intro hl
   simp only[ZtB,Zd0,h a (hl a (by simp)),Rr.bind_ok,ih fun i hi=>hl i (by simp[hi])]
   cases hp:p a<;>simp[hp,Zu0]
 exact key _ fun i hi=>Ztu.mp hi
theorem Zfb{α:Type}{q:α->PV}{L:List α}{k:Int}{d:α}(h0:0<=k)(h1:k<L.length):pIx (.lst (L.map q)) (.int k)=.ok (q (L.getD k.toNat d)):=by
 rw[Zfd h0 (by simpa using h1),Ztf,Ztf,Zt2,Zth (by lia)]
 rfl
theorem ZeW{ns:List Int}{y:Int}(h:ns≠[]):pSet (.lst (ns.map PV.int)) (.int (-1)) (.int y)=.ok (.lst ((ns.set (ns.length-1) y).map PV.int)):=by
 have hl:0<ns.length:=List.length_pos_iff.mpr h
 have:ixN ns.length (-1)=some (ns.length-1):=by
  unfold ixN
  rw[if_neg (by lia),if_pos (by lia)]
  congr 1;lia
 simp only[pSet,Ztp,this,List.map_set]
section
end
theorem us1{α:Type}{us:List α}(h:us.length=1):∃a,us=[a]:=match us,h with | [a],_=>⟨a,rfl⟩
theorem us2{α:Type}{us:List α}(h:us.length=2):∃a b,us=[a,b]:=match us,h with | [a,b],_=>⟨a,b,rfl⟩
theorem us3{α:Type}{us:List α}(h:us.length=3):∃a b c,us=[a,b,c]:=match us,h with | [a,b,c],_=>⟨a,b,c,rfl⟩
theorem us4{α:Type}{us:List α}(h:us.length=4):∃a b c d,us=[a,b,c,d]:=match us,h with | [a,b,c,d],_=>⟨a,b,c,d,rfl⟩
section
end
end L2
namespace L2
open PySem PyProof.Rows
structure Zms(prog:Program)(w:World)(A:Around)(s:Shared)(κ:SortKind)(U:Keyed->Prop)(R:Keyed->Keyed->Bool)(Ok:Keyed->Keyed->Prop):Prop where
 ask:∀x y,U x->U y->Ok x y->∀(Q:Bool->Shared->Prop),Q (R x y) s->wpAny (model prog w) A (keyLt' κ x.1 y.1) Q (fun _ _=>False) s
 asy:∀x y,U x->U y->R x y=true->R y x=false
 tr:∀x y z,U x->U y->U z->R y x=false->R z y=false->R z x=false
section
variable {U:Keyed->Prop}{R:Keyed->Keyed->Bool}{Ok:Keyed->Keyed->Prop}
structure Zmc(U:Keyed->Prop)(R:Keyed->Keyed->Bool)(Ok:Keyed->Keyed->Prop)(left:Bool)(key:Keyed)(arr:Array Keyed)(base n:Nat)(P:Nat->Bool):Prop where
 uk:U key
 it:∀i,i<n->∃x,arr[base+i]?=some x/\U x/\(if left=true then Ok x key else Ok key x)/\P i=(if left=true then R x key else !R key x)
 mono:∀i j,i<=j->j<n->P j=true->P i=true
end
def Srt(R:Keyed->Keyed->Bool)(l:List Keyed):Prop:=l.Pairwise fun x y=>R y x=false
structure MI(R:Keyed->Keyed->Bool)(a b o:List Keyed)(i j:Nat):Prop where
 perm:o.Perm (a.take i++b.take j)
 srt:Srt R o
 ga:∀x∈o,∀y∈a.drop i,R y x=false
 gb:∀x∈o,∀y∈b.drop j,R y x=false
 hi:i<=a.length
 hj:j<=b.length
section
variable {U:Keyed->Prop}{R:Keyed->Keyed->Bool}{Ok:Keyed->Keyed->Prop}
structure MLo(U:Keyed->Prop)(R:Keyed->Keyed->Bool)(Ok:Keyed->Keyed->Prop)(a b:Array Keyed):Prop where
 ua:∀x∈a.toList,U x
 ub:∀x∈b.toList,U x
 ok:∀x∈b.toList,∀y∈a.toList,Ok x y
 sa:Srt R a.toList
 sb:Srt R b.toList
 na:0<a.size
 nb:0<b.size
 fst:∀x y,b.toList[0]?=some x->a.toList[0]?=some y->R y x=false
 lst:∀x∈b.toList,∀y,a.toList[a.size-1]?=some y->R y x=false
end
section
section
end
end
structure MH(R:Keyed->Keyed->Bool)(a b q:List Keyed)(i j:Nat):Prop where
 perm:q.Perm (a.drop i++b.drop j)
 srt:Srt R q
 ga:∀x∈a.take i,∀y∈q,R y x=false
 gb:∀x∈b.take j,∀y∈q,R y x=false
 hi:i<=a.length
 hj:j<=b.length
section
end
section
section
end
end
section
end
noncomputable def gA(X:Array Keyed)(i:Nat):Keyed:=X.getD i (.none,.none)
def Up(R:Keyed->Keyed->Bool)(X:Array Keyed)(lo m:Nat):Prop:=∀i j,i<j->j<m->R (gA X (lo+j)) (gA X (lo+i))=false
def Dn'(R:Keyed->Keyed->Bool)(X:Array Keyed)(lo m:Nat):Prop:=∀i j,i<j->j<m->R (gA X (lo+i)) (gA X (lo+j))=false
structure Zmn(X Y:Array Keyed)(lo m:Nat):Prop where
 perm:Y.Perm X
 out:∀k,k<lo\/lo+m<=k->Y[k]?=X[k]?
def Sep(Ok:Keyed->Keyed->Prop)(X:Array Keyed)(e:Nat):Prop:=∀p q,p<e->e<=q->q<X.size->Ok (gA X q) (gA X p)
section
variable {U:Keyed->Prop}
def Zmr(U:Keyed->Prop)(X:Array Keyed):Prop:=∀i,i<X.size->U (gA X i)
variable {R0 R:Keyed->Keyed->Bool}{Ok:Keyed->Keyed->Prop}
def Eqv(R:Keyed->Keyed->Bool)(X:Array Keyed)(lo a b:Nat):Prop:=∀i j,a<=i->i<b->a<=j->j<b->R (gA X (lo+i)) (gA X (lo+j))=false
structure Zmt(R0 R:Keyed->Keyed->Bool)(Ok:Keyed->Keyed->Prop):Prop where
 up:∀x y,R0 x y=true->R x y=true
 ok:∀x y,Ok x y->R x y=R0 x y
structure Fal(R0 R:Keyed->Keyed->Bool)(X Y:Array Keyed)(lo q k:Nat):Prop where
 t:Zmn X Y lo q
 d:Dn' R Y lo q
 e:Eqv R0 Y lo q k
 st:∀i j,i<q->q<=j->j<k->R0 (gA Y (lo+j)) (gA Y (lo+i))=true
 qk:q<k
end
noncomputable abbrev Zmo:=Nat×Nat×Nat
def UpS(R:Keyed->Keyed->Bool)(Ok:Keyed->Keyed->Prop)(X:Array Keyed)(c n:Nat):Prop:=Up R X c n/\Sep Ok X c
noncomputable def Zma(R:Keyed->Keyed->Bool)(Ok:Keyed->Keyed->Prop)(X:Array Keyed):Nat->List Zmo->Nat->Prop
 |s,[],e=>s=e
 |s,(c,n,_)::r,e=>c=s/\0<n/\UpS R Ok X c n/\Zma R Ok X (s+n) r e
section
variable {κ:SortKind}{U:Keyed->Prop}{R:Keyed->Keyed->Bool}{Ok:Keyed->Keyed->Prop}
structure RSt(κ:SortKind)(U:Keyed->Prop)(R:Keyed->Keyed->Bool)(Ok:Keyed->Keyed->Prop)(X:Array Keyed)(lo hi:Nat)(st':SortSt):Prop where
 kd:kindOf st'=κ
 fl:failedOf st'=none
 pm:(arrOf st').Perm X
 us:Zmr U (arrOf st')
 rn:Zma R Ok (arrOf st') 0 (pendingOf st').toList lo
 le:lo<=X.size
 lh:lo<=hi
 sp:∀e,e=lo\/hi<=e->Sep Ok (arrOf st') e
end
end L2
namespace L2
open PySem PySem.Spec PyProof.Rows
section
end
theorem Zkw{α:Type}{f:PV->Rr (Option PV)}{q:α->PV}{p:α->Bool}{g:α->PV}{L:List α}(h:∀x∈L,f (q x)=.ok (if p x=true then some (g x) else none)):Zd0 f (L.map q)=.ok ((L.filter p).map g):=by
 induction L with
 |nil=>rfl
 |cons a l ih =>
  simp only[ZtB,Zd0,h a (by simp),Rr.bind_ok,ih fun z hz=>h z (by simp[hz])]
  cases hp:p a<;>simp[hp,Zu0]
noncomputable def minus(H:Hp)(G:List Addr):Hp:=fun a=>if a∈G then none else H a
theorem Zdj{H:Hp}{G:List Addr}{a:Addr}(h:a∈G):minus H G a=none:=if_pos h
theorem ZS{H:Hp}{G:List Addr}{a:Addr}(h:a ∉ G):minus H G a=H a:=if_neg h
theorem Zed{H:Hp}{G:List Addr}:Z5 (minus H G) H:=fun a o h=>by
 unfold minus at h
 split at h
 ·cases h
 ·exact h
theorem Rd.minus{H:Hp}{G:List Addr}{a:Addr}{u:HO}(h:Rd H a u)(n:a ∉ G):Rd (minus H G) a u:=by
 rcases h with h|⟨o,h⟩
 ·exact .inl (by rw[ZS n];exact h)
 ·exact .inr ⟨o,by rw[ZS n];exact h⟩
theorem Im.minus{K:W.Frag}{H:Hp}{G:List Addr}{a:Addr}{k:HO}(hG:∀b∈G,∃vs:LvO,H b=some vs.1)(h:Im K H a k):Im K (minus H G) a k:=by
 refine⟨?_,h.2⟩
 rw[ZS fun z=>?_]
 ·exact h.1
 ·obtain⟨vs,q⟩:=hG a z
  exact ZaI vs.2 h.2 (by rw[h.1] at q;exact Option.some.inj q)
section
variable {K:W.Frag}{B:Addr->Prop}{H0 H H':Hp}{σ:St}{Γ:List Md}{ρ:List PV}{F:Nat->List Addr}
theorem Ag.lost{G:List Addr}(A:Ag K B H0 H σ Γ ρ F (G++[]))(s:Z5 (minus H G) H'):Ag K B H0 H' σ Γ ρ F []:=by
 have hG:∀b∈G,∃vs:LvO,H b=some vs.1:=fun b hb=>A.liveR b (by simp[hb])
 refine⟨fun a o h=>s a o ?_,A.own,A.young,by simp,fun i a ha=>?_,by simp,A.disj,by simp,A.lenS,A.lenR,fun i=>?_⟩
 ·rw[ZS (fun z=>by have:=A.youngR a (by simp[z]);rw[h] at this;cases this)]
  exact A.same a o h
 ·obtain⟨vs,q⟩:=A.live i a ha
  exact⟨vs,s _ _ (by rw[ZS (fun z=>A.disjR i a ha (by simp[z]))];exact q)⟩
 ·refine(A.slot i).mono (fun a vs n r=>⟨(r.minus (fun z=>n.2.1 (by simp[z]))).same s,n.1,by simp,n.2.2⟩) (fun a vs r=>s.im (r.minus hG)) fun a ha vs q=>s _ _ (by rw[ZS (fun z=>A.disjR i a ha (by simp[z]))];exact q)
end
noncomputable def pGo(f:PV->Rr PV):PV->List Int->Rr PV
 |x,[]=>f x
 |.lst xs,c::cs=>match ixN xs.length c with
  |some n=>(pGo f (xs.getD n .non) cs).bind fun z=>.ok (.lst (xs.set n z))
  |none=>.bad
 |.tup xs,c::cs=>match ixN xs.length c with
  |some n=>(pGo f (xs.getD n .non) cs).bind fun z=>.ok (.tup (xs.set n z))
  |none=>.bad
 |_,_::_=>.bad
noncomputable def AtP(K:W.Frag)(H:Hp):V->List Int->V->Prop
 |v,[],u=>u=v
 |v,c::cs,u=>∃a vs w,v=.ref a/\(SqL K H a vs\/SqT K H a vs)/\atI vs c=some w/\AtP K H w cs u
section
variable {K:W.Frag}{H:Hp}
theorem AtP.snoc{u:V}{c:Int}:∀{cs:List Int}{v:V},AtP K H v (cs++[c]) u->∃w,AtP K H v cs w/\AtP K H w [c] u
 |[],v,h=>⟨v,rfl,h⟩
 |_::cs,v,h=>by
  obtain⟨a,vs,w,rfl,h1,h2,h3⟩:=h
  obtain⟨z,h4,h5⟩:=AtP.snoc h3
  exact⟨z,⟨a,vs,w,rfl,h1,h2,h4⟩,h5⟩
theorem Trees.part:∀{xs:List PV}{vs:List V}{G:List Addr}{j:Nat}{y:PV},Trees K H xs vs G->xs[j]?=some y->∃v G2,vs[j]?=some v/\Jf K H y v G2/\(∀a∈G2,a∈G) /\
  ∀(p:Addr) (us:List V) (o:HO) (y':PV) (G3:List Addr),H p=some (.lst us)->p∈G2->(∀a∈G3,a∈G2)->Jf K (upd H p o) y' v G3->∃G',(∀a∈G',a∈G)/\Trees K (upd H p o) (xs.set j y') vs G'
 |[],_,_,_,_,_,e=>by simp at e
 |x::xs,_,_,0,y,h,e=>by
  obtain⟨w,r,G1,G2,rfl,h1,h2,h3,rfl⟩:=h
  simp at e;subst e
  refine⟨w,G1,rfl,h1,fun a ha=>by simp[ha],fun p us o y' G3 hp hpG hs ht=>⟨G3++G2,fun a ha=>?_,w,r,G3,G2,rfl,ht,Trees.put hp (h3 p hpG) h2,fun a ha=>h3 a (hs a ha),rfl⟩⟩
  rcases Zti.mp ha with z|z
  ·simp[hs a z]
  ·simp[z]
 |x::xs,_,_,j+1,y,h,e=>by
  obtain⟨w,r,G1,G2,rfl,h1,h2,h3,rfl⟩:=h
  obtain⟨v,G4,e1,e2,e3,e4⟩:=Trees.part h2 (j:=j) (by simpa using e)
  refine⟨v,G4,by simpa using e1,e2,fun a ha=>by simp[e3 a ha],fun p us o y' G3 hp hpG hs ht=>?_⟩
  obtain⟨G',c2,c3⟩:=e4 p us o y' G3 hp hpG hs ht
  refine⟨G1++G',fun a ha=>?_,w,r,G1,G',rfl,Jf.put hp (fun z=>h3 p z (e3 p hpG)) h1,c3,fun a ha z=>h3 a ha (c2 a z),rfl⟩
  rcases Zti.mp ha with z|z
  ·simp[z]
  ·simp[c2 a z]
theorem Jf.chgP{j:Int}:∀{cs:List Int}{x x':PV}{v:V}{G:List Addr},Jf K H x v G->pGo (fun z=>pApp z (.int j)) x cs=.ok x' ->
  ∃p us,AtP K H v cs (.ref p)/\H p=some (.lst us)/\us.length<sizeLine/\p∈G/\∃G',(∀a∈G',a∈G)/\Jf K (upd H p (.lst (us++[.int j]))) x' v G'
 |[],x,x',v,G,h,e=>by
  have d:Dn (pApp x (.int j)) (fun y=>y=x') (fun _=>False):=by
   have e:pApp x (.int j)=.ok x':=by cases x<;>exact e
   rw[e];exact rfl
  obtain⟨ys,rfl,hlen,rfl⟩:=Dn.pApp d
  obtain⟨p,us,G4,rfl,hH,hu,hn,rfl⟩:=h
  refine⟨p,us,rfl,hH,by rw[hu.length];exact Ztm hlen (by decide),by simp,p::G4,fun b hb=>hb,p,_,G4,rfl,ZD, ?_,hn,rfl⟩
  have:=Trees.append (Trees.put (o:=.lst (us++[.int j])) hH hn hu) (Trees.one (x:=.int j) (v:=.int j) (F:=[]) ⟨rfl,rfl⟩) (by simp)
  rw[ZtG] at this
  exact this
 |c::cs,.lst xs,x',v,G,h,e=>by
  simp only[pGo] at e
  cases en:ixN xs.length c with
  |none=>rw[en] at e;cases e
  |some n =>
   rw[en] at e
   dsimp only at e
   cases ez:pGo (fun z=>pApp z (.int j)) (xs.getD n .non) cs with
   |bad=>rw[ez] at e;cases e
   |exc q=>rw[ez] at e;cases e
   |ok z =>
    rw[ez] at e
    cases e
    have hnl:=(ZaL en).2.1
    have hx:xs[n]?=some (xs.getD n .non):=by rw[Ztf,Zth hnl];rfl
    obtain⟨a,vs,G1,rfl,ha,ht,hna,rfl⟩:=h
    obtain⟨w,G2,e1,e2,e3,e4⟩:=ht.part hx
    obtain⟨p,us,p1,p2,p3,p4,G3,p5,p6⟩:=Jf.chgP e2 ez
    obtain⟨G',c2,c3⟩:=e4 p us _ _ G3 p2 p4 p5 p6
    refine⟨p,us,⟨a,vs,w,rfl,.inl (SqL.of ha),by unfold atI;rw[ht.length,en];exact e1,p1⟩,p2,p3,by simp[e3 p p4],a::G',fun b hb=>?_,a,vs,G',rfl, ?_,c3,fun z=>hna (c2 a z),rfl⟩
    ·rcases Zts.mp hb with rfl|hb
     ·simp
     ·simp[c2 b hb]
    ·rw[Z1 (fun z=>hna (by rw[z];exact e3 p p4))];exact ha
 |c::cs,.tup xs,x',v,G,h,e=>by
  simp only[pGo] at e
  cases en:ixN xs.length c with
  |none=>rw[en] at e;cases e
  |some n =>
   rw[en] at e
   dsimp only at e
   cases ez:pGo (fun z=>pApp z (.int j)) (xs.getD n .non) cs with
   |bad=>rw[ez] at e;cases e
   |exc q=>rw[ez] at e;cases e
   |ok z =>
    rw[ez] at e
    cases e
    have hnl:=(ZaL en).2.1
    have hx:xs[n]?=some (xs.getD n .non):=by rw[Ztf,Zth hnl];rfl
    obtain⟨a,vs,rfl,ha,ht⟩:=h
    obtain⟨w,G2,e1,e2,e3,e4⟩:=ht.part hx
    obtain⟨p,us,p1,p2,p3,p4,G3,p5,p6⟩:=Jf.chgP e2 ez
    obtain⟨G',c2,c3⟩:=e4 p us _ _ G3 p2 p4 p5 p6
    exact⟨p,us,⟨a,vs,w,rfl,.inr ha.sqT,by unfold atI;rw[ht.length,en];exact e1,p1⟩,p2,p3,e3 p p4,G',c2,a,vs,rfl,SqT.put p2 ha,c3⟩
 |_::_,.non,_,_,_,_,e=>by cases e
 |_::_,.bl _,_,_,_,_,e=>by cases e
 |_::_,.int _,_,_,_,_,e=>by cases e
 |_::_,.str _,_,_,_,_,e=>by cases e
 |_::_,.exc _,_,_,_,_,e=>by cases e
 |_::_,.exa _ _,_,_,_,_,e=>by cases e
 |_::_,.box _ _ _,_,_,_,_,e=>by cases e
 |_::_,.fz _,_,_,_,_,e=>by cases e
theorem Zam(x y:PV)(e:PX):pApp x y≠.exc e:=by
 unfold pApp
 intro h
 split at h
 ·split at h<;>cases h
 ·cases h
theorem Q5{f:PV->Rr PV}(hf:∀x e,f x≠.exc e):∀(cs:List Int) (x:PV) (e:PX),pGo f x cs≠.exc e
 |[],x,e=>by
  have:pGo f x []=f x:=by cases x<;>rfl
  rw[this];exact hf x e
 |c::cs,x,e=>by
  intro h
  cases x with
  |lst xs =>
   simp only[pGo] at h
   split at h
   ·rename_i n _
    cases ez:pGo f (xs.getD n .non) cs with
    |ok z=>rw[ez] at h;cases h
    |bad=>rw[ez] at h;cases h
    |exc q=>exact Q5 hf cs _ _ ez
   ·cases h
  |tup xs =>
   simp only[pGo] at h
   split at h
   ·rename_i n _
    cases ez:pGo f (xs.getD n .non) cs with
    |ok z=>rw[ez] at h;cases h
    |bad=>rw[ez] at h;cases h
    |exc q=>exact Q5 hf cs _ _ ez
   ·cases h
  |_=>cases h
def DPa(K:W.Frag)(Γ:List Md)(i:Nat)(tp:TE)(ix:List PV->Rr (List Int)):Prop:=(∀ρ e,ix ρ≠.exc e) /\
 ∀(B:Addr->Prop) (H0 H:Hp) (σ:St) (ρ:List PV) (F:Nat->List Addr) (R:List Addr) (cs:List Int) (v u:V) (Q:VK),Ag K B H0 H σ Γ ρ F R->ix ρ=.ok cs->σ[i]?=some (some v)->AtP K H v cs u->Q u H->tp σ H Q
variable {Γ Γ1 Γ2:List Md}{i:Nat}{tp:TE}{ix:List PV->Rr (List Int)}{EX:PX->Hp->Prop}{k:Kd}
theorem ZiY:DPa K Γ i (Zab i) (fun _=>.ok []):=⟨fun ρ e h=>(by cases h),fun B H0 H σ ρ F R cs v u Q A e hv h q=>by
 cases e
 cases h
 exact⟨v,hv,q⟩⟩
theorem Zh8{w u:V}{c:Int}{Q:VK}(h:AtP K H w [c] u)(q:Q u H):rIx K w (.int c) H Q:=by
 obtain⟨a,vs,z,rfl,hs,ha,rfl⟩:=h
 rcases hs with hs|hs
 ·exact .inl ⟨a,vs,c,u,rfl,rfl,hs,ha,q⟩
 ·exact .inr (.inl ⟨a,vs,c,u,rfl,rfl,hs,ha,q⟩)
theorem ZfK{c:Int}(h:DPa K Γ i tp ix):DPa K Γ i (tOp (rIx K) tp (tC (.int c))) (fun ρ=>(ix ρ).bind fun cs=>.ok (cs++[c])):=by
 refine⟨fun ρ e z=>?_,fun B H0 H σ ρ F R cs v u Q A e hv ha q=>?_⟩
 ·dsimp only at z
  cases ec:ix ρ with
  |bad=>rw[ec] at z;cases z
  |exc q=>exact h.1 ρ q ec
  |ok ds=>rw[ec] at z;cases z
 dsimp only at e
 cases ec:ix ρ with
 |bad=>rw[ec] at e;cases e
 |exc q=>rw[ec] at e;cases e
 |ok ds =>
  rw[ec] at e
  cases e
  obtain⟨w,h1,h2⟩:=ha.snoc
  exact h.2 B H0 H σ ρ F R ds v w _ A ec hv h1 (Zh8 h2 q)
theorem ZiZ{l:Nat}{m:Md}(hl:Γ[l]?=some m)(hm:m≠.U)(h:DPa K Γ i tp ix):DPa K Γ i (tOp (rIx K) tp (Zab l)) (fun ρ=>(ix ρ).bind fun cs=>(asI (gv l ρ)).bind fun c=>.ok (cs++[c])):=by
 refine⟨fun ρ e z=>?_,fun B H0 H σ ρ F R cs v u Q A e hv ha q=>?_⟩
 ·dsimp only at z
  cases ec:ix ρ with
  |bad=>rw[ec] at z;cases z
  |exc q=>exact h.1 ρ q ec
  |ok ds =>
   rw[ec] at z
   cases eg:gv l ρ with
   |int c=>rw[eg] at z;cases z
   |_=>rw[eg] at z;cases z
 dsimp only at e
 cases ec:ix ρ with
 |bad=>rw[ec] at e;cases e
 |exc q=>rw[ec] at e;cases e
 |ok ds =>
  rw[ec] at e
  obtain⟨z,z1,z2⟩:=A.getA hl hm
  cases eg:gv l ρ with
  |int c =>
   rw[eg] at e
   cases e
   obtain⟨w,h1,h2⟩:=ha.snoc
   rw[show ρ.getD l .non=.int c from eg] at z2
   cases z2
   exact h.2 B H0 H σ ρ F R ds v w _ A ec hv h1 ⟨_,z1,Zh8 h2 q⟩
  |_=>rw[eg] at e;cases e
theorem Zel{j:Int}(hm:Γ[i]?=some .O)(hp:DPa K Γ i tp ix):DS K EX Γ ⟨Γ,Γ1,Γ2,k⟩ (Zbf (tBM K "list" Qw tp (V6 (tC (.int j)) ZbT)))
  (fun ρ=>(ix ρ).thenS fun cs=>(pGo (fun z=>pApp z (.int j)) (gv i ρ) cs).thenS fun w=>.next (ρ.set i w)):=fun B H0 H σ ρ F D A d=>by
 have d1:=d.thenS
 cases ec:ix ρ with
 |bad=>rw[ec] at d1;exact d1.elim
 |exc q=>exact(hp.1 ρ q ec).elim
 |ok cs =>
  rw[ec] at d1
  have d2:=DnS.thenS d1
  obtain⟨v,h1,h2⟩:=A.getO hm
  cases ep:pGo (fun z=>pApp z (.int j)) (gv i ρ) cs with
  |bad=>rw[ep] at d2;exact d2.elim
  |exc q=>exact(Q5 (fun x e=>Zam _ _ e) _ _ _ ep).elim
  |ok w =>
   rw[ep] at d2
   obtain⟨p,us,p1,p2,p3,c1,G',c2,c3⟩:=Jf.chgP h2 ep
   refine hp.2 B H0 H σ ρ F [] cs v (.ref p) _ A ec h1 p1 ⟨.inl ⟨rfl,_,SqL.of p2⟩,p,us,.int j,rfl,rfl,p2,p3, ?_⟩
   exact d2 σ _ (Vo F i G') (QI (Z5.refl _) (fun _ _ h=>h) c1 fun b hb=>.inr ⟨i,c2 b hb⟩) (Ag.chg (G:=[]) A hm c1 (fun b hb=>.inl (c2 b hb)) (by simp) ⟨_,h1,c3⟩)
end
noncomputable def frz(m:Md):Md:=if m=.O\/m=.T then .S else m
section
variable {K:W.Frag}{B:Addr->Prop}{EX:PX->Hp->Prop}{H0 H H':Hp}{σ:St}{Γ:List Md}{ρ:List PV}{F:Nat->List Addr}{R:List Addr}{tt:TT}{c:List PV->Rr Bool}{te:TE}{fe:List PV->Rr PV}
theorem Ag.freezeAll(A:Ag K B H0 H σ Γ ρ F R):Ag K B H0 H σ (Γ.map frz) ρ (fun _=>[]) R:=by
 refine⟨A.same,A.own,by simp,A.youngR,by simp,A.liveR,by simp,by simp,by simp[A.lenS],by simp[A.lenR],fun i=>?_⟩
 have sl:=A.slot i
 have e:(Γ.map frz).getD i .U=frz (Γ.getD i .U):=by
  rw[Ztf,Ztf,Zt2]
  cases Γ[i]?<;>rfl
 rw[e]
 have up:∀{a},NO B F R a->NO B (fun _=>[]) R a:=fun {a} s=>⟨s.1,s.2.1,by simp⟩
 have ow:∀a∈F i,NO B (fun _=>[]) R a:=fun a ha=>⟨A.own a (A.young i a ha),A.disjR i a ha,by simp⟩
 cases hm:Γ.getD i .U with
 |U=>exact rfl
 |P=>rw[hm] at sl;exact⟨rfl,sl.2⟩
 |S =>
  rw[hm] at sl
  obtain⟨_,v,h1,h2⟩:=sl
  exact⟨rfl,v,h1,Rep.mono (fun a vs s r=>⟨r,up s⟩) (fun a vs r=>r) h2⟩
 |T =>
  rw[hm] at sl
  obtain⟨a,vs,xs,h1,h2,h3,h4,h5⟩:=sl
  refine⟨rfl,.ref a,h1, ?_⟩
  rw[h2]
  exact⟨a,vs,rfl,.inl ⟨.inl h3,ow a (by rw[h5];simp)⟩,Reps.mono (fun a vs s r=>⟨r,up s⟩) (fun a vs r=>r) h4⟩
 |O =>
  rw[hm] at sl
  obtain⟨v,h1,h2⟩:=sl
  exact⟨rfl,v,h1,h2.rep ow⟩
theorem Zc1{i:Nat}(hm:(Γ.map frz)[i]?=some .S)(ht:DT K EX (Γ.map frz++[.S]) (Γ.map frz++[.S]) tt c)(he:DE K EX (Γ.map frz++[.S]) (Γ.map frz++[.S]) .F te fe) :
  DE K EX Γ Γ .F (ZcL (ZgZ K (Zab i)) tB1 tt te) (fun ρ=>(asL (gv i ρ)).bind fun xs=>(lenM xs).bind fun _=>(Zd0 (fun x=>(c (ρ++[x])).bind fun b=>if b=true then (fe (ρ++[x])).bind fun y=>.ok (some y) else .ok none) xs).bind fun ys=>.ok (.lst ys)):=fun B H0 H σ ρ F R Q A d=>by
 obtain⟨xs,exs,d⟩:=Dn.asL d.bind
 obtain⟨hlen,d⟩:=Dn.lenM d.bind
 have AF:=A.freezeAll
 obtain⟨v,h1,h2⟩:=AF.getS hm
 rw[show ρ.getD i .non=.lst xs from exs] at h2
 obtain⟨a,vs,rfl,hn,hr⟩:=id h2
 generalize hgx:(fun x=>(c (ρ++[x])).bind fun b=>if b=true then (fe (ρ++[x])).bind fun y=>Rr.ok (some y) else .ok none)=gx at d
 have l1:=AF.lenS
 have l2:=AF.lenR
 have hl:vs.length=xs.length:=hr.length
 refine⟨.ref a,h1,a,rfl,⟨vs,Uc hn⟩, ?_⟩
 refine⟨fun k m ys H2=>∃zs G,m=xs.length-k/\k<=xs.length/\ys.length<=k/\Z5 H H2/\Trees K H2 zs ys G/\(∀b∈G,H b=none) /\
  Dn ((Zd0 gx (xs.drop k)).bind fun ys'=>.ok (.lst (zs++ys'))) (fun x=>∀v H',Z5 H H'->Res K B H0 H σ Γ ρ F R .F x v H'->Q v H') (fun e=>∀H',Z5 H0 H'->EX e H'),
  ⟨xs.length,[],[],by simp,Zui _,Zto _,Z5.refl _,⟨rfl,rfl⟩,by simp,by simpa using d⟩, ?_⟩
 rintro k m ys H2 ⟨zs,G,rfl,hk,hyl,s2,tr,fr,dn⟩
 have hsq:SqL K H2 a vs:=Uc (S:=fun _=>True) (hn.elim (fun z=>.inl ⟨z.1.same s2,trivial⟩) .inr)
 refine⟨Qg (by lia), ?_⟩
 cases hx:xs[k]? with
 |none =>
  have hge:=Zt8.mp hx
  refine .inl ⟨⟨vs,hsq,by lia⟩,fun p hp=>?_⟩
  have hd:xs.drop k=[]:=ZtP hge
  rw[hd] at dn
  have dn':∀v H',Z5 H H'->Res K B H0 H σ Γ ρ F R .F (.lst (zs++[])) v H'->Q v H':=dn
  rw[ZtG] at dn'
  exact dn' _ _ (s2.trans (Z5.new hp)) (Res.newF s2 (fun _ _ h=>h) tr (fun b hb=>⟨fun z=>(by
   obtain⟨us,q⟩:=A.liveR b z
   rw[fr b hb] at q;cases q),.inl (fr b hb)⟩) (A.more s2 fr tr.alive) hp)
 |some x =>
  have hlt:k<xs.length:=(Ztk.mp hx).1
  have hdx:xs.drop k=x::xs.drop (k+1):=by
   rw[Ztv hlt]
   rw[Zth hlt] at hx;cases hx;rfl
  rw[hdx] at dn
  simp only[Zd0,Rr.assoc] at dn
  rw[<- hgx] at dn
  simp only[Rr.assoc] at dn
  rw[hgx] at dn
  obtain⟨w,hvk,hrep⟩:=hr.get hx
  refine .inr ⟨⟨vs,w,hsq,hvk⟩,fun ys' H'=>∃zs G,ys'.length<=k+1/\Z5 H H'/\Trees K H' zs ys' G/\(∀b∈G,H b=none) /\
   Dn ((Zd0 gx (xs.drop (k+1))).bind fun ys'=>.ok (.lst (zs++ys'))) (fun x=>∀v H',Z5 H H'->Res K B H0 H σ Γ ρ F R .F x v H'->Q v H') (fun e=>∀H',Z5 H0 H'->EX e H'),
   fun ys' H' ⟨zs,G,a1,a2,a3,a4,a5⟩=>⟨xs.length-(k+1),by lia,zs,G,rfl,hlt,a1,a2,a3,a4,a5⟩,fun v H3 ⟨e3,yv⟩=>?_⟩
  subst e3
  have:=yv vs hsq
  rw[hvk] at this
  cases this
  have AG:=AF.more s2 fr tr.alive
  have rx:Rep K H3 (NO B (fun _=>[]) (G++R)) x w:=Rep.mono (fun b us s r=>⟨r.same s2,s.1,fun z=>by
   rcases Zti.mp z with z|z
   ·rcases r with r|⟨o,r⟩
    ·rw[fr b z] at r;cases r
    ·rw[fr b z] at r;cases r
   ·exact s.2.1 z,s.2.2⟩) (fun b us r=>s2.im r) hrep
  refine⟨[w],rfl, ?_⟩
  have A3:=AG.push rx
  refine ht B H0 H3 _ _ _ (G++R) _ A3 (dn.bind.imp (fun b _ dn H4 F4 s4 f4 A4=>?_) fun e q=>q)
  cases b with
  |false =>
   rw[if_neg Bool.false_ne_true] at dn ⊢
   simp only[Rr.bind_ok,ZuD] at dn
   refine⟨zs,G,by lia,s2.trans s4,tr.same s4,fr, ?_⟩
   simp only[Rr.assoc,Rr.bind_ok,Zu4] at dn
   exact dn
  |true =>
   rw[if_pos rfl] at dn ⊢
   simp only[Rr.assoc] at dn
   refine he B H0 H4 _ _ F4 (G++R) _ A4 (dn.bind.imp (fun z _ dn w' H5 s5 r5=>?_) fun e q=>q)
   obtain⟨F5,f5,G5,t5,o5,A5⟩:=r5
   refine⟨zs++[z],G++G5,by simp;lia,(s2.trans s4).trans s5,Trees.append ((tr.same s4).same s5) (Trees.one t5) (fun b hb z=>(o5 b z).1 (Ztj _ hb)),fun b hb=>?_, ?_⟩
   ·rcases Zti.mp hb with z|z
    ·exact fr b z
    ·rcases (o5 b z).2 with q|⟨j,q⟩
     ·exact(s2.trans s4).free q
     ·exact absurd (f4 j b q) (by simp)
   ·simp only[Rr.assoc,Rr.bind_ok,ZuD,ZtI,Zuv] at dn ⊢
    exact dn
end
end L2
namespace HL
open PySem PyProof.Rows
section
open PySem.SeqAt
open PySem.AutoSeq1 (wpAny_loadPart')
open PySem.MeetsSeq PySem.MeetsSeq2 PySem.MeetsSeq3 SeqRoads2
end
section
end
end HL
namespace L2
open PySem PySem.Spec PyProof.Rows
section
variable {K:W.Frag}{B:Addr->Prop}{H0 H:Hp}{σ:St}{Γ:List Md}{ρ:List PV}{F:Nat->List Addr}{R:List Addr}
theorem Ag.setU{j:Nat}{o:Option V}{y:PV}(A:Ag K B H0 H σ Γ ρ F R)(h:Γ[j]?=some .U):Ag K B H0 H (σ.set j o) Γ (ρ.set j y) F R:=by
 refine⟨A.same,A.own,A.young,A.youngR,A.live,A.liveR,A.disj,A.disjR,by simp[A.lenS],by simp[A.lenR],fun i=>?_⟩
 have sl:=A.slot i
 by_cases e:i=j
 ·subst e
  have hU:Γ.getD i .U=.U:=by rw[Ztf,h];rfl
  rw[hU] at sl ⊢
  exact sl
 ·rw[Ztl (fun z=>e z.symm),Ztf (l:=ρ.set j y),Ztl (fun z=>e z.symm),<- Ztf]
  exact sl
theorem Ag.chgR{a:Addr}{vs:List V}(A:Ag K B H0 H σ Γ ρ F R)(ha:a∈R):Ag K B H0 (upd H a (.lst vs)) σ Γ ρ F R:=by
 obtain⟨us,hH⟩:=A.liveR a ha
 refine⟨fun b o e=>?_,A.own,A.young,A.youngR,fun i b hb=>?_,fun b hb=>?_,A.disj,A.disjR,A.lenS,A.lenR,fun i=>?_⟩
 ·have:b≠a:=fun z=>by have:=A.youngR a ha;rw[<- z,e] at this;cases this
  rw[Z1 this];exact A.same b o e
 ·have:b≠a:=fun z=>A.disjR i b hb (z▸ha)
  rw[Z1 this];exact A.live i b hb
 ·by_cases e:b=a
  ·subst e;exact⟨⟨.lst vs,trivial⟩,ZD⟩
  ·rw[Z1 e];exact A.liveR b hb
 ·refine(A.slot i).mono (fun b us s r=>⟨?_,s⟩) (fun b us r=>Im.putL hH r) fun b hb us q=>?_
  ·have hne:b≠a:=fun z=>s.2.1 (z▸ha)
   rcases r with r|⟨o',r⟩
   ·exact .inl (by rw[Z1 hne];exact r)
   ·exact .inr ⟨o',by rw[Z1 hne];exact r⟩
  ·have hne:b≠a:=fun z=>A.disjR i b hb (z▸ha)
   rw[Z1 hne];exact q
theorem Ag.showS{j:Nat}{v:V}(A:Ag K B H0 H σ Γ ρ (fun _=>[]) [])(h:Γ[j]?=some .U)(hs:σ[j]?=some (some v))(hr:Rep K H (NO B (fun _=>[]) []) (gv j ρ) v):Ag K B H0 H σ (Γ.set j .S) ρ (fun _=>[]) []:=by
 have e:Vo (fun _=>([]:List Addr)) j []=fun _=>[]:=by
  funext i
  unfold Vo
  split<;>rfl
 have:=A.turn (G:=[]) (m':=.S) h (by simp) (by rw[e];exact⟨rfl,v,hs,hr⟩)
 rw[e] at this
 exact this
end
def G0(K:W.Frag)(B:Addr->Prop)(H0 H:Hp)(σ:St)(Γb:List Md)(ρ:List PV)(L v:Nat)(a:Addr)(vs:List V)(xs:List PV)(G Gx:List Addr):Prop:=
 Ag K B H0 H σ Γb ρ (fun _=>[]) (a::(G++Gx))/\σ[L]?=some (some (.ref a))/\gv L ρ=.lst xs/\H a=some (.lst vs)/\Trees K H xs vs G/\a ∉ G/\∃w,σ[v]?=some (some w)/\vs[0]?=some w/\xs[0]?=some (gv v ρ)
def GX(K:W.Frag)(H:Hp)(σ:St)(ρ:List PV)(x:Nat)(a:Addr)(G Gx:List Addr):Prop:=
 ∃u,σ[x]?=some (some u)/\Jf K H (gv x ρ) u Gx/\∀b∈Gx,b≠a/\b ∉ G
section
variable {K:W.Frag}{B:Addr->Prop}{EX:PX->Hp->Prop}{H0 H H':Hp}{σ:St}{Γ Γb Γ0 Γf Γn Γ1 Γ2:List Md}{ρ:List PV}{F:Nat->List Addr}{L v x:Nat}{a:Addr}{vs:List V}{xs:List PV}{G Gx:List Addr}
theorem G0.same(g:G0 K B H0 H σ Γb ρ L v a vs xs G Gx)(s:Z5 H H'):G0 K B H0 H' σ Γb ρ L v a vs xs G Gx:=⟨g.1.grow s,g.2.1,g.2.2.1,s _ _ g.2.2.2.1,g.2.2.2.2.1.same s,g.2.2.2.2.2.1,g.2.2.2.2.2.2⟩
theorem GX.same(g:GX K H σ ρ x a G Gx)(s:Z5 H H'):GX K H' σ ρ x a G Gx:=let ⟨u,h1,h2,h3⟩:=g;⟨u,h1,h2.same s,h3⟩
theorem G0.no(g:G0 K B H0 H σ Γb ρ L v a vs xs G Gx):∀b∈a::(G++Gx),NO B (fun _=>[]) [] b:=fun b hb=>⟨g.1.own b (g.1.youngR b hb),by simp,by simp⟩
theorem G0.show0(g:G0 K B H0 H σ Γb ρ L v a vs xs G Gx)(hL:Γb[L]?=some .U)(hv:Γb[v]?=some .U)(hne:L≠v):Ag K B H0 H σ ((Γb.set L .S).set v .S) ρ (fun _=>[]) []:=by
 have no:=g.no
 obtain⟨A,h1,h2,h3,h4,h5,w,h6,h7,h8⟩:=g
 have A0:Ag K B H0 H σ Γb ρ (fun _=>[]) []:=A.less (by simp)
 have r4:Reps K H (NO B (fun _=>[]) []) xs vs:=h4.reps fun b hb=>no b (by simp[hb])
 have A1:=A0.showS hL h1 (by rw[h2];exact⟨a,vs,rfl,.inl ⟨.inl h3,no a (by simp)⟩,r4⟩)
 obtain⟨w',e1,e2⟩:=r4.get h8
 rw[h7] at e1
 cases e1
 exact A1.showS (by rw[Ztl hne];exact hv) h6 e2
theorem G0.showX{u:V}(g:G0 K B H0 H σ Γb ρ L v a vs xs G Gx)(hL:Γb[L]?=some .U)(hv:Γb[v]?=some .U)(hx:Γb[x]?=some .U)(hne:L≠v)(hLx:L≠x)(hvx:v≠x)(hu:σ[x]?=some (some u))(hr:Rep K H (NO B (fun _=>[]) []) (gv x ρ) u):Ag K B H0 H σ (((Γb.set L .S).set v .S).set x .S) ρ (fun _=>[]) []:=
 (g.show0 hL hv hne).showS (by rw[Ztl hvx,Ztl hLx];exact hx) hu hr
theorem JT{i j:Nat}{y:PV}(h:i≠j):gv i (ρ.set j y)=gv i ρ:=by
 unfold gv
 rw[Ztf,Ztl (fun z=>h z.symm),<- Ztf]
theorem Vs{j:Nat}{y:PV}(h:j<ρ.length):gv j (ρ.set j y)=y:=by
 unfold gv
 rw[Ztf,Ztq h];rfl
theorem ZfI{te0 te1 te3:TE}{c:TT}{f0 f1 f3:List PV->Rr PV}{fc:List PV->Rr Bool}(hv:Γ[v]?=some .O)(hb:UQ Γ Γb=true)(hno:ZiC Γb=true)(hL:Γb[L]?=some .U)(hvU:Γb[v]?=some .U)(hx:Γb[x]?=some .U)(hLv:L≠v)(hLx:L≠x)(hvx:v≠x)(e0:Γ0=(Γb.set L .S).set v .S)(ef:Γf=Γ0.set x .S)(h0:DE K EX Γ0 Γ0 .F te0 f0)(hc:DT K EX Γf Γf c fc)(h1:DE K EX Γf Γf .A te1 f1)(h3:DE K EX Γf Γf .F te3 f3) :
  DS K EX Γ ⟨Γn,Γ1,Γ2,.F⟩
   (Zhy (Ze6 (Zlc (V6 (Zab v) ZbT)) (QH L)) (Zhy (Ze6 te0 (QH x)) (Zhy (ZcJ c (Zhy (Zbf te1) (Zhy (Zbf (tBM K "list" Qw (Zab L) (V6 (Zab x) ZbT))) (Ze6 te3 (QH x))))) (Zj5 (Zab L)))))
   (fun ρ=>(RS.next (ρ.set L (.lst [gv v ρ]))).seq fun ρ=>((f0 ρ).thenS fun y=>.next (ρ.set x y)).seq fun ρ=>(Js fc (fun ρ=>((f1 ρ).thenS fun _=>.next ρ).seq fun ρ=>((asL (gv L ρ)).thenS fun xs=>(pApp (.lst xs) (gv x ρ)).thenS fun z=>.next (ρ.set L z)).seq fun ρ=>(f3 ρ).thenS fun y=>.next (ρ.set x y)) ρ).seq fun ρ=>.ret (gv L ρ)):=fun B H0 H σ ρ F D A d=>by
 subst e0 ef
 obtain⟨w,hw,htw⟩:=A.getO hv
 obtain⟨F',fF,Ab⟩:=A.weak hb
 have hF:=Zch hno Ab
 have hbU:∀{j:Nat},Γb[j]?=some .U->j<ρ.length:=fun {j} h=>by rw[Ab.lenR];exact(Ztk.mp h).1
 have hσ:σ.length=ρ.length:=by rw[A.lenS,A.lenR]
 have Abv:Ag K B H0 H σ Γb ρ (fun _=>[]) (F v):=by
  have AM:=A.move hv
  have hb2:UQ (Γ.set v .U) Γb=true:=by
   have:=ZaH hb
   have key:∀(l m:List Md),UQ l m=true->∀i,m[i]?=some .U->UQ (l.set i .U) m=true:=by
    intro l
    induction l with
    |nil=>intro m h i _;simpa using h
    |cons q l ih =>
     intro m h i hi
     cases m with
     |nil=>cases h
     |cons q' m =>
      simp only[UQ,Bool.and_eq_true] at h
      cases i with
      |zero =>
       simp at hi
       subst hi
       simp[UQ,mle,h.2]
      |succ i=>simp only[ZtM,UQ,h.1,Bool.true_and];exact ih m h.2 i (by simpa using hi)
   exact key _ _ hb v hvU
  obtain⟨F2,f2,A2⟩:=AM.weak hb2
  have hF2:=Zch hno A2
  have eF2:F2=fun _=>[]:=funext hF2
  rw[eF2] at A2
  exact A2.less (by simp)
 refine⟨w,hw,(show 1<=sizeLine by decide),fun p hp=>?_⟩
 have hpv:p ∉ F v:=fun z=>by obtain⟨us,q⟩:=A.live v p z;rw[hp] at q;cases q
 have s1:Z5 H (upd H p (.lst [w])):=Z5.new hp
 have g1:G0 K B H0 (upd H p (.lst [w])) (σ.set L (some (.ref p))) Γb (ρ.set L (.lst [gv v ρ])) L v p [w] [gv v ρ] (F v) []:=by
  refine⟨?_,by rw[Ztq (by rw[hσ];exact hbU hL)],Vs (hbU hL),ZD,Trees.one (htw.same s1),hpv,w, ?_,rfl, ?_⟩
  ·have:=(Abv.more (G:=[p]) s1 (by simpa using hp) (by intro b hb;rw[Zt0.mp hb];exact⟨⟨.lst [w],trivial⟩,ZD⟩)).setU (j:=L) (o:=some (.ref p)) (y:=.lst [gv v ρ]) hL
   simpa using this
  ·rw[Ztl hLv];exact hw
  ·rw[JT (fun z=>hLv z.symm)];rfl
 show (Ze6 te0 (QH x)) _ (σ.set L (some (.ref p))) (upd H p (.lst [w]))
 replace d:DnS K B EX ⟨Γn,Γ1,Γ2,.F⟩ H0 H F D (((f0 (ρ.set L (.lst [gv v ρ]))).thenS fun y=>.next ((ρ.set L (.lst [gv v ρ])).set x y)).seq fun ρ=>(Js fc (fun ρ=>((f1 ρ).thenS fun _=>.next ρ).seq fun ρ=>((asL (gv L ρ)).thenS fun xs=>(pApp (.lst xs) (gv x ρ)).thenS fun z=>.next (ρ.set L z)).seq fun ρ=>(f3 ρ).thenS fun y=>.next (ρ.set x y)) ρ).seq fun ρ=>.ret (gv L ρ)):=d
 generalize hg:(fun(ρ:List PV)=>((f1 ρ).thenS fun _=>RS.next ρ).seq fun ρ=>((asL (gv L ρ)).thenS fun xs=>(pApp (.lst xs) (gv x ρ)).thenS fun z=>.next (ρ.set L z)).seq fun ρ=>(f3 ρ).thenS fun y=>.next (ρ.set x y))=g at d
 generalize hσ1:σ.set L (some (.ref p))=σ1 at g1 ⊢
 generalize hρ1:ρ.set L (.lst [gv v ρ])=ρ1 at g1 d
 generalize hH1:upd H p (.lst [w])=H1 at g1 ⊢
 have l1:σ1.length=ρ1.length:=by rw[g1.1.lenS,g1.1.lenR]
 have lb:∀{j:Nat},Γb[j]?=some .U->j<ρ1.length:=fun {j} h=>by rw[g1.1.lenR];exact(Ztk.mp h).1
 refine h0 B H0 H1 σ1 ρ1 (fun _=>[]) [] _ (g1.show0 hL hvU hLv) ?_
 cases ef0:f0 ρ1 with
 |bad=>rw[ef0] at d;exact d.elim
 |exc q=>rw[ef0] at d;exact d
 |ok y0 =>
  rw[ef0] at d
  replace d:DnS K B EX ⟨Γn,Γ1,Γ2,.F⟩ H0 H F D ((Js fc g (ρ1.set x y0)).seq fun ρ=>.ret (gv L ρ)):=d
  intro u0 H2 s2 r2
  obtain⟨F2,f2,Gu,t2,o2,A2⟩:=r2
  have fr:∀b∈Gu,H1 b=none:=fun b hb=>by
   rcases (o2 b hb).2 with z|⟨j,z⟩
   ·exact z
   ·simp at z
  show Zhy (ZcJ c _) _ D (σ1.set x (some u0)) H2
  have nx1:∀{b},H1 b=none->b ∉ p::(F v++[]):=fun {b} hn z=>by
   obtain⟨us,q⟩:=g1.1.liveR b z
   rw[hn] at q;cases q
  have g2:G0 K B H0 H2 (σ1.set x (some u0)) Γb (ρ1.set x y0) L v p [w] [gv v ρ] (F v) Gu:=by
   obtain⟨B1,B2,B3,B4,B5,B6,w',B7,B8,B9⟩:=g1
   refine⟨?_,by rw[Ztl (fun z=>hLx z.symm)];exact B2,by rw[JT hLx];exact B3,s2 _ _ B4,B5.same s2,B6,w',by rw[Ztl (fun z=>hvx z.symm)];exact B7,B8,by rw[JT hvx];exact B9⟩
   exact((B1.more s2 fr t2.alive).less (by
    intro b hb
    simp only[Zts,Zti,Zud,or_false] at hb ⊢
    rcases hb with z|z|z
    ·exact .inr (.inl z)
    ·exact .inr (.inr z)
    ·exact .inl z)).setU hx
  have gx2:GX K H2 (σ1.set x (some u0)) (ρ1.set x y0) x p (F v) Gu:=⟨u0,by rw[Ztq (by rw[l1];exact lb hx)],by rw[Vs (lb hx)];exact t2,fun b hb=>⟨fun z=>nx1 (fr b hb) (by simp[z]),fun z=>nx1 (fr b hb) (by simp[z])⟩⟩
  generalize hρ2:ρ1.set x y0=ρ2 at d g2 gx2
  generalize σ1.set x (some u0)=σ2 at g2 gx2 ⊢
  have ex:∃n,JB fc g n ρ2=some (Js fc g ρ2):=by
   by_cases hxx:∃n r,JB fc g n ρ2=some r
   ·obtain⟨n,r,e⟩:=hxx
    exact⟨n,by rw[Uw e];exact e⟩
   ·unfold Js at d
    rw[dif_neg hxx] at d
    exact d.elim
  obtain⟨n0,en0⟩:=ex
  generalize hr:Js fc g ρ2=r at en0 d
  refine⟨fun m σ' H'=>∃ρ' a vs xs G Gx,G0 K B H0 H' σ' Γb ρ' L v a vs xs G Gx/\GX K H' σ' ρ' x a G Gx/\JB fc g m ρ'=some r,⟨n0,ρ2,_,_,_,_,_,g2,gx2,en0⟩, ?_⟩
  rintro m σ' H' ⟨ρ',a,vs,xs,G,Gx,g0,gx,e⟩
  have lx:x<ρ'.length:=by rw[g0.1.lenR];exact(Ztk.mp hx).1
  have lL:L<ρ'.length:=by rw[g0.1.lenR];exact(Ztk.mp hL).1
  have lσ:σ'.length=ρ'.length:=by rw[g0.1.lenS,g0.1.lenR]
  have frozen:∀{H''},G0 K B H0 H'' σ' Γb ρ' L v a vs xs G Gx->GX K H'' σ' ρ' x a G Gx->Ag K B H0 H'' σ' (((Γb.set L .S).set v .S).set x .S) ρ' (fun _=>[]) []:=fun {H''} g0 gx=>by
   obtain⟨u,q1,q2,q3⟩:=gx
   exact g0.showX hL hvU hx hLv hLx hvx q1 (q2.rep fun b hb=>g0.no b (by simp[hb]))
  cases m with
  |zero=>cases e
  |succ m =>
   unfold JB at e
   refine hc B H0 H' σ' ρ' (fun _=>[]) [] _ (frozen g0 gx) ?_
   cases e1:fc ρ' with
   |bad=>rw[e1] at e;have e:RS.bad=r:=Option.some.inj e;rw[<- e] at d;exact d.elim
   |exc q=>rw[e1] at e;have e:RS.exc q=r:=Option.some.inj e;rw[<- e] at d;exact d
   |ok b =>
    rw[e1] at e
    refine fun H3 F3 s3 ff3 A3=>?_
    have g3:=g0.same s3
    have gx3:=gx.same s3
    cases b with
    |false =>
     have e:RS.next ρ'=r:=Option.some.inj e
     rw[<- e] at d
     replace d:∀v H',Z5 H0 H'->Zgq K B H0 .F (gv L ρ') v H'->D.rt v H':=d
     rw[if_neg Bool.false_ne_true]
     refine⟨.ref a,g3.2.1,d _ _ g3.1.same ?_⟩
     rw[g3.2.2.1]
     exact⟨a::G,⟨a,vs,G,rfl,g3.2.2.2.1,g3.2.2.2.2.1,g3.2.2.2.2.2.1,rfl⟩,fun b hb=>g3.1.youngR b (by
      rcases Zts.mp hb with z|z
      ·simp[z]
      ·simp[z])⟩
    |true =>
     rw[if_pos rfl]
     refine⟨fun σ3 H3=>∃ρ3 a vs xs G Gx,G0 K B H0 H3 σ3 Γb ρ3 L v a vs xs G Gx/\GX K H3 σ3 ρ3 x a G Gx/\JB fc g m ρ3=some r,fun σ3 H3 h=>⟨m,Zul _,h⟩, ?_⟩
     refine h1 B H0 H3 σ' ρ' (fun _=>[]) [] _ (frozen g3 gx3) ?_
     have eg:g ρ'=(((f1 ρ').thenS fun _=>RS.next ρ').seq fun ρ=>((asL (gv L ρ)).thenS fun xs=>(pApp (.lst xs) (gv x ρ)).thenS fun z=>.next (ρ.set L z)).seq fun ρ=>(f3 ρ).thenS fun y=>.next (ρ.set x y)):=by rw[<- hg]
     rw[eg] at e
     cases e2:f1 ρ' with
     |bad=>rw[e2] at e;have e:RS.bad=r:=Option.some.inj e;rw[<- e] at d;exact d.elim
     |exc q=>rw[e2] at e;have e:RS.exc q=r:=Option.some.inj e;rw[<- e] at d;exact d
     |ok y1 =>
      rw[e2] at e
      simp only[Rr.thenS_ok,RS.seq_next] at e
      rw[g3.2.2.1] at e
      simp only[Zc8,Rr.thenS_ok] at e
      intro v1 H4 s4 r4
      have g4:=g3.same s4
      have gx4:=gx3.same s4
      obtain⟨B1,B2,B3,B4,B5,B6,w',B7,B8,B9⟩:=id g4
      obtain⟨u,q1,q2,q3⟩:=gx4
      cases e3:pApp (.lst xs) (gv x ρ') with
      |bad=>rw[e3] at e;have e:RS.bad=r:=Option.some.inj e;rw[<- e] at d;exact d.elim
      |exc q=>exact absurd e3 (Zam _ _ _)
      |ok z =>
       rw[e3] at e
       have dz:Dn (pApp (.lst xs) (gv x ρ')) (fun y=>y=z) (fun _=>False):=by rw[e3];exact rfl
       obtain⟨ys,ey,hlen,rfl⟩:=Dn.pApp dz
       cases ey
       simp only[Rr.thenS_ok,RS.seq_next] at e
       refine⟨.ref a,B2,.inl ⟨rfl,_,SqL.of B4⟩,u,q1,a,vs,u,rfl,rfl,B4,by rw[B5.length];exact Ztm hlen (by decide), ?_⟩
       have nG:a ∉ Gx:=fun z=>(q3 a z).1 rfl
       have tr5:Trees K (upd H4 a (.lst (vs++[u]))) (xs++[gv x ρ']) (vs++[u]) (G++Gx):=Trees.append (B5.put B4 B6) (Trees.one (q2.put B4 nG)) (fun b hb z=>(q3 b z).2 hb)
       have tx5:Jf K (upd H4 a (.lst (vs++[u]))) (gv x ρ') u Gx:=q2.put B4 nG
       have A5:Ag K B H0 (upd H4 a (.lst (vs++[u]))) σ' Γb (ρ'.set L (.lst (xs++[gv x ρ']))) (fun _=>[]) (a::((G++Gx)++[])):=by
        have:=(B1.chgR (a:=a) (vs:=vs++[u]) (by simp)).setU (j:=L) (o:=some (.ref a)) (y:=.lst (xs++[gv x ρ'])) hL
        rw[show σ'.set L (some (.ref a))=σ' by
         refine Zuq fun i=>?_
         by_cases q:i=L
         ·subst q;rw[Ztq (by rw[lσ];exact lL),B2]
         ·rw[Ztl (fun z=>q z.symm)]] at this
        simpa using this
       generalize hρ5:ρ'.set L (.lst (xs++[gv x ρ']))=ρ5 at A5 e
       have gL5:gv L ρ5=.lst (xs++[gv x ρ']):=by rw[<- hρ5];exact Vs lL
       have gx5:gv x ρ5=gv x ρ':=by rw[<- hρ5];exact JT (fun z=>hLx z.symm)
       have gv5:gv v ρ5=gv v ρ':=by rw[<- hρ5];exact JT (fun z=>hLv z.symm)
       have nv:0<vs.length:=(Ztk.mp B8).1
       have nxs:0<xs.length:=(Ztk.mp B9).1
       have g5:G0 K B H0 (upd H4 a (.lst (vs++[u]))) σ' Γb ρ5 L v a (vs++[u]) (xs++[gv x ρ']) (G++Gx) []:=⟨A5,B2,gL5,ZD,tr5,fun z=>(Zti.mp z).elim B6 nG,w',B7,by rw[Ztn nv];exact B8,by rw[Ztn nxs,gv5];exact B9⟩
       generalize upd H4 a (.lst (vs++[u]))=H5 at g5 tx5 ⊢
       have l5x:x<ρ5.length:=by rw[<- hρ5,ZtH];exact lx
       have A5f:=g5.showX hL hvU hx hLv hLx hvx (u:=u) q1 (by rw[gx5];exact tx5.rep fun b hb=>g5.no b (by simp[hb]))
       refine h3 B H0 H5 σ' ρ5 (fun _=>[]) [] _ A5f ?_
       cases e4:f3 ρ5 with
       |bad=>rw[e4] at e;have e:RS.bad=r:=Option.some.inj e;rw[<- e] at d;exact d.elim
       |exc q=>rw[e4] at e;have e:RS.exc q=r:=Option.some.inj e;rw[<- e] at d;exact d
       |ok y3 =>
        rw[e4] at e
        intro u3 H6 s6 r6
        obtain⟨F6,f6,G6,t6,o6,A6⟩:=r6
        have fr6:∀b∈G6,H5 b=none:=fun b hb=>by
         rcases (o6 b hb).2 with z|⟨j,z⟩
         ·exact z
         ·simp at z
        have nx5:∀{b},H5 b=none->b ∉ a::((G++Gx)++[]):=fun {b} hn z=>by
         obtain⟨us,q⟩:=g5.1.liveR b z
         rw[hn] at q;cases q
        obtain⟨C1,C2,C3,C4,C5,C6,w2,C7,C8,C9⟩:=g5
        refine⟨ρ5.set x y3,a,vs++[u],xs++[gv x ρ'],G++Gx,G6,⟨?_,by rw[Ztl (fun z=>hLx z.symm)];exact C2,by rw[JT hLx];exact C3,s6 _ _ C4,C5.same s6,C6,w2,by rw[Ztl (fun z=>hvx z.symm)];exact C7,C8,by rw[JT hvx];exact C9⟩,⟨u3,by rw[Ztq (by rw[lσ];exact lx)],by rw[Vs l5x];exact t6,fun b hb=>⟨fun z=>nx5 (fr6 b hb) (by simp[z]),fun z=>nx5 (fr6 b hb) (by simp only[Zts,ZtG];exact .inr z)⟩⟩,e⟩
        exact((C1.more s6 fr6 t6.alive).less (by
         intro b hb
         simp only[Zts,Zti,Zud,or_false] at hb ⊢
         rcases hb with z|z|z
         ·exact .inr (.inl z)
         ·exact .inr (.inr z)
         ·exact .inl z)).setU hx
end
noncomputable def pExt(xs:List PV)(y:PV):Rr PV:=match y with
 |.lst ys=>if xs.length+ys.length<=1000000 then .ok (.lst (xs++ys)) else .bad
 |_=>.bad
theorem Zi9{xs ys:List PV}(h:xs.length+ys.length<=1000000):pExt xs (.lst ys)=.ok (.lst (xs++ys)):=if_pos h
theorem Dn.pExt{xs:List PV}{y:PV}{ok:PV->Prop}{ex:PX->Prop}(d:Dn (pExt xs y) ok ex):∃ys,y=.lst ys/\xs.length+ys.length<=1000000/\ok (.lst (xs++ys)):=by
 unfold L2.pExt at d
 cases y with
 |lst ys =>
  dsimp only at d
  by_cases h:xs.length+ys.length<=1000000
  ·rw[if_pos h] at d;exact⟨ys,rfl,h,d⟩
  ·rw[if_neg h] at d;exact d.elim
 |_=>exact d.elim
section
end
section
open Builtin Builtin.Str
end
section
end
section
variable {κ:Type} [DecidableEq κ]
end
section
variable {P:Program}{w:World}{H:Hp}{h:Heap}{a:Addr}
theorem Zlj{u:HO}(ok:HOk P w H h)(e:Rd H a u):JZ P w H h a u:=e.ok ok
end
section
variable {X:Cx}{pins:List (Addr×Obj)}{σ:St}{H:Hp}{s:Shared}{a:Addr}
theorem Inv.big(I:Inv X pins σ H s):sysModules<s.heap.objs.size:=by
 have h:mainGlobals<s.heap.objs.size:=(I.mod.glob.keeps I.bk).lt
 exact Nat.lt_trans (by decide) h
theorem Zji{h':Heap}{t':Nat}{ob:HO}(I:Inv X pins σ H s)(mu:Mut (H a))(hs:Heap.SameBut a s.heap h')(he:∃q,h'.get? a=some q)(new:JZ X.prog X.w (upd H a ob) h' a ob) :
  Inv X pins σ (upd H a ob) { s with heap:=h',toks:=t' }:=
 I.write (x:=a) (e:=a) mu (.inl rfl) (fun b q hb z=>(hs.2 b hb).trans z) he new
end
section
variable {κ:Type} [DecidableEq κ]
noncomputable def JA(ks:List κ)(k:κ):List κ:=if k∈ks then ks else ks++[k]
end
section
variable {κ:Type} [DecidableEq κ] {K:W.Frag}{H:Hp}{S:Addr->Prop}
theorem Jf.flatG{x:PV}{v:V}{G:List Addr}(f:x.flat=true)(h:Jf K H x v G):Jf K H x v []:=Rep.tree f (h.rep (S:=fun _=>True) fun _ _=>trivial)
end
section
variable {K:W.Frag}{B:Addr->Prop}{H0 H:Hp}{σ:St}{Γ':List Md}{ρ:List PV}{F:Nat->List Addr}{R:List Addr}
theorem Res.newBox{H1:Hp}{F1:Nat->List Addr}{s:Sh}{xs:List PV}{vs:List V}{u:HO}{p:Addr}{S:Addr->Prop}(s1:Z5 H H1)(f1:∀i,∀a∈F1 i,a∈F i)(hb:ZkJ K s vs u)(p1:Reps K H1 S xs vs)(hx:PV.flats xs=true)(A1:Ag K B H0 H1 σ Γ' ρ F1 R)(hp:H1 p=none) :
  Res K B H0 H σ Γ' ρ F R .F (.box none s xs) (.ref p) (upd H1 p u):=by
 have e:Z5 H1 (upd H1 p u):=Z5.new hp
 refine⟨F1,f1,[p],⟨p,vs,u,[],rfl,ZD,⟨trivial,hb⟩,(Reps.trees hx p1).same e,by simp,rfl⟩,fun a ha=>?_,A1.newB hb.lv hp⟩
 rw[Zt0.mp ha]
 exact⟨(A1.fresh hp).1,.inl (s1.free hp)⟩
end
section
variable {X:Cx}{K:W.Frag}
def Zh7(K:W.Frag):List V->Hp->VK->Prop:=fun xs H Q=>∃p ys,xs=[.ref p]/\((SqL K H p ys/\∀l,H l=none->Q (.ref l) (upd H l (.tup ys)))\/(SqT K H p ys/\Q (.ref p) H))
theorem Vx(e:X.K=K:=by rfl):Vy X (.type "tuple") (Zh7 K):=by subst e;exact ZaV
theorem UE:bootBuiltins "tuple"=some (.type "tuple"):=by decide +kernel
variable {B:Addr->Prop}{EX:PX->Hp->Prop}{H0 H:Hp}{σ:St}{Γ Γ':List Md}{ρ:List PV}{F:Nat->List Addr}{R:List Addr}{ta:TA}{fa:List PV->Rr (List PV)}
noncomputable def ZeU(xs:List PV):Rr PV:=match xs with
 |[.lst ys]=>.ok (.tup ys)
 |[.tup ys]=>.ok (.tup ys)
 |_=>.bad
theorem Qj(ha:DAA K EX Γ Γ' ta fa):DE K EX Γ Γ' .A (tCB (Zh7 K) ta) (fun ρ=>(fa ρ).bind ZeU):=fun B H0 H σ ρ F R Q A d=>by
 refine ha B H0 H σ ρ F R _ A (d.bind.imp (fun xs _ d vs H1 F1 s1 f1 p1 A1=>?_) fun e q=>q)
 unfold ZeU at d
 split at d
 ·obtain⟨v,rfl,a,ws,rfl,hn,hr⟩:=UT p1
  refine⟨a,ws,rfl,.inl ⟨Uc (S:=fun _=>True) hn,fun l hl=>?_⟩⟩
  have e:=Z5.new (H:=H1) (o:=.tup ws) hl
  exact d _ _ (s1.trans e) ⟨F1,f1,⟨l,ws,rfl,⟨ZD,trivial⟩,hr.same e⟩,A1.grow e⟩
 ·obtain⟨v,rfl,a,ws,rfl,hn,hr⟩:=UT p1
  exact⟨a,ws,rfl,.inr ⟨hn.sqT,d _ _ s1 ⟨F1,f1,⟨a,ws,rfl,hn,hr⟩,A1⟩⟩⟩
 ·exact d.elim
end
noncomputable def ins{α:Type}:Nat->α->List α->List α
 |0,v,us=>v::us
 |_+1,v,[]=>[v]
 |j+1,v,u::us=>u::ins j v us
theorem VG{α:Type}:∀{j:Nat}{v:α}{us:List α},(ins j v us).length=us.length+1
 |0,_,_=>rfl
 |_+1,_,[]=>rfl
 |j+1,v,u::us=>by simp[ins,VG (j:=j) (v:=v) (us:=us)]
theorem UC{α:Type}:∀{j:Nat}{v:α}{us:List α} (i:Nat),j<=us.length->(ins j v us)[i]?=if i<j then us[i]? else if i=j then some v else us[i-1]?
 |0,v,us,0,_=>rfl
 |0,v,us,i+1,_=>by simp[ins]
 |j+1,v,[],_,h=>by simp at h
 |j+1,v,u::us,0,_=>rfl
 |j+1,v,u::us,i+1,h=>by
  have:=UC (j:=j) (v:=v) (us:=us) i (by simpa using h)
  rw[ins,List.getElem?_cons_succ,this]
  by_cases c:i<j
  ·rw[if_pos c,if_pos (show i+1<j+1 by lia)];rfl
  ·by_cases e:i=j
   ·rw[if_neg c,if_pos e,if_neg (show ¬i+1<j+1 by lia),if_pos (show i+1=j+1 by lia)]
   ·rw[if_neg c,if_neg e,if_neg (show ¬i+1<j+1 by lia),if_neg (show ¬i+1=j+1 by lia)]
    obtain⟨m,rfl⟩:∃m,i=m+1:=⟨i-1,by lia⟩
    rfl
theorem Zb6{α β:Type}{f:α->β}:∀{j:Nat}{v:α}{us:List α},(ins j v us).map f=ins j (f v) (us.map f)
 |0,_,_=>rfl
 |_+1,_,[]=>rfl
 |j+1,v,u::us=>by simp[ins,Zb6 (j:=j) (v:=v) (us:=us)]
theorem Zb7{α:Type}{r:List α}:∀{j:Nat}{v:α}{us:List α},j<=us.length->ins j v us++r=ins j v (us++r)
 |0,_,_,_=>rfl
 |_+1,_,[],h=>by simp at h
 |j+1,v,u::us,h=>by
  show u::(ins j v us++r)=u::ins j v (us++r)
  rw[Zb7 (by simpa using h)]
section
variable {K:W.Frag}{H:Hp}
theorem Jf.pin{p:Option Addr}{s:Sh}{ys:List PV}{a:Addr}{G:List Addr}(h:Jf K H (.box p s ys) (.ref a) G):Jf K H (.box (some a) s ys) (.ref a) G:=by
 obtain⟨a',vs,u,G',e,h1,h2,h3⟩:=h
 cases e
 exact⟨a,vs,u,G',rfl,h1,⟨rfl,h2.2⟩,h3⟩
theorem Jf.unpin{p:Option Addr}{s:Sh}{ys:List PV}{v:V}{G:List Addr}(h:Jf K H (.box p s ys) v G):Jf K H (.box none s ys) v G:=by
 obtain⟨a',vs,u,G',e,h1,h2,h3⟩:=h
 exact⟨a',vs,u,G',e,h1,⟨trivial,h2.2⟩,h3⟩
theorem Jf.repin{p:Option Addr}{s:Sh}{ys:List PV}{a:Addr}{G:List Addr}(hp:ZlC p a)(h:Jf K H (.box none s ys) (.ref a) G):Jf K H (.box p s ys) (.ref a) G:=by
 obtain⟨a',vs,u,G',e,h1,h2,h3⟩:=h
 cases e
 exact⟨a,vs,u,G',rfl,h1,⟨hp,h2.2⟩,h3⟩
theorem Jf.pinned{b:Addr}{s:Sh}{ys:List PV}{v:V}{G:List Addr}(h:Jf K H (.box (some b) s ys) v G):v=.ref b:=by
 obtain⟨a',vs,u,G',e,h1,h2,h3⟩:=h
 rw[e,show a'=b from h2.1]
end
noncomputable def spM(K:W.Frag)(n j:Nat)(m:PV->List PV->Rr PV):Sp:=fun vs H Q E=>∃(B:Addr->Prop) (xs:List PV) (us:List V) (a:Addr) (s:Sh) (ys:List PV) (G:List Addr),
 vs=ins j (.ref a) us/\xs.length=n/\Reps K H B xs us/\Jf K H (.box none s ys) (.ref a) G/\(∀b,B b->b ∉ G) /\
 Dn (m (.box none s ys) xs) (fun r=>∃y s' ys',r=.tup [y,.box none s' ys']/\∀u H' G1 G2,Z5 (minus H G) H'->Jf K H' y u G1->Jf K H' (.box none s' ys') (.ref a) G2->(∀b∈G1,b ∉ G2)->(∀b∈G1,minus H G b=none)->(∀b∈G2,minus H G b=none)->Q u H') (fun _=>False)
noncomputable def ZjK(a:Addr)(b:PV):PV:=match b with
 |.box _ s ys=>.box (some a) s ys
 |x=>x
noncomputable def Zlm(a:Addr)(r:Rr PV):Rr PV:=match r with
 |.ok (.tup [y,.box _ s ys])=>.ok (.tup [y,.box (some a) s ys])
 |.ok _=>.bad
 |.exc e=>.exc e
 |.bad=>.bad
noncomputable def RS.outN(j:Nat)(r:RS):Rr PV:=match r with
 |.next ρ=>.ok (.tup [.non,gv j ρ])
 |.ret x=>.ok x
 |.exc e=>.exc e
 |_=>.bad
section
variable {K:W.Frag}{B:Addr->Prop}{EX:PX->Hp->Prop}{H0 H:Hp}{σ:St}{Γ Γ' Γ1 Γ2 Γ3:List Md}{ρ:List PV}{F:Nat->List Addr}
theorem Ag.initM{s:Sh}{ys:List PV}{a:Addr}{G:List Addr}{xs:List PV}{us:List V}{j l:Nat}(ht:Jf K H (.box none s ys) (.ref a) G)(h:Reps K H B xs us)(hB:∀b,B b->b ∉ G)(hj:j<=xs.length) :
  Ag K (fun b=>B b\/minus H G b=none) (minus H G) H (ins j (some (.ref a)) (us.map some++List.replicate l none)) (ins j .O (List.replicate xs.length .S++List.replicate l .U)) (ins j (.box (some a) s ys) (xs++List.replicate l .non)) (Vo (fun _=>[]) j G) []:=by
 have fin:∀i,∀b∈Vo (fun _=>[]) j G i,i=j/\b∈G:=fun i b hb=>by
  unfold Vo at hb
  split at hb
  ·exact⟨by assumption,hb⟩
  ·simp at hb
 have A:=Ag.init (n:=l) h
 refine⟨Zed,fun b h=>.inr h,fun i b hb=>Zdj (fin i b hb).2,by simp,fun i b hb=>ht.alive b (fin i b hb).2,by simp,fun i k hik b hb z=>hik ((fin i b hb).1.trans (fin k b z).1.symm),by simp,by simp[VG,h.length],by simp[VG],fun i=>?_⟩
 have hjs:j<=(us.map some++List.replicate l (none:Option V)).length:=by simp[h.length];lia
 have hjg:j<=(List.replicate xs.length Md.S++List.replicate l Md.U).length:=by simp;lia
 have hjr:j<=(xs++List.replicate l PV.non).length:=by simp;lia
 rw[Ztf,Ztf,UC i hjs,UC i hjg,UC i hjr]
 have go:∀q,q≠j\/True->Ua K H (NO (fun b=>B b\/minus H G b=none) (Vo (fun _=>[]) j G) []) ((List.replicate xs.length Md.S++List.replicate l Md.U)[q]?.getD .U) ((xs++List.replicate l PV.non)[q]?.getD .non) (us.map some++List.replicate l none)[q]? []:=fun q _=>by
  have sl:=A.slot q
  rw[Ztf,Ztf] at sl
  refine sl.mono (fun b u s r=>⟨r, ?_,by simp,fun k z=>?_⟩) (fun b u r=>r) (fun b hb=>by cases hb)
  ·rcases s.1 with s|s
   ·exact .inl s
   ·exact .inr (by
     by_cases q:b∈G
     ·exact Zdj q
     ·rw[ZS q];exact s)
  ·have z:=(fin k b z).2
   rcases s.1 with s|s
   ·exact hB b s z
   ·obtain⟨vs,q⟩:=ht.alive b z
    rw[s] at q;cases q
 by_cases c:i<j
 ·rw[if_pos c,if_pos c,if_pos c,Z6 (by lia)]
  exact go i (.inr trivial)
 ·rw[if_neg c,if_neg c,if_neg c]
  by_cases e:i=j
  ·rw[if_pos e,if_pos e,if_pos e]
   subst e
   rw[Zu]
   exact⟨_,rfl,ht.pin⟩
  ·rw[if_neg e,if_neg e,if_neg e,Z6 e]
   exact go (i-1) (.inr trivial)
noncomputable def Zlg(y x:PV):RS:=match x with
 |.box (some a) s xs=>.ret (.tup [y,.box (some a) s xs])
 |_=>.bad
theorem VI{j:Nat}{te:TE}{f:List PV->Rr PV}(he:DE K EX Γ Γ' .F te f)(hm:Γ'[j]?=some .O):DS K EX Γ ⟨Γ3,Γ1,Γ2,.N⟩ (Zj5 te) (fun ρ=>(f ρ).thenS fun y=>Zlg y (gv j ρ)):=fun B H0 H σ ρ F D A d=>by
 refine he B H0 H σ ρ F [] _ A (d.thenS.imp (fun y _ d v H1 s1 r1=>?_) fun e q=>q)
 obtain⟨F1,f1,G,h1,h2,A1⟩:=r1
 unfold Zlg at d
 split at d
 ·rename_i a s xs ex
  obtain⟨w,w1,w2⟩:=A1.getO hm
  rw[show ρ.getD j .non=.box (some a) s xs from ex] at w2
  have:=w2.pinned
  subst this
  exact d v H1 A1.same ⟨y,a,s,xs,G,F1 j,rfl,h1,w2,fun b hb z=>A1.disjR j b z (Ztj _ hb),fun b hb=>A1.youngR b (Ztj _ hb),fun b hb=>A1.young j b hb⟩
 ·exact d.elim
end
section
variable {P:Program}{w:World}{K:W.Frag}{mg:Str->Option Value}{base:Heap}
theorem Fun.okM{x qual:Str}{st:Stmt}{f:Addr}{fd:FuncData}{N ps:List Str}{k n l j:Nat}{m:PV->List PV->Rr PV}(F:Fun K x qual st f fd)(S:Zt N ps (Zf st))(hn:ps.length=n+1)(hl:N.length-(n+1)=l)(hj:j<=n)(hbody:∀(cdv:Value) (A:Around) (outer:List Env) (s:Shared) (H:Hp) (E:XK),UR k (A.deeper (envOfC qual (Zf st) s.heap.objs.size f cdv)) ->
   ∃t g Y,Y.r=.N/\Y.n[j]?=some .O/\PSs (ZbF CX0 P w K mg base N qual (Zf st) f cdv A outer s H E).nox (Zq st) t/\DS K X0 (ins j .O (List.replicate n .S++List.replicate l .U)) Y t g /\
    ∀a b xs,Ref (Zlm a (m b xs)) ((g (ins j (ZjK a b) (xs++List.replicate l .non))).outN j)) :
  J8 P w K mg base CX0 (k+1) f fd ps (spM K n j m):=by
 refine F.ok S (fun vs H Q E h=>?_) (fun cdv A outer s H vs Q E hr h=>?_)
 ·obtain⟨B,xs,us,a,s,ys,G,rfl,h1,h2,_⟩:=h
  rw[VG,h2.length,h1,hn]
 ·obtain⟨B,xs,us,a,s',ys,G,rfl,h1,h2,h3,h4,dn⟩:=h
  obtain⟨t,g,Y,hY,hYn,ht,hd,href⟩:=hbody cdv A outer s H E hr
  refine⟨t,ht, ?_⟩
  have A0:=Ag.initM (l:=l) h3 h2 h4 (show j<=xs.length by lia)
  have est:U0 N (ins j (.ref a) us)=ins j (some (.ref a)) (us.map some++List.replicate l none):=by
   unfold U0
   rw[VG,h2.length,h1,hl,Zb6,Zb7 (by rw[Ztp,h2.length];lia)]
  rw[est]
  rw[h1] at A0
  refine hd _ (minus H G) H _ _ _ _ A0 ?_
  have hr:=href a (.box none s' ys) xs
  rw[show ZjK a (.box none s' ys)=.box (some a) s' ys from rfl] at hr
  cases em:m (.box none s' ys) xs with
  |bad=>rw[em] at dn;exact dn.elim
  |exc q=>rw[em] at dn;exact dn.elim
  |ok r =>
   rw[em] at dn hr
   obtain⟨y,s2,ys2,rfl,q⟩:=dn
   have ho:(g (ins j (.box (some a) s' ys) (xs++List.replicate l .non))).outN j=.ok (.tup [y,.box (some a) s2 ys2]):=by
    rcases hr with e|e
    ·cases e
    ·exact e.symm
   cases e:g (ins j (.box (some a) s' ys) (xs++List.replicate l .non)) with
   |next ρ =>
    rw[e] at ho
    have hy:PV.tup [.non,gv j ρ]=.tup [y,.box (some a) s2 ys2]:=by simpa[RS.outN] using ho
    simp only[PV.tup.injEq,List.cons.injEq,and_true] at hy
    obtain⟨rfl,hb⟩:=hy
    refine fun σ' H' F' fr A'=>?_
    obtain⟨v,w1,w2⟩:=A'.getO hYn
    rw[show ρ.getD j .non=.box (some a) s2 ys2 from hb] at w2
    have:=w2.pinned
    subst this
    exact q .non H' [] (F' j) A'.same ⟨rfl,rfl⟩ w2.unpin (by simp) (by simp) fun b hb=>A'.young j b hb
   |ret z =>
    rw[e] at ho
    have hy:z=.tup [y,.box (some a) s2 ys2]:=by simpa[RS.outN] using ho
    subst hy
    refine fun v H' s r=>?_
    rw[hY] at r
    obtain⟨y',a',s3,xs3,G1,G2,e1,r1,r2,r3,r4,r5⟩:=r
    simp only[PV.tup.injEq,List.cons.injEq,and_true,PV.box.injEq,Option.some.injEq] at e1
    obtain⟨rfl,rfl,rfl,rfl⟩:=e1
    exact q v H' G1 G2 s r1 r2.unpin r3 r4 r5
   |exc q=>rw[e] at ho;cases ho
   |brk ρ=>rw[e] at ho;cases ho
   |cont ρ=>rw[e] at ho;cases ho
   |bad=>rw[e] at ho;cases ho
end
def NoE{α:Type}(f:List PV->Rr α):Prop:=∀ρ e,f ρ≠.exc e
def DER(K:W.Frag)(Γ:List Md)(te:TE)(f:List PV->Rr PV):Prop:=NoE f /\
 ∀(B:Addr->Prop) (H0 H:Hp) (σ:St) (ρ:List PV) (F:Nat->List Addr) (R:List Addr) (Q:VK),Ag K B H0 H σ Γ ρ F R ->
  (∃x,f ρ=.ok x/\∀v,Rep K H (fun a=>a ∉ R) x v->Q v H)->te σ H Q
def DAR(K:W.Frag)(Γ:List Md)(ta:TA)(f:List PV->Rr (List PV)):Prop:=NoE f /\
 ∀(B:Addr->Prop) (H0 H:Hp) (σ:St) (ρ:List PV) (F:Nat->List Addr) (R:List Addr) (Q:List V->Hp->Prop),Ag K B H0 H σ Γ ρ F R ->
  (∃xs,f ρ=.ok xs/\∀vs,Reps K H (fun a=>a ∉ R) xs vs->Q vs H)->ta σ H Q
def DAM(K:W.Frag)(Γ:List Md)(i j:Nat)(ta:TA)(f:List PV->Rr (List PV)):Prop:=NoE f /\
 ∀(B:Addr->Prop) (H0 H:Hp) (σ:St) (ρ:List PV) (F:Nat->List Addr) (R:List Addr) (v:V) (Q:List V->Hp->Prop),Ag K B H0 H σ Γ ρ F R->σ[i]?=some (some v) ->
  (∃xs,f ρ=.ok xs/\∀vs,Reps K H (fun a=>a ∉ R) xs vs->Q (ins j v vs) H)->ta σ H Q
theorem bind_ok{α β:Type}{r:Rr α}{g:α->Rr β}{y:β}(h:r.bind g=.ok y):∃x,r=.ok x/\g x=.ok y:=by
 cases r with
 |ok x=>exact⟨x,rfl,h⟩
 |exc e=>cases h
 |bad=>cases h
theorem Zdf{α β:Type}{f:List PV->Rr α}{g:List PV->α->Rr β}(h1:NoE f)(h2:∀ρ x e,g ρ x≠.exc e):NoE (fun ρ=>(f ρ).bind (g ρ)):=fun ρ e q=>by
 cases ef:f ρ with
 |ok x=>simp only[ef] at q;exact h2 ρ x e q
 |exc e'=>exact h1 ρ e' ef
 |bad=>simp only[ef] at q;cases q
section
variable {K:W.Frag}{B:Addr->Prop}{EX:PX->Hp->Prop}{H0 H H':Hp}{σ:St}{Γ Γ1 Γ2:List Md}{ρ:List PV}{F F':Nat->List Addr}{R:List Addr}{te:TE}{ta:TA}{f:List PV->Rr PV}{fa:List PV->Rr (List PV)}{i j n:Nat}{m:PV->List PV->Rr PV}
theorem UL{l:Nat}{md:Md}(h:Γ[l]?=some md)(hm:md≠.U):DER K Γ (Zab l) (fun ρ=>.ok (gv l ρ)):=⟨fun ρ e q=>(by cases q),fun B H0 H σ ρ F R Q A d=>by
 obtain⟨x,e,d⟩:=d
 cases e
 cases md with
 |U=>exact absurd rfl hm
 |P=>obtain⟨v,h1,h2,h3⟩:=A.getP h;exact⟨v,h1,d v (h3.flatS h2)⟩
 |S=>obtain⟨v,h1,h2⟩:=A.getS h;exact⟨v,h1,d v (Rep.mono (fun a u s r=>⟨r,s.2.1⟩) (fun a u r=>r) h2)⟩
 |T =>
  obtain⟨a,vs,xs,h1,h2,h3,h4,h5⟩:=A.getT h
  refine⟨_,h1,d _ ?_⟩
  rw[show gv l ρ=.lst xs from h2]
  exact⟨a,vs,rfl,.inl ⟨.inl h3,A.disjR l a (by rw[h5];simp)⟩,Reps.mono (fun a u s r=>⟨r,s.2.1⟩) (fun a u r=>r) h4⟩
 |O=>obtain⟨v,h1,h2⟩:=A.getO h;exact⟨v,h1,d v (h2.rep fun a ha=>A.disjR l a ha)⟩⟩
theorem Zc3:DAR K Γ ZbT (fun _=>.ok []):=⟨fun ρ e q=>(by cases q),fun B H0 H σ ρ F R Q A d=>by
 obtain⟨x,e,d⟩:=d
 cases e
 exact d [] rfl⟩
theorem ZaT(ha:DAR K Γ ta fa):DAM K Γ i 0 (V6 (Zab i) ta) fa:=⟨ha.1,fun B H0 H σ ρ F R v Q A hv d=>⟨v,hv,ha.2 B H0 H σ ρ F R _ A d⟩⟩
theorem VS(he:DER K Γ te f)(ha:DAM K Γ i j ta fa):DAM K Γ i (j+1) (V6 te ta) (fun ρ=>(f ρ).bind fun x=>(fa ρ).bind fun xs=>.ok (x::xs)):=⟨Zdf he.1 fun ρ x e q=>(Zdf (g:=fun _ xs=>.ok (x::xs)) ha.1 fun _ y e q=>by cases q) ρ e q,fun B H0 H σ ρ F R v Q A hv d=>by
 obtain⟨z,e,d⟩:=d
 obtain⟨x,e1,e⟩:=bind_ok e
 obtain⟨y,e2,e⟩:=bind_ok e
 cases e
 exact he.2 B H0 H σ ρ F R _ A ⟨x,e1,fun u hu=>ha.2 B H0 H σ ρ F R v _ A hv ⟨y,e2,fun vs hvs=>d (u::vs) ⟨u,vs,rfl,hu,hvs⟩⟩⟩⟩
def DM(K:W.Frag)(EX:PX->Hp->Prop)(Γ:List Md)(i:Nat)(te:TE)(fm:List PV->Rr (PV×PV)):Prop:=
 ∀(B:Addr->Prop) (H0 H:Hp) (σ:St) (ρ:List PV) (F:Nat->List Addr) (Q:VK),Ag K B H0 H σ Γ ρ F [] ->
  Dn (fm ρ) (fun r=>∀v H' F' G,Frm H F H' F'->Jf K H' r.1 v G->(∀b∈G,H b=none\/∃l,b∈F l)->Ag K B H0 H' σ Γ (ρ.set i r.2) F' (G++[])->Q v H') (fun e=>∀H',Z5 H0 H'->EX e H')->te σ H Q
noncomputable def Zer(m:PV->List PV->Rr PV)(x:PV)(xs:List PV):Rr (PV×PV):=match x with
 |.box p s ys=>match m (.box none s ys) xs with
  |.ok (.tup [y,.box none s' ys'])=>.ok (y,.box p s' ys')
  |_=>.bad
 |_=>.bad
theorem ZjC{α:Type}{l:List α}{i:Nat}{v:α}(h:l[i]?=some v):l.set i v=l:=by
 apply Zuq
 intro q
 by_cases e:i=q
 ·subst e;rw[Ztq (Ztk.mp h).1,h]
 ·rw[Ztl e]
theorem Zcz(hm:Γ[i]?=some .O)(hn:Len fa n)(ha:DAM K (Γ.set i .U) i j ta fa):DM K EX Γ i (Qp (spM K n j m) ta) (fun ρ=>(fa ρ).bind fun xs=>Zer m (gv i ρ) xs):=fun B H0 H σ ρ F Q A d=>by
 obtain⟨v,h1,h2⟩:=A.getO hm
 have hi:=A.lt hm
 cases ea:fa ρ with
 |bad=>dsimp only at d;rw[ea] at d;exact d.elim
 |exc q=>exact absurd ea (ha.1 ρ q)
 |ok xs =>
  refine ha.2 B H0 H σ ρ _ (F i++[]) v _ (A.move hm) h1 ⟨xs,ea,fun vs hvs=>?_⟩
  dsimp only at d
  rw[ea] at d
  have d:Dn (Zer m (gv i ρ) xs) _ _:=d
  unfold Zer at d
  split at d
  ·rename_i p s ys er
   rw[show ρ.getD i .non=.box p s ys from er] at h2
   split at d
   ·rename_i y s2 ys2 em
    obtain⟨a,ws,u0,G0,rfl,hH,hb,ht,hna,hF⟩:=id h2
    refine⟨fun b=>b ∉ F i,xs,vs,a,s,ys,F i,rfl,hn ρ xs ea,Reps.mono (fun b u s r=>⟨r,fun z=>s (by simp[z])⟩) (fun b u r=>r) hvs,h2.unpin,fun b hb z=>hb z, ?_⟩
    rw[em]
    refine⟨y,s2,ys2,rfl,fun u H' G1 G2 sm t1 t2 dj n1 n2=>?_⟩
    have AL:=(A.move hm).lost sm
    have hiU:(Γ.set i .U)[i]?=some .U:=by rw[Ztq hi]
    have nw:∀b,minus H (F i) b=none->(∀l,b ∉ Vo F i [] l)/\H0 b=none:=fun b hb=>by
     refine⟨fun l z=>?_, ?_⟩
     ·by_cases q:l=i
      ·subst q;rw[Zu] at z;simp at z
      ·rw[Z6 q] at z
       rw[ZS (fun w=>A.disj l i q b z w)] at hb
       obtain⟨o,e⟩:=A.live l b z
       rw[hb] at e;cases e
     ·by_cases q:b∈F i
      ·exact A.young i b q
      ·rw[ZS q] at hb
       exact A.same.free hb
    have AM:Ag K B H0 H' σ (Γ.set i .U) ρ (Vo F i []) (G2++(G1++[])):=by
     refine⟨AL.same,AL.own,AL.young,fun b hb=>?_,AL.live,fun b hb=>?_,AL.disj,fun l b hb z=>?_,AL.lenS,AL.lenR,fun l=>?_⟩
     ·rcases Zti.mp hb with z|z
      ·exact(nw b (n2 b z)).2
      ·exact(nw b (n1 b (by simpa using z))).2
     ·rcases Zti.mp hb with z|z
      ·exact t2.alive b z
      ·exact t1.alive b (by simpa using z)
     ·rcases Zti.mp z with z|z
      ·exact(nw b (n2 b z)).1 l hb
      ·exact(nw b (n1 b (by simpa using z))).1 l hb
     ·refine((A.move hm).slot l).mono (fun b o s r=>⟨(r.minus (fun z=>s.2.1 (by simp[z]))).same sm,s.1,fun z=>?_,s.2.2⟩) (fun b o r=>sm.im (r.minus fun c hc=>A.live i c hc)) fun b hb o q=>sm _ _ ?_
      ·have hb:minus H (F i) b≠none:=by
        rw[ZS (fun z=>s.2.1 (by simp[z]))]
        rcases r with r|⟨o',r⟩<;>(rw[r];simp)
       rcases Zti.mp z with z|z
       ·exact hb (n2 b z)
       ·exact hb (n1 b (by simpa using z))
      ·rw[ZS (fun z=>(A.move hm).disjR l b hb (by simp[z]))];exact q
    have AP:=Ag.put (i:=i) (m:=.O) (x:=.box p s2 ys2) (v:=.ref a) (G:=G2) (R:=G1++[]) AM (by rw[ZtH];exact hi) (fun b hb z=>dj b (by simpa using z) hb) ⟨.ref a,rfl,t2.repin hb.1⟩
    rw[ZjC h1,ZuI,Zg2 hm] at AP
    refine d u H' _ G1 (fun b o h n=>?_) t1 (fun b hb=>?_) AP
    ·have e:minus H (F i) b=some o:=by rw[ZS (n i)];exact h
     refine⟨sm _ _ e,fun l z=>?_⟩
     by_cases q:l=i
     ·subst q
      rw[Zu] at z
      rw[n2 b z] at e;cases e
     ·rw[Z6 q,Z6 q] at z
      exact n l z
    ·have:=n1 b hb
     by_cases q:b∈F i
     ·exact .inr ⟨i,q⟩
     ·rw[ZS q] at this;exact .inl this
   ·exact d.elim
  ·exact d.elim
variable {fm:List PV->Rr (PV×PV)}{k:Kd}{l:Nat}
theorem ZiX(hm:Γ[l]?=some .O)(hil:l≠i)(he:DM K EX Γ i te fm) :
  DS K EX Γ ⟨Γ,Γ1,Γ2,k⟩ (Zbf (tBM K "list" Qw (Zab l) (V6 te ZbT))) (fun ρ=>(asL (gv l ρ)).thenS fun xs=>(fm ρ).thenS fun r=>(pApp (.lst xs) r.1).thenS fun z=>.next ((ρ.set i r.2).set l z)):=fun B H0 H σ ρ F D A d=>by
 obtain⟨v,h1,h2⟩:=A.getO hm
 refine⟨v,h1, ?_⟩
 obtain⟨xs,e1,d⟩:=Dn.asL d.thenS
 rw[show ρ.getD l .non=.lst xs from e1] at h2
 obtain⟨a,vs,G,rfl,hH,ht,hn,hF⟩:=h2
 refine⟨.inl ⟨rfl,_,SqL.of hH⟩,he B H0 H σ ρ F _ A (d.thenS.imp (fun r _ d w H2 F2 G2 fr y1 y2 A2=>?_) fun e q=>q)⟩
 obtain⟨xs',e2,hlen,d⟩:=Dn.pApp d.thenS
 cases e2
 obtain⟨v',h1',h2'⟩:=A2.getO hm
 rw[h1] at h1';cases h1'
 have el:(ρ.set i r.2).getD l .non=.lst xs:=by
  rw[Ztf,Ztl (Ne.symm hil),<- Ztf];exact e1
 rw[el] at h2'
 obtain⟨a',vs',G',e,hH',ht',hn',hF'⟩:=h2'
 cases e
 refine⟨a,vs',w,rfl,rfl,hH',by rw[ht'.length];exact Ztm hlen (by decide), ?_⟩
 have haF:a∈F2 l:=by rw[hF'];simp
 have dj:∀b∈G',b ∉ G2:=fun b hb z=>A2.disjR l b (by rw[hF'];simp[hb]) (Ztj _ z)
 have na:a ∉ G2:=fun z=>A2.disjR l a haF (Ztj _ z)
 have hsub:∀b∈a::(G'++G2),b∈F2 l\/b∈G2:=fun b hb=>by
  rw[hF']
  rcases Zts.mp hb with rfl|hb
  ·simp
  ·rcases Zti.mp hb with z|z
   ·simp[z]
   ·exact .inr z
 have hna:a ∉ G'++G2:=fun z=>(Zti.mp z).elim hn' na
 refine d σ _ (Vo F2 l (a::(G'++G2))) (fun b o h n=>?_) (Ag.chg (G:=G2) (R:=[]) A2 hm haF hsub (by simp) ?_)
 ·obtain⟨q1,q2⟩:=fr b o h n
  have hne:b≠a:=fun z=>q2 l (z▸haF)
  refine⟨by rw[Z1 hne];exact q1,fun j z=>?_⟩
  by_cases q:j=l
  ·subst q;rw[Zu] at z
   rcases hsub b z with w|w
   ·exact q2 j w
   ·rcases y2 b w with w|⟨c,w⟩
    ·rw[h] at w;cases w
    ·exact n c w
  ·rw[Z6 q] at z;exact q2 j z
 ·exact⟨_,h1,a,_,G'++G2,rfl,ZD,(Trees.append ht' (Trees.one y1) dj).put hH' hna,hna,rfl⟩
end
noncomputable def Pm.fnM(m:Pm)(b:PV)(xs:List PV):Rr PV:=m.fn (b::xs)
theorem Za3{y:PV}{a:Addr}{s:Sh}{xs:List PV}:Zlg y (.box (some a) s xs)=.ret (.tup [y,.box (some a) s xs]):=rfl
theorem Zhq{m:PV->List PV->Rr PV}{p:Option Addr}{s s':Sh}{ys ys' xs:List PV}{y:PV}(h:m (.box none s ys) xs=.ok (.tup [y,.box none s' ys'])):Zer m (.box p s ys) xs=.ok (y,.box p s' ys'):=by
 unfold Zer
 simp only[h]
section
end
theorem Pm.refM2(m:Pm){r:Addr->PV->List PV->Rr PV}(h:∀i,m.pre i->∀a b xs,m.enc i=b::xs->r a b xs=Zlm a (m.out i)):∀a b xs,Ref (Zlm a (m.fnM b xs)) (r a b xs):=fun a b xs=>by
 unfold Pm.fnM Pm.fn
 by_cases hx:∃i,m.enc i=b::xs/\m.pre i
 ·rw[dif_pos hx]
  exact .inr (h _ hx.choose_spec.2 a b xs hx.choose_spec.1).symm
 ·rw[dif_neg hx];exact .inl rfl
section
end
def ZlB(h:Heap)(d:Addr)(es:Array DictEntry)(ep:Nat):Prop:=∃o,h.get? d=some o/\o.ExactDict/\o.data=.dict es ep
section
variable {prog:Program}{w:World}{A:Around}{E:Value->Shared->Prop}{s:Shared}{d:Addr}{es:Array DictEntry}{ep:Nat}
theorem ZlB.ty(x:ZlB s.heap d es ep):s.TypeIs (.ref d) "dict":=by
 obtain⟨o,e,r,_⟩:=x
 exact⟨o,e,r.1⟩
theorem Ziw{Q:Value->Shared->Prop}(nm:(d==sysModules)=false)(x:ZlB s.heap d es ep)(hz:es.size<=2^24)(q:Q (.int es.size (s.toks+1)) { s with toks:=s.toks+1+1 }):wpAny (model prog w) A (call (.builtin "len") [.ref d]) Q E s:=by
 have ty:=x.ty
 refine PyProof.Rows.call_len_slot (n:=es.size) ty F.slot_dict_len (fun Q' hq=>wpAny_call_entry F.slot_dict_len ty F.entry_dict_len (by
  obtain⟨o,e1,e2,e3⟩:=x
  show wpAny _ _ (dictSize d >>= _) _ _ s
  unfold dictSize
  refine wpAny_bind (wpAny_bind (wpAny_dictEntries e1 e3 (wpAny_pure (by
   show wpAny _ _ (Builtin.Dict.pendingCount d >>= _) _ _ s
   refine wpAny_bind (wpAny_pendingCount_other nm (wpAny_ret_mkInt ?_))
   simpa using hq))))) (F.args_dict_len_1 _)) (by lia) (by lia) q
end
section
variable {prog:Program}{w:World}{T:Type} [DecidableEq T] (knd:KeyKind prog w T)
def ZM(h:Heap)(k:List T×T)(a:Addr):Prop:=∃o b v n,h.get? a=some o/\o.cls=.type "tuple"/\o.data=.seq #[.ref b,v] n/\IsTupleKey knd h k.1 b/\knd.is k.2 v=true
variable {knd}
theorem ZM.ty{s:Shared}{k:List T×T}{a:Addr}(x:ZM knd s.heap k a):s.TypeIs (.ref a) "tuple":=let ⟨o,_,_,_,ho,hc,_⟩:=x;⟨o,ho,hc⟩
theorem ZM.uniq{h:Heap}{a:Addr}{x y:List T×T}(hx:ZM knd h x a)(hy:ZM knd h y a):x=y:=by
 obtain⟨o,b,v,n,e1,_,d1,t1,k1⟩:=hx
 obtain⟨o',b',v',n',e2,_,d2,t2,k2⟩:=hy
 rw[e1] at e2;cases e2
 rw[d1] at d2;cases d2
 exact Prod.ext (t1.inj t2) (knd.inj _ _ _ k1 k2)
theorem ZM.stays{h h':Heap}{k:List T×T}{a d:Addr}{o:Obj}{es ep}(x:ZM knd h k a)(ho:h.get? d=some o)(hd:o.data=.dict es ep)(hs:Heap.SameBut d h h'):ZM knd h' k a:=by
 obtain⟨o',b,v,n,e1,c1,d1,t1,k1⟩:=x
 have hne:a≠d:=fun z=>by
  subst z
  rw[e1] at ho;cases ho
  rw[hd] at d1;cases d1
 exact⟨o',b,v,n,(hs.2 a hne).trans e1,c1,d1,t1.keeps ho hd hs,k1⟩
noncomputable def ZaA(knd:KeyKind prog w T)(k:List T×T):Int:=reduceHash (Builtin.Tuple.tupleHashOf [tupleKeyHash knd k.1,knd.hash k.2])
variable {A:Around}{E:Value->Shared->Prop}{s:Shared}
theorem ZeT{k:List T×T}{a:Addr}{Q:Int->Shared->Prop}(hu:A.units+2<cLine)(hk:ZM knd s.heap k a)(h:Q (ZaA knd k) { s with toks:=s.toks+(k.1.length+1+2) }):wpAny (model prog w) A (pyHash (.ref a)) Q E s:=by
 have hT:=hk.ty
 obtain⟨o,b,v,n,ho,_,hd,hb,hv⟩:=hk
 unfold pyHash
 first|unfold pyHashByItsType|skip
 first|refine wpAny_bind (wpAny_cRoomFor_or (.inr (by lia)) ?_)|skip
 refine wpAny_bind (wpAny_specialOf hT F.slot_tuple_hash.lookup ?_)
 show wpAny _ _ (if (some (Value.builtin "tuple.__hash__")==some Value.none)=true then _ else _) Q E s
 rw[if_neg (by rw[beq_builtin_none];exact Bool.false_ne_true)]
 refine wpAny_bind (wpAny_specialOf hT F.slot_tuple_hash.lookup ?_)
 show wpAny _ _ (callSpecialIfBoundUnlessNone? (.ref a) "__hash__" _ >>= _) Q E s
 refine wpAny_bind (wpAny_callSpecialIfBoundUnlessNone?_slot hT F.slot_tuple_hash (wpAny_call_entry F.slot_tuple_hash hT F.entry_tuple_hash ?_ (F.args_tuple_hash_1 _)))
 show wpAny _ _ (Builtin.Tuple.tupleItemsOf (.ref a) >>= _) _ _ s
 refine wpAny_bind (PySem.wpAny_tupleItemsOf ho hd ?_)
 refine wpAny_bind ?_
 rw[<- Zu9]
 refine wpAny_forIn_list _ (fun JY (c:Array Int) s'=>(JY=[.ref b,v]/\c=#[]/\s'=s)\/(JY=[v]/\c=#[tupleKeyHash knd k.1]/\s'={ s with toks:=s.toks+(k.1.length+1) }) \/
  (JY=[]/\c=#[tupleKeyHash knd k.1,knd.hash k.2]/\s'={ s with toks:=s.toks+(k.1.length+1)+1 })) _ ?_ ?_ _ _ (.inl ⟨rfl,rfl,rfl⟩)
 ·rintro x JY c s' (⟨hr,rfl,rfl⟩|⟨hr,rfl,rfl⟩|⟨hr,_,_⟩)
  ·cases hr
   refine wpAny_bind (wpAny_pyHash_tuple (by show A.units+1<cLine;lia) hb ?_)
   first
    |exact wpAny_pure (.inr (.inl ⟨rfl,rfl,rfl⟩))
    |exact wpAny_bind (wpAny_pure (wpAny_pure (.inr (.inl ⟨rfl,rfl,rfl⟩))))
  ·cases hr
   refine wpAny_bind (knd.pyHash hv ?_)
   first
    |exact wpAny_pure (.inr (.inr ⟨rfl,rfl,rfl⟩))
    |exact wpAny_bind (wpAny_pure (wpAny_pure (.inr (.inr ⟨rfl,rfl,rfl⟩))))
  ·cases hr
 ·rintro c s' (⟨hr,_,_⟩|⟨hr,_,_⟩|⟨_,rfl,rfl⟩)
  ·cases hr
  ·cases hr
  ·show wpAny _ _ (retInt (Builtin.Tuple.tupleHashOf [tupleKeyHash knd k.1,knd.hash k.2])) _ _ _
   refine wpAny_ret_mkInt ?_
   show wpAny _ _ (if (decide (-(2:Int)^63<=Builtin.Tuple.tupleHashOf [tupleKeyHash knd k.1,knd.hash k.2])&&decide (Builtin.Tuple.tupleHashOf [tupleKeyHash knd k.1,knd.hash k.2]<2^63))=true then _ else _) Q E _
   unfold ZaA reduceHash at h
   have e:s.toks+(k.1.length+1)+1+1=s.toks+(k.1.length+1+2):=by lia
   by_cases hr:(decide (-(2:Int)^63<=Builtin.Tuple.tupleHashOf [tupleKeyHash knd k.1,knd.hash k.2])&&decide (Builtin.Tuple.tupleHashOf [tupleKeyHash knd k.1,knd.hash k.2]<2^63))=true
   ·rw[if_pos hr] at h ⊢
    refine wpAny_pure ?_
    show Q _ { s with toks:=s.toks+(k.1.length+1)+1+1 }
    rw[e];exact h
   ·rw[if_neg hr] at h ⊢
    refine wpAny_bind (wpAny_rule (wpAny_pure ?_))
    show Q _ { s with toks:=s.toks+(k.1.length+1)+1+1 }
    rw[e];exact h
theorem Zi5{x y:List T×T}{a b:Addr}{P:PySem.Fin->Shared->Prop}(hu:A.units<cLine)(hx:ZM knd s.heap x a)(hy:ZM knd s.heap y b)(h:P (.done (.ret (.bool (decide (x=y))))) s) :
  wpAny (model prog w) A (Builtin.«tuple.__eq__» ⟨[.ref a,.ref b],[]⟩) P E s:=by
 have hTb:=hy.ty
 obtain⟨oa,a2,u,na,hoa,_,hda,ta,ka⟩:=hx
 obtain⟨ob,b2,v,nb,hob,_,hdb,tb,kb⟩:=hy
 show wpAny _ _ (isInstance (.ref b) (.type "tuple") >>= _) _ _ s
 refine wpAny_bind (wpAny_isInstance hTb isSubtype_tuple_tuple ?_)
 simp only[Bool.not_true,Bool.false_eq_true,if_false]
 refine wpAny_bind (PySem.wpAny_tupleItemsOf hoa hda ?_)
 refine wpAny_bind (PySem.wpAny_tupleItemsOf hob hdb ?_)
 refine wpAny_bind ?_
 refine wpAny_forIn_list _ (fun JY r s'=>r.1=none/\s'=s/\(JY=[(.ref a2,.ref b2),(u,v)]\/(JY=[(u,v)]/\x.1=y.1)\/(JY=[]/\x=y))) _ ?_ ?_ _ _ ⟨rfl,rfl,.inl rfl⟩
 ·rintro⟨p,q⟩ JY r s' ⟨hr,rfl,(z|⟨z,e1⟩|⟨z,_⟩)⟩
  ·cases z
   refine wpAny_bind (wpAny_eqBool_tuple hu ta tb ?_)
   by_cases c:x.1=y.1
   ·rw[decide_eq_true c]
    simp only[Bool.not_true,Bool.false_eq_true,if_false]
    exact wpAny_pure ⟨rfl,rfl,.inr (.inl ⟨by first|rfl|trivial,c⟩)⟩
   ·rw[decide_eq_false c]
    simp only[Bool.not_false,if_true]
    rw[decide_eq_false (fun e=>c (by rw[e]))] at h
    exact wpAny_bind (wpAny_pure (wpAny_pure (wpAny_pure h)))
  ·cases z
   refine wpAny_bind (knd.eqBool (a:=x.2) (b:=y.2) ka kb ?_)
   by_cases c:x.2=y.2
   ·rw[decide_eq_true c]
    simp only[Bool.not_true,Bool.false_eq_true,if_false]
    exact wpAny_pure ⟨rfl,rfl,.inr (.inr ⟨by first|rfl|trivial,Prod.ext e1 c⟩)⟩
   ·rw[decide_eq_false c]
    simp only[Bool.not_false,if_true]
    rw[decide_eq_false (fun e=>c (by rw[e]))] at h
    exact wpAny_bind (wpAny_pure (wpAny_pure (wpAny_pure h)))
  ·cases z
 ·rintro⟨r1,r2⟩ s' ⟨hr,rfl,(z|⟨z,_⟩|⟨_,e⟩)⟩
  ·cases z
  ·cases z
  ·simp only at hr
   subst hr
   refine wpAny_pure ?_
   rw[decide_eq_true e] at h
   exact h
theorem Zg9{x y:List T×T}{a b:Addr}{Q:Bool->Shared->Prop}(hu:A.units+2<cLine)(hx:ZM knd s.heap x a)(hy:ZM knd s.heap y b)(h:Q (decide (x=y)) s):wpAny (model prog w) A (eqBool (.ref a) (.ref b)) Q E s:=by
 unfold eqBool
 try with_reducible refine wpAny_holding ?_
 show wpAny _ _ (if (Value.ref a==Value.ref b)=true then _ else _) Q E s
 by_cases hab:(Value.ref a==Value.ref b)=true
 ·rw[if_pos hab]
  have e:a=b:=by have:=eq_of_beq hab;injection this
  subst e
  obtain rfl:=hx.uniq hy
  exact wpAny_bind (wpAny_rule (wpAny_pure (by simpa using h)))
 ·rw[if_neg hab]
  exact wpAny_bind (wpAny_richCompare_same_room (op:=.Eq) hx.ty hy.ty F.slot_tuple_eq
   (wpAny_call_entry F.slot_tuple_eq hx.ty F.entry_tuple_eq (Zi5 (by show A.units+1<cLine;lia) hx hy ⟨_,rfl,(fun e=>nomatch e),wpAny_truthy_bool h⟩) (F.args_tuple_eq_2 _ _)) (by lia))
theorem ZeL{n:Nat}{ks:List T}{a:Addr}{Q:Bool->Shared->Prop}(hk:IsTupleKey knd s.heap ks a)(h:Q true s):wpAny (model prog w) A (eqIsQuiet (n+1) (.ref a)) Q E s:=by
 have hT:=hk.typeIs
 obtain⟨o,items,m,ho,_,hd,hi⟩:=hk
 unfold eqIsQuiet
 refine wpAny_bind (wpAny_specialOf hT F.slot_tuple_eq.lookup ?_)
 show wpAny _ _ (isInstance (.ref a) (.type "tuple") >>= _) _ _ s
 refine wpAny_bind (wpAny_isInstance hT isSubtype_tuple_tuple ?_)
 simp only[Bool.not_true,Bool.false_eq_true,if_false]
 refine wpAny_bind (wpAny_seqItems ho hd ?_)
 refine wpAny_bind ?_
 show wpAny _ _ (forIn items _ _) _ _ s
 rw[<- Zu9]
 refine wpAny_forIn_list _ (fun JY r s'=>r.1=none/\s'=s/\∀v∈JY,carriedByValue v=true) _ ?_ ?_ _ _ ⟨rfl,rfl,hi.byValue⟩
 ·rintro v JY r s' ⟨hr,rfl,hall⟩
  rw[eqIsQuiet_byValue _ (hall v Zuh)]
  refine wpAny_bind (wpAny_pure ?_)
  simp only[Bool.not_true,Bool.false_eq_true,if_false]
  exact wpAny_pure ⟨rfl,rfl,fun u hu'=>hall u (Zt9 _ hu')⟩
 ·rintro⟨r1,r2⟩ s' ⟨hr,rfl,_⟩
  simp only at hr
  subst hr
  exact wpAny_pure h
theorem ZdW{k:List T×T}{a:Addr}{Q:Bool->Shared->Prop}(hk:ZM knd s.heap k a)(h:Q true s):wpAny (model prog w) A (eqIsQuiet 8 (.ref a)) Q E s:=by
 have hT:=hk.ty
 obtain⟨o,b,v,m,ho,_,hd,tb,kv⟩:=hk
 unfold eqIsQuiet
 refine wpAny_bind (wpAny_specialOf hT F.slot_tuple_eq.lookup ?_)
 show wpAny _ _ (isInstance (.ref a) (.type "tuple") >>= _) _ _ s
 refine wpAny_bind (wpAny_isInstance hT isSubtype_tuple_tuple ?_)
 simp only[Bool.not_true,Bool.false_eq_true,if_false]
 refine wpAny_bind (wpAny_seqItems ho hd ?_)
 refine wpAny_bind ?_
 show wpAny _ _ (forIn #[Value.ref b,v] _ _) _ _ s
 rw[<- Zu9]
 refine wpAny_forIn_list _ (fun JY r s'=>r.1=none/\s'=s/\(JY=[.ref b,v]\/JY=[v]\/JY=[])) _ ?_ ?_ _ _ ⟨rfl,rfl,.inl rfl⟩
 ·rintro p JY r s' ⟨hr,rfl,(z|z|z)⟩
  ·cases z
   refine wpAny_bind (ZeL (n:=6) tb ?_)
   simp only[Bool.not_true,Bool.false_eq_true,if_false]
   exact wpAny_pure ⟨rfl,rfl,.inr (.inl (by first|rfl|trivial))⟩
  ·cases z
   rw[eqIsQuiet_byValue _ (knd.byValue _ _ kv)]
   refine wpAny_bind (wpAny_pure ?_)
   simp only[Bool.not_true,Bool.false_eq_true,if_false]
   exact wpAny_pure ⟨rfl,rfl,.inr (.inr (by first|rfl|trivial))⟩
  ·cases z
 ·rintro⟨r1,r2⟩ s' ⟨hr,rfl,_⟩
  simp only at hr
  subst hr
  exact wpAny_pure h
noncomputable def Qb(knd:KeyKind prog w T):HeapKind prog w (List T×T) where
 is:=ZM knd
 hash:=ZaA knd
 draws:=fun k=>k.1.length+1+2
 room:=fun A=>A.units+2<cLine
 inj:=fun hx hy=>hx.uniq hy
 keeps:=fun x ho hd hs=>x.stays ho hd hs
 pyHash:=fun hu hk h=>ZeT hu hk h
 eqBool:=fun hu hx hy h=>Zg9 hu hx hy h
 quiet:=fun hk h=>ZdW hk h
end
noncomputable abbrev KyN:=List Int×Int
section
variable {P:Program}{w:World}{H:Hp}{h:Heap}{a b:Addr}{k:KyN}{xs:List (KyN×Addr)}
def Zii(H:Hp)(k:KyN)(b:Addr):Prop:=∃c,H b=some (.tup [.ref c,.int k.2])/\H c=some (.tup (k.1.map V.int))
theorem Zdv:∀{ns:List Int}{us:List Value},Jr (ns.map V.int) us->ItemsAre (intKind P w) ns us
 |[],_,r=>by rw[Zus] at r;cases r;exact .nil
 |n::ns,_,r=>by
  rw[ZtB] at r
  cases r with
  |cons h t =>
   obtain⟨t',rfl⟩:=h
   exact .cons (by simp[intKind,Value.isInt]) (Zdv t)
theorem Zci(ok:HOk P w H h)(e:Zii H k b):(Qb (intKind P w)).is h k b:=by
 obtain⟨c,e1,e2⟩:=e
 obtain⟨_,its,r,o,h1,h2,n,h3⟩:=(show JZ P w H h b (.tup _) from ok b _ e1)
 obtain⟨_,its2,r2,o2,g1,g2,n2,g3⟩:=(show JZ P w H h c (.tup _) from ok c _ e2)
 obtain⟨u,v,rfl,ru,rv⟩:=Zgt r
 cases ru
 obtain⟨t,rfl⟩:=rv
 exact⟨o,c,_,n,h1,h2,h3,⟨o2,its2.toArray,n2,g1,g2,g3,by simpa using Zdv r2⟩,by simp[intKind,Value.isInt]⟩
theorem Zib{a':Addr}(x:JZ P w H h a (DnO a' xs)):a'=a/\DnP a xs h:=by
 obtain⟨p,⟨o,e⟩,st⟩:=x
 have key:a'=a:=by
  by_cases c:a'=a
  ·exact c
  ·exfalso
   obtain⟨_,_,o1,es,ep,g1,_⟩:=id p
   have p2:=st h (h.update a' fun q=>{ q with data:=.seq #[] 0 }) p (fun q z=>by rw[Heap.get?_update_other h _ c];exact z)
   obtain⟨_,_,o2,es2,ep2,f1,_,f2,_⟩:=p2
   rw[Heap.get?_update_self (fun q=>{ q with data:=.seq #[] 0 }) g1 rfl] at f1
   cases f1
   cases f2
 subst key
 exact⟨rfl,p⟩
theorem Zkz(p:DnP a xs h):JZ P w H h a (DnO a xs):=by
 refine⟨p, ?_,fun h1 h2 p1 k=>?_⟩
 ·obtain⟨_,_,o,_,_,g,_⟩:=p;exact⟨o,g⟩
 ·obtain⟨q1,q2,o,es,ep,g1,g2⟩:=p1
  exact⟨q1,q2,o,es,ep,k _ g1,g2⟩
noncomputable def US(xs:List (KyN×Addr)):List (KyN×Addr×Value):=xs.map fun x=>(x.1,x.2,.bool true)
theorem ZfL(ok:HOk P w H h)(p:DnP a xs h)(hk:∀x∈xs,Zii H x.1 x.2):h.DictOfH (Qb (intKind P w)) a (US xs):=by
 obtain⟨_,_,o,es,ep,g1,g2,g3,g4,g5⟩:=p
 refine⟨o,es,ep,g1,g2,g3, ?_,fun x hx=>?_, ?_⟩
 ·rw[g4,US,Zut];rfl
 ·obtain⟨y,hy,rfl⟩:=Ztx.mp hx
  exact Zci ok (hk y hy)
 ·rw[US,Zut];exact g5
theorem ZcI:(atKey (US xs) k).isSome=decide (k∈xs.map (·.1)):=by
 induction xs with
 |nil=>rfl
 |cons x xs ih =>
  unfold atKey US at ih ⊢
  rw[ZtB,List.find?_cons]
  by_cases c:x.1=k
  ·simp[c]
  ·simp only[c,decide_false]
   rw[ih]
   simp[Ne.symm c,eq_comm,c]
noncomputable def Zca(xs:List (KyN×Addr))(k:KyN)(b:Addr):List (KyN×Addr):=if k∈xs.map (·.1) then xs else xs++[(k,b)]
theorem Ze2:storedH (US xs) k b (.bool true)=US (Zca xs k b):=by
 unfold storedH Zca
 rw[ZcI]
 by_cases c:k∈xs.map (·.1)
 ·rw[decide_eq_true c,if_pos rfl,if_pos c]
  unfold US
  rw[Zut]
  refine List.map_congr_left fun x _=>?_
  show putAt k _ _=_
  unfold putAt
  split<;>rfl
 ·rw[decide_eq_false c,if_neg (by decide),if_neg c]
  simp[US]
end
def DnA(H:Hp)(a:Addr)(xs:List (KyN×Addr)):Prop:=(∃a',Rd H a (DnO a' xs))/\∀x∈xs,Zii H x.1 x.2
theorem Zia{P:Program}{w:World}{H:Hp}{h:Heap}{a:Addr}{xs:List (KyN×Addr)}(ok:HOk P w H h)(d:DnA H a xs):DnP a xs h:=by
 obtain⟨⟨a',r⟩,_⟩:=d
 exact(Zib (Zlj ok r)).2
noncomputable def Zh1:TE:=fun _ H Q=>∀p,H p=none->Q (.ref p) (upd H p (DnO p []))
noncomputable def ZlL(g:Bool->Bool)(ty td:TE):TE:=fun σ H Q=>ty σ H fun y H1=>td σ H1 fun x H2=>∃(a b:Addr) (xs:List (KyN×Addr)) (k:KyN),x=.ref a/\y=.ref b/\DnA H2 a xs/\Zii H2 k b/\Q (.bl (g (decide (k∈xs.map (·.1))))) H2
noncomputable def ZjD(td ty:TE):TS:=fun D σ H=>td σ H fun x H2=>ty σ H2 fun y H3=>∃(a b:Addr) (xs:List (KyN×Addr)) (k:KyN),x=.ref a/\y=.ref b/\(∃a',H3 a=some (DnO a' xs))/\(∀x∈xs,Zii H3 x.1 x.2)/\Zii H3 k b/\xs.length<sizeLine/\D.nx σ (upd H3 a (DnO a (Zca xs k b)))
section
variable {X:Cx}{o i e value:Expr}{pos pos':Pos}{td ty:TE}
theorem ZcX:PE X (.Dict [] [] pos) Zh1:=fun pins s σ H Q I h =>
 wpAny_Dict_empty ⟨.ref s.heap.objs.size,_,I.laid (a:=s.heap.objs.size) (o:=DnO s.heap.objs.size []) (t':=s.toks) (fun _ _ q=>Heap.get?_push_of_some _ q) (Zto _)
  (Zkz ⟨beq_eq_false_iff_ne.mpr (Ne.symm (Zt1 I.big)),Zui _,_,#[],0,Heap.get?_push_size _ rfl,⟨rfl,rfl,rfl⟩,rfl,rfl,List.nodup_nil⟩),rfl,h _ (I.hok.fresh (Zto _))⟩
theorem Zbq(hu:X.A.units+4<cLine)(hi:PE X i ty)(ho:PE X o td):PC X .NotIn i o (ZlL (!·) ty td):=by
 intro pins s σ H Q I h
 refine thn (hi pins s σ H _ I h) fun iv s1 ⟨y,H1,I1,ry,q1⟩=>thn (ho pins s1 σ H1 _ I1 q1) fun u s2 ⟨x,H2,I2,rx,a,b,xs,k,ex,ey,d,hk,q2⟩=>?_
 subst ex ey
 obtain rfl:u=Value.ref a:=rx
 obtain rfl:iv=Value.ref b:=ry
 have p:=Zia I2.hok d
 refine wpAny_notIn_heap (knd:=Qb (intKind X.prog X.w)) (by show X.A.units+1+2<cLine;lia) (Zci I2.hok hk) p.1 (ZfL I2.hok p d.2) ?_
 rw[ZcI]
 refine⟨_,H2,I2.tok _, ?_,q2⟩
 rfl
theorem ZeM(hu:X.A.units+4<cLine)(ho:PE X o td)(hi:PE X i ty)(hv:PE X value (tC (.bl true)))(hs:swapsWith value (some (.Subscript o i pos')) pos.line X.env=pure false) :
  PS X (.Assign [.Subscript o i pos'] value pos) (ZjD td ty):=by
 intro pins s σ H D I h
 refine wpAny_Assign_Subscript (thn (hv pins s σ H (fun v H1=>v=.bl true/\H1=H) I ⟨rfl,rfl⟩) fun r s1 ⟨v,H1,I1,rv,ev,eH⟩=>?_) hs
 subst ev eH
 obtain rfl:r=Value.bool true:=rv
 refine thn (ho pins s1 σ H1 _ I1 h) fun u s2 ⟨x,H2,I2,rx,q2⟩=>thn (hi pins s2 σ H2 _ I2 q2) fun iv s3 ⟨y,H3,I3,ry,a,b,xs,k,ex,ey,⟨a',e⟩,hk,hb,hl,q3⟩=>?_
 subst ex ey
 obtain rfl:u=Value.ref a:=rx
 obtain rfl:iv=Value.ref b:=ry
 have p:=(Zib (I3.hok a _ e)).2
 refine wpAny_setItem_heap (knd:=Qb (intKind X.prog X.w)) (hsz:=by rw[US,Ztp];exact p.2.1) (by show X.A.units+1+2<cLine;lia) (Zci I3.hok hb) (ZfL I3.hok p hk) fun h' dd' hs=>?_
 rw[Ze2] at dd'
 obtain⟨q,es,ep,g1,g2,g3,g4,_,g5⟩:=dd'
 refine⟨σ,_,Zji (ob:=DnO a (Zca xs k b)) I3 (by rw[e];exact True.intro) hs ⟨q,g1⟩ (Zkz ⟨p.1, ?_,q,es,ep,g1,g2,g3, ?_, ?_⟩),q3⟩
 ·unfold Zca;split
  ·exact p.2.1
  ·rw[Zt3,List.length_singleton];lia
 ·rw[g4,US,Zut];rfl
 ·rw[US,Zut] at g5;exact g5
theorem hu4{n c:Nat}(h:n+64<c):n+4<c:=by lia
def ZjH:List V->Hp->VK->Prop:=fun xs H Q=>∃p,∃ys:List (KyN×Addr),xs=[.ref p]/\DnA H p ys/\ys.length<=1000000/\Q (.int ys.length) H
theorem ZfZ:Vy X (.builtin "len") ZjH:=by
 intro pins s σ H xs us Q I r h
 obtain⟨p,ys,rfl,hp,hz0,q⟩:=h
 obtain⟨u,rfl,rx⟩:=Za0 r
 cases rx
 obtain⟨nm,z,o,es,ep,h1,h2,h3,h4,h5⟩:=Zia I.hok hp
 have hes:es.size=ys.length:=by rw[<- ZtO,h4,Ztp]
 refine Ziw nm ⟨o,h1,h2,h3⟩ (by lia) ?_
 rw[hes]
 exact⟨.int ys.length,H,I.kept (t':=s.toks+1+1) (fun b o e=>e),⟨_,rfl⟩,q⟩
end
def DTM(K:W.Frag)(EX:PX->Hp->Prop)(Γ:List Md)(i:Nat)(tt:TT)(fm:List PV->Rr (Bool×PV)):Prop:=
 ∀(B:Addr->Prop) (H0 H:Hp) (σ:St) (ρ:List PV) (F:Nat->List Addr) (Q:Bool->Hp->Prop),Ag K B H0 H σ Γ ρ F [] ->
  Dn (fm ρ) (fun r=>∀H' F',Frm H F H' F'->Ag K B H0 H' σ Γ (ρ.set i r.2) F' []->Q r.1 H') (fun e=>∀H',Z5 H0 H'->EX e H')->tt σ H Q
section
variable {K:W.Frag}{EX:PX->Hp->Prop}{Γ:List Md}{Y:Tys}{tt:TT}{t u:TS}{g g':List PV->RS}{fc:List PV->Rr (Bool×PV)}{i:Nat}
noncomputable def rB(r:Rr PV)(y:PV):Rr (Bool×PV):=(r.bind asB).bind fun b=>.ok (b,y)
theorem Dn.rB{r:Rr PV}{y:PV}{ok:Bool×PV->Prop}{ex:PX->Prop}(hr:∀e,r≠.exc e)(d:Dn (rB r y) ok ex):∃b,r=.ok (.bl b)/\ok (b,y):=by
 unfold L2.rB at d
 cases r with
 |bad=>exact d.elim
 |exc e=>exact absurd rfl (hr e)
 |ok x =>
  have d1:Dn ((L2.asB x).bind fun b=>.ok (b,y)) ok ex:=d
  obtain⟨b,rfl,d2⟩:=d1.bind.asB
  exact⟨b,rfl,d2⟩
theorem Zky(hc:DTM K EX Γ i tt fc)(h1:DS K EX Γ Y t g)(h2:DS K EX Γ Y u g'):DS K EX Γ Y (Zld tt t u) (fun ρ=>(fc ρ).thenS fun r=>if r.1=true then g (ρ.set i r.2) else g' (ρ.set i r.2)):=fun B H0 H σ ρ F D A d=>by
 refine hc B H0 H σ ρ F _ A (d.thenS.imp (fun r _ d H1 F1 fr A1=>?_) fun e q=>q)
 obtain⟨b,y⟩:=r
 cases b with
 |true=>exact h1 B H0 H1 σ _ F1 D A1 (DnS.shift fr d)
 |false=>exact h2 B H0 H1 σ _ F1 D A1 (DnS.shift fr d)
end
noncomputable def JK(k:KyN):PV:=.tup [.tup (k.1.map PV.int),.int k.2]
noncomputable def QA:PV->Option KyN
 |.tup [.tup xs,.int j]=>(V1 xs).map fun ns=>(ns,j)
 |_=>none
noncomputable def VA:List PV->Option (List KyN)
 |[]=>some []
 |x::xs=>match QA x,VA xs with
  |some k,some ks=>some (k::ks)
  |_,_=>none
theorem Q9{x:PV}{k:KyN}(h:QA x=some k):x=JK k:=by
 unfold QA at h
 split at h
 ·rename_i xs j
  cases e:V1 xs with
  |none=>rw[e] at h;cases h
  |some ns=>rw[e] at h;cases h;rw[VF e];rfl
 ·cases h
theorem VP:∀{xs:List PV}{ks:List KyN},VA xs=some ks->xs=ks.map JK
 |[],ks,h=>by cases h;rfl
 |x::xs,ks,h=>by
  unfold VA at h
  split at h
  ·rename_i k ks' h1 h2
   cases h
   rw[Q9 h1,VP h2];rfl
  ·cases h
@[simp] theorem Zdi(k:KyN):QA (JK k)=some k:=by simp[QA,JK]
@[simp] theorem Vq:∀ks:List KyN,VA (ks.map JK)=some ks
 |[]=>rfl
 |k::ks=>by simp[VA,Vq ks]
theorem Zcw(ks:List KyN):PV.flats (ks.map JK)=true:=PV.flats_all.mpr (by
 intro x hx
 obtain⟨k,_,rfl⟩:=Ztx.mp hx
 simp[JK,PV.flat,PV.flats,PV.flats_ints])
section
variable {K:W.Frag}{H:Hp}{S:Addr->Prop}
theorem Za4{k:KyN}{v:V}(h:Rep K H S (JK k) v):∃b,v=.ref b/\Zii H k b:=by
 obtain⟨b,vs,rfl,h1,v1,r1,rfl,h2,v2,r2,rfl,h3,rfl⟩:=h
 obtain⟨c,us,rfl,h4,h5⟩:=h2
 cases h3
 rw[Qv h5] at h4
 exact⟨b,rfl,c,h1.1,h4.1⟩
theorem UG:∀{ks:List KyN}{bs:List Addr},Reps K H S (ks.map JK) (bs.map V.ref)->∀x∈ks.zip bs,Zii H x.1 x.2
 |[],_,_,x,hx=>by simp at hx
 |k::ks,[],_,x,hx=>by simp at hx
 |k::ks,b::bs,h,x,hx=>by
  obtain⟨v,r,e,h1,h2⟩:=h
  cases e
  rcases Zts.mp hx with rfl|hx
  ·obtain⟨b',e,hk⟩:=Za4 h1
   cases e
   exact hk
  ·exact UG h2 x hx
end
theorem ZbQ{α β:Type}:∀{xs:List α}{ys:List β},xs.length=ys.length->(xs.zip ys).map (·.1)=xs
 |[],_,_=>by simp
 |x::xs,y::ys,h=>by simp[ZbQ (xs:=xs) (ys:=ys) (by simpa using h)]
 |x::xs,[],h=>by simp at h
section
variable {K:W.Frag}{B:Addr->Prop}{EX:PX->Hp->Prop}{H0 H H':Hp}{σ:St}{Γ Γ1 Γ2 Γ3:List Md}{ρ:List PV}{F F':Nat->List Addr}{R:List Addr}{ta tb:TE}{f fa fb:List PV->Rr PV}{k:Kd}
theorem Zd8:DE K EX Γ Γ .F Zh1 (fun _=>.ok (.box none (.dn []) [])):=fun B H0 H σ ρ F R Q A d p hp =>
 d _ _ (Z5.new hp) (Res.newBox (S:=fun _=>True) (vs:=[]) (Z5.refl _) (fun _ _ h=>h) ⟨p,[],rfl,rfl,rfl⟩ rfl rfl A hp)
noncomputable def ZjO(g:Bool->Bool)(y x:PV):Rr PV:=match x with
 |.box _ (.dn ks) xs=>if VA xs=some ks then match QA y with
  |some k=>.ok (.bl (g (decide (k∈ks))))
  |none=>.bad
  else .bad
 |_=>.bad
theorem Zi6{g:Bool->Bool}{k:KyN}{p:Option Addr}{ks:List KyN}:ZjO g (JK k) (.box p (.dn ks) (ks.map JK))=.ok (.bl (g (decide (k∈ks)))):=by
 simp only[ZjO,Vq,if_true,Zdi]
theorem Zh6{p:Option Addr}{ks:List KyN}{v:V}{S:Addr->Prop}(h:Rep K H S (.box p (.dn ks) (ks.map JK)) v):∃a bs,v=.ref a/\ks.length=bs.length/\DnA H a (ks.zip bs):=by
 obtain⟨a,vs,u,rfl,hr,⟨_,a',bs,rfl,hl,rfl⟩,hxs⟩:=h
 exact⟨a,bs,rfl,hl,⟨a',hr.1⟩,UG hxs⟩
theorem Zic{g:Bool->Bool}(ha:DE K EX Γ Γ1 .A ta fa)(hb:DE K EX Γ1 Γ2 .A tb fb):DE K EX Γ Γ2 .P (ZlL g ta tb) (fun ρ=>(fa ρ).bind fun y=>(fb ρ).bind fun x=>ZjO g y x):=fun B H0 H σ ρ F R Q A d=>by
 refine two ha hb A d.bind2 fun y x w v H' F' d s f py px A'=>?_
 unfold ZjO at d
 split at d
 ·rename_i p ks xs
  split at d
  ·rename_i e
   split at d
   ·rename_i kk ek
    rw[VP e] at px
    rw[Q9 ek] at py
    obtain⟨a,bs,rfl,hl,hd⟩:=Zh6 px
    obtain⟨b,rfl,hb⟩:=Za4 py
    exact⟨a,b,_,kk,rfl,rfl,hd,hb,by rw[ZbQ hl];exact d _ _ s ⟨F',f,rfl,rfl,A'⟩⟩
   ·exact d.elim
  ·exact d.elim
 ·exact d.elim
noncomputable def ZeY(x y:PV):Rr PV:=match x with
 |.box p (.dn ks) xs=>if VA xs=some ks/\ks.length<1000000 then match QA y with
  |some k=>.ok (.box p (.dn (JA ks k)) ((JA ks k).map JK))
  |none=>.bad
  else .bad
 |_=>.bad
theorem ZgF{k:KyN}{p:Option Addr}{ks:List KyN}(h:ks.length<1000000):ZeY (.box p (.dn ks) (ks.map JK)) (JK k)=.ok (.box p (.dn (JA ks k)) ((JA ks k).map JK)):=by
 simp only[ZeY,Vq,h,and_self,if_true,Zdi]
theorem Zd3{i:Nat}(hm:Γ[i]?=some .O)(hk:DE K EX Γ Γ .A tb fb) :
  DS K EX Γ ⟨Γ,Γ2,Γ3,k⟩ (ZjD (Zab i) tb) (fun ρ=>(fb ρ).thenS fun y=>(ZeY (gv i ρ) y).thenS fun x=>.next (ρ.set i x)):=fun B H0 H σ ρ F D A d=>by
 obtain⟨v,h1,h2⟩:=A.getO hm
 refine⟨v,h1,hk B H0 H σ ρ F [] _ A (d.thenS.imp (fun y _ d yv H2 s2 r2=>?_) fun e q=>q)⟩
 obtain⟨F2,f2,p2,A2⟩:=r2
 obtain⟨v',h1',h2'⟩:=A2.getO hm
 rw[h1] at h1';cases h1'
 have d:=d.thenS
 unfold ZeY at d
 split at d
 ·rename_i p ks xs er
  split at d
  ·rename_i hc
   split at d
   ·rename_i kk ek
    rw[show ρ.getD i .non=.box p (.dn ks) xs from er,VP hc.1] at h2'
    rw[Q9 ek] at p2
    obtain⟨a,vs,u,G,rfl,hH,⟨hpn,a',bs,rfl,hl,rfl⟩,ht,hn,hF⟩:=h2'
    have pr:=p2
    obtain⟨b,rfl,hb⟩:=Za4 p2
    have hr:Reps K H2 (fun _=>True) (ks.map JK) (bs.map V.ref):=ht.reps fun _ _=>trivial
    let bs':=if kk∈ks then bs else bs++[b]
    have e1:(JA ks kk).zip bs'=Zca (ks.zip bs) kk b:=by
     unfold Zca
     rw[ZbQ hl]
     show (JA ks kk).zip (if kk∈ks then bs else bs++[b])=_
     unfold JA
     by_cases c:kk∈ks
     ·rw[if_pos c,if_pos c,if_pos c]
     ·rw[if_neg c,if_neg c,if_neg c,List.zip_append hl];rfl
    have e2:(JA ks kk).length=bs'.length:=by
     show (JA ks kk).length=(if kk∈ks then bs else bs++[b]).length
     unfold JA
     by_cases c:kk∈ks
     ·rw[if_pos c,if_pos c,hl]
     ·rw[if_neg c,if_neg c];simp[hl]
    have e3:Reps K H2 (fun _=>True) ((JA ks kk).map JK) (bs'.map V.ref):=by
     show Reps K H2 (fun _=>True) ((JA ks kk).map JK) ((if kk∈ks then bs else bs++[b]).map V.ref)
     unfold JA
     by_cases c:kk∈ks
     ·rw[if_pos c,if_pos c];exact hr
     ·rw[if_neg c,if_neg c,ZtE,ZtE]
      exact Reps.append hr (Reps.one pr)
    have haF:a∈F2 i:=by rw[hF];simp
    refine⟨a,b,ks.zip bs,kk,rfl,rfl,⟨a',hH⟩,UG hr,hb, ?_, ?_⟩
    ·rw[List.length_zip,<- hl,Nat.min_self];exact Ztm hc.2 (by decide)
    ·rw[<- e1]
     obtain⟨lv,hlv⟩:=A2.live i a haF
     refine d σ _ (Vo F2 i (a::[])) (QI s2 f2 haF fun b hb=>?_) (Ag.chgB (G:=[]) (R:=[]) (show Lvo (DnO a ((JA ks kk).zip bs')) from trivial) A2 hm haF (fun b hb=>?_) (by simp) ?_)
     ·rw[Zt0.mp hb];exact .inr ⟨i,f2 i a haF⟩
     ·rw[Zt0.mp hb];exact .inl haF
     ·exact⟨_,h1,a,bs'.map V.ref,_,[],rfl,ZD,⟨hpn,a,bs',rfl,e2,rfl⟩,Trees.putL hlv (by simp) (Reps.trees (Zcw _) e3),by simp,rfl⟩
   ·exact d.elim
  ·exact d.elim
 ·exact d.elim
end
noncomputable def Zfa(xs:List PV):Rr PV:=match xs with
 |[.box _ (.dn ks) ys]=>if VA ys=some ks/\ks.length<=1000000 then .ok (.int ks.length) else .bad
 |_=>.bad
theorem ZgH{p:Option Addr}{ks:List KyN}(hz:ks.length<=1000000):Zfa [.box p (.dn ks) (ks.map JK)]=.ok (.int ks.length):=if_pos ⟨Vq ks,hz⟩
section
variable {K:W.Frag}{EX:PX->Hp->Prop}{Γ Γ':List Md}{ta:TA}{fa:List PV->Rr (List PV)}
theorem Zjg(ha:DAA K EX Γ Γ' ta fa):DE K EX Γ Γ' .P (tCB ZjH ta) (fun ρ=>(fa ρ).bind Zfa):=by
 refine Zem (fun {H xs vs Q} h z e=>?_) (fun xs e h=>?_) ha
 ·unfold Zfa at e
  split at e
  ·rename_i p ks ys
   split at e
   ·rename_i hc
    cases e
    rw[VP hc.1] at h
    obtain⟨v,rfl,hr⟩:=UT h
    obtain⟨a,bs,rfl,hl,hd⟩:=Zh6 hr
    have:(ks.zip bs).length=ks.length:=by rw[List.length_zip];lia
    refine⟨rfl,fun q=>⟨a,_,rfl,hd,by lia, ?_⟩⟩
    rw[this]
    exact q _ rfl
   ·cases e
  ·cases e
 ·unfold Zfa at h
  split at h
  ·split at h<;>cases h
  ·cases h
end
section
variable {X:Cx}{K:W.Frag}
noncomputable def ZlP(K:W.Frag):R2:=fun x y H Q=>∃a b c d ns ms i j,x=.ref a/\y=.ref b/\SqT K H a [.ref c,.int i]/\SqT K H b [.ref d,.int j]/\SqL K H c (ns.map V.int)/\SqL K H d (ms.map V.int)/\Q (.bl (HL.Jg (ns,i) (ms,j))) H
theorem ZhN(hu:X.A.units+64<cLine)(e:X.K=K:=by rfl):OpR X (compareOp .Lt) (ZlP K):=by
 subst e
 intro pins s σ H x y v u Q I rx ry h
 obtain⟨a,b,p,p',ns,ms,i,j,rfl,rfl,hT,hT',hL,hL',q⟩:=h
 cases rx;cases ry
 obtain⟨z,r1,p1,_⟩:=I.tuple hT
 obtain⟨z2,r2,p2,_⟩:=I.tuple hT'
 obtain⟨c,rfl⟩:=Zbs r1
 obtain⟨c',rfl⟩:=Zbs r2
 obtain⟨m,r3,p3,_⟩:=I.list hL
 obtain⟨m2,r4,p4,_⟩:=I.list hL'
 have hEq:SeqAt.EqAt X.A.in1 s (.ref p) (.ref p') (decide (ns=ms)):=by
  by_cases hab:p=p'
  ·rw[<- hab] at hL' ⊢
   rw[decide_eq_true (ZgY (I.list_inj hL hL'))]
   exact SeqAt.EqAt.same _
  ·exact SeqAt.EqAt.of_refs hab (Zcx (by show X.A.units+1<cLine;lia) p3.isList p4.isList r3 r4)
 have hLt:∀(prog:Program) (w:World) (E:Value->Shared->Prop) (Q:Value->Shared->Prop),Q (.bool (HT.ZZ ns ms)) s->wpAny (model prog w) X.A.in1 (richCompare .Lt (.ref p) (.ref p')) Q E s:=fun prog w E Q hq =>
  HL.ZdU p3.isList p4.isList (by simpa using Vi r3) (by simpa using Vi r4) (by show X.A.units+1<cLine;lia) hq
 obtain⟨⟨cls,dd,data,sl⟩,ho,hc1,n,hd⟩:=id p1
 obtain⟨⟨cls2,dd2,data2,sl2⟩,ho2,hc2,n2,hd2⟩:=id p2
 simp only at hc1 hd hc2 hd2
 subst hc1 hd hc2 hd2
 have hv:(if decide (ns=ms)=true then decide (i<j) else HT.ZZ ns ms)=HL.Jg (ns,i) (ms,j):=by
  unfold HL.Jg
  by_cases e:ns=ms
  ·rw[if_pos (decide_eq_true e),if_pos e]
  ·rw[if_neg (by simp[e]),if_neg e]
 have hQ2:EP X pins σ Q (Value.bool (if decide (ns=ms)=true then decide (i<j) else HT.ZZ ns ms)) s:=by rw[hv];exact⟨.bl _,H,I,rfl,q⟩
 exact richCompare_meets_room (op:=.Lt) ⟨_,ho,rfl⟩ ⟨_,ho2,rfl⟩ PySem.F.slot_tuple_lt PySem.F.entry_tuple_lt (PySem.F.args_tuple_lt_2 _ _)
  (HL.Zi4 a b p p' i j c c' n n2 dd dd2 sl sl2 (decide (ns=ms)) (HT.ZZ ns ms))
  ⟨ho,ho2,hEq,hLt,⟨(fun x=>nomatch x),hQ2⟩⟩ (by lia)
variable {EX:PX->Hp->Prop}{Γ Γ1 Γ2:List Md}{tb tc:TE}{fb fc:List PV->Rr PV}{H:Hp}
noncomputable def Zi7(x y:PV):Rr PV:=match x,y with
 |.tup [.lst xs,.int i],.tup [.lst ys,.int j]=>match V1 xs,V1 ys with
  |some ns,some ms=>.ok (.bl (HL.Jg (ns,i) (ms,j)))
  |_,_=>.bad
 |_,_=>.bad
theorem Zbl{S:Addr->Prop}{ns:List Int}{i:Int}{v:V}(h:Rep K H S (.tup [.lst (ns.map PV.int),.int i]) v):∃a c,v=.ref a/\SqT K H a [.ref c,.int i]/\SqL K H c (ns.map V.int):=by
 obtain⟨b,vs,rfl,h1,v1,r1,rfl,h2,v2,r2,rfl,h3,rfl⟩:=h
 obtain⟨c,rfl,h4⟩:=Za5 h2
 cases h3
 exact⟨b,c,rfl,h1.sqT,h4⟩
theorem Zid(ha:DE K EX Γ Γ1 .A tb fb)(hb:DE K EX Γ1 Γ2 .A tc fc):DE K EX Γ Γ2 .P (tOp (ZlP K) tb tc) (fun ρ=>(fb ρ).bind fun x=>(fc ρ).bind fun y=>Zi7 x y):=by
 refine Zhi (fun {H x y v w Q} rx ry ⟨z,e,q⟩=>?_) (fun x y z h=>?_) (fun x y e h=>?_) ha hb
 ·unfold Zi7 at e
  split at e
  ·split at e
   ·rename_i ns ms h1 h2
    cases e
    rw[VF h1] at rx
    rw[VF h2] at ry
    obtain⟨a,c,rfl,h3,h3'⟩:=Zbl rx
    obtain⟨b,d,rfl,h4,h4'⟩:=Zbl ry
    exact⟨a,b,c,d,ns,ms,_,_,rfl,rfl,h3,h4,h3',h4',q rfl _ rfl⟩
   ·cases e
  ·cases e
 ·unfold Zi7 at h
  split at h
  ·split at h
   ·cases h;rfl
   ·cases h
  ·cases h
 ·unfold Zi7 at h
  split at h
  ·split at h<;>cases h
  ·cases h
end
section
variable {K:W.Frag}{EX:PX->Hp->Prop}{Γ Γ1 Γ2:List Md}{k:Kd}{te ts:TE}{tt:TT}{f:List PV->Rr PV}{fm:List PV->Rr (PV×PV)}{fc:List PV->Rr (Bool×PV)}{i l:Nat}
theorem ZiT{i:Nat}(h:DTM K EX Γ i tt fc):DTM K EX Γ i (Zlb tt) (fun ρ=>(fc ρ).bind fun r=>.ok (!r.1,r.2)):=fun B H0 H σ ρ F Q A d =>
 h B H0 H σ ρ F _ A (d.bind.imp (fun r _ d=>d) fun e q=>q)
theorem ZiS(he:DM K EX Γ i te fm):DTM K EX Γ i (tB te) (fun ρ=>(fm ρ).bind fun r=>rB (.ok r.1) r.2):=fun B H0 H σ ρ F Q A d=>by
 refine he B H0 H σ ρ F _ A (d.bind.imp (fun r _ d v H1 F1 G fr t1 h1 A1=>?_) fun e q=>q)
 obtain⟨b,e,d⟩:=Dn.rB (fun e q=>by cases q) d
 injection e with e
 rw[e] at t1
 exact⟨b,t1.1,d H1 F1 fr (A1.less (by simp))⟩
theorem Zja(he:DM K EX Γ i te fm)(hs:DE K EX Γ Γ .F ts f):DM K EX Γ i (ZkM (V6 te (V6 ts ZbT))) (fun ρ=>(fm ρ).bind fun r=>(grd r.1).bind fun x=>(f (ρ.set i r.2)).bind fun y=>.ok (.tup [x,y],r.2)):=fun B H0 H σ ρ F Q A d=>by
 refine he B H0 H σ ρ F _ A (d.bind.imp (fun r _ d v H1 F1 G fr t1 h1 A1=>?_) fun e q=>q)
 unfold grd at d
 split at d
 ·rename_i hf
  have A1':=A1.less (R':=[]) (by simp)
  have d:Dn ((f (ρ.set i r.2)).bind fun y=>Rr.ok (PV.tup [r.1,y],r.2)) _ _:=d
  refine hs B H0 H1 σ (ρ.set i r.2) F1 [] _ A1' (d.bind.imp (fun y _ d u H2 s2 r2=>?_) fun e q=>q)
  obtain⟨F2,f2,G2,t2,o2,A2⟩:=r2
  refine⟨by show 2<=sizeLine;decide,fun p hp=>?_⟩
  have e:Z5 H2 (upd H2 p (.tup [v,u])):=Z5.new hp
  refine d _ _ F2 G2 (fun b o hb n=>?_) ⟨p,[v,u],rfl,⟨ZD,trivial⟩,v,[u],[],G2,rfl,((t1.flatG hf).same s2).same e,⟨u,[],G2,[],rfl,t2.same e,⟨rfl,rfl⟩,by simp,by simp⟩,by simp,rfl⟩ (fun b hb=>?_) (A2.grow e)
  ·obtain⟨q1,q2⟩:=fr b o hb n
   exact⟨e b o (s2 b o q1),fun j z=>q2 j (f2 j b z)⟩
  ·by_cases c:∃j,b∈F j
   ·exact .inr c
   ·left
    cases hb':H b with
    |none=>rfl
    |some o =>
     obtain⟨q1,q2⟩:=fr b o hb' (fun j z=>c ⟨j,z⟩)
     rcases (o2 b hb).2 with z|⟨j,z⟩
     ·rw[q1] at z;cases z
     ·exact(q2 j z).elim
 ·exact d.elim
theorem ZiU(hm:Γ[l]?=some .O)(hil:l≠i)(he:DM K EX Γ i te fm) :
  DS K EX Γ ⟨Γ,Γ1,Γ2,k⟩ (Zbf (tBM K "list" ZeK (Zab l) (V6 te ZbT))) (fun ρ=>(asL (gv l ρ)).thenS fun xs=>(fm ρ).thenS fun r=>(pExt xs r.1).thenS fun z=>.next ((ρ.set i r.2).set l z)):=fun B H0 H σ ρ F D A d=>by
 obtain⟨v,h1,h2⟩:=A.getO hm
 refine⟨v,h1, ?_⟩
 obtain⟨xs,e1,d⟩:=Dn.asL d.thenS
 rw[show ρ.getD l .non=.lst xs from e1] at h2
 obtain⟨a,vs,G,rfl,hH,ht,hn,hF⟩:=h2
 refine⟨.inl ⟨rfl,_,SqL.of hH⟩,he B H0 H σ ρ F _ A (d.thenS.imp (fun r _ d w H2 F2 G2 fr y1 y2 A2=>?_) fun e q=>q)⟩
 obtain⟨ys,e2,hlen,d⟩:=Dn.pExt d.thenS
 rw[e2] at y1
 obtain⟨b,zs,G3,rfl,hb,hz,hnb,rfl⟩:=y1
 obtain⟨v',h1',h2'⟩:=A2.getO hm
 rw[h1] at h1';cases h1'
 have el:(ρ.set i r.2).getD l .non=.lst xs:=by
  rw[Ztf,Ztl (Ne.symm hil),<- Ztf];exact e1
 rw[el] at h2'
 obtain⟨a',vs',G',e,hH',ht',hn',hF'⟩:=h2'
 cases e
 have hd:∀c∈F2 l,c ∉ b::G3:=fun c hc z=>A2.disjR l c hc (by simpa using z)
 have haF:a∈F2 l:=by rw[hF'];simp
 refine⟨a,b,vs',zs,rfl,rfl,hH',hb,by rw[ht'.length,hz.length];exact Qg hlen, ?_⟩
 have na3:a ∉ G3:=fun z=>hd a haF (by simp[z])
 have tr:Trees K (upd H2 a (.lst (vs'++zs))) (xs++ys) (vs'++zs) (G'++G3):=Trees.append (ht'.put hH' hn') (hz.put hH' na3) (fun c hc z=>hd c (by rw[hF'];simp[hc]) (by simp[z]))
 have hsub:∀c∈a::(G'++G3),c∈F2 l\/c∈b::G3:=fun c hc=>by
  rcases Zts.mp hc with z|z
  ·exact .inl (by rw[z];exact haF)
  ·rcases Zti.mp z with z|z
   ·exact .inl (by rw[hF'];simp[z])
   ·exact .inr (by simp[z])
 refine d σ _ (Vo F2 l (a::(G'++G3))) (fun c o h n=>?_) (Ag.chg (G:=b::G3) (R:=[]) A2 hm haF hsub (by simp) ⟨_,h1,a,_,G'++G3,rfl,ZD,tr,fun z=>(Zti.mp z).elim hn' na3,rfl⟩)
 obtain⟨q1,q2⟩:=fr c o h n
 have hne:c≠a:=fun z=>q2 l (z▸haF)
 refine⟨by rw[Z1 hne];exact q1,fun j z=>?_⟩
 by_cases q:j=l
 ·subst q;rw[Zu] at z
  rcases hsub c z with w|w
  ·exact q2 j w
  ·rcases y2 c w with w|⟨m,w⟩
   ·rw[h] at w;cases w
   ·exact n m w
 ·rw[Z6 q] at z;exact q2 j z
end
end L2
namespace L2
noncomputable def Zks(p s:Int):Int:=p*s%(p+1)
noncomputable def ZlZ(p s:Int):Int:=p*s/(p+1)
noncomputable def Ziv(s:Int):Nat->Int
 |0=>s
 |k+1=>ZlZ (k+1) (Ziv s k)
noncomputable def Zkv(s:Int)(n:Nat):List Int:=(List.range n).map fun(k:Nat)=>Zks (k+1) (Ziv s k)
noncomputable def Zj0(s:Int):Nat->Nat->Nat
 |0,k=>k
 |n+1,k=>if 0<Ziv s k then Zj0 s n (k+1) else k
noncomputable def Zmf(s:Int):Nat:=Zj0 s s.toNat 0
noncomputable def ZkV(s:Int):List Int:=Zkv s (Zmf s)
def Zgn(ns:List Int):Prop:=(∀x∈ns,0<=x)/\ns.length<=200/\ns.sum<=10000/\(ns=[]\/ns.getD (ns.length-1) 0≠0)
noncomputable instance (ns:List Int):Decidable (Zgn ns):=by unfold Zgn;infer_instance
def Zik(ns:List Int):Prop:=Zgn ns/\ns=ZkV ns.sum
noncomputable instance (ns:List Int):Decidable (Zik ns):=by unfold Zik;infer_instance
noncomputable def s2(ns:List Int)(r:Nat):Nat->Int
 |0=>0
 |i+1=>s2 ns r i+if i%2=r then ns.getD i 0 else 0
theorem QG{ns:List Int}{i:Nat}(h:i<ns.length):ns.getD i 0∈ns:=by
 rw[Ztf,Zth h];exact Zum _
noncomputable def hs:Nat->Nat->Int->List Int
 |_,0,_=>[]
 |k,m+1,l=>Zks (k+1) l::hs (k+1) m (ZlZ (k+1) l)
noncomputable def s3(ns:List Int)(r:Nat):Nat->Int
 |0=>0
 |i+1=>s3 ns r i+if i%3=r then ns.getD i 0 else 0
def Zij(ns:List Int):Prop:=(∀x∈ns,0<=x)/\ns.length<=100/\ns.sum<=100/\(ns=[]\/(ns.getD 0 0≠0/\ns.getD (ns.length-1) 0≠0))
noncomputable instance (ns:List Int):Decidable (Zij ns):=by unfold Zij;infer_instance
theorem ZaN{ns:List Int}{i:Nat}(h:ns.length<=i):ns.getD i 0=0:=by
 rw[Ztf,Ztt h];rfl
theorem ZfE{ns:List Int}(h:∀x∈ns,0<=x)(i:Nat):0<=ns.getD i 0:=by
 by_cases z:i<ns.length
 ·exact h _ (QG z)
 ·rw[ZaN (by lia)];lia
theorem sum_nn:∀{ns:List Int},(∀x∈ns,0<=x)->0<=ns.sum
 |[],_=>by simp
 |x::xs,h=>by
  have:=h x (by simp)
  have:=sum_nn (ns:=xs) (fun y hy=>h y (by simp[hy]))
  simp;lia
theorem ZbU:∀{l:List Int}{i:Nat}{v:Int},i<l.length->(l.set i v).sum=l.sum-l.getD i 0+v
 |[],_,_,h=>by simp at h
 |x::xs,0,v,_=>by simp;lia
 |x::xs,i+1,v,h=>by
  have:=ZbU (l:=xs) (i:=i) (v:=v) (by simpa using h)
  simp only[ZtM,ZtS,List.getD_cons_succ]
  lia
theorem getD_set{l:List Int}{i j:Nat}{v:Int}(h:i<l.length):(l.set i v).getD j 0=if i=j then v else l.getD j 0:=by
 simp only[Ztf,List.getElem?_set,if_pos h]
 split<;>rfl
theorem mem_getD{l:List Int}{x:Int}(h:x∈l):∃i,i<l.length/\x=l.getD i 0:=by
 obtain⟨i,hi,rfl⟩:=List.getElem_of_mem h
 exact⟨i,hi,by rw[Ztf,Zth hi];rfl⟩
noncomputable def QS(ns:List Int)(k:Nat):Int:=ns.getD k 0%10^61
noncomputable def Uz(ns:List Int)(later m:Nat):Nat->List Int
 |0=>List.replicate m 0
 |i+1=>(Uz ns later m i).set (i%m) (((Uz ns later m i).getD (i%m) 0*3+ns.getD (later+i) 0%10^61)%10^62)
@[simp] theorem UO(ns:List Int)(later m:Nat):∀i,(Uz ns later m i).length=m
 |0=>by simp[Uz]
 |i+1=>by rw[Uz,ZtH,UO]
theorem ZcM(ns:List Int)(later m:Nat):∀i,∀x∈Uz ns later m i,0<=x/\x<10^62
 |0=>fun x hx=>by rw[Uz] at hx;rw[List.eq_of_mem_replicate hx];decide
 |i+1=>fun x hx=>by
  rw[Uz] at hx
  rcases Zuk hx with h|h
  ·exact ZcM ns later m i x h
  ·rw[h];lia
theorem ZiP{l:List Int}{P:Int->Prop}(h:∀x∈l,P x)(h0:P 0)(i:Nat):P (l.getD i 0):=by
 by_cases q:i<l.length
 ·rw[Ztf,Zth q];exact h _ (Zum q)
 ·rw[ZaN (by lia)];exact h0
noncomputable def Ze7(ns:List Int)(later m:Nat):List Int:=Uz ns later m (ns.length-later)
noncomputable def ZkN(c j:Int):Int:=((c%2147483647+1009*j+7)*48271%2147483647)*((c%2147483647+1009*j+7)*48271%2147483647)%998244353/8
noncomputable def cbI(s:Int):Nat->Int
 |0=>1
 |k+1=>cbI s k*(s+((k:Int)+1))/((k:Int)+1)
theorem ZdF{s:Int}(h:0<=s):∀k,0<=cbI s k
 |0=>by simp[cbI]
 |k+1=>by
  rw[cbI]
  exact Int.ediv_nonneg (Int.mul_nonneg (ZdF h k) (by lia)) (by lia)
theorem ZfX{s:Int}(h:0<=s)(h1:s<=10^60):∀k:Nat,k<=1000->cbI s k<=(10^61)^k
 |0,_=>by simp[cbI]
 |k+1,hk=>by
  have ih:=ZfX h h1 k (by lia)
  have nn:=ZdF h k
  rw[cbI]
  have e1:cbI s k*(s+((k:Int)+1))<=(10^61)^k*10^61:=Int.mul_le_mul ih (by lia) (by lia) (Int.pow_nonneg (by decide))
  have e2:cbI s k*(s+((k:Int)+1))/((k:Int)+1)<=cbI s k*(s+((k:Int)+1)):=Int.ediv_le_self _ (Int.mul_nonneg nn (by lia))
  rw[Int.pow_succ]
  lia
noncomputable def cbN(p s:Int):Int:=if s<0 then 0 else cbI s (p-1).toNat
theorem ZbG{s:Int}(h:0<=s)(h1:s<=10^60){k:Nat}(hk:k<=24):(cbI s k).natAbs<2^60000:=by
 have h2:=ZfX h h1 k (by lia)
 have h3:=ZdF h k
 have h4:((10:Int)^61)^k<=(10^61)^24:=by
  have:((10:Nat)^61)^k<=(10^61)^24:=ZtN (by decide) hk
  exact_mod_cast this
 have h5:((10:Int)^61)^24=10^1464:=by rw[<- Int.pow_mul]
 have h6:(cbI s k).natAbs<=10^1464:=by
  have:cbI s k<=10^1464:=by rw[<- h5];exact ZuH h2 h4
  have e:((cbI s k).natAbs:Int)=cbI s k:=Int.natAbs_of_nonneg h3
  have:((cbI s k).natAbs:Int)<=((10^1464:Nat):Int):=by rw[e];exact_mod_cast this
  exact_mod_cast this
 have h7:10^1464<2^60000:=by
  calc (10:Nat)^1464<=(2^4)^1464:=Zu5 (by decide) _
   _=2^5856:=by rw[<- Nat.pow_mul]
   _<2^60000:=Zu2 (by decide) (by decide)
 lia
theorem ZfV{p s:Int}(hp:p<=24)(hs:s<=10^60):(cbN p s).natAbs<2^60000:=by
 unfold cbN
 split
 ·exact Ztm (show 0<2^1 by decide) (ZtN (by decide) (by decide))
 ·exact ZbG (by lia) hs (by lia)
noncomputable def bN:Nat->Nat->Nat
 |0=>fun _=>1
 |s+1=>fun k=>Nat.rec 1 (fun k ih=>bN s (k+1)+ih) k
@[simp] theorem Zml(s:Nat):bN s 0=1:=by cases s<;>rfl
@[simp] theorem Zmk(k:Nat):bN 0 k=1:=by exact id rfl
theorem ZaX(s k:Nat):bN (s+1) (k+1)=bN s (k+1)+bN (s+1) k:=rfl
theorem Zie:∀s k,1<=bN s k
 |0,k=>Zto _
 |s+1,0=>by simp
 |s+1,k+1=>by rw[ZaX];have:=Zie s (k+1);lia
theorem Zif:∀n s k,s+k=n->(k+1)*bN s (k+1)=(s+k+1)*bN s k/\(s+1)*bN (s+1) k=(s+k+1)*bN s k:=by
 intro n
 induction n using Nat.strongRecOn with
 |ind n ih =>
  intro s k h
  constructor
  ·cases s with
   |zero=>simp
   |succ s =>
    have h1:=(ih (s+k) (by lia) s k rfl).1
    have h2:=(ih (s+k) (by lia) s k rfl).2
    rw[ZaX,Nat.mul_add,h1,<- h2,<- Nat.add_mul]
    congr 1
  ·cases k with
   |zero=>simp
   |succ k =>
    have h1:=(ih (s+k) (by lia) s k rfl).1
    have h2:=(ih (s+k) (by lia) s k rfl).2
    rw[ZaX,Nat.mul_add,h2,<- h1,<- Nat.add_mul]
    congr 1
    lia
theorem ZdG(s:Nat):∀k:Nat,cbI s k=(bN s k:Nat)
 |0=>by simp[cbI]
 |k+1=>by
  have h:=(Zif (s+k) s k rfl).1
  rw[cbI,ZdG s k]
  have e:((bN s k:Nat):Int)*((s:Int)+((k:Int)+1))=((k:Int)+1)*(bN s (k+1):Nat):=by
   have:(((k+1)*bN s (k+1):Nat):Int)=(((s+k+1)*bN s k:Nat):Int):=by rw[h]
   rw[Int.natCast_mul,Int.natCast_mul] at this
   rw[show ((k:Int)+1)=((k+1:Nat):Int) by lia,this,ZuA]
   congr 1
  rw[e,Int.mul_ediv_cancel_left _ (by lia)]
theorem QT{p s:Int}(hs:0<=s):cbN p s=(bN s.toNat (p-1).toNat:Nat):=by
 unfold cbN
 rw[if_neg (by lia)]
 have:=ZdG s.toNat (p-1).toNat
 rwa [Zt5 hs] at this
theorem Vw{p s:Int}(hs:s<0):cbN p s=0:=if_pos hs
theorem Zaw(p s:Int):0<=cbN p s:=by
 by_cases h:s<0
 ·rw[Vw h];exact ZtZ _
 ·rw[QT (by lia)];lia
theorem ZfW{p s:Int}(hs:0<=s):1<=cbN p s:=by
 rw[QT hs]
 have:=Zie s.toNat (p-1).toNat
 lia
theorem ZaU{s:Int}(hs:0<=s):cbN 1 s=1:=by rw[QT hs];simp
theorem ZdE(p:Int):cbN p 0=1:=by rw[QT (ZtZ _)];simp
theorem Vv{p s:Int}(hp:2<=p)(hs:0<=s):cbN p s=cbN p (s-1)+cbN (p-1) s:=by
 by_cases h:s=0
 ·subst h
  rw[Vw (p:=p) (s:=0-1) (by lia),ZdE,ZdE];rfl
 ·rw[QT hs,QT (p:=p) (s:=s-1) (by lia),QT (p:=p-1) hs]
  obtain⟨t,ht⟩:∃t:Nat,s=t+1:=⟨(s-1).toNat,by lia⟩
  obtain⟨q,hq⟩:∃q:Nat,p=q+2:=⟨(p-2).toNat,by lia⟩
  subst ht
  subst hq
  rw[show ((t:Int)+1).toNat=t+1 by lia,show ((q:Int)+2-1).toNat=q+1 by lia,show ((t:Int)+1-1).toNat=t by lia,show ((q:Int)+2-1-1).toNat=q by lia,ZaX]
  lia
theorem VT{p s t:Int}(hp:1<=p)(h:s<=t):cbN p s<=cbN p t:=by
 by_cases hs:s<0
 ·rw[Vw hs];exact Zaw p t
 ·obtain⟨d,rfl⟩:∃d:Nat,t=s+d:=⟨(t-s).toNat,by lia⟩
  induction d with
  |zero=>simp
  |succ d ih =>
   have ih:=ih (by lia)
   by_cases h1:p=1
   ·subst h1;rw[ZaU (by lia),ZaU (by lia)];lia
   ·have h2:=Vv (p:=p) (s:=s+((d+1:Nat):Int)) (by lia) (by lia)
    rw[show s+((d+1:Nat):Int)-1=s+(d:Int) by lia] at h2
    have:=Zaw (p-1) (s+((d+1:Nat):Int))
    lia
noncomputable def Ve:List Int->Int
 |[]=>0
 |[_]=>0
 |_::y::r=>cbN (((y::r).length:Int)+1) ((y::r).sum-1)+Ve (y::r)
theorem UM:∀(l:List Int),l≠[]->(∀x∈l,0<=x)->0<=Ve l/\Ve l+1<=cbN l.length l.sum
 |[],h,_=>absurd rfl h
 |[x],_,hn=>by
  have hx:=hn x (by simp)
  simp only[Ve,Ztz,ZtY,ZtS,List.sum_nil]
  rw[show ((0+1:Nat):Int)=1 by rfl,ZaU (by lia)]
  lia
 |x::y::r,_,hn=>by
  have hx:=hn x (by simp)
  have hr:∀z∈y::r,0<=z:=fun z hz=>hn z (by simp only[Zts] at hz ⊢;right;exact hz)
  have hs:=sum_nn hr
  obtain⟨h1,h2⟩:=UM (y::r) (by simp) hr
  rw[Ve]
  have h3:=Zaw (((y::r).length:Int)+1) ((y::r).sum-1)
  refine⟨by lia, ?_⟩
  have h4:=Vv (p:=((y::r).length:Int)+1) (s:=(y::r).sum) (by simp only[Ztz];lia) hs
  rw[show ((y::r).length:Int)+1-1=(y::r).length by lia] at h4
  have h5:=VT (p:=((y::r).length:Int)+1) (s:=(y::r).sum) (t:=(x::y::r).sum) (by lia) (by simp only[ZtS];lia)
  rw[show (((x::y::r).length:Nat):Int)=((y::r).length:Int)+1 by simp only[Ztz];lia]
  lia
noncomputable def Qe(l:List Int):Int:=cbN l.length l.sum-1-Ve l
theorem Zfp{l:List Int}(h:l≠[])(hn:∀x∈l,0<=x):0<=Qe l/\Qe l<cbN l.length l.sum:=by
 have:=UM l h hn
 unfold Qe
 lia
theorem ZgS{l:List Int}{x y:Int}{r:List Int}(hl:l=x::y::r)(hn:∀z∈l,0<=z):cbN l.length ((y::r).sum-1)<Ve l+1/\Ve l+1<=cbN l.length (y::r).sum:=by
 subst hl
 have hr:∀z∈y::r,0<=z:=fun z hz=>hn z (by simp only[Zts] at hz ⊢;right;exact hz)
 have hs:=sum_nn hr
 obtain⟨h1,h2⟩:=UM (y::r) (by simp) hr
 have h4:=Vv (p:=((y::r).length:Int)+1) (s:=(y::r).sum) (by simp only[Ztz];lia) hs
 rw[show ((y::r).length:Int)+1-1=(y::r).length by lia] at h4
 rw[Ve,show (((x::y::r).length:Nat):Int)=((y::r).length:Int)+1 by simp only[Ztz];lia]
 lia
theorem Zfo:∀{a b:List Int},a.length=b.length->a.sum=b.sum->(∀x∈a,0<=x)->(∀x∈b,0<=x)->a≠[] ->
  (∃i,i<a.length/\(∀j,j<i->a.getD j 0=b.getD j 0)/\a.getD i 0<b.getD i 0)->Ve b<Ve a
 |[],_,_,_,_,_,h,_=>absurd rfl h
 |[x],b,hl,hs,_,_,_,hd=>by
  obtain⟨i,hi,h1,h2⟩:=hd
  simp at hi
  subst hi
  match b,hl with
  |[z],_=>simp at hs h2;lia
 |x::y::r,b,hl,hs,hna,hnb,_,hd=>by
  match b,hl with
  |z::w::q,hl =>
   have hra:∀v∈y::r,0<=v:=fun v hv=>hna v (by simp only[Zts] at hv ⊢;right;exact hv)
   have hrb:∀v∈w::q,0<=v:=fun v hv=>hnb v (by simp only[Zts] at hv ⊢;right;exact hv)
   have hlen:(y::r).length=(w::q).length:=by simpa using hl
   have sa:=sum_nn hra
   have sb:=sum_nn hrb
   obtain⟨i,hi,h1,h2⟩:=hd
   rw[Ve,Ve]
   have hsum:x+(y::r).sum=z+(w::q).sum:=by simpa[ZtS] using hs
   cases i with
   |zero =>
    have h2:x<z:=by simpa using h2
    obtain⟨b1,b2⟩:=UM (w::q) (by simp) hrb
    have a1:=(UM (y::r) (by simp) hra).1
    have h4:=Vv (p:=((w::q).length:Int)+1) (s:=(w::q).sum) (by simp only[Ztz];lia) sb
    rw[show ((w::q).length:Int)+1-1=(w::q).length by lia] at h4
    have h5:=VT (p:=((w::q).length:Int)+1) (s:=(w::q).sum) (t:=(y::r).sum-1) (by lia) (by lia)
    rw[hlen]
    lia
   |succ i =>
    have hxz:x=z:=by simpa using h1 0 (by lia)
    have ih:=Zfo (a:=y::r) (b:=w::q) hlen (by lia) hra hrb (by simp) ⟨i,by simpa using hi,fun j hj=>by simpa using h1 (j+1) (by lia),by simpa using h2⟩
    rw[hlen,show (y::r).sum=(w::q).sum by lia]
    lia
end L2
namespace L2
theorem ZjZ{p n:Int}(hp:1<=p)(hn:1<=n):∀m:Nat,n<=cbN p m->∃L:Int,(0<=L/\L<=m)/\n<=cbN p L/\cbN p (L-1)<n
 |0,h=>⟨0,by lia,h,by rw[Vw (by lia)];lia⟩
 |m+1,h=>by
  by_cases c:n<=cbN p m
  ·obtain⟨L,h1,h2,h3⟩:=ZjZ hp hn m c
   exact⟨L,by lia,h2,h3⟩
  ·exact⟨((m+1:Nat):Int),by lia,h,by rw[show ((m+1:Nat):Int)-1=m by lia];lia⟩
theorem ZiI{p n L M:Int}(hp:1<=p)(h1:n<=cbN p L)(h2:cbN p (L-1)<n)(h3:n<=cbN p M)(h4:cbN p (M-1)<n):L=M:=by
 by_cases a:L<M
 ·have:=VT (p:=p) (s:=L) (t:=M-1) hp (by lia)
  lia
 ·by_cases b:M<L
  ·have:=VT (p:=p) (s:=M) (t:=L-1) hp (by lia)
   lia
  ·lia
open Classical in
noncomputable def lsN(p m n:Int):Int:=if h:∃L:Int,(0<=L/\L<=m)/\n<=cbN p L/\cbN p (L-1)<n then h.choose else 0
theorem Qf{p m n:Int}(hp:1<=p)(hm:0<=m)(hn:1<=n)(h:n<=cbN p m):(0<=lsN p m n/\lsN p m n<=m)/\n<=cbN p (lsN p m n)/\cbN p (lsN p m n-1)<n:=by
 have hx:∃L:Int,(0<=L/\L<=m)/\n<=cbN p L/\cbN p (L-1)<n:=by
  have:=ZjZ hp hn m.toNat (by rwa [Zt5 hm])
  rwa [Zt5 hm] at this
 unfold lsN
 rw[dif_pos hx]
 exact hx.choose_spec
theorem Zkb{p m n L:Int}(hp:1<=p)(hm:0<=m)(hn:1<=n)(h:n<=cbN p m)(h1:n<=cbN p L)(h2:cbN p (L-1)<n):lsN p m n=L:=by
 obtain⟨-,a,b⟩:=Qf hp hm hn h
 exact ZiI hp a b h1 h2
noncomputable def Uu(p s n:Int):Nat->List Int×Int×Int
 |0=>([],s,cbN p s-n)
 |i+1=>((Uu p s n i).1++[(Uu p s n i).2.1-lsN (p-i) (Uu p s n i).2.1 (Uu p s n i).2.2],lsN (p-i) (Uu p s n i).2.1 (Uu p s n i).2.2,(Uu p s n i).2.2-cbN (p-i) (lsN (p-i) (Uu p s n i).2.1 (Uu p s n i).2.2-1))
theorem QZ(p s n:Int)(i:Nat):Uu p s n (i+1)=((Uu p s n i).1++[(Uu p s n i).2.1-lsN (p-i) (Uu p s n i).2.1 (Uu p s n i).2.2],lsN (p-i) (Uu p s n i).2.1 (Uu p s n i).2.2,(Uu p s n i).2.2-cbN (p-i) (lsN (p-i) (Uu p s n i).2.1 (Uu p s n i).2.2-1)):=rfl
structure Zmq(p s:Int)(i:Nat)(t:List Int×Int×Int):Prop where
 lo:0<=t.2.1
 hi:t.2.1<=s
 p1:1<=t.2.2
 p2:t.2.2<=cbN (p-i) t.2.1
 len:t.1.length=i
 nn:∀x∈t.1,0<=x
 sum:t.1.sum+t.2.1=s
theorem Zc7{p s n:Int}(hs:0<=s)(hn:0<=n)(h:n<cbN p s):∀i:Nat,(i:Int)+1<=p->Zmq p s i (Uu p s n i)
 |0,_=>by
  refine⟨hs,ZtZ _, ?_, ?_,rfl,by simp[Uu],by simp[Uu]⟩
  ·show 1<=cbN p s-n
   lia
  ·show cbN p s-n<=cbN (p-(0:Nat)) s
   rw[show p-((0:Nat):Int)=p by lia]
   lia
 |i+1,hi=>by
  have ih:=Zc7 hs hn h i (by lia)
  rw[QZ]
  generalize Uu p s n i=t at ih ⊢
  have sp:=Qf (p:=p-i) (m:=t.2.1) (n:=t.2.2) (by lia) ih.lo ih.p1 ih.p2
  generalize lsN (p-i) t.2.1 t.2.2=L at sp ⊢
  obtain⟨⟨l0,l1⟩,l2,l3⟩:=sp
  have h4:=Vv (p:=p-i) (s:=L) (by lia) l0
  refine⟨l0,ZuH l1 ih.hi, ?_, ?_, ?_, ?_, ?_⟩
  ·show 1<=t.2.2-cbN (p-i) (L-1)
   lia
  ·show t.2.2-cbN (p-i) (L-1)<=cbN (p-((i+1:Nat):Int)) L
   rw[show p-((i+1:Nat):Int)=p-i-1 by lia]
   lia
  ·simp[ih.len]
  ·intro x hx
   rcases Zti.mp hx with c|c
   ·exact ih.nn x c
   ·rw[Zt0] at c
    lia
  ·simp only[Zu6,ZtS,List.sum_nil]
   have:=ih.sum
   lia
noncomputable def Zjx(p s n:Int):List Int:=(Uu p s n (p-1).toNat).1++[(Uu p s n (p-1).toNat).2.1]
theorem UK{l:List Int}{i:Nat}(h:i<l.length):l.drop i=l.getD i 0::l.drop (i+1):=by
 rw[Ztv h]
 congr 1
 simp[Ztf,Zth h]
theorem Zax{b:List Int}(hn:∀x∈b,0<=x)(h2:2<=b.length):∀i:Nat,i+1<=b.length->Uu b.length b.sum (Qe b) i=(b.take i,(b.drop i).sum,Ve (b.drop i)+1)
 |0,_=>by
  show ([],b.sum,cbN b.length b.sum-Qe b)=_
  unfold Qe
  simp only[List.take_zero,List.drop_zero]
  congr 2
  lia
 |i+1,hi=>by
  rw[QZ,Zax hn h2 i (by lia)]
  simp only
  have e1:=UK (l:=b) (i:=i) (by lia)
  have e2:=UK (l:=b) (i:=i+1) (by lia)
  have hnd:∀x∈b.drop i,0<=x:=fun x hx=>hn x (List.mem_of_mem_drop hx)
  have hl:(((b.drop i).length:Nat):Int)=(b.length:Int)-i:=by rw[Zue];lia
  have li:=ZgS (l:=b.drop i) (x:=b.getD i 0) (y:=b.getD (i+1) 0) (r:=b.drop (i+1+1)) (by rw[e1,e2]) hnd
  rw[<- e2,hl] at li
  have bb:=UM (b.drop i) (by rw[e1];simp) hnd
  rw[hl] at bb
  have hk:lsN ((b.length:Int)-i) (b.drop i).sum (Ve (b.drop i)+1)=(b.drop (i+1)).sum:=
   Zkb (by lia) (sum_nn hnd) (by lia) bb.2 li.2 li.1
  rw[hk]
  refine Prod.ext ?_ (Prod.ext rfl ?_)
  ·show b.take i++[(b.drop i).sum-(b.drop (i+1)).sum]=b.take (i+1)
   rw[e1,ZtS,show b.getD i 0+(b.drop (i+1)).sum-(b.drop (i+1)).sum=b.getD i 0 by lia]
   rw[List.take_add_one,Zth (by lia)]
   simp[Ztf,Zth (show i<b.length by lia)]
  ·show Ve (b.drop i)+1-cbN ((b.length:Int)-i) ((b.drop (i+1)).sum-1)=Ve (b.drop (i+1))+1
   have:Ve (b.drop i)=cbN ((b.length:Int)-i) ((b.drop (i+1)).sum-1)+Ve (b.drop (i+1)):=by
    rw[e1,e2,Ve,<- e2,show (((b.drop (i+1)).length:Nat):Int)+1=(b.length:Int)-i by rw[Zue];lia]
   lia
theorem QW{b:List Int}(hn:∀x∈b,0<=x)(h2:2<=b.length):Zjx b.length b.sum (Qe b)=b:=by
 unfold Zjx
 rw[show ((b.length:Int)-1).toNat=b.length-1 by lia,Zax hn h2 _ (by lia)]
 simp only
 have e1:=UK (l:=b) (i:=b.length-1) (by lia)
 rw[show b.length-1+1=b.length by lia,List.drop_length] at e1
 conv=>rhs;rw[<- Zuw (b.length-1) b]
 rw[e1]
 simp
end L2
namespace My
open L2
noncomputable def tab(n:Nat)(f:Nat->Int):List Int:=(List.range n).map f
theorem ZR(n:Nat)(f:Nat->Int):(tab n f).length=n:=by simp[tab]
theorem V4{n:Nat}{f:Nat->Int}{x:Nat}(h:x<n):(tab n f).getD x 0=f x:=by
 rw[Ztf,tab,Zt2,Zua h];rfl
theorem Qo{n:Nat}{f:Nat->Int}{l:List Int}(hl:l.length=n)(h:∀x,x<n->l.getD x 0=f x):l=tab n f:=by
 apply List.ext_getElem
 ·rw[hl,ZR]
 ·intro i h1 h2
  have:=h i (by lia)
  rw[Ztf,Zth h1] at this
  simp only[tab,ZuF,List.getElem_range]
  exact this
theorem Zdk(l:List Int):l=tab l.length fun x=>l.getD x 0:=Qo rfl fun _ _=>rfl
theorem getD_set{l:List Int}{j x:Nat}{v:Int}(h:j<l.length):(l.set j v).getD x 0=if x=j then v else l.getD x 0:=by
 rw[Ztf,Ztf]
 by_cases e:x=j
 ·subst e;rw[Ztq h,if_pos rfl];rfl
 ·rw[Ztl (Ne.symm e),if_neg e]
theorem ZbS{n:Nat}{f:Nat->Int}{j:Nat}{v:Int}(h:j<n):(tab n f).set j v=tab n fun x=>if x=j then v else f x:=by
 refine Qo (by rw[ZtH,ZR]) fun x hx=>?_
 rw[getD_set (by rw[ZR];exact h)]
 by_cases e:x=j
 ·rw[if_pos e,if_pos e]
 ·rw[if_neg e,if_neg e,V4 hx]
theorem V5{n:Nat}{f g:Nat->Int}(h:∀x,x<n->f x=g x):tab n f=tab n g:=Qo (ZR _ _) fun x hx=>by rw[V4 hx,h x hx]
theorem ZiE{n:Nat}{f:Nat->Int}{v:Int}:v∈tab n f ↔ ∃x,x<n/\f x=v:=by simp[tab]
theorem JC{l:List Int}{x:Nat}(h:x<l.length):l.getD x 0∈l:=by
 rw[Ztf,Zth h];exact Zum h
theorem Zb1{l:List Int}{v:Int}(h:v∈l):∃x,x<l.length/\l.getD x 0=v:=by
 obtain⟨x,hx,e⟩:=List.getElem_of_mem h
 exact⟨x,hx,by rw[Ztf,Zth hx,<- e];rfl⟩
theorem Za1:∀{l:List Int}{j:Nat}{v:Int},j<l.length->(l.set j v).sum=l.sum-l.getD j 0+v
 |a::l,0,v,_=>by simp;lia
 |a::l,j+1,v,h=>by
  have:=Za1 (l:=l) (j:=j) (v:=v) (by simpa using h)
  simp only[ZtM,ZtS,List.getD_cons_succ,this];lia
theorem Qq:∀(ns:List Int) (c:Int),(ns.map fun v=>v+c).sum=ns.sum+ns.length*c
 |[],c=>by simp
 |a::l,c=>by
  simp only[ZtB,ZtS,Ztz]
  rw[Qq l c,Int.natCast_add,Int.add_mul];lia
theorem J4{n a b:Int}(ha:0<=a)(ha':a<n)(hb:0<=b)(hb':b<n):(a-b)%n=if b<=a then a-b else a-b+n:=by
 by_cases h:b<=a
 ·rw[if_pos h,ZtD (by lia) (by lia)]
 ·rw[if_neg h,<- Int.add_emod_right,ZtD (by lia) (by lia)]
theorem Uh{n a b:Int}(ha:0<=a)(ha':a<n)(hb:0<=b)(hb':b<n):(a+b)%n=if a+b<n then a+b else a+b-n:=by
 by_cases h:a+b<n
 ·rw[if_pos h,ZtD (by lia) (by lia)]
 ·rw[if_neg h,<- Int.sub_emod_right,ZtD (by lia) (by lia)]
structure UW(ns:List Int):Prop where
 lo:2<=ns.length
 hi:ns.length<=24
 nn:∀x∈ns,0<=x
 sm:ns.sum<=10^60
theorem UW.nn'{ns:List Int}(h:UW ns)(x:Nat):0<=ns.getD x 0:=by
 by_cases hx:x<ns.length
 ·exact h.nn _ (JC hx)
 ·rw[Ztf,Ztt (by lia)];exact ZtZ _
theorem sum_nn:∀{l:List Int},(∀x∈l,0<=x)->0<=l.sum
 |[],_=>by simp
 |a::l,h=>by
  have:=sum_nn (l:=l) fun x hx=>h x (by simp[hx])
  have:=h a (by simp)
  simp only[ZtS];lia
noncomputable def Zh4(ns:List Int)(p:Int)(x:Nat):Int:=(if (x:Int)=p then 0 else ns.getD x 0)+ns.getD p.toNat 0/ns.length
noncomputable def Zju(n:Int)(p:Int)(i:Int)(x:Nat):Int:=if 1<=((x:Int)-p)%n/\((x:Int)-p)%n<=i then 1 else 0
noncomputable def UY(ns:List Int)(p:Int)(i:Int)(x:Nat):Int:=Zh4 ns p x+Zju ns.length p i x
theorem ZbV(n p i:Int)(x:Nat):0<=Zju n p i x:=by unfold Zju;split<;>lia
theorem Vl{n p i:Int}{x:Nat}(h:1<=((x:Int)-p)%n/\((x:Int)-p)%n<=i):Zju n p i x=1:=if_pos h
theorem Vm{n p i:Int}{x:Nat}(h:¬(1<=((x:Int)-p)%n/\((x:Int)-p)%n<=i)):Zju n p i x=0:=if_neg h
theorem Zbh{ns:List Int}{p:Int}{x:Nat}(h:(x:Int)=p):Zh4 ns p x=ns.getD p.toNat 0/ns.length:=by unfold Zh4;rw[if_pos h];lia
theorem Qt{ns:List Int}{p:Int}{x:Nat}(h:(x:Int)≠p):Zh4 ns p x=ns.getD x 0+ns.getD p.toNat 0/ns.length:=by unfold Zh4;rw[if_neg h]
noncomputable def Qs(ns:List Int)(p:Int):List Int:=tab ns.length (UY ns p (ns.getD p.toNat 0%ns.length))
noncomputable def Ud(ns:List Int)(p:Int):Int:=(p+ns.getD p.toNat 0%ns.length)%ns.length
theorem JP(ns:List Int)(p:Int):(Qs ns p).length=ns.length:=ZR _ _
section
variable {ns:List Int}{p:Int}
theorem ZcN(h0:0<=p)(h1:p<ns.length):(ns.map fun v=>v+ns.getD p.toNat 0/ns.length).set p.toNat (ns.getD p.toNat 0/ns.length)=tab ns.length (UY ns p 0):=by
 refine Qo (by simp) fun x hx=>?_
 rw[getD_set (by simp;lia)]
 unfold UY
 rw[Vm (by lia)]
 by_cases e:x=p.toNat
 ·rw[if_pos e,Zbh (by lia)];lia
 ·rw[if_neg e,Qt (by lia)]
  simp[Ztf,Zth hx]
theorem ZcO(h0:0<=p)(h1:p<ns.length){i:Nat}(hi:(i:Int)+1<ns.length) :
  (tab ns.length (UY ns p i)).set ((p+(i+1))%ns.length).toNat (UY ns p i ((p+(i+1))%ns.length).toNat+1)=tab ns.length (UY ns p ((i+1:Nat):Int)):=by
 have m1:=Uh h0 h1 (show (0:Int)<=(i:Int)+1 by lia) hi
 have hlt:((p+((i:Int)+1))%ns.length).toNat<ns.length:=by
  rw[m1];split<;>lia
 rw[ZbS hlt]
 refine V5 fun x hx=>?_
 have m2:=J4 (n:=ns.length) (show (0:Int)<=(x:Int) by lia) (by lia) h0 h1
 by_cases e:x=((p+((i:Int)+1))%ns.length).toNat
 ·rw[if_pos e,<- e]
  unfold UY
  have hd:((x:Int)-p)%ns.length=i+1:=by
   rw[m2]
   rw[m1] at e
   split at e<;>split<;>lia
  rw[Vm (by lia),Vl (by lia)];lia
 ·rw[if_neg e]
  unfold UY
  have hd:((x:Int)-p)%ns.length≠i+1:=by
   intro z
   apply e
   rw[m2] at z
   rw[m1]
   split at z<;>split<;>lia
  by_cases q:1<=((x:Int)-p)%ns.length/\((x:Int)-p)%ns.length<=i
  ·rw[Vl q,Vl (by lia)]
  ·rw[Vm q,Vm (by lia)]
theorem Zbg(h0:0<=p)(h1:p<ns.length):∀i:Nat,(i:Int)<ns.length->(tab ns.length (UY ns p i)).sum=ns.sum+ns.length*(ns.getD p.toNat 0/ns.length)-ns.getD p.toNat 0+i
 |0,_=>by
  have:=ZcN h0 h1
  rw[Int.natCast_zero,<- this,Za1 (by simp;lia)]
  have e:=Qq ns (ns.getD p.toNat 0/ns.length)
  rw[e]
  have e2:(ns.map fun v=>v+ns.getD p.toNat 0/ns.length).getD p.toNat 0=ns.getD p.toNat 0+ns.getD p.toNat 0/ns.length:=by
   have hx:p.toNat<ns.length:=by lia
   rw[Ztf,Zt2,Zth hx]
   simp[hx]
  rw[e2];lia
 |i+1,hi=>by
  have ih:=Zbg h0 h1 i (by lia)
  have m1:=Uh h0 h1 (show (0:Int)<=(i:Int)+1 by lia) (by lia)
  have hlt:((p+((i:Int)+1))%ns.length).toNat<ns.length:=by rw[m1];split<;>lia
  rw[<- ZcO h0 h1 (by lia),Za1 (by rw[ZR];exact hlt),ih,V4 hlt];lia
theorem ZcP(h0:0<=p)(h1:p<ns.length)(hs:0<=ns.getD p.toNat 0):(Qs ns p).sum=ns.sum:=by
 have b1:=Zt4 (ns.getD p.toNat 0) (show (ns.length:Int)≠0 by lia)
 have b2:=Zty (ns.getD p.toNat 0) (show (0:Int)<ns.length by lia)
 have:=Zbg h0 h1 (ns.getD p.toNat 0%ns.length).toNat (by lia)
 rw[Zt5 b1] at this
 have e:=Zux (ns.getD p.toNat 0) ns.length
 unfold Qs
 lia
theorem Ziu(hn:∀x∈ns,0<=x)(i:Int)(x:Nat)(hx:x<ns.length):0<=UY ns p i x:=by
 have h1:=hn _ (JC hx)
 have h2:0<=ns.getD p.toNat 0:=by
  by_cases hp:p.toNat<ns.length
  ·exact hn _ (JC hp)
  ·rw[Ztf,Ztt (by lia)];exact ZtZ _
 have h3:=Int.ediv_nonneg h2 (show (0:Int)<=ns.length by lia)
 have h4:=ZbV ns.length p i x
 unfold UY Zh4
 split<;>lia
end
noncomputable def run(f:Nat->Int):Nat->Nat->Nat
 |0,i=>i
 |k+1,i=>if 0<f i then run f k (i+1) else i
theorem Za2(f:Nat->Int):∀(k i:Nat),i<=run f k i/\run f k i<=i+k/\(∀j,i<=j->j<run f k i->0<f j)/\(run f k i<i+k->¬0<f (run f k i))
 |0,i=>⟨Zto _,Zto _,fun j h1 h2=>by simp only[run] at h2;lia,fun h=>by simp only[run] at h;lia⟩
 |k+1,i=>by
  unfold run
  by_cases h:0<f i
  ·rw[if_pos h]
   obtain⟨a,b,c,d⟩:=Za2 f k (i+1)
   refine⟨by lia,by lia,fun j h1 h2=>?_,fun h=>d (by lia)⟩
   by_cases e:j=i
   ·subst e;assumption
   ·exact c j (by lia) h2
  ·rw[if_neg h]
   exact⟨Zto _,by lia,fun j h1 h2=>by lia,fun _=>h⟩
theorem ZjE{f:Nat->Int}{k j:Nat}(hj:j<k)(h1:∀i,i<j->0<f i)(h2:¬0<f j):run f k 0=j:=by
 obtain⟨a,b,c,d⟩:=Za2 f k 0
 rcases Nat.lt_trichotomy (run f k 0) j with z|z|z
 ·exact absurd (h1 _ z) (d (by lia))
 ·exact z
 ·exact absurd (c j (by lia) z) h2
noncomputable def tbG(ns:List Int)(q:Int)(i:Nat):Int:=ns.getD ((q-i)%ns.length).toNat 0-Zb0 ns
noncomputable def tbJ(ns:List Int)(q:Int):Nat:=run (tbG ns q) ns.length 0
noncomputable def tbF(ns:List Int)(q:Int)(i:Nat)(x:Nat):Int:=ns.getD x 0-Zb0 ns-(if (q-x)%(ns.length:Int)<i then 1 else 0)
noncomputable def tbP(ns:List Int)(q:Int):Int:=(q-tbJ ns q)%ns.length
noncomputable def tbT(ns:List Int)(q:Int):Int:=Zb0 ns*ns.length+tbJ ns q
noncomputable def tbB(ns:List Int)(q:Int):List Int:=(tab ns.length (tbF ns q (tbJ ns q))).set (tbP ns q).toNat (tbT ns q)
theorem ZdN(ns:List Int)(q:Int):(tbB ns q).length=ns.length:=by simp[tbB,ZR]
section
variable {ns:List Int}{q:Int}
theorem Zgw(h0:0<=q)(h1:q<ns.length):tbJ ns q<ns.length/\(∀i,i<tbJ ns q->0<tbG ns q i)/\tbG ns q (tbJ ns q)=0:=by
 have hne:ns≠[]:=by intro e;rw[e] at h1;simp at h1;lia
 obtain⟨x,hx,ex⟩:=Zb1 (U8 hne)
 have m1:=J4 (n:=ns.length) h0 h1 (show (0:Int)<=x by lia) (by lia)
 have b1:0<=(q-x)%(ns.length:Int)/\(q-x)%(ns.length:Int)<ns.length:=by rw[m1];split<;>lia
 have gx:tbG ns q ((q-x)%(ns.length:Int)).toNat=0:=by
  unfold tbG
  have:((q-(((q-x)%(ns.length:Int)).toNat:Nat))%(ns.length:Int)).toNat=x:=by
   rw[Zt5 b1.1,J4 h0 h1 b1.1 b1.2,m1]
   split<;>split<;>lia
  rw[this,ex];lia
 obtain⟨a,b,c,d⟩:=Za2 (tbG ns q) ns.length 0
 have hlt:tbJ ns q<ns.length:=by
  unfold tbJ
  by_cases h:run (tbG ns q) ns.length 0<ns.length
  ·exact h
  ·have:=c ((q-x)%(ns.length:Int)).toNat (by lia) (by lia)
   rw[gx] at this;lia
 refine⟨hlt,fun i hi=>c i (by lia) hi, ?_⟩
 have h3:=d (by unfold tbJ at hlt;lia)
 have h4:0<=tbG ns q (tbJ ns q):=by
  unfold tbG
  have:=Zcn (ns:=ns) (JC (x:=((q-tbJ ns q)%(ns.length:Int)).toNat) (by
   have:=Zt4 (q-tbJ ns q) (show (ns.length:Int)≠0 by lia)
   have:=Zty (q-tbJ ns q) (show (0:Int)<ns.length by lia)
   lia))
  lia
 have h5:¬0<tbG ns q (tbJ ns q):=h3
 lia
end
theorem Zhs{ns:List Int}{p:Int}(h0:0<=p)(h1:p<ns.length)(hn:∀x∈ns,0<=x):tbB (Qs ns p) (Ud ns p)=ns/\tbP (Qs ns p) (Ud ns p)=p:=by
 have len:=JP ns p
 have hp:p.toNat<ns.length:=by lia
 have hs:=hn _ (JC hp)
 have o0:=Zt4 (ns.getD p.toNat 0) (show (ns.length:Int)≠0 by lia)
 have o1:=Zty (ns.getD p.toNat 0) (show (0:Int)<ns.length by lia)
 have es:=Zux (ns.getD p.toNat 0) ns.length
 have get:∀x,x<ns.length->(Qs ns p).getD x 0=UY ns p (ns.getD p.toNat 0%ns.length) x:=fun x hx=>V4 hx
 have hmin:Zb0 (Qs ns p)=ns.getD p.toNat 0/ns.length:=by
  refine(Zfw ?_ ?_).symm
  ·have:(Qs ns p).getD p.toNat 0=ns.getD p.toNat 0/ns.length:=by
    rw[get _ hp];unfold UY
    rw[Zbh (by lia),Vm (by rw[Zt5 h0,Int.sub_self,Int.zero_emod];lia)];lia
   rw[<- this];exact JC (by lia)
  ·intro a ha
   obtain⟨x,hx,rfl⟩:=Zb1 ha
   rw[get x (by lia)]
   have:=hn _ (JC (show x<ns.length by lia))
   have:=ZbV ns.length p (ns.getD p.toNat 0%ns.length) x
   unfold UY Zh4
   split<;>lia
 have mL:=Uh h0 h1 o0 o1
 have hL:0<=Ud ns p/\Ud ns p<ns.length:=by unfold Ud;rw[mL];split<;>lia
 generalize ho:ns.getD p.toNat 0%ns.length=o at *
 have eL:Ud ns p=if p+o<ns.length then p+o else p+o-ns.length:=by unfold Ud;rw[ho,mL]
 have place:∀i:Nat,(i:Int)<=o->((Ud ns p-i)%ns.length).toNat<ns.length/\(((((Ud ns p-i)%ns.length).toNat:Nat):Int)-p)%ns.length=o-i:=fun i hi=>by
  have m:=J4 (n:=ns.length) hL.1 hL.2 (show (0:Int)<=i by lia) (by lia)
  have b:0<=(Ud ns p-i)%(ns.length:Int)/\(Ud ns p-i)%(ns.length:Int)<ns.length:=by rw[m];split<;>lia
  refine⟨by lia, ?_⟩
  rw[Zt5 b.1,J4 b.1 b.2 h0 h1,m,eL]
  split<;>split<;>split<;>lia
 have hJ:tbJ (Qs ns p) (Ud ns p)=o.toNat:=by
  unfold tbJ
  rw[len]
  refine ZjE (by lia) (fun i hi=>?_) ?_
  ·obtain⟨a,b⟩:=place i (by lia)
   unfold tbG
   rw[len,hmin,get _ a]
   have:=hn _ (JC a)
   unfold UY
   rw[Qt (fun z=>by rw[z,Int.sub_self,Int.zero_emod] at b;lia),Vl (by lia)];lia
  ·obtain⟨a,b⟩:=place o.toNat (by lia)
   unfold tbG
   rw[len,hmin,get _ a]
   have m:=J4 (n:=ns.length) (show (0:Int)<=((((Ud ns p-o.toNat)%ns.length).toNat:Nat):Int) by lia) (by lia) h0 h1
   unfold UY
   rw[Zbh (by rw[b] at m;split at m<;>lia),Vm (by lia)];lia
 have hP:tbP (Qs ns p) (Ud ns p)=p:=by
  unfold tbP
  rw[hJ,len]
  obtain⟨a,b⟩:=place o.toNat (by lia)
  have b0:=Zt4 (Ud ns p-o.toNat) (show (ns.length:Int)≠0 by lia)
  have m:=J4 (n:=ns.length) (show (0:Int)<=((((Ud ns p-o.toNat)%ns.length).toNat:Nat):Int) by lia) (by lia) h0 h1
  rw[b] at m
  split at m<;>lia
 refine⟨?_,hP⟩
 unfold tbB
 rw[hP,hJ,len,ZbS hp]
 refine((Zdk ns).trans (V5 fun x hx=>?_)).symm
 by_cases e:x=p.toNat
 ·rw[if_pos e]
  unfold tbT
  rw[hmin,hJ,len,e]
  rw[ZuA];lia
 ·rw[if_neg e]
  unfold tbF
  rw[hmin,len,get x hx]
  unfold UY
  rw[Qt (by lia)]
  have m1:=J4 (n:=ns.length) (show (0:Int)<=x by lia) (by lia) h0 h1
  have m2:=J4 (n:=ns.length) hL.1 hL.2 (show (0:Int)<=x by lia) (by lia)
  have key:(1<=((x:Int)-p)%ns.length/\((x:Int)-p)%ns.length<=o) ↔ (Ud ns p-x)%(ns.length:Int)<(o.toNat:Int):=by
   rw[m1,m2,eL]
   split<;>split<;>split<;>lia
  by_cases c:1<=((x:Int)-p)%ns.length/\((x:Int)-p)%ns.length<=o
  ·rw[Vl c,if_pos (key.mp c)];lia
  ·rw[Vm c,if_neg (fun z=>c (key.mpr z))];lia
theorem Zg0{ns:List Int}{q:Int}(h0:0<=q)(h1:q<ns.length)(hn:∀x∈ns,0<=x):Qs (tbB ns q) (tbP ns q)=ns/\Ud (tbB ns q) (tbP ns q)=q:=by
 have len:=ZdN ns q
 obtain⟨j1,j2,j3⟩:=Zgw h0 h1
 have hne:ns≠[]:=by intro e;rw[e] at h1;simp at h1;lia
 have hm:=hn _ (U8 hne)
 have m0:=J4 (n:=ns.length) h0 h1 (show (0:Int)<=(tbJ ns q:Nat) by lia) (by lia)
 have eP:tbP ns q=if ((tbJ ns q:Nat):Int)<=q then q-tbJ ns q else q-tbJ ns q+ns.length:=m0
 have hP:0<=tbP ns q/\tbP ns q<ns.length:=by rw[eP];split<;>lia
 have hp:(tbP ns q).toNat<ns.length:=by lia
 have get:∀x,x<ns.length->(tbB ns q).getD x 0=if x=(tbP ns q).toNat then tbT ns q else tbF ns q (tbJ ns q) x:=fun x hx=>by
  unfold tbB
  rw[getD_set (by rw[ZR];exact hp),V4 hx]
 have gp:(tbB ns q).getD (tbP ns q).toNat 0=tbT ns q:=by rw[get _ hp,if_pos rfl]
 have et:tbT ns q/ns.length=Zb0 ns/\tbT ns q%ns.length=tbJ ns q:=by
  unfold tbT
  constructor
  ·rw[ZuJ,Int.add_mul_ediv_right _ _ (by lia),Int.ediv_eq_zero_of_lt (by lia) (by lia)];lia
  ·rw[ZuJ,Int.add_mul_emod_self_right,ZtD (by lia) (by lia)]
 constructor
 ·unfold Qs
  rw[len]
  refine((Zdk ns).trans (V5 fun x hx=>?_)).symm
  unfold UY
  rw[gp,len,et.2]
  have m1:=J4 (n:=ns.length) (show (0:Int)<=x by lia) (by lia) hP.1 hP.2
  have m2:=J4 (n:=ns.length) h0 h1 (show (0:Int)<=x by lia) (by lia)
  by_cases e:(x:Int)=tbP ns q
  ·rw[Zbh e,gp,len,et.1,Vm (by rw[e,Int.sub_self,Int.zero_emod];lia)]
   have:x=((q-(tbJ ns q:Nat))%(ns.length:Int)).toNat:=by
    show x=(tbP ns q).toNat
    lia
   unfold tbG at j3
   rw[<- this] at j3;lia
  ·rw[Qt e,gp,len,et.1,get x hx,if_neg (by lia)]
   unfold tbF
   have key:(1<=((x:Int)-tbP ns q)%ns.length/\((x:Int)-tbP ns q)%ns.length<=(tbJ ns q:Int)) ↔ (q-x)%(ns.length:Int)<(tbJ ns q:Int):=by
    rw[m1,m2]
    rw[eP] at e ⊢
    split<;>split<;>split at *<;>lia
   by_cases c:(q-x)%(ns.length:Int)<(tbJ ns q:Int)
   ·rw[if_pos c,Vl (key.mpr c)];lia
   ·rw[if_neg c,Vm (fun z=>c (key.mp z))];lia
 ·unfold Ud
  rw[gp,len,et.2,Uh hP.1 hP.2 (by lia) (by lia),eP]
  split<;>split<;>lia
structure Jm(ns:List Int)(p:Int):Prop where
 bd:UW ns
 lo:0<=p
 hi:p<ns.length
 pos:0<ns.getD p.toNat 0
noncomputable def Jk(a:List Int×Int):List Int×Int:=(Qs a.1 a.2,Ud a.1 a.2)
noncomputable def tbS(a:List Int×Int):List Int×Int:=(tbB a.1 a.2,tbP a.1 a.2)
theorem ZeB{ns:List Int}{p:Int}(h:Jm ns p):UW (Qs ns p):=by
 have:=h.lo;have:=h.hi
 refine⟨by rw[JP];exact h.bd.lo,by rw[JP];exact h.bd.hi,fun x hx=>?_, ?_⟩
 ·obtain⟨y,hy,rfl⟩:=ZiE.mp hx
  exact Ziu h.bd.nn _ y hy
 ·rw[ZcP h.lo h.hi (h.bd.nn' _)];exact h.bd.sm
theorem ZdP{ns:List Int}{p:Int}(h0:0<=p)(h1:p<ns.length):0<=Ud ns p/\Ud ns p<ns.length:=
 ⟨Zt4 _ (by lia),Zty _ (by lia)⟩
theorem ZeA{ns:List Int}{p:Int}(h:Jm ns p):Jm (Qs ns p) (Ud ns p):=by
 have h0:=h.lo
 have h1:=h.hi
 have hs:=h.pos
 obtain⟨l0,l1⟩:=ZdP h0 h1
 refine⟨ZeB h,l0,by rw[JP];exact l1, ?_⟩
 have o0:=Zt4 (ns.getD p.toNat 0) (show (ns.length:Int)≠0 by lia)
 have o1:=Zty (ns.getD p.toNat 0) (show (0:Int)<ns.length by lia)
 have es:=Zux (ns.getD p.toNat 0) ns.length
 have dn:=Int.ediv_nonneg (show 0<=ns.getD p.toNat 0 by lia) (show (0:Int)<=ns.length by lia)
 have hx:(Ud ns p).toNat<ns.length:=by lia
 have hv:=h.bd.nn' (Ud ns p).toNat
 unfold Qs
 rw[V4 hx]
 unfold UY
 have mL:Ud ns p=if p+ns.getD p.toNat 0%ns.length<ns.length then p+ns.getD p.toNat 0%ns.length else p+ns.getD p.toNat 0%ns.length-ns.length:=Uh h0 h1 o0 o1
 by_cases c:ns.getD p.toNat 0%ns.length=0
 ·rw[Zbh (by rw[c] at mL;split at mL<;>lia)]
  have:=ZbV ns.length p (ns.getD p.toNat 0%ns.length) (Ud ns p).toNat
  have:ns.getD p.toNat 0/ns.length≠0:=fun z=>by rw[z] at es;lia
  lia
 ·have m2:=J4 (n:=ns.length) l0 l1 h0 h1
  rw[Vl (by rw[Zt5 l0,m2];split at mL<;>split<;>lia),Qt (by split at mL<;>lia)]
  lia
noncomputable def its{α:Type}(f:α->α):Nat->α->α
 |0,a=>a
 |n+1,a=>f (its f n a)
section
end
end My
namespace My
open PySem L2
noncomputable abbrev ZdX(a:List Int×Int):PV:=.tup [.lst (a.1.map PV.int),.int a.2]
noncomputable def Vk(ns:List Int):Bool:=decide (2<=ns.length/\ns.length<=24/\(∀x∈ns,0<=x)/\ns.sum<=10^60)
theorem Vj{ns:List Int}:Vk ns=true ↔ UW ns:=by
 unfold Vk
 rw[decide_eq_true_iff]
 exact⟨fun⟨a,b,c,d⟩=>⟨a,b,c,d⟩,fun h=>⟨h.lo,h.hi,h.nn,h.sm⟩⟩
theorem Jm.sowOk{ns:List Int}{p:Int}(h:Jm ns p):0<=p/\p<ns.length/\ns.length<=1000:=⟨h.lo,h.hi,by have:=h.bd.hi;lia⟩
noncomputable def stX(ns:List Int)(p:Int):Option Str:=if Vk ns=true then (if 0<=p/\p<ns.length then (if ns.getD p.toNat 0=0 then some "NoSeeds" else none) else some "BadPit") else some "BadBoard"
theorem Zgz{ns:List Int}{p:Int}:stX ns p=none ↔ Jm ns p:=by
 unfold stX
 by_cases h:Vk ns=true
 ·have hB:=Vj.mp h
  rw[if_pos h]
  by_cases h1:0<=p/\p<ns.length
  ·rw[if_pos h1]
   by_cases h2:ns.getD p.toNat 0=0
   ·rw[if_pos h2];exact⟨fun z=>(by cases z),fun z=>(by have:=z.pos;lia)⟩
   ·rw[if_neg h2];exact⟨fun _=>⟨hB,h1.1,h1.2,by have:=hB.nn' p.toNat;lia⟩,fun _=>rfl⟩
  ·rw[if_neg h1];exact⟨fun z=>(by cases z),fun z=>(h1 ⟨z.lo,z.hi⟩).elim⟩
 ·rw[if_neg h];exact⟨fun z=>(by cases z),fun z=>(h (Vj.mpr z.bd)).elim⟩
noncomputable def Zk2(way:Int):List Int×Int->List Int×Int:=if way=0 then Jk else tbS
theorem ZfN{way:Int}(hw:way=0\/way=1){a:List Int×Int}(h:Jm a.1 a.2):Zk2 (1-way) (Zk2 way a)=a:=by
 rcases hw with rfl|rfl
 ·have:=Zhs h.lo h.hi h.bd.nn
  show (tbB (Qs a.1 a.2) (Ud a.1 a.2),tbP (Qs a.1 a.2) (Ud a.1 a.2))=a
  rw[this.1,this.2]
 ·have:=Zg0 h.lo h.hi h.bd.nn
  show (Qs (tbB a.1 a.2) (tbP a.1 a.2),Ud (tbB a.1 a.2) (tbP a.1 a.2))=a
  rw[this.1,this.2]
theorem Zhx{a:List Int×Int}(h:Jm a.1 a.2):tbS (Jk a)=a:=ZfN (way:=0) (.inl rfl) h
end My
namespace My
open L2
theorem Zjv{a:List Int×Int}(h:Jm a.1 a.2):∀n,Jm (its Jk n a).1 (its Jk n a).2
 |0=>h
 |n+1=>ZeA (Zjv h n)
noncomputable def J9(a:List Int×Int)(most:Nat):Option Nat:=(List.range most).find? fun i=>decide (its Jk (i+1) a=a)
theorem ZbZ{a:List Int×Int}{m:Nat}(h:J9 a m=none):∀i,i<m->its Jk (i+1) a≠a:=fun i hi e=>by
 have:=List.find?_eq_none.mp h i (Ztu.mpr hi)
 simp[e] at this
theorem Ue{a:List Int×Int}{m i:Nat}(h:J9 a m=some i):i<m/\its Jk (i+1) a=a/\∀j,j<i->its Jk (j+1) a≠a:=by
 unfold J9 at h
 have h1:=List.find?_range_eq_some.mp h
 refine⟨Ztu.mp h1.2.1,by simpa using h1.1,fun j hj=>?_⟩
 have:=h1.2.2 j hj
 simpa using this
noncomputable def Jh(a:List Int×Int)(n:Nat):List (List Int×Int):=(List.range n).map fun j=>its Jk j a
@[simp] theorem ZO(a:List Int×Int)(n:Nat):(Jh a n).length=n:=by simp[Jh]
theorem Zai(a:List Int×Int)(n:Nat):Jh a (n+1)=Jh a n++[its Jk n a]:=by simp[Jh,ZuK]
theorem ZaM(a:List Int×Int):∀n,(its Jk n a).1.length=a.1.length
 |0=>rfl
 |n+1=>by
  show (Qs (its Jk n a).1 (its Jk n a).2).length=_
  rw[JP,ZaM a n]
noncomputable def ZkY(ns:List Int)(k:Int):List Int:=tab ns.length fun x=>ns.getD (((x:Int)-k)%ns.length).toNat 0
theorem Zf5(a:List Int×Int)(m:Nat):∀n,its Jk (m+n) a=its Jk n (its Jk m a)
 |0=>rfl
 |n+1=>by
  show Jk (its Jk (m+n) a)=Jk (its Jk n (its Jk m a))
  rw[Zf5 a m n]
noncomputable def ZkX(a:List Int×Int)(s:Nat):Int:=((its Jk s a).2-a.2)%a.1.length
def isT(a:List Int×Int)(s:Nat):Prop:=(its Jk s a).1=ZkY a.1 (ZkX a s)
noncomputable instance (a:List Int×Int) (s:Nat):Decidable (isT a s):=by unfold isT;infer_instance
end My
namespace L2
theorem ZhU:∀{a b:List Int},a.length=b.length->HT.ZZ a b=true->∃i,i<a.length/\(∀j,j<i->a.getD j 0=b.getD j 0)/\a.getD i 0<b.getD i 0
 |[],[],_,h=>by cases h
 |x::a,y::b,hl,h=>by
  rw[HT.Vh] at h
  by_cases e:x=y
  ·rw[if_pos e] at h
   obtain⟨i,h1,h2,h3⟩:=ZhU (by simpa using hl) h
   refine⟨i+1,by simp;lia,fun j hj=>?_,by simpa using h3⟩
   cases j with
   |zero=>simpa using e
   |succ j=>simpa using h2 j (by lia)
  ·rw[if_neg e] at h
   exact⟨0,by simp,fun j hj=>by lia,by simpa using h⟩
theorem ZgQ{a b:List Int}(hl:a.length=b.length)(hs:a.sum=b.sum)(ha:∀x∈a,0<=x)(hb:∀x∈b,0<=x)(h:HT.ZZ b a=false):Qe a<=Qe b:=by
 by_cases e:a=b
 ·rw[e];exact ZtZ _
 ·have h2:HT.ZZ a b=true:=by
   cases c:HT.ZZ a b with
   |true=>rfl
   |false=>exact absurd (HL.QC c h) e
  have:=Zfo hl hs ha hb (by intro z;rw[z] at h2 hl;cases b with
   |nil=>cases h2
   |cons y b=>simp at hl) (ZhU hl h2)
  unfold Qe
  rw[hl,hs]
  lia
end L2
namespace My
open L2
end My
namespace L2
theorem Zcb{x:Int}{k:Nat}(h0:0<=x)(h:x<=(10^61)^k)(hk:k<=24):x.natAbs<2^60000:=by
 have h4:((10:Int)^61)^k<=(10^61)^24:=by
  have:((10:Nat)^61)^k<=(10^61)^24:=ZtN (by decide) hk
  exact_mod_cast this
 have h5:((10:Int)^61)^24=10^1464:=by rw[<- Int.pow_mul]
 have h6:x.natAbs<=10^1464:=by
  have:x<=10^1464:=by rw[<- h5];exact ZuH h h4
  have e:(x.natAbs:Int)=x:=Int.natAbs_of_nonneg h0
  have:(x.natAbs:Int)<=((10^1464:Nat):Int):=by rw[e];exact_mod_cast this
  exact_mod_cast this
 have h7:10^1464<2^60000:=by
  calc (10:Nat)^1464<=(2^4)^1464:=Zu5 (by decide) _
   _=2^5856:=by rw[<- Nat.pow_mul]
   _<2^60000:=Zu2 (by decide) (by decide)
 lia
theorem QY{s:Int}(hs:0<=s):∀m:Nat,Ve (List.replicate m 0++[s])=cbN (m+1:Nat) s-1
 |0=>by
  show (0:Int)=cbN ((0+1:Nat):Int) s-1
  rw[show ((0+1:Nat):Int)=1 from rfl,ZaU hs]
  rfl
 |m+1=>by
  have ih:=QY hs m
  have e:List.replicate (m+1) (0:Int)++[s]=0::(List.replicate m 0++[s]):=rfl
  have hl:(List.replicate m (0:Int)++[s]).length=m+1:=by simp
  have hsum:(List.replicate m (0:Int)++[s]).sum=s:=by simp
  obtain⟨y,r,hyr⟩:∃y r,List.replicate m (0:Int)++[s]=y::r:=by
   cases m with
   |zero=>exact⟨_,_,rfl⟩
   |succ m=>exact⟨_,_,rfl⟩
  rw[e,hyr,Ve,<- hyr,hl,hsum,ih]
  have h2:=Vv (p:=((m+1:Nat):Int)+1) (s:=s) (by lia) hs
  rw[show ((m+1:Nat):Int)+1-1=(m+1:Nat) by lia] at h2
  rw[show ((m+1+1:Nat):Int)=((m+1:Nat):Int)+1 by lia]
  lia
theorem Zfn{s:Int}(hs:0<=s)(m:Nat):Qe (List.replicate m 0++[s])=0:=by
 unfold Qe
 rw[QY hs,show (List.replicate m (0:Int)++[s]).length=m+1 by simp,show (List.replicate m (0:Int)++[s]).sum=s by simp]
 lia
theorem ZbN:∀m:Nat,Ve (List.replicate m 0)=0
 |0=>rfl
 |1=>rfl
 |m+2=>by
  show Ve (0::0::List.replicate m 0)=0
  rw[Ve,show ((0:Int)::List.replicate m 0)=List.replicate (m+1) 0 from rfl,ZbN (m+1),Vw (by simp)]
  rfl
theorem ZdJ(s:Int):∀m:Nat,Ve (s::List.replicate m 0)=0
 |0=>rfl
 |m+1=>by
  show Ve (s::0::List.replicate m 0)=0
  rw[Ve,show ((0:Int)::List.replicate m 0)=List.replicate (m+1) 0 from rfl,ZbN (m+1),Vw (by simp)]
  rfl
noncomputable def UJ(b:List Int):Nat->Nat
 |0=>0
 |k+1=>if b.getD (k+1) 0=0 then UJ b k else k+1
noncomputable def ZA(b:List Int):Nat:=UJ b (b.length-1)
theorem Zdo(b:List Int):∀k,UJ b k<=k
 |0=>Zto _
 |k+1=>by
  rw[UJ]
  split
  ·exact Nat.le_succ_of_le (Zdo b k)
  ·exact Zto _
theorem Zdn(b:List Int):∀k,0<UJ b k->b.getD (UJ b k) 0≠0
 |0,h=>absurd h (by simp[UJ])
 |k+1,h=>by
  rw[UJ] at h ⊢
  by_cases c:b.getD (k+1) 0=0
  ·rw[if_pos c] at h ⊢;exact Zdn b k h
  ·rw[if_neg c];exact c
theorem Um(b:List Int):∀k j,UJ b k<j->j<=k->b.getD j 0=0
 |0,j,h,hj=>by lia
 |k+1,j,h,hj=>by
  rw[UJ] at h
  by_cases c:b.getD (k+1) 0=0
  ·rw[if_pos c] at h
   by_cases e:j=k+1
   ·rw[e];exact c
   ·exact Um b k j h (by lia)
  ·rw[if_neg c] at h;lia
theorem Zau{b:List Int}{i:Nat}(h:∀j,i<=j->j<b.length->b.getD j 0=0):b.drop i=List.replicate (b.length-i) 0:=by
 refine List.eq_replicate_iff.mpr ⟨Zue,fun x hx=>?_⟩
 obtain⟨j,hj,rfl⟩:=List.mem_iff_getElem.mp hx
 rw[Zue] at hj
 have:=h (i+j) (by lia) (by lia)
 rw[List.getElem_drop]
 simpa[Ztf,Zth (show i+j<b.length by lia)] using this
noncomputable def U7(b:List Int):List Int:=b.take (ZA b-1)++(b.getD (ZA b-1) 0+1)::(List.replicate (b.length-ZA b-1) 0++[b.getD (ZA b) 0-1])
structure Zay(b:List Int):Prop where
 p:0<ZA b
 lt:ZA b<b.length
 e1:b=b.take (ZA b-1)++(b.getD (ZA b-1) 0::b.getD (ZA b) 0::List.replicate (b.length-ZA b-1) 0)
 y:1<=b.getD (ZA b) 0
theorem Zcj{b:List Int}(hn:∀x∈b,0<=x)(h:ZA b≠0):Zay b:=by
 have h1:ZA b<=b.length-1:=Zdo b _
 have h2:=Zdn b (b.length-1) (by unfold ZA at h;lia)
 have h3:=Um b (b.length-1)
 refine⟨by lia,by lia, ?_, ?_⟩
 ·conv=>lhs;rw[<- Zuw (ZA b-1) b]
  congr 1
  rw[UK (by lia),show ZA b-1+1=ZA b by lia,UK (by lia),Zau (i:=ZA b+1) (fun j hj hl=>h3 j (by unfold ZA at hj;lia) (by lia))]
  rw[show b.length-(ZA b+1)=b.length-ZA b-1 by lia]
 ·have:=hn _ (QG (ns:=b) (i:=ZA b) (by lia))
  unfold ZA at this ⊢
  lia
theorem Zgj{c d:List Int}(hl:c.length=d.length)(hs:c.sum=d.sum)(hc:c≠[]):∀p:List Int,Ve (p++c)-Ve (p++d)=Ve c-Ve d
 |[]=>rfl
 |x::p=>by
  have ih:=Zgj hl hs hc p
  obtain⟨y,r,e⟩:∃y r,p++c=y::r:=by
   cases p with
   |nil=>cases c with
    |nil=>exact absurd rfl hc
    |cons y c=>exact⟨_,_,rfl⟩
   |cons y p=>exact⟨_,_,rfl⟩
  obtain⟨z,q,e'⟩:∃y r,p++d=y::r:=by
   cases p with
   |nil=>cases d with
    |nil=>exact absurd (List.length_eq_zero_iff.mp hl) hc
    |cons y d=>exact⟨_,_,rfl⟩
   |cons y p=>exact⟨_,_,rfl⟩
  rw[Zu1,Zu1,e,e',Ve,Ve,<- e,<- e',<- ih]
  rw[show (p++c).length=(p++d).length by simp[hl],show (p++c).sum=(p++d).sum by simp[Zu6,hs]]
  lia
theorem ZaG{b:List Int}(h:Zay b):(U7 b).length=b.length:=by
 have:=h.p
 have:=h.lt
 unfold U7
 simp only[Zt3,ZtQ,Ztz,ZtK,ZtY]
 lia
theorem ZaF{b:List Int}(h:Zay b):(U7 b).sum=b.sum:=by
 conv=>rhs;rw[h.e1]
 unfold U7
 simp[Zu6]
 lia
theorem Zfr{b:List Int}(hn:∀x∈b,0<=x)(h:Zay b):∀x∈U7 b,0<=x:=fun x hx=>by
 have:=h.p
 have:=h.lt
 have:=h.y
 have hb:=hn _ (QG (ns:=b) (i:=ZA b-1) (by lia))
 unfold U7 at hx
 simp only[Zti,Zts,List.mem_replicate,Zud,or_false] at hx
 rcases hx with c|c|c|c
 ·exact hn x (List.mem_of_mem_take c)
 ·lia
 ·lia
 ·lia
theorem Zdh{b:List Int}(hn:∀x∈b,0<=x)(h:Zay b):Qe (U7 b)=Qe b+1:=by
 have hp:=h.p
 have hlt:=h.lt
 have hy:=h.y
 have key:Ve (U7 b)=Ve b-1:=by
  have hb:=congrArg Ve h.e1
  have hf:=QY (s:=b.getD (ZA b) 0-1) (by lia) (b.length-ZA b-1)
  have hlast:=ZdJ (b.getD (ZA b) 0) (b.length-ZA b-1)
  have hpre:=Zgj (c:=b.getD (ZA b-1) 0::b.getD (ZA b) 0::List.replicate (b.length-ZA b-1) 0)
   (d:=(b.getD (ZA b-1) 0+1)::(List.replicate (b.length-ZA b-1) 0++[b.getD (ZA b) 0-1])) (by simp) (by simp[Zu6];lia) (by simp) (b.take (ZA b-1))
  unfold U7
  generalize b.getD (ZA b) 0=y at *
  generalize b.length-ZA b-1=m at *
  have c1:Ve (b.getD (ZA b-1) 0::y::List.replicate m 0)=cbN ((m:Int)+2) (y-1):=by
   rw[Ve,hlast,show (((y::List.replicate m 0).length:Nat):Int)+1=(m:Int)+2 by simp only[Ztz,ZtK];lia,show (y::List.replicate m 0).sum=y by simp]
   lia
  have c2:Ve ((b.getD (ZA b-1) 0+1)::(List.replicate m 0++[y-1]))=cbN ((m:Int)+2) (y-1-1)+cbN ((m:Int)+1) (y-1)-1:=by
   obtain⟨z,r,e⟩:∃z r,List.replicate m (0:Int)++[y-1]=z::r:=by
    cases m with
    |zero=>exact⟨_,_,rfl⟩
    |succ m=>exact⟨_,_,rfl⟩
   rw[e,Ve,<- e,hf,show (((List.replicate m (0:Int)++[y-1]).length:Nat):Int)+1=(m:Int)+2 by simp only[Zt3,Ztz,ZtK,ZtY];lia,show (List.replicate m (0:Int)++[y-1]).sum=y-1 by simp]
   rw[show ((m+1:Nat):Int)=(m:Int)+1 by lia]
   lia
  have h2:=Vv (p:=(m:Int)+2) (s:=y-1) (by lia) (by lia)
  rw[show (m:Int)+2-1=(m:Int)+1 by lia] at h2
  lia
 unfold Qe
 rw[ZaG h,ZaF h]
 lia
end L2
namespace My
theorem Zdl{α:Type}[DecidableEq α]:∀{l1 l2:List α},l1.Nodup->(∀x∈l1,x∈l2)->l1.length<=l2.length
 |[],l2,_,_=>Zui _
 |x::l1,l2,hn,hs=>by
  obtain⟨h1,h2⟩:=ZtJ.mp hn
  have hx:=hs x (by simp)
  have ih:=Zdl (l2:=l2.erase x) h2 fun y hy=>(List.mem_erase_of_ne (fun e=>h1 (by rw[<- e];exact hy))).mpr (hs y (by simp[hy]))
  rw[List.length_erase_of_mem hx] at ih
  have:=List.length_pos_of_mem hx
  rw[Ztz];lia
theorem ZhY{α:Type}[DecidableEq α]{l1 l2:List α}(h1:l1.Nodup)(h2:l2.Nodup)(h:∀x,x∈l1 ↔ x∈l2):l1.length=l2.length:=
 Nat.le_antisymm (Zdl h1 fun x hx=>(h x).mp hx) (Zdl h2 fun x hx=>(h x).mpr hx)
theorem Zao{α β:Type}{f:α->List β}:∀{l:List α},(∀a∈l,(f a).Nodup)->l.Nodup->(∀a∈l,∀b∈l,a≠b->∀y∈f a,y ∉ f b)->(l.flatMap f).Nodup
 |[],_,_,_=>by simp
 |a::l,h1,h2,h3=>by
  obtain⟨n1,n2⟩:=ZtJ.mp h2
  rw[List.flatMap_cons,ZtX]
  refine⟨h1 a (by simp),Zao (fun b hb=>h1 b (by simp[hb])) n2 (fun b hb c hc=>h3 b (by simp[hb]) c (by simp[hc])),fun y hy z hz e=>?_⟩
  subst e
  obtain⟨b,hb,hyb⟩:=Zuf.mp hz
  exact h3 a (by simp) b (by simp[hb]) (fun e=>n1 (by rw[e];exact hb)) y hy hyb
theorem Zan{α β:Type}{f:α->β}(hf:∀a b,f a=f b->a=b):∀{l:List α},l.Nodup->(l.map f).Nodup
 |[],_=>by simp
 |a::l,h=>by
  obtain⟨n1,n2⟩:=ZtJ.mp h
  rw[ZtB,ZtJ]
  refine⟨fun z=>?_,Zan hf n2⟩
  obtain⟨b,hb,e⟩:=Ztx.mp z
  exact n1 (by rw[<- hf _ _ e];exact hb)
end My
namespace My
open L2
noncomputable abbrev Kn:=List Int×Int
def Bz(n:Nat)(s:Int)(b:List Int):Prop:=b.length=n/\(∀x∈b,0<=x)/\b.sum=s
noncomputable def itB(n:Nat)(s:Int):Nat->List Int
 |0=>List.replicate (n-1) 0++[s]
 |k+1=>U7 (itB n s k)
theorem Zdm{n:Nat}{s:Int}{b:List Int}(hn:1<=n)(h:Bz n s b):ZA b=0 ↔ Qe b+1=cbN n s:=by
 obtain⟨h1,h2,h3⟩:=h
 constructor
 ·intro z
  have ha:=Um b (b.length-1)
  have hd:b.drop 1=List.replicate (b.length-1) 0:=Zau (fun j h1 h2=>ha j (by unfold ZA at z;lia) (by lia))
  have e:b=b.getD 0 0::List.replicate (b.length-1) 0:=by
   rw[<- hd,<- UK (by lia),List.drop_zero]
  have:Ve b=0:=by rw[e];exact ZdJ _ _
  unfold Qe
  rw[this,h1,h3]
  lia
 ·intro z
  apply Classical.byContradiction
  intro c
  have ok:=Zcj h2 c
  have nm:=Zdh h2 ok
  have nn:=Zfr h2 ok
  have nl:=ZaG ok
  have ns:=ZaF ok
  have bd:=Zfp (l:=U7 b) (fun q=>by rw[q] at nl;simp at nl;lia) nn
  rw[nl,ns,h1,h3] at bd
  lia
theorem VD{n:Nat}{s:Int}(hn:2<=n)(hs:0<=s):∀k:Nat,(k:Int)<cbN n s->Bz n s (itB n s k)/\Qe (itB n s k)=k
 |0,_=>by
  refine⟨⟨by simp[itB];lia,fun x hx=>?_,by simp[itB]⟩,Zfn hs _⟩
  simp only[itB,Zti,List.mem_replicate,Zt0] at hx
  rcases hx with ⟨_,rfl⟩|rfl<;>lia
 |k+1,h=>by
  obtain⟨B,e⟩:=VD hn hs k (by lia)
  have c:ZA (itB n s k)≠0:=fun z=>by
   have:=(Zdm (by lia) B).mp z
   lia
  have ok:=Zcj B.2.1 c
  refine⟨⟨(ZaG ok).trans B.1,Zfr B.2.1 ok,(ZaF ok).trans B.2.2⟩, ?_⟩
  show Qe (U7 (itB n s k))=_
  rw[Zdh B.2.1 ok,e]
  lia
theorem Zf8{n:Nat}{s:Int}(hn:2<=n)(hs:0<=s){b:List Int}(h:Bz n s b):(Qe b).toNat<(cbN n s).toNat/\itB n s (Qe b).toNat=b:=by
 have bd:=Zfp (l:=b) (fun z=>by have:=h.1;rw[z] at this;simp at this;lia) h.2.1
 rw[h.1,h.2.2] at bd
 obtain⟨B,e⟩:=VD hn hs (Qe b).toNat (by lia)
 have e1:=QW h.2.1 (by have:=h.1;lia)
 have e2:=QW B.2.1 (by have:=B.1;lia)
 rw[B.1,B.2.2,e,show (((Qe b).toNat:Nat):Int)=Qe b by lia] at e2
 rw[h.1,h.2.2] at e1
 exact⟨by lia,e2.symm.trans e1⟩
theorem Zkn{n:Nat}{s:Int}(hn:2<=n)(hs:0<=s){i j:Nat}(hij:i<j)(hj:(j:Int)<cbN n s):HT.ZZ (itB n s i) (itB n s j)=true:=by
 obtain⟨B,e⟩:=VD hn hs i (by lia)
 obtain⟨B',e'⟩:=VD hn hs j hj
 cases c:HT.ZZ (itB n s i) (itB n s j) with
 |true=>rfl
 |false =>
  have:=ZgQ (a:=itB n s j) (b:=itB n s i) (by rw[B.1,B'.1]) (by rw[B.2.2,B'.2.2]) B'.2.1 B.2.1 c
  lia
def St(n:Nat)(s:Int)(a:Kn):Prop:=Bz n s a.1/\0<=a.2/\a.2<n/\0<a.1.getD a.2.toNat 0
noncomputable def Zbm(b:List Int)(i:Nat):List Kn:=((List.range i).filter fun j=>decide (0<b.getD j 0)).map fun(j:Nat)=>(b,(j:Int))
noncomputable def Zes(n:Nat)(s:Int)(k:Nat):List Kn:=(List.range k).flatMap fun j=>Zbm (itB n s j) n
noncomputable def Zih(n:Nat)(s:Int):List Kn:=Zes n s (cbN n s).toNat
theorem ZbO(n:Nat)(s:Int)(k:Nat):Zes n s (k+1)=Zes n s k++Zbm (itB n s k) n:=by
 unfold Zes
 rw[ZuK,Zun]
 simp
theorem ZeP(b:List Int)(i:Nat):Zbm b (i+1)=Zbm b i++(if 0<b.getD i 0 then [(b,(i:Int))] else []):=by
 unfold Zbm
 rw[ZuK,List.filter_append,ZtE]
 congr 1
 by_cases c:0<b.getD i 0
 ·rw[if_pos c,Zu0,if_pos (decide_eq_true c)];rfl
 ·rw[if_neg c,Zu0,if_neg (by simpa using c)];rfl
theorem UZ{b:List Int}{i:Nat}{a:Kn}:a∈Zbm b i ↔ a.1=b/\0<=a.2/\a.2<i/\0<b.getD a.2.toNat 0:=by
 unfold Zbm
 constructor
 ·intro h
  obtain⟨j,hj,rfl⟩:=Ztx.mp h
  obtain⟨h1,h2⟩:=ZtV.mp hj
  have:=Ztu.mp h1
  exact⟨rfl,by show 0<=(j:Int);lia,by show (j:Int)<i;lia,by simpa using h2⟩
 ·rintro⟨rfl,h1,h2,h3⟩
  refine Ztx.mpr ⟨a.2.toNat,ZtV.mpr ⟨Ztu.mpr (by lia),by simpa using h3⟩, ?_⟩
  exact Prod.ext rfl (by show ((a.2.toNat:Nat):Int)=a.2;lia)
theorem Zht{n:Nat}{s:Int}(hn:2<=n)(hs:0<=s){k:Nat}(hk:(k:Int)<=cbN n s){a:Kn}(h:a∈Zes n s k):St n s a:=by
 obtain⟨j,hj,ha⟩:=Zuf.mp h
 have:=Ztu.mp hj
 obtain⟨e,h1,h2,h3⟩:=UZ.mp ha
 exact⟨by rw[e];exact(VD hn hs j (by lia)).1,h1,h2,by rw[e];exact h3⟩
theorem UF{n:Nat}{s:Int}(hn:2<=n)(hs:0<=s){a:Kn}:a∈Zih n s ↔ St n s a:=by
 have c0:=Zaw n s
 constructor
 ·exact fun h=>Zht hn hs (by lia) h
 ·rintro⟨B,h1,h2,h3⟩
  obtain⟨g1,g2⟩:=Zf8 hn hs B
  exact Zuf.mpr ⟨_,Ztu.mpr g1,UZ.mpr ⟨g2.symm,h1,h2,by rw[g2];exact h3⟩⟩
theorem Zce{a b:Kn}(h:HT.ZZ a.1 b.1=true):HL.Jg a b=true:=by
 unfold HL.Jg
 by_cases c:a.1=b.1
 ·rw[c,HL.VB] at h;cases h
 ·rw[if_neg c];exact h
theorem Ziy(b:List Int):∀i,(Zbm b i).Pairwise fun x y=>HL.Jg x y=true:=fun i=>by
 unfold Zbm
 rw[List.pairwise_map]
 refine(Zug (n:=i)).filter _ |>.imp ?_
 intro x y h
 unfold HL.Jg
 rw[if_pos rfl]
 exact decide_eq_true (by show (x:Int)<y;lia)
theorem Zaa{n:Nat}{s:Int}(hn:2<=n)(hs:0<=s):(Zih n s).Pairwise fun x y=>HL.Jg x y=true:=by
 unfold Zih Zes
 rw[List.pairwise_flatMap]
 refine⟨fun j _=>Ziy _ _, ?_⟩
 refine List.Pairwise.imp_of_mem ?_ (Zug (n:=(cbN n s).toNat))
 intro i j hi hj hij x hx y hy
 have h2:=Ztu.mp hj
 obtain⟨e,_⟩:=UZ.mp hx
 obtain⟨e',_⟩:=UZ.mp hy
 exact Zce (by rw[e,e'];exact Zkn hn hs hij (by lia))
theorem Zin{l:List Kn}(h:l.Pairwise fun x y=>HL.Jg x y=true):l.Nodup:=h.imp fun {a b} q z=>by
 rw[z,HL.Vn] at q;cases q
noncomputable def ZfA(b:List Int)(i:Nat):List Int:=b.set i (b.getD i 0+1)
noncomputable def Zhg(b:List Int)(i:Nat):List Int:=b.set i (b.getD i 0-1)
theorem QL{b:List Int}{i:Nat}(h:i<b.length):Zhg (ZfA b i) i=b:=by
 unfold Zhg ZfA
 rw[M1g h,ZuI]
 exact sset h (by lia)
where
 M1g {b:List Int}{i:Nat}{v:Int} (h:i<b.length):(b.set i v).getD i 0=v:=by simp[Ztf,h]
 sset {b:List Int}{i:Nat}{v:Int} (h:i<b.length) (e:v=b.getD i 0):b.set i v=b:=by
  rw[e,Ztf,Zth h]
  exact List.set_getElem_self h
theorem ZiN{b:List Int}{i:Nat}(h:i<b.length):ZfA (Zhg b i) i=b:=by
 unfold Zhg ZfA
 rw[QL.M1g h,ZuI]
 exact QL.sset h (by lia)
noncomputable def unU(n:Nat)(s:Int):List Kn:=(List.range (cbN n (s-1)).toNat).flatMap fun k=>(List.range n).map fun(i:Nat)=>(ZfA (itB n (s-1) k) i,(i:Int))
theorem Zdz{α β:Type}{f:α->List β}{m:Nat}:∀{l:List α},(∀a∈l,(f a).length=m)->(l.flatMap f).length=m*l.length
 |[],_=>by simp
 |a::l,h=>by
  rw[List.flatMap_cons,Zt3,h a (by simp),Zdz (fun b hb=>h b (by simp[hb])),Ztz,Nat.mul_add]
  lia
theorem Zip(n:Nat)(s:Int):(unU n s).length=n*(cbN n (s-1)).toNat:=by
 unfold unU
 rw[Zdz (m:=n) (fun a _=>by simp)]
 simp
theorem ZkA{n:Nat}{s:Int}{b:List Int}{i:Nat}(h:Bz n (s-1) b)(hi:i<n):Bz n s (ZfA b i):=by
 obtain⟨h1,h2,h3⟩:=h
 refine⟨by simp[ZfA,h1],fun x hx=>?_, ?_⟩
 ·unfold ZfA at hx
  rcases Zuk hx with c|c
  ·exact h2 x c
  ·have:=ZfE h2 i
   lia
 ·unfold ZfA
  rw[ZbU (by lia),h3]
  lia
theorem Zgd{n:Nat}{s:Int}{b:List Int}{i:Nat}(h:Bz n s b)(hi:i<n)(hp:0<b.getD i 0):Bz n (s-1) (Zhg b i):=by
 obtain⟨h1,h2,h3⟩:=h
 refine⟨by simp[Zhg,h1],fun x hx=>?_, ?_⟩
 ·unfold Zhg at hx
  rcases Zuk hx with c|c
  ·exact h2 x c
  ·lia
 ·unfold Zhg
  rw[ZbU (by lia),h3]
  lia
theorem ZdO{n:Nat}{s:Int}{b:List Int}{i:Nat}(h:Bz n s b)(hi:i<n)(hp:0<b.getD i 0):1<=s:=by
 have:=sum_nn (Zgd h hi hp).2.1
 rw[(Zgd h hi hp).2.2] at this
 lia
theorem Zio{n:Nat}{s:Int}(hn:2<=n){a:Kn}:a∈unU n s ↔ St n s a:=by
 constructor
 ·intro h
  obtain⟨k,hk,ha⟩:=Zuf.mp h
  obtain⟨i,hi,rfl⟩:=Ztx.mp ha
  have h1:=Ztu.mp hk
  have h2:=Ztu.mp hi
  have hs:0<=s-1:=by
   apply Classical.byContradiction
   intro c
   rw[Vw (by lia)] at h1
   simp at h1
  have B:=(VD hn hs k (by lia)).1
  refine⟨ZkA B h2,by show (0:Int)<=i;lia,by show (i:Int)<n;lia, ?_⟩
  show 0<(ZfA (itB n (s-1) k) i).getD ((i:Int)).toNat 0
  rw[Zt6,ZfA,QL.M1g (by rw[B.1];exact h2)]
  have:=ZfE B.2.1 i
  lia
 ·rintro⟨B,h1,h2,h3⟩
  have hi:a.2.toNat<n:=by lia
  have hs:=ZdO B hi h3
  obtain⟨g1,g2⟩:=Zf8 hn (by lia) (Zgd B hi h3)
  refine Zuf.mpr ⟨_,Ztu.mpr g1,Ztx.mpr ⟨a.2.toNat,Ztu.mpr hi, ?_⟩⟩
  rw[g2,ZiN (by rw[B.1];exact hi)]
  exact Prod.ext rfl (by show ((a.2.toNat:Nat):Int)=a.2;lia)
theorem Zj1{n:Nat}{s:Int}(hn:2<=n):(unU n s).Nodup:=by
 have nd:∀m,(List.range m).Nodup:=fun m=>(Zug (n:=m)).imp fun {a b} h z=>by lia
 refine Zao (fun k hk=>Zan (fun i j e=>?_) (nd n)) (nd _) (fun k hk k' hk' hne y hy hy'=>?_)
 ·have:=congrArg Prod.snd e
  simp only at this
  lia
 ·obtain⟨i,hi,rfl⟩:=Ztx.mp hy
  obtain⟨j,hj,e⟩:=Ztx.mp hy'
  have h1:=Ztu.mp hk
  have h2:=Ztu.mp hi
  have h1':=Ztu.mp hk'
  have hs:0<=s-1:=by
   apply Classical.byContradiction
   intro c
   rw[Vw (by lia)] at h1
   simp at h1
  have e1:=congrArg Prod.fst e
  have e2:=congrArg Prod.snd e
  simp only at e1 e2
  obtain rfl:j=i:=by lia
  obtain⟨B,q⟩:=VD hn hs k (by lia)
  obtain⟨B',q'⟩:=VD hn hs k' (by lia)
  have e3:=congrArg (fun b=>Zhg b j) e1
  simp only[QL (show j<(itB n (s-1) k).length by rw[B.1];exact h2),QL (show j<(itB n (s-1) k').length by rw[B'.1];exact h2)] at e3
  rw[<- e3,q'] at q
  lia
theorem ZdK{n:Nat}{s:Int}(hn:2<=n)(hs:0<=s):((Zih n s).length:Int)=n*cbN n (s-1):=by
 have c0:=Zaw n (s-1)
 rw[ZhY (Zin (Zaa hn hs)) (Zj1 (s:=s) hn) (fun x=>(UF hn hs).trans (Zio hn).symm),Zip]
 rw[Int.natCast_mul,Zt5 c0]
noncomputable def pdN(a:Kn):Nat:=match J9 a 3000 with
 |some i=>i+1
 |none=>0
noncomputable def stS(st:List (Nat×Kn)×List Kn)(a:Kn):List (Nat×Kn)×List Kn:=if a∈st.2 then st else (st.1++[(pdN a,a)],(Jh a (pdN a)).foldl JA st.2)
theorem Zi2(a:Kn):pdN a<=3000:=by
 unfold pdN
 cases h:J9 a 3000 with
 |none=>simp
 |some i=>have:=(Ue h).1;simp only;lia
theorem ZfF{L:List Kn}:∀{ks:List Kn},(L.foldl JA ks).length<=ks.length+L.length:=by
 induction L with
 |nil=>intro ks;simp
 |cons a L ih =>
  intro ks
  have h1:=ih (ks:=JA ks a)
  have h2:(JA ks a).length<=ks.length+1:=by unfold JA;split<;>simp
  rw[Zu7,Ztz]
  lia
theorem ZjB(st:List (Nat×Kn)×List Kn)(a:Kn):(stS st a).2.length<=st.2.length+3000/\(stS st a).1.length<=st.1.length+1:=by
 unfold stS
 split
 ·exact⟨by lia,by lia⟩
 ·have h1:=ZfF (L:=Jh a (pdN a)) (ks:=st.2)
  have h2:=Zi2 a
  rw[ZO] at h1
  exact⟨by simp only;lia,by simp⟩
theorem Zit(R:List (Nat×Kn))(L:List Kn):∀(R':List (Nat×Kn)) (ks:List Kn),L.foldl stS (R++R',ks)=(R++(L.foldl stS (R',ks)).1,(L.foldl stS (R',ks)).2):=by
 induction L with
 |nil=>intro R' ks;rfl
 |cons a L ih =>
  intro R' ks
  rw[Zu7,Zu7]
  have e:stS (R++R',ks) a=(R++(stS (R',ks) a).1,(stS (R',ks) a).2):=by
   unfold stS
   simp only
   split
   ·rfl
   ·rw[ZtI]
  rw[e,ih]
theorem ZcU:∀{L ks:List Kn},L.Nodup->(∀x∈L,x ∉ ks)->L.foldl JA ks=ks++L
 |[],ks,_,_=>by simp
 |a::L,ks,nd,h=>by
  obtain⟨n1,n2⟩:=ZtJ.mp nd
  rw[Zu7,show JA ks a=ks++[a] from if_neg (h a (by simp)),ZcU n2 (fun x hx z=>?_),ZtI]
  ·rfl
  ·rcases Zti.mp z with z|z
   ·exact h x (by simp[hx]) z
   ·rw[Zt0.mp z] at hx;exact n1 hx
theorem QD{a:Kn}(h:Jm a.1 a.2){m:Nat}:∀i,its Jk (i+m) a=its Jk i a->its Jk m a=a
 |0,e=>by rw[Nat.zero_add] at e;exact e
 |i+1,e=>by
  refine QD h i ?_
  have e1:its Jk (i+1+m) a=Jk (its Jk (i+m) a):=by rw[show i+1+m=(i+m)+1 by lia];rfl
  have e2:its Jk (i+1) a=Jk (its Jk i a):=rfl
  rw[e1,e2] at e
  have e3:=congrArg tbS e
  rw[Zhx (Zjv h _),Zhx (Zjv h _)] at e3
  exact e3
theorem Zey{a:Kn}(h:Jm a.1 a.2){n:Nat}(hN:∀j,j+1<n->its Jk (j+1) a≠a):(Jh a n).Nodup:=by
 unfold Jh
 rw[List.nodup_iff_pairwise_ne,List.pairwise_map]
 refine List.Pairwise.imp_of_mem ?_ (Zug (n:=n))
 intro i j hi hj hij e
 have:=Ztu.mp hj
 refine hN (j-i-1) (by lia) (QD h i ?_)
 rw[show i+(j-i-1+1)=j by lia]
 exact e.symm
structure Fw(n:Nat)(s:Int):Prop where
 lo:2<=n
 hi:n<=24
 s0:0<=s
 s1:s<=10^60
 few:n*cbN n (s-1)<=3000
theorem Fw.stand{n:Nat}{s:Int}(F:Fw n s){a:Kn}(h:St n s a):Jm a.1 a.2:=by
 obtain⟨⟨h1,h2,h3⟩,h4,h5,h6⟩:=h
 have:=F.lo
 have:=F.hi
 have:=F.s1
 exact⟨⟨by lia,by lia,h2,by rw[h3];exact F.s1⟩,h4,by lia,h6⟩
theorem Fw.its{n:Nat}{s:Int}(F:Fw n s){a:Kn}(h:St n s a):∀i,St n s (its Jk i a)
 |0=>h
 |i+1=>by
  have ih:=F.its h i
  have S:=F.stand ih
  have S':=Zjv (F.stand h) (i+1)
  have l:(My.its Jk (i+1) a).1.length=n:=(ZaM a (i+1)).trans h.1.1
  refine⟨⟨l,S'.bd.nn, ?_⟩,S'.lo,by have:=S'.hi;lia,S'.pos⟩
  show (Qs (My.its Jk i a).1 (My.its Jk i a).2).sum=s
  rw[ZcP S.lo S.hi (Int.le_of_lt S.pos)]
  exact ih.1.2.2
theorem Fw.le{n:Nat}{s:Int}(F:Fw n s){L:List Kn}(nd:L.Nodup)(h:∀x∈L,St n s x):L.length<=3000:=by
 have h1:=Zdl nd fun x hx=>(UF F.lo F.s0).mpr (h x hx)
 have h2:=ZdK F.lo F.s0 (s:=s)
 have:=F.few
 lia
theorem Fw.back{n:Nat}{s:Int}(F:Fw n s){a:Kn}(h:St n s a):∃i,J9 a 3000=some i:=by
 cases c:J9 a 3000 with
 |some i=>exact⟨i,rfl⟩
 |none =>
  have r:=ZbZ c
  have:=F.le (Zey (n:=3001) (F.stand h) fun j hj=>r j (by lia)) fun x hx=>by
   obtain⟨j,_,rfl⟩:=Ztx.mp hx
   exact F.its h j
  rw[ZO] at this
  lia
theorem Fw.pd{n:Nat}{s:Int}(F:Fw n s){a:Kn}(h:St n s a):1<=pdN a/\My.its Jk (pdN a) a=a/\(∀j,j+1<pdN a->My.its Jk (j+1) a≠a):=by
 obtain⟨i,e⟩:=F.back h
 obtain⟨h1,h2,h3⟩:=Ue e
 have:pdN a=i+1:=by unfold pdN;rw[e]
 rw[this]
 exact⟨by lia,h2,fun j hj=>h3 j (by lia)⟩
noncomputable def V3(R:List (Nat×Kn)):List Kn:=R.flatMap fun x=>Jh x.2 x.1
structure Gd(n:Nat)(s:Int)(dn:List Kn)(st:List (Nat×Kn)×List Kn):Prop where
 rs:∀x∈st.1,x.1=pdN x.2/\St n s x.2/\∀y∈Jh x.2 x.1,HL.Jg y x.2=false
 seen:st.2=V3 st.1
 nd:st.2.Nodup
 cl:∀x∈st.2,Jk x∈st.2
 al:∀x∈dn,x∈st.2
 sub:(st.1.map (·.2)).Sublist dn
theorem Gd.st{n:Nat}{s:Int}{dn:List Kn}{st:List (Nat×Kn)×List Kn}(G:Gd n s dn st)(F:Fw n s):∀x∈st.2,St n s x:=fun x hx=>by
 rw[G.seen] at hx
 obtain⟨y,hy,hx⟩:=Zuf.mp hx
 obtain⟨j,_,rfl⟩:=Ztx.mp hx
 exact F.its (G.rs y hy).2.1 j
theorem Gd.step{n:Nat}{s:Int}{dn JY:List Kn}{a:Kn}{st:List (Nat×Kn)×List Kn}(G:Gd n s dn st)(F:Fw n s)(e:Zih n s=dn++a::JY):Gd n s (dn++[a]) (stS st a):=by
 have ha:St n s a:=(UF F.lo F.s0).mp (by rw[e];simp)
 by_cases c:a∈st.2
 ·rw[show stS st a=st from if_pos c]
  refine⟨G.rs,G.seen,G.nd,G.cl,fun x hx=>?_,G.sub.trans (List.sublist_append_left _ _)⟩
  rcases Zti.mp hx with z|z
  ·exact G.al x z
  ·rw[Zt0.mp z];exact c
 ·obtain⟨p1,p2,p3⟩:=F.pd ha
  have fwd:∀x∈st.2,∀m,My.its Jk m x∈st.2:=fun x hx m=>by
   induction m with
   |zero=>exact hx
   |succ m ih=>exact G.cl _ ih
  have dj:∀y∈Jh a (pdN a),y ∉ st.2:=fun y hy z=>by
   obtain⟨j,hj,rfl⟩:=Ztx.mp hy
   have hj:=Ztu.mp hj
   have:=fwd _ z (pdN a-j)
   rw[<- Zf5,show j+(pdN a-j)=pdN a by lia,p2] at this
   exact c this
  have wn:=Zey (F.stand ha) p3
  rw[show stS st a=(st.1++[(pdN a,a)],st.2++Jh a (pdN a)) by unfold stS;rw[if_neg c,ZcU wn dj]]
  have up:=Zaa F.lo F.s0 (s:=s)
  have mem0:a∈Jh a (pdN a):=Ztx.mpr ⟨0,Ztu.mpr (by lia),rfl⟩
  refine⟨fun x hx=>?_, ?_, ?_,fun x hx=>?_,fun x hx=>?_, ?_⟩
  ·rcases Zti.mp hx with z|z
   ·exact G.rs x z
   ·rw[Zt0.mp z]
    refine⟨rfl,ha,fun y hy=>?_⟩
    cases q:HL.Jg y a with
    |false=>rfl
    |true =>
     exfalso
     have hy':St n s y:=by
      obtain⟨j,_,rfl⟩:=Ztx.mp hy
      exact F.its ha j
     have my:=(UF F.lo F.s0).mpr hy'
     rw[e] at my up
     rcases Zti.mp my with z|z
     ·exact dj y hy (G.al y z)
     ·rcases Zts.mp z with z|z
      ·rw[z,HL.Vn] at q;cases q
      ·have:=(List.pairwise_cons.mp (List.pairwise_append.mp up).2.1).1 y z
       have:=HL.Zbr q this
       rw[HL.Vn] at this;cases this
  ·show st.2++_=V3 (st.1++_)
   unfold V3
   rw[Zun,G.seen]
   simp[V3]
  ·exact ZtX.mpr ⟨G.nd,wn,fun x hx y hy z=>dj y hy (z▸hx)⟩
  ·show Jk x∈st.2++_
   rcases Zti.mp hx with z|z
   ·exact Ztj _ (G.cl x z)
   ·refine Ztg _ ?_
    obtain⟨j,hj,rfl⟩:=Ztx.mp z
    have hj:=Ztu.mp hj
    by_cases q:j+1=pdN a
    ·have:Jk (My.its Jk j a)=a:=by
      show My.its Jk (j+1) a=a
      rw[q];exact p2
     rw[this];exact mem0
    ·exact Ztx.mpr ⟨j+1,Ztu.mpr (by lia),rfl⟩
  ·show x∈st.2++_
   rcases Zti.mp hx with z|z
   ·exact Ztj _ (G.al x z)
   ·rw[Zt0.mp z];exact Ztg _ mem0
  ·rw[ZtE]
   exact G.sub.append (List.Sublist.refl _)
theorem Gd.fold{n:Nat}{s:Int}(F:Fw n s):∀(L dn JY:List Kn) (st:List (Nat×Kn)×List Kn),Gd n s dn st->Zih n s=dn++(L++JY)->Gd n s (dn++L) (L.foldl stS st)
 |[],dn,JY,st,G,e=>by simpa using G
 |a::L,dn,JY,st,G,e=>by
  have G':=Gd.fold F L (dn++[a]) JY (stS st a) (G.step F (JY:=L++JY) (by simpa using e)) (by simpa using e)
  simpa using G'
theorem gd0{n:Nat}{s:Int}:Gd n s [] ([],[]):=⟨by simp,rfl,by simp,by simp,by simp,by simp⟩
noncomputable def rnI(n:Nat)(s:Int)(k:Nat):List (Nat×Kn)×List Kn:=(Zes n s k).foldl stS ([],[])
noncomputable def rnS(n:Nat)(s:Int):List (Nat×Kn)×List Kn:=rnI n s (cbN n s).toNat
theorem ZaZ(n:Nat)(s:Int):∀{k m:Nat},k<=m->∃JY,Zes n s m=Zes n s k++JY
 |k,0,h=>⟨[],by rw[show k=0 by lia];simp⟩
 |k,m+1,h=>by
  by_cases c:k=m+1
  ·exact⟨[],by rw[c];simp⟩
  ·obtain⟨r,e⟩:=ZaZ n s (show k<=m by lia)
   exact⟨r++Zbm (itB n s m) n,by rw[ZbO,e,ZtI]⟩
theorem ZdT{n:Nat}{s:Int}(F:Fw n s){k:Nat}(hk:k<=(cbN n s).toNat):Gd n s (Zes n s k) (rnI n s k):=by
 obtain⟨r,e⟩:=ZaZ n s hk
 have:=Gd.fold F (Zes n s k) [] r ([],[]) gd0 (by simpa[Zih] using e)
 simpa[rnI] using this
theorem Zg5(n:Nat)(s:Int)(k:Nat):rnI n s (k+1)=((rnI n s k).1++((Zbm (itB n s k) n).foldl stS ([],(rnI n s k).2)).1,((Zbm (itB n s k) n).foldl stS ([],(rnI n s k).2)).2):=by
 unfold rnI
 rw[ZbO,ZuC]
 have:=Zit ((Zes n s k).foldl stS ([],[])).1 (Zbm (itB n s k) n) [] ((Zes n s k).foldl stS ([],[])).2
 rw[ZtG] at this
 exact this
theorem ZeE{n:Nat}{s:Int}(F:Fw n s){k:Nat}(hk:k<=(cbN n s).toNat):(rnI n s k).2.length<=3000/\(rnI n s k).1.length<=3000:=by
 have G:=ZdT F hk
 refine⟨F.le G.nd (G.st F), ?_⟩
 have h1:=F.le (L:=(rnI n s k).1.map (·.2)) ?_ ?_
 ·simpa using h1
 ·have c0:=Zaw n s
  obtain⟨r,e⟩:=ZaZ n s hk
  have:=Zin (Zaa F.lo F.s0 (s:=s))
  unfold Zih at this
  rw[e] at this
  exact G.sub.nodup (ZtX.mp this).1
 ·intro x hx
  obtain⟨y,hy,rfl⟩:=Ztx.mp hx
  exact(G.rs y hy).2.1
theorem ZjF{n:Nat}{s:Int}(F:Fw n s):((rnS n s).2.length:Int)=n*cbN n (s-1):=by
 have G:=ZdT F (Zto _)
 rw[<- ZdK F.lo F.s0]
 congr 1
 exact ZhY G.nd (Zin (Zaa F.lo F.s0)) fun x=>⟨fun h=>(UF F.lo F.s0).mpr (G.st F x h),fun h=>G.al x h⟩
theorem Zle{n:Nat}{s:Int}(F:Fw n s):((rnS n s).1.map (·.2)).Pairwise fun x y=>HL.Jg x y=true:=(Zaa F.lo F.s0).sublist (ZdT F (Zto _)).sub
structure Rk(n:Nat)(s:Int)(met:List Kn)(x:Nat×Kn):Prop where
 c:x.1=pdN x.2
 st:St n s x.2
 lo:∀y∈Jh x.2 x.1,HL.Jg y x.2=false
 dj:∀y∈Jh x.2 x.1,y ∉ met
 len:met.length<=3000
theorem Zlf{n:Nat}{s:Int}(F:Fw n s){k:Nat}{x:Nat×Kn}(h:(rnS n s).1[k]?=some x):Rk n s (V3 ((rnS n s).1.take k)) x/\V3 ((rnS n s).1.take (k+1))=V3 ((rnS n s).1.take k)++Jh x.2 x.1:=by
 have G:=ZdT F (Zto _)
 obtain⟨h1,h2,h3⟩:=G.rs x (Zuj h)
 have hk:=(Ztk.mp h).1
 have e:(rnS n s).1.take (k+1)=(rnS n s).1.take k++[x]:=by rw[List.take_succ,h];rfl
 have e2:V3 ((rnS n s).1.take (k+1))=V3 ((rnS n s).1.take k)++Jh x.2 x.1:=by
  rw[e];unfold V3;rw[Zun];simp
 have e3:V3 (rnS n s).1=V3 ((rnS n s).1.take (k+1))++V3 ((rnS n s).1.drop (k+1)):=by
  unfold V3
  rw[<- Zun,Zuw]
 have nd:=G.nd
 have sn:=G.seen
 have l3:=(ZeE F (Zto _)).1
 change (rnS n s).2.Nodup at nd
 change (rnS n s).2=V3 (rnS n s).1 at sn
 change (rnS n s).2.length<=3000 at l3
 rw[sn,e3,e2] at nd l3
 have n1:=(ZtX.mp nd).1
 obtain⟨_,_,n2⟩:=ZtX.mp n1
 exact⟨⟨h1,h2,h3,fun y hy z=>n2 y z y hy rfl,by rw[Zt3,Zt3] at l3;lia⟩,e2⟩
noncomputable def lsF(bs:List Int)(p:Int)(i:Nat)(x:Nat):Int:=(if (x:Int)=p then 0 else bs.getD x 0)+if ((x:Int)-(p+1))%bs.length<i then bs.getD p.toNat 0/bs.length+(if ((x:Int)-(p+1))%bs.length<bs.getD p.toNat 0%bs.length then 1 else 0) else 0
section
variable {bs:List Int}{p:Int}
theorem ZiH(h0:0<=p)(h1:p<bs.length):bs.set p.toNat 0=tab bs.length (lsF bs p 0):=by
 refine Qo (by simp) fun x hx=>?_
 rw[L2.getD_set (by lia)]
 unfold lsF
 have:=Zt4 ((x:Int)-(p+1)) (show (bs.length:Int)≠0 by lia)
 rw[if_neg (show ¬((x:Int)-(p+1))%bs.length<((0:Nat):Int) by lia)]
 by_cases c:p.toNat=x
 ·rw[if_pos c,if_pos (by lia)];lia
 ·rw[if_neg c,if_neg (by lia)];lia
theorem ZiJ(h0:0<=p)(h1:p<bs.length){i:Nat}(hi:i<bs.length) :
  (tab bs.length (lsF bs p i)).set ((p+1+i)%bs.length).toNat (lsF bs p i ((p+1+i)%bs.length).toNat+bs.getD p.toNat 0/bs.length+(if (i:Int)<bs.getD p.toNat 0%bs.length then 1 else 0))=tab bs.length (lsF bs p (i+1)):=by
 have hn:(0:Int)<bs.length:=by lia
 have y0:=Zt4 (p+1+i) (show (bs.length:Int)≠0 by lia)
 have y1:=Zty (p+1+i) hn
 rw[ZbS (by lia)]
 refine V5 fun x hx=>?_
 have d0:=Zt4 ((x:Int)-(p+1)) (show (bs.length:Int)≠0 by lia)
 have d1:=Zty ((x:Int)-(p+1)) hn
 have key:((x:Int)-(p+1))%bs.length=i ↔ x=((p+1+i)%bs.length).toNat:=by
  constructor
  ·intro e
   have:(p+1+i)%bs.length=x:=by
    rw[<- e,Int.add_emod_emod,show p+1+((x:Int)-(p+1))=x by lia,ZtD (by lia) (by lia)]
   lia
  ·intro e
   have:(x:Int)=(p+1+i)%bs.length:=by lia
   rw[this,Int.emod_sub_emod,show p+1+(i:Int)-(p+1)=i by lia,ZtD (by lia) (by lia)]
 by_cases c:x=((p+1+i)%bs.length).toNat
 ·rw[if_pos c,<- c]
  have hk:=key.mpr c
  unfold lsF
  rw[hk,if_neg (show ¬(i:Int)<(i:Int) by lia),if_pos (show (i:Int)<((i+1:Nat):Int) by lia)]
  lia
 ·rw[if_neg c]
  have hk:¬((x:Int)-(p+1))%bs.length=i:=fun z=>c (key.mp z)
  unfold lsF
  by_cases q:((x:Int)-(p+1))%bs.length<i
  ·rw[if_pos q,if_pos (show ((x:Int)-(p+1))%bs.length<((i+1:Nat):Int) by lia)]
  ·rw[if_neg q,if_neg (show ¬((x:Int)-(p+1))%bs.length<((i+1:Nat):Int) by lia)]
theorem Zka(h0:0<=p)(h1:p<bs.length):tab bs.length (lsF bs p bs.length)=Qs bs p:=by
 have hn:(0:Int)<bs.length:=by lia
 refine V5 fun x hx=>?_
 have d0:=Zt4 ((x:Int)-(p+1)) (show (bs.length:Int)≠0 by lia)
 have d1:=Zty ((x:Int)-(p+1)) hn
 have o1:=Zty (bs.getD p.toNat 0) hn
 have e:((x:Int)-p)%bs.length=if ((x:Int)-(p+1))%bs.length+1=bs.length then 0 else ((x:Int)-(p+1))%bs.length+1:=by
  have:((x:Int)-p)%bs.length=(((x:Int)-(p+1))%bs.length+1)%bs.length:=by
   rw[Int.emod_add_emod,show (x:Int)-(p+1)+1=x-p by lia]
  rw[this]
  split
  ·rename_i c;rw[c,Int.emod_self]
  ·exact ZtD (by lia) (by lia)
 have e2:(if 1<=((x:Int)-p)%bs.length/\((x:Int)-p)%bs.length<=bs.getD p.toNat 0%bs.length then (1:Int) else 0)=if ((x:Int)-(p+1))%bs.length<bs.getD p.toNat 0%bs.length then 1 else 0:=by
  generalize ((x:Int)-p)%bs.length=D at e
  subst e
  by_cases q:((x:Int)-(p+1))%bs.length<bs.getD p.toNat 0%bs.length
  ·rw[if_pos q]
   apply if_pos
   split<;>lia
  ·rw[if_neg q]
   apply if_neg
   split<;>lia
 unfold lsF UY Zh4 Zju
 rw[if_pos d1,e2]
 lia
theorem ZjY(p s n:Int):(p+s)%n=(p+s%n)%n:=by rw[Int.add_emod_emod]
end
end My
namespace My
open PySem L2
set_option hygiene false
local macro_rules | `(tactic| walk_at "pu")=>`(tactic| try simp -implicitDefEqProofs only[Zcu,Zcv,ZtT,ZtM,Zu1,Zu4,List.replicate_succ,List.replicate_zero,Zub,Rr.bind_ok,Rr.bind_exc,Rr.bind_bad,Rr.thenS_ok,Rr.thenS_exc,RS.seq_next,RS.seq_ret,RS.seq_exc,RS.out_next,RS.out_ret,RS.out_exc,
 Zfi,ZeV,ZhD,ZhF,ZhL,ZhM,ZfD,Zig,Zc8,Zgl,ZhK,ZhJ,ZhI,ZeX,ZhH,ZhG,Zdt,Zdu,Zds,Zdr,Zfe,ZcZ,Zbu,Zbt,Ztz,ZtY,Bool.not_true,Bool.not_false,Bool.false_eq_true,if_true,if_false,Nat.reduceAdd,Nat.reduceSub,id,ZtB,Zus,Int.reduceToNat,Zal,ZaC,ZjU,ZhS,ZhR,Zdw,Zdg,Nat.reduceLeDiff,Zto,Int.reduceLT,Int.reduceLE,Int.reduceEq,decide_true,decide_false])
set_option hygiene true
seal PE PT PA PS PSs DE DT DAA DAF DS
noncomputable def top(i:Nat):Stmt:=PySem.Challenge.pw_sowring_k16_whole_all_rounds.main.body.getD i (.Pass ⟨0,0,0,0⟩)
noncomputable abbrev ZmQ:Stmt:=top 41
theorem Zry:Zt ["script", "k"] ["script", "k"] (Zf ZmQ):=⟨rfl,rfl,rfl,by decide +kernel,rfl,by decide +kernel,by decide +kernel⟩
theorem Zr8:Zw "_law_cell_at" ZmQ ["script", "k"]:=fun _ _ _ _ _ _ us hl=>by obtain⟨_,_,rfl⟩:=us2 hl;rfl
noncomputable abbrev ZmP:Stmt:=top 43
theorem ZpE:Zt ["cell", "j", "first"] ["cell", "j"] (Zf ZmP):=⟨rfl,rfl,rfl,by decide +kernel,rfl,by decide +kernel,by decide +kernel⟩
theorem Zr7:Zw "_law_stirred" ZmP ["cell", "j"]:=fun _ _ _ _ _ _ us hl=>by obtain⟨_,_,rfl⟩:=us2 hl;rfl
noncomputable abbrev Zn1:Stmt:=top 42
theorem Zos:Zt ["script", "later", "most", "sums", "k", "at"] ["script", "later", "most"] (Zf Zn1):=⟨rfl,rfl,rfl,by decide +kernel,rfl,by decide +kernel,by decide +kernel⟩
theorem Zsr:Zw "_law_sums" Zn1 ["script", "later", "most"]:=fun _ _ _ _ _ _ us hl=>by obtain⟨_,_,_,rfl⟩:=us3 hl;rfl
noncomputable abbrev Znn:Stmt:=top 47
theorem ZoC:Zt ["script", "cell", "mixed", "pits"] ["script"] (Zf Znn):=⟨rfl,rfl,rfl,by decide +kernel,rfl,by decide +kernel,by decide +kernel⟩
theorem ZrZ:Zw "_law_drawn" Znn ["script"]:=fun _ _ _ _ _ _ us hl=>by obtain⟨_,rfl⟩:=us1 hl;rfl
noncomputable abbrev ZnP:Stmt:=top 12
theorem Zsy:Zt ["value"] ["value"] (Zf ZnP):=⟨rfl,rfl,rfl,by decide +kernel,rfl,by decide +kernel,by decide +kernel⟩
theorem ZsA:Zw "is_whole" ZnP ["value"]:=fun _ _ _ _ _ _ us hl=>by obtain⟨_,rfl⟩:=us1 hl;rfl
noncomputable abbrev ZmE:Stmt:=top 13
theorem Zrp:Zt ["value", "least"] ["value", "least"] (Zf ZmE):=⟨rfl,rfl,rfl,by decide +kernel,rfl,by decide +kernel,by decide +kernel⟩
theorem ZnJ:Zw "is_whole_from" ZmE ["value", "least"]:=fun _ _ _ _ _ _ us hl=>by obtain⟨_,_,rfl⟩:=us2 hl;rfl
noncomputable abbrev Znl:Stmt:=top 11
theorem ZrN:Zt [] [] (Zf Znl):=⟨rfl,rfl,rfl,by decide +kernel,rfl,by decide +kernel,by decide +kernel⟩
theorem Zp5:Zw "most_seeds" Znl []:=fun _ _ _ _ _ _ us hl=>match us,hl with | [],_=>rfl
noncomputable abbrev ZmN:Stmt:=top 23
theorem ZnU:Zt ["pits", "seeds", "count", "k"] ["pits", "seeds"] (Zf ZmN):=⟨rfl,rfl,rfl,by decide +kernel,rfl,by decide +kernel,by decide +kernel⟩
theorem ZoO:Zw "count_boards" ZmN ["pits", "seeds"]:=fun _ _ _ _ _ _ us hl=>by obtain⟨_,_,rfl⟩:=us2 hl;rfl
noncomputable abbrev Zm3:Stmt:=top 25
theorem ZmJ:Zt ["pits", "most", "places", "low", "high", "middle"] ["pits", "most", "places"] (Zf Zm3):=⟨rfl,rfl,rfl,by decide +kernel,rfl,by decide +kernel,by decide +kernel⟩
theorem ZqF:Zw "least_seeds_for" Zm3 ["pits", "most", "places"]:=fun _ _ _ _ _ _ us hl=>by obtain⟨_,_,_,rfl⟩:=us3 hl;rfl
noncomputable abbrev ZnR:Stmt:=top 24
theorem Znt:Zt ["pits", "seeds", "number", "count", "places", "left", "board", "pits_left", "kept"] ["pits", "seeds", "number"] (Zf ZnR):=⟨rfl,rfl,rfl,by decide +kernel,rfl,by decide +kernel,by decide +kernel⟩
theorem ZsC:Zw "board_at" ZnR ["pits", "seeds", "number"]:=fun _ _ _ _ _ _ us hl=>by obtain⟨_,_,_,rfl⟩:=us3 hl;rfl
noncomputable abbrev ZmL:Stmt:=top 20
theorem Zqh:Zt ["number", "least", "most"] ["number", "least", "most"] (Zf ZmL):=⟨rfl,rfl,rfl,by decide +kernel,rfl,by decide +kernel,by decide +kernel⟩
theorem Zor:Zw "check_count" ZmL ["number", "least", "most"]:=fun _ _ _ _ _ _ us hl=>by obtain⟨_,_,_,rfl⟩:=us3 hl;rfl
noncomputable abbrev ZmK:Stmt:=top 21
theorem Zqg:Zt ["pits", "seeds"] ["pits", "seeds"] (Zf ZmK):=⟨rfl,rfl,rfl,by decide +kernel,rfl,by decide +kernel,by decide +kernel⟩
theorem Zqj:Zw "check_sizes" ZmK ["pits", "seeds"]:=fun _ _ _ _ _ _ us hl=>by obtain⟨_,_,rfl⟩:=us2 hl;rfl
noncomputable abbrev Zm8:Stmt:=top 36
theorem ZqL:Zt ["pits", "seeds"] ["pits", "seeds"] (Zf Zm8):=⟨rfl,rfl,rfl,by decide +kernel,rfl,by decide +kernel,by decide +kernel⟩
theorem Zrf:Zw "standing_count" Zm8 ["pits", "seeds"]:=fun _ _ _ _ _ _ us hl=>by obtain⟨_,_,rfl⟩:=us2 hl;rfl
noncomputable abbrev Zmv:Stmt:=top 14
theorem Zod:Zt ["values"] ["values"] (Zf Zmv):=⟨rfl,rfl,rfl,by decide +kernel,rfl,by decide +kernel,by decide +kernel⟩
theorem ZpC:Zw "is_list_from_nought" Zmv ["values"]:=fun _ _ _ _ _ _ us hl=>by obtain⟨_,rfl⟩:=us1 hl;rfl
noncomputable abbrev ZnQ:Stmt:=top 15
theorem Zsz:Zt ["board"] ["board"] (Zf ZnQ):=⟨rfl,rfl,rfl,by decide +kernel,rfl,by decide +kernel,by decide +kernel⟩
theorem ZsB:Zw "is_board" ZnQ ["board"]:=fun _ _ _ _ _ _ us hl=>by obtain⟨_,rfl⟩:=us1 hl;rfl
noncomputable abbrev ZmY:Stmt:=top 16
theorem ZrC:Zt ["board"] ["board"] (Zf ZmY):=⟨rfl,rfl,rfl,by decide +kernel,rfl,by decide +kernel,by decide +kernel⟩
theorem Zqk:Zw "check_board" ZmY ["board"]:=fun _ _ _ _ _ _ us hl=>by obtain⟨_,rfl⟩:=us1 hl;rfl
noncomputable abbrev Zm4:Stmt:=top 27
theorem ZnT:Zt ["board", "last"] ["board"] (Zf Zm4):=⟨rfl,rfl,rfl,by decide +kernel,rfl,by decide +kernel,by decide +kernel⟩
theorem ZqG:Zw "last_with_seeds" Zm4 ["board"]:=fun _ _ _ _ _ _ us hl=>by obtain⟨_,rfl⟩:=us1 hl;rfl
noncomputable abbrev Znj:Stmt:=top 26
theorem Zpq:Zt ["board", "last", "other"] ["board"] (Zf Znj):=⟨rfl,rfl,rfl,by decide +kernel,rfl,by decide +kernel,by decide +kernel⟩
theorem ZrW:Zw "next_board" Znj ["board"]:=fun _ _ _ _ _ _ us hl=>by obtain⟨_,rfl⟩:=us1 hl;rfl
noncomputable abbrev ZoR:Stmt:=top 17
theorem ZsR:Zt ["board", "pit"] ["board", "pit"] (Zf ZoR):=⟨rfl,rfl,rfl,by decide +kernel,rfl,by decide +kernel,by decide +kernel⟩
theorem ZsU:Zw "is_pit" ZoR ["board", "pit"]:=fun _ _ _ _ _ _ us hl=>by obtain⟨_,_,rfl⟩:=us2 hl;rfl
noncomputable abbrev Znz:Stmt:=top 18
theorem Zsd:Zt ["board", "pit"] ["board", "pit"] (Zf Znz):=⟨rfl,rfl,rfl,by decide +kernel,rfl,by decide +kernel,by decide +kernel⟩
theorem Zsp:Zw "check_pit" Znz ["board", "pit"]:=fun _ _ _ _ _ _ us hl=>by obtain⟨_,_,rfl⟩:=us2 hl;rfl
noncomputable abbrev Zm9:Stmt:=top 19
theorem ZqM:Zt ["board", "pit"] ["board", "pit"] (Zf Zm9):=⟨rfl,rfl,rfl,by decide +kernel,rfl,by decide +kernel,by decide +kernel⟩
theorem Zrg:Zw "check_standing" Zm9 ["board", "pit"]:=fun _ _ _ _ _ _ us hl=>by obtain⟨_,_,rfl⟩:=us2 hl;rfl
noncomputable abbrev ZmX:Stmt:=top 34
theorem ZrB:Zt ["board", "pit", "most"] ["board", "pit", "most"] (Zf ZmX):=⟨rfl,rfl,rfl,by decide +kernel,rfl,by decide +kernel,by decide +kernel⟩
theorem ZrJ:Zw "check_round" ZmX ["board", "pit", "most"]:=fun _ _ _ _ _ _ us hl=>by obtain⟨_,_,_,rfl⟩:=us3 hl;rfl
noncomputable abbrev Zot:Stmt:=top 29
theorem ZnL:Zt ["board", "pit", "pits", "rounds", "over", "other", "last", "step"] ["board", "pit"] (Zf Zot):=⟨rfl,rfl,rfl,by decide +kernel,rfl,by decide +kernel,by decide +kernel⟩
theorem ZsM:Zw "sow_pit" Zot ["board", "pit"]:=fun _ _ _ _ _ _ us hl=>by obtain⟨_,_,rfl⟩:=us2 hl;rfl
noncomputable abbrev ZmO:Stmt:=top 35
theorem Zrx:Zt ["length", "most"] ["length", "most"] (Zf ZmO):=⟨rfl,rfl,rfl,by decide +kernel,rfl,by decide +kernel,by decide +kernel⟩
theorem Zr6:Zw "check_length" ZmO ["length", "most"]:=fun _ _ _ _ _ _ us hl=>by obtain⟨_,_,rfl⟩:=us2 hl;rfl
noncomputable abbrev ZnO:Stmt:=top 33
theorem ZoF:Zt ["board", "pit", "most", "first", "standings", "standing"] ["board", "pit", "most"] (Zf ZnO):=⟨rfl,rfl,rfl,by decide +kernel,rfl,by decide +kernel,by decide +kernel⟩
theorem Zs9:Zw "round_of" ZnO ["board", "pit", "most"]:=fun _ _ _ _ _ _ us hl=>by obtain⟨_,_,_,rfl⟩:=us3 hl;rfl
noncomputable abbrev Zny:Stmt:=top 39
theorem ZpD:Zt ["board", "pit", "seen", "standings", "standing"] ["board", "pit", "seen"] (Zf Zny):=⟨rfl,rfl,rfl,by decide +kernel,rfl,by decide +kernel,by decide +kernel⟩
theorem Zso:Zw "see_round" Zny ["board", "pit", "seen"]:=fun _ _ _ _ _ _ us hl=>by obtain⟨_,_,_,rfl⟩:=us3 hl;rfl
noncomputable abbrev Znk:Stmt:=top 38
theorem Zpr:Zt ["board", "seen", "rounds", "pit"] ["board", "seen"] (Zf Znk):=⟨rfl,rfl,rfl,by decide +kernel,rfl,by decide +kernel,by decide +kernel⟩
theorem ZrX:Zw "new_rounds" Znk ["board", "seen"]:=fun _ _ _ _ _ _ us hl=>by obtain⟨_,_,rfl⟩:=us2 hl;rfl
noncomputable abbrev Znm:Stmt:=top 37
theorem ZnV:Zt ["pits", "seeds", "rounds", "seen", "board"] ["pits", "seeds"] (Zf Znm):=⟨rfl,rfl,rfl,by decide +kernel,rfl,by decide +kernel,by decide +kernel⟩
theorem ZrY:Zw "all_rounds" Znm ["pits", "seeds"]:=fun _ _ _ _ _ _ us hl=>by obtain⟨_,_,rfl⟩:=us2 hl;rfl
noncomputable abbrev Zn0:Stmt:=top 48
theorem ZnM:Zt ["pits", "seeds", "caught", "told", "e"] ["pits", "seeds"] (Zf Zn0):=⟨rfl,rfl,rfl,by decide +kernel,rfl,by decide +kernel,by decide +kernel⟩
theorem Zsq:Zw "_law_told" Zn0 ["pits", "seeds"]:=fun _ _ _ _ _ _ us hl=>by obtain⟨_,_,rfl⟩:=us2 hl;rfl
noncomputable abbrev Zno:Stmt:=top 46
theorem ZoD:Zt ["pits", "seeds", "ways", "k"] ["pits", "seeds"] (Zf Zno):=⟨rfl,rfl,rfl,by decide +kernel,rfl,by decide +kernel,by decide +kernel⟩
theorem ZqH:Zw "_law_count" Zno ["pits", "seeds"]:=fun _ _ _ _ _ _ us hl=>by obtain⟨_,_,rfl⟩:=us2 hl;rfl
noncomputable abbrev Zn2:Stmt:=top 44
theorem ZnN:Zt ["board", "pit", "pits", "seeds", "made", "k", "at"] ["board", "pit"] (Zf Zn2):=⟨rfl,rfl,rfl,by decide +kernel,rfl,by decide +kernel,by decide +kernel⟩
theorem Zss:Zw "_law_sown" Zn2 ["board", "pit"]:=fun _ _ _ _ _ _ us hl=>by obtain⟨_,_,rfl⟩:=us2 hl;rfl
noncomputable abbrev Zm5:Stmt:=top 45
theorem ZoQ:Zt ["found", "due", "k"] ["found", "due"] (Zf Zm5):=⟨rfl,rfl,rfl,by decide +kernel,rfl,by decide +kernel,by decide +kernel⟩
theorem ZqI:Zw "_law_board_same" Zm5 ["found", "due"]:=fun _ _ _ _ _ _ us hl=>by obtain⟨_,_,rfl⟩:=us2 hl;rfl
noncomputable abbrev Zmy:Stmt:=top 49
theorem Zm2:Zt ["pair", "pits", "seeds", "met", "board", "pit", "count", "here"] ["pair", "pits", "seeds", "met"] (Zf Zmy):=⟨rfl,rfl,rfl,by decide +kernel,rfl,by decide +kernel,by decide +kernel⟩
theorem Zq1:Zw "_law_round_right" Zmy ["pair", "pits", "seeds", "met"]:=fun _ _ _ _ _ _ us hl=>by obtain⟨_,_,_,_,rfl⟩:=us4 hl;rfl
noncomputable abbrev ZmA:Stmt:=top 50
theorem ZnC:Zt ["told", "pits", "seeds", "met", "pair", "k"] ["told", "pits", "seeds"] (Zf ZmA):=⟨rfl,rfl,rfl,by decide +kernel,rfl,by decide +kernel,by decide +kernel⟩
theorem Zrh:Zw "_law_all_right" ZmA ["told", "pits", "seeds"]:=fun _ _ _ _ _ _ us hl=>by obtain⟨_,_,_,rfl⟩:=us3 hl;rfl
noncomputable abbrev Zse:Stmt:=top 51
theorem Zrw:Zt ["script", "pits", "seeds", "told", "kept", "k"] ["script"] (Zf Zse):=⟨rfl,rfl,rfl,by decide +kernel,rfl,by decide +kernel,by decide +kernel⟩
theorem Ztd:Zw "law" Zse ["script"]:=fun _ _ _ _ _ _ us hl=>by obtain⟨_,rfl⟩:=us1 hl;rfl
noncomputable abbrev XN:List Str:=["SowError", "BadBoard", "BadPit", "BadCount", "NoSeeds", "TooLong", "TooMany"]
noncomputable abbrev ZcA:List (Str×Str×Bool):=[("SowError", "SowError",true),("BadBoard", "SowError",true),("BadPit", "SowError",true),("BadCount", "SowError",true),("NoSeeds", "SowError",true),("TooLong", "SowError",true),("TooMany", "SowError",true)]
noncomputable abbrev ZcC:List (Str×Str×Bool):=[("SowError", "BadBoard",false),("BadBoard", "BadBoard",true),("BadPit", "BadBoard",false),("BadCount", "BadBoard",false),("NoSeeds", "BadBoard",false),("TooLong", "BadBoard",false),("TooMany", "BadBoard",false)]
noncomputable abbrev Zgo:List (Str×Str×Bool):=[("SowError", "BadPit",false),("BadBoard", "BadPit",false),("BadPit", "BadPit",true),("BadCount", "BadPit",false),("NoSeeds", "BadPit",false),("TooLong", "BadPit",false),("TooMany", "BadPit",false)]
noncomputable abbrev ZcB:List (Str×Str×Bool):=[("SowError", "BadCount",false),("BadBoard", "BadCount",false),("BadPit", "BadCount",false),("BadCount", "BadCount",true),("NoSeeds", "BadCount",false),("TooLong", "BadCount",false),("TooMany", "BadCount",false)]
noncomputable abbrev Zev:List (Str×Str×Bool):=[("SowError", "NoSeeds",false),("BadBoard", "NoSeeds",false),("BadPit", "NoSeeds",false),("BadCount", "NoSeeds",false),("NoSeeds", "NoSeeds",true),("TooLong", "NoSeeds",false),("TooMany", "NoSeeds",false)]
noncomputable abbrev Zeu:List (Str×Str×Bool):=[("SowError", "TooLong",false),("BadBoard", "TooLong",false),("BadPit", "TooLong",false),("BadCount", "TooLong",false),("NoSeeds", "TooLong",false),("TooLong", "TooLong",true),("TooMany", "TooLong",false)]
noncomputable abbrev Zet:List (Str×Str×Bool):=[("SowError", "TooMany",false),("BadBoard", "TooMany",false),("BadPit", "TooMany",false),("BadCount", "TooMany",false),("NoSeeds", "TooMany",false),("TooLong", "TooMany",false),("TooMany", "TooMany",true)]
noncomputable abbrev XS:List (Str×Str×Bool):=ZcA++ZcC++Zgo++ZcB++Zev++Zeu++Zet
noncomputable abbrev XR:List Str:=["SowError", "BadBoard", "BadPit", "BadCount", "NoSeeds", "TooLong", "TooMany"]
noncomputable abbrev Uv:List (Str×Bool):=[("SowError",false),("BadBoard",false),("BadPit",false),("BadCount",true),("NoSeeds",false),("TooLong",false),("TooMany",false)]
noncomputable abbrev UN:List (Str×Bool):=[("SowError",false),("BadBoard",false),("BadPit",false),("BadCount",false),("NoSeeds",false),("TooLong",false),("TooMany",true)]
noncomputable abbrev J1:Stmt:=Uq (top 1) 0
theorem Zbi:Zt ["self"] ["self"] (Zf J1):=⟨rfl,rfl,rfl,by decide +kernel,rfl,by decide +kernel,by decide +kernel⟩
noncomputable abbrev J3:Stmt:=Uq (top 2) 0
theorem Zbk:Zt ["self"] ["self"] (Zf J3):=⟨rfl,rfl,rfl,by decide +kernel,rfl,by decide +kernel,by decide +kernel⟩
noncomputable abbrev Vf:Stmt:=Uq (top 3) 0
theorem ZdR:Zt ["self"] ["self"] (Zf Vf):=⟨rfl,rfl,rfl,by decide +kernel,rfl,by decide +kernel,by decide +kernel⟩
noncomputable abbrev J2:Stmt:=Uq (top 4) 0
theorem Zbj:Zt ["self"] ["self"] (Zf J2):=⟨rfl,rfl,rfl,by decide +kernel,rfl,by decide +kernel,by decide +kernel⟩
noncomputable abbrev JO:Stmt:=Uq (top 5) 0
theorem ZbY:Zt ["self"] ["self"] (Zf JO):=⟨rfl,rfl,rfl,by decide +kernel,rfl,by decide +kernel,by decide +kernel⟩
noncomputable abbrev JN:Stmt:=Uq (top 6) 0
theorem ZbX:Zt ["self"] ["self"] (Zf JN):=⟨rfl,rfl,rfl,by decide +kernel,rfl,by decide +kernel,by decide +kernel⟩
noncomputable abbrev JM:Stmt:=Uq (top 7) 0
theorem ZbW:Zt ["self"] ["self"] (Zf JM):=⟨rfl,rfl,rfl,by decide +kernel,rfl,by decide +kernel,by decide +kernel⟩
structure Txt(K:PySem.W.Frag)(mg:Str->Option Value):Prop where
 ZrI:Dfn K mg "_law_cell_at" ZmQ
 ZrH:Dfn K mg "_law_stirred" ZmP
 Zs7:Dfn K mg "_law_sums" Zn1
 Zsn:Dfn K mg "_law_drawn" Znn
 ZsJ:Dfn K mg "is_whole" ZnP
 ZnZ:Dfn K mg "is_whole_from" ZmE
 ZpX:Dfn K mg "most_seeds" Znl
 Zpf:Dfn K mg "count_boards" ZmN
 Zrc:Dfn K mg "least_seeds_for" Zm3
 ZsL:Dfn K mg "board_at" ZnR
 ZoE:Dfn K mg "check_count" ZmL
 ZqB:Dfn K mg "check_sizes" ZmK
 Zrq:Dfn K mg "standing_count" Zm8
 ZpY:Dfn K mg "is_list_from_nought" Zmv
 ZsK:Dfn K mg "is_board" ZnQ
 ZqC:Dfn K mg "check_board" ZmY
 Zrd:Dfn K mg "last_with_seeds" Zm4
 Zsk:Dfn K mg "next_board" Znj
 ZsV:Dfn K mg "is_pit" ZoR
 Zs5:Dfn K mg "check_pit" Znz
 Zrr:Dfn K mg "check_standing" Zm9
 ZrV:Dfn K mg "check_round" ZmX
 ZsT:Dfn K mg "sow_pit" Zot
 ZrG:Dfn K mg "check_length" ZmO
 ZsI:Dfn K mg "round_of" ZnO
 Zs4:Dfn K mg "see_round" Zny
 Zsl:Dfn K mg "new_rounds" Znk
 Zsm:Dfn K mg "all_rounds" Znm
 Zs6:Dfn K mg "_law_told" Zn0
 Zro:Dfn K mg "_law_count" Zno
 Zs8:Dfn K mg "_law_sown" Zn2
 Zre:Dfn K mg "_law_board_same" Zm5
 ZqD:Dfn K mg "_law_round_right" Zmy
 Zrs:Dfn K mg "_law_all_right" ZmA
 Zte:Dfn K mg "law" Zse
 c_FEWEST_PITS:∃t,mg "FEWEST_PITS"=some (.int 2 t)
 c_LONGEST:∃t,mg "LONGEST"=some (.int 20000 t)
 c_MOST_PITS:∃t,mg "MOST_PITS"=some (.int 24 t)
 c_MOST_STANDINGS:∃t,mg "MOST_STANDINGS"=some (.int 3000 t)
 z_all:mg "all"=none
 z_bool:mg "bool"=none
 z_int:mg "int"=none
 z_isinstance:mg "isinstance"=none
 z_len:mg "len"=none
 z_list:mg "list"=none
 z_min:mg "min"=none
 z_range:mg "range"=none
 z_sum:mg "sum"=none
 z_tuple:mg "tuple"=none
 x_tab:Zhv K XN XS=true
 x_exc:Zil K XR=true
 x_mg:∀n C,Zah K n C->mg n=some (.ref C)
 m_SowError:Zjq K "SowError" "called" "SowError.called" J1
 m_BadBoard:Zjq K "BadBoard" "called" "BadBoard.called" J3
 m_BadPit:Zjq K "BadPit" "called" "BadPit.called" Vf
 m_BadCount:Zjq K "BadCount" "called" "BadCount.called" J2
 m_NoSeeds:Zjq K "NoSeeds" "called" "NoSeeds.called" JO
 m_TooLong:Zjq K "TooLong" "called" "TooLong.called" JN
 m_TooMany:Zjq K "TooMany" "called" "TooMany.called" JM
section
variable {P:Program}{w:World}{K:W.Frag}{mg:Str->Option Value}{base:Heap}
theorem Zck(T:Txt K mg):MOk P w K mg base 1 "called" "SowError":=by
 obtain⟨C,f,fd,h1,h2,h3,F⟩:=T.m_SowError
 obtain⟨C2,c1,_,c2,_⟩:=JG T.x_tab (n := "SowError") (by decide)
 obtain rfl:=c1.inj h1
 refine⟨C2,f,fd,h1,c2,h2,h3,F.kp,F.binds (fun _ _ _ _ _ _ us hl=>match us,hl with | [_],_=>rfl), ?_⟩
 exact F.okP Zbi rfl rfl (fun cdv A outer s H E hr=>⟨_,_,⟨[],[],[],.P⟩,rfl,Zl (Zx JE),Zz JF,fun xs=>.inr rfl⟩)
theorem Zcm(T:Txt K mg):MOk P w K mg base 1 "called" "BadBoard":=by
 obtain⟨C,f,fd,h1,h2,h3,F⟩:=T.m_BadBoard
 obtain⟨C2,c1,_,c2,_⟩:=JG T.x_tab (n := "BadBoard") (by decide)
 obtain rfl:=c1.inj h1
 refine⟨C2,f,fd,h1,c2,h2,h3,F.kp,F.binds (fun _ _ _ _ _ _ us hl=>match us,hl with | [_],_=>rfl), ?_⟩
 exact F.okP Zbk rfl rfl (fun cdv A outer s H E hr=>⟨_,_,⟨[],[],[],.P⟩,rfl,Zl (Zx JE),Zz JF,fun xs=>.inr rfl⟩)
theorem Zfu(T:Txt K mg):MOk P w K mg base 1 "called" "BadPit":=by
 obtain⟨C,f,fd,h1,h2,h3,F⟩:=T.m_BadPit
 obtain⟨C2,c1,_,c2,_⟩:=JG T.x_tab (n := "BadPit") (by decide)
 obtain rfl:=c1.inj h1
 refine⟨C2,f,fd,h1,c2,h2,h3,F.kp,F.binds (fun _ _ _ _ _ _ us hl=>match us,hl with | [_],_=>rfl), ?_⟩
 exact F.okP ZdR rfl rfl (fun cdv A outer s H E hr=>⟨_,_,⟨[],[],[],.P⟩,rfl,Zl (Zx JE),Zz JF,fun xs=>.inr rfl⟩)
theorem Zcl(T:Txt K mg):MOk P w K mg base 1 "called" "BadCount":=by
 obtain⟨C,f,fd,h1,h2,h3,F⟩:=T.m_BadCount
 obtain⟨C2,c1,_,c2,_⟩:=JG T.x_tab (n := "BadCount") (by decide)
 obtain rfl:=c1.inj h1
 refine⟨C2,f,fd,h1,c2,h2,h3,F.kp,F.binds (fun _ _ _ _ _ _ us hl=>match us,hl with | [_],_=>rfl), ?_⟩
 exact F.okP Zbj rfl rfl (fun cdv A outer s H E hr=>⟨_,_,⟨[],[],[],.P⟩,rfl,Zl (Zx JE),Zz JF,fun xs=>.inr rfl⟩)
theorem Zec(T:Txt K mg):MOk P w K mg base 1 "called" "NoSeeds":=by
 obtain⟨C,f,fd,h1,h2,h3,F⟩:=T.m_NoSeeds
 obtain⟨C2,c1,_,c2,_⟩:=JG T.x_tab (n := "NoSeeds") (by decide)
 obtain rfl:=c1.inj h1
 refine⟨C2,f,fd,h1,c2,h2,h3,F.kp,F.binds (fun _ _ _ _ _ _ us hl=>match us,hl with | [_],_=>rfl), ?_⟩
 exact F.okP ZbY rfl rfl (fun cdv A outer s H E hr=>⟨_,_,⟨[],[],[],.P⟩,rfl,Zl (Zx JE),Zz JF,fun xs=>.inr rfl⟩)
theorem Zeb(T:Txt K mg):MOk P w K mg base 1 "called" "TooLong":=by
 obtain⟨C,f,fd,h1,h2,h3,F⟩:=T.m_TooLong
 obtain⟨C2,c1,_,c2,_⟩:=JG T.x_tab (n := "TooLong") (by decide)
 obtain rfl:=c1.inj h1
 refine⟨C2,f,fd,h1,c2,h2,h3,F.kp,F.binds (fun _ _ _ _ _ _ us hl=>match us,hl with | [_],_=>rfl), ?_⟩
 exact F.okP ZbX rfl rfl (fun cdv A outer s H E hr=>⟨_,_,⟨[],[],[],.P⟩,rfl,Zl (Zx JE),Zz JF,fun xs=>.inr rfl⟩)
theorem Zea(T:Txt K mg):MOk P w K mg base 1 "called" "TooMany":=by
 obtain⟨C,f,fd,h1,h2,h3,F⟩:=T.m_TooMany
 obtain⟨C2,c1,_,c2,_⟩:=JG T.x_tab (n := "TooMany") (by decide)
 obtain rfl:=c1.inj h1
 refine⟨C2,f,fd,h1,c2,h2,h3,F.kp,F.binds (fun _ _ _ _ _ _ us hl=>match us,hl with | [_],_=>rfl), ?_⟩
 exact F.okP ZbW rfl rfl (fun cdv A outer s H E hr=>⟨_,_,⟨[],[],[],.P⟩,rfl,Zl (Zx JE),Zz JF,fun xs=>.inr rfl⟩)
theorem ZhQ(T:Txt K mg):∀n∈XN,MOk P w K mg base 1 "called" n:=fun n hn=>by
 simp only[XN,Zts,Zud,or_false] at hn
 rcases hn with rfl|rfl|rfl|rfl|rfl|rfl|rfl
 ·exact Zck T
 ·exact Zcm T
 ·exact Zfu T
 ·exact Zcl T
 ·exact Zec T
 ·exact Zeb T
 ·exact Zea T
theorem VU:ZgI Uv (.exc "BadCount")=.ok (.bl true):=Qd (by decide)
theorem Uj:ZgI Uv (.exc "TooMany")=.ok (.bl false):=Qd (by decide)
theorem Ui:ZgI UN (.exc "BadCount")=.ok (.bl false):=Qd (by decide)
theorem U9:ZgI UN (.exc "TooMany")=.ok (.bl true):=Qd (by decide)
theorem Zcp:Uf XN (.exc "BadCount")=.ok (.str "BadCount"):=Q6 (by decide)
theorem Zef:Uf XN (.exc "TooMany")=.ok (.str "TooMany"):=Q6 (by decide)
theorem Uk:PyData.canLay0 (.str "BadCount")=true:=by rw[PyData.canLay0];decide +kernel
theorem UH:PyData.canLay0 (.str "TooMany")=true:=by rw[PyData.canLay0];decide +kernel
theorem VV{g:Bool->Bool}:Zbx g (.str "BadCount") (.str "BadCount")=.ok (.bl (g true)):=Zcg Uk Uk
theorem Ul{g:Bool->Bool}:Zbx g (.str "TooMany") (.str "BadCount")=.ok (.bl (g false)):=Zcg UH Uk
theorem UB{g:Bool->Bool}:Zbx g (.str "TooMany") (.str "TooMany")=.ok (.bl (g true)):=Zcg UH UH
set_option hygiene false
local macro_rules | `(tactic| walk_at "pd")=>`(tactic| try simp -implicitDefEqProofs (disch:=first|omega|(simp only[Ztp,Zt3,ZtH,ZtK,Ztz,ZtY,ZtQ,Zue,List.length_range,Jn,Qu];omega)|decide) only[Zcu,Zcv,ZtT,ZtM,Zu1,Zu4,ZeI,ZeH,Zub,Rr.bind_ok,Rr.bind_exc,Rr.bind_bad,Rr.thenS_ok,Rr.thenS_exc,RS.seq_next,RS.seq_ret,RS.seq_exc,RS.out_next,RS.out_ret,RS.out_exc,
 Zfi,ZeV,ZhD,ZhF,ZhL,ZhM,ZfD,Zdx,Zig,Zc8,Zgl,ZhK,ZhJ,ZhI,ZgL,ZgJ,ZgK,ZeX,ZhH,ZhG,Zdt,Zdu,Zds,Zdr,Zfe,ZcZ,Zbu,Zi8,Zlt,Zlu,Zbt,Ztz,ZtY,Bool.not_true,Bool.not_false,Bool.false_eq_true,if_true,if_false,Nat.reduceAdd,Nat.reduceSub,id,ZtB,Zus,Int.reduceToNat,Zal,ZaC,ZjU,ZhS,ZhR,ZlA,Zdw,Zdg,Nat.reduceLeDiff,Zto,Int.reduceLT,Int.reduceLE,Int.reduceEq,decide_true,decide_false,
 U6,Q3,Zby,Zfh,ZcY,ZgC,ZgA,Zf0,ZdY,Zbz,Zir,Ze1,Ziq,ZgO,ZgN,ZgM,beq_self_eq_true,Bool.and_true,Bool.true_and,Bool.and_false,Bool.false_and,ZjP,VU,Uj,Ui,U9,Zcp,Zef,VV,Ul,UB])
set_option hygiene true
noncomputable def ZmG:Pm:=⟨List Int×Int,fun a=>[.lst (a.1.map PV.int),.int a.2],fun a=>0<=a.2,fun a=>.ok (.int (QS a.1 a.2.toNat))⟩
theorem Zr4(T:Txt K mg){f:Addr}{fd:FuncData}(F:Fun K "_law_cell_at" "_law_cell_at" ZmQ f fd):J8 P w K mg base CX0 1 f fd ["script", "k"] (spF K 2 .P W0 ZmG.fn):=by
 refine F.okP Zry rfl rfl (fun cdv A outer s H E hr=>?_)
 have hu:=hr.units
 refine⟨_,_,⟨[],[],[],.P⟩,rfl,(Zd (Jd (Z0 Zac (pv 1) (Zs (ZH (K:=K)) rfl T.z_len Jq (Za (pv 0) Zh)) (Z3 _)) (Zl (Zx (Z8 Jy (ZK (Zr (K:=K)) (pv 0) (pv 1) (fun _ _=>rfl)) (Z8 Q7 Zj Zj)))) ZB)
   (Zl (Zx Zj))),
   (Zm (Γm:=[.S,.S]) (Jj (Zy (DE.toA (ZaR (Zc (i:=1) (m:=.S) rfl (by decide)) (DE.toA (Jv (Zb (Zc (i:=0) (m:=.S) rfl (by decide)) Zg))))))
   (Zz (J0 (Z7 (te:=tC .non) (Zc (i:=0) (m:=.S) rfl (by decide)) (Zc (i:=1) (m:=.S) rfl (by decide))) (DE.toA (QM (DE.toA Zi) (DE.toA Zi)))))
   ZC)
   (Zz Zi)), ?_⟩
 refine Pm.ref ZmG (g:=fun xs=>_) ?_
 rintro⟨ns,k⟩ (hk:0<=k)
 simp only[ZmG]
 walk_at "pd"
 unfold QS
 by_cases h:k<ns.length
 ·rw[decide_eq_true h]
  walk_at "pd"
 ·rw[decide_eq_false h]
  walk_at "pd"
  rw[ZaN (by lia)];rfl
theorem ZnH{ns:List Int}{k:Int}(h:0<=k):ZmG.fn [.lst (ns.map PV.int),.int k]=.ok (.int (QS ns k.toNat)):=Pm.fn_eq ZmG (ns,k) h fun(a:List Int×Int) e=>by (simp only[ZmG,List.cons.injEq,PV.lst.injEq,PV.int.injEq,PV.str.injEq,PV.bl.injEq,PV.tup.injEq,ZI,and_true] at e ⊢;first|(simp only[e];done)|(subst e;rfl)|(rw[e]))
noncomputable def ZmF:Pm:=⟨Int×Int,fun a=>[.int a.1,.int a.2],fun a=>0<=a.2/\a.2<=1000000,fun a=>.ok (.int (ZkN a.1 a.2))⟩
theorem Zr3(T:Txt K mg){f:Addr}{fd:FuncData}(F:Fun K "_law_stirred" "_law_stirred" ZmP f fd):J8 P w K mg base CX0 1 f fd ["cell", "j"] (spF K 2 .P W0 ZmF.fn):=by
 refine F.okP ZpE rfl rfl (fun cdv A outer s H E hr=>?_)
 have hu:=hr.units
 refine⟨_,_,⟨[],[],[],.P⟩,rfl,(Zd (Z2 (i:=2) ZpE.nd rfl (by first|exact Or.inl rfl|exact Or.inr rfl) (Z8 Jy (Z8 Ug (Z8 Ju (Z8 Ju (Z8 Jy (pv 0) Zj) (Z8 Ug Zj (pv 1))) Zj) Zj) Zj))
   (Zl (Zx (Z8 Vp (Z8 Jy (Z8 Ug (pv 2) (pv 2)) Zj) Zj)))),
   (Zm (Γm:=[.S,.S,.P]) (Z9 (i:=2) (J0 (DE.toA (QN (DE.toA (Jw (DE.toA (Jw (DE.toA (J0 (Zc (i:=0) (m:=.S) rfl (by decide)) (DE.toA Zi))) (DE.toA (QN (DE.toA Zi) (Zc (i:=1) (m:=.S) rfl (by decide)))))) (DE.toA Zi))) (DE.toA Zi))) (DE.toA Zi)) (by decide))
   (Zz (QP (DE.toA (J0 (DE.toA (QN (DE.toA (Zk (i:=2) rfl)) (DE.toA (Zk (i:=2) rfl)))) (DE.toA Zi))) (DE.toA Zi)))), ?_⟩
 refine Pm.ref ZmF (g:=fun xs=>_) ?_
 rintro⟨c,j⟩ ⟨h0,h1⟩
 simp only at h0 h1
 simp only[ZmF]
 walk_at "pd"
 rfl
theorem ZnG{c j:Int}(h:0<=j/\j<=1000000):ZmF.fn [.int c,.int j]=.ok (.int (ZkN c j)):=Pm.fn_eq ZmF (c,j) h fun(a:Int×Int) e=>by (simp only[ZmF,List.cons.injEq,PV.lst.injEq,PV.int.injEq,PV.str.injEq,PV.bl.injEq,PV.tup.injEq,ZI,and_true] at e ⊢;first|(simp only[e];done)|(subst e;rfl)|(rw[e]))
noncomputable def Znr:Pm:=⟨List Int×Int×Int,fun a=>[.lst (a.1.map PV.int),.int a.2.1,.int a.2.2],fun a=>a.1.length<=1000/\(0<=a.2.1/\a.2.1<=1000)/\0<a.2.2/\a.2.2<=1000,fun a=>.ok (.lst ((Ze7 a.1 a.2.1.toNat a.2.2.toNat).map PV.int))⟩
theorem Zsi(T:Txt K mg){f:Addr}{fd:FuncData}(F:Fun K "_law_sums" "_law_sums" Zn1 f fd):J8 P w K mg base CX0 1 f fd ["script", "later", "most"] (spF K 3 .F W0 Znr.fn):=by
 refine F.okP Zos rfl rfl (fun cdv A outer s H E hr=>?_)
 have hu:=hr.units
 refine⟨_,_,⟨[],[],[],.F⟩,rfl,(Zd (Qx (i:=3) Zos.nd rfl (JQ rfl T.z_range (Za (pv 2) Zh)) (ZeS Zos.nd) (fun _ _ _ _=>ZhC) (fun _ _ _ _=>Zj) hv1 rfl)
   (Zd (V0 PassesOwn.never rfl (Qy rfl T.z_range (Za (pv 1) (Za (Zs (ZH (K:=K)) rfl T.z_len Jq (Za (pv 0) Zh)) Zh))) (Ji (i:=4) Zos.nd rfl (by first|exact Or.inl rfl|exact Or.inr rfl)) (Zd (Z2 (i:=5) Zos.nd rfl (by first|exact Or.inl rfl|exact Or.inr rfl) (Z8 Jy (Z8 V9 (pv 4) (pv 1)) (pv 2)))
   (Zd (U3 (Z8 Ju (Z8 Ug (ZK (Zr (K:=K)) (pv 3) (pv 5) (fun _ _=>rfl)) Zj) (Z8 Jy (ZK (Zr (K:=K)) (pv 0) (pv 4) (fun _ _=>rfl)) (Z8 Q7 Zj Zj))) (Qz (pv 3) (pv 5) JH))
   (Zl (U3 (Z8 Jy (ZK (Zr (K:=K)) (pv 3) (pv 5) (fun _ _=>rfl)) (Z8 Q7 Zj Zj)) (Qz (pv 3) (pv 5) JH))))))
   (Zl (Zx (pv 3))))),
   (Zm (Γm:=[.S,.S,.S,.O,.U,.U]) (QK (i:=3) (Zhk (k:=1) (DI.c (Ur (Zb (Zc (i:=2) (m:=.S) rfl (by decide)) Zg))) Zmj ZhZ (DE.PF Zi)) (by decide))
   (Zm (Γm:=[.S,.S,.S,.O,.U,.U]) (V2 (Γl:=[.S,.S,.S,.O,.U,.U]) (Zc0 (Zb (Zc (i:=1) (m:=.S) rfl (by decide)) (Zb (DE.toA (Jv (Zb (Zc (i:=0) (m:=.S) rfl (by decide)) Zg))) Zg))) rfl (ZfM (i:=4) (by decide))
   (DS.out (Y:=⟨[.S,.S,.S,.O,.P,.P],[.S,.S,.S,.O,.U,.U],[.S,.S,.S,.O,.U,.U],.F⟩) (Y':=⟨[.S,.S,.S,.O,.U,.U],[.S,.S,.S,.O,.U,.U],[.S,.S,.S,.O,.U,.U],.F⟩) (Zm (Γm:=[.S,.S,.S,.O,.P,.P]) (Z9 (i:=5) (J0 (DE.toA (VL (DE.toA (Zk (i:=4) rfl)) (Zc (i:=1) (m:=.S) rfl (by decide)))) (Zc (i:=2) (m:=.S) rfl (by decide))) (by decide))
   (Zm (Γm:=[.S,.S,.S,.O,.P,.P]) (JU (i:=3) rfl (Jw (DE.toA (QN (Z7 (te:=tC .non) (Zc (i:=3) (m:=.O) rfl (by decide)) (DE.toA (Zk (i:=5) rfl))) (DE.toA Zi))) (DE.toA (J0 (Z7 (te:=tC .non) (Zc (i:=0) (m:=.S) rfl (by decide)) (DE.toA (Zk (i:=4) rfl))) (DE.toA (QM (DE.toA Zi) (DE.toA Zi)))))) (DE.toA (Zk (i:=5) rfl)))
   (JU (i:=3) rfl (J0 (Z7 (te:=tC .non) (Zc (i:=3) (m:=.O) rfl (by decide)) (DE.toA (Zk (i:=5) rfl))) (DE.toA (QM (DE.toA Zi) (DE.toA Zi)))) (DE.toA (Zk (i:=5) rfl))))) rfl rfl rfl rfl))
   (JV (VJ (i:=3) rfl)))), ?_⟩
 refine Pm.ref Znr (g:=fun xs=>_) ?_
 rintro⟨ns,l,m⟩ ⟨hn,hl,h0,h1⟩
 simp only at hn hl h0 h1
 simp only[Znr]
 walk_at "pd"
 rw[Zhe (p:=fun _=>true) (g:=fun _=>.int 0) (fun i hi=>rfl)]
 rw[show ((List.range m.toNat).filter fun _=>true).map (fun _=>PV.int 0)=(Uz ns l.toNat m.toNat 0).map PV.int by
  rw[show ((List.range m.toNat).filter fun _=>true)=List.range m.toNat from List.filter_eq_self.mpr fun _ _=>rfl,Uz,List.map_const',List.length_range,List.map_replicate]]
 walk_at "pd"
 generalize hw:Zas _ _ _=W
 obtain⟨ρ',rfl,v,u,rfl⟩:=Ja hw (fun i ρ=>∃v u,ρ=[.lst (ns.map PV.int),.int l,.int m,.lst ((Uz ns l.toNat m.toNat i).map PV.int),v,u]) ⟨_,_,rfl⟩ (by
  rintro i x ρ hx ⟨v,u,rfl⟩
  obtain⟨hi,rfl⟩:=JI hx
  have hlen:(Uz ns l.toNat m.toNat i).length=m.toNat:=UO _ _ _ _
  have m0:=Zt4 (l+(i:Int)-l) (show m≠0 by lia)
  have m1:=Zty (l+(i:Int)-l) h0
  have e:((l+(i:Int)-l)%m).toNat=i%m.toNat:=by
   have:((i%m.toNat:Nat):Int)=(l+(i:Int)-l)%m:=by rw[Int.natCast_emod,Zt5 (by lia),show l+(i:Int)-l=i by lia]
   lia
  have hb:=ZiP (P:=fun x=>0<=x/\x<10^62) (ZcM ns l.toNat m.toNat i) (by decide) ((l+(i:Int)-l)%m).toNat
  walk_at "pd"
  refine Vd ⟨.int (l+(i:Int)),.int ((l+(i:Int)-l)%m), ?_⟩
  rw[ZuI,L2.getD_set (by lia),if_pos rfl,Uz,e,show (l+(i:Int)).toNat=l.toNat+i by lia])
 walk_at "pd"
 rw[Jn]
 unfold Ze7
 rw[show ((ns.length:Int)-l).toNat=ns.length-l.toNat by lia]
theorem ZoM{ns:List Int}{l m:Int}(h:ns.length<=1000/\(0<=l/\l<=1000)/\0<m/\m<=1000):Znr.fn [.lst (ns.map PV.int),.int l,.int m]=.ok (.lst ((Ze7 ns l.toNat m.toNat).map PV.int)):=Pm.fn_eq Znr (ns,l,m) h fun(a:List Int×Int×Int) e=>by (simp only[Znr,List.cons.injEq,PV.lst.injEq,PV.int.injEq,PV.str.injEq,PV.bl.injEq,PV.tup.injEq,ZI,and_true] at e ⊢;first|(simp only[e];done)|(subst e;rfl)|(rw[e]))
noncomputable def Zla:List (Int×Int):=[(2,1499),(2,1500),(2,1501),(2,1502),(3,44),(3,45)]
noncomputable def ZkZ:List (Int×Int):=[(0,3),(1,3),(25,1),(3,-1),(3,10^60+1),(-2,5),(24,10^60)]
noncomputable def ZkL:List Int:=[0,0,18,9,6,5,4]
noncomputable def pI2(x:Int×Int):PV:=.tup [.int x.1,.int x.2]
theorem ixA{k:Int}(h0:0<=k)(h1:k<6):pIx (.lst [.tup [.int 2,.int 1499],.tup [.int 2,.int 1500],.tup [.int 2,.int 1501],.tup [.int 2,.int 1502],.tup [.int 3,.int 44],.tup [.int 3,.int 45]]) (.int k)=.ok (pI2 (Zla.getD k.toNat (0,0))):=Zfb (q:=pI2) (L:=Zla) h0 h1
theorem ixB{k:Int}(h0:0<=k)(h1:k<7):pIx (.lst [.tup [.int 0,.int 3],.tup [.int 1,.int 3],.tup [.int 25,.int 1],.tup [.int 3,.int (-1)],.tup [.int 3,.int (10^60+1)],.tup [.int (-2),.int 5],.tup [.int 24,.int (10^60)]]) (.int k)=.ok (pI2 (ZkZ.getD k.toNat (0,0))):=Zfb (q:=pI2) (L:=ZkZ) h0 h1
theorem ixC{k:Int}(h0:0<=k)(h1:k<7):pIx (.lst [.int 0,.int 0,.int 18,.int 9,.int 6,.int 5,.int 4]) (.int k)=.ok (.int (ZkL.getD k.toNat 0)):=U6 (ns:=ZkL) h0 h1
theorem Zgx{k:Int}(h0:2<=k)(h1:k<7):0<ZkL.getD k.toNat 0:=by
 rcases (show k=2\/k=3\/k=4\/k=5\/k=6 by lia) with rfl|rfl|rfl|rfl|rfl<;>decide
theorem ZfC(x:Int×Int):grd (pI2 x)=.ok (pI2 x):=Zdx
noncomputable def drM(ns:List Int):Int:=ZkN (Ze7 ns 0 8).sum 3
noncomputable def drP(ns:List Int):Int×Int:=if QS ns 0%16=5 then Zla.getD (drM ns%6).toNat (0,0) else if QS ns 0%8=3 then ZkZ.getD (drM ns%7).toNat (0,0) else (2+drM ns%5,drM ns/5%ZkL.getD (2+drM ns%5).toNat 0)
noncomputable def Znb:Pm:=⟨List Int,fun a=>[.lst (a.map PV.int)],fun a=>a.length<=1000,fun a=>.ok (pI2 (drP a))⟩
theorem ZrT(T:Txt K mg){f:Addr}{fd:FuncData}(F:Fun K "_law_drawn" "_law_drawn" Znn f fd):J8 P w K mg base CX0 2 f fd ["script"] (spF K 1 .P W0 Znb.fn):=by
 have ZrM:=Vc (P:=P) (w:=w) (base:=base) T.ZrI Zr8 (fun F=>Zr4 T F)
 have ZrL:=Vc (P:=P) (w:=w) (base:=base) T.ZrH Zr7 (fun F=>Zr3 T F)
 have ZsF:=Vc (P:=P) (w:=w) (base:=base) T.Zs7 Zsr (fun F=>Zsi T F)
 refine F.okP ZoC rfl rfl (fun cdv A outer s H E hr=>?_)
 have hu:=hr.units
 refine⟨_,_,⟨[],[],[],.P⟩,rfl,(Zd (Z2 (i:=1) ZoC.nd rfl (by first|exact Or.inl rfl|exact Or.inr rfl) (Zn ZrM (hr.mono (by decide)) rfl (Za (pv 0) (Za Zj Zh))))
   (Zd (Z2 (i:=2) ZoC.nd rfl (by first|exact Or.inl rfl|exact Or.inr rfl) (Zn ZrL (hr.mono (by decide)) rfl (Za (Zs (QU (K:=K) rfl) rfl T.z_sum Zgk (Za (Zn ZsF (hr.mono (by decide)) rfl (Za (pv 0) (Za Zj (Za Zj Zh)))) Zh)) (Za Zj Zh))))
   (Zd (Jd (Z0 (JS (K:=K) hu) (Z8 Jy (pv 1) Zj) Zj (Z3 _)) (Zl (Zx (ZK (Zr (K:=K)) (VY (Za (ZN (Za Zj (Za Zj Zh))) (Za (ZN (Za Zj (Za Zj Zh))) (Za (ZN (Za Zj (Za Zj Zh))) (Za (ZN (Za Zj (Za Zj Zh))) (Za (ZN (Za Zj (Za Zj Zh))) (Za (ZN (Za Zj (Za Zj Zh))) Zh))))))) (Z8 Jy (pv 2) Zj) (fun _ _=>rfl)))) ZB)
   (Zd (Jd (Z0 (JS (K:=K) hu) (Z8 Jy (pv 1) Zj) Zj (Z3 _)) (Zl (Zx (ZK (Zr (K:=K)) (VY (Za (ZN (Za Zj (Za Zj Zh))) (Za (ZN (Za Zj (Za Zj Zh))) (Za (ZN (Za Zj (Za Zj Zh))) (Za (ZN (Za Zj (Za (Zg7 ZcH Zj) Zh))) (Za (ZN (Za Zj (Za (Z8 Ju (Z8 Q7 Zj Zj) Zj) Zh))) (Za (ZN (Za (Zg7 ZcH Zj) (Za Zj Zh))) (Za (ZN (Za Zj (Za (Z8 Q7 Zj Zj) Zh))) Zh)))))))) (Z8 Jy (pv 2) Zj) (fun _ _=>rfl)))) ZB)
   (Zd (Z2 (i:=3) ZoC.nd rfl (by first|exact Or.inl rfl|exact Or.inr rfl) (Z8 Ju Zj (Z8 Jy (pv 2) Zj)))
   (Zl (Zx (ZN (Za (pv 3) (Za (Z8 Jy (Z8 Vp (pv 2) Zj) (ZK (Zr (K:=K)) (VY (Za Zj (Za Zj (Za Zj (Za Zj (Za Zj (Za Zj (Za Zj Zh)))))))) (pv 3) (fun _ _=>rfl))) Zh)))))))))),
   (Zm (Γm:=[.S,.P,.U,.U]) (Z9 (i:=1) (VR (Ze (Ze Zo)) (Zb (Zc (i:=0) (m:=.S) rfl (by decide)) (Zb (DE.toA Zi) Zg))) (by decide))
   (Zm (Γm:=[.S,.P,.P,.U]) (Z9 (i:=2) (VR (Ze (Ze Zo)) (Zb (DE.toA (ZfO (Zb (DE.toA (Zjh (Ze (Ze (Ze Zo))) (Zb (Zc (i:=0) (m:=.S) rfl (by decide)) (Zb (DE.toA Zi) (Zb (DE.toA Zi) Zg))))) Zg))) (Zb (DE.toA Zi) Zg))) (by decide))
   (Zm (Γm:=[.S,.P,.P,.U]) (Jj (Zy (DE.toA (Jc (g:=id) (DE.toA (J0 (DE.toA (Zk (i:=1) rfl)) (DE.toA Zi))) (DE.toA Zi))))
   (Zz (DE.grd (Z7 (te:=tC .non) (DE.toA (Vu (Zp (DE.PF (DE.grd (ZT (Zb (DE.toA Zi) (Zb (DE.toA Zi) Zg))))) (Zp (DE.PF (DE.grd (ZT (Zb (DE.toA Zi) (Zb (DE.toA Zi) Zg))))) (Zp (DE.PF (DE.grd (ZT (Zb (DE.toA Zi) (Zb (DE.toA Zi) Zg))))) (Zp (DE.PF (DE.grd (ZT (Zb (DE.toA Zi) (Zb (DE.toA Zi) Zg))))) (Zp (DE.PF (DE.grd (ZT (Zb (DE.toA Zi) (Zb (DE.toA Zi) Zg))))) (Zp (DE.PF (DE.grd (ZT (Zb (DE.toA Zi) (Zb (DE.toA Zi) Zg))))) ZY)))))))) (DE.toA (J0 (DE.toA (Zk (i:=2) rfl)) (DE.toA Zi))))))
   ZC)
   (Zm (Γm:=[.S,.P,.P,.U]) (Jj (Zy (DE.toA (Jc (g:=id) (DE.toA (J0 (DE.toA (Zk (i:=1) rfl)) (DE.toA Zi))) (DE.toA Zi))))
   (Zz (DE.grd (Z7 (te:=tC .non) (DE.toA (Vu (Zp (DE.PF (DE.grd (ZT (Zb (DE.toA Zi) (Zb (DE.toA Zi) Zg))))) (Zp (DE.PF (DE.grd (ZT (Zb (DE.toA Zi) (Zb (DE.toA Zi) Zg))))) (Zp (DE.PF (DE.grd (ZT (Zb (DE.toA Zi) (Zb (DE.toA Zi) Zg))))) (Zp (DE.PF (DE.grd (ZT (Zb (DE.toA Zi) (Zb (DE.toA (Zd6 (DE.toA Zi))) Zg))))) (Zp (DE.PF (DE.grd (ZT (Zb (DE.toA Zi) (Zb (DE.toA (Jw (DE.toA (QM (DE.toA Zi) (DE.toA Zi))) (DE.toA Zi))) Zg))))) (Zp (DE.PF (DE.grd (ZT (Zb (DE.toA (Zd6 (DE.toA Zi))) (Zb (DE.toA Zi) Zg))))) (Zp (DE.PF (DE.grd (ZT (Zb (DE.toA Zi) (Zb (DE.toA (QM (DE.toA Zi) (DE.toA Zi))) Zg))))) ZY))))))))) (DE.toA (J0 (DE.toA (Zk (i:=2) rfl)) (DE.toA Zi))))))
   ZC)
   (Zm (Γm:=[.S,.P,.P,.P]) (Z9 (i:=3) (Jw (DE.toA Zi) (DE.toA (J0 (DE.toA (Zk (i:=2) rfl)) (DE.toA Zi)))) (by decide))
   (Zz (DE.grd (ZT (Zb (DE.toA (Zk (i:=3) rfl)) (Zb (DE.toA (J0 (DE.toA (QP (DE.toA (Zk (i:=2) rfl)) (DE.toA Zi))) (Z7 (te:=tC .non) (DE.toA (Vu (Zp (DE.PF Zi) (Zp (DE.PF Zi) (Zp (DE.PF Zi) (Zp (DE.PF Zi) (Zp (DE.PF Zi) (Zp (DE.PF Zi) (Zp (DE.PF Zi) ZY))))))))) (DE.toA (Zk (i:=3) rfl))))) Zg)))))))))), ?_⟩
 refine Pm.ref Znb (g:=fun xs=>_) ?_
 rintro(ns:List Int) (hn:ns.length<=1000)
 simp only[Znb]
 walk_at "pd"
 rw[ZnH (by lia)]
 walk_at "pd"
 rw[ZoM ⟨hn,by lia,by lia⟩]
 walk_at "pd"
 rw[ZnG (by lia),show ZkN (Ze7 ns 0 8).sum 3=drM ns from rfl]
 unfold drP
 generalize drM ns=m
 have a0:=Zt4 m (show (6:Int)≠0 by lia)
 have a1:=Zty m (show (0:Int)<6 by lia)
 have b0:=Zt4 m (show (7:Int)≠0 by lia)
 have b1:=Zty m (show (0:Int)<7 by lia)
 have c0:=Zt4 m (show (5:Int)≠0 by lia)
 have c1:=Zty m (show (0:Int)<5 by lia)
 walk_at "pd"
 by_cases h1:QS ns 0%16=5
 ·rw[decide_eq_true h1,if_pos h1]
  walk_at "pd"
  rw[ixA a0 a1]
  walk_at "pd"
  rw[ZfC]
  walk_at "pd"
 ·rw[decide_eq_false h1,if_neg h1]
  walk_at "pd"
  by_cases h2:QS ns 0%8=3
  ·rw[decide_eq_true h2,if_pos h2]
   walk_at "pd"
   rw[ixB b0 b1]
   walk_at "pd"
   rw[ZfC]
   walk_at "pd"
  ·rw[decide_eq_false h2,if_neg h2]
   walk_at "pd"
   have cp:=Zgx (k:=2+m%5) (by lia) (by lia)
   rw[ixC (by lia) (by lia)]
   walk_at "pd"
   rfl
theorem Zoy{ns:List Int}(h:ns.length<=1000):Znb.fn [.lst (ns.map PV.int)]=.ok (pI2 (drP ns)):=Pm.fn_eq Znb ns h fun(a:List Int) e=>by (simp only[Znb,List.cons.injEq,PV.lst.injEq,PV.int.injEq,PV.str.injEq,PV.bl.injEq,PV.tup.injEq,ZI,and_true] at e ⊢;first|(simp only[e];done)|(subst e;rfl)|(rw[e]))
noncomputable def ZnK:Pm:=⟨Int,fun i=>[.int i],fun _=>True,fun _=>.ok (.bl true)⟩
theorem Zs1(T:Txt K mg){f:Addr}{fd:FuncData}(F:Fun K "is_whole" "is_whole" ZnP f fd):J8 P w K mg base CX0 1 f fd ["value"] (spF K 1 .P W0 ZnK.fn):=by
 refine F.okP Zsy rfl rfl (fun cdv A outer s H E hr=>?_)
 have hu:=hr.units
 refine⟨_,_,⟨[],[],[],.P⟩,rfl,(Zl (Zx (Zbp (Zs (Jl (K:=K) (n := "int") rfl) rfl T.z_isinstance Z4 (Za (pv 0) (Za (Va (v:=.ty "int") rfl T.z_int Zge rfl) Zh))) (Zak (ZjM (Zs (Jl (K:=K) (n := "bool") rfl) rfl T.z_isinstance Z4 (Za (pv 0) (Za (Va (v:=.ty "bool") rfl T.z_bool Zgf rfl) Zh)))))))),
   (Zz (ZbC (DE.toA (VZ (Zc (i:=0) (m:=.S) rfl (by decide)))) (Zk3 (DE.toA (VZ (Zc (i:=0) (m:=.S) rfl (by decide))))))), ?_⟩
 refine Pm.ref ZnK (g:=fun xs=>_) ?_
 intro (i:Int) _
 simp only[ZnK]
 walk_at "pd"
theorem Zpm{i:Int}:ZnK.fn [.int i]=.ok (.bl true):=Pm.fn_eq ZnK i trivial fun _ _=>rfl
noncomputable def Zmx:Pm:=⟨Int×Int,fun a=>[.int a.1,.int a.2],fun _=>True,fun a=>.ok (.bl (decide (a.2<=a.1)))⟩
theorem ZnI(T:Txt K mg){f:Addr}{fd:FuncData}(F:Fun K "is_whole_from" "is_whole_from" ZmE f fd):J8 P w K mg base CX0 2 f fd ["value", "least"] (spF K 2 .P W0 Zmx.fn):=by
 have ZsO:=Vc (P:=P) (w:=w) (base:=base) T.ZsJ ZsA (fun F=>Zs1 T F)
 refine F.okP Zrp rfl rfl (fun cdv A outer s H E hr=>?_)
 have hu:=hr.units
 refine⟨_,_,⟨[],[],[],.P⟩,rfl,(Zl (Zx (Zbp (Zn ZsO (hr.mono (by decide)) rfl (Za (pv 0) Zh)) (Zak (JR ZjX (pv 0) (pv 1) (Z3 _)))))),
   (Zz (ZbC (DE.toA (VR (Ze Zo) (Zb (Zc (i:=0) (m:=.S) rfl (by decide)) Zg))) (Zk7 (Zc (i:=0) (m:=.S) rfl (by decide)) (Zc (i:=1) (m:=.S) rfl (by decide))))), ?_⟩
 refine Pm.ref Zmx (g:=fun xs=>_) ?_
 rintro⟨i,j⟩ _
 simp only[Zmx]
 walk_at "pd"
 rw[Zpm]
 walk_at "pd"
theorem ZmH{i j:Int}:Zmx.fn [.int i,.int j]=.ok (.bl (decide (j<=i))):=Pm.fn_eq Zmx (i,j) trivial fun(a:Int×Int) e=>by (simp only[Zmx,List.cons.injEq,PV.lst.injEq,PV.int.injEq,PV.str.injEq,PV.bl.injEq,PV.tup.injEq,ZI,and_true] at e ⊢;first|(simp only[e];done)|(subst e;rfl)|(rw[e]))
theorem UU:Zmx.calm:=fun a q h=>by (simp only[Zmx] at h;cases h)
noncomputable def ZX:Pm:=⟨Int×Int×Int,fun a=>[.int a.1,.int a.2.1,.int a.2.2],fun a=>a.2.1<=a.1/\a.1<=a.2.2,fun _=>.ok .non⟩
theorem JD(T:Txt K mg){f:Addr}{fd:FuncData}(F:Fun K "check_count" "check_count" ZmL f fd):J8 P w K mg base CX0 3 f fd ["number", "least", "most"] (spF K 3 .P W0 ZX.fn):=by
 have ZmW:=Vc (P:=P) (w:=w) (base:=base) T.ZnZ ZnJ (fun F=>ZnI T F)
 refine F.okP Zqh rfl rfl (fun cdv A outer s H E hr=>?_)
 have hu:=hr.units
 refine⟨_,_,⟨[.S,.S,.S],[],[],.P⟩,rfl,(Zl (Jd (PW.pt (V7 (Jt (Jo (Zn ZmW (hr.mono (by decide)) rfl (Za (pv 0) (Za (pv 1) Zh))))) (VX (Z0 Q8 (pv 0) (pv 2) (Z3 _))))) (Zl U2) ZB)),
   (Jj (VH (Jz (Zag (DE.toA (VR (Ze (Ze Zo)) (Zb (Zc (i:=0) (m:=.S) rfl (by decide)) (Zb (Zc (i:=1) (m:=.S) rfl (by decide)) Zg)))))) (Zy (DE.toA (QO (Zc (i:=0) (m:=.S) rfl (by decide)) (Zc (i:=2) (m:=.S) rfl (by decide))))))
   UD
   ZC), ?_⟩
 refine Pm.ref ZX (g:=fun xs=>_) ?_
 rintro⟨n,l,m⟩ ⟨(h0:l<=n),(h1:n<=m)⟩
 simp only[ZX]
 walk_at "pd"
 rw[ZmH]
 walk_at "pd"
 rw[decide_eq_true h0]
 walk_at "pd"
 rw[decide_eq_false (show ¬m<n by lia)]
 walk_at "pd"
theorem Jx{n l m:Int}(h:l<=n/\n<=m):ZX.fn [.int n,.int l,.int m]=.ok .non:=Pm.fn_eq ZX (n,l,m) h fun _ _=>rfl
noncomputable def ZmM:Pm:=⟨Unit,fun _=>[],fun _=>True,fun _=>.ok (.int (10^60))⟩
theorem Zp0(T:Txt K mg){f:Addr}{fd:FuncData}(F:Fun K "most_seeds" "most_seeds" Znl f fd):J8 P w K mg base CX0 1 f fd [] (spF K 0 .P W0 ZmM.fn):=by
 refine F.okP ZrN rfl rfl (fun cdv A outer s H E hr=>?_)
 have hu:=hr.units
 refine⟨_,_,⟨[],[],[],.P⟩,rfl,(Zl (Zx (Z8 Q7 Zj Zj))),
   (Zz (QM (DE.toA Zi) (DE.toA Zi))), ?_⟩
 refine Pm.ref ZmM (g:=fun xs=>_) ?_
 rintro _ _
 simp only[ZmM]
 walk_at "pd"
theorem Zn9:ZmM.fn []=.ok (.int (10^60)):=Pm.fn_eq ZmM () trivial fun _ _=>rfl
theorem Za8:ZmM.calm:=fun a q h=>by (simp only[ZmM] at h;cases h)
noncomputable def ZW:Pm:=⟨Int×Int,fun a=>[.int a.1,.int a.2],fun a=>(2<=a.1/\a.1<=24)/\0<=a.2/\a.2<=10^60,fun _=>.ok .non⟩
theorem UV(T:Txt K mg){f:Addr}{fd:FuncData}(F:Fun K "check_sizes" "check_sizes" ZmK f fd):J8 P w K mg base CX0 4 f fd ["pits", "seeds"] (spF K 2 .P W0 ZW.fn):=by
 have G_check_count_x:=Vc (P:=P) (w:=w) (base:=base) T.ZoE Zor (fun F=>JD T F)
 have Zoz:=Vc (P:=P) (w:=w) (base:=base) T.ZpX Zp5 (fun F=>Zp0 T F)
 refine F.okP Zqg rfl rfl (fun cdv A outer s H E hr=>?_)
 have hu:=hr.units
 refine⟨_,_,⟨[.S,.S],[],[],.P⟩,rfl,(Zd (ZQ (Zn G_check_count_x (hr.mono (by decide)) rfl (Za (pv 0) (Za (JJ T.c_FEWEST_PITS rfl) (Za (JJ T.c_MOST_PITS rfl) Zh)))))
   (Zl (ZQ (Zn G_check_count_x (hr.mono (by decide)) rfl (Za (pv 1) (Za Zj (Za (Q1 Zoz (hr.mono (by decide)) rfl) Zh))))))),
   (Zm (Γm:=[.S,.S]) (J5 (DE.toA (VR (Ze (Ze (Ze Zo))) (Zb (Zc (i:=0) (m:=.S) rfl (by decide)) (Zb (DE.toA Zi) (Zb (DE.toA Zi) Zg))))))
   (J5 (DE.toA (VR (Ze (Ze (Ze Zo))) (Zb (Zc (i:=1) (m:=.S) rfl (by decide)) (Zb (DE.toA Zi) (Zb (DE.toA (VR Zo Zg)) Zg))))))), ?_⟩
 refine Pm.ref ZW (g:=fun xs=>_) ?_
 rintro⟨p,s⟩ ⟨h1,h2⟩
 simp only[ZW]
 walk_at "pd"
 rw[Jx h1]
 walk_at "pd"
 rw[Zn9]
 walk_at "pd"
 rw[Jx h2]
 walk_at "pd"
theorem QV{p s:Int}(h:(2<=p/\p<=24)/\0<=s/\s<=10^60):ZW.fn [.int p,.int s]=.ok .non:=Pm.fn_eq ZW (p,s) h fun _ _=>rfl
theorem ZkC:(10:Nat)^61<2^60000:=by
 calc (10:Nat)^61<=(2^4)^61:=Zu5 (by decide) _
  _=2^244:=by rw[<- Nat.pow_mul]
  _<2^60000:=Zu2 (by decide) (by decide)
noncomputable def Zm1:Pm:=⟨Int×Int,fun a=>[.int a.1,.int a.2],fun a=>(1<=a.1/\a.1<=24)/\a.2<=10^60,fun a=>.ok (.int (cbN a.1 a.2))⟩
theorem ZoI(T:Txt K mg){f:Addr}{fd:FuncData}(F:Fun K "count_boards" "count_boards" ZmN f fd):J8 P w K mg base CX0 1 f fd ["pits", "seeds"] (spF K 2 .P W0 Zm1.fn):=by
 refine F.okP ZnU rfl rfl (fun cdv A outer s H E hr=>?_)
 have hu:=hr.units
 refine⟨_,_,⟨[],[],[],.P⟩,rfl,(Zd (Jd (Z0 Zac (pv 1) Zj (Z3 _)) (Zl (Zx Zj)) ZB)
   (Zd (Z2 (i:=2) ZnU.nd rfl (by first|exact Or.inl rfl|exact Or.inr rfl) Zj)
   (Zd (V0 PassesOwn.never rfl (Qy rfl T.z_range (Za Zj (Za (pv 0) Zh))) (Ji (i:=3) ZnU.nd rfl (by first|exact Or.inl rfl|exact Or.inr rfl)) (Zl (Z2 (i:=2) ZnU.nd rfl (by first|exact Or.inl rfl|exact Or.inr rfl) (Z8 Vp (Z8 Ug (pv 2) (Z8 Ju (pv 1) (pv 3))) (pv 3)))))
   (Zl (Zx (pv 2)))))),
   (Zm (Γm:=[.S,.S,.U,.U]) (Jj (Zy (DE.toA (ZaR (Zc (i:=1) (m:=.S) rfl (by decide)) (DE.toA Zi))))
   (Zz Zi)
   ZC)
   (Zm (Γm:=[.S,.S,.P,.U]) (Z9 (i:=2) Zi (by decide))
   (Zm (Γm:=[.S,.S,.P,.U]) (V2 (Γl:=[.S,.S,.P,.U]) (Zc0 (Zb (DE.toA Zi) (Zb (Zc (i:=0) (m:=.S) rfl (by decide)) Zg))) rfl (ZfM (i:=3) (by decide))
   (DS.out (Y:=⟨[.S,.S,.P,.P],[.S,.S,.P,.U],[.S,.S,.P,.U],.P⟩) (Y':=⟨[.S,.S,.P,.U],[.S,.S,.P,.U],[.S,.S,.P,.U],.P⟩) (Z9 (i:=2) (QP (DE.toA (QN (DE.toA (Zk (i:=2) rfl)) (DE.toA (Jw (Zc (i:=1) (m:=.S) rfl (by decide)) (DE.toA (Zk (i:=3) rfl)))))) (DE.toA (Zk (i:=3) rfl))) (by decide)) rfl rfl rfl rfl))
   (Zz (Zk (i:=2) rfl))))), ?_⟩
 refine Pm.ref Zm1 (g:=fun xs=>_) ?_
 rintro⟨p,s⟩ ⟨⟨hp0,hp⟩,hs⟩
 simp only at hp0 hp hs
 simp only[Zm1]
 unfold cbN
 walk_at "pd"
 by_cases h:s<0
 ·rw[decide_eq_true h,if_pos h]
  walk_at "pd"
 ·rw[decide_eq_false h,if_neg h]
  walk_at "pd"
  generalize hw:Zas _ _ _=W
  obtain⟨ρ',rfl,v,rfl⟩:=Ja hw (fun i ρ=>∃v,ρ=[.int p,.int s,.int (cbI s i),v]) ⟨_,rfl⟩ (by
   rintro i x ρ hx ⟨v,rfl⟩
   obtain⟨hi,rfl⟩:=JI hx
   walk_at "pd"
   rw[ZaB ⟨ZbG (by lia) hs (by lia),ZtL (show (s+(1+(i:Int))).natAbs<=10^61 by lia) ZkC⟩]
   walk_at "pd"
   exact Vd ⟨.int (1+(i:Int)),by rw[cbI,ZuJ 1 (i:Int)]⟩)
  walk_at "pd"
  rw[Jn]
theorem ZmT{p s:Int}(h:(1<=p/\p<=24)/\s<=10^60):Zm1.fn [.int p,.int s]=.ok (.int (cbN p s)):=Pm.fn_eq Zm1 (p,s) h fun(a:Int×Int) e=>by (simp only[Zm1,List.cons.injEq,PV.lst.injEq,PV.int.injEq,PV.str.injEq,PV.bl.injEq,PV.tup.injEq,ZI,and_true] at e ⊢;first|(simp only[e];done)|(subst e;rfl)|(rw[e]))
theorem Q2:Zm1.calm:=fun a q h=>by (simp only[Zm1] at h;cases h)
noncomputable def Zmz:Pm:=⟨Int×Int×Int,fun a=>[.int a.1,.int a.2.1,.int a.2.2],fun a=>(1<=a.1/\a.1<=24)/\(0<=a.2.1/\a.2.1<=10^60)/\1<=a.2.2/\a.2.2<=cbN a.1 a.2.1,fun a=>.ok (.int (lsN a.1 a.2.1 a.2.2))⟩
theorem Zq7(T:Txt K mg){f:Addr}{fd:FuncData}(F:Fun K "least_seeds_for" "least_seeds_for" Zm3 f fd):J8 P w K mg base CX0 2 f fd ["pits", "most", "places"] (spF K 3 .P W0 Zmz.fn):=by
 have Znx:=Vc (P:=P) (w:=w) (base:=base) T.Zpf ZoO (fun F=>ZoI T F)
 refine F.okP ZmJ rfl rfl (fun cdv A outer s H E hr=>?_)
 have hu:=hr.units
 refine⟨_,_,⟨[],[],[],.P⟩,rfl,(Zd (Z2 (i:=3) ZmJ.nd rfl (by first|exact Or.inl rfl|exact Or.inr rfl) Zj)
   (Zd (Z2 (i:=4) ZmJ.nd rfl (by first|exact Or.inl rfl|exact Or.inr rfl) (pv 1))
   (Zd (U1 PassesOwn.never (Z0 Zac (pv 3) (pv 4) (Z3 _)) (Zd (Z2 (i:=5) ZmJ.nd rfl (by first|exact Or.inl rfl|exact Or.inr rfl) (Z8 Vp (Z8 Ju (pv 3) (pv 4)) Zj))
   (Zl (Jd (Z0 ZjX (Zn Znx (hr.mono (by decide)) rfl (Za (pv 0) (Za (pv 5) Zh))) (pv 2) (Z3 _)) (Zl (Z2 (i:=4) ZmJ.nd rfl (by first|exact Or.inl rfl|exact Or.inr rfl) (pv 5))) (Zl (Z2 (i:=3) ZmJ.nd rfl (by first|exact Or.inl rfl|exact Or.inr rfl) (Z8 Ju (pv 5) Zj)))))))
   (Zl (Zx (pv 3)))))),
   (Zm (Γm:=[.S,.S,.S,.P,.U,.U]) (Z9 (i:=3) Zi (by decide))
   (Zm (Γm:=[.S,.S,.S,.P,.P,.U]) (Z9 (i:=4) (DE.grd (Zc (i:=1) (m:=.S) rfl (by decide))) (by decide))
   (Zm (Γm:=[.S,.S,.S,.P,.P,.U]) (Qi (Γ:=[.S,.S,.S,.P,.P,.U]) (Zy (DE.toA (ZaR (DE.toA (Zk (i:=3) rfl)) (DE.toA (Zk (i:=4) rfl)))))
   (DS.out (Y:=⟨[.S,.S,.S,.P,.P,.P],[.S,.S,.S,.P,.P,.U],[.S,.S,.S,.P,.P,.U],.P⟩) (Y':=⟨[.S,.S,.S,.P,.P,.U],[.S,.S,.S,.P,.P,.U],[.S,.S,.S,.P,.P,.U],.P⟩) (Zm (Γm:=[.S,.S,.S,.P,.P,.P]) (Z9 (i:=5) (QP (DE.toA (Jw (DE.toA (Zk (i:=3) rfl)) (DE.toA (Zk (i:=4) rfl)))) (DE.toA Zi)) (by decide))
   (Jj (Zy (DE.toA (Zk7 (DE.toA (VR (Ze (Ze Zo)) (Zb (Zc (i:=0) (m:=.S) rfl (by decide)) (Zb (DE.toA (Zk (i:=5) rfl)) Zg)))) (Zc (i:=2) (m:=.S) rfl (by decide)))))
   (Z9 (i:=4) (Zk (i:=5) rfl) (by decide))
   (Z9 (i:=3) (Jw (DE.toA (Zk (i:=5) rfl)) (DE.toA Zi)) (by decide)))) rfl rfl rfl rfl))
   (Zz (Zk (i:=3) rfl))))), ?_⟩
 refine Pm.ref Zmz (g:=fun xs=>_) ?_
 rintro⟨p,m,n⟩ ⟨⟨hp0,hp1⟩,⟨hm0,hm1⟩,hn,hc⟩
 simp only at hp0 hp1 hm0 hm1 hn hc
 simp only[Zmz]
 obtain⟨⟨l0,l1⟩,l2,l3⟩:=Qf hp0 hm0 hn hc
 generalize lsN p m n=L at l0 l1 l2 l3
 walk_at "pd"
 generalize hw:Js _ _ _=W
 obtain⟨ρ',rfl,⟨x,y,v,hx0,hx,hy,hy1,rfl⟩,he⟩:=Zbb hw (fun ρ=>∃x y v,0<=x/\x<=L/\L<=y/\y<=m/\ρ=[.int p,.int m,.int n,.int x,.int y,v]) (fun ρ=>match gv 3 ρ,gv 4 ρ with|.int t,.int u=>(u-t).toNat|_,_=>0) ⟨0,m,_,ZtZ _,l0,l1,ZtZ _,rfl⟩ (by
  rintro ρ ⟨x,y,v,hx0,hx,hy,hy1,rfl⟩
  by_cases hp:x<y
  ·right
   constructor
   ·walk_at "pd"
    rw[decide_eq_true hp]
   ·walk_at "pd"
    rw[ZmT ⟨⟨hp0,hp1⟩,by lia⟩]
    walk_at "pd"
    by_cases hq:n<=cbN p ((x+y)/2)
    ·rw[decide_eq_true hq]
     walk_at "pd"
     have:L<=(x+y)/2:=by
      by_cases z:L<=(x+y)/2
      ·exact z
      ·have:=VT (p:=p) (s:=(x+y)/2) (t:=L-1) hp0 (by lia)
       lia
     exact Vd ⟨⟨x,(x+y)/2,_,hx0,hx,this,by lia,rfl⟩,by show ((x+y)/2-x).toNat<(y-x).toNat;lia⟩
    ·rw[decide_eq_false hq]
     walk_at "pd"
     have:(x+y)/2+1<=L:=by
      by_cases z:(x+y)/2+1<=L
      ·exact z
      ·have:=VT (p:=p) (s:=L) (t:=(x+y)/2) hp0 (by lia)
       lia
     exact Vd ⟨⟨(x+y)/2+1,y,_,by lia,this,hy,hy1,rfl⟩,by show (y-((x+y)/2+1)).toNat<(y-x).toNat;lia⟩
  ·left
   walk_at "pd"
   rw[decide_eq_false hp])
 have hz:¬x<y:=by
  intro z
  revert he
  walk_at "pd"
  rw[decide_eq_true z]
  intro q
  cases q
 walk_at "pd"
 rw[show x=L by lia]
theorem Znh{p m n:Int}(h:(1<=p/\p<=24)/\(0<=m/\m<=10^60)/\1<=n/\n<=cbN p m):Zmz.fn [.int p,.int m,.int n]=.ok (.int (lsN p m n)):=Pm.fn_eq Zmz (p,m,n) h fun(a:Int×Int×Int) e=>by (simp only[Zmz,List.cons.injEq,PV.lst.injEq,PV.int.injEq,PV.str.injEq,PV.bl.injEq,PV.tup.injEq,ZI,and_true] at e ⊢;first|(simp only[e];done)|(subst e;rfl)|(rw[e]))
noncomputable def Zng:Pm:=⟨Int×Int×Int,fun a=>[.int a.1,.int a.2.1,.int a.2.2],fun a=>((2<=a.1/\a.1<=24)/\0<=a.2.1/\a.2.1<=10^60)/\0<=a.2.2/\a.2.2<=cbN a.1 a.2.1-1,fun a=>.ok (.lst ((Zjx a.1 a.2.1 a.2.2).map PV.int))⟩
theorem Zs3(T:Txt K mg){f:Addr}{fd:FuncData}(F:Fun K "board_at" "board_at" ZnR f fd):J8 P w K mg base CX0 5 f fd ["pits", "seeds", "number"] (spF K 3 .F W0 Zng.fn):=by
 have G_check_sizes_x:=Vc (P:=P) (w:=w) (base:=base) T.ZqB Zqj (fun F=>UV T F)
 have Znx:=Vc (P:=P) (w:=w) (base:=base) T.Zpf ZoO (fun F=>ZoI T F)
 have G_check_count_x:=Vc (P:=P) (w:=w) (base:=base) T.ZoE Zor (fun F=>JD T F)
 have Zrm:=Vc (P:=P) (w:=w) (base:=base) T.Zrc ZqF (fun F=>Zq7 T F)
 refine F.okP Znt rfl rfl (fun cdv A outer s H E hr=>?_)
 have hu:=hr.units
 refine⟨_,_,⟨[],[],[],.F⟩,rfl,(Zd (ZQ (Zn G_check_sizes_x (hr.mono (by decide)) rfl (Za (pv 0) (Za (pv 1) Zh))))
   (Zd (Z2 (i:=3) Znt.nd rfl (by first|exact Or.inl rfl|exact Or.inr rfl) (Zn Znx (hr.mono (by decide)) rfl (Za (pv 0) (Za (pv 1) Zh))))
   (Zd (ZQ (Zn G_check_count_x (hr.mono (by decide)) rfl (Za (pv 2) (Za Zj (Za (Z8 V9 (pv 3) Zj) Zh)))))
   (Zd (Z2 (i:=4) Znt.nd rfl (by first|exact Or.inl rfl|exact Or.inr rfl) (Z8 V9 (pv 3) (pv 2)))
   (Zd (Z2 (i:=5) Znt.nd rfl (by first|exact Or.inl rfl|exact Or.inr rfl) (pv 1))
   (Zd (Z2 (i:=6) Znt.nd rfl (by first|exact Or.inl rfl|exact Or.inr rfl) (VY Zh))
   (Zd (V0 PassesOwn.never rfl (ZeQ rfl T.z_range (Za (pv 0) (Za Zj (Za (Zg7 ZcH Zj) Zh)))) (Ji (i:=7) Znt.nd rfl (by first|exact Or.inl rfl|exact Or.inr rfl)) (Zd (Z2 (i:=8) Znt.nd rfl (by first|exact Or.inl rfl|exact Or.inr rfl) (Zn Zrm (hr.mono (by decide)) rfl (Za (pv 7) (Za (pv 5) (Za (pv 4) Zh)))))
   (Zd (ZQ (Zcc PySem.F.plainAttrs_list PySem.F.slot_list_append PySem.F.type_list_append Vg (pv 6) (Za (Z8 V9 (pv 5) (pv 8)) Zh)))
   (Zd (ZhA (i:=4) Znt.nd rfl (by first|exact Or.inl rfl|exact Or.inr rfl) (Zn Znx (hr.mono (by decide)) rfl (Za (pv 7) (Za (Z8 V9 (pv 8) Zj) Zh))) ZhV)
   (Zl (Z2 (i:=5) Znt.nd rfl (by first|exact Or.inl rfl|exact Or.inr rfl) (pv 8)))))))
   (Zd (ZQ (Zcc PySem.F.plainAttrs_list PySem.F.slot_list_append PySem.F.type_list_append Vg (pv 6) (Za (pv 5) Zh)))
   (Zl (Zx (pv 6))))))))))),
   (Zm (Γm:=[.S,.S,.S,.U,.U,.U,.U,.U,.U]) (J5 (DE.toA (VR (Ze (Ze Zo)) (Zb (Zc (i:=0) (m:=.S) rfl (by decide)) (Zb (Zc (i:=1) (m:=.S) rfl (by decide)) Zg)))))
   (Zm (Γm:=[.S,.S,.S,.P,.U,.U,.U,.U,.U]) (Z9 (i:=3) (VR (Ze (Ze Zo)) (Zb (Zc (i:=0) (m:=.S) rfl (by decide)) (Zb (Zc (i:=1) (m:=.S) rfl (by decide)) Zg))) (by decide))
   (Zm (Γm:=[.S,.S,.S,.P,.U,.U,.U,.U,.U]) (J5 (DE.toA (VR (Ze (Ze (Ze Zo))) (Zb (Zc (i:=2) (m:=.S) rfl (by decide)) (Zb (DE.toA Zi) (Zb (DE.toA (VL (DE.toA (Zk (i:=3) rfl)) (DE.toA Zi))) Zg))))))
   (Zm (Γm:=[.S,.S,.S,.P,.P,.U,.U,.U,.U]) (Z9 (i:=4) (VL (DE.toA (Zk (i:=3) rfl)) (Zc (i:=2) (m:=.S) rfl (by decide))) (by decide))
   (Zm (Γm:=[.S,.S,.S,.P,.P,.P,.U,.U,.U]) (Z9 (i:=5) (DE.grd (Zc (i:=1) (m:=.S) rfl (by decide))) (by decide))
   (Zm (Γm:=[.S,.S,.S,.P,.P,.P,.O,.U,.U]) (Jb (i:=6) (Vu ZY) (by decide))
   (Zm (Γm:=[.S,.S,.S,.P,.P,.P,.O,.U,.U]) (V2 (Γl:=[.S,.S,.S,.P,.P,.P,.O,.U,.U]) (Zjb (Zb (Zc (i:=0) (m:=.S) rfl (by decide)) (Zb (DE.toA Zi) (Zb (DE.toA (Zd6 (DE.toA Zi))) Zg)))) rfl (ZfM (i:=7) (by decide))
   (DS.out (Y:=⟨[.S,.S,.S,.P,.P,.P,.O,.P,.P],[.S,.S,.S,.P,.P,.P,.O,.U,.U],[.S,.S,.S,.P,.P,.P,.O,.U,.U],.F⟩) (Y':=⟨[.S,.S,.S,.P,.P,.P,.O,.U,.U],[.S,.S,.S,.P,.P,.P,.O,.U,.U],[.S,.S,.S,.P,.P,.P,.O,.U,.U],.F⟩) (Zm (Γm:=[.S,.S,.S,.P,.P,.P,.O,.P,.P]) (Z9 (i:=8) (VR (Ze (Ze (Ze Zo))) (Zb (DE.toA (Zk (i:=7) rfl)) (Zb (DE.toA (Zk (i:=5) rfl)) (Zb (DE.toA (Zk (i:=4) rfl)) Zg)))) (by decide))
   (Zm (Γm:=[.S,.S,.S,.P,.P,.P,.O,.P,.P]) (Zcy (i:=6) rfl rfl (DE.PF (VL (DE.toA (Zk (i:=5) rfl)) (DE.toA (Zk (i:=8) rfl)))))
   (Zm (Γm:=[.S,.S,.S,.P,.P,.P,.O,.P,.P]) (ZfJ (i:=4) rfl (DE.toA (VR (Ze (Ze Zo)) (Zb (DE.toA (Zk (i:=7) rfl)) (Zb (DE.toA (VL (DE.toA (Zk (i:=8) rfl)) (DE.toA Zi))) Zg)))))
   (Z9 (i:=5) (Zk (i:=8) rfl) (by decide))))) rfl rfl rfl rfl))
   (Zm (Γm:=[.S,.S,.S,.P,.P,.P,.O,.U,.U]) (Zcy (i:=6) rfl rfl (DE.PF (Zk (i:=5) rfl)))
   (JV (VJ (i:=6) rfl)))))))))), ?_⟩
 refine Pm.ref Zng (g:=fun xs=>_) ?_
 rintro⟨p,s,n⟩ ⟨(hz:(2<=p/\p<=24)/\0<=s/\s<=10^60),(hn:0<=n/\n<=cbN p s-1)⟩
 obtain⟨⟨p0,p1⟩,s0,s1⟩:=id hz
 simp only[Zng]
 walk_at "pd"
 rw[QV hz]
 walk_at "pd"
 rw[ZmT ⟨by lia,s1⟩]
 walk_at "pd"
 rw[Jx hn]
 walk_at "pd"
 generalize hw:Zas _ _ _=W
 obtain⟨ρ',rfl,v,v',rfl⟩:=Ja hw (fun i ρ=>∃v v',ρ=[.int p,.int s,.int n,.int (cbN p s),.int (Uu p s n i).2.2,.int (Uu p s n i).2.1,.lst ((Uu p s n i).1.map PV.int),v,v']) ⟨_,_,rfl⟩ (by
  rintro i x ρ hx ⟨v,v',rfl⟩
  obtain⟨hi,rfl⟩:=Zg3 hx
  have ok:=Zc7 (p:=p) (s:=s) (n:=n) s0 hn.1 (by lia) i (by lia)
  have o1:=ok.lo
  have o2:=ok.hi
  have o3:=ok.len
  have sp:=Qf (p:=p-i) (m:=(Uu p s n i).2.1) (n:=(Uu p s n i).2.2) (by lia) o1 ok.p1 ok.p2
  walk_at "pd"
  rw[Znh ⟨by lia,by lia,ok.p1,ok.p2⟩]
  walk_at "pd"
  rw[ZmT ⟨by lia,by lia⟩]
  walk_at "pd"
  exact Vd ⟨_,_,by rw[QZ,ZtE]⟩)
 have ok:=Zc7 (p:=p) (s:=s) (n:=n) s0 hn.1 (by lia) (p-1).toNat (by lia)
 have o3:=ok.len
 rw[Qu]
 walk_at "pd"
 unfold Zjx
 rw[ZtE]
theorem Zpo{p s n:Int}(h:((2<=p/\p<=24)/\0<=s/\s<=10^60)/\0<=n/\n<=cbN p s-1):Zng.fn [.int p,.int s,.int n]=.ok (.lst ((Zjx p s n).map PV.int)):=Pm.fn_eq Zng (p,s,n) h fun(a:Int×Int×Int) e=>by (simp only[Zng,List.cons.injEq,PV.lst.injEq,PV.int.injEq,PV.str.injEq,PV.bl.injEq,PV.tup.injEq,ZI,and_true] at e ⊢;first|(simp only[e];done)|(subst e;rfl)|(rw[e]))
theorem Zcd:Zng.calm:=fun a q h=>by (simp only[Zng] at h;cases h)
noncomputable def ZfT(n l m:Int):Option Str:=if l<=n/\n<=m then none else some "BadCount"
noncomputable def ZmS:Pm:=⟨Int×Int×Int,fun a=>[.int a.1,.int a.2.1,.int a.2.2],fun _=>True,fun a=>orX (ZfT a.1 a.2.1 a.2.2) .non⟩
theorem ZrF(T:Txt K mg){f:Addr}{fd:FuncData}(F:Fun K "check_count" "check_count" ZmL f fd):J8 P w K mg base (CX1 P w) 3 f fd ["number", "least", "most"] (spF K 3 .P (W1 K) ZmS.fn):=by
 have ZmW:=Vc (P:=P) (w:=w) (base:=base) T.ZnZ ZnJ (fun F=>ZnI T F)
 obtain⟨C_BadCount,hC_BadCount,hQ_BadCount⟩:=Zaz T.x_exc (n := "BadCount") (by decide)
 refine F.okX Zqh rfl rfl (fun cdv A outer s H E hr=>?_)
 have hu:=hr.units
 refine⟨_,_,⟨[.S,.S,.S],[],[],.P⟩,rfl,(Zl (Jd (PW.pt (V7 (Jt (Jo (Zn ZmW (hr.mono (by decide)) rfl (Za (pv 0) (Za (pv 1) Zh))))) (VX (Z0 Q8 (pv 0) (pv 2) (Z3 _))))) (Zl (ZcV Zfy hQ_BadCount rfl (T.x_mg _ _ hC_BadCount) rfl (Za JE Zh))) ZB)),
   (Jj (VH (Jz (Zag (DE.toA (Zl2 (Ze (Ze Zo)) (Pm.calm_fn UU) (Zb (Zc (i:=0) (m:=.S) rfl (by decide)) (Zb (Zc (i:=1) (m:=.S) rfl (by decide)) Zg)))))) (Zy (DE.toA (QO (Zc (i:=0) (m:=.S) rfl (by decide)) (Zc (i:=2) (m:=.S) rfl (by decide))))))
   (Zd2 hC_BadCount (Ze Zo) (by decide) (Zb (DE.toA JF) Zg))
   ZC), ?_⟩
 refine Pm.ref ZmS (g:=fun xs=>_) ?_
 rintro⟨n,l,m⟩ -
 simp only[ZmS]
 walk_at "pd"
 rw[ZmH]
 walk_at "pd"
 by_cases h0:l<=n
 ·rw[decide_eq_true h0]
  walk_at "pd"
  by_cases h1:n<=m
  ·rw[decide_eq_false (by lia),show ZfT n l m=none from if_pos ⟨h0,h1⟩];walk_at "pd" <;> rfl
  ·rw[decide_eq_true (by lia),show ZfT n l m=(some "BadCount":Option Str) from if_neg (fun z=>h1 z.2)];walk_at "pd" <;> rfl
 ·rw[decide_eq_false h0,show ZfT n l m=(some "BadCount":Option Str) from if_neg (fun z=>h0 z.1)];walk_at "pd" <;> rfl
theorem ZnD{n l m:Int}:ZmS.fn [.int n,.int l,.int m]=orX (ZfT n l m) .non:=Pm.fn_eq ZmS (n,l,m) trivial fun(a:Int×Int×Int) e=>by (simp only[ZmS,List.cons.injEq,PV.lst.injEq,PV.int.injEq,PV.str.injEq,PV.bl.injEq,PV.tup.injEq,ZI,and_true] at e ⊢;first|(simp only[e];done)|(subst e;rfl)|(rw[e]))
noncomputable def szX(p s:Int):Option Str:=match ZfT p 2 24 with
 |some n=>some n
 |none=>ZfT s 0 (10^60)
noncomputable def ZmR:Pm:=⟨Int×Int,fun a=>[.int a.1,.int a.2],fun _=>True,fun a=>orX (szX a.1 a.2) .non⟩
theorem ZrD(T:Txt K mg){f:Addr}{fd:FuncData}(F:Fun K "check_sizes" "check_sizes" ZmK f fd):J8 P w K mg base (CX1 P w) 4 f fd ["pits", "seeds"] (spF K 2 .P (W1 K) ZmR.fn):=by
 have ZqJ:=ZgP (P:=P) (w:=w) (base:=base) T.ZoE Zor (fun F=>ZrF T F)
 have Zoz:=Vc (P:=P) (w:=w) (base:=base) T.ZpX Zp5 (fun F=>Zp0 T F)
 refine F.okX Zqg rfl rfl (fun cdv A outer s H E hr=>?_)
 have hu:=hr.units
 refine⟨_,_,⟨[.S,.S],[],[],.P⟩,rfl,(Zd (ZQ (U5 ZqJ (hr.mono (by decide)) rfl Za9 (Za (pv 0) (Za (JJ T.c_FEWEST_PITS rfl) (Za (JJ T.c_MOST_PITS rfl) Zh)))))
   (Zl (ZQ (U5 ZqJ (hr.mono (by decide)) rfl Za9 (Za (pv 1) (Za Zj (Za (Q1 Zoz (hr.mono (by decide)) rfl) Zh))))))),
   (Zm (Γm:=[.S,.S]) (J5 (DE.toA (ZkR (Ze (Ze (Ze Zo))) (Zb (Zc (i:=0) (m:=.S) rfl (by decide)) (Zb (DE.toA Zi) (Zb (DE.toA Zi) Zg))))))
   (J5 (DE.toA (ZkR (Ze (Ze (Ze Zo))) (Zb (Zc (i:=1) (m:=.S) rfl (by decide)) (Zb (DE.toA Zi) (Zb (DE.toA (Zl2 Zo (Pm.calm_fn Za8) Zg)) Zg))))))), ?_⟩
 refine Pm.ref ZmR (g:=fun xs=>_) ?_
 rintro⟨p,s⟩ -
 simp only[ZmR]
 walk_at "pd"
 rw[ZnD]
 unfold szX
 cases ZfT p 2 24 with
 |some n=>walk_at "pd"
 |none =>
  walk_at "pd"
  rw[Zn9]
  walk_at "pd"
  rw[ZnD]
  cases ZfT s 0 (10^60) with
  |some n=>walk_at "pd"
  |none=>walk_at "pd"
theorem Zoa{p s:Int}:ZmR.fn [.int p,.int s]=orX (szX p s) .non:=Pm.fn_eq ZmR (p,s) trivial fun(a:Int×Int) e=>by (simp only[ZmR,List.cons.injEq,PV.lst.injEq,PV.int.injEq,PV.str.injEq,PV.bl.injEq,PV.tup.injEq,ZI,and_true] at e ⊢;first|(simp only[e];done)|(subst e;rfl)|(rw[e]))
theorem Uy{p s:Int}:szX p s=none ↔ (2<=p/\p<=24)/\0<=s/\s<=10^60:=by
 unfold szX ZfT
 by_cases h:2<=p/\p<=24
 ·rw[if_pos h]
  by_cases h2:0<=s/\s<=10^60
  ·rw[if_pos h2];exact⟨fun _=>⟨h,h2⟩,fun _=>rfl⟩
  ·rw[if_neg h2];exact⟨fun z=>(nomatch z),fun z=>absurd z.2 h2⟩
 ·rw[if_neg h];exact⟨fun z=>(nomatch z),fun z=>absurd z.1 h⟩
theorem UX{p s:Int}(h:¬((2<=p/\p<=24)/\0<=s/\s<=10^60)):szX p s=(some "BadCount":Option Str):=by
 unfold szX ZfT
 by_cases h1:2<=p/\p<=24
 ·rw[if_pos h1]
  exact if_neg fun z=>h ⟨h1,z⟩
 ·rw[if_neg h1]
noncomputable def Zm6:Pm:=⟨Int×Int,fun a=>[.int a.1,.int a.2],fun _=>True,fun a=>orX (szX a.1 a.2) (.int (a.1*cbN a.1 (a.2-1)))⟩
theorem ZqV(T:Txt K mg){f:Addr}{fd:FuncData}(F:Fun K "standing_count" "standing_count" Zm8 f fd):J8 P w K mg base (CX1 P w) 5 f fd ["pits", "seeds"] (spF K 2 .P (W1 K) Zm6.fn):=by
 have Zsb:=ZgP (P:=P) (w:=w) (base:=base) T.ZqB Zqj (fun F=>ZrD T F)
 have Znx:=Vc (P:=P) (w:=w) (base:=base) T.Zpf ZoO (fun F=>ZoI T F)
 refine F.okX ZqL rfl rfl (fun cdv A outer s H E hr=>?_)
 have hu:=hr.units
 refine⟨_,_,⟨[],[],[],.P⟩,rfl,(Zd (ZQ (U5 Zsb (hr.mono (by decide)) rfl Za9 (Za (pv 0) (Za (pv 1) Zh))))
   (Zl (Zx (Z8 Ug (pv 0) (Zn Znx (hr.mono (by decide)) rfl (Za (pv 0) (Za (Z8 V9 (pv 1) Zj) Zh))))))),
   (Zm (Γm:=[.S,.S]) (J5 (DE.toA (ZkR (Ze (Ze Zo)) (Zb (Zc (i:=0) (m:=.S) rfl (by decide)) (Zb (Zc (i:=1) (m:=.S) rfl (by decide)) Zg)))))
   (Zz (QN (Zc (i:=0) (m:=.S) rfl (by decide)) (DE.toA (Zl2 (Ze (Ze Zo)) (Pm.calm_fn Q2) (Zb (Zc (i:=0) (m:=.S) rfl (by decide)) (Zb (DE.toA (VL (Zc (i:=1) (m:=.S) rfl (by decide)) (DE.toA Zi))) Zg))))))), ?_⟩
 refine Pm.ref Zm6 (g:=fun xs=>_) ?_
 rintro⟨p,s⟩ -
 simp only[Zm6]
 walk_at "pd"
 rw[Zoa]
 by_cases h:(2<=p/\p<=24)/\0<=s/\s<=10^60
 ·rw[Uy.mpr h]
  walk_at "pd"
  rw[ZmT ⟨⟨by lia,by lia⟩,by lia⟩]
  walk_at "pd"
  rw[ZaB ⟨by have:p.natAbs<100:=(by lia);exact Nat.lt_trans this (Ztm (show 100<2^7 by decide) (ZtN (by decide) (by decide))),ZfV (by lia) (by lia)⟩]
  walk_at "pd"
 ·rw[UX h]
  walk_at "pd"
theorem Znu{p s:Int}:Zm6.fn [.int p,.int s]=orX (szX p s) (.int (p*cbN p (s-1))):=Pm.fn_eq Zm6 (p,s) trivial fun(a:Int×Int) e=>by (simp only[Zm6,List.cons.injEq,PV.lst.injEq,PV.int.injEq,PV.str.injEq,PV.bl.injEq,PV.tup.injEq,ZI,and_true] at e ⊢;first|(simp only[e];done)|(subst e;rfl)|(rw[e]))
noncomputable def Zmu:Pm:=⟨List Int,fun ns=>[.lst (ns.map PV.int)],fun ns=>ns.length<=1000000,fun ns=>.ok (.bl (decide (∀x∈ns,0<=x)))⟩
theorem ZpB(T:Txt K mg){f:Addr}{fd:FuncData}(F:Fun K "is_list_from_nought" "is_list_from_nought" Zmv f fd):J8 P w K mg base CX0 3 f fd ["values"] (spF K 1 .P W0 Zmu.fn):=by
 have ZmW:=Vc (P:=P) (w:=w) (base:=base) T.ZnZ ZnJ (fun F=>ZnI T F)
 refine F.okP Zod rfl rfl (fun cdv A outer s H E hr=>?_)
 have hu:=hr.units
 refine⟨_,_,⟨[],[],[],.P⟩,rfl,(Zl (Zx (Zbp (Zs (Jl (K:=K) (n := "list") rfl) rfl T.z_isinstance Z4 (Za (pv 0) (Za (Va (v:=.ty "list") rfl T.z_list J7 rfl) Zh))) (Zak (Zs (Zgc (K:=K) rfl) rfl T.z_all ZkE (Za (Zi0 (U4 (K:=K) (pv 0)) (fun _ _ _ _=>(Zn ZmW (hr.mono (by decide)) rfl (Za (pv 1) (Za Zj Zh)))) Zod.nd rfl) Zh)))))),
   (Zz (ZbC (DE.toA (VZ (Zc (i:=0) (m:=.S) rfl (by decide)))) (Zk8 (Zb (DE.toA (Zd9 (DI.c (ZaP (ZaQ (i:=0) rfl))) (DE.PF (VR (Ze (Ze Zo)) (Zb (Zc (i:=1) (m:=.S) rfl (by decide)) (Zb (DE.toA Zi) Zg)))))) Zg)))), ?_⟩
 refine Pm.ref Zmu (g:=fun xs=>_) ?_
 intro (ns:List Int) (hn:ns.length<=1000000)
 simp only[Zmu]
 walk_at "pd"
 rw[ZiF (g:=fun z=>decide (0<=z)) (fun z _=>ZmH)]
 walk_at "pd"
 rw[Zjm]
theorem ZmI{ns:List Int}(h:ns.length<=1000000):Zmu.fn [.lst (ns.map PV.int)]=.ok (.bl (decide (∀x∈ns,0<=x))):=Pm.fn_eq Zmu ns h fun(a:List Int) e=>by (simp only[Zmu,List.cons.injEq,PV.lst.injEq,PV.int.injEq,PV.str.injEq,PV.bl.injEq,PV.tup.injEq,ZI,and_true] at e ⊢;first|(simp only[e];done)|(subst e;rfl)|(rw[e]))
noncomputable def Zn4:Pm:=⟨List Int,fun ns=>[.lst (ns.map PV.int)],fun ns=>ns.length<=1000,fun ns=>.ok (.bl (Vk ns))⟩
theorem Zs2(T:Txt K mg){f:Addr}{fd:FuncData}(F:Fun K "is_board" "is_board" ZnQ f fd):J8 P w K mg base CX0 4 f fd ["board"] (spF K 1 .P W0 Zn4.fn):=by
 have Zqf:=Vc (P:=P) (w:=w) (base:=base) T.ZpY ZpC (fun F=>ZpB T F)
 have Zoz:=Vc (P:=P) (w:=w) (base:=base) T.ZpX Zp5 (fun F=>Zp0 T F)
 refine F.okP Zsz rfl rfl (fun cdv A outer s H E hr=>?_)
 have hu:=hr.units
 refine⟨_,_,⟨[],[],[],.P⟩,rfl,(Zd (Jd (Jt (Jo (Zn Zqf (hr.mono (by decide)) rfl (Za (pv 0) Zh)))) (Zl (Zx V8)) ZB)
   (Zd (Jd (PW.pt (V7 (Z0 Zac (Zs (ZH (K:=K)) rfl T.z_len Jq (Za (pv 0) Zh)) (JJ T.c_FEWEST_PITS rfl) (Z3 _)) (VX (Z0 Q8 (Zs (ZH (K:=K)) rfl T.z_len Jq (Za (pv 0) Zh)) (JJ T.c_MOST_PITS rfl) (Z3 _))))) (Zl (Zx V8)) ZB)
   (Zl (Zx (JR ZjV (Zs (QU (K:=K) rfl) rfl T.z_sum Zgk (Za (pv 0) Zh)) (Q1 Zoz (hr.mono (by decide)) rfl) (Z3 _)))))),
   (Zm (Γm:=[.S]) (Jj (Jz (Zag (DE.toA (VR (Ze Zo) (Zb (Zc (i:=0) (m:=.S) rfl (by decide)) Zg)))))
   (Zz Us)
   ZC)
   (Zm (Γm:=[.S]) (Jj (VH (Zy (DE.toA (ZaR (DE.toA (Jv (Zb (Zc (i:=0) (m:=.S) rfl (by decide)) Zg))) (DE.toA Zi)))) (Zy (DE.toA (QO (DE.toA (Jv (Zb (Zc (i:=0) (m:=.S) rfl (by decide)) Zg))) (DE.toA Zi)))))
   (Zz Us)
   ZC)
   (Zz (Zl6 (DE.toA (ZfO (Zb (Zc (i:=0) (m:=.S) rfl (by decide)) Zg))) (DE.toA (VR Zo Zg)))))), ?_⟩
 refine Pm.ref Zn4 (g:=fun xs=>_) ?_
 intro (ns:List Int) (hn:ns.length<=1000)
 simp only[Zn4]
 walk_at "pd"
 rw[ZmI (by lia)]
 walk_at "pd"
 by_cases h3:∀x∈ns,0<=x
 ·rw[decide_eq_true h3]
  walk_at "pd"
  by_cases h1:(ns.length:Int)<2
  ·rw[decide_eq_true h1]
   walk_at "pd"
   rw[show Vk ns=false from decide_eq_false (by lia)]
  rw[decide_eq_false h1]
  walk_at "pd"
  by_cases h2:(24:Int)<ns.length
  ·rw[decide_eq_true h2]
   walk_at "pd"
   rw[show Vk ns=false from decide_eq_false (by lia)]
  rw[decide_eq_false h2]
  walk_at "pd"
  rw[Zn9]
  walk_at "pd"
  by_cases h4:ns.sum<=10^60
  ·rw[decide_eq_true h4,Vj.mpr ⟨by lia,by lia,h3,h4⟩]
  ·rw[decide_eq_false h4,show Vk ns=false from decide_eq_false (fun z=>h4 z.2.2.2)]
 ·rw[decide_eq_false h3]
  walk_at "pd"
  rw[show Vk ns=false from decide_eq_false (fun z=>h3 z.2.2.1)]
theorem Zpn{ns:List Int}(h:ns.length<=1000):Zn4.fn [.lst (ns.map PV.int)]=.ok (.bl (Vk ns)):=Pm.fn_eq Zn4 ns h fun(a:List Int) e=>by (simp only[Zn4,List.cons.injEq,PV.lst.injEq,PV.int.injEq,PV.str.injEq,PV.bl.injEq,PV.tup.injEq,ZI,and_true] at e ⊢;first|(simp only[e];done)|(subst e;rfl)|(rw[e]))
noncomputable def Znf:Pm:=⟨List Int,fun ns=>[.lst (ns.map PV.int)],fun ns=>ns.length<=1000/\Vk ns=true,fun _=>.ok .non⟩
theorem Zqi(T:Txt K mg){f:Addr}{fd:FuncData}(F:Fun K "check_board" "check_board" ZmY f fd):J8 P w K mg base CX0 5 f fd ["board"] (spF K 1 .P W0 Znf.fn):=by
 have ZsP:=Vc (P:=P) (w:=w) (base:=base) T.ZsK ZsB (fun F=>Zs2 T F)
 refine F.okP ZrC rfl rfl (fun cdv A outer s H E hr=>?_)
 have hu:=hr.units
 refine⟨_,_,⟨[.S],[],[],.P⟩,rfl,(Zl (Jd (Jt (Jo (Zn ZsP (hr.mono (by decide)) rfl (Za (pv 0) Zh)))) (Zl U2) ZB)),
   (Jj (Jz (Zag (DE.toA (VR (Ze Zo) (Zb (Zc (i:=0) (m:=.S) rfl (by decide)) Zg)))))
   UD
   ZC), ?_⟩
 refine Pm.ref Znf (g:=fun xs=>_) ?_
 rintro(ns:List Int) ⟨hn,h⟩
 simp only[Znf]
 walk_at "pd"
 rw[Zpn hn,h]
 walk_at "pd"
theorem ZnE{ns:List Int}(h:ns.length<=1000/\Vk ns=true):Znf.fn [.lst (ns.map PV.int)]=.ok .non:=Pm.fn_eq Znf ns h fun _ _=>rfl
noncomputable def Zm0:Pm:=⟨List Int,fun a=>[.lst (a.map PV.int)],fun a=>0<a.length/\a.length<=1000,fun a=>.ok (.int (ZA a:Nat))⟩
theorem Zq8(T:Txt K mg){f:Addr}{fd:FuncData}(F:Fun K "last_with_seeds" "last_with_seeds" Zm4 f fd):J8 P w K mg base CX0 1 f fd ["board"] (spF K 1 .P W0 Zm0.fn):=by
 refine F.okP ZnT rfl rfl (fun cdv A outer s H E hr=>?_)
 have hu:=hr.units
 refine⟨_,_,⟨[],[],[],.P⟩,rfl,(Zd (Z2 (i:=1) ZnT.nd rfl (by first|exact Or.inl rfl|exact Or.inr rfl) (Z8 V9 (Zs (ZH (K:=K)) rfl T.z_len Jq (Za (pv 0) Zh)) Zj))
   (Zd (U1 PassesOwn.never (PW.pt (Zaj (Z0 Q8 (pv 1) Zj (Z3 _)) (Za6 (Z0 (JS (K:=K) hu) (ZK (Zr (K:=K)) (pv 0) (pv 1) (fun _ _=>rfl)) Zj (Z3 _))))) (Zl (ZhA (i:=1) ZnT.nd rfl (by first|exact Or.inl rfl|exact Or.inr rfl) Zj ZhV)))
   (Zl (Zx (pv 1))))),
   (Zm (Γm:=[.S,.P]) (Z9 (i:=1) (VL (DE.toA (Jv (Zb (Zc (i:=0) (m:=.S) rfl (by decide)) Zg))) (DE.toA Zi)) (by decide))
   (Zm (Γm:=[.S,.P]) (Qi (Γ:=[.S,.P]) (Zat (Zy (DE.toA (QO (DE.toA (Zk (i:=1) rfl)) (DE.toA Zi)))) (Zy (DE.toA (Jc (g:=id) (Z7 (te:=tC .non) (Zc (i:=0) (m:=.S) rfl (by decide)) (DE.toA (Zk (i:=1) rfl))) (DE.toA Zi)))))
   (ZfJ (i:=1) rfl (DE.toA Zi)))
   (Zz (Zk (i:=1) rfl)))), ?_⟩
 refine Pm.ref Zm0 (g:=fun xs=>_) ?_
 rintro(bs:List Int) ⟨h0,h1⟩
 simp only[Zm0]
 walk_at "pd"
 generalize hw:Js _ _ _=W
 obtain⟨ρ',rfl,⟨k,hk,hk2,rfl⟩,he⟩:=Zbb hw (fun ρ=>∃k:Nat,k<bs.length/\UJ bs k=ZA bs/\ρ=[.lst (bs.map PV.int),.int k]) (fun ρ=>match gv 1 ρ with|.int t=>t.toNat|_=>0) ⟨bs.length-1,by lia,rfl,by rw[show ((bs.length-1:Nat):Int)=(bs.length:Int)-1 by lia]⟩ (by
  rintro ρ ⟨k,hk,hk2,rfl⟩
  cases k with
  |zero =>
   left
   walk_at "pd"
   rfl
  |succ k =>
   by_cases hc:bs.getD (k+1) 0=0
   ·right
    constructor
    ·walk_at "pd"
     rw[decide_eq_true (show (0:Int)<((k+1:Nat):Int) by lia)]
     walk_at "pd"
     rw[Zt6,decide_eq_true hc]
    ·walk_at "pd"
     refine Vd ⟨⟨k,by lia,by rw[UJ,if_pos hc] at hk2;exact hk2,by rw[show ((k+1:Nat):Int)-1=k by lia]⟩, ?_⟩
     simp only[Zcv,Zcu]
     lia
   ·left
    walk_at "pd"
    rw[decide_eq_true (show (0:Int)<((k+1:Nat):Int) by lia)]
    walk_at "pd"
    rw[Zt6,decide_eq_false hc])
 walk_at "pd"
 rw[<- hk2]
 cases k with
 |zero=>rfl
 |succ k =>
  by_cases hc:bs.getD (k+1) 0=0
  ·exfalso
   revert he
   walk_at "pd"
   rw[decide_eq_true (show (0:Int)<((k+1:Nat):Int) by lia)]
   walk_at "pd"
   rw[Zt6,decide_eq_true hc]
   intro z
   cases z
  ·rw[UJ,if_neg hc]
theorem Zni{bs:List Int}(h:0<bs.length/\bs.length<=1000):Zm0.fn [.lst (bs.map PV.int)]=.ok (.int (ZA bs:Nat)):=Pm.fn_eq Zm0 bs h fun(a:List Int) e=>by (simp only[Zm0,List.cons.injEq,PV.lst.injEq,PV.int.injEq,PV.str.injEq,PV.bl.injEq,PV.tup.injEq,ZI,and_true] at e ⊢;first|(simp only[e];done)|(subst e;rfl)|(rw[e]))
theorem Zg1(pre:List Int)(x y v:Int)(m:Nat):(((pre++x::y::List.replicate m 0).set pre.length (x+1)).set (pre.length+1) 0).set (pre.length+1+m) v=pre++(x+1)::(List.replicate m 0++[v]):=by
 rw[ZtU _ _ (Zto _),Zuu,ZtT,ZtU _ _ (by lia),show pre.length+1-pre.length=0+1 by lia,ZtM,ZtT,ZtU _ _ (by lia),show pre.length+1+m-pre.length=m+1 by lia,ZtM,
  show (0:Int)::List.replicate m 0=List.replicate m 0++[0] from List.replicate_succ',ZtU _ _ (by simp),ZtK,Zuu,ZtT]
theorem Zfq{b:List Int}(h:Zay b):((b.set (ZA b-1) (b.getD (ZA b-1) 0+1)).set (ZA b) 0).set (b.length-1) (b.getD (ZA b) 0-1)=U7 b:=by
 have hp:=h.p
 have hlt:=h.lt
 have hl:(b.take (ZA b-1)).length=ZA b-1:=by rw[ZtQ];lia
 have:=Zg1 (b.take (ZA b-1)) (b.getD (ZA b-1) 0) (b.getD (ZA b) 0) (b.getD (ZA b) 0-1) (b.length-ZA b-1)
 rw[<- h.e1,hl,show ZA b-1+1=ZA b by lia,show ZA b+(b.length-ZA b-1)=b.length-1 by lia] at this
 exact this
noncomputable def Zfs(b:List Int):PV:=if ZA b=0 then .non else .lst ((U7 b).map PV.int)
noncomputable def ZmD:Pm:=⟨List Int,fun a=>[.lst (a.map PV.int)],fun a=>UW a,fun a=>.ok (Zfs a)⟩
theorem ZrQ(T:Txt K mg){f:Addr}{fd:FuncData}(F:Fun K "next_board" "next_board" Znj f fd):J8 P w K mg base CX0 6 f fd ["board"] (spF K 1 .F W0 ZmD.fn):=by
 have ZpA:=Vc (P:=P) (w:=w) (base:=base) T.ZqC Zqk (fun F=>Zqi T F)
 have Zrn:=Vc (P:=P) (w:=w) (base:=base) T.Zrd ZqG (fun F=>Zq8 T F)
 refine F.okP Zpq rfl rfl (fun cdv A outer s H E hr=>?_)
 have hu:=hr.units
 refine⟨_,_,⟨[],[],[],.F⟩,rfl,(Zd (ZQ (Zn ZpA (hr.mono (by decide)) rfl (Za (pv 0) Zh)))
   (Zd (Z2 (i:=1) Zpq.nd rfl (by first|exact Or.inl rfl|exact Or.inr rfl) (Zn Zrn (hr.mono (by decide)) rfl (Za (pv 0) Zh)))
   (Zd (Jd (Z0 (JS (K:=K) hu) (pv 1) Zj (Z3 _)) (Zl (Zx Zbn)) ZB)
   (Zd (Z2 (i:=2) Zpq.nd rfl (by first|exact Or.inl rfl|exact Or.inr rfl) (ZP (Je (K:=K)) rfl T.z_list J7 (Za (pv 0) Zh)))
   (Zd (ZeN (pv 2) (Z8 V9 (pv 1) Zj) (Zb8 (K:=K)) Zj ZhW JH)
   (Zd (U3 Zj (Qz (pv 2) (pv 1) JH))
   (Zd (U3 (Z8 V9 (ZK (Zr (K:=K)) (pv 0) (pv 1) (fun _ _=>rfl)) Zj) (Qz (pv 2) (Zg7 ZcH Zj) JH))
   (Zl (Zx (pv 2)))))))))),
   (Zm (Γm:=[.S,.U,.U]) (J5 (DE.toA (VR (Ze Zo) (Zb (Zc (i:=0) (m:=.S) rfl (by decide)) Zg))))
   (Zm (Γm:=[.S,.P,.U]) (Z9 (i:=1) (VR (Ze Zo) (Zb (Zc (i:=0) (m:=.S) rfl (by decide)) Zg)) (by decide))
   (Zm (Γm:=[.S,.P,.U]) (Jj (Zy (DE.toA (Jc (g:=id) (DE.toA (Zk (i:=1) rfl)) (DE.toA Zi))))
   (JV (DE.PF ZfP))
   ZC)
   (Zm (Γm:=[.S,.P,.O]) (Jb (i:=2) (JL (Zb (Zc (i:=0) (m:=.S) rfl (by decide)) Zg)) (by decide))
   (Zm (Γm:=[.S,.P,.O]) (Zd4 (i:=2) rfl rfl (DE.toA (VL (DE.toA (Zk (i:=1) rfl)) (DE.toA Zi))) (DE.toA Zi))
   (Zm (Γm:=[.S,.P,.O]) (JU (i:=2) rfl Zi (DE.toA (Zk (i:=1) rfl)))
   (Zm (Γm:=[.S,.P,.O]) (JU (i:=2) rfl (VL (Z7 (te:=tC .non) (Zc (i:=0) (m:=.S) rfl (by decide)) (DE.toA (Zk (i:=1) rfl))) (DE.toA Zi)) (DE.toA (Zd6 (DE.toA Zi))))
   (JV (VJ (i:=2) rfl))))))))), ?_⟩
 refine Pm.ref ZmD (g:=fun xs=>_) ?_
 rintro(bs:List Int) (hB:UW bs)
 have b0:=hB.lo
 have b1:=hB.hi
 simp only[ZmD]
 walk_at "pd"
 rw[ZnE ⟨by lia,Vj.mpr hB⟩]
 walk_at "pd"
 rw[Zni ⟨by lia,by lia⟩]
 walk_at "pd"
 unfold Zfs
 by_cases hz:ZA bs=0
 ·rw[if_pos hz,hz]
  walk_at "pd"
  rfl
 ·have ok:=Zcj hB.nn hz
  have hp:=ok.p
  have hlt:=ok.lt
  rw[if_neg hz,decide_eq_false (show ¬((ZA bs:Nat):Int)=0 by lia)]
  walk_at "pd"
  rw[show ((ZA bs:Nat):Int).toNat=ZA bs from Zt6 _,show (((ZA bs:Nat):Int)-1).toNat=ZA bs-1 by lia]
  rw[ZeW (by intro z;have:=congrArg List.length z;rw[ZtH,ZtH,ZtY] at this;lia)]
  walk_at "pd"
  rw[ZtH,ZtH,Zfq ok]
theorem Zov{bs:List Int}(h:UW bs):ZmD.fn [.lst (bs.map PV.int)]=.ok (Zfs bs):=Pm.fn_eq ZmD bs h fun(a:List Int) e=>by (simp only[ZmD,List.cons.injEq,PV.lst.injEq,PV.int.injEq,PV.str.injEq,PV.bl.injEq,PV.tup.injEq,ZI,and_true] at e ⊢;first|(simp only[e];done)|(subst e;rfl)|(rw[e]))
theorem Za7:ZmD.calm:=fun a q h=>by (simp only[ZmD] at h;cases h)
noncomputable def Zou:Pm:=⟨List Int×Int,fun a=>[.lst (a.1.map PV.int),.int a.2],fun _=>True,fun a=>.ok (.bl (decide (0<=a.2/\a.2<a.1.length)))⟩
theorem ZsS(T:Txt K mg){f:Addr}{fd:FuncData}(F:Fun K "is_pit" "is_pit" ZoR f fd):J8 P w K mg base CX0 3 f fd ["board", "pit"] (spF K 2 .P W0 Zou.fn):=by
 have ZmW:=Vc (P:=P) (w:=w) (base:=base) T.ZnZ ZnJ (fun F=>ZnI T F)
 refine F.okP ZsR rfl rfl (fun cdv A outer s H E hr=>?_)
 have hu:=hr.units
 refine⟨_,_,⟨[],[],[],.P⟩,rfl,(Zl (Zx (Zbp (Zn ZmW (hr.mono (by decide)) rfl (Za (pv 1) (Za Zj Zh))) (Zak (JR Zac (pv 1) (Zs (ZH (K:=K)) rfl T.z_len Jq (Za (pv 0) Zh)) (Z3 _)))))),
   (Zz (ZbC (DE.toA (VR (Ze (Ze Zo)) (Zb (Zc (i:=1) (m:=.S) rfl (by decide)) (Zb (DE.toA Zi) Zg)))) (ZaR (Zc (i:=1) (m:=.S) rfl (by decide)) (DE.toA (Jv (Zb (Zc (i:=0) (m:=.S) rfl (by decide)) Zg)))))), ?_⟩
 refine Pm.ref Zou (g:=fun xs=>_) ?_
 rintro⟨ns,p⟩ -
 simp only[Zou]
 walk_at "pd"
 rw[ZmH]
 walk_at "pd"
 by_cases h0:0<=p
 ·rw[decide_eq_true h0]
  walk_at "pd"
  by_cases h1:p<ns.length
  ·rw[decide_eq_true h1,show decide (0<=p/\p<(ns.length:Int))=true from decide_eq_true ⟨h0,h1⟩]
  ·rw[decide_eq_false h1,show decide (0<=p/\p<(ns.length:Int))=false from decide_eq_false (fun z=>h1 z.2)]
 ·rw[decide_eq_false h0,show decide (0<=p/\p<(ns.length:Int))=false from decide_eq_false (fun z=>h0 z.1)]
  walk_at "pd"
theorem ZqE{ns:List Int}{p:Int}:Zou.fn [.lst (ns.map PV.int),.int p]=.ok (.bl (decide (0<=p/\p<ns.length))):=Pm.fn_eq Zou (ns,p) trivial fun(a:List Int×Int) e=>by (simp only[Zou,List.cons.injEq,PV.lst.injEq,PV.int.injEq,PV.str.injEq,PV.bl.injEq,PV.tup.injEq,ZI,and_true] at e ⊢;first|(simp only[e];done)|(subst e;rfl)|(rw[e]))
noncomputable def Zn5:Pm:=⟨List Int×Int,fun a=>[.lst (a.1.map PV.int),.int a.2],fun a=>0<=a.2/\a.2<a.1.length,fun _=>.ok .non⟩
theorem Zsg(T:Txt K mg){f:Addr}{fd:FuncData}(F:Fun K "check_pit" "check_pit" Znz f fd):J8 P w K mg base CX0 4 f fd ["board", "pit"] (spF K 2 .P W0 Zn5.fn):=by
 have ZsW:=Vc (P:=P) (w:=w) (base:=base) T.ZsV ZsU (fun F=>ZsS T F)
 refine F.okP Zsd rfl rfl (fun cdv A outer s H E hr=>?_)
 have hu:=hr.units
 refine⟨_,_,⟨[.S,.S],[],[],.P⟩,rfl,(Zl (Jd (Jt (Jo (Zn ZsW (hr.mono (by decide)) rfl (Za (pv 0) (Za (pv 1) Zh))))) (Zl U2) ZB)),
   (Jj (Jz (Zag (DE.toA (VR (Ze (Ze Zo)) (Zb (Zc (i:=0) (m:=.S) rfl (by decide)) (Zb (Zc (i:=1) (m:=.S) rfl (by decide)) Zg))))))
   UD
   ZC), ?_⟩
 refine Pm.ref Zn5 (g:=fun xs=>_) ?_
 rintro⟨ns,p⟩ h
 simp only[Zn5]
 walk_at "pd"
 rw[ZqE]
 walk_at "pd"
 rw[decide_eq_true (show 0<=p/\p<ns.length from h)]
 walk_at "pd"
theorem ZoL{ns:List Int}{p:Int}(h:0<=p/\p<ns.length):Zn5.fn [.lst (ns.map PV.int),.int p]=.ok .non:=Pm.fn_eq Zn5 (ns,p) h fun _ _=>rfl
noncomputable def ZmB:Pm:=⟨List Int×Int,fun a=>[.lst (a.1.map PV.int),.int a.2],fun a=>Jm a.1 a.2,fun _=>.ok .non⟩
theorem ZqW(T:Txt K mg){f:Addr}{fd:FuncData}(F:Fun K "check_standing" "check_standing" Zm9 f fd):J8 P w K mg base CX0 6 f fd ["board", "pit"] (spF K 2 .P W0 ZmB.fn):=by
 have ZpA:=Vc (P:=P) (w:=w) (base:=base) T.ZqC Zqk (fun F=>Zqi T F)
 have ZsE:=Vc (P:=P) (w:=w) (base:=base) T.Zs5 Zsp (fun F=>Zsg T F)
 refine F.okP ZqM rfl rfl (fun cdv A outer s H E hr=>?_)
 have hu:=hr.units
 refine⟨_,_,⟨[.S,.S],[],[],.P⟩,rfl,(Zd (ZQ (Zn ZpA (hr.mono (by decide)) rfl (Za (pv 0) Zh)))
   (Zd (ZQ (Zn ZsE (hr.mono (by decide)) rfl (Za (pv 0) (Za (pv 1) Zh))))
   (Zl (Jd (Z0 (JS (K:=K) hu) (ZK (Zr (K:=K)) (pv 0) (pv 1) (fun _ _=>rfl)) Zj (Z3 _)) (Zl U2) ZB)))),
   (Zm (Γm:=[.S,.S]) (J5 (DE.toA (VR (Ze Zo) (Zb (Zc (i:=0) (m:=.S) rfl (by decide)) Zg))))
   (Zm (Γm:=[.S,.S]) (J5 (DE.toA (VR (Ze (Ze Zo)) (Zb (Zc (i:=0) (m:=.S) rfl (by decide)) (Zb (Zc (i:=1) (m:=.S) rfl (by decide)) Zg)))))
   (Jj (Zy (DE.toA (Jc (g:=id) (Z7 (te:=tC .non) (Zc (i:=0) (m:=.S) rfl (by decide)) (Zc (i:=1) (m:=.S) rfl (by decide))) (DE.toA Zi))))
   UD
   ZC))), ?_⟩
 refine Pm.ref ZmB (g:=fun xs=>_) ?_
 rintro⟨ns,p⟩ (h:Jm ns p)
 have hs:=Zgz.mpr h
 unfold stX at hs
 by_cases hb:Vk ns=true
 ·rw[if_pos hb] at hs
  by_cases h1:0<=p/\p<ns.length
  ·rw[if_pos h1] at hs
   by_cases h2:ns.getD p.toNat 0=0
   ·rw[if_pos h2] at hs;cases hs
   ·have hl:=(Vj.mp hb).hi
    simp only[ZmB]
    walk_at "pd"
    rw[ZnE ⟨by lia,hb⟩]
    walk_at "pd"
    rw[ZoL h1]
    walk_at "pd"
    rw[decide_eq_false h2]
    walk_at "pd"
  ·rw[if_neg h1] at hs;cases hs
 ·rw[if_neg hb] at hs;cases hs
theorem Znv{ns:List Int}{p:Int}(h:Jm ns p):ZmB.fn [.lst (ns.map PV.int),.int p]=.ok .non:=Pm.fn_eq ZmB (ns,p) h fun _ _=>rfl
noncomputable def Zne:Pm:=⟨List Int×Int×Int,fun a=>[.lst (a.1.map PV.int),.int a.2.1,.int a.2.2],fun a=>Jm a.1 a.2.1/\1<=a.2.2/\a.2.2<=20000,fun _=>.ok .non⟩
theorem ZrE(T:Txt K mg){f:Addr}{fd:FuncData}(F:Fun K "check_round" "check_round" ZmX f fd):J8 P w K mg base CX0 7 f fd ["board", "pit", "most"] (spF K 3 .P W0 Zne.fn):=by
 have Zru:=Vc (P:=P) (w:=w) (base:=base) T.Zrr Zrg (fun F=>ZqW T F)
 have G_check_count_x:=Vc (P:=P) (w:=w) (base:=base) T.ZoE Zor (fun F=>JD T F)
 refine F.okP ZrB rfl rfl (fun cdv A outer s H E hr=>?_)
 have hu:=hr.units
 refine⟨_,_,⟨[.S,.S,.S],[],[],.P⟩,rfl,(Zd (ZQ (Zn Zru (hr.mono (by decide)) rfl (Za (pv 0) (Za (pv 1) Zh))))
   (Zl (ZQ (Zn G_check_count_x (hr.mono (by decide)) rfl (Za (pv 2) (Za Zj (Za (JJ T.c_LONGEST rfl) Zh))))))),
   (Zm (Γm:=[.S,.S,.S]) (J5 (DE.toA (VR (Ze (Ze Zo)) (Zb (Zc (i:=0) (m:=.S) rfl (by decide)) (Zb (Zc (i:=1) (m:=.S) rfl (by decide)) Zg)))))
   (J5 (DE.toA (VR (Ze (Ze (Ze Zo))) (Zb (Zc (i:=2) (m:=.S) rfl (by decide)) (Zb (DE.toA Zi) (Zb (DE.toA Zi) Zg))))))), ?_⟩
 refine Pm.ref Zne (g:=fun xs=>_) ?_
 rintro⟨ns,p,m⟩ ⟨(hs:Jm ns p),hm⟩
 simp only[Zne]
 walk_at "pd"
 rw[Znv hs]
 walk_at "pd"
 rw[Jx hm]
 walk_at "pd"
theorem Zob{ns:List Int}{p m:Int}(h:Jm ns p/\1<=m/\m<=20000):Zne.fn [.lst (ns.map PV.int),.int p,.int m]=.ok .non:=Pm.fn_eq Zne (ns,p,m) h fun _ _=>rfl
noncomputable def ZnS:Pm:=⟨List Int×Int,fun a=>[.lst (a.1.map PV.int),.int a.2],fun a=>0<=a.2/\a.2<a.1.length/\a.1.length<=1000,fun a=>.ok (ZdX (Jk a))⟩
theorem ZsH(T:Txt K mg){f:Addr}{fd:FuncData}(F:Fun K "sow_pit" "sow_pit" Zot f fd):J8 P w K mg base CX0 1 f fd ["board", "pit"] (spF K 2 .F W0 ZnS.fn):=by
 refine F.okP ZnL rfl rfl (fun cdv A outer s H E hr=>?_)
 have hu:=hr.units
 refine⟨_,_,⟨[],[],[],.F⟩,rfl,(Zd (Z2 (i:=2) ZnL.nd rfl (by first|exact Or.inl rfl|exact Or.inr rfl) (Zs (ZH (K:=K)) rfl T.z_len Jq (Za (pv 0) Zh)))
   (Zd (Z2 (i:=3) ZnL.nd rfl (by first|exact Or.inl rfl|exact Or.inr rfl) (Z8 Vp (ZK (Zr (K:=K)) (pv 0) (pv 1) (fun _ _=>rfl)) (pv 2)))
   (Zd (Z2 (i:=4) ZnL.nd rfl (by first|exact Or.inl rfl|exact Or.inr rfl) (Z8 Jy (ZK (Zr (K:=K)) (pv 0) (pv 1) (fun _ _=>rfl)) (pv 2)))
   (Zd (ZdV (i:=5) ZnL.nd rfl (U4 (K:=K) (pv 0)) (fun _ _ _ _=>(Z8 Ju (pv 8) (pv 3))) rfl)
   (Zd (U3 (pv 3) (Qz (pv 5) (pv 1) JH))
   (Zd (Z2 (i:=6) ZnL.nd rfl (by first|exact Or.inl rfl|exact Or.inr rfl) (pv 1))
   (Zd (V0 PassesOwn.never rfl (JQ rfl T.z_range (Za (pv 4) Zh)) (Ji (i:=7) ZnL.nd rfl (by first|exact Or.inl rfl|exact Or.inr rfl)) (Zd (Z2 (i:=6) ZnL.nd rfl (by first|exact Or.inl rfl|exact Or.inr rfl) (Z8 Jy (Z8 Ju (pv 6) Zj) (pv 2)))
   (Zl (ZeN (pv 5) (pv 6) (Zb8 (K:=K)) Zj ZhW JH))))
   (Zl (Zx (ZN (Za (pv 5) (Za (pv 6) Zh)))))))))))),
   (Zm (Γm:=[.S,.S,.P,.U,.U,.U,.U,.U]) (Z9 (i:=2) (Jv (Zb (Zc (i:=0) (m:=.S) rfl (by decide)) Zg)) (by decide))
   (Zm (Γm:=[.S,.S,.P,.P,.U,.U,.U,.U]) (Z9 (i:=3) (QP (Z7 (te:=tC .non) (Zc (i:=0) (m:=.S) rfl (by decide)) (Zc (i:=1) (m:=.S) rfl (by decide))) (DE.toA (Zk (i:=2) rfl))) (by decide))
   (Zm (Γm:=[.S,.S,.P,.P,.P,.U,.U,.U]) (Z9 (i:=4) (J0 (Z7 (te:=tC .non) (Zc (i:=0) (m:=.S) rfl (by decide)) (Zc (i:=1) (m:=.S) rfl (by decide))) (DE.toA (Zk (i:=2) rfl))) (by decide))
   (Zm (Γm:=[.S,.S,.P,.P,.P,.O,.U,.U]) (Zek (i:=5) (Zd9 (DI.c (ZaP (ZaQ (i:=0) rfl))) (DE.PF (Jw (Zc (i:=8) (m:=.S) rfl (by decide)) (DE.toA (Zk (i:=3) rfl))))) (by decide))
   (Zm (Γm:=[.S,.S,.P,.P,.P,.O,.U,.U]) (JU (i:=5) rfl (Zk (i:=3) rfl) (Zc (i:=1) (m:=.S) rfl (by decide)))
   (Zm (Γm:=[.S,.S,.P,.P,.P,.O,.P,.U]) (Z9 (i:=6) (DE.grd (Zc (i:=1) (m:=.S) rfl (by decide))) (by decide))
   (Zm (Γm:=[.S,.S,.P,.P,.P,.O,.P,.U]) (V2 (Γl:=[.S,.S,.P,.P,.P,.O,.P,.U]) (Ur (Zb (DE.toA (Zk (i:=4) rfl)) Zg)) rfl (ZfM (i:=7) (by decide))
   (DS.out (Y:=⟨[.S,.S,.P,.P,.P,.O,.P,.P],[.S,.S,.P,.P,.P,.O,.P,.U],[.S,.S,.P,.P,.P,.O,.P,.U],.F⟩) (Y':=⟨[.S,.S,.P,.P,.P,.O,.P,.U],[.S,.S,.P,.P,.P,.O,.P,.U],[.S,.S,.P,.P,.P,.O,.P,.U],.F⟩) (Zm (Γm:=[.S,.S,.P,.P,.P,.O,.P,.P]) (Z9 (i:=6) (J0 (DE.toA (Jw (DE.toA (Zk (i:=6) rfl)) (DE.toA Zi))) (DE.toA (Zk (i:=2) rfl))) (by decide))
   (Zd4 (i:=5) rfl rfl (DE.toA (Zk (i:=6) rfl)) (DE.toA Zi))) rfl rfl rfl rfl))
   (JV (Vt (Zp (VJ (i:=5) rfl) (Zp (DE.PF (Zk (i:=6) rfl)) ZY))))))))))), ?_⟩
 refine Pm.ref ZnS (g:=fun xs=>_) ?_
 rintro⟨ns,p⟩ ⟨h0,h1,h2⟩
 simp only at h0 h1 h2
 simp only[ZnS]
 walk_at "pu"
 rw[U6 h0 h1]
 walk_at "pu"
 rw[Zfg (ZfU 3 (by lia) (by lia))]
 walk_at "pu"
 rw[U6 h0 h1]
 walk_at "pu"
 rw[ZaC (show (0:Int)<ns.length by lia)]
 walk_at "pu"
 rw[Zf0 (by simp;lia)]
 walk_at "pu"
 have hc:Zgp (fun x=>Zls x (.int (ns.getD p.toNat 0/ns.length))) (ns.map PV.int)=.ok ((ns.map fun z=>z+ns.getD p.toNat 0/ns.length).map PV.int):=by
  rw[Zfx (g:=fun x=>match x with|.int z=>PV.int (z+ns.getD p.toNat 0/ns.length)|_=>.non)]
  ·simp[Function.comp_def]
  ·intro x hx
   obtain⟨z,_,rfl⟩:=Ztx.mp hx
   rfl
 rw[hc]
 walk_at "pu"
 rw[Q3 h0 (by simp;lia),ZcN h0 h1]
 walk_at "pu"
 have o0:=Zt4 (ns.getD p.toNat 0) (show (ns.length:Int)≠0 by lia)
 have o1:=Zty (ns.getD p.toNat 0) (show (0:Int)<ns.length by lia)
 rw[ZcY (by lia)]
 walk_at "pu"
 generalize hs:ns.getD p.toNat 0/ns.length=rounds
 generalize ho:ns.getD p.toNat 0%ns.length=over at o0 o1
 generalize hb:(fun(x:PV) (ρ:List PV)=>_)=body
 obtain⟨ρ',e1,e2⟩:=Zdy (b:=body) (xs:=ZdS 0 over.toNat) (ρ:=[.lst (ns.map PV.int),.int p,.int ns.length,.int rounds,.int over,.lst ((tab ns.length (UY ns p 0)).map PV.int),.int p,.non])
  (fun i ρ=>∃v,ρ=[.lst (ns.map PV.int),.int p,.int ns.length,.int rounds,.int over,.lst ((tab ns.length (UY ns p i)).map PV.int),.int ((p+i)%ns.length),v]) ⟨_,by rw[Int.natCast_zero,Int.add_zero,ZtD h0 h1]⟩ (by
  rintro i x ρ hx ⟨v,rfl⟩
  obtain⟨hi,rfl⟩:=JI hx
  subst hb
  have m1:=Uh h0 h1 (show (0:Int)<=i by lia) (by lia)
  have m2:=Uh h0 h1 (show (0:Int)<=(i:Int)+1 by lia) (by lia)
  have e:((p+(i:Int))%ns.length+1)%ns.length=(p+((i:Int)+1))%ns.length:=by
   rw[m1,m2]
   split
   ·rw[show p+(i:Int)+1=p+((i:Int)+1) by lia,m2]
   ·rw[ZtD (by lia) (by lia)];split<;>lia
  have b:0<=(p+((i:Int)+1))%ns.length/\(p+((i:Int)+1))%ns.length<ns.length:=by rw[m2];split<;>lia
  walk_at "pu"
  rw[ZaC (by lia)]
  walk_at "pu"
  rw[e,U6 b.1 (by rw[ZR];exact b.2)]
  walk_at "pu"
  rw[V4 (by lia)]
  have hst:=ZcO h0 h1 (i:=i) (by lia)
  have hset:=Q3 (ns:=tab ns.length (UY ns p i)) (k:=(p+((i:Int)+1))%ns.length) (y:=UY ns p i ((p+((i:Int)+1))%ns.length).toNat+1) b.1 (by rw[ZR];exact b.2)
  rw[hst] at hset
  rw[hset]
  walk_at "pu"
  exact Vd ⟨_,by rw[show ((i+1:Nat):Int)=(i:Int)+1 by lia]⟩)
 obtain⟨v,rfl⟩:=e2
 rw[e1]
 walk_at "pu"
 rw[Jn,Zt5 o0]
 show Rr.ok (PV.tup _)=Rr.ok (PV.tup _)
 unfold Jk Qs Ud
 rw[ho]
theorem Zpk{ns:List Int}{p:Int}(h:0<=p/\p<ns.length/\ns.length<=1000):ZnS.fn [.lst (ns.map PV.int),.int p]=.ok (ZdX (Jk (ns,p))):=
 Pm.fn_eq ZnS (ns,p) h fun⟨ns',k'⟩ e=>by
  simp only[ZnS,List.cons.injEq,PV.lst.injEq,PV.int.injEq,and_true] at e ⊢
  rw[VE e.1,e.2]
noncomputable def ZmV:Pm:=⟨Int×Int,fun a=>[.int a.1,.int a.2],fun a=>a.1<=a.2,fun _=>.ok .non⟩
theorem Zr2(T:Txt K mg){f:Addr}{fd:FuncData}(F:Fun K "check_length" "check_length" ZmO f fd):J8 P w K mg base CX0 1 f fd ["length", "most"] (spF K 2 .P W0 ZmV.fn):=by
 refine F.okP Zrx rfl rfl (fun cdv A outer s H E hr=>?_)
 have hu:=hr.units
 refine⟨_,_,⟨[.S,.S],[],[],.P⟩,rfl,(Zl (Jd (Z0 Q8 (pv 0) (pv 1) (Z3 _)) (Zl U2) ZB)),
   (Jj (Zy (DE.toA (QO (Zc (i:=0) (m:=.S) rfl (by decide)) (Zc (i:=1) (m:=.S) rfl (by decide)))))
   UD
   ZC), ?_⟩
 refine Pm.ref ZmV (g:=fun xs=>_) ?_
 rintro⟨l,m⟩ (h:l<=m)
 simp only[ZmV]
 walk_at "pd"
 rw[decide_eq_false (show ¬m<l by lia)]
 walk_at "pd"
theorem ZnF{l m:Int}(h:l<=m):ZmV.fn [.int l,.int m]=.ok .non:=Pm.fn_eq ZmV (l,m) h fun _ _=>rfl
noncomputable def rdN(ns:List Int)(p m:Int):Nat:=match J9 (ns,p) m.toNat with
 |some i=>i+1
 |none=>0
noncomputable def Ze8(L:List (List Int×Int)):PV:=.lst (L.map Vb)
noncomputable def Zn3:Pm:=⟨List Int×Int×Int,fun a=>[.lst (a.1.map PV.int),.int a.2.1,.int a.2.2],fun a=>Jm a.1 a.2.1/\(1<=a.2.2/\a.2.2<=20000)/\(J9 (a.1,a.2.1) a.2.2.toNat).isSome=true,fun a=>.ok (Ze8 (Jh (a.1,a.2.1) (rdN a.1 a.2.1 a.2.2)))⟩
theorem Zs0(T:Txt K mg){f:Addr}{fd:FuncData}(F:Fun K "round_of" "round_of" ZnO f fd):J8 P w K mg base CX0 8 f fd ["board", "pit", "most"] (spF K 3 .F W0 Zn3.fn):=by
 have Zsc:=Vc (P:=P) (w:=w) (base:=base) T.ZrV ZrJ (fun F=>ZrE T F)
 have Zst:=Vc (P:=P) (w:=w) (base:=base) T.ZsT ZsM (fun F=>ZsH T F)
 have ZrK:=Vc (P:=P) (w:=w) (base:=base) T.ZrG Zr6 (fun F=>Zr2 T F)
 refine F.okP ZoF rfl rfl (fun cdv A outer s H E hr=>?_)
 have hu:=hr.units
 refine⟨_,_,⟨[],[],[],.F⟩,rfl,(Zd (ZQ (Zn Zsc (hr.mono (by decide)) rfl (Za (pv 0) (Za (pv 1) (Za (pv 2) Zh)))))
   (Zd (Z2 (i:=3) ZoF.nd rfl (by first|exact Or.inl rfl|exact Or.inr rfl) (ZN (Za (ZP (Je (K:=K)) rfl T.z_list J7 (Za (pv 0) Zh)) (Za (pv 1) Zh))))
   (Zd (Z2 (i:=4) ZoF.nd rfl (by first|exact Or.inl rfl|exact Or.inr rfl) (VY (Za (pv 3) Zh)))
   (Zd (Z2 (i:=5) ZoF.nd rfl (by first|exact Or.inl rfl|exact Or.inr rfl) (Zn Zst (hr.mono (by decide)) rfl (Za (pv 0) (Za (pv 1) Zh))))
   (Zd (U1 PassesOwn.never (Z0 (UP (K:=K) hu) (pv 5) (pv 3) (Z3 _)) (Zd (ZQ (Zn ZrK (hr.mono (by decide)) rfl (Za (Z8 Ju (Zs (ZH (K:=K)) rfl T.z_len Jq (Za (pv 4) Zh)) Zj) (Za (pv 2) Zh)))) (Zd (ZQ (Zcc PySem.F.plainAttrs_list PySem.F.slot_list_append PySem.F.type_list_append Vg (pv 4) (Za (pv 5) Zh))) (Zl (Z2 (i:=5) ZoF.nd rfl (by first|exact Or.inl rfl|exact Or.inr rfl) (Zn Zst (hr.mono (by decide)) rfl (Za (ZK (Zr (K:=K)) (pv 5) Zj (fun _ _=>rfl)) (Za (ZK (Zr (K:=K)) (pv 5) Zj (fun _ _=>rfl)) Zh))))))))
   (Zl (Zx (pv 4)))))))),
   (Zm (Γm:=[.S,.S,.S,.U,.U,.U]) (J5 (DE.toA (VR (Ze (Ze (Ze Zo))) (Zb (Zc (i:=0) (m:=.S) rfl (by decide)) (Zb (Zc (i:=1) (m:=.S) rfl (by decide)) (Zb (Zc (i:=2) (m:=.S) rfl (by decide)) Zg))))))
   (Zm (Γm:=[.S,.S,.S,.O,.U,.U]) (Jb (i:=3) (Vt (Zp (JL (Zb (Zc (i:=0) (m:=.S) rfl (by decide)) Zg)) (Zp (DE.PF (DE.grd (Zc (i:=1) (m:=.S) rfl (by decide)))) ZY))) (by decide))
   (ZfI (L:=4) (v:=3) (x:=5) (Γb:=[.S,.S,.S,.U,.U,.U]) (Γ0:=[.S,.S,.S,.S,.S,.U]) (Γf:=[.S,.S,.S,.S,.S,.S]) rfl rfl rfl rfl rfl rfl (by decide) (by decide) (by decide) rfl rfl
   (Zjh (Ze (Ze Zo)) (Zb (Zc (i:=0) (m:=.S) rfl (by decide)) (Zb (Zc (i:=1) (m:=.S) rfl (by decide)) Zg)))
   (Zy (DE.toA (Jc (g:=(!·)) (Zc (i:=5) (m:=.S) rfl (by decide)) (Zc (i:=3) (m:=.S) rfl (by decide)))))
   (DE.toA (VR (Ze (Ze Zo)) (Zb (DE.toA (Jw (DE.toA (Jv (Zb (Zc (i:=4) (m:=.S) rfl (by decide)) Zg))) (DE.toA Zi))) (Zb (Zc (i:=2) (m:=.S) rfl (by decide)) Zg))))
   (Zjh (Ze (Ze Zo)) (Zb (Z7 (te:=tC .non) (Zc (i:=5) (m:=.S) rfl (by decide)) (DE.toA Zi)) (Zb (Z7 (te:=tC .non) (Zc (i:=5) (m:=.S) rfl (by decide)) (DE.toA Zi)) Zg)))))), ?_⟩
 refine Pm.ref Zn3 (g:=fun xs=>_) ?_
 rintro⟨ns,p,m⟩ ⟨(hs:Jm ns p),(hm:1<=m/\m<=20000),(hr:(J9 (ns,p) m.toNat).isSome=true)⟩
 have hn:ns.length<=1000:=by have:=hs.bd.hi;lia
 simp only[Zn3]
 walk_at "pd"
 rw[Zob ⟨hs,hm⟩]
 walk_at "pd"
 rw[Zpk hs.sowOk]
 walk_at "pd"
 generalize hw:Js _ _ _=W
 have hst:∀i,Jm (its Jk i (ns,p)).1 (its Jk i (ns,p)).2:=fun i=>Zjv hs i
 have hlen:∀i,(its Jk i (ns,p)).1.length=ns.length:=fun i=>ZaM (ns,p) i
 have key:∀i:Nat,(decide ((its Jk i (ns,p)).1=ns)&&decide ((its Jk i (ns,p)).2=p))=decide (its Jk i (ns,p)=(ns,p)):=fun i=>by
  rw[<- Bool.decide_and]
  exact decide_eq_decide.mpr ⟨fun z=>Prod.ext z.1 z.2,fun z=>by rw[z];exact⟨rfl,rfl⟩⟩
 obtain⟨N,hN⟩:=ZtW.mp hr
 obtain⟨r1,r2,r3⟩:=Ue hN
 have hW:=Ub hw N (fun(i:Nat) ρ=>ρ=[.lst (ns.map PV.int),.int p,.int m,ZdX (ns,p),.lst ((Jh (ns,p) (i+1)).map Vb),ZdX (its Jk (i+1) (ns,p))]) rfl (by
   rintro j ρ hj rfl
   have hk:=key (j+1)
   rw[decide_eq_false (r3 j hj)] at hk
   have st:=hst (j+1)
   constructor
   ·walk_at "pd"
    rw[hk]
    rfl
   ·walk_at "pd"
    rw[Qc]
    walk_at "pd"
    rw[Ztp,ZO,ZnF (by lia)]
    walk_at "pd"
    rw[ZaD (by rw[Ztp,ZO];lia)]
    walk_at "pd"
    rw[Zpk st.sowOk]
    walk_at "pd"
    exact Vd (by rw[Zai (ns,p) (j+1),ZtE];rfl)) (by
   rintro ρ rfl
   have hk:=key (N+1)
   rw[decide_eq_true r2] at hk
   walk_at "pd"
   rw[hk]
   rfl)
 obtain⟨ρ',rfl,rfl⟩:=hW
 rw[show rdN ns p m=N+1 by unfold rdN;rw[hN]]
 rfl
theorem Zpl{ns:List Int}{p m:Int}(h:Jm ns p/\(1<=m/\m<=20000)/\(J9 (ns,p) m.toNat).isSome=true):Zn3.fn [.lst (ns.map PV.int),.int p,.int m]=.ok (Ze8 (Jh (ns,p) (rdN ns p m))):=Pm.fn_eq Zn3 (ns,p,m) h fun(a:List Int×Int×Int) e=>by (simp only[Zn3,List.cons.injEq,PV.lst.injEq,PV.int.injEq,PV.str.injEq,PV.bl.injEq,PV.tup.injEq,ZI,and_true] at e ⊢;first|(simp only[e];done)|(subst e;rfl)|(rw[e]))
noncomputable def dnP(p:Option Addr)(ks:List Kn):PV:=.box p (.dn ks) (ks.map JK)
theorem Zf2(a:Kn):(PV.tup [.tup (a.1.map PV.int),.int a.2])=JK a:=rfl
theorem Ux(ns:List Int):ZeU [PV.lst (ns.map PV.int)]=.ok (.tup (ns.map PV.int)):=rfl
theorem ZiD{g:Bool->Bool}{k:Kn}{p:Option Addr}{ks:List Kn}:ZjO g (JK k) (dnP p ks)=.ok (.bl (g (decide (k∈ks)))):=Zi6
theorem ZhP{k:Kn}{p:Option Addr}{ks:List Kn}(h:ks.length<1000000):ZeY (dnP p ks) (JK k)=.ok (dnP p (JA ks k)):=ZgF h
theorem ZaW{m:PV->List PV->Rr PV}{p:Option Addr}{ks ks':List Kn}{xs:List PV}{y:PV}(h:m (dnP none ks) xs=.ok (.tup [y,dnP none ks'])):Zer m (dnP p ks) xs=.ok (y,dnP p ks'):=Zhq h
noncomputable def Znp:Pm:=⟨Kn×List Kn,fun x=>[dnP none x.2,.lst (x.1.1.map PV.int),.int x.1.2],fun x=>Jm x.1.1 x.1.2/\(J9 x.1 3000).isSome=true/\x.2.length<=900000,fun x=>.ok (.tup [.int (pdN x.1),dnP none ((Jh x.1 (pdN x.1)).foldl JA x.2)])⟩
theorem Zsf(T:Txt K mg){f:Addr}{fd:FuncData}(F:Fun K "see_round" "see_round" Zny f fd):J8 P w K mg base CX0 9 f fd ["board", "pit", "seen"] (spM K 2 2 Znp.fnM):=by
 have ZsN:=Vc (P:=P) (w:=w) (base:=base) T.ZsI Zs9 (fun F=>Zs0 T F)
 refine F.okM (n:=2) (j:=2) ZpD rfl rfl (by decide) (fun cdv A outer s H E hr=>?_)
 have hu:=hr.units
 refine⟨_,_,⟨[.S,.S,.O,.U,.U],[],[],.N⟩,rfl,rfl,(Zd (Z2 (i:=3) ZpD.nd rfl (by first|exact Or.inl rfl|exact Or.inr rfl) (Zn ZsN (hr.mono (by decide)) rfl (Za (pv 0) (Za (pv 1) (Za (JJ T.c_MOST_STANDINGS rfl) Zh)))))
   (Zd (V0 PassesOwn.never rfl (U4 (K:=K) (pv 3)) (Ji (i:=4) ZpD.nd rfl (by first|exact Or.inl rfl|exact Or.inr rfl)) (Zl (ZeM (hu4 hu) (pv 2) (ZN (Za (ZP (Vx (K:=K)) rfl T.z_tuple UE (Za (ZK (Zr (K:=K)) (pv 4) Zj (fun _ _=>rfl)) Zh)) (Za (ZK (Zr (K:=K)) (pv 4) Zj (fun _ _=>rfl)) Zh))) V8 rfl)))
   (Zl (Zx (Zs (ZH (K:=K)) rfl T.z_len Jq (Za (pv 3) Zh)))))),
   (Zm (Γm:=[.S,.S,.O,.O,.U]) (Jb (i:=3) (Zjh (Ze (Ze (Ze Zo))) (Zb (Zc (i:=0) (m:=.S) rfl (by decide)) (Zb (Zc (i:=1) (m:=.S) rfl (by decide)) (Zb (DE.toA Zi) Zg)))) (by decide))
   (Zm (Γm:=[.S,.S,.O,.S,.U]) (V2 (Γl:=[.S,.S,.O,.S,.U]) (ZaP (Zje (i:=3) (m:=.O) rfl (by decide))) rfl (Zl3 (i:=4) (by decide))
   (DS.out (Y:=⟨[.S,.S,.O,.S,.S],[.S,.S,.O,.S,.U],[.S,.S,.O,.S,.U],.N⟩) (Y':=⟨[.S,.S,.O,.S,.U],[.S,.S,.O,.S,.U],[.S,.S,.O,.S,.U],.N⟩) (Zd3 (i:=2) rfl (ZT (Zb (Qj (Zb (Z7 (te:=tC .non) (Zc (i:=4) (m:=.S) rfl (by decide)) (DE.toA Zi)) Zg)) (Zb (Z7 (te:=tC .non) (Zc (i:=4) (m:=.S) rfl (by decide)) (DE.toA Zi)) Zg)))) rfl rfl rfl rfl))
   (VI (j:=2) (DE.PF (Jv (Zb (Zc (i:=3) (m:=.S) rfl (by decide)) Zg))) rfl))), ?_⟩
 refine Pm.refM2 Znp ?_
 rintro⟨⟨b,p⟩,ks⟩ ⟨(hs:Jm b p),(hr:(J9 (b,p) 3000).isSome=true),(hl:ks.length<=900000)⟩ a b' xs e
 cases e
 simp only[Znp]
 have hd:=Zi2 (b,p)
 walk_at "pd"
 simp only[ins,ZjK,dnP]
 walk_at "pd"
 rw[Zpl (m:=3000) ⟨hs,⟨by lia,by lia⟩,hr⟩]
 walk_at "pd"
 have hrd:rdN b p 3000=pdN (b,p):=rfl
 rw[hrd]
 unfold Ze8
 walk_at "pd"
 generalize hw:Zas _ _ _=W
 obtain⟨ρ',rfl,v,rfl⟩:=Ja hw (fun i ρ=>∃v,ρ=[.lst (b.map PV.int),.int p,dnP (some a) (((Jh (b,p) (pdN (b,p))).take i).foldl JA ks),.lst ((Jh (b,p) (pdN (b,p))).map Vb),v]) ⟨_,rfl⟩ (by
  rintro i x ρ hx ⟨v,rfl⟩
  rw[Zt2] at hx
  cases hy:(Jh (b,p) (pdN (b,p)))[i]? with
  |none=>rw[hy] at hx;cases hx
  |some y =>
   rw[hy] at hx
   have hx:x=Vb y:=by simpa using hx.symm
   subst hx
   have hi:i<pdN (b,p):=by have:=(Ztk.mp hy).1;rwa [ZO] at this
   have hf:=ZfF (L:=(Jh (b,p) (pdN (b,p))).take i) (ks:=ks)
   rw[ZtQ,ZO] at hf
   simp only[Vb]
   walk_at "pd"
   rw[Ux]
   walk_at "pd"
   rw[Zf2,ZhP (by lia)]
   walk_at "pd"
   refine Vd ⟨Vb y, ?_⟩
   rw[List.take_succ,hy,ZuC]
   rfl)
 walk_at "pd"
 rw[Qc]
 walk_at "pd"
 rw[Ztp,ZO,List.take_of_length_le (by rw[ZO];exact Zto _)]
 unfold dnP
 rw[Za3]
 rfl
theorem ZoK{x:Kn}{ks:List Kn}(h:Jm x.1 x.2/\(J9 x 3000).isSome=true/\ks.length<=900000):Znp.fnM (dnP none ks) [.lst (x.1.map PV.int),.int x.2]=.ok (.tup [.int (pdN x),dnP none ((Jh x (pdN x)).foldl JA ks)]):=Pm.fn_eq Znp (x,ks) h (fun⟨y,ls⟩ e=>by
 simp only[Znp,dnP,List.cons.injEq,PV.box.injEq,Sh.dn.injEq,PV.lst.injEq,PV.int.injEq,and_true,true_and] at e
 obtain⟨⟨rfl,_⟩,e2,e3⟩:=e
 rw[show y=x from Prod.ext (VE e2) e3])
noncomputable def ZL(x:Nat×Kn):PV:=.tup [.int x.1,Vb x.2]
noncomputable def nrI(b:List Int)(ks:List Kn)(i:Nat):List (Nat×Kn)×List Kn:=(Zbm b i).foldl stS ([],ks)
theorem Zde(b:List Int)(ks:List Kn)(i:Nat):nrI b ks (i+1)=if 0<b.getD i 0 then stS (nrI b ks i) (b,(i:Int)) else nrI b ks i:=by
 unfold nrI
 rw[ZeP,ZuC]
 split<;>rfl
theorem ZhO(b:List Int)(ks:List Kn):∀i,(nrI b ks i).2.length<=ks.length+3000*i/\(nrI b ks i).1.length<=i
 |0=>⟨by simp[nrI,Zbm],by simp[nrI,Zbm]⟩
 |i+1=>by
  have ih:=ZhO b ks i
  have h:=ZjB (nrI b ks i) (b,(i:Int))
  rw[Zde]
  split<;>lia
noncomputable def ZmZ:Pm:=⟨List Int×List Kn,fun x=>[dnP none x.2,.lst (x.1.map PV.int)],fun x=>UW x.1/\(∀p,Jm x.1 p->(J9 (x.1,p) 3000).isSome=true)/\x.2.length<=800000,fun x=>.ok (.tup [.lst ((nrI x.1 x.2 x.1.length).1.map ZL),dnP none (nrI x.1 x.2 x.1.length).2])⟩
theorem ZrR(T:Txt K mg){f:Addr}{fd:FuncData}(F:Fun K "new_rounds" "new_rounds" Znk f fd):J8 P w K mg base CX0 10 f fd ["board", "seen"] (spM K 1 1 ZmZ.fnM):=by
 have ZsD:=Vc (P:=P) (w:=w) (base:=base) T.Zs4 Zso (fun F=>Zsf T F)
 refine F.okM (n:=1) (j:=1) Zpr rfl rfl (by decide) (fun cdv A outer s H E hr=>?_)
 have hu:=hr.units
 refine⟨_,_,⟨[.S,.O,.U,.U],[],[],.N⟩,rfl,rfl,(Zd (Z2 (i:=2) Zpr.nd rfl (by first|exact Or.inl rfl|exact Or.inr rfl) (VY Zh))
   (Zd (V0 PassesOwn.never rfl (JQ rfl T.z_range (Za (Zs (ZH (K:=K)) rfl T.z_len Jq (Za (pv 0) Zh)) Zh)) (Ji (i:=3) Zpr.nd rfl (by first|exact Or.inl rfl|exact Or.inr rfl)) (Zl (Jd (PW.pt (Zaj (Z0 Q8 (ZK (Zr (K:=K)) (pv 0) (pv 3) (fun _ _=>rfl)) Zj (Z3 _)) (Za6 (Zh9 (Zbq (hu4 hu) (ZN (Za (ZP (Vx (K:=K)) rfl T.z_tuple UE (Za (pv 0) Zh)) (Za (pv 3) Zh))) (pv 1)))))) (Zl (ZQ (Zcc PySem.F.plainAttrs_list PySem.F.slot_list_append PySem.F.type_list_append Vg (pv 2) (Za (ZN (Za (Zn ZsD (hr.mono (by decide)) rfl (Za (pv 0) (Za (pv 3) (Za (pv 1) Zh)))) (Za (ZN (Za (ZP (Je (K:=K)) rfl T.z_list J7 (Za (pv 0) Zh)) (Za (pv 3) Zh))) Zh))) Zh)))) ZB)))
   (Zl (Zx (pv 2))))),
   (Zm (Γm:=[.S,.O,.O,.U]) (Jb (i:=2) (Vu ZY) (by decide))
   (Zm (Γm:=[.S,.O,.O,.U]) (V2 (Γl:=[.S,.O,.O,.U]) (Ur (Zb (DE.toA (Jv (Zb (Zc (i:=0) (m:=.S) rfl (by decide)) Zg))) Zg)) rfl (ZfM (i:=3) (by decide))
   (DS.out (Y:=⟨[.S,.O,.O,.P],[.S,.O,.O,.U],[.S,.O,.O,.U],.N⟩) (Y':=⟨[.S,.O,.O,.U],[.S,.O,.O,.U],[.S,.O,.O,.U],.N⟩) (Jj (Zat (Zy (DE.toA (QO (Z7 (te:=tC .non) (Zc (i:=0) (m:=.S) rfl (by decide)) (DE.toA (Zk (i:=3) rfl))) (DE.toA Zi)))) (Zag (DE.toA (Zic (g:=(!·)) (ZT (Zb (Qj (Zb (Zc (i:=0) (m:=.S) rfl (by decide)) Zg)) (Zb (DE.toA (Zk (i:=3) rfl)) Zg))) (Zc (i:=1) (m:=.O) rfl (by decide))))))
   (ZiX (l:=2) rfl (by decide) (Zja (Zcz (i:=1) rfl (Ze (Ze Zo)) (VS (UL (l:=0) (md:=.S) rfl (by decide)) (VS (UL (l:=3) (md:=.P) rfl (by decide)) (ZaT Zc3)))) (Vt (Zp (JL (Zb (Zc (i:=0) (m:=.S) rfl (by decide)) Zg)) (Zp (DE.PF (Zk (i:=3) rfl)) ZY)))))
   ZC) rfl rfl rfl rfl))
   (VI (j:=1) (VJ (i:=2) rfl) rfl))), ?_⟩
 refine Pm.refM2 ZmZ ?_
 rintro⟨b,ks⟩ ⟨(hB:UW b),(hR:∀p,Jm b p->(J9 (b,p) 3000).isSome=true),(hl:ks.length<=800000)⟩ a b' xs e
 cases e
 simp only[ZmZ]
 have b0:=hB.lo
 have b1:=hB.hi
 walk_at "pd"
 simp only[ins,ZjK,dnP]
 walk_at "pd"
 generalize hw:Zas _ _ _=W
 obtain⟨ρ',rfl,v,rfl⟩:=Ja hw (fun i ρ=>∃v,ρ=[.lst (b.map PV.int),dnP (some a) (nrI b ks i).2,.lst ((nrI b ks i).1.map ZL),v]) ⟨_,rfl⟩ (by
  rintro i x ρ hx ⟨v,rfl⟩
  obtain⟨hi,rfl⟩:=JI hx
  have hle:=ZhO b ks i
  simp only[ZuL]
  rw[Zde]
  walk_at "pd"
  rw[show (i:Int).toNat=i from Zt6 i]
  by_cases hp:0<b.getD i 0
  ·rw[decide_eq_true hp,if_pos hp]
   walk_at "pd"
   rw[Ux]
   walk_at "pd"
   rw[Zf2 (b,(i:Int)),ZiD]
   by_cases c:((b,(i:Int)):Kn)∈(nrI b ks i).2
   ·rw[decide_eq_true c,show stS (nrI b ks i) (b,(i:Int))=nrI b ks i from if_pos c]
    walk_at "pd"
    exact Vd ⟨_,rfl⟩
   ·have hs:Jm b (i:Int):=⟨hB,by lia,by lia,by rw[Zt6];exact hp⟩
    rw[decide_eq_false c,show stS (nrI b ks i) (b,(i:Int))=_ from if_neg c]
    walk_at "pd"
    rw[ZaW (ZoK (x:=(b,(i:Int))) (ks:=(nrI b ks i).2) ⟨hs,hR _ hs,by lia⟩)]
    walk_at "pd"
    rw[ZaD (by rw[Ztp];lia)]
    walk_at "pd"
    refine Vd ⟨.int i, ?_⟩
    rw[ZtE]
    rfl
  ·rw[decide_eq_false hp,if_neg hp]
   walk_at "pd"
   exact Vd ⟨_,rfl⟩)
 walk_at "pd"
 rw[Jn,Zt6]
 unfold dnP
 rw[Za3]
 rfl
theorem Zow{b:List Int}{ks:List Kn}(h:UW b/\(∀p,Jm b p->(J9 (b,p) 3000).isSome=true)/\ks.length<=800000):ZmZ.fnM (dnP none ks) [.lst (b.map PV.int)]=.ok (.tup [.lst ((nrI b ks b.length).1.map ZL),dnP none (nrI b ks b.length).2]):=Pm.fn_eq ZmZ (b,ks) h (fun⟨y,ls⟩ e=>by
 simp only[ZmZ,dnP,List.cons.injEq,PV.box.injEq,Sh.dn.injEq,PV.lst.injEq,and_true,true_and] at e
 obtain⟨⟨rfl,_⟩,e2⟩:=e
 rw[VE e2])
noncomputable def alX(n s:Int):Option Str:=match szX n s with
 |some x=>some x
 |none=>if n*cbN n (s-1)<=3000 then none else some "TooMany"
noncomputable def bV(n:Nat)(s:Int)(k:Nat):PV:=if k<(cbN n s).toNat then .lst ((itB n s k).map PV.int) else .non
theorem Zjl{n:Nat}{s:Int}(F:Fw n s){k:Nat}(hk:k<(cbN n s).toNat):Zfs (itB n s k)=bV n s (k+1):=by
 obtain⟨B,e⟩:=VD F.lo F.s0 k (by lia)
 have hl:=Zdm (by have:=F.lo;lia) B
 unfold Zfs bV
 by_cases c:ZA (itB n s k)=0
 ·have:=hl.mp c
  rw[if_pos c,if_neg (by lia)]
 ·rw[if_neg c,if_pos (by
   apply Classical.byContradiction
   intro q
   exact c (hl.mpr (by lia)))]
  rfl
theorem Zhr{n:Nat}{s:Int}(F:Fw n s){b:List Int}(B:Bz n s b):UW b:=by
 have:=F.lo
 have:=F.hi
 exact⟨by have:=B.1;lia,by have:=B.1;lia,B.2.1,by rw[B.2.2];exact F.s1⟩
theorem Zgg{n:Nat}{s:Int}(F:Fw n s):Zjx n s 0=itB n s 0:=by
 obtain⟨B,e⟩:=VD F.lo F.s0 0 (by have:=ZfW (p:=n) F.s0;lia)
 have:=QW B.2.1 (by have:=B.1;have:=F.lo;lia)
 rw[B.1,B.2.2,e] at this
 exact this
noncomputable def Zna:Pm:=⟨Int×Int,fun a=>[.int a.1,.int a.2],fun _=>True,fun a=>orX (alX a.1 a.2) (.lst ((rnS a.1.toNat a.2).1.map ZL))⟩
theorem ZrS(T:Txt K mg){f:Addr}{fd:FuncData}(F:Fun K "all_rounds" "all_rounds" Znm f fd):J8 P w K mg base (CX1 P w) 11 f fd ["pits", "seeds"] (spF K 2 .F (W1 K) Zna.fn):=by
 have ZsQ:=Vc (P:=P) (w:=w) (base:=base) T.ZsL ZsC (fun F=>Zs3 T F)
 have Zrt:=ZgP (P:=P) (w:=w) (base:=base) T.Zrq Zrf (fun F=>ZqV T F)
 have Zsu:=Vc (P:=P) (w:=w) (base:=base) T.Zsk ZrW (fun F=>ZrQ T F)
 have Zsv:=Vc (P:=P) (w:=w) (base:=base) T.Zsl ZrX (fun F=>ZrR T F)
 obtain⟨C_TooMany,hC_TooMany,hQ_TooMany⟩:=Zaz T.x_exc (n := "TooMany") (by decide)
 refine F.okX ZnV rfl rfl (fun cdv A outer s H E hr=>?_)
 have hu:=hr.units
 refine⟨_,_,⟨[],[],[],.F⟩,rfl,(Zd (Jd (Z0 Q8 (U5 Zrt (hr.mono (by decide)) rfl Za9 (Za (pv 0) (Za (pv 1) Zh))) (JJ T.c_MOST_STANDINGS rfl) (Z3 _)) (Zl (ZcV Zfy hQ_TooMany rfl (T.x_mg _ _ hC_TooMany) rfl (Za JE Zh))) ZB)
   (Zd (Z2 (i:=2) ZnV.nd rfl (by first|exact Or.inl rfl|exact Or.inr rfl) (VY Zh))
   (Zd (Z2 (i:=3) ZnV.nd rfl (by first|exact Or.inl rfl|exact Or.inr rfl) ZcX)
   (Zd (Z2 (i:=4) ZnV.nd rfl (by first|exact Or.inl rfl|exact Or.inr rfl) (Zn ZsQ (hr.mono (by decide)) rfl (Za (pv 0) (Za (pv 1) (Za Zj Zh)))))
   (Zd (PS.nox (U1 PassesOwn.never (Z0 ZiA (pv 4) Zbn (Z3 _)) (Zd (ZQ (Zcc PySem.F.plainAttrs_list PySem.F.slot_list_extend PySem.F.type_list_extend Zft (pv 2) (Za (Zn Zsv (hr.mono (by decide)) rfl (Za (pv 4) (Za (pv 3) Zh))) Zh)))
   (Zl (Z2 (i:=4) ZnV.nd rfl (by first|exact Or.inl rfl|exact Or.inr rfl) (Zn Zsu (hr.mono (by decide)) rfl (Za (pv 4) Zh)))))))
   (Zl (Zx (pv 2)))))))),
   (Zm (Γm:=[.S,.S,.U,.U,.U]) (Jj (Zy (DE.toA (QO (DE.toA (ZkR (Ze (Ze Zo)) (Zb (Zc (i:=0) (m:=.S) rfl (by decide)) (Zb (Zc (i:=1) (m:=.S) rfl (by decide)) Zg)))) (DE.toA Zi))))
   (Zd2 hC_TooMany (Ze Zo) (by decide) (Zb (DE.toA JF) Zg))
   ZC)
   (Zm (Γm:=[.S,.S,.O,.U,.U]) (Jb (i:=2) (Vu ZY) (by decide))
   (Zm (Γm:=[.S,.S,.O,.O,.U]) (Jb (i:=3) Zd8 (by decide))
   (Zm (Γm:=[.S,.S,.O,.O,.O]) (Jb (i:=4) (ZlY (Ze (Ze (Ze Zo))) (Pm.calm_fn Zcd) (Zb (Zc (i:=0) (m:=.S) rfl (by decide)) (Zb (Zc (i:=1) (m:=.S) rfl (by decide)) (Zb (DE.toA Zi) Zg)))) (by decide))
   (Zm (Γm:=[.S,.S,.O,.O,.O]) (Qi (Γ:=[.S,.S,.O,.O,.O]) (Zy (DE.toA (Zjf (Zc (i:=4) (m:=.O) rfl (by decide)))))
   (Zm (Γm:=[.S,.S,.O,.O,.O]) (ZiU (l:=2) rfl (by decide) (Zcz (i:=3) rfl (Ze Zo) (VS (UL (l:=4) (md:=.O) rfl (by decide)) (ZaT Zc3))))
   (Jb (i:=4) (ZlY (Ze Zo) (Pm.calm_fn Za7) (Zb (Zc (i:=4) (m:=.O) rfl (by decide)) Zg)) (by decide))))
   (JV (VJ (i:=2) rfl))))))), ?_⟩
 refine Pm.ref Zna (g:=fun xs=>_) ?_
 rintro⟨n,s⟩ -
 simp only[Zna]
 walk_at "pd"
 rw[Znu]
 unfold alX
 by_cases h:(2<=n/\n<=24)/\0<=s/\s<=10^60
 ·rw[Uy.mpr h]
  walk_at "pd"
  by_cases hf:n*cbN n (s-1)<=3000
  ·rw[decide_eq_false (by lia),if_pos hf]
   obtain⟨⟨n0,n1⟩,s0,s1⟩:=h
   obtain⟨m,rfl⟩:∃m:Nat,n=m:=⟨n.toNat,by lia⟩
   have F:Fw m s:=⟨by lia,by lia,s0,s1,hf⟩
   have cp:=ZfW (p:=m) s0
   walk_at "pd"
   rw[Zpo ⟨⟨⟨n0,n1⟩,s0,s1⟩,ZtZ _,by lia⟩,Zgg F]
   walk_at "pd"
   rw[show PV.lst ((itB m s 0).map PV.int)=bV m s 0 from (if_pos (show 0<(cbN m s).toNat by lia)).symm]
   generalize hw:Js _ _ _=W
   obtain⟨ρ',rfl,rfl⟩:=Ub hw (cbN m s).toNat (fun k ρ=>ρ=[.int m,.int s,.lst ((rnI m s k).1.map ZL),dnP none (rnI m s k).2,bV m s k]) rfl (by
    rintro k ρ hk rfl
    obtain⟨B,e⟩:=VD F.lo F.s0 k (by lia)
    have bB:=Zhr F B
    have hb:bV m s k=.lst ((itB m s k).map PV.int):=if_pos hk
    have hle:=ZeE F (k:=k) (by lia)
    have hle2:=ZeE F (k:=k+1) (by lia)
    constructor
    ·rw[hb]
     walk_at "pd"
    ·rw[hb]
     walk_at "pd"
     rw[ZaW (Zow (b:=itB m s k) (ks:=(rnI m s k).2) ⟨bB,fun p hp=>by
      obtain⟨i,e⟩:=F.back (a:=(itB m s k,p)) ⟨B,hp.lo,by have:=hp.hi;have:=B.1;lia,hp.pos⟩
      rw[e];rfl,by lia⟩)]
     walk_at "pd"
     have er:=Zg5 m s k
     have e1:nrI (itB m s k) (rnI m s k).2 (itB m s k).length=(Zbm (itB m s k) m).foldl stS ([],(rnI m s k).2):=by unfold nrI;rw[B.1]
     rw[<- e1] at er
     rw[er] at hle2
     rw[Zt3] at hle2
     rw[Zi9 (by rw[Ztp,Ztp];lia)]
     walk_at "pd"
     rw[Zov bB,Zjl F hk]
     walk_at "pd"
     refine Vd ?_
     rw[er,ZtE]) (by
    rintro ρ rfl
    rw[show bV m s (cbN m s).toNat=.non from if_neg (by lia)]
    walk_at "pd")
   walk_at "pd"
   rfl
  ·rw[decide_eq_true (by lia),if_neg hf]
   walk_at "pd"
 ·rw[UX h]
  walk_at "pd"
theorem Zox{n s:Int}:Zna.fn [.int n,.int s]=orX (alX n s) (.lst ((rnS n.toNat s).1.map ZL)):=Pm.fn_eq Zna (n,s) trivial fun(a:Int×Int) e=>by (simp only[Zna,List.cons.injEq,PV.lst.injEq,PV.int.injEq,PV.str.injEq,PV.bl.injEq,PV.tup.injEq,ZI,and_true] at e ⊢;first|(simp only[e];done)|(subst e;rfl)|(rw[e]))
theorem Zgm(n s:Int):alX n s=none\/alX n s=(some "BadCount":Option Str)\/alX n s=(some "TooMany":Option Str):=by
 unfold alX
 by_cases h:(2<=n/\n<=24)/\0<=s/\s<=10^60
 ·rw[Uy.mpr h]
  by_cases c:n*cbN n (s-1)<=3000
  ·exact .inl (if_pos c)
  ·exact .inr (.inr (if_neg c))
 ·rw[UX h]
  exact .inr (.inl rfl)
noncomputable def tdV(n s:Int):PV:=match alX n s with
 |some x=>.str x
 |none=>.lst ((rnS n.toNat s).1.map ZL)
noncomputable def Znq:Pm:=⟨Int×Int,fun a=>[.int a.1,.int a.2],fun _=>True,fun a=>.ok (tdV a.1 a.2)⟩
theorem Zsh(T:Txt K mg){f:Addr}{fd:FuncData}(F:Fun K "_law_told" "_law_told" Zn0 f fd):J8 P w K mg base CX0 12 f fd ["pits", "seeds"] (spF K 2 .F W0 Znq.fn):=by
 have Zsw:=ZgP (P:=P) (w:=w) (base:=base) T.Zsm ZrY (fun F=>ZrS T F)
 obtain⟨C_SowError,hC_SowError,hQ_SowError⟩:=Zaz T.x_exc (n := "SowError") (by decide)
 obtain⟨I_TooMany,hI_TooMany,hT_TooMany⟩:=ZcG T.x_tab (c := "TooMany") (L:=UN) (by decide) (by decide)
 obtain⟨I_BadCount,hI_BadCount,hT_BadCount⟩:=ZcG T.x_tab (c := "BadCount") (L:=Uv) (by decide) (by decide)
 refine F.okP ZnM rfl rfl (fun cdv A outer s H E hr=>?_)
 have hu:=hr.units
 refine⟨_,_,⟨[],[],[],.F⟩,rfl,(Zd (Z2 (i:=2) ZnM.nd rfl (by first|exact Or.inl rfl|exact Or.inr rfl) Zbn)
   (Zd (Z2 (i:=3) ZnM.nd rfl (by first|exact Or.inl rfl|exact Or.inr rfl) Zbn)
   (Zd (ZjJ (fun xe pn E hx=>(Zl (Z2 (i:=3) ZnM.nd rfl (by first|exact Or.inl rfl|exact Or.inr rfl) (U5 Zsw (hr.mono (by decide)) rfl hx (Za (pv 0) (Za (pv 1) Zh)))))) (fun A=>(Zl (Z2 (i:=2) ZnM.nd rfl (by first|exact Or.inl rfl|exact Or.inr rfl) (pv 4)))) ZnM.nd rfl rfl rfl (T.x_mg _ _ hC_SowError) rfl rfl rfl)
   (Zd (Jd (Z0 ZjW (pv 2) Zbn (Z3 _)) (Zl (Zx (pv 3))) ZB)
   (Zd (Jd (PW.pt (Zaj (Jo (Zs (Qm (K:=K) hT_BadCount) rfl T.z_isinstance Z4 (Za (pv 2) (Za (Q0 (v:=.ref I_BadCount) rfl (T.x_mg _ _ hI_BadCount) rfl) Zh)))) (Zaj (Jt (Jo (Zs (Qm (K:=K) hT_TooMany) rfl T.z_isinstance Z4 (Za (pv 2) (Za (Q0 (v:=.ref I_TooMany) rfl (T.x_mg _ _ hI_TooMany) rfl) Zh))))) (Za6 (Z0 (JS (K:=K) hu) (Zbo (k:=1) (L:=XN) (ZhQ T) (hr.mono (by decide)) (pv 2)) JE (Z3 _)))))) (Zl (Zx JE)) ZB)
   (Zd (Jd (PW.pt (Zaj (Jo (Zs (Qm (K:=K) hT_TooMany) rfl T.z_isinstance Z4 (Za (pv 2) (Za (Q0 (v:=.ref I_TooMany) rfl (T.x_mg _ _ hI_TooMany) rfl) Zh)))) (Zaj (Jt (Jo (Zs (Qm (K:=K) hT_BadCount) rfl T.z_isinstance Z4 (Za (pv 2) (Za (Q0 (v:=.ref I_BadCount) rfl (T.x_mg _ _ hI_BadCount) rfl) Zh))))) (Za6 (Z0 (JS (K:=K) hu) (Zbo (k:=1) (L:=XN) (ZhQ T) (hr.mono (by decide)) (pv 2)) JE (Z3 _)))))) (Zl (Zx JE)) ZB)
   (Zl (Zx JE)))))))),
   (Zm (Γm:=[.S,.S,.P,.U,.U]) (Z9 (i:=2) ZfP (by decide))
   (Zm (Γm:=[.S,.S,.P,.P,.U]) (Z9 (i:=3) ZfP (by decide))
   (Zm (Γm:=[.S,.S,.P,.O,.U]) (Zkx (i:=4) (Γs:=[.S,.S,.P,.P,.U]) (Y:=⟨[.S,.S,.P,.O,.U],[],[],.F⟩) (Yh:=⟨[.S,.S,.P,.P,.P],[],[],.F⟩) (L:=["SowError", "BadBoard", "BadPit", "BadCount", "NoSeeds", "TooLong", "TooMany"]) (Zgr T.x_tab hC_SowError (by decide)) (fun E=>(Jb (i:=3) (Zmi (Ze (Ze Zo)) (Zb (Zc (i:=0) (m:=.S) rfl (by decide)) (Zb (Zc (i:=1) (m:=.S) rfl (by decide)) Zg))) (by decide))) (fun E D σ H h=>h) (show DS K _ [.S,.S,.P,.P,.P] _ _ _ from (Z9 (i:=2) (Zk (i:=4) rfl) (by decide))) rfl rfl (by decide) rfl rfl rfl rfl)
   (Zm (Γm:=[.S,.S,.P,.O,.U]) (Jj (Zy (DE.toA (Zk6 (DE.toA (Zk (i:=2) rfl)))))
   (JV (VJ (i:=3) rfl))
   ZC)
   (Zm (Γm:=[.S,.S,.P,.O,.U]) (Jj (Zat (Zag (DE.toA (Zd7 (DE.toA (Zk (i:=2) rfl))))) (Zat (Jz (Zag (DE.toA (Zd7 (DE.toA (Zk (i:=2) rfl)))))) (Zy (DE.toA (Jc (g:=id) (DE.toA (ZbB (DE.toA (Zk (i:=2) rfl)))) (DE.toA JF))))))
   (JV (DE.PF JF))
   ZC)
   (Zm (Γm:=[.S,.S,.P,.O,.U]) (Jj (Zat (Zag (DE.toA (Zd7 (DE.toA (Zk (i:=2) rfl))))) (Zat (Jz (Zag (DE.toA (Zd7 (DE.toA (Zk (i:=2) rfl)))))) (Zy (DE.toA (Jc (g:=id) (DE.toA (ZbB (DE.toA (Zk (i:=2) rfl)))) (DE.toA JF))))))
   (JV (DE.PF JF))
   ZC)
   (JV (DE.PF JF)))))))), ?_⟩
 refine Pm.ref Znq (g:=fun xs=>_) ?_
 rintro⟨n,s⟩ -
 simp only[Znq]
 walk_at "pd"
 rw[Zox]
 unfold tdV
 rcases Zgm n s with h|h|h
 ·rw[h]
  walk_at "pd"
 ·rw[h]
  walk_at "pd"
 ·rw[h]
  walk_at "pd"
theorem Zon{n s:Int}:Znq.fn [.int n,.int s]=.ok (tdV n s):=Pm.fn_eq Znq (n,s) trivial fun(a:Int×Int) e=>by (simp only[Znq,List.cons.injEq,PV.lst.injEq,PV.int.injEq,PV.str.injEq,PV.bl.injEq,PV.tup.injEq,ZI,and_true] at e ⊢;first|(simp only[e];done)|(subst e;rfl)|(rw[e]))
noncomputable def lcI(p s:Int)(i:Nat):Int:=p*cbI (s-1) i
noncomputable def lcN(p s:Int):Int:=p*cbN p (s-1)
theorem ZiK{p s:Int}(hs:1<=s)(i:Nat):lcI p s i*(s-1+(1+(i:Int)))/(1+(i:Int))=lcI p s (i+1):=by
 unfold lcI
 obtain⟨t,e⟩:∃t:Nat,s-1=t:=⟨(s-1).toNat,by lia⟩
 rw[e,ZdG,ZdG]
 have h:=(Zif (t+i) t i rfl).1
 have h2:p*((bN t i:Nat):Int)*((t:Int)+(1+(i:Int)))=(p*((bN t (i+1):Nat):Int))*(1+(i:Int)):=by
  have h3:((i:Int)+1)*((bN t (i+1):Nat):Int)=((t:Int)+i+1)*((bN t i:Nat):Int):=by exact_mod_cast h
  rw[Int.mul_assoc,Int.mul_assoc,show ((bN t (i+1):Nat):Int)*(1+(i:Int))=((i:Int)+1)*((bN t (i+1):Nat):Int) by rw[ZuA,ZuJ],h3,ZuA ((bN t i:Nat):Int),show (t:Int)+(1+(i:Int))=(t:Int)+i+1 by lia]
 rw[h2,Int.mul_ediv_cancel _ (by lia)]
theorem ZgT{p s:Int}(hp:2<=p/\p<=24)(h0:0<=s-1)(h1:s<=10^60){k:Nat}(hk:k<=23):(lcI p s k).natAbs<2^60000:=by
 unfold lcI
 have h2:=ZfX (s:=s-1) h0 (by lia) k (by lia)
 have h3:=ZdF (s:=s-1) h0 k
 refine Zcb (k:=k+1) (Int.mul_nonneg (by lia) h3) ?_ (by lia)
 rw[Int.pow_succ,ZuA ((10^61:Int)^k)]
 exact Int.mul_le_mul (by lia) h2 h3 (by decide)
noncomputable def Znc:Pm:=⟨Int×Int,fun a=>[.int a.1,.int a.2],fun a=>(2<=a.1/\a.1<=24)/\0<=a.2/\a.2<=10^60,fun a=>.ok (.int (lcN a.1 a.2))⟩
theorem Zq9(T:Txt K mg){f:Addr}{fd:FuncData}(F:Fun K "_law_count" "_law_count" Zno f fd):J8 P w K mg base CX0 1 f fd ["pits", "seeds"] (spF K 2 .P W0 Znc.fn):=by
 refine F.okP ZoD rfl rfl (fun cdv A outer s H E hr=>?_)
 have hu:=hr.units
 refine⟨_,_,⟨[],[],[],.P⟩,rfl,(Zd (Jd (Z0 (JS (K:=K) hu) (pv 1) Zj (Z3 _)) (Zl (Zx Zj)) ZB)
   (Zd (Z2 (i:=2) ZoD.nd rfl (by first|exact Or.inl rfl|exact Or.inr rfl) (pv 0))
   (Zd (V0 PassesOwn.never rfl (Qy rfl T.z_range (Za Zj (Za (pv 0) Zh))) (Ji (i:=3) ZoD.nd rfl (by first|exact Or.inl rfl|exact Or.inr rfl)) (Zl (Z2 (i:=2) ZoD.nd rfl (by first|exact Or.inl rfl|exact Or.inr rfl) (Z8 Vp (Z8 Ug (pv 2) (Z8 Ju (Z8 V9 (pv 1) Zj) (pv 3))) (pv 3)))))
   (Zl (Zx (pv 2)))))),
   (Zm (Γm:=[.S,.S,.U,.U]) (Jj (Zy (DE.toA (Jc (g:=id) (Zc (i:=1) (m:=.S) rfl (by decide)) (DE.toA Zi))))
   (Zz Zi)
   ZC)
   (Zm (Γm:=[.S,.S,.P,.U]) (Z9 (i:=2) (DE.grd (Zc (i:=0) (m:=.S) rfl (by decide))) (by decide))
   (Zm (Γm:=[.S,.S,.P,.U]) (V2 (Γl:=[.S,.S,.P,.U]) (Zc0 (Zb (DE.toA Zi) (Zb (Zc (i:=0) (m:=.S) rfl (by decide)) Zg))) rfl (ZfM (i:=3) (by decide))
   (DS.out (Y:=⟨[.S,.S,.P,.P],[.S,.S,.P,.U],[.S,.S,.P,.U],.P⟩) (Y':=⟨[.S,.S,.P,.U],[.S,.S,.P,.U],[.S,.S,.P,.U],.P⟩) (Z9 (i:=2) (QP (DE.toA (QN (DE.toA (Zk (i:=2) rfl)) (DE.toA (Jw (DE.toA (VL (Zc (i:=1) (m:=.S) rfl (by decide)) (DE.toA Zi))) (DE.toA (Zk (i:=3) rfl)))))) (DE.toA (Zk (i:=3) rfl))) (by decide)) rfl rfl rfl rfl))
   (Zz (Zk (i:=2) rfl))))), ?_⟩
 refine Pm.ref Znc (g:=fun xs=>_) ?_
 rintro⟨p,s⟩ ⟨(hp:2<=p/\p<=24),(s0:0<=s),(s1:s<=10^60)⟩
 simp only[Znc]
 walk_at "pd"
 by_cases hz:s=0
 ·subst hz
  walk_at "pd"
  unfold lcN
  rw[Vw (by lia),Int.mul_zero]
 ·rw[decide_eq_false hz]
  walk_at "pd"
  generalize hw:Zas _ _ _=W
  obtain⟨ρ',rfl,v,rfl⟩:=Ja hw (fun i ρ=>∃v,ρ=[.int p,.int s,.int (lcI p s i),v]) ⟨.non,by unfold lcI;simp[cbI]⟩ (by
   rintro i x ρ hx ⟨v,rfl⟩
   obtain⟨hi,rfl⟩:=JI hx
   walk_at "pu"
   rw[ZaB ⟨ZgT hp (by lia) s1 (by lia),ZtL (show (s-1+(1+(i:Int))).natAbs<=10^61 by lia) ZkC⟩]
   walk_at "pd"
   exact Vd ⟨.int (1+(i:Int)),by rw[ZiK (by lia)]⟩)
  walk_at "pd"
  rw[Jn]
  unfold lcN lcI cbN
  rw[if_neg (by lia)]
theorem ZnA{p s:Int}(h:(2<=p/\p<=24)/\0<=s/\s<=10^60):Znc.fn [.int p,.int s]=.ok (.int (lcN p s)):=Pm.fn_eq Znc (p,s) h fun(a:Int×Int) e=>by (simp only[Znc,List.cons.injEq,PV.lst.injEq,PV.int.injEq,PV.str.injEq,PV.bl.injEq,PV.tup.injEq,ZI,and_true] at e ⊢;first|(simp only[e];done)|(subst e;rfl)|(rw[e]))
noncomputable def Zns:Pm:=⟨List Int×Int,fun a=>[.lst (a.1.map PV.int),.int a.2],fun a=>0<=a.2/\a.2<a.1.length/\a.1.length<=1000,fun a=>.ok (ZdX (Jk a))⟩
theorem Zsj(T:Txt K mg){f:Addr}{fd:FuncData}(F:Fun K "_law_sown" "_law_sown" Zn2 f fd):J8 P w K mg base CX0 1 f fd ["board", "pit"] (spF K 2 .F W0 Zns.fn):=by
 refine F.okP ZnN rfl rfl (fun cdv A outer s H E hr=>?_)
 have hu:=hr.units
 refine⟨_,_,⟨[],[],[],.F⟩,rfl,(Zd (Z2 (i:=2) ZnN.nd rfl (by first|exact Or.inl rfl|exact Or.inr rfl) (Zs (ZH (K:=K)) rfl T.z_len Jq (Za (pv 0) Zh)))
   (Zd (Z2 (i:=3) ZnN.nd rfl (by first|exact Or.inl rfl|exact Or.inr rfl) (ZK (Zr (K:=K)) (pv 0) (pv 1) (fun _ _=>rfl)))
   (Zd (Z2 (i:=4) ZnN.nd rfl (by first|exact Or.inl rfl|exact Or.inr rfl) (ZP (Je (K:=K)) rfl T.z_list J7 (Za (pv 0) Zh)))
   (Zd (U3 Zj (Qz (pv 4) (pv 1) JH))
   (Zd (V0 PassesOwn.never rfl (JQ rfl T.z_range (Za (pv 2) Zh)) (Ji (i:=5) ZnN.nd rfl (by first|exact Or.inl rfl|exact Or.inr rfl)) (Zd (Z2 (i:=6) ZnN.nd rfl (by first|exact Or.inl rfl|exact Or.inr rfl) (Z8 Jy (Z8 Ju (Z8 Ju (pv 1) Zj) (pv 5)) (pv 2)))
   (Zl (U3 (Z8 Ju (Z8 Ju (ZK (Zr (K:=K)) (pv 4) (pv 6) (fun _ _=>rfl)) (Z8 Vp (pv 3) (pv 2))) (ZP Zgb rfl T.z_int Zge (Za (JR Zac (pv 5) (Z8 Jy (pv 3) (pv 2)) (Z3 _)) Zh))) (Qz (pv 4) (pv 6) JH)))))
   (Zl (Zx (ZN (Za (pv 4) (Za (Z8 Jy (Z8 Ju (pv 1) (pv 3)) (pv 2)) Zh)))))))))),
   (Zm (Γm:=[.S,.S,.P,.U,.U,.U,.U]) (Z9 (i:=2) (Jv (Zb (Zc (i:=0) (m:=.S) rfl (by decide)) Zg)) (by decide))
   (Zm (Γm:=[.S,.S,.P,.P,.U,.U,.U]) (Z9 (i:=3) (DE.grd (Z7 (te:=tC .non) (Zc (i:=0) (m:=.S) rfl (by decide)) (Zc (i:=1) (m:=.S) rfl (by decide)))) (by decide))
   (Zm (Γm:=[.S,.S,.P,.P,.O,.U,.U]) (Jb (i:=4) (JL (Zb (Zc (i:=0) (m:=.S) rfl (by decide)) Zg)) (by decide))
   (Zm (Γm:=[.S,.S,.P,.P,.O,.U,.U]) (JU (i:=4) rfl Zi (Zc (i:=1) (m:=.S) rfl (by decide)))
   (Zm (Γm:=[.S,.S,.P,.P,.O,.U,.U]) (V2 (Γl:=[.S,.S,.P,.P,.O,.U,.U]) (Ur (Zb (DE.toA (Zk (i:=2) rfl)) Zg)) rfl (ZfM (i:=5) (by decide))
   (DS.out (Y:=⟨[.S,.S,.P,.P,.O,.P,.P],[.S,.S,.P,.P,.O,.U,.U],[.S,.S,.P,.P,.O,.U,.U],.F⟩) (Y':=⟨[.S,.S,.P,.P,.O,.U,.U],[.S,.S,.P,.P,.O,.U,.U],[.S,.S,.P,.P,.O,.U,.U],.F⟩) (Zm (Γm:=[.S,.S,.P,.P,.O,.P,.P]) (Z9 (i:=6) (J0 (DE.toA (Jw (DE.toA (Jw (Zc (i:=1) (m:=.S) rfl (by decide)) (DE.toA Zi))) (DE.toA (Zk (i:=5) rfl)))) (DE.toA (Zk (i:=2) rfl))) (by decide))
   (JU (i:=4) rfl (Jw (DE.toA (Jw (Z7 (te:=tC .non) (Zc (i:=4) (m:=.O) rfl (by decide)) (DE.toA (Zk (i:=6) rfl))) (DE.toA (QP (DE.toA (Zk (i:=3) rfl)) (DE.toA (Zk (i:=2) rfl)))))) (DE.toA (Zhh (Zb (DE.toA (ZaR (DE.toA (Zk (i:=5) rfl)) (DE.toA (J0 (DE.toA (Zk (i:=3) rfl)) (DE.toA (Zk (i:=2) rfl)))))) Zg)))) (DE.toA (Zk (i:=6) rfl)))) rfl rfl rfl rfl))
   (JV (Vt (Zp (VJ (i:=4) rfl) (Zp (DE.PF (J0 (DE.toA (Jw (Zc (i:=1) (m:=.S) rfl (by decide)) (DE.toA (Zk (i:=3) rfl)))) (DE.toA (Zk (i:=2) rfl)))) ZY))))))))), ?_⟩
 refine Pm.ref Zns (g:=fun xs=>_) ?_
 rintro⟨bs,p⟩ ⟨h0,h1,h2⟩
 simp only at h0 h1 h2
 simp only[Zns]
 walk_at "pd"
 rw[ZiH h0 h1]
 generalize hw:Zas _ _ _=W
 obtain⟨ρ',rfl,v,u,rfl⟩:=Ja hw (fun i ρ=>∃v u,ρ=[.lst (bs.map PV.int),.int p,.int bs.length,.int (bs.getD p.toNat 0),.lst ((tab bs.length (lsF bs p i)).map PV.int),v,u]) ⟨_,_,rfl⟩ (by
  rintro i x ρ hx ⟨v,u,rfl⟩
  obtain⟨hi,rfl⟩:=JI hx
  rw[ZuL]
  have hn:(0:Int)<bs.length:=by lia
  have hlen:(tab bs.length (lsF bs p i)).length=bs.length:=ZR _ _
  have y0:=Zt4 (p+1+i) (show (bs.length:Int)≠0 by lia)
  have y1:=Zty (p+1+i) hn
  have hst:=ZiJ (bs:=bs) (p:=p) h0 h1 (i:=i) (by lia)
  walk_at "pd"
  rw[V4 (by lia)]
  by_cases c:(i:Int)<bs.getD p.toNat 0%bs.length
  ·rw[if_pos c] at hst
   rw[decide_eq_true c,show ZjS [PV.bl true]=.ok (.int 1) from rfl]
   walk_at "pd"
   rw[hst]
   exact Vd ⟨_,_,rfl⟩
  ·rw[if_neg c] at hst
   rw[decide_eq_false c,show ZjS [PV.bl false]=.ok (.int 0) from rfl]
   walk_at "pd"
   rw[hst]
   exact Vd ⟨_,_,rfl⟩)
 walk_at "pd"
 rw[Jn,show (bs.length:Int).toNat=bs.length by lia,Zka h0 h1,ZjY]
 rfl
theorem ZoN{bs:List Int}{p:Int}(h:0<=p/\p<bs.length/\bs.length<=1000):Zns.fn [.lst (bs.map PV.int),.int p]=.ok (ZdX (Jk (bs,p))):=Pm.fn_eq Zns (bs,p) h fun(a:List Int×Int) e=>by
 simp only[Zns,List.cons.injEq,PV.lst.injEq,PV.int.injEq,ZI,and_true] at e ⊢
 rw[show a=(bs,p) from Prod.ext e.1 e.2]
noncomputable def Zm7:Pm:=⟨List Int,fun a=>[.lst (a.map PV.int),.lst (a.map PV.int)],fun a=>a.length<=1000,fun _=>.ok (.bl true)⟩
theorem ZqA(T:Txt K mg){f:Addr}{fd:FuncData}(F:Fun K "_law_board_same" "_law_board_same" Zm5 f fd):J8 P w K mg base CX0 1 f fd ["found", "due"] (spF K 2 .P W0 Zm7.fn):=by
 refine F.okP ZoQ rfl rfl (fun cdv A outer s H E hr=>?_)
 have hu:=hr.units
 refine⟨_,_,⟨[],[],[],.P⟩,rfl,(Zd (Jd (PW.pt (V7 (Jt (Jo (Zs (Jl (K:=K) (n := "list") rfl) rfl T.z_isinstance Z4 (Za (pv 0) (Za (Va (v:=.ty "list") rfl T.z_list J7 rfl) Zh))))) (VX (Z0 (UP (K:=K) hu) (Zs (ZH (K:=K)) rfl T.z_len Jq (Za (pv 0) Zh)) (Zs (ZH (K:=K)) rfl T.z_len Jq (Za (pv 1) Zh)) (Z3 _))))) (Zl (Zx V8)) ZB)
   (Zd (V0 PassesOwn.never rfl (JQ rfl T.z_range (Za (Zs (ZH (K:=K)) rfl T.z_len Jq (Za (pv 1) Zh)) Zh)) (Ji (i:=2) ZoQ.nd rfl (by first|exact Or.inl rfl|exact Or.inr rfl)) (Zl (Jd (PW.pt (V7 (Jt (Jo (Zs (Jl (K:=K) (n := "int") rfl) rfl T.z_isinstance Z4 (Za (ZK (Zr (K:=K)) (pv 0) (pv 2) (fun _ _=>rfl)) (Za (Va (v:=.ty "int") rfl T.z_int Zge rfl) Zh))))) (V7 (Jo (Zs (Jl (K:=K) (n := "bool") rfl) rfl T.z_isinstance Z4 (Za (ZK (Zr (K:=K)) (pv 0) (pv 2) (fun _ _=>rfl)) (Za (Va (v:=.ty "bool") rfl T.z_bool Zgf rfl) Zh)))) (VX (Z0 (UP (K:=K) hu) (ZK (Zr (K:=K)) (pv 0) (pv 2) (fun _ _=>rfl)) (ZK (Zr (K:=K)) (pv 1) (pv 2) (fun _ _=>rfl)) (Z3 _)))))) (Zl (Zx V8)) ZB)))
   (Zl (Zx V8)))),
   (Zm (Γm:=[.S,.S,.U]) (Jj (VH (Jz (Zag (DE.toA (VZ (Zc (i:=0) (m:=.S) rfl (by decide)))))) (Zy (DE.toA (Jc (g:=(!·)) (DE.toA (Jv (Zb (Zc (i:=0) (m:=.S) rfl (by decide)) Zg))) (DE.toA (Jv (Zb (Zc (i:=1) (m:=.S) rfl (by decide)) Zg)))))))
   (Zz Us)
   ZC)
   (Zm (Γm:=[.S,.S,.U]) (V2 (Γl:=[.S,.S,.U]) (Ur (Zb (DE.toA (Jv (Zb (Zc (i:=1) (m:=.S) rfl (by decide)) Zg))) Zg)) rfl (ZfM (i:=2) (by decide))
   (DS.out (Y:=⟨[.S,.S,.P],[.S,.S,.U],[.S,.S,.U],.P⟩) (Y':=⟨[.S,.S,.U],[.S,.S,.U],[.S,.S,.U],.P⟩) (Jj (VH (Jz (Zag (DE.toA (VZ (Z7 (te:=tC .non) (Zc (i:=0) (m:=.S) rfl (by decide)) (DE.toA (Zk (i:=2) rfl))))))) (VH (Zag (DE.toA (VZ (Z7 (te:=tC .non) (Zc (i:=0) (m:=.S) rfl (by decide)) (DE.toA (Zk (i:=2) rfl)))))) (Zy (DE.toA (Jc (g:=(!·)) (Z7 (te:=tC .non) (Zc (i:=0) (m:=.S) rfl (by decide)) (DE.toA (Zk (i:=2) rfl))) (Z7 (te:=tC .non) (Zc (i:=1) (m:=.S) rfl (by decide)) (DE.toA (Zk (i:=2) rfl))))))))
   (Zz Us)
   ZC) rfl rfl rfl rfl))
   (Zz Us))), ?_⟩
 refine Pm.ref Zm7 (g:=fun xs=>_) ?_
 rintro(l:List Int) (hl:l.length<=1000)
 simp only[Zm7]
 walk_at "pd"
 generalize hw:Zas _ _ _=W
 obtain⟨ρ',rfl,v,rfl⟩:=Ja hw (fun i ρ=>∃v,ρ=[.lst (l.map PV.int),.lst (l.map PV.int),v]) ⟨_,rfl⟩ (by
  rintro i x ρ hx ⟨v,rfl⟩
  obtain⟨hi,rfl⟩:=JI hx
  walk_at "pd"
  exact Vd ⟨_,rfl⟩)
 walk_at "pd"
theorem ZmU{l:List Int}(h:l.length<=1000):Zm7.fn [.lst (l.map PV.int),.lst (l.map PV.int)]=.ok (.bl true):=Pm.fn_eq Zm7 l h fun _ _=>rfl
theorem ZhT{ns ms:List Int}{i j:Int}:Zi7 (.tup [.lst (ns.map PV.int),.int i]) (.tup [.lst (ms.map PV.int),.int j])=.ok (.bl (HL.Jg (ns,i) (ms,j))):=by simp only[Zi7,Zei]
noncomputable def Zmw:Pm:=⟨(Nat×Int)×List Kn×(Nat×Kn),fun x=>[dnP none x.2.1,ZL x.2.2,.int x.1.1,.int x.1.2],fun x=>Fw x.1.1 x.1.2/\Rk x.1.1 x.1.2 x.2.1 x.2.2,fun x=>.ok (.tup [.bl true,dnP none (x.2.1++Jh x.2.2.2 x.2.2.1)])⟩
theorem Zqv(T:Txt K mg){f:Addr}{fd:FuncData}(F:Fun K "_law_round_right" "_law_round_right" Zmy f fd):J8 P w K mg base CX0 2 f fd ["pair", "pits", "seeds", "met"] (spM K 3 3 Zmw.fnM):=by
 have ZsG:=Vc (P:=P) (w:=w) (base:=base) T.Zs8 Zss (fun F=>Zsj T F)
 have Zpp:=Vc (P:=P) (w:=w) (base:=base) T.Zre ZqI (fun F=>ZqA T F)
 refine F.okM (n:=3) (j:=3) Zm2 rfl rfl (by decide) (fun cdv A outer s H E hr=>?_)
 have hu:=hr.units
 refine⟨_,_,⟨[.S,.S,.S,.O,.U,.U,.U,.U],[],[],.N⟩,rfl,rfl,(Zd (Jd (PW.pt (V7 (Jt (Jo (Zs (Jl (K:=K) (n := "tuple") rfl) rfl T.z_isinstance Z4 (Za (pv 0) (Za (Va (v:=.ty "tuple") rfl T.z_tuple ZdH rfl) Zh))))) (V7 (Z0 (UP (K:=K) hu) (Zs (ZH (K:=K)) rfl T.z_len Jq (Za (pv 0) Zh)) Zj (Z3 _)) (V7 (Jt (Jo (Zs (Jl (K:=K) (n := "tuple") rfl) rfl T.z_isinstance Z4 (Za (ZK (Zr (K:=K)) (pv 0) Zj (fun _ _=>rfl)) (Za (Va (v:=.ty "tuple") rfl T.z_tuple ZdH rfl) Zh))))) (VX (Z0 (UP (K:=K) hu) (Zs (ZH (K:=K)) rfl T.z_len Jq (Za (ZK (Zr (K:=K)) (pv 0) Zj (fun _ _=>rfl)) Zh)) Zj (Z3 _))))))) (Zl (Zx V8)) ZB)
   (Zd (U3 (ZK (Zr (K:=K)) (pv 0) Zj (fun _ _=>rfl)) (ZhB rfl (Qa (Ji (i:=4) Zm2.nd rfl (by first|exact Or.inl rfl|exact Or.inr rfl)) (Qa (Ji (i:=5) Zm2.nd rfl (by first|exact Or.inl rfl|exact Or.inr rfl)) ZeR))))
   (Zd (Jd (PW.pt (V7 (Jt (Jo (Zs (Jl (K:=K) (n := "list") rfl) rfl T.z_isinstance Z4 (Za (pv 4) (Za (Va (v:=.ty "list") rfl T.z_list J7 rfl) Zh))))) (VX (Jt (Jo (Zn Zpp (hr.mono (by decide)) rfl (Za (pv 4) (Za (ZP (Je (K:=K)) rfl T.z_list J7 (Za (pv 4) Zh)) Zh)))))))) (Zl (Zx V8)) ZB)
   (Zd (Jd (PW.pt (V7 (Z0 (UP (K:=K) hu) (Zs (ZH (K:=K)) rfl T.z_len Jq (Za (pv 4) Zh)) (pv 1) (Z3 _)) (V7 (Z0 (UP (K:=K) hu) (Zs (QU (K:=K) rfl) rfl T.z_sum Zgk (Za (pv 4) Zh)) (pv 2) (Z3 _)) (VX (Z0 Zac (Zs (Zeq (K:=K) rfl) rfl T.z_min ZkD (Za (pv 4) Zh)) Zj (Z3 _)))))) (Zl (Zx V8)) ZB)
   (Zd (Jd (PW.pt (V7 (Jt (Jo (Zn Zpp (hr.mono (by decide)) rfl (Za (VY (Za (ZK (Zr (K:=K)) (pv 0) Zj (fun _ _=>rfl)) (Za (pv 5) Zh))) (Za (VY (Za (ZK (Zr (K:=K)) (pv 0) Zj (fun _ _=>rfl)) (Za (pv 5) Zh))) Zh))))) (V7 (Jt (Zg6 ZjV Zac Zj (pv 5) (pv 1) (by rfl))) (VX (Z0 (JS (K:=K) hu) (ZK (Zr (K:=K)) (pv 4) (pv 5) (fun _ _=>rfl)) Zj (Z3 _)))))) (Zl (Zx V8)) ZB)
   (Zd (Z2 (i:=6) Zm2.nd rfl (by first|exact Or.inl rfl|exact Or.inr rfl) Zj)
   (Zd (Z2 (i:=7) Zm2.nd rfl (by first|exact Or.inl rfl|exact Or.inr rfl) (ZN (Za (ZP (Je (K:=K)) rfl T.z_list J7 (Za (pv 4) Zh)) (Za (pv 5) Zh))))
   (Zd (U1 PassesOwn.never (Zh9 (Zbq (hu4 hu) (ZN (Za (ZP (Vx (K:=K)) rfl T.z_tuple UE (Za (ZK (Zr (K:=K)) (pv 7) Zj (fun _ _=>rfl)) Zh)) (Za (ZK (Zr (K:=K)) (pv 7) Zj (fun _ _=>rfl)) Zh))) (pv 3))) (Zd (Jd (Z0 (ZhN (K:=K) hu) (pv 7) (ZN (Za (ZP (Je (K:=K)) rfl T.z_list J7 (Za (pv 4) Zh)) (Za (pv 5) Zh))) (Z3 _)) (Zl (Zx V8)) ZB)
   (Zd (ZeM (hu4 hu) (pv 3) (ZN (Za (ZP (Vx (K:=K)) rfl T.z_tuple UE (Za (ZK (Zr (K:=K)) (pv 7) Zj (fun _ _=>rfl)) Zh)) (Za (ZK (Zr (K:=K)) (pv 7) Zj (fun _ _=>rfl)) Zh))) V8 rfl)
   (Zd (Z2 (i:=6) Zm2.nd rfl (by first|exact Or.inl rfl|exact Or.inr rfl) (Z8 Ju (pv 6) Zj))
   (Zl (Z2 (i:=7) Zm2.nd rfl (by first|exact Or.inl rfl|exact Or.inr rfl) (Zn ZsG (hr.mono (by decide)) rfl (Za (ZK (Zr (K:=K)) (pv 7) Zj (fun _ _=>rfl)) (Za (ZK (Zr (K:=K)) (pv 7) Zj (fun _ _=>rfl)) Zh)))))))))
   (Zl (Zx (Zbp (JR (JS (K:=K) hu) (pv 6) (ZK (Zr (K:=K)) (pv 0) Zj (fun _ _=>rfl)) (Z3 _)) (Zak (JR (JS (K:=K) hu) (pv 7) (ZN (Za (ZP (Je (K:=K)) rfl T.z_list J7 (Za (pv 4) Zh)) (Za (pv 5) Zh))) (Z3 _)))))))))))))),
   (Zm (Γm:=[.S,.S,.S,.O,.U,.U,.U,.U]) (Jj (VH (Jz (Zag (DE.toA (VZ (Zc (i:=0) (m:=.S) rfl (by decide)))))) (VH (Zy (DE.toA (Jc (g:=(!·)) (DE.toA (Jv (Zb (Zc (i:=0) (m:=.S) rfl (by decide)) Zg))) (DE.toA Zi)))) (VH (Jz (Zag (DE.toA (VZ (Z7 (te:=tC .non) (Zc (i:=0) (m:=.S) rfl (by decide)) (DE.toA Zi)))))) (Zy (DE.toA (Jc (g:=(!·)) (DE.toA (Jv (Zb (Z7 (te:=tC .non) (Zc (i:=0) (m:=.S) rfl (by decide)) (DE.toA Zi)) Zg))) (DE.toA Zi)))))))
   (VI (j:=3) (DE.PF Us) rfl)
   ZC)
   (Zm (Γm:=[.S,.S,.S,.O,.S,.P,.U,.U]) (ZiV (Zk5 (te:=tC .non) (ZaQ (i:=0) rfl) (DE.toA Zi)) (Zk1 (n:=2) (Zd5 (Zl3 (i:=4) (by decide)) (Zd5 (ZfM (i:=5) (by decide)) Zjc))))
   (Zm (Γm:=[.S,.S,.S,.O,.S,.P,.U,.U]) (Jj (VH (Jz (Zag (DE.toA (VZ (Zc (i:=4) (m:=.S) rfl (by decide)))))) (Jz (Zag (DE.toA (VR (Ze (Ze Zo)) (Zb (Zc (i:=4) (m:=.S) rfl (by decide)) (Zb (DE.toA (JL (Zb (Zc (i:=4) (m:=.S) rfl (by decide)) Zg))) Zg)))))))
   (VI (j:=3) (DE.PF Us) rfl)
   ZC)
   (Zm (Γm:=[.S,.S,.S,.O,.S,.P,.U,.U]) (Jj (VH (Zy (DE.toA (Jc (g:=(!·)) (DE.toA (Jv (Zb (Zc (i:=4) (m:=.S) rfl (by decide)) Zg))) (Zc (i:=1) (m:=.S) rfl (by decide))))) (VH (Zy (DE.toA (Jc (g:=(!·)) (DE.toA (ZfO (Zb (Zc (i:=4) (m:=.S) rfl (by decide)) Zg))) (Zc (i:=2) (m:=.S) rfl (by decide))))) (Zy (DE.toA (ZaR (DE.toA (Zk4 (Zb (Zc (i:=4) (m:=.S) rfl (by decide)) Zg))) (DE.toA Zi))))))
   (VI (j:=3) (DE.PF Us) rfl)
   ZC)
   (Zm (Γm:=[.S,.S,.S,.O,.S,.P,.U,.U]) (Jj (VH (Jz (Zag (DE.toA (VR (Ze (Ze Zo)) (Zb (DE.toA (Vu (Zp (DE.PF (DE.grd (Z7 (te:=tC .non) (Zc (i:=0) (m:=.S) rfl (by decide)) (DE.toA Zi)))) (Zp (DE.PF (Zk (i:=5) rfl)) ZY)))) (Zb (DE.toA (Vu (Zp (DE.PF (DE.grd (Z7 (te:=tC .non) (Zc (i:=0) (m:=.S) rfl (by decide)) (DE.toA Zi)))) (Zp (DE.PF (Zk (i:=5) rfl)) ZY)))) Zg)))))) (VH (Jz (Zy (DE.toA (Zhl (p:=fun i j=>decide (i<=j)) (q:=fun i j=>decide (i<j)) (DE.toA Zi) (DE.toA (Zk (i:=5) rfl)) (Zc (i:=1) (m:=.S) rfl (by decide)))))) (Zy (DE.toA (Jc (g:=id) (Z7 (te:=tC .non) (Zc (i:=4) (m:=.S) rfl (by decide)) (DE.toA (Zk (i:=5) rfl))) (DE.toA Zi))))))
   (VI (j:=3) (DE.PF Us) rfl)
   ZC)
   (Zm (Γm:=[.S,.S,.S,.O,.S,.P,.P,.U]) (Z9 (i:=6) Zi (by decide))
   (Zm (Γm:=[.S,.S,.S,.O,.S,.P,.P,.O]) (Jb (i:=7) (Vt (Zp (JL (Zb (Zc (i:=4) (m:=.S) rfl (by decide)) Zg)) (Zp (DE.PF (Zk (i:=5) rfl)) ZY))) (by decide))
   (Zm (Γm:=[.S,.S,.S,.O,.S,.P,.P,.O]) (Qi (Γ:=[.S,.S,.S,.O,.S,.P,.P,.O]) (Zag (DE.toA (Zic (g:=(!·)) (ZT (Zb (Qj (Zb (Z7 (te:=tC .non) (Zc (i:=7) (m:=.O) rfl (by decide)) (DE.toA Zi)) Zg)) (Zb (Z7 (te:=tC .non) (Zc (i:=7) (m:=.O) rfl (by decide)) (DE.toA Zi)) Zg))) (Zc (i:=3) (m:=.O) rfl (by decide)))))
   (Zm (Γm:=[.S,.S,.S,.O,.S,.P,.P,.O]) (Jj (Zy (DE.toA (Zid (Zc (i:=7) (m:=.O) rfl (by decide)) (ZT (Zb (DE.toA (JL (Zb (Zc (i:=4) (m:=.S) rfl (by decide)) Zg))) (Zb (DE.toA (Zk (i:=5) rfl)) Zg))))))
   (VI (j:=3) (DE.PF Us) rfl)
   ZC)
   (Zm (Γm:=[.S,.S,.S,.O,.S,.P,.P,.O]) (Zd3 (i:=3) rfl (ZT (Zb (Qj (Zb (Z7 (te:=tC .non) (Zc (i:=7) (m:=.O) rfl (by decide)) (DE.toA Zi)) Zg)) (Zb (Z7 (te:=tC .non) (Zc (i:=7) (m:=.O) rfl (by decide)) (DE.toA Zi)) Zg))))
   (Zm (Γm:=[.S,.S,.S,.O,.S,.P,.P,.O]) (Z9 (i:=6) (Jw (DE.toA (Zk (i:=6) rfl)) (DE.toA Zi)) (by decide))
   (Jb (i:=7) (Zjh (Ze (Ze Zo)) (Zb (Z7 (te:=tC .non) (Zc (i:=7) (m:=.O) rfl (by decide)) (DE.toA Zi)) (Zb (Z7 (te:=tC .non) (Zc (i:=7) (m:=.O) rfl (by decide)) (DE.toA Zi)) Zg))) (by decide))))))
   (VI (j:=3) (DE.PF (ZbC (DE.toA (Jc (g:=id) (DE.toA (Zk (i:=6) rfl)) (Z7 (te:=tC .non) (Zc (i:=0) (m:=.S) rfl (by decide)) (DE.toA Zi)))) (Jc (g:=id) (Zc (i:=7) (m:=.O) rfl (by decide)) (ZT (Zb (DE.toA (JL (Zb (Zc (i:=4) (m:=.S) rfl (by decide)) Zg))) (Zb (DE.toA (Zk (i:=5) rfl)) Zg)))))) rfl))))))))), ?_⟩
 refine Pm.refM2 Zmw ?_
 rintro⟨⟨n,s⟩,met,⟨c,b,p⟩⟩ ⟨(F:Fw n s),(R:Rk n s met (c,b,p))⟩ a b' xs e
 cases e
 simp only[Zmw]
 obtain⟨rc,rs,rl,rd,rm⟩:=R
 simp only at rc rs rl rd rm
 obtain⟨⟨l,nn,sm⟩,p0,p1,pp⟩:=id rs
 simp only at l nn sm p0 p1 pp
 have n0:=F.lo
 have n1:=F.hi
 walk_at "pd"
 simp only[ins,ZjK,dnP,ZL,Vb]
 walk_at "pd"
 have hne:b≠[]:=fun z=>by rw[z] at l;simp at l;lia
 have hmin:0<=Zb0 b:=nn _ (U8 hne)
 rw[ZmU (by lia)]
 walk_at "pd"
 rw[ZeZ hne]
 walk_at "pd"
 rw[l,sm]
 walk_at "pd"
 rw[decide_eq_false (show ¬Zb0 b<0 by lia)]
 walk_at "pd"
 rw[show (PV.lst [.int (c:Int),.int p])=.lst (([(c:Int),p]:List Int).map PV.int) from rfl,ZmU (by simp)]
 walk_at "pd"
 rw[decide_eq_true p0,decide_eq_true p1]
 walk_at "pd"
 rw[decide_eq_false (show ¬b.getD p.toNat 0=0 by lia)]
 walk_at "pd"
 have S:Jm b p:=F.stand rs
 obtain⟨q1,q2,q3⟩:=F.pd rs
 rw[<- rc] at q1 q2 q3
 have hc:c<=3000:=by rw[rc];exact Zi2 _
 have hst:∀i,Jm (its Jk i (b,p)).1 (its Jk i (b,p)).2:=fun i=>Zjv (a:=(b,p)) S i
 have hlen:∀i,(its Jk i (b,p)).1.length=b.length:=fun i=>ZaM (b,p) i
 have hin:∀i,i<c->its Jk i (b,p)∈Jh (b,p) c:=fun i hi=>Ztx.mpr ⟨i,Ztu.mpr hi,rfl⟩
 have hno:∀i,i<c->its Jk i (b,p) ∉ met++Jh (b,p) i:=fun i hi z=>by
  rcases Zti.mp z with z|z
  ·exact rd _ (hin i hi) z
  ·obtain⟨j,hj,e⟩:=Ztx.mp z
   have hj:=Ztu.mp hj
   refine q3 (i-j-1) (by lia) (QD (a:=(b,p)) S j ?_)
   rw[show j+(i-j-1+1)=i by lia]
   exact e.symm
 generalize hw:Js _ _ _=W
 obtain⟨ρ',rfl,rfl⟩:=Ub hw c (fun i ρ=>ρ=[.tup [.int c,.tup [.lst (b.map PV.int),.int p]],.int n,.int s,dnP (some a) (met++Jh (b,p) i),.lst (b.map PV.int),.int p,.int i,Vb (its Jk i (b,p))]) (by simp[Jh,dnP,Vb,its]) (by
  rintro i ρ hi rfl
  have st:=hst i
  have ln:=hlen i
  constructor
  ·simp only[Vb]
   walk_at "pd"
   rw[Ux]
   walk_at "pd"
   rw[Zf2 (its Jk i (b,p)),ZiD,decide_eq_false (hno i hi)]
   walk_at "pd"
  ·simp only[Vb]
   walk_at "pd"
   rw[ZhT,rl _ (hin i hi)]
   walk_at "pd"
   rw[Ux]
   walk_at "pd"
   rw[Zf2 (its Jk i (b,p)),ZhP (by rw[Zt3,ZO];lia),JA,if_neg (hno i hi)]
   walk_at "pd"
   rw[ZoN ⟨st.lo,st.hi,by lia⟩]
   walk_at "pd"
   refine Vd ?_
   rw[Zai,ZtI]
   rfl) (by
  rintro ρ rfl
  simp only[Vb]
  walk_at "pd"
  rw[Ux]
  walk_at "pd"
  rw[Zf2 (its Jk c (b,p)),ZiD,decide_eq_true (by
   rw[q2]
   exact Ztg _ (hin 0 (by lia)))]
  walk_at "pd")
 rw[q2]
 simp only[Vb]
 walk_at "pd"
 unfold dnP
 rw[Za3]
 rfl
theorem Znd{n:Nat}{s:Int}{met:List Kn}{x:Nat×Kn}(h:Fw n s/\Rk n s met x):Zmw.fnM (dnP none met) [ZL x,.int n,.int s]=.ok (.tup [.bl true,dnP none (met++Jh x.2 x.1)]):=Pm.fn_eq Zmw ((n,s),met,x) h (fun⟨⟨n',s'⟩,ls,y⟩ e=>by
 simp only[Zmw,dnP,ZL,Vb,List.cons.injEq,PV.box.injEq,Sh.dn.injEq,PV.tup.injEq,PV.lst.injEq,PV.int.injEq,and_true,true_and] at e
 obtain⟨⟨rfl,_⟩,⟨e1,e2,e3⟩,e4,rfl⟩:=e
 obtain rfl:n'=n:=by lia
 rw[show y=x from Prod.ext (by lia) (Prod.ext (VE e2) e3)])
theorem Zll{b:Bool}{y:PV}:rB (.ok (.bl b)) y=.ok (b,y):=rfl
theorem ltQ{x y:Kn}:Zi7 (Vb x) (Vb y)=.ok (.bl (HL.Jg x y)):=ZhT
noncomputable def ZmC:Pm:=⟨Nat×Int,fun x=>[.lst ((rnS x.1 x.2).1.map ZL),.int x.1,.int x.2],fun x=>Fw x.1 x.2,fun _=>.ok (.bl true)⟩
theorem ZqX(T:Txt K mg){f:Addr}{fd:FuncData}(F:Fun K "_law_all_right" "_law_all_right" ZmA f fd):J8 P w K mg base CX0 3 f fd ["told", "pits", "seeds"] (spF K 3 .P W0 ZmC.fn):=by
 have ZoS:=Vc (P:=P) (w:=w) (base:=base) T.Zro ZqH (fun F=>Zq9 T F)
 have ZqK:=Vc (P:=P) (w:=w) (base:=base) T.ZqD Zq1 (fun F=>Zqv T F)
 refine F.okP ZnC rfl rfl (fun cdv A outer s H E hr=>?_)
 have hu:=hr.units
 refine⟨_,_,⟨[],[],[],.P⟩,rfl,(Zd (Jd (Jt (Jo (Zs (Jl (K:=K) (n := "list") rfl) rfl T.z_isinstance Z4 (Za (pv 0) (Za (Va (v:=.ty "list") rfl T.z_list J7 rfl) Zh))))) (Zl (Zx V8)) ZB)
   (Zd (Z2 (i:=3) ZnC.nd rfl (by first|exact Or.inl rfl|exact Or.inr rfl) ZcX)
   (Zd (V0 PassesOwn.never rfl (U4 (K:=K) (pv 0)) (Ji (i:=4) ZnC.nd rfl (by first|exact Or.inl rfl|exact Or.inr rfl)) (Zl (Jd (Jt (Jo (Zn ZqK (hr.mono (by decide)) rfl (Za (pv 4) (Za (pv 1) (Za (pv 2) (Za (pv 3) Zh))))))) (Zl (Zx V8)) ZB)))
   (Zd (V0 PassesOwn.never rfl (JQ rfl T.z_range (Za (Z8 V9 (Zs (ZH (K:=K)) rfl T.z_len Jq (Za (pv 0) Zh)) Zj) Zh)) (Ji (i:=5) ZnC.nd rfl (by first|exact Or.inl rfl|exact Or.inr rfl)) (Zl (Jd (Jt (Z0 (ZhN (K:=K) hu) (ZK (Zr (K:=K)) (ZK (Zr (K:=K)) (pv 0) (pv 5) (fun _ _=>rfl)) Zj (fun _ _=>rfl)) (ZK (Zr (K:=K)) (ZK (Zr (K:=K)) (pv 0) (Z8 Ju (pv 5) Zj) (fun _ _=>rfl)) Zj (fun _ _=>rfl)) (Z3 _))) (Zl (Zx V8)) ZB)))
   (Zl (Zx (JR (JS (K:=K) hu) (Zs ZfZ rfl T.z_len Jq (Za (pv 3) Zh)) (Zn ZoS (hr.mono (by decide)) rfl (Za (pv 1) (Za (pv 2) Zh))) (Z3 _)))))))),
   (Zm (Γm:=[.S,.S,.S,.U,.U,.U]) (Jj (Jz (Zag (DE.toA (VZ (Zc (i:=0) (m:=.S) rfl (by decide))))))
   (Zz Us)
   ZC)
   (Zm (Γm:=[.S,.S,.S,.O,.U,.U]) (Jb (i:=3) Zd8 (by decide))
   (Zm (Γm:=[.S,.S,.S,.O,.U,.U]) (V2 (Γl:=[.S,.S,.S,.O,.U,.U]) (ZaP (ZaQ (i:=0) rfl)) rfl (Zl3 (i:=4) (by decide))
   (DS.out (Y:=⟨[.S,.S,.S,.O,.S,.U],[.S,.S,.S,.O,.U,.U],[.S,.S,.S,.O,.U,.U],.P⟩) (Y':=⟨[.S,.S,.S,.O,.U,.U],[.S,.S,.S,.O,.U,.U],[.S,.S,.S,.O,.U,.U],.P⟩) (Zky (ZiT (ZiS (Zcz (i:=3) rfl (Ze (Ze (Ze Zo))) (VS (UL (l:=4) (md:=.S) rfl (by decide)) (VS (UL (l:=1) (md:=.S) rfl (by decide)) (VS (UL (l:=2) (md:=.S) rfl (by decide)) (ZaT Zc3)))))))
   (Zz Us)
   ZC) rfl rfl rfl rfl))
   (Zm (Γm:=[.S,.S,.S,.O,.U,.U]) (V2 (Γl:=[.S,.S,.S,.O,.U,.U]) (Ur (Zb (DE.toA (VL (DE.toA (Jv (Zb (Zc (i:=0) (m:=.S) rfl (by decide)) Zg))) (DE.toA Zi))) Zg)) rfl (ZfM (i:=5) (by decide))
   (DS.out (Y:=⟨[.S,.S,.S,.O,.U,.P],[.S,.S,.S,.O,.U,.U],[.S,.S,.S,.O,.U,.U],.P⟩) (Y':=⟨[.S,.S,.S,.O,.U,.U],[.S,.S,.S,.O,.U,.U],[.S,.S,.S,.O,.U,.U],.P⟩) (Jj (Jz (Zy (DE.toA (Zid (Z7 (te:=tC .non) (Z7 (te:=tC .non) (Zc (i:=0) (m:=.S) rfl (by decide)) (DE.toA (Zk (i:=5) rfl))) (DE.toA Zi)) (Z7 (te:=tC .non) (Z7 (te:=tC .non) (Zc (i:=0) (m:=.S) rfl (by decide)) (DE.toA (Jw (DE.toA (Zk (i:=5) rfl)) (DE.toA Zi)))) (DE.toA Zi))))))
   (Zz Us)
   ZC) rfl rfl rfl rfl))
   (Zz (Jc (g:=id) (DE.toA (Zjg (Zb (Zc (i:=3) (m:=.O) rfl (by decide)) Zg))) (DE.toA (VR (Ze (Ze Zo)) (Zb (Zc (i:=1) (m:=.S) rfl (by decide)) (Zb (Zc (i:=2) (m:=.S) rfl (by decide)) Zg)))))))))), ?_⟩
 refine Pm.ref ZmC (g:=fun xs=>_) ?_
 rintro⟨n,s⟩ (F:Fw n s)
 simp only[ZmC]
 have hle:=ZeE F (Zto _)
 change (rnS n s).2.length<=3000/\(rnS n s).1.length<=3000 at hle
 have hup:=Zle F
 have hsl:=ZjF F
 have hsn:=(ZdT F (Zto _)).seen
 change (rnS n s).2=V3 (rnS n s).1 at hsn
 walk_at "pd"
 generalize hw:Zas _ _ _=W
 obtain⟨ρ',rfl,v,rfl⟩:=Ja hw (fun i ρ=>∃v,ρ=[.lst ((rnS n s).1.map ZL),.int n,.int s,dnP none (V3 ((rnS n s).1.take i)),v,.non]) ⟨_,rfl⟩ (by
  rintro i x ρ hx ⟨v,rfl⟩
  rw[Zt2] at hx
  cases hy:(rnS n s).1[i]? with
  |none=>rw[hy] at hx;cases hx
  |some y =>
   rw[hy] at hx
   have hx:x=ZL y:=by simpa using hx.symm
   subst hx
   obtain⟨R,e⟩:=Zlf F hy
   walk_at "pd"
   rw[ZaW (Znd (n:=n) (s:=s) (met:=V3 ((rnS n s).1.take i)) (x:=y) ⟨F,R⟩)]
   walk_at "pd"
   rw[Zll]
   walk_at "pd"
   exact Vd ⟨ZL y,by rw[e]⟩)
 walk_at "pd"
 rw[Qc,Ztp,List.take_length,<- hsn]
 walk_at "pd"
 generalize hw2:Zas _ _ _=W2
 obtain⟨ρ2,rfl,v2,rfl⟩:=Ja hw2 (fun i ρ=>∃v2,ρ=[.lst ((rnS n s).1.map ZL),.int n,.int s,dnP none (rnS n s).2,v,v2]) ⟨_,rfl⟩ (by
  rintro i x ρ hx ⟨v2,rfl⟩
  obtain⟨hi,rfl⟩:=JI hx
  rw[ZuL]
  walk_at "pd"
  rw[Zfb (L:=(rnS n s).1) (q:=ZL) (d:=((0,([],0)):Nat×Kn)) (by lia) (by lia)]
  simp only[ZL]
  walk_at "pd"
  rw[Zfb (L:=(rnS n s).1) (q:=ZL) (d:=((0,([],0)):Nat×Kn)) (by lia) (by lia)]
  simp only[ZL]
  walk_at "pd"
  have i0:i<(rnS n s).1.length:=by lia
  have i1:i+1<(rnS n s).1.length:=by lia
  have hlt:=List.pairwise_iff_getElem.mp hup i (i+1) (by rw[Ztp];exact i0) (by rw[Ztp];exact i1) (by lia)
  rw[ZuF,ZuF] at hlt
  rw[show (((i:Int)+1)).toNat=i+1 by lia,Zt6,Ztf,Ztf,Zth i0,Zth i1,ltQ]
  simp only[Zuc]
  rw[hlt]
  walk_at "pd"
  exact Vd ⟨_,rfl⟩)
 walk_at "pd"
 rw[show Zfa [dnP none (rnS n s).2]=.ok (.int ((rnS n s).2.length)) from ZgH (by lia)]
 have n0:=F.lo
 have n1:=F.hi
 have s0:=F.s0
 have s1:=F.s1
 walk_at "pd"
 rw[ZnA ⟨⟨by lia,by lia⟩,s0,s1⟩]
 walk_at "pd"
 rw[hsl]
 unfold lcN
 walk_at "pd"
theorem Znw{n:Nat}{s:Int}(h:Fw n s):ZmC.fn [.lst ((rnS n s).1.map ZL),.int n,.int s]=.ok (.bl true):=Pm.fn_eq ZmC (n,s) h (fun _ _=>rfl)
theorem Zbw{g:Bool->Bool}{n:Nat}{x:PV}(h:Dat n x)(hn:n<=64:=by decide):Zbx g x x=.ok (.bl (g true)):=by
 unfold Zbx
 rw[h.ok hn,Bool.and_self,if_pos rfl,PySem.SeqAt.eqv_refl _ h.can]
theorem ZbE(x:Nat×Kn):Dat 3 (ZL x):=ZfQ (n:=2) fun y hy=>by
 simp only[Zts,Zud,or_false] at hy
 rcases hy with rfl|rfl
 ·exact(Zc2 _).up (by decide)
 ·exact Zhm _
theorem Zen(L:List (Nat×Kn)):Dat 4 (.lst (L.map ZL)):=ZfR fun x hx=>by
 obtain⟨t,_,rfl⟩:=Ztx.mp hx
 exact ZbE t
noncomputable def ZcQ(x:Nat×Kn):PV:=ZL (x.1,x.2.1++[0],x.2.2)
noncomputable def tzL(L:List (Nat×Kn))(k:Nat):List PV:=(L.take k).map ZcQ++(L.drop k).map ZL
theorem Zez{L:List (Nat×Kn)}{k:Nat}:(tzL L k).length=L.length:=by
 unfold tzL
 rw[Zt3,Ztp,Ztp,ZtQ,Zue];lia
theorem Zhw{L:List (Nat×Kn)}{k:Nat}{x:Nat×Kn}(h:L[k]?=some x):(tzL L k).getD k .non=ZL x/\(tzL L k).set k (ZcQ x)=tzL L (k+1):=by
 have hk:=(Ztk.mp h).1
 have hl:((L.take k).map ZcQ).length=k:=by rw[Ztp,ZtQ];lia
 have hd:L.drop k=x::L.drop (k+1):=by
  rw[Ztv hk,(Ztk.mp h).2]
 constructor
 ·unfold tzL
  rw[Ztf,Ztw (by lia),hl,Zuu,hd];rfl
 ·unfold tzL
  rw[ZtU _ _ (by lia),hl,Zuu,hd,List.take_succ,h,ZtE,ZtB,ZtT]
  simp
theorem Zhc{L:List (Nat×Kn)}{k:Nat}{x:Nat×Kn}(h:L[k]?=some x)(hl:x.2.1.length<1000):pGo (fun z=>pApp z (.int 0)) (.lst (tzL L k)) [(k:Int),1,0]=.ok (.lst (tzL L (k+1))):=by
 have hk:=(Ztk.mp h).1
 obtain⟨h1,h2⟩:=Zhw h
 have e:ixN (tzL L k).length (k:Int)=some k:=by
  rw[Zez]
  unfold ixN
  rw[if_pos (by lia),if_pos (by lia),Zt6]
 have e2:pGo (fun z=>pApp z (.int 0)) (ZL x) [1,0]=.ok (ZcQ x):=by
  show ((pGo (fun z=>pApp z (.int 0)) (Vb x.2) [0]).bind fun z=>Rr.ok (PV.tup [.int x.1,z]))=_
  have e3:pGo (fun z=>pApp z (.int 0)) (Vb x.2) [0]=(pApp (.lst (x.2.1.map PV.int)) (.int 0)).bind fun z=>Rr.ok (PV.tup [z,.int x.2.2]):=rfl
  rw[e3,Zby (by lia)]
  simp only[Rr.bind_ok]
  rfl
 rw[pGo,e]
 simp only
 rw[h1,e2,<- h2]
 rfl
noncomputable def Zrz:Pm:=⟨List Int,fun ns=>[.lst (ns.map PV.int)],fun ns=>ns.length<=63,fun _=>.ok (.bl true)⟩
theorem Ztc(T:Txt K mg){f:Addr}{fd:FuncData}(F:Fun K "law" "law" Zse f fd):J8 P w K mg base CX0 13 f fd ["script"] (spF K 1 .P W0 Zrz.fn):=by
 have Zsx:=Vc (P:=P) (w:=w) (base:=base) T.Zsn ZrZ (fun F=>ZrT T F)
 have ZrA:=Vc (P:=P) (w:=w) (base:=base) T.Zs6 Zsq (fun F=>Zsh T F)
 have ZoS:=Vc (P:=P) (w:=w) (base:=base) T.Zro ZqH (fun F=>Zq9 T F)
 have Zrv:=Vc (P:=P) (w:=w) (base:=base) T.Zrs Zrh (fun F=>ZqX T F)
 refine F.okP Zrw rfl rfl (fun cdv A outer s H E hr=>?_)
 have hu:=hr.units
 refine⟨_,_,⟨[],[],[],.P⟩,rfl,(Zd (U3 (Zn Zsx (hr.mono (by decide)) rfl (Za (pv 0) Zh)) (ZhB rfl (Qa (Ji (i:=1) Zrw.nd rfl (by first|exact Or.inl rfl|exact Or.inr rfl)) (Qa (Ji (i:=2) Zrw.nd rfl (by first|exact Or.inl rfl|exact Or.inr rfl)) ZeR))))
   (Zd (Z2 (i:=3) Zrw.nd rfl (by first|exact Or.inl rfl|exact Or.inr rfl) (Zn ZrA (hr.mono (by decide)) rfl (Za (pv 1) (Za (pv 2) Zh))))
   (Zd (Jd (PW.pt (V7 (Z0 Zac (pv 1) Zj (Z3 _)) (V7 (Z0 Q8 (pv 1) Zj (Z3 _)) (V7 (Z0 Zac (pv 2) Zj (Z3 _)) (VX (Z0 Q8 (pv 2) (Z8 Q7 Zj Zj) (Z3 _))))))) (Zl (Zx (JR (JS (K:=K) hu) (pv 3) JE (Z3 _)))) ZB)
   (Zd (Jd (Z0 Q8 (Zn ZoS (hr.mono (by decide)) rfl (Za (pv 1) (Za (pv 2) Zh))) Zj (Z3 _)) (Zl (Zx (JR (JS (K:=K) hu) (pv 3) JE (Z3 _)))) ZB)
   (Zd (Jd (Jt (Jo (Zn Zrv (hr.mono (by decide)) rfl (Za (pv 3) (Za (pv 1) (Za (pv 2) Zh)))))) (Zl (Zx V8)) ZB)
   (Zd (Qx (i:=4) Zrw.nd rfl (U4 (K:=K) (pv 3)) (ZeS Zrw.nd) (fun _ _ _ _=>ZhC) (fun _ _ _ _=>(ZN (Za (ZK (Zr (K:=K)) (pv 6) Zj (fun _ _=>rfl)) (Za (ZN (Za (ZP (Je (K:=K)) rfl T.z_list J7 (Za (ZK (Zr (K:=K)) (ZK (Zr (K:=K)) (pv 6) Zj (fun _ _=>rfl)) Zj (fun _ _=>rfl)) Zh)) (Za (ZK (Zr (K:=K)) (ZK (Zr (K:=K)) (pv 6) Zj (fun _ _=>rfl)) Zj (fun _ _=>rfl)) Zh))) Zh)))) hv1 rfl)
   (Zd (V0 PassesOwn.never rfl (JQ rfl T.z_range (Za (Zs (ZH (K:=K)) rfl T.z_len Jq (Za (pv 3) Zh)) Zh)) (Ji (i:=5) Zrw.nd rfl (by first|exact Or.inl rfl|exact Or.inr rfl)) (Zd (Jd (Z0 (UP (K:=K) hu) (ZK (Zr (K:=K)) (pv 3) (pv 5) (fun _ _=>rfl)) (ZK (Zr (K:=K)) (pv 4) (pv 5) (fun _ _=>rfl)) (Z3 _)) (Zl (Zx V8)) ZB)
   (Zl (ZQ (Zcc PySem.F.plainAttrs_list PySem.F.slot_list_append PySem.F.type_list_append Vg (ZK (Zr (K:=K)) (ZK (Zr (K:=K)) (ZK (Zr (K:=K)) (pv 3) (pv 5) (fun _ _=>rfl)) Zj (fun _ _=>rfl)) Zj (fun _ _=>rfl)) (Za Zj Zh))))))
   (Zd (ZQ (Zcc PySem.F.plainAttrs_list PySem.F.slot_list_append PySem.F.type_list_append Vg (pv 3) (Za (ZN (Za Zj (Za (ZN (Za (VY Zh) (Za Zj Zh))) Zh))) Zh)))
   (Zl (Zx (Zln (JR Q8 (Zn ZoS (hr.mono (by decide)) rfl (Za (pv 1) (Za (pv 2) Zh))) Zj (Z3 _)) (Zak (JR (JS (K:=K) hu) (Zn ZrA (hr.mono (by decide)) rfl (Za (pv 1) (Za (pv 2) Zh))) (pv 4) (Z3 _)))))))))))))),
   (Zm (Γm:=[.S,.P,.P,.U,.U,.U]) (ZiW (DE.PF (VR (Ze Zo) (Zb (Zc (i:=0) (m:=.S) rfl (by decide)) Zg))) (Zjd (n:=2) (ZbA (Zk0 (i:=1) (by decide)) (ZbA (Zk0 (i:=2) (by decide)) Zhf))))
   (Zm (Γm:=[.S,.P,.P,.O,.U,.U]) (Jb (i:=3) (Zjh (Ze (Ze Zo)) (Zb (DE.toA (Zk (i:=1) rfl)) (Zb (DE.toA (Zk (i:=2) rfl)) Zg))) (by decide))
   (Zm (Γm:=[.S,.P,.P,.O,.U,.U]) (Jj (VH (Zy (DE.toA (ZaR (DE.toA (Zk (i:=1) rfl)) (DE.toA Zi)))) (VH (Zy (DE.toA (QO (DE.toA (Zk (i:=1) rfl)) (DE.toA Zi)))) (VH (Zy (DE.toA (ZaR (DE.toA (Zk (i:=2) rfl)) (DE.toA Zi)))) (Zy (DE.toA (QO (DE.toA (Zk (i:=2) rfl)) (DE.toA (QM (DE.toA Zi) (DE.toA Zi)))))))))
   (Zz (Jc (g:=id) (Zc (i:=3) (m:=.O) rfl (by decide)) (DE.toA JF)))
   ZC)
   (Zm (Γm:=[.S,.P,.P,.O,.U,.U]) (Jj (Zy (DE.toA (QO (DE.toA (VR (Ze (Ze Zo)) (Zb (DE.toA (Zk (i:=1) rfl)) (Zb (DE.toA (Zk (i:=2) rfl)) Zg)))) (DE.toA Zi))))
   (Zz (Jc (g:=id) (Zc (i:=3) (m:=.O) rfl (by decide)) (DE.toA JF)))
   ZC)
   (Zm (Γm:=[.S,.P,.P,.O,.U,.U]) (Jj (Jz (Zag (DE.toA (VR (Ze (Ze (Ze Zo))) (Zb (Zc (i:=3) (m:=.O) rfl (by decide)) (Zb (DE.toA (Zk (i:=1) rfl)) (Zb (DE.toA (Zk (i:=2) rfl)) Zg)))))))
   (Zz Us)
   ZC)
   (Zm (Γm:=[.S,.P,.P,.O,.O,.U]) (QK (i:=4) (Zc1 (i:=3) rfl ZhZ (Vt (Zp (DE.PF (DE.grd (Z7 (te:=tC .non) (Zc (i:=6) (m:=.S) rfl (by decide)) (DE.toA Zi)))) (Zp (Vt (Zp (JL (Zb (Z7 (te:=tC .non) (Z7 (te:=tC .non) (Zc (i:=6) (m:=.S) rfl (by decide)) (DE.toA Zi)) (DE.toA Zi)) Zg)) (Zp (DE.PF (DE.grd (Z7 (te:=tC .non) (Z7 (te:=tC .non) (Zc (i:=6) (m:=.S) rfl (by decide)) (DE.toA Zi)) (DE.toA Zi)))) ZY))) ZY)))) (by decide))
   (Zm (Γm:=[.S,.P,.P,.O,.O,.U]) (V2 (Γl:=[.S,.P,.P,.O,.O,.U]) (Ur (Zb (DE.toA (Jv (Zb (Zc (i:=3) (m:=.O) rfl (by decide)) Zg))) Zg)) rfl (ZfM (i:=5) (by decide))
   (DS.out (Y:=⟨[.S,.P,.P,.O,.O,.P],[.S,.P,.P,.O,.O,.U],[.S,.P,.P,.O,.O,.U],.P⟩) (Y':=⟨[.S,.P,.P,.O,.O,.U],[.S,.P,.P,.O,.O,.U],[.S,.P,.P,.O,.O,.U],.P⟩) (Zm (Γm:=[.S,.P,.P,.O,.O,.P]) (Jj (Zy (DE.toA (Jc (g:=(!·)) (Z7 (te:=tC .non) (Zc (i:=3) (m:=.O) rfl (by decide)) (DE.toA (Zk (i:=5) rfl))) (Z7 (te:=tC .non) (Zc (i:=4) (m:=.O) rfl (by decide)) (DE.toA (Zk (i:=5) rfl))))))
   (Zz Us)
   ZC)
   (Zel (i:=3) rfl (ZfK (ZfK (ZiZ (l:=5) (m:=.P) rfl (by decide) ZiY))))) rfl rfl rfl rfl))
   (Zm (Γm:=[.S,.P,.P,.O,.O,.U]) (Zcy (i:=3) rfl rfl (Vt (Zp (DE.PF Zi) (Zp (Vt (Zp (Vu ZY) (Zp (DE.PF Zi) ZY))) ZY))))
   (Zz (Zl5 (DE.toA (QO (DE.toA (VR (Ze (Ze Zo)) (Zb (DE.toA (Zk (i:=1) rfl)) (Zb (DE.toA (Zk (i:=2) rfl)) Zg)))) (DE.toA Zi))) (Jc (g:=id) (DE.toA (Zjh (Ze (Ze Zo)) (Zb (DE.toA (Zk (i:=1) rfl)) (Zb (DE.toA (Zk (i:=2) rfl)) Zg)))) (Zc (i:=4) (m:=.O) rfl (by decide))))))))))))), ?_⟩
 refine Pm.ref Zrz (g:=fun xs=>_) ?_
 rintro(ns:List Int) (hn:ns.length<=63)
 simp only[Zrz]
 walk_at "pd"
 rw[Zoy (by lia)]
 generalize drP ns=d
 obtain⟨n,s⟩:=d
 simp only[pI2]
 walk_at "pd"
 rw[Zon]
 walk_at "pd"
 by_cases h:(2<=n/\n<=24)/\0<=s/\s<=10^60
 ·rw[decide_eq_false (show ¬n<2 by lia),decide_eq_false (show ¬24<n by lia),decide_eq_false (show ¬s<0 by lia),decide_eq_false (show ¬10^60<s by lia)]
  walk_at "pd"
  rw[ZnA h]
  walk_at "pd"
  by_cases hf:n*cbN n (s-1)<=3000
  ·have ha:alX n s=none:=by unfold alX;rw[Uy.mpr h];exact if_pos hf
   rw[decide_eq_false (show ¬3000<lcN n s by unfold lcN;lia)]
   walk_at "pd"
   obtain⟨⟨n0,n1⟩,s0,s1⟩:=id h
   obtain⟨m,rfl⟩:∃m:Nat,n=m:=⟨n.toNat,by lia⟩
   have F:Fw m s:=⟨by lia,by lia,s0,s1,hf⟩
   have ht:tdV m s=.lst ((rnS m s).1.map ZL):=by unfold tdV;rw[ha];rfl
   have hle:=ZeE F (Zto _)
   change (rnS m s).2.length<=3000/\(rnS m s).1.length<=3000 at hle
   have hrs:=(ZdT F (Zto _)).rs
   change ∀x∈(rnS m s).1,_ at hrs
   rw[ht,Znw F]
   generalize (rnS m s).1=L at *
   walk_at "pd"
   rw[Zkw (p:=fun _=>true) (g:=ZL) (fun x hx=>by
    have:=(hrs x hx).2.1.1.1
    simp only[ZL,Vb]
    walk_at "pd")]
   rw[show L.filter (fun _=>true)=L from List.filter_eq_self.mpr fun _ _=>rfl]
   walk_at "pd"
   rw[Qc,Ztp]
   walk_at "pd"
   generalize hw:Zas _ _ _=W
   obtain⟨ρ',rfl,v,rfl⟩:=Ja hw (fun i ρ=>∃v,ρ=[.lst (ns.map PV.int),.int m,.int s,.lst (tzL L i),.lst (L.map ZL),v]) ⟨.non,by simp[tzL]⟩ (by
    rintro i x ρ hx ⟨v,rfl⟩
    obtain⟨hi,rfl⟩:=JI hx
    rw[ZuL]
    have hi':i<L.length:=by lia
    have hy:L[i]?=some L[i]:=Zth hi'
    have hxl:=(hrs L[i] (Zum hi')).2.1.1.1
    walk_at "pd"
    rw[Zfd (xs:=tzL L i) (by lia) (by rw[Zez];lia),Zt6,(Zhw hy).1]
    walk_at "pd"
    rw[Zfb (L:=L) (q:=ZL) (d:=((0,([],0)):Nat×Kn)) (by lia) (by lia),Zt6,Ztf,hy]
    simp only[Zuc]
    walk_at "pd"
    rw[Zbw (ZbE _)]
    walk_at "pd"
    rw[Zhc hy (by lia)]
    walk_at "pd"
    exact Vd ⟨_,rfl⟩)
   walk_at "pd"
   rw[ZaD (by rw[Zez];lia)]
   walk_at "pd"
   rw[ZnA h]
   walk_at "pd"
   by_cases h6:600<lcN m s
   ·rw[decide_eq_true h6]
    walk_at "pd"
   ·rw[decide_eq_false h6]
    walk_at "pd"
    rw[Zon,ht]
    walk_at "pd"
    rw[Zbw (Zen L)]
    walk_at "pd"
  ·have ha:alX n s=(some "TooMany":Option Str):=by unfold alX;rw[Uy.mpr h];exact if_neg hf
   rw[decide_eq_true (show 3000<lcN n s by unfold lcN;lia)]
   rw[show tdV n s=.str "TooMany" by unfold tdV;rw[ha]]
   walk_at "pd"
 ·have ha:alX n s=(some "BadCount":Option Str):=by unfold alX;rw[UX h]
  rw[show tdV n s=.str "BadCount" by unfold tdV;rw[ha]]
  by_cases h1:n<2
  ·rw[decide_eq_true h1];walk_at "pd"
  ·rw[decide_eq_false h1]
   by_cases h2:24<n
   ·rw[decide_eq_true h2];walk_at "pd"
   ·rw[decide_eq_false h2]
    by_cases h3:s<0
    ·rw[decide_eq_true h3];walk_at "pd"
    ·rw[decide_eq_false h3,decide_eq_true (show 10^60<s by lia)];walk_at "pd"
noncomputable def Ze9(K:W.Frag):Sp:=spF K 1 .P W0 Zrz.fn
theorem Zkc{l:PySem.W.OpenLaw}(T:Txt K mg){fa:Addr}(hmg:mg "law"=some (.ref fa)):∃fd:FuncData,(∀(s:Shared) (u:Value),BindsTo s fd ⟨[u],[]⟩ [("script",u)]) /\
  ∀base:Heap,K.In base->base.Ns mainGlobals mg->J8 l.prog w K mg base CX0 13 fa fd ["script"] (Ze9 K):=by
 obtain⟨f,fd,F,hm⟩:=T.Zte
 rw[hmg] at hm
 cases hm
 refine⟨fd,fun s u=>?_,fun base _ _=>Ztc T F⟩
 obtain⟨oc,od,kV,doc,pm,an,cdv,ct,osl,rfl,lk,hcd⟩:=F.ex
 exact .of_eq (Ztd kV doc pm an cdv ct [u] rfl)
theorem Zf1{H:Hp}{a:Addr}{ns:List Int}(hl:ns.length<=63)(hO:ZkG H)(hS:SqL K H a (ns.map V.int)):Ze9 K [.ref a] H (fun v _=>v=.bl true) fun _ _ _=>False:=
 Zeg (Pm.fn_eq Zrz ns hl fun _ _=>rfl) hS
end
theorem Zj3{K:W.Frag}{h:Heap}{mg:Str->Option Value}{Zpe Zpd Zqz ZpV ZqZ ZoJ ZpT Zpb Zok Zrb Zp3 Zp1 Zo6 Zn8 Zra Zp4 Zol ZpR ZrU Zqx Zo7 Zp2 Zr5 Zpc ZqY Zqw ZpS ZpU Zqy ZpW Zq0 Zom ZnY Zo8 ZsZ:Addr}(X:K.In h)(G:h.Ns mainGlobals mg){od__law_cell_at an__law_cell_at:Option Addr}{sl__law_cell_at:Array (Option Value)}{oc__law_cell_at kV__law_cell_at dc__law_cell_at ZmG cd__law_cell_at ct__law_cell_at:Value}{od__law_stirred an__law_stirred:Option Addr}{sl__law_stirred:Array (Option Value)}{oc__law_stirred kV__law_stirred dc__law_stirred ZmF cd__law_stirred ct__law_stirred:Value}{od__law_sums an__law_sums:Option Addr}{sl__law_sums:Array (Option Value)}{oc__law_sums kV__law_sums dc__law_sums Znr cd__law_sums ct__law_sums:Value}{od__law_drawn an__law_drawn:Option Addr}{sl__law_drawn:Array (Option Value)}{oc__law_drawn kV__law_drawn dc__law_drawn Znb cd__law_drawn ct__law_drawn:Value}{od_is_whole an_is_whole:Option Addr}{sl_is_whole:Array (Option Value)}{oc_is_whole kV_is_whole dc_is_whole ZnK cd_is_whole ct_is_whole:Value}{od_is_whole_from an_is_whole_from:Option Addr}{sl_is_whole_from:Array (Option Value)}{oc_is_whole_from kV_is_whole_from dc_is_whole_from Zmx cd_is_whole_from ct_is_whole_from:Value}{od_most_seeds an_most_seeds:Option Addr}{sl_most_seeds:Array (Option Value)}{oc_most_seeds kV_most_seeds dc_most_seeds ZmM cd_most_seeds ct_most_seeds:Value}{od_count_boards an_count_boards:Option Addr}{sl_count_boards:Array (Option Value)}{oc_count_boards kV_count_boards dc_count_boards Zm1 cd_count_boards ct_count_boards:Value}{od_least_seeds_for an_least_seeds_for:Option Addr}{sl_least_seeds_for:Array (Option Value)}{oc_least_seeds_for kV_least_seeds_for dc_least_seeds_for Zmz cd_least_seeds_for ct_least_seeds_for:Value}{od_board_at an_board_at:Option Addr}{sl_board_at:Array (Option Value)}{oc_board_at kV_board_at dc_board_at Zng cd_board_at ct_board_at:Value}{od_check_count an_check_count:Option Addr}{sl_check_count:Array (Option Value)}{oc_check_count kV_check_count dc_check_count ZmS cd_check_count ct_check_count:Value}{od_check_sizes an_check_sizes:Option Addr}{sl_check_sizes:Array (Option Value)}{oc_check_sizes kV_check_sizes dc_check_sizes ZmR cd_check_sizes ct_check_sizes:Value}{od_standing_count an_standing_count:Option Addr}{sl_standing_count:Array (Option Value)}{oc_standing_count kV_standing_count dc_standing_count Zm6 cd_standing_count ct_standing_count:Value}{od_is_list_from_nought an_is_list_from_nought:Option Addr}{sl_is_list_from_nought:Array (Option Value)}{oc_is_list_from_nought kV_is_list_from_nought dc_is_list_from_nought Zmu cd_is_list_from_nought ct_is_list_from_nought:Value}{od_is_board an_is_board:Option Addr}{sl_is_board:Array (Option Value)}{oc_is_board kV_is_board dc_is_board Zn4 cd_is_board ct_is_board:Value}{od_check_board an_check_board:Option Addr}{sl_check_board:Array (Option Value)}{oc_check_board kV_check_board dc_check_board Znf cd_check_board ct_check_board:Value}{od_last_with_seeds an_last_with_seeds:Option Addr}{sl_last_with_seeds:Array (Option Value)}{oc_last_with_seeds kV_last_with_seeds dc_last_with_seeds Zm0 cd_last_with_seeds ct_last_with_seeds:Value}{od_next_board an_next_board:Option Addr}{sl_next_board:Array (Option Value)}{oc_next_board kV_next_board dc_next_board ZmD cd_next_board ct_next_board:Value}{od_is_pit an_is_pit:Option Addr}{sl_is_pit:Array (Option Value)}{oc_is_pit kV_is_pit dc_is_pit Zou cd_is_pit ct_is_pit:Value}{od_check_pit an_check_pit:Option Addr}{sl_check_pit:Array (Option Value)}{oc_check_pit kV_check_pit dc_check_pit Zn5 cd_check_pit ct_check_pit:Value}{od_check_standing an_check_standing:Option Addr}{sl_check_standing:Array (Option Value)}{oc_check_standing kV_check_standing dc_check_standing ZmB cd_check_standing ct_check_standing:Value}{od_check_round an_check_round:Option Addr}{sl_check_round:Array (Option Value)}{oc_check_round kV_check_round dc_check_round Zne cd_check_round ct_check_round:Value}{od_sow_pit an_sow_pit:Option Addr}{sl_sow_pit:Array (Option Value)}{oc_sow_pit kV_sow_pit dc_sow_pit ZnS cd_sow_pit ct_sow_pit:Value}{od_check_length an_check_length:Option Addr}{sl_check_length:Array (Option Value)}{oc_check_length kV_check_length dc_check_length ZmV cd_check_length ct_check_length:Value}{od_round_of an_round_of:Option Addr}{sl_round_of:Array (Option Value)}{oc_round_of kV_round_of dc_round_of Zn3 cd_round_of ct_round_of:Value}{od_see_round an_see_round:Option Addr}{sl_see_round:Array (Option Value)}{oc_see_round kV_see_round dc_see_round Znp cd_see_round ct_see_round:Value}{od_new_rounds an_new_rounds:Option Addr}{sl_new_rounds:Array (Option Value)}{oc_new_rounds kV_new_rounds dc_new_rounds ZmZ cd_new_rounds ct_new_rounds:Value}{od_all_rounds an_all_rounds:Option Addr}{sl_all_rounds:Array (Option Value)}{oc_all_rounds kV_all_rounds dc_all_rounds Zna cd_all_rounds ct_all_rounds:Value}{od__law_told an__law_told:Option Addr}{sl__law_told:Array (Option Value)}{oc__law_told kV__law_told dc__law_told Znq cd__law_told ct__law_told:Value}{od__law_count an__law_count:Option Addr}{sl__law_count:Array (Option Value)}{oc__law_count kV__law_count dc__law_count Znc cd__law_count ct__law_count:Value}{od__law_sown an__law_sown:Option Addr}{sl__law_sown:Array (Option Value)}{oc__law_sown kV__law_sown dc__law_sown Zns cd__law_sown ct__law_sown:Value}{od__law_board_same an__law_board_same:Option Addr}{sl__law_board_same:Array (Option Value)}{oc__law_board_same kV__law_board_same dc__law_board_same Zm7 cd__law_board_same ct__law_board_same:Value}{od__law_round_right an__law_round_right:Option Addr}{sl__law_round_right:Array (Option Value)}{oc__law_round_right kV__law_round_right dc__law_round_right Zmw cd__law_round_right ct__law_round_right:Value}{od__law_all_right an__law_all_right:Option Addr}{sl__law_all_right:Array (Option Value)}{oc__law_all_right kV__law_all_right dc__law_all_right ZmC cd__law_all_right ct__law_all_right:Value}{od_law an_law:Option Addr}{sl_law:Array (Option Value)}{oc_law kV_law dc_law Zrz cd_law ct_law:Value}(Zpj:PySem.W.nsIn K mainGlobals "_law_cell_at"=some (some (.ref Zpe)))(ZoW:K.lookup Zpe=some ⟨oc__law_cell_at,od__law_cell_at,.func (PySem.W.fnOf "_law_cell_at" "_law_cell_at" (Zv ZmQ) (Zq ZmQ) (Zf ZmQ) .none kV__law_cell_at dc__law_cell_at ZmG an__law_cell_at cd__law_cell_at ct__law_cell_at),sl__law_cell_at⟩)(ZnH:PySem.W.codeIn K cd__law_cell_at "_law_cell_at"=true)(Zpa:PySem.W.keepIn K (.ref Zpe)=true)(Zpi:PySem.W.nsIn K mainGlobals "_law_stirred"=some (some (.ref Zpd)))(ZoV:K.lookup Zpd=some ⟨oc__law_stirred,od__law_stirred,.func (PySem.W.fnOf "_law_stirred" "_law_stirred" (Zv ZmP) (Zq ZmP) (Zf ZmP) .none kV__law_stirred dc__law_stirred ZmF an__law_stirred cd__law_stirred ct__law_stirred),sl__law_stirred⟩)(ZnG:PySem.W.codeIn K cd__law_stirred "_law_stirred"=true)(ZoZ:PySem.W.keepIn K (.ref Zpd)=true)(Zq5:PySem.W.nsIn K mainGlobals "_law_sums"=some (some (.ref Zqz)))(Zqo:K.lookup Zqz=some ⟨oc__law_sums,od__law_sums,.func (PySem.W.fnOf "_law_sums" "_law_sums" (Zv Zn1) (Zq Zn1) (Zf Zn1) .none kV__law_sums dc__law_sums Znr an__law_sums cd__law_sums ct__law_sums),sl__law_sums⟩)(ZoM:PySem.W.codeIn K cd__law_sums "_law_sums"=true)(Zqt:PySem.W.keepIn K (.ref Zqz)=true)(Zqd:PySem.W.nsIn K mainGlobals "_law_drawn"=some (some (.ref ZpV)))(ZpJ:K.lookup ZpV=some ⟨oc__law_drawn,od__law_drawn,.func (PySem.W.fnOf "_law_drawn" "_law_drawn" (Zv Znn) (Zq Znn) (Zf Znn) .none kV__law_drawn dc__law_drawn Znb an__law_drawn cd__law_drawn ct__law_drawn),sl__law_drawn⟩)(Zoy:PySem.W.codeIn K cd__law_drawn "_law_drawn"=true)(ZpP:PySem.W.keepIn K (.ref ZpV)=true)(Zrj:PySem.W.nsIn K mainGlobals "is_whole"=some (some (.ref ZqZ)))(ZqO:K.lookup ZqZ=some ⟨oc_is_whole,od_is_whole,.func (PySem.W.fnOf "is_whole" "is_whole" (Zv ZnP) (Zq ZnP) (Zf ZnP) .none kV_is_whole dc_is_whole ZnK an_is_whole cd_is_whole ct_is_whole),sl_is_whole⟩)(Zpm:PySem.W.codeIn K cd_is_whole "is_whole"=true)(ZqS:PySem.W.keepIn K (.ref ZqZ)=true)(ZoP:PySem.W.nsIn K mainGlobals "is_whole_from"=some (some (.ref ZoJ)))(ZoG:K.lookup ZoJ=some ⟨oc_is_whole_from,od_is_whole_from,.func (PySem.W.fnOf "is_whole_from" "is_whole_from" (Zv ZmE) (Zq ZmE) (Zf ZmE) .none kV_is_whole_from dc_is_whole_from Zmx an_is_whole_from cd_is_whole_from ct_is_whole_from),sl_is_whole_from⟩)(ZmH:PySem.W.codeIn K cd_is_whole_from "is_whole_from"=true)(ZoH:PySem.W.keepIn K (.ref ZoJ)=true)(Zqb:PySem.W.nsIn K mainGlobals "most_seeds"=some (some (.ref ZpT)))(ZpH:K.lookup ZpT=some ⟨oc_most_seeds,od_most_seeds,.func (PySem.W.fnOf "most_seeds" "most_seeds" (Zv Znl) (Zq Znl) (Zf Znl) .none kV_most_seeds dc_most_seeds ZmM an_most_seeds cd_most_seeds ct_most_seeds),sl_most_seeds⟩)(Zn9:PySem.W.codeIn K cd_most_seeds "most_seeds"=true)(ZpN:PySem.W.keepIn K (.ref ZpT)=true)(Zpg:PySem.W.nsIn K mainGlobals "count_boards"=some (some (.ref Zpb)))(ZoT:K.lookup Zpb=some ⟨oc_count_boards,od_count_boards,.func (PySem.W.fnOf "count_boards" "count_boards" (Zv ZmN) (Zq ZmN) (Zf ZmN) .none kV_count_boards dc_count_boards Zm1 an_count_boards cd_count_boards ct_count_boards),sl_count_boards⟩)(ZmT:PySem.W.codeIn K cd_count_boards "count_boards"=true)(ZoX:PySem.W.keepIn K (.ref Zpb)=true)(Zoo:PySem.W.nsIn K mainGlobals "least_seeds_for"=some (some (.ref Zok)))(Zoe:K.lookup Zok=some ⟨oc_least_seeds_for,od_least_seeds_for,.func (PySem.W.fnOf "least_seeds_for" "least_seeds_for" (Zv Zm3) (Zq Zm3) (Zf Zm3) .none kV_least_seeds_for dc_least_seeds_for Zmz an_least_seeds_for cd_least_seeds_for ct_least_seeds_for),sl_least_seeds_for⟩)(Znh:PySem.W.codeIn K cd_least_seeds_for "least_seeds_for"=true)(Zoh:PySem.W.keepIn K (.ref Zok)=true)(Zrl:PySem.W.nsIn K mainGlobals "board_at"=some (some (.ref Zrb)))(ZqQ:K.lookup Zrb=some ⟨oc_board_at,od_board_at,.func (PySem.W.fnOf "board_at" "board_at" (Zv ZnR) (Zq ZnR) (Zf ZnR) .none kV_board_at dc_board_at Zng an_board_at cd_board_at ct_board_at),sl_board_at⟩)(Zpo:PySem.W.codeIn K cd_board_at "board_at"=true)(ZqU:PySem.W.keepIn K (.ref Zrb)=true)(Zp8:PySem.W.nsIn K mainGlobals "check_count"=some (some (.ref Zp3)))(Zpu:K.lookup Zp3=some ⟨oc_check_count,od_check_count,.func (PySem.W.fnOf "check_count" "check_count" (Zv ZmL) (Zq ZmL) (Zf ZmL) .none kV_check_count dc_check_count ZmS an_check_count cd_check_count ct_check_count),sl_check_count⟩)(ZnD:PySem.W.codeIn K cd_check_count "check_count"=true)(Zpy:PySem.W.keepIn K (.ref Zp3)=true)(Zp6:PySem.W.nsIn K mainGlobals "check_sizes"=some (some (.ref Zp1)))(Zps:K.lookup Zp1=some ⟨oc_check_sizes,od_check_sizes,.func (PySem.W.fnOf "check_sizes" "check_sizes" (Zv ZmK) (Zq ZmK) (Zf ZmK) .none kV_check_sizes dc_check_sizes ZmR an_check_sizes cd_check_sizes ct_check_sizes),sl_check_sizes⟩)(Zoa:PySem.W.codeIn K cd_check_sizes "check_sizes"=true)(Zpw:PySem.W.keepIn K (.ref Zp1)=true)(Zo9:PySem.W.nsIn K mainGlobals "standing_count"=some (some (.ref Zo6)))(Zo0:K.lookup Zo6=some ⟨oc_standing_count,od_standing_count,.func (PySem.W.fnOf "standing_count" "standing_count" (Zv Zm8) (Zq Zm8) (Zf Zm8) .none kV_standing_count dc_standing_count Zm6 an_standing_count cd_standing_count ct_standing_count),sl_standing_count⟩)(Znu:PySem.W.codeIn K cd_standing_count "standing_count"=true)(Zo3:PySem.W.keepIn K (.ref Zo6)=true)(ZnB:PySem.W.nsIn K mainGlobals "is_list_from_nought"=some (some (.ref Zn8)))(Zn6:K.lookup Zn8=some ⟨oc_is_list_from_nought,od_is_list_from_nought,.func (PySem.W.fnOf "is_list_from_nought" "is_list_from_nought" (Zv Zmv) (Zq Zmv) (Zf Zmv) .none kV_is_list_from_nought dc_is_list_from_nought Zmu an_is_list_from_nought cd_is_list_from_nought ct_is_list_from_nought),sl_is_list_from_nought⟩)(ZmI:PySem.W.codeIn K cd_is_list_from_nought "is_list_from_nought"=true)(Zn7:PySem.W.keepIn K (.ref Zn8)=true)(Zrk:PySem.W.nsIn K mainGlobals "is_board"=some (some (.ref Zra)))(ZqP:K.lookup Zra=some ⟨oc_is_board,od_is_board,.func (PySem.W.fnOf "is_board" "is_board" (Zv ZnQ) (Zq ZnQ) (Zf ZnQ) .none kV_is_board dc_is_board Zn4 an_is_board cd_is_board ct_is_board),sl_is_board⟩)(Zpn:PySem.W.codeIn K cd_is_board "is_board"=true)(ZqT:PySem.W.keepIn K (.ref Zra)=true)(Zp9:PySem.W.nsIn K mainGlobals "check_board"=some (some (.ref Zp4)))(Zpv:K.lookup Zp4=some ⟨oc_check_board,od_check_board,.func (PySem.W.fnOf "check_board" "check_board" (Zv ZmY) (Zq ZmY) (Zf ZmY) .none kV_check_board dc_check_board Znf an_check_board cd_check_board ct_check_board),sl_check_board⟩)(ZnE:PySem.W.codeIn K cd_check_board "check_board"=true)(Zpz:PySem.W.keepIn K (.ref Zp4)=true)(Zop:PySem.W.nsIn K mainGlobals "last_with_seeds"=some (some (.ref Zol)))(Zof:K.lookup Zol=some ⟨oc_last_with_seeds,od_last_with_seeds,.func (PySem.W.fnOf "last_with_seeds" "last_with_seeds" (Zv Zm4) (Zq Zm4) (Zf Zm4) .none kV_last_with_seeds dc_last_with_seeds Zm0 an_last_with_seeds cd_last_with_seeds ct_last_with_seeds),sl_last_with_seeds⟩)(Zni:PySem.W.codeIn K cd_last_with_seeds "last_with_seeds"=true)(Zoi:PySem.W.keepIn K (.ref Zol)=true)(ZpZ:PySem.W.nsIn K mainGlobals "next_board"=some (some (.ref ZpR)))(ZpF:K.lookup ZpR=some ⟨oc_next_board,od_next_board,.func (PySem.W.fnOf "next_board" "next_board" (Zv Znj) (Zq Znj) (Zf Znj) .none kV_next_board dc_next_board ZmD an_next_board cd_next_board ct_next_board),sl_next_board⟩)(Zov:PySem.W.codeIn K cd_next_board "next_board"=true)(ZpL:PySem.W.keepIn K (.ref ZpR)=true)(Zsa:PySem.W.nsIn K mainGlobals "is_pit"=some (some (.ref ZrU)))(ZrO:K.lookup ZrU=some ⟨oc_is_pit,od_is_pit,.func (PySem.W.fnOf "is_pit" "is_pit" (Zv ZoR) (Zq ZoR) (Zf ZoR) .none kV_is_pit dc_is_pit Zou an_is_pit cd_is_pit ct_is_pit),sl_is_pit⟩)(ZqE:PySem.W.codeIn K cd_is_pit "is_pit"=true)(ZrP:PySem.W.keepIn K (.ref ZrU)=true)(Zq3:PySem.W.nsIn K mainGlobals "check_pit"=some (some (.ref Zqx)))(Zqm:K.lookup Zqx=some ⟨oc_check_pit,od_check_pit,.func (PySem.W.fnOf "check_pit" "check_pit" (Zv Znz) (Zq Znz) (Zf Znz) .none kV_check_pit dc_check_pit Zn5 an_check_pit cd_check_pit ct_check_pit),sl_check_pit⟩)(ZoL:PySem.W.codeIn K cd_check_pit "check_pit"=true)(Zqr:PySem.W.keepIn K (.ref Zqx)=true)(ZoA:PySem.W.nsIn K mainGlobals "check_standing"=some (some (.ref Zo7)))(Zo1:K.lookup Zo7=some ⟨oc_check_standing,od_check_standing,.func (PySem.W.fnOf "check_standing" "check_standing" (Zv Zm9) (Zq Zm9) (Zf Zm9) .none kV_check_standing dc_check_standing ZmB an_check_standing cd_check_standing ct_check_standing),sl_check_standing⟩)(Znv:PySem.W.codeIn K cd_check_standing "check_standing"=true)(Zo4:PySem.W.keepIn K (.ref Zo7)=true)(Zp7:PySem.W.nsIn K mainGlobals "check_round"=some (some (.ref Zp2)))(Zpt:K.lookup Zp2=some ⟨oc_check_round,od_check_round,.func (PySem.W.fnOf "check_round" "check_round" (Zv ZmX) (Zq ZmX) (Zf ZmX) .none kV_check_round dc_check_round Zne an_check_round cd_check_round ct_check_round),sl_check_round⟩)(Zob:PySem.W.codeIn K cd_check_round "check_round"=true)(Zpx:PySem.W.keepIn K (.ref Zp2)=true)(Zr9:PySem.W.nsIn K mainGlobals "sow_pit"=some (some (.ref Zr5)))(Zr0:K.lookup Zr5=some ⟨oc_sow_pit,od_sow_pit,.func (PySem.W.fnOf "sow_pit" "sow_pit" (Zv Zot) (Zq Zot) (Zf Zot) .none kV_sow_pit dc_sow_pit ZnS an_sow_pit cd_sow_pit ct_sow_pit),sl_sow_pit⟩)(Zpk:PySem.W.codeIn K cd_sow_pit "sow_pit"=true)(Zr1:PySem.W.keepIn K (.ref Zr5)=true)(Zph:PySem.W.nsIn K mainGlobals "check_length"=some (some (.ref Zpc)))(ZoU:K.lookup Zpc=some ⟨oc_check_length,od_check_length,.func (PySem.W.fnOf "check_length" "check_length" (Zv ZmO) (Zq ZmO) (Zf ZmO) .none kV_check_length dc_check_length ZmV an_check_length cd_check_length ct_check_length),sl_check_length⟩)(ZnF:PySem.W.codeIn K cd_check_length "check_length"=true)(ZoY:PySem.W.keepIn K (.ref Zpc)=true)(Zri:PySem.W.nsIn K mainGlobals "round_of"=some (some (.ref ZqY)))(ZqN:K.lookup ZqY=some ⟨oc_round_of,od_round_of,.func (PySem.W.fnOf "round_of" "round_of" (Zv ZnO) (Zq ZnO) (Zf ZnO) .none kV_round_of dc_round_of Zn3 an_round_of cd_round_of ct_round_of),sl_round_of⟩)(Zpl:PySem.W.codeIn K cd_round_of "round_of"=true)(ZqR:PySem.W.keepIn K (.ref ZqY)=true)(Zq2:PySem.W.nsIn K mainGlobals "see_round"=some (some (.ref Zqw)))(Zql:K.lookup Zqw=some ⟨oc_see_round,od_see_round,.func (PySem.W.fnOf "see_round" "see_round" (Zv Zny) (Zq Zny) (Zf Zny) .none kV_see_round dc_see_round Znp an_see_round cd_see_round ct_see_round),sl_see_round⟩)(ZoK:PySem.W.codeIn K cd_see_round "see_round"=true)(Zqq:PySem.W.keepIn K (.ref Zqw)=true)(Zqa:PySem.W.nsIn K mainGlobals "new_rounds"=some (some (.ref ZpS)))(ZpG:K.lookup ZpS=some ⟨oc_new_rounds,od_new_rounds,.func (PySem.W.fnOf "new_rounds" "new_rounds" (Zv Znk) (Zq Znk) (Zf Znk) .none kV_new_rounds dc_new_rounds ZmZ an_new_rounds cd_new_rounds ct_new_rounds),sl_new_rounds⟩)(Zow:PySem.W.codeIn K cd_new_rounds "new_rounds"=true)(ZpM:PySem.W.keepIn K (.ref ZpS)=true)(Zqc:PySem.W.nsIn K mainGlobals "all_rounds"=some (some (.ref ZpU)))(ZpI:K.lookup ZpU=some ⟨oc_all_rounds,od_all_rounds,.func (PySem.W.fnOf "all_rounds" "all_rounds" (Zv Znm) (Zq Znm) (Zf Znm) .none kV_all_rounds dc_all_rounds Zna an_all_rounds cd_all_rounds ct_all_rounds),sl_all_rounds⟩)(Zox:PySem.W.codeIn K cd_all_rounds "all_rounds"=true)(ZpO:PySem.W.keepIn K (.ref ZpU)=true)(Zq4:PySem.W.nsIn K mainGlobals "_law_told"=some (some (.ref Zqy)))(Zqn:K.lookup Zqy=some ⟨oc__law_told,od__law_told,.func (PySem.W.fnOf "_law_told" "_law_told" (Zv Zn0) (Zq Zn0) (Zf Zn0) .none kV__law_told dc__law_told Znq an__law_told cd__law_told ct__law_told),sl__law_told⟩)(Zon:PySem.W.codeIn K cd__law_told "_law_told"=true)(Zqs:PySem.W.keepIn K (.ref Zqy)=true)(Zqe:PySem.W.nsIn K mainGlobals "_law_count"=some (some (.ref ZpW)))(ZpK:K.lookup ZpW=some ⟨oc__law_count,od__law_count,.func (PySem.W.fnOf "_law_count" "_law_count" (Zv Zno) (Zq Zno) (Zf Zno) .none kV__law_count dc__law_count Znc an__law_count cd__law_count ct__law_count),sl__law_count⟩)(ZnA:PySem.W.codeIn K cd__law_count "_law_count"=true)(ZpQ:PySem.W.keepIn K (.ref ZpW)=true)(Zq6:PySem.W.nsIn K mainGlobals "_law_sown"=some (some (.ref Zq0)))(Zqp:K.lookup Zq0=some ⟨oc__law_sown,od__law_sown,.func (PySem.W.fnOf "_law_sown" "_law_sown" (Zv Zn2) (Zq Zn2) (Zf Zn2) .none kV__law_sown dc__law_sown Zns an__law_sown cd__law_sown ct__law_sown),sl__law_sown⟩)(ZoN:PySem.W.codeIn K cd__law_sown "_law_sown"=true)(Zqu:PySem.W.keepIn K (.ref Zq0)=true)(Zoq:PySem.W.nsIn K mainGlobals "_law_board_same"=some (some (.ref Zom)))(Zog:K.lookup Zom=some ⟨oc__law_board_same,od__law_board_same,.func (PySem.W.fnOf "_law_board_same" "_law_board_same" (Zv Zm5) (Zq Zm5) (Zf Zm5) .none kV__law_board_same dc__law_board_same Zm7 an__law_board_same cd__law_board_same ct__law_board_same),sl__law_board_same⟩)(ZmU:PySem.W.codeIn K cd__law_board_same "_law_board_same"=true)(Zoj:PySem.W.keepIn K (.ref Zom)=true)(Zoc:PySem.W.nsIn K mainGlobals "_law_round_right"=some (some (.ref ZnY)))(ZnW:K.lookup ZnY=some ⟨oc__law_round_right,od__law_round_right,.func (PySem.W.fnOf "_law_round_right" "_law_round_right" (Zv Zmy) (Zq Zmy) (Zf Zmy) .none kV__law_round_right dc__law_round_right Zmw an__law_round_right cd__law_round_right ct__law_round_right),sl__law_round_right⟩)(Znd:PySem.W.codeIn K cd__law_round_right "_law_round_right"=true)(ZnX:PySem.W.keepIn K (.ref ZnY)=true)(ZoB:PySem.W.nsIn K mainGlobals "_law_all_right"=some (some (.ref Zo8)))(Zo2:K.lookup Zo8=some ⟨oc__law_all_right,od__law_all_right,.func (PySem.W.fnOf "_law_all_right" "_law_all_right" (Zv ZmA) (Zq ZmA) (Zf ZmA) .none kV__law_all_right dc__law_all_right ZmC an__law_all_right cd__law_all_right ct__law_all_right),sl__law_all_right⟩)(Znw:PySem.W.codeIn K cd__law_all_right "_law_all_right"=true)(Zo5:PySem.W.keepIn K (.ref Zo8)=true)(Ztb:PySem.W.nsIn K mainGlobals "law"=some (some (.ref ZsZ)))(ZsX:K.lookup ZsZ=some ⟨oc_law,od_law,.func (PySem.W.fnOf "law" "law" (Zv Zse) (Zq Zse) (Zf Zse) .none kV_law dc_law Zrz an_law cd_law ct_law),sl_law⟩)(Zta:PySem.W.codeIn K cd_law "law"=true)(ZsY:PySem.W.keepIn K (.ref ZsZ)=true){t_FEWEST_PITS:Tok}(a_FEWEST_PITS:PySem.W.nsIn K mainGlobals "FEWEST_PITS"=some (some (.int 2 t_FEWEST_PITS))){t_LONGEST:Tok}(a_LONGEST:PySem.W.nsIn K mainGlobals "LONGEST"=some (some (.int 20000 t_LONGEST))){t_MOST_PITS:Tok}(a_MOST_PITS:PySem.W.nsIn K mainGlobals "MOST_PITS"=some (some (.int 24 t_MOST_PITS))){t_MOST_STANDINGS:Tok}(a_MOST_STANDINGS:PySem.W.nsIn K mainGlobals "MOST_STANDINGS"=some (some (.int 3000 t_MOST_STANDINGS)))(z_all:PySem.W.nsIn K mainGlobals "all"=some none)(z_bool:PySem.W.nsIn K mainGlobals "bool"=some none)(z_int:PySem.W.nsIn K mainGlobals "int"=some none)(z_isinstance:PySem.W.nsIn K mainGlobals "isinstance"=some none)(z_len:PySem.W.nsIn K mainGlobals "len"=some none)(z_list:PySem.W.nsIn K mainGlobals "list"=some none)(z_min:PySem.W.nsIn K mainGlobals "min"=some none)(z_range:PySem.W.nsIn K mainGlobals "range"=some none)(z_sum:PySem.W.nsIn K mainGlobals "sum"=some none)(z_tuple:PySem.W.nsIn K mainGlobals "tuple"=some none)(x_tab:Zhv K XN XS=true)(x_exc:Zil K XR=true){C_SowError fm_SowError:Addr}{odm_SowError anm_SowError:Option Addr}{slm_SowError:Array (Option Value)}{ocm_SowError kVm_SowError dcm_SowError pmm_SowError cdm_SowError ctm_SowError:Value}(am_SowError:PySem.W.nsIn K mainGlobals "SowError"=some (some (.ref C_SowError)))(fm1_SowError:PySem.W.findIn K (.ref C_SowError) "called"=some (some (.ref fm_SowError)))(tm_SowError:PySem.W.typeIn K (.ref fm_SowError)=some (.type "function"))(lm_SowError:K.lookup fm_SowError=some ⟨ocm_SowError,odm_SowError,.func (PySem.W.fnOf "called" "SowError.called" (Zv J1) (Zq J1) (Zf J1) .none kVm_SowError dcm_SowError pmm_SowError anm_SowError cdm_SowError ctm_SowError),slm_SowError⟩)(cm_SowError:PySem.W.codeIn K cdm_SowError "SowError.called"=true)(km_SowError:PySem.W.keepIn K (.ref fm_SowError)=true){C_BadBoard fm_BadBoard:Addr}{odm_BadBoard anm_BadBoard:Option Addr}{slm_BadBoard:Array (Option Value)}{ocm_BadBoard kVm_BadBoard dcm_BadBoard pmm_BadBoard cdm_BadBoard ctm_BadBoard:Value}(am_BadBoard:PySem.W.nsIn K mainGlobals "BadBoard"=some (some (.ref C_BadBoard)))(fm1_BadBoard:PySem.W.findIn K (.ref C_BadBoard) "called"=some (some (.ref fm_BadBoard)))(tm_BadBoard:PySem.W.typeIn K (.ref fm_BadBoard)=some (.type "function"))(lm_BadBoard:K.lookup fm_BadBoard=some ⟨ocm_BadBoard,odm_BadBoard,.func (PySem.W.fnOf "called" "BadBoard.called" (Zv J3) (Zq J3) (Zf J3) .none kVm_BadBoard dcm_BadBoard pmm_BadBoard anm_BadBoard cdm_BadBoard ctm_BadBoard),slm_BadBoard⟩)(cm_BadBoard:PySem.W.codeIn K cdm_BadBoard "BadBoard.called"=true)(km_BadBoard:PySem.W.keepIn K (.ref fm_BadBoard)=true){C_BadPit fm_BadPit:Addr}{odm_BadPit anm_BadPit:Option Addr}{slm_BadPit:Array (Option Value)}{ocm_BadPit kVm_BadPit dcm_BadPit pmm_BadPit cdm_BadPit ctm_BadPit:Value}(am_BadPit:PySem.W.nsIn K mainGlobals "BadPit"=some (some (.ref C_BadPit)))(fm1_BadPit:PySem.W.findIn K (.ref C_BadPit) "called"=some (some (.ref fm_BadPit)))(tm_BadPit:PySem.W.typeIn K (.ref fm_BadPit)=some (.type "function"))(lm_BadPit:K.lookup fm_BadPit=some ⟨ocm_BadPit,odm_BadPit,.func (PySem.W.fnOf "called" "BadPit.called" (Zv Vf) (Zq Vf) (Zf Vf) .none kVm_BadPit dcm_BadPit pmm_BadPit anm_BadPit cdm_BadPit ctm_BadPit),slm_BadPit⟩)(cm_BadPit:PySem.W.codeIn K cdm_BadPit "BadPit.called"=true)(km_BadPit:PySem.W.keepIn K (.ref fm_BadPit)=true){C_BadCount fm_BadCount:Addr}{odm_BadCount anm_BadCount:Option Addr}{slm_BadCount:Array (Option Value)}{ocm_BadCount kVm_BadCount dcm_BadCount pmm_BadCount cdm_BadCount ctm_BadCount:Value}(am_BadCount:PySem.W.nsIn K mainGlobals "BadCount"=some (some (.ref C_BadCount)))(fm1_BadCount:PySem.W.findIn K (.ref C_BadCount) "called"=some (some (.ref fm_BadCount)))(tm_BadCount:PySem.W.typeIn K (.ref fm_BadCount)=some (.type "function"))(lm_BadCount:K.lookup fm_BadCount=some ⟨ocm_BadCount,odm_BadCount,.func (PySem.W.fnOf "called" "BadCount.called" (Zv J2) (Zq J2) (Zf J2) .none kVm_BadCount dcm_BadCount pmm_BadCount anm_BadCount cdm_BadCount ctm_BadCount),slm_BadCount⟩)(cm_BadCount:PySem.W.codeIn K cdm_BadCount "BadCount.called"=true)(km_BadCount:PySem.W.keepIn K (.ref fm_BadCount)=true){C_NoSeeds fm_NoSeeds:Addr}{odm_NoSeeds anm_NoSeeds:Option Addr}{slm_NoSeeds:Array (Option Value)}{ocm_NoSeeds kVm_NoSeeds dcm_NoSeeds pmm_NoSeeds cdm_NoSeeds ctm_NoSeeds:Value}(am_NoSeeds:PySem.W.nsIn K mainGlobals "NoSeeds"=some (some (.ref C_NoSeeds)))(fm1_NoSeeds:PySem.W.findIn K (.ref C_NoSeeds) "called"=some (some (.ref fm_NoSeeds)))(tm_NoSeeds:PySem.W.typeIn K (.ref fm_NoSeeds)=some (.type "function"))(lm_NoSeeds:K.lookup fm_NoSeeds=some ⟨ocm_NoSeeds,odm_NoSeeds,.func (PySem.W.fnOf "called" "NoSeeds.called" (Zv JO) (Zq JO) (Zf JO) .none kVm_NoSeeds dcm_NoSeeds pmm_NoSeeds anm_NoSeeds cdm_NoSeeds ctm_NoSeeds),slm_NoSeeds⟩)(cm_NoSeeds:PySem.W.codeIn K cdm_NoSeeds "NoSeeds.called"=true)(km_NoSeeds:PySem.W.keepIn K (.ref fm_NoSeeds)=true){C_TooLong fm_TooLong:Addr}{odm_TooLong anm_TooLong:Option Addr}{slm_TooLong:Array (Option Value)}{ocm_TooLong kVm_TooLong dcm_TooLong pmm_TooLong cdm_TooLong ctm_TooLong:Value}(am_TooLong:PySem.W.nsIn K mainGlobals "TooLong"=some (some (.ref C_TooLong)))(fm1_TooLong:PySem.W.findIn K (.ref C_TooLong) "called"=some (some (.ref fm_TooLong)))(tm_TooLong:PySem.W.typeIn K (.ref fm_TooLong)=some (.type "function"))(lm_TooLong:K.lookup fm_TooLong=some ⟨ocm_TooLong,odm_TooLong,.func (PySem.W.fnOf "called" "TooLong.called" (Zv JN) (Zq JN) (Zf JN) .none kVm_TooLong dcm_TooLong pmm_TooLong anm_TooLong cdm_TooLong ctm_TooLong),slm_TooLong⟩)(cm_TooLong:PySem.W.codeIn K cdm_TooLong "TooLong.called"=true)(km_TooLong:PySem.W.keepIn K (.ref fm_TooLong)=true){C_TooMany fm_TooMany:Addr}{odm_TooMany anm_TooMany:Option Addr}{slm_TooMany:Array (Option Value)}{ocm_TooMany kVm_TooMany dcm_TooMany pmm_TooMany cdm_TooMany ctm_TooMany:Value}(am_TooMany:PySem.W.nsIn K mainGlobals "TooMany"=some (some (.ref C_TooMany)))(fm1_TooMany:PySem.W.findIn K (.ref C_TooMany) "called"=some (some (.ref fm_TooMany)))(tm_TooMany:PySem.W.typeIn K (.ref fm_TooMany)=some (.type "function"))(lm_TooMany:K.lookup fm_TooMany=some ⟨ocm_TooMany,odm_TooMany,.func (PySem.W.fnOf "called" "TooMany.called" (Zv JM) (Zq JM) (Zf JM) .none kVm_TooMany dcm_TooMany pmm_TooMany anm_TooMany cdm_TooMany ctm_TooMany),slm_TooMany⟩)(cm_TooMany:PySem.W.codeIn K cdm_TooMany "TooMany.called"=true)(km_TooMany:PySem.W.keepIn K (.ref fm_TooMany)=true)
  :Txt K mg:=by
 refine⟨?_, ?_, ?_, ?_, ?_, ?_, ?_, ?_, ?_, ?_, ?_, ?_, ?_, ?_, ?_, ?_, ?_, ?_, ?_, ?_, ?_, ?_, ?_, ?_, ?_, ?_, ?_, ?_, ?_, ?_, ?_, ?_, ?_, ?_, ?_, ?_, ?_, ?_, ?_, ?_, ?_, ?_, ?_, ?_, ?_, ?_, ?_, ?_, ?_,x_tab,x_exc,fun n C e=>PySem.W.mg_of X G e,⟨_,_,_,am_SowError,fm1_SowError,tm_SowError,ZF (st:=J1) lm_SowError cm_SowError km_SowError⟩,⟨_,_,_,am_BadBoard,fm1_BadBoard,tm_BadBoard,ZF (st:=J3) lm_BadBoard cm_BadBoard km_BadBoard⟩,⟨_,_,_,am_BadPit,fm1_BadPit,tm_BadPit,ZF (st:=Vf) lm_BadPit cm_BadPit km_BadPit⟩,⟨_,_,_,am_BadCount,fm1_BadCount,tm_BadCount,ZF (st:=J2) lm_BadCount cm_BadCount km_BadCount⟩,⟨_,_,_,am_NoSeeds,fm1_NoSeeds,tm_NoSeeds,ZF (st:=JO) lm_NoSeeds cm_NoSeeds km_NoSeeds⟩,⟨_,_,_,am_TooLong,fm1_TooLong,tm_TooLong,ZF (st:=JN) lm_TooLong cm_TooLong km_TooLong⟩,⟨_,_,_,am_TooMany,fm1_TooMany,tm_TooMany,ZF (st:=JM) lm_TooMany cm_TooMany km_TooMany⟩⟩
 ·exact⟨_,_,ZF (st:=ZmQ) ZoW ZnH Zpa,PySem.W.mg_of X G Zpj⟩
 ·exact⟨_,_,ZF (st:=ZmP) ZoV ZnG ZoZ,PySem.W.mg_of X G Zpi⟩
 ·exact⟨_,_,ZF (st:=Zn1) Zqo ZoM Zqt,PySem.W.mg_of X G Zq5⟩
 ·exact⟨_,_,ZF (st:=Znn) ZpJ Zoy ZpP,PySem.W.mg_of X G Zqd⟩
 ·exact⟨_,_,ZF (st:=ZnP) ZqO Zpm ZqS,PySem.W.mg_of X G Zrj⟩
 ·exact⟨_,_,ZF (st:=ZmE) ZoG ZmH ZoH,PySem.W.mg_of X G ZoP⟩
 ·exact⟨_,_,ZF (st:=Znl) ZpH Zn9 ZpN,PySem.W.mg_of X G Zqb⟩
 ·exact⟨_,_,ZF (st:=ZmN) ZoT ZmT ZoX,PySem.W.mg_of X G Zpg⟩
 ·exact⟨_,_,ZF (st:=Zm3) Zoe Znh Zoh,PySem.W.mg_of X G Zoo⟩
 ·exact⟨_,_,ZF (st:=ZnR) ZqQ Zpo ZqU,PySem.W.mg_of X G Zrl⟩
 ·exact⟨_,_,ZF (st:=ZmL) Zpu ZnD Zpy,PySem.W.mg_of X G Zp8⟩
 ·exact⟨_,_,ZF (st:=ZmK) Zps Zoa Zpw,PySem.W.mg_of X G Zp6⟩
 ·exact⟨_,_,ZF (st:=Zm8) Zo0 Znu Zo3,PySem.W.mg_of X G Zo9⟩
 ·exact⟨_,_,ZF (st:=Zmv) Zn6 ZmI Zn7,PySem.W.mg_of X G ZnB⟩
 ·exact⟨_,_,ZF (st:=ZnQ) ZqP Zpn ZqT,PySem.W.mg_of X G Zrk⟩
 ·exact⟨_,_,ZF (st:=ZmY) Zpv ZnE Zpz,PySem.W.mg_of X G Zp9⟩
 ·exact⟨_,_,ZF (st:=Zm4) Zof Zni Zoi,PySem.W.mg_of X G Zop⟩
 ·exact⟨_,_,ZF (st:=Znj) ZpF Zov ZpL,PySem.W.mg_of X G ZpZ⟩
 ·exact⟨_,_,ZF (st:=ZoR) ZrO ZqE ZrP,PySem.W.mg_of X G Zsa⟩
 ·exact⟨_,_,ZF (st:=Znz) Zqm ZoL Zqr,PySem.W.mg_of X G Zq3⟩
 ·exact⟨_,_,ZF (st:=Zm9) Zo1 Znv Zo4,PySem.W.mg_of X G ZoA⟩
 ·exact⟨_,_,ZF (st:=ZmX) Zpt Zob Zpx,PySem.W.mg_of X G Zp7⟩
 ·exact⟨_,_,ZF (st:=Zot) Zr0 Zpk Zr1,PySem.W.mg_of X G Zr9⟩
 ·exact⟨_,_,ZF (st:=ZmO) ZoU ZnF ZoY,PySem.W.mg_of X G Zph⟩
 ·exact⟨_,_,ZF (st:=ZnO) ZqN Zpl ZqR,PySem.W.mg_of X G Zri⟩
 ·exact⟨_,_,ZF (st:=Zny) Zql ZoK Zqq,PySem.W.mg_of X G Zq2⟩
 ·exact⟨_,_,ZF (st:=Znk) ZpG Zow ZpM,PySem.W.mg_of X G Zqa⟩
 ·exact⟨_,_,ZF (st:=Znm) ZpI Zox ZpO,PySem.W.mg_of X G Zqc⟩
 ·exact⟨_,_,ZF (st:=Zn0) Zqn Zon Zqs,PySem.W.mg_of X G Zq4⟩
 ·exact⟨_,_,ZF (st:=Zno) ZpK ZnA ZpQ,PySem.W.mg_of X G Zqe⟩
 ·exact⟨_,_,ZF (st:=Zn2) Zqp ZoN Zqu,PySem.W.mg_of X G Zq6⟩
 ·exact⟨_,_,ZF (st:=Zm5) Zog ZmU Zoj,PySem.W.mg_of X G Zoq⟩
 ·exact⟨_,_,ZF (st:=Zmy) ZnW Znd ZnX,PySem.W.mg_of X G Zoc⟩
 ·exact⟨_,_,ZF (st:=ZmA) Zo2 Znw Zo5,PySem.W.mg_of X G ZoB⟩
 ·exact⟨_,_,ZF (st:=Zse) ZsX Zta ZsY,PySem.W.mg_of X G Ztb⟩
 ·exact⟨_,PySem.W.mg_of X G a_FEWEST_PITS⟩
 ·exact⟨_,PySem.W.mg_of X G a_LONGEST⟩
 ·exact⟨_,PySem.W.mg_of X G a_MOST_PITS⟩
 ·exact⟨_,PySem.W.mg_of X G a_MOST_STANDINGS⟩
 ·exact PySem.W.mg_none_of X G z_all
 ·exact PySem.W.mg_none_of X G z_bool
 ·exact PySem.W.mg_none_of X G z_int
 ·exact PySem.W.mg_none_of X G z_isinstance
 ·exact PySem.W.mg_none_of X G z_len
 ·exact PySem.W.mg_none_of X G z_list
 ·exact PySem.W.mg_none_of X G z_min
 ·exact PySem.W.mg_none_of X G z_range
 ·exact PySem.W.mg_none_of X G z_sum
 ·exact PySem.W.mg_none_of X G z_tuple
end My
namespace PySem.W.Fast
noncomputable def tw4976138355837478944:=()
noncomputable def tw13926661285028149344:=()
noncomputable def tw1356204387072232640:=()
noncomputable def tw7390392526841838816:=()
noncomputable def tw17341443393365241184:=()
noncomputable def tw17428600937703891328:=()
noncomputable def tw16855290299596813888:=()
noncomputable def tw5368343877246585536:=()
noncomputable def tw4643205734225224480:=()
noncomputable def tw14896466627322810336:=()
noncomputable def tw9627682192554088577:=()
noncomputable def tw6109250788080263329:=()
noncomputable def tw9237774921068596513:=()
noncomputable def tw3310104953622964545:=()
noncomputable def tw13199679028777740641:=()
noncomputable def tw9983263842303444417:=()
noncomputable def tw1704147930628060641:=()
noncomputable def tw3336233206876432865:=()
noncomputable def tw16118679667610201857:=()
noncomputable def tw9734338071221631905:=()
noncomputable def tw3755840809884593314:=()
noncomputable def tw12049309885425363298:=()
noncomputable def tw6169440705986074978:=()
noncomputable def tw9137664459092226434:=()
noncomputable def tw310900631397690818:=()
noncomputable def tw9605155795683211746:=()
noncomputable def tw2994017223932712450:=()
noncomputable def tw7928664129766817346:=()
noncomputable def tw10915323163542461122:=()
noncomputable def tw1634724660674269954:=()
noncomputable def tw12565593868008012642:=()
noncomputable def tw13420990672116370499:=()
noncomputable def tw15499698564756885635:=()
noncomputable def tw7335631825167300835:=()
noncomputable def tw14344592504496029987:=()
noncomputable def tw10973329348127679875:=()
noncomputable def tw15851638485154374147:=()
noncomputable def tw14526725875731914531:=()
noncomputable def tw8075512266440790883:=()
noncomputable def tw7588557331688075203:=()
noncomputable def tw1745988299286745124:=()
noncomputable def tw11203348317431731300:=()
noncomputable def tw17879963670767452484:=()
noncomputable def tw16443097191644542372:=()
noncomputable def tw10252544744154997476:=()
noncomputable def tw4242859097974655716:=()
noncomputable def tw14997184991611135812:=()
noncomputable def tw16383824644771431557:=()
noncomputable def tw10188597205452917989:=()
noncomputable def tw12053161480643567909:=()
noncomputable def tw1159702077339440517:=()
noncomputable def tw12266372124837470693:=()
noncomputable def tw16988883753709008421:=()
noncomputable def tw7980450471881762597:=()
noncomputable def tw6014142162325109798:=()
noncomputable def tw10515221065551848518:=()
noncomputable def tw3818473224002796678:=()
noncomputable def tw17663606507566895334:=()
noncomputable def tw13699929497629931910:=()
noncomputable def tw13003421834408169126:=()
noncomputable def tw5935191582736481990:=()
noncomputable def tw5075855390758907622:=()
noncomputable def tw2957848870300562214:=()
noncomputable def tw9256193696244408134:=()
noncomputable def tw14221605488033953702:=()
noncomputable def tw18416965886911397927:=()
noncomputable def tw166047563309552935:=()
noncomputable def tw15547148378835647143:=()
noncomputable def tw7220946529845179143:=()
noncomputable def tw8215022932238134280:=()
noncomputable def tw14631124943569752296:=()
noncomputable def tw9988630077829915880:=()
noncomputable def tw13992983199574651112:=()
noncomputable def tw3587333170316902728:=()
noncomputable def tw5116678824015778152:=()
noncomputable def tw1726803702095231432:=()
noncomputable def tw13965964034813155784:=()
noncomputable def tw13270339781096731176:=()
noncomputable def tw8787943003184872072:=()
noncomputable def tw11219209193333133992:=()
noncomputable def tw3245154147150266024:=()
noncomputable def tw14840968483282648744:=()
noncomputable def tw89322374557750984:=()
noncomputable def tw17959893127777461000:=()
noncomputable def tw227457331128280840:=()
noncomputable def tw9490917117452040968:=()
noncomputable def tw10058533555192188712:=()
noncomputable def tw17786147171845210920:=()
noncomputable def tw2240183266293873448:=()
noncomputable def tw5764550476944060232:=()
noncomputable def tw8965639668968750217:=()
noncomputable def tw9911893815772661993:=()
noncomputable def tw1593711989419306281:=()
noncomputable def tw5600456414201480585:=()
noncomputable def tw732387888283877833:=()
noncomputable def tw17164319645063092777:=()
noncomputable def tw11959915593085470313:=()
noncomputable def tw13189083907609696937:=()
noncomputable def tw15636176950427230057:=()
noncomputable def tw6202475136412254089:=()
noncomputable def tw5666067618537855114:=()
noncomputable def tw931268883196278954:=()
noncomputable def tw3784914002310272170:=()
noncomputable def tw4869671467796203690:=()
noncomputable def tw11254517411942654282:=()
noncomputable def tw2349169630388847146:=()
noncomputable def tw6383073908540904074:=()
noncomputable def tw12201734199199996650:=()
noncomputable def tw7868537924797215498:=()
noncomputable def tw9727625551193193643:=()
noncomputable def tw11599766179529416939:=()
noncomputable def tw13045418427107452235:=()
noncomputable def tw3947805393573086667:=()
noncomputable def tw14776641392841537003:=()
noncomputable def tw8577064240069635595:=()
noncomputable def tw8708694003420085067:=()
noncomputable def tw14384228877368787148:=()
noncomputable def tw14527527441606355212:=()
noncomputable def tw10959444740132528684:=()
noncomputable def tw9998015165630681676:=()
noncomputable def tw9826647152528892620:=()
noncomputable def tw4773860753151544012:=()
noncomputable def tw8467334328146976813:=()
noncomputable def tw9643341553065019629:=()
noncomputable def tw3537989537117328013:=()
noncomputable def tw15166745991356733197:=()
noncomputable def tw3893854216307026861:=()
noncomputable def tw1998801989812024430:=()
noncomputable def tw8139295440090559630:=()
noncomputable def tw9988016787425202318:=()
noncomputable def tw5752458380346055886:=()
noncomputable def tw6344308934070366510:=()
noncomputable def tw4351421496615116110:=()
noncomputable def tw13501313872023306894:=()
noncomputable def tw8951968395376093902:=()
noncomputable def tw15527821119288844014:=()
noncomputable def tw17196705926592930638:=()
noncomputable def tw13620272114379019086:=()
noncomputable def tw7195669929894908782:=()
noncomputable def tw16638245259696721967:=()
noncomputable def tw14820786177814918351:=()
noncomputable def tw7508309417308334575:=()
noncomputable def tw17221668814197016047:=()
noncomputable def tw10477799705765001775:=()
noncomputable def tw14328024751014619727:=()
noncomputable def tw8263984405041881871:=()
noncomputable def tw2436391982895911855:=()
noncomputable def tw11762247823516090351:=()
noncomputable def tw5138923366095491216:=()
noncomputable def tw5142408054083220688:=()
noncomputable def tw943949673899604208:=()
noncomputable def tw1480190550470404368:=()
noncomputable def tw9714828381820080400:=()
noncomputable def tw5320748113895164368:=()
noncomputable def tw1429283200726254128:=()
noncomputable def tw13370784768682415696:=()
noncomputable def tw8233090695727655536:=()
noncomputable def tw4335139400056296112:=()
noncomputable def tw6875020947463758672:=()
noncomputable def tw1953168053671672784:=()
noncomputable def tw15050644590732208177:=()
noncomputable def tw10952025963632680049:=()
noncomputable def tw16287781908973146417:=()
noncomputable def tw12116489758638452081:=()
noncomputable def tw549864999894273489:=()
noncomputable def tw4661900212235611761:=()
noncomputable def tw16287473423109418641:=()
noncomputable def tw11706746965205138065:=()
noncomputable def tw16718413194405999377:=()
noncomputable def tw8006053130320848689:=()
noncomputable def tw11736147486275240817:=()
noncomputable def tw958462952724159570:=()
noncomputable def tw17456963810135454002:=()
noncomputable def tw11894546656693779762:=()
noncomputable def tw8703745832516191634:=()
noncomputable def tw8253260204888576882:=()
noncomputable def tw10697890494044346515:=()
noncomputable def tw9897816645576722707:=()
noncomputable def tw13494134182452633939:=()
noncomputable def tw17879040097322387923:=()
noncomputable def tw14085901325090201203:=()
noncomputable def tw263507130565350099:=()
noncomputable def tw4546765303493410739:=()
noncomputable def tw17271947602908605363:=()
noncomputable def tw11880819232497859668:=()
noncomputable def tw9440598104929813748:=()
noncomputable def tw2764737589032817076:=()
noncomputable def tw17895784273623961044:=()
noncomputable def tw17310831611084946196:=()
noncomputable def tw14708215015114905556:=()
noncomputable def tw15262900849703057525:=()
noncomputable def tw17483198198051568821:=()
noncomputable def tw14103519076521316821:=()
noncomputable def tw7132515337998198229:=()
noncomputable def tw17611071152455175765:=()
noncomputable def tw7397406012760450741:=()
noncomputable def tw2852563935793039029:=()
noncomputable def tw10222521379644538581:=()
noncomputable def tw6557963116249703510:=()
noncomputable def tw2752940315221209206:=()
noncomputable def tw13416112503882929398:=()
noncomputable def tw6999199704650972598:=()
noncomputable def tw18252586617281593814:=()
noncomputable def tw4260146109817463350:=()
noncomputable def tw8663040636984402646:=()
noncomputable def tw6456743585411047158:=()
noncomputable def tw9177559690350970678:=()
noncomputable def tw16107183594031437622:=()
noncomputable def tw2561676671402525526:=()
noncomputable def tw16580176235217260406:=()
noncomputable def tw15222012279425035190:=()
noncomputable def tw12628418541643539607:=()
noncomputable def tw7865524718366105911:=()
noncomputable def tw3696458224408042903:=()
noncomputable def tw12807903011787586999:=()
noncomputable def tw14137992692113935959:=()
noncomputable def tw6831592889498541655:=()
noncomputable def tw1066783105939576439:=()
noncomputable def tw10971862524744954551:=()
noncomputable def tw6907047134710403895:=()
noncomputable def tw5885962266832919511:=()
noncomputable def tw12412459232309418999:=()
noncomputable def tw666808233337788440:=()
noncomputable def tw13434428404881123640:=()
noncomputable def tw16377964333198629240:=()
noncomputable def tw6430040084356193816:=()
noncomputable def tw5980621235615956760:=()
noncomputable def tw13655702342671944504:=()
noncomputable def tw1799504200722431992:=()
noncomputable def tw14221593640494045241:=()
noncomputable def tw12521811470517707097:=()
noncomputable def tw5768648547175439737:=()
noncomputable def tw18239564463314148825:=()
noncomputable def tw18388005275333820889:=()
noncomputable def tw14710597643440235001:=()
noncomputable def tw16563690255647299065:=()
noncomputable def tw647290649679683097:=()
noncomputable def tw16485098453385838169:=()
noncomputable def tw14716880939900772185:=()
noncomputable def tw18237552329073433561:=()
noncomputable def tw13060894238283637721:=()
noncomputable def tw16048992417262957626:=()
noncomputable def tw18049554067350909050:=()
noncomputable def tw5067262968065873178:=()
noncomputable def tw14899371639856912666:=()
noncomputable def tw7719215138093302426:=()
noncomputable def tw94848708768399162:=()
noncomputable def tw12862846977319063354:=()
noncomputable def tw3797550360543766362:=()
noncomputable def tw15934182566344256346:=()
noncomputable def tw6375239480443580314:=()
noncomputable def tw11149880929267929018:=()
noncomputable def tw15153590704559738874:=()
noncomputable def tw8646603869226960955:=()
noncomputable def tw5032348861787278491:=()
noncomputable def tw9137354346267722011:=()
noncomputable def tw1148784945043583323:=()
noncomputable def tw8099927920107079099:=()
noncomputable def tw1183858194346398267:=()
noncomputable def tw15549199682083748475:=()
noncomputable def tw16753823819287666331:=()
noncomputable def tw17071172223051471547:=()
noncomputable def tw6507213651114403579:=()
noncomputable def tw2703380058223024923:=()
noncomputable def tw5668614691519463548:=()
noncomputable def tw13682729429327690940:=()
noncomputable def tw12549359149069477148:=()
noncomputable def tw11691397838522450204:=()
noncomputable def tw13617534208013225276:=()
noncomputable def tw6117828800522615100:=()
noncomputable def tw18348231476149386556:=()
noncomputable def tw763402234422510012:=()
noncomputable def tw11382547587122101980:=()
noncomputable def tw13785690144945232636:=()
noncomputable def tw4898303343987428124:=()
noncomputable def tw1831869639361491804:=()
noncomputable def tw12725961777790021564:=()
noncomputable def tw226781047075546044:=()
noncomputable def tw18059721008331197372:=()
noncomputable def tw7792229972262548509:=()
noncomputable def tw10066440189006300221:=()
noncomputable def tw11961774320860610653:=()
noncomputable def tw12309269787435691197:=()
noncomputable def tw16867007048812374333:=()
noncomputable def tw10677835953709356413:=()
noncomputable def tw3879999633337970301:=()
noncomputable def tw16817295723713215133:=()
noncomputable def tw17604647079556360925:=()
noncomputable def tw18303244064376369917:=()
noncomputable def tw2612231356087200573:=()
noncomputable def tw11692616500354834718:=()
noncomputable def tw7532821313225059646:=()
noncomputable def tw17713606367226973758:=()
noncomputable def tw12786676586778998366:=()
noncomputable def tw592251324804631550:=()
noncomputable def tw14257257207051705471:=()
noncomputable def tw4290223768117795103:=()
noncomputable def tw12384098825001383295:=()
noncomputable def tw4304970169048949279:=()
noncomputable def tw6825773517073175327:=()
noncomputable def tw1281336996647527263:=()
noncomputable def tw11681719593877375:=()
noncomputable def tw9971802547077908383:=()
noncomputable def tw5182878238474720159:=()
noncomputable def tw16680488885316744993:=()
noncomputable def tw7656623668897348285:=()
noncomputable def tw167705417090639950:=()
noncomputable def tw664959144992830134:=()
noncomputable def tw579960597082708199:=()
noncomputable def tw9797440923266661400:=()
noncomputable def tw10631909199213092900:=()
noncomputable def tw16122931777215945424:=()
end PySem.W.Fast
open PySem PySem.W PyProof.Rows
set_option maxRecDepth 100000 in
set_option maxHeartbeats 0 in
theorem PySem.Challenge.cw_sowring_k16_whole_all_rounds_holds : PySem.Challenge.rw_sowring_k16_whole_all_rounds.Holds := by
 w_on;o_law;k_head;(case hw=>w_witness2)
 k_fill
 refine L2.Zgs (l:=PySem.Challenge.rw_sowring_k16_whole_all_rounds) (n:=63) (k:=13) (x := "script") (CX:=L2.CX0) (sp:=My.Ze9) rfl (by decide) rfl ⟨rfl,by decide,by decide⟩ (fun w h Y=>by first|exact PySem.W.kIn_of Y|exact PySem.W.km_in_of Y) ?F ?S ?C
 case F =>
  intro w mg fa h KX G hmg
  have T:My.Txt (L2.KOf KX) mg:=by
   dsimp only[L2.KOf]
   refine' My.Zj3 KX G ?Zpj ?ZoW ?ZnH ?Zpa ?Zpi ?ZoV ?ZnG ?ZoZ ?Zq5 ?Zqo ?ZoM ?Zqt ?Zqd ?ZpJ ?Zoy ?ZpP ?Zrj ?ZqO ?Zpm ?ZqS ?ZoP ?ZoG ?ZmH ?ZoH ?Zqb ?ZpH ?Zn9 ?ZpN ?Zpg ?ZoT ?ZmT ?ZoX ?Zoo ?Zoe ?Znh ?Zoh ?Zrl ?ZqQ ?Zpo ?ZqU ?Zp8 ?Zpu ?ZnD ?Zpy ?Zp6 ?Zps ?Zoa ?Zpw ?Zo9 ?Zo0 ?Znu ?Zo3 ?ZnB ?Zn6 ?ZmI ?Zn7 ?Zrk ?ZqP ?Zpn ?ZqT ?Zp9 ?Zpv ?ZnE ?Zpz ?Zop ?Zof ?Zni ?Zoi ?ZpZ ?ZpF ?Zov ?ZpL ?Zsa ?ZrO ?ZqE ?ZrP ?Zq3 ?Zqm ?ZoL ?Zqr ?ZoA ?Zo1 ?Znv ?Zo4 ?Zp7 ?Zpt ?Zob ?Zpx ?Zr9 ?Zr0 ?Zpk ?Zr1 ?Zph ?ZoU ?ZnF ?ZoY ?Zri ?ZqN ?Zpl ?ZqR ?Zq2 ?Zql ?ZoK ?Zqq ?Zqa ?ZpG ?Zow ?ZpM ?Zqc ?ZpI ?Zox ?ZpO ?Zq4 ?Zqn ?Zon ?Zqs ?Zqe ?ZpK ?ZnA ?ZpQ ?Zq6 ?Zqp ?ZoN ?Zqu ?Zoq ?Zog ?ZmU ?Zoj ?Zoc ?ZnW ?Znd ?ZnX ?ZoB ?Zo2 ?Znw ?Zo5 ?Ztb ?ZsX ?Zta ?ZsY ?a_FEWEST_PITS ?a_LONGEST ?a_MOST_PITS ?a_MOST_STANDINGS ?z_all ?z_bool ?z_int ?z_isinstance ?z_len ?z_list ?z_min ?z_range ?z_sum ?z_tuple ?x_tab ?x_exc ?am_SowError ?fm1_SowError ?tm_SowError ?lm_SowError ?cm_SowError ?km_SowError ?am_BadBoard ?fm1_BadBoard ?tm_BadBoard ?lm_BadBoard ?cm_BadBoard ?km_BadBoard ?am_BadPit ?fm1_BadPit ?tm_BadPit ?lm_BadPit ?cm_BadPit ?km_BadPit ?am_BadCount ?fm1_BadCount ?tm_BadCount ?lm_BadCount ?cm_BadCount ?km_BadCount ?am_NoSeeds ?fm1_NoSeeds ?tm_NoSeeds ?lm_NoSeeds ?cm_NoSeeds ?km_NoSeeds ?am_TooLong ?fm1_TooLong ?tm_TooLong ?lm_TooLong ?cm_TooLong ?km_TooLong ?am_TooMany ?fm1_TooMany ?tm_TooMany ?lm_TooMany ?cm_TooMany ?km_TooMany
   (case Zpj=>k_is)
   (case ZoW=>k_is)
   (case ZnH=>k_is)
   (case Zpa=>k_is)
   (case Zpi=>k_is)
   (case ZoV=>k_is)
   (case ZnG=>k_is)
   (case ZoZ=>k_is)
   (case Zq5=>k_is)
   (case Zqo=>k_is)
   (case ZoM=>k_is)
   (case Zqt=>k_is)
   (case Zqd=>k_is)
   (case ZpJ=>k_is)
   (case Zoy=>k_is)
   (case ZpP=>k_is)
   (case Zrj=>k_is)
   (case ZqO=>k_is)
   (case Zpm=>k_is)
   (case ZqS=>k_is)
   (case ZoP=>k_is)
   (case ZoG=>k_is)
   (case ZmH=>k_is)
   (case ZoH=>k_is)
   (case Zqb=>k_is)
   (case ZpH=>k_is)
   (case Zn9=>k_is)
   (case ZpN=>k_is)
   (case Zpg=>k_is)
   (case ZoT=>k_is)
   (case ZmT=>k_is)
   (case ZoX=>k_is)
   (case Zoo=>k_is)
   (case Zoe=>k_is)
   (case Znh=>k_is)
   (case Zoh=>k_is)
   (case Zrl=>k_is)
   (case ZqQ=>k_is)
   (case Zpo=>k_is)
   (case ZqU=>k_is)
   (case Zp8=>k_is)
   (case Zpu=>k_is)
   (case ZnD=>k_is)
   (case Zpy=>k_is)
   (case Zp6=>k_is)
   (case Zps=>k_is)
   (case Zoa=>k_is)
   (case Zpw=>k_is)
   (case Zo9=>k_is)
   (case Zo0=>k_is)
   (case Znu=>k_is)
   (case Zo3=>k_is)
   (case ZnB=>k_is)
   (case Zn6=>k_is)
   (case ZmI=>k_is)
   (case Zn7=>k_is)
   (case Zrk=>k_is)
   (case ZqP=>k_is)
   (case Zpn=>k_is)
   (case ZqT=>k_is)
   (case Zp9=>k_is)
   (case Zpv=>k_is)
   (case ZnE=>k_is)
   (case Zpz=>k_is)
   (case Zop=>k_is)
   (case Zof=>k_is)
   (case Zni=>k_is)
   (case Zoi=>k_is)
   (case ZpZ=>k_is)
   (case ZpF=>k_is)
   (case Zov=>k_is)
   (case ZpL=>k_is)
   (case Zsa=>k_is)
   (case ZrO=>k_is)
   (case ZqE=>k_is)
   (case ZrP=>k_is)
   (case Zq3=>k_is)
   (case Zqm=>k_is)
   (case ZoL=>k_is)
   (case Zqr=>k_is)
   (case ZoA=>k_is)
   (case Zo1=>k_is)
   (case Znv=>k_is)
   (case Zo4=>k_is)
   (case Zp7=>k_is)
   (case Zpt=>k_is)
   (case Zob=>k_is)
   (case Zpx=>k_is)
   (case Zr9=>k_is)
   (case Zr0=>k_is)
   (case Zpk=>k_is)
   (case Zr1=>k_is)
   (case Zph=>k_is)
   (case ZoU=>k_is)
   (case ZnF=>k_is)
   (case ZoY=>k_is)
   (case Zri=>k_is)
   (case ZqN=>k_is)
   (case Zpl=>k_is)
   (case ZqR=>k_is)
   (case Zq2=>k_is)
   (case Zql=>k_is)
   (case ZoK=>k_is)
   (case Zqq=>k_is)
   (case Zqa=>k_is)
   (case ZpG=>k_is)
   (case Zow=>k_is)
   (case ZpM=>k_is)
   (case Zqc=>k_is)
   (case ZpI=>k_is)
   (case Zox=>k_is)
   (case ZpO=>k_is)
   (case Zq4=>k_is)
   (case Zqn=>k_is)
   (case Zon=>k_is)
   (case Zqs=>k_is)
   (case Zqe=>k_is)
   (case ZpK=>k_is)
   (case ZnA=>k_is)
   (case ZpQ=>k_is)
   (case Zq6=>k_is)
   (case Zqp=>k_is)
   (case ZoN=>k_is)
   (case Zqu=>k_is)
   (case Zoq=>k_is)
   (case Zog=>k_is)
   (case ZmU=>k_is)
   (case Zoj=>k_is)
   (case Zoc=>k_is)
   (case ZnW=>k_is)
   (case Znd=>k_is)
   (case ZnX=>k_is)
   (case ZoB=>k_is)
   (case Zo2=>k_is)
   (case Znw=>k_is)
   (case Zo5=>k_is)
   (case Ztb=>k_is)
   (case ZsX=>k_is)
   (case Zta=>k_is)
   (case ZsY=>k_is)
   (case a_FEWEST_PITS=>k_is)
   (case a_LONGEST=>k_is)
   (case a_MOST_PITS=>k_is)
   (case a_MOST_STANDINGS=>k_is)
   (case z_all=>k_is)
   (case z_bool=>k_is)
   (case z_int=>k_is)
   (case z_isinstance=>k_is)
   (case z_len=>k_is)
   (case z_list=>k_is)
   (case z_min=>k_is)
   (case z_range=>k_is)
   (case z_sum=>k_is)
   (case z_tuple=>k_is)
   (case x_tab=>kernel_rfl)
   (case x_exc=>kernel_rfl)
   (case am_SowError=>k_is)
   (case fm1_SowError=>k_is)
   (case tm_SowError=>k_is)
   (case lm_SowError=>k_is)
   (case cm_SowError=>k_is)
   (case km_SowError=>k_is)
   (case am_BadBoard=>k_is)
   (case fm1_BadBoard=>k_is)
   (case tm_BadBoard=>k_is)
   (case lm_BadBoard=>k_is)
   (case cm_BadBoard=>k_is)
   (case km_BadBoard=>k_is)
   (case am_BadPit=>k_is)
   (case fm1_BadPit=>k_is)
   (case tm_BadPit=>k_is)
   (case lm_BadPit=>k_is)
   (case cm_BadPit=>k_is)
   (case km_BadPit=>k_is)
   (case am_BadCount=>k_is)
   (case fm1_BadCount=>k_is)
   (case tm_BadCount=>k_is)
   (case lm_BadCount=>k_is)
   (case cm_BadCount=>k_is)
   (case km_BadCount=>k_is)
   (case am_NoSeeds=>k_is)
   (case fm1_NoSeeds=>k_is)
   (case tm_NoSeeds=>k_is)
   (case lm_NoSeeds=>k_is)
   (case cm_NoSeeds=>k_is)
   (case km_NoSeeds=>k_is)
   (case am_TooLong=>k_is)
   (case fm1_TooLong=>k_is)
   (case tm_TooLong=>k_is)
   (case lm_TooLong=>k_is)
   (case cm_TooLong=>k_is)
   (case km_TooLong=>k_is)
   (case am_TooMany=>k_is)
   (case fm1_TooMany=>k_is)
   (case tm_TooMany=>k_is)
   (case lm_TooMany=>k_is)
   (case cm_TooMany=>k_is)
   (case km_TooMany=>k_is)
  exact My.Zkc T hmg
 case S=>exact fun K H a ns hl hO hS=>My.Zf1 hl hO hS
 case C=>exact fun _ _ _ _ z=>z
