import PyProof.Rows.All
import Wide.All
import OpenK.AllK
import Wide.FinOn
import Lean
import PyProof.EqAt
import PyProof.EqKinds
import PyProof.TupleCall
import KE.KTryMore
import PyProof.NsDelKeeps
import PyProof.EnumStmt
import KE.KRevIter
import PyProof.ListNew
import PyProof.Rows.SortRuns
import KE.KIntText
import PyProof.ListRange
import PyProof.Rows.Range3
import PyProof.Rows.TupDisplay
import KE.KSortTup
import PyProof.DictWalks
import PyProof.DictTruth
import PySem.Challenge.RW_sowring_k60_came_again
open List renaming getD_eq_getElem?_getD->ZqF,mem_of_getElem?->ZqG,getElem?_eq_getElem->ZqH,getElem?_eq_some_iff->ZqI,mem_append->ZqK,mem_append_left->ZqM,length_map->ZqN,mem_append_right->ZqO,append_assoc->ZqP,size_toArray->ZqQ,pairwise_append->ZqR,mem_cons->ZqS,getElem?_append_left->ZqT,getElem?_append_right->ZqV,take_append_drop->ZqX,length_cons->ZqY,getElem?_set_ne->ZqZ,length_append->Zra,map_cons->Zrb,getElem?_eq_none->Zrc,length_take->Zrd,getElem?_drop->Zre,getElem?_set_self->Zrf,mem_singleton->Zrg,getElem?_take->Zrh,getElem?_map->Zri,mem_cons_of_mem->Zrj,drop_eq_getElem_cons->Zrl,take_of_length_le->Zrm,mem_of_mem_take->Zrn,mem_of_mem_drop->Zro,getElem?_of_mem->Zrp,extract_eq_take_drop->Zrs,lookup_cons->Zrv,getElem?_eq_none_iff->Zrw,length_nil->Zry,append_nil->Zrz,map_append->Zr0,length_drop->Zr1,replicate_succ->Zr2,mem_map->Zr3,drop_eq_nil_of_le->Zr5,ext_getElem?->Zr6,length_set->Zr8,perm_append_comm->Zr9,getElem?_cons_zero->ZrB,nil_append->ZrC,mem_cons_self->ZrE,pairwise_cons->ZrF,zip_cons_cons->ZrG,length_dropLast->ZrH,flatten_cons->ZrJ,all_eq_true->ZrK,map_nil->ZrM,find?_cons->ZrN,any_cons->ZrO,drop_zero->ZrQ,pairwise_iff_getElem->ZrR,mem_or_eq_of_mem_set->ZrS,lookup->ZrU,getElem?_take_of_lt->ZrV,sum_cons->ZrW,drop_of_length_le->ZrX,getElem?_replicate_of_lt->Zsa,getElem_mem->Zsb,getElem?_mapIdx->Zsc,dropLast_subset->Zsd,mem_filter->Zse,filterMap_cons->Zsf,nodup_cons->Zsg,getElem?_range->Zsi,mem_filterMap->Zsn,set_cons_zero->Zso,set_cons_succ->Zsp,cons_append->Zss,of_mem_zip->Zsv,length_zip->Zsy,map_map->Zsz,set_set->Zs0,idxOf_cons->Zs1
open Nat renaming le_refl->ZqJ,lt_of_lt_of_le->ZqU,ne_of_lt->Zrk,le_trans->Zrq,zero_le->Zrt,zero_add->Zr4,lt_irrefl->ZrA,lt_succ_self->ZrD,lt_of_le_of_lt->ZrL,min_le_left->Zsh,ne_of_gt->Zsm,le_succ->Zsq,le_of_eq->Zsu,sub_self->Zsw
open Int renaming emod_lt_of_pos->Zrr,emod_nonneg->Zru,emod_eq_of_lt->Zrx,toNat_of_nonneg->Zr7,toNat_natCast->ZrP,natCast_zero->ZrT
open Array renaming length_toList->ZqL,getElem?_toList->ZqW,toList_extract->ZrI,getElem?_eq_none->ZrY,toList_push->ZrZ,toList_append->Zsj,toList_setIfInBounds->Zsk,perm_iff_toList_perm->Zsl,toList_map->Zst
open Option renaming getD_some->Zsr,map_some->Zsx
set_option Elab.async false
set_option linter.all false
set_option maxRecDepth 100000
namespace L2
open PySem PySem.Spec PyProof.Rows
noncomputable abbrev Key:=Sum Int Str
noncomputable def ZdL:Key->Value->Bool
 |.inl k,v=>Value.isInt k v
 |.inr x,v=>Value.isStrOf x v
noncomputable def ZlZ (w:World):Key->Int
 |.inl k=>hashInt k
 |.inr x=>hashStr w x
theorem ZN:∀{k:Key}{v:Value},ZdL k v=true->(∃i t,k=Sum.inl i/\v=Value.int i t)\/(∃x t,k=Sum.inr x/\v=Value.str x t)
 |.inl i,v,h=>by
  obtain⟨t,e⟩:=Value.isInt_shape (k:=i) (v:=v) h
  exact .inl ⟨i,t,rfl,e⟩
 |.inr x,v,h=>by
  obtain⟨t,e⟩:=Value.isStrOf_shape (x:=x) (v:=v) h
  exact .inr ⟨x,t,rfl,e⟩
theorem Zff (i:Int) (t:Tok):ZdL (.inl i) (.int i t)=true:=by simp[ZdL,Value.isInt]
theorem Zfe (x:Str) (t:Tok):ZdL (.inr x) (.str x t)=true:=by simp[ZdL,Value.isStrOf]
theorem ZjF (a b:Int):decide ((Sum.inl a:Key)=Sum.inl b)=(a==b):=by
 by_cases e:a=b
 ·subst e;simp
 ·have h:¬(Sum.inl a:Key)=Sum.inl b:=fun q=>e (Sum.inl.inj q)
  rw[decide_eq_false h]
  exact(beq_eq_false_iff_ne.mpr e).symm
theorem ZjC (a b:Str):decide ((Sum.inr a:Key)=Sum.inr b)=decide (a=b):=by
 by_cases e:a=b
 ·subst e;simp
 ·have h:¬(Sum.inr a:Key)=Sum.inr b:=fun q=>e (Sum.inr.inj q)
  rw[decide_eq_false h,decide_eq_false e]
theorem ZjE (a:Int) (b:Str):decide ((Sum.inl a:Key)=Sum.inr b)=false:=decide_eq_false (fun q=>nomatch q)
theorem ZjD (a:Str) (b:Int):decide ((Sum.inr a:Key)=Sum.inl b)=false:=decide_eq_false (fun q=>nomatch q)
noncomputable def Jg (prog:Program) (w:World):PySem.KeyKind prog w Key where
 is:=ZdL
 hash:=ZlZ w
 inj:=fun v a b ha hb=>by
  rcases ZN ha with ⟨i,t,rfl,rfl⟩|⟨x,t,rfl,rfl⟩
  ·rcases ZN hb with ⟨j,u,rfl,e⟩|⟨y,u,rfl,e⟩
   ·injection e with e1 _;rw[e1]
   ·exact nomatch e
  ·rcases ZN hb with ⟨j,u,rfl,e⟩|⟨y,u,rfl,e⟩
   ·exact nomatch e
   ·injection e with e1 _;rw[e1]
 byValue:=fun k v h=>by
  rcases ZN h with ⟨i,t,rfl,rfl⟩|⟨x,t,rfl,rfl⟩<;>rfl
 pyHash:=fun hv h=>by
  rcases ZN hv with ⟨i,t,rfl,rfl⟩|⟨x,t,rfl,rfl⟩
  ·exact wpAny_pyHash_int h
  ·exact wpAny_pyHash_str h
 eqBool:=fun hu hv h=>by
  rcases ZN hu with ⟨i,t,rfl,rfl⟩|⟨x,t,rfl,rfl⟩
  ·rcases ZN hv with ⟨j,u,rfl,rfl⟩|⟨y,u,rfl,rfl⟩
   ·rw[ZjF] at h;exact wpAny_eqBool_int h
   ·rw[ZjE] at h;exact SeqAt.EqAt.int_str i t y u _ _ _ _ h
  ·rcases ZN hv with ⟨j,u,rfl,rfl⟩|⟨y,u,rfl,rfl⟩
   ·rw[ZjD] at h;exact SeqAt.EqAt.str_int x t j u _ _ _ _ h
   ·rw[ZjC] at h;exact wpAny_eqBool_str h
 «strs»:=fun k x t v h=>by
  rcases ZN h with ⟨i,u,rfl,e⟩|⟨y,u,rfl,e⟩
  ·exact nomatch e
  ·injection e with e1 _
   subst e1
   cases v<;>rfl
theorem ZbF (prog:Program) (w:World) (i:Int) (t:Tok):(Jg prog w).is (.inl i) (.int i t)=true:=Zff i t
theorem ZbE (prog:Program) (w:World) (x:Str) (t:Tok):(Jg prog w).is (.inr x) (.str x t)=true:=Zfe x t
inductive V where
 |non|bl (b:Bool)|int (i:Int)|str (x:Str)|byt (b:Array UInt8)|flt (b:UInt64)|ref (a:Addr)|ty (n:String)
 deriving DecidableEq
noncomputable def Ja:V->Value->Prop
 |.non,u=>u=Value.none
 |.bl b,u=>u=Value.bool b
 |.int i,u=>∃t,u=Value.int i t
 |.str x,u=>∃t,u=Value.str x t
 |.byt b,u=>∃t,u=Value.bytes b t
 |.flt b,u=>∃t,u=Value.float b t
 |.ref a,u=>u=Value.ref a
 |.ty n,u=>u=Value.type n
noncomputable abbrev ZE:List V->List Value->Prop:=Paired Ja
theorem ZE.length {xs:List V}{us:List Value} (r:ZE xs us):xs.length=us.length:=Paired.length r
theorem ZE.get:∀{xs:List V}{us:List Value}{i:Nat}{x:V},ZE xs us->xs[i]?=some x->∃u,us[i]?=some u/\Ja x u
 |_,_,_,_,.nil,e=>by simp at e
 |_,_,0,_,.cons r _,e=>by simp at e;subst e;exact⟨_,rfl,r⟩
 |_,_,i+1,x,.cons _ t,e=>by
  obtain⟨u,h1,h2⟩:=ZE.get (i:=i) (x:=x) t (by simpa using e)
  exact⟨u,by simpa using h1,h2⟩
theorem ZE.set {x:V}{u:Value} (r:Ja x u):∀{xs:List V}{us:List Value} (i:Nat),ZE xs us->ZE (xs.set i x) (us.set i u)
 |_,_,_,.nil=>.nil
 |_,_,0,.cons _ t=>.cons r t
 |_,_,i+1,.cons q t=>.cons q (ZE.set r i t)
theorem ZE.append:∀{xs ys:List V}{us ws:List Value},ZE xs us->ZE ys ws->ZE (xs++ys) (us++ws)
 |_,_,_,_,.nil,s=>s
 |_,_,_,_,.cons r t,s=>.cons r (ZE.append t s)
theorem ZE.take:∀{xs:List V}{us:List Value} (n:Nat),ZE xs us->ZE (xs.take n) (us.take n)
 |_,_,0,_=>.nil
 |_,_,_+1,.nil=>.nil
 |_,_,n+1,.cons r t=>.cons r (ZE.take n t)
theorem ZE.drop:∀{xs:List V}{us:List Value} (n:Nat),ZE xs us->ZE (xs.drop n) (us.drop n)
 |_,_,0,r=>r
 |_,_,_+1,.nil=>.nil
 |_,_,n+1,.cons _ t=>ZE.drop n t
noncomputable def ZaB:Option V->Option Value->Prop
 |some v,some u=>Ja v u
 |none,none=>True
 |_,_=>False
def KV {κ:Type}:List (κ×V)->List (κ×Value)->Prop:=Paired fun(p:κ×V) (q:κ×Value)=>p.1=q.1/\Ja p.2 q.2
noncomputable def kV:Key->V
 |.inl i=>.int i
 |.inr x=>.str x
inductive HO where
  |lst (xs:List V)
  |tup (xs:List V)
  |dK (kvs:List (Key×V))|dT (kvs:List (List Key×V))
  |set (S:Int->Bool) (n:Nat)
  |ins (C dx:Addr) (fs:List (Str×V))
  |own (x:Addr)
  |xd (fs:List (Str×V))
  |met (f x:Addr)
  |rng (lo hi:Int)
  |frz (o:Obj) (u:HO)
  |tbl (ps:Array Value)
  |ext (φ:Heap->Prop)
noncomputable abbrev Hp:=Addr->Option HO
noncomputable def upd (H:Hp) (a:Addr) (o:HO):Hp:=fun b=>if b=a then some o else H b
theorem Zv {H:Hp}{a:Addr}{o:HO}:upd H a o a=some o:=by unfold upd;rw[if_pos rfl]
theorem Zp {H:Hp}{a b:Addr}{o:HO} (h:b≠a):upd H a o b=H b:=by unfold upd;rw[if_neg h]
theorem Zj8 {H:Hp}{a b:Addr}{o u:HO} (h:H a=some o) (h':H b=some u) (d:o≠u):a≠b:=by
 intro e;subst e;rw[h] at h';exact d (Option.some.inj h')
theorem Z0 {H:Hp}{a b:Addr}{o:HO} (h:H a=some o) (h':H b=none):a≠b:=by
 intro e;subst e;rw[h] at h';cases h'
section
variable (P:Program) (w:World)
noncomputable def Ji (H:Hp) (h:Heap) (a:Addr):HO->Prop
 |.lst xs=>xs.length<=sizeLine/\∃(its:List Value) (n:Nat),ZE xs its/\h.get? a=some { cls:=.type "list",data:=.seq its.toArray n }
 |.tup xs=>xs.length<=sizeLine/\∃its:List Value,ZE xs its/\IsTup h a its.toArray
 |.dK kvs=>kvs.length<=sizeLine/\(a==sysModules)=false/\∃vs,KV kvs vs/\h.DictOf (Jg P w) a vs
 |.dT kvs=>kvs.length<=sizeLine/\(a==sysModules)=false/\∃xs:List (List Key×Addr×Value),
   Paired (fun(p:List Key×V) (q:List Key×Addr×Value)=>p.1=q.1/\H q.2.1=some (.tup (p.1.map kV))/\Ja p.2 q.2.2) kvs xs /\
   ∃o es ep,h.get? a=some o/\o.ExactDict/\o.data=.dict es ep/\es.toList=xs.map (entryOfKey (tupleKind (Jg P w)))/\(xs.map (·.1)).Nodup
 |.set S n=>h.SetOf (intKind P w) a S n
 |.ins C dx fs=>H dx=some (.own a)/\fs.length<=1000/\dx≠a/\h.get? a=some (PySem.W.instObj C dx) /\
   ∃mA,h.Ns1 dx mA/\(∀f,ZaB (fs.lookup f) (mA f))/\PySem.Within mA (fs.map (·.1))
 |.own _=>∃o,h.get? a=some o
 |.xd fs=>∃mA,h.Ns1 a mA/\∀f,ZaB (fs.lookup f) (mA f)
 |.rng lo hi=>∃t u v,h.get? a=some { cls:=.type "range",data:=.fields #[.int lo t,.int hi u,.int 1 v] }
 |.frz o u=>h.get? a=some o/\Ji H h a u
 |.tbl ps=>h.get? a=some { cls:=.none,data:=.fields ps }
 |.met f x=>h.get? a=some (PySem.W.methodObj (.ref f) (.ref x))
 |.ext φ=>φ h/\(∃o,h.get? a=some o)/\∀h1 h2:Heap,φ h1->(∀o,h1.get? a=some o->h2.get? a=some o)->φ h2
def HOk (H:Hp) (h:Heap):Prop:=∀a o,H a=some o->Ji P w H h a o
end
section
variable {P:Program}{w:World}{H H':Hp}{h h':Heap}{a:Addr}{o:HO}
theorem Ji.lt (x:Ji P w H h a o):a<h.objs.size:=by
 cases o with
 |lst xs=>obtain⟨_,_,_,_,e⟩:=x;exact Heap.lt_size e
 |tup xs=>obtain⟨_,_,_,p⟩:=x;exact p.lt
 |dK kvs=>obtain⟨_,_,_,_,o,_,_,e,_⟩:=x;exact Heap.lt_size e
 |dT kvs=>obtain⟨_,_,_,_,o,_,_,e,_⟩:=x;exact Heap.lt_size e
 |set S n=>obtain⟨o,_,_,_,e,_⟩:=x;exact Heap.lt_size e
 |ins C dx fs=>obtain⟨_,_,_,e,_⟩:=x;exact Heap.lt_size e
 |own y=>obtain⟨_,e⟩:=x;exact Heap.lt_size e
 |xd fs=>obtain⟨_,⟨_,_,_,e,_⟩,_⟩:=x;exact Heap.lt_size e
 |rng lo hi=>obtain⟨_,_,_,e⟩:=x;exact Heap.lt_size e
 |frz ob u=>obtain⟨e,_⟩:=x;exact Heap.lt_size e
 |tbl ps=>exact Heap.lt_size (show h.get? a=some _ from x)
 |met f y=>exact Heap.lt_size (show h.get? a=some _ from x)
 |ext φ=>obtain⟨_,⟨_,e⟩,_⟩:=x;exact Heap.lt_size e
theorem Paired.mapP {α β:Type}{F G:α->β->Prop}:∀{l₁:List α}{l₂:List β},Paired F l₁ l₂->(∀a b,F a b->G a b)->Paired G l₁ l₂
 |_,_,.nil,_=>.nil
 |_,_,.cons r t,f=>.cons (f _ _ r) (Paired.mapP t f)
theorem Ji.stay (x:Ji P w H h a o) (k:∀b u,(b=a\/H b=some (.own a))->h.get? b=some u->h'.get? b=some u)
  (ho:∀b,H b=some (.own a)->H' b=some (.own a)) (ht:∀b xs,H b=some (.tup xs)->H' b=some (.tup xs)):Ji P w H' h' a o:=by
 induction o with
 |lst xs=>obtain⟨z,its,n,r,e⟩:=x;exact⟨z,its,n,r,k _ _ (.inl rfl) e⟩
 |tup xs=>obtain⟨z,its,r,ob,e,c⟩:=x;exact⟨z,its,r,ob,k _ _ (.inl rfl) e,c⟩
 |dK kvs=>obtain⟨z,y,vs,r,ob,es,ep,e,c⟩:=x;exact⟨z,y,vs,r,ob,es,ep,k _ _ (.inl rfl) e,c⟩
 |dT kvs =>
  obtain⟨z,y,xs,r,ob,es,ep,e,c⟩:=x
  exact⟨z,y,xs,Paired.mapP r fun p q z=>⟨z.1,ht _ _ z.2.1,z.2.2⟩,ob,es,ep,k _ _ (.inl rfl) e,c⟩
 |set S n=>obtain⟨ob,es,ep,t,e,c⟩:=x;exact⟨ob,es,ep,t,k _ _ (.inl rfl) e,c⟩
 |ins C dx fs =>
  obtain⟨d,z,ne,e,mA,⟨od,es,ep,e2,c⟩,r⟩:=x
  exact⟨ho _ d,z,ne,k _ _ (.inl rfl) e,mA,⟨od,es,ep,k _ _ (.inr d) e2,c⟩,r⟩
 |own y=>obtain⟨ob,e⟩:=x;exact⟨ob,k _ _ (.inl rfl) e⟩
 |xd fs=>obtain⟨mA,⟨od,es,ep,e,c⟩,r⟩:=x;exact⟨mA,⟨od,es,ep,k _ _ (.inl rfl) e,c⟩,r⟩
 |rng lo hi=>obtain⟨t,u,v,e⟩:=x;exact⟨t,u,v,k _ _ (.inl rfl) e⟩
 |frz ob u ih=>obtain⟨e,q⟩:=x;exact⟨k _ _ (.inl rfl) e,ih q⟩
 |tbl ps =>
  have e:h.get? a=some { cls:=.none,data:=.fields ps }:=x
  show h'.get? a=some { cls:=.none,data:=.fields ps }
  exact k a _ (.inl rfl) e
 |met f y =>
  have e:h.get? a=some (PySem.W.methodObj (.ref f) (.ref y)):=x
  show h'.get? a=some (PySem.W.methodObj (.ref f) (.ref y))
  exact k a _ (.inl rfl) e
 |ext φ=>obtain⟨p,⟨o,e⟩,st⟩:=x;exact⟨st _ _ p fun o q=>k _ _ (.inl rfl) q,⟨o,k _ _ (.inl rfl) e⟩,st⟩
theorem HOk.lt (x:HOk P w H h) (e:H a=some o):a<h.objs.size:=(x a o e).lt
theorem HOk.fresh (x:HOk P w H h) (e:h.objs.size<=a):H a=none:=by
 cases q:H a with
 |none=>rfl
 |some u=>exact absurd (ZqU (x.lt q) e) (ZrA _)
theorem HOk.kept (x:HOk P w H h) (k:∀b u,h.get? b=some u->h'.get? b=some u):HOk P w H h':=fun a o e =>
 (x a o e).stay (fun b u _ q=>k b u q) (fun _ q=>q) fun _ _ q=>q
theorem HOk.laid (x:HOk P w H h) (k:∀b u,h.get? b=some u->h'.get? b=some u) (hp:h.objs.size<=a) (new:Ji P w (upd H a o) h' a o):HOk P w (upd H a o) h':=fun b u e=>by
 have hn:=x.fresh hp
 by_cases hb:b=a
 ·subst hb;rw[Zv] at e;cases e;exact new
 ·rw[Zp hb] at e
  exact(x b u e).stay (fun c v _ q=>k c v q) (fun c q=>by rw[Zp (Z0 q hn)];exact q) fun c xs q=>by rw[Zp (Z0 q hn)];exact q
end
def Rd (H:Hp) (a:Addr) (u:HO):Prop:=H a=some u\/∃o,H a=some (.frz o u)
theorem Rd.ok {P:Program}{w:World}{H:Hp}{h:Heap}{a:Addr}{u:HO} (r:Rd H a u) (x:HOk P w H h):Ji P w H h a u:=by
 rcases r with r|⟨o,r⟩
 ·exact x a u r
 ·obtain⟨_,q⟩:=x a _ r
  exact q
noncomputable def Mut:Option HO->Prop
 |some (.lst _)=>True
 |some (.dK _)=>True
 |some (.dT _)=>True
 |some (.set _ _)=>True
 |some (.ins _ _ _)=>True
 |some (.ext _)=>True
 |_=>False
section
variable {P:Program}{w:World}{H:Hp}{h h':Heap}{x e:Addr}{o':HO}
theorem HOk.write (ok:HOk P w H h) (mu:Mut (H x)) (he:e=x\/H e=some (.own x)) (k:∀b u,b≠e->h.get? b=some u->h'.get? b=some u) (heo:∃u,h'.get? e=some u)
  (new:Ji P w (upd H x o') h' x o'):HOk P w (upd H x o') h':=fun b u q=>by
 have nown:∀c y,H c=some (.own y)->c≠x:=fun c y r z=>by subst z;rw[r] at mu;exact mu
 have ntup:∀c xs,H c=some (.tup xs)->c≠x:=fun c xs r z=>by subst z;rw[r] at mu;exact mu
 by_cases hb:b=x
 ·subst hb;rw[Zv] at q;cases q;exact new
 ·rw[Zp hb] at q
  by_cases hbe:b=e
  ·have q':H b=some (.own x):=by
    rcases he with z|z
    ·exact absurd (hbe.trans z) hb
    ·rw[hbe];exact z
   rw[q] at q';cases q'
   obtain⟨v,hv⟩:=heo
   exact⟨v,by rw[hbe];exact hv⟩
  ·refine(ok b u q).stay (fun c v hc r=>k c v ?_ r) (fun c r=>by rw[Zp (nown c b r)];exact r) fun c xs r=>by rw[Zp (ntup c xs r)];exact r
   rcases hc with rfl|hc
   ·exact hbe
   ·rintro rfl
    rcases he with z|z
    ·exact nown c b hc z
    ·rw[hc] at z;cases z;exact hb rfl
end
structure Un (fs ex:List Addr) (H H':Hp) (h h':Heap):Prop where
 keep:∀b o,h.get? b=some o->H b=none->b ∉ fs->b ∉ ex->h'.get? b=some o
 slot:∀b o,h.get? b=some o->H b=none->b∈fs->b ∉ ex->∃sl,h'.get? b=some { o with slots:=sl }
 free:∀b o,h.get? b=some o->H b=none->b ∉ ex->H' b=none
 there:∀b o,h.get? b=some o->b ∉ ex->∃o',h'.get? b=some o'
 tups:∀b xs,H b=some (.tup xs)->H' b=some (.tup xs)
 frzs:∀b o u,H b=some (.frz o u)->H' b=some (.frz o u)
 tbls:∀b ps,H b=some (.tbl ps)->∃more,H' b=some (.tbl (ps++more))
section
variable {fs ex:List Addr}{H H1:Hp}{h h1 h':Heap}{a x e:Addr}{o:HO}
theorem Un.any (u:Un fs ex H H1 h h1) {b:Addr}{ob:Obj} (q:h.get? b=some ob) (n:H b=none) (hx:b ∉ ex):∃sl,h1.get? b=some { ob with slots:=sl }:=by
 by_cases hb:b∈fs
 ·exact u.slot b ob q n hb hx
 ·exact⟨ob.slots,u.keep b ob q n hb hx⟩
theorem Un.kept (k:∀b u,h.get? b=some u->h'.get? b=some u):Un fs ex H H h h':=
 ⟨fun b ob q _ _ _=>k b ob q,fun b ob q _ _ _=>⟨ob.slots,k b ob q⟩,fun _ _ _ n _=>n,fun b ob q _=>⟨ob,k b ob q⟩,fun _ _ q=>q,fun _ _ _ q=>q,fun _ ps q=>⟨#[],by rw[q];simp⟩⟩
theorem Un.refl:Un fs ex H H h h:=Un.kept fun _ _ q=>q
theorem Un.laid (k:∀b u,h.get? b=some u->h'.get? b=some u) (hp:h.objs.size<=a) (hn:H a=none):Un fs ex H (upd H a o) h h' where
 keep:=fun b u q _ _ _=>k b u q
 slot:=fun b u q _ _ _=>⟨u.slots,k b u q⟩
 free:=fun b u q n _=>by rw[Zp (Zrk (ZqU (Heap.lt_size q) hp))];exact n
 there:=fun b u q _=>⟨u,k b u q⟩
 tups:=fun b xs q=>by rw[Zp (Z0 q hn)];exact q
 frzs:=fun b u xs q=>by rw[Zp (Z0 q hn)];exact q
 tbls:=fun b ps q=>⟨#[],by rw[Zp (Z0 q hn),q];simp⟩
theorem Un.write (mu:Mut (H x)) (he:e=x\/H e=some (.own x)) (k:∀b u,b≠e->h.get? b=some u->h'.get? b=some u) (heo:∃u,h'.get? e=some u):Un fs ex H (upd H x o) h h':=by
 have hx:∀b,H b=none->b≠x:=fun b n z=>by subst z;rw[n] at mu;exact mu
 have hb:∀b,H b=none->b≠e:=fun b n z=>by
  subst z
  rcases he with r|r
  ·exact hx b n r
  ·rw[n] at r;cases r
 have hm:∀b u,H b=some u->¬Mut (some u)->b≠x:=fun b u q nm z=>by subst z;rw[q] at mu;exact nm mu
 refine⟨fun b u q n _ _=>k b u (hb b n) q,fun b u q n _ _=>⟨u.slots,k b u (hb b n) q⟩,fun b u q n _=>by rw[Zp (hx b n)];exact n,fun b u q _=>?_,
  fun b xs q=>by rw[Zp (hm b _ q fun z=>z)];exact q,fun b u xs q=>by rw[Zp (hm b _ q fun z=>z)];exact q,fun b ps q=>⟨#[],by rw[Zp (hm b _ q fun z=>z),q];simp⟩⟩
 by_cases hbe:b=e
 ·subst hbe;exact heo
 ·exact⟨u,k b u hbe q⟩
end
noncomputable def trk (h:Heap) (H:Hp):List Addr:=(List.range h.objs.size).filter fun a=>(H a).isSome
noncomputable def Zg1 (h:Heap) (H:Hp):Heap:=PySem.W.hideAll h (trk h H)
theorem Zfm (h:Heap) (H:Hp):(Zg1 h H).objs.size=h.objs.size:=PySem.W.hideAll_size _ _
theorem Zg0 {h:Heap}{H:Hp}{b:Addr}{o:Obj} (e:h.get? b=some o) (n:H b=none):(Zg1 h H).get? b=some o:=
 PySem.W.hideAll_get _ e fun hm=>by
  have q:(H b).isSome=true:=(Zse.mp hm).2
  rw[n] at q;simp at q
theorem Zii {h:Heap}{H:Hp}{b:Addr}{o:Obj} (e:(Zg1 h H).get? b=some o):h.get? b=some o/\H b=none:=by
 have e':h.get? b=some o:=PySem.W.of_hideAll (trk h H) e
 refine⟨e', ?_⟩
 cases q:H b with
 |none=>rfl
 |some x =>
  have hm:b∈trk h H:=Zse.mpr ⟨List.mem_range.mpr (Heap.lt_size e'),by simp[q]⟩
  have z:(Zg1 h H).get? b=none:=PySem.W.hideAll_none (trk h H) hm
  rw[z] at e;cases e
noncomputable def ZiG (g h:Heap) (L:Addr):List (Addr×Obj):=(List.range h.objs.size).filterMap fun a=>if a=L\/(g.get? a).isSome=true then none else (h.get? a).map fun o=>(a,o)
noncomputable def ZfL (g h:Heap) (L d:Addr):List (Addr×Obj):=(ZiG g h L).filter fun p=>decide (p.1≠d)
structure Mod (K:PySem.W.Frag) (mg:Str->Option Value) (base:Heap):Prop where
 kin:K.In base
 glob:base.Ns mainGlobals mg
 blt:∃mb,base.Ns builtinsNs mb/\∀x:Str,x ≠ "__name__"->mb x=bootBuiltins x
 nolimit:base.NoLimit
structure Cx where
 prog:Program
 w:World
 K:PySem.W.Frag
 mg:Str->Option Value
 base:Heap
 A:Around
 N:List Str
 s₀:Shared
 H₀:Hp
 env:Env
 outer:List Env
 stack:List Env
 ex:List Addr
 fn:Str->Bool
 calm:Bool
 pn:List (Addr×Obj)
 xe:Value->Shared->Prop
noncomputable def frs (l:List Env):List Addr:=l.filterMap (·.frame)
noncomputable abbrev Cx.fs (X:Cx):List Addr:=frs X.outer
def Vis (sc:Scope) (x:Str):Prop:=sc.names.lookup x=some .local\/sc.names.lookup x=some .cell\/sc.names.lookup x=some .free
def Loc (sc:Scope) (x:Str):Prop:=sc.names.lookup x=some .local\/sc.names.lookup x=some .cell
def Zme (env:Env) (h:Heap) (m:Str->Option Value) (x:Str) (u:Value):Prop:=
 (env.kindOf x=some .local/\m x=some u)\/((env.kindOf x=some .cell\/env.kindOf x=some .free)/\∃c,env.cells.lookup x=some c/\h.IsCell c (some u))
structure Cx.Ok (X:Cx):Prop where
 mod:Mod X.K X.mg X.base
 kind:X.env.scope.kind=.function
 glob:X.env.globals=mainGlobals
 blt:X.env.builtins=builtinsNs
 above:X.s₀.heap.objs.size<=X.env.locals
 inj:∀x y c,X.env.cells.lookup x=some c->X.env.cells.lookup y=some c->x=y
 has:∀x,(X.env.kindOf x=some .cell\/X.env.kindOf x=some .free)->∃c,X.env.cells.lookup x=some c
 cab:∀x c,X.fn x=true->X.env.cells.lookup x=some c->X.s₀.heap.objs.size<=c
 hd:X.calm=true->X.A.handled=none
 frames:X.A.frames=some X.stack
 stk:X.stack=X.outer\/(X.stack=X.env::X.outer/\X.env.frame=some X.env.locals)
 exf:∀b∈X.ex,b≠X.env.locals/\∀x c,X.env.cells.lookup x=some c->c≠b
 bs:∀b o,X.base.get? b=some o->X.s₀.heap.get? b=some o/\X.H₀ b=none
 bsz:X.base.objs.size<=X.s₀.heap.objs.size
 noex:∀b o,X.base.get? b=some o->b ∉ X.ex
 exfs:∀b∈X.ex,b ∉ X.fs
 funs:X.s₀.heap.FunFrames X.base X.outer
 frf:∀b∈X.fs,X.H₀ b=none
structure Inv (X:Cx) (pins:List (Addr×Obj)) (σ:List (Option V)) (H:Hp) (s:Shared):Prop where
 ok:X.Ok
 os:s.os=X.s₀.os
 bare:AllBare s.gens
 base:Un X.fs X.ex X.H₀ H X.s₀.heap s.heap
 loc:∃m,s.heap.Ns X.env.locals m/\∀(i:Nat) (x:Str) (v:V),X.N[i]?=some x->σ[i]?=some (some v)->Vis X.env.scope x->∃u,Ja v u/\Zme X.env s.heap m x u
 cell:∀x c,X.env.cells.lookup x=some c->∃v,s.heap.IsCell c v
 free:H X.env.locals=none
 freeC:∀x c,X.env.cells.lookup x=some c->H c=none
 pin:∀p∈X.pn++pins,s.heap.get? p.1=some p.2/\H p.1=none/\p.1≠X.env.locals/\p.1 ∉ X.fs/\∀v,p.2.data≠.cell v
 hok:HOk X.prog X.w H s.heap
 len:σ.length=X.N.length
section
variable {X:Cx}{pins:List (Addr×Obj)}{σ:List (Option V)}{H H':Hp}{s:Shared}{h':Heap}
theorem Cx.Ok.nofr (ok:X.Ok) {b:Addr}{o:Obj} (e:X.base.get? b=some o):b ∉ X.fs:=fun hb=>by
 have:=(ok.funs.mem hb).1
 rw[e] at this;cases this
theorem Inv.bs (I:Inv X pins σ H s):∀b o,X.base.get? b=some o->s.heap.get? b=some o/\H b=none:=fun b o e =>
 ⟨I.base.keep b o (I.ok.bs b o e).1 (I.ok.bs b o e).2 (I.ok.nofr e) (I.ok.noex b o e),I.base.free b o (I.ok.bs b o e).1 (I.ok.bs b o e).2 (I.ok.noex b o e)⟩
theorem Inv.bk (I:Inv X pins σ H s):∀b o,X.base.get? b=some o->s.heap.get? b=some o:=fun b o e=>(I.bs b o e).1
theorem Inv.mod (I:Inv X pins σ H s):Mod X.K X.mg X.base:=I.ok.mod
theorem Inv.kIn (I:Inv X pins σ H s):X.K.In s.heap:=I.ok.mod.kin.keeps I.bk
theorem Inv.lt (I:Inv X pins σ H s):X.env.locals<s.heap.objs.size:=let ⟨_,hn,_⟩:=I.loc;hn.lt
theorem Inv.sz (I:Inv X pins σ H s):X.s₀.heap.objs.size<=s.heap.objs.size:=Zrq I.ok.above (Nat.le_of_lt I.lt)
theorem Inv.nofs (I:Inv X pins σ H s) {a:Addr} (h:s.heap.objs.size<=a):a ∉ X.fs:=fun hb=>by
 obtain⟨_,o,ho,_⟩:=I.ok.funs.mem hb
 exact absurd (ZqU (Heap.lt_size ho) (Zrq I.sz h)) (ZrA _)
theorem Inv.cne (I:Inv X pins σ H s):∀x c,X.env.cells.lookup x=some c->c≠X.env.locals:=fun x c e z=>by
 obtain⟨v,o,ho,hd⟩:=I.cell x c e
 obtain⟨m,⟨o',es,ep,ho',hd',_⟩,_⟩:=I.loc
 rw[z,ho'] at ho;cases ho;rw[hd'] at hd;cases hd
theorem Inv.funs (I:Inv X pins σ H s):s.heap.FunFrames X.base X.outer:=by
 have all:∀(l:List Env),(∀b∈frs l,b∈X.fs)->X.s₀.heap.FunFrames X.base l->s.heap.FunFrames X.base l:=by
  intro l
  induction l with
  |nil=>intro _ _;trivial
  |cons env r ih =>
   intro hs hl
   obtain⟨hk,⟨L,o,hf,hn,ho,hd⟩,hr⟩:=hl
   have hL:L∈X.fs:=hs L (by unfold frs;rw[Zsf,hf];exact ZrE)
   obtain⟨sl,e⟩:=I.base.slot L o ho (I.ok.frf L hL) hL fun z=>I.ok.exfs L z hL
   exact⟨hk,⟨L,_,hf,hn,e,hd⟩,ih (fun b hb=>hs b (by unfold frs;rw[Zsf,hf];exact Zrj _ hb)) hr⟩
 exact all X.outer (fun _ hb=>hb) I.ok.funs
theorem Inv.stack (I:Inv X pins σ H s):s.heap.FunFrames X.base X.stack:=by
 rcases I.ok.stk with e|⟨e,hf⟩
 ·rw[e];exact I.funs
 ·rw[e]
  obtain⟨m,hn,_⟩:=I.loc
  refine .cons (by rw[I.ok.kind];decide) hf hn ?_ I.funs
  exact Heap.get?_none_of_le (Zrq I.ok.bsz I.ok.above)
theorem Inv.stkSub (I:Inv X pins σ H s):∀b∈frs X.stack,b∈X.env.locals::X.fs:=fun b hb=>by
 rcases I.ok.stk with e|⟨e,hf⟩
 ·rw[e] at hb;exact Zrj _ hb
 ·rw[e] at hb
  unfold frs at hb
  rw[Zsf,hf] at hb
  exact hb
theorem Inv.stkFree (I:Inv X pins σ H s):∀b∈frs X.stack,H b=none:=fun b hb=>by
 rcases ZqS.mp (I.stkSub b hb) with e|hb
 ·rw[e];exact I.free
 ·obtain⟨_,o,ho,_⟩:=I.ok.funs.mem hb
  exact I.base.free b o ho (I.ok.frf b hb) fun z=>I.ok.exfs b z hb
theorem Inv.step {g':Array GenState}{t':Nat}{d':Drawn}{ch:List Addr} (I:Inv X pins σ H s)
  (hch:∀b∈ch,(b∈X.ex\/X.s₀.heap.objs.size<=b)/\b≠X.env.locals/\(∀x c,X.env.cells.lookup x=some c->c≠b)/\∀p∈X.pn++pins,p.1≠b)
  (keep:∀b o,b≠X.env.locals->b ∉ X.fs->b ∉ ch->s.heap.get? b=some o->H b=none->h'.get? b=some o)
  (slot:∀b o,b≠X.env.locals->b∈X.fs->b ∉ ch->s.heap.get? b=some o->H b=none->∃sl,h'.get? b=some { o with slots:=sl }) (free:∀b o,b ∉ ch->s.heap.get? b=some o->H b=none->H' b=none)
  (there:∀b o,b ∉ ch->s.heap.get? b=some o->∃o',h'.get? b=some o')
  (tups:∀b xs,H b=some (.tup xs)->H' b=some (.tup xs)) (frzs:∀b o u,H b=some (.frz o u)->H' b=some (.frz o u)) (tbls:∀b ps,H b=some (.tbl ps)->∃more,H' b=some (.tbl (ps++more)))
  (ns:∀m,s.heap.Ns X.env.locals m->h'.Ns X.env.locals m) (hok:HOk X.prog X.w H' h') (hg:AllBare g') :
  Inv X pins σ H' { s with heap:=h',gens:=g',drawn:=d',toks:=t' }:=by
 have neL:∀b o,X.s₀.heap.get? b=some o->b≠X.env.locals:=fun b o e=>Zrk (ZqU (Heap.lt_size e) I.ok.above)
 have neC:∀b o,X.s₀.heap.get? b=some o->b ∉ X.ex->b ∉ ch:=fun b o e hx hb=>by
  rcases (hch b hb).1 with z|z
  ·exact hx z
  ·exact absurd (ZqU (Heap.lt_size e) z) (ZrA _)
 have cellK:∀x c,X.env.cells.lookup x=some c->∀v,s.heap.IsCell c v->h'.IsCell c v:=fun x c e v ⟨o,ho,hd⟩=>by
  have nch:c ∉ ch:=fun z=>(hch c z).2.2.1 x c e rfl
  by_cases hc:c∈X.fs
  ·obtain⟨sl,q⟩:=slot c o (I.cne x c e) hc nch ho (I.freeC x c e)
   exact⟨_,q,hd⟩
  ·exact⟨o,keep c o (I.cne x c e) hc nch ho (I.freeC x c e),hd⟩
 refine⟨I.ok,I.os,hg,⟨fun b o e n hb hx=>?_,fun b o e n hb hx=>?_,fun b o e n hx=>?_,fun b o e hx=>?_,fun b xs e=>tups b xs (I.base.tups b xs e),fun b o xs e=>frzs b o xs (I.base.frzs b o xs e),fun b ps e=>?_⟩, ?_,fun x c e=>?_, ?_,fun x c e=>?_,fun p hp=>?_,hok,I.len⟩
 ·exact keep b o (neL b o e) hb (neC b o e hx) (I.base.keep b o e n hb hx) (I.base.free b o e n hx)
 ·obtain⟨sl,e1⟩:=I.base.slot b o e n hb hx
  obtain⟨sl',e2⟩:=slot b _ (neL b o e) hb (neC b o e hx) e1 (I.base.free b o e n hx)
  exact⟨sl',e2⟩
 ·obtain⟨o',e1⟩:=I.base.there b o e hx
  exact free b o' (neC b o e hx) e1 (I.base.free b o e n hx)
 ·obtain⟨o',e1⟩:=I.base.there b o e hx
  exact there b o' (neC b o e hx) e1
 ·obtain⟨m1,e1⟩:=I.base.tbls b ps e
  obtain⟨m2,e2⟩:=tbls b _ e1
  exact⟨m1++m2,by rw[e2,Array.append_assoc]⟩
 ·obtain⟨m,hn,hl⟩:=I.loc
  refine⟨m,ns m hn,fun i x v e1 e2 e3=>?_⟩
  obtain⟨u,r,l⟩:=hl i x v e1 e2 e3
  refine⟨u,r, ?_⟩
  rcases l with l|⟨k,c,e,z⟩
  ·exact .inl l
  ·exact .inr ⟨k,c,e,cellK x c e _ z⟩
 ·obtain⟨v,z⟩:=I.cell x c e
  exact⟨v,cellK x c e v z⟩
 ·obtain⟨m,⟨o,_,_,ho,_⟩,_⟩:=I.loc
  exact free _ o (fun z=>(hch _ z).2.1 rfl) ho I.free
 ·obtain⟨v,o,ho,hd⟩:=I.cell x c e
  exact free c o (fun z=>(hch c z).2.2.1 x c e rfl) ho (I.freeC x c e)
 ·obtain⟨e,n,ne,nf,d⟩:=I.pin p hp
  have nch:p.1 ∉ ch:=fun z=>(hch p.1 z).2.2.2 p hp rfl
  exact⟨keep p.1 p.2 ne nf nch e n,free p.1 p.2 nch e n,ne,nf,d⟩
theorem Inv.un {t':Nat} (I:Inv X pins σ H s) (u:Un X.fs [] H H' s.heap h') (hok:HOk X.prog X.w H' h'):Inv X pins σ H' { s with heap:=h',toks:=t' }:=by
 obtain⟨m,⟨o,es,ep,ho,r⟩,_⟩:=id I.loc
 obtain⟨sl,hL⟩:=u.any ho I.free (by simp)
 exact I.step (g':=s.gens) (d':=s.drawn) (ch:=[]) (fun _ z=>nomatch z) (fun b o _ hb _ e n=>u.keep b o e n hb (by simp)) (fun b o _ hb _ e n=>u.slot b o e n hb (by simp)) (fun b o _ e n=>u.free b o e n (by simp)) (fun b o _ e=>u.there b o e (by simp)) u.tups u.frzs u.tbls (fun m' hm=>by
  obtain⟨o',es',ep',ho',r'⟩:=hm
  rw[ho] at ho';cases ho'
  exact⟨_,es',ep',hL,r'⟩) hok I.bare
theorem Inv.call {g':Array GenState}{t':Nat}{d':Drawn}{ch:List Addr} (I:Inv X pins σ H s) (u:Un (frs X.stack) ch H H' s.heap h') (hok:HOk X.prog X.w H' h') (hg:AllBare g')
  (hch:∀b∈ch,(b∈X.ex\/X.s₀.heap.objs.size<=b)/\b≠X.env.locals/\(∀x c,X.env.cells.lookup x=some c->c≠b)/\∀p∈X.pn++pins,p.1≠b) :
  Inv X pins σ H' { s with heap:=h',gens:=g',drawn:=d',toks:=t' }:=by
 obtain⟨m,⟨o,es,ep,ho,r⟩,_⟩:=id I.loc
 obtain⟨sl,hL⟩:=u.any ho I.free fun z=>(hch _ z).2.1 rfl
 exact I.step (ch:=ch) hch (fun b o hL hb hc e n=>u.keep b o e n (fun z=>(ZqS.mp (I.stkSub b z)).elim hL hb) hc) (fun b o _ _ hc e n=>u.any e n hc) (fun b o hc e n=>u.free b o e n hc) (fun b o hc e=>u.there b o e hc) u.tups u.frzs u.tbls (fun m' hm=>by
  obtain⟨o',es',ep',ho',r'⟩:=hm
  rw[ho] at ho';cases ho'
  exact⟨_,es',ep',hL,r'⟩) hok hg
theorem Inv.turned {t':Nat}{it:Addr} (I:Inv X pins σ H s) (k:∀b o,b≠it->s.heap.get? b=some o->h'.get? b=some o) (hn:H it=none) (hL:it≠X.env.locals)
  (h1:it∈X.ex\/X.s₀.heap.objs.size<=it) (h2:∀x c,X.env.cells.lookup x=some c->c≠it) (h3:∀p∈X.pn++pins,p.1≠it):Inv X pins σ H { s with heap:=h',toks:=t' }:=by
 have nit:∀b u,H b=some u->b≠it:=fun b u e z=>by rw[z,hn] at e;cases e
 refine I.step (g':=s.gens) (d':=s.drawn) (ch:=[it]) (fun b hb=>?_) (fun b o _ _ hc e _=>k b o (fun z=>hc (by simp[z])) e) (fun b o _ _ hc e _=>⟨o.slots,k b o (fun z=>hc (by simp[z])) e⟩) (fun _ _ _ _ n=>n)
  (fun b o hc e=>⟨o,k b o (fun z=>hc (by simp[z])) e⟩) (fun _ _ e=>e) (fun _ _ _ e=>e) (fun b ps e=>⟨#[],by rw[e];simp⟩) (fun m hm=>?_) (fun b u e=>?_) I.bare
 ·have e:b=it:=by simpa using hb
  subst e
  exact⟨h1,hL,h2,h3⟩
 ·obtain⟨o,es,ep,ho,r⟩:=hm
  exact⟨o,es,ep,k _ o (Ne.symm hL) ho,r⟩
 ·refine(I.hok b u e).stay (fun c v hc q=>k c v ?_ q) (fun _ q=>q) fun _ _ q=>q
  rcases hc with z|z
  ·rw[z];exact nit b u e
  ·exact nit c _ z
theorem Inv.tok (I:Inv X pins σ H s) (t:Nat):Inv X pins σ H { s with toks:=t }:=I.un (h':=s.heap) (t':=t) Un.refl I.hok
theorem Inv.kept {t':Nat} (I:Inv X pins σ H s) (k:∀b u,s.heap.get? b=some u->h'.get? b=some u):Inv X pins σ H { s with heap:=h',toks:=t' }:=I.un (Un.kept k) (I.hok.kept k)
theorem Inv.laid {a:Addr}{o:HO}{t':Nat} (I:Inv X pins σ H s) (k:∀b u,s.heap.get? b=some u->h'.get? b=some u) (hp:s.heap.objs.size<=a) (new:Ji X.prog X.w (upd H a o) h' a o) :
  Inv X pins σ (upd H a o) { s with heap:=h',toks:=t' }:=I.un (Un.laid k hp (I.hok.fresh hp)) (I.hok.laid k hp new)
theorem Inv.write {x e:Addr}{o:HO}{t':Nat} (I:Inv X pins σ H s) (mu:Mut (H x)) (he:e=x\/H e=some (.own x)) (k:∀b u,b≠e->s.heap.get? b=some u->h'.get? b=some u) (heo:∃u,h'.get? e=some u)
  (new:Ji X.prog X.w (upd H x o) h' x o):Inv X pins σ (upd H x o) { s with heap:=h',toks:=t' }:=I.un (Un.write mu he k heo) (I.hok.write mu he k heo new)
theorem Inv.pins_of {pins':List (Addr×Obj)} (I:Inv X pins σ H s) (h:∀p∈pins',s.heap.get? p.1=some p.2/\H p.1=none/\p.1≠X.env.locals/\p.1 ∉ X.fs/\∀v,p.2.data≠.cell v):Inv X pins' σ H s:=
 ⟨I.ok,I.os,I.bare,I.base,I.loc,I.cell,I.free,I.freeC,fun p hp=>(ZqK.mp hp).elim (fun z=>I.pin p (ZqM _ z)) (h p),I.hok,I.len⟩
theorem ZcV {N:List Str} (hN:N.Nodup) {i j:Nat}{x:Str} (a:N[i]?=some x) (b:N[j]?=some x):i=j:=by
 obtain⟨h1,e1⟩:=ZqI.mp a
 obtain⟨h2,e2⟩:=ZqI.mp b
 exact(List.getElem_inj hN).mp (e1.trans e2.symm)
theorem ZaJ {M:Model}{A:Around}{E:Value->Shared->Prop}{i:Nat}{x:Str}{v:V}{u:Value}{Q:Unit->Shared->Prop} (I:Inv X pins σ H s) (hN:X.N.Nodup) (hi:X.N[i]?=some x) (hx:Loc X.env.scope x) (r:Ja v u)
  (h:∀s',Inv X pins (σ.set i (some v)) H s'->(∃a,Heap.SameBut a s.heap s'.heap/\(a=X.env.locals\/X.env.cells.lookup x=some a))->Q () s') (hf:X.fn x=true\/X.env.scope.names.lookup x=some .local):wpAny M A (storeName X.env x u) Q E s:=by
 obtain⟨m,hn,hl⟩:=id I.loc
 have hcls:(X.env.scope.kind==.class || (X.env.scope.kind==.module&&X.env.locals != X.env.globals))=false:=by rw[I.ok.kind];rfl
 have hiσ:i<σ.length:=by rw[I.len];exact(ZqI.mp hi).1
 have cne:=I.cne
 have tracked:∀{a:Addr}{h':Heap},(∃o,s.heap.get? a=some o/\H a=none)->Heap.SameBut a s.heap h'->HOk X.prog X.w H h':=fun {a h'} ha hs b ob e=>by
  obtain⟨_,_,hfree⟩:=ha
  refine(I.hok b ob e).stay (fun c w' hc q=>(hs.2 c ?_).trans q) (fun _ q=>q) fun _ _ q=>q
  rintro rfl
  rcases hc with rfl|hc
  ·rw[hfree] at e;cases e
  ·rw[hfree] at hc;cases hc
 rcases hx with hk|hk
 ·refine wpAny_storeName_local hk hn (fun h' hn' hs=>?_) hcls
  obtain⟨oL,_,_,hoL,_⟩:=id hn
  refine h _ ⟨I.ok,I.os,I.bare,⟨fun b o e n hb hx=>?_,fun b o e n hb hx=>?_,I.base.free,fun b o e hx=>?_,I.base.tups,I.base.frzs,I.base.tbls⟩,⟨_,hn',fun j y v' e1 e2 e3=>?_⟩,fun y c e=>?_,I.free,I.freeC,fun p hp=>?_,tracked ⟨oL,hoL,I.free⟩ hs,by simpa using I.len⟩ ⟨_,hs,.inl rfl⟩
  ·exact(hs.2 b (Zrk (ZqU (Heap.lt_size e) I.ok.above))).trans (I.base.keep b o e n hb hx)
  ·obtain⟨sl,e1⟩:=I.base.slot b o e n hb hx
   exact⟨sl,(hs.2 b (Zrk (ZqU (Heap.lt_size e) I.ok.above))).trans e1⟩
  ·obtain⟨o',e1⟩:=I.base.there b o e hx
   exact⟨o',(hs.2 b (Zrk (ZqU (Heap.lt_size e) I.ok.above))).trans e1⟩
  ·by_cases hj:j=i
   ·subst hj
    rw[hi] at e1;cases e1
    rw[Zrf hiσ] at e2
    cases e2
    exact⟨u,r,.inl ⟨hk,by simp⟩⟩
   ·rw[ZqZ (Ne.symm hj)] at e2
    obtain⟨u',r',q⟩:=hl j y v' e1 e2 e3
    refine⟨u',r', ?_⟩
    rcases q with ⟨k,e⟩|⟨k,c,e,z⟩
    ·refine .inl ⟨k, ?_⟩
     have:y≠x:=fun e=>hj (ZcV hN e1 (e▸hi))
     simp[this,e]
    ·exact .inr ⟨k,c,e,z.sameBut hs (cne y c e)⟩
  ·obtain⟨w',z⟩:=I.cell y c e
   exact⟨w',z.sameBut hs (cne y c e)⟩
  ·obtain⟨e,n,ne,nf,d⟩:=I.pin p hp
   exact⟨(hs.2 p.1 ne).trans e,n,ne,nf,d⟩
 ·have hfn:X.fn x=true:=by
   rcases hf with z|z
   ·exact z
   ·rw[z] at hk;cases hk
  obtain⟨c,hc⟩:=I.ok.has x (.inl hk)
  obtain⟨w',z⟩:=I.cell x c hc
  refine wpAny_storeName_cell I.ok.kind hk hc z (fun h' hc' hs=>?_)
  obtain⟨oc,hoc,hocd⟩:=id z
  refine h { s with heap:=h' } ⟨I.ok,I.os,I.bare,⟨fun b o e n hb hx=>?_,fun b o e n hb hx=>?_,I.base.free,fun b o e hx=>?_,I.base.tups,I.base.frzs,I.base.tbls⟩,⟨m,hn.sameBut hs (Ne.symm (cne x c hc)),fun j y v' e1 e2 e3=>?_⟩,fun y c' e=>?_,I.free,I.freeC,fun p hp=>?_,tracked ⟨oc,hoc,I.freeC x c hc⟩ hs,by simpa using I.len⟩ ⟨c,hs,.inr hc⟩
  ·exact(hs.2 b (Zrk (ZqU (Heap.lt_size e) (I.ok.cab x c hfn hc)))).trans (I.base.keep b o e n hb hx)
  ·obtain⟨sl,e1⟩:=I.base.slot b o e n hb hx
   exact⟨sl,(hs.2 b (Zrk (ZqU (Heap.lt_size e) (I.ok.cab x c hfn hc)))).trans e1⟩
  ·obtain⟨o',e1⟩:=I.base.there b o e hx
   exact⟨o',(hs.2 b (Zrk (ZqU (Heap.lt_size e) (I.ok.cab x c hfn hc)))).trans e1⟩
  ·by_cases hj:j=i
   ·subst hj
    rw[hi] at e1;cases e1
    rw[Zrf hiσ] at e2
    cases e2
    exact⟨u,r,.inr ⟨.inl hk,c,hc,hc'⟩⟩
   ·rw[ZqZ (Ne.symm hj)] at e2
    obtain⟨u',r',q⟩:=hl j y v' e1 e2 e3
    refine⟨u',r', ?_⟩
    rcases q with q|⟨k,c',e,z'⟩
    ·exact .inl q
    ·refine .inr ⟨k,c',e,z'.sameBut hs ?_⟩
     rintro rfl
     exact hj (ZcV hN e1 (I.ok.inj _ _ _ e hc▸hi))
  ·by_cases hcc:c'=c
   ·subst hcc;exact⟨_,hc'⟩
   ·obtain⟨w2,z2⟩:=I.cell y c' e
    exact⟨w2,z2.sameBut hs hcc⟩
  ·obtain⟨e,n,ne,nf,d⟩:=I.pin p hp
   refine⟨(hs.2 p.1 ?_).trans e,n,ne,nf,d⟩
   intro q
   rw[q,hoc] at e
   have q':oc=p.2:=Option.some.inj e
   exact d w' (by rw[<- q'];exact hocd)
theorem U5 {M:Model}{A:Around}{E:Value->Shared->Prop}{i:Nat}{x:Str}{v:V}{u:Value}{Q:Unit->Shared->Prop} (I:Inv X pins σ H s) (hN:X.N.Nodup) (hi:X.N[i]?=some x) (hx:Loc X.env.scope x) (r:Ja v u)
  (h:∀s',Inv X pins (σ.set i (some v)) H s'->Q () s') (hf:X.fn x=true\/X.env.scope.names.lookup x=some .local):wpAny M A (storeName X.env x u) Q E s:=
 ZaJ I hN hi hx r (fun s' I' _=>h s' I') hf
theorem Inv.call' {s':Shared}{ch:List Addr} (I:Inv X pins σ H s) (ho:s'.os=s.os) (u:Un (frs X.stack) ch H H' s.heap s'.heap) (hok:HOk X.prog X.w H' s'.heap) (hg:AllBare s'.gens)
  (hch:∀b∈ch,(b∈X.ex\/X.s₀.heap.objs.size<=b)/\b≠X.env.locals/\(∀x c,X.env.cells.lookup x=some c->c≠b)/\∀p∈X.pn++pins,p.1≠b):Inv X pins σ H' s':=by
 obtain⟨h',g',d',t',o'⟩:=s'
 have e:o'=s.os:=ho
 subst e
 exact I.call (g':=g') (t':=t') (d':=d') u hok hg hch
end
noncomputable abbrev XK:=Value->Option Addr->Hp->Prop
noncomputable abbrev St:=List (Option V)
noncomputable abbrev VK:=V->Hp->Prop
noncomputable abbrev TE:=St->Hp->VK->Prop
noncomputable abbrev TT:=St->Hp->(Bool->Hp->Prop)->Prop
noncomputable abbrev TA:=St->Hp->(List V->Hp->Prop)->Prop
structure ZfN where
 nx:St->Hp->Prop
 rt:VK
 bk:St->Hp->Prop:=fun _ _=>False
 ct:St->Hp->Prop:=fun _ _=>False
noncomputable abbrev TS:=ZfN->St->Hp->Prop
def EP (X:Cx) (pins:List (Addr×Obj)) (σ:St) (Q:VK) (u:Value) (s':Shared):Prop:=∃v H',Inv X pins σ H' s'/\Ja v u/\Q v H'
def TP (X:Cx) (pins:List (Addr×Obj)) (σ:St) (Q:Bool->Hp->Prop) (b:Bool) (s':Shared):Prop:=∃H',Inv X pins σ H' s'/\Q b H'
def AP (X:Cx) (pins:List (Addr×Obj)) (σ:St) (Q:List V->Hp->Prop) (us:List Value) (s':Shared):Prop:=∃vs H',Inv X pins σ H' s'/\ZE vs us/\Q vs H'
def SP (X:Cx) (pins:List (Addr×Obj)) (D:ZfN) (f:Flow) (s':Shared):Prop:=
 match f with
 |.next=>∃σ' H',Inv X pins σ' H' s'/\D.nx σ' H'
 |.brk=>∃σ' H',Inv X pins σ' H' s'/\D.bk σ' H'
 |.cont=>∃σ' H',Inv X pins σ' H' s'/\D.ct σ' H'
 |.ret u=>∃v σ' H',Inv X pins σ' H' s'/\Ja v u/\D.rt v H'
def PE (X:Cx) (e:Expr) (t:TE):Prop:=
 ∀(pins:List (Addr×Obj)) (s:Shared) (σ:St) (H:Hp) (Q:VK),Inv X pins σ H s->t σ H Q->wpAny (model X.prog X.w) X.A (eval e X.env) (EP X pins σ Q) X.xe s
def PT (X:Cx) (e:Expr) (t:TT):Prop:=
 ∀(pins:List (Addr×Obj)) (s:Shared) (σ:St) (H:Hp) (Q:Bool->Hp->Prop),Inv X pins σ H s->t σ H Q->wpAny (model X.prog X.w) X.A (isTrue e X.env (eval e X.env)) (TP X pins σ Q) X.xe s
def PW (X:Cx) (e:Expr) (t:TT):Prop:=
 ∀(whole:Sem Value) (pins:List (Addr×Obj)) (s:Shared) (σ:St) (H:Hp) (Q:Bool->Hp->Prop),Inv X pins σ H s->t σ H Q->wpAny (model X.prog X.w) X.A (isTrue e X.env whole) (TP X pins σ Q) X.xe s
theorem PW.pt {X:Cx}{e:Expr}{t:TT} (h:PW X e t):PT X e t:=h _
def PA (X:Cx) (es:List Expr) (t:TA):Prop:=
 ∀(pos:Pos) (pins:List (Addr×Obj)) (s:Shared) (σ:St) (H:Hp) (Q:List V->Hp->Prop),Inv X pins σ H s->t σ H Q->wpAny (model X.prog X.w) X.A (spliced (backTo pos (starEach es X.env))) (AP X pins σ Q) X.xe s
def PS (X:Cx) (st:Stmt) (t:TS):Prop:=
 ∀(pins:List (Addr×Obj)) (s:Shared) (σ:St) (H:Hp) (D:ZfN),Inv X pins σ H s->t D σ H->wpAny (model X.prog X.w) X.A (exec st X.env) (SP X pins D) X.xe s
def PSs (X:Cx) (st:List Stmt) (t:TS):Prop:=
 ∀(pins:List (Addr×Obj)) (s:Shared) (σ:St) (H:Hp) (D:ZfN),Inv X pins σ H s->t D σ H->wpAny (model X.prog X.w) X.A (execs st X.env) (SP X pins D) X.xe s
theorem thn {α:Type}{t:Sem α}{Q Q':α->Shared->Prop}{M:Model}{A:Around}{E:Value->Shared->Prop}{s:Shared} (h:wpAny M A t Q E s) (hQ:∀a s,Q a s->Q' a s):wpAny M A t Q' E s:=wpAny_mono h hQ fun _ _ x=>x
section
variable {X:Cx}
theorem bin {a b:Expr}{ta tb:TE} (ha:PE X a ta) (hb:PE X b tb) {pins:List (Addr×Obj)}{s:Shared}{σ:St}{H:Hp}{R:V->V->Hp->Prop} (I:Inv X pins σ H s) (h:ta σ H fun x H1=>tb σ H1 fun y H2=>R x y H2)
  {α:Type}{Q:α->Shared->Prop}{f:Value->Value->Sem α}
  (hf:∀v u s2 x y H2,Inv X pins σ H2 s2->Ja x v->Ja y u->R x y H2->wpAny (model X.prog X.w) X.A (f v u) Q X.xe s2) :
  wpAny (model X.prog X.w) X.A (eval a X.env) (fun v s₁=>wpAny (model X.prog X.w) X.A (eval b X.env) (fun u s₂=>wpAny (model X.prog X.w) X.A (f v u) Q X.xe s₂) X.xe s₁) X.xe s:=by
 refine thn (ha pins s σ H _ I h) fun v s1 ⟨x,H1,I1,r1,q1⟩=>?_
 refine thn (hb pins s1 σ H1 _ I1 q1) fun u s2 ⟨y,H2,I2,r2,q2⟩=>?_
 exact hf v u s2 x y H2 I2 r1 r2 q2
noncomputable def UP (i:Nat):TE:=fun σ H Q=>∃v,σ[i]?=some (some v)/\Q v H
noncomputable def tC (v:V):TE:=fun _ H Q=>Q v H
theorem Zjw {i:Nat}{x:Str}{pos:Pos} (hN:X.N[i]?=some x) (hv:Vis X.env.scope x) (hd:(x==("__debug__":Str))=false:=by decide) (hcd:(x==("__classdict__":Str))=false:=by decide):PE X (.Name x pos) (UP i):=by
 intro pins s σ H Q I h
 obtain⟨v,e,h⟩:=h
 obtain⟨m,hn,hl⟩:=I.loc
 obtain⟨u,r,l⟩:=hl i x v hN e hv
 have fin:EP X pins σ Q u s:=⟨v,H,I,r,h⟩
 rcases l with ⟨hk,hm⟩|⟨hk,c,hc,hcell⟩
 ·exact wpAny_Name (wpAny_loadName_local I.ok.kind hk hn hm fin) hd
 ·rcases hk with hk|hk
  ·exact wpAny_Name (wpAny_loadName_cell I.ok.kind hk hc hcell fin) hd
  ·exact wpAny_Name (wpAny_loadName_free I.ok.kind hk hc hcell fin hcd) hd
theorem Zk {i j pos}:PE X (.Constant (.int i) j pos) (tC (.int i)):=fun _ _ _ H _ I h=>wpAny_Constant_int ⟨.int i,H,I.tok _,⟨_,rfl⟩,h⟩
theorem Ze5 {b j pos}:PE X (.Constant (.bool b) j pos) (tC (.bl b)):=fun _ _ _ H _ I h=>Constant_bool ⟨.bl b,H,I,rfl,h⟩
theorem ZaS {x j pos}:PE X (.Constant (.str x) j pos) (tC (.str x)):=fun _ _ _ H _ I h=>Calls.Constant_str ⟨.str x,H,I.tok _,⟨_,rfl⟩,h⟩
def Gl (X:Cx) (x:Str):Prop:=X.env.kindOf x=some .globalImplicit
theorem VY {E:Value->Shared->Prop}{pins:List (Addr×Obj)}{s:Shared}{σ:St}{H:Hp}{x:Str}{u:Value}{pos:Pos}{Q:Value->Shared->Prop} (I:Inv X pins σ H s) (hg:Gl X x) (hm:X.mg x=some u) (h:Q u s)
  (hd:(x==("__debug__":Str))=false:=by decide):wpAny (model X.prog X.w) X.A (eval (.Name x pos) X.env) Q E s:=
 Calls.Name_function_global I.ok.kind hg (Calls.loadGlobal_global (by rw[I.ok.glob];exact I.mod.glob.keeps I.bk) hm h) hd
theorem QM {E:Value->Shared->Prop}{pins:List (Addr×Obj)}{s:Shared}{σ:St}{H:Hp}{x:Str}{u:Value}{pos:Pos}{Q:Value->Shared->Prop} (I:Inv X pins σ H s) (hg:Gl X x) (hm:X.mg x=none) (hv:bootBuiltins x=some u) (h:Q u s)
  (hn:x ≠ "__name__":=by decide) (hd:(x==("__debug__":Str))=false:=by decide):wpAny (model X.prog X.w) X.A (eval (.Name x pos) X.env) Q E s:=by
 obtain⟨mb,h1,h2⟩:=I.mod.blt
 exact Calls.Name_function_global I.ok.kind hg (Calls.loadGlobal_builtin (by rw[I.ok.glob];exact I.mod.glob.keeps I.bk) hm (by rw[I.ok.blt];exact h1.keeps I.bk) ((h2 x hn).trans hv) h) hd
theorem ZhW {x:Str}{v:V}{u:Value}{pos:Pos} (hg:Gl X x) (hm:X.mg x=some u) (r:Ja v u) (hd:(x==("__debug__":Str))=false:=by decide):PE X (.Name x pos) (tC v):=
 fun _ _ _ H _ I h=>VY I hg hm ⟨v,H,I,r,h⟩ hd
theorem Vy {x:Str}{v:V}{u:Value}{pos:Pos} (hg:Gl X x) (hm:X.mg x=none) (hv:bootBuiltins x=some u) (r:Ja v u) (hn:x ≠ "__name__":=by decide) (hd:(x==("__debug__":Str))=false:=by decide):PE X (.Name x pos) (tC v):=
 fun _ _ _ H _ I h=>QM I hg hm hv ⟨v,H,I,r,h⟩ hn hd
variable {a b:Expr}{ta tb:TE}{pos:Pos}
def PC (X:Cx) (op:CmpOp) (a b:Expr) (t:TE):Prop:=
 ∀(pins:List (Addr×Obj)) (s:Shared) (σ:St) (H:Hp) (Q:VK),Inv X pins σ H s->t σ H Q ->
  wpAny (model X.prog X.w) X.A (eval a X.env) (fun v s₁=>wpAny (model X.prog X.w) X.A (eval b X.env) (fun u s₂=>wpAny (model X.prog X.w) X.A (compareOp op v u) (EP X pins σ Q) X.xe s₂) X.xe s₁) X.xe s
theorem Zgq (b:Expr) {op:CmpOp} (h:op≠.In) (h2:op≠.NotIn):behindInMarks op b=false:=by
 have e1:(op==CmpOp.In)=false:=by cases op<;>first|rfl|exact absurd rfl h
 have e2:(op==CmpOp.NotIn)=false:=by cases op<;>first|rfl|exact absurd rfl h2
 cases b<;>simp[behindInMarks,e1,e2]
noncomputable def tB (t:TE):TT:=fun σ H Q=>t σ H fun x H1=>∃c,x=.bl c/\Q c H1
theorem Zjr {op:CmpOp}{t:TE} (h:PC X op a b t) (h1:behindInMarks op b=false:=by first|exact Zgq _ (by decide) (by decide)|rfl):PT X (.Compare a [op] [b] pos) (tB t):=by
 intro pins s σ H Q I hw
 refine wpAny_isTrue_Compare1 (thn (h pins s σ H _ I hw) fun v s1 h1=>thn h1 fun u s2 h2=>thn h2 fun c s3 ⟨x,H1,I1,r1,q1⟩=>?_) h1
 obtain⟨d,rfl,q⟩:=q1
 cases r1
 exact wpAny_truthy_bool ⟨H1,I1,q⟩
theorem Uh {e:Expr}{t:TE} (h:PE X e t) (he:∀whole,isTrue e X.env whole=(do let v <- whole;standAt e.pos;holding [v] (truthy v)):=by exact fun _=>rfl):PT X e (tB t):=by
 intro pins s σ H Q I hw
 refine isTrue_plain (thn (h pins s σ H _ I hw) fun v s1 ⟨x,H1,I1,r1,q1⟩=>?_) (he _)
 obtain⟨d,rfl,q⟩:=q1
 cases r1
 exact wpAny_truthy_bool ⟨H1,I1,q⟩
variable {tA tB':TT}{ZfL:List Expr}
noncomputable def Zl8 (t u:TT):TT:=fun σ H Q=>t σ H fun c H1=>if c=true then u σ H1 Q else Q false H1
noncomputable def tOr (t u:TT):TT:=fun σ H Q=>t σ H fun c H1=>if c=true then Q true H1 else u σ H1 Q
noncomputable def Zl5 (t:TT):TT:=fun σ H Q=>t σ H fun c H1=>Q (!c) H1
theorem Zag (ha:PT X a tA):PW X (.BoolOp .And [a] pos) tA:=by
 intro wh pins s σ H Q I h
 refine isTrue_and (thn (ha pins s σ H Q I h) fun c s1 e=>?_)
 cases c with
 |true=>exact isTrue_and_nil e
 |false=>exact e
theorem Zc8 (ha:PT X a tA):PW X (.BoolOp .Or [a] pos) tA:=by
 intro wh pins s σ H Q I h
 refine isTrue_or (thn (ha pins s σ H Q I h) fun c s1 e=>?_)
 cases c with
 |false=>exact isTrue_or_nil e
 |true=>exact e
theorem Zc9 (ha:PT X a tA) (hb:PW X (.BoolOp .And (b::ZfL) pos) tB'):PW X (.BoolOp .And (a::b::ZfL) pos) (Zl8 tA tB'):=by
 intro wh pins s σ H Q I h
 refine isTrue_and (thn (ha pins s σ H _ I h) fun c s1 ⟨H1,I1,q1⟩=>?_)
 cases c with
 |true=>exact hb wh pins s1 σ H1 Q I1 q1
 |false=>exact⟨H1,I1,q1⟩
theorem Zez (ha:PT X a tA) (hb:PW X (.BoolOp .Or (b::ZfL) pos) tB'):PW X (.BoolOp .Or (a::b::ZfL) pos) (tOr tA tB'):=by
 intro wh pins s σ H Q I h
 refine isTrue_or (thn (ha pins s σ H _ I h) fun c s1 ⟨H1,I1,q1⟩=>?_)
 cases c with
 |true=>exact⟨H1,I1,q1⟩
 |false=>exact hb wh pins s1 σ H1 Q I1 q1
theorem QI (ha:PT X a tA):PT X (.UnaryOp .Not a pos) (Zl5 tA):=by
 intro pins s σ H Q I h
 exact isTrue_not (ha pins s σ H (fun c H1=>Q (!c) H1) I h)
noncomputable def Zjh (ta tb:TE):TE:=fun σ H Q=>ta σ H fun x H1=>∃c,x=.bl c/\if c=true then tb σ H1 Q else Q (.bl false) H1
noncomputable def Zja (ta:TE):TE:=fun σ H Q=>ta σ H fun x H1=>∃c,x=.bl c/\Q (.bl (!c)) H1
theorem ZcJ {op}{t:TE} (h:PE X a t):PE X (.BoolOp op [a] pos) t:=fun pins s σ H Q I hw=>BoolOp_one (h pins s σ H Q I hw)
theorem ZcL (ha:PE X a ta) (hb:PE X (.BoolOp .And (b::ZfL) pos) tb):PE X (.BoolOp .And (a::b::ZfL) pos) (Zjh ta tb):=by
 intro pins s σ H Q I h
 refine BoolOp_and (thn (ha pins s σ H _ I h) fun v s1 ⟨x,H1,I1,r1,q1⟩=>?_)
 obtain⟨c,rfl,q1⟩:=q1
 cases r1
 refine wpAny_truthy_bool ?_
 cases c with
 |true=>exact hb pins s1 σ H1 Q I1 q1
 |false=>exact⟨.bl false,H1,I1,rfl,q1⟩
theorem Zjx (ha:PE X a ta):PE X (.UnaryOp .Not a pos) (Zja ta):=by
 intro pins s σ H Q I h
 refine UnaryOp_ (thn (ha pins s σ H _ I h) fun v s1 ⟨x,H1,I1,r1,q1⟩=>?_)
 obtain⟨c,rfl,q1⟩:=q1
 cases r1
 exact not_of (wpAny_truthy_bool ⟨.bl (!c),H1,I1,rfl,q1⟩)
end
def SqL (K:W.Frag) (H:Hp) (a:Addr) (xs:List V):Prop:=
 Rd H a (.lst xs) \/
  ∃(o:Obj) (its:Array Value) (n:Nat),K.lookup a=some o/\o.cls=.type "list"/\o.dict=none/\o.data=.seq its n/\its.size<=sizeLine/\ZE xs its.toList
def SqT (K:W.Frag) (H:Hp) (a:Addr) (xs:List V):Prop:=
 Rd H a (.tup xs) \/
  ∃(o:Obj) (its:Array Value) (n:Nat),K.lookup a=some o/\o.cls=.type "tuple"/\o.data=.seq its n/\its.size<=sizeLine/\ZE xs its.toList
noncomputable def Zmc:Value->Option V
 |.none=>some .non
 |.bool b=>some (.bl b)
 |.int i _=>some (.int i)
 |.str x _=>some (.str x)
 |.bytes b _=>some (.byt b)
 |.float b _=>some (.flt b)
 |.ref a=>some (.ref a)
 |.type n=>some (.ty n)
 |_=>none
theorem Ja.abs {x:V}{u:Value} (r:Ja x u):Zmc u=some x:=by
 cases x with
 |non=>cases r;rfl
 |bl _=>cases r;rfl
 |int _=>obtain⟨t,rfl⟩:=r;rfl
 |str _=>obtain⟨t,rfl⟩:=r;rfl
 |byt _=>obtain⟨t,rfl⟩:=r;rfl
 |flt _=>obtain⟨t,rfl⟩:=r;rfl
 |ref _=>cases r;rfl
 |ty _=>cases r;rfl
theorem Ja.inj {x y:V}{u:Value} (r:Ja x u) (q:Ja y u):x=y:=Option.some.inj (r.abs.symm.trans q.abs)
theorem ZE.inj:∀{xs ys:List V}{us:List Value},ZE xs us->ZE ys us->xs=ys
 |_,_,_,.nil,.nil=>rfl
 |_,_,_,.cons r t,.cons r' t'=>by rw[r.inj r',ZE.inj t t']
section
variable {X:Cx}{pins:List (Addr×Obj)}{σ:St}{H:Hp}{s:Shared}{a:Addr}{xs ys:List V}
theorem SqL.of {K:W.Frag} (h:H a=some (.lst xs)):SqL K H a xs:=.inl (.inl h)
theorem Inv.list (I:Inv X pins σ H s) (h:SqL X.K H a xs):∃its:List Value,ZE xs its/\PlainL s.heap a its.toArray/\xs.length<=sizeLine:=by
 rcases h with h|⟨o,its,n,hk,hc,hd,hs,hz,r⟩
 ·obtain⟨z,its,n,r,e⟩:=h.ok I.hok
  exact⟨its,r,⟨_,n,e,rfl,rfl,rfl⟩,z⟩
 ·refine⟨its.toList,r,⟨o,n,I.kIn a o hk,hc,hd,by simpa using hs⟩, ?_⟩
  have e:=r.length
  simp only[ZqL] at e
  omega
theorem Inv.tuple (I:Inv X pins σ H s) (h:SqT X.K H a xs):∃its:List Value,ZE xs its/\IsTup s.heap a its.toArray/\xs.length<=sizeLine:=by
 rcases h with h|⟨o,its,n,hk,hc,hs,hz,r⟩
 ·obtain⟨z,its,r,p⟩:=h.ok I.hok
  exact⟨its,r,p,z⟩
 ·refine⟨its.toList,r,⟨o,I.kIn a o hk,hc,n,by simpa using hs⟩, ?_⟩
  have e:=r.length
  simp only[ZqL] at e
  omega
theorem Inv.list_inj (I:Inv X pins σ H s) (h:SqL X.K H a xs) (h':SqL X.K H a ys):xs=ys:=by
 obtain⟨its,r,⟨o,n,e,_,_,d⟩,_⟩:=I.list h
 obtain⟨its',r',⟨o',n',e',_,_,d'⟩,_⟩:=I.list h'
 rw[e] at e';cases e'
 rw[d] at d'
 injection d' with d1 _
 have:its=its':=by simpa using congrArg Array.toList d1
 subst this
 exact r.inj r'
end
noncomputable abbrev Cx.wish (X:Cx) (E:Value->Shared->Prop):Cx:={ X with xe:=E }
noncomputable abbrev Cx.nox (X:Cx):Cx:=X.wish fun _ _=>False
theorem Cx.Ok.wish {X:Cx} (ok:X.Ok) (E:Value->Shared->Prop):(X.wish E).Ok:=
 ⟨ok.mod,ok.kind,ok.glob,ok.blt,ok.above,ok.inj,ok.has,ok.cab,ok.hd,ok.frames,ok.stk,ok.exf,ok.bs,ok.bsz,ok.noex,ok.exfs,ok.funs,ok.frf⟩
theorem Cx.Ok.unwish {X:Cx}{E:Value->Shared->Prop} (ok:(X.wish E).Ok):X.Ok:=
 ⟨ok.mod,ok.kind,ok.glob,ok.blt,ok.above,ok.inj,ok.has,ok.cab,ok.hd,ok.frames,ok.stk,ok.exf,ok.bs,ok.bsz,ok.noex,ok.exfs,ok.funs,ok.frf⟩
section
variable {X:Cx}{pins:List (Addr×Obj)}{σ:St}{H:Hp}{s:Shared}{E:Value->Shared->Prop}
theorem Inv.wish (I:Inv X pins σ H s) (E:Value->Shared->Prop):Inv (X.wish E) pins σ H s:=⟨I.ok.wish E,I.os,I.bare,I.base,I.loc,I.cell,I.free,I.freeC,I.pin,I.hok,I.len⟩
theorem Inv.unwish (I:Inv (X.wish E) pins σ H s):Inv X pins σ H s:=⟨I.ok.unwish,I.os,I.bare,I.base,I.loc,I.cell,I.free,I.freeC,I.pin,I.hok,I.len⟩
theorem SP.unwish {D:ZfN}{f:Flow}{s':Shared} (h:SP (X.wish E) pins D f s'):SP X pins D f s':=by
 cases f with
 |next=>obtain⟨σ',H',I,q⟩:=h;exact⟨σ',H',I.unwish,q⟩
 |brk=>obtain⟨σ',H',I,q⟩:=h;exact⟨σ',H',I.unwish,q⟩
 |cont=>obtain⟨σ',H',I,q⟩:=h;exact⟨σ',H',I.unwish,q⟩
 |ret u=>obtain⟨v,σ',H',I,r,q⟩:=h;exact⟨v,σ',H',I.unwish,r,q⟩
theorem PSs.nox {st:List Stmt}{t:TS} (h:PSs X.nox st t):PSs X st t:=fun pins s σ H D I hw =>
 wpAny_mono (h pins s σ H D (I.wish _) hw) (fun _ _ q=>q.unwish) fun _ _ z=>False.elim z
end
section
variable {X:Cx}{st:Stmt}{ZfL:List Stmt}{t u:TS}{e:Expr}{te:TE}{pos:Pos}
noncomputable def ZhI:TS:=fun D σ H=>D.nx σ H
noncomputable def Zl4 (t u:TS):TS:=fun D σ H=>t { D with nx:=u D } σ H
theorem ZS:PSs X [] ZhI:=fun _ _ σ H _ I h=>wpAny_execs_nil ⟨σ,H,I,h⟩
theorem Zd (h1:PS X st t) (h2:PSs X ZfL u):PSs X (st::ZfL) (Zl4 t u):=by
 intro pins s σ H D I h
 refine wpAny_execs_cons (thn (h1 pins s σ H { D with nx:=u D } I h) fun f s1 q=>?_)
 cases f with
 |next =>
  obtain⟨σ',H',I',q⟩:=q
  exact h2 pins s1 σ' H' D I' q
 |ret v=>exact q
 |brk=>exact q
 |cont=>exact q
theorem Zm (h1:PS X st t):PSs X [st] t:=by
 intro pins s σ H D I h
 refine wpAny_execs_cons (thn (h1 pins s σ H D I h) fun f s1 q=>?_)
 cases f with
 |next=>exact wpAny_execs_nil q
 |ret v=>exact q
 |brk=>exact q
 |cont=>exact q
theorem Inv.quiet {pins:List (Addr×Obj)}{σ:St}{H:Hp}{s:Shared} (I:Inv X pins σ H s):interactive X.env=false:=by simp[interactive,I.ok.kind]
noncomputable def Zd3 (te:TE):TS:=fun D σ H=>te σ H fun _ H1=>D.nx σ H1
theorem ZC (he:PE X e te) (hs:swapsWith e none pos.line X.env=pure false:=by rfl):PS X (.Expr e pos) (Zd3 te):=by
 intro pins s σ H D I h
 exact wpAny_Expr_any (thn (he pins s σ H _ I h) fun v s1 ⟨x,H1,I1,r1,q1⟩=>⟨σ,H1,I1,q1⟩) I.quiet hs
noncomputable def ZiY (te:TE):TS:=fun D σ H=>te σ H D.rt
theorem ZQ (he:PE X e te):PS X (.Return (some e) pos) (ZiY te):=by
 intro pins s σ H D I h
 exact wpAny_Return_some (thn (he pins s σ H _ I h) fun v s1 ⟨x,H1,I1,r1,q1⟩=>⟨x,σ,H1,I1,r1,q1⟩)
noncomputable def ZkF (c:TT) (t u:TS):TS:=fun D σ H=>c σ H fun b H1=>if b=true then t D σ H1 else u D σ H1
theorem J7 {c:Expr}{a b:List Stmt}{tc:TT} (hc:PT X c tc) (ha:PSs X a t) (hb:PSs X b u):PS X (.If c a b pos) (ZkF tc t u):=by
 intro pins s σ H D I h
 refine wpAny_If (thn (hc pins s σ H _ I h) fun d s1 ⟨H1,I1,q1⟩=>?_)
 cases d with
 |true=>exact ha pins s1 σ H1 D I1 q1
 |false=>exact hb pins s1 σ H1 D I1 q1
noncomputable def ZgZ:TS:=fun _ _ _=>False
theorem ZcD:PS X st ZgZ:=fun _ _ _ _ _ _ h=>h.elim
end
noncomputable abbrev TG:=V->St->Hp->(St->Hp->Prop)->Prop
noncomputable abbrev TGs:=List V->St->Hp->(St->Hp->Prop)->Prop
def PG (X:Cx) (target:Expr) (t:TG):Prop:=
 ∀(pins:List (Addr×Obj)) (s:Shared) (σ:St) (H:Hp) (v:V) (u:Value) (Q:St->Hp->Prop),Inv X pins σ H s->Ja v u->t v σ H Q ->
  wpAny (model X.prog X.w) X.A (assign target X.env u) (fun _ s'=>∃σ' H',Inv X pins σ' H' s'/\Q σ' H') X.xe s
def PGs (X:Cx) (ts:List Expr) (t:TGs):Prop:=
 ∀(pins:List (Addr×Obj)) (s:Shared) (σ:St) (H:Hp) (vs:List V) (us:List Value) (Q:St->Hp->Prop),Inv X pins σ H s->ZE vs us->t vs σ H Q ->
  wpAny (model X.prog X.w) X.A (assignInOrder ((assignEach ts X.env).map (·.2)) us) (fun _ s'=>∃σ' H',Inv X pins σ' H' s'/\Q σ' H') X.xe s
noncomputable abbrev Zkp:=V->V->V->Hp->(Hp->Prop)->Prop
def Zl1 (X:Cx) (t:Zkp):Prop:=
 ∀(pins:List (Addr×Obj)) (s:Shared) (σ:St) (H:Hp) (o i v:V) (ov iv u:Value) (Q:Hp->Prop),Inv X pins σ H s->Ja o ov->Ja i iv->Ja v u->t o i v H Q ->
  wpAny (model X.prog X.w) X.A (setItem ov iv u) (fun _ s'=>∃H',Inv X pins σ H' s'/\Q H') X.xe s
noncomputable abbrev TIp:=V->V->Hp->VK->Prop
def PIp (X:Cx) (op:Operator) (t:TIp):Prop:=
 ∀(pins:List (Addr×Obj)) (s:Shared) (σ:St) (H:Hp) (x y:V) (v u:Value) (Q:VK),Inv X pins σ H s->Ja x v->Ja y u->t x y H Q ->
  wpAny (model X.prog X.w) X.A (inplaceOp op v u) (EP X pins σ Q) X.xe s
section
variable {X:Cx}{pos:Pos}
noncomputable def ZbU (i:Nat):TG:=fun v σ H Q=>Q (σ.set i (some v)) H
theorem JH {i:Nat}{x:Str} (hN:X.N.Nodup) (hi:X.N[i]?=some x) (hx:Loc X.env.scope x) (hf:X.fn x=true\/X.env.scope.names.lookup x=some .local:=by first|exact .inl rfl|exact .inr rfl|assumption):PG X (.Name x pos) (ZbU i):=by
 intro pins s σ H v u Q I r h
 exact wpAny_assign_Name (U5 I hN hi hx r (fun s' I'=>⟨_,H,I',h⟩) hf)
noncomputable def ZlN:TGs:=fun vs σ H Q=>vs=[]/\Q σ H
noncomputable def ZjQ (t:TG) (u:TGs):TGs:=fun vs σ H Q=>∃v r,vs=v::r/\t v σ H fun σ' H'=>u r σ' H' Q
theorem ZhV:PGs X [] ZlN:=by
 intro pins s σ H vs us Q I r h
 obtain⟨e,h⟩:=h
 subst e
 cases r
 exact assignInOrder_nil ⟨σ,H,I,h⟩
theorem ZcG {e:Expr}{es:List Expr}{t:TG}{u:TGs} (h1:PG X e t) (h2:PGs X es u)
  (hs:(assignEach (e::es) X.env).map (·.2)=assign e X.env::(assignEach es X.env).map (·.2):=by rfl):PGs X (e::es) (ZjQ t u):=by
 intro pins s σ H vs us Q I r h
 obtain⟨v,vr,e1,h⟩:=h
 subst e1
 cases r with
 |cons r rr =>
  rw[hs]
  refine assignInOrder_cons (thn (h1 pins s σ H _ _ _ I r h) fun _ s1 ⟨σ1,H1,I1,q1⟩=>?_)
  exact h2 pins s1 σ1 H1 _ _ Q I1 rr q1
noncomputable def ZlL (K:W.Frag) (n:Nat) (t:TGs):TG:=fun v σ H Q=>∃a xs,v=.ref a/\SqT K H a xs/\xs.length=n/\t xs σ H Q
theorem Zjv {es:List Expr}{k:Nat}{t:TGs}{n:Nat} (hc:X.calm=true) (h:PGs X es t)
  (hn:(assignEach es X.env).length=n:=by rfl) (hst:(assignEach es X.env).findIdx? (·.1)=none:=by rfl):PG X (.Tuple es k pos) (ZlL X.K n t):=by
 intro pins s σ H v u Q I r hw
 obtain⟨a,xs,e1,hq,hl,hw⟩:=hw
 subst e1
 cases r
 obtain⟨its,rv,ht,hz⟩:=I.tuple hq
 refine assign_Tuple_tuple (I.ok.hd hc) ht (by simp[hn,<- hl,rv.length]) hst fun h' hx=>?_
 have I1:Inv X pins σ H { s with heap:=h' }:=I.kept (t':=s.toks) fun b o e=>hx b o (Zrk (Heap.lt_size e)) e
 exact h pins _ σ H xs _ Q I1 (by simpa using rv) hw
noncomputable def ZlM (to ti:TE) (t:Zkp):TG:=fun v σ H Q=>to σ H fun o H1=>ti σ H1 fun i H2=>t o i v H2 fun H3=>Q σ H3
theorem ZcH {o i:Expr}{to ti:TE}{t:Zkp} (ho:PE X o to) (hi:PE X i ti) (hs:Zl1 X t)
  (ha:∀v,assign (.Subscript o i pos) X.env v=(do
   let ov <- holding [v] (eval o X.env)
   let iv <- holding [v,ov] (eval i X.env)
   standAt pos
   holding [v,ov,iv] (setItem ov iv v)
   release [v,ov,iv] []):=by exact fun _=>rfl):PG X (.Subscript o i pos) (ZlM to ti t):=by
 intro pins s σ H v u Q I r h
 rw[ha]
 refine wpAny_bind (wpAny_holding (thn (ho pins s σ H _ I h) fun ov s1 ⟨x,H1,I1,r1,q1⟩=>?_))
 refine wpAny_bind (wpAny_holding (thn (hi pins s1 σ H1 _ I1 q1) fun iv s2 ⟨y,H2,I2,r2,q2⟩=>?_))
 refine wpAny_bind (wpAny_standAt (wpAny_bind (wpAny_holding (thn (hs pins s2 σ H2 x y v ov iv u _ I2 r1 r2 r q2) fun _ s3 ⟨H3,I3,q3⟩=>?_))))
 exact wpAny_release ⟨σ,H3,I3,q3⟩
noncomputable def ZiK (te:TE) (g:TG):TS:=fun D σ H=>te σ H fun x H1=>g x σ H1 D.nx
theorem ZcE {tg e:Expr}{te:TE}{g:TG} (he:PE X e te) (hg:PG X tg g) (hs:swapsWithSole [tg] e pos.line X.env=pure false:=by rfl) (hw:swappedStores [tg] e X.env=pure none:=by rfl)
  (h1:(assignEach [tg] X.env).map (·.2)=[assign tg X.env]:=by rfl):PS X (.Assign [tg] e pos) (ZiK te g):=by
 intro pins s σ H D I h
 refine wpAny_Assign_stores (thn (he pins s σ H _ I h) fun v s1 ⟨x,H1,I1,r1,q1⟩=>?_) hs hw
 rw[h1]
 exact thn (hg pins s1 σ H1 x v _ I1 r1 q1) fun _ s2 q=>q
theorem Z1 {i:Nat}{x:Str}{e:Expr}{te:TE}{pos':Pos} (hN:X.N.Nodup) (hi:X.N[i]?=some x) (hx:Loc X.env.scope x) (he:PE X e te) (hs:swapsWith e (some (.Name x pos')) pos.line X.env=pure false:=by rfl) (hf:X.fn x=true\/X.env.scope.names.lookup x=some .local:=by first|exact .inl rfl|exact .inr rfl|assumption) :
  PS X (.Assign [.Name x pos'] e pos) (ZiK te (ZbU i)):=by
 intro pins s σ H D I h
 refine wpAny_Assign_Name (thn (he pins s σ H _ I h) fun v s1 ⟨y,H1,I1,r1,q1⟩=>?_) hs
 exact U5 I1 hN hi hx r1 (fun s2 I2=>⟨_,H1,I2,q1⟩) hf
noncomputable def Zl7 (i:Nat) (te:TE) (ti:TIp):TS:=fun D σ H=>∃x,σ[i]?=some (some x)/\te σ H fun y H1=>ti x y H1 fun z H2=>D.nx (σ.set i (some z)) H2
theorem Zjt {i:Nat}{x:Str}{e:Expr}{te:TE}{op:Operator}{ti:TIp}{pos':Pos} (hN:X.N.Nodup) (hi:X.N[i]?=some x) (hx:Loc X.env.scope x) (he:PE X e te) (ho:PIp X op ti) (hf:X.fn x=true\/X.env.scope.names.lookup x=some .local:=by first|exact .inl rfl|exact .inr rfl|assumption) :
  PS X (.AugAssign (.Name x pos') op e pos) (Zl7 i te ti):=by
 intro pins s σ H D I h
 obtain⟨v,e1,h⟩:=h
 obtain⟨m,hn,hl⟩:=I.loc
 have vis:Vis X.env.scope x:=by rcases hx with k|k;exact .inl k;exact .inr (.inl k)
 obtain⟨u,r,l⟩:=hl i x v hi e1 vis
 refine wpAny_AugAssign_Name ?_
 have go:wpAny (model X.prog X.w) X.A (eval e X.env) (fun w s₂=>wpAny (model X.prog X.w) X.A (inplaceOp op u w) (fun r s₃=>wpAny (model X.prog X.w) X.A (storeName X.env x r) (fun _=>SP X pins D .next) X.xe s₃) X.xe s₂) X.xe s:=by
  refine thn (he pins s σ H _ I h) fun w s1 ⟨y,H1,I1,r1,q1⟩=>?_
  refine thn (ho pins s1 σ H1 v y u w _ I1 r r1 q1) fun z s2 ⟨zv,H2,I2,r2,q2⟩=>?_
  exact U5 I2 hN hi hx r2 (fun s3 I3=>⟨_,H2,I3,q2⟩) hf
 rcases l with ⟨hk,hm⟩|⟨hk,c,hc,hcell⟩
 ·exact wpAny_loadName_local I.ok.kind hk hn hm go
 ·rcases hk with hk|hk
  ·exact wpAny_loadName_cell I.ok.kind hk hc hcell go
  ·rcases hx with k|k
   ·have:X.env.scope.names.lookup x=some .free:=hk
    rw[k] at this;cases this
   ·have:X.env.scope.names.lookup x=some .free:=hk
    rw[k] at this;cases this
noncomputable def Zjg (to ti te:TE) (tget:V->V->Hp->VK->Prop) (tip:TIp) (tset:Zkp):TS:=fun D σ H=>to σ H fun o H1=>ti σ H1 fun i H2=>tget o i H2 fun x H3=>te σ H3 fun y H4=>tip x y H4 fun z H5=>tset o i z H5 fun H6=>D.nx σ H6
def Zl2 (X:Cx) (t:V->V->Hp->VK->Prop):Prop:=
 ∀(pins:List (Addr×Obj)) (s:Shared) (σ:St) (H:Hp) (o i:V) (ov iv:Value) (Q:VK),Inv X pins σ H s->Ja o ov->Ja i iv->t o i H Q ->
  wpAny (model X.prog X.w) X.A (getItem ov iv) (EP X pins σ Q) X.xe s
theorem Ze1 {o i e:Expr}{to ti te:TE}{tget:V->V->Hp->VK->Prop}{tip:TIp}{tset:Zkp}{op:Operator}{tpos:Pos} (ho:PE X o to) (hi:PE X i ti) (hg:Zl2 X tget) (he:PE X e te) (hp:PIp X op tip) (hs:Zl1 X tset)
  (ha:∀ov iv new,augStore i ov iv new=(do holding [new,ov,iv] (setItem ov iv new);release [new,ov,iv] [];pure .next):=by intros;rfl):PS X (.AugAssign (.Subscript o i tpos) op e pos) (Zjg to ti te tget tip tset):=by
 intro pins s σ H D I h
 refine wpAny_AugAssign_SubscriptAny (thn (ho pins s σ H _ I h) fun ov s1 ⟨x1,H1,I1,r1,q1⟩=>?_) ha
 refine thn (hi pins s1 σ H1 _ I1 q1) fun iv s2 ⟨x2,H2,I2,r2,q2⟩=>?_
 refine thn (hg pins s2 σ H2 x1 x2 ov iv _ I2 r1 r2 q2) fun old s3 ⟨x3,H3,I3,r3,q3⟩=>?_
 refine thn (he pins s3 σ H3 _ I3 q3) fun v s4 ⟨x4,H4,I4,r4,q4⟩=>?_
 refine thn (hp pins s4 σ H4 x3 x4 old v _ I4 r3 r4 q4) fun new s5 ⟨x5,H5,I5,r5,q5⟩=>?_
 exact thn (hs pins s5 σ H5 x1 x2 x5 ov iv new _ I5 r1 r2 r5 q5) fun _ s6 ⟨H6,I6,q6⟩=>⟨σ,H6,I6,q6⟩
noncomputable def ipI (f:Int->Int->Int):TIp:=fun x y H Q=>∃i j,x=.int i/\y=.int j/\Q (.int (f i j)) H
theorem Zhy:PIp X .Add (ipI fun i j=>i+j):=by
 intro pins s σ H x y v u Q I r1 r2 h
 obtain⟨i,j,e1,e2,q⟩:=h
 subst e1;subst e2
 obtain⟨t,rfl⟩:=r1
 obtain⟨t',rfl⟩:=r2
 exact iadd_int ⟨.int _,H,I.tok _,⟨_,rfl⟩,q⟩
theorem ZjK:PIp X .Sub (ipI fun i j=>i-j):=by
 intro pins s σ H x y v u Q I r1 r2 h
 obtain⟨i,j,e1,e2,q⟩:=h
 subst e1;subst e2
 obtain⟨t,rfl⟩:=r1
 obtain⟨t',rfl⟩:=r2
 exact isub_int ⟨.int _,H,I.tok _,⟨_,rfl⟩,q⟩
noncomputable def ZgX (c:TT) (tb:TS):TS:=fun D σ H=>∃W:Nat->St->Hp->Prop,(∃m,W m σ H)/\∀m σ H,W m σ H ->
 c σ H fun b H1=>if b=true then ∃N:St->Hp->Prop,(∀σ' H',N σ' H'->∃m',m'<m/\W m' σ' H')/\tb { D with nx:=N,ct:=N,bk:=D.nx } σ H1 else D.nx σ H1
theorem ZcC {c:Expr}{body:List Stmt}{tc:TT}{tb:TS} (hp:PassesOwn (model X.prog X.w) X.A X.env X.xe) (hc:PT X c tc) (hb:PSs X body tb):PS X (.While c body [] pos) (ZgX tc tb):=by
 intro pins s σ H D I h
 obtain⟨W,⟨m0,w0⟩,turn⟩:=h
 refine wpAny_While (codeAny_whileLoop (fun n s'=>∃σ' H',Inv X pins σ' H' s'/\W n σ' H') ?_ m0 ⟨σ,H,I,w0⟩)
 rintro n s1 ⟨σ1,H1,I1,w1⟩
 refine wpAny_passesOwn hp (thn (hc pins s1 σ1 H1 _ I1 (turn n σ1 H1 w1)) fun b s2 ⟨H2,I2,q2⟩=>?_)
 cases b with
 |true =>
  obtain⟨N,hN,q2⟩:=q2
  rw[if_pos rfl]
  refine wpAny_passesOwn hp (thn (hb pins s2 σ1 H2 _ I2 q2) fun f s3 q3=>?_)
  cases f with
  |next =>
   obtain⟨σ3,H3,I3,n3⟩:=q3
   obtain⟨m',hm,w3⟩:=hN σ3 H3 n3
   exact⟨m',hm,σ3,H3,I3,w3⟩
  |cont =>
   obtain⟨σ3,H3,I3,n3⟩:=q3
   obtain⟨m',hm,w3⟩:=hN σ3 H3 n3
   exact⟨m',hm,σ3,H3,I3,w3⟩
  |brk=>exact q3
  |ret v=>exact q3
 |false =>
  rw[if_neg Bool.false_ne_true]
  exact wpAny_execs_nil ⟨σ1,H2,I2,q2⟩
end
structure It where
 go:Nat->Hp->Prop
 yld:Nat->Hp->V->Hp->Prop
 stop:Nat->Hp->Prop
def ZgS (X:Cx) (pins:List (Addr×Obj)) (H:Hp) (b:Addr):Prop:=
 H b=none/\b≠X.env.locals/\b ∉ X.fs/\(b∈X.ex\/X.s₀.heap.objs.size<=b)/\(∀x c,X.env.cells.lookup x=some c->c≠b)/\∀p∈X.pn++pins,p.1≠b
theorem Inv.fpOk {X:Cx}{pins:List (Addr×Obj)}{σ:St}{H H':Hp}{s:Shared}{b:Addr} (I:Inv X pins σ H s) (hb:s.heap.objs.size<=b) (hn:H' b=none):ZgS X pins H' b:=by
 refine⟨hn,Zsm (ZqU I.lt hb),I.nofs hb,.inr (Zrq I.sz hb),fun x c e z=>?_,fun p hp z=>?_⟩
 ·obtain⟨v,q⟩:=I.cell x c e
  exact absurd (ZqU q.lt (by rw[z];exact hb)) (ZrA _)
 ·exact absurd (ZqU (Heap.lt_size (I.pin p hp).1) (by rw[z];exact hb)) (ZrA _)
structure Zko (P:Program) (w:World) (K:PySem.W.Frag) (tg:Expr) (J:It) (fp:List Addr) (it:Addr) (tn:Nat->Heap->Prop):Prop where
 mem:it∈fp
 obj:∀i h,tn i h->∀b∈fp,∃o,h.get? b=some o/\∀v,o.data≠.cell v
 keep:∀i h h',tn i h->(∀b∈fp,∀o,h.get? b=some o->h'.get? b=some o)->tn i h'
 item:∀(X:Cx),X.prog=P->X.w=w->X.K=K->X.calm=true->∀(i:Nat) (pins:List (Addr×Obj)) (s:Shared) (σ:St) (H:Hp) (E:Value->Shared->Prop),Inv X pins σ H s->(∀b∈fp,ZgS X pins H b)->tn i s.heap->J.go i H ->
  wpAny (model P w) X.A (pyNext (.ref it)) (fun r s1=>∃u,r=some u /\
   wpAny (model P w) X.A (letOwnedTupleGo tg (.ref it) u) (fun _ s2=>∃x H',Inv X pins σ H' s2/\Ja x u/\J.yld i H x H'/\tn (i+1) s2.heap/\∀b∈fp,H' b=none) E s1) E s
 done:∀(X:Cx),X.prog=P->X.w=w->X.K=K->X.calm=true->∀(i:Nat) (pins:List (Addr×Obj)) (s:Shared) (σ:St) (H:Hp) (E:Value->Shared->Prop),Inv X pins σ H s->(∀b∈fp,ZgS X pins H b)->tn i s.heap->J.stop i H ->
  wpAny (model P w) X.A (pyNext (.ref it)) (fun r s1=>r=none/\Inv X pins σ H s1) E s
 self:∀(A:Around) (i:Nat) (s:Shared) (Q:Value->Shared->Prop) (E:Value->Shared->Prop),tn i s.heap->Q (.ref it) s->wpAny (model P w) A (pyIter (.ref it)) Q E s
noncomputable abbrev TI:=St->Hp->(It->Hp->Prop)->Prop
def PIE (X:Cx) (pins:List (Addr×Obj)) (σ:St) (tg:Expr) (R:It->Hp->Prop) (itv:Value) (s2:Shared):Prop:=
 ∃(it:Addr) (fp:List Addr) (tn:Nat->Heap->Prop) (J:It) (H':Hp),itv=.ref it/\Inv X pins σ H' s2/\Zko X.prog X.w X.K tg J fp it tn/\tn 0 s2.heap/\(∀b∈fp,ZgS X pins H' b)/\R J H'
def PI (X:Cx) (tg iter:Expr) (wi:TI):Prop:=
 ∀(pins:List (Addr×Obj)) (s:Shared) (σ:St) (H:Hp) (R:It->Hp->Prop),Inv X pins σ H s->wi σ H R ->
  wpAny (model X.prog X.w) X.A (eval iter X.env) (fun v s1=>wpAny (model X.prog X.w) X.A (pyIter v) (PIE X pins σ tg R) X.xe s1) X.xe s
theorem ZjP {M:Model}{A:Around}{E:Value->Shared->Prop}{s:Shared}{tg:Expr}{it:Addr}{u:Value}{o:Obj}{n:String}{vs:Array Value}{Q:Unit->Shared->Prop} (ho:s.heap.get? it=some o) (hc:o.cls=.type n) (hd:o.data=.fields vs)
  (hn:["enumerate", "zip", "dict_itemiterator", "dict_reverseitemiterator", "odict_iterator", "itertools.zip_longest", "itertools.pairwise"].contains n=false) (hQ:Q () s):wpAny M A (letOwnedTupleGo tg (.ref it) u) Q E s:=by
 unfold letOwnedTupleGo
 cases tg<;>first
  |exact wpAny_pure hQ
  |(cases u<;>first
    |exact wpAny_pure hQ
    |(refine wpAny_bind (wpAny_load ho ?_)
      rw[hc,hd]
      show wpAny M A (if (["enumerate", "zip", "dict_itemiterator", "dict_reverseitemiterator", "odict_iterator", "itertools.zip_longest", "itertools.pairwise"].contains n&&vs[0]?==some (rawInt _))=true then _ else _) Q E s
      rw[if_neg (by intro h;rw[hn,Bool.false_and] at h;cases h)]
      exact wpAny_pure hQ))
noncomputable def Itl (K:W.Frag) (a:Addr):It:=
 ⟨fun i H=>∃xs x,SqL K H a xs/\xs[i]?=some x,fun i H x H'=>H'=H/\∀xs,SqL K H a xs->xs[i]?=some x,fun i H=>∃xs,SqL K H a xs/\xs.length<=i⟩
noncomputable def Itr (lo:Int) (n:Nat):It:=⟨fun i _=>i<n,fun i H x H'=>H'=H/\x=.int (lo+i),fun i _=>n<=i⟩
theorem Zef {P:Program}{w:World}{K:W.Frag}{tg:Expr} (a it:Addr):Zko P w K tg (Itl K a) [it] it (fun i h=>h.IsListIter it a i) where
 mem:=by simp
 obj:=fun i h st b hb=>by
  have e:b=it:=by simpa using hb
  subst e
  obtain⟨o,e,c,d⟩:=st
  exact⟨o,e,fun v z=>by rw[d] at z;cases z⟩
 keep:=fun i h h' st k=>st.at fun o e=>k it (by simp) o e
 item:=by
  intro X hP hw hK hc i pins s σ H E I hf st hg
  subst hP hw hK
  obtain⟨xs,x,hq,hx⟩:=hg
  obtain⟨its,rv,p,hz⟩:=I.list hq
  obtain⟨u,hu,ru⟩:=rv.get hx
  obtain⟨f0,f1,f2,f3,f4,f5⟩:=hf it (by simp)
  refine wpAny_pyNext_list_item st p.isList (x:=u) (by simpa using hu) fun h' st' sb=>?_
  have I1:Inv X pins σ H { s with heap:=h' }:=I.turned (t':=s.toks) (fun b o hb e=>(sb.2 b hb).trans e) f0 f1 f3 f4 f5
  obtain⟨o,e,c,d⟩:=id st'
  exact⟨u,rfl,ZjP (s:={ s with heap:=h' }) e c d (by decide) ⟨x,H,I1,ru,⟨rfl,fun ys hy=>by rw[I.list_inj hy hq];exact hx⟩,st',fun b hb=>(hf b hb).1⟩⟩
 done:=by
  intro X hP hw hK hc i pins s σ H E I hf st hg
  subst hP hw hK
  obtain⟨xs,hq,hx⟩:=hg
  obtain⟨its,rv,p,hz⟩:=I.list hq
  obtain⟨f0,f1,f2,f3,f4,f5⟩:=hf it (by simp)
  have hl:=rv.length
  exact wpAny_pyNext_list_end (I.ok.hd hc) st p.isList (by simp;omega) fun h' eb=>⟨rfl,I.turned (t':=s.toks) (fun b o hb e=>eb b o hb e) f0 f1 f3 f4 f5⟩
 self:=fun _ _ _ _ _ st h=>wpAny_pyIter_listiter st h
theorem Zd2 {P:Program}{w:World}{K:W.Frag}{tg:Expr} (it:Addr) (lo:Int) (n:Nat):Zko P w K tg (Itr lo n) [it] it (fun i h=>IsRangeIter h it (lo+(i:Nat)*1) ((n:Int)-(i:Nat)) 1) where
 mem:=by simp
 obj:=fun i h st b hb=>by
  have e:b=it:=by simpa using hb
  subst e
  exact⟨_,st,fun v z=>by
   have z':Data.fields _=Data.cell v:=z
   cases z'⟩
 keep:=fun i h h' st k=>k it (by simp) _ st
 item:=by
  intro X hP hw hK hc i pins s σ H E I hf st hg
  subst hP hw hK
  obtain⟨f0,f1,f2,f3,f4,f5⟩:=hf it (by simp)
  have W:=Walks.range (prog:=X.prog) (w:=X.w) (I.ok.hd hc) it lo 1 n
  refine W.item i s _ _ hg st fun v h' tk hv st' kk=>?_
  obtain⟨t,rfl⟩:=hv
  have I1:Inv X pins σ H { s with heap:=h',toks:=tk }:=I.turned (fun b o hb e=>kk b o (by simpa using hb) e) f0 f1 f3 f4 f5
  refine⟨_,rfl,ZjP (s:={ s with heap:=h',toks:=tk }) (n := "range_iterator") st' rfl rfl (by decide) ⟨.int (lo+i),H,I1,⟨t, ?_⟩,⟨rfl,rfl⟩,st',fun b hb=>(hf b hb).1⟩⟩
  rw[Int.mul_one]
 done:=by
  intro X hP hw hK hc i pins s σ H E I hf st hg
  subst hP hw hK
  obtain⟨f0,f1,f2,f3,f4,f5⟩:=hf it (by simp)
  exact wpAny_pyNext_range_end (I.ok.hd hc) st (by have:n<=i:=hg;omega) fun h' eb=>⟨rfl,I.turned (t':=s.toks) (fun b o hb e=>eb b o hb e) f0 f1 f3 f4 f5⟩
 self:=fun _ _ _ _ _ st h=>wpAny_pyIter_rangeiter st h
section
variable {X:Cx}{tg:Expr}
noncomputable def Zgz (K:W.Frag) (tl:TE):TI:=fun σ H R=>tl σ H fun x H1=>∃a,x=.ref a/\(∃xs,SqL K H1 a xs)/\R (Itl K a) H1
theorem ZhT {l:Expr}{tl:TE} (hl:PE X l tl):PI X tg l (Zgz X.K tl):=by
 intro pins s σ H R I h
 refine thn (hl pins s σ H _ I h) fun v s1 ⟨x,H1,I1,r1,q1⟩=>?_
 obtain⟨a,e,⟨xs,hq⟩,q⟩:=q1
 subst e
 cases r1
 obtain⟨its,rv,p,hz⟩:=I1.list hq
 refine wpAny_pyIter_list p.isList ?_
 refine⟨s1.heap.objs.size,[s1.heap.objs.size],_,_,H1,rfl,I1.kept (t':=s1.toks) fun b o e=>Heap.get?_push_of_some _ e,Zef a _,⟨_,Heap.get?_push_size _ rfl,rfl,rfl⟩,fun b hb=>?_,q⟩
 have e:b=s1.heap.objs.size:=by simpa using hb
 subst e
 exact I1.fpOk (ZqJ _) (I1.hok.fresh (ZqJ _))
theorem Zc7 {pins:List (Addr×Obj)}{σ:St}{H:Hp}{s:Shared}{R:It->Hp->Prop}{E:Value->Shared->Prop}{lo hi:Int}{t u v:Tok}{tk:Nat} (I:Inv X pins σ H s) (h1:-(2^62)<=lo) (h2:lo<2^62) (h3:-(2^62)<=hi) (h4:hi<2^62)
  (q:R (Itr lo (hi-lo).toNat) H):wpAny (model X.prog X.w) X.A (pyIter (.ref s.heap.objs.size)) (PIE X pins σ tg R) E { s with heap:=s.heap.push { cls:=.type "range",data:=.fields #[.int lo t,.int hi u,.int 1 v] },toks:=tk }:=by
 refine wpAny_pyIter_range (IsRange.new ..) (small_one h1 h2 h3 h4) ?_
 have I1:Inv X pins σ H { s with heap:=s.heap.push { cls:=.type "range",data:=.fields #[.int lo t,.int hi u,.int 1 v] },toks:=tk }:=I.kept fun b o e=>Heap.get?_push_of_some _ e
 refine⟨(s.heap.push { cls:=.type "range",data:=.fields #[.int lo t,.int hi u,.int 1 v] }).objs.size,[(s.heap.push { cls:=.type "range",data:=.fields #[.int lo t,.int hi u,.int 1 v] }).objs.size],_,_,H,rfl,
  I1.kept (t':=tk) fun b o e=>Heap.get?_push_of_some _ e,Zd2 _ lo (hi-lo).toNat, ?_,fun b hb=>?_,q⟩
 ·have e1:lo+((0:Nat):Int)*1=lo:=by simp
  have e2:(((hi-lo).toNat:Nat):Int)-((0:Nat):Int)=Builtin.Range.rangeSize lo hi 1:=by rw[rangeSize_one];split<;>omega
  show IsRangeIter _ _ (lo+((0:Nat):Int)*1) ((((hi-lo).toNat:Nat):Int)-((0:Nat):Int)) 1
  rw[e1,e2]
  exact Heap.get?_push_size _ rfl
 ·have e:b=(s.heap.push { cls:=.type "range",data:=.fields #[.int lo t,.int hi u,.int 1 v] }).objs.size:=by simpa using hb
  subst e
  exact I1.fpOk (ZqJ _) (I1.hok.fresh (ZqJ _))
noncomputable def ZjN (ta:TA):TI:=fun σ H R=>ta σ H fun vs H1=>∃j:Int,vs=[.int j]/\-(2^62)<=j/\j<2^62/\R (Itr 0 j.toNat) H1
noncomputable def ZjM (ta:TA):TI:=fun σ H R=>ta σ H fun vs H1=>∃i j:Int,vs=[.int i,.int j]/\(-(2^62)<=i/\i<2^62/\-(2^62)<=j/\j<2^62)/\R (Itr i (j-i).toNat) H1
theorem ZaR {a:Expr}{ta:TA}{p pos:Pos} (hg:Gl X "range") (hm:X.mg "range"=none) (ha:PA X [a] ta) (hs:starEach [a] X.env=[(false,eval a X.env)]:=by rfl):PI X tg (.Call (.Name "range" p) [a] [] pos) (ZjN ta):=by
 intro pins s σ H R I h
 refine Call_ (QM I hg hm boot_range (PyProof.Rows.callWith_type1 (thn (ha pos pins s σ H _ I h) fun us s1 ⟨vs,H1,I1,r1,q1⟩=>?_) hs rfl))
 obtain⟨j,e,q1,q2,q⟩:=q1
 subst e
 cases r1 with
 |cons r rr =>
  cases rr
  obtain⟨t,rfl⟩:=r
  exact call_range_1 (Zc7 I1 (by omega) (by omega) q1 q2 (by simpa using q))
theorem ZaQ {a b:Expr}{ta:TA}{p pos:Pos} (hg:Gl X "range") (hm:X.mg "range"=none) (ha:PA X [a,b] ta) (hs:starEach [a,b] X.env=[(false,eval a X.env),(false,eval b X.env)]:=by rfl) (hs2:starEach [b] X.env=[(false,eval b X.env)]:=by rfl) :
  PI X tg (.Call (.Name "range" p) [a,b] [] pos) (ZjM ta):=by
 intro pins s σ H R I h
 refine Call_ (QM I hg hm boot_range (PyProof.Rows.callWith_type1 (thn (ha pos pins s σ H _ I h) fun us s1 ⟨vs,H1,I1,r1,q1⟩=>?_) (by rw[hs,hs2]) (by rw[hs2];rfl)))
 obtain⟨i,j,e,⟨q1,q2,q3,q4⟩,q⟩:=q1
 subst e
 cases r1 with
 |cons r rr =>
  cases rr with
  |cons r' rr =>
   cases rr
   obtain⟨t,rfl⟩:=r
   obtain⟨t',rfl⟩:=r'
   exact call_range_2 (Zc7 I1 q1 q2 q3 q4 q)
noncomputable def ZkG (wi:TI) (g:TG) (tb:TS):TS:=fun D σ H=>wi σ H fun J H1=>∃W:Nat->Nat->St->Hp->Prop,(∃m,W 0 m σ H1)/\∀i m σ H,W i m σ H ->
 (J.stop i H/\D.nx σ H)\/(J.go i H/\∃N:St->Hp->Prop,(∀σ' H',N σ' H'->∃m',m'<m/\W (i+1) m' σ' H')/\∀x H',J.yld i H x H'->g x σ H' fun σ2 H2=>tb { D with nx:=N,ct:=N,bk:=D.nx } σ2 H2)
noncomputable def ZcF (fp:List Addr) (h:Heap):List (Addr×Obj):=fp.filterMap fun b=>(h.get? b).map fun o=>(b,o)
theorem Vh {fp:List Addr}{h:Heap}{b:Addr}{o:Obj} (hb:b∈fp) (e:h.get? b=some o):(b,o)∈ZcF fp h:=Zsn.mpr ⟨b,hb,by rw[e];rfl⟩
theorem ZeR {fp:List Addr}{h:Heap}{p:Addr×Obj} (hp:p∈ZcF fp h):p.1∈fp/\h.get? p.1=some p.2:=by
 obtain⟨b,hb,e⟩:=Zsn.mp hp
 cases q:h.get? b with
 |none=>rw[q] at e;cases e
 |some o =>
  rw[q] at e
  have e':(b,o)=p:=Option.some.inj e
  subst e'
  exact⟨hb,q⟩
theorem Inv.pinned {pins:List (Addr×Obj)}{σ:St}{H:Hp}{s:Shared}{fp:List Addr} (I:Inv X pins σ H s) (hf:∀b∈fp,ZgS X pins H b) (ho:∀b∈fp,∃o,s.heap.get? b=some o/\∀v,o.data≠.cell v):Inv X (pins++ZcF fp s.heap) σ H s:=
 I.pins_of fun p hp=>(ZqK.mp hp).elim (fun z=>I.pin p (ZqO _ z)) fun z=>by
  obtain⟨hb,e⟩:=ZeR z
  obtain⟨f0,f1,f2,_⟩:=hf p.1 hb
  obtain⟨o,e',d⟩:=ho p.1 hb
  rw[e] at e';cases e'
  exact⟨e,f0,f1,f2,d⟩
theorem Inv.unpinned {pins pl:List (Addr×Obj)}{σ:St}{H:Hp}{s:Shared} (I:Inv X (pins++pl) σ H s):Inv X pins σ H s:=I.pins_of fun p hp=>I.pin p (ZqO _ (ZqM _ hp))
theorem Ui {iter:Expr}{body:List Stmt}{wi:TI}{g:TG}{tb:TS}{pos:Pos} (hp:PassesOwn (model X.prog X.w) X.A X.env X.xe) (hc:X.calm=true) (hi:PI X tg iter wi) (hg:PG X tg g) (hb:PSs X body tb)
  (hs:∀x,foldedSetIterable iter X.env x=pure x:=by exact fun _=>rfl):PS X (.For tg iter body [] pos) (ZkG wi g tb):=by
 intro pins s σ H D I h
 refine wpAny_For (thn (hi pins s σ H _ I h) fun v s1 h1=>thn h1 fun itv s2 h2=>?_) hs
 obtain⟨it,fp,tn,J,H2,e,I2,T,st2,f2,W,⟨m0,w0⟩,turn⟩:=h2
 subst e
 have stat:∀{H':Hp},(∀b∈fp,H' b=none)->∀b∈fp,ZgS X pins H' b:=fun hn b hb=>⟨hn b hb,(f2 b hb).2⟩
 refine codeAny_forLoop_any (fun n s'=>∃i σ' H',Inv X pins σ' H' s'/\tn i s'.heap/\(∀b∈fp,H' b=none)/\W i n σ' H') ?_ m0 ⟨0,σ,H2,I2,st2,fun b hb=>(f2 b hb).1,w0⟩
 rintro n s3 ⟨i,σ3,H3,I3,st3,fr3,w3⟩
 rcases turn i n σ3 H3 w3 with ⟨stop,qn⟩|⟨go,N,hN,step⟩
 ·refine wpAny_passesOwn hp (thn (T.done X rfl rfl rfl hc i pins s3 σ3 H3 X.xe I3 (stat fr3) st3 stop) fun r s4 ⟨hr,I4⟩=>?_)
  subst hr
  exact wpAny_execs_nil ⟨σ3,H3,I4,qn⟩
 ·refine wpAny_passesOwn hp (thn (T.item X rfl rfl rfl hc i pins s3 σ3 H3 X.xe I3 (stat fr3) st3 go) fun r s4 ⟨u,hr,h4⟩=>?_)
  subst hr
  refine wpAny_passesOwn hp (thn h4 fun _ s5 ⟨x,H5,I5,r5,y5,st5,fr5⟩=>?_)
  have I5':=I5.pinned (stat fr5) (T.obj _ _ st5)
  refine wpAny_passesOwn hp (thn (hg _ s5 σ3 H5 x u _ I5' r5 (step x H5 y5)) fun _ s6 ⟨σ6,H6,I6,q6⟩=>?_)
  refine wpAny_passesOwn hp (thn (hb _ s6 σ6 H6 _ I6 q6) fun f s7 q7=>?_)
  have again:∀{σ7:St}{H7:Hp},Inv X (pins++ZcF fp s5.heap) σ7 H7 s7->N σ7 H7->∃m,m<n/\∃i σ' H',Inv X pins σ' H' s7/\tn i s7.heap/\(∀b∈fp,H' b=none)/\W i m σ' H':=fun {σ7 H7} I7 n7=>by
   obtain⟨m',hm,w7⟩:=hN σ7 H7 n7
   refine⟨m',hm,i+1,σ7,H7,I7.unpinned,T.keep _ _ _ st5 fun b hb o e=>(I7.pin (b,o) (ZqO _ (ZqO _ (Vh hb e)))).1,fun b hb=>?_,w7⟩
   obtain⟨o,e,d⟩:=T.obj _ _ st5 b hb
   exact(I7.pin (b,o) (ZqO _ (ZqO _ (Vh hb e)))).2.1
  cases f with
  |next=>obtain⟨σ7,H7,I7,n7⟩:=q7;exact again I7 n7
  |cont=>obtain⟨σ7,H7,I7,n7⟩:=q7;exact again I7 n7
  |brk=>obtain⟨σ7,H7,I7,q7⟩:=q7;exact⟨σ7,H7,I7.unpinned,q7⟩
  |ret v=>obtain⟨x7,σ7,H7,I7,r7,q7⟩:=q7;exact⟨x7,σ7,H7,I7.unpinned,r7,q7⟩
end
noncomputable abbrev R2:=V->V->Hp->VK->Prop
def OpR (X:Cx) (f:Value->Value->Sem Value) (r:R2):Prop:=
 ∀(pins:List (Addr×Obj)) (s:Shared) (σ:St) (H:Hp) (x y:V) (v u:Value) (Q:VK),Inv X pins σ H s->Ja x v->Ja y u->r x y H Q ->
  wpAny (model X.prog X.w) X.A (f v u) (EP X pins σ Q) X.xe s
def UnR (X:Cx) (f:Value->Sem Value) (r:V->Hp->VK->Prop):Prop:=
 ∀(pins:List (Addr×Obj)) (s:Shared) (σ:St) (H:Hp) (x:V) (v:Value) (Q:VK),Inv X pins σ H s->Ja x v->r x H Q ->
  wpAny (model X.prog X.w) X.A (f v) (EP X pins σ Q) X.xe s
def JP (X:Cx) (f:Value) (r:List V->Hp->VK->Prop):Prop:=
 ∀(pins:List (Addr×Obj)) (s:Shared) (σ:St) (H:Hp) (xs:List V) (us:List Value) (Q:VK),Inv X pins σ H s->ZE xs us->r xs H Q ->
  wpAny (model X.prog X.w) X.A (call f us) (EP X pins σ Q) X.xe s
noncomputable def tOp (r:R2) (ta tb:TE):TE:=fun σ H Q=>ta σ H fun x H1=>tb σ H1 fun y H2=>r x y H2 Q
noncomputable def tUn (r:V->Hp->VK->Prop) (ta:TE):TE:=fun σ H Q=>ta σ H fun x H1=>r x H1 Q
noncomputable def rI (C:Int->Int->Prop) (g:Int->Int->V):R2:=fun x y H Q=>∃i j,x=.int i/\y=.int j/\C i j/\Q (g i j) H
noncomputable def rI0 (g:Int->Int->V):R2:=fun x y H Q=>∃i j,x=.int i/\y=.int j/\Q (g i j) H
def rU (g:Int->V):V->Hp->VK->Prop:=fun x H Q=>∃i,x=.int i/\Q (g i) H
section
variable {X:Cx}{a b:Expr}{ta tb:TE}{pos:Pos}
theorem Zlz (ha:PE X a ta) (hb:PE X b tb) {pins:List (Addr×Obj)}{s:Shared}{σ:St}{H:Hp}{R:V->V->Hp->Prop} (I:Inv X pins σ H s)
  (h:ta σ H fun x H1=>tb σ H1 fun y H2=>R x y H2) {Q:Value->Shared->Prop}{f:Value->Value->Sem Value}
  (hf:∀v u s2 x y H2,Inv X pins σ H2 s2->Ja x v->Ja y u->R x y H2->wpAny (model X.prog X.w) X.A (f v u) Q X.xe s2) :
  wpAny (model X.prog X.w) X.A (eval a X.env) (fun v s₁=>wpAny (model X.prog X.w) X.A (eval b X.env) (fun u s₂=>wpAny (model X.prog X.w) X.A (f v u) Q X.xe s₂) X.xe s₁) X.xe s:=by
 refine thn (ha pins s σ H _ I h) fun v s1 ⟨x,H1,I1,r1,q1⟩=>?_
 refine thn (hb pins s1 σ H1 _ I1 q1) fun u s2 ⟨y,H2,I2,r2,q2⟩=>?_
 exact hf v u s2 x y H2 I2 r1 r2 q2
theorem ZH {op:Operator}{r:R2} (ho:OpR X (binaryOp op) r) (ha:PE X a ta) (hb:PE X b tb):PE X (.BinOp a op b pos) (tOp r ta tb):=by
 intro pins s σ H Q I h
 exact wpAny_BinOp (Zlz ha hb I h fun v u s2 x y H2 I2 rx ry q=>ho pins s2 σ H2 x y v u Q I2 rx ry q)
theorem ZbC {op:UnaryOp}{r:V->Hp->VK->Prop} (ho:UnR X (unaryOp op) r) (ha:PE X a ta):PE X (.UnaryOp op a pos) (tUn r ta):=by
 intro pins s σ H Q I h
 exact UnaryOp_ (thn (ha pins s σ H _ I h) fun v s1 ⟨x,H1,I1,r1,q1⟩=>ho pins s1 σ H1 x v Q I1 r1 q1)
theorem opI {f:Value->Value->Sem Value}{C:Int->Int->Prop}{g:Int->Int->Int}
  (rule:∀(i j:Int) (t u:Tok) (s:Shared) (Q:Value->Shared->Prop) (E:Value->Shared->Prop),C i j->Q (.int (g i j) s.toks) { s with toks:=s.toks+1 }->wpAny (model X.prog X.w) X.A (f (.int i t) (.int j u)) Q E s) :
  OpR X f (rI C fun i j=>.int (g i j)):=by
 intro pins s σ H x y v u Q I rx ry h
 obtain⟨i,j,rfl,rfl,hc,q⟩:=h
 obtain⟨t,rfl⟩:=rx
 obtain⟨t',rfl⟩:=ry
 exact rule i j t t' s _ _ hc ⟨.int (g i j),H,I.tok _,⟨_,rfl⟩,q⟩
theorem ZlJ {f:Value->Value->Sem Value}{g:Int->Int->Int}
  (rule:∀(i j:Int) (t u:Tok) (s:Shared) (Q:Value->Shared->Prop) (E:Value->Shared->Prop),Q (.int (g i j) s.toks) { s with toks:=s.toks+1 }->wpAny (model X.prog X.w) X.A (f (.int i t) (.int j u)) Q E s) :
  OpR X f (rI0 fun i j=>.int (g i j)):=by
 intro pins s σ H x y v u Q I rx ry h
 obtain⟨i,j,rfl,rfl,q⟩:=h
 obtain⟨t,rfl⟩:=rx
 obtain⟨t',rfl⟩:=ry
 exact rule i j t t' s _ _ ⟨.int (g i j),H,I.tok _,⟨_,rfl⟩,q⟩
theorem Zk1 {f:Value->Value->Sem Value}{g:Int->Int->Bool}
  (rule:∀(i j:Int) (t u:Tok) (s:Shared) (Q:Value->Shared->Prop) (E:Value->Shared->Prop),Q (.bool (g i j)) s->wpAny (model X.prog X.w) X.A (f (.int i t) (.int j u)) Q E s) :
  OpR X f (rI0 fun i j=>.bl (g i j)):=by
 intro pins s σ H x y v u Q I rx ry h
 obtain⟨i,j,rfl,rfl,q⟩:=h
 obtain⟨t,rfl⟩:=rx
 obtain⟨t',rfl⟩:=ry
 exact rule i j t t' s _ _ ⟨.bl (g i j),H,I,rfl,q⟩
def ZiS (i j:Int):Prop:=0<=j/\j<=1000000/\i.natAbs<2^64
theorem Uk:OpR X (binaryOp .Add) (rI0 fun i j=>.int (i+j)):=ZlJ fun _ _ _ _ _ _ _ q=>add_int q
theorem ZeN:OpR X (binaryOp .Sub) (rI0 fun i j=>.int (i-j)):=ZlJ fun _ _ _ _ _ _ _ q=>sub_int q
theorem Jw:OpR X (binaryOp .Mod) (rI (fun _ j=>0<j) fun i j=>.int (i%j)):=opI fun i j _ _ _ _ _ hc q=>by
 have h1:(0:Int)<j:=hc
 exact mod_int' (by omega) (by rw[Int.fmod_eq_emod_of_nonneg i (by omega)];exact q)
theorem Zhr:OpR X (binaryOp .Pow) (rI ZiS fun i j=>.int (i^j.toNat)):=opI fun _ _ _ _ _ _ _ hc q=>pow_int_small hc.1 hc.2.1 hc.2.2 q
theorem unI {f:Value->Sem Value}{g:Int->Int}
  (rule:∀(i:Int) (t:Tok) (s:Shared) (Q:Value->Shared->Prop) (E:Value->Shared->Prop),Q (.int (g i) s.toks) { s with toks:=s.toks+1 }->wpAny (model X.prog X.w) X.A (f (.int i t)) Q E s) :
  UnR X f (rU fun i=>.int (g i)):=by
 intro pins s σ H x v Q I rx h
 obtain⟨i,rfl,q⟩:=h
 obtain⟨t,rfl⟩:=rx
 exact rule i t s _ _ ⟨.int (g i),H,I.tok _,⟨_,rfl⟩,q⟩
theorem UM:UnR X (unaryOp .USub) (rU fun i=>.int (-i)):=unI fun _ _ _ _ _ q=>neg_int q
variable {c:Expr}
theorem Zih:OpR X (compareOp .Lt) (rI0 fun i j=>.bl (decide (i<j))):=Zk1 fun _ _ _ _ _ _ _ q=>lt_int q
theorem ZkV:OpR X (compareOp .LtE) (rI0 fun i j=>.bl (decide (i<=j))):=Zk1 fun _ _ _ _ _ _ _ q=>le_int q
theorem Zgo:OpR X (compareOp .Gt) (rI0 fun i j=>.bl (decide (j<i))):=Zk1 fun _ _ _ _ _ _ _ q=>gt_int q
theorem ZkW:OpR X (compareOp .GtE) (rI0 fun i j=>.bl (decide (j<=i))):=Zk1 fun _ _ _ _ _ _ _ q=>ge_int q
theorem ZK (b:Expr) {op:CmpOp} (h:op≠.In:=by decide) (h2:op≠.NotIn:=by decide):behindInMarks op b=false:=by
 have e1:(op==CmpOp.In)=false:=by cases op<;>first|rfl|exact absurd rfl h
 have e2:(op==CmpOp.NotIn)=false:=by cases op<;>first|rfl|exact absurd rfl h2
 cases b<;>simp[behindInMarks,e1,e2]
theorem Zak {op:CmpOp}{r:R2} (ho:OpR X (compareOp op) r) (ha:PE X a ta) (hb:PE X b tb) (hm:behindInMarks op b=false):PE X (.Compare a [op] [b] pos) (tOp r ta tb):=by
 intro pins s σ H Q I h
 exact wpAny_Compare1 (Zlz ha hb I h fun v u s2 x y H2 I2 rx ry q=>ho pins s2 σ H2 x y v u Q I2 rx ry q) hm
noncomputable def ZiX (t:TE):TT:=fun σ H Q=>t σ H fun x H'=>∃k,x=.bl k/\Q k H'
theorem ZB {op:CmpOp}{r:R2} (ho:OpR X (compareOp op) r) (ha:PE X a ta) (hb:PE X b tb) (hm:behindInMarks op b=false):PT X (.Compare a [op] [b] pos) (ZiX (tOp r ta tb)):=by
 intro pins s σ H Q I h
 refine wpAny_isTrue_Compare1 (thn (ha pins s σ H _ I h) fun v s1 ⟨x,H1,I1,r1,q1⟩=>thn (hb pins s1 σ H1 _ I1 q1) fun u s2 ⟨y,H2,I2,r2,q2⟩ =>
  thn (ho pins s2 σ H2 x y v u _ I2 r1 r2 q2) fun c s3 ⟨z,H3,I3,r3,k,e,q3⟩=>?_) hm
 subst e
 cases r3
 exact wpAny_truthy_bool ⟨H3,I3,q3⟩
theorem QL:(sizeLine:Nat)<2^63:=by rw[sizeLine_eq];decide
theorem Zb5 {x:V}{us:List Value} (r:ZE [x] us):∃u,us=[u]/\Ja x u:=by
 cases r with
 |cons r1 r2=>cases r2;exact⟨_,rfl,r1⟩
theorem Zk9 {x y:V}{us:List Value} (r:ZE [x,y] us):∃u w',us=[u,w']/\Ja x u/\Ja y w':=by
 cases r with
 |cons r1 r2 =>
  cases r2 with
  |cons r3 r4=>cases r4;exact⟨_,_,rfl,r1,r3⟩
end
structure Zh8 (h:Heap) (x dx C:Addr) (mA:Str->Option Value):Prop where
 obj:h.get? x=some (PySem.W.instObj C dx)
 ns:h.Ns1 dx mA
 ne:dx≠x
theorem ZeY {h:Heap}{dx:Addr}{mA:Str->Option Value} (n:h.Ns1 dx mA):∃od,h.get? dx=some od/\∀name,PySem.W.lookIn name od=some (mA name):=by
 obtain⟨o,es,ep,ho,hd,hk,_,hm⟩:=n
 refine⟨o,ho,fun name=>?_⟩
 have e:=hm name
 unfold nsFind findBy at e
 rw[<- Array.find?_toList] at e
 unfold PySem.W.lookIn
 rw[hd]
 dsimp only
 split
 ·rename_i y q
  rw[q] at e
  exact congrArg some e
 ·rename_i q
  rw[q] at e
  have a:es.toList.any (·.refKey)=false:=by
   rw[List.any_eq_false]
   intro y hy
   obtain⟨z,t,hkey⟩:=hk y (Array.mem_toList_iff.mp hy)
   simp[DictEntry.refKey,hkey]
  have a':¬es.toList.any (·.refKey)=true:=by rw[a];exact Bool.false_ne_true
  rw[if_neg a']
  exact congrArg some e
theorem Zh8.look {h:Heap}{x dx C:Addr}{mA:Str->Option Value} (I:Zh8 h x dx C mA):∃od,PySem.W.InstAt h x (PySem.W.instObj C dx) C (some od)/\∀name,PySem.W.lookIn name od=some (mA name):=
 let ⟨od,ho,hl⟩:=ZeY I.ns
 ⟨od,⟨I.obj,rfl,rfl,ho⟩,hl⟩
section
variable {prog:Program}{w:World}{A:Around}{E:Value->Shared->Prop}{s:Shared}{K:W.Frag}{x dx C f:Addr}{mA:Str->Option Value}{name:Str}{v:Value}
theorem Ziv {expr:Bool}{Q:Value->Shared->Prop} (X:K.In s.heap) (I:Zh8 s.heap x dx C mA) (hg:PySem.W.plainGet K C name=true) (hh:PySem.W.hasDictIn K C=true)
  (ha:PySem.W.findIn K (.ref C) name=some none) (hv:mA name=some v) (hv':PySem.W.handedIn v=true) (h:Q v { s with toks:=s.toks+1 }) :
  wpAny (model prog w) A (getAttr (.ref x) name expr) Q E s:=by
 obtain⟨od,J,hl⟩:=I.look
 exact PySem.W.get_value X J (PySem.W.plainGet_of hg).1 (PySem.W.findObj_own hh ha rfl (by rw[hl,hv])) hv' h
theorem Zdj {pl:Sem Bool}{Q:Value×List Value->Shared->Prop} (X:K.In s.heap) (I:Zh8 s.heap x dx C mA) (hg:PySem.W.plainGet K C name=true)
  (hf:PySem.W.findIn K (.ref C) name=some (some (.ref f))) (ht:PySem.W.isFn K (.ref f)=true) (hv:mA name=none) (h:Q (.ref f,[.ref x]) s) :
  wpAny (model prog w) A (getMethod (.ref x) name pl) Q E s:=by
 obtain⟨od,J,hl⟩:=I.look
 exact PySem.W.method_fn X J (PySem.W.plainGet_of hg).1 (PySem.W.plainGet_of hg).2 hf (beq_iff_eq.mp ht) (by show (PySem.W.lookIn name od).map (·.isSome)=some false;rw[hl,hv];rfl) h
theorem ZhN {ns:List Str}{Q:Unit->Shared->Prop} (X:K.In s.heap) (I:Zh8 s.heap x dx C mA)
  (hs:PySem.W.findIn K (.ref C) "__setattr__"=some (some (.builtin "object.__setattr__"))) (hp:PySem.W.plainOver K C=true) (ht:PySem.W.takerIn K C name=some none) (hh:PySem.W.hasDictIn K C=true)
  (hw:PySem.Within mA ns) (hsz:ns.length<=sizeLine)
  (h:∀h',Zh8 h' x dx C (fun y=>if y=name then some v else mA y)->Heap.SameBut dx s.heap h'->Q () { s with heap:=h',toks:=s.toks+2 }) :
  wpAny (model prog w) A (setAttr (.ref x) name v) Q E s:=by
 obtain⟨od,J,hl⟩:=I.look
 refine PySem.W.set_plain X J hs (PySem.W.osa_open (s:={ s with toks:=s.toks+1 }) (r:=none) X J hp ht fun b=>?_)
 obtain⟨cd,hc,hd'⟩:=PySem.W.any_some hh
 have hx:s.heap.get? x=some ⟨.ref C,some dx,.plain,#[]⟩:=I.obj
 refine wpAny_bind (wpAny_pure (wpAny_bind (wpAny_bind (wpAny_loadPart hx (wpAny_bind (PySem.W.Looks.here (s:={ s with toks:=s.toks+1 }) (PySem.W.looks_clsIn X hc) ?_))))))
 rw[hd']
 refine wpAny_pure (a:=some dx) (wpAny_bind (wpAny_pure (wpAny_bind ?_)))
 refine wpAny_nsSet1 (s:={ s with toks:=s.toks+1 }) I.ns fun h' hn2 hs2=>?_
 obtain⟨oD,esD,epD,hoD,hdD,hcD⟩:=hn2.count (PySem.Within.cons name v hw)
 refine wpAny_bind (wpAny_lookBehind hoD (by rw[hdD];exact pastItsLine_dict (Zrq hcD (by rw[ZqY];omega))) ?_)
 exact wpAny_pure (h _ ⟨(hs2.2 _ (Ne.symm I.ne)).trans I.obj,hn2,I.ne⟩ hs2)
theorem Zgr {R:Result->Shared->Prop}{vs:List Value}{kw:List (Str×Value)} (X:K.In s.heap) (hm:PySem.W.makesIn K C=true)
  (hi:PySem.W.findIn K (.ref C) "__init__"=some (some (.ref f))) (hf:PySem.W.typeIn K (.ref f)=some (.type "function"))
  (h:codeAny (model prog w) (A.under (.builtin "type.__call__" ⟨.ref C::vs,kw⟩)) (.call (.ref f) ⟨.ref (s.heap.objs.size+1)::vs,kw⟩) (PySem.W.InitBack (s.heap.objs.size+1) R)
   { s with heap:=(s.heap.push PySem.W.emptyDict).push (PySem.W.instObj C s.heap.objs.size) }) :
  codeAny (model prog w) A (.call (.ref C) ⟨vs,kw⟩) R s:=by
 obtain⟨hh,g,d,t,os⟩:=s
 exact PySem.W.make_core (PySem.W.makes_of X hm) (PySem.W.looks_findIn X hi) (fun self=>PySem.W.bind_fn X self hf) (.inl rfl) h
end
noncomputable def QH (f:Str) (v:V):List (Str×V)->List (Str×V)
 |[]=>[(f,v)]
 |(g,x)::r=>if g=f then (g,v)::r else (g,x)::QH f v r
theorem Qe (f g:Str) (v:V):∀fs:List (Str×V),(QH f v fs).lookup g=if g=f then some v else fs.lookup g
 |[]=>by
  show ZrU g [(f,v)]=_
  by_cases h:g=f
  ·have hb:(g==f)=true:=beq_iff_eq.mpr h
   simp only[ZrU,hb,if_pos h]
  ·have hb:(g==f)=false:=beq_eq_false_iff_ne.mpr h
   simp only[ZrU,hb,if_neg h]
 |(k,x)::r=>by
  have ih:=Qe f g v r
  rw[show QH f v ((k,x)::r)=(if k=f then (k,v)::r else (k,x)::QH f v r) from rfl]
  by_cases hk:k=f
  ·rw[if_pos hk]
   by_cases h:g=k
   ·have hb:(g==k)=true:=beq_iff_eq.mpr h
    simp only[ZrU,hb,if_pos (h.trans hk)]
   ·have hb:(g==k)=false:=beq_eq_false_iff_ne.mpr h
    simp only[ZrU,hb,if_neg (fun e:g=f=>h (e.trans hk.symm))]
  ·rw[if_neg hk]
   by_cases h:g=k
   ·have hb:(g==k)=true:=beq_iff_eq.mpr h
    simp only[ZrU,hb,if_neg (fun e:g=f=>hk (h.symm.trans e))]
   ·have hb:(g==k)=false:=beq_eq_false_iff_ne.mpr h
    simp only[ZrU,hb]
    exact ih
theorem Qi (f:Str) (v:V):∀fs:List (Str×V),f∈(QH f v fs).map (·.1)/\∀g,g∈fs.map (·.1)->g∈(QH f v fs).map (·.1)
 |[]=>⟨by simp[QH],fun g h=>by simp at h⟩
 |(k,x)::r=>by
  obtain⟨i1,i2⟩:=Qi f v r
  rw[show QH f v ((k,x)::r)=(if k=f then (k,v)::r else (k,x)::QH f v r) from rfl]
  by_cases hk:k=f
  ·rw[if_pos hk]
   subst hk
   exact⟨by simp,fun g h=>by simpa using h⟩
  ·rw[if_neg hk]
   refine⟨?_,fun g h=>?_⟩
   ·rw[Zrb]
    exact Zrj _ i1
   ·rw[Zrb] at h ⊢
    rcases ZqS.mp h with e|e
    ·exact ZqS.mpr (.inl e)
    ·exact Zrj _ (i2 g e)
theorem Qh (f:Str) (v:V):∀fs:List (Str×V),(QH f v fs).length<=fs.length+1
 |[]=>by simp[QH]
 |(k,x)::r=>by
  have ih:=Qh f v r
  rw[show QH f v ((k,x)::r)=(if k=f then (k,v)::r else (k,x)::QH f v r) from rfl]
  by_cases hk:k=f
  ·rw[if_pos hk,ZqY,ZqY];omega
  ·rw[if_neg hk,ZqY,ZqY];omega
theorem ZaB.some_of {v:V}{o:Option Value} (r:ZaB (some v) o):∃u,o=some u/\Ja v u:=by
 cases o with
 |none=>exact(show False from r).elim
 |some u=>exact⟨u,rfl,r⟩
theorem ZaB.none_of {o:Option Value} (r:ZaB none o):o=none:=by
 cases o with
 |none=>rfl
 |some u=>exact(show False from r).elim
theorem Zfo {v:V}{u:Value} (r:Ja v u):PySem.W.handedIn u=true:=by
 cases v with
 |non=>cases (show u=Value.none from r);rfl
 |bl b=>cases (show u=Value.bool b from r);rfl
 |int i=>obtain⟨t,e⟩:=(show ∃t,u=Value.int i t from r);cases e;rfl
 |str x=>obtain⟨t,e⟩:=(show ∃t,u=Value.str x t from r);cases e;rfl
 |byt b=>obtain⟨t,e⟩:=(show ∃t,u=Value.bytes b t from r);cases e;rfl
 |flt b=>obtain⟨t,e⟩:=(show ∃t,u=Value.float b t from r);cases e;rfl
 |ref a=>cases (show u=Value.ref a from r);rfl
 |ty n=>cases (show u=Value.type n from r);rfl
section
variable {P:Program}{w:World}{H:Hp}{h:Heap}{a C dx:Addr}{fs:List (Str×V)}
theorem Zis (hok:HOk P w H h) (e:H a=some (.ins C dx fs)):∃mA,Zh8 h a dx C mA/\(∀f,ZaB (fs.lookup f) (mA f))/\PySem.Within mA (fs.map (·.1))/\fs.length<=1000/\H dx=some (.own a):=by
 obtain⟨d,z,ne,ob,mA,n,r,q⟩:=(show Ji P w H h a (.ins C dx fs) from hok a _ e)
 exact⟨mA,⟨ob,n,ne⟩,r,q,z,d⟩
end
structure Cls (K:PySem.W.Frag) (C:Addr):Prop where
 pg:PySem.W.plainGet K C Str.empty=true
 hd:PySem.W.hasDictIn K C=true
 po:PySem.W.plainOver K C=true
 sa:PySem.W.findIn K (.ref C) "__setattr__"=some (some (.builtin "object.__setattr__"))
theorem Cls.get {K:W.Frag}{C:Addr} (c:Cls K C) (f:Str):PySem.W.plainGet K C f=true:=c.pg
def Q6 (K:W.Frag) (C:Addr) (f:Str):Prop:=PySem.W.findIn K (.ref C) f=some none
theorem Q6.taker {K:W.Frag}{C:Addr}{f:Str} (n:Q6 K C f):PySem.W.takerIn K C f=some none:=by
 unfold PySem.W.takerIn
 rw[show PySem.W.findIn K (.ref C) f=some none from n]
 rfl
structure Zmd (K:PySem.W.Frag) (C:Addr) (m:Str) (f:Addr):Prop where
 at_:PySem.W.findIn K (.ref C) m=some (some (.ref f))
 fn:PySem.W.isFn K (.ref f)=true
 kp:PySem.W.keepIn K (.ref f)=true
section
variable {X:Cx}{pins:List (Addr×Obj)}{σ:St}{H:Hp}{s:Shared}{a C dx:Addr}{fs:List (Str×V)}{f:Str}{A:Around}{E:Value->Shared->Prop}
theorem Zd6 {y:V}{u:Value}{Q:Unit->Shared->Prop} (I:Inv X pins σ H s) (e:H a=some (.ins C dx fs)) (c:Cls X.K C) (n:Q6 X.K C f) (hl:fs.length<1000) (ry:Ja y u)
  (h:∀s',Inv X pins σ (upd H a (.ins C dx (QH f y fs))) s'->Q () s'):wpAny (model X.prog X.w) A (setAttr (.ref a) f u) Q E s:=by
 obtain⟨mA,O,r,wi,_,ho⟩:=Zis I.hok e
 have hz:(fs.map (·.1)).length<=sizeLine:=by rw[ZqN,sizeLine_eq];omega
 refine ZhN I.kIn O c.sa c.po n.taker c.hd wi hz fun h' O' sb=>h _ ?_
 have hd:∃o,h'.get? dx=some o:=let ⟨o,_,_,e',_⟩:=O'.ns;⟨o,e'⟩
 refine I.write (x:=a) (e:=dx) (by rw[e];exact True.intro) (.inr ho) (fun b q hb z=>(sb.2 b hb).trans z) hd ?_
 refine⟨by rw[Zp O.ne];exact ho, ?_,O.ne,O'.obj,_,O'.ns,fun g=>?_,fun g hg=>?_⟩
 ·have:=Qh f y fs;omega
 ·show ZaB ((QH f y fs).lookup g) (if g=f then some u else mA g)
  rw[Qe]
  by_cases q:g=f
  ·rw[if_pos q,if_pos q];exact ry
  ·rw[if_neg q,if_neg q];exact r g
 ·by_cases q:g=f
  ·rw[q];exact(Qi f y fs).1
  ·refine(Qi f y fs).2 g (wi g fun z=>hg ?_)
   show (if g=f then some u else mA g)=none
   rw[if_neg q];exact z
theorem Inv.made (I:Inv X pins σ H s):Inv X pins σ (upd (upd H s.heap.objs.size (.own (s.heap.objs.size+1))) (s.heap.objs.size+1) (.ins C s.heap.objs.size []))
  { s with heap:=(s.heap.push PySem.W.emptyDict).push (PySem.W.instObj C s.heap.objs.size) }:=by
 have e1:(s.heap.push PySem.W.emptyDict).get? s.heap.objs.size=some PySem.W.emptyDict:=Heap.get?_push_size s.heap rfl
 have e2:((s.heap.push PySem.W.emptyDict).push (PySem.W.instObj C s.heap.objs.size)).get? (s.heap.objs.size+1)=some (PySem.W.instObj C s.heap.objs.size):=by
  have:=Heap.get?_push_size (s.heap.push PySem.W.emptyDict) (o:=PySem.W.instObj C s.heap.objs.size) rfl
  rwa [Heap.size_push] at this
 have e3:(s.heap.push PySem.W.emptyDict).Ns s.heap.objs.size (fun _=>none):=⟨PySem.W.emptyDict,#[],_,e1,rfl,(fun e he=>absurd he (by simp)),fun _=>rfl⟩
 have I1:=I.laid (a:=s.heap.objs.size) (o:=.own (s.heap.objs.size+1)) (h':=s.heap.push PySem.W.emptyDict) (t':=s.toks) (fun b u q=>Heap.get?_push_of_some _ q) (ZqJ _) ⟨_,e1⟩
 refine I1.laid (a:=s.heap.objs.size+1) (o:=.ins C s.heap.objs.size []) (t':=s.toks) (fun b u q=>Heap.get?_push_of_some _ q) (Zsu (Heap.size_push _ _)) ?_
 have ne:s.heap.objs.size≠s.heap.objs.size+1:=Zrk (ZrD _)
 refine⟨by rw[Zp ne,Zv],Zrt _,ne,e2,fun _=>none,(Heap.Ns1.of_empty e3).at fun o q=>Heap.get?_push_of_some _ q,fun _=>True.intro,fun y hy=>absurd rfl hy⟩
theorem ZiC {prog:Program}{w:World}{env:Env}{e:Expr}{f:Str}{pos:Pos}{s:Shared}{Q:Value->Shared->Prop} (hb:attributeBase e f env (eval e env)=eval e env)
  (h:wpAny (model prog w) A (eval e env) (fun o s₁=>wpAny (model prog w) A (getAttr o f true) Q E s₁) E s):wpAny (model prog w) A (eval (.Attribute e f pos) env) Q E s:=
 Attribute_any_ h (by rw[arm_eval_Attribute,hb])
end
noncomputable def ZkI (K:W.Frag) (ta tv:TE) (f:Str):TS:=fun D σ H=>tv σ H fun y H1=>ta σ H1 fun x H2=>∃a C dx fs,x=.ref a/\H2 a=some (.ins C dx fs)/\Cls K C/\Q6 K C f/\fs.length<1000 /\
 D.nx σ (upd H2 a (.ins C dx (QH f y fs)))
section
variable {X:Cx}{o value:Expr}{f:Str}{pos pos':Pos}{ta tv:TE}
theorem Zjs (ha:PE X o ta) (hv:PE X value tv) (hs:swapsWith value (some (.Attribute o f pos')) pos.line X.env=pure false):PS X (.Assign [.Attribute o f pos'] value pos) (ZkI X.K ta tv f):=by
 intro pins s σ H D I h
 refine plainObj_wpAny_Assign_Attribute (thn (hv pins s σ H _ I h) fun u s1 ⟨y,H1,I1,ry,q⟩=>thn (ha pins s1 σ H1 _ I1 q) fun ov s2 ⟨x,H2,I2,rx,a,C,dx,fs,ex,ea,c,n,l,q2⟩=>?_) hs
 subst ex
 obtain rfl:ov=Value.ref a:=rx
 exact Zd6 I2 ea c n l ry fun s3 I3=>⟨σ,_,I3,q2⟩
end
structure Vv (k:Nat) (A:Around):Prop where
 hd:A.handled=none
 dp:A.depth+3*k+5<recursionLimit
 un:A.units+16*k+200<cLine
theorem Vv.mono {j k:Nat}{A:Around} (r:Vv k A) (h:j<=k):Vv j A:=⟨r.hd,by have:=r.dp;omega,by have:=r.un;omega⟩
theorem Vv.deeper {k:Nat}{A:Around} (r:Vv (k+1) A) (env:Env):Vv k (A.deeper env):=
 ⟨r.hd,by have:=r.dp;show A.depth+1+3*k+5<_;omega,by have:=r.un;show A.units+3+16*k+200<_;omega⟩
theorem ZdI {A:Around}{C:Addr}{us:List Value}{kw:List (Str×Value)}:(A.under (.builtin "type.__call__" ⟨.ref C::us,kw⟩)).depth=A.depth+1:=by
 first|rfl|simp[Around.under,Code.weight,Code.isCreation,Code.isGuard,Code.isCaller,Code.frames,Code.isFrame,guardIds]
theorem ZdH {A:Around}{C:Addr}{us:List Value}{kw:List (Str×Value)}:(A.under (.builtin "type.__call__" ⟨.ref C::us,kw⟩)).units=A.units+1:=by
 first|rfl|simp[Around.under,Code.cUnits,Code.frames,Code.isFrame]
theorem Vv.make {k:Nat}{A:Around} (r:Vv (k+1) A) (C:Addr) (us:List Value) (kw:List (Str×Value)):Vv k (A.under (.builtin "type.__call__" ⟨.ref C::us,kw⟩)):=
 ⟨r.hd,by have:=r.dp;rw[ZdI];omega,by have:=r.un;rw[ZdH];omega⟩
theorem Vv.depth {k:Nat}{A:Around} (r:Vv k A):A.depth<recursionLimit:=by have:=r.dp;omega
theorem Vv.units {k:Nat}{A:Around} (r:Vv k A):A.units+64<cLine:=by have:=r.un;omega
noncomputable def ZdW:TA:=fun _ H Q=>Q [] H
noncomputable def Vx (ta:TE) (tr:TA):TA:=fun σ H Q=>ta σ H fun x H1=>tr σ H1 fun xs H2=>Q (x::xs) H2
section
variable {X:Cx}{e:Expr}{es:List Expr}{te:TE}{t:TA}{pos:Pos}
theorem Zf:PA X [] ZdW:=fun _ _ _ _ H Q I h=>Calls.spliced_nil ⟨[],H,I,.nil,h⟩
theorem Za (ha:PE X e te) (hr:PA X es t) (hs:starEach (e::es) X.env=(false,eval e X.env)::starEach es X.env:=by rfl):PA X (e::es) (Vx te t):=by
 intro pos pins s σ H Q I h
 rw[hs]
 show wpAny _ _ (spliced ((false,eval e X.env)::backTo pos (starEach es X.env))) _ _ s
 refine Calls.spliced_cons (thn (ha pins s σ H _ I h) fun u s1 ⟨x,H1,I1,r1,q1⟩=>?_)
 exact thn (hr pos pins s1 σ H1 _ I1 q1) fun us s2 ⟨xs,H2,I2,r2,q2⟩=>⟨x::xs,H2,I2,.cons r1 r2,q2⟩
noncomputable def Zkw (t:TA):TE:=fun σ H Q=>t σ H fun xs H1=>xs.length<=sizeLine/\∀p,H1 p=none->Q (.ref p) (upd H1 p (.tup xs))
noncomputable def ZkE (t:TA):TE:=fun σ H Q=>t σ H fun xs H1=>xs.length<=sizeLine/\∀p,H1 p=none->Q (.ref p) (upd H1 p (.lst xs))
theorem Uj {x1} (h:PA X es t):PE X (.Tuple es x1 pos) (Zkw t):=by
 intro pins s σ H Q I hq
 refine wpAny_Tuple_spliced (thn (h pos pins s σ H _ I hq) fun us s1 ⟨xs,H1,I1,r,z,q⟩=>⟨by rw[<- r.length];exact z, ?_⟩)
 have hf:H1 s1.heap.objs.size=none:=I1.hok.fresh (ZqJ _)
 refine⟨.ref s1.heap.objs.size,upd H1 s1.heap.objs.size (.tup xs),I1.laid (t':=s1.toks) (fun b u e=>Heap.get?_push_of_some _ e) (ZqJ _) ?_,rfl,q _ hf⟩
 exact⟨z,us,r,⟨_,Heap.get?_push_size _ rfl,rfl,_,rfl⟩⟩
theorem J4 (h:PA X es t):PE X (.List es pos) (ZkE t):=by
 intro pins s σ H Q I hq
 refine wpAny_List_spliced (thn (h pos pins s σ H _ I hq) fun us s1 ⟨xs,H1,I1,r,z,q⟩=>⟨by rw[<- r.length];exact z, ?_⟩)
 have hf:H1 s1.heap.objs.size=none:=I1.hok.fresh (ZqJ _)
 refine⟨.ref s1.heap.objs.size,upd H1 s1.heap.objs.size (.lst xs),I1.laid (t':=s1.toks) (fun b u e=>Heap.get?_push_of_some _ e) (ZqJ _) ?_,rfl,q _ hf⟩
 exact⟨z,us,0,r,Heap.get?_push_size _ rfl⟩
end
noncomputable abbrev Sp:=List V->Hp->VK->XK->Prop
noncomputable abbrev CXT:=List Env->Hp->Shared->XK->Value->Shared->Prop
structure ZiJ (P:Program) (w:World) (K:PySem.W.Frag) (mg:Str->Option Value) (base:Heap) (A:Around) (outer:List Env) (s:Shared) (H:Hp):Prop where
 frames:A.frames=some outer
 mod:Mod K mg base
 bs:∀b o,base.get? b=some o->s.heap.get? b=some o/\H b=none
 bsz:base.objs.size<=s.heap.objs.size
 funs:s.heap.FunFrames base outer
 frf:∀b∈frs outer,H b=none
 hok:HOk P w H s.heap
 bare:AllBare s.gens
def CE (outer:List Env) (P:Program) (w:World) (H:Hp) (s:Shared) (Q:VK) (u:Value) (s':Shared):Prop:=
 ∃v H',s'.os=s.os/\AllBare s'.gens/\Un (frs outer) [] H H' s.heap s'.heap/\HOk P w H' s'.heap/\Ja v u/\Q v H'
def CR (CX:CXT) (outer:List Env) (P:Program) (w:World) (H:Hp) (s:Shared) (Q:VK) (E:XK) (r:Result) (s':Shared):Prop:=
 match r with
 |.ok (.ret u)=>CE outer P w H s Q u s'
 |.ok _=>False
 |.error e=>CX outer H s E e s'
structure J0 (P:Program) (w:World) (K:PySem.W.Frag) (mg:Str->Option Value) (base:Heap) (CX:CXT) (k:Nat) (f:Addr) (fd:FuncData) (ps:List Str) (sp:Sp):Prop where
 len:∀vs H Q E,sp vs H Q E->vs.length=ps.length
 run:∀(A:Around) (outer:List Env) (s:Shared) (H:Hp) (args:Args) (us:List Value) (vs:List V) (Q:VK) (E:XK),Vv k A->ZiJ P w K mg base A outer s H->BindsTo s fd args (ps.zip us)->ZE vs us->sp vs H Q E ->
  codeAny (model P w) A (.call (.ref f) args) (CR CX outer P w H s Q E) s
theorem ZiJ.make {P:Program}{w:World}{K:W.Frag}{mg:Str->Option Value}{base:Heap}{A:Around}{outer:List Env}{s:Shared}{H:Hp} (e:ZiJ P w K mg base A outer s H) (C:Addr) (us:List Value) (kw:List (Str×Value)) :
  ZiJ P w K mg base (A.under (.builtin "type.__call__" ⟨.ref C::us,kw⟩)) outer s H:=⟨by first|exact e.frames|(simpa[Around.under,Code.envs,Code.isFrame,pushEnvs] using e.frames),e.mod,e.bs,e.bsz,e.funs,e.frf,e.hok,e.bare⟩
section
variable {X:Cx}{pins:List (Addr×Obj)}{σ:St}{H:Hp}{s s':Shared}
theorem Inv.env0 (I:Inv X pins σ H s):ZiJ X.prog X.w X.K X.mg X.base X.A X.stack s H:=
 ⟨I.ok.frames,I.ok.mod,I.bs,Zrq I.ok.bsz I.sz,I.stack,I.stkFree,I.hok,I.bare⟩
theorem Inv.after {Q:VK}{u:Value} (I:Inv X pins σ H s) (h:CE X.stack X.prog X.w H s Q u s'):EP X pins σ Q u s':=by
 obtain⟨v,H',os,bare,un,hok,r,q⟩:=h
 obtain⟨hh,g,d,t,os'⟩:=s'
 obtain rfl:os'=s.os:=os
 exact⟨v,H',I.call (h':=hh) (g':=g) (d':=d) (t':=t) (ch:=[]) un hok bare (fun b z=>absurd z (by simp)),r,q⟩
end
noncomputable def Zjf (sp:Sp) (dvs:List V) (E:XK) (t:TA):TE:=fun σ H Q=>t σ H fun vs H1=>sp (vs++dvs) H1 Q E
def Q8 (K:W.Frag) (fd:FuncData) (ps:List Str) (ds:List Value):Prop:=
 ∀(s:Shared) (us:List Value),K.In s.heap->(us++ds).length=ps.length->BindsTo s fd ⟨us,[]⟩ (ps.zip (us++ds))
theorem Q8.all {K:W.Frag}{fd:FuncData}{ps:List Str} (h:∀us:List Value,us.length=ps.length->bindArgs fd ⟨us,[]⟩=pure (ps.zip us)):Q8 K fd ps []:=fun s us _ hl=>by
 rw[Zrz] at hl ⊢
 exact .of_eq (h us hl)
def Zby (CX:CXT) (X:Cx) (E:XK):Prop:=∀(pins:List (Addr×Obj)) (σ:St) (H:Hp) (s:Shared) (e:Value) (s':Shared),Inv X pins σ H s->CX X.stack H s E e s'->X.xe e s'
section
variable {X:Cx}{CX:CXT}{k:Nat}{f C:Addr}{fd:FuncData}{ps:List Str}{sp:Sp}{dvs:List V}{ds:List Value}{E:XK}{x:Str}{p pos:Pos}{e:Expr}{es:List Expr}{t:TA}
theorem Zc3 {pins:List (Addr×Obj)}{σ:St}{H:Hp}{s:Shared}{Q:VK}{us:List Value}{vs:List V} (F:J0 X.prog X.w X.K X.mg X.base CX k f fd ps sp) (hr:Vv k X.A) (hb:Q8 X.K fd ps ds) (hd:ZE dvs ds) (hx:Zby CX X E)
  (I:Inv X pins σ H s) (r:ZE vs us) (h:sp (vs++dvs) H Q E):wpAny (model X.prog X.w) X.A (call (.ref f) us) (EP X pins σ Q) X.xe s:=by
 have r2:ZE (vs++dvs) (us++ds):=r.append hd
 have hl:(us++ds).length=ps.length:=by rw[<- r2.length];exact F.len _ _ _ _ h
 refine wpAny_call (codeAny_mono (F.run X.A X.stack s H ⟨us,[]⟩ (us++ds) (vs++dvs) Q E hr I.env0 (hb s us I.kIn hl) r2 h) fun r s' hq=>?_)
 cases r with
 |error e=>exact hx pins σ H s e s' I hq
 |ok fl =>
  cases fl with
  |ret u=>exact I.after hq
  |next=>exact False.elim hq
  |brk=>exact False.elim hq
  |cont=>exact False.elim hq
theorem ZhZ (F:J0 X.prog X.w X.K X.mg X.base CX k f fd ps sp) (hr:Vv k X.A) (hg:Gl X x) (hm:X.mg x=some (.ref f)) (hk:PySem.W.keepIn X.K (.ref f)=true) (hb:Q8 X.K fd ps ds) (hd:ZE dvs ds) (hx:Zby CX X E)
  (ha:PA X (e::es) t) (hdb:(x==("__debug__":Str))=false:=by decide) (he:starEach (e::es) X.env=(false,eval e X.env)::starEach es X.env:=by rfl) (hpl:(backTo pos (starEach es X.env)).any (·.1)=false:=by rfl) :
  PE X (.Call (.Name x p) (e::es) [] pos) (Zjf sp dvs E t):=by
 intro pins s σ H Q I h
 refine wpAny_Call_Name_kw (VY I hg hm ?_ hdb)
 refine PySem.W.callWith_K (h₀:=X.base) I.ok.mod.kin hk (thn (ha pos pins s σ H _ I h) fun us s1 ⟨vs,H1,I1,r,q⟩=>⟨I1.kIn, ?_⟩) he hpl
 exact Zc3 F hr hb hd hx I1 r q
theorem Zgf (F:J0 X.prog X.w X.K X.mg X.base CX k f fd ps sp) (hr:Vv k X.A) (hg:Gl X x) (hm:X.mg x=some (.ref f)) (hk:PySem.W.keepIn X.K (.ref f)=true) (hb:Q8 X.K fd ps ds) (hd:ZE dvs ds) (hx:Zby CX X E)
  (hdb:(x==("__debug__":Str))=false:=by decide):PE X (.Call (.Name x p) [] [] pos) (Zjf sp dvs E ZdW):=by
 intro pins s σ H Q I h
 refine wpAny_Call_Name_kw (VY I hg hm ?_ hdb)
 exact PySem.W.callWith_K0 I.kIn hk (Zc3 (us:=[]) F hr hb hd hx I .nil h)
structure Mk (K:PySem.W.Frag) (C f:Addr):Prop where
 makes:PySem.W.makesIn K C=true
 init:PySem.W.findIn K (.ref C) "__init__"=some (some (.ref f))
 fn:PySem.W.isFn K (.ref f)=true
 kp:PySem.W.keepIn K (.ref C)=true
theorem ZfY {pins:List (Addr×Obj)}{σ:St}{H:Hp}{s:Shared}{Q:VK}{us:List Value}{vs:List V} (M:Mk X.K C f) (F:J0 X.prog X.w X.K X.mg X.base CX k f fd ps sp) (hr:Vv (k+1) X.A) (hb:Q8 X.K fd ps ds) (hd:ZE dvs ds)
  (hx:Zby CX X E) (I:Inv X pins σ H s) (r:ZE vs us)
  (h:∀x dx,H x=none->H dx=none->dx≠x->sp (.ref x::(vs++dvs)) (upd (upd H dx (.own x)) x (.ins C dx [])) (fun v H2=>v=.non/\Q (.ref x) H2) E) :
  wpAny (model X.prog X.w) X.A (call (.ref C) us) (EP X pins σ Q) X.xe s:=by
 have hq:=h (s.heap.objs.size+1) s.heap.objs.size (I.hok.fresh (Zsq _)) (I.hok.fresh (ZqJ _)) (Zrk (ZrD _))
 have I2:=Inv.made (C:=C) I
 have r2:ZE (V.ref (s.heap.objs.size+1)::(vs++dvs)) (Value.ref (s.heap.objs.size+1)::(us++ds)):=.cons rfl (r.append hd)
 have hl:(Value.ref (s.heap.objs.size+1)::us++ds).length=ps.length:=by
  have e:=r2.length
  rw[F.len _ _ _ _ hq] at e
  exact e.symm
 refine wpAny_call (Zgr (f:=f) I.kIn M.makes M.init (beq_iff_eq.mp M.fn) (codeAny_mono (F.run _ X.stack _ _ ⟨Value.ref (s.heap.objs.size+1)::us,[]⟩ (Value.ref (s.heap.objs.size+1)::(us++ds)) _ _ E (hr.make C us [])
  (I2.env0.make C us []) (hb _ (Value.ref (s.heap.objs.size+1)::us) I2.kIn hl) r2 hq) fun r s' hq'=>?_))
 cases r with
 |error e=>exact hx pins σ _ _ e s' I2 hq'
 |ok fl =>
  cases fl with
  |ret u =>
   obtain⟨v,H',I3,rv,ev,q3⟩:=I2.after hq'
   subst ev
   exact⟨rv,⟨V.ref (s.heap.objs.size+1),H',I3,rfl,q3⟩⟩
  |next=>exact False.elim hq'
  |brk=>exact False.elim hq'
  |cont=>exact False.elim hq'
end
structure Zx (N P:List Str) (sc:Scope):Prop where
 kind:sc.kind=.function
 co:sc.isCoroutine=false
 gen:sc.isGenerator=false
 nd:N.Nodup
 pre:N.take P.length=P
 par:∀x∈P,sc.names.lookup x=some .local\/sc.names.lookup x=some .cell
 nofree:∀y∈sc.names,y.2≠.free
theorem Zbu {kindOf:Str->Option NameKind}{x:Str}:∀{binds:List (Str×Value)}{m:Str->Option Value},(∀v,(x,v) ∉ binds)->bindL kindOf binds m x=m x
 |[],_,_=>rfl
 |(n,v)::r,m,h=>by
  unfold bindL
  rw[Zbu fun w hw=>h w (Zrj _ hw)]
  split
  ·have:x≠n:=by rintro rfl;exact h v ZrE
   simp[this]
  ·rfl
theorem Zbw {kindOf:Str->Option NameKind}{x:Str}:∀{binds:List (Str×Value)}{m:Str->Option Value},(∀v,(x,v) ∉ binds)->bindC kindOf binds m x=m x
 |[],_,_=>rfl
 |(n,v)::r,m,h=>by
  unfold bindC
  rw[Zbw fun w hw=>h w (Zrj _ hw)]
  split
  ·rfl
  ·have:x≠n:=by rintro rfl;exact h v ZrE
   simp[this]
theorem Zbv {kindOf:Str->Option NameKind}{x:Str}{v:Value}:∀{P:List Str}{vs:List Value}{i:Nat}{m:Str->Option Value},P.Nodup->P[i]?=some x->vs[i]?=some v->kindOf x=some .local ->
  bindL kindOf (P.zip vs) m x=some v
 |[],_,_,_,_,h,_,_=>by simp at h
 |_::_,[],_,_,_,_,h,_=>by simp at h
 |p::P,w::vs,0,m,nd,h1,h2,hk=>by
  simp at h1 h2;subst h1;subst h2
  show bindL kindOf ((p,w)::P.zip vs) m p=_
  unfold bindL
  rw[Zbu fun v hv=>(Zsg.mp nd).1 (Zsv hv).1,if_pos hk]
  simp
 |p::P,w::vs,i+1,m,nd,h1,h2,hk=>by
  show bindL kindOf ((p,w)::P.zip vs) m x=_
  unfold bindL
  exact Zbv (i:=i) (Zsg.mp nd).2 (by simpa using h1) (by simpa using h2) hk
theorem Zbx {kindOf:Str->Option NameKind}{x:Str}{v:Value}:∀{P:List Str}{vs:List Value}{i:Nat}{m:Str->Option Value},P.Nodup->P[i]?=some x->vs[i]?=some v->kindOf x≠some .local ->
  bindC kindOf (P.zip vs) m x=some v
 |[],_,_,_,_,h,_,_=>by simp at h
 |_::_,[],_,_,_,_,h,_=>by simp at h
 |p::P,w::vs,0,m,nd,h1,h2,hk=>by
  simp at h1 h2;subst h1;subst h2
  show bindC kindOf ((p,w)::P.zip vs) m p=_
  unfold bindC
  rw[Zbw fun v hv=>(Zsg.mp nd).1 (Zsv hv).1,if_neg hk]
  simp
 |p::P,w::vs,i+1,m,nd,h1,h2,hk=>by
  show bindC kindOf ((p,w)::P.zip vs) m x=_
  unfold bindC
  exact Zbx (i:=i) (Zsg.mp nd).2 (by simpa using h1) (by simpa using h2) hk
noncomputable def V9 (N:List Str) (vs:List V):St:=vs.map some++List.replicate (N.length-vs.length) none
noncomputable def Zbo (CX:CXT) (P:Program) (w:World) (K:W.Frag) (mg:Str->Option Value) (base:Heap) (N:List Str) (qual:Str) (scope:Scope) (f:Addr) (cd:Value) (A:Around) (outer:List Env) (s:Shared) (H:Hp) (E:XK):Cx where
 prog:=P
 w:=w
 K:=K
 mg:=mg
 base:=base
 A:=A.deeper (envOfC qual scope s.heap.objs.size f cd)
 N:=N
 s₀:=s
 H₀:=H
 env:=envOfC qual scope s.heap.objs.size f cd
 outer:=outer
 stack:=envOfC qual scope s.heap.objs.size f cd::outer
 ex:=[]
 calm:=true
 fn:=fun _=>true
 pn:=[]
 xe:=fun e s'=>wpAny (model P w) (A.deeper (envOfC qual scope s.heap.objs.size f cd)) (leaving (envOfC qual scope s.heap.objs.size f cd) e) (fun _ s''=>CX outer H s E e s'') (fun e' s''=>CX outer H s E e' s'') s'
theorem Zdz {sc:Scope}{n:Nat}{x:Str} (h:sc.names.lookup x=some .cell):∃c,(cellsFrom n sc.names []).lookup x=some c:=by
 have q:=PySem.W.cellsFrom_some sc.names n [] (.inl h)
 exact Option.isSome_iff_exists.mp q
theorem Zfk {CX:CXT}{P:Program}{w:World}{K:W.Frag}{mg:Str->Option Value}{base:Heap}{N ps:List Str}{qual:Str}{scope:Scope}{f:Addr}{cd:Value}{A:Around}{outer:List Env}{s s1:Shared}{H:Hp}{E:XK}{us:List Value}{vs:List V}
  (S:Zx N ps scope) (hd:A.handled=none) (e0:ZiJ P w K mg base A outer s H) (hl:vs.length=ps.length) (r:ZE vs us)
  (x:InCallC s s.heap.objs.size (bindL (envOfC qual scope s.heap.objs.size f cd).kindOf (ps.zip us) fun _=>none) (cellsFrom (s.heap.objs.size+1) scope.names []) (bindC (envOfC qual scope s.heap.objs.size f cd).kindOf (ps.zip us) fun _=>none) s1) :
  Inv (Zbo CX P w K mg base N qual scope f cd A outer s H E) [] (V9 N vs) H s1:=by
 have hpl:ps.length<=N.length:=by have:=congrArg List.length S.pre;rw[Zrd] at this;omega
 obtain⟨h1,tk,rfl,hk⟩:=x.done
 have noA:∀b:Addr,b ∉ (Zbo CX P w K mg base N qual scope f cd A outer s H E).ex:=fun b z=>absurd (show b∈([]:List Addr) from z) (by simp)
 refine⟨⟨e0.mod,S.kind,rfl,rfl,ZqJ _,fun y z c h1 h2=>?_,fun y hy=>?_,fun y c _ h=>?_,fun _=>hd,Around.frames_deeper e0.frames,.inr ⟨rfl,rfl⟩,fun b z=>absurd z (noA b),e0.bs,e0.bsz,fun b _ _=>noA b,fun b z=>absurd z (noA b),e0.funs,e0.frf⟩,
  rfl,e0.bare,Un.kept hk,⟨_,x.toInCall.ns,fun i y v h1 h2 h3=>?_⟩,fun y c h=>⟨_,x.cell y c h⟩,e0.hok.fresh (ZqJ _),fun y c h=>?_,fun p hp=>absurd (show p∈([]:List (Addr×Obj)) from hp) (by simp),e0.hok.kept hk, ?_⟩
 ·exact name_of_addr x.apart (PySem.mem_of_lookup h1) (PySem.mem_of_lookup h2)
 ·have hy:scope.names.lookup y=some .cell\/scope.names.lookup y=some .free:=hy
  rcases hy with hy|hy
  ·exact Zdz hy
  ·exact absurd rfl (S.nofree _ (PySem.mem_of_lookup hy))
 ·exact Nat.le_of_lt (x.above y c (PySem.mem_of_lookup h))
 ·have hi:i<vs.length:=by
   unfold V9 at h2
   by_cases hi:i<vs.length
   ·exact hi
   ·rw[ZqV (by simpa using hi)] at h2
    rw[List.getElem?_replicate] at h2
    split at h2<;>cases h2
  have ha:vs[i]?=some v:=by
   unfold V9 at h2
   rw[ZqT (by simpa using hi),Zri] at h2
   cases e:vs[i]? with
   |none=>rw[e] at h2;cases h2
   |some a=>rw[e] at h2;cases h2;rfl
  obtain⟨u,hu,rv⟩:=r.get ha
  have hp:ps[i]?=some y:=by
   rw[<- S.pre,ZrV (by omega)];exact h1
  have ndP:ps.Nodup:=by rw[<- S.pre];exact S.nd.sublist (List.take_sublist _ _)
  refine⟨u,rv, ?_⟩
  rcases S.par y (ZqG hp) with k|k
  ·exact .inl ⟨k,Zbv ndP hp hu k⟩
  ·obtain⟨c,e⟩:=Zdz (n:=s.heap.objs.size+1) k
   refine .inr ⟨.inl k,c,e, ?_⟩
   have q:=x.cell y c e
   rw[Zbx ndP hp hu (by show scope.names.lookup y≠_;rw[k];decide)] at q
   exact q
 ·exact e0.hok.fresh (Nat.le_of_lt (x.above y c (PySem.mem_of_lookup h)))
 ·unfold V9
  show _=N.length
  rw[Zra,ZqN,List.length_replicate]
  omega
theorem ZjR {CX:CXT}{P:Program}{w:World}{K:W.Frag}{mg:Str->Option Value}{base:Heap}{k:Nat}{f:Addr}{name qual:Str}{params:Arguments}{body:List Stmt}{scope:Scope}{dV kV doc pm cdv ct oc:Value}{an od:Option Addr}
  {osl:Array (Option Value)}{N ps:List Str}{sp:Sp} (lk:K.lookup f=some ⟨oc,od,.func (PySem.W.fnOf name qual params body scope dV kV doc pm an cdv ct),osl⟩) (hcd:PySem.W.codeIn K cdv qual=true) (S:Zx N ps scope)
  (len:∀vs H Q E,sp vs H Q E->vs.length=ps.length)
  (hbody:∀(A:Around) (outer:List Env) (s:Shared) (H:Hp) (vs:List V) (Q:VK) (E:XK),Vv k (A.deeper (envOfC qual scope s.heap.objs.size f cdv))->sp vs H Q E ->
   ∃t,PSs (Zbo CX P w K mg base N qual scope f cdv A outer s H E) body t/\t { nx:=fun _ H'=>Q .non H',rt:=Q } (V9 N vs) H) :
  J0 P w K mg base CX (k+1) f (PySem.W.fnOf name qual params body scope dV kV doc pm an cdv ct) ps sp:=by
 refine⟨len,fun A outer s H args us vs Q E hr e0 hb r hsp=>?_⟩
 have hl:=len _ _ _ _ hsp
 have KX:K.In s.heap:=e0.mod.kin.keeps fun b o e=>(e0.bs b o e).1
 have lim:s.heap.NoLimit:=e0.mod.nolimit.keeps fun b o e=>(e0.bs b o e).1
 have hkind:∀y∈ps.zip us,scope.names.lookup y.1=some .local\/(scope.names.lookup y.1=some .cell/\((cellsFrom (s.heap.objs.size+1) scope.names []).lookup y.1).isSome=true):=fun⟨n,v⟩ hy=>by
  rcases S.par n (Zsv hy).1 with q|q
  ·exact .inl q
  ·exact .inr ⟨q,PySem.W.cellsFrom_some _ _ _ (.inl q)⟩
 refine codeAny_call_function hr.depth (KX _ _ lk) rfl S.co S.gen rfl (PySem.W.codeRec_of KX hcd) (hb _ _ _ _ ?_)
 refine wpAny_newFunctionEnv_cells S.kind hkind fun env he s1 x=>?_
 subst he
 refine⟨lim.keeps x.toInCall.keep,codeAny_func ?_⟩
 obtain⟨t,ht,hq⟩:=hbody A outer s H vs Q E (hr.deeper _) hsp
 have I:Inv (Zbo CX P w K mg base N qual scope f cdv A outer s H E) [] (V9 N vs) H s1:=Zfk S hr.hd e0 hl r x
 refine wpAny_mono (ht [] s1 (V9 N vs) H _ I hq) (fun fl s' hs=>?_) fun e s' hs=>hs
 have fin:∀{σ':St}{H':Hp}{v:V}{u:Value},Inv (Zbo CX P w K mg base N qual scope f cdv A outer s H E) [] σ' H' s'->Ja v u->Q v H'->CE outer P w H s Q u s':=
  fun {σ' H' v u} J rv q=>⟨v,H',J.os,J.bare,J.base,J.hok,rv,q⟩
 cases fl with
 |ret u =>
  obtain⟨v,σ',H',J,rv,q⟩:=hs
  exact fin J rv q
 |next =>
  obtain⟨σ',H',J,q⟩:=hs
  exact fin (v:=V.non) (u:=Value.none) J rfl q
 |brk =>
  obtain⟨_,_,_,q⟩:=hs
  exact False.elim q
 |cont =>
  obtain⟨_,_,_,q⟩:=hs
  exact False.elim q
section
variable {X:Cx}{x:Str}{p pos:Pos}{e:Expr}{es:List Expr}{t:TA}{id T:String}{r:List V->Hp->VK->Prop}
noncomputable def tCB (r:List V->Hp->VK->Prop) (t:TA):TE:=fun σ H Q=>t σ H fun vs H1=>r vs H1 Q
theorem Zz (hc:JP X (.builtin id) r) (hg:Gl X x) (hm:X.mg x=none) (hv:bootBuiltins x=some (.builtin id)) (ha:PA X (e::es) t) (hn:x ≠ "__name__":=by decide) (hdb:(x==("__debug__":Str))=false:=by decide)
  (he:starEach (e::es) X.env=(false,eval e X.env)::starEach es X.env:=by rfl) (hpl:(backTo pos (starEach es X.env)).any (·.1)=false:=by rfl):PE X (.Call (.Name x p) (e::es) [] pos) (tCB r t):=by
 intro pins s σ H Q I h
 refine wpAny_Call_Name_kw (QM I hg hm hv ?_ hn hdb)
 exact PyProof.Rows.callWith_builtin1 (thn (ha pos pins s σ H _ I h) fun us s1 ⟨vs,H1,I1,r1,q1⟩=>hc pins s1 σ H1 vs us Q I1 r1 q1) he hpl
theorem JS (hc:JP X (.type T) r) (hg:Gl X x) (hm:X.mg x=none) (hv:bootBuiltins x=some (.type T)) (ha:PA X (e::es) t) (hn:x ≠ "__name__":=by decide) (hdb:(x==("__debug__":Str))=false:=by decide)
  (he:starEach (e::es) X.env=(false,eval e X.env)::starEach es X.env:=by rfl) (hpl:(backTo pos (starEach es X.env)).any (·.1)=false:=by rfl):PE X (.Call (.Name x p) (e::es) [] pos) (tCB r t):=by
 intro pins s σ H Q I h
 refine wpAny_Call_Name_kw (QM I hg hm hv ?_ hn hdb)
 exact PyProof.Rows.callWith_type1 (thn (ha pos pins s σ H _ I h) fun us s1 ⟨vs,H1,I1,r1,q1⟩=>hc pins s1 σ H1 vs us Q I1 r1 q1) he hpl
end
end L2
namespace HT
open PySem PyProof.Rows
noncomputable def ZY:List Int->List Int->Bool
 |[],[]=>false
 |[],_::_=>true
 |_::_,[]=>false
 |x::xs,y::ys=>if x=y then ZY xs ys else decide (x<y)
theorem Js (x y:Int) (xs ys:List Int):ZY (x::xs) (y::ys)=if x=y then ZY xs ys else decide (x<y):=rfl
section
open PySem.SeqAt
open PySem.AutoSeq1 (wpAny_loadPart')
open PySem.MeetsSeq PySem.MeetsSeq2 PySem.MeetsSeq3
end
section
noncomputable def sIx (n d:Nat):Option Int->Nat
 |none=>d
 |some v=>if v<0 then (v+(n:Int)).toNat else min v.toNat n
end
end HT
namespace L2
open PySem PySem.Spec PyProof.Rows
noncomputable abbrev TO:=St->Hp->(Option Int->Hp->Prop)->Prop
def PO (X:Cx) (e:Option Expr) (t:TO):Prop:=
 ∀(pins:List (Addr×Obj)) (s:Shared) (σ:St) (H:Hp) (Q:Option Int->Hp->Prop),Inv X pins σ H s->t σ H Q ->
  wpAny (model X.prog X.w) X.A (evalPart e X.env) (fun u s'=>∃o H',Inv X pins σ H' s'/\IsPart u o/\Q o H') X.xe s
noncomputable def Zei:TO:=fun _ H Q=>Q none H
noncomputable def ZiZ (t:TE):TO:=fun σ H Q=>t σ H fun x H1=>∃i,x=.int i/\Q (some i) H1
theorem QO {ns:List Int}:∀{us:List Value},ZE (ns.map V.int) us->IntsAre us ns:=by
 induction ns with
 |nil=>intro us r;rw[ZrM] at r;cases r;exact .nil
 |cons n ns ih =>
  intro us r
  rw[Zrb] at r
  cases r with
  |cons r1 r2 =>
   obtain⟨t,e⟩:=r1
   subst e
   exact .cons n t (ih r2)
section
variable {X:Cx}{e:Expr}{te:TE}{lo hi:Option Expr}{tl th:TO}{pos p2:Pos}
theorem ZhS:PO X none Zei:=by
 intro pins s σ H Q I h
 rw[evalPart_none]
 exact wpAny_pure ⟨none,H,I,.none,h⟩
theorem ZbB (h:PE X e te):PO X (some e) (ZiZ te):=by
 intro pins s σ H Q I hw
 rw[evalPart_some]
 refine thn (h pins s σ H _ I hw) fun u s1 ⟨x,H1,I1,r1,q1⟩=>?_
 obtain⟨i,rfl,q⟩:=q1
 obtain⟨t,rfl⟩:=r1
 exact⟨some i,H1,I1,.int i t,q⟩
def SlR (X:Cx) (r:V->Option Int->Option Int->Hp->VK->Prop):Prop:=
 ∀(pins:List (Addr×Obj)) (s:Shared) (σ:St) (H:Hp) (x:V) (v vl vu:Value) (lo hi:Option Int) (sl:Addr) (Q:VK),Inv X pins σ H s->Ja x v->s.heap.IsSliceOf sl vl vu .none->IsPart vl lo->IsPart vu hi->r x lo hi H Q ->
  ∃T id,typeLookup (.type T) "__getitem__"=pure (some (.builtin id))/\s.TypeIs v T/\wpAny (model X.prog X.w) X.A (getItem v (.ref sl)) (EP X pins σ Q) X.xe s
noncomputable def tSl (r:V->Option Int->Option Int->Hp->VK->Prop) (te:TE) (tl th:TO):TE:=fun σ H Q=>te σ H fun x H1=>tl σ H1 fun l H2=>th σ H2 fun u H3=>r x l u H3 Q
theorem ZcI {r:V->Option Int->Option Int->Hp->VK->Prop} (hr:SlR X r) (he:PE X e te) (hl:PO X lo tl) (hu:PO X hi th):PE X (.Subscript e (.Slice lo hi none p2) pos) (tSl r te tl th):=by
 intro pins s σ H Q I h
 refine Subscript_ (thn (he pins s σ H _ I h) fun v s1 ⟨x,H1,I1,r1,q1⟩=>?_)
 refine wpAny_Slice (thn (hl pins s1 σ H1 _ I1 q1) fun vl s2 ⟨l,H2,I2,pl,q2⟩=>thn (hu pins s2 σ H2 _ I2 q2) fun vu s3 ⟨u,H3,I3,pu,q3⟩=>?_)
 rw[evalPart_none]
 refine wpAny_pure ?_
 have I4:Inv X pins σ H3 { s3 with heap:=s3.heap.push { cls:=.type "slice",data:=.fields #[vl,vu,.none] } }:=I3.kept (t':=s3.toks) fun b ob q=>Heap.get?_push_of_some _ q
 obtain⟨T,id,hT,ht,hg⟩:=hr pins { s3 with heap:=s3.heap.push { cls:=.type "slice",data:=.fields #[vl,vu,.none] } } σ H3 x v vl vu l u s3.heap.objs.size Q I4 r1 (Heap.IsSliceOf.new ..) pl pu q3
 show wpAny (model X.prog X.w) X.A (subscriptTail e (.Slice lo hi none p2) v (.ref s3.heap.objs.size)) (EP X pins σ Q) X.xe { s3 with heap:=s3.heap.push { cls:=.type "slice",data:=.fields #[vl,vu,.none] } }
 exact tail_any (ops:=[.ref s3.heap.objs.size,v]) ht hT hg (by with_unfolding_all rfl)
noncomputable def ZiP (xs:List V) (lo hi:Option Int):List V:=(xs.drop (HT.sIx xs.length 0 lo)).take (HT.sIx xs.length xs.length hi-HT.sIx xs.length 0 lo)
theorem Zcb (xs:List V) (lo hi:Option Int):(ZiP xs lo hi).length<=xs.length:=by
 unfold ZiP
 rw[Zrd,Zr1]
 omega
end
noncomputable def ixN (n:Nat) (i:Int):Option Nat:=if 0<=i then (if i<n then some i.toNat else none) else if -(n:Int)<=i then some (i+n).toNat else none
noncomputable def atI {α:Type} (xs:List α) (i:Int):Option α:=(ixN xs.length i).bind fun j=>xs[j]?
theorem Zfh {n:Nat}{i:Int}{j:Nat} (h:ixN n i=some j):seqIndex? i n=some j/\j<n/\-(n:Int)<=i/\i<n:=by
 unfold ixN at h
 by_cases h0:0<=i
 ·rw[if_pos h0] at h
  by_cases h1:i<n
  ·rw[if_pos h1] at h
   have e:i.toNat=j:=Option.some.inj h
   exact⟨by rw[seqIndex_of h0 h1,e],by omega,by omega,h1⟩
  ·rw[if_neg h1] at h;cases h
 ·rw[if_neg h0] at h
  by_cases h1:-(n:Int)<=i
  ·rw[if_pos h1] at h
   have e:(i+n).toNat=j:=Option.some.inj h
   exact⟨by rw[seqIndex_neg (by omega) h1,e],by omega,h1,by omega⟩
  ·rw[if_neg h1] at h;cases h
theorem Za8 {α:Type}{xs:List α}{i:Int}{v:α} (h:atI xs i=some v):∃j,seqIndex? i xs.length=some j/\xs[j]?=some v/\j<xs.length/\-(xs.length:Int)<=i/\i<xs.length:=by
 unfold atI at h
 cases e:ixN xs.length i with
 |none=>rw[e] at h;cases h
 |some j =>
  rw[e] at h
  obtain⟨h1,h2,h3,h4⟩:=Zfh e
  exact⟨j,h1,h,h2,h3,h4⟩
def ZiH (b:Expr):Prop:=∀o i,subscripted b false o i=operate [o,i] (getItem o i)
def IxR (X:Cx) (r:R2):Prop:=
 ∀(value slice:Expr) (pins:List (Addr×Obj)) (s:Shared) (σ:St) (H:Hp) (x y:V) (v u:Value) (Q:VK),Inv X pins σ H s->Ja x v->Ja y u->r x y H Q ->
  subscripted slice false v u=operate [v,u] (getItem v u)->wpAny (model X.prog X.w) X.A (subscriptTail value slice v u) (EP X pins σ Q) X.xe s
def MtR (X:Cx) (id:String) (r:V->List V->Hp->VK->Prop):Prop:=
 ∀(pins:List (Addr×Obj)) (s:Shared) (σ:St) (H:Hp) (x:V) (xs:List V) (v:Value) (us:List Value) (Q:VK),Inv X pins σ H s->Ja x v->ZE xs us->r x xs H Q ->
  wpAny (model X.prog X.w) X.A (call (.builtin id) (v::us)) (EP X pins σ Q) X.xe s
section
variable {X:Cx}{a b:Expr}{ta tb:TE}{pos:Pos}
theorem IxR.or {r r':R2} (h:IxR X r) (h':IxR X r'):IxR X (fun x y H Q=>r x y H Q\/r' x y H Q):=by
 intro value slice pins s σ H x y v u Q I rx ry q hs
 rcases q with q|q
 ·exact h value slice pins s σ H x y v u Q I rx ry q hs
 ·exact h' value slice pins s σ H x y v u Q I rx ry q hs
theorem ZW {r:R2} (hr:IxR X r) (ha:PE X a ta) (hb:PE X b tb) (hs:ZiH b):PE X (.Subscript a b pos) (tOp r ta tb):=by
 intro pins s σ H Q I h
 exact Subscript_ (Zlz ha hb I h fun v u s2 x y H2 I2 rx ry q=>hr a b pins s2 σ H2 x y v u Q I2 rx ry q (hs _ _))
noncomputable def Zjp (K:W.Frag):R2:=fun x y H Q=>∃p xs i v,x=.ref p/\y=.int i/\SqL K H p xs/\atI xs i=some v/\Q v H
noncomputable def ZlE (K:W.Frag):R2:=fun x y H Q=>∃p xs i v,x=.ref p/\y=.int i/\SqT K H p xs/\atI xs i=some v/\Q v H
noncomputable def ZlF:R2:=fun x y H Q=>∃z i c,x=.str z/\y=.int i/\z.length<=sizeLine/\atI z.cps.toList i=some c/\Q (.str ⟨#[c]⟩) H
theorem Ziq:IxR X (Zjp X.K):=by
 intro value slice pins s σ H x y v u Q I rx ry h hs
 obtain⟨p,xs,i,z,rfl,rfl,hq,he,q⟩:=h
 cases rx
 obtain⟨t,rfl⟩:=ry
 obtain⟨its,r,pl,hz⟩:=I.list hq
 obtain⟨j,h1,h2,h3,h4,h5⟩:=Za8 he
 obtain⟨w,ew,rw'⟩:=r.get h2
 have hl:=r.length
 have hn:=QL
 have fin:EP X pins σ Q w s:=⟨z,H,I,rw',q⟩
 by_cases h0:0<=i
 ·have hj:i.toNat=j:=by
   rw[seqIndex_of h0 h5] at h1
   exact Option.some.inj h1
  exact item_listR pl.isList h0 (by omega) (by rw[hj];simpa using ew) fin hs
 ·have hj:(i+(its.toArray.size:Int)).toNat=j:=by
   rw[seqIndex_neg (by omega) h4] at h1
   rw[ZqQ,<- hl]
   exact Option.some.inj h1
  exact subscriptTail_builtinR (x:=w) pl.isList.typeIs slot_list_getitem.lookup
   (wpAny_getItem_list_neg (Q:=fun r s'=>r=w/\EP X pins σ Q r s') pl.isList (by omega) (by rw[ZqQ]<;>omega) (by omega) (by rw[hj];simpa using ew) ⟨rfl,fin⟩) hs
theorem ZjH:IxR X (ZlE X.K):=by
 intro value slice pins s σ H x y v u Q I rx ry h hs
 obtain⟨p,xs,i,z,rfl,rfl,hq,he,q⟩:=h
 cases rx
 obtain⟨t,rfl⟩:=ry
 obtain⟨its,r,pl,hz⟩:=I.tuple hq
 obtain⟨j,h1,h2,h3,h4,h5⟩:=Za8 he
 obtain⟨w,ew,rw'⟩:=r.get h2
 have hl:=r.length
 have hn:=QL
 have fin:EP X pins σ Q w s:=⟨z,H,I,rw',q⟩
 exact subscriptTail_builtinR (x:=w) pl.typeIs slot_tuple_getitem.lookup
  (getItem_tuple (j:=j) (Q:=fun r s'=>r=w/\EP X pins σ Q r s') pl (by omega) (by omega) (by rw[ZqQ,<- hl];exact h1) (by simpa using ew) ⟨rfl,fin⟩) hs
theorem ZjI:IxR X ZlF:=by
 intro value slice pins s σ H x y v u Q I rx ry h hs
 obtain⟨z,i,c,rfl,rfl,hz,he,q⟩:=h
 obtain⟨t,rfl⟩:=rx
 obtain⟨t',rfl⟩:=ry
 obtain⟨j,h1,h2,h3,h4,h5⟩:=Za8 he
 have hl:z.cps.toList.length=z.length:=by simp[Str.length]
 rw[hl] at h1 h4 h5
 have hn:=QL
 exact tail_any (typeIs_str s z t) slot_str_getitem.lookup (getItem_str (c:=c) (by
  have e1:decide (i < -(2^63:Int))=false:=decide_eq_false (by omega)
  have e2:decide (i ≥ 2^63)=false:=decide_eq_false (by omega)
  rw[e1,e2,Bool.or_false]) (by rw[h1];simpa using h2) ⟨.str ⟨#[c]⟩,H,I.tok _,⟨_,rfl⟩,q⟩) hs
noncomputable def rIx (K:W.Frag):R2:=fun x y H Q=>Zjp K x y H Q\/ZlE K x y H Q\/ZlF x y H Q
theorem ZjJ:IxR X (rIx X.K):=Ziq.or (ZjH.or ZjI)
theorem ZdG (its:List Value) (n j:Nat) (u:Value):Obj.mapSeq (·.setIfInBounds j u) { cls:=.type "list",data:=.seq its.toArray n }={ cls:=.type "list",data:=.seq (its.set j u).toArray n }:=by
 simp[Obj.mapSeq]
theorem Inv.lst {pins:List (Addr×Obj)}{σ:St}{H:Hp}{s:Shared}{p:Addr}{xs:List V} (I:Inv X pins σ H s) (h:H p=some (.lst xs)) :
  ∃(its:List Value) (n:Nat),ZE xs its/\s.heap.get? p=some { cls:=.type "list",data:=.seq its.toArray n }/\xs.length<=sizeLine:=by
 obtain⟨z,its,n,r,e⟩:=I.hok p _ h
 exact⟨its,n,r,e,z⟩
theorem Inv.lstUpd {pins:List (Addr×Obj)}{σ:St}{H:Hp}{s:Shared}{p:Addr}{xs ys:List V}{its its':List Value}{n n':Nat}{f:Obj->Obj} (I:Inv X pins σ H s) (h:H p=some (.lst xs))
  (ho:s.heap.get? p=some { cls:=.type "list",data:=.seq its.toArray n }) (hf:f { cls:=.type "list",data:=.seq its.toArray n }={ cls:=.type "list",data:=.seq its'.toArray n' }) (r:ZE ys its') (hz:ys.length<=sizeLine) (t:Nat) :
  Inv X pins σ (upd H p (.lst ys)) { s with heap:=s.heap.update p f,toks:=t }:=by
 have e:(s.heap.update p f).get? p=some { cls:=.type "list",data:=.seq its'.toArray n' }:=by
  rw[Heap.get?_update_self f ho (by rw[hf]<;>rfl),hf]
 refine I.write (x:=p) (e:=p) (by rw[h];trivial) (.inl rfl) (fun b u hb q=>(Heap.get?_update_other _ _ (Ne.symm hb)).trans q) ⟨_,e⟩ ?_
 exact⟨hz,its',n',r,e⟩
def ZhO:V->V->V->Hp->(Hp->Prop)->Prop:=fun o i v H Q=>∃p xs k j,o=.ref p/\i=.int k/\H p=some (.lst xs)/\ixN xs.length k=some j/\Q (upd H p (.lst (xs.set j v)))
theorem Vd:Zl1 X ZhO:=by
 intro pins s σ H o i v ov iv u Q I ro ri rv h
 obtain⟨p,xs,k,j,rfl,rfl,hp,hj,q⟩:=h
 cases ro
 obtain⟨t,rfl⟩:=ri
 obtain⟨its,n,r,ho,hz⟩:=I.lst hp
 obtain⟨h1,h2,h3,h4⟩:=Zfh hj
 have hl:=r.length
 have hn:=QL
 have I':Inv X pins σ (upd H p (.lst (xs.set j v))) { s with heap:=s.heap.update p (Obj.mapSeq (·.setIfInBounds j u)) }:=
  I.lstUpd hp ho (ZdG its n j u) (r.set rv j) (by rw[Zr8];exact hz) s.toks
 by_cases h0:0<=k
 ·have hk:k.toNat=j:=by
   rw[seqIndex_of h0 h4] at h1
   exact Option.some.inj h1
  exact PySem.W.ki_setAt ho h0 (by omega) (by rw[ZqQ,<- hl];exact h4) (by rw[hk];exact⟨_,I',q⟩)
 ·have hk:(k+(its.toArray.size:Int)).toNat=j:=by
   rw[seqIndex_neg (by omega) h3] at h1
   rw[ZqQ,<- hl]
   exact Option.some.inj h1
  exact PySem.W.ki_setBack ho (by omega) (by rw[ZqQ,<- hl];exact h3) (by omega) (by rw[hk];exact⟨_,I',q⟩)
theorem ZaM (lo hi:Option Int) (n:Nat):(sliceBounds lo hi none n).1=((HT.sIx n 0 lo:Nat):Int)/\(sliceBounds lo hi none n).2.1=((HT.sIx n n hi:Nat):Int)/\(sliceBounds lo hi none n).2.2=1:=by
 refine⟨?_, ?_,rfl⟩
 ·cases lo with
  |none=>simp[sliceBounds,HT.sIx]
  |some i =>
   simp only[sliceBounds,HT.sIx,Option.getD_none,show (1:Int)>0 by decide,if_true]
   by_cases h:i<0
   ·simp only[h,if_true]<;>omega
   ·simp only[h,if_false]<;>omega
 ·cases hi with
  |none=>simp[sliceBounds,HT.sIx]
  |some i =>
   simp only[sliceBounds,HT.sIx,Option.getD_none,show (1:Int)>0 by decide,if_true]
   by_cases h:i<0
   ·simp only[h,if_true]<;>omega
   ·simp only[h,if_false]<;>omega
theorem Zac (its:List Value) (lo hi:Option Int):slicePick its.toArray lo hi none=((its.drop (HT.sIx its.length 0 lo)).take (HT.sIx its.length its.length hi-HT.sIx its.length 0 lo)).toArray:=by
 obtain⟨h1,h2,h3⟩:=ZaM lo hi its.toArray.size
 unfold slicePick
 rw[h1,h2,h3]
 simp only[sliceRange_one,pick_run,ZqQ]<;>rfl
def ZkK (K:W.Frag):V->Option Int->Option Int->Hp->VK->Prop:=fun x lo hi H Q=>∃a xs,x=.ref a/\SqL K H a xs/\∀p,H p=none->Q (.ref p) (upd H p (.lst (ZiP xs lo hi)))
theorem ZhM:SlR X (ZkK X.K):=by
 intro pins s σ H x v vl vu lo hi sl Q I rx hs pl pu h
 obtain⟨a,xs,rfl,hx,q⟩:=h
 cases rx
 obtain⟨its,r,ht,hz⟩:=I.list hx
 have hlen:=r.length
 refine⟨"list",_,slot_list_getitem.lookup,ht.isList.typeIs, ?_⟩
 refine wpAny_getItem_list_slice ht.isList hs pl pu .none (by simp) ?_ (by rw[ZqQ]<;>omega)
 rw[Zac,<- hlen]
 refine⟨.ref s.heap.objs.size,_,I.laid (t':=s.toks) (o:=.lst (ZiP xs lo hi)) (fun b ob q=>Heap.get?_push_of_some _ q) (ZqJ _) ?_,rfl,q _ (I.hok.fresh (ZqJ _))⟩
 exact⟨Zrq (Zcb xs lo hi) hz,_,0,(r.drop (HT.sIx xs.length 0 lo)).take (HT.sIx xs.length xs.length hi-HT.sIx xs.length 0 lo),Heap.get?_push_size _ rfl⟩
theorem Zbr:JP X (.builtin "len") (fun xs H Q=>∃p ys,xs=[.ref p]/\(SqL X.K H p ys\/SqT X.K H p ys)/\Q (.int ys.length) H):=by
 intro pins s σ H xs us Q I r h
 obtain⟨p,ys,rfl,hq,q⟩:=h
 obtain⟨u,rfl,rx⟩:=Zb5 r
 cases rx
 have hn:=QL
 rcases hq with hq|hq
 ·obtain⟨its,r',pl,hz⟩:=I.list hq
  have hlen:=r'.length
  exact Calls.call_len_list pl.isList (by simp only[ZqQ]<;>omega) ⟨.int ys.length,H,I.tok _,⟨s.toks+1,by rw[ZqQ,hlen]⟩,q⟩
 ·obtain⟨its,r',pl,hz⟩:=I.tuple hq
  have hlen:=r'.length
  exact len_tuple pl (by simp only[ZqQ]<;>omega) ⟨.int ys.length,H,I.tok _,⟨s.toks+1,by rw[ZqQ,hlen]⟩,q⟩
theorem Zbq:JP X (.type "list") (fun xs H Q=>∃p ys,xs=[.ref p]/\(SqL X.K H p ys\/SqT X.K H p ys)/\∀l,H l=none->Q (.ref l) (upd H l (.lst ys))):=by
 intro pins s σ H xs us Q I r h
 obtain⟨p,ys,rfl,hq,q⟩:=h
 obtain⟨u,rfl,rx⟩:=Zb5 r
 cases rx
 have fin:∀(its:List Value),ZE ys its->ys.length<=sizeLine->∀(h':Heap) (c':Nat),(∀b o',s.heap.get? b=some o'->h'.get? b=some o') ->
   h'.get? s.heap.objs.size=some { cls:=.type "list",dict:=none,data:=.seq its.toArray c',slots:=#[] }->EP X pins σ Q (.ref s.heap.objs.size) { s with heap:=h' }:=fun its r' hz h' c' kp e =>
  ⟨.ref s.heap.objs.size,_,I.laid (t':=s.toks) kp (ZqJ _) (show Ji X.prog X.w _ h' _ (.lst ys) from ⟨hz,its,c',r',e⟩),rfl,q _ (I.hok.fresh (ZqJ _))⟩
 rcases hq with hq|hq
 ·obtain⟨its,r',pl,hz⟩:=I.list hq
  have hlen:=r'.length
  obtain⟨o,ho,hc,n,hd⟩:=pl.isList
  exact call_list_seq p (.inl rfl) ho hc hd (fun h' c' kp e=>fin its r' hz h' c' kp e) (by simp only[ZqQ]<;>omega)
 ·obtain⟨its,r',pl,hz⟩:=I.tuple hq
  have hlen:=r'.length
  obtain⟨o,ho,hc,n,hd⟩:=pl
  exact call_list_seq p (.inr rfl) ho hc hd (fun h' c' kp e=>fin its r' hz h' c' kp e) (by simp only[ZqQ]<;>omega)
theorem Za6:JP X (.type "tuple") (fun xs H Q=>∃p ys,xs=[.ref p]/\((SqL X.K H p ys/\∀l,H l=none->Q (.ref l) (upd H l (.tup ys)))\/(SqT X.K H p ys/\Q (.ref p) H))):=by
 intro pins s σ H xs us Q I r h
 obtain⟨p,ys,rfl,h⟩:=h
 obtain⟨u,rfl,rx⟩:=Zb5 r
 cases rx
 rcases h with ⟨hq,q⟩|⟨hq,q⟩
 ·obtain⟨its,r',pl,hz⟩:=I.list hq
  have hlen:=r'.length
  refine call_tuple_list pl.isList (fun h' kp=>?_) (by simp only[ZqQ]<;>omega)
  have I1:Inv X pins σ H { s with heap:=h' }:=I.kept (t':=s.toks) kp
  have I2:Inv X pins σ (upd H h'.objs.size (.tup ys)) { s with heap:=h'.push { cls:=.type "tuple",data:=.seq its.toArray } }:=
   I1.laid (t':=s.toks) (fun b o e=>Heap.get?_push_of_some _ e) (ZqJ _) (show Ji X.prog X.w _ _ _ (.tup ys) from ⟨hz,its,r',IsTup.new _ _⟩)
  exact⟨.ref h'.objs.size,_,I2,rfl,q _ (I1.hok.fresh (ZqJ _))⟩
 ·obtain⟨its,r',pl,hz⟩:=I.tuple hq
  exact call_tuple_same pl ⟨.ref p,H,I,rfl,q⟩
def tyV (K:W.Frag) (T:String) (x:V) (H:Hp):Prop:=match x with
 |.str _=>T = "str"
 |.int _=>T = "int"
 |.ref p=>(T = "list"/\∃xs,SqL K H p xs)\/(T = "tuple"/\∃o,K.lookup p=some o/\o.cls=.type "tuple"/\o.dict=none) \/
   (T = "dict"/\((∃kvs,H p=some (.dK kvs))\/∃kvs,H p=some (.dT kvs)))\/(T = "set"/\∃S n,H p=some (.set S n))
 |_=>False
theorem ZgV {pins:List (Addr×Obj)}{σ:St}{H:Hp}{s:Shared}{T:String}{x:V}{v:Value} (I:Inv X pins σ H s) (r:Ja x v) (ty:tyV X.K T x H) :
  s.TypeIs v T/\∀a,v=.ref a->∃ob,s.heap.get? a=some ob/\ob.dict=none:=by
 cases x with
 |str z =>
  obtain⟨t,rfl⟩:=r
  cases (show T = "str" from ty)
  exact⟨typeIs_str s z t,fun _ e=>nomatch e⟩
 |int i =>
  obtain⟨t,rfl⟩:=r
  cases (show T = "int" from ty)
  exact⟨typeIs_int s i t,fun _ e=>nomatch e⟩
 |ref p =>
  cases r
  rcases ty with ⟨rfl,xs,hq⟩|⟨rfl,o,hk,hc,hd⟩|⟨rfl,hk⟩|⟨rfl,S,n,hk⟩
  ·obtain⟨its,_,pl,_⟩:=I.list hq
   refine⟨pl.isList.typeIs,fun a e=>?_⟩
   cases e
   obtain⟨o,n,e,c,hd,_⟩:=pl
   exact⟨o,e,hd⟩
  ·refine⟨⟨o,I.kIn p o hk,hc⟩,fun a e=>?_⟩
   cases e
   exact⟨o,I.kIn _ o hk,hd⟩
  ·have z:∃o,s.heap.get? p=some o/\o.ExactDict:=by
    rcases hk with ⟨kvs,hk⟩|⟨kvs,hk⟩
    ·obtain⟨_,_,_,_,o,_,_,e,ex,_⟩:=I.hok p _ hk
     exact⟨o,e,ex⟩
    ·obtain⟨_,_,_,_,o,_,_,e,ex,_⟩:=I.hok p _ hk
     exact⟨o,e,ex⟩
   obtain⟨o,e,ex⟩:=z
   refine⟨⟨o,e,ex.1⟩,fun a e2=>?_⟩
   cases e2
   exact⟨o,e,ex.2.1⟩
  ·obtain⟨o,_,_,_,e,ex,_⟩:=I.hok p _ hk
   refine⟨⟨o,e,ex.1⟩,fun a e2=>?_⟩
   cases e2
   exact⟨o,e,ex.2.1⟩
 |_=>exact False.elim ty
noncomputable def ZkH (K:W.Frag) (T:String) (r:V->List V->Hp->VK->Prop) (to:TE):TE:=fun σ H Q=>to σ H fun x H1=>tyV K T x H1/\r x [] H1 Q
noncomputable def tBM (K:W.Frag) (T:String) (r:V->List V->Hp->VK->Prop) (to:TE) (t:TA):TE:=fun σ H Q=>to σ H fun x H1=>tyV K T x H1/\t σ H1 fun xs H2=>r x xs H2 Q
variable {o e:Expr}{es:List Expr}{to:TE}{t:TA}{name:Str}{apos cpos:Pos}{T id:String}{r:V->List V->Hp->VK->Prop}
theorem ZaT (pa:PlainAttrs T) (slot:Slot T name id) (hty:typeOf (.builtin id)=pure (.type "method_descriptor")) (hm:MtR X id r) (ho:PE X o to)
  (hbase:attributeBase o name X.env (eval o X.env)=eval o X.env:=by rfl) (hline:(apos.endLine==cpos.line)=true:=by rfl):PE X (.Call (.Attribute o name apos) [] [] cpos) (ZkH X.K T r to):=by
 intro pins s σ H Q I h
 refine wpAny_Call_method0_late hbase hline (thn (ho pins s σ H _ I h) fun v s1 ⟨x,H1,I1,r1,ty,q1⟩=>?_)
 obtain⟨h1,h2⟩:=ZgV I1 r1 ty
 exact⟨T,id,pa,slot,hty,h1,h2,Calls.callWith_builtin rfl (PySem.evalArgs_none (hm pins s1 σ H1 x [] v [] Q I1 r1 .nil q1))⟩
theorem VW (pa:PlainAttrs T) (slot:Slot T name id) (hty:typeOf (.builtin id)=pure (.type "method_descriptor")) (hm:MtR X id r) (ho:PE X o to) (ha:PA X (e::es) t)
  (hbase:attributeBase o name X.env (eval o X.env)=eval o X.env:=by rfl)
  (hfew:((backTo cpos (starEach (e::es) X.env)).all (fun x=>!x.1)&&(backToKw cpos (keywordEach [] X.env)).all (fun x=>x.1.isSome)
   && decide ((e::es).length+([]:List Keyword).length+(if ([]:List Keyword).isEmpty then 0 else 1)<30))=true:=by rfl)
  (hline:(apos.endLine==cpos.line)=true:=by rfl) (hs:starEach (e::es) X.env=(false,eval e X.env)::starEach es X.env:=by rfl) (hplain:(backTo cpos (starEach es X.env)).any (·.1)=false:=by rfl) :
  PE X (.Call (.Attribute o name apos) (e::es) [] cpos) (tBM X.K T r to t):=by
 intro pins s σ H Q I h
 refine wpAny_Call_method_late hbase hfew hline rfl (thn (ho pins s σ H _ I h) fun v s1 ⟨x,H1,I1,r1,ty,q1⟩=>?_)
 obtain⟨h1,h2⟩:=ZgV I1 r1 ty
 refine⟨T,id,pa,slot,hty,h1,h2, ?_⟩
 have hA:=ha cpos pins s1 σ H1 _ I1 q1
 rw[hs] at hA ⊢
 refine Calls.callWith_builtin (by show (false || (backTo cpos (starEach es X.env)).any (·.1))=false;rw[hplain]<;>rfl) (Calls.evalArgs_plain ?_)
 exact thn hA fun us s2 ⟨vs,H2,I2,r2,q2⟩=>hm pins s2 σ H2 x vs v us Q I2 r1 r2 q2
end
def MtM (X:Cx) (id:String) (r:V->List V->Hp->VK->Prop):Prop:=
 ∀(pins:List (Addr×Obj)) (s:Shared) (σ:St) (H:Hp) (x:V) (xs:List V) (v:Value) (us:List Value) (Q:VK),Inv X pins σ H s->Ja x v->ZE xs us->r x xs H Q ->
  wpAny (model X.prog X.w) X.A (call (.builtin id) (v::us)) (EP X pins σ Q) X.xe s
theorem ZE.one:∀{x:V}{us:List Value},ZE [x] us->∃u,us=[u]/\Ja x u
 |_,_,.cons r .nil=>⟨_,rfl,r⟩
theorem ZE.zero:∀{us:List Value},ZE [] us->us=[]
 |_,.nil=>rfl
theorem ZE.dropLast {xs:List V}{us:List Value} (h:ZE xs us):ZE xs.dropLast us.dropLast:=by
 induction h with
 |nil=>exact .nil
 |cons r t ih =>
  cases t with
  |nil=>exact .nil
  |cons q t'=>exact .cons r ih
theorem ZE.rep {xs:List V}{us:List Value} (h:ZE xs us):∀k:Nat,ZE (List.replicate k xs).flatten (List.replicate k us).flatten
 |0=>.nil
 |k+1=>by
  rw[Zr2,Zr2,ZrJ,ZrJ]
  exact ZE.append h (ZE.rep h k)
theorem ZdQ {α:Type} (l:List α):l.eraseIdx (l.length-1)=l.dropLast:=by
 induction l with
 |nil=>rfl
 |cons a r ih =>
  cases r with
  |nil=>rfl
  |cons b r =>
   have e:(a::b::r).length-1=((b::r).length-1)+1:=by
    have h1:(a::b::r).length=r.length+2:=rfl
    have h2:(b::r).length=r.length+1:=rfl
    omega
   rw[e,List.eraseIdx_cons_succ,ih]
   all_goals rfl
theorem Zbk (its:List Value):∀(k:Nat) (acc:List Value),
  List.foldl (fun x1 x2=>x1++x2) acc.toArray (List.replicate k its.toArray)=(acc++(List.replicate k its).flatten).toArray
 |0,acc=>by simp
 |k+1,acc=>by
  have e:acc.toArray++its.toArray=(acc++its).toArray:=by simp
  have e2:(acc++its)++(List.replicate k its).flatten=acc++(List.replicate (k+1) its).flatten:=by
   rw[Zr2,ZrJ,ZqP]
  rw[<- e2,<- Zbk its k (acc++its),<- e,Zr2,List.foldl_cons]
section
variable {X:Cx}{pins:List (Addr×Obj)}{σ:St}{H:Hp}{s:Shared}{l:Addr}{xs ys:List V}
theorem Inv.lset {its its':List Value}{n:Nat}{f:Array Value->Array Value}{t':Nat} (I:Inv X pins σ H s) (hH:H l=some (.lst xs))
  (e:s.heap.get? l=some { cls:=.type "list",data:=.seq its.toArray n }) (hf:f its.toArray=its'.toArray) (hv:ZE ys its') (hz:ys.length<=sizeLine) :
  Inv X pins σ (upd H l (.lst ys)) { s with heap:=s.heap.update l (Obj.mapSeq f),toks:=t' }:=by
 have q:=PySem.IsL.update e f
 rw[hf] at q
 refine I.write (x:=l) (e:=l) (by rw[hH];exact trivial) (.inl rfl) (fun b' u hb hu=>(Heap.get?_update_other s.heap (Obj.mapSeq f) (Ne.symm hb)).trans hu) ⟨_,q⟩ ?_
 exact⟨hz,its',_,hv,q⟩
theorem Inv.lnew {its:List Value}{t':Nat} (I:Inv X pins σ H s) (hv:ZE ys its) (hz:ys.length<=sizeLine) :
  Inv X pins σ (upd H s.heap.objs.size (.lst ys)) { s with heap:=s.heap.push { cls:=.type "list",data:=.seq its.toArray },toks:=t' }:=
 I.laid (fun _ _ q=>Heap.get?_push_of_some _ q) (ZqJ _) ⟨hz,its,0,hv,Heap.get?_push_size _ rfl⟩
theorem Inv.fresh (I:Inv X pins σ H s):H s.heap.objs.size=none:=I.hok.fresh (ZqJ _)
theorem Inv.lstM (I:Inv X pins σ H s) (hH:H l=some (.lst xs)):xs.length<=sizeLine/\∃(its:List Value) (n:Nat),ZE xs its/\xs.length=its.length/\s.heap.get? l=some { cls:=.type "list",data:=.seq its.toArray n }:=by
 obtain⟨z,its,n,r,e⟩:=I.hok l _ hH
 exact⟨z,its,n,r,r.length,e⟩
theorem Zgp {n:Nat} (h:n<=sizeLine):Builtin.List.listTooLong n=false:=by
 unfold Builtin.List.listTooLong
 exact decide_eq_false (by omega)
end
section
variable {X:Cx}
def Zaf:V->List V->Hp->VK->Prop:=fun x vs H Q=>∃l xs y,x=.ref l/\vs=[y]/\H l=some (.lst xs)/\xs.length<sizeLine/\Q .non (upd H l (.lst (xs++[y])))
theorem ZI:MtM X "list.append" Zaf:=by
 intro pins s σ H x vs v us Q I rx rv h
 obtain⟨l,xs,y,rfl,rfl,hH,hz,q⟩:=h
 cases rx
 obtain⟨u,rfl,ru⟩:=rv.one
 obtain⟨z,its,n,r,hl,e⟩:=I.lstM hH
 refine call_meets F.slot_list_append ⟨_,e,rfl⟩ F.entry_list_append (F.args_list_append_2 _ _) (PySem.list_append l its.toArray n u (by rw[ZqQ];omega)) ⟨e, ?_⟩
 refine⟨.non,_,I.lset (its':=its++[u]) hH e (by simp) (r.append (.cons ru .nil)) ?_,rfl,q⟩
 rw[Zra,List.length_singleton]
 omega
def ZkL:V->List V->Hp->VK->Prop:=fun x vs H Q=>∃l xs y,x=.ref l/\vs=[]/\H l=some (.lst xs)/\xs[xs.length-1]?=some y/\Q y (upd H l (.lst xs.dropLast))
theorem Zba:MtM X "list.pop" ZkL:=by
 intro pins s σ H x vs v us Q I rx rv h
 obtain⟨l,xs,y,rfl,rfl,hH,hy,q⟩:=h
 cases rx
 have hus:=rv.zero
 subst hus
 obtain⟨z,its,n,r,hl,e⟩:=I.lstM hH
 obtain⟨u,hu,ru⟩:=r.get hy
 have hy':its.toArray[its.toArray.size-1]?=some u:=by
  show its.toArray[its.length-1]?=some u
  rw[<- ZqW,<- hl]
  exact hu
 refine call_meets F.slot_list_pop ⟨_,e,rfl⟩ F.entry_list_pop (F.args_list_pop_1 _) (MeetsSeq.list_pop_last l its.toArray n u hy' (by rw[ZqQ];omega)) ⟨e, ?_⟩
 refine⟨y,_,I.lset (its':=its.dropLast) hH e ?_ r.dropLast ?_,ru,q⟩
 ·show its.toArray.eraseIdxIfInBounds (its.toArray.size-1)=its.dropLast.toArray
  rw[ZqQ,List.eraseIdxIfInBounds_toArray,ZdQ]
 ·rw[ZrH]
  omega
noncomputable def ZlD:R2:=fun x y H Q=>∃l k xs,x=.ref l/\y=.int k/\H l=some (.lst xs)/\-(2^63)<=k/\k<2^63/\xs.length*k.toNat<=sizeLine /\
 ∀p,H p=none->Q (.ref p) (upd H p (.lst (List.replicate k.toNat xs).flatten))
theorem ZeZ {α:Type} (xs:List α) (k:Nat):(List.replicate k xs).flatten.length=k*xs.length:=by
 induction k with
 |zero=>simp
 |succ k ih=>rw[Zr2,ZrJ,Zra,ih,Nat.succ_mul,Nat.add_comm]
theorem Zj5:OpR X (binaryOp .Mult) ZlD:=by
 intro pins s σ H x y v u Q I rx ry h
 obtain⟨l,k,xs,rfl,rfl,hH,h1,h2,hz,q⟩:=h
 cases rx
 obtain⟨t,rfl⟩:=ry
 obtain⟨z,its,n,r,hl,e⟩:=I.lstM hH
 have hlen:its.toArray.size*k.toNat<=sizeLine:=by rw[ZqQ,<- hl];exact hz
 have hcap:¬its.toArray.size*k.toNat>(2^63-1)/8:=by
  have:(sizeLine:Nat)<=(2^63-1)/8:=by decide
  omega
 have hfit:¬(!Builtin.List.listFitsIndex k)=true:=by
  rw[fitsIndex_both h1 h2]
  exact Bool.false_ne_true
 have hlong:¬Builtin.List.listTooLong (its.toArray.size*k.toNat)=true:=by
  rw[Zgp hlen]
  exact Bool.false_ne_true
 have hnew:List.foldl (fun x1 x2=>x1++x2) #[] (List.replicate (if its.toArray.isEmpty=true then 0 else k.toNat) its.toArray)=(List.replicate k.toNat its).flatten.toArray:=by
  have f0:∀m:Nat,List.foldl (fun x1 x2=>x1++x2) #[] (List.replicate m its.toArray)=(List.replicate m its).flatten.toArray:=fun m=>by
   have:=Zbk its m []
   rw[ZrC] at this
   exact this
  rw[f0]
  cases its with
  |nil=>simp
  |cons a r'=>rw[if_neg (by simp)]
 refine wpAny_binaryOp_repeat_ref (T := "list") (U := "int") (by decide) ⟨_,e,rfl⟩ (fun s'=>typeIs_int s' k t) noFill_list_mul F.fills_int_mul F.slot_int_rmul repeat_list F.slot_int_index.lookup
  (call_meets F.slot_int_rmul (typeIs_int s k t) F.entry_int_rmul (F.args_int_rmul_2 _ _) (int___rmul___int_list k t l its.toArray n)
   ⟨e,rfl,⟨_,e,rfl⟩,call_meets F.slot_list_mul ⟨_,e,rfl⟩ F.entry_list_mul (F.args_list_mul_2 _ _) (AutoListH.list___mul___list_int_3 l its.toArray n k t hfit hcap hlong) ⟨e, ?_⟩⟩)
 rw[hnew]
 exact⟨.ref _,_,I.lnew (t':=s.toks) (r.rep k.toNat) (by rw[ZeZ,Nat.mul_comm];exact hz),rfl,q _ I.fresh⟩
end
section
set_option maxRecDepth 100000 in
end
section
end
end L2
namespace Att
open PySem PySem.W PySem.Calls PyProof.Rows
theorem Qm {P:Params}{h:Heap}:∀(ns:List Int) (vs:List Value),WellAll P h vs (ns.map WData.int)->IntsAre vs ns:=by
 intro ns
 induction ns with
 |nil =>
  intro vs w
  rw[ZrM] at w
  cases w
  exact .nil
 |cons n ns ih =>
  intro vs w
  rw[Zrb] at w
  cases w with
  |cons a b =>
   cases a
   exact .cons _ _ (ih _ b)
theorem Zet {l:OpenLaw}{n:Nat} (hn:l.most=some n) {P:Params}{h:Heap}{args:List WData}{vals:List Value}
  (hpre:l.row.toRowW.claim.pre args=true) (hwl:WellAll P h vals args) :
  ∃a vs ns,vals=[Value.ref a]/\args=[WData.list (ns.map WData.int)]/\h.get? a=some { cls:=.type "list",data:=.seq vs.toArray }/\IntsAre vs ns/\ns.length<=n:=by
 have hsh:WShape.hasAll [] args [.list .int]=true:=(pre_splitW hpre).1
 have hc:l.pre.holds [] { args:=args }=true:=(pre_splitW hpre).2
 obtain⟨d,r,rfl,h1,h2⟩:=hasAllW_cons hsh
 obtain rfl:=hasAllW_nil h2
 obtain⟨xs,rfl,h3⟩:=hasW_list h1
 obtain⟨ns,rfl⟩:=items_int h3
 have hlen:ns.length<=n:=by
  unfold OpenLaw.pre at hc
  have h4:(WTm.not (.lt (.lit (.int (n:Int))) (.len (.arg 0)))).holds [] { args:=[.list (ns.map .int)] }=true:=by
   have h4:=(holds_andW hc).1
   rw[hn] at h4
   exact h4
  have h5:=condW_of h4 (w_not (w_lt w_lit (w_len_list (w_arg rfl))))
  rw[ZqN] at h5
  refine Nat.le_of_not_lt fun q=>?_
  have q':(n:Int)<((ns.length:Nat):Int):=by omega
  first
   |(rw[decide_eq_true q'] at h5;exact absurd h5 (by decide))
   |(simp at h5;omega)
 cases hwl with
 |cons w1 w2 =>
  cases w2
  cases w1 with
  |list ho hall=>exact⟨_,_,ns,rfl,rfl,ho,Qm ns _ hall,hlen⟩
theorem Ze2 (l:OpenLaw) (args:List WData):l.row.toRowW.claim.post args (.bool true) args=true:=
 postW_of (r:=l.row.toRowW) (X:=(true==true))
  (show WShape.has [] (.bool true) .bool=true by first|rfl|decide|simp[WShape.has,WShape.arms,WShape.armsAll])
  (show (WTm.eq .res (.lit (.bool true))).value [] { args:=args,res:=some (.bool true),after:=args }=some (.bool (true==true)) from w_eq_bool (w_res rfl) w_lit) rfl
theorem Zch {l:OpenLaw}{n:Nat}{q:Program}{loose:List Str}{XP:(Str->Option Value)->Heap->Prop}{YP:World->Heap->Prop}{d:DefRec}
  (hn:l.most=some n) (hdf:d.params.defaults=[])
  (call:∀(w:World) (s₀ s₁:Shared) (mg mb:Str->Option Value) (fa:Addr) (o:Obj) (pm cd doc:Value) (a:Addr) (vs:List Value) (ns:List Int),
   Ground q loose [] XP w s₀ mg mb s₁.heap->YP w s₁.heap ->
   s₁.heap.get? fa=some o->o.data=.func (docDef d.name d.params d.body d.scope pm cd doc)->s₁.heap.CodeRec cd d.name->mg d.name=some (.ref fa) ->
   s₁.heap.get? a=some { cls:=.type "list",data:=.seq vs.toArray }->IntsAre vs ns->ns.length<=n->s₁.gens=#[] ->
   codeAny (model l.prog w) callerA (.call (.ref fa) ⟨[.ref a],[]⟩) (fun r s'=>r=.ok (.ret (.bool true))/\OldK s₁.heap s'.heap/\s'.os=s₁.os/\AllBare s'.gens) s₁) :
  WalkO q loose XP YP l.row.toRowW d [] (fun f vs=>PySem.call f vs):=by
 intro w s₀ s₁ mg mb G Y fa o pm cd doc dV kV ho hd hcd hD hmg hg args vals as hpre hlay hrd hwl hlo
 obtain rfl:dV=.none:=Dflts.none hD hdf
 obtain rfl:kV=.none:=Dflts.noKw hD
 obtain⟨a,vs,ns,rfl,rfl,hobj,hints,hlen⟩:=Zet hn hpre hwl
 refine enter_call (codeAny_mono (call w s₀ s₁ mg mb fa o pm cd doc a vs ns G Y ho (fd_plain hd) hcd hmg hobj hints hlen hg) fun r s' hq=>?_)
 obtain⟨rfl,h2,h3,h4⟩:=hq
 exact⟨.inl ⟨.bool true,.bool true,[],rfl,fun _=>rfl,.bool true,Ze2 l _,fun _=>⟨List.Pairwise.nil,fun _ hm=>(nomatch hm)⟩⟩,h2,h3,h4⟩
section
end
end Att
namespace L2
open PySem PySem.Spec PyProof.Rows
theorem ZaE:∀{vs:List Value}{ns:List Int},IntsAre vs ns->ZE (ns.map V.int) vs
 |_,_,.nil=>.nil
 |_,_,.cons n t h=>.cons ⟨t,rfl⟩ (ZaE h)
def Zkq (H:Hp):Prop:=∀b,H b=none\/∃o xs,H b=some (.frz o (.lst xs))
theorem Zgt {P:Program}{w:World}{K:W.Frag}{mg mb:Str->Option Value}{CX:CXT}{k:Nat}{fa a:Addr}{fd:FuncData}{x:Str}{sp:Sp}{s₁:Shared}{vs:List Value}{ns:List Int}
  (KX:K.In s₁.heap) (hns:s₁.heap.Ns mainGlobals mg) (hb:s₁.heap.Ns builtinsNs mb) (hbb:∀x:Str,x ≠ "__name__"->mb x=bootBuiltins x) (hlim:s₁.heap.NoLimit) (hg:s₁.gens=#[])
  (ha:s₁.heap.get? a=some { cls:=.type "list",data:=.seq vs.toArray }) (hi:IntsAre vs ns) (hl:ns.length<=sizeLine) (hr:Vv k callerA)
  (F:∀base:Heap,K.In base->base.Ns mainGlobals mg->J0 P w K mg base CX k fa fd [x] sp) (hbind:∀(s:Shared) (u:Value),BindsTo s fd ⟨[u],[]⟩ [(x,u)])
  (hsp:∀H:Hp,Zkq H->SqL K H a (ns.map V.int)->sp [.ref a] H (fun v _=>v=.bl true) fun _ _ _=>False)
  (hCX:∀H e s',CX [] H s₁ (fun _ _ _=>False) e s'->False) :
  codeAny (model P w) callerA (.call (.ref fa) ⟨[.ref a],[]⟩) (fun r s'=>r=.ok (.ret (.bool true))/\OldK s₁.heap s'.heap/\s'.os=s₁.os/\AllBare s'.gens) s₁:=by
 have rv:=ZaE hi
 have lenV:=hi.length
 have core:∀H:Hp,Zkq H->SqL K H a (ns.map V.int)->HOk P w H s₁.heap->(∀b,H b≠none->b=a)->(H a≠none->K.lookup a=none) ->
   codeAny (model P w) callerA (.call (.ref fa) ⟨[.ref a],[]⟩) (fun r s'=>r=.ok (.ret (.bool true))/\OldK s₁.heap s'.heap/\s'.os=s₁.os/\AllBare s'.gens) s₁:=by
  intro H hO hS hok hA hK
  have base_of:∀{b:Addr}{o:Obj},s₁.heap.get? b=some o->H b=none->(Zg1 s₁.heap H).get? b=some o:=fun e n=>Zg0 e n
  have noA:∀{b:Addr}{o:Obj}{es:Array DictEntry}{ep:Nat},s₁.heap.get? b=some o->o.data=.dict es ep->H b=none:=fun {b o es ep} e d=>by
   cases q:H b with
   |none=>rfl
   |some u =>
    have e':b=a:=hA b (by rw[q];simp)
    subst e'
    rw[ha] at e;cases e
    have d':Data.seq vs.toArray _=Data.dict es ep:=d
    cases d'
  have nsK:∀{b:Addr}{m:Str->Option Value},s₁.heap.Ns b m->(Zg1 s₁.heap H).Ns b m:=fun {b m} ⟨o,es,ep,e,d,r⟩=>⟨o,es,ep,base_of e (noA e d),d,r⟩
  have hKb:K.In (Zg1 s₁.heap H):=fun b o e=>base_of (KX b o e) (by
   cases q:H b with
   |none=>rfl
   |some u =>
    have e':b=a:=hA b (by rw[q];simp)
    subst e'
    rw[hK (by rw[q];simp)] at e;cases e)
  have hM:Mod K mg (Zg1 s₁.heap H):=⟨hKb,nsK hns,⟨mb,nsK hb,hbb⟩,let ⟨mc,h1,h2⟩:=hlim;⟨mc,nsK h1,h2⟩⟩
  have e0:ZiJ P w K mg (Zg1 s₁.heap H) callerA [] s₁ H:=⟨rfl,hM,fun b o e=>Zii e,Zsu (Zfm _ _),trivial,fun b hb=>absurd (show b∈([]:List Addr) from hb) (by simp),hok,.of_eq hg⟩
  refine codeAny_mono ((F _ hKb (nsK hns)).run callerA [] s₁ H ⟨[.ref a],[]⟩ [.ref a] [.ref a] _ _ hr e0 (hbind s₁ (.ref a)) (.cons rfl .nil) (hsp H hO hS)) fun r s' h=>?_
  cases r with
  |error e=>exact(hCX H e s' h).elim
  |ok fl =>
   cases fl with
   |next=>exact False.elim h
   |brk=>exact False.elim h
   |cont=>exact False.elim h
   |ret u =>
    obtain⟨v,H',os,bare,un,hok',r',q⟩:=h
    have q':v=.bl true:=q
    subst q'
    obtain rfl:u=Value.bool true:=r'
    refine⟨rfl,OldK.of_keep fun b o e=>?_,os,bare⟩
    cases q:H b with
    |none=>exact un.keep b o e q (by intro z;exact absurd (show b∈([]:List Addr) from z) (by simp)) (by simp)
    |some u =>
     rcases hO b with z|⟨ob,xs,z⟩
     ·rw[q] at z;cases z
     ·have z2:=un.frzs b ob _ z
      obtain⟨e1,_⟩:=hok b _ z
      obtain⟨e2,_⟩:=hok' b _ z2
      rw[e] at e1;cases e1
      exact e2
 cases hk:K.lookup a with
 |some o =>
  have e:=KX a o hk
  rw[ha] at e
  cases e
  refine core (fun _=>none) (fun _=>.inl rfl) (.inr ⟨_,vs.toArray,_,hk,rfl,rfl,rfl,by rw[ZqQ,lenV];exact hl,by simpa using rv⟩) (fun b u z=>by have z':(none:Option HO)=some u:=z;cases z') (fun b z=>absurd rfl z) fun z=>absurd rfl z
 |none =>
  refine core (fun b=>if b=a then some (.frz { cls:=.type "list",data:=.seq vs.toArray } (.lst (ns.map V.int))) else none) (fun b=>?_) (.inl (.inr ⟨{ cls:=.type "list",data:=.seq vs.toArray },if_pos rfl⟩)) (fun b u z=>?_) (fun b z=>?_) fun _=>hk
  ·by_cases hb:b=a
   ·exact .inr ⟨_,_,if_pos hb⟩
   ·exact .inl (if_neg hb)
  ·by_cases hb:b=a
   ·have z':=(if_pos hb).symm.trans z
    cases z'
    subst hb
    exact⟨ha,by rw[ZqN];exact hl,vs,_,rv,ha⟩
   ·have z':=(if_neg hb).symm.trans z
    cases z'
  ·by_cases hb:b=a
   ·exact hb
   ·exact absurd (if_neg hb) z
noncomputable abbrev KOf {K:W.Frag}{h:Heap} (_:K.In h):W.Frag:=K
theorem ZhE {l:PySem.W.OpenLaw}{n k:Nat}{q:Program}{loose:List Str}{XP:(Str->Option Value)->Heap->Prop}{YP:World->Heap->Prop}{d:DefRec}{K:Params->W.Frag}{CX:World->CXT}{sp:World->Sp}{x:Str}
  (hn:l.most=some n) (hn2:n<=sizeLine) (hdf:d.params.defaults=[]) (hr:Vv k callerA)
  (hY:∀(w:World) (h:Heap),YP w h->(K w.params).In h)
  (F:∀(w:World) (mg:Str->Option Value) (fa:Addr) (h:Heap),(K w.params).In h->h.Ns mainGlobals mg->mg d.name=some (.ref fa) ->
   ∃fd:FuncData,(∀(s:Shared) (u:Value),BindsTo s fd ⟨[u],[]⟩ [(x,u)]) /\
    ∀base:Heap,(K w.params).In base->base.Ns mainGlobals mg->J0 l.prog w (K w.params) mg base (CX w) k fa fd [x] (sp w))
  (hsp:∀(w:World) (H:Hp) (a:Addr) (ns:List Int),ns.length<=n->Zkq H->SqL (K w.params) H a (ns.map V.int)->sp w [.ref a] H (fun v _=>v=.bl true) fun _ _ _=>False)
  (hCX:∀(w:World) (H:Hp) (s:Shared) (e:Value) (s':Shared),CX w [] H s (fun _ _ _=>False) e s'->False) :
  PySem.W.WalkO q loose XP YP l.row.toRowW d [] (fun f vs=>PySem.call f vs):=by
 refine Att.Zch hn hdf fun w s₀ s₁ mg mb fa o pm cd doc a vs ns G Y ho hd hcd hmg hobj hints hlen hg=>?_
 have KX:=hY w _ Y
 obtain⟨fd,hb,hF⟩:=F w mg fa _ KX G.T.g hmg
 exact Zgt KX G.T.g G.T.b G.T.builtins G.T.nolimit hg hobj hints (Zrq hlen hn2) hr hF hb (fun H hO hS=>hsp w H a ns hlen hO hS) fun H e s'=>hCX w H s₁ e s'
theorem ZfP {l:PySem.W.OpenLaw}{n k:Nat}{q:Program}{loose:List Str}{XP:(Str->Option Value)->Heap->Prop}{YP:World->Heap->Prop}{d:DefRec}{K:Params->W.Frag}{CX:CXT}{sp:W.Frag->Sp}{x:Str}
  (hn:l.most=some n) (hn2:n<=sizeLine) (hdf:d.params.defaults=[]) (hr:Vv k callerA)
  (hY:∀(w:World) (h:Heap),YP w h->(K w.params).In h)
  (F:∀(w:World) (mg:Str->Option Value) (fa:Addr) (h:Heap),(K w.params).In h->h.Ns mainGlobals mg->mg d.name=some (.ref fa) ->
   ∃fd:FuncData,(∀(s:Shared) (u:Value),BindsTo s fd ⟨[u],[]⟩ [(x,u)]) /\
    ∀base:Heap,(K w.params).In base->base.Ns mainGlobals mg->J0 l.prog w (K w.params) mg base CX k fa fd [x] (sp (K w.params)))
  (hsp:∀(K:PySem.W.Frag) (H:Hp) (a:Addr) (ns:List Int),ns.length<=n->Zkq H->SqL K H a (ns.map V.int)->sp K [.ref a] H (fun v _=>v=.bl true) fun _ _ _=>False)
  (hCX:∀(H:Hp) (s:Shared) (e:Value) (s':Shared),CX [] H s (fun _ _ _=>False) e s'->False) :
  PySem.W.WalkO q loose XP YP l.row.toRowW d [] (fun f vs=>PySem.call f vs):=
 ZhE (K:=K) (CX:=fun _=>CX) (sp:=fun w=>sp (K w.params)) hn hn2 hdf hr hY F (fun w H a ns h1 h2 h3=>hsp (K w.params) H a ns h1 h2 h3) fun _ H s e s'=>hCX H s e s'
noncomputable def V4 (s:Stmt) (j:Nat):Stmt:=match s with
 |.ClassDef _ _ _ body _ _ _ _ _ _ _=>body.getD j (.Pass ⟨0,0,0,0⟩)
 |_=>.Pass ⟨0,0,0,0⟩
noncomputable def Zs (s:Stmt):Arguments:=match s with
 |.FunctionDef _ a _ _ _ _ _ _ _ _=>a
 |_=>{ posonlyargs:=[],args:=[],vararg:=none,kwonlyargs:=[],kw_defaults:=[],kwarg:=none,defaults:=[] }
noncomputable def Zq (s:Stmt):List Stmt:=match s with
 |.FunctionDef _ _ b _ _ _ _ _ _ _=>b
 |_=>[]
noncomputable def Ze (s:Stmt):Scope:=match s with
 |.FunctionDef _ _ _ _ _ _ sc _ _ _=>sc
 |_=>{ kind:=.function,names:=[],isGenerator:=false,isCoroutine:=false }
noncomputable abbrev CX0:CXT:=fun _ _ _ _ _ _=>False
noncomputable abbrev E0:XK:=fun _ _ _=>False
theorem Ze8 {X:Cx}:Zby CX0 X E0:=fun _ _ _ _ _ _ _ h=>h.elim
structure Fun (K:PySem.W.Frag) (x qual:Str) (st:Stmt) (f:Addr) (fd:FuncData):Prop where
 ex:∃(oc:Value) (od:Option Addr) (kV doc pm:Value) (an:Option Addr) (cdv ct:Value) (osl:Array (Option Value)),
  fd=PySem.W.fnOf x qual (Zs st) (Zq st) (Ze st) .none kV doc pm an cdv ct/\K.lookup f=some ⟨oc,od,.func fd,osl⟩/\PySem.W.codeIn K cdv qual=true
 kp:PySem.W.keepIn K (.ref f)=true
section
variable {P:Program}{w:World}{K:W.Frag}{mg:Str->Option Value}{base:Heap}
theorem Fun.ok {x qual:Str}{st:Stmt}{f:Addr}{fd:FuncData}{N ps:List Str}{k:Nat}{sp:Sp} (F:Fun K x qual st f fd) (S:Zx N ps (Ze st)) (len:∀vs H Q E,sp vs H Q E->vs.length=ps.length)
  (hbody:∀(cdv:Value) (A:Around) (outer:List Env) (s:Shared) (H:Hp) (vs:List V) (Q:VK) (E:XK),Vv k (A.deeper (envOfC qual (Ze st) s.heap.objs.size f cdv))->sp vs H Q E ->
   ∃t,PSs (Zbo CX0 P w K mg base N qual (Ze st) f cdv A outer s H E).nox (Zq st) t/\t { nx:=fun _ H'=>Q .non H',rt:=Q } (V9 N vs) H):J0 P w K mg base CX0 (k+1) f fd ps sp:=by
 obtain⟨oc,od,kV,doc,pm,an,cdv,ct,osl,rfl,lk,hcd⟩:=F.ex
 refine ZjR lk hcd S len fun A outer s H vs Q E hr hsp=>?_
 obtain⟨t,h,q⟩:=hbody cdv A outer s H vs Q E hr hsp
 exact⟨t,h.nox,q⟩
theorem Fun.binds {x qual:Str}{st:Stmt}{f:Addr}{fd:FuncData}{ps:List Str} (F:Fun K x qual st f fd)
  (h:∀(kV doc pm:Value) (an:Option Addr) (cdv ct:Value) (us:List Value),us.length=ps.length->bindArgs (PySem.W.fnOf x qual (Zs st) (Zq st) (Ze st) .none kV doc pm an cdv ct) ⟨us,[]⟩=pure (ps.zip us)):Q8 K fd ps []:=by
 obtain⟨oc,od,kV,doc,pm,an,cdv,ct,osl,rfl,lk,hcd⟩:=F.ex
 exact .all (h kV doc pm an cdv ct)
theorem ZL {x qual:Str}{st:Stmt}{f:Addr}{oc:Value}{od an:Option Addr}{osl:Array (Option Value)}{kV doc pm cdv ct:Value} (l:K.lookup f=some ⟨oc,od,.func (PySem.W.fnOf x qual (Zs st) (Zq st) (Ze st) .none kV doc pm an cdv ct),osl⟩)
  (c:PySem.W.codeIn K cdv qual=true) (k:PySem.W.keepIn K (.ref f)=true):Fun K x qual st f (PySem.W.fnOf x qual (Zs st) (Zq st) (Ze st) .none kV doc pm an cdv ct):=⟨⟨oc,od,kV,doc,pm,an,cdv,ct,osl,rfl,l,c⟩,k⟩
variable {X:Cx}
theorem pv (i:Nat) {x:Str}{pos:Pos} (hN:X.N[i]?=some x:=by rfl) (hv:Vis X.env.scope x:=by first|exact Or.inl rfl|exact Or.inr (Or.inl rfl)|exact Or.inr (Or.inr rfl)) (hd:(x==("__debug__":Str))=false:=by decide)
  (hcd:(x==("__classdict__":Str))=false:=by decide):PE X (.Name x pos) (UP i):=Zjw hN hv hd hcd
end
def Zy (H H':Hp):Prop:=∀b o,H b=some o->H' b=some o
theorem Zy.refl (H:Hp):Zy H H:=fun _ _ h=>h
theorem Zy.trans {H H1 H2:Hp} (a:Zy H H1) (b:Zy H1 H2):Zy H H2:=fun c o h=>b c o (a c o h)
theorem Zy.free {H H':Hp} (e:Zy H H') {l:Addr} (h:H' l=Option.none):H l=Option.none:=by
 cases q:H l with
 |none=>rfl
 |some o =>
  rw[e l o q] at h
  cases h
end L2
set_option maxHeartbeats 4000000
namespace L2
open PySem PySem.Spec PyProof.Rows
noncomputable def ZfM (scope:Scope) (env:Env):List (Str×Addr):=
 ((scope.names.filter fun p=>p.2==.free).reverse).map fun p=>(p.1,(env.cells.lookup p.1).getD 0)
theorem VG {β:Type}:∀{l:List (Str×β)}{a:Str}{b:β},(a,b)∈l->∃c,l.lookup a=some c
 |[],_,_,h=>absurd h (by simp)
 |(n,v)::r,a,b,h=>by
  cases e:a==n with
  |true=>exact⟨v,by simp[Zrv,e]⟩
  |false =>
   rcases ZqS.mp h with z|z
   ·cases z;simp at e
   ·obtain⟨c,hc⟩:=VG z
    exact⟨c,by simp[Zrv,e,hc]⟩
theorem Jb {env:Env}:∀{names:List (Str×NameKind)}{y:Str}{k:NameKind},(∀p∈names,p.2≠.cell) ->
  (names.map fun(n,k)=>if (k==NameKind.free&&env.scope.kind==.function&&env.kindOf n==some .cell) then (n,NameKind.cell) else (n,k)).lookup y=some k ->
  (k=.local->names.lookup y=some .local)/\(k=.cell\/k=.free->names.lookup y=some .free)
 |[],_,_,_,h=>by simp at h
 |(n,k0)::r,y,k,nc,h=>by
  have ih:=@Jb env r y k (fun p hp=>nc p (Zrj _ hp))
  have nc0:=nc (n,k0) ZrE
  have h':ZrU y ((if (k0==NameKind.free&&env.scope.kind==.function&&env.kindOf n==some .cell)=true then (n,NameKind.cell) else (n,k0))::(r.map fun(n,k)=>if (k==NameKind.free&&env.scope.kind==.function&&env.kindOf n==some .cell) then (n,NameKind.cell) else (n,k)))=some k:=h
  cases hx:y==n with
  |true =>
   by_cases hc:(k0==NameKind.free&&env.scope.kind==.function&&env.kindOf n==some .cell)=true
   ·rw[if_pos hc] at h'
    simp only[Zrv,hx] at h'
    have hk:NameKind.cell=k:=Option.some.inj h'
    subst hk
    have hf:k0=.free:=by
     simp only[Bool.and_eq_true] at hc
     exact beq_iff_eq.mp hc.1.1
    subst hf
    exact⟨(fun z=>nomatch z),fun _=>by simp[Zrv,hx]⟩
   ·rw[if_neg hc] at h'
    simp only[Zrv,hx] at h'
    have hk:k0=k:=Option.some.inj h'
    subst hk
    refine⟨fun z=>by subst z;simp[Zrv,hx],fun z=>?_⟩
    rcases z with z|z
    ·exact absurd z nc0
    ·subst z;simp[Zrv,hx]
  |false =>
   by_cases hc:(k0==NameKind.free&&env.scope.kind==.function&&env.kindOf n==some .cell)=true
   ·rw[if_pos hc] at h'
    simp only[Zrv,hx] at h'
    have:=ih h'
    simpa[Zrv,hx] using this
   ·rw[if_neg hc] at h'
    simp only[Zrv,hx] at h'
    have:=ih h'
    simpa[Zrv,hx] using this
noncomputable def blk (X:Cx) (scope:Scope) (x:Str) (C:Addr) (ex:List Addr) (s₂:Shared) (H₂:Hp):Cx:=
 { X with N:=X.N++[x],s₀:=s₂,H₀:=H₂,env:=compEnvC scope (ZfM scope X.env) C X.env,outer:=X.stack,ex:=ex,fn:=fun _=>false,pn:=[],xe:=fun _ _=>False }
noncomputable def Za4 (N:List Str) (sc scope:Scope) (x:Str):Bool:=
 (scope.names.all fun p=>!(p.2==.cell))&&(scope.kind==.function)&&(scope.names.all fun p=>!(p.2==.local) || scope.names.lookup p.1==some .local)&&(scope.names.lookup x==some .local)
  && (N.all fun y=>!(scope.names.lookup y==some .local))&&(scope.names.all fun p=>!(p.2==.free) || sc.names.lookup p.1==some .cell || sc.names.lookup p.1==some .free)
structure Q7 (N:List Str) (sc scope:Scope) (x:Str):Prop where
 nc:∀p∈scope.names,p.2≠.cell
 kind:scope.kind=.function
 locs:∀p∈scope.names,p.2=.local->scope.names.lookup p.1=some .local
 var:scope.names.lookup x=some .local
 noN:∀y∈N,scope.names.lookup y≠some .local
 fr:∀p∈scope.names,p.2=.free->sc.names.lookup p.1=some .cell\/sc.names.lookup p.1=some .free
theorem Q7.of {N:List Str}{sc scope:Scope}{x:Str} (h:Za4 N sc scope x=true):Q7 N sc scope x:=by
 unfold Za4 at h
 simp only[Bool.and_eq_true,ZrK,Bool.or_eq_true,Bool.not_eq_true',beq_iff_eq,beq_eq_false_iff_ne] at h
 obtain⟨⟨⟨⟨⟨h1,h2⟩,h3⟩,h4⟩,h5⟩,h6⟩:=h
 refine⟨h1,h2,fun p hp e=>?_,h4,h5,fun p hp e=>?_⟩
 ·rcases h3 p hp with z|z
  ·exact absurd e z
  ·exact z
 ·rcases h6 p hp with (z|z)|z
  ·exact absurd e z
  ·exact .inl z
  ·exact .inr z
section
variable {X:Cx}{pins:List (Addr×Obj)}{σ:St}{H:Hp}{s:Shared}
theorem Inv.adopt {D:Addr}{ys:List V}{its:List Value}{n:Nat} (I:Inv X pins σ H s) (hn:H D=none) (h1:X.s₀.heap.objs.size<=D) (hL:D≠X.env.locals) (hc:∀x c,X.env.cells.lookup x=some c->c≠D)
  (hp:∀p∈X.pn++pins,p.1≠D) (ho:s.heap.get? D=some { cls:=.type "list",data:=.seq its.toArray n }) (r:ZE ys its) (hz:ys.length<=sizeLine):Inv X pins σ (upd H D (.lst ys)) s:=by
 refine I.step (h':=s.heap) (g':=s.gens) (d':=s.drawn) (t':=s.toks) (ch:=[D]) (fun b hb=>?_) (fun b o _ _ _ e _=>e) (fun b o _ _ _ e _=>⟨o.slots,e⟩) (fun b o hb _ e=>?_) (fun b o _ e=>⟨o,e⟩)
  (fun b xs e=>?_) (fun b o u e=>?_) (fun b ps e=>⟨#[], ?_⟩) (fun m hm=>hm) (fun b u e=>?_) I.bare
 ·have e:b=D:=by simpa using hb
  subst e
  exact⟨.inr h1,hL,hc,hp⟩
 ·rw[Zp (by simpa using hb)];exact e
 ·rw[Zp (Z0 e hn)];exact e
 ·rw[Zp (Z0 e hn)];exact e
 ·rw[Zp (Z0 e hn),e];simp
 ·by_cases hb:b=D
  ·subst hb
   rw[Zv] at e;cases e
   exact⟨hz,its,n,r,ho⟩
  ·rw[Zp hb] at e
   exact(I.hok b u e).stay (fun c v _ q=>q) (fun c q=>by rw[Zp (Z0 q hn)];exact q) fun c xs q=>by rw[Zp (Z0 q hn)];exact q
variable {s₂:Shared}{H₂:Hp}{scope:Scope}{x:Str}{fp:List Addr}
theorem Jy {sc:Q7 X.N X.env.scope scope x} (ok:X.Ok) {y:Str}{c:Addr} (h:(ZfM scope X.env).lookup y=some c):X.env.cells.lookup y=some c:=by
 have hm:=PySem.mem_of_lookup h
 unfold ZfM at hm
 obtain⟨p,hp,e⟩:=Zr3.mp hm
 have hp':=Zse.mp (List.mem_reverse.mp hp)
 obtain⟨e1,e2⟩:=Prod.mk.inj e
 have hk:=sc.fr p hp'.1 (beq_iff_eq.mp hp'.2)
 obtain⟨c',hc'⟩:=ok.has p.1 hk
 rw[hc'] at e2
 rw[<- e1,hc']
 exact congrArg some e2
theorem Zdy {y:Str} (h:scope.names.lookup y=some .free):∃c,(ZfM scope X.env).lookup y=some c:=by
 have hm:=PySem.mem_of_lookup h
 refine VG (b:=(X.env.cells.lookup y).getD 0) ?_
 unfold ZfM
 exact Zr3.mpr ⟨(y,.free),List.mem_reverse.mpr (Zse.mpr ⟨hm,rfl⟩),rfl⟩
theorem Zkf (I:Inv X pins σ H₂ s₂) (sc:Q7 X.N X.env.scope scope x) {C:Addr} (hC:s₂.heap.objs.size<=C) (ff:∀b∈fp,ZgS X pins H₂ b) (fo:∀b∈fp,∃o,s₂.heap.get? b=some o):(blk X scope x C fp s₂ H₂).Ok where
 mod:=I.ok.mod
 kind:=sc.kind
 glob:=I.ok.glob
 blt:=I.ok.blt
 above:=hC
 inj:=fun y z c h1 h2=>I.ok.inj y z c (Jy (sc:=sc) I.ok h1) (Jy (sc:=sc) I.ok h2)
 has:=fun y hy=>by
  have hy':(relabel scope X.env).names.lookup y=some .cell\/(relabel scope X.env).names.lookup y=some .free:=hy
  have hf:scope.names.lookup y=some .free:=by
   rcases hy' with z|z
   ·exact(Jb sc.nc z).2 (.inl rfl)
   ·exact(Jb sc.nc z).2 (.inr rfl)
  exact Zdy hf
 cab:=fun y c h=>by cases h
 hd:=I.ok.hd
 frames:=I.ok.frames
 stk:=.inl rfl
 exf:=fun b hb=>by
  obtain⟨f0,f1,f2,f3,f4,f5⟩:=ff b hb
  obtain⟨o,ho⟩:=fo b hb
  exact⟨Zrk (ZqU (Heap.lt_size ho) hC),fun y c h=>f4 y c (Jy (sc:=sc) I.ok h)⟩
 bs:=I.bs
 bsz:=Zrq I.ok.bsz I.sz
 noex:=fun b o e hb=>by
  obtain⟨f0,f1,f2,f3,f4,f5⟩:=ff b hb
  rcases f3 with z|z
  ·exact I.ok.noex b o e z
  ·exact absurd (ZqU (Heap.lt_size e) (Zrq I.ok.bsz z)) (ZrA _)
 exfs:=fun b hb z=>by
  obtain⟨f0,f1,f2,f3,f4,f5⟩:=ff b hb
  rcases ZqS.mp (I.stkSub b z) with e|e
  ·exact f1 e
  ·exact f2 e
 funs:=I.stack
 frf:=I.stkFree
end
def Zhc (σ:St) (te:TE) (J:It) (H1:Hp) (Q:VK):Prop:=∃W:Nat->Nat->List V->Hp->Prop,(∃m,W 0 m [] H1)/\∀i m ys H2,W i m ys H2->ys.length<=sizeLine /\
 ((J.stop i H2/\∀p,H2 p=none->Q (.ref p) (upd H2 p (.lst ys))) \/
  (J.go i H2/\∃N:List V->Hp->Prop,(∀ys' H',N ys' H'->∃m',m'<m/\W (i+1) m' ys' H')/\∀x H3,J.yld i H2 x H3->te (σ++[some x]) H3 fun y H4=>N (ys++[y]) H4))
noncomputable def ZfU (wi:TI) (te:TE):TE:=fun σ H Q=>wi σ H fun J H1=>Zhc σ te J H1 Q
section
variable {X:Cx}{pins:List (Addr×Obj)}{σ:St}{s₂:Shared}{H₂:Hp}{scope:Scope}{x:Str}{px:Pos}{elt iter:Expr}{pos:Pos}{te:TE}{J:It}{fp:List Addr}{it:Addr}{tn:Nat->Heap->Prop}
theorem Zdx {E:Value->Shared->Prop}{Q:VK}{RR:Value->Addr->Result->Shared->Prop} (I:Inv X pins σ H₂ s₂) (sc:Q7 X.N X.env.scope scope x) (hNd:X.N.Nodup) (hc:X.calm=true)
  (T:Zko X.prog X.w X.K (.Name x px) J fp it tn) (st:tn 0 s₂.heap) (ff:∀b∈fp,ZgS X pins H₂ b) (hw:Zhc σ te J H₂ Q)
  (he:∀C s₂ H₂ ex,PE (blk X scope x C ex s₂ H₂) elt te)
  (hRR:∀D C s' H' m',s₂.heap.objs.size<=C->Inv X pins σ H' s'->s'.heap.Ns C m'->H' C=none->Q (.ref D) H'->RR (.ref D) C (.ok .next) s') :
  wpAny (model X.prog X.w) X.A (newList []) (fun acc s₃=>wpAny (model X.prog X.w) X.A (newFunctionEnv scope X.env.globals (ZfM scope X.env) [] X.env.qual none .none (some X.env)) (fun cenv s₄ =>
   codeAny (model X.prog X.w) X.A (.compStart (.ListComp elt [⟨.Name x px,iter,[],0⟩] scope pos) 0 (.ref it) acc { cenv with scope:=relabel scope X.env }) (RR acc cenv.locals) s₄) E s₃) E s₂:=by
 refine wpAny_newObj_type (wpAny_newFunctionEnv sc.nc (by intro y hy;simp at hy) (fun h₁ hns₁ hsb₁=>?_) sc.kind)
 dsimp only at hns₁ hsb₁ ⊢
 generalize hP2:s₂.heap.push { cls:=.type "list",dict:=none,data:=.seq ([]:List Value).toArray }=P2 at hns₁ hsb₁ ⊢
 have hCs:P2.objs.size=s₂.heap.objs.size+1:=by rw[<- hP2,Heap.size_push]
 have hCle:s₂.heap.objs.size<=P2.objs.size:=by rw[hCs];exact Zsq _
 have hDC:s₂.heap.objs.size≠P2.objs.size:=by rw[hCs];exact Zrk (ZrD _)
 generalize hCe:P2.objs.size=C at hns₁ hsb₁ hCs hCle hDC ⊢
 generalize hDe:s₂.heap.objs.size=D at hCs hCle hDC ⊢
 have fo:∀b∈fp,∃o,s₂.heap.get? b=some o:=fun b hb=>let ⟨o,e,_⟩:=T.obj _ _ st b hb;⟨o,e⟩
 have flt:∀b∈fp,b<D:=fun b hb=>by obtain⟨o,e⟩:=fo b hb;rw[<- hDe];exact Heap.lt_size e
 have old:∀b o,s₂.heap.get? b=some o->h₁.get? b=some o:=fun b o e=>by
  have hb:=Heap.lt_size e
  exact hsb₁.extBut b o (Zrk (by rw[hCs];exact Nat.lt_succ_of_lt (hDe▸hb))) (Heap.get?_push_of_some _ (hP2▸Heap.get?_push_of_some _ e))
 have hacc:h₁.get? D=some { cls:=.type "list",data:=.seq ([]:List Value).toArray 0 }:=hsb₁.extBut _ _ hDC (Heap.get?_push_of_some _ (hP2▸hDe▸Heap.get?_push_size _ rfl))
 have okB:=Zkf (x:=x) (C:=C) I sc (by rw[hDe];exact hCle) ff fo
 have hfreshD:H₂ D=none:=I.hok.fresh (by rw[hDe];exact ZqJ _)
 have hfreshC:H₂ C=none:=I.hok.fresh (by rw[hDe];exact hCle)
 have hxN:x ∉ X.N:=fun z=>sc.noN x z sc.var
 have ndB:(X.N++[x]).Nodup:=List.nodup_append.mpr ⟨hNd,by simp,fun a ha b hb=>by
  have:b=x:=by simpa using hb
  subst this;rintro rfl;exact hxN ha⟩
 have I0:Inv (blk X scope x C fp s₂ H₂) [(D,{ cls:=.type "list",data:=.seq ([]:List Value).toArray 0 })] (σ++[none]) H₂ { s₂ with heap:=h₁,toks:=s₂.toks+([]:List (Str×Value)).length }:=by
  refine⟨okB,rfl,I.bare,Un.kept old,⟨_,hns₁,fun i y v e1 e2 e3=>?_⟩,fun y c e=>?_,hfreshC,fun y c e=>I.freeC y c (Jy (sc:=sc) I.ok e),fun p hp=>?_,I.hok.kept old,by simp[blk,I.len]⟩
  ·have hi:i<σ.length:=by
    by_cases hi:i<σ.length
    ·exact hi
    ·rw[ZqV (by omega)] at e2
     have:([none]:St)[i-σ.length]?=some (some v):=e2
     cases hj:i-σ.length with
     |zero=>rw[hj] at this;simp at this
     |succ j=>rw[hj] at this;simp at this
   rw[ZqT hi] at e2
   have e1':(X.N++[x])[i]?=some y:=e1
   rw[ZqT (by rw[<- I.len];exact hi)] at e1'
   have yN:y∈X.N:=ZqG e1'
   have e3':(relabel scope X.env).names.lookup y=some .local\/(relabel scope X.env).names.lookup y=some .cell\/(relabel scope X.env).names.lookup y=some .free:=e3
   have hcf:(relabel scope X.env).names.lookup y=some .cell\/(relabel scope X.env).names.lookup y=some .free:=by
    rcases e3' with z|z
    ·exact absurd ((Jb sc.nc z).1 rfl) (sc.noN y yN)
    ·exact z
   have hfree:scope.names.lookup y=some .free:=by
    rcases hcf with z|z
    ·exact(Jb sc.nc z).2 (.inl rfl)
    ·exact(Jb sc.nc z).2 (.inr rfl)
   obtain⟨c,hcl⟩:=Zdy (X:=X) hfree
   have hcx:=Jy (sc:=sc) I.ok hcl
   have hvis:=sc.fr _ (PySem.mem_of_lookup hfree) rfl
   obtain⟨m,hn,hl⟩:=I.loc
   obtain⟨u,ru,hlook⟩:=hl i y v e1' e2 (.inr hvis)
   refine⟨u,ru,.inr ⟨hcf,c,hcl, ?_⟩⟩
   rcases hlook with ⟨k,_⟩|⟨k,c',ec,hcell⟩
   ·have k':X.env.scope.names.lookup y=some .local:=k
    have hv':X.env.scope.names.lookup y=some .cell\/X.env.scope.names.lookup y=some .free:=hvis
    rw[k'] at hv'
    rcases hv' with z|z<;>cases z
   ·rw[hcx] at ec;cases ec
    obtain⟨o,ho,hd⟩:=hcell
    exact⟨o,old _ _ ho,hd⟩
  ·obtain⟨v,o,ho,hd⟩:=I.cell y c (Jy (sc:=sc) I.ok e)
   exact⟨v,o,old _ _ ho,hd⟩
  ·have e:p=(D,{ cls:=.type "list",data:=.seq ([]:List Value).toArray 0 }):=by simpa[blk] using hp
   subst e
   exact⟨hacc,hfreshD,hDC,(fun z=>by
    rcases ZqS.mp (I.stkSub D z) with e|e
    ·exact absurd I.lt (by rw[<- e,hDe];exact ZrA _)
    ·exact I.nofs (by rw[hDe];exact ZqJ _) e),fun v z=>nomatch z⟩
 obtain⟨W,⟨m0,w0⟩,turn⟩:=hw
 have fpB:∀{H':Hp}{o:Obj},(∀b∈fp,H' b=none)->∀b∈fp,ZgS (blk X scope x C fp s₂ H₂) [(D,o)] H' b:=fun {H' o} hn b hb=>by
  obtain⟨f0,f1,f2,f3,f4,f5⟩:=ff b hb
  obtain⟨g1,g2⟩:=okB.exf b hb
  exact⟨hn b hb,g1,okB.exfs b hb,.inl hb,g2,fun p hp=>by
   have e:p=(D,o):=by simpa[blk] using hp
   subst e
   exact(Zrk (flt b hb)).symm⟩
 have hσ:σ.length=X.N.length:=I.len
 have loop:∀s₃:Shared,s₃={ s₂ with heap:=h₁,toks:=s₂.toks+([]:List (Str×Value)).length } ->
   codeAny (model X.prog X.w) X.A (.compLoop (.ListComp elt [⟨.Name x px,iter,[],0⟩] scope pos) 0 (.ref it) (.ref D) (compEnvC scope (ZfM scope X.env) C X.env)) (RR (.ref D) C) s₃:=by
  rintro s₃ rfl
  refine codeAny_compLoop_tests
   (fun n s'=>∃i ys its k σx H',Inv (blk X scope x C fp s₂ H₂) [(D,{ cls:=.type "list",data:=.seq (List.toArray its) k })] (σ++[σx]) H' s'/\tn i s'.heap/\(∀b∈fp,H' b=none)/\ZE ys its/\W i n ys H') ?_ m0
   ⟨0,[],[],0,none,H₂,I0,T.keep _ _ _ st (fun b hb o e=>old b o e),fun b hb=>(ff b hb).1,.nil,w0⟩
  rintro n s' ⟨i,ys,its,k,σx,H',I',st',fr',rv,w'⟩
  obtain⟨hz,hcase⟩:=turn i n ys H' w'
  have hpinD:=I'.pin (D,{ cls:=.type "list",data:=.seq (List.toArray its) k }) (by simp[blk])
  rcases hcase with ⟨stop,q⟩|⟨go,N,hN,step⟩
  ·refine thn (T.done (blk X scope x C fp s₂ H₂) rfl rfl rfl hc i _ s' _ H' _ I' (fpB fr') st' stop) fun r s4 ⟨hr,I4⟩=>?_
   subst hr
   have pD:=I4.pin (D,{ cls:=.type "list",data:=.seq (List.toArray its) k }) (by simp[blk])
   obtain⟨m4,hn4,_⟩:=I4.loc
   have IX:Inv X pins σ H' s4:=I.call' I4.os I4.base I4.hok I4.bare fun b hb=>by
    obtain⟨f0,f1,f2,f3,f4,f5⟩:=ff b hb
    exact⟨f3,f1,f4,f5⟩
   have IX2:=IX.adopt (D:=D) (ys:=ys) (its:=its) (n:=k) hpinD.2.1 (by rw[<- hDe];exact I.sz) (by rw[<- hDe];exact Zsm I.lt)
    (fun y c e z=>by
     obtain⟨v,o,ho,hd⟩:=I.cell y c e
     have:=Heap.lt_size ho
     rw[hDe,z] at this
     exact ZrA _ this)
    (fun p hp z=>by
     have:=Heap.lt_size (I.pin p hp).1
     rw[hDe,z] at this
     exact ZrA _ this) pD.1 rv hz
   refine hRR D C s4 _ m4 (by rw[hDe];exact hCle) IX2 hn4 ?_ (q D hpinD.2.1)
   rw[Zp (Ne.symm hDC)]
   exact I4.free
  ·refine thn (T.item (blk X scope x C fp s₂ H₂) rfl rfl rfl hc i _ s' _ H' _ I' (fpB fr') st' go) fun r s4 ⟨u,hr,h4⟩=>?_
   subst hr
   show wpAny _ _ (letOwnedTupleGo (.Name x px) (.ref it) u >>= fun _=>assign (.Name x px) (compEnvC scope (ZfM scope X.env) C X.env) u) _ _ s4
   refine wpAny_bind (thn h4 fun _ s5 ⟨y,H5,I5,r5,y5,st5,fr5⟩=>?_)
   have I5':=I5.pinned (fpB fr5) (T.obj _ _ st5)
   refine wpAny_assign_Name ?_
   refine U5 (X:=blk X scope x C fp s₂ H₂) (i:=X.N.length) (x:=x) (v:=y) I5' ndB (by simp[blk]) (.inl (lookup_relabel_local sc.var)) r5 (fun s6 I6=>?_) (.inr (lookup_relabel_local sc.var))
   have eσ:(σ++[σx]).set X.N.length (some y)=σ++[some y]:=by
    rw[<- hσ];simp
   rw[eσ] at I6
   refine wpAny_tests_nil ?_
   simp only[if_true]
   refine wpAny_mono (he C s₂ H₂ fp _ s6 _ H5 _ I6 (step y H5 y5)) (fun u7 s7 h7=>?_) fun _ _ f=>f.elim
   obtain⟨v7,H7,I7,r7,n7⟩:=h7
   have pD7:=I7.pin (D,{ cls:=.type "list",data:=.seq (List.toArray its) k }) (by simp[blk])
   have hlen:=rv.length
   refine append_at (hsz:=by show its.toArray.size<=sizeLine;rw[ZqQ,<- hlen];exact hz) pD7.1 fun h8 hs8 hD8=>?_
   obtain⟨m',hm,w8⟩:=hN _ _ n7
   have hD8':h8.get? D=some { cls:=.type "list",data:=.seq (its++[u7]).toArray (k+1) }:=by rw[hD8,List.push_toArray]
   have I8:Inv (blk X scope x C fp s₂ H₂) [] (σ++[some y]) H7 { s7 with heap:=h8 }:=by
    refine(I7.pins_of (pins':=[]) fun p hp=>absurd hp (by simp)).turned (t':=s7.toks) (it:=D) (fun b o hb e=>(hs8.2 b hb).trans e) pD7.2.1 pD7.2.2.1 (.inr (by show s₂.heap.objs.size<=D;rw[hDe];exact ZqJ _)) (fun y' c' e' z=>?_) fun p hp=>absurd (show p∈([]:List (Addr×Obj)) from by simpa[blk] using hp) (by simp)
    obtain⟨v,o,ho,hd⟩:=I.cell y' c' (Jy (sc:=sc) I.ok e')
    have:=Heap.lt_size ho
    rw[hDe,z] at this
    exact ZrA _ this
   refine⟨m',hm,i+1,ys++[v7],its++[u7],k+1,some y,H7,I8.pins_of fun p hp=>?_, ?_,fun b hb=>?_,rv.append (.cons r7 .nil),w8⟩
   ·have e:p=(D,{ cls:=.type "list",data:=.seq (its++[u7]).toArray (k+1) }):=by simpa using hp
    subst e
    exact⟨hD8',pD7.2.1,pD7.2.2.1,pD7.2.2.2.1,fun v z=>nomatch z⟩
   ·refine T.keep _ _ _ st5 fun b hb o e=>?_
    have hpb:=I7.pin (b,o) (ZqO _ (ZqO _ (Vh hb e)))
    exact(hs8.2 b (Zrk (flt b hb))).trans hpb.1
   ·obtain⟨o,e,d⟩:=T.obj _ _ st5 b hb
    exact(I7.pin (b,o) (ZqO _ (ZqO _ (Vh hb e)))).2.1
 exact codeAny_compStart_list (loop _ rfl) (T.self _ 0 _ _ _ (T.keep _ _ _ st fun b hb o e=>old b o e) (loop _ rfl))
theorem ZhY {wi:TI} (hi:PI X (.Name x px) iter wi) (he:∀C s₂ H₂ ex,PE (blk X scope x C ex s₂ H₂) elt te) (hNd:X.N.Nodup) (hc:X.calm=true)
  (hclos:closureFor scope X.env=pure (ZfM scope X.env):=by rfl) (hchk:Za4 X.N X.env.scope scope x=true:=by rfl) (hs:∀x,foldedSetIterable iter X.env x=pure x:=by exact fun _=>rfl) :
  PE X (.ListComp elt [⟨.Name x px,iter,[],0⟩] scope pos) (ZfU wi te):=by
 intro pins s σ H Q I h
 have sc:=Q7.of hchk
 rw[eval_ListComp]
 refine wpAny_comprehension_free (use:=none) rfl hs hclos sc.kind sc.locs (thn (hi pins s σ H _ I h) fun xv s₁ h₁=>thn h₁ fun itv s₂ h₂=>?_)
 obtain⟨it,fp,tn,J,H2,e,I2,T,st2,f2,q⟩:=h₂
 subst e
 refine Zdx (RR:=fun acc C=>compPost (model X.prog X.w) X.A X.xe none (EP X pins σ Q) acc C) I2 sc hNd hc T st2 f2 q he ?_
 intro D C s' H' m' hC I' hn hC0 hq
 refine⟨m',hn,fun h'' hs''=>⟨.ref D,H', ?_,rfl,hq⟩⟩
 refine I'.turned (t':=s'.toks) (it:=C) (fun b o hb e=>(hs''.2 b hb).trans e) hC0 (Zsm (ZqU I2.lt hC)) (.inr (Zrq I2.sz hC)) (fun y c e z=>?_) fun p hp z=>?_
 ·obtain⟨v,o,ho,hd⟩:=I2.cell y c e
  exact absurd (Heap.lt_size ho) (Nat.not_lt.mpr (by rw[z];exact hC))
 ·exact absurd (Heap.lt_size (I2.pin p hp).1) (Nat.not_lt.mpr (by rw[z];exact hC))
noncomputable def Zcx (i:Nat) (wi:TI) (te:TE):TS:=fun D σ H=>ZfU wi te σ H fun v H'=>D.nx (σ.set i (some v)) H'
theorem QJ {i:Nat}{y:Str}{py spos:Pos}{wi:TI} (hN:X.N.Nodup) (hi:X.N[i]?=some y) (hit:PI X (.Name x px) iter wi) (he:∀C s₂ H₂ ex,PE (blk X scope x C ex s₂ H₂) elt te) (hc:X.calm=true)
  (hsw:swapsWith (.ListComp elt [⟨.Name x px,iter,[],0⟩] scope pos) (some (.Name y py)) spos.line X.env=pure true:=by rfl) (hy:X.env.scope.names.lookup y=some .local:=by rfl)
  (hclos:closureFor scope X.env=pure (ZfM scope X.env):=by rfl) (hchk:Za4 X.N X.env.scope scope x=true:=by rfl) (hs:∀x,foldedSetIterable iter X.env x=pure x:=by exact fun _=>rfl) :
  PS X (.Assign [.Name y py] (.ListComp elt [⟨.Name x px,iter,[],0⟩] scope pos) spos) (Zcx i wi te):=by
 intro pins s σ H D0 I h
 have sc:=Q7.of hchk
 rw[exec_Assign_Name_used _ _ _ _ hsw]
 refine wpAny_bind (wpAny_standAt (wpAny_bind ?_))
 show wpAny _ X.A (do let _ <- comprehension (.ListComp elt [⟨.Name x px,iter,[],0⟩] scope pos) scope X.env _ (newList []) false (eval iter X.env) (some (assign (.Name y py) X.env))) _ _ s
 refine wpAny_bind (wpAny_mono (wpAny_comprehension_free (use:=some (assign (.Name y py) X.env)) (Q:=fun _ s'=>SP X pins D0 .next s') rfl hs hclos sc.kind sc.locs
  (thn (hit pins s σ H _ I h) fun xv s₁ h₁=>thn h₁ fun itv s₂ h₂=>?_)) (fun _ s' hq=>wpAny_pure (wpAny_pure hq)) fun _ _ e=>e)
 obtain⟨it,fp,tn,J,H2,e,I2,T,st2,f2,q⟩:=h₂
 subst e
 refine Zdx (RR:=fun acc C=>compPost (model X.prog X.w) X.A X.xe (some (assign (.Name y py) X.env)) (fun _ s'=>SP X pins D0 .next s') acc C) I2 sc hN hc T st2 f2 q he ?_
 intro D C s' H' m' hC I' hn hC0 hq
 show wpAny _ X.A (assign (.Name y py) X.env (.ref D)) _ _ _
 have cellC:∀y c,X.env.cells.lookup y=some c->c≠C:=fun y c e z=>by
  obtain⟨v,o,ho,hd⟩:=I2.cell y c e
  exact absurd (Heap.lt_size ho) (Nat.not_lt.mpr (by rw[z];exact hC))
 have locC:C≠X.env.locals:=Zsm (ZqU I2.lt hC)
 refine wpAny_assign_Name (ZaJ (i:=i) (v:=.ref D) I' hN hi (.inl hy) rfl (fun s'' I'' ⟨a,hsa,ha⟩=>?_) (.inr hy))
 have hCa:C≠a:=by
  rcases ha with z|z
  ·rw[z];exact locC
  ·exact(cellC _ _ z).symm
 refine⟨m',hn.sameBut hsa hCa,fun h'' hs''=>⟨σ.set i (some (.ref D)),H', ?_,hq⟩⟩
 refine I''.turned (t':=s''.toks) (it:=C) (fun b o hb e=>(hs''.2 b hb).trans e) hC0 locC (.inr (Zrq I2.sz hC)) cellC fun p hp z=>?_
 exact absurd (Heap.lt_size (I2.pin p hp).1) (Nat.not_lt.mpr (by rw[z];exact hC))
end
end L2
namespace HL
open PySem PyProof.Rows
section
open PySem.SeqAt
open PySem.AutoSeq1 (wpAny_loadPart')
open PySem.MeetsSeq PySem.MeetsSeq2 PySem.MeetsSeq3 SeqRoads2
end
section
end
end HL
namespace L2
open PySem PySem.Spec PyProof.Rows
section
variable {X:Cx}
theorem ZgM (hc:X.calm=true):JP X (.builtin "sum") (fun xs H Q=>∃p,∃ns:List Int,xs=[.ref p]/\SqL X.K H p (ns.map V.int)/\Q (.int ns.sum) H):=by
 intro pins s σ H xs us Q I r h
 obtain⟨p,ns,rfl,hq,q⟩:=h
 obtain⟨u,rfl,rx⟩:=Zb5 r
 cases rx
 obtain⟨its,r',pl,hz⟩:=I.list hq
 have hi:IntsAre its ns:=QO r'
 obtain⟨xs,hx⟩:=hi.allInts.items
 have hl':s.heap.IsList p (intItems xs):=hx▸pl.isList
 refine sum_intListG (I.ok.hd hc) hl' fun h' tk t' hk=>?_
 have e1:ns=xs.toList.map (·.1):=by
  rw[<- nums_intItems,<- hx]
  exact(show numsOf its.toArray.toList=ns from hi.numsOf).symm
 have e2:preSum (numAt xs) xs.size=ns.sum:=by
  rw[preSum_eq,Zrm (by simp),e1]
 rw[e2]
 exact⟨.int ns.sum,H,I.kept hk,⟨_,rfl⟩,q⟩
theorem Q5:∀{bs:List Bool}{us:List Value},ZE (bs.map V.bl) us->LSm.BoolsAre us bs
 |[],_,.nil=>.nil
 |b::bs,_,.cons r t=>by
  cases r
  exact .cons b (Q5 t)
theorem ZgN (hc:X.calm=true):JP X (.builtin "all") (fun xs H Q=>∃p,∃bs:List Bool,xs=[.ref p]/\SqL X.K H p (bs.map V.bl)/\Q (.bl (bs.all id)) H):=by
 intro pins s σ H xs us Q I r h
 obtain⟨p,bs,rfl,hq,q⟩:=h
 obtain⟨u,rfl,rx⟩:=Zb5 r
 cases rx
 obtain⟨its,r',pl,hz⟩:=I.list hq
 have hb:=Q5 r'
 have hlt:p<s.heap.objs.size:=by obtain⟨_,e,_⟩:=pl.isList;exact Heap.lt_size e
 refine call_all_walk (wpAny_pyIter_list pl.isList ?_)
 refine⟨s.heap.objs.size,[s.heap.objs.size,p],[s.heap.objs.size],its.toArray.size,_,_,fun i=>(bs[i]?).getD true,rfl,Walks.list (A:=X.A.in1) (I.ok.hd hc) _ p (Zrk hlt) its.toArray,
  ⟨⟨_,Heap.get?_push_size _ rfl,rfl,rfl⟩,pl.isList.push _⟩,fun i v s' Q' E' hP hQ=>?_,fun h' tk hk=>?_⟩
 ·obtain⟨b,e,rfl⟩:=hb.get i v (by simpa using hP)
  dsimp only at hQ
  rw[e,Zsr] at hQ
  exact wpAny_truthy_bool hQ
 ·rw[ZqQ,hb.length,LSm.range_all]
  exact⟨.bl (bs.all id),H,I.kept (LSm.kept_iter hk),rfl,q⟩
end
end L2
namespace HL
open PySem PyProof.Rows
section
end
section
open PySem.SeqAt
open PySem.AutoSeq1 (wpAny_loadPart')
open PySem.MeetsSeq PySem.MeetsSeq2 PySem.MeetsSeq3
end
end HL
namespace HL
open PySem
theorem JU:∀a:List Int,HT.ZY a a=false
 |[]=>rfl
 |x::xs=>by rw[HT.Js,if_pos rfl];exact JU xs
theorem V1:∀{a b c:List Int},HT.ZY a b=true->HT.ZY b c=true->HT.ZY a c=true
 |[],[],_,h,_=>by simp[HT.ZY] at h
 |[],_::_,[],_,h=>by simp[HT.ZY] at h
 |[],_::_,_::_,_,_=>rfl
 |_::_,[],_,h,_=>by simp[HT.ZY] at h
 |_::_,_::_,[],_,h=>by simp[HT.ZY] at h
 |x::xs,y::ys,z::zs,h1,h2=>by
  rw[HT.Js] at h1 h2 ⊢
  by_cases e1:x=y
  ·rw[if_pos e1] at h1
   subst e1
   by_cases e2:x=z
   ·rw[if_pos e2] at h2 ⊢
    exact V1 h1 h2
   ·rw[if_neg e2] at h2 ⊢
    exact h2
  ·rw[if_neg e1] at h1
   have h1':=of_decide_eq_true h1
   by_cases e2:y=z
   ·subst e2
    rw[if_neg e1]
    exact h1
   ·rw[if_neg e2] at h2
    have h2':=of_decide_eq_true h2
    rw[if_neg (by omega)]
    exact decide_eq_true (by omega)
theorem V2:∀{a b:List Int},HT.ZY a b=false->HT.ZY b a=false->a=b
 |[],[],_,_=>rfl
 |[],_::_,h,_=>by simp[HT.ZY] at h
 |_::_,[],_,h=>by simp[HT.ZY] at h
 |x::xs,y::ys,h1,h2=>by
  rw[HT.Js] at h1 h2
  by_cases e:x=y
  ·subst e
   rw[if_pos rfl] at h1 h2
   rw[V2 h1 h2]
  ·rw[if_neg e] at h1
   rw[if_neg (Ne.symm e)] at h2
   have:=of_decide_eq_false h1
   have:=of_decide_eq_false h2
   omega
end HL
namespace L2
open PySem PySem.Spec PyProof.Rows
section
variable {X:Cx}
theorem ZfA (hc:X.calm=true):JP X (.builtin "min") (fun xs H Q=>∃p,∃ns:List Int,xs=[.ref p]/\SqL X.K H p (ns.map V.int)/\0<ns.length/\∀m,m∈ns->(∀a∈ns,m<=a)->Q (.int m) H):=by
 intro pins s σ H xs us Q I r h
 obtain⟨p,ns,rfl,hq,hne,q⟩:=h
 obtain⟨u,rfl,rx⟩:=Zb5 r
 cases rx
 obtain⟨its,r',pl,hz⟩:=I.list hq
 have hi:IntsAre its ns:=QO r'
 obtain⟨zs,e⟩:=hi.allInts.items
 have hns:ns=zs.toList.map (·.1):=by rw[<- hi.numsOf,<- nums_intItems,<- e]
 have hsz:0<zs.size:=by
  have h3:=hne
  rw[hns,ZqN,ZqL] at h3
  exact h3
 have hl:=pl.isList
 rw[e] at hl
 refine min_intList (I.ok.hd hc) hl hsz fun v h' tk hv hk=>?_
 obtain⟨t,rfl⟩:=intItems_at hv
 obtain⟨h1,h2⟩:=argBest_lt (numAt zs) (zs.size-1)
 refine⟨.int _,H,I.kept hk,⟨_,rfl⟩,q _ ?_ fun a ha=>?_⟩
 ·rw[hns,numAt_eq];exact getD_mem (by rw[ZqN,ZqL];omega)
 ·rw[hns] at ha
  obtain⟨j,hj,rfl⟩:=mem_getD ha
  rw[ZqN,ZqL] at hj
  rw[<- numAt_eq];exact h2 j (by omega)
def Zjo (K:W.Frag):List V->Hp->VK->Prop:=fun xs H Q=>∃p,∃ns:List Int,xs=[.ref p]/\SqL K H p (ns.map V.int)/\0<ns.length/\∀m,m∈ns->(∀a∈ns,m<=a)->Q (.int m) H
end
def Dfn (K:W.Frag) (mg:Str->Option Value) (x:Str) (st:Stmt):Prop:=∃f fd,Fun K x x st f fd/\mg x=some (.ref f)
noncomputable abbrev Z3 (x:Str) (st:Stmt) (ps:List Str):Prop:=∀(kV doc pm:Value) (an:Option Addr) (cdv ct:Value) (us:List Value),us.length=ps.length ->
 bindArgs (PySem.W.fnOf x x (Zs st) (Zq st) (Ze st) .none kV doc pm an cdv ct) ⟨us,[]⟩=pure (ps.zip us)
def Ok (P:Program) (w:World) (K:W.Frag) (mg:Str->Option Value) (base:Heap) (k:Nat) (x:Str) (ps:List Str) (sp:Sp):Prop:=
 ∃f fd,J0 P w K mg base CX0 k f fd ps sp/\mg x=some (.ref f)/\PySem.W.keepIn K (.ref f)=true/\Q8 K fd ps []
theorem ZcR {P:Program}{w:World}{K:W.Frag}{mg:Str->Option Value}{base:Heap}{k:Nat}{x:Str}{st:Stmt}{ps:List Str}{sp:Sp} (d:Dfn K mg x st) (b:Z3 x st ps)
  (h:∀{f fd},Fun K x x st f fd->J0 P w K mg base CX0 k f fd ps sp):Ok P w K mg base k x ps sp:=by
 obtain⟨f,fd,F,hm⟩:=d
 exact⟨f,fd,h F,hm,F.kp,F.binds b⟩
section
variable {X:Cx}{k:Nat}{x:Str}{ps:List Str}{sp:Sp}{p pos:Pos}{e:Expr}{es:List Expr}{t:TA}
noncomputable def Vs (sp:Sp) (t:TA):TE:=fun σ H Q=>t σ H fun vs H1=>sp vs H1 Q E0
theorem ZU (G:Ok X.prog X.w X.K X.mg X.base k x ps sp) (hr:Vv k X.A) (hg:Gl X x) (ha:PA X (e::es) t) (hdb:(x==("__debug__":Str))=false:=by decide)
  (he:starEach (e::es) X.env=(false,eval e X.env)::starEach es X.env:=by rfl) (hpl:(backTo pos (starEach es X.env)).any (·.1)=false:=by rfl):PE X (.Call (.Name x p) (e::es) [] pos) (Vs sp t):=by
 obtain⟨f,fd,F,hm,hk,hb⟩:=G
 intro pins s σ H Q I h
 refine ZhZ (CX:=CX0) (E:=E0) (dvs:=[]) F hr hg hm hk hb .nil Ze8 ha hdb he hpl pins s σ H Q I ?_
 have e:(fun vs H1=>sp (vs++[]) H1 Q E0)=fun vs H1=>sp vs H1 Q E0:=by funext vs H1;rw[Zrz]
 show t σ H (fun vs H1=>sp (vs++[]) H1 Q E0)
 rw[e]
 exact h
theorem Ze4 (G:Ok X.prog X.w X.K X.mg X.base k x ps sp) (hr:Vv k X.A) (hg:Gl X x) (hdb:(x==("__debug__":Str))=false:=by decide):PE X (.Call (.Name x p) [] [] pos) (Vs sp ZdW):=by
 obtain⟨f,fd,F,hm,hk,hb⟩:=G
 exact Zgf (CX:=CX0) (E:=E0) (dvs:=[]) F hr hg hm hk hb .nil Ze8 hdb
theorem ZcK {i:Int} (hm:∃t,X.mg x=some (.int i t)) (hg:Gl X x) (hd:(x==("__debug__":Str))=false:=by decide):PE X (.Name x pos) (tC (.int i)):=by
 obtain⟨t,hm⟩:=hm
 exact ZhW (v:=.int i) hg hm ⟨t,rfl⟩ hd
theorem Zg3:Zl2 X (Zjp X.K):=by
 intro pins s σ H o i ov iv Q I ro ri h
 obtain⟨p,xs,i,z,rfl,rfl,hq,he,q⟩:=h
 cases ro
 obtain⟨t,rfl⟩:=ri
 obtain⟨its,r,pl,hz⟩:=I.list hq
 obtain⟨j,h1,h2,h3,h4,h5⟩:=Za8 he
 obtain⟨w,ew,rw'⟩:=r.get h2
 have hl:=r.length
 have hn:=QL
 have fin:EP X pins σ Q w s:=⟨z,H,I,rw',q⟩
 by_cases h0:0<=i
 ·have hj:i.toNat=j:=by
   rw[seqIndex_of h0 h5] at h1
   exact Option.some.inj h1
  exact wpAny_getItem_list pl.isList h0 (by omega) (by rw[hj];simpa using ew) fin
 ·have hj:(i+(its.toArray.size:Int)).toNat=j:=by
   rw[seqIndex_neg (by omega) h4] at h1
   rw[ZqQ,<- hl]
   exact Option.some.inj h1
  exact wpAny_getItem_list_neg pl.isList (by omega) (by rw[ZqQ]<;>omega) (by omega) (by rw[hj];simpa using ew) fin
end
theorem ZfB {X:Cx}:JP X (.builtin "len") (fun xs H Q=>∃p ys,xs=[.ref p]/\(SqL X.K H p ys\/SqT X.K H p ys)/\Q (.int ys.length) H):=Zbr
theorem JG:bootBuiltins "len"=some (.builtin "len"):=by decide +kernel
theorem ZP:bootBuiltins "isinstance"=some (.builtin "isinstance"):=by decide +kernel
theorem Zh5:bootBuiltins "sum"=some (.builtin "sum"):=by decide +kernel
theorem Zkn:bootBuiltins "all"=some (.builtin "all"):=by decide +kernel
theorem Zkm:bootBuiltins "min"=some (.builtin "min"):=by decide +kernel
theorem Ue:bootBuiltins "list"=some (.type "list"):=by decide +kernel
theorem Zke:bootBuiltins "int"=some (.type "int"):=by decide +kernel
theorem Zcf:bootBuiltins "bool"=some (.type "bool"):=by decide +kernel
theorem ZgP:bootBuiltins "tuple"=some (.type "tuple"):=by decide +kernel
section
variable {X:Cx}{K:W.Frag}
theorem Zw (e:X.K=K:=by rfl):IxR X (rIx K):=by subst e;exact ZjJ
theorem ZJ (e:X.K=K:=by rfl):JP X (.builtin "len") (fun xs H Q=>∃p ys,xs=[.ref p]/\(SqL K H p ys\/SqT K H p ys)/\Q (.int ys.length) H):=by subst e;exact ZfB
theorem Zbp (hc:X.calm=true) (e:X.K=K:=by rfl):JP X (.builtin "sum") (fun xs H Q=>∃p,∃ns:List Int,xs=[.ref p]/\SqL K H p (ns.map V.int)/\Q (.int ns.sum) H):=by subst e;exact ZgM hc
theorem ZfC (hc:X.calm=true) (e:X.K=K:=by rfl):JP X (.builtin "all") (fun xs H Q=>∃p,∃bs:List Bool,xs=[.ref p]/\SqL K H p (bs.map V.bl)/\Q (.bl (bs.all id)) H):=by subst e;exact ZgN hc
theorem Vo (e:X.K=K:=by rfl):JP X (.type "list") (fun xs H Q=>∃p ys,xs=[.ref p]/\(SqL K H p ys\/SqT K H p ys)/\∀l,H l=none->Q (.ref l) (upd H l (.lst ys))):=by subst e;exact Zbq
theorem Zc2 (e:X.K=K:=by rfl):SlR X (ZkK K):=by subst e;exact ZhM
theorem Zbj (e:X.K=K:=by rfl):Zl2 X (Zjp K):=by subst e;exact Zg3
theorem Ve {tg l:Expr}{tl:TE} (hl:PE X l tl) (e:X.K=K:=by rfl):PI X tg l (Zgz K tl):=by subst e;exact ZhT hl
variable {u:TS}{H:Hp}{b:TA}
theorem Zdc {n:Nat}{k:Int} (h0:0<=k) (h1:k<n):ixN n k=some k.toNat:=by unfold ixN;rw[if_pos h0,if_pos h1]
theorem Zy.upd {H H':Hp}{p:Addr}{o:HO} (h:Zy H H') (hp:H p=none):Zy H (upd H' p o):=fun b u e=>by
 rw[Zp (Z0 e hp)]
 exact h b u e
theorem Zy.new {H:Hp}{p:Addr}{o:HO} (hp:H p=none):Zy H (L2.upd H p o):=Zy.upd (Zy.refl H) hp
theorem UB {n:Nat} (h:n<=1000):n<=sizeLine:=Zrq h (by decide)
end
inductive Sh where
 |dk (ks:List Key)|dt (ks:List (List Key))|ob (n:Str) (fs:List Str)
  |jk
inductive PV where
 |non|bl (b:Bool)|int (i:Int)|str (x:Str)|lst (xs:List PV)|tup (xs:List PV)
  |exc (n:Str)
  |exa (n:Str) (i:Int)
  |box (p:Option Addr) (s:Sh) (xs:List PV)
  |fz (xs:List PV)
mutual
noncomputable def PV.flat:PV->Bool
 |.lst _=>false
 |.tup xs=>PV.flats xs
 |.non=>true
 |.bl _=>true
 |.int _=>true
 |.str _=>true
 |.exc _=>true
 |.exa _ _=>true
 |.box _ _ _=>false
 |.fz xs=>PV.flats xs
noncomputable def PV.flats:List PV->Bool
 |[]=>true
 |x::xs=>x.flat&&PV.flats xs
end
def KL (K:W.Frag) (a:Addr) (xs:List V):Prop:=
 ∃(o:Obj) (its:Array Value) (n:Nat),K.lookup a=some o/\o.cls=.type "list"/\o.dict=none/\o.data=.seq its n/\its.size<=sizeLine/\ZE xs its.toList
noncomputable def ImO:HO->Prop
 |.tup _=>True
 |.frz _ _=>True
 |.xd _=>True
 |_=>False
def Im (K:W.Frag) (H:Hp) (a:Addr) (u:HO):Prop:=H a=some u/\ImO u
noncomputable def Lvo:HO->Prop
 |.lst _=>True
 |.dK _=>True
 |.dT _=>True
 |.ins _ _ _=>True
 |_=>False
noncomputable abbrev LvO:={ u:HO // Lvo u }
def QW (K:W.Frag) (n:Str) (C:Addr):Prop:=PySem.W.nsIn K mainGlobals n=some (some (.ref C))
def Zkt (K:W.Frag) (H:Hp) (n:Str) (v:V):Prop:=∃a o C,v=.ref a/\Im K H a (.frz o (.own a))/\o.cls=.ref C/\o.dict=none/\PySem.W.notCls o=true/\QW K n C
def Zku (K:W.Frag) (H:Hp) (n:Str) (i:Int) (v:V):Prop:=∃a o C d fs,v=.ref a/\Im K H a (.frz o (.own a))/\Im K H d (.xd fs)/\o.cls=.ref C/\o.dict=some d/\PySem.W.notCls o=true/\QW K n C/\fs=[(("at":Str),V.int i)]
noncomputable def ZiT (K:W.Frag):Sh->List V->HO->Prop
 |.dk ks,vs,u=>ks.length=vs.length/\u=.dK (ks.zip vs)
 |.dt ks,vs,u=>ks.length=vs.length/\u=.dT (ks.zip vs)
 |.ob n fs,vs,u=>fs.length=vs.length/\∃C dx,u=.ins C dx (fs.zip vs)/\QW K n C
 |.jk,vs,u=>vs=[]/\∃ws,u=.lst ws
def Zk6 (p:Option Addr) (a:Addr):Prop:=match p with
 |none=>True
 |some b=>a=b
theorem ZiT.lv {K:W.Frag}{s:Sh}{vs:List V}{u:HO} (h:ZiT K s vs u):Lvo u:=by
 cases s with
 |dk ks=>obtain⟨_,rfl⟩:=h;trivial
 |dt ks=>obtain⟨_,rfl⟩:=h;trivial
 |ob n fs=>obtain⟨_,C,dx,rfl,_⟩:=h;trivial
 |jk=>obtain⟨_,ws,rfl⟩:=h;trivial
theorem UA {u o:HO} (h:Lvo u) (h':ImO o):o≠u:=by
 intro e;subst e
 cases o<;>first|exact h|exact h'
def FzL (K:W.Frag) (H:Hp) (a:Addr) (vs:List V):Prop:=∃o,Im K H a (.frz o (.lst vs))
mutual
noncomputable def Rep (K:W.Frag) (H:Hp) (S:Addr->Prop):PV->V->Prop
 |.non,v=>v=.non
 |.bl b,v=>v=.bl b
 |.int i,v=>v=.int i
 |.str x,v=>v=.str x
 |.exc n,v=>Zkt K H n v
 |.exa n i,v=>Zku K H n i v
 |.box p s xs,v=>∃a vs u,v=.ref a/\(Rd H a u/\S a)/\(Zk6 p a/\ZiT K s vs u)/\Reps K H S xs vs
 |.lst xs,v=>∃a vs,v=.ref a/\((Rd H a (.lst vs)/\S a)\/KL K a vs)/\Reps K H S xs vs
 |.tup xs,v=>∃a vs,v=.ref a/\Im K H a (.tup vs)/\Reps K H S xs vs
 |.fz xs,v=>∃a vs,v=.ref a/\FzL K H a vs/\Reps K H S xs vs
noncomputable def Reps (K:W.Frag) (H:Hp) (S:Addr->Prop):List PV->List V->Prop
 |[],vs=>vs=[]
 |x::xs,vs=>∃v r,vs=v::r/\Rep K H S x v/\Reps K H S xs r
end
mutual
noncomputable def ZT (K:W.Frag) (H:Hp):PV->V->List Addr->Prop
 |.non,v,F=>v=.non/\F=[]
 |.bl b,v,F=>v=.bl b/\F=[]
 |.int i,v,F=>v=.int i/\F=[]
 |.str x,v,F=>v=.str x/\F=[]
 |.exc n,v,F=>Zkt K H n v/\F=[]
 |.exa n i,v,F=>Zku K H n i v/\F=[]
 |.box p s xs,v,F=>∃a vs u G,v=.ref a/\H a=some u/\(Zk6 p a/\ZiT K s vs u)/\Trees K H xs vs G/\a ∉ G/\F=a::G
 |.lst xs,v,F=>∃a vs G,v=.ref a/\H a=some (.lst vs)/\Trees K H xs vs G/\a ∉ G/\F=a::G
 |.tup xs,v,F=>∃a vs,v=.ref a/\Im K H a (.tup vs)/\Trees K H xs vs F
 |.fz xs,v,F=>∃a vs,v=.ref a/\FzL K H a vs/\Trees K H xs vs F
noncomputable def Trees (K:W.Frag) (H:Hp):List PV->List V->List Addr->Prop
 |[],vs,F=>vs=[]/\F=[]
 |x::xs,vs,F=>∃v r G1 G2,vs=v::r/\ZT K H x v G1/\Trees K H xs r G2/\(∀a∈G1,a ∉ G2)/\F=G1++G2
end
section
variable {K:W.Frag}{H H':Hp}{S S':Addr->Prop}
mutual
theorem Rep.mono (h1:∀a u,S a->Rd H a u->Rd H' a u/\S' a) (h2:∀a u,Im K H a u->Im K H' a u):∀{x:PV}{v:V},Rep K H S x v->Rep K H' S' x v
 |.non,_,h=>h
 |.bl _,_,h=>h
 |.int _,_,h=>h
 |.str _,_,h=>h
 |.exc n,_,h=>let ⟨a,o,C,e1,e2,e3⟩:=h;⟨a,o,C,e1,h2 a _ e2,e3⟩
 |.exa n i,_,h=>let ⟨a,o,C,d,fs,e1,e2,e2',e3⟩:=h;⟨a,o,C,d,fs,e1,h2 a _ e2,h2 d _ e2',e3⟩
 |.box p s xs,_,h=>by
  obtain⟨a,vs,u,rfl,⟨n1,n2⟩,hb,hr⟩:=h
  exact⟨a,vs,u,rfl,h1 a u n2 n1,hb,Reps.mono h1 h2 hr⟩
 |.lst xs,_,h=>by
  obtain⟨a,vs,rfl,hn,hr⟩:=h
  refine⟨a,vs,rfl, ?_,Reps.mono h1 h2 hr⟩
  rcases hn with ⟨n1,n2⟩|n
  ·exact .inl (h1 a _ n2 n1)
  ·exact .inr n
 |.tup xs,_,h=>by
  obtain⟨a,vs,rfl,hn,hr⟩:=h
  exact⟨a,vs,rfl,h2 a _ hn,Reps.mono h1 h2 hr⟩
 |.fz xs,_,h=>by
  obtain⟨a,vs,rfl,⟨o,hn⟩,hr⟩:=h
  exact⟨a,vs,rfl,⟨o,h2 a _ hn⟩,Reps.mono h1 h2 hr⟩
theorem Reps.mono (h1:∀a u,S a->Rd H a u->Rd H' a u/\S' a) (h2:∀a u,Im K H a u->Im K H' a u):∀{xs:List PV}{vs:List V},Reps K H S xs vs->Reps K H' S' xs vs
 |[],_,h=>h
 |x::xs,_,h=>by
  obtain⟨v,r,rfl,h3,h4⟩:=h
  exact⟨v,r,rfl,Rep.mono h1 h2 h3,Reps.mono h1 h2 h4⟩
end
mutual
theorem ZT.mono:∀{x:PV}{v:V}{F:List Addr},(∀a∈F,∀o,H a=some o->H' a=some o)->(∀a vs,Im K H a vs->Im K H' a vs)->ZT K H x v F->ZT K H' x v F
 |.non,_,_,_,_,h=>h
 |.bl _,_,_,_,_,h=>h
 |.int _,_,_,_,_,h=>h
 |.str _,_,_,_,_,h=>h
 |.exc n,_,_,_,h2,h=>let ⟨⟨a,o,C,e1,e2,e3⟩,e4⟩:=h;⟨⟨a,o,C,e1,h2 a _ e2,e3⟩,e4⟩
 |.exa n i,_,_,_,h2,h=>let ⟨⟨a,o,C,d,fs,e1,e2,e2',e3⟩,e4⟩:=h;⟨⟨a,o,C,d,fs,e1,h2 a _ e2,h2 d _ e2',e3⟩,e4⟩
 |.box p s xs,_,_,h1,h2,h=>by
  obtain⟨a,vs,u,G,rfl,ha,hb,ht,hn,rfl⟩:=h
  exact⟨a,vs,u,G,rfl,h1 a (by simp) _ ha,hb,Trees.mono (fun b hb o e=>h1 b (by simp[hb]) o e) h2 ht,hn,rfl⟩
 |.lst xs,_,_,h1,h2,h=>by
  obtain⟨a,vs,G,rfl,ha,ht,hn,rfl⟩:=h
  exact⟨a,vs,G,rfl,h1 a (by simp) _ ha,Trees.mono (fun b hb o e=>h1 b (by simp[hb]) o e) h2 ht,hn,rfl⟩
 |.tup xs,_,_,h1,h2,h=>by
  obtain⟨a,vs,rfl,ha,ht⟩:=h
  exact⟨a,vs,rfl,h2 a _ ha,Trees.mono h1 h2 ht⟩
 |.fz xs,_,_,h1,h2,h=>by
  obtain⟨a,vs,rfl,⟨o,ha⟩,ht⟩:=h
  exact⟨a,vs,rfl,⟨o,h2 a _ ha⟩,Trees.mono h1 h2 ht⟩
theorem Trees.mono:∀{xs:List PV}{vs:List V}{F:List Addr},(∀a∈F,∀o,H a=some o->H' a=some o)->(∀a vs,Im K H a vs->Im K H' a vs)->Trees K H xs vs F->Trees K H' xs vs F
 |[],_,_,_,_,h=>h
 |x::xs,_,_,h1,h2,h=>by
  obtain⟨v,r,G1,G2,rfl,h3,h4,hd,rfl⟩:=h
  exact⟨v,r,G1,G2,rfl,ZT.mono (fun b hb o e=>h1 b (by simp[hb]) o e) h2 h3,Trees.mono (fun b hb o e=>h1 b (by simp[hb]) o e) h2 h4,hd,rfl⟩
end
mutual
theorem ZT.rep:∀{x:PV}{v:V}{F:List Addr},(∀a∈F,S a)->ZT K H x v F->Rep K H S x v
 |.non,_,_,_,h=>h.1
 |.bl _,_,_,_,h=>h.1
 |.int _,_,_,_,h=>h.1
 |.str _,_,_,_,h=>h.1
 |.exc _,_,_,_,h=>h.1
 |.exa _ _,_,_,_,h=>h.1
 |.box p s xs,_,_,h1,h=>by
  obtain⟨a,vs,u,G,rfl,ha,hb,ht,hn,rfl⟩:=h
  exact⟨a,vs,u,rfl,⟨.inl ha,h1 a (by simp)⟩,hb,Trees.reps (fun b hb=>h1 b (by simp[hb])) ht⟩
 |.lst xs,_,_,h1,h=>by
  obtain⟨a,vs,G,rfl,ha,ht,hn,rfl⟩:=h
  exact⟨a,vs,rfl,.inl ⟨.inl ha,h1 a (by simp)⟩,Trees.reps (fun b hb=>h1 b (by simp[hb])) ht⟩
 |.tup xs,_,_,h1,h=>by
  obtain⟨a,vs,rfl,ha,ht⟩:=h
  exact⟨a,vs,rfl,ha,Trees.reps h1 ht⟩
 |.fz xs,_,_,h1,h=>by
  obtain⟨a,vs,rfl,ha,ht⟩:=h
  exact⟨a,vs,rfl,ha,Trees.reps h1 ht⟩
theorem Trees.reps:∀{xs:List PV}{vs:List V}{F:List Addr},(∀a∈F,S a)->Trees K H xs vs F->Reps K H S xs vs
 |[],_,_,_,h=>h.1
 |x::xs,_,_,h1,h=>by
  obtain⟨v,r,G1,G2,rfl,h3,h4,hd,rfl⟩:=h
  exact⟨v,r,rfl,ZT.rep (fun b hb=>h1 b (by simp[hb])) h3,Trees.reps (fun b hb=>h1 b (by simp[hb])) h4⟩
end
mutual
theorem ZT.alive:∀{x:PV}{v:V}{F:List Addr},ZT K H x v F->∀a∈F,∃vs:LvO,H a=some vs.1
 |.non,_,_,h=>by rw[h.2];simp
 |.bl _,_,_,h=>by rw[h.2];simp
 |.int _,_,_,h=>by rw[h.2];simp
 |.str _,_,_,h=>by rw[h.2];simp
 |.exc _,_,_,h=>by rw[h.2];simp
 |.exa _ _,_,_,h=>by rw[h.2];simp
 |.box p s xs,_,_,h=>by
  obtain⟨a,vs,u,G,rfl,ha,hb,ht,hn,rfl⟩:=h
  intro b hb'
  rcases ZqS.mp hb' with rfl|hb'
  ·exact⟨⟨u,hb.2.lv⟩,ha⟩
  ·exact Trees.alive ht b hb'
 |.lst xs,_,_,h=>by
  obtain⟨a,vs,G,rfl,ha,ht,hn,rfl⟩:=h
  intro b hb
  rcases ZqS.mp hb with rfl|hb
  ·exact⟨⟨.lst vs,trivial⟩,ha⟩
  ·exact Trees.alive ht b hb
 |.tup xs,_,_,h=>by
  obtain⟨a,vs,rfl,ha,ht⟩:=h
  exact Trees.alive ht
 |.fz xs,_,_,h=>by
  obtain⟨a,vs,rfl,ha,ht⟩:=h
  exact Trees.alive ht
theorem Trees.alive:∀{xs:List PV}{vs:List V}{F:List Addr},Trees K H xs vs F->∀a∈F,∃vs:LvO,H a=some vs.1
 |[],_,_,h=>by rw[h.2];simp
 |x::xs,_,_,h=>by
  obtain⟨v,r,G1,G2,rfl,h3,h4,hd,rfl⟩:=h
  intro b hb
  rcases ZqK.mp hb with hb|hb
  ·exact ZT.alive h3 b hb
  ·exact Trees.alive h4 b hb
end
mutual
theorem Rep.tree:∀{x:PV}{v:V},x.flat=true->Rep K H S x v->ZT K H x v []
 |.non,_,_,h=>⟨h,rfl⟩
 |.bl _,_,_,h=>⟨h,rfl⟩
 |.int _,_,_,h=>⟨h,rfl⟩
 |.str _,_,_,h=>⟨h,rfl⟩
 |.exc _,_,_,h=>⟨h,rfl⟩
 |.exa _ _,_,_,h=>⟨h,rfl⟩
 |.box p s xs,_,f,_=>by simp[PV.flat] at f
 |.lst xs,_,f,_=>by simp[PV.flat] at f
 |.tup xs,_,f,h=>by
  obtain⟨a,vs,rfl,ha,ht⟩:=h
  exact⟨a,vs,rfl,ha,Reps.trees (by simpa[PV.flat] using f) ht⟩
 |.fz xs,_,f,h=>by
  obtain⟨a,vs,rfl,ha,ht⟩:=h
  exact⟨a,vs,rfl,ha,Reps.trees (by simpa[PV.flat] using f) ht⟩
theorem Reps.trees:∀{xs:List PV}{vs:List V},PV.flats xs=true->Reps K H S xs vs->Trees K H xs vs []
 |[],_,_,h=>⟨h,rfl⟩
 |x::xs,_,f,h=>by
  obtain⟨v,r,rfl,h3,h4⟩:=h
  simp only[PV.flats,Bool.and_eq_true] at f
  exact⟨v,r,[],[],rfl,Rep.tree f.1 h3,Reps.trees f.2 h4,by simp,rfl⟩
end
theorem Rep.any (h:Rep K H S x v):Rep K H (fun _=>True) x v:=Rep.mono (fun a vs _ r=>⟨r,trivial⟩) (fun a vs r=>r) h
theorem Reps.any (h:Reps K H S xs vs):Reps K H (fun _=>True) xs vs:=Reps.mono (fun a vs _ r=>⟨r,trivial⟩) (fun a vs r=>r) h
theorem Rep.flatS {x:PV}{v:V} (f:x.flat=true) (h:Rep K H S x v):Rep K H S' x v:=ZT.rep (F:=[]) (by simp) (Rep.tree f h)
theorem Reps.flatS {xs:List PV}{vs:List V} (f:PV.flats xs=true) (h:Reps K H S xs vs):Reps K H S' xs vs:=Trees.reps (F:=[]) (by simp) (Reps.trees f h)
theorem Reps.length:∀{xs:List PV}{vs:List V},Reps K H S xs vs->vs.length=xs.length
 |[],_,h=>by rw[h];rfl
 |x::xs,_,h=>by
  obtain⟨v,r,rfl,h3,h4⟩:=h
  simp[Reps.length h4]
theorem Trees.length {xs:List PV}{vs:List V}{F:List Addr} (h:Trees K H xs vs F):vs.length=xs.length:=(Trees.reps (S:=fun _=>True) (fun _ _=>trivial) h).length
theorem Reps.get:∀{xs:List PV}{vs:List V}{i:Nat}{x:PV},Reps K H S xs vs->xs[i]?=some x->∃v,vs[i]?=some v/\Rep K H S x v
 |[],_,_,_,_,e=>by simp at e
 |y::xs,_,0,x,h,e=>by
  obtain⟨v,r,rfl,h3,h4⟩:=h
  simp at e;subst e
  exact⟨v,rfl,h3⟩
 |y::xs,_,i+1,x,h,e=>by
  obtain⟨v,r,rfl,h3,h4⟩:=h
  obtain⟨w,e1,e2⟩:=Reps.get (i:=i) h4 (by simpa using e)
  exact⟨w,by simpa using e1,e2⟩
theorem Reps.append:∀{xs ys:List PV}{vs ws:List V},Reps K H S xs vs->Reps K H S ys ws->Reps K H S (xs++ys) (vs++ws)
 |[],_,_,_,h,h'=>by rw[h];exact h'
 |x::xs,_,_,_,h,h'=>by
  obtain⟨v,r,rfl,h3,h4⟩:=h
  exact⟨v,r++_,rfl,h3,Reps.append h4 h'⟩
theorem Reps.one {x:PV}{v:V} (h:Rep K H S x v):Reps K H S [x] [v]:=⟨v,[],rfl,h,rfl⟩
theorem Reps.take:∀{xs:List PV}{vs:List V} (n:Nat),Reps K H S xs vs->Reps K H S (xs.take n) (vs.take n)
 |_,_,0,_=>by simp[Reps]
 |[],_,n+1,h=>by rw[h];rfl
 |y::xs,_,n+1,h=>by
  obtain⟨w,r,rfl,h3,h4⟩:=h
  exact⟨w,r.take n,rfl,h3,Reps.take n h4⟩
theorem Reps.drop:∀{xs:List PV}{vs:List V} (n:Nat),Reps K H S xs vs->Reps K H S (xs.drop n) (vs.drop n)
 |_,_,0,h=>h
 |[],_,n+1,h=>by rw[h];rfl
 |y::xs,_,n+1,h=>by
  obtain⟨w,r,rfl,h3,h4⟩:=h
  exact Reps.drop n h4
theorem Trees.append:∀{xs ys:List PV}{vs ws:List V}{F G:List Addr},Trees K H xs vs F->Trees K H ys ws G->(∀a∈F,a ∉ G)->Trees K H (xs++ys) (vs++ws) (F++G)
 |[],_,_,_,_,_,h,h',_=>by rw[h.1,h.2];exact h'
 |x::xs,_,_,_,_,_,h,h',hd=>by
  obtain⟨v,r,G1,G2,rfl,h3,h4,hd',rfl⟩:=h
  refine⟨v,r++_,G1,G2++_,rfl,h3,Trees.append h4 h' (fun a ha=>hd a (by simp[ha])),fun a ha z=>?_,by simp⟩
  rcases ZqK.mp z with z|z
  ·exact hd' a ha z
  ·exact hd a (by simp[ha]) z
theorem Trees.one {x:PV}{v:V}{F:List Addr} (h:ZT K H x v F):Trees K H [x] [v] F:=⟨v,[],F,[],rfl,h,⟨rfl,rfl⟩,by simp,by simp⟩
theorem PV.flats_all:∀{xs:List PV},PV.flats xs=true ↔ ∀x∈xs,x.flat=true
 |[]=>by simp[PV.flats]
 |x::xs=>by simp[PV.flats,PV.flats_all (xs:=xs)]
theorem PV.flats_ints (ns:List Int):PV.flats (ns.map PV.int)=true:=PV.flats_all.mpr (by simp[PV.flat])
theorem PV.flats_append {xs ys:List PV}:PV.flats (xs++ys)=(PV.flats xs&&PV.flats ys):=by
 induction xs with
 |nil=>simp[PV.flats]
 |cons x xs ih=>simp[PV.flats,ih,Bool.and_assoc]
theorem Rd.same (e:Zy H H') (h:Rd H a u):Rd H' a u:=by
 rcases h with h|⟨o,h⟩
 ·exact .inl (e _ _ h)
 ·exact .inr ⟨o,e _ _ h⟩
theorem Zy.im (e:Zy H H') {k:HO} (h:Im K H a k):Im K H' a k:=⟨e _ _ h.1,h.2⟩
theorem Im.sqT {vs:List V} (h:Im K H a (.tup vs)):SqT K H a vs:=.inl (.inl h.1)
theorem Rep.same (e:Zy H H') (h:Rep K H S x v):Rep K H' S x v:=Rep.mono (fun a vs s r=>⟨r.same e,s⟩) (fun a vs r=>e.im r) h
theorem Reps.same (e:Zy H H') (h:Reps K H S xs vs):Reps K H' S xs vs:=Reps.mono (fun a vs s r=>⟨r.same e,s⟩) (fun a vs r=>e.im r) h
theorem ZT.same (e:Zy H H') (h:ZT K H x v F):ZT K H' x v F:=ZT.mono (fun a _ o q=>e a o q) (fun a vs r=>e.im r) h
theorem Trees.same (e:Zy H H') (h:Trees K H xs vs F):Trees K H' xs vs F:=Trees.mono (fun a _ o q=>e a o q) (fun a vs r=>e.im r) h
theorem Im.putL {p:Addr}{us:LvO}{o:HO}{k:HO} (hp:H p=some us.1) (h:Im K H a k):Im K (upd H p o) a k:=
 ⟨by rw[Zp (Zj8 h.1 hp (UA us.2 h.2))];exact h.1,h.2⟩
theorem ZT.putL {p:Addr}{us:LvO}{o:HO} (hp:H p=some us.1) (hS:p ∉ F) (h:ZT K H x v F):ZT K (upd H p o) x v F:=
 ZT.mono (fun a ha o q=>by
  have hne:a≠p:=fun z=>hS (z▸ha)
  rw[Zp hne];exact q) (fun a vs r=>Im.putL hp r) h
theorem Trees.putL {p:Addr}{us:LvO}{o:HO} (hp:H p=some us.1) (hS:p ∉ F) (h:Trees K H xs vs F):Trees K (upd H p o) xs vs F:=
 Trees.mono (fun a ha o q=>by
  have hne:a≠p:=fun z=>hS (z▸ha)
  rw[Zp hne];exact q) (fun a vs r=>Im.putL hp r) h
theorem ZT.put {p:Addr}{us:List V}{o:HO} (hp:H p=some (.lst us)) (hS:p ∉ F) (h:ZT K H x v F):ZT K (upd H p o) x v F:=ZT.putL (us:=⟨.lst us,trivial⟩) hp hS h
theorem Trees.put {p:Addr}{us:List V}{o:HO} (hp:H p=some (.lst us)) (hS:p ∉ F) (h:Trees K H xs vs F):Trees K (upd H p o) xs vs F:=Trees.putL (us:=⟨.lst us,trivial⟩) hp hS h
end
inductive Md|U|P|S|T|O
 deriving DecidableEq
def NO (B:Addr->Prop) (F:Nat->List Addr) (R:List Addr) (a:Addr):Prop:=B a/\a ∉ R/\∀i,a ∉ F i
def Vu (K:W.Frag) (H:Hp) (S:Addr->Prop) (m:Md) (x:PV) (o:Option (Option V)) (G:List Addr):Prop:=match m with
 |.U=>G=[]
 |.P=>G=[]/\∃v,o=some (some v)/\x.flat=true/\Rep K H (fun _=>True) x v
 |.S=>G=[]/\∃v,o=some (some v)/\Rep K H S x v
 |.T=>∃a vs xs,o=some (some (.ref a))/\x=.lst xs/\H a=some (.lst vs)/\Reps K H S xs vs/\G=[a]
 |.O=>∃v,o=some (some v)/\ZT K H x v G
structure Ag (K:PySem.W.Frag) (B:Addr->Prop) (H0 H:Hp) (σ:St) (Γ:List Md) (ρ:List PV) (F:Nat->List Addr) (R:List Addr):Prop where
 same:Zy H0 H
 own:∀a,H0 a=none->B a
 young:∀i,∀a∈F i,H0 a=none
 youngR:∀a∈R,H0 a=none
 live:∀i,∀a∈F i,∃vs:LvO,H a=some vs.1
 liveR:∀a∈R,∃vs:LvO,H a=some vs.1
 disj:∀i j,i≠j->∀a∈F i,a ∉ F j
 disjR:∀i,∀a∈F i,a ∉ R
 lenS:σ.length=Γ.length
 lenR:ρ.length=Γ.length
 slot:∀i,Vu K H (NO B F R) (Γ.getD i .U) (ρ.getD i .non) σ[i]? (F i)
theorem Vu.mono {K:W.Frag}{H H':Hp}{S S':Addr->Prop}{m:Md}{x:PV}{o:Option (Option V)}{G:List Addr} (h:Vu K H S m x o G) (h1:∀a u,S a->Rd H a u->Rd H' a u/\S' a)
  (h2:∀a u,Im K H a u->Im K H' a u) (h3:∀a∈G,∀u,H a=some u->H' a=some u):Vu K H' S' m x o G:=by
 cases m with
 |U=>exact h
 |P =>
  obtain⟨e,v,h4,h5,h6⟩:=h
  exact⟨e,v,h4,h5,ZT.rep (F:=[]) (by simp) (ZT.mono (by simp) h2 (Rep.tree h5 h6))⟩
 |S =>
  obtain⟨e,v,h4,h5⟩:=h
  exact⟨e,v,h4,Rep.mono h1 h2 h5⟩
 |T =>
  obtain⟨a,vs,xs,h4,h5,h6,h7,rfl⟩:=h
  exact⟨a,vs,xs,h4,h5,h3 a (by simp) _ h6,Reps.mono h1 h2 h7,rfl⟩
 |O =>
  obtain⟨v,h4,h5⟩:=h
  exact⟨v,h4,ZT.mono (fun a ha o q=>h3 a ha o q) h2 h5⟩
section
variable {K:W.Frag}{B:Addr->Prop}{H0 H H':Hp}{σ:St}{Γ:List Md}{ρ:List PV}{F:Nat->List Addr}{R R':List Addr}
theorem Ag.grow (A:Ag K B H0 H σ Γ ρ F R) (e:Zy H H'):Ag K B H0 H' σ Γ ρ F R:=
 ⟨A.same.trans e,A.own,A.young,A.youngR,fun i a ha=>let ⟨vs,q⟩:=A.live i a ha;⟨vs,e _ _ q⟩,fun a ha=>let ⟨vs,q⟩:=A.liveR a ha;⟨vs,e _ _ q⟩,A.disj,A.disjR,A.lenS,A.lenR,
  fun i=>(A.slot i).mono (fun a vs s r=>⟨r.same e,s⟩) (fun a vs r=>e.im r) fun a ha vs q=>e _ _ q⟩
theorem Ag.less (A:Ag K B H0 H σ Γ ρ F R) (h:∀a∈R',a∈R):Ag K B H0 H σ Γ ρ F R':=
 ⟨A.same,A.own,A.young,fun a ha=>A.youngR a (h a ha),A.live,fun a ha=>A.liveR a (h a ha),A.disj,fun i a ha z=>A.disjR i a ha (h a z),A.lenS,A.lenR,
  fun i=>(A.slot i).mono (fun a vs s r=>⟨r,s.1,fun z=>s.2.1 (h a z),s.2.2⟩) (fun a vs r=>r) fun a ha vs q=>q⟩
theorem Ag.more {G:List Addr} (A:Ag K B H0 H σ Γ ρ F R) (e:Zy H H') (hf:∀a∈G,H a=none) (hl:∀a∈G,∃vs:LvO,H' a=some vs.1):Ag K B H0 H' σ Γ ρ F (G++R):=by
 refine⟨A.same.trans e,A.own,A.young,fun a ha=>?_,fun i a ha=>let ⟨vs,q⟩:=A.live i a ha;⟨vs,e _ _ q⟩,fun a ha=>?_,A.disj,fun i a ha z=>?_,A.lenS,A.lenR,fun i=>?_⟩
 ·rcases ZqK.mp ha with z|z
  ·exact A.same.free (hf a z)
  ·exact A.youngR a z
 ·rcases ZqK.mp ha with z|z
  ·exact hl a z
  ·obtain⟨vs,q⟩:=A.liveR a z
   exact⟨vs,e _ _ q⟩
 ·rcases ZqK.mp z with z|z
  ·obtain⟨vs,q⟩:=A.live i a ha
   rw[hf a z] at q;cases q
  ·exact A.disjR i a ha z
 ·refine(A.slot i).mono (fun a vs s r=>⟨r.same e,s.1,fun z=>?_,s.2.2⟩) (fun a vs r=>e.im r) fun a ha vs q=>e _ _ q
  rcases ZqK.mp z with z|z
  ·have:=hf a z
   rcases r with r|⟨o,r⟩<;>(rw[this] at r;cases r)
  ·exact s.2.1 z
theorem Ag.fresh (A:Ag K B H0 H σ Γ ρ F R) {p:Addr} (hp:H p=none):p ∉ R/\(∀i,p ∉ F i)/\H0 p=none/\B p:=by
 refine⟨fun z=>?_,fun i z=>?_,A.same.free hp,A.own p (A.same.free hp)⟩
 ·obtain⟨vs,q⟩:=A.liveR p z
  rw[hp] at q;cases q
 ·obtain⟨vs,q⟩:=A.live i p z
  rw[hp] at q;cases q
theorem Ag.new {p:Addr}{xs:List V} (A:Ag K B H0 H σ Γ ρ F R) (hp:H p=none):Ag K B H0 (upd H p (.lst xs)) σ Γ ρ F (p::R):=
 A.more (G:=[p]) (Zy.new hp) (fun a ha=>by rw[Zrg.mp ha];exact hp) fun a ha=>⟨⟨.lst xs,trivial⟩,by rw[Zrg.mp ha,Zv]⟩
theorem Ag.newB {p:Addr}{u:HO} (hu:Lvo u) (A:Ag K B H0 H σ Γ ρ F R) (hp:H p=none):Ag K B H0 (upd H p u) σ Γ ρ F (p::R):=
 A.more (G:=[p]) (Zy.new hp) (fun a ha=>by rw[Zrg.mp ha];exact hp) fun a ha=>⟨⟨u,hu⟩,by rw[Zrg.mp ha,Zv]⟩
theorem Ag.getO {i:Nat} (A:Ag K B H0 H σ Γ ρ F R) (h:Γ[i]?=some .O):∃v,σ[i]?=some (some v)/\ZT K H (ρ.getD i .non) v (F i):=by
 have:=A.slot i
 rw[ZqF,h] at this
 exact this
theorem Ag.getT {i:Nat} (A:Ag K B H0 H σ Γ ρ F R) (h:Γ[i]?=some .T):∃a vs xs,σ[i]?=some (some (.ref a))/\ρ.getD i .non=.lst xs/\H a=some (.lst vs)/\Reps K H (NO B F R) xs vs/\F i=[a]:=by
 have:=A.slot i
 rw[ZqF (l:=Γ),h] at this
 exact this
theorem Ag.getS {i:Nat} (A:Ag K B H0 H σ Γ ρ F R) (h:Γ[i]?=some .S):∃v,σ[i]?=some (some v)/\Rep K H (NO B F R) (ρ.getD i .non) v:=by
 have:=A.slot i
 rw[ZqF (l:=Γ),h] at this
 exact this.2
theorem Ag.getP {i:Nat} (A:Ag K B H0 H σ Γ ρ F R) (h:Γ[i]?=some .P):∃v,σ[i]?=some (some v)/\(ρ.getD i .non).flat=true/\Rep K H (fun _=>True) (ρ.getD i .non) v:=by
 have:=A.slot i
 rw[ZqF (l:=Γ),h] at this
 exact this.2
theorem Ag.getA {i:Nat}{m:Md} (A:Ag K B H0 H σ Γ ρ F R) (h:Γ[i]?=some m) (hm:m≠.U):∃v,σ[i]?=some (some v)/\Rep K H (fun _=>True) (ρ.getD i .non) v:=by
 cases m with
 |U=>exact absurd rfl hm
 |P=>obtain⟨v,h1,h2,h3⟩:=A.getP h;exact⟨v,h1,h3⟩
 |S=>obtain⟨v,h1,h2⟩:=A.getS h;exact⟨v,h1,h2.any⟩
 |T =>
  obtain⟨a,vs,xs,h1,h2,h3,h4,h5⟩:=A.getT h
  exact⟨_,h1,by rw[h2];exact⟨a,vs,rfl,.inl ⟨.inl h3,trivial⟩,h4.any⟩⟩
 |O=>obtain⟨v,h1,h2⟩:=A.getO h;exact⟨v,h1,h2.rep (fun _ _=>trivial)⟩
theorem Ag.lt {i:Nat}{m:Md} (A:Ag K B H0 H σ Γ ρ F R) (h:Γ[i]?=some m):i<Γ.length:=(ZqI.mp h).1
noncomputable def JT (F:Nat->List Addr) (i:Nat) (G:List Addr):Nat->List Addr:=fun j=>if j=i then G else F j
theorem Zo {i:Nat}{G:List Addr}:JT F i G i=G:=if_pos rfl
theorem Zt {i j:Nat}{G:List Addr} (h:j≠i):JT F i G j=F j:=if_neg h
theorem Ag.put {i:Nat}{m:Md}{x:PV}{v:V}{G:List Addr} (A:Ag K B H0 H σ Γ ρ F (G++R)) (hi:i<Γ.length) (hG:∀a∈G,a ∉ R) (hs:Vu K H (NO B (JT F i G) R) m x (some (some v)) G) :
  Ag K B H0 H (σ.set i (some v)) (Γ.set i m) (ρ.set i x) (JT F i G) R:=by
 refine⟨A.same,A.own,fun j a ha=>?_,fun a ha=>A.youngR a (ZqO _ ha),fun j a ha=>?_,fun a ha=>A.liveR a (ZqO _ ha),fun j k hjk a ha z=>?_,fun j a ha z=>?_,by simp[A.lenS],by simp[A.lenR],fun j=>?_⟩
 ·by_cases h:j=i
  ·subst h;rw[Zo] at ha;exact A.youngR a (ZqM _ ha)
  ·rw[Zt h] at ha;exact A.young j a ha
 ·by_cases h:j=i
  ·subst h;rw[Zo] at ha;exact A.liveR a (ZqM _ ha)
  ·rw[Zt h] at ha;exact A.live j a ha
 ·by_cases h:j=i
  ·subst h
   rw[Zo] at ha
   rw[Zt (Ne.symm hjk)] at z
   exact A.disjR k a z (ZqM _ ha)
  ·rw[Zt h] at ha
   by_cases h':k=i
   ·subst h'
    rw[Zo] at z
    exact A.disjR j a ha (ZqM _ z)
   ·rw[Zt h'] at z
    exact A.disj j k hjk a ha z
 ·by_cases h:j=i
  ·subst h;rw[Zo] at ha;exact hG a ha z
  ·rw[Zt h] at ha;exact A.disjR j a ha (ZqO _ z)
 ·by_cases h:j=i
  ·subst h
   rw[Zo,ZqF,ZqF,Zrf hi,Zrf (by rw[A.lenR];exact hi),Zrf (by rw[A.lenS];exact hi)]
   exact hs
  ·rw[Zt h,ZqF,ZqF,ZqZ (Ne.symm h),ZqZ (Ne.symm h),ZqZ (Ne.symm h),<- ZqF,<- ZqF]
   refine(A.slot j).mono (fun a vs s r=>⟨r,s.1,fun z=>s.2.1 (ZqO _ z),fun k z=>?_⟩) (fun a vs r=>r) fun a ha vs q=>q
   by_cases h':k=i
   ·subst h';rw[Zo] at z;exact s.2.1 (ZqM _ z)
   ·rw[Zt h'] at z;exact s.2.2 k z
theorem Ag.turn {i:Nat}{m m':Md}{G:List Addr} (A:Ag K B H0 H σ Γ ρ F R) (h:Γ[i]?=some m) (hG:∀a∈G,a∈F i) (hs:Vu K H (NO B (JT F i []) (G++R)) m' (ρ.getD i .non) σ[i]? []) :
  Ag K B H0 H σ (Γ.set i m') ρ (JT F i []) (G++R):=by
 have hi:=A.lt h
 refine⟨A.same,A.own,fun j a ha=>?_,fun a ha=>?_,fun j a ha=>?_,fun a ha=>?_,fun j k hjk a ha z=>?_,fun j a ha z=>?_,by simp[A.lenS],by simp[A.lenR],fun j=>?_⟩
 ·by_cases h:j=i
  ·subst h;rw[Zo] at ha;simp at ha
  ·rw[Zt h] at ha;exact A.young j a ha
 ·rcases ZqK.mp ha with z|z
  ·exact A.young i a (hG a z)
  ·exact A.youngR a z
 ·by_cases h:j=i
  ·subst h;rw[Zo] at ha;simp at ha
  ·rw[Zt h] at ha;exact A.live j a ha
 ·rcases ZqK.mp ha with z|z
  ·exact A.live i a (hG a z)
  ·exact A.liveR a z
 ·by_cases h:j=i
  ·subst h;rw[Zo] at ha;simp at ha
  ·by_cases h':k=i
   ·subst h';rw[Zo] at z;simp at z
   ·rw[Zt h] at ha;rw[Zt h'] at z;exact A.disj j k hjk a ha z
 ·by_cases h:j=i
  ·subst h;rw[Zo] at ha;simp at ha
  ·rw[Zt h] at ha
   rcases ZqK.mp z with z|z
   ·exact A.disj j i h a ha (hG a z)
   ·exact A.disjR j a ha z
 ·by_cases h:j=i
  ·subst h
   rw[Zo,ZqF (l:=Γ.set _ _),Zrf hi]
   exact hs
  ·rw[Zt h,ZqF (l:=Γ.set _ _),ZqZ (Ne.symm h),<- ZqF]
   refine(A.slot j).mono (fun a vs s r=>⟨r,s.1,fun z=>?_,fun k z=>?_⟩) (fun a vs r=>r) fun a ha vs q=>q
   ·rcases ZqK.mp z with z|z
    ·exact s.2.2 i (hG a z)
    ·exact s.2.1 z
   ·by_cases h':k=i
    ·subst h';rw[Zo] at z;simp at z
    ·rw[Zt h'] at z;exact s.2.2 k z
theorem Ag.noF (A:Ag K B H0 H σ Γ ρ F R) {i:Nat}{a:Addr} (ha:a∈F i):NO B (JT F i []) R a:=⟨A.own a (A.young i a ha),A.disjR i a ha,fun j z=>by
 by_cases h:j=i
 ·subst h;rw[Zo] at z;simp at z
 ·rw[Zt h] at z;exact A.disj j i h a z ha⟩
theorem Ag.freeze {i:Nat}{m:Md} (A:Ag K B H0 H σ Γ ρ F R) (h:Γ[i]?=some m) (hm:m≠.U):Ag K B H0 H σ (Γ.set i .S) ρ (JT F i []) R:=by
 refine A.turn (G:=[]) h (by simp) ?_
 show Vu K H (NO B (JT F i []) R) .S (ρ.getD i .non) σ[i]? []
 have up:∀{a vs},NO B F R a->Rd H a vs->Rd H a vs/\NO B (JT F i []) R a:=fun {a vs} s r=>⟨r,s.1,s.2.1,fun j z=>by
  by_cases h:j=i
  ·subst h;rw[Zo] at z;simp at z
  ·rw[Zt h] at z;exact s.2.2 j z⟩
 cases m with
 |U=>exact absurd rfl hm
 |P=>obtain⟨v,h1,h2,h3⟩:=A.getP h;exact⟨rfl,v,h1,h3.flatS h2⟩
 |S=>obtain⟨v,h1,h2⟩:=A.getS h;exact⟨rfl,v,h1,Rep.mono (fun a vs s r=>up s r) (fun a vs r=>r) h2⟩
 |T =>
  obtain⟨a,vs,xs,h1,h2,h3,h4,h5⟩:=A.getT h
  refine⟨rfl,_,h1, ?_⟩
  rw[h2]
  exact⟨a,vs,rfl,.inl ⟨.inl h3,A.noF (by rw[h5];simp)⟩,Reps.mono (fun a vs s r=>up s r) (fun a vs r=>r) h4⟩
 |O =>
  obtain⟨v,h1,h2⟩:=A.getO h
  exact⟨rfl,v,h1,h2.rep fun a ha=>A.noF ha⟩
theorem Ag.move {i:Nat} (A:Ag K B H0 H σ Γ ρ F R) (h:Γ[i]?=some .O):Ag K B H0 H σ (Γ.set i .U) ρ (JT F i []) (F i++R):=A.turn (G:=F i) h (fun a ha=>ha) rfl
end
noncomputable abbrev PX:=Str×PV
inductive Rr (α:Type) where
 |ok (a:α)|exc (e:PX)|bad
noncomputable def Rr.bind {α β:Type}:Rr α->(α->Rr β)->Rr β
 |.ok a,f=>f a
 |.exc e,_=>.exc e
 |.bad,_=>.bad
def Dn {α:Type} (r:Rr α) (ok:α->Prop) (ex:PX->Prop):Prop:=match r with
 |.ok a=>ok a
 |.exc e=>ex e
 |.bad=>False
theorem Dn.bind {α β:Type}{r:Rr α}{f:α->Rr β}{ok:β->Prop}{ex:PX->Prop} (h:Dn (r.bind f) ok ex):Dn r (fun a=>Dn (f a) ok ex) ex:=by
 cases r with
 |ok a=>exact h
 |exc e=>exact h
 |bad=>exact h
theorem Dn.imp {α:Type}{r:Rr α}{ok ok':α->Prop}{ex ex':PX->Prop} (h:Dn r ok ex) (h1:∀a,r=.ok a->ok a->ok' a) (h2:∀e,ex e->ex' e):Dn r ok' ex':=by
 cases r with
 |ok a=>exact h1 a rfl h
 |exc e=>exact h2 e h
 |bad=>exact h
@[simp] theorem Rr.bind_ok {α β:Type}{a:α}{f:α->Rr β}:(Rr.ok a).bind f=f a:=rfl
@[simp] theorem Rr.bind_exc {α β:Type}{e:PX}{f:α->Rr β}:(Rr.exc e:Rr α).bind f=.exc e:=rfl
@[simp] theorem Rr.bind_bad {α β:Type}{f:α->Rr β}:(Rr.bad:Rr α).bind f=.bad:=rfl
inductive Kd|P|F|T|Z|A|N
def Res (K:W.Frag) (B:Addr->Prop) (H0 H:Hp) (σ:St) (Γ':List Md) (ρ:List PV) (F:Nat->List Addr) (R:List Addr) (k:Kd) (x:PV) (v:V) (H':Hp):Prop:=
 ∃F',(∀i,∀a∈F' i,a∈F i)/\match k with
 |.P=>x.flat=true/\Rep K H' (fun _=>True) x v/\Ag K B H0 H' σ Γ' ρ F' R
 |.F=>∃G,ZT K H' x v G/\(∀a∈G,a ∉ R/\(H a=none\/∃i,a∈F i))/\Ag K B H0 H' σ Γ' ρ F' (G++R)
 |.T=>∃a vs xs,x=.lst xs/\v=.ref a/\H' a=some (.lst vs)/\Reps K H' (NO B F' (a::R)) xs vs/\a ∉ R/\(H a=none\/∃i,a∈F i)/\Ag K B H0 H' σ Γ' ρ F' (a::R)
 |.Z=>Rep K H' (NO B F' R) x v/\Ag K B H0 H' σ Γ' ρ F' R
 |.A=>Rep K H' (fun _=>True) x v/\Ag K B H0 H' σ Γ' ρ F' R
 |.N=>False
def DE (K:W.Frag) (EX:PX->Hp->Prop) (Γ Γ':List Md) (k:Kd) (te:TE) (f:List PV->Rr PV):Prop:=
 ∀(B:Addr->Prop) (H0 H:Hp) (σ:St) (ρ:List PV) (F:Nat->List Addr) (R:List Addr) (Q:VK),Ag K B H0 H σ Γ ρ F R ->
  Dn (f ρ) (fun x=>∀v H',Zy H H'->Res K B H0 H σ Γ' ρ F R k x v H'->Q v H') (fun e=>∀H',Zy H0 H'->EX e H')->te σ H Q
def DT (K:W.Frag) (EX:PX->Hp->Prop) (Γ Γ':List Md) (tt:TT) (f:List PV->Rr Bool):Prop:=
 ∀(B:Addr->Prop) (H0 H:Hp) (σ:St) (ρ:List PV) (F:Nat->List Addr) (R:List Addr) (Q:Bool->Hp->Prop),Ag K B H0 H σ Γ ρ F R ->
  Dn (f ρ) (fun b=>∀H' F',Zy H H'->(∀i,∀a∈F' i,a∈F i)->Ag K B H0 H' σ Γ' ρ F' R->Q b H') (fun e=>∀H',Zy H0 H'->EX e H')->tt σ H Q
section
variable {K:W.Frag}{B:Addr->Prop}{EX:PX->Hp->Prop}{H0 H H':Hp}{σ:St}{Γ Γ' Γ1 Γ2:List Md}{ρ:List PV}{F F':Nat->List Addr}{R:List Addr}{k:Kd}{x:PV}{v:V}{te ta tb:TE}{f fa fb:List PV->Rr PV}
theorem Res.ag (h:Res K B H0 H σ Γ' ρ F R k x v H'):∃F',(∀i,∀a∈F' i,a∈F i)/\Rep K H' (fun _=>True) x v/\Ag K B H0 H' σ Γ' ρ F' R:=by
 obtain⟨F',hF,h⟩:=h
 refine⟨F',hF, ?_⟩
 cases k with
 |P=>exact⟨h.2.1,h.2.2⟩
 |F=>obtain⟨G,h1,h2,h3⟩:=h;exact⟨h1.rep fun _ _=>trivial,h3.less fun a ha=>ZqO _ ha⟩
 |T=>obtain⟨a,vs,xs,rfl,rfl,h1,h2,h3,h4,h5⟩:=h;exact⟨⟨a,vs,rfl,.inl ⟨.inl h1,trivial⟩,h2.any⟩,h5.less fun a ha=>Zrj _ ha⟩
 |Z=>exact⟨h.1.any,h.2⟩
 |A=>exact h
 |N=>exact h.elim
theorem Res.toA (h:Res K B H0 H σ Γ' ρ F R k x v H'):Res K B H0 H σ Γ' ρ F R .A x v H':=let ⟨F',a,b,c⟩:=h.ag;⟨F',a,b,c⟩
theorem Res.PF (h:Res K B H0 H σ Γ' ρ F R .P x v H'):Res K B H0 H σ Γ' ρ F R .F x v H':=by
 obtain⟨F',hF,h1,h2,h3⟩:=h
 exact⟨F',hF,[],h2.tree h1,by simp,h3⟩
theorem Res.FZ (h:Res K B H0 H σ Γ' ρ F R .F x v H'):Res K B H0 H σ Γ' ρ F R .Z x v H':=by
 obtain⟨F',hF,G,h1,h2,h3⟩:=h
 exact⟨F',hF,h1.rep fun a ha=>⟨h3.own a (h3.youngR a (ZqM _ ha)),(h2 a ha).1,fun i z=>h3.disjR i a z (ZqM _ ha)⟩,h3.less fun a ha=>ZqO _ ha⟩
theorem DE.imp {k':Kd} (h:DE K EX Γ Γ' k te f) (hr:∀{B:Addr->Prop}{H0 H H':Hp}{σ:St}{ρ:List PV}{F:Nat->List Addr}{R:List Addr}{x:PV}{v:V},Res K B H0 H σ Γ' ρ F R k x v H'->Res K B H0 H σ Γ' ρ F R k' x v H'):DE K EX Γ Γ' k' te f:=
 fun B H0 H σ ρ F R Q A d=>h B H0 H σ ρ F R Q A (d.imp (fun x _ q v H' s r=>q v H' s (hr r)) fun e q=>q)
theorem DE.toA (h:DE K EX Γ Γ' k te f):DE K EX Γ Γ' .A te f:=h.imp Res.toA
theorem DE.PF (h:DE K EX Γ Γ' .P te f):DE K EX Γ Γ' .F te f:=h.imp Res.PF
theorem DE.FZ (h:DE K EX Γ Γ' .F te f):DE K EX Γ Γ' .Z te f:=h.imp Res.FZ
noncomputable def grd (x:PV):Rr PV:=if x.flat=true then .ok x else .bad
theorem DE.grd (h:DE K EX Γ Γ' .A te f):DE K EX Γ Γ' .P te (fun ρ=>(f ρ).bind grd):=fun B H0 H σ ρ F R Q A d=>by
 refine h B H0 H σ ρ F R Q A (d.bind.imp (fun x _ q v H' s r=>?_) fun e q=>q)
 unfold L2.grd at q
 by_cases hx:x.flat=true
 ·rw[if_pos hx] at q
  obtain⟨F',h1,h2,h3⟩:=r
  exact q v H' s ⟨F',h1,hx,h2,h3⟩
 ·rw[if_neg hx] at q;exact q.elim
theorem Zlh {v:V} (hf:x.flat=true) (hr:∀H,Rep K H (fun _=>True) x v):DE K EX Γ Γ .P (tC v) (fun _=>.ok x):=fun B H0 H σ ρ F R Q A d =>
 d v H (Zy.refl H) ⟨F,fun _ _ h=>h,hf,hr H,A⟩
theorem Zj {i:Int}:DE K EX Γ Γ .P (tC (.int i)) (fun _=>.ok (.int i)):=Zlh rfl fun _=>rfl
theorem ZgJ {b:Bool}:DE K EX Γ Γ .P (tC (.bl b)) (fun _=>.ok (.bl b)):=Zlh rfl fun _=>rfl
theorem Zbn {x:Str}:DE K EX Γ Γ .P (tC (.str x)) (fun _=>.ok (.str x)):=Zlh rfl fun _=>rfl
noncomputable def gv (i:Nat) (ρ:List PV):PV:=ρ.getD i .non
theorem Zc {i:Nat}{m:Md} (h:Γ[i]?=some m) (hm:m≠.U):DE K EX Γ Γ .A (UP i) (fun ρ=>.ok (gv i ρ)):=fun B H0 H σ ρ F R Q A d=>by
 obtain⟨v,h1,h2⟩:=A.getA h hm
 exact⟨v,h1,d v H (Zy.refl H) ⟨F,fun _ _ h=>h,h2,A⟩⟩
theorem Zg {i:Nat} (h:Γ[i]?=some .P):DE K EX Γ Γ .P (UP i) (fun ρ=>.ok (gv i ρ)):=fun B H0 H σ ρ F R Q A d=>by
 obtain⟨v,h1,h2,h3⟩:=A.getP h
 exact⟨v,h1,d v H (Zy.refl H) ⟨F,fun _ _ h=>h,h2,h3,A⟩⟩
theorem Zaz {i:Nat} (h:Γ[i]?=some .S):DE K EX Γ Γ .Z (UP i) (fun ρ=>.ok (gv i ρ)):=fun B H0 H σ ρ F R Q A d=>by
 obtain⟨v,h1,h2⟩:=A.getS h
 exact⟨v,h1,d v H (Zy.refl H) ⟨F,fun _ _ h=>h,h2,A⟩⟩
theorem Zam {i:Nat}{F:Nat->List Addr}:∀j,∀a∈JT F i [] j,a∈F j:=fun j a ha=>by
 by_cases h:j=i
 ·subst h;rw[Zo] at ha;simp at ha
 ·rw[Zt h] at ha;exact ha
theorem Qv {i:Nat} (h:Γ[i]?=some .O):DE K EX Γ (Γ.set i .U) .F (UP i) (fun ρ=>.ok (gv i ρ)):=fun B H0 H σ ρ F R Q A d=>by
 obtain⟨v,h1,h2⟩:=A.getO h
 exact⟨v,h1,d v H (Zy.refl H) ⟨JT F i [],Zam,F i,h2,fun a ha=>⟨A.disjR i a ha,.inr ⟨i,ha⟩⟩,A.move h⟩⟩
def OpP (K:W.Frag) (r:R2) (o:PV->PV->Rr PV):Prop:=∀{H:Hp}{x y:PV}{v w:V}{Q:VK},Rep K H (fun _=>True) x v->Rep K H (fun _=>True) y w ->
 (∃z,o x y=.ok z/\(z.flat=true->∀u,Rep K H (fun _=>True) z u->Q u H))->r v w H Q
theorem Dn.bind2 {α β γ:Type}{r:Rr α}{q:Rr β}{f:α->β->Rr γ}{ok:γ->Prop}{ex:PX->Prop} (h:Dn (r.bind fun a=>q.bind fun b=>f a b) ok ex):Dn r (fun a=>Dn q (fun b=>Dn (f a b) ok ex) ex) ex:=
 h.bind.imp (fun a _ h=>h.bind) fun e h=>h
theorem two {Q:V->V->Hp->Prop}{ok:PV->PV->Prop} (ha:DE K EX Γ Γ1 .A ta fa) (hb:DE K EX Γ1 Γ2 .A tb fb) (A:Ag K B H0 H σ Γ ρ F R)
  (d:Dn (fa ρ) (fun x=>Dn (fb ρ) (fun y=>ok x y) (fun e=>∀H',Zy H0 H'->EX e H')) (fun e=>∀H',Zy H0 H'->EX e H'))
  (hq:∀x y v w H' F',ok x y->Zy H H'->(∀i,∀a∈F' i,a∈F i)->Rep K H' (fun _=>True) x v->Rep K H' (fun _=>True) y w->Ag K B H0 H' σ Γ2 ρ F' R->Q v w H') :
  ta σ H fun v H1=>tb σ H1 fun w H2=>Q v w H2:=by
 refine ha B H0 H σ ρ F R _ A (d.imp (fun x _ d v H1 s1 r1=>?_) fun e q=>q)
 obtain⟨F1,f1,p1,A1⟩:=r1
 refine hb B H0 H1 σ ρ F1 R _ A1 (d.imp (fun y _ q w H2 s2 r2=>?_) fun e q=>q)
 obtain⟨F2,f2,p2,A2⟩:=r2
 exact hq x y v w H2 F2 q (s1.trans s2) (fun i a h=>f1 i a (f2 i a h)) (p1.same s2) p2 A2
theorem ZgE {r:R2}{o:PV->PV->Rr PV} (hr:OpP K r o) (ho:∀x y z,o x y=.ok z->z.flat=true) (hx:∀x y e,o x y≠.exc e) (ha:DE K EX Γ Γ1 .A ta fa) (hb:DE K EX Γ1 Γ2 .A tb fb) :
  DE K EX Γ Γ2 .P (tOp r ta tb) (fun ρ=>(fa ρ).bind fun x=>(fb ρ).bind fun y=>o x y):=fun B H0 H σ ρ F R Q A d=>by
 refine two ha hb A d.bind2 fun x y v w H' F' d s hF p1 p2 A'=>?_
 cases e:o x y with
 |ok z=>rw[e] at d;exact hr p1 p2 ⟨z,e,fun hf u hu=>d u H' s ⟨F',hF,hf,hu,A'⟩⟩
 |exc q=>exact absurd e (hx x y q)
 |bad=>rw[e] at d;exact d.elim
def UnP (K:W.Frag) (r:V->Hp->VK->Prop) (o:PV->Rr PV):Prop:=∀{H:Hp}{x:PV}{v:V}{Q:VK},Rep K H (fun _=>True) x v->(∃z,o x=.ok z/\(z.flat=true->∀u,Rep K H (fun _=>True) z u->Q u H))->r v H Q
theorem Zle {r:V->Hp->VK->Prop}{o:PV->Rr PV} (hr:UnP K r o) (hx:∀x e,o x≠.exc e) (ha:DE K EX Γ Γ1 .A ta fa):DE K EX Γ Γ1 .P (tUn r ta) (fun ρ=>(fa ρ).bind o):=fun B H0 H σ ρ F R Q A d=>by
 refine ha B H0 H σ ρ F R _ A (d.bind.imp (fun x _ d v H1 s1 r1=>?_) fun e q=>q)
 obtain⟨F1,f1,p1,A1⟩:=r1
 cases e:o x with
 |ok z=>rw[e] at d;exact hr p1 ⟨z,e,fun hf u hu=>d u H1 s1 ⟨F1,f1,hf,hu,A1⟩⟩
 |exc q=>exact absurd e (hx x q)
 |bad=>rw[e] at d;exact d.elim
noncomputable def oI (C:Int->Int->Bool) (g:Int->Int->PV) (x y:PV):Rr PV:=match x,y with
 |.int i,.int j=>if C i j=true then .ok (g i j) else .bad
 |_,_=>.bad
theorem ZcU {C:Int->Int->Bool}{g:Int->Int->PV}{i j:Int} (h:C i j=true):oI C g (.int i) (.int j)=.ok (g i j):=if_pos h
theorem ZlY {C:Int->Int->Bool}{D:Int->Int->Prop}{g:Int->Int->PV}{g':Int->Int->V} (hC:∀i j,C i j=true->D i j) (hg:∀H i j,Rep K H (fun _=>True) (g i j) (g' i j)) (hf:∀i j,(g i j).flat=true):OpP K (rI D g') (oI C g):=by
 intro H x y v w Q rx ry ⟨z,e,q⟩
 cases x<;>cases y<;>first|(simp only[oI] at e;cases e;done)|skip
 rename_i i j
 simp only[oI] at e
 by_cases h:C i j=true
 ·rw[if_pos h] at e;cases e
  cases rx;cases ry
  exact⟨i,j,rfl,rfl,hC i j h,q (hf i j) _ (hg H i j)⟩
 ·rw[if_neg h] at e;cases e
theorem ZkX {g:Int->Int->PV}{g':Int->Int->V} (hg:∀H i j,Rep K H (fun _=>True) (g i j) (g' i j)) (hf:∀i j,(g i j).flat=true):OpP K (rI0 g') (oI (fun _ _=>true) g):=by
 intro H x y v w Q rx ry ⟨z,e,q⟩
 cases x<;>cases y<;>first|(simp only[oI] at e;cases e;done)|skip
 rename_i i j
 simp only[oI,if_true] at e
 cases e;cases rx;cases ry
 exact⟨i,j,rfl,rfl,q (hf i j) _ (hg H i j)⟩
theorem ZcT {C:Int->Int->Bool}{g:Int->Int->PV} (x y:PV) (e:PX):oI C g x y≠.exc e:=by
 cases x<;>cases y<;>first|(intro h;simp only[oI] at h;cases h;done)|skip
 intro h
 simp only[oI] at h
 split at h<;>cases h
theorem ZeS {C:Int->Int->Bool}{g:Int->Int->PV} (hf:∀i j,(g i j).flat=true) (x y z:PV) (h:oI C g x y=.ok z):z.flat=true:=by
 cases x<;>cases y<;>first|(simp only[oI] at h;cases h;done)|skip
 simp only[oI] at h
 split at h
 ·cases h;exact hf _ _
 ·cases h
end
mutual
noncomputable def PV.noX:PV->Bool
 |.exc _=>false
 |.exa _ _=>false
 |.box _ _ _=>false
 |.fz xs=>PV.noXs xs
 |.lst xs=>PV.noXs xs
 |.tup xs=>PV.noXs xs
 |.non=>true
 |.bl _=>true
 |.int _=>true
 |.str _=>true
noncomputable def PV.noXs:List PV->Bool
 |[]=>true
 |x::xs=>x.noX&&PV.noXs xs
end
theorem PV.noXs_ints:∀(ns:List Int),PV.noXs (ns.map PV.int)=true
 |[]=>rfl
 |n::ns=>by simp[PV.noXs,PV.noX,PV.noXs_ints ns]
mutual
noncomputable def PV.dat:PV->PyData
 |.non=>.none
 |.bl b=>.bool b
 |.int i=>.int i
 |.str x=>.str x
 |.exc _=>.none
 |.exa _ _=>.none
 |.box _ _ _=>.none
 |.fz xs=>.list (PV.dats xs)
 |.lst xs=>.list (PV.dats xs)
 |.tup xs=>.tuple (PV.dats xs)
noncomputable def PV.dats:List PV->List PyData
 |[]=>[]
 |x::xs=>x.dat::PV.dats xs
end
section
variable {X:Cx}{pins:List (Addr×Obj)}{σ:St}{H:Hp}{s:Shared}{S:Addr->Prop}
theorem JA {K:W.Frag}{a:Addr}{vs:List V} (h:(Rd H a (.lst vs)/\S a)\/KL K a vs):SqL K H a vs:=by
 rcases h with h|h
 ·exact .inl h.1
 ·exact .inr h
mutual
theorem Rep.reads (I:Inv X pins σ H s):∀{x:PV}{v:V}{u:Value},x.noX=true->Rep X.K H S x v->Ja v u->∃as,Reads s.heap u x.dat as
 |.non,_,_,_,h,r=>by cases h;cases r;exact⟨_,.none⟩
 |.bl _,_,_,_,h,r=>by cases h;cases r;exact⟨_,.bool _⟩
 |.int _,_,_,_,h,r=>by cases h;obtain⟨t,rfl⟩:=r;exact⟨_,.int _ _⟩
 |.str _,_,_,_,h,r=>by cases h;obtain⟨t,rfl⟩:=r;exact⟨_,.str _ _⟩
 |.exc _,_,_,z,_,_=>by simp[PV.noX] at z
 |.exa _ _,_,_,z,_,_=>by simp[PV.noX] at z
 |.box _ _ _,_,_,z,_,_=>by simp[PV.noX] at z
 |.fz xs,_,_,z,h,r=>by
  obtain⟨a,vs,rfl,⟨o,hn⟩,hr⟩:=h
  cases r
  obtain⟨its,rv,pl,_⟩:=I.list (JA (S:=fun _=>True) (.inl ⟨.inr ⟨o,hn.1⟩,trivial⟩))
  obtain⟨as,ra⟩:=Reps.reads I (by simpa[PV.noX] using z) hr rv
  obtain⟨o,ho,hc,n,hd⟩:=pl.isList
  exact⟨_,.list ho hc hd (by simpa using ra)⟩
 |.lst xs,_,_,z,h,r=>by
  obtain⟨a,vs,rfl,hn,hr⟩:=h
  cases r
  obtain⟨its,rv,pl,_⟩:=I.list (JA hn)
  obtain⟨as,ra⟩:=Reps.reads I (by simpa[PV.noX] using z) hr rv
  obtain⟨o,ho,hc,n,hd⟩:=pl.isList
  exact⟨_,.list ho hc hd (by simpa using ra)⟩
 |.tup xs,_,_,z,h,r=>by
  obtain⟨a,vs,rfl,hn,hr⟩:=h
  cases r
  obtain⟨its,rv,⟨o,ho,hc,n,hd⟩,_⟩:=I.tuple hn.sqT
  obtain⟨as,ra⟩:=Reps.reads I (by simpa[PV.noX] using z) hr rv
  exact⟨_,.tuple ho hc hd (by simpa using ra)⟩
theorem Reps.reads (I:Inv X pins σ H s):∀{xs:List PV}{vs:List V}{us:List Value},PV.noXs xs=true->Reps X.K H S xs vs->ZE vs us->∃as,ReadsAll s.heap us (PV.dats xs) as
 |[],_,_,_,h,r=>by rw[h] at r;cases r;exact⟨_,.nil⟩
 |x::xs,_,_,z,h,r=>by
  simp only[PV.noXs,Bool.and_eq_true] at z
  obtain⟨v,vs,rfl,h1,h2⟩:=h
  cases r with
  |cons r1 r2 =>
   obtain⟨as,a1⟩:=Rep.reads I z.1 h1 r1
   obtain⟨bs,b1⟩:=Reps.reads I z.2 h2 r2
   exact⟨_,.cons a1 b1⟩
end
noncomputable def okD (x:PV):Bool:=x.noX&&x.dat.canLay0&&decide (x.dat.depth<=64)
noncomputable def ZkN (K:W.Frag) (g:Bool->Bool):R2:=fun x y H Q=>∃p q,Rep K H (fun _=>True) p x/\Rep K H (fun _=>True) q y/\okD p=true/\okD q=true/\Q (.bl (g (PyData.eqv p.dat q.dat))) H
theorem Jo {K:W.Frag} (hu:X.A.units+64<cLine) (e:X.K=K:=by rfl):OpR X (compareOp .Eq) (ZkN K id):=by
 subst e
 intro pins s σ H x y v u Q I rx ry h
 obtain⟨p,q,h1,h2,h3,h4,hq⟩:=h
 simp only[okD,Bool.and_eq_true,decide_eq_true_eq] at h3 h4
 obtain⟨as,ra⟩:=h1.reads I h3.1.1 rx
 obtain⟨bs,rb⟩:=h2.reads I h4.1.1 ry
 exact SeqAt.rcAt_reads ra rb h3.1.2 h4.1.2 (by have:=Zsh p.dat.depth q.dat.depth;omega) _ _ _ _ ⟨.bl (PyData.eqv p.dat q.dat),H,I,rfl,hq⟩
theorem Zj6 {K:W.Frag} (hu:X.A.units+64<cLine) (e:X.K=K:=by rfl):OpR X (compareOp .NotEq) (ZkN K (!·)):=by
 subst e
 intro pins s σ H x y v u Q I rx ry h
 obtain⟨p,q,h1,h2,h3,h4,hq⟩:=h
 simp only[okD,Bool.and_eq_true,decide_eq_true_eq] at h3 h4
 obtain⟨as,ra⟩:=h1.reads I h3.1.1 rx
 obtain⟨bs,rb⟩:=h2.reads I h4.1.1 ry
 exact SeqAt.rcNeAt_reads ra rb h3.1.2 h4.1.2 (by have:=Zsh p.dat.depth q.dat.depth;omega) _ _ _ _ ⟨.bl (!PyData.eqv p.dat q.dat),H,I,rfl,hq⟩
end
noncomputable def ZdE (g:Bool->Bool) (x y:PV):Rr PV:=if (okD x&&okD y)=true then .ok (.bl (g (PyData.eqv x.dat y.dat))) else .bad
def Zcn (i j:Int):Prop:=i.natAbs<2^60000/\j.natAbs<2^60000
def Zco (i j:Int):Prop:=0<j/\j.natAbs<2^9000
noncomputable instance (i j:Int):Decidable (Zcn i j):=by unfold Zcn;infer_instance
noncomputable instance (i j:Int):Decidable (Zco i j):=by unfold Zco;infer_instance
noncomputable instance (i j:Int):Decidable (ZiS i j):=by unfold ZiS;infer_instance
theorem ZfF {i:Int}{n:Nat} (h:i.natAbs<2^n):Builtin.Int.intBits i<=n:=by
 unfold Builtin.Int.intBits
 split
 ·exact Zrt _
 ·rename_i h0
  have:i.natAbs≠0:=by simpa using h0
  exact Nat.succ_le_of_lt ((Nat.log2_lt this).mpr h)
section
variable {X:Cx}
theorem ZeP:OpR X (binaryOp .Mult) (rI Zcn fun i j=>.int (i*j)):=opI fun _ _ _ _ _ _ _ hc q=>mul_int q (PyProof.Rows.mulOk_of_bits (ZfF hc.1) (ZfF hc.2) (by decide))
theorem Jj:OpR X (binaryOp .FloorDiv) (rI Zco fun i j=>.int (i/j)):=opI fun i j _ _ _ _ _ hc q=>by
 refine floordiv_int (by have:=hc.1;omega) ?_ (.inl (PyProof.noPylong_of_log2 ?_))
 ·rw[Int.fdiv_eq_ediv_of_nonneg _ (by have:=hc.1;omega)];exact q
 ·have h0:j.natAbs≠0:=by have:=hc.1;omega
  exact(Nat.log2_lt h0).mpr hc.2
variable {K:W.Frag}{B:Addr->Prop}{EX:PX->Hp->Prop}{H0 H:Hp}{σ:St}{Γ Γ' Γ1 Γ2:List Md}{ρ:List PV}{F:Nat->List Addr}{R:List Addr}{k:Kd}{x:PV}{v:V}{ta tb:TE}{fa fb fc:List PV->Rr PV}
noncomputable abbrev ZkU:PV->PV->Rr PV:=oI (fun _ _=>true) fun i j=>.int (i+j)
noncomputable abbrev ZkR:PV->PV->Rr PV:=oI (fun _ _=>true) fun i j=>.int (i-j)
noncomputable abbrev ZlH:PV->PV->Rr PV:=oI (fun i j=>decide (Zcn i j)) fun i j=>.int (i*j)
noncomputable abbrev Zkz:PV->PV->Rr PV:=oI (fun i j=>decide (Zco i j)) fun i j=>.int (i/j)
noncomputable abbrev ZlI:PV->PV->Rr PV:=oI (fun _ j=>decide (0<j)) fun i j=>.int (i%j)
noncomputable abbrev ZkS:PV->PV->Rr PV:=oI (fun i j=>decide (ZiS i j)) fun i j=>.int (i^j.toNat)
noncomputable abbrev pLt:PV->PV->Rr PV:=oI (fun _ _=>true) fun i j=>.bl (decide (i<j))
noncomputable abbrev pLe:PV->PV->Rr PV:=oI (fun _ _=>true) fun i j=>.bl (decide (i<=j))
noncomputable abbrev pGt:PV->PV->Rr PV:=oI (fun _ _=>true) fun i j=>.bl (decide (j<i))
noncomputable abbrev pGe:PV->PV->Rr PV:=oI (fun _ _=>true) fun i j=>.bl (decide (j<=i))
theorem ZgF {D:Int->Int->Prop}{C:Int->Int->Bool}{g:Int->Int->PV}{g':Int->Int->V} (hC:∀i j,C i j=true->D i j) (hg:∀H i j,Rep K H (fun _=>True) (g i j) (g' i j)) (hf:∀i j,(g i j).flat=true)
  (ha:DE K EX Γ Γ1 .A ta fa) (hb:DE K EX Γ1 Γ2 .A tb fb):DE K EX Γ Γ2 .P (tOp (rI D g') ta tb) (fun ρ=>(fa ρ).bind fun x=>(fb ρ).bind fun y=>oI C g x y):=
 ZgE (ZlY hC hg hf) (ZeS hf) ZcT ha hb
theorem QU {g:Int->Int->PV}{g':Int->Int->V} (hg:∀H i j,Rep K H (fun _=>True) (g i j) (g' i j)) (hf:∀i j,(g i j).flat=true)
  (ha:DE K EX Γ Γ1 .A ta fa) (hb:DE K EX Γ1 Γ2 .A tb fb):DE K EX Γ Γ2 .P (tOp (rI0 g') ta tb) (fun ρ=>(fa ρ).bind fun x=>(fb ρ).bind fun y=>oI (fun _ _=>true) g x y):=
 ZgE (ZkX hg hf) (ZeS hf) ZcT ha hb
theorem Ur (ha:DE K EX Γ Γ1 .A ta fa) (hb:DE K EX Γ1 Γ2 .A tb fb):DE K EX Γ Γ2 .P (tOp (rI0 fun i j=>.int (i+j)) ta tb) (fun ρ=>(fa ρ).bind fun x=>(fb ρ).bind fun y=>ZkU x y):=QU (fun _ _ _=>rfl) (fun _ _=>rfl) ha hb
theorem Zfz (ha:DE K EX Γ Γ1 .A ta fa) (hb:DE K EX Γ1 Γ2 .A tb fb):DE K EX Γ Γ2 .P (tOp (rI0 fun i j=>.int (i-j)) ta tb) (fun ρ=>(fa ρ).bind fun x=>(fb ρ).bind fun y=>ZkR x y):=QU (fun _ _ _=>rfl) (fun _ _=>rfl) ha hb
theorem Zi4 (ha:DE K EX Γ Γ1 .A ta fa) (hb:DE K EX Γ1 Γ2 .A tb fb):DE K EX Γ Γ2 .P (tOp (rI0 fun i j=>.bl (decide (i<j))) ta tb) (fun ρ=>(fa ρ).bind fun x=>(fb ρ).bind fun y=>pLt x y):=QU (fun _ _ _=>rfl) (fun _ _=>rfl) ha hb
theorem Zlf (ha:DE K EX Γ Γ1 .A ta fa) (hb:DE K EX Γ1 Γ2 .A tb fb):DE K EX Γ Γ2 .P (tOp (rI0 fun i j=>.bl (decide (i<=j))) ta tb) (fun ρ=>(fa ρ).bind fun x=>(fb ρ).bind fun y=>pLe x y):=QU (fun _ _ _=>rfl) (fun _ _=>rfl) ha hb
theorem ZgG (ha:DE K EX Γ Γ1 .A ta fa) (hb:DE K EX Γ1 Γ2 .A tb fb):DE K EX Γ Γ2 .P (tOp (rI0 fun i j=>.bl (decide (j<i))) ta tb) (fun ρ=>(fa ρ).bind fun x=>(fb ρ).bind fun y=>pGt x y):=QU (fun _ _ _=>rfl) (fun _ _=>rfl) ha hb
theorem Zlg (ha:DE K EX Γ Γ1 .A ta fa) (hb:DE K EX Γ1 Γ2 .A tb fb):DE K EX Γ Γ2 .P (tOp (rI0 fun i j=>.bl (decide (j<=i))) ta tb) (fun ρ=>(fa ρ).bind fun x=>(fb ρ).bind fun y=>pGe x y):=QU (fun _ _ _=>rfl) (fun _ _=>rfl) ha hb
theorem Zh3 (ha:DE K EX Γ Γ1 .A ta fa) (hb:DE K EX Γ1 Γ2 .A tb fb):DE K EX Γ Γ2 .P (tOp (rI Zcn fun i j=>.int (i*j)) ta tb) (fun ρ=>(fa ρ).bind fun x=>(fb ρ).bind fun y=>ZlH x y):=ZgF (fun _ _ h=>of_decide_eq_true h) (fun _ _ _=>rfl) (fun _ _=>rfl) ha hb
theorem Vt (ha:DE K EX Γ Γ1 .A ta fa) (hb:DE K EX Γ1 Γ2 .A tb fb):DE K EX Γ Γ2 .P (tOp (rI Zco fun i j=>.int (i/j)) ta tb) (fun ρ=>(fa ρ).bind fun x=>(fb ρ).bind fun y=>Zkz x y):=ZgF (fun _ _ h=>of_decide_eq_true h) (fun _ _ _=>rfl) (fun _ _=>rfl) ha hb
theorem Jx (ha:DE K EX Γ Γ1 .A ta fa) (hb:DE K EX Γ1 Γ2 .A tb fb):DE K EX Γ Γ2 .P (tOp (rI (fun _ j=>0<j) fun i j=>.int (i%j)) ta tb) (fun ρ=>(fa ρ).bind fun x=>(fb ρ).bind fun y=>ZlI x y):=ZgF (fun _ _ h=>of_decide_eq_true h) (fun _ _ _=>rfl) (fun _ _=>rfl) ha hb
theorem Zh2 (ha:DE K EX Γ Γ1 .A ta fa) (hb:DE K EX Γ1 Γ2 .A tb fb):DE K EX Γ Γ2 .P (tOp (rI ZiS fun i j=>.int (i^j.toNat)) ta tb) (fun ρ=>(fa ρ).bind fun x=>(fb ρ).bind fun y=>ZkS x y):=ZgF (fun _ _ h=>of_decide_eq_true h) (fun _ _ _=>rfl) (fun _ _=>rfl) ha hb
noncomputable def Zky (x:PV):Rr PV:=match x with
 |.int i=>.ok (.int (-i))
 |_=>.bad
theorem Qx (ha:DE K EX Γ Γ1 .A ta fa):DE K EX Γ Γ1 .P (tUn (rU fun i=>.int (-i)) ta) (fun ρ=>(fa ρ).bind Zky):=by
 refine Zle (fun {H x v Q} rx ⟨z,e,q⟩=>?_) (fun x e h=>?_) ha
 ·cases x<;>first|(simp only[Zky] at e;cases e;done)|skip
  cases e;cases rx
  exact⟨_,rfl,q rfl _ rfl⟩
 ·cases x<;>(simp only[Zky] at h;cases h)
theorem ZdD {g:Bool->Bool} (x y:PV) (e:PX):ZdE g x y≠.exc e:=by
 unfold ZdE
 intro h
 split at h<;>cases h
theorem ZeJ {g:Bool->Bool} (x y z:PV) (h:ZdE g x y=.ok z):z.flat=true:=by
 unfold ZdE at h
 split at h
 ·cases h;rfl
 ·cases h
theorem Jn {g:Bool->Bool} (ha:DE K EX Γ Γ1 .A ta fa) (hb:DE K EX Γ1 Γ2 .A tb fb):DE K EX Γ Γ2 .P (tOp (ZkN K g) ta tb) (fun ρ=>(fa ρ).bind fun x=>(fb ρ).bind fun y=>ZdE g x y):=by
 refine ZgE (fun {H x y v w Q} rx ry ⟨z,e,q⟩=>?_) ZeJ ZdD ha hb
 unfold ZdE at e
 by_cases h:(okD x&&okD y)=true
 ·rw[if_pos h] at e;cases e
  rw[Bool.and_eq_true] at h
  exact⟨x,y,rx,ry,h.1,h.2,q rfl _ rfl⟩
 ·rw[if_neg h] at e;cases e
noncomputable def asB (x:PV):Rr Bool:=match x with
 |.bl b=>.ok b
 |_=>.bad
theorem Dn.asB {x:PV}{ok:Bool->Prop}{ex:PX->Prop} (d:Dn (asB x) ok ex):∃b,x=.bl b/\ok b:=by
 cases x with
 |bl b=>exact⟨b,rfl,d⟩
 |_=>exact d.elim
theorem ZjW (ha:DE K EX Γ Γ1 .A ta fa):DE K EX Γ Γ1 .P (Zja ta) (fun ρ=>(fa ρ).bind fun x=>(asB x).bind fun b=>.ok (.bl (!b))):=fun B H0 H σ ρ F R Q A d=>by
 refine ha B H0 H σ ρ F R _ A (d.bind.imp (fun x _ d v H1 s1 r1=>?_) fun e q=>q)
 obtain⟨b,rfl,d⟩:=d.bind.asB
 obtain⟨F1,f1,p1,A1⟩:=r1
 cases p1
 exact⟨b,rfl,d _ H1 s1 ⟨F1,f1,rfl,rfl,A1⟩⟩
theorem Res.shift {H1:Hp}{F1:Nat->List Addr}{k:Kd}{Γ2:List Md}{y:PV}{w:V}{H2:Hp} (s1:Zy H H1) (f1:∀i,∀a∈F1 i,a∈F i) (h:Res K B H0 H1 σ Γ2 ρ F1 R k y w H2):Res K B H0 H σ Γ2 ρ F R k y w H2:=by
 obtain⟨F2,f2,h⟩:=h
 refine⟨F2,fun i a ha=>f1 i a (f2 i a ha), ?_⟩
 have org:∀a,(H1 a=none\/∃i,a∈F1 i)->(H a=none\/∃i,a∈F i):=fun a h=>h.elim (fun z=>.inl (s1.free z)) fun⟨i,z⟩=>.inr ⟨i,f1 i a z⟩
 cases k with
 |P=>exact h
 |F=>obtain⟨G,h1,h2,h3⟩:=h;exact⟨G,h1,fun a ha=>⟨(h2 a ha).1,org a (h2 a ha).2⟩,h3⟩
 |T=>obtain⟨a,vs,xs,h1,h2,h3,h4,h5,h6,h7⟩:=h;exact⟨a,vs,xs,h1,h2,h3,h4,h5,org a h6,h7⟩
 |Z=>exact h
 |A=>exact h
 |N=>exact h.elim
theorem Zdv (ha:DE K EX Γ Γ .A ta fa) (hb:DE K EX Γ Γ .P tb fb):DE K EX Γ Γ .P (Zjh ta tb) (fun ρ=>(fa ρ).bind fun x=>(asB x).bind fun b=>if b=true then fb ρ else .ok (.bl false)):=fun B H0 H σ ρ F R Q A d=>by
 refine ha B H0 H σ ρ F R _ A (d.bind.imp (fun x _ d v H1 s1 r1=>?_) fun e q=>q)
 obtain⟨b,rfl,d⟩:=d.bind.asB
 obtain⟨F1,f1,p1,A1⟩:=r1
 cases p1
 refine⟨b,rfl, ?_⟩
 cases b with
 |true=>exact hb B H0 H1 σ ρ F1 R _ A1 (d.imp (fun y _ q w H2 s2 r2=>q w H2 (s1.trans s2) (r2.shift s1 f1)) fun e q=>q)
 |false=>exact d _ H1 s1 ⟨F1,f1,rfl,rfl,A1⟩
theorem ZA (ha:DE K EX Γ Γ' .A ta fa):DT K EX Γ Γ' (ZiX ta) (fun ρ=>(fa ρ).bind asB):=fun B H0 H σ ρ F R Q A d=>by
 refine ha B H0 H σ ρ F R _ A (d.bind.imp (fun x _ d v H1 s1 r1=>?_) fun e q=>q)
 obtain⟨b,rfl,d⟩:=d.asB
 obtain⟨F1,f1,p1,A1⟩:=r1
 cases p1
 exact⟨b,rfl,d H1 F1 s1 f1 A1⟩
theorem Zg8 (ha:DE K EX Γ Γ' .A ta fa):DT K EX Γ Γ' (tB ta) (fun ρ=>(fa ρ).bind asB):=ZA ha
theorem Zdm {c d:TT}{fc fd:List PV->Rr Bool} (hc:DT K EX Γ Γ c fc) (hd:DT K EX Γ Γ d fd):DT K EX Γ Γ (Zl8 c d) (fun ρ=>(fc ρ).bind fun b=>if b=true then fd ρ else .ok false):=fun B H0 H σ ρ F R Q A dn=>by
 refine hc B H0 H σ ρ F R _ A (dn.bind.imp (fun b _ dn H1 F1 s1 f1 A1=>?_) fun e q=>q)
 cases b with
 |true=>exact hd B H0 H1 σ ρ F1 R _ A1 (dn.imp (fun y _ q H2 F2 s2 f2 A2=>q H2 F2 (s1.trans s2) (fun i a h=>f1 i a (f2 i a h)) A2) fun e q=>q)
 |false=>exact dn H1 F1 s1 f1 A1
theorem Zft {c d:TT}{fc fd:List PV->Rr Bool} (hc:DT K EX Γ Γ c fc) (hd:DT K EX Γ Γ d fd):DT K EX Γ Γ (tOr c d) (fun ρ=>(fc ρ).bind fun b=>if b=true then .ok true else fd ρ):=fun B H0 H σ ρ F R Q A dn=>by
 refine hc B H0 H σ ρ F R _ A (dn.bind.imp (fun b _ dn H1 F1 s1 f1 A1=>?_) fun e q=>q)
 cases b with
 |false=>exact hd B H0 H1 σ ρ F1 R _ A1 (dn.imp (fun y _ q H2 F2 s2 f2 A2=>q H2 F2 (s1.trans s2) (fun i a h=>f1 i a (f2 i a h)) A2) fun e q=>q)
 |true=>exact dn H1 F1 s1 f1 A1
theorem QR {c:TT}{fc:List PV->Rr Bool} (hc:DT K EX Γ Γ' c fc):DT K EX Γ Γ' (Zl5 c) (fun ρ=>(fc ρ).bind fun b=>.ok (!b)):=fun B H0 H σ ρ F R Q A dn =>
 hc B H0 H σ ρ F R _ A (dn.bind.imp (fun b _ dn H1 F1 s1 f1 A1=>dn H1 F1 s1 f1 A1) fun e q=>q)
end
def DAA (K:W.Frag) (EX:PX->Hp->Prop) (Γ Γ':List Md) (ta:TA) (f:List PV->Rr (List PV)):Prop:=
 ∀(B:Addr->Prop) (H0 H:Hp) (σ:St) (ρ:List PV) (F:Nat->List Addr) (R:List Addr) (Q:List V->Hp->Prop),Ag K B H0 H σ Γ ρ F R ->
  Dn (f ρ) (fun xs=>∀vs H' F',Zy H H'->(∀i,∀a∈F' i,a∈F i)->Reps K H' (fun _=>True) xs vs->Ag K B H0 H' σ Γ' ρ F' R->Q vs H') (fun e=>∀H',Zy H0 H'->EX e H')->ta σ H Q
def DAF (K:W.Frag) (EX:PX->Hp->Prop) (Γ Γ':List Md) (ta:TA) (f:List PV->Rr (List PV)):Prop:=
 ∀(B:Addr->Prop) (H0 H:Hp) (σ:St) (ρ:List PV) (F:Nat->List Addr) (R:List Addr) (Q:List V->Hp->Prop),Ag K B H0 H σ Γ ρ F R ->
  Dn (f ρ) (fun xs=>∀vs H' F' G,Zy H H'->(∀i,∀a∈F' i,a∈F i)->Trees K H' xs vs G->(∀a∈G,a ∉ R/\(H a=none\/∃i,a∈F i))->Ag K B H0 H' σ Γ' ρ F' (G++R)->Q vs H') (fun e=>∀H',Zy H0 H'->EX e H')->ta σ H Q
def DAZ (K:W.Frag) (EX:PX->Hp->Prop) (Γ Γ':List Md) (ta:TA) (f:List PV->Rr (List PV)):Prop:=
 ∀(B:Addr->Prop) (H0 H:Hp) (σ:St) (ρ:List PV) (F:Nat->List Addr) (R:List Addr) (Q:List V->Hp->Prop),Ag K B H0 H σ Γ ρ F R ->
  Dn (f ρ) (fun xs=>∀vs H' F',Zy H H'->(∀i,∀a∈F' i,a∈F i)->Reps K H' (NO B F' R) xs vs->Ag K B H0 H' σ Γ' ρ F' R->Q vs H') (fun e=>∀H',Zy H0 H'->EX e H')->ta σ H Q
section
variable {K:W.Frag}{B:Addr->Prop}{EX:PX->Hp->Prop}{H0 H H':Hp}{σ:St}{Γ Γ' Γ1 Γ2:List Md}{ρ:List PV}{F F':Nat->List Addr}{R:List Addr}{x:PV}{v:V}{te tb:TE}{ta:TA}{f fb:List PV->Rr PV}{fa:List PV->Rr (List PV)}
theorem Zh:DAA K EX Γ Γ ZdW (fun _=>.ok []):=fun B H0 H σ ρ F R Q A d=>d [] H F (Zy.refl H) (fun _ _ h=>h) rfl A
theorem Zb (he:DE K EX Γ Γ1 .A te f) (ha:DAA K EX Γ1 Γ2 ta fa):DAA K EX Γ Γ2 (Vx te ta) (fun ρ=>(f ρ).bind fun x=>(fa ρ).bind fun xs=>.ok (x::xs)):=fun B H0 H σ ρ F R Q A d=>by
 refine he B H0 H σ ρ F R _ A (d.bind.imp (fun x _ d v H1 s1 r1=>?_) fun e q=>q)
 obtain⟨F1,f1,p1,A1⟩:=r1
 refine ha B H0 H1 σ ρ F1 R _ A1 (d.bind.imp (fun xs _ d vs H2 F2 s2 f2 p2 A2=>?_) fun e q=>q)
 exact d (v::vs) H2 F2 (s1.trans s2) (fun i a h=>f1 i a (f2 i a h)) ⟨v,vs,rfl,p1.same s2,p2⟩ A2
theorem ZZ:DAF K EX Γ Γ ZdW (fun _=>.ok []):=fun B H0 H σ ρ F R Q A d=>d [] H F [] (Zy.refl H) (fun _ _ h=>h) ⟨rfl,rfl⟩ (by simp) A
theorem ZG (he:DE K EX Γ Γ1 .F te f) (ha:DAF K EX Γ1 Γ2 ta fa):DAF K EX Γ Γ2 (Vx te ta) (fun ρ=>(f ρ).bind fun x=>(fa ρ).bind fun xs=>.ok (x::xs)):=fun B H0 H σ ρ F R Q A d=>by
 refine he B H0 H σ ρ F R _ A (d.bind.imp (fun x _ d v H1 s1 r1=>?_) fun e q=>q)
 obtain⟨F1,f1,G1,p1,o1,A1⟩:=r1
 refine ha B H0 H1 σ ρ F1 (G1++R) _ A1 (d.bind.imp (fun xs _ d vs H2 F2 G2 s2 f2 p2 o2 A2=>?_) fun e q=>q)
 refine d (v::vs) H2 F2 (G1++G2) (s1.trans s2) (fun i a h=>f1 i a (f2 i a h)) ⟨v,vs,G1,G2,rfl,p1.same s2,p2,fun a ha z=>(o2 a z).1 (ZqM _ ha),rfl⟩ (fun a ha=>?_) (A2.less fun a ha=>?_)
 ·rcases ZqK.mp ha with z|z
  ·exact o1 a z
  ·obtain⟨o3,o4⟩:=o2 a z
   exact⟨fun q=>o3 (ZqO _ q),o4.elim (fun q=>.inl (s1.free q)) fun⟨i,q⟩=>.inr ⟨i,f1 i a q⟩⟩
 ·simp only[ZqK] at ha ⊢
  rcases ha with (z|z)|z
  ·exact .inr (.inl z)
  ·exact .inl z
  ·exact .inr (.inr z)
theorem Zi7:DAZ K EX Γ Γ ZdW (fun _=>.ok []):=fun B H0 H σ ρ F R Q A d=>d [] H F (Zy.refl H) (fun _ _ h=>h) rfl A
theorem ZgK (he:DE K EX Γ Γ1 .Z te f) (ha:DAZ K EX Γ1 Γ2 ta fa):DAZ K EX Γ Γ2 (Vx te ta) (fun ρ=>(f ρ).bind fun x=>(fa ρ).bind fun xs=>.ok (x::xs)):=fun B H0 H σ ρ F R Q A d=>by
 refine he B H0 H σ ρ F R _ A (d.bind.imp (fun x _ d v H1 s1 r1=>?_) fun e q=>q)
 obtain⟨F1,f1,p1,A1⟩:=r1
 refine ha B H0 H1 σ ρ F1 R _ A1 (d.bind.imp (fun xs _ d vs H2 F2 s2 f2 p2 A2=>?_) fun e q=>q)
 refine d (v::vs) H2 F2 (s1.trans s2) (fun i a h=>f1 i a (f2 i a h)) ⟨v,vs,rfl, ?_,p2⟩ A2
 exact Rep.mono (fun a us s r=>⟨r.same s2,s.1,s.2.1,fun i z=>s.2.2 i (f2 i a z)⟩) (fun a us r=>s2.im r) p1
noncomputable def mkT (xs:List PV):Rr PV:=if xs.length<=1000 then .ok (.tup xs) else .bad
noncomputable def mkL (xs:List PV):Rr PV:=if xs.length<=1000 then .ok (.lst xs) else .bad
theorem Dn.mkT {xs:List PV}{ok:PV->Prop}{ex:PX->Prop} (d:Dn (mkT xs) ok ex):xs.length<=1000/\ok (.tup xs):=by
 unfold L2.mkT at d
 by_cases h:xs.length<=1000
 ·rw[if_pos h] at d;exact⟨h,d⟩
 ·rw[if_neg h] at d;exact d.elim
theorem Dn.mkL {xs:List PV}{ok:PV->Prop}{ex:PX->Prop} (d:Dn (mkL xs) ok ex):xs.length<=1000/\ok (.lst xs):=by
 unfold L2.mkL at d
 by_cases h:xs.length<=1000
 ·rw[if_pos h] at d;exact⟨h,d⟩
 ·rw[if_neg h] at d;exact d.elim
theorem Zfy (ha:DAF K EX Γ Γ' ta fa):DE K EX Γ Γ' .F (Zkw ta) (fun ρ=>(fa ρ).bind mkT):=fun B H0 H σ ρ F R Q A d=>by
 refine ha B H0 H σ ρ F R _ A (d.bind.imp (fun xs _ d vs H1 F1 G s1 f1 p1 o1 A1=>?_) fun e q=>q)
 obtain⟨hl,d⟩:=d.mkT
 refine⟨by rw[p1.length];exact UB hl,fun p hp=>?_⟩
 have e:Zy H1 (upd H1 p (.tup vs)):=Zy.new hp
 exact d _ _ (s1.trans e) ⟨F1,f1,G,⟨p,vs,rfl,⟨Zv,trivial⟩,p1.same e⟩,o1,A1.grow e⟩
theorem Qw (ha:DAA K EX Γ Γ' ta fa):DE K EX Γ Γ' .A (Zkw ta) (fun ρ=>(fa ρ).bind mkT):=fun B H0 H σ ρ F R Q A d=>by
 refine ha B H0 H σ ρ F R _ A (d.bind.imp (fun xs _ d vs H1 F1 s1 f1 p1 A1=>?_) fun e q=>q)
 obtain⟨hl,d⟩:=d.mkT
 refine⟨by rw[p1.length];exact UB hl,fun p hp=>?_⟩
 have e:Zy H1 (upd H1 p (.tup vs)):=Zy.new hp
 exact d _ _ (s1.trans e) ⟨F1,f1,⟨p,vs,rfl,⟨Zv,trivial⟩,p1.same e⟩,A1.grow e⟩
theorem Res.newF {H1:Hp}{F1:Nat->List Addr}{G:List Addr}{xs:List PV}{vs:List V}{p:Addr} (s1:Zy H H1) (f1:∀i,∀a∈F1 i,a∈F i) (p1:Trees K H1 xs vs G) (o1:∀a∈G,a ∉ R/\(H a=none\/∃i,a∈F i)) (A1:Ag K B H0 H1 σ Γ' ρ F1 (G++R)) (hp:H1 p=none) :
  Res K B H0 H σ Γ' ρ F R .F (.lst xs) (.ref p) (upd H1 p (.lst vs)):=by
 have e:Zy H1 (upd H1 p (.lst vs)):=Zy.new hp
 have hf:=A1.fresh hp
 refine⟨F1,f1,p::G,⟨p,vs,G,rfl,Zv,p1.same e,fun z=>hf.1 (ZqM _ z),rfl⟩,fun a ha=>?_,A1.new hp⟩
 rcases ZqS.mp ha with rfl|z
 ·exact⟨fun z=>hf.1 (ZqO _ z),.inl (s1.free hp)⟩
 ·exact o1 a z
theorem Res.newP {H1:Hp}{F1:Nat->List Addr}{xs:List PV}{vs:List V}{p:Addr}{S:Addr->Prop} (s1:Zy H H1) (f1:∀i,∀a∈F1 i,a∈F i) (p1:Reps K H1 S xs vs) (hx:PV.flats xs=true) (A1:Ag K B H0 H1 σ Γ' ρ F1 R) (hp:H1 p=none) :
  Res K B H0 H σ Γ' ρ F R .F (.lst xs) (.ref p) (upd H1 p (.lst vs)):=Res.newF (G:=[]) s1 f1 (p1.trees hx) (by simp) A1 hp
theorem Jh (ha:DAF K EX Γ Γ' ta fa):DE K EX Γ Γ' .F (ZkE ta) (fun ρ=>(fa ρ).bind mkL):=fun B H0 H σ ρ F R Q A d=>by
 refine ha B H0 H σ ρ F R _ A (d.bind.imp (fun xs _ d vs H1 F1 G s1 f1 p1 o1 A1=>?_) fun e q=>q)
 obtain⟨hl,d⟩:=d.mkL
 refine⟨by rw[p1.length];exact UB hl,fun p hp=>d _ _ (s1.trans (Zy.new hp)) (Res.newF s1 f1 p1 o1 A1 hp)⟩
noncomputable def pIx (x y:PV):Rr PV:=match x,y with
 |.lst xs,.int i=>match atI xs i with
  |some z=>.ok z
  |none=>.bad
 |.tup xs,.int i=>match atI xs i with
  |some z=>.ok z
  |none=>.bad
 |_,_=>.bad
theorem Zev {S:Addr->Prop}{xs:List PV}{vs:List V}{i:Int}{z:PV} (h:Reps K H S xs vs) (e:atI xs i=some z):∃u,atI vs i=some u/\Rep K H S z u:=by
 unfold atI at e ⊢
 rw[h.length]
 cases q:ixN xs.length i with
 |none=>rw[q] at e;cases e
 |some j =>
  rw[q] at e
  obtain⟨u,e1,e2⟩:=h.get e
  exact⟨u,e1,e2⟩
theorem Zjm {S:Addr->Prop}{x y z:PV}{v w:V}{Q:VK} (hx:Rep K H S x v) (hy:Rep K H (fun _=>True) y w) (e:pIx x y=.ok z) (q:∀u,Rep K H S z u->Q u H):rIx K v w H Q:=by
 cases x<;>cases y<;>first|(simp only[pIx] at e;cases e;done)|skip
 ·rename_i xs i
  obtain⟨a,vs,rfl,hn,hr⟩:=hx
  cases hy
  simp only[pIx] at e
  cases e1:atI xs i with
  |none=>rw[e1] at e;cases e
  |some z' =>
   rw[e1] at e;cases e
   obtain⟨u,e2,e3⟩:=Zev hr e1
   exact .inl ⟨a,vs,i,u,rfl,rfl,JA hn,e2,q u e3⟩
 ·rename_i xs i
  obtain⟨a,vs,rfl,hn,hr⟩:=hx
  cases hy
  simp only[pIx] at e
  cases e1:atI xs i with
  |none=>rw[e1] at e;cases e
  |some z' =>
   rw[e1] at e;cases e
   obtain⟨u,e2,e3⟩:=Zev hr e1
   exact .inr (.inl ⟨a,vs,i,u,rfl,rfl,hn.sqT,e2,q u e3⟩)
theorem ZeH (x y:PV) (e:PX):pIx x y≠.exc e:=by
 cases x<;>cases y<;>first|(intro h;simp only[pIx] at h;cases h;done)|skip
 all_goals
  intro h
  simp only[pIx] at h
  split at h<;>cases h
theorem Dn.pIx {x y:PV}{ok:PV->Prop}{ex:PX->Prop} (d:Dn (pIx x y) ok ex):∃z,pIx x y=.ok z/\ok z:=by
 cases e:L2.pIx x y with
 |ok z=>rw[e] at d;exact⟨z,rfl,d⟩
 |exc q=>exact absurd e (ZeH x y q)
 |bad=>rw[e] at d;exact d.elim
theorem Z8 {te ta':TE}{fa':List PV->Rr PV} (ha:DE K EX Γ Γ1 .A ta' fa') (hb:DE K EX Γ1 Γ2 .A tb fb):DE K EX Γ Γ2 .A (tOp (rIx K) ta' tb) (fun ρ=>(fa' ρ).bind fun x=>(fb ρ).bind fun y=>pIx x y):=fun B H0 H σ ρ F R Q A d=>by
 refine two ha hb A d.bind2 fun x y v w H' F' d s hF p1 p2 A'=>?_
 obtain⟨z,e,d⟩:=d.pIx
 exact Zjm p1 p2 e fun u hu=>d u H' s ⟨F',hF,hu,A'⟩
def CbP (K:W.Frag) (r:List V->Hp->VK->Prop) (o:List PV->Rr PV):Prop:=∀{H:Hp}{xs:List PV}{vs:List V}{Q:VK},Reps K H (fun _=>True) xs vs->∀z,o xs=.ok z->z.flat=true/\((∀u,Rep K H (fun _=>True) z u->Q u H)->r vs H Q)
theorem ZgI {r:List V->Hp->VK->Prop}{o:List PV->Rr PV} (hr:CbP K r o) (hx:∀xs e,o xs≠.exc e) (ha:DAA K EX Γ Γ' ta fa):DE K EX Γ Γ' .P (tCB r ta) (fun ρ=>(fa ρ).bind o):=fun B H0 H σ ρ F R Q A d=>by
 refine ha B H0 H σ ρ F R _ A (d.bind.imp (fun xs _ d vs H1 F1 s1 f1 p1 A1=>?_) fun e q=>q)
 cases e:o xs with
 |ok z =>
  rw[e] at d
  obtain⟨hf,h⟩:=hr (Q:=Q) p1 z e
  exact h fun u hu=>d u H1 s1 ⟨F1,f1,hf,hu,A1⟩
 |exc q=>exact absurd e (hx xs q)
 |bad=>rw[e] at d;exact d.elim
noncomputable def Zib (xs:List PV):Rr PV:=match xs with
 |[.lst ys]=>.ok (.int ys.length)
 |[.tup ys]=>.ok (.int ys.length)
 |_=>.bad
theorem UV {S:Addr->Prop}{x:PV}{vs:List V} (h:Reps K H S [x] vs):∃v,vs=[v]/\Rep K H S x v:=by
 obtain⟨v,r,rfl,h1,h2⟩:=h
 cases h2
 exact⟨v,rfl,h1⟩
theorem ZkJ {S:Addr->Prop}{x y:PV}{vs:List V} (h:Reps K H S [x,y] vs):∃v w,vs=[v,w]/\Rep K H S x v/\Rep K H S y w:=by
 obtain⟨v,r,rfl,h1,w,r',rfl,h2,h3⟩:=h
 cases h3
 exact⟨v,w,rfl,h1,h2⟩
theorem JE (ha:DAA K EX Γ Γ' ta fa):DE K EX Γ Γ' .P (tCB (fun xs H Q=>∃p ys,xs=[.ref p]/\(SqL K H p ys\/SqT K H p ys)/\Q (.int ys.length) H) ta) (fun ρ=>(fa ρ).bind Zib):=by
 refine ZgI (fun {H xs vs Q} h z e=>?_) (fun xs e h=>?_) ha
 ·unfold Zib at e
  split at e<;>first|(cases e;done)|skip
  all_goals
   cases e
   refine⟨rfl,fun q=>?_⟩
   obtain⟨v,rfl,a,ws,rfl,hn,hr⟩:=UV h
   refine⟨a,ws,rfl, ?_,by rw[hr.length];exact q _ rfl⟩
   first|exact .inl (JA (S:=fun _=>True) hn)|exact .inr hn.sqT
 ·unfold Zib at h;split at h<;>cases h
noncomputable def Uq:List PV->Option (List Int)
 |[]=>some []
 |.int i::xs=>(Uq xs).map (i::·)
 |_::_=>none
@[simp] theorem ZiN (ns:List Int):Uq (ns.map PV.int)=some ns:=by
 induction ns with
 |nil=>rfl
 |cons n ns ih=>simp[Uq,ih]
theorem Zbg:∀{xs:List PV}{ns:List Int},Uq xs=some ns->xs=ns.map PV.int
 |[],_,h=>by cases h;rfl
 |.int i::xs,ns,h=>by
  simp only[Uq] at h
  cases e:Uq xs with
  |none=>rw[e] at h;cases h
  |some ms=>rw[e] at h;cases h;rw[Zbg e];rfl
 |.non::_,_,h=>by cases h
 |.bl _::_,_,h=>by cases h
 |.str _::_,_,h=>by cases h
 |.exc _::_,_,h=>by cases h
 |.exa _ _::_,_,h=>by cases h
 |.box _ _ _::_,_,h=>by cases h
 |.fz _::_,_,h=>by cases h
 |.lst _::_,_,h=>by cases h
 |.tup _::_,_,h=>by cases h
theorem UU {S:Addr->Prop}:∀{ns:List Int}{vs:List V},Reps K H S (ns.map PV.int) vs->vs=ns.map V.int
 |[],_,h=>h
 |n::ns,_,h=>by
  obtain⟨v,r,rfl,h1,h2⟩:=h
  cases h1
  rw[UU h2];rfl
theorem Zbf {S:Addr->Prop}:∀(ns:List Int),Reps K H S (ns.map PV.int) (ns.map V.int)
 |[]=>rfl
 |n::ns=>⟨_,_,rfl,rfl,Zbf ns⟩
theorem Zc6 {S:Addr->Prop}{ns:List Int}{v:V} (h:Rep K H S (.lst (ns.map PV.int)) v):∃a,v=.ref a/\SqL K H a (ns.map V.int):=by
 obtain⟨a,vs,rfl,hn,hr⟩:=h
 rw[UU hr] at hn
 exact⟨a,rfl,JA hn⟩
noncomputable def ZaX (g:List Int->Rr PV) (xs:List PV):Rr PV:=match xs with
 |[.lst ys]=>match Uq ys with
  |some ns=>g ns
  |none=>.bad
 |_=>.bad
theorem Rr.ints {g:List Int->Rr PV}{xs:List PV}{z:PV} (e:ZaX g xs=.ok z):∃ns,xs=[.lst (ns.map PV.int)]/\g ns=.ok z:=by
 unfold ZaX at e
 split at e
 ·split at e
  ·rename_i ns h
   exact⟨ns,by rw[Zbg h],e⟩
  ·cases e
 ·cases e
theorem Qa {g:List Int->Rr PV} (hg:∀ns e,g ns≠.exc e) (xs:List PV) (e:PX):ZaX g xs≠.exc e:=by
 intro h
 unfold ZaX at h
 split at h
 ·split at h
  ·exact hg _ _ h
  ·cases h
 ·cases h
noncomputable abbrev ZkQ:=ZaX fun ns=>.ok (.int ns.sum)
theorem Zh0 (ha:DAA K EX Γ Γ' ta fa):DE K EX Γ Γ' .P (tCB (fun xs H Q=>∃p,∃ns:List Int,xs=[.ref p]/\SqL K H p (ns.map V.int)/\Q (.int ns.sum) H) ta) (fun ρ=>(fa ρ).bind ZkQ):=by
 refine ZgI (fun {H xs vs Q} h z e=>?_) (Qa fun ns e h=>by cases h) ha
 obtain⟨ns,rfl,e'⟩:=Rr.ints e
 cases e'
 obtain⟨v,rfl,h1⟩:=UV h
 obtain⟨a,rfl,h2⟩:=Zc6 h1
 exact⟨rfl,fun q=>⟨a,ns,rfl,h2,q _ rfl⟩⟩
noncomputable def Ul:List Int->Int
 |[]=>0
 |[n]=>n
 |n::ns=>min n (Ul ns)
theorem Vg:∀{ns:List Int},ns≠[]->Ul ns∈ns
 |[],h=>absurd rfl h
 |[n],_=>by simp[Ul]
 |n::m::ns,_=>by
  have:=Vg (ns:=m::ns) (by simp)
  show min n (Ul (m::ns))∈n::m::ns
  rcases Int.le_total n (Ul (m::ns)) with h|h
  ·rw[Int.min_eq_left h];simp
  ·rw[Int.min_eq_right h];exact Zrj _ this
theorem Zap:∀{ns:List Int}{x:Int},x∈ns->Ul ns<=x
 |[n],x,h=>by simp at h;subst h;exact Int.le_refl _
 |n::m::ns,x,h=>by
  show min n (Ul (m::ns))<=x
  rcases ZqS.mp h with rfl|h
  ·exact Int.min_le_left _ _
  ·exact Int.le_trans (Int.min_le_right _ _) (Zap h)
theorem Zil {ns:List Int}{m:Int} (h1:m∈ns) (h2:∀a∈ns,m<=a):m=Ul ns:=Int.le_antisymm (h2 _ (Vg (List.ne_nil_of_mem h1))) (Zap h1)
noncomputable abbrev ZkT:=ZaX fun ns=>if ns=[] then .bad else .ok (.int (Ul ns))
theorem ZjX (ha:DAA K EX Γ Γ' ta fa):DE K EX Γ Γ' .P (tCB (Zjo K) ta) (fun ρ=>(fa ρ).bind ZkT):=by
 refine ZgI (fun {H xs vs Q} h z e=>?_) (Qa fun ns e h=>by split at h<;>cases h) ha
 obtain⟨ns,rfl,e'⟩:=Rr.ints e
 by_cases hn:ns=[]
 ·rw[if_pos hn] at e';cases e'
 rw[if_neg hn] at e'
 cases e'
 obtain⟨v,rfl,h1⟩:=UV h
 obtain⟨a,rfl,h2⟩:=Zc6 h1
 exact⟨rfl,fun q=>⟨a,ns,rfl,h2,List.length_pos_iff.mpr hn,fun m hm hl=>by rw[Zil hm hl];exact q _ rfl⟩⟩
noncomputable def Zcg:List PV->Option (List Bool)
 |[]=>some []
 |.bl i::xs=>(Zcg xs).map (i::·)
 |_::_=>none
@[simp] theorem ZfE (ns:List Bool):Zcg (ns.map PV.bl)=some ns:=by
 induction ns with
 |nil=>rfl
 |cons n ns ih=>simp[Zcg,ih]
theorem Zd0:∀{xs:List PV}{ns:List Bool},Zcg xs=some ns->xs=ns.map PV.bl
 |[],_,h=>by cases h;rfl
 |.bl i::xs,ns,h=>by
  simp only[Zcg] at h
  cases e:Zcg xs with
  |none=>rw[e] at h;cases h
  |some ms=>rw[e] at h;cases h;rw[Zd0 e];rfl
 |.non::_,_,h=>by cases h
 |.int _::_,_,h=>by cases h
 |.str _::_,_,h=>by cases h
 |.exc _::_,_,h=>by cases h
 |.exa _ _::_,_,h=>by cases h
 |.box _ _ _::_,_,h=>by cases h
 |.fz _::_,_,h=>by cases h
 |.lst _::_,_,h=>by cases h
 |.tup _::_,_,h=>by cases h
theorem Zc4 {S:Addr->Prop}:∀{ns:List Bool}{vs:List V},Reps K H S (ns.map PV.bl) vs->vs=ns.map V.bl
 |[],_,h=>h
 |n::ns,_,h=>by
  obtain⟨v,r,rfl,h1,h2⟩:=h
  cases h1
  rw[Zc4 h2];rfl
noncomputable def Zj3 (xs:List PV):Rr PV:=match xs with
 |[.lst ys]=>match Zcg ys with
  |some bs=>.ok (.bl (bs.all id))
  |none=>.bad
 |_=>.bad
theorem Zka (ha:DAA K EX Γ Γ' ta fa):DE K EX Γ Γ' .P (tCB (fun xs H Q=>∃p,∃bs:List Bool,xs=[.ref p]/\SqL K H p (bs.map V.bl)/\Q (.bl (bs.all id)) H) ta) (fun ρ=>(fa ρ).bind Zj3):=by
 refine ZgI (fun {H xs vs Q} h z e=>?_) (fun xs e h=>?_) ha
 ·unfold Zj3 at e
  split at e
  ·split at e
   ·rename_i bs hb
    cases e
    rw[Zd0 hb] at h
    obtain⟨v,rfl,a,ws,rfl,hn,hr⟩:=UV h
    rw[Zc4 hr] at hn
    exact⟨rfl,fun q=>⟨a,bs,rfl,JA (S:=fun _=>True) hn,q _ rfl⟩⟩
   ·cases e
  ·cases e
 ·unfold Zj3 at h
  split at h
  ·split at h<;>cases h
  ·cases h
end
theorem VH {n:Nat} (h:n<=1000000):n<=sizeLine:=Zrq h (by decide)
section
end
def Frm (H:Hp) (F:Nat->List Addr) (H':Hp) (F':Nat->List Addr):Prop:=∀a o,H a=some o->(∀i,a ∉ F i)->H' a=some o/\∀i,a ∉ F' i
theorem Frm.refl {H:Hp}{F:Nat->List Addr}:Frm H F H F:=fun a o h n=>⟨h,n⟩
theorem Frm.trans {H H1 H2:Hp}{F F1 F2:Nat->List Addr} (h1:Frm H F H1 F1) (h2:Frm H1 F1 H2 F2):Frm H F H2 F2:=fun a o h n=>let ⟨h3,n3⟩:=h1 a o h n;h2 a o h3 n3
theorem Frm.of {H H':Hp}{F F':Nat->List Addr} (s:Zy H H') (f:∀i,∀a∈F' i,a∈F i):Frm H F H' F':=fun a o h n=>⟨s a o h,fun i z=>n i (f i a z)⟩
def ItP (K:W.Frag) (S:Addr->Prop) (J:It) (xs:List PV) (H:Hp):Prop:=
 ∀i,(∀x,xs[i]?=some x->J.go i H/\∀v H',J.yld i H v H'->Zy H H'/\Rep K H' S x v)/\(xs[i]?=none->J.stop i H)
def DI (K:W.Frag) (EX:PX->Hp->Prop) (Γ Γ':List Md) (wi:TI) (f:List PV->Rr (List PV)):Prop:=
 ∀(B:Addr->Prop) (H0 H:Hp) (σ:St) (ρ:List PV) (F:Nat->List Addr) (R:List Addr) (Q:It->Hp->Prop),Ag K B H0 H σ Γ ρ F R ->
  Dn (f ρ) (fun xs=>∀J H' F',Zy H H'->(∀i,∀a∈F' i,a∈F i)->Ag K B H0 H' σ Γ' ρ F' R->(∀H2 F2,Frm H' F' H2 F2->ItP K (fun a=>NO B F2 R a/\H' a≠none/\∀i,a ∉ F' i) J xs H2)->Q J H') (fun e=>∀H',Zy H0 H'->EX e H')->wi σ H Q
def DIc (K:W.Frag) (EX:PX->Hp->Prop) (Γ Γ':List Md) (wi:TI) (f:List PV->Rr (List PV)):Prop:=
 ∀(B:Addr->Prop) (H0 H:Hp) (σ:St) (ρ:List PV) (F:Nat->List Addr) (R:List Addr) (Q:It->Hp->Prop),Ag K B H0 H σ Γ ρ F R ->
  Dn (f ρ) (fun xs=>∀J H' F',Zy H H'->(∀i,∀a∈F' i,a∈F i)->Ag K B H0 H' σ Γ' ρ F' R->(∀H2 F2,Zy H' H2->(∀i,∀a∈F2 i,a∈F' i)->ItP K (fun a=>NO B F2 R a/\H' a≠none/\∀i,a ∉ F' i) J xs H2)->Q J H') (fun e=>∀H',Zy H0 H'->EX e H')->wi σ H Q
theorem DI.c {K:W.Frag}{EX:PX->Hp->Prop}{Γ Γ':List Md}{wi:TI}{f:List PV->Rr (List PV)} (h:DI K EX Γ Γ' wi f):DIc K EX Γ Γ' wi f:=fun B H0 H σ ρ F R Q A d =>
 h B H0 H σ ρ F R Q A (d.imp (fun xs _ d J H' F' s1 f1 A1 it=>d J H' F' s1 f1 A1 fun H2 F2 s2 f2=>it H2 F2 (Frm.of s2 f2)) fun e q=>q)
section
variable {K:W.Frag}{B:Addr->Prop}{EX:PX->Hp->Prop}{H0 H H':Hp}{σ:St}{Γ Γ' Γ1 Γ2 Γ3:List Md}{ρ:List PV}{F F':Nat->List Addr}{R:List Addr}{k:Kd}{x:PV}{v:V}{te tb:TE}{ta:TA}{f fb:List PV->Rr PV}{fa:List PV->Rr (List PV)}
theorem Rep.frm {F2:Nat->List Addr}{H2:Hp} (h:Frm H F H2 F2) (A:Ag K B H0 H σ Γ ρ F R) (r:Rep K H (NO B F R) x v):Rep K H2 (fun a=>NO B F2 R a/\H a≠none/\∀i,a ∉ F i) x v:=by
 refine Rep.mono (fun a us s r=>?_) (fun a us r=>?_) r
 ·rcases r with r|⟨o,r⟩
  ·obtain⟨h1,h2⟩:=h a _ r s.2.2;exact⟨.inl h1,⟨s.1,s.2.1,h2⟩,by rw[r];simp,s.2.2⟩
  ·obtain⟨h1,h2⟩:=h a _ r s.2.2;exact⟨.inr ⟨o,h1⟩,⟨s.1,s.2.1,h2⟩,by rw[r];simp,s.2.2⟩
 ·refine⟨(h a _ r.1 fun i z=>?_).1,r.2⟩
  obtain⟨vs,q⟩:=A.live i a z
  exact UA vs.2 r.2 (by rw[r.1] at q;exact Option.some.inj q)
noncomputable def Zd8 (lo:Int) (n:Nat):List PV:=(List.range n).map fun(k:Nat)=>PV.int (lo+(k:Int))
theorem Zfi {lo:Int}{n:Nat}{S:Addr->Prop}:ItP K S (Itr lo n) (Zd8 lo n) H:=by
 intro i
 constructor
 ·intro x hx
  unfold Zd8 at hx
  rw[Zri] at hx
  by_cases h:i<n
  ·rw[Zsi h] at hx
   cases hx
   exact⟨h,fun v H' ⟨e1,e2⟩=>by subst e1 e2;exact⟨Zy.refl _,rfl⟩⟩
  ·rw[Zrc (by simpa using h)] at hx;cases hx
 ·intro hx
  unfold Zd8 at hx
  have:=Zrw.mp hx
  show n<=i
  simpa using this
noncomputable def okR (j:Int):Bool:=decide (-(2^62)<=j/\j<2^62)
noncomputable def Zgi (xs:List PV):Rr (List PV):=match xs with
 |[.int j]=>if okR j=true then .ok (Zd8 0 j.toNat) else .bad
 |_=>.bad
noncomputable def Zgh (xs:List PV):Rr (List PV):=match xs with
 |[.int i,.int j]=>if (okR i&&okR j)=true then .ok (Zd8 i (j-i).toNat) else .bad
 |_=>.bad
theorem Zfx (ha:DAA K EX Γ Γ' ta fa):DI K EX Γ Γ' (ZjN ta) (fun ρ=>(fa ρ).bind Zgi):=fun B H0 H σ ρ F R Q A d=>by
 refine ha B H0 H σ ρ F R _ A (d.bind.imp (fun xs _ d vs H1 F1 s1 f1 p1 A1=>?_) fun e q=>q)
 unfold Zgi at d
 split at d
 ·rename_i j _
  obtain⟨v,rfl,h1⟩:=UV p1
  cases h1
  by_cases h:okR j=true
  ·rw[if_pos h] at d
   have h':=of_decide_eq_true h
   exact⟨j,rfl,h'.1,h'.2,d _ H1 F1 s1 f1 A1 fun H2 F2 _=>Zfi⟩
  ·rw[if_neg h] at d;exact d.elim
 ·exact d.elim
theorem Zfw (ha:DAA K EX Γ Γ' ta fa):DI K EX Γ Γ' (ZjM ta) (fun ρ=>(fa ρ).bind Zgh):=fun B H0 H σ ρ F R Q A d=>by
 refine ha B H0 H σ ρ F R _ A (d.bind.imp (fun xs _ d vs H1 F1 s1 f1 p1 A1=>?_) fun e q=>q)
 unfold Zgh at d
 split at d
 ·rename_i i j _
  obtain⟨v,w,rfl,h1,h2⟩:=ZkJ p1
  cases h1;cases h2
  by_cases h:(okR i&&okR j)=true
  ·rw[if_pos h] at d
   rw[Bool.and_eq_true] at h
   have h':=of_decide_eq_true h.1
   have h'':=of_decide_eq_true h.2
   exact⟨i,j,rfl,⟨h'.1,h'.2,h''.1,h''.2⟩,d _ H1 F1 s1 f1 A1 fun H2 F2 _=>Zfi⟩
  ·rw[if_neg h] at d;exact d.elim
 ·exact d.elim
noncomputable def asL (x:PV):Rr (List PV):=match x with
 |.lst xs=>.ok xs
 |_=>.bad
theorem Zir {a:Addr}{xs:List PV}{S:Addr->Prop} (h:Rep K H S (.lst xs) (.ref a)):ItP K S (Itl K a) xs H:=by
 obtain⟨a',vs,e,hn,hr⟩:=h
 cases e
 intro i
 constructor
 ·intro x hx
  obtain⟨u,e1,e2⟩:=hr.get hx
  refine⟨⟨vs,u,JA hn,e1⟩,fun v H' ⟨e,y⟩=>?_⟩
  subst e
  have:=y vs (JA hn)
  rw[e1] at this;cases this
  exact⟨Zy.refl _,e2⟩
 ·intro hx
  exact⟨vs,JA hn,by rw[hr.length];exact Zrw.mp hx⟩
theorem Qu (he:DE K EX Γ Γ' .Z te f):DI K EX Γ Γ' (Zgz K te) (fun ρ=>(f ρ).bind asL):=fun B H0 H σ ρ F R Q A d=>by
 refine he B H0 H σ ρ F R _ A (d.bind.imp (fun x _ d v H1 s1 r1=>?_) fun e q=>q)
 obtain⟨F1,f1,p1,A1⟩:=r1
 cases x with
 |lst xs =>
  obtain⟨a,vs,rfl,hn,hr⟩:=id p1
  exact⟨a,rfl,⟨vs,JA hn⟩,d _ H1 F1 s1 f1 A1 fun H2 F2 h=>Zir (p1.frm h A1)⟩
 |_=>exact d.elim
theorem Zbl:∀{ns:List Int},PV.flats (ns.map PV.int)=true
 |[]=>rfl
 |n::ns=>by simp only[Zrb,PV.flats,PV.flat,Zbl,Bool.and_self]
def DO (K:W.Frag) (EX:PX->Hp->Prop) (Γ Γ':List Md) (t:TO) (f:List PV->Rr (Option Int)):Prop:=
 ∀(B:Addr->Prop) (H0 H:Hp) (σ:St) (ρ:List PV) (F:Nat->List Addr) (R:List Addr) (Q:Option Int->Hp->Prop),Ag K B H0 H σ Γ ρ F R ->
  Dn (f ρ) (fun o=>∀H' F',Zy H H'->(∀i,∀a∈F' i,a∈F i)->Ag K B H0 H' σ Γ' ρ F' R->Q o H') (fun e=>∀H',Zy H0 H'->EX e H')->t σ H Q
theorem Ziz:DO K EX Γ Γ Zei (fun _=>.ok none):=fun B H0 H σ ρ F R Q A d=>d H F (Zy.refl H) (fun _ _ h=>h) A
noncomputable def asI (x:PV):Rr Int:=match x with
 |.int i=>.ok i
 |_=>.bad
theorem Dn.asI {x:PV}{ok:Int->Prop}{ex:PX->Prop} (d:Dn (asI x) ok ex):∃b,x=.int b/\ok b:=by
 cases x with
 |int b=>exact⟨b,rfl,d⟩
 |_=>exact d.elim
theorem ZbX (he:DE K EX Γ Γ' .A te f):DO K EX Γ Γ' (ZiZ te) (fun ρ=>(f ρ).bind fun x=>(asI x).bind fun i=>.ok (some i)):=fun B H0 H σ ρ F R Q A d=>by
 refine he B H0 H σ ρ F R _ A (d.bind.imp (fun x _ d v H1 s1 r1=>?_) fun e q=>q)
 obtain⟨i,rfl,d⟩:=d.bind.asI
 obtain⟨F1,f1,p1,A1⟩:=r1
 cases p1
 exact⟨i,rfl,d H1 F1 s1 f1 A1⟩
noncomputable def Zi9 {α:Type} (xs:List α) (lo hi:Option Int):List α:=(xs.drop (HT.sIx xs.length 0 lo)).take (HT.sIx xs.length xs.length hi-HT.sIx xs.length 0 lo)
theorem Reps.cut {S:Addr->Prop}{xs:List PV}{vs:List V} (h:Reps K H S xs vs) (lo hi:Option Int):Reps K H S (Zi9 xs lo hi) (ZiP vs lo hi):=by
 unfold Zi9 ZiP
 rw[h.length]
 exact(h.drop _).take _
noncomputable def newF (xs:List PV):Rr PV:=if (PV.flats xs&&decide (xs.length<=1000000))=true then .ok (.lst xs) else .bad
theorem Dn.newF {xs:List PV}{ok:PV->Prop}{ex:PX->Prop} (d:Dn (newF xs) ok ex):PV.flats xs=true/\xs.length<=1000000/\ok (.lst xs):=by
 unfold L2.newF at d
 by_cases h:(PV.flats xs&&decide (xs.length<=1000000))=true
 ·rw[if_pos h] at d
  rw[Bool.and_eq_true] at h
  exact⟨h.1,of_decide_eq_true h.2,d⟩
 ·rw[if_neg h] at d;exact d.elim
theorem Zh1 {tl th:TO}{fl fh:List PV->Rr (Option Int)} (he:DE K EX Γ Γ1 .A te f) (hl:DO K EX Γ1 Γ2 tl fl) (hh:DO K EX Γ2 Γ3 th fh) :
  DE K EX Γ Γ3 .F (tSl (ZkK K) te tl th) (fun ρ=>(f ρ).bind fun x=>(fl ρ).bind fun lo=>(fh ρ).bind fun hi=>(asL x).bind fun xs=>newF (Zi9 xs lo hi)):=fun B H0 H σ ρ F R Q A d=>by
 refine he B H0 H σ ρ F R _ A (d.bind.imp (fun x _ d v H1 s1 r1=>?_) fun e q=>q)
 obtain⟨F1,f1,p1,A1⟩:=r1
 refine hl B H0 H1 σ ρ F1 R _ A1 (d.bind.imp (fun lo _ d H2 F2 s2 f2 A2=>?_) fun e q=>q)
 refine hh B H0 H2 σ ρ F2 R _ A2 (d.bind.imp (fun hi _ d H3 F3 s3 f3 A3=>?_) fun e q=>q)
 cases x with
 |lst xs =>
  obtain⟨h1,h2,d⟩:=Dn.newF d
  obtain⟨a,vs,rfl,hn,hr⟩:=(p1.same s2).same s3
  refine⟨a,vs,rfl,JA (S:=fun _=>True) hn,fun p hp=>?_⟩
  exact d _ _ (((s1.trans s2).trans s3).trans (Zy.new hp)) (Res.newP ((s1.trans s2).trans s3) (fun i a h=>f1 i a (f2 i a (f3 i a h))) (hr.cut lo hi) h1 A3 hp)
 |_=>exact d.elim
noncomputable def Zjz (xs:List PV) (y:PV):Rr PV:=match y with
 |.int k=>if xs.length*k.toNat<=1000000/\-(2^63)<=k/\k<2^63 then newF (List.replicate k.toNat xs).flatten else .bad
 |_=>.bad
theorem Reps.rep {S:Addr->Prop}{xs:List PV}{vs:List V} (h:Reps K H S xs vs):∀n:Nat,Reps K H S (List.replicate n xs).flatten (List.replicate n vs).flatten
 |0=>rfl
 |n+1=>by
  rw[Zr2,Zr2,ZrJ,ZrJ]
  exact h.append (Reps.rep h n)
theorem Zi2 (ha:DAA K EX Γ Γ1 ta fa) (hb:DE K EX Γ1 Γ2 .A tb fb) :
  DE K EX Γ Γ2 .F (tOp ZlD (ZkE ta) tb) (fun ρ=>(fa ρ).bind fun xs=>(mkL xs).bind fun _=>(fb ρ).bind fun y=>Zjz xs y):=fun B H0 H σ ρ F R Q A d=>by
 refine ha B H0 H σ ρ F R _ A (d.bind.imp (fun xs _ d vs H1 F1 s1 f1 p1 A1=>?_) fun e q=>q)
 obtain⟨hl,d⟩:=Dn.mkL d.bind
 refine⟨by rw[p1.length];exact UB hl,fun p hp=>?_⟩
 have e:Zy H1 (upd H1 p (.lst vs)):=Zy.new hp
 refine hb B H0 _ σ ρ F1 R _ (A1.grow e) (d.bind.imp (fun y _ d w H2 s2 r2=>?_) fun e q=>q)
 obtain⟨F2,f2,p2,A2⟩:=r2
 cases y with
 |int k =>
  cases p2
  simp only[Zjz] at d
  by_cases h:xs.length*k.toNat<=1000000/\-(2^63)<=k/\k<2^63
  ·rw[if_pos h] at d
   obtain⟨h1,h2,d⟩:=Dn.newF d
   refine⟨p,k,vs,rfl,rfl,s2 _ _ Zv,h.2.1,h.2.2,by rw[p1.length];exact VH h.1,fun q hq=>?_⟩
   have st:=(s1.trans e).trans s2
   exact d _ _ (st.trans (Zy.new hq)) (Res.newP st (fun i a h=>f1 i a (f2 i a h)) (((p1.same e).same s2).rep k.toNat) h1 A2 hq)
  ·rw[if_neg h] at d;exact d.elim
 |_=>exact d.elim
noncomputable def ZeG (xs:List PV):Rr PV:=match xs with
 |[.lst ys]=>newF ys
 |[.tup ys]=>newF ys
 |_=>.bad
theorem UH (ha:DAA K EX Γ Γ' ta fa):DE K EX Γ Γ' .F (tCB (fun xs H Q=>∃p ys,xs=[.ref p]/\(SqL K H p ys\/SqT K H p ys)/\∀l,H l=none->Q (.ref l) (upd H l (.lst ys))) ta) (fun ρ=>(fa ρ).bind ZeG):=fun B H0 H σ ρ F R Q A d=>by
 refine ha B H0 H σ ρ F R _ A (d.bind.imp (fun xs _ d vs H1 F1 s1 f1 p1 A1=>?_) fun e q=>q)
 unfold ZeG at d
 split at d
 ·obtain⟨h1,h2,d⟩:=Dn.newF d
  obtain⟨v,rfl,a,ws,rfl,hn,hr⟩:=UV p1
  exact⟨a,ws,rfl,.inl (JA (S:=fun _=>True) hn),fun l hl=>d _ _ (s1.trans (Zy.new hl)) (Res.newP s1 f1 hr h1 A1 hl)⟩
 ·obtain⟨h1,h2,d⟩:=Dn.newF d
  obtain⟨v,rfl,a,ws,rfl,hn,hr⟩:=UV p1
  exact⟨a,ws,rfl,.inr hn.sqT,fun l hl=>d _ _ (s1.trans (Zy.new hl)) (Res.newP s1 f1 hr h1 A1 hl)⟩
 ·exact d.elim
noncomputable def JL:PV->String
 |.non => "NoneType"
 |.bl _ => "bool"
 |.int _ => "int"
 |.str _ => "str"
 |.lst _ => "list"
 |.tup _ => "tuple"
 |.exc _ => "?"
 |.exa _ _ => "?"
 |.box _ (.dk _) _ => "dict"
 |.box _ (.dt _) _ => "dict"
 |.box _ (.ob _ _) _ => "?"
 |.box _ .jk _ => "?"
 |.fz _ => "?"
noncomputable def PV.isX:PV->Bool
 |.exc _=>true
 |.exa _ _=>true
 |.box _ _ _=>true
 |.fz _=>true
 |_=>false
noncomputable def Ql (t n:String):Bool:=t==n || (t == "bool" && n == "int")
noncomputable def ZkB (n:String):Bool:=n == "int" || n == "bool" || n == "str" || n == "list" || n == "tuple"
theorem ZjB (K:W.Frag) {n:String} (h:ZkB n=true) (x:PV) (hx:x.isX=false):PySem.W.kitOne K (.type (JL x)) (.type n)=some (Ql (JL x) n):=by
 simp only[ZkB,Bool.or_eq_true,beq_iff_eq] at h
 rcases h with (((rfl|rfl)|rfl)|rfl)|rfl<;>cases x<;>first|rfl|cases hx
def ZlG (K:W.Frag) (n:String):List V->Hp->VK->Prop:=fun xs H Q=>∃x p,xs=[x,.ty n]/\Rep K H (fun _=>True) p x/\p.isX=false/\Q (.bl (Ql (JL p) n)) H
theorem Jz {X:Cx}{n:String} (hn:ZkB n=true) (e:X.K=K:=by rfl):JP X (.builtin "isinstance") (ZlG K n):=by
 subst e
 intro pins s σ H xs us Q I r h
 obtain⟨x,p,rfl,hp,hx,q⟩:=h
 obtain⟨u,w',rfl,rx,rn⟩:=Zk9 r
 cases rn
 have e:=ZjB X.K hn p hx
 have fin:∀tk,EP X pins σ Q (.bool (Ql (JL p) n)) { s with toks:=tk }:=fun tk=>⟨.bl _,H,I.tok _,rfl,q⟩
 cases p with
 |non=>cases hp;cases rx;exact PySem.W.kia_one PySem.W.kitx_none I.kIn True.intro e (fun z=>nomatch z) fin
 |bl y=>cases hp;cases rx;exact PySem.W.kia_one PySem.W.kitx_bool I.kIn True.intro e (fun z=>nomatch z) fin
 |int i=>cases hp;obtain⟨t,rfl⟩:=rx;exact PySem.W.kia_one PySem.W.kitx_int I.kIn True.intro e (fun z=>nomatch z) fin
 |str y=>cases hp;obtain⟨t,rfl⟩:=rx;exact PySem.W.kia_one PySem.W.kitx_str I.kIn True.intro e (fun z=>nomatch z) fin
 |exc y=>cases hx
 |exa y i=>cases hx
 |box p s ps=>cases hx
 |fz ps=>cases hx
 |lst ps =>
  obtain⟨a,vs,rfl,hn',hr⟩:=hp
  cases rx
  obtain⟨its,_,pl,_⟩:=I.list (JA (S:=fun _=>True) hn')
  obtain⟨o,h1,h2,_⟩:=pl.isList
  exact PySem.W.kia_one PySem.W.kitx_list I.kIn ⟨o,h1,h2⟩ e (fun z=>nomatch z) fin
 |tup ps =>
  obtain⟨a,vs,rfl,hn',hr⟩:=hp
  cases rx
  obtain⟨its,_,⟨o,h1,h2,_⟩,_⟩:=I.tuple hn'.sqT
  exact PySem.W.kia_one PySem.W.kitx_tuple I.kIn ⟨o,h1,h2⟩ e (fun z=>nomatch z) fin
noncomputable def Zj1 (n:String) (x:PV):Rr PV:=if x.isX=true then .bad else .ok (.bl (Ql (JL x) n))
theorem Qy {n:String} (he:DE K EX Γ Γ' .A te f):DE K EX Γ Γ' .P (tCB (ZlG K n) (Vx te (Vx (tC (.ty n)) ZdW))) (fun ρ=>(f ρ).bind (Zj1 n)):=fun B H0 H σ ρ F R Q A d=>by
 refine he B H0 H σ ρ F R _ A (d.bind.imp (fun x _ d v H1 s1 r1=>?_) fun e q=>q)
 obtain⟨F1,f1,p1,A1⟩:=r1
 unfold Zj1 at d
 cases hx:x.isX with
 |true=>rw[hx] at d;exact d.elim
 |false=>rw[hx] at d;exact⟨v,x,rfl,p1,hx,d _ H1 s1 ⟨F1,f1,rfl,rfl,A1⟩⟩
def Len (fa:List PV->Rr (List PV)) (n:Nat):Prop:=∀ρ xs,fa ρ=.ok xs->xs.length=n
theorem Zu:Len (fun _=>.ok []) 0:=fun ρ xs h=>by cases h;rfl
theorem Zi {f:List PV->Rr PV}{fa:List PV->Rr (List PV)}{n:Nat} (h:Len fa n):Len (fun ρ=>(f ρ).bind fun x=>(fa ρ).bind fun xs=>.ok (x::xs)) (n+1):=fun ρ xs e=>by
 dsimp only at e
 cases h1:f ρ with
 |ok x =>
  rw[h1] at e
  cases h2:fa ρ with
  |ok ys=>simp only[Rr.bind_ok,h2] at e;cases e;simp[h ρ ys h2]
  |exc q=>simp only[Rr.bind_ok,h2,Rr.bind_exc] at e;cases e
  |bad=>simp only[Rr.bind_ok,h2,Rr.bind_bad] at e;cases e
 |exc q=>rw[h1] at e;cases e
 |bad=>rw[h1] at e;cases e
def Zh7 (K:W.Frag) (B:Addr->Prop) (H:Hp) (k:Kd) (x:PV) (v:V) (H':Hp):Prop:=match k with
 |.P=>x.flat=true/\Rep K H' (fun _=>True) x v
 |.F=>∃G,ZT K H' x v G/\∀a∈G,H a=none
 |.N=>∃y a s xs G1 G2,x=.tup [y,.box (some a) s xs]/\ZT K H' y v G1/\ZT K H' (.box (some a) s xs) (.ref a) G2/\(∀b∈G1,b ∉ G2)/\(∀b∈G1,H b=none)/\∀b∈G2,H b=none
 |_=>Rep K H' (fun a=>B a\/H a=none) x v
noncomputable def spF (K:PySem.W.Frag) (n:Nat) (k:Kd) (W:PX->XK->Hp->Prop) (m:List PV->Rr PV):Sp:=fun vs H Q E=>∃B xs,Reps K H B xs vs/\xs.length=n /\
 Dn (m xs) (fun x=>∀v H',Zy H H'->Zh7 K B H k x v H'->Q v H') (fun e=>∀H',Zy H H'->W e E H')
def W0:PX->XK->Hp->Prop:=fun _ _ _=>False
def X0:PX->Hp->Prop:=fun _ _=>False
section
variable {n:Nat}{W:PX->XK->Hp->Prop}{m:List PV->Rr PV}{E:XK}
theorem Za1 {t:TE} (ht:∀σ H Q,(ta σ H fun vs H1=>spF K n .P W m vs H1 Q E)->t σ H Q) (hW:∀e H',EX e H'->W e E H') (hn:Len fa n) (ha:DAA K EX Γ Γ' ta fa):DE K EX Γ Γ' .P t (fun ρ=>(fa ρ).bind m):=fun B H0 H σ ρ F R Q A d=>by
 refine ht _ _ _ (ha B H0 H σ ρ F R _ A (d.bind.imp (fun xs hx d vs H1 F1 s1 f1 p1 A1=>?_) fun e q=>q))
 exact⟨fun _=>True,xs,p1,hn ρ xs hx,d.imp (fun x _ d v H2 s2 r=>d v H2 (s1.trans s2) ⟨F1,f1,r.1,r.2,A1.grow s2⟩) fun e q H2 s2=>hW e H2 (q H2 (A1.same.trans s2))⟩
theorem Zdu {t:TE} (ht:∀σ H Q,(ta σ H fun vs H1=>spF K n .F W m vs H1 Q E)->t σ H Q) (hW:∀e H',EX e H'->W e E H') (hn:Len fa n) (ha:DAA K EX Γ Γ' ta fa):DE K EX Γ Γ' .F t (fun ρ=>(fa ρ).bind m):=fun B H0 H σ ρ F R Q A d=>by
 refine ht _ _ _ (ha B H0 H σ ρ F R _ A (d.bind.imp (fun xs hx d vs H1 F1 s1 f1 p1 A1=>?_) fun e q=>q))
 refine⟨fun _=>True,xs,p1,hn ρ xs hx,d.imp (fun x _ d v H2 s2 r=>?_) fun e q H2 s2=>hW e H2 (q H2 (A1.same.trans s2))⟩
 obtain⟨G,r1,r2⟩:=r
 exact d v H2 (s1.trans s2) ⟨F1,f1,G,r1,fun a ha=>⟨(A1.fresh (r2 a ha)).1,.inl (s1.free (r2 a ha))⟩,A1.more s2 r2 r1.alive⟩
end
end
noncomputable def ZeX {α β:Type} (f:α->Rr β):List α->Rr (List β)
 |[]=>.ok []
 |x::xs=>(f x).bind fun y=>(ZeX f xs).bind fun ys=>.ok (y::ys)
noncomputable def lenM (xs:List PV):Rr Unit:=if xs.length<=1000000 then .ok () else .bad
theorem Dn.lenM {xs:List PV}{ok:Unit->Prop}{ex:PX->Prop} (d:Dn (lenM xs) ok ex):xs.length<=1000000/\ok ():=by
 unfold L2.lenM at d
 by_cases h:xs.length<=1000000
 ·rw[if_pos h] at d;exact⟨h,d⟩
 ·rw[if_neg h] at d;exact d.elim
theorem Rr.assoc {α β γ:Type}{r:Rr α}{f:α->Rr β}{g:β->Rr γ}:(r.bind f).bind g=r.bind fun a=>(f a).bind g:=by cases r<;>rfl
section
variable {K:W.Frag}{B:Addr->Prop}{EX:PX->Hp->Prop}{H0 H H':Hp}{σ:St}{Γ Γ1:List Md}{ρ:List PV}{F:Nat->List Addr}{R:List Addr}{x:PV}{v:V}{te:TE}{fe:List PV->Rr PV}
theorem Ag.outF (A:Ag K B H0 H σ Γ ρ F R) {i:Nat} (h:Γ.length<=i):F i=[]:=by
 have:=A.slot i
 rw[ZqF,Zrc h] at this
 exact this
theorem Ag.push (A:Ag K B H0 H σ Γ ρ F R) (h:Rep K H (NO B F R) x v):Ag K B H0 H (σ++[some v]) (Γ++[.S]) (ρ++[x]) F R:=by
 refine⟨A.same,A.own,A.young,A.youngR,A.live,A.liveR,A.disj,A.disjR,by simp[A.lenS],by simp[A.lenR],fun i=>?_⟩
 by_cases h1:i<Γ.length
 ·have:=A.slot i
  rw[ZqF,ZqF,ZqT h1,ZqT (by rw[A.lenR];exact h1),ZqT (by rw[A.lenS];exact h1),<- ZqF,<- ZqF]
  exact this
 ·by_cases h2:i=Γ.length
  ·subst h2
   rw[ZqF,ZqF,ZqV (ZqJ _),ZqV (by rw[A.lenR];exact ZqJ _),ZqV (by rw[A.lenS];exact ZqJ _),A.lenR,A.lenS]
   simp only[Zsw,ZrB,Zsr]
   exact⟨A.outF (ZqJ _),v,rfl,h⟩
  ·rw[ZqF,Zrc (by simp;omega)]
   exact A.outF (by omega)
theorem Ag.pop {o:Option V} (A:Ag K B H0 H (σ++[o]) (Γ++[.S]) (ρ++[x]) F R):Ag K B H0 H σ Γ ρ F R:=by
 have l1:σ.length=Γ.length:=by have:=A.lenS;simpa using this
 have l2:ρ.length=Γ.length:=by have:=A.lenR;simpa using this
 refine⟨A.same,A.own,A.young,A.youngR,A.live,A.liveR,A.disj,A.disjR,l1,l2,fun i=>?_⟩
 have:=A.slot i
 by_cases h1:i<Γ.length
 ·rw[ZqF,ZqF,ZqT h1,ZqT (by rw[l2];exact h1),ZqT (by rw[l1];exact h1),<- ZqF,<- ZqF] at this
  exact this
 ·rw[ZqF,Zrc (by omega)]
  by_cases h2:i=Γ.length
  ·subst h2
   rw[ZqF,ZqV (ZqJ _)] at this
   simp only[Zsw,ZrB,Zsr] at this
   exact this.1
  ·exact A.outF (by simp;omega)
theorem Za0 {wi:TI}{fi:List PV->Rr (List PV)} (hi:DIc K EX Γ Γ1 wi fi) (he:DE K EX (Γ1++[.S]) (Γ1++[.S]) .F te fe) :
  DE K EX Γ Γ1 .F (ZfU wi te) (fun ρ=>(fi ρ).bind fun xs=>(lenM xs).bind fun _=>(ZeX (fun x=>fe (ρ++[x])) xs).bind fun ys=>.ok (.lst ys)):=fun B H0 H σ ρ F R Q A d=>by
 refine hi B H0 H σ ρ F R _ A (d.bind.imp (fun xs _ d J H1 F1 s1 f1 A1 it=>?_) fun e q=>q)
 obtain⟨hlen,d⟩:=Dn.lenM d.bind
 refine⟨fun i m ys H2=>∃zs G F2,m=xs.length-i/\i<=xs.length/\ys.length=i/\Zy H1 H2/\Trees K H2 zs ys G/\(∀a∈G,a ∉ R/\(H1 a=none\/∃j,a∈F1 j))/\(∀i,∀a∈F2 i,a∈F1 i)/\Ag K B H0 H2 σ Γ1 ρ F2 (G++R) /\
  Dn ((ZeX (fun x=>fe (ρ++[x])) (xs.drop i)).bind fun ys'=>.ok (.lst (zs++ys'))) (fun x=>∀v H',Zy H H'->Res K B H0 H σ Γ1 ρ F R .F x v H'->Q v H') (fun e=>∀H',Zy H0 H'->EX e H'),
  ⟨xs.length,[],[],F1,by simp,Zrt _,rfl,Zy.refl _,⟨rfl,rfl⟩,by simp,fun _ _ h=>h,A1,by simpa using d⟩, ?_⟩
 rintro i m ys H2 ⟨zs,G,F2,rfl,hi',hl,s2,tr,o2,f2,A2,dn⟩
 refine⟨VH (by omega), ?_⟩
 have itp:=it H2 F2 s2 f2 i
 cases hx:xs[i]? with
 |none =>
  refine .inl ⟨itp.2 hx,fun p hp=>?_⟩
  have hd:xs.drop i=[]:=Zr5 (Zrw.mp hx)
  rw[hd] at dn
  have dn':∀v H',Zy H H'->Res K B H0 H σ Γ1 ρ F R .F (.lst (zs++[])) v H'->Q v H':=dn
  rw[Zrz] at dn'
  exact dn' _ _ ((s1.trans s2).trans (Zy.new hp)) (Res.newF (s1.trans s2) (fun i a h=>f1 i a (f2 i a h)) tr (fun a ha=>⟨(o2 a ha).1,(o2 a ha).2.elim (fun z=>.inl (s1.free z)) fun⟨j,z⟩=>.inr ⟨j,f1 j a z⟩⟩) A2 hp)
 |some x =>
  have hlt:i<xs.length:=(ZqI.mp hx).1
  obtain⟨go,yl⟩:=itp.1 x hx
  have hdx:xs.drop i=x::xs.drop (i+1):=by
   rw[Zrl hlt]
   rw[ZqH hlt] at hx;cases hx;rfl
  rw[hdx] at dn
  simp only[ZeX,Rr.assoc] at dn
  refine .inr ⟨go,fun ys' H'=>∃zs G F2,ys'.length=i+1/\Zy H1 H'/\Trees K H' zs ys' G/\(∀a∈G,a ∉ R/\(H1 a=none\/∃j,a∈F1 j))/\(∀i,∀a∈F2 i,a∈F1 i)/\Ag K B H0 H' σ Γ1 ρ F2 (G++R) /\
   Dn ((ZeX (fun x=>fe (ρ++[x])) (xs.drop (i+1))).bind fun ys'=>.ok (.lst (zs++ys'))) (fun x=>∀v H',Zy H H'->Res K B H0 H σ Γ1 ρ F R .F x v H'->Q v H') (fun e=>∀H',Zy H0 H'->EX e H'),
   fun ys' H' ⟨zs,G,F2,a1,a2,a3,a4,a5,a6,a7⟩=>⟨xs.length-(i+1),by omega,zs,G,F2,rfl,hlt,a1,a2,a3,a4,a5,a6,a7⟩,fun v H3 y=>?_⟩
  obtain⟨s3,rx⟩:=yl v H3 y
  have A3:=(A2.grow s3).push (x:=x) (v:=v) (Rep.mono (fun a us s r=>⟨r,s.1.1,fun z=>by
   rcases ZqK.mp z with z|z
   ·rcases (o2 a z).2 with q|⟨j,q⟩
    ·exact s.2.1 q
    ·exact s.2.2 j q
   ·exact s.1.2.1 z,s.1.2.2⟩) (fun a us r=>r) rx)
  refine he B H0 H3 _ _ F2 (G++R) _ A3 (dn.bind.imp (fun z _ dn w H4 s4 r4=>?_) fun e q=>q)
  obtain⟨F4,f4,G4,t4,o4,A4⟩:=r4
  refine⟨zs++[z],G++G4,F4,by simp[hl],(s2.trans s3).trans s4,Trees.append ((tr.same s3).same s4) (Trees.one t4) (fun a ha z=>(o4 a z).1 (ZqM _ ha)),fun a ha=>?_,fun i a h=>f2 i a (f4 i a h),A4.pop.less fun a ha=>?_, ?_⟩
  ·rcases ZqK.mp ha with z|z
   ·exact o2 a z
   ·refine⟨fun q=>(o4 a z).1 (ZqO _ q), ?_⟩
    rcases (o4 a z).2 with q|⟨j,q⟩
    ·exact .inl ((s2.trans s3).free q)
    ·exact .inr ⟨j,f2 j a q⟩
  ·simp only[ZqK] at ha ⊢
   rcases ha with (z|z)|z
   ·exact .inr (.inl z)
   ·exact .inl z
   ·exact .inr (.inr z)
  ·simp only[Rr.assoc,Rr.bind_ok,ZqP,List.singleton_append] at dn ⊢
   exact dn
end
inductive RS where
 |next (ρ:List PV)|ret (x:PV)|brk (ρ:List PV)|cont (ρ:List PV)|exc (e:PX)|bad
noncomputable def Rr.thenS {α:Type}:Rr α->(α->RS)->RS
 |.ok a,f=>f a
 |.exc e,_=>.exc e
 |.bad,_=>.bad
noncomputable def RS.seq:RS->(List PV->RS)->RS
 |.next ρ,f=>f ρ
 |r,_=>r
@[simp] theorem Rr.thenS_ok {α:Type}{a:α}{f:α->RS}:(Rr.ok a).thenS f=f a:=rfl
@[simp] theorem Rr.thenS_exc {α:Type}{e:PX}{f:α->RS}:(Rr.exc e:Rr α).thenS f=.exc e:=rfl
@[simp] theorem RS.seq_next {ρ:List PV}{f:List PV->RS}:(RS.next ρ).seq f=f ρ:=rfl
@[simp] theorem RS.seq_ret {x:PV}{f:List PV->RS}:(RS.ret x).seq f=.ret x:=rfl
@[simp] theorem RS.seq_exc {e:PX}{f:List PV->RS}:(RS.exc e).seq f=.exc e:=rfl
structure Tys where
 n:List Md
 b:List Md
 c:List Md
 r:Kd
def DnS (K:W.Frag) (B:Addr->Prop) (EX:PX->Hp->Prop) (Y:Tys) (H0 H:Hp) (F:Nat->List Addr) (D:ZfN) (r:RS):Prop:=match r with
 |.next ρ=>∀σ' H' F',Frm H F H' F'->Ag K B H0 H' σ' Y.n ρ F' []->D.nx σ' H'
 |.brk ρ=>∀σ' H' F',Frm H F H' F'->Ag K B H0 H' σ' Y.b ρ F' []->D.bk σ' H'
 |.cont ρ=>∀σ' H' F',Frm H F H' F'->Ag K B H0 H' σ' Y.c ρ F' []->D.ct σ' H'
 |.ret x=>∀v H',Zy H0 H'->Zh7 K B H0 Y.r x v H'->D.rt v H'
 |.exc e=>∀H',Zy H0 H'->EX e H'
 |.bad=>False
def DS (K:W.Frag) (EX:PX->Hp->Prop) (Γ:List Md) (Y:Tys) (t:TS) (g:List PV->RS):Prop:=
 ∀(B:Addr->Prop) (H0 H:Hp) (σ:St) (ρ:List PV) (F:Nat->List Addr) (D:ZfN),Ag K B H0 H σ Γ ρ F []->DnS K B EX Y H0 H F D (g ρ)->t D σ H
section
variable {K:W.Frag}{B:Addr->Prop}{EX:PX->Hp->Prop}{H0 H H':Hp}{σ:St}{Γ Γ' Γ1 Γ2 Γ3:List Md}{ρ:List PV}{F F':Nat->List Addr}{R:List Addr}{k:Kd}{x:PV}{v:V}{te:TE}{f fc:List PV->Rr PV}
 {t u:TS}{g g':List PV->RS}{Y:Tys}{D:ZfN}
theorem DnS.shift {H1:Hp}{F1:Nat->List Addr}{r:RS} (fr:Frm H F H1 F1) (h:DnS K B EX Y H0 H F D r):DnS K B EX Y H0 H1 F1 D r:=by
 cases r with
 |next ρ=>exact fun σ' H' F' fr' A=>h σ' H' F' (fr.trans fr') A
 |brk ρ=>exact fun σ' H' F' fr' A=>h σ' H' F' (fr.trans fr') A
 |cont ρ=>exact fun σ' H' F' fr' A=>h σ' H' F' (fr.trans fr') A
 |ret x=>exact h
 |exc e=>exact h
 |bad=>exact h
theorem DnS.thenS {α:Type}{r:Rr α}{f:α->RS} (h:DnS K B EX Y H0 H F D (r.thenS f)):Dn r (fun a=>DnS K B EX Y H0 H F D (f a)) (fun e=>∀H',Zy H0 H'->EX e H'):=by
 cases r with
 |ok a=>exact h
 |exc e=>exact h
 |bad=>exact h
theorem ZV:DS K EX Γ ⟨Γ,Γ1,Γ2,k⟩ ZhI (fun ρ=>.next ρ):=fun B H0 H σ ρ F D A d=>d σ H F Frm.refl A
theorem Zn {Γm:List Md} (h1:DS K EX Γ ⟨Γm,Y.b,Y.c,Y.r⟩ t g) (h2:DS K EX Γm Y u g'):DS K EX Γ Y (Zl4 t u) (fun ρ=>(g ρ).seq g'):=fun B H0 H σ ρ F D A d=>by
 refine h1 B H0 H σ ρ F _ A ?_
 dsimp only at d
 cases e:g ρ with
 |next ρ1 =>
  rw[e] at d
  exact fun σ' H' F' fr A'=>h2 B H0 H' σ' ρ1 F' D A' (DnS.shift fr d)
 |brk ρ1=>rw[e] at d;exact d
 |cont ρ1=>rw[e] at d;exact d
 |ret x=>rw[e] at d;exact d
 |exc q=>rw[e] at d;exact d
 |bad=>rw[e] at d;exact d
noncomputable def mle (m m':Md):Bool:=m==m' || m'==.U || (m'==.S&&m != .U) || (m'==.O&&m==.P)
noncomputable def Zht:List Md->List Md->Bool
 |[],[]=>true
 |m::ms,m'::ms'=>mle m m'&&Zht ms ms'
 |_,_=>false
theorem ZcX:∀{Γ Γ':List Md},Zht Γ Γ'=true->Γ.length=Γ'.length/\∀i,mle (Γ.getD i .U) (Γ'.getD i .U)=true
 |[],[],_=>⟨rfl,fun i=>by simp[mle]⟩
 |m::ms,m'::ms',h=>by
  simp only[Zht,Bool.and_eq_true] at h
  obtain⟨h1,h2⟩:=ZcX h.2
  refine⟨by simp[h1],fun i=>?_⟩
  cases i with
  |zero=>simpa using h.1
  |succ i=>simpa using h2 i
 |[],_::_,h=>by cases h
 |_::_,[],h=>by cases h
theorem Ag.weak (A:Ag K B H0 H σ Γ ρ F R) (h:Zht Γ Γ'=true):∃F',(∀i,∀a∈F' i,a∈F i)/\Ag K B H0 H σ Γ' ρ F' R:=by
 obtain⟨hl,hm⟩:=ZcX h
 let F':Nat->List Addr:=fun i=>if Γ.getD i .U=Γ'.getD i .U then F i else []
 have hF:∀i,∀a∈F' i,a∈F i:=fun i a ha=>by
  by_cases q:Γ.getD i .U=Γ'.getD i .U
  ·simp only[F',if_pos q] at ha;exact ha
  ·simp only[F',if_neg q] at ha;simp at ha
 have up:∀{a},NO B F R a->NO B F' R a:=fun {a} s=>⟨s.1,s.2.1,fun j z=>s.2.2 j (hF j a z)⟩
 refine⟨F',hF,A.same,A.own,fun i a ha=>A.young i a (hF i a ha),A.youngR,fun i a ha=>A.live i a (hF i a ha),A.liveR,fun i j hij a ha z=>A.disj i j hij a (hF i a ha) (hF j a z),fun i a ha=>A.disjR i a (hF i a ha),by rw[A.lenS,hl],by rw[A.lenR,hl],fun i=>?_⟩
 have sl:=A.slot i
 have hmi:=hm i
 by_cases q:Γ.getD i .U=Γ'.getD i .U
 ·simp only[F',if_pos q]
  rw[<- q]
  exact sl.mono (fun a vs s r=>⟨r,up s⟩) (fun a vs r=>r) fun a ha vs r=>r
 ·simp only[F',if_neg q]
  simp only[mle,Bool.or_eq_true,beq_iff_eq,Bool.and_eq_true,bne_iff_ne] at hmi
  rcases hmi with ((z|z)|z)|z
  ·exact absurd z q
  ·rw[z];exact rfl
  rotate_left
  ·rw[z.1]
   rw[z.2] at sl
   obtain⟨e,v,h1,h2,h3⟩:=sl
   exact⟨v,h1,h3.tree h2⟩
  ·rw[z.1]
   have own:∀a∈F i,NO B F' R a:=fun a ha=>⟨A.own a (A.young i a ha),A.disjR i a ha,fun j w=>by
    by_cases hj:j=i
    ·subst hj;simp only[F',if_neg q] at w;simp at w
    ·exact A.disj j i hj a (hF j a w) ha⟩
   cases hmm:Γ.getD i .U with
   |U=>exact absurd hmm z.2
   |P=>rw[hmm] at sl;obtain⟨e,v,h1,h2,h3⟩:=sl;exact⟨rfl,v,h1,h3.flatS h2⟩
   |S=>rw[hmm] at sl;obtain⟨e,v,h1,h2⟩:=sl;exact⟨rfl,v,h1,Rep.mono (fun a vs s r=>⟨r,up s⟩) (fun a vs r=>r) h2⟩
   |T =>
    rw[hmm] at sl
    obtain⟨a,vs,xs,h1,h2,h3,h4,h5⟩:=sl
    refine⟨rfl,_,h1, ?_⟩
    rw[h2]
    exact⟨a,vs,rfl,.inl ⟨.inl h3,own a (by rw[h5];simp)⟩,Reps.mono (fun a vs s r=>⟨r,up s⟩) (fun a vs r=>r) h4⟩
   |O=>rw[hmm] at sl;obtain⟨v,h1,h2⟩:=sl;exact⟨rfl,v,h1,h2.rep own⟩
theorem DS.out {Y':Tys} (h:DS K EX Γ Y t g) (hn:Zht Y.n Y'.n=true) (hb:Zht Y.b Y'.b=true) (hc:Zht Y.c Y'.c=true) (hr:Y.r=Y'.r):DS K EX Γ Y' t g:=fun B H0 H σ ρ F D A d=>by
 refine h B H0 H σ ρ F D A ?_
 cases e:g ρ with
 |next ρ1=>rw[e] at d;exact fun σ' H' F' fr A'=>let ⟨F2,f2,A2⟩:=A'.weak hn;d σ' H' F2 (fr.trans (Frm.of (Zy.refl _) f2)) A2
 |brk ρ1=>rw[e] at d;exact fun σ' H' F' fr A'=>let ⟨F2,f2,A2⟩:=A'.weak hb;d σ' H' F2 (fr.trans (Frm.of (Zy.refl _) f2)) A2
 |cont ρ1=>rw[e] at d;exact fun σ' H' F' fr A'=>let ⟨F2,f2,A2⟩:=A'.weak hc;d σ' H' F2 (fr.trans (Frm.of (Zy.refl _) f2)) A2
 |ret x=>rw[e] at d;exact fun v H' s r=>d v H' s (hr▸r)
 |exc q=>rw[e] at d;exact d
 |bad=>rw[e] at d;exact d
theorem ZbW {H1:Hp}{F1:Nat->List Addr}{i:Nat}{G:List Addr} (s1:Zy H H1) (f1:∀i,∀a∈F1 i,a∈F i) (o:∀a∈G,H a=none\/∃i,a∈F i):Frm H F H1 (JT F1 i G):=fun a u h n=>by
 refine⟨s1 a u h,fun j z=>?_⟩
 by_cases q:j=i
 ·subst q
  rw[Zo] at z
  rcases o a z with w|⟨l,w⟩
  ·rw[h] at w;cases w
  ·exact n l w
 ·rw[Zt q] at z;exact n j (f1 j a z)
theorem Z7 {i:Nat} (he:DE K EX Γ Γ' .P te f) (hi:i<Γ'.length):DS K EX Γ ⟨Γ'.set i .P,Γ1,Γ2,k⟩ (ZiK te (ZbU i)) (fun ρ=>(f ρ).thenS fun x=>.next (ρ.set i x)):=fun B H0 H σ ρ F D A d=>by
 refine he B H0 H σ ρ F [] _ A (d.thenS.imp (fun x _ d v H1 s1 r1=>?_) fun e q=>q)
 obtain⟨F1,f1,h1,h2,A1⟩:=r1
 exact d _ H1 _ (ZbW (G:=[]) s1 f1 (by simp)) (Ag.put (G:=[]) (R:=[]) A1 hi (by simp) ⟨rfl,v,rfl,h1,h2⟩)
theorem Jd {i:Nat} (he:DE K EX Γ Γ' .F te f) (hi:i<Γ'.length):DS K EX Γ ⟨Γ'.set i .O,Γ1,Γ2,k⟩ (ZiK te (ZbU i)) (fun ρ=>(f ρ).thenS fun x=>.next (ρ.set i x)):=fun B H0 H σ ρ F D A d=>by
 refine he B H0 H σ ρ F [] _ A (d.thenS.imp (fun x _ d v H1 s1 r1=>?_) fun e q=>q)
 obtain⟨F1,f1,G,h1,h2,A1⟩:=r1
 exact d _ H1 _ (ZbW s1 f1 fun a ha=>(h2 a ha).2) (Ag.put (R:=[]) A1 hi (by simp) ⟨v,rfl,h1⟩)
theorem Qs (he:DE K EX Γ Γ' .A te f):DS K EX Γ ⟨Γ',Γ1,Γ2,k⟩ (Zd3 te) (fun ρ=>(f ρ).thenS fun _=>.next ρ):=fun B H0 H σ ρ F D A d=>by
 refine he B H0 H σ ρ F [] _ A (d.thenS.imp (fun x _ d v H1 s1 r1=>?_) fun e q=>q)
 obtain⟨F1,f1,h1,A1⟩:=r1
 exact d σ H1 F1 (Frm.of s1 f1) A1
theorem Je (he:DE K EX Γ Γ' .P te f):DS K EX Γ ⟨Γ3,Γ1,Γ2,.P⟩ (ZiY te) (fun ρ=>(f ρ).thenS fun x=>.ret x):=fun B H0 H σ ρ F D A d=>by
 refine he B H0 H σ ρ F [] _ A (d.thenS.imp (fun x _ d v H1 s1 r1=>?_) fun e q=>q)
 obtain⟨F1,f1,h1,h2,A1⟩:=r1
 exact d v H1 A1.same ⟨h1,h2⟩
theorem JZ (he:DE K EX Γ Γ' .F te f):DS K EX Γ ⟨Γ3,Γ1,Γ2,.F⟩ (ZiY te) (fun ρ=>(f ρ).thenS fun x=>.ret x):=fun B H0 H σ ρ F D A d=>by
 refine he B H0 H σ ρ F [] _ A (d.thenS.imp (fun x _ d v H1 s1 r1=>?_) fun e q=>q)
 obtain⟨F1,f1,G,h1,h2,A1⟩:=r1
 exact d v H1 A1.same ⟨G,h1,fun a ha=>A1.youngR a (by simpa using ha)⟩
theorem JD {c:TT}{fc:List PV->Rr Bool} (hc:DT K EX Γ Γ' c fc) (h1:DS K EX Γ' Y t g) (h2:DS K EX Γ' Y u g'):DS K EX Γ Y (ZkF c t u) (fun ρ=>(fc ρ).thenS fun b=>if b=true then g ρ else g' ρ):=fun B H0 H σ ρ F D A d=>by
 refine hc B H0 H σ ρ F [] _ A (d.thenS.imp (fun b _ d H1 F1 s1 f1 A1=>?_) fun e q=>q)
 cases b with
 |true=>exact h1 B H0 H1 σ ρ F1 D A1 (DnS.shift (Frm.of s1 f1) d)
 |false=>exact h2 B H0 H1 σ ρ F1 D A1 (DnS.shift (Frm.of s1 f1) d)
theorem Zdp:DS K EX Γ Y ZgZ (fun _=>.bad):=fun B H0 H σ ρ F D A d=>d
theorem Ziy {i:Nat}{h:Int->Int->Int} (hm:Γ[i]?=some .P) (he:DE K EX Γ Γ .A te f):DS K EX Γ ⟨Γ,Γ1,Γ2,k⟩ (Zl7 i te (ipI h)) (fun ρ=>(f ρ).thenS fun y=>(oI (fun _ _=>true) (fun i j=>.int (h i j)) (gv i ρ) y).thenS fun z=>.next (ρ.set i z)):=fun B H0 H σ ρ F D A d=>by
 obtain⟨v,h1,h2,h3⟩:=A.getP hm
 refine⟨v,h1,he B H0 H σ ρ F [] _ A (d.thenS.imp (fun y _ d w H1 s1 r1=>?_) fun e q=>q)⟩
 obtain⟨F1,f1,p1,A1⟩:=r1
 have h3':=h3.same s1
 change Rep K H1 _ (gv i ρ) v at h3'
 generalize gv i ρ=gx at h3' d
 cases gx<;>cases y<;>first|(exact d.elim;done)|skip
 rename_i p q _
 cases h3';cases p1
 refine⟨p,q,rfl,rfl,d _ H1 _ (ZbW (i:=i) (G:=[]) s1 f1 (by simp)) ?_⟩
 have:=Ag.put (i:=i) (m:=.P) (x:=.int (h p q)) (v:=.int (h p q)) (G:=[]) (R:=[]) A1 (A.lt hm) (by simp) ⟨rfl,_,rfl,rfl,rfl⟩
 have e:Γ.set i .P=Γ:=by
  apply Zr6
  intro j
  by_cases q:i=j
  ·subst q;rw[Zrf (A.lt hm),hm]
  ·rw[ZqZ q]
 rw[e] at this
 exact this
variable {ti:TE}{fi:List PV->Rr PV}
 {t u:TS}{g g':List PV->RS}{Y:Tys}{D:ZfN}
theorem ZfW {i:Nat}{m:Md} (h:Γ[i]?=some m):Γ.set i m=Γ:=by
 apply Zr6
 intro j
 by_cases q:i=j
 ·subst q;rw[Zrf (ZqI.mp h).1,h]
 ·rw[ZqZ q]
theorem Ag.chgB {i:Nat}{m:Md}{a:Addr}{o':HO} (ho:Lvo o') {x':PV}{G G':List Addr} (A:Ag K B H0 H σ Γ ρ F (G++R)) (hm:Γ[i]?=some m) (ha:a∈F i) (hG:∀b∈G',b∈F i\/b∈G) (hGR:∀b∈G,b ∉ R)
  (hs:Vu K (upd H a o') (NO B (JT F i G') R) m x' σ[i]? G'):Ag K B H0 (upd H a o') σ Γ (ρ.set i x') (JT F i G') R:=by
 obtain⟨us,hH⟩:=A.live i a ha
 have hi:=A.lt hm
 have liveU:∀b,(∃us:LvO,H b=some us.1)->∃us:LvO,upd H a o' b=some us.1:=fun b ⟨us,q⟩=>by
  by_cases e:b=a
  ·exact⟨⟨o',ho⟩,by rw[e,Zv]⟩
  ·exact⟨us,by rw[Zp e];exact q⟩
 refine⟨A.same.upd (A.young i a ha),A.own,fun j b hb=>?_,fun b hb=>A.youngR b (ZqO _ hb),fun j b hb=>liveU b ?_,fun b hb=>liveU b (A.liveR b (ZqO _ hb)),fun j l hjl b hb z=>?_,fun j b hb z=>?_,A.lenS,by simp[A.lenR],fun j=>?_⟩
 ·by_cases q:j=i
  ·subst q;rw[Zo] at hb
   rcases hG b hb with z|z
   ·exact A.young j b z
   ·exact A.youngR b (ZqM _ z)
  ·rw[Zt q] at hb;exact A.young j b hb
 ·by_cases q:j=i
  ·subst q;rw[Zo] at hb
   rcases hG b hb with z|z
   ·exact A.live j b z
   ·exact A.liveR b (ZqM _ z)
  ·rw[Zt q] at hb;exact A.live j b hb
 ·by_cases q:j=i
  ·subst q
   rw[Zo] at hb
   rw[Zt (Ne.symm hjl)] at z
   rcases hG b hb with w|w
   ·exact A.disj j l hjl b w z
   ·exact A.disjR l b z (ZqM _ w)
  ·rw[Zt q] at hb
   by_cases q':l=i
   ·subst q'
    rw[Zo] at z
    rcases hG b z with w|w
    ·exact A.disj j l hjl b hb w
    ·exact A.disjR j b hb (ZqM _ w)
   ·rw[Zt q'] at z;exact A.disj j l hjl b hb z
 ·by_cases q:j=i
  ·subst q;rw[Zo] at hb
   rcases hG b hb with w|w
   ·exact A.disjR j b w (ZqO _ z)
   ·exact hGR b w z
  ·rw[Zt q] at hb;exact A.disjR j b hb (ZqO _ z)
 ·by_cases q:j=i
  ·subst q
   rw[Zo,ZqF,ZqF,hm,Zrf (by rw[A.lenR];exact hi)]
   exact hs
  ·rw[Zt q,ZqF (l:=ρ.set _ _),ZqZ (Ne.symm q),<- ZqF]
   refine(A.slot j).mono (fun b us s r=>?_) (fun b us r=>Im.putL hH r) fun b hb us r=>?_
   ·have hne:b≠a:=fun z=>s.2.2 i (z▸ha)
    refine⟨?_,s.1,fun z=>s.2.1 (ZqO _ z),fun l z=>?_⟩
    ·rcases r with r|⟨o,r⟩
     ·exact .inl (by rw[Zp hne];exact r)
     ·exact .inr ⟨o,by rw[Zp hne];exact r⟩
    ·by_cases q':l=i
     ·subst q';rw[Zo] at z
      rcases hG b z with w|w
      ·exact s.2.2 l w
      ·exact s.2.1 (ZqM _ w)
     ·rw[Zt q'] at z;exact s.2.2 l z
   ·have hne:b≠a:=fun z=>A.disj j i q b hb (z▸ha)
    rw[Zp hne];exact r
theorem Ag.chg {i:Nat}{m:Md}{a:Addr}{vs':List V}{x':PV}{G G':List Addr} (A:Ag K B H0 H σ Γ ρ F (G++R)) (hm:Γ[i]?=some m) (ha:a∈F i) (hG:∀b∈G',b∈F i\/b∈G) (hGR:∀b∈G,b ∉ R)
  (hs:Vu K (upd H a (.lst vs')) (NO B (JT F i G') R) m x' σ[i]? G'):Ag K B H0 (upd H a (.lst vs')) σ Γ (ρ.set i x') (JT F i G') R:=Ag.chgB (o':=.lst vs') trivial A hm ha hG hGR hs
theorem Qq {H1:Hp}{F1:Nat->List Addr}{i:Nat}{a:Addr}{o:HO}{G':List Addr} (s1:Zy H H1) (f1:∀i,∀b∈F1 i,b∈F i) (ha:a∈F1 i) (hG:∀b∈G',H b=none\/∃j,b∈F j):Frm H F (upd H1 a o) (JT F1 i G'):=fun b u h n=>by
 have hne:b≠a:=fun z=>n i (f1 i b (z▸ha))
 refine⟨by rw[Zp hne];exact s1 b u h,fun j z=>?_⟩
 by_cases q:j=i
 ·subst q;rw[Zo] at z
  rcases hG b z with w|⟨l,w⟩
  ·rw[h] at w;cases w
  ·exact n l w
 ·rw[Zt q] at z;exact n j (f1 j b z)
theorem Trees.setP:∀{xs:List PV}{vs:List V}{G:List Addr}{j:Nat}{y:PV}{w:V},Trees K H xs vs G->ZT K H y w []->∃G',(∀a∈G',a∈G)/\Trees K H (xs.set j y) (vs.set j w) G'
 |[],_,_,_,_,_,h,_=>⟨[],by simp,by rw[h.1];exact⟨rfl,rfl⟩⟩
 |x::xs,_,_,0,y,w,h,h'=>by
  obtain⟨v,r,G1,G2,rfl,h1,h2,h3,rfl⟩:=h
  exact⟨G2,fun a ha=>by simp[ha],w,r,[],G2,rfl,h',h2,by simp,rfl⟩
 |x::xs,_,_,j+1,y,w,h,h'=>by
  obtain⟨v,r,G1,G2,rfl,h1,h2,h3,rfl⟩:=h
  obtain⟨G',h4,h5⟩:=Trees.setP (j:=j) h2 h'
  refine⟨G1++G',fun a ha=>?_,v,r.set j w,G1,G',rfl,h1,h5,fun a ha z=>h3 a ha (h4 a z),rfl⟩
  rcases ZqK.mp ha with z|z
  ·simp[z]
  ·simp[h4 a z]
noncomputable def pSet (x i y:PV):Rr PV:=match x,i with
 |.lst xs,.int j=>match ixN xs.length j with
  |some n=>.ok (.lst (xs.set n y))
  |none=>.bad
 |_,_=>.bad
theorem Dn.pSet {x i y:PV}{ok:PV->Prop}{ex:PX->Prop} (d:Dn (pSet x i y) ok ex):∃xs j n,x=.lst xs/\i=.int j/\ixN xs.length j=some n/\ok (.lst (xs.set n y)):=by
 unfold L2.pSet at d
 split at d
 ·rename_i xs j
  cases e:ixN xs.length j with
  |none=>rw[e] at d;exact d.elim
  |some n=>rw[e] at d;exact⟨xs,j,n,rfl,rfl,e,d⟩
 ·exact d.elim
theorem VJ {i:Nat} (hm:Γ2[i]?=some .O) (he:DE K EX Γ Γ2 .P te f) (hi:DE K EX Γ2 Γ2 .A ti fi) :
  DS K EX Γ ⟨Γ2,Γ1,Γ3,k⟩ (ZiK te (ZlM (UP i) ti ZhO)) (fun ρ=>(f ρ).thenS fun y=>(fi ρ).thenS fun j=>(pSet (gv i ρ) j y).thenS fun z=>.next (ρ.set i z)):=fun B H0 H σ ρ F D A d=>by
 refine he B H0 H σ ρ F [] _ A (d.thenS.imp (fun y _ d w H1 s1 r1=>?_) fun e q=>q)
 obtain⟨F1,f1,y1,y2,A1⟩:=r1
 obtain⟨v,h1,h2⟩:=A1.getO hm
 refine⟨v,h1,hi B H0 H1 σ ρ F1 [] _ A1 (d.thenS.imp (fun j _ d jv H2 s2 r2=>?_) fun e q=>q)⟩
 obtain⟨F2,f2,p2,A2⟩:=r2
 obtain⟨xs,jj,n,e1,rfl,e2,d⟩:=Dn.pSet d.thenS
 obtain⟨v',h1',h2'⟩:=A2.getO hm
 rw[h1] at h1';cases h1'
 rw[show ρ.getD i .non=.lst xs from e1] at h2'
 obtain⟨a,vs,G,rfl,hH,ht,hn,hF⟩:=h2'
 cases p2
 refine⟨a,vs,jj,n,rfl,rfl,hH,by rw[ht.length];exact e2, ?_⟩
 obtain⟨G',g1,g2⟩:=Trees.setP (j:=n) ht ((y2.same s2).tree y1)
 have haF:a∈F2 i:=by rw[hF];simp
 have hsub:∀b∈a::G',b∈F2 i:=fun b hb=>by
  rw[hF]
  rcases ZqS.mp hb with rfl|hb
  ·simp
  ·simp[g1 b hb]
 refine d σ _ (JT F2 i (a::G')) (Qq (s1.trans s2) (fun j b hb=>f1 j b (f2 j b hb)) haF fun b hb=>.inr ⟨i,f1 i b (f2 i b (hsub b hb))⟩) (Ag.chg (G:=[]) A2 hm haF (fun b hb=>.inl (hsub b hb)) (by simp) ?_)
 exact⟨_,h1,a,_,G',rfl,Zv,g2.put hH (fun z=>hn (g1 a z)),fun z=>hn (g1 a z),rfl⟩
noncomputable def pApp (x y:PV):Rr PV:=match x with
 |.lst xs=>if xs.length<1000000 then .ok (.lst (xs++[y])) else .bad
 |_=>.bad
theorem Dn.pApp {x y:PV}{ok:PV->Prop}{ex:PX->Prop} (d:Dn (pApp x y) ok ex):∃xs,x=.lst xs/\xs.length<1000000/\ok (.lst (xs++[y])):=by
 unfold L2.pApp at d
 split at d
 ·rename_i xs
  by_cases h:xs.length<1000000
  ·rw[if_pos h] at d;exact⟨xs,rfl,h,d⟩
  ·rw[if_neg h] at d;exact d.elim
 ·exact d.elim
theorem Dn.asL {x:PV}{ok:List PV->Prop}{ex:PX->Prop} (d:Dn (asL x) ok ex):∃xs,x=.lst xs/\ok xs:=by
 cases x with
 |lst xs=>exact⟨xs,rfl,d⟩
 |_=>exact d.elim
theorem Uc {i:Nat} (hm:Γ[i]?=some .O) (hm2:Γ2[i]?=some .O) (he:DE K EX Γ Γ2 .F te f) :
  DS K EX Γ ⟨Γ2,Γ1,Γ3,k⟩ (Zd3 (tBM K "list" Zaf (UP i) (Vx te ZdW))) (fun ρ=>(asL (gv i ρ)).thenS fun xs=>(f ρ).thenS fun y=>(pApp (.lst xs) y).thenS fun z=>.next (ρ.set i z)):=fun B H0 H σ ρ F D A d=>by
 obtain⟨v,h1,h2⟩:=A.getO hm
 refine⟨v,h1, ?_⟩
 obtain⟨xs,e1,d⟩:=Dn.asL d.thenS
 rw[show ρ.getD i .non=.lst xs from e1] at h2
 obtain⟨a,vs,G,rfl,hH,ht,hn,hF⟩:=h2
 refine⟨.inl ⟨rfl,_,SqL.of hH⟩,he B H0 H σ ρ F [] _ A (d.thenS.imp (fun y _ d w H2 s2 r2=>?_) fun e q=>q)⟩
 obtain⟨F2,f2,G2,y1,y2,A2⟩:=r2
 obtain⟨xs',e2,hlen,d⟩:=Dn.pApp d.thenS
 cases e2
 obtain⟨v',h1',h2'⟩:=A2.getO hm2
 rw[h1] at h1';cases h1'
 rw[show ρ.getD i .non=.lst xs from e1] at h2'
 obtain⟨a',vs',G',e,hH',ht',hn',hF'⟩:=h2'
 cases e
 refine⟨a,vs',w,rfl,rfl,hH',by rw[ht'.length];exact ZqU hlen (by decide), ?_⟩
 have haF:a∈F2 i:=by rw[hF'];simp
 have dj:∀b∈G',b ∉ G2:=fun b hb z=>A2.disjR i b (by rw[hF'];simp[hb]) (ZqM _ z)
 have na:a ∉ G2:=fun z=>A2.disjR i a haF (ZqM _ z)
 have hsub:∀b∈a::(G'++G2),b∈F2 i\/b∈G2:=fun b hb=>by
  rw[hF']
  rcases ZqS.mp hb with rfl|hb
  ·simp
  ·rcases ZqK.mp hb with z|z
   ·simp[z]
   ·exact .inr z
 have hna:a ∉ G'++G2:=fun z=>(ZqK.mp z).elim hn' na
 refine d σ _ (JT F2 i (a::(G'++G2))) (Qq s2 f2 haF fun b hb=>?_) (Ag.chg (G:=G2) (R:=[]) A2 hm2 haF hsub (by simp) ?_)
 ·rcases hsub b hb with z|z
  ·exact .inr ⟨i,f2 i b z⟩
  ·exact(y2 b z).2
 ·exact⟨_,h1,a,_,G'++G2,rfl,Zv,(Trees.append ht' (Trees.one y1) dj).put hH' hna,hna,rfl⟩
def DG (K:W.Frag) (EX:PX->Hp->Prop) (Γ Γ':List Md) (g:TG) (h:PV->List PV->Rr (List PV)):Prop:=
 ∀(B:Addr->Prop) (H0 H:Hp) (σ:St) (ρ:List PV) (F:Nat->List Addr) (v:V) (x:PV) (N:St->Hp->Prop),Ag K B H0 H σ Γ ρ F []->Rep K H (NO B F []) x v ->
  Dn (h x ρ) (fun ρ'=>∀σ' F',(∀i,∀a∈F' i,a∈F i)->Ag K B H0 H σ' Γ' ρ' F' []->N σ' H) (fun e=>∀H',Zy H0 H'->EX e H')->g v σ H N
def DGs (K:W.Frag) (EX:PX->Hp->Prop) (Γ Γ':List Md) (g:TGs) (h:List PV->List PV->Rr (List PV)):Prop:=
 ∀(B:Addr->Prop) (H0 H:Hp) (σ:St) (ρ:List PV) (F:Nat->List Addr) (vs:List V) (xs:List PV) (N:St->Hp->Prop),Ag K B H0 H σ Γ ρ F []->Reps K H (NO B F []) xs vs ->
  Dn (h xs ρ) (fun ρ'=>∀σ' F',(∀i,∀a∈F' i,a∈F i)->Ag K B H0 H σ' Γ' ρ' F' []->N σ' H) (fun e=>∀H',Zy H0 H'->EX e H')->g vs σ H N
theorem Zhz {i:Nat} (hi:i<Γ.length):DG K EX Γ (Γ.set i .P) (ZbU i) (fun x ρ=>(grd x).bind fun x=>.ok (ρ.set i x)):=fun B H0 H σ ρ F v x N A r d=>by
 unfold grd at d;dsimp only at d
 by_cases h:x.flat=true
 ·rw[if_pos h] at d
  exact d _ (JT F i []) Zam (Ag.put (G:=[]) (R:=[]) A hi (by simp) ⟨rfl,v,rfl,h,r.any⟩)
 ·rw[if_neg h] at d;exact d.elim
noncomputable def ZlK (xs ρ:List PV):Rr (List PV):=match xs with
 |[]=>.ok ρ
 |_=>.bad
theorem Zi1:DGs K EX Γ Γ ZlN ZlK:=fun B H0 H σ ρ F vs xs N A r d=>by
 cases xs with
 |nil=>exact⟨r,d σ F (fun _ _ h=>h) A⟩
 |cons x xs=>exact d.elim
noncomputable def hdR (h:PV->List PV->Rr (List PV)) (hs:List PV->List PV->Rr (List PV)) (xs:List PV) (ρ:List PV):Rr (List PV):=match xs with
 |x::r=>(h x ρ).bind fun ρ'=>hs r ρ'
 |[]=>.bad
theorem Zdt {g:TG}{gs:TGs}{h:PV->List PV->Rr (List PV)}{hs:List PV->List PV->Rr (List PV)} (h1:DG K EX Γ Γ1 g h) (h2:DGs K EX Γ1 Γ2 gs hs):DGs K EX Γ Γ2 (ZjQ g gs) (hdR h hs):=fun B H0 H σ ρ F vs xs N A r d=>by
 cases xs with
 |nil=>exact d.elim
 |cons x xs =>
  obtain⟨v,r',rfl,r1,r2⟩:=r
  refine⟨v,r',rfl,h1 B H0 H σ ρ F v x _ A r1 ((show Dn ((h x ρ).bind fun ρ'=>hs xs ρ') _ _ from d).bind.imp (fun ρ' _ d σ' F' f' A'=>?_) fun e q=>q)⟩
  refine h2 B H0 H σ' ρ' F' r' xs _ A' (Reps.mono (fun a us s r=>⟨r,s.1,s.2.1,fun j z=>s.2.2 j (f' j a z)⟩) (fun a us r=>r) r2) (d.imp (fun ρ2 _ d σ2 F2 f2 A2=>d σ2 F2 (fun j a ha=>f' j a (f2 j a ha)) A2) fun e q=>q)
noncomputable def asT (n:Nat) (x:PV):Rr (List PV):=match x with
 |.tup xs=>if xs.length=n then .ok xs else .bad
 |_=>.bad
theorem Dn.asT {n:Nat}{x:PV}{ok:List PV->Prop}{ex:PX->Prop} (d:Dn (asT n x) ok ex):∃xs,x=.tup xs/\xs.length=n/\ok xs:=by
 cases x with
 |tup xs =>
  unfold L2.asT at d
  by_cases h:xs.length=n
  ·simp only[if_pos h] at d;exact⟨xs,rfl,h,d⟩
  ·simp only[if_neg h] at d;exact d.elim
 |_=>exact d.elim
theorem ZjV {n:Nat}{gs:TGs}{hs:List PV->List PV->Rr (List PV)} (h2:DGs K EX Γ Γ2 gs hs):DG K EX Γ Γ2 (ZlL K n gs) (fun x ρ=>(asT n x).bind fun xs=>hs xs ρ):=fun B H0 H σ ρ F v x N A r d=>by
 obtain⟨xs,rfl,hl,d⟩:=Dn.asT d.bind
 obtain⟨a,vs,rfl,hn,hr⟩:=r
 exact⟨a,vs,rfl,hn.sqT,by rw[hr.length];exact hl,h2 B H0 H σ ρ F vs xs N A hr d⟩
end
noncomputable def RS.turn:RS->(List PV->RS)->RS
 |.next ρ,f=>f ρ
 |.cont ρ,f=>f ρ
 |.brk ρ,_=>.next ρ
 |r,_=>r
noncomputable def ZaA (b:PV->List PV->RS):List PV->List PV->RS
 |[],ρ=>.next ρ
 |x::xs,ρ=>(b x ρ).turn (ZaA b xs)
noncomputable def JC (c:List PV->Rr Bool) (b:List PV->RS):Nat->List PV->Option RS
 |0,_=>none
 |n+1,ρ=>match c ρ with
  |.ok true=>match b ρ with
   |.next ρ'=>JC c b n ρ'
   |.cont ρ'=>JC c b n ρ'
   |.brk ρ'=>some (.next ρ')
   |r=>some r
  |.ok false=>some (.next ρ)
  |.exc e=>some (.exc e)
  |.bad=>some .bad
open Classical in
noncomputable def Vr (c:List PV->Rr Bool) (b:List PV->RS) (ρ:List PV):RS:=if h:∃n r,JC c b n ρ=some r then h.choose_spec.choose else .bad
theorem Vj {c:List PV->Rr Bool}{b:List PV->RS}:∀{n m:Nat}{ρ:List PV}{r:RS},n<=m->JC c b n ρ=some r->JC c b m ρ=some r
 |0,_,_,_,_,h=>by cases h
 |n+1,0,_,_,hl,_=>by omega
 |n+1,m+1,ρ,r,hl,h=>by
  unfold JC at h ⊢
  cases hc:c ρ with
  |ok b' =>
   cases b' with
   |true =>
    rw[hc] at h
    cases hb:b ρ with
    |next ρ'=>rw[hb] at h;exact Vj (by omega) h
    |cont ρ'=>rw[hb] at h;exact Vj (by omega) h
    |brk ρ'=>rw[hb] at h;exact h
    |ret x=>rw[hb] at h;exact h
    |exc e=>rw[hb] at h;exact h
    |bad=>rw[hb] at h;exact h
   |false=>rw[hc] at h;exact h
  |exc e=>rw[hc] at h;exact h
  |bad=>rw[hc] at h;exact h
theorem Zfj {c:List PV->Rr Bool}{b:List PV->RS}{n m:Nat}{ρ:List PV}{r r':RS} (h:JC c b n ρ=some r) (h':JC c b m ρ=some r'):r=r':=by
 rcases Nat.le_total n m with q|q
 ·have:=Vj q h;rw[h'] at this;exact(Option.some.inj this).symm
 ·have:=Vj q h';rw[h] at this;exact Option.some.inj this
theorem UL {c:List PV->Rr Bool}{b:List PV->RS}{n:Nat}{ρ:List PV}{r:RS} (h:JC c b n ρ=some r):Vr c b ρ=r:=by
 unfold Vr
 have hx:∃n r,JC c b n ρ=some r:=⟨n,r,h⟩
 rw[dif_pos hx]
 exact Zfj hx.choose_spec.choose_spec h
theorem Zeb {c:List PV->Rr Bool}{b:List PV->RS} (I:List PV->Prop) (μ:List PV->Nat) {r:RS} (step:∀ρ,I ρ->(c ρ=.ok false/\r=.next ρ)\/(c ρ=.ok true/\((∃ρ',(b ρ=.next ρ'\/b ρ=.cont ρ')/\I ρ'/\μ ρ'<μ ρ)\/(∃ρ',b ρ=.brk ρ'/\r=.next ρ')\/(∃x,b ρ=.ret x/\r=.ret x))))
  :∀ρ,I ρ->Vr c b ρ=r:=by
 have key:∀n ρ,I ρ->μ ρ<n->JC c b n ρ=some r:=by
  intro n
  induction n with
  |zero=>intro ρ _ h;omega
  |succ n ih =>
   intro ρ hI hμ
   unfold JC
   rcases step ρ hI with ⟨h1,h2⟩|⟨h1,⟨ρ',h2,h3,h4⟩|⟨ρ',h2,h3⟩|⟨x,h2,h3⟩⟩
   ·rw[h1,h2]
   ·rw[h1]
    rcases h2 with h2|h2<;>(rw[h2];exact ih ρ' h3 (by omega))
   ·rw[h1,h2,h3]
   ·rw[h1,h2,h3]
 exact fun ρ hI=>UL (key (μ ρ+1) ρ hI (ZrD _))
section
variable {K:W.Frag}{B:Addr->Prop}{EX:PX->Hp->Prop}{H0 H H':Hp}{σ:St}{Γ Γ1 Γ2 Γ3 Γl Γt:List Md}{ρ:List PV}{F F':Nat->List Addr}{k:Kd}{x:PV}{v:V}{te ti:TE}{f fc fe:List PV->Rr PV}
 {t u:TS}{g g':List PV->RS}{Y:Tys}{D:ZfN}
theorem Qr {wi:TI}{gt:TG}{fi:List PV->Rr (List PV)}{h:PV->List PV->Rr (List PV)} (hi:DI K EX Γ Γ1 wi fi) (hw:Zht Γ1 Γl=true) (hg:DG K EX Γl Γt gt h) (hb:DS K EX Γt ⟨Γl,Γl,Γl,k⟩ t g) :
  DS K EX Γ ⟨Γl,Γ2,Γ3,k⟩ (ZkG wi gt t) (fun ρ=>(fi ρ).thenS fun xs=>ZaA (fun x ρ=>(h x ρ).thenS g) xs ρ):=fun B H0 H σ ρ F D A d=>by
 refine hi B H0 H σ ρ F [] _ A (d.thenS.imp (fun xs _ d J H1 F1 s1 f1 A1 it=>?_) fun e q=>q)
 obtain⟨Fl,fl,Al⟩:=A1.weak hw
 have fr0:Frm H F H1 Fl:=Frm.of s1 fun j a ha=>f1 j a (fl j a ha)
 have fr1:Frm H1 F1 H1 Fl:=Frm.of (Zy.refl _) fl
 refine⟨fun i m σ' H'=>∃ρ' F',m=xs.length-i/\i<=xs.length/\Frm H1 F1 H' F'/\Ag K B H0 H' σ' Γl ρ' F' []/\DnS K B EX ⟨Γl,Γ2,Γ3,k⟩ H0 H' F' D (ZaA (fun x ρ=>(h x ρ).thenS g) (xs.drop i) ρ'),
  ⟨xs.length,ρ,Fl,by simp,Zrt _,fr1,Al,by simpa using DnS.shift fr0 d⟩, ?_⟩
 rintro i m σ' H' ⟨ρ',F',rfl,hi',fr,A',dn⟩
 have itp:=it H' F' fr i
 cases hx:xs[i]? with
 |none =>
  refine .inl ⟨itp.2 hx, ?_⟩
  have hd:xs.drop i=[]:=Zr5 (Zrw.mp hx)
  rw[hd] at dn
  exact dn σ' H' F' Frm.refl A'
 |some x =>
  have hlt:i<xs.length:=(ZqI.mp hx).1
  obtain⟨go,yl⟩:=itp.1 x hx
  have hdx:xs.drop i=x::xs.drop (i+1):=by
   rw[Zrl hlt]
   rw[ZqH hlt] at hx;cases hx;rfl
  rw[hdx] at dn
  simp only[ZaA] at dn
  refine .inr ⟨go,fun σ2 H2=>∃ρ2 F2,Frm H1 F1 H2 F2/\Ag K B H0 H2 σ2 Γl ρ2 F2 []/\DnS K B EX ⟨Γl,Γ2,Γ3,k⟩ H0 H2 F2 D (ZaA (fun x ρ=>(h x ρ).thenS g) (xs.drop (i+1)) ρ2),
   fun σ2 H2 ⟨ρ2,F2,a1,a2,a3⟩=>⟨xs.length-(i+1),by omega,ρ2,F2,rfl,hlt,a1,a2,a3⟩,fun v H3 y=>?_⟩
  obtain⟨s3,rx⟩:=yl v H3 y
  have fr3:Frm H' F' H3 F':=Frm.of s3 fun _ _ h=>h
  refine hg B H0 H3 σ' ρ' F' v x _ (A'.grow s3) (Rep.mono (fun a us s r=>⟨r,s.1⟩) (fun a us r=>r) rx) ?_
  cases e:h x ρ' with
  |ok ρt =>
   rw[e] at dn
   refine fun σt Ft ft At=>hb B H0 H3 σt ρt Ft _ At ?_
   have frt:Frm H' F' H3 Ft:=Frm.of s3 ft
   simp only[Rr.thenS_ok] at dn
   cases e2:g ρt with
   |next ρ2=>rw[e2] at dn;exact fun σ2 H2 F2 fr2 A2=>⟨ρ2,F2,fr.trans (frt.trans fr2),A2,DnS.shift (frt.trans fr2) dn⟩
   |cont ρ2=>rw[e2] at dn;exact fun σ2 H2 F2 fr2 A2=>⟨ρ2,F2,fr.trans (frt.trans fr2),A2,DnS.shift (frt.trans fr2) dn⟩
   |brk ρ2=>rw[e2] at dn;exact fun σ2 H2 F2 fr2 A2=>dn σ2 H2 F2 (frt.trans fr2) A2
   |ret y=>rw[e2] at dn;exact dn
   |exc q=>rw[e2] at dn;exact dn
   |bad=>rw[e2] at dn;exact dn
  |exc q=>rw[e] at dn;exact dn
  |bad=>rw[e] at dn;exact dn
theorem Zdn {c:TT}{fc:List PV->Rr Bool} (hc:DT K EX Γ Γ c fc) (hb:DS K EX Γ ⟨Γ,Γ,Γ,k⟩ t g):DS K EX Γ ⟨Γ,Γ2,Γ3,k⟩ (ZgX c t) (fun ρ=>Vr fc g ρ):=fun B H0 H σ ρ F D A d=>by
 dsimp only at d
 have ex:∃n,JC fc g n ρ=some (Vr fc g ρ):=by
  by_cases hx:∃n r,JC fc g n ρ=some r
  ·obtain⟨n,r,e⟩:=hx
   exact⟨n,by rw[UL e];exact e⟩
  ·unfold Vr at d
   rw[dif_neg hx] at d
   exact d.elim
 obtain⟨n0,e0⟩:=ex
 generalize hr:Vr fc g ρ=r at e0 d
 refine⟨fun m σ' H'=>∃ρ' F',Frm H F H' F'/\Ag K B H0 H' σ' Γ ρ' F' []/\JC fc g m ρ'=some r,⟨n0,ρ,F,Frm.refl,A,e0⟩, ?_⟩
 rintro m σ' H' ⟨ρ',F',fr,A',e⟩
 cases m with
 |zero=>cases e
 |succ m =>
  unfold JC at e
  refine hc B H0 H' σ' ρ' F' [] _ A' ?_
  cases e1:fc ρ' with
  |ok b =>
   rw[e1] at e
   refine fun H2 F2 s2 f2 A2=>?_
   have fr2:Frm H' F' H2 F2:=Frm.of s2 f2
   cases b with
   |true =>
    refine⟨fun σ3 H3=>∃ρ3 F3,Frm H F H3 F3/\Ag K B H0 H3 σ3 Γ ρ3 F3 []/\JC fc g m ρ3=some r,fun σ3 H3 h=>⟨m,ZrD _,h⟩, ?_⟩
    refine hb B H0 H2 σ' ρ' F2 _ A2 ?_
    cases e2:g ρ' with
    |next ρ2=>rw[e2] at e;exact fun σ3 H3 F3 fr3 A3=>⟨ρ2,F3,fr.trans (fr2.trans fr3),A3,e⟩
    |cont ρ2=>rw[e2] at e;exact fun σ3 H3 F3 fr3 A3=>⟨ρ2,F3,fr.trans (fr2.trans fr3),A3,e⟩
    |brk ρ2 =>
     rw[e2] at e
     have e':RS.next ρ2=r:=Option.some.inj e
     rw[<- e'] at d
     exact fun σ3 H3 F3 fr3 A3=>d σ3 H3 F3 (fr.trans (fr2.trans fr3)) A3
    |ret y =>
     rw[e2] at e
     have e':RS.ret y=r:=Option.some.inj e
     rw[<- e'] at d
     exact d
    |exc q =>
     rw[e2] at e
     have e':RS.exc q=r:=Option.some.inj e
     rw[<- e'] at d
     exact d
    |bad =>
     rw[e2] at e
     have e':RS.bad=r:=Option.some.inj e
     rw[<- e'] at d
     exact d
   |false =>
    have e':RS.next ρ'=r:=Option.some.inj e
    rw[<- e'] at d
    exact d σ' H2 F2 (fr.trans fr2) A2
  |exc q =>
   rw[e1] at e
   have e':RS.exc q=r:=Option.some.inj e
   rw[<- e'] at d
   exact d
  |bad =>
   rw[e1] at e
   have e':RS.bad=r:=Option.some.inj e
   rw[<- e'] at d
   exact d
theorem Trees.get:∀{xs:List PV}{vs:List V}{G:List Addr}{j:Nat}{x:PV},Trees K H xs vs G->xs[j]?=some x->∃v G',vs[j]?=some v/\ZT K H x v G'/\∀a∈G',a∈G
 |[],_,_,_,_,_,e=>by simp at e
 |y::xs,_,_,0,x,h,e=>by
  obtain⟨v,r,G1,G2,rfl,h1,h2,h3,rfl⟩:=h
  simp at e;subst e
  exact⟨v,G1,rfl,h1,fun a ha=>by simp[ha]⟩
 |y::xs,_,_,j+1,x,h,e=>by
  obtain⟨v,r,G1,G2,rfl,h1,h2,h3,rfl⟩:=h
  obtain⟨w,G',e1,e2,e3⟩:=Trees.get (j:=j) h2 (by simpa using e)
  exact⟨w,G',by simpa using e1,e2,fun a ha=>by simp[e3 a ha]⟩
theorem ZfR {xs:List PV}{vs:List V}{G:List Addr}{i:Int}{z:PV} (h:Trees K H xs vs G) (e:atI xs i=some z):∃u G',atI vs i=some u/\ZT K H z u G'/\∀a∈G',a∈G:=by
 unfold atI at e ⊢
 rw[h.length]
 cases q:ixN xs.length i with
 |none=>rw[q] at e;cases e
 |some j=>rw[q] at e;exact h.get e
theorem Zdq {i:Nat}{h:Int->Int->Int} (hm:Γ2[i]?=some .O) (hmΓ:Γ[i]?=some .O) (hi:DE K EX Γ Γ2 .A ti f) (he:DE K EX Γ2 Γ2 .A te fe) :
  DS K EX Γ ⟨Γ2,Γ1,Γ3,k⟩ (Zjg (UP i) ti te (Zjp K) (ipI h) ZhO) (fun ρ=>(f ρ).thenS fun j=>(pIx (gv i ρ) j).thenS fun z=>(asL (gv i ρ)).thenS fun _=>(fe ρ).thenS fun y=>(oI (fun _ _=>true) (fun a b=>.int (h a b)) z y).thenS fun w=>(pSet (gv i ρ) j w).thenS fun z=>.next (ρ.set i z)):=fun B H0 H σ ρ F D A d=>by
 obtain⟨v,h1,h2⟩:=A.getO hmΓ
 refine⟨v,h1,hi B H0 H σ ρ F [] _ A (d.thenS.imp (fun j _ d jv H1 s1 r1=>?_) fun e q=>q)⟩
 obtain⟨F1,f1,p1,A1⟩:=r1
 obtain⟨z,ez,d⟩:=Dn.pIx d.thenS
 obtain⟨xs,ex,d⟩:=Dn.asL d.thenS
 rw[ex] at ez
 obtain⟨v',h1',h2'⟩:=A1.getO hm
 rw[h1] at h1';cases h1'
 rw[show ρ.getD i .non=.lst xs from ex] at h2'
 obtain⟨a,vs,G,rfl,hH,ht,hn,hF⟩:=h2'
 obtain⟨j,rfl⟩:∃j',j=PV.int j':=by cases j<;>first|exact⟨_,rfl⟩|(simp only[pIx] at ez;cases ez;done)
 cases p1
 simp only[pIx] at ez
 cases e1:atI xs j with
 |none=>rw[e1] at ez;cases ez
 |some z' =>
  rw[e1] at ez;cases ez
  obtain⟨u,G2,e2,e3,e4⟩:=ZfR ht e1
  refine⟨a,vs,j,u,rfl,rfl,SqL.of hH,e2,he B H0 H1 σ ρ F1 [] _ A1 (d.thenS.imp (fun y _ d w H2 s2 r2=>?_) fun e q=>q)⟩
  obtain⟨F2,f2,p2,A2⟩:=r2
  obtain⟨zi,yi,rfl,rfl⟩:∃zi yi,z=PV.int zi/\y=PV.int yi:=by cases z<;>cases y<;>first|exact⟨_,_,rfl,rfl⟩|(exact d.elim;done)
  obtain⟨e5,_⟩:=e3
  subst e5
  cases p2
  refine⟨zi,yi,rfl,rfl, ?_⟩
  obtain⟨xs',jj,n,ex',e6,e7,d⟩:=Dn.pSet (show DnS _ _ _ _ _ _ _ _ ((pSet (gv i ρ) (.int j) (.int (h zi yi))).thenS _) from d).thenS
  cases e6
  rw[ex] at ex';cases ex'
  obtain⟨v',h1',h2'⟩:=A2.getO hm
  rw[h1] at h1';cases h1'
  rw[show ρ.getD i .non=.lst xs from ex] at h2'
  obtain⟨a',vs',G',e,hH',ht',hn',hF'⟩:=h2'
  cases e
  refine⟨a,vs',j,n,rfl,rfl,hH',by rw[ht'.length];exact e7, ?_⟩
  obtain⟨G'',g1,g2⟩:=Trees.setP (j:=n) (y:=.int (h zi yi)) (w:=.int (h zi yi)) ht' ⟨rfl,rfl⟩
  have haF:a∈F2 i:=by rw[hF'];simp
  have hsub:∀b∈a::G'',b∈F2 i:=fun b hb=>by
   rw[hF']
   rcases ZqS.mp hb with rfl|hb
   ·simp
   ·simp[g1 b hb]
  refine d σ _ (JT F2 i (a::G'')) (Qq (s1.trans s2) (fun j b hb=>f1 j b (f2 j b hb)) haF fun b hb=>.inr ⟨i,f1 i b (f2 i b (hsub b hb))⟩) (Ag.chg (G:=[]) A2 hm haF (fun b hb=>.inl (hsub b hb)) (by simp) ?_)
  exact⟨_,h1,a,_,G'',rfl,Zv,g2.put hH' (fun z=>hn' (g1 a z)),fun z=>hn' (g1 a z),rfl⟩
end
noncomputable def RS.out:RS->Rr PV
 |.next _=>.ok .non
 |.ret x=>.ok x
 |.exc e=>.exc e
 |.brk _=>.bad
 |.cont _=>.bad
 |.bad=>.bad
@[simp] theorem RS.out_next {ρ:List PV}:(RS.next ρ).out=.ok .non:=rfl
@[simp] theorem RS.out_ret {x:PV}:(RS.ret x).out=.ok x:=rfl
@[simp] theorem RS.out_exc {e:PX}:(RS.exc e).out=.exc e:=rfl
def Ref (r r':Rr PV):Prop:=r=.bad\/r=r'
structure Pm where
 α:Type
 enc:α->List PV
 pre:α->Prop
 out:α->Rr PV
open Classical in
noncomputable def Pm.fn (m:Pm) (xs:List PV):Rr PV:=if h:∃a,m.enc a=xs/\m.pre a then m.out h.choose else .bad
theorem Pm.fn_eq (m:Pm) (a:m.α) (h:m.pre a) (inj:∀b,m.enc b=m.enc a->m.out b=m.out a):m.fn (m.enc a)=m.out a:=by
 unfold Pm.fn
 have hx:∃b,m.enc b=m.enc a/\m.pre b:=⟨a,rfl,h⟩
 rw[dif_pos hx]
 exact inj _ hx.choose_spec.1
theorem Pm.ref (m:Pm) {g:List PV->Rr PV} (h:∀a,m.pre a->g (m.enc a)=m.out a) (xs:List PV):Ref (m.fn xs) (g xs):=by
 unfold Pm.fn
 by_cases hx:∃a,m.enc a=xs/\m.pre a
 ·rw[dif_pos hx]
  have h2:=hx.choose_spec
  right
  have:=h _ h2.2
  rw[h2.1] at this
  exact this.symm
 ·rw[dif_neg hx];exact .inl rfl
section
variable {K:W.Frag}{B:Addr->Prop}{H:Hp}
theorem Ag.init {xs:List PV}{vs:List V}{n:Nat} (h:Reps K H B xs vs):Ag K (fun a=>B a\/H a=none) H H (vs.map some++List.replicate n none) (List.replicate xs.length .S++List.replicate n .U) (xs++List.replicate n .non) (fun _=>[]) []:=by
 refine⟨Zy.refl _,fun a h=>.inr h,by simp,by simp,by simp,by simp,by simp,by simp,by simp[h.length],by simp,fun i=>?_⟩
 by_cases hi:i<xs.length
 ·have e1:(List.replicate xs.length Md.S++List.replicate n Md.U).getD i .U=.S:=by
   rw[ZqF,ZqT (by simpa using hi),Zsa hi];rfl
  have e2:(xs++List.replicate n PV.non).getD i .non=xs[i]:=by
   rw[ZqF,ZqT hi,ZqH hi];rfl
  rw[e1,e2]
  obtain⟨v,h1,h2⟩:=h.get (ZqH hi)
  refine⟨rfl,v, ?_,Rep.mono (fun a us s r=>⟨r,.inl s,by simp,by simp⟩) (fun a us r=>r) h2⟩
  rw[ZqT (by rw[ZqN,h.length];exact hi),Zri,h1];rfl
 ·have e1:(List.replicate xs.length Md.S++List.replicate n Md.U).getD i .U=.U:=by
   rw[ZqF,ZqV (by simpa using hi)]
   by_cases q:i-(List.replicate xs.length Md.S).length<n
   ·rw[Zsa q];rfl
   ·rw[Zrc (by simpa using q)];rfl
  rw[e1]
  exact rfl
end
section
variable {P:Program}{w:World}{K:W.Frag}{mg:Str->Option Value}{base:Heap}
theorem Fun.okP {x qual:Str}{st:Stmt}{f:Addr}{fd:FuncData}{N ps:List Str}{k n l:Nat}{kd:Kd}{m:List PV->Rr PV} (F:Fun K x qual st f fd) (S:Zx N ps (Ze st)) (hn:ps.length=n) (hl:N.length-n=l)
  (hbody:∀(cdv:Value) (A:Around) (outer:List Env) (s:Shared) (H:Hp) (E:XK),Vv k (A.deeper (envOfC qual (Ze st) s.heap.objs.size f cdv)) ->
   ∃t g Y,Y.r=kd/\PSs (Zbo CX0 P w K mg base N qual (Ze st) f cdv A outer s H E).nox (Zq st) t/\DS K X0 (List.replicate n .S++List.replicate l .U) Y t g/\∀xs,Ref (m xs) (g (xs++List.replicate l .non)).out) (hkN:kd≠.N:=by nofun) :
  J0 P w K mg base CX0 (k+1) f fd ps (spF K n kd W0 m):=by
 refine F.ok S (fun vs H Q E h=>?_) (fun cdv A outer s H vs Q E hr h=>?_)
 ·obtain⟨B,xs,h1,h2,_⟩:=h
  rw[h1.length,h2,hn]
 ·obtain⟨B,xs,h1,h2,dn⟩:=h
  obtain⟨t,g,Y,hY,ht,hd,href⟩:=hbody cdv A outer s H E hr
  refine⟨t,ht, ?_⟩
  have A0:=Ag.init (n:=l) h1
  have est:V9 N vs=vs.map some++List.replicate l none:=by
   unfold V9
   rw[h1.length,h2,hl]
  rw[est]
  rw[h2] at A0
  refine hd _ H H _ _ _ _ A0 ?_
  have hdn:Dn (g (xs++List.replicate l .non)).out (fun x=>∀v H',Zy H H'->Zh7 K B H kd x v H'->Q v H') (fun e=>∀H',Zy H H'->W0 e E H'):=by
   rcases href xs with e|e
   ·rw[e] at dn;exact dn.elim
   ·rw[<- e];exact dn
  have retK:∀{x v H'},Zh7 K (fun a=>B a\/H a=none) H kd x v H'->Zh7 K B H kd x v H':=fun {x v H'} h=>by
   cases kd with
   |P=>exact h
   |F=>exact h
   |T=>exact Rep.mono (fun a us s r=>⟨r,s.elim id .inr⟩) (fun a us r=>r) h
   |Z=>exact Rep.mono (fun a us s r=>⟨r,s.elim id .inr⟩) (fun a us r=>r) h
   |A=>exact Rep.mono (fun a us s r=>⟨r,s.elim id .inr⟩) (fun a us r=>r) h
   |N=>exact h
  cases e:g (xs++List.replicate l .non) with
  |next ρ =>
   rw[e] at hdn
   refine fun σ' H' F' fr A'=>hdn .non H' A'.same ?_
   cases kd with
   |P=>exact⟨rfl,rfl⟩
   |F=>exact⟨[],⟨rfl,rfl⟩,by simp⟩
   |T=>exact rfl
   |Z=>exact rfl
   |A=>exact rfl
   |N=>exact absurd rfl hkN
  |ret x=>rw[e] at hdn;exact fun v H' s r=>hdn v H' s (retK (hY▸r))
  |exc q=>rw[e] at hdn;exact fun H' s=>hdn H' s
  |brk ρ=>rw[e] at hdn;exact hdn.elim
  |cont ρ=>rw[e] at hdn;exact hdn.elim
  |bad=>rw[e] at hdn;exact hdn.elim
end
section
variable {K:W.Frag}{n:Nat}{m:List PV->Rr PV}{e:Expr}{ta:TA}{Γ Γ':List Md}{fa:List PV->Rr (List PV)}
theorem Zkb (hn:Len fa n) (ha:DAA K X0 Γ Γ' ta fa):DE K X0 Γ Γ' .F (Vs (spF K n .F W0 m) ta) (fun ρ=>(fa ρ).bind m):=Zdu (E:=E0) (W:=W0) (fun σ H Q h=>h) (fun e H' h=>h) hn ha
theorem Zh4 (hn:Len fa n) (ha:DAA K X0 Γ Γ' ta fa):DE K X0 Γ Γ' .P (Vs (spF K n .P W0 m) ta) (fun ρ=>(fa ρ).bind m):=Za1 (E:=E0) (W:=W0) (fun σ H Q h=>h) (fun e H' h=>h) hn ha
end
theorem ZdJ {K:W.Frag}{H:Hp}{a:Addr}{ns:List Int}{m:List PV->Rr PV} (hm:m [.lst (ns.map PV.int)]=.ok (.bl true)) (hS:SqL K H a (ns.map V.int)):spF K 1 .P W0 m [.ref a] H (fun v _=>v=.bl true) fun _ _ _=>False:=by
 refine⟨fun _=>True,[.lst (ns.map PV.int)],Reps.one ⟨a,_,rfl,hS.elim (fun h=>.inl ⟨h,trivial⟩) .inr,Zbf ns⟩,rfl, ?_⟩
 rw[hm]
 exact fun v H' _ r=>r.2
section
variable {X:Cx}{K:W.Frag}{EX:PX->Hp->Prop}{Γ Γ' Γ1 Γ2:List Md}{k:Kd}{te:TE}{f:List PV->Rr PV}
theorem ZdU (hc:X.calm=true) (e:X.K=K:=by rfl):JP X (.builtin "min") (Zjo K):=by subst e;exact ZfA hc
theorem QS {i:Nat}{wi:TI} (he:DE K EX Γ Γ' .F (ZfU wi te) f) (hi:i<Γ'.length):DS K EX Γ ⟨Γ'.set i .O,Γ1,Γ2,k⟩ (Zcx i wi te) (fun ρ=>(f ρ).thenS fun x=>.next (ρ.set i x)):=Jd he hi
end
def RS.good (r:RS) (I:List PV->Prop):Prop:=match r with
 |.next ρ=>I ρ
 |.cont ρ=>I ρ
 |_=>False
theorem RS.good_ex {r:RS}{I:List PV->Prop} (h:r.good I):∃ρ',(r=.next ρ'\/r=.cont ρ')/\I ρ':=by
 cases r with
 |next ρ=>exact⟨ρ,.inl rfl,h⟩
 |cont ρ=>exact⟨ρ,.inr rfl,h⟩
 |ret x=>exact h.elim
 |brk ρ=>exact h.elim
 |exc e=>exact h.elim
 |bad=>exact h.elim
theorem UG {b:PV->List PV->RS}{xs:List PV}{ρ:List PV} (I:Nat->List PV->Prop) (h0:I 0 ρ) (h:∀i x ρ,xs[i]?=some x->I i ρ->(b x ρ).good (I (i+1))) :
  ∃ρ',ZaA b xs ρ=.next ρ'/\I xs.length ρ':=by
 have key:∀n i ρ,xs.length=i+n->I i ρ->∃ρ',ZaA b (xs.drop i) ρ=.next ρ'/\I xs.length ρ':=by
  intro n
  induction n with
  |zero =>
   intro i ρ hl hI
   rw[Zr5 (by omega)]
   exact⟨ρ,rfl,by rw[hl];exact hI⟩
  |succ n ih =>
   intro i ρ hl hI
   have hi:i<xs.length:=by omega
   rw[Zrl hi]
   obtain⟨ρ',h1,h2⟩:=RS.good_ex (h i _ ρ (ZqH hi) hI)
   obtain⟨ρ2,h3,h4⟩:=ih (i+1) ρ' (by omega) h2
   refine⟨ρ2, ?_,h4⟩
   simp only[ZaA]
   rcases h1 with h1|h1<;>(rw[h1];exact h3)
 exact key xs.length 0 ρ (by omega) h0
theorem U8 {lo:Int}{n i:Nat}{x:PV} (h:(Zd8 lo n)[i]?=some x):i<n/\x=.int (lo+i):=by
 unfold Zd8 at h
 rw[Zri] at h
 by_cases hi:i<n
 ·rw[Zsi hi] at h;cases h;exact⟨hi,rfl⟩
 ·rw[Zrc (by simpa using hi)] at h;cases h
@[simp] theorem Jv {lo:Int}{n:Nat}:(Zd8 lo n).length=n:=by simp[Zd8]
theorem Zgy {ns:List Int}{i:Nat}{x:PV} (h:(ns.map PV.int)[i]?=some x):∃z,x=.int z/\ns[i]?=some z/\i<ns.length:=by
 rw[Zri] at h
 cases e:ns[i]? with
 |none=>rw[e] at h;cases h
 |some z=>rw[e] at h;cases h;exact⟨z,rfl,rfl,(ZqI.mp e).1⟩
theorem ZbJ {α β:Type}{f:α->Rr β}{g:α->β}:∀{xs:List α},(∀x∈xs,f x=.ok (g x))->ZeX f xs=.ok (xs.map g)
 |[],_=>rfl
 |x::xs,h=>by
  simp only[ZeX,h x (by simp),Rr.bind_ok,ZbJ (xs:=xs) fun y hy=>h y (by simp[hy]),Zrb]
@[simp] theorem ZbS {x:PV}{ρ:List PV}:gv 0 (x::ρ)=x:=rfl
@[simp] theorem ZbT {x:PV}{ρ:List PV}{i:Nat}:gv (i+1) (x::ρ)=gv i ρ:=rfl
theorem ZM {ns:List Int}{k:Int} (h0:0<=k) (h1:k<ns.length):pIx (.lst (ns.map PV.int)) (.int k)=.ok (.int (ns.getD k.toNat 0)):=by
 have:atI (ns.map PV.int) k=some (.int (ns.getD k.toNat 0)):=by
  unfold atI
  rw[ZqN,Zdc h0 h1]
  show (ns.map PV.int)[k.toNat]?=_
  rw[Zri,ZqH (by omega),ZqF,ZqH (by omega)]
  rfl
 simp only[pIx,this]
theorem JB {ns:List Int}{k y:Int} (h0:0<=k) (h1:k<ns.length):pSet (.lst (ns.map PV.int)) (.int k) (.int y)=.ok (.lst ((ns.set k.toNat y).map PV.int)):=by
 simp only[pSet,ZqN,Zdc h0 h1,List.map_set]
theorem ZaZ {ns:List Int}{y:Int} (h:ns.length<1000000):pApp (.lst (ns.map PV.int)) (.int y)=.ok (.lst ((ns++[y]).map PV.int)):=by
 simp only[pApp,ZqN,if_pos h,Zr0,Zrb,ZrM]
theorem Qc {ns:List Int} (h:ns.length<=1000000):newF (ns.map PV.int)=.ok (.lst (ns.map PV.int)):=by
 unfold newF
 rw[PV.flats_ints,ZqN,decide_eq_true h];rfl
theorem Q1 (ns:List Int):PV.dats (ns.map PV.int)=ns.map PyData.int:=by
 induction ns with
 |nil=>rfl
 |cons n ns ih=>simp[PV.dats,PV.dat,ih]
theorem Zcc (ns:List Int):PyData.canLayAll0 (ns.map PyData.int)=true:=by
 induction ns with
 |nil=>rfl
 |cons n ns ih=>simp[PyData.canLayAll0,PyData.canLay0,ih]
theorem ZeQ (i:Int):okD (.int i)=true:=by simp[okD,PV.noX,PV.dat,PyData.canLay0,PyData.depth]
theorem ZcS (ns:List Int):okD (.lst (ns.map PV.int))=true:=by
 have hd:PyData.depthAll (ns.map PyData.int)=0:=by
  induction ns with
  |nil=>rfl
  |cons n ns ih=>simp[PyData.depthAll,PyData.depth,ih]
 simp[okD,PV.noX,PV.noXs_ints,PV.dat,Q1,PyData.canLay0,Zcc,PyData.depth,hd]
theorem V6:∀(ns ms:List Int),PyData.eqvAll (ns.map PyData.int) (ms.map PyData.int)=decide (ns=ms)
 |[],[]=>by simp[PyData.eqvAll]
 |[],m::ms=>by simp[PyData.eqvAll]
 |n::ns,[]=>by simp[PyData.eqvAll]
 |n::ns,m::ms=>by
  simp only[Zrb,PyData.eqvAll,PyData.eqv,V6 ns ms,List.cons.injEq,Bool.decide_and]
  rw[Bool.beq_eq_decide_eq]
theorem ZcP {g:Bool->Bool} (ns ms:List Int):ZdE g (.lst (ns.map PV.int)) (.lst (ms.map PV.int))=.ok (.bl (g (decide (ns=ms)))):=by
 unfold ZdE
 rw[ZcS,ZcS]
 simp only[Bool.and_self,if_true,PV.dat,Q1,PyData.eqv,V6]
theorem ZeI {g:Bool->Bool} (i j:Int):ZdE g (.int i) (.int j)=.ok (.bl (g (decide (i=j)))):=by
 unfold ZdE
 rw[ZeQ,ZeQ]
 simp only[Bool.and_self,if_true,PV.dat,PyData.eqv]
 rw[Bool.beq_eq_decide_eq]
theorem ZaW (ns:List Int):Zib [.lst (ns.map PV.int)]=.ok (.int ns.length):=by simp[Zib]
theorem ZaV (ns:List Int):ZkQ [.lst (ns.map PV.int)]=.ok (.int ns.sum):=by simp[ZkQ,ZaX]
theorem ZeF {ns:List Int} (h:ns≠[]):ZkT [.lst (ns.map PV.int)]=.ok (.int (Ul ns)):=by simp[ZkT,ZaX,h]
theorem ZdB {ns:List Int} (h:ns.length<=1000000):ZeG [.lst (ns.map PV.int)]=.ok (.lst (ns.map PV.int)):=by
 simp only[ZeG];exact Qc h
theorem ZeC {ns:List Int}{k:Int} (h0:ns.length*k.toNat<=1000000) (h1:-(2^63)<=k) (h2:k<2^63):Zjz (ns.map PV.int) (.int k)=.ok (.lst ((List.replicate k.toNat ns).flatten.map PV.int)):=by
 simp only[Zjz,ZqN]
 rw[if_pos ⟨h0,h1,h2⟩]
 have e:(List.replicate k.toNat (ns.map PV.int)).flatten=(List.replicate k.toNat ns).flatten.map PV.int:=by
  rw[List.map_flatten,List.map_replicate]
 rw[e]
 refine Qc ?_
 rw[ZeZ,Nat.mul_comm];exact h0
theorem Zf6 {i j:Int} (a b:Nat) (h1:i.natAbs<=10^a) (h2:j.natAbs<=10^b) (ha:a<=4000:=by decide) (hb:b<=4000:=by decide):Zcn i j:=by
 have t:∀c:Nat,c<=4000->(10:Nat)^c<2^60000:=fun c hc=>ZrL (Nat.pow_le_pow_right (by decide) hc) (by decide +kernel)
 exact⟨ZrL h1 (t a ha),ZrL h2 (t b hb)⟩
theorem Zf7 {i j:Int} (b:Nat) (h1:0<j) (h2:j.natAbs<=10^b) (hb:b<=2000:=by decide):Zco i j:=by
 have t:∀c:Nat,c<=2000->(10:Nat)^c<2^9000:=fun c hc=>ZrL (Nat.pow_le_pow_right (by decide) hc) (by decide +kernel)
 exact⟨h1,ZrL h2 (t b hb)⟩
theorem ZeK {i j:Int} (h:Zco i j):Zkz (.int i) (.int j)=.ok (.int (i/j)):=ZcU (decide_eq_true h)
theorem ZeE {i j:Int} (h:Zcn i j):ZlH (.int i) (.int j)=.ok (.int (i*j)):=ZcU (decide_eq_true h)
theorem Vz {i j:Int} (h:0<j):ZlI (.int i) (.int j)=.ok (.int (i%j)):=ZcU (decide_eq_true h)
theorem Zia {i j:Int} (h:ZiS i j):ZkS (.int i) (.int j)=.ok (.int (i^j.toNat)):=ZcU (decide_eq_true h)
@[simp] theorem ZeM {i j:Int}:ZkU (.int i) (.int j)=.ok (.int (i+j)):=rfl
@[simp] theorem ZeA {i j:Int}:ZkR (.int i) (.int j)=.ok (.int (i-j)):=rfl
@[simp] theorem Zhh {i j:Int}:pLt (.int i) (.int j)=.ok (.bl (decide (i<j))):=rfl
@[simp] theorem Zhi {i j:Int}:pLe (.int i) (.int j)=.ok (.bl (decide (i<=j))):=rfl
@[simp] theorem Zhp {i j:Int}:pGt (.int i) (.int j)=.ok (.bl (decide (j<i))):=rfl
@[simp] theorem Zhq {i j:Int}:pGe (.int i) (.int j)=.ok (.bl (decide (j<=i))):=rfl
@[simp] theorem Zfq {i:Int}:grd (.int i)=.ok (.int i):=rfl
@[simp] theorem Zh6 {b:Bool}:asB (.bl b)=.ok b:=rfl
@[simp] theorem Zci {xs:List PV}:asL (.lst xs)=.ok xs:=rfl
@[simp] theorem ZfH {i:Int}:asI (.int i)=.ok i:=rfl
@[simp] theorem Zhn {n:String}{x:Int}:Zj1 n (.int x)=.ok (.bl (Ql (JL (.int x)) n)):=rfl
@[simp] theorem Zhm {n:String}{x:List PV}:Zj1 n (.lst x)=.ok (.bl (Ql (JL (.lst x)) n)):=rfl
@[simp] theorem Zhl {n:String}{x:List PV}:Zj1 n (.tup x)=.ok (.bl (Ql (JL (.tup x)) n)):=rfl
@[simp] theorem ZeD {i:Int}:Zky (.int i)=.ok (.int (-i)):=rfl
@[simp] theorem Zhk {x:PV}{xs:List PV}:pIx (.tup (x::xs)) (.int 0)=.ok x:=by simp[pIx,atI,ixN]
@[simp] theorem Zhj {x y:PV}{xs:List PV}:pIx (.tup (x::y::xs)) (.int 1)=.ok y:=by
 have:atI (x::y::xs) 1=some y:=by unfold atI;rw[Zdc (by omega) (by simp only[ZqY];omega)];rfl
 simp only[pIx,this]
theorem ZcO {j:Int} (h:-(2^62)<=j/\j<2^62):Zgi [.int j]=.ok (Zd8 0 j.toNat):=by simp only[Zgi,okR,decide_eq_true h,if_true]
theorem ZcN {i j:Int} (h:-(2^62)<=i/\i<2^62) (h':-(2^62)<=j/\j<2^62):Zgh [.int i,.int j]=.ok (Zd8 i (j-i).toNat):=by simp only[Zgh,okR,decide_eq_true h,decide_eq_true h',Bool.and_self,if_true]
theorem ZbL {xs:List PV} (h:xs.length<=1000000):lenM xs=.ok ():=by simp only[lenM,if_pos h]
@[simp] theorem Zdf:Ql (JL (.int i)) "int"=true:=rfl
@[simp] theorem Zdg:Ql (JL (.int i)) "bool"=false:=rfl
@[simp] theorem Zde:Ql (JL (.lst xs)) "list"=true:=rfl
@[simp] theorem Zdd:Ql (JL (.tup xs)) "tuple"=true:=rfl
theorem Vq {I:List PV->Prop}{ρ:List PV} (h:I ρ):(RS.next ρ).good I:=h
theorem Zdh {h:PV->List PV->Rr (List PV)}{hs:List PV->List PV->Rr (List PV)}{x:PV}{xs ρ:List PV}:hdR h hs (x::xs) ρ=(h x ρ).bind fun ρ'=>hs xs ρ':=rfl
theorem ZcW {ρ:List PV}:ZlK [] ρ=.ok ρ:=rfl
theorem ZR {ns ms:List Int} (e:ns.map PV.int=ms.map PV.int):ns=ms:=by
 have:=congrArg Uq e
 simpa using this
theorem QK {i j:Int} (h0:0<j) (h1:j<1000000000000):Zkz (.int i) (.int j)=.ok (.int (i/j)):=ZeK (Zf7 12 h0 (by omega))
theorem Zj4:ZkS (.int 10) (.int 60)=.ok (.int (10^60)):=by rw[Zia (by decide)];rfl
theorem Zhu {xs:List PV} (h:xs.length<=1000):mkT xs=.ok (.tup xs):=if_pos h
theorem Zhv {xs:List PV} (h:xs.length<=1000):mkL xs=.ok (.lst xs):=if_pos h
noncomputable def KD {α:Type}:Sem α->Prop
 |.pure _=>True
 |.raise _=>True
 |.unsupported _=>True
 |.finish _=>True
 |.rule _ k=>KD (k ())
 |.at _ k=>KD (k ())
 |.load _ _ k=>∀o,KD (k o)
 |.update _ _ f k=>(∀o:Obj,(f o).dict=o.dict/\(o.isFreed=false->(f o).isFreed=false))/\KD (k ())
 |.alloc _ k=>∀a,KD (k a)
 |.loadIfAlive _ k=>∀o,KD (k o)
 |.point _ k=>KD (k ())
 |.register _ _=>True
 |.fresh k=>∀t,KD (k t)
 |.ask k=>∀x,KD (k x)
 |.choose _ _ k=>∀n,KD (k n)
 |.os _ _ k=>∀r,KD (k r)
 |.call _ _ _ _ _=>False
 |.handled _ k=>∀x,KD (k x)
 |.newGen _ k=>∀g,KD (k g)
 |.genState _ k=>∀x,KD (k x)
 |.resume _ _ _ _=>False
 |.yield _ _ _ _=>True
 |.stack k=>∀x,KD (k x)
 |.fork _ _=>True
 |.thread k=>∀x,KD (k x)
 |.await _ _ _ _ _=>True
def DK (h h':Heap):Prop:=∀b o,h.get? b=some o->∃o',h'.get? b=some o'/\o'.dict=o.dict
theorem DK.refl (h:Heap):DK h h:=fun b o e=>⟨o,e,rfl⟩
theorem DK.trans {h1 h2 h3:Heap} (a:DK h1 h2) (b:DK h2 h3):DK h1 h3:=fun x o e=>by
 obtain⟨o1,e1,d1⟩:=a x o e
 obtain⟨o2,e2,d2⟩:=b x o1 e1
 exact⟨o2,e2,d2.trans d1⟩
theorem Zla {M:Model}{Γ:PySem.Ctx}{α:Type}{Q:α->Pos->Shared->Prop}{E:Value->Pos->Shared->Prop}{h0:Heap}:∀(t:Sem α) (p:Pos) (s:Shared),KD t->DK h0 s.heap->Sem.wp M Γ t Q E p s ->
  Sem.wp M Γ t (fun a p' s'=>Q a p' s'/\DK h0 s'.heap) (fun e p' s'=>E e p' s'/\DK h0 s'.heap) p s:=by
 intro t
 induction t with
 |pure a=>intro p s _ d h;exact⟨h,d⟩
 |raise e=>intro p s _ d h;exact⟨h,d⟩
 |unsupported w=>intro p s _ _ h;exact h
 |finish e=>intro p s _ _ h;exact h
 |rule t k ih=>intro p s k d h;exact ih () p s k d h
 |«at» q k ih=>intro p s k d h;exact ih () q s k d h
 |load a q k ih=>intro p s k d h;obtain⟨o,e,h⟩:=h;exact⟨o,e,ih o p s (k o) d h⟩
 |update a q f k ih =>
  intro p s k d h
  refine⟨h.1,ih () p _ k.2 (d.trans fun b o e=>?_) h.2⟩
  by_cases hb:a=b
  ·subst hb
   exact⟨_,Heap.get?_update_self f e ((k.1 o).2 (Heap.get?_some_iff.mp e).2),(k.1 o).1⟩
  ·exact⟨o,(Heap.get?_update_other _ f hb).trans e,rfl⟩
 |alloc o k ih=>intro p s k d h;exact ih _ p _ (k _) (d.trans fun b o' e=>⟨o',Heap.get?_push_of_some _ e,rfl⟩) h
 |loadIfAlive a k ih=>intro p s k d h;exact ih _ p s (k _) d h
 |point l k ih=>intro p s k d h;exact ih () p s k d h
 |register a k ih=>intro p s _ _ h;exact h
 |fresh k ih=>intro p s k d h;exact ih _ p _ (k _) d h
 |ask k ih=>intro p s k d h;exact ih _ p _ (k _) d h
 |choose a n k ih=>intro p s k d h;exact⟨h.1,ih _ p _ (k _) d h.2⟩
 |os q l k ih=>intro p s k d h;exact ih _ p _ (k _) d h
 |call c h g l k ih=>intro p s k d h;exact k.elim
 |handled o k ih=>intro p s k d h;exact ih _ p _ (k _) d h
 |newGen c k ih=>intro p s k d h;exact ih _ p _ (k _) d h
 |genState g k ih=>intro p s k d h;obtain⟨st,e,h⟩:=h;exact⟨st,e,ih _ p s (k _) d h⟩
 |resume g r l k ih=>intro p s k d h;exact k.elim
 |yield v g l k ih=>intro p s _ _ h;exact h
 |stack k ih=>intro p s k d h;exact ih _ p _ (k _) d h
 |fork c k ih=>intro p s _ _ h;exact h
 |thread k ih=>intro p s k d h;exact ih _ p _ (k _) d h
 |await a t d l k ih=>intro p s _ _ h;exact h
theorem Zhx {M:Model}{A:Around}{α:Type}{t:Sem α}{Q:α->Shared->Prop}{E:Value->Shared->Prop}{s:Shared} (k:KD t) (h:wpAny M A t Q E s):wpAny M A t (fun a s'=>Q a s'/\DK s.heap s'.heap) (fun e s'=>E e s'/\DK s.heap s'.heap) s:=
 fun Γ p hΓ=>Zla t p s k (DK.refl _) (h Γ p hΓ)
theorem Z4 {α β:Type}:∀(m:Sem α) {f:α->Sem β},KD m->(∀a,KD (f a))->KD (m >>= f):=by
 intro m f
 show KD m->_->KD (m.bind f)
 induction m with
 |pure a=>intro _ h;exact h a
 |raise e=>intro _ _;trivial
 |unsupported w=>intro _ _;trivial
 |finish e=>intro _ _;trivial
 |rule t k ih=>intro k h;exact ih () k h
 |«at» q k ih=>intro k h;exact ih () k h
 |load a q k ih=>intro k h o;exact ih o (k o) h
 |update a q g k ih=>intro k h;exact⟨k.1,ih () k.2 h⟩
 |alloc o k ih=>intro k h a;exact ih a (k a) h
 |loadIfAlive a k ih=>intro k h o;exact ih o (k o) h
 |point l k ih=>intro k h;exact ih () k h
 |register a k ih=>intro _ _;trivial
 |fresh k ih=>intro k h a;exact ih a (k a) h
 |ask k ih=>intro k h a;exact ih a (k a) h
 |choose a n k ih=>intro k h a;exact ih a (k a) h
 |os q l k ih=>intro k h a;exact ih a (k a) h
 |call c h g l k ih=>intro k h;exact k.elim
 |handled o k ih=>intro k h a;exact ih a (k a) h
 |newGen c k ih=>intro k h a;exact ih a (k a) h
 |genState g k ih=>intro k h a;exact ih a (k a) h
 |resume g r l k ih=>intro k h;exact k.elim
 |yield v g l k ih=>intro _ _;trivial
 |stack k ih=>intro k h a;exact ih a (k a) h
 |fork c k ih=>intro _ _;trivial
 |thread k ih=>intro k h a;exact ih a (k a) h
 |await a t d l k ih=>intro _ _;trivial
theorem ZO {α:Type}{a:α}:KD (pure a:Sem α):=trivial
theorem QC {α:Type}{w:String}:KD (unsupported w:Sem α):=trivial
theorem ZbO {a:Addr}:KD (load a):=fun _=>trivial
theorem ZjG (g:Array Value->Array Value) (o:Obj):(Obj.mapFields g o).dict=o.dict/\(o.isFreed=false->(Obj.mapFields g o).isFreed=false):=by
 obtain⟨c,d,dt,sl⟩:=o
 cases dt<;>exact⟨rfl,fun h=>h⟩
theorem ZbQ (v:Value):KD (fieldsOf v):=by
 unfold fieldsOf
 cases v<;>try exact QC
 refine Z4 _ ZbO fun o=>?_
 cases o.data<;>first|exact ZO|exact QC
theorem UE (v:Value) (i:Nat):KD (field v i):=by
 unfold field
 refine Z4 _ (ZbQ v) fun vs=>?_
 cases vs[i]?<;>first|exact ZO|exact QC
theorem V3 (v:Value) (i:Nat) (x:Value):KD (setField v i x):=by
 unfold setField
 cases v<;>try exact QC
 unfold updateField
 refine Z4 _ ZbO fun o=>?_
 cases o.data<;>try exact QC
 dsimp only
 split
 ·exact⟨fun o=>ZjG _ o,trivial⟩
 ·exact QC
theorem Zbc (e:Value) (f:Option Addr):KD (setFlight e f):=by
 unfold setFlight
 refine Z4 _ (UE e 1) fun tb=>?_
 split
 ·exact V3 _ _ _
 ·exact ZO
theorem Zbd (ty:String) (vs:List Value):KD (newFields ty vs):=by
 unfold newFields newObj newObjAsIs
 dsimp only
 have al:∀(o:Obj),KD (alloc o):=fun _ _=>trivial
 split
 ·exact Z4 _ QC fun _=>Z4 _ (al _) fun _=>ZO
 ·exact Z4 _ (al _) fun _=>ZO
theorem Zfg (env:Env) (outer:List Env):KD (behindIsImport env outer):=by
 unfold behindIsImport
 split
 ·exact ZO
 ·split
  ·exact ZO
  ·exact Z4 _ (UE _ _) fun _=>ZO
theorem ZbP (env:Env) (i:Bool) (outer:List Env):KD (keptBack env i outer):=by
 cases outer with
 |nil =>
  have u:KD underTheClaimsCaller:=by
   unfold underTheClaimsCaller
   exact Z4 _ (show KD stack from fun _=>trivial) fun _=>ZO
  rw[keptBack]
  split
  ·exact ZO
  ·exact Z4 _ u fun _=>ZO
 |cons c r=>unfold keptBack;exact ZO
theorem Zgu {o:Obj}{sl:Array (Option Value)}:({ o with slots:=sl }:Obj).dict=o.dict/\(o.isFreed=false->({ o with slots:=sl }:Obj).isFreed=false):=by
 obtain⟨c,d,dt,s⟩:=o
 cases dt<;>exact⟨rfl,fun h=>h⟩
theorem Zdb:∀(l:List Env),KD (readyFrames l)
 |[]=>trivial
 |env::outer=>by
  unfold readyFrames
  cases env.frame with
  |none=>exact QC
  |some f =>
   dsimp only
   refine Z4 _ ZbO fun o=>?_
   split
   ·exact ZO
   ·refine Z4 _ (Zfg _ _) fun _=>Z4 _ (ZbP _ _ _) fun _=>Z4 _ ⟨fun o=>Zgu,trivial⟩ fun _=>Zdb outer
theorem ZdM (env:Env):KD (PySem.frameOf env):=by
 unfold PySem.frameOf
 refine Z4 _ ?_ fun l=>Z4 _ ?_ fun r=>?_
 ·unfold frameEnvs
  exact Z4 _ (fun _=>trivial) fun _=>ZO
 ·cases (List.dropWhile (fun x=>x.frame != env.frame) l) with
  |nil=>exact ZO
  |cons a r=>exact Z4 _ (Zdb _) fun _=>ZO
 ·cases r<;>first|exact ZO|exact QC
theorem Zgv (f:Addr) (b:Bool):KD (entryPlaceOf f b):=by
 unfold entryPlaceOf
 refine Z4 _ (show KD stack from fun _=>trivial) fun acts=>?_
 split<;>exact ZO
theorem Zip (e:Value) (env:Env):KD (noteFrame e env):=by
 unfold noteFrame
 cases env.frame with
 |none=>exact QC
 |some f =>
  dsimp only
  refine Z4 _ (UE _ _) fun head=>?_
  have tail:∀(hd:Bool),KD (do setField e 1 (<- EntryCells.newEntry head (<- PySem.frameOf env) .none (rawInt f) .none (<- entryPlaceOf f hd))):=fun hd =>
   Z4 _ (ZdM env) fun _=>Z4 _ (Zgv _ _) fun _=>Z4 _ (Zbd _ _) fun _=>V3 _ _ _
  split
  ·refine Z4 _ (UE _ _) fun x=>?_
   split
   ·exact ZO
   ·exact Z4 _ (V3 _ _ _) fun _=>tail _
  ·exact tail _
theorem QN (env:Env) (e:Value):KD (leaving env e):=Z4 _ (Zip e env) fun _=>Zbc e none
theorem Ji.there {P:Program}{w:World}{H:Hp}{h:Heap}{a:Addr}{o:HO} (x:Ji P w H h a o):∃u,h.get? a=some u:=by
 cases o with
 |lst xs=>obtain⟨_,_,_,_,e⟩:=x;exact⟨_,e⟩
 |tup xs=>obtain⟨_,_,_,_,e,_⟩:=x;exact⟨_,e⟩
 |dK kvs=>obtain⟨_,_,_,_,o,_,_,e,_⟩:=x;exact⟨_,e⟩
 |dT kvs=>obtain⟨_,_,_,_,o,_,_,e,_⟩:=x;exact⟨_,e⟩
 |set S n=>obtain⟨o,_,_,_,e,_⟩:=x;exact⟨_,e⟩
 |ins C dx fs=>obtain⟨_,_,_,e,_⟩:=x;exact⟨_,e⟩
 |own y=>obtain⟨_,e⟩:=x;exact⟨_,e⟩
 |xd fs=>obtain⟨_,⟨_,_,_,e,_⟩,_⟩:=x;exact⟨_,e⟩
 |rng lo hi=>obtain⟨_,_,_,e⟩:=x;exact⟨_,e⟩
 |frz ob u=>exact⟨_,x.1⟩
 |tbl ps=>exact⟨_,x⟩
 |met f y=>exact⟨_,x⟩
 |ext φ=>exact x.2.1
def Zk7 (H:Hp) (ea k:Addr) (o:Obj):Prop:=(o.dict=none/\k=ea)\/(o.dict=some k/\∃fs,H k=some (.xd fs))
structure Fly (P:Program) (w:World) (outer:List Env) (H:Hp) (s:Shared) (ea k:Addr) (cls:Value) (H':Hp) (s':Shared):Prop where
 os:s'.os=s.os
 bare:AllBare s'.gens
 un:Un (frs outer) [] H H' s.heap s'.heap
 hok:HOk P w H' s'.heap
 new:H' ea=none
 dict:∃o,s'.heap.get? ea=some o/\Zk7 H' ea k o
 fly:∃(Bh:Heap) (t:Addr),Heap.FlyingW Bh outer ea cls (.ref t) s'.heap/\(∀b u,H' b=some u->∀o,s'.heap.get? b=some o->Bh.get? b=some o)/\∀b o,s.heap.get? b=some o->b ∉ frs outer->∃o',Bh.get? b=some o'
noncomputable def CX1 (P:Program) (w:World):CXT:=fun outer H s E e s'=>∃ea k cls H',e=.ref ea/\Fly P w outer H s ea k cls H' s'/\E cls (some k) H'
section
variable {P:Program}{w:World}{K:W.Frag}{mg:Str->Option Value}{base:Heap}{N:List Str}{qual:Str}{scope:Scope}{f:Addr}{cd:Value}{A:Around}{outer:List Env}{s:Shared}{H:Hp}{E:XK}
 {pins:List (Addr×Obj)}{σ:St}{H1 H':Hp}{s1 s':Shared}{g h'' Bh:Heap}{ea k t:Addr}{cls:Value}
theorem Zfr (I:Inv (Zbo (CX1 P w) P w K mg base N qual scope f cd A outer s H E) pins σ H1 s1) (os:s'.os=s1.os) (bare:AllBare s'.gens) (un:Un (s.heap.objs.size::frs outer) [] H1 H' s1.heap g) (hok:HOk P w H' g) (up:g.UpToSlots h'')
  (fl:Heap.FlyingW Bh outer ea cls (.ref t) h'') (st:Bh.StaysIn g) (c1:∀b u,H' b=some u->∀o,g.get? b=some o->Bh.get? b=some o) (c2:∀b o,s.heap.get? b=some o->b ∉ s.heap.objs.size::frs outer->∃o',Bh.get? b=some o')
  (new:H' ea=none) (dn:∃o,g.get? ea=some o/\Zk7 H' ea k o) (dk:DK g h''):Fly P w outer H s ea k cls H' { s' with heap:=h'' }:=by
 have neL:∀b o,s.heap.get? b=some o->b≠s.heap.objs.size:=fun b o e=>Zrk (Heap.lt_size e)
 have nin:∀b o,s.heap.get? b=some o->b ∉ frs outer->b ∉ s.heap.objs.size::frs outer:=fun b o e n z=>(ZqS.mp z).elim (neL b o e) n
 have b0:Un (frs outer) [] H H1 s.heap s1.heap:=I.base
 have fr0:∀b∈frs outer,H b=none:=I.ok.frf
 have slot:∀b o,s.heap.get? b=some o->H b=none->b∈frs outer->∃sl,h''.get? b=some { o with slots:=sl }:=fun b o q n hb=>by
  obtain⟨s2,e1⟩:=b0.slot b o q n hb (by simp)
  obtain⟨s3,e2⟩:=un.slot b _ e1 (b0.free b o q n (by simp)) (Zrj _ hb) (by simp)
  obtain⟨_,o',ho',hnf⟩:=Heap.FunFrames.mem (show s.heap.FunFrames base outer from I.ok.funs) hb
  rw[q] at ho';cases ho'
  obtain⟨s4,e3⟩:=up b _ e2 hnf
  exact⟨s4,e3⟩
 have keepB:∀b o,s.heap.get? b=some o->H b=none->b ∉ frs outer->Bh.get? b=some o:=fun b o q n hb=>by
  have e1:=b0.keep b o q n hb (by simp)
  have e2:=un.keep b o e1 (b0.free b o q n (by simp)) (nin b o q hb) (by simp)
  obtain⟨o',e3⟩:=c2 b o q (nin b o q hb)
  have e4:=st b o' e3
  rw[e2] at e4;cases e4
  exact e3
 have thereB:∀b o,s.heap.get? b=some o->b ∉ frs outer->∃o',Bh.get? b=some o':=fun b o q hb=>by
  exact c2 b o q (nin b o q hb)
 refine⟨os.trans I.os,bare,⟨fun b o q n hb _=>fl.1 b o (keepB b o q n hb),fun b o q n hb _=>slot b o q n hb,fun b o q n _=>?_,fun b o q _=>?_,fun b xs q=>un.tups b xs (b0.tups b xs q),fun b o xs q=>un.frzs b o xs (b0.frzs b o xs q),fun b ps q=>?_⟩,fun b u e=>?_,new,(let ⟨o,e,d⟩:=dn;let ⟨o',e',d'⟩:=dk ea o e;⟨o',e',by unfold Zk7 at d ⊢;rw[d'];exact d⟩),Bh,t,fl,fun b u e o q=>?_,thereB⟩
 ·obtain⟨o1,e1⟩:=b0.there b o q (by simp)
  exact un.free b o1 e1 (b0.free b o q n (by simp)) (by simp)
 ·by_cases hb:b∈frs outer
  ·obtain⟨sl,e⟩:=slot b o q (fr0 b hb) hb
   exact⟨_,e⟩
  ·obtain⟨o',e⟩:=thereB b o q hb
   exact⟨o',fl.1 b o' e⟩
 ·obtain⟨m1,e1⟩:=b0.tbls b ps q
  obtain⟨m2,e2⟩:=un.tbls b _ e1
  exact⟨m1++m2,by rw[e2,Array.append_assoc]⟩
 ·refine(hok b u e).stay (fun c v hc q=>?_) (fun _ q=>q) fun _ _ q=>q
  rcases hc with rfl|hc
  ·exact fl.1 c v (c1 c u e v q)
  ·exact fl.1 c v (c1 c _ hc v q)
 ·obtain⟨o1,e1⟩:=(hok b u e).there
  have e2:=c1 b u e o1 e1
  have e3:=fl.1 b o1 e2
  rw[e3] at q;cases q
  exact e2
def ZiI (X:Cx) (E:St->XK):Prop:=∀(pins:List (Addr×Obj)) (σ:St) (H:Hp) (s:Shared) (e:Value) (s':Shared),Inv X pins σ H s->CX1 X.prog X.w X.stack H s (E σ) e s'->X.xe e s'
def Zkr (X:Cx) (E:St->XK):Prop:=∀(pins:List (Addr×Obj)) (σ:St) (H:Hp) (s:Shared) (h':Heap) (ea:Addr) (cls:Value) (args:List Value),Inv X pins σ H s->Heap.MadeExcOf s.heap h' ea cls args->E σ cls (some ea) H->X.xe (.ref ea) { s with heap:=h' }
theorem Zal:ZiI (Zbo (CX1 P w) P w K mg base N qual scope f cd A outer s H E) (fun _=>E):=fun pins σ H1 s1 e s' I hq=>by
 obtain⟨ea,k,cls,H',rfl,F,hE⟩:=hq
 obtain⟨Bh,t,fl,c1,c2⟩:=F.fly
 refine wpAny_mono (Zhx (QN _ _) (wpAny_leaves_onW (Q:=fun _ s''=>∃h'',s''={ s' with heap:=h'' }/\Heap.FlyingW Bh outer ea cls (.ref t) h''/\s'.heap.UpToSlots h'') I.ok.frames rfl fl fun h'' fl'' up=>⟨h'',rfl,fl'',up⟩)) (fun _ s'' q=>?_) fun _ _ q=>q.1
 obtain⟨⟨h'',rfl,fl'',up⟩,dk⟩:=q
 exact⟨ea,k,cls,H',rfl,Zfr I F.os F.bare F.un F.hok up fl'' fl.1 c1 (fun b o e n=>let ⟨o1,e1⟩:=(show Un (frs outer) [] H H1 s.heap s1.heap from I.base).there b o e (by simp);c2 b o1 e1 n) F.new F.dict dk,hE⟩
theorem ZbK:Zkr (Zbo (CX1 P w) P w K mg base N qual scope f cd A outer s H E) (fun _=>E):=fun pins σ H1 s1 h' ea cls args I hx hE=>by
 have hin:∀env∈(Zbo (CX1 P w) P w K mg base N qual scope f cd A outer s H E).stack,∀b,env.frame=some b->b∈frs (Zbo (CX1 P w) P w K mg base N qual scope f cd A outer s H E).stack:=fun env he b hb=>Zsn.mpr ⟨env,he,hb⟩
 have trk:∀b u,H1 b=some u->b ∉ frs (Zbo (CX1 P w) P w K mg base N qual scope f cd A outer s H E).stack:=fun b u e z=>by rw[I.stkFree b z] at e;cases e
 have new:H1 ea=none:=by
  cases q:H1 ea with
  |none=>rfl
  |some u=>obtain⟨o,e⟩:=(I.hok ea u q).there;rw[hx.new] at e;cases e
 refine wpAny_mono (Zhx (QN _ _) (wpAny_leaves_madeW (Q:=fun _ s''=>∃h'' t,s''={ s1 with heap:=h'' }/\Heap.FlyingW (PySem.W.hideAll s1.heap (frs (Zbo (CX1 P w) P w K mg base N qual scope f cd A outer s H E).stack)) outer ea cls (.ref t) h''/\h'.UpToSlots h'')
  (base:=PySem.W.hideAll s1.heap (frs (Zbo (CX1 P w) P w K mg base N qual scope f cd A outer s H E).stack)) (h:=s1.heap) I.ok.frames rfl (fun b o q=>PySem.W.of_hideAll _ q) (PySem.W.funFrames_hide I.stack hin) hx fun h'' t fl _ _ up=>⟨h'',t,rfl,fl,up⟩)) (fun _ s'' q=>?_) fun _ _ q=>q.1
 obtain⟨⟨h'',t,rfl,fl,up⟩,dk⟩:=q
 have dn:∃o,h'.get? ea=some o/\Zk7 H1 ea ea o:=by obtain⟨t,e,_⟩:=hx.there;exact⟨_,e,.inl ⟨rfl,rfl⟩⟩
 refine⟨ea,ea,cls,H1,rfl,Zfr (g:=h') (t:=t) (s':={ s1 with heap:=h' }) I rfl I.bare (Un.kept hx.keeps) (I.hok.kept hx.keeps) up fl (fun b o q=>hx.keeps b o (PySem.W.of_hideAll _ q)) (fun b u e o q=>?_) (fun b o q n=>let ⟨o1,e1⟩:=(show Un (frs outer) [] H H1 s.heap s1.heap from I.base).there b o q (by simp);⟨o1,PySem.W.hideAll_get _ e1 n⟩) new dn dk,hE⟩
 obtain⟨o1,e1⟩:=(I.hok b u e).there
 have e2:=hx.keeps b o1 e1
 rw[q] at e2;cases e2
 exact PySem.W.hideAll_get _ e1 (trk b u e)
end
noncomputable def Zli:List Value:=[.type "ValueError",.type "Exception",.type "BaseException",.type "object"]
noncomputable def ZgY (C:Addr) (E:St->XK) (ta:TA):TS:=fun D σ H=>ta σ H fun vs H1=>vs.length<=1000/\∀ea,H1 ea=none->E σ (.ref C) (some ea) H1
theorem Ziw {K:W.Frag}{h₀:Heap}{C:Addr}{bmB:List Value}{newId:String} (X:K.In h₀) (q:PySem.W.excIn K C bmB newId=true) :
  ∃tl N nm qn bs hdct sn sub ab col dd k0 k1 k2 k3 k5 mN,h₀.get? C=some (excClassObj nm qn C N bs tl hdct sn sub ab col dd k0 k1 k2 k3 k5 newId)/\h₀.Ns N mN/\mN "__init__"=none/\OwnTail h₀ bmB tl:=by
 unfold PySem.W.excIn at q
 split at q
 ·rename_i dd cd sl ho
  split at q
  ·rename_i C' bm k0 k1 k2 k3 n k5 hm hs
   simp only[Bool.and_eq_true,beq_iff_eq,Bool.not_eq_true'] at q
   obtain⟨⟨⟨⟨⟨rfl,rfl⟩,hdel⟩,ht⟩,hok⟩,hni⟩:=q
   obtain⟨nm,bs,mro,ns,qn,hd,sn,sub,ab,col,del⟩:=cd
   dsimp only at hm hdel hok hni
   subst hm hdel
   have hsl:sl=#[k0,k1,k2,k3,some (.builtin n),k5]:=by
    obtain⟨l⟩:=sl
    simp only at hs
    rw[hs]
   subst hsl
   exact⟨bm,ns,nm,qn,bs,hd,sn,sub,ab,col,dd,k0,k1,k2,k3,k5,_,X _ _ ho,.of_isNs (PySem.W.isNs_of_in X hok),PySem.W.nsMap_none_of_in X hok hni,PySem.W.tail_of_in X ht⟩
  ·cases q
 ·cases q
section
variable {X:Cx}{E:St->XK}{x:Str}{C:Addr}{np cpos pos:Pos}{e:Expr}{es:List Expr}{ta:TA}
theorem Zai (hM:Zkr X E) (hq:PySem.W.excIn X.K C Zli "ValueError.__new__"=true) (hg:Gl X x) (hm:X.mg x=some (.ref C)) (hc:X.calm=true) (ha:PA X (e::es) ta) (hdb:(x==("__debug__":Str))=false:=by decide)
  (he:starEach (e::es) X.env=(false,eval e X.env)::starEach es X.env:=by rfl) (hpl:(backTo cpos (starEach es X.env)).any (·.1)=false:=by rfl) :
  PS X (.Raise (some (.Call (.Name x np) (e::es) [] cpos)) none pos) (ZgY C E ta):=by
 intro pins s σ H D I h
 obtain⟨tl,N,nm,q,bs,hdct,sn,sub,ab,col,dd,k0,k1,k2,k3,k5,mN,hC,hN,hni,T⟩:=Ziw I.ok.mod.kin hq
 refine wpAny_Raise_call_subT (C:=C) (nm:=nm) (q:=q) (N:=N) (bs:=bs) (bm:=tl) (hdct:=hdct) (sn:=sn) (sub:=sub) (ab:=ab) (col:=col) (dd:=dd) (k0:=k0) (k1:=k1) (k2:=k2) (k3:=k3) (k5:=k5)
  PySem.F.excBase_ValueError (mN:=mN) (T.hasType PySem.F.excBase_ValueError.hasBase) (I.ok.hd hc) (by rw[he];show (false || (backTo cpos (starEach es X.env)).any (·.1))=false;rw[hpl];rfl) hni (VY I hg hm ⟨rfl, ?_⟩ hdb)
 have h2:=ha cpos pins s σ H _ I h
 rw[he] at h2 ⊢
 refine Calls.evalArgs_plain (wpAny_mono h2 (fun us s₂ z=>?_) fun _ _ y=>y)
 obtain⟨vs,H1,I1,r,hl,hE⟩:=z
 have hnew:∀{h':Heap}{ea:Addr}{args:List Value},Heap.MadeExcOf s₂.heap h' ea (.ref C) args->H1 ea=none:=fun {h' ea args} hx=>by
  cases q:H1 ea with
  |none=>rfl
  |some u=>obtain⟨o,e⟩:=(I1.hok ea u q).there;rw[hx.new] at e;cases e
 exact⟨rfl,Zrq (by rw[<- r.length];exact hl) (by decide),I1.bk _ _ hC,hN.keeps I1.bk,T.keeps I1.bk,fun h' ea hx=>hM pins σ H1 s₂ h' ea _ _ I1 hx (hE ea (hnew hx))⟩
end
end L2
namespace PySem.W
open PySem PySem.Spec PySem.Calls PyProof.Rows
section
variable {K:Frag}{D:Addr}
noncomputable def exOk (K:Frag) (D:Addr):Bool:=(findIn K (.ref D) "__getattribute__" == some (some (.builtin "BaseException.__getattribute__")))&&(findIn K (.ref D) "__getattr__" == some none)&&(mroIn K D (.type "BaseException")==some true)&&(mroIn K D (.type "object")==some true) &&
 (findIn K (.ref D) "__class__" == some (some (.builtin "object.__class__")))&&(specialIn K (.builtin "object.__class__") "__get__" == some (some (.builtin "getset_descriptor.__get__")))&&(takesIn K (.builtin "object.__class__")==some true)&&(clsIn K D).isSome
end
end PySem.W
namespace L2
open PySem PySem.Spec PyProof.Rows
def OkX (P:Program) (w:World) (K:W.Frag) (mg:Str->Option Value) (base:Heap) (k:Nat) (x:Str) (ps:List Str) (sp:Sp):Prop:=
 ∃f fd,J0 P w K mg base (CX1 P w) k f fd ps sp/\mg x=some (.ref f)/\PySem.W.keepIn K (.ref f)=true/\Q8 K fd ps []
theorem Zan {P:Program}{w:World}{K:W.Frag}{mg:Str->Option Value}{base:Heap}{k:Nat}{x:Str}{st:Stmt}{ps:List Str}{sp:Sp} (d:Dfn K mg x st) (b:Z3 x st ps)
  (h:∀{f fd},Fun K x x st f fd->J0 P w K mg base (CX1 P w) k f fd ps sp):OkX P w K mg base k x ps sp:=by
 obtain⟨f,fd,F,hm⟩:=d
 exact⟨f,fd,h F,hm,F.kp,F.binds b⟩
section
variable {X:Cx}{k:Nat}{x:Str}{ps:List Str}{sp:Sp}{p pos:Pos}{e:Expr}{es:List Expr}{t:TA}{E:St->XK}
noncomputable def Zcy (sp:Sp) (E:St->XK) (t:TA):TE:=fun σ H Q=>t σ H fun vs H1=>sp vs H1 Q (E σ)
theorem Jq (G:OkX X.prog X.w X.K X.mg X.base k x ps sp) (hr:Vv k X.A) (hg:Gl X x) (hx:ZiI X E) (ha:PA X (e::es) t) (hdb:(x==("__debug__":Str))=false:=by decide)
  (he:starEach (e::es) X.env=(false,eval e X.env)::starEach es X.env:=by rfl) (hpl:(backTo pos (starEach es X.env)).any (·.1)=false:=by rfl):PE X (.Call (.Name x p) (e::es) [] pos) (Zcy sp E t):=by
 obtain⟨f,fd,F,hm,hk,hb⟩:=G
 intro pins s σ H Q I h
 refine wpAny_Call_Name_kw (VY I hg hm ?_ hdb)
 refine PySem.W.callWith_K (h₀:=X.base) I.ok.mod.kin hk (thn (ha pos pins s σ H _ I h) fun us s1 ⟨vs,H1,I1,r,q⟩=>⟨I1.kIn, ?_⟩) he hpl
 have hl:(us++[]).length=ps.length:=by rw[Zrz,<- r.length];exact F.len _ _ _ _ q
 have hb':=hb s1 us I1.kIn hl
 rw[Zrz] at hb'
 refine wpAny_call (codeAny_mono (F.run X.A X.stack s1 H1 ⟨us,[]⟩ us vs Q (E σ) hr I1.env0 hb' r q) fun r s' hq=>?_)
 cases r with
 |error e=>exact hx pins σ H1 s1 e s' I1 hq
 |ok fl =>
  cases fl with
  |ret u=>exact I1.after hq
  |next=>exact False.elim hq
  |brk=>exact False.elim hq
  |cont=>exact False.elim hq
end
noncomputable def Zmf:PV->Hp->Addr->Prop
 |.non,H,k=>H k=none
 |.int i,H,k=>∃fs,H k=some (.xd fs)/\fs=[(("at":Str),V.int i)]
 |_,_,_=>False
def W1 (K:W.Frag):PX->XK->Hp->Prop:=fun e E H'=>∀C k,QW K e.1 C->Zmf e.2 H' k->E (.ref C) (some k) H'
section
variable {P:Program}{w:World}{K:W.Frag}{mg:Str->Option Value}{base:Heap}
theorem Fun.okX {x qual:Str}{st:Stmt}{f:Addr}{fd:FuncData}{N ps:List Str}{k n l:Nat}{kd:Kd}{m:List PV->Rr PV} (F:Fun K x qual st f fd) (S:Zx N ps (Ze st)) (hn:ps.length=n) (hl:N.length-n=l)
  (hbody:∀(cdv:Value) (A:Around) (outer:List Env) (s:Shared) (H:Hp) (E:XK),Vv k (A.deeper (envOfC qual (Ze st) s.heap.objs.size f cdv)) ->
   ∃t g Y,Y.r=kd/\PSs (Zbo (CX1 P w) P w K mg base N qual (Ze st) f cdv A outer s H E) (Zq st) t/\DS K (fun e H'=>W1 K e E H') (List.replicate n .S++List.replicate l .U) Y t g/\∀xs,Ref (m xs) (g (xs++List.replicate l .non)).out) (hkN:kd≠.N:=by nofun) :
  J0 P w K mg base (CX1 P w) (k+1) f fd ps (spF K n kd (W1 K) m):=by
 obtain⟨oc,od,kV,doc,pm,an,cdv,ct,osl,rfl,lk,hcd⟩:=F.ex
 refine ZjR lk hcd S (fun vs H Q E h=>?_) fun A outer s H vs Q E hr h=>?_
 ·obtain⟨B,xs,h1,h2,_⟩:=h
  rw[h1.length,h2,hn]
 ·obtain⟨B,xs,h1,h2,dn⟩:=h
  obtain⟨t,g,Y,hY,ht,hd,href⟩:=hbody cdv A outer s H E hr
  refine⟨t,ht, ?_⟩
  have A0:=Ag.init (n:=l) h1
  have est:V9 N vs=vs.map some++List.replicate l none:=by
   unfold V9
   rw[h1.length,h2,hl]
  rw[est]
  rw[h2] at A0
  refine hd _ H H _ _ _ _ A0 ?_
  have hdn:Dn (g (xs++List.replicate l .non)).out (fun x=>∀v H',Zy H H'->Zh7 K B H kd x v H'->Q v H') (fun e=>∀H',Zy H H'->W1 K e E H'):=by
   rcases href xs with e|e
   ·rw[e] at dn;exact dn.elim
   ·rw[<- e];exact dn
  have retK:∀{x v H'},Zh7 K (fun a=>B a\/H a=none) H kd x v H'->Zh7 K B H kd x v H':=fun {x v H'} h=>by
   cases kd with
   |P=>exact h
   |F=>exact h
   |T=>exact Rep.mono (fun a us s r=>⟨r,s.elim id .inr⟩) (fun a us r=>r) h
   |Z=>exact Rep.mono (fun a us s r=>⟨r,s.elim id .inr⟩) (fun a us r=>r) h
   |A=>exact Rep.mono (fun a us s r=>⟨r,s.elim id .inr⟩) (fun a us r=>r) h
   |N=>exact h
  cases e:g (xs++List.replicate l .non) with
  |next ρ =>
   rw[e] at hdn
   refine fun σ' H' F' fr A'=>hdn .non H' A'.same ?_
   cases kd with
   |P=>exact⟨rfl,rfl⟩
   |F=>exact⟨[],⟨rfl,rfl⟩,by simp⟩
   |T=>exact rfl
   |Z=>exact rfl
   |A=>exact rfl
   |N=>exact absurd rfl hkN
  |ret x=>rw[e] at hdn;exact fun v H' s r=>hdn v H' s (retK (hY▸r))
  |exc q=>rw[e] at hdn;exact fun H' s=>hdn H' s
  |brk ρ=>rw[e] at hdn;exact hdn.elim
  |cont ρ=>rw[e] at hdn;exact hdn.elim
  |bad=>rw[e] at hdn;exact hdn.elim
end
section
variable {K:W.Frag}{n:Nat}{m:List PV->Rr PV}{ta:TA}{Γ Γ':List Md}{fa:List PV->Rr (List PV)}{E:XK}
noncomputable abbrev EX1 (K:W.Frag) (E:XK):PX->Hp->Prop:=fun e H'=>W1 K e E H'
theorem Zk3 (hn:Len fa n) (ha:DAA K (EX1 K E) Γ Γ' ta fa):DE K (EX1 K E) Γ Γ' .P (Zcy (spF K n .P (W1 K) m) (fun _=>E) ta) (fun ρ=>(fa ρ).bind m):=Za1 (E:=E) (W:=W1 K) (fun σ H Q h=>h) (fun e H' h=>h) hn ha
theorem ZlP {EX:PX->Hp->Prop} (hn:Len fa n) (hm:∀xs q,m xs≠.exc q) (ha:DAA K EX Γ Γ' ta fa):DE K EX Γ Γ' .F (Vs (spF K n .F W0 m) ta) (fun ρ=>(fa ρ).bind m):=fun B H0 H σ ρ F R Q A d=>by
 refine ha B H0 H σ ρ F R _ A (d.bind.imp (fun xs hx d vs H1 F1 s1 f1 p1 A1=>?_) fun e q=>q)
 refine⟨fun _=>True,xs,p1,hn ρ xs hx, ?_⟩
 cases e:m xs with
 |ok x =>
  rw[e] at d
  intro v H2 s2 r
  obtain⟨G,r1,r2⟩:=r
  exact d v H2 (s1.trans s2) ⟨F1,f1,G,r1,fun a ha=>⟨(A1.fresh (r2 a ha)).1,.inl (s1.free (r2 a ha))⟩,A1.more s2 r2 r1.alive⟩
 |exc q=>exact(hm xs q e).elim
 |bad=>rw[e] at d;exact d.elim
theorem ZlO {EX:PX->Hp->Prop} (hn:Len fa n) (hm:∀xs q,m xs≠.exc q) (ha:DAA K EX Γ Γ' ta fa):DE K EX Γ Γ' .P (Vs (spF K n .P W0 m) ta) (fun ρ=>(fa ρ).bind m):=fun B H0 H σ ρ F R Q A d=>by
 refine ha B H0 H σ ρ F R _ A (d.bind.imp (fun xs hx d vs H1 F1 s1 f1 p1 A1=>?_) fun e q=>q)
 refine⟨fun _=>True,xs,p1,hn ρ xs hx, ?_⟩
 cases e:m xs with
 |ok x=>rw[e] at d;exact fun v H2 s2 r=>d v H2 (s1.trans s2) ⟨F1,f1,r.1,r.2,A1.grow s2⟩
 |exc q=>exact(hm xs q e).elim
 |bad=>rw[e] at d;exact d.elim
def Pm.calm (m:Pm):Prop:=∀a q,m.out a≠.exc q
theorem Pm.calm_fn {m:Pm} (h:m.calm) (xs:List PV) (q:PX):m.fn xs≠.exc q:=by
 unfold Pm.fn
 by_cases hx:∃a,m.enc a=xs/\m.pre a
 ·rw[dif_pos hx];exact h _ q
 ·rw[dif_neg hx];exact fun z=>by cases z
theorem Zay {C:Addr}{x:Str}{Y:Tys} (hC:QW K x C) (hn:Len fa n) (hl:n<=1000) (ha:DAA K (EX1 K E) Γ Γ' ta fa):DS K (EX1 K E) Γ Y (ZgY C (fun _=>E) ta) (fun ρ=>(fa ρ).thenS fun _=>.exc (x,.non)):=fun B H0 H σ ρ F D A d=>by
 refine ha B H0 H σ ρ F [] _ A (d.thenS.imp (fun xs hx d vs H1 F1 s1 f1 p1 A1=>?_) fun e q=>q)
 exact⟨by rw[p1.length,hn ρ xs hx];exact hl,fun ea hea=>d H1 A1.same C ea hC hea⟩
end
theorem Zy.newO {H:Hp}{p:Addr}{o:HO} (hp:H p=none):Zy H (L2.upd H p o):=fun b u h=>by rw[L2.Zp (Z0 h hp)];exact h
section
end
noncomputable def ZlW (K:W.Frag) (n:Str):Bool:=match PySem.W.nsIn K mainGlobals n with
 |some (some (.ref C))=>PySem.W.exOk K C&&(PySem.W.kitOne K (.type "NoneType") (.ref C)==some false)&&(PySem.W.kitOne K (.ref C) (.type "ValueError")==some true)
 |_=>false
noncomputable def ZlV (K:W.Frag) (q:Str×Str×Bool):Bool:=match PySem.W.nsIn K mainGlobals q.1,PySem.W.nsIn K mainGlobals q.2.1 with
 |some (some (.ref D)),some (some (.ref C))=>(PySem.W.kitOne K (.ref D) (.ref C)==some q.2.2)&&(PySem.W.exmOne K (.ref D) (.ref C)==some q.2.2)
 |_,_=>false
noncomputable def Zl3 (K:W.Frag) (ns:List Str) (ss:List (Str×Str×Bool)):Bool:=(PySem.W.kitOne K (.type "NoneType") (.type "ValueError")==some false)&&(ns.all (ZlW K)&&ss.all (ZlV K))
section
variable {K:W.Frag}{ns:List Str}{n:Str}
noncomputable def ZhB (K:W.Frag) (ns:List Str):Bool:=ns.all fun n=>match PySem.W.nsIn K mainGlobals n with
 |some (some (.ref C))=>PySem.W.excIn K C Zli "ValueError.__new__"
 |_=>false
theorem QX (h:ZhB K ns=true) (hn:n∈ns):∃C,QW K n C/\PySem.W.excIn K C Zli "ValueError.__new__"=true:=by
 have:=ZrK.mp h n hn
 split at this
 ·rename_i C e
  exact⟨C,e,this⟩
 ·cases this
theorem QW.inj {C D:Addr} (a:QW K n C) (b:QW K n D):C=D:=by have z:=a.symm.trans b;simpa using z
end
def ZgQ (K:W.Frag) (n m qual:Str) (st:Stmt):Prop:=∃C f fd,QW K n C/\PySem.W.findIn K (.ref C) m=some (some (.ref f))/\PySem.W.typeIn K (.ref f)=some (.type "function")/\Fun K m qual st f fd
theorem UY {X:Cx}:ZiI X (fun _=>E0):=fun _ _ _ _ _ _ _ h=>by obtain⟨_,_,_,_,_,_,q⟩:=h;exact q.elim
section
variable {K:W.Frag}{n:Nat}{m:List PV->Rr PV}{ta:TA}{Γ Γ':List Md}{fa:List PV->Rr (List PV)}
theorem Zk2 (hn:Len fa n) (ha:DAA K X0 Γ Γ' ta fa):DE K X0 Γ Γ' .F (Zcy (spF K n .F (W1 K) m) (fun _=>E0) ta) (fun ρ=>(fa ρ).bind m):=Zdu (E:=E0) (W:=W1 K) (fun σ H Q h=>h) (fun e H' h=>h.elim) hn ha
theorem Zma (hn:Len fa n) (ha:DAA K X0 Γ Γ' ta fa):DE K X0 Γ Γ' .P (Zcy (spF K n .P (W1 K) m) (fun _=>E0) ta) (fun ρ=>(fa ρ).bind m):=Za1 (E:=E0) (W:=W1 K) (fun σ H Q h=>h) (fun e H' h=>h.elim) hn ha
end
theorem Vk {ns ms:List Int}:ns.map PV.int=ms.map PV.int ↔ ns=ms:=⟨ZR,fun h=>by rw[h]⟩
noncomputable def orX (o:Option Str) (x:PV):Rr PV:=match o with
 |none=>.ok x
 |some n=>.exc (n,.non)
theorem JY {b:PV->List PV->RS}{xs:List PV}{ρ:List PV}{W:RS} (hw:ZaA b xs ρ=W) (I:Nat->List PV->Prop) (h0:I 0 ρ) (h:∀i x ρ,xs[i]?=some x->I i ρ->(b x ρ).good (I (i+1))) :
  ∃ρ',W=.next ρ'/\I xs.length ρ':=by
 obtain⟨ρ',h1,h2⟩:=UG I h0 h
 exact⟨ρ',hw.symm.trans h1,h2⟩
theorem Zb4 {c:List PV->Rr Bool}{b:List PV->RS}{ρ:List PV}{W:RS} (hw:Vr c b ρ=W) (N:Nat) (I:Nat->List PV->Prop) (h0:I 0 ρ) (hs:∀i ρ,i<N->I i ρ->c ρ=.ok true/\(b ρ).good (I (i+1))) (he:∀ρ,I N ρ->c ρ=.ok false) :
  ∃ρ',W=.next ρ'/\I N ρ':=by
 subst hw
 have key:∀m i ρ,N=i+m->I i ρ->∃ρ',JC c b (m+1) ρ=some (.next ρ')/\I N ρ':=by
  intro m
  induction m with
  |zero =>
   intro i ρ hl hI
   obtain rfl:N=i:=by omega
   refine⟨ρ, ?_,hI⟩
   unfold JC
   rw[he ρ hI]
  |succ m ih =>
   intro i ρ hl hI
   obtain⟨h1,h2⟩:=hs i ρ (by omega) hI
   obtain⟨ρ',h3,h4⟩:=RS.good_ex h2
   obtain⟨ρ2,h5,h6⟩:=ih (i+1) ρ' (by omega) h4
   refine⟨ρ2, ?_,h6⟩
   unfold JC
   rw[h1]
   rcases h3 with h3|h3<;>(rw[h3];exact h5)
 obtain⟨ρ',h1,h2⟩:=key N 0 ρ (by omega) h0
 exact⟨ρ',UL h1,h2⟩
theorem Zin {f:PV->Rr PV}{g:Int->Bool}{ns:List Int} (h:∀z∈ns,f (.int z)=.ok (.bl (g z))):ZeX f (ns.map PV.int)=.ok ((ns.map g).map PV.bl):=by
 induction ns with
 |nil=>rfl
 |cons n ns ih =>
  simp only[Zrb,ZeX,h n (by simp),Rr.bind_ok,ih fun z hz=>h z (by simp[hz])]
theorem Zgl (bs:List Bool):Zj3 [.lst (bs.map PV.bl)]=.ok (.bl (bs.all id)):=by simp only[Zj3,ZfE]
theorem ZiF {ns:List Int}{p:Int->Prop} [DecidablePred p]:(ns.map fun z=>decide (p z)).all id=decide (∀x∈ns,p x):=by
 rw[Bool.eq_iff_iff,ZrK,decide_eq_true_iff]
 simp
theorem Zkd {ns:List Int}{h:Int} (h0:0<=h):Zi9 (ns.map PV.int) none (some h)=(ns.take h.toNat).map PV.int:=by
 unfold Zi9 HT.sIx
 simp only[ZqN,ZrQ,Nat.sub_zero]
 rw[if_neg (by omega),<- List.map_take]
 congr 1
 rw[List.take_eq_take_iff];omega
theorem Zgn {x:PV}:orX none x=.ok x:=rfl
theorem Zgm {x:PV}{n:Str}:orX (some n) x=.exc (n,.non):=rfl
theorem Zex {n:Nat}:List.replicate (n+1) PV.non=PV.non::List.replicate n PV.non:=rfl
theorem Zew:List.replicate 0 PV.non=[]:=rfl
section
end
theorem Zg2 {a b:Int}:grd (.tup [.int a,.int b])=.ok (.tup [.int a,.int b]):=rfl
section
variable {X:Cx}{pins:List (Addr×Obj)}{σ:St}{H:Hp}{s:Shared}{h':Heap}
theorem Inv.turned2 {t':Nat}{it e:Addr} (I:Inv X pins σ H s) (k:∀b o,b≠e->b≠it->s.heap.get? b=some o->h'.get? b=some o)
  (f:∀b,b=e\/b=it->H b=none/\b≠X.env.locals/\(b∈X.ex\/X.s₀.heap.objs.size<=b)/\(∀x c,X.env.cells.lookup x=some c->c≠b)/\∀p∈X.pn++pins,p.1≠b):Inv X pins σ H { s with heap:=h',toks:=t' }:=by
 have nit:∀b u,H b=some u->b≠e/\b≠it:=fun b u q=>by
  refine⟨fun z=>?_,fun z=>?_⟩
  ·rw[z,(f e (.inl rfl)).1] at q;cases q
  ·rw[z,(f it (.inr rfl)).1] at q;cases q
 refine I.step (g':=s.gens) (d':=s.drawn) (ch:=[e,it]) (fun b hb=>?_) (fun b o _ _ hc q _=>k b o (fun z=>hc (by simp[z])) (fun z=>hc (by simp[z])) q) (fun b o _ _ hc q _=>⟨o.slots,k b o (fun z=>hc (by simp[z])) (fun z=>hc (by simp[z])) q⟩) (fun _ _ _ _ n=>n)
  (fun b o hc q=>⟨o,k b o (fun z=>hc (by simp[z])) (fun z=>hc (by simp[z])) q⟩) (fun _ _ q=>q) (fun _ _ _ q=>q) (fun b ps q=>⟨#[],by rw[q];simp⟩) (fun m hm=>?_) (fun b u q=>?_) I.bare
 ·obtain⟨g0,g1,g2,g3,g4⟩:=f b (by simpa using hb)
  exact⟨g2,g1,g3,g4⟩
 ·obtain⟨o,es,ep,ho,r⟩:=hm
  exact⟨o,es,ep,k _ o (Ne.symm (f e (.inl rfl)).2.1) (Ne.symm (f it (.inr rfl)).2.1) ho,r⟩
 ·refine(I.hok b u q).stay (fun c v hc q2=>?_) (fun _ q2=>q2) fun _ _ q2=>q2
  have:c≠e/\c≠it:=by
   rcases hc with z|z
   ·rw[z];exact nit b u q
   ·exact nit c _ z
  exact k c v this.1 this.2 q2
theorem Inv.adoptT {D:Addr}{ys:List V}{its:List Value} (I:Inv X pins σ H s) (hn:H D=none) (h1:X.s₀.heap.objs.size<=D) (hL:D≠X.env.locals) (hc:∀x c,X.env.cells.lookup x=some c->c≠D)
  (hp:∀p∈X.pn++pins,p.1≠D) (ho:s.heap.get? D=some { cls:=.type "tuple",data:=.seq its.toArray }) (r:ZE ys its) (hz:ys.length<=sizeLine):Inv X pins σ (upd H D (.tup ys)) s:=by
 refine I.step (h':=s.heap) (g':=s.gens) (d':=s.drawn) (t':=s.toks) (ch:=[D]) (fun b hb=>?_) (fun b o _ _ _ e _=>e) (fun b o _ _ _ e _=>⟨o.slots,e⟩) (fun b o hb _ e=>?_) (fun b o _ e=>⟨o,e⟩)
  (fun b xs e=>?_) (fun b o u e=>?_) (fun b ps e=>⟨#[], ?_⟩) (fun m hm=>hm) (fun b u e=>?_) I.bare
 ·have e:b=D:=by simpa using hb
  subst e
  exact⟨.inr h1,hL,hc,hp⟩
 ·rw[Zp (by simpa using hb)];exact e
 ·rw[Zp (Z0 e hn)];exact e
 ·rw[Zp (Z0 e hn)];exact e
 ·rw[Zp (Z0 e hn),e];simp
 ·by_cases hb:b=D
  ·subst hb
   rw[Zv] at e;cases e
   exact⟨hz,its,r,_,ho,rfl,_,rfl⟩
  ·rw[Zp hb] at e
   exact(I.hok b u e).stay (fun c v _ q=>q) (fun c q=>by rw[Zp (Z0 q hn)];exact q) fun c xs q=>by rw[Zp (Z0 q hn)];exact q
end
noncomputable def Ite (K:W.Frag) (a:Addr):It:=
 ⟨fun i H=>∃xs x,SqL K H a xs/\xs[i]?=some x,fun i H v H'=>∃t x,v=.ref t/\H t=none/\H'=upd H t (.tup [.int i,x])/\∀xs,SqL K H a xs->xs[i]?=some x,fun i H=>∃xs,SqL K H a xs/\xs.length<=i⟩
theorem Zeg {P:Program}{w:World}{K:W.Frag}{elts:List Expr}{x1:Nat}{tpos:Pos} (a e it:Addr) (hne:e≠it):Zko P w K (.Tuple elts x1 tpos) (Ite K a) [e,it] e (fun i h=>∃old,IsEnum h e it i old/\h.IsListIter it a i) where
 mem:=by simp
 obj:=fun i h ⟨old,s1,s2⟩ b hb=>by
  rcases ZqS.mp hb with z|z
  ·subst z
   exact⟨_,s1,fun v z=>by
    have z':Data.fields _=Data.cell v:=z
    cases z'⟩
  ·have z:b=it:=by simpa using z
   subst z
   obtain⟨o,e,c,d⟩:=s2
   exact⟨o,e,fun v z=>by rw[d] at z;cases z⟩
 keep:=fun i h h' ⟨old,s1,s2⟩ k=>⟨old,k e (by simp) _ s1,s2.at fun o q=>k it (by simp) o q⟩
 item:=by
  intro X hP hw hK hc i pins s σ H E I hf ⟨old,s1,s2⟩ hg
  subst hP hw hK
  obtain⟨xs,x,hq,hx⟩:=hg
  obtain⟨its,rv,p,hz⟩:=I.list hq
  obtain⟨u,hu,ru⟩:=rv.get hx
  have fz:∀b,b=e\/b=it->H b=none/\b≠X.env.locals/\(b∈X.ex\/X.s₀.heap.objs.size<=b)/\(∀x c,X.env.cells.lookup x=some c->c≠b)/\∀p∈X.pn++pins,p.1≠b:=fun b hb=>by
   obtain⟨f0,f1,f2,f3,f4,f5⟩:=hf b (by simpa using hb)
   exact⟨f0,f1,f3,f4,f5⟩
  refine wpAny_pyNext_enum_item s1 s2 p.isList (x:=u) (by simpa using hu) hne fun h1 e1 i1 t1 z1 k1=>?_
  refine⟨_,rfl, ?_⟩
  refine wpAny_letOwnedTupleGo_enum e1 fun h2 e2 sb2=>?_
  have I2:Inv X pins σ H { s with heap:=h2,toks:=s.toks+1 }:=I.turned2 (fun b o n1 n2 q=>sb2.extBut b o n1 (k1 b o n1 n2 q)) fz
  have hfr:=I.hok.fresh (ZqJ s.heap.objs.size)
  have het:s.heap.objs.size≠e:=Zsm (Heap.lt_size s1)
  have fsz:=I.fpOk (H':=H) (ZqJ s.heap.objs.size) hfr
  obtain⟨g0,g1,g2,g3,g4,g5⟩:=fsz
  have I3:=I2.adoptT (D:=s.heap.objs.size) (ys:=[.int i,x]) (its:=[.int i s.toks,u]) hfr I.sz g1 g4 g5 (sb2.extBut _ _ het t1) (.cons ⟨_,rfl⟩ (.cons ru .nil)) (show 2<=sizeLine by decide)
  refine⟨.ref s.heap.objs.size,_,I3,rfl,⟨_,x,rfl,hfr,rfl,fun ys hy=>by rw[I.list_inj hy hq];exact hx⟩,⟨u,by
   have:((i+1:Nat):Int)=(i:Int)+1:=by omega
   rw[this];exact e2,i1.extBut sb2.extBut (Ne.symm hne)⟩,fun b hb=>?_⟩
  have hbn:b≠s.heap.objs.size:=by
   rcases ZqS.mp hb with z|z
   ·rw[z];exact het.symm
   ·have z:b=it:=by simpa using z
    obtain⟨o,q,_⟩:=s2
    rw[z];exact Zrk (Heap.lt_size q)
  rw[Zp hbn]
  exact(hf b hb).1
 done:=by
  intro X hP hw hK hc i pins s σ H E I hf ⟨old,s1,s2⟩ hg
  subst hP hw hK
  obtain⟨xs,hq,hx⟩:=hg
  obtain⟨its,rv,p,hz⟩:=I.list hq
  obtain⟨f0,f1,f2,f3,f4,f5⟩:=hf it (by simp)
  have hl:=rv.length
  exact wpAny_pyNext_enum_end (I.ok.hd hc) s1 s2 p.isList (by simp;omega) fun h' eb=>⟨rfl,I.turned (t':=s.toks) (fun b o hb q=>eb b o hb q) f0 f1 f3 f4 f5⟩
 self:=fun _ _ _ _ _ ⟨old,st,_⟩ h=>wpAny_pyIter_enum st h
section
variable {X:Cx}{elts:List Expr}{x1:Nat}{tpos:Pos}
noncomputable def Zit (K:W.Frag) (tl:TA):TI:=fun σ H R=>tl σ H fun vs H1=>∃a,vs=[.ref a]/\(∃xs,SqL K H1 a xs)/\R (Ite K a) H1
theorem Zbt:bootBuiltins "enumerate"=some (.type "enumerate"):=by decide +kernel
theorem ZhU {l:Expr}{tl:TA}{p pos:Pos} (hg:Gl X "enumerate") (hm:X.mg "enumerate"=none) (ha:PA X [l] tl) (hs:starEach [l] X.env=[(false,eval l X.env)]:=by rfl):PI X (.Tuple elts x1 tpos) (.Call (.Name "enumerate" p) [l] [] pos) (Zit X.K tl):=by
 intro pins s σ H R I h
 refine Call_ (QM I hg hm Zbt (PyProof.Rows.callWith_type1 (thn (ha pos pins s σ H _ I h) fun us s1 ⟨vs,H1,I1,r1,q1⟩=>?_) hs rfl))
 obtain⟨a,e,⟨xs,hq⟩,q⟩:=q1
 subst e
 cases r1 with
 |cons r rr =>
  cases rr
  cases r
  obtain⟨its,rv,pl,hz⟩:=I1.list hq
  refine call_enumerate_list pl.isList fun h' e1 i1 z1 k1=>?_
  refine wpAny_pyIter_enum e1 ?_
  have I2:Inv X pins σ H1 { s1 with heap:=h' }:=I1.kept (t':=s1.toks) k1
  refine⟨s1.heap.objs.size+1,[s1.heap.objs.size+1,s1.heap.objs.size],_,_,H1,rfl,I2,Zeg a _ _ (Nat.succ_ne_self _),⟨_,e1,i1⟩,fun b hb=>?_,q⟩
  have hb':s1.heap.objs.size<=b:=by
   rcases ZqS.mp hb with z|z
   ·rw[z];exact Zsq _
   ·have z:b=s1.heap.objs.size:=by simpa using z
    rw[z];exact ZqJ _
  exact I1.fpOk hb' (I1.hok.fresh hb')
theorem Zgb {K:W.Frag}{l:Expr}{tl:TA}{p pos:Pos} (hg:Gl X "enumerate") (hm:X.mg "enumerate"=none) (ha:PA X [l] tl) (hs:starEach [l] X.env=[(false,eval l X.env)]:=by rfl) (e:X.K=K:=by rfl):PI X (.Tuple elts x1 tpos) (.Call (.Name "enumerate" p) [l] [] pos) (Zit K tl):=by subst e;exact ZhU hg hm ha hs
end
noncomputable def Zax (xs:List PV):List PV:=xs.mapIdx fun i x=>.tup [.int (i:Nat),x]
section
variable {K:W.Frag}{H:Hp}{EX:PX->Hp->Prop}{Γ Γ':List Md}
theorem Zgx {a:Addr}{xs:List PV}{S:Addr->Prop} (h:Rep K H S (.lst xs) (.ref a)):ItP K S (Ite K a) (Zax xs) H:=by
 obtain⟨a',vs,e,hn,hr⟩:=h
 cases e
 intro i
 constructor
 ·intro x hx
  unfold Zax at hx
  rw[Zsc] at hx
  cases hxi:xs[i]? with
  |none=>rw[hxi] at hx;cases hx
  |some y =>
   rw[hxi] at hx
   cases hx
   obtain⟨u,e1,e2⟩:=hr.get hxi
   refine⟨⟨vs,u,JA hn,e1⟩,fun v H' ⟨t,z,e3,e4,e5,e6⟩=>?_⟩
   have:=e6 vs (JA hn)
   rw[e1] at this;cases this
   subst e3 e5
   have sm:Zy H (upd H t (.tup [.int i,u])):=Zy.upd (Zy.refl H) e4
   exact⟨sm,t,_,rfl,⟨Zv,trivial⟩,⟨_,_,rfl,rfl,_,_,rfl,e2.same sm,rfl⟩⟩
 ·intro hx
  unfold Zax at hx
  rw[Zsc] at hx
  have:xs[i]?=none:=by cases hxi:xs[i]? with
   |none=>rfl
   |some y=>rw[hxi] at hx;cases hx
  exact⟨vs,JA hn,by rw[hr.length];exact Zrw.mp this⟩
noncomputable def Zie (xs:List PV):Rr (List PV):=match xs with
 |[.lst ys]=>.ok (Zax ys)
 |_=>.bad
theorem Zi0 {ta:TA}{fa:List PV->Rr (List PV)} (ha:DAZ K EX Γ Γ' ta fa):DI K EX Γ Γ' (Zit K ta) (fun ρ=>(fa ρ).bind Zie):=fun B H0 H σ ρ F R Q A d=>by
 refine ha B H0 H σ ρ F R _ A (d.bind.imp (fun xs _ d vs H1 F1 s1 f1 p1 A1=>?_) fun e q=>q)
 unfold Zie at d
 split at d
 ·rename_i ys
  obtain⟨v,rfl,h1⟩:=UV p1
  obtain⟨a,us,rfl,hn,hr⟩:=id h1
  exact⟨a,rfl,⟨us,JA hn⟩,d _ H1 F1 s1 f1 A1 fun H2 F2 h=>Zgx (h1.frm h A1)⟩
 ·exact d.elim
theorem Zgj {ys:List PV}:Zie [.lst ys]=.ok (Zax ys):=rfl
end
noncomputable def Zlb (xs:List Str) (y:Str):Str:=if xs.contains y then "" else y
noncomputable abbrev TB:=V->Hp->List V->Prop
section
end
theorem JI {xs:List PV}{y:PV} (h:xs.length<1000000):pApp (.lst xs) y=.ok (.lst (xs++[y])):=if_pos h
theorem Zl0 {a b:PV}:asT 2 (.tup [a,b])=.ok [a,b]:=rfl
noncomputable def ZlT:Nat:=4000000
def Zkv (i j:Int):Prop:=i.natAbs<2^ZlT/\j.natAbs<2^ZlT
noncomputable instance (i j:Int):Decidable (Zkv i j):=by unfold Zkv;infer_instance
end L2
namespace Att
open PySem PySem.W PySem.Calls PyProof.Rows
end Att
namespace L2
open PySem PySem.Spec PyProof.Rows
section
end
noncomputable def okE (x:PV):Bool:=x.noX&&x.dat.canLay0&&decide (x.dat.depth<=60)
noncomputable def ZkM (K:W.Frag) (g:Bool->Bool):R2:=fun x y H Q=>∃p qs a vs,Rep K H (fun _=>True) p x/\y=.ref a/\(SqL K H a vs\/SqT K H a vs)/\Reps K H (fun _=>True) qs vs/\okE p=true/\(qs.all okE)=true/\Q (.bl (g (qs.any fun q=>PyData.eqv q.dat p.dat))) H
open Classical in
noncomputable def ZdR (h:Heap) (dx:PyData) (y:Value):Bool:=if hy:∃d as,Reads h y d as/\d.canLay0=true/\d.depth<=60 then PyData.eqv hy.choose dx else false
section
variable {X:Cx}{K:W.Frag}
theorem Zbm {H:Hp}{pins:List (Addr×Obj)}{σ:St}{s:Shared}{S:Addr->Prop} (I:Inv X pins σ H s) (dx:PyData):∀{qs:List PV}{vs:List V}{us:List Value},Reps X.K H S qs vs->ZE vs us->(qs.all okE)=true ->
  (us.any (ZdR s.heap dx)=qs.any fun q=>PyData.eqv q.dat dx)/\∀y∈us,∃d as,Reads s.heap y d as/\d.canLay0=true/\d.depth<=60
 |[],_,us,h,r,_=>by
  rw[h] at r;cases r
  exact⟨rfl,by simp⟩
 |q::qs,_,us,h,r,hk=>by
  obtain⟨v,vs,rfl,h1,h2⟩:=h
  simp only[List.all_cons,Bool.and_eq_true] at hk
  cases r with
  |cons r1 r2 =>
   rename_i u us
   obtain⟨e1,e2⟩:=Zbm I dx h2 r2 hk.2
   have h3:=hk.1
   simp only[okE,Bool.and_eq_true,decide_eq_true_eq] at h3
   obtain⟨as,ra⟩:=h1.reads I h3.1.1 r1
   have hx:∃d as,Reads s.heap u d as/\d.canLay0=true/\d.depth<=60:=⟨_,_,ra,h3.1.2,h3.2⟩
   refine⟨?_,fun y hy=>?_⟩
   ·have:ZdR s.heap dx u=PyData.eqv q.dat dx:=by
     unfold ZdR
     rw[dif_pos hx]
     obtain⟨as',ra',c1,c2⟩:=hx.choose_spec
     rw[SeqAt.Reads.unique _ _ _ _ _ c1 ra' ra]
    rw[ZrO,ZrO,e1,this]
   ·rcases ZqS.mp hy with rfl|hy
    ·exact hx
    ·exact e2 y hy
theorem ZjL {H:Hp}{pins:List (Addr×Obj)}{σ:St}{s:Shared}{g:Bool->Bool}{x y:V}{v u:Value}{Q:VK} (I:Inv X pins σ H s) (hu:X.A.units+64<cLine) (rx:Ja x v) (ry:Ja y u) (h:ZkM X.K g x y H Q) :
  ∃a items,u=.ref a/\(s.heap.IsList a items\/s.heap.IsTuple a items)/\∃e:Value->Bool,(∀y,y∈items->SeqAt.EqAt X.A.in1 s y v (e y))/\Q (.bl (g (items.any e))) H:=by
 obtain⟨p,qs,a,vs,h1,rfl,hq,hr,h3,h4,q⟩:=h
 cases ry
 simp only[okE,Bool.and_eq_true,decide_eq_true_eq] at h3
 obtain⟨as,ra⟩:=h1.reads I h3.1.1 rx
 have fin:∀its:List Value,ZE vs its->(∀y,y∈its.toArray->SeqAt.EqAt X.A.in1 s y v (ZdR s.heap p.dat y))/\Q (.bl (g (its.toArray.any (ZdR s.heap p.dat)))) H:=fun its rv=>by
  obtain⟨e1,e2⟩:=Zbm I p.dat hr rv h4
  refine⟨fun y hy=>?_, ?_⟩
  ·have hx:=e2 y (by simpa using hy)
   unfold ZdR
   rw[dif_pos hx]
   obtain⟨as',ra',c1,c2⟩:=hx.choose_spec
   refine SeqAt.eqAt_reads _ _ _ _ _ _ _ _ ra' ra c1 h3.1.2 ?_
   have:=Zsh hx.choose.depth p.dat.depth
   have hin:X.A.in1.units<=X.A.units+1:=by simp[Around.in1]
   omega
  ·rw[List.any_toArray,e1];exact q
 rcases hq with hq|hq
 ·obtain⟨its,rv,pl,hz⟩:=I.list hq
  obtain⟨f1,f2⟩:=fin its rv
  exact⟨a,its.toArray,rfl,.inl pl.isList,_,f1,f2⟩
 ·obtain⟨its,rv,pl,hz⟩:=I.tuple hq
  obtain⟨f1,f2⟩:=fin its rv
  exact⟨a,its.toArray,rfl,.inr pl,_,f1,f2⟩
theorem ZeO (hu:X.A.units+64<cLine) (e:X.K=K:=by rfl):OpR X (compareOp .NotIn) (ZkM K (!·)):=by
 subst e
 intro pins s σ H x y v u Q I rx ry h
 obtain⟨a,items,rfl,hl,e,he,q⟩:=ZjL I hu rx ry h
 rcases hl with hl|hl
 ·exact SeqAt.notIn_listAt e hl he ⟨.bl _,H,I,rfl,q⟩
 ·exact SeqAt.notIn_tupleAt e hl he ⟨.bl _,H,I,rfl,q⟩
end
noncomputable def Zho (g:Bool->Bool) (x y:PV):Rr PV:=match y with
 |.lst ys=>if (okE x&&ys.all okE)=true then .ok (.bl (g (ys.any fun q=>PyData.eqv q.dat x.dat))) else .bad
 |.tup ys=>if (okE x&&ys.all okE)=true then .ok (.bl (g (ys.any fun q=>PyData.eqv q.dat x.dat))) else .bad
 |_=>.bad
section
variable {K:W.Frag}{EX:PX->Hp->Prop}{Γ Γ1 Γ2:List Md}{tb tc:TE}{fb fc:List PV->Rr PV}
theorem ZjY {g:Bool->Bool} (ha:DE K EX Γ Γ1 .A tb fb) (hb:DE K EX Γ1 Γ2 .A tc fc):DE K EX Γ Γ2 .P (tOp (ZkM K g) tb tc) (fun ρ=>(fb ρ).bind fun x=>(fc ρ).bind fun y=>Zho g x y):=by
 refine ZgE (fun {H x y v w Q} rx ry ⟨z,e,q⟩=>?_) (fun x y z h=>?_) (fun x y e h=>?_) ha hb
 ·unfold Zho at e
  split at e
  ·split at e
   ·rename_i ys hk
    cases e
    rw[Bool.and_eq_true] at hk
    obtain⟨a,vs,rfl,hn,hr⟩:=ry
    exact⟨x,_,a,vs,rx,rfl,.inl (JA (S:=fun _=>True) hn),hr,hk.1,hk.2,q rfl _ rfl⟩
   ·cases e
  ·split at e
   ·rename_i ys hk
    cases e
    rw[Bool.and_eq_true] at hk
    obtain⟨a,vs,rfl,hn,hr⟩:=ry
    exact⟨x,_,a,vs,rx,rfl,.inr hn.sqT,hr,hk.1,hk.2,q rfl _ rfl⟩
   ·cases e
  ·cases e
 ·unfold Zho at h
  split at h
  ·split at h<;>cases h;rfl
  ·split at h<;>cases h;rfl
  ·cases h
 ·unfold Zho at h
  split at h
  ·split at h<;>cases h
  ·split at h<;>cases h
  ·cases h
end
section
end
theorem Vf {xs:List PV}:Zib [.lst xs]=.ok (.int xs.length):=by simp[Zib]
theorem Zic {xs:List PV}{k:Int} (h0:0<=k) (h1:k<xs.length):pIx (.lst xs) (.int k)=.ok (xs.getD k.toNat .non):=by
 simp only[pIx,atI,Zdc h0 h1,Option.bind_some]
 rw[ZqF,ZqH (by omega)]
 rfl
section
end
structure Dat (n:Nat) (x:PV):Prop where
 nx:x.noX=true
 can:x.dat.canLay0=true
 dep:x.dat.depth<=n
theorem Dat.ok {n:Nat}{x:PV} (h:Dat n x) (hn:n<=64:=by decide):okD x=true:=by
 unfold okD
 rw[h.nx,h.can,decide_eq_true (Zrq h.dep hn)];rfl
theorem Zf1 (i:Int):Dat 0 (.int i):=⟨rfl,by simp[PV.dat,PyData.canLay0],by simp[PV.dat,PyData.depth]⟩
theorem Za2 {n:Nat}:∀{xs:List PV},(∀x∈xs,Dat n x)->PV.noXs xs=true/\PyData.canLayAll0 (PV.dats xs)=true/\PyData.depthAll (PV.dats xs)<=n
 |[],_=>⟨rfl,rfl,Zrt _⟩
 |x::xs,h=>by
  obtain⟨h1,h2,h3⟩:=Za2 (xs:=xs) fun y hy=>h y (by simp[hy])
  have hx:=h x (by simp)
  refine⟨by simp[PV.noXs,hx.nx,h1],by simp[PV.dats,PyData.canLayAll0,hx.can,h2], ?_⟩
  simp only[PV.dats,PyData.depthAll]
  exact Nat.max_le.mpr ⟨hx.dep,h3⟩
theorem Zf0 {n:Nat}{xs:List PV} (h:∀x∈xs,Dat n x):Dat (n+1) (.lst xs):=by
 obtain⟨h1,h2,h3⟩:=Za2 h
 exact⟨by simp[PV.noX,h1],by simp[PV.dat,PyData.canLay0,h2],by simp only[PV.dat,PyData.depth];omega⟩
theorem Zi8 {n:Nat}{xs:List PV} (h:∀x∈xs,Dat n x):Dat (n+1) (.tup xs):=by
 obtain⟨h1,h2,h3⟩:=Za2 h
 exact⟨by simp[PV.noX,h1],by simp[PV.dat,PyData.canLay0,h2],by simp only[PV.dat,PyData.depth];omega⟩
theorem UI (ns:List Int):Dat 1 (.lst (ns.map PV.int)):=Zf0 fun x hx=>by
 obtain⟨i,_,rfl⟩:=Zr3.mp hx
 exact Zf1 i
theorem Zj0 {α:Type}{q:α->PV}{L:List α}{k:Int}{d:α} (h0:0<=k) (h1:k<L.length):pIx (.lst (L.map q)) (.int k)=.ok (q (L.getD k.toNat d)):=by
 rw[Zic h0 (by simpa using h1),ZqF,ZqF,Zri,ZqH (by omega)]
 rfl
section
end
theorem us1 {α:Type}{us:List α} (h:us.length=1):∃a,us=[a]:=match us,h with | [a],_=>⟨a,rfl⟩
theorem us2 {α:Type}{us:List α} (h:us.length=2):∃a b,us=[a,b]:=match us,h with | [a,b],_=>⟨a,b,rfl⟩
theorem us3 {α:Type}{us:List α} (h:us.length=3):∃a b c,us=[a,b,c]:=match us,h with | [a,b,c],_=>⟨a,b,c,rfl⟩
section
end
theorem Dat.okE {n:Nat}{x:PV} (h:Dat n x) (hn:n<=60:=by decide):okE x=true:=by
 unfold L2.okE
 rw[h.nx,h.can,decide_eq_true (Zrq h.dep hn)];rfl
theorem ZdC {g:Bool->Bool}{l:List Int}{M:List (List Int)}:Zho g (.lst (l.map PV.int)) (.lst (M.map fun q=>.lst (q.map PV.int)))=.ok (.bl (g (decide (l∈M)))):=by
 have h1:(okE (.lst (l.map PV.int))&&(M.map fun q=>PV.lst (q.map PV.int)).all okE)=true:=by
  rw[(UI l).okE,Bool.true_and,ZrK]
  intro x hx
  obtain⟨q,_,rfl⟩:=Zr3.mp hx
  exact(UI q).okE
 simp only[Zho]
 rw[if_pos h1]
 congr 3
 induction M with
 |nil=>simp
 |cons q M ih =>
  have h2:(okE (.lst (l.map PV.int))&&(M.map fun q=>PV.lst (q.map PV.int)).all okE)=true:=by
   rw[(UI l).okE,Bool.true_and,ZrK]
   intro x hx
   obtain⟨q,_,rfl⟩:=Zr3.mp hx
   exact(UI q).okE
  rw[Zrb,ZrO,ih h2]
  simp only[PV.dat,Q1,PyData.eqv,V6]
  by_cases c:q=l
  ·simp[c]
  ·have:¬l=q:=fun z=>c z.symm
   simp[c,this]
section
end
noncomputable abbrev PL2:=Addr×List Int
section
end
end L2
namespace L2
open PySem PyProof.Rows
structure JR (prog:Program) (w:World) (A:Around) (s:Shared) (κ:SortKind) (U:Keyed->Prop) (R:Keyed->Keyed->Bool) (Ok:Keyed->Keyed->Prop):Prop where
 ask:∀x y,U x->U y->Ok x y->∀(Q:Bool->Shared->Prop),Q (R x y) s->wpAny (model prog w) A (keyLt' κ x.1 y.1) Q (fun _ _=>False) s
 asy:∀x y,U x->U y->R x y=true->R y x=false
 tr:∀x y z,U x->U y->U z->R y x=false->R z y=false->R z x=false
section
variable {prog:Program}{w:World}{A:Around}{E:Value->Shared->Prop}{s:Shared}{κ:SortKind}{U:Keyed->Prop}{R:Keyed->Keyed->Bool}{Ok:Keyed->Keyed->Prop}
theorem UK (C:JR prog w A s κ U R Ok) {st:SortSt}{x y:Keyed}{Q:Option Bool->SortSt->Prop} (hk:kindOf st=κ) (ux:U x) (uy:U y) (ok:Ok x y) (h:Q (some (R x y)) st):wpS (model prog w) A E s (lt' x y) Q st:=by
 rw[lt'_eq]
 refine wpS_bind (wpS_get ?_)
 rw[hk]
 refine wpS_bind (wpS_lift (wpAny_attempt (wpAny_mono (C.ask x y ux uy ok (fun b s'=>s'=s/\b=R x y) ⟨rfl,rfl⟩) (fun b s' q=>?_) fun _ _ q=>q.elim)))
 obtain⟨rfl,rfl⟩:=q
 exact⟨rfl,wpS_pure h⟩
theorem Zl {st:SortSt}{arr:Array Keyed}{i:Nat}{x:Keyed}{Q:Keyed->SortSt->Prop} (hx:arr[i]?=some x) (h:Q x st):wpS (model prog w) A E s (elem' arr i) Q st:=by
 rw[elem'_eq,hx]
 exact wpS_pure h
end
noncomputable def JX:Bool->Keyed->Array Keyed->Nat->Nat->Nat->StateT SortSt Sem (Option Nat):=sortPriv% PySem.Builtin.gallop
noncomputable def ZdA (left:Bool) (key:Keyed) (arr:Array Keyed) (base:Nat) (i:Nat):StateT SortSt Sem (Option Bool):=do
 let x <- elem' arr (base+i)
 if left then lt' x key else return (<- lt' key x).map (!·)
theorem ZdN (left:Bool) (key:Keyed) (arr:Array Keyed) (base n hint:Nat):JX left key arr base n hint=(do
  let mut u:=0
  let mut v:=1
  let mut a:=0
  let mut b:=0
  let some r <- ZdA left key arr base hint|return none
  if r then
   let w:=n-hint
   for _ in [0:n] do
    if v ≥ w then break
    let some m <- ZdA left key arr base (hint+v)|return none
    if !m then break
    u:=v
    v:=2*v+1
   a:=hint+u+1
   b:=hint+min v w
  else
   let w:=hint+1
   for _ in [0:n] do
    if v ≥ w then break
    let some m <- ZdA left key arr base (hint-v)|return none
    if m then break
    u:=v
    v:=2*v+1
   a:=hint+1-min v w
   b:=hint-u
  for _ in [0:n] do
   if a ≥ b then break
   let c:=a+(b-a)/2
   let some m <- ZdA left key arr base c|return none
   if m then a:=c+1 else b:=c
  return some b):=rfl
section
variable {prog:Program}{w:World}{A:Around}{E:Value->Shared->Prop}{s:Shared}{κ:SortKind}{U:Keyed->Prop}{R:Keyed->Keyed->Bool}{Ok:Keyed->Keyed->Prop}
structure Us (U:Keyed->Prop) (R:Keyed->Keyed->Bool) (Ok:Keyed->Keyed->Prop) (left:Bool) (key:Keyed) (arr:Array Keyed) (base n:Nat) (P:Nat->Bool):Prop where
 uk:U key
 it:∀i,i<n->∃x,arr[base+i]?=some x/\U x/\(if left=true then Ok x key else Ok key x)/\P i=(if left=true then R x key else !R key x)
 mono:∀i j,i<=j->j<n->P j=true->P i=true
theorem V7 (C:JR prog w A s κ U R Ok) {st:SortSt}{left:Bool}{key:Keyed}{arr:Array Keyed}{base n i:Nat}{P:Nat->Bool}{Q:Option Bool->SortSt->Prop} (hk:kindOf st=κ) (K:Us U R Ok left key arr base n P) (hi:i<n) (h:Q (some (P i)) st) :
  wpS (model prog w) A E s (ZdA left key arr base i) Q st:=by
 obtain⟨x,hx,ux,ok,hp⟩:=K.it i hi
 unfold ZdA
 refine wpS_bind (Zl hx ?_)
 cases left with
 |true =>
  rw[if_pos rfl] at hp ok ⊢
  exact UK C hk ux K.uk ok (by rw[<- hp];exact h)
 |false =>
  rw[if_neg (by decide)] at hp ok ⊢
  exact wpS_bind (UK C hk K.uk ux ok (wpS_pure (by rw[Zsx,<- hp];exact h)))
theorem Z5 (C:JR prog w A s κ U R Ok) {st:SortSt}{left:Bool}{key:Keyed}{arr:Array Keyed}{base n hint:Nat}{P:Nat->Bool}{Q:Option Nat->SortSt->Prop} (hk:kindOf st=κ) (K:Us U R Ok left key arr base n P) (hh:hint<n)
  (h:∀k,k<=n->(∀i,i<k->P i=true)->(∀i,k<=i->i<n->P i=false)->Q (some k) st):wpS (model prog w) A E s (JX left key arr base n hint) Q st:=by
 rw[ZdN]
 refine wpS_bind (V7 C hk K hh ?_)
 dsimp only
 have down:∀{i j},i<=j->j<n->P i=false->P j=false:=fun {i j} h1 h2 h3=>by
  cases hj:P j with
  |false=>rfl
  |true=>rw[K.mono i j h1 h2 hj] at h3;cases h3
 cases hP:P hint with
 |true =>
  rw[if_pos rfl]
  refine wpS_bind (wpS_mono (wpS_forRange (I:=fun x (c:Option (Option Nat)×Nat×Nat) (st':SortSt)=>st'=st/\c.1=none/\P (hint+c.2.1)=true/\hint+c.2.1<n/\c.2.1<c.2.2/\x+1<=c.2.2)
   (Q:=fun(c:Option (Option Nat)×Nat×Nat) (st':SortSt)=>st'=st/\c.1=none/\P (hint+c.2.1)=true/\hint+c.2.1<n/\c.2.1<c.2.2/\(n-hint<=c.2.2\/(c.2.2<n-hint/\P (hint+c.2.2)=false))) ?_ ?_ ⟨rfl,rfl,by simpa using hP,by simpa using hh,Nat.zero_lt_one,ZqJ _⟩) ?_)
  ·rintro x ⟨o,u,v⟩ st' _ hx ⟨rfl,rfl,q1,q2,q3,q4⟩
   dsimp only at q1 q2 q3 q4 ⊢
   by_cases hv:v ≥ n-hint
   ·rw[if_pos hv]
    exact wpS_pure ⟨rfl,rfl,q1,q2,q3,.inl hv⟩
   ·rw[if_neg hv]
    refine wpS_bind (V7 C hk K (by omega) ?_)
    dsimp only
    cases hm:P (hint+v) with
    |true =>
     rw[if_neg (by decide)]
     exact wpS_pure ⟨rfl,rfl,hm,by dsimp only;omega,by dsimp only;omega,by dsimp only;omega⟩
    |false =>
     rw[if_pos (by decide)]
     exact wpS_pure ⟨rfl,rfl,q1,q2,q3,.inr ⟨by dsimp only;omega,hm⟩⟩
  ·rintro⟨o,u,v⟩ st' ⟨rfl,rfl,q1,q2,q3,q4⟩
   dsimp only at q1 q2 q3 q4 ⊢
   exact⟨rfl,rfl,q1,q2,q3,.inl (by omega)⟩
  rintro⟨o,u,v⟩ st' ⟨hst,rfl,q1,q2,q3,q4⟩
  have hst:=hst.symm
  subst hst
  dsimp only at q1 q2 q3 q4 ⊢
  have ab:hint+u+1<=hint+min v (n-hint):=by omega
  have bn:hint+min v (n-hint)<=n:=by omega
  have pa:∀i,i<hint+u+1->P i=true:=fun i hi=>K.mono i (hint+u) (by omega) (by omega) q1
  have pb:∀i,hint+min v (n-hint)<=i->i<n->P i=false:=fun i h1 h2=>by
   rcases q4 with q4|⟨q4,q5⟩
   ·omega
   ·exact down (by omega) h2 q5
  refine wpS_bind (wpS_mono (wpS_forRange (I:=fun x (c:Option (Option Nat)×Nat×Nat) (st':SortSt)=>st'=st/\c.1=none/\c.2.1<=c.2.2/\c.2.2<=n/\(∀i,i<c.2.1->P i=true)/\(∀i,c.2.2<=i->i<n->P i=false)/\c.2.2-c.2.1<=n-x)
   (Q:=fun(c:Option (Option Nat)×Nat×Nat) (st':SortSt)=>st'=st/\c.1=none/\c.2.1=c.2.2/\c.2.2<=n/\(∀i,i<c.2.1->P i=true)/\(∀i,c.2.2<=i->i<n->P i=false)) ?_ ?_ ⟨rfl,rfl,ab,bn,pa,pb,by dsimp only;omega⟩) ?_)
  ·rintro x ⟨o,a,b⟩ st' _ hx ⟨rfl,rfl,q1,q2,q3,q4,q5⟩
   dsimp only at q1 q2 q3 q4 q5 ⊢
   by_cases hab:a ≥ b
   ·rw[if_pos hab]
    exact wpS_pure ⟨rfl,rfl,by dsimp only;omega,q2,q3,q4⟩
   ·rw[if_neg hab]
    refine wpS_bind (V7 C hk K (by omega) ?_)
    dsimp only
    cases hm:P (a+(b-a)/2) with
    |true =>
     rw[if_pos rfl]
     exact wpS_pure ⟨rfl,rfl,by dsimp only;omega,q2,fun i hi=>K.mono i (a+(b-a)/2) (by dsimp only at hi;omega) (by omega) hm,q4,by dsimp only;omega⟩
    |false =>
     rw[if_neg (by decide)]
     refine wpS_pure ⟨rfl,rfl,by dsimp only;omega,by dsimp only;omega,q3,fun i h1 h2=>?_,by dsimp only;omega⟩
     cases hi:P i with
     |false=>rfl
     |true=>rw[K.mono _ i h1 h2 hi] at hm;cases hm
  ·rintro⟨o,a,b⟩ st' ⟨rfl,rfl,q1,q2,q3,q4,q5⟩
   dsimp only at q1 q2 q3 q4 q5 ⊢
   exact⟨rfl,rfl,by omega,q2,q3,q4⟩
  ·rintro⟨o,a,b⟩ st' ⟨rfl,rfl,q1,q2,q3,q4⟩
   dsimp only at q1 q2 q3 q4 ⊢
   exact wpS_pure (h b q2 (by rw[<- q1];exact q3) q4)
 |false =>
  rw[if_neg (by decide)]
  refine wpS_bind (wpS_mono (wpS_forRange (I:=fun x (c:Option (Option Nat)×Nat×Nat) (st':SortSt)=>st'=st/\c.1=none/\P (hint-c.2.1)=false/\c.2.1<=hint/\c.2.1<c.2.2/\x+1<=c.2.2)
   (Q:=fun(c:Option (Option Nat)×Nat×Nat) (st':SortSt)=>st'=st/\c.1=none/\P (hint-c.2.1)=false/\c.2.1<=hint/\c.2.1<c.2.2/\(hint+1<=c.2.2\/(c.2.2<=hint/\P (hint-c.2.2)=true))) ?_ ?_ ⟨rfl,rfl,by simpa using hP,Zrt _,Nat.zero_lt_one,ZqJ _⟩) ?_)
  ·rintro x ⟨o,u,v⟩ st' _ hx ⟨rfl,rfl,q1,q2,q3,q4⟩
   dsimp only at q1 q2 q3 q4 ⊢
   by_cases hv:v ≥ hint+1
   ·rw[if_pos hv]
    exact wpS_pure ⟨rfl,rfl,q1,q2,q3,.inl hv⟩
   ·rw[if_neg hv]
    refine wpS_bind (V7 C hk K (by omega) ?_)
    dsimp only
    cases hm:P (hint-v) with
    |true =>
     rw[if_pos rfl]
     exact wpS_pure ⟨rfl,rfl,q1,q2,q3,.inr ⟨by dsimp only;omega,hm⟩⟩
    |false =>
     rw[if_neg (by decide)]
     exact wpS_pure ⟨rfl,rfl,hm,by dsimp only;omega,by dsimp only;omega,by dsimp only;omega⟩
  ·rintro⟨o,u,v⟩ st' ⟨rfl,rfl,q1,q2,q3,q4⟩
   dsimp only at q1 q2 q3 q4 ⊢
   exact⟨rfl,rfl,q1,q2,q3,.inl (by omega)⟩
  rintro⟨o,u,v⟩ st' ⟨hst,rfl,q1,q2,q3,q4⟩
  have hst:=hst.symm
  subst hst
  dsimp only at q1 q2 q3 q4 ⊢
  have ab:hint+1-min v (hint+1)<=hint-u:=by omega
  have bn:hint-u<=n:=by omega
  have pa:∀i,i<hint+1-min v (hint+1)->P i=true:=fun i hi=>by
   rcases q4 with q4|⟨q4,q5⟩
   ·omega
   ·exact K.mono i (hint-v) (by omega) (by omega) q5
  have pb:∀i,hint-u<=i->i<n->P i=false:=fun i h1 h2=>down h1 h2 q1
  refine wpS_bind (wpS_mono (wpS_forRange (I:=fun x (c:Option (Option Nat)×Nat×Nat) (st':SortSt)=>st'=st/\c.1=none/\c.2.1<=c.2.2/\c.2.2<=n/\(∀i,i<c.2.1->P i=true)/\(∀i,c.2.2<=i->i<n->P i=false)/\c.2.2-c.2.1<=n-x)
   (Q:=fun(c:Option (Option Nat)×Nat×Nat) (st':SortSt)=>st'=st/\c.1=none/\c.2.1=c.2.2/\c.2.2<=n/\(∀i,i<c.2.1->P i=true)/\(∀i,c.2.2<=i->i<n->P i=false)) ?_ ?_ ⟨rfl,rfl,ab,bn,pa,pb,by dsimp only;omega⟩) ?_)
  ·rintro x ⟨o,a,b⟩ st' _ hx ⟨rfl,rfl,q1,q2,q3,q4,q5⟩
   dsimp only at q1 q2 q3 q4 q5 ⊢
   by_cases hab:a ≥ b
   ·rw[if_pos hab]
    exact wpS_pure ⟨rfl,rfl,by dsimp only;omega,q2,q3,q4⟩
   ·rw[if_neg hab]
    refine wpS_bind (V7 C hk K (by omega) ?_)
    dsimp only
    cases hm:P (a+(b-a)/2) with
    |true =>
     rw[if_pos rfl]
     exact wpS_pure ⟨rfl,rfl,by dsimp only;omega,q2,fun i hi=>K.mono i (a+(b-a)/2) (by dsimp only at hi;omega) (by omega) hm,q4,by dsimp only;omega⟩
    |false =>
     rw[if_neg (by decide)]
     refine wpS_pure ⟨rfl,rfl,by dsimp only;omega,by dsimp only;omega,q3,fun i h1 h2=>?_,by dsimp only;omega⟩
     cases hi:P i with
     |false=>rfl
     |true=>rw[K.mono _ i h1 h2 hi] at hm;cases hm
  ·rintro⟨o,a,b⟩ st' ⟨rfl,rfl,q1,q2,q3,q4,q5⟩
   dsimp only at q1 q2 q3 q4 q5 ⊢
   exact⟨rfl,rfl,by omega,q2,q3,q4⟩
  ·rintro⟨o,a,b⟩ st' ⟨rfl,rfl,q1,q2,q3,q4⟩
   dsimp only at q1 q2 q3 q4 ⊢
   exact wpS_pure (h b q2 (by rw[<- q1];exact q3) q4)
end
noncomputable def Zaq:Array Keyed->Array Keyed->StateT SortSt Sem (Array Keyed):=sortPriv% PySem.Builtin.mergeLo
noncomputable def Zjk (g:Nat):StateT SortSt Sem Unit:=modify fun s=>SortSt.mk' (kindOf s) (arrOf s) (pendingOf s) g (failedOf s)
noncomputable def endA (a b o:Array Keyed) (i j:Nat):Array Keyed:=o++a.extract i a.size++b.extract j b.size
noncomputable def endB (a b o:Array Keyed) (i j:Nat):Array Keyed:=o++b.extract j b.size++a.extract i a.size
theorem ZbG (a b:Array Keyed):Zaq a b=(do
  rule "list.sort.merge-lo"
  let n:=a.size+b.size
  let mut o:Array Keyed:=#[<- elem' b 0]
  let mut i:=0
  let mut j:=1
  if j==b.size then return endA a b o i j
  if i+1==a.size then return endB a b o i j
  let mut g:=gallopOf (<- get)
  for _ in [0:n] do
   let mut x:=0
   let mut y:=0
   for _ in [0:n] do
    let some t <- lt' (<- elem' b j) (<- elem' a i)|return endA a b o i j
    if t then
     o:=o.push (<- elem' b j);j:=j+1;y:=y+1;x:=0
     if j==b.size then return endA a b o i j
     if y ≥ g then break
    else
     o:=o.push (<- elem' a i);i:=i+1;x:=x+1;y:=0
     if i+1==a.size then return endB a b o i j
     if x ≥ g then break
   rule "list.sort.gallop"
   g:=g+1
   for _ in [0:n] do
    if g>1 then g:=g-1
    Zjk g
    let some k <- JX false (<- elem' b j) a i (a.size-i) 0|return endA a b o i j
    x:=k
    if k>0 then
     o:=o++a.extract i (i+k);i:=i+k
     if i+1==a.size then return endB a b o i j
     if i==a.size then return endA a b o i j
    o:=o.push (<- elem' b j);j:=j+1
    if j==b.size then return endA a b o i j
    let some k <- JX true (<- elem' a i) b j (b.size-j) 0|return endA a b o i j
    y:=k
    if k>0 then
     o:=o++b.extract j (j+k);j:=j+k
     if j==b.size then return endA a b o i j
    o:=o.push (<- elem' a i);i:=i+1
    if i+1==a.size then return endB a b o i j
    if x<7&&y<7 then break
   g:=g+1
   Zjk g
  unsupported "internal:list.sort.merge-bound"):=rfl
def Srt (R:Keyed->Keyed->Bool) (l:List Keyed):Prop:=l.Pairwise fun x y=>R y x=false
structure MI (R:Keyed->Keyed->Bool) (a b o:List Keyed) (i j:Nat):Prop where
 perm:o.Perm (a.take i++b.take j)
 srt:Srt R o
 ga:∀x∈o,∀y∈a.drop i,R y x=false
 gb:∀x∈o,∀y∈b.drop j,R y x=false
 hi:i<=a.length
 hj:j<=b.length
section
variable {R:Keyed->Keyed->Bool}{a b o:List Keyed}{i j:Nat}
theorem Vm (l:List Keyed) (i k:Nat):(l.drop i).take k++l.drop (i+k)=l.drop i:=by
 rw[<- List.drop_drop];exact ZqX k (l.drop i)
theorem Zcw (l:List Keyed) (i k:Nat):l.take i++(l.drop i).take k=l.take (i+k):=(List.take_add).symm
theorem Srt.drop {l:List Keyed} (h:Srt R l) (i:Nat):Srt R (l.drop i):=h.sublist (List.drop_sublist i l)
theorem MI.pushA (M:MI R a b o i j) (sa:Srt R a) (k:Nat) (hk:i+k<=a.length) (hle:∀x∈(a.drop i).take k,∀y∈b.drop j,R y x=false):MI R a b (o++(a.drop i).take k) (i+k) j:=by
 have sd:=sa.drop i
 rw[<- Vm a i k] at sd
 obtain⟨s1,s2,s3⟩:=ZqR.mp sd
 refine⟨?_, ?_, ?_, ?_,hk,M.hj⟩
 ·rw[<- Zcw]
  refine(M.perm.append_right _).trans ?_
  rw[ZqP,ZqP]
  exact List.Perm.append_left _ Zr9
 ·exact ZqR.mpr ⟨M.srt,s1,fun x hx y hy=>M.ga x hx y (Zrn hy)⟩
 ·intro x hx y hy
  rcases ZqK.mp hx with hx|hx
  ·exact M.ga x hx y (by rw[<- Vm a i k];exact ZqO _ hy)
  ·exact s3 x hx y hy
 ·intro x hx y hy
  rcases ZqK.mp hx with hx|hx
  ·exact M.gb x hx y hy
  ·exact hle x hx y hy
theorem MI.pushB (M:MI R a b o i j) (sb:Srt R b) (k:Nat) (hk:j+k<=b.length) (hle:∀x∈(b.drop j).take k,∀y∈a.drop i,R y x=false):MI R a b (o++(b.drop j).take k) i (j+k):=by
 have sd:=sb.drop j
 rw[<- Vm b j k] at sd
 obtain⟨s1,s2,s3⟩:=ZqR.mp sd
 refine⟨?_, ?_, ?_, ?_,M.hi,hk⟩
 ·rw[<- Zcw]
  refine(M.perm.append_right _).trans ?_
  rw[ZqP]
 ·exact ZqR.mpr ⟨M.srt,s1,fun x hx y hy=>M.gb x hx y (Zrn hy)⟩
 ·intro x hx y hy
  rcases ZqK.mp hx with hx|hx
  ·exact M.ga x hx y hy
  ·exact hle x hx y hy
 ·intro x hx y hy
  rcases ZqK.mp hx with hx|hx
  ·exact M.gb x hx y (by rw[<- Vm b j k];exact ZqO _ hy)
  ·exact s3 x hx y hy
theorem MI.all_perm (M:MI R a b o i j):(o++(a.drop i++b.drop j)).Perm (a++b):=by
 refine(M.perm.append_right _).trans ?_
 have e1:(a.take i++b.take j++(a.drop i++b.drop j))=a.take i++(b.take j++a.drop i)++b.drop j:=by simp[ZqP]
 rw[e1]
 have p1:(a.take i++(b.take j++a.drop i)++b.drop j).Perm (a.take i++(a.drop i++b.take j)++b.drop j):=(List.Perm.append_left _ Zr9).append_right _
 refine p1.trans ?_
 have e2:a.take i++(a.drop i++b.take j)++b.drop j=(a.take i++a.drop i)++(b.take j++b.drop j):=by rw[ZqP,ZqP,ZqP]
 rw[e2,ZqX,ZqX]
theorem MI.endA (M:MI R a b o i j) (sa:Srt R a) (sb:Srt R b) (h:i=a.length\/j=b.length):Srt R (o++(a.drop i++b.drop j))/\(o++(a.drop i++b.drop j)).Perm (a++b):=by
 refine⟨?_,M.all_perm⟩
 refine ZqR.mpr ⟨M.srt, ?_,fun x hx y hy=>?_⟩
 ·rcases h with h|h
  ·rw[h,List.drop_length,ZrC];exact sb.drop j
  ·rw[h,List.drop_length,Zrz];exact sa.drop i
 ·rcases ZqK.mp hy with hy|hy
  ·exact M.ga x hx y hy
  ·exact M.gb x hx y hy
theorem MI.endB (M:MI R a b o i j) (sa:Srt R a) (sb:Srt R b) (h:∀x∈b.drop j,∀y∈a.drop i,R y x=false):Srt R (o++(b.drop j++a.drop i))/\(o++(b.drop j++a.drop i)).Perm (a++b):=by
 refine⟨?_,(List.Perm.append_left _ Zr9).trans M.all_perm⟩
 refine ZqR.mpr ⟨M.srt,ZqR.mpr ⟨sb.drop j,sa.drop i,h⟩,fun x hx y hy=>?_⟩
 rcases ZqK.mp hy with hy|hy
 ·exact M.gb x hx y hy
 ·exact M.ga x hx y hy
end
section
variable {prog:Program}{w:World}{A:Around}{s:Shared}{κ:SortKind}{U:Keyed->Prop}{R:Keyed->Keyed->Bool}{Ok:Keyed->Keyed->Prop}
noncomputable abbrev JN (st:SortSt) (g:Nat):SortSt:=SortSt.mk' (kindOf st) (arrOf st) (pendingOf st) g (failedOf st)
structure MLo (U:Keyed->Prop) (R:Keyed->Keyed->Bool) (Ok:Keyed->Keyed->Prop) (a b:Array Keyed):Prop where
 ua:∀x∈a.toList,U x
 ub:∀x∈b.toList,U x
 ok:∀x∈b.toList,∀y∈a.toList,Ok x y
 sa:Srt R a.toList
 sb:Srt R b.toList
 na:0<a.size
 nb:0<b.size
 fst:∀x y,b.toList[0]?=some x->a.toList[0]?=some y->R y x=false
 lst:∀x∈b.toList,∀y,a.toList[a.size-1]?=some y->R y x=false
theorem JR.irr (C:JR prog w A s κ U R Ok) {x:Keyed} (ux:U x):R x x=false:=by
 cases h:R x x with
 |false=>rfl
 |true=>have:=C.asy x x ux ux h;rw[h] at this;cases this
theorem JR.dropLe (C:JR prog w A s κ U R Ok) {l:List Keyed}{i:Nat}{x z:Keyed} (ul:∀y∈l,U y) (hs:Srt R l) (hz:l[i]?=some z) (ux:U x) (h:R z x=false):∀y∈l.drop i,R y x=false:=fun y hy=>by
 have hi:=(ZqI.mp hz).1
 have e:l.drop i=z::l.drop (i+1):=by
  rw[Zrl hi]
  rw[ZqH hi] at hz
  cases hz;rfl
 have uz:U z:=ul z (ZqG hz)
 have sd:=hs.drop i
 rw[e] at sd hy
 rcases ZqS.mp hy with rfl|hy'
 ·exact h
 ·have h2:=(ZrF.mp sd).1 y hy'
  exact C.tr x z y ux uz (ul y (Zro hy')) h h2
theorem Srt.le (C:JR prog w A s κ U R Ok) {l:List Keyed} (ul:∀y∈l,U y) (hs:Srt R l) {i j:Nat}{x y:Keyed} (hij:i<=j) (hx:l[i]?=some x) (hy:l[j]?=some y):R y x=false:=by
 by_cases e:i=j
 ·subst e
  rw[hx] at hy;cases hy
  exact C.irr (ul x (ZqG hx))
 ·have hi:=(ZqI.mp hx)
  have hj:=(ZqI.mp hy)
  have:=ZrR.mp hs i j hi.1 hj.1 (by omega)
  rw[hi.2,hj.2] at this
  exact this
theorem ZfT (a b o:Array Keyed) (i j:Nat):(endA a b o i j).toList=o.toList++(a.toList.drop i++b.toList.drop j):=by
 simp only[endA,Zsj,ZrI,ZqP,Zrs]
 rw[Zrm (by simp),Zrm (by simp)]
theorem ZfS (a b o:Array Keyed) (i j:Nat):(endB a b o i j).toList=o.toList++(b.toList.drop j++a.toList.drop i):=by
 simp only[endB,Zsj,ZrI,ZqP,Zrs]
 rw[Zrm (by simp),Zrm (by simp)]
theorem U2 {l:List Keyed}{i:Nat}{x:Keyed} (h:l[i]?=some x):(l.drop i).take 1=[x]:=by
 have hi:=(ZqI.mp h)
 rw[Zrl hi.1,hi.2];rfl
theorem VX {l:List Keyed}{i k:Nat}{x:Keyed} (h:x∈(l.drop i).take k):∃t,t<k/\l[i+t]?=some x:=by
 obtain⟨t,ht⟩:=Zrp h
 rw[Zrh] at ht
 split at ht
 ·rename_i hk
  rw[Zre] at ht
  exact⟨t,hk,ht⟩
 ·cases ht
theorem Jl {l:List Keyed}{i:Nat}{x:Keyed} (h:x∈l.drop i):∃t,l[i+t]?=some x:=by
 obtain⟨t,ht⟩:=Zrp h
 rw[Zre] at ht
 exact⟨t,ht⟩
theorem Zgg (C:JR prog w A s κ U R Ok) {l:Array Keyed}{key:Keyed}{i:Nat} (ul:∀y∈l.toList,U y) (hs:Srt R l.toList) (uk:U key) (okk:∀y∈l.toList,Ok key y) (hi:i<=l.size) :
  Us U R Ok false key l i (l.size-i) (fun t=>!R key (l.getD (i+t) (.none,.none))):=by
 have get:∀t,t<l.size-i->l.toList[i+t]?=some (l.getD (i+t) (.none,.none))/\l[i+t]?=some (l.getD (i+t) (.none,.none)):=fun t ht=>by
  have hlt:i+t<l.size:=by omega
  have e:l.getD (i+t) (.none,.none)=l[i+t]:=by simp[Array.getD,hlt]
  rw[e]
  exact⟨by simp[hlt],by simp[hlt]⟩
 refine⟨uk,fun t ht=>⟨_,(get t ht).2,ul _ (ZqG (get t ht).1),by rw[if_neg (by decide)];exact okk _ (ZqG (get t ht).1),by rw[if_neg (by decide)]⟩,fun t u htu hu h=>?_⟩
 have hu':=get u hu
 have ht':=get t (by omega)
 have h1:R key (l.getD (i+u) (.none,.none))=false:=by simpa using h
 have h2:=Srt.le C ul hs (show i+t<=i+u by omega) ht'.1 hu'.1
 have:=C.tr _ _ key (ul _ (ZqG ht'.1)) (ul _ (ZqG hu'.1)) uk h2 h1
 show (!R key _)=true
 rw[this];rfl
theorem ZaU (C:JR prog w A s κ U R Ok) {l:Array Keyed}{key:Keyed}{i:Nat} (ul:∀y∈l.toList,U y) (hs:Srt R l.toList) (uk:U key) (okk:∀y∈l.toList,Ok y key) (hi:i<=l.size) :
  Us U R Ok true key l i (l.size-i) (fun t=>R (l.getD (i+t) (.none,.none)) key):=by
 have get:∀t,t<l.size-i->l.toList[i+t]?=some (l.getD (i+t) (.none,.none))/\l[i+t]?=some (l.getD (i+t) (.none,.none)):=fun t ht=>by
  have hlt:i+t<l.size:=by omega
  have e:l.getD (i+t) (.none,.none)=l[i+t]:=by simp[Array.getD,hlt]
  rw[e]
  exact⟨by simp[hlt],by simp[hlt]⟩
 refine⟨uk,fun t ht=>⟨_,(get t ht).2,ul _ (ZqG (get t ht).1),by rw[if_pos rfl];exact okk _ (ZqG (get t ht).1),by rw[if_pos rfl]⟩,fun t u htu hu h=>?_⟩
 have hu':=get u hu
 have ht':=get t (by omega)
 cases hc:R (l.getD (i+t) (.none,.none)) key with
 |true=>rfl
 |false =>
  have h2:=Srt.le C ul hs (show i+t<=i+u by omega) ht'.1 hu'.1
  have:=C.tr key _ _ uk (ul _ (ZqG ht'.1)) (ul _ (ZqG hu'.1)) hc h2
  rw[this] at h;cases h
end
section
variable {prog:Program}{w:World}{A:Around}{E:Value->Shared->Prop}{s:Shared}{κ:SortKind}{U:Keyed->Prop}{R:Keyed->Keyed->Bool}{Ok:Keyed->Keyed->Prop}
def Ug (R:Keyed->Keyed->Bool) (a b:Array Keyed) (st:SortSt) (r:Array Keyed) (st':SortSt):Prop:=Srt R r.toList/\r.toList.Perm (a.toList++b.toList)/\∃g,st'=JN st g
def JLo (R:Keyed->Keyed->Bool) (a b:Array Keyed) (st:SortSt) (o:Array Keyed) (i j:Nat) (st':SortSt):Prop:=MI R a.toList b.toList o.toList i j/\i+1<a.size/\j<b.size/\∃g,st'=JN st g
theorem Vc {st:SortSt}{g:Nat}{Q:Unit->SortSt->Prop} (h:Q () (JN st g)):wpS (model prog w) A E s (Zjk g) Q st:=wpS_modify h
theorem Jf {l:Array Keyed}{i:Nat} (h:i<l.size):∃x,l[i]?=some x/\l.toList[i]?=some x/\x∈l.toList:=
 ⟨l[i],by simp[h],by simp[h],by simp⟩
section
variable {st st':SortSt}{a b o:Array Keyed}{i j:Nat}
theorem MLo.finA (M:MLo U R Ok a b) (m:MI R a.toList b.toList o.toList i j) (h:i=a.size\/j=b.size) (hg:∃g,st'=JN st g):Ug R a b st (endA a b o i j) st':=by
 obtain⟨h1,h2⟩:=m.endA M.sa M.sb (by simpa using h)
 rw[<- ZfT] at h1 h2
 exact⟨h1,h2,hg⟩
theorem MLo.finB (M:MLo U R Ok a b) (m:MI R a.toList b.toList o.toList i j) (h:i+1=a.size) (hg:∃g,st'=JN st g):Ug R a b st (endB a b o i j) st':=by
 obtain⟨h1,h2⟩:=m.endB M.sa M.sb fun x hx y hy=>M.lst x (Zro hx) y (by
  obtain⟨t,ht⟩:=Jl hy
  have hl:=(ZqI.mp ht).1
  rw[ZqL] at hl
  rw[show a.size-1=i+t by omega];exact ht)
 rw[<- ZfS] at h1 h2
 exact⟨h1,h2,hg⟩
theorem MLo.a1 (C:JR prog w A s κ U R Ok) (M:MLo U R Ok a b) (m:MI R a.toList b.toList o.toList i j) {x:Keyed} (hx:a.toList[i]?=some x) (hle:∀y∈b.toList.drop j,R y x=false):MI R a.toList b.toList (o.push x).toList (i+1) j:=by
 have hi:=(ZqI.mp hx).1
 have:=m.pushA M.sa 1 (by omega) (by rw[U2 hx];intro y hy;rw[Zrg.mp hy];exact hle)
 rw[U2 hx] at this
 rw[ZrZ];exact this
theorem MLo.b1 (C:JR prog w A s κ U R Ok) (M:MLo U R Ok a b) (m:MI R a.toList b.toList o.toList i j) {x:Keyed} (hx:b.toList[j]?=some x) (hle:∀y∈a.toList.drop i,R y x=false):MI R a.toList b.toList (o.push x).toList i (j+1):=by
 have hj:=(ZqI.mp hx).1
 have:=m.pushB M.sb 1 (by omega) (by rw[U2 hx];intro y hy;rw[Zrg.mp hy];exact hle)
 rw[U2 hx] at this
 rw[ZrZ];exact this
theorem VT (l:Array Keyed) (i k:Nat):(o++l.extract i (i+k)).toList=o.toList++(l.toList.drop i).take k:=by
 simp only[Zsj,ZrI,Zrs]
 rw[show i+k-i=k by omega]
end
theorem Z9 {l:Array Keyed}{i:Nat}{x:Keyed} (h:l.toList[i]?=some x):l.getD i (.none,.none)=x:=by
 have hi:=ZqI.mp h
 have hs:i<l.size:=by simpa using hi.1
 simp only[Array.getD,hs,dif_pos]
 exact hi.2
theorem Zb1 (C:JR prog w A s κ U R Ok) {st:SortSt}{a b:Array Keyed}{Q:Array Keyed->SortSt->Prop} (hk:kindOf st=κ) (M:MLo U R Ok a b)
  (h:∀o st',Ug R a b st o st'->Q o st'):wpS (model prog w) A E s (Zaq a b) Q st:=by
 rw[ZbG]
 obtain⟨b0,hb0,hb0l,hb0m⟩:=Jf M.nb
 obtain⟨a0,ha0,ha0l,ha0m⟩:=Jf M.na
 refine wpS_bind (wpS_lift (wpAny_rule ⟨rfl, ?_⟩))
 refine wpS_bind (Zl hb0 ?_)
 dsimp only
 have m0:MI R a.toList b.toList (#[]:Array Keyed).toList 0 0:=⟨by simp,List.Pairwise.nil,fun x hx=>by simp at hx,fun x hx=>by simp at hx,Zrt _,Zrt _⟩
 have m1:MI R a.toList b.toList (#[b0]:Array Keyed).toList 0 1:=MLo.b1 C M m0 hb0l (C.dropLe M.ua M.sa ha0l (M.ub _ hb0m) (M.fst _ _ hb0l ha0l))
 have g0:∃g,st=JN st g:=⟨gallopOf st,rfl⟩
 by_cases c1:1=b.size
 ·rw[if_pos (by simpa using c1)]
  exact wpS_pure (h _ _ (M.finA m1 (.inr c1) g0))
 rw[if_neg (by simpa using c1)]
 by_cases c2:0+1=a.size
 ·rw[if_pos (by simpa using c2)]
  exact wpS_pure (h _ _ (M.finB m1 c2 g0))
 rw[if_neg (by simpa using c2)]
 refine wpS_bind (wpS_get ?_)
 have na:=M.na
 have nb:=M.nb
 refine wpS_bind (wpS_mono (wpS_forRange
  (I:=fun x (c:Option (Array Keyed)×Array Keyed×Nat×Nat×Nat) (st':SortSt)=>c.1=none/\JLo R a b st c.2.1 c.2.2.1 c.2.2.2.1 st'/\x+1<=c.2.2.1+c.2.2.2.1)
  (Q:=fun(c:Option (Array Keyed)×Array Keyed×Nat×Nat×Nat) (st':SortSt)=>∃r,c.1=some r/\Ug R a b st r st') ?step ?fin ⟨rfl,⟨m1,by dsimp only;omega,by dsimp only;omega,g0⟩,ZqJ _⟩) ?post)
 case fin =>
  rintro⟨o1,o,i,j,g⟩ st' ⟨h1,⟨h2,h3,h4,h5⟩,h6⟩
  dsimp only at h3 h4 h6
  omega
 case post =>
  rintro⟨o1,o,i,j,g⟩ st' ⟨r,h1,h2⟩
  dsimp only at h1
  subst h1
  exact wpS_pure (h _ _ h2)
 case step =>
  rintro x ⟨o1,o,i,j,g⟩ st1 _ hx ⟨rfl,J,hm⟩
  dsimp only at J hm ⊢
  refine wpS_bind (wpS_mono (wpS_forRange
   (I:=fun x' (c:Option (Array Keyed)×Array Keyed×Nat×Nat×Nat×Nat) (st':SortSt)=>c.1=none/\JLo R a b st c.2.1 c.2.2.1 c.2.2.2.1 st'/\i+j+x'<=c.2.2.1+c.2.2.2.1)
   (Q:=fun(c:Option (Array Keyed)×Array Keyed×Nat×Nat×Nat×Nat) (st':SortSt)=>(∃r,c.1=some r/\Ug R a b st r st')\/(c.1=none/\JLo R a b st c.2.1 c.2.2.1 c.2.2.2.1 st'/\i+j+1<=c.2.2.1+c.2.2.2.1)) ?step1 ?fin1 ⟨rfl,J,ZqJ _⟩) ?post1)
  case fin1 =>
   rintro⟨o1,o',i',j',u,v⟩ st' ⟨h1,h2,h3⟩
   dsimp only at h1 h2 h3
   exact .inr ⟨h1,h2,by dsimp only;omega⟩
  case step1 =>
   rintro x' ⟨o1,o',i',j',u,v⟩ st' _ hx' ⟨rfl,⟨m,hi,hj,gs,rfl⟩,hp⟩
   dsimp only at m hi hj hp ⊢
   obtain⟨y,hy,hyl,hym⟩:=Jf hj
   obtain⟨z,hz,hzl,hzm⟩:=Jf (show i'<a.size by omega)
   refine wpS_bind (Zl hy (wpS_bind (Zl hz (wpS_bind (UK C hk (M.ub _ hym) (M.ua _ hzm) (M.ok _ hym _ hzm) ?_)))))
   dsimp only
   cases hR:R y z with
   |true =>
    rw[if_pos rfl]
    refine wpS_bind (Zl hy ?_)
    have m2:=MLo.b1 C M m hyl (C.dropLe M.ua M.sa hzl (M.ub _ hym) (C.asy _ _ (M.ub _ hym) (M.ua _ hzm) hR))
    by_cases e1:j'+1=b.size
    ·rw[if_pos (by simpa using e1)]
     exact wpS_pure (.inl ⟨_,rfl,M.finA m2 (.inr e1) ⟨gs,rfl⟩⟩)
    ·rw[if_neg (by simpa using e1)]
     have J2:JLo R a b st (o'.push y) i' (j'+1) (JN st gs):=⟨m2,hi,by omega,gs,rfl⟩
     split
     ·exact wpS_pure (.inr ⟨rfl,J2,by dsimp only;omega⟩)
     ·exact wpS_pure ⟨rfl,J2,by dsimp only;omega⟩
   |false =>
    rw[if_neg (by decide)]
    refine wpS_bind (Zl hz ?_)
    have m2:=MLo.a1 C M m hzl (C.dropLe M.ub M.sb hyl (M.ua _ hzm) hR)
    by_cases e1:i'+1+1=a.size
    ·rw[if_pos (by simpa using e1)]
     exact wpS_pure (.inl ⟨_,rfl,M.finB m2 e1 ⟨gs,rfl⟩⟩)
    ·rw[if_neg (by simpa using e1)]
     have J2:JLo R a b st (o'.push z) (i'+1) j' (JN st gs):=⟨m2,by omega,hj,gs,rfl⟩
     split
     ·exact wpS_pure (.inr ⟨rfl,J2,by dsimp only;omega⟩)
     ·exact wpS_pure ⟨rfl,J2,by dsimp only;omega⟩
  case post1 =>
   rintro⟨o1,o',i',j',u,v⟩ st' (⟨r,h1,h2⟩|⟨h1,h2,h3⟩)
   ·dsimp only at h1 h2 ⊢
    subst h1
    exact wpS_pure ⟨r,rfl,h2⟩
   ·dsimp only at h1 h2 h3 ⊢
    subst h1
    refine wpS_bind (wpS_lift (wpAny_rule ⟨rfl, ?_⟩))
    refine wpS_bind (wpS_mono (wpS_forRange
     (I:=fun _ (c:Option (Array Keyed)×Array Keyed×Nat×Nat×Nat×Nat×Nat) (st':SortSt)=>c.1=none/\JLo R a b st c.2.1 c.2.2.1 c.2.2.2.1 st'/\x+1+1<=c.2.2.1+c.2.2.2.1)
     (Q:=fun(c:Option (Array Keyed)×Array Keyed×Nat×Nat×Nat×Nat×Nat) (st':SortSt)=>(∃r,c.1=some r/\Ug R a b st r st')\/(c.1=none/\JLo R a b st c.2.1 c.2.2.1 c.2.2.2.1 st'/\x+1+1<=c.2.2.1+c.2.2.2.1)) ?step2 (fun c st' hc=>.inr hc) ⟨rfl,h2,by dsimp only;omega⟩) ?post2)
    case post2 =>
     rintro⟨o1,o',i',j',g',u,v⟩ st' (⟨r,h1,h2⟩|⟨h1,h2,h3⟩)
     ·dsimp only at h1 h2 ⊢
      subst h1
      exact wpS_pure ⟨r,rfl,h2⟩
     ·dsimp only at h1 h2 h3 ⊢
      subst h1
      obtain⟨m,hi,hj,gs,rfl⟩:=h2
      exact wpS_bind (Vc (wpS_pure ⟨rfl,⟨m,hi,hj,_,rfl⟩,by dsimp only;omega⟩))
    case step2 =>
     clear h2 h3 J hm m0 m1
     rintro x' ⟨o1,o,i,j,g,u,v⟩ st' _ hx' ⟨rfl,⟨m,hi,hj,gs,rfl⟩,hp⟩
     dsimp only at m hi hj hp ⊢
     obtain⟨y,hy,hyl,hym⟩:=Jf hj
     by_cases hg1:g>1
     ·rw[if_pos hg1]
      refine wpS_bind (Vc ?_)
      refine wpS_bind (Zl hy (wpS_bind (Z5 C (show kindOf (JN _ _)=κ from hk) (Zgg C M.ua M.sa (M.ub _ hym) (M.ok _ hym) (show i<=a.size by omega)) (by omega) fun k p1 p2 p3=>?_)))
      dsimp only
      have fb2:∀z∈a.toList.drop (i+k),R z y=false:=fun z hz=>by
       obtain⟨t,ht⟩:=Jl hz
       have hl:=(ZqI.mp ht).1
       rw[ZqL] at hl
       have:=p3 (k+t) (by omega) (by omega)
       rw[show i+(k+t)=i+k+t by omega,Z9 ht] at this
       exact C.asy _ _ (M.ub _ hym) (M.ua _ (ZqG ht)) (by simpa using this)
      by_cases hk1:k>0
      ·rw[if_pos hk1]
       have m2:=m.pushA M.sa k (by rw[ZqL];omega) (fun x hx z hz=>by
        obtain⟨t,htk,ht⟩:=VX hx
        have h1:=p2 t htk
        rw[Z9 ht] at h1
        exact C.dropLe M.ub M.sb hyl (M.ua x (ZqG ht)) (by simpa using h1) z hz)
       rw[<- VT] at m2
       by_cases e0:i+k+1=a.size
       ·rw[if_pos (by simpa using e0)]
        exact wpS_pure (.inl ⟨_,rfl,M.finB m2 e0 ⟨_,rfl⟩⟩)
       rw[if_neg (by simpa using e0)]
       by_cases e1:i+k=a.size
       ·rw[if_pos (by simpa using e1)]
        exact wpS_pure (.inl ⟨_,rfl,M.finA m2 (.inl e1) ⟨_,rfl⟩⟩)
       rw[if_neg (by simpa using e1)]
       have fb:=fb2
       refine wpS_bind (Zl hy ?_)
       have m2':=MLo.b1 C M m2 hyl fb
       by_cases e2:j+1=b.size
       ·rw[if_pos (by simpa using e2)]
        exact wpS_pure (.inl ⟨_,rfl,M.finA m2' (.inr e2) ⟨_,rfl⟩⟩)
       rw[if_neg (by simpa using e2)]
       obtain⟨z,hz,hzl,hzm⟩:=Jf (show i+k<a.size by omega)
       refine wpS_bind (Zl hz (wpS_bind (Z5 C hk (ZaU C M.ub M.sb (M.ua _ hzm) (fun y hy=>M.ok y hy _ hzm) (show j+1<=b.size by omega)) (by omega) fun k2 q1 q2 q3=>?_)))
       dsimp only
       have fz2:∀y∈b.toList.drop (j+1+k2),R y z=false:=fun y hy=>by
        obtain⟨t,ht⟩:=Jl hy
        have hl:=(ZqI.mp ht).1
        rw[ZqL] at hl
        have:=q3 (k2+t) (by omega) (by omega)
        rw[show j+1+(k2+t)=j+1+k2+t by omega,Z9 ht] at this
        exact this
       by_cases hk2:k2>0
       ·rw[if_pos hk2]
        have m3:=m2'.pushB M.sb k2 (by rw[ZqL];omega) (fun x hx y hy=>by
         obtain⟨t,htk,ht⟩:=VX hx
         have h1:=q2 t htk
         rw[Z9 ht] at h1
         have ux:=M.ub x (ZqG ht)
         have h2:=C.dropLe M.ua M.sa hzl ux (C.asy _ _ ux (M.ua _ hzm) h1)
         exact h2 y hy)
        rw[<- VT] at m3
        by_cases e3:j+1+k2=b.size
        ·rw[if_pos (by simpa using e3)]
         exact wpS_pure (.inl ⟨_,rfl,M.finA m3 (.inr e3) ⟨_,rfl⟩⟩)
        rw[if_neg (by simpa using e3)]
        have hj3:j+1+k2<b.size:=by omega
        have fz:=fz2
        refine wpS_bind (Zl hz ?_)
        have m4:=MLo.a1 C M m3 hzl fz
        by_cases e4:i+k+1+1=a.size
        ·rw[if_pos (by simpa using e4)]
         exact wpS_pure (.inl ⟨_,rfl,M.finB m4 e4 ⟨_,rfl⟩⟩)
        ·rw[if_neg (by simpa using e4)]
         split
         ·exact wpS_pure (.inr ⟨rfl,⟨m4,by dsimp only;omega,hj3,_,rfl⟩,by dsimp only;omega⟩)
         ·exact wpS_pure ⟨rfl,⟨m4,by dsimp only;omega,hj3,_,rfl⟩,by dsimp only;omega⟩
       ·rw[if_neg hk2]
        obtain rfl:k2=0:=by omega
        have m3:=m2'
        have hj3:j+1<b.size:=by omega
        have fz:∀y∈b.toList.drop (j+1),R y z=false:=fz2
        refine wpS_bind (Zl hz ?_)
        have m4:=MLo.a1 C M m3 hzl fz
        by_cases e4:i+k+1+1=a.size
        ·rw[if_pos (by simpa using e4)]
         exact wpS_pure (.inl ⟨_,rfl,M.finB m4 e4 ⟨_,rfl⟩⟩)
        ·rw[if_neg (by simpa using e4)]
         split
         ·exact wpS_pure (.inr ⟨rfl,⟨m4,by dsimp only;omega,hj3,_,rfl⟩,by dsimp only;omega⟩)
         ·exact wpS_pure ⟨rfl,⟨m4,by dsimp only;omega,hj3,_,rfl⟩,by dsimp only;omega⟩
      ·rw[if_neg hk1]
       obtain rfl:k=0:=by omega
       have m2:=m
       have fb:∀z∈a.toList.drop i,R z y=false:=fb2
       refine wpS_bind (Zl hy ?_)
       have m2':=MLo.b1 C M m2 hyl fb
       by_cases e2:j+1=b.size
       ·rw[if_pos (by simpa using e2)]
        exact wpS_pure (.inl ⟨_,rfl,M.finA m2' (.inr e2) ⟨_,rfl⟩⟩)
       rw[if_neg (by simpa using e2)]
       obtain⟨z,hz,hzl,hzm⟩:=Jf (show i<a.size by omega)
       refine wpS_bind (Zl hz (wpS_bind (Z5 C hk (ZaU C M.ub M.sb (M.ua _ hzm) (fun y hy=>M.ok y hy _ hzm) (show j+1<=b.size by omega)) (by omega) fun k2 q1 q2 q3=>?_)))
       dsimp only
       have fz2:∀y∈b.toList.drop (j+1+k2),R y z=false:=fun y hy=>by
        obtain⟨t,ht⟩:=Jl hy
        have hl:=(ZqI.mp ht).1
        rw[ZqL] at hl
        have:=q3 (k2+t) (by omega) (by omega)
        rw[show j+1+(k2+t)=j+1+k2+t by omega,Z9 ht] at this
        exact this
       by_cases hk2:k2>0
       ·rw[if_pos hk2]
        have m3:=m2'.pushB M.sb k2 (by rw[ZqL];omega) (fun x hx y hy=>by
         obtain⟨t,htk,ht⟩:=VX hx
         have h1:=q2 t htk
         rw[Z9 ht] at h1
         have ux:=M.ub x (ZqG ht)
         have h2:=C.dropLe M.ua M.sa hzl ux (C.asy _ _ ux (M.ua _ hzm) h1)
         exact h2 y hy)
        rw[<- VT] at m3
        by_cases e3:j+1+k2=b.size
        ·rw[if_pos (by simpa using e3)]
         exact wpS_pure (.inl ⟨_,rfl,M.finA m3 (.inr e3) ⟨_,rfl⟩⟩)
        rw[if_neg (by simpa using e3)]
        have hj3:j+1+k2<b.size:=by omega
        have fz:=fz2
        refine wpS_bind (Zl hz ?_)
        have m4:=MLo.a1 C M m3 hzl fz
        by_cases e4:i+1+1=a.size
        ·rw[if_pos (by simpa using e4)]
         exact wpS_pure (.inl ⟨_,rfl,M.finB m4 e4 ⟨_,rfl⟩⟩)
        ·rw[if_neg (by simpa using e4)]
         split
         ·exact wpS_pure (.inr ⟨rfl,⟨m4,by dsimp only;omega,hj3,_,rfl⟩,by dsimp only;omega⟩)
         ·exact wpS_pure ⟨rfl,⟨m4,by dsimp only;omega,hj3,_,rfl⟩,by dsimp only;omega⟩
       ·rw[if_neg hk2]
        obtain rfl:k2=0:=by omega
        have m3:=m2'
        have hj3:j+1<b.size:=by omega
        have fz:∀y∈b.toList.drop (j+1),R y z=false:=fz2
        refine wpS_bind (Zl hz ?_)
        have m4:=MLo.a1 C M m3 hzl fz
        by_cases e4:i+1+1=a.size
        ·rw[if_pos (by simpa using e4)]
         exact wpS_pure (.inl ⟨_,rfl,M.finB m4 e4 ⟨_,rfl⟩⟩)
        ·rw[if_neg (by simpa using e4)]
         split
         ·exact wpS_pure (.inr ⟨rfl,⟨m4,by dsimp only;omega,hj3,_,rfl⟩,by dsimp only;omega⟩)
         ·exact wpS_pure ⟨rfl,⟨m4,by dsimp only;omega,hj3,_,rfl⟩,by dsimp only;omega⟩
     ·rw[if_neg hg1]
      refine wpS_bind (Vc ?_)
      refine wpS_bind (Zl hy (wpS_bind (Z5 C (show kindOf (JN _ _)=κ from hk) (Zgg C M.ua M.sa (M.ub _ hym) (M.ok _ hym) (show i<=a.size by omega)) (by omega) fun k p1 p2 p3=>?_)))
      dsimp only
      have fb2:∀z∈a.toList.drop (i+k),R z y=false:=fun z hz=>by
       obtain⟨t,ht⟩:=Jl hz
       have hl:=(ZqI.mp ht).1
       rw[ZqL] at hl
       have:=p3 (k+t) (by omega) (by omega)
       rw[show i+(k+t)=i+k+t by omega,Z9 ht] at this
       exact C.asy _ _ (M.ub _ hym) (M.ua _ (ZqG ht)) (by simpa using this)
      by_cases hk1:k>0
      ·rw[if_pos hk1]
       have m2:=m.pushA M.sa k (by rw[ZqL];omega) (fun x hx z hz=>by
        obtain⟨t,htk,ht⟩:=VX hx
        have h1:=p2 t htk
        rw[Z9 ht] at h1
        exact C.dropLe M.ub M.sb hyl (M.ua x (ZqG ht)) (by simpa using h1) z hz)
       rw[<- VT] at m2
       by_cases e0:i+k+1=a.size
       ·rw[if_pos (by simpa using e0)]
        exact wpS_pure (.inl ⟨_,rfl,M.finB m2 e0 ⟨_,rfl⟩⟩)
       rw[if_neg (by simpa using e0)]
       by_cases e1:i+k=a.size
       ·rw[if_pos (by simpa using e1)]
        exact wpS_pure (.inl ⟨_,rfl,M.finA m2 (.inl e1) ⟨_,rfl⟩⟩)
       rw[if_neg (by simpa using e1)]
       have fb:=fb2
       refine wpS_bind (Zl hy ?_)
       have m2':=MLo.b1 C M m2 hyl fb
       by_cases e2:j+1=b.size
       ·rw[if_pos (by simpa using e2)]
        exact wpS_pure (.inl ⟨_,rfl,M.finA m2' (.inr e2) ⟨_,rfl⟩⟩)
       rw[if_neg (by simpa using e2)]
       obtain⟨z,hz,hzl,hzm⟩:=Jf (show i+k<a.size by omega)
       refine wpS_bind (Zl hz (wpS_bind (Z5 C hk (ZaU C M.ub M.sb (M.ua _ hzm) (fun y hy=>M.ok y hy _ hzm) (show j+1<=b.size by omega)) (by omega) fun k2 q1 q2 q3=>?_)))
       dsimp only
       have fz2:∀y∈b.toList.drop (j+1+k2),R y z=false:=fun y hy=>by
        obtain⟨t,ht⟩:=Jl hy
        have hl:=(ZqI.mp ht).1
        rw[ZqL] at hl
        have:=q3 (k2+t) (by omega) (by omega)
        rw[show j+1+(k2+t)=j+1+k2+t by omega,Z9 ht] at this
        exact this
       by_cases hk2:k2>0
       ·rw[if_pos hk2]
        have m3:=m2'.pushB M.sb k2 (by rw[ZqL];omega) (fun x hx y hy=>by
         obtain⟨t,htk,ht⟩:=VX hx
         have h1:=q2 t htk
         rw[Z9 ht] at h1
         have ux:=M.ub x (ZqG ht)
         have h2:=C.dropLe M.ua M.sa hzl ux (C.asy _ _ ux (M.ua _ hzm) h1)
         exact h2 y hy)
        rw[<- VT] at m3
        by_cases e3:j+1+k2=b.size
        ·rw[if_pos (by simpa using e3)]
         exact wpS_pure (.inl ⟨_,rfl,M.finA m3 (.inr e3) ⟨_,rfl⟩⟩)
        rw[if_neg (by simpa using e3)]
        have hj3:j+1+k2<b.size:=by omega
        have fz:=fz2
        refine wpS_bind (Zl hz ?_)
        have m4:=MLo.a1 C M m3 hzl fz
        by_cases e4:i+k+1+1=a.size
        ·rw[if_pos (by simpa using e4)]
         exact wpS_pure (.inl ⟨_,rfl,M.finB m4 e4 ⟨_,rfl⟩⟩)
        ·rw[if_neg (by simpa using e4)]
         split
         ·exact wpS_pure (.inr ⟨rfl,⟨m4,by dsimp only;omega,hj3,_,rfl⟩,by dsimp only;omega⟩)
         ·exact wpS_pure ⟨rfl,⟨m4,by dsimp only;omega,hj3,_,rfl⟩,by dsimp only;omega⟩
       ·rw[if_neg hk2]
        obtain rfl:k2=0:=by omega
        have m3:=m2'
        have hj3:j+1<b.size:=by omega
        have fz:∀y∈b.toList.drop (j+1),R y z=false:=fz2
        refine wpS_bind (Zl hz ?_)
        have m4:=MLo.a1 C M m3 hzl fz
        by_cases e4:i+k+1+1=a.size
        ·rw[if_pos (by simpa using e4)]
         exact wpS_pure (.inl ⟨_,rfl,M.finB m4 e4 ⟨_,rfl⟩⟩)
        ·rw[if_neg (by simpa using e4)]
         split
         ·exact wpS_pure (.inr ⟨rfl,⟨m4,by dsimp only;omega,hj3,_,rfl⟩,by dsimp only;omega⟩)
         ·exact wpS_pure ⟨rfl,⟨m4,by dsimp only;omega,hj3,_,rfl⟩,by dsimp only;omega⟩
      ·rw[if_neg hk1]
       obtain rfl:k=0:=by omega
       have m2:=m
       have fb:∀z∈a.toList.drop i,R z y=false:=fb2
       refine wpS_bind (Zl hy ?_)
       have m2':=MLo.b1 C M m2 hyl fb
       by_cases e2:j+1=b.size
       ·rw[if_pos (by simpa using e2)]
        exact wpS_pure (.inl ⟨_,rfl,M.finA m2' (.inr e2) ⟨_,rfl⟩⟩)
       rw[if_neg (by simpa using e2)]
       obtain⟨z,hz,hzl,hzm⟩:=Jf (show i<a.size by omega)
       refine wpS_bind (Zl hz (wpS_bind (Z5 C hk (ZaU C M.ub M.sb (M.ua _ hzm) (fun y hy=>M.ok y hy _ hzm) (show j+1<=b.size by omega)) (by omega) fun k2 q1 q2 q3=>?_)))
       dsimp only
       have fz2:∀y∈b.toList.drop (j+1+k2),R y z=false:=fun y hy=>by
        obtain⟨t,ht⟩:=Jl hy
        have hl:=(ZqI.mp ht).1
        rw[ZqL] at hl
        have:=q3 (k2+t) (by omega) (by omega)
        rw[show j+1+(k2+t)=j+1+k2+t by omega,Z9 ht] at this
        exact this
       by_cases hk2:k2>0
       ·rw[if_pos hk2]
        have m3:=m2'.pushB M.sb k2 (by rw[ZqL];omega) (fun x hx y hy=>by
         obtain⟨t,htk,ht⟩:=VX hx
         have h1:=q2 t htk
         rw[Z9 ht] at h1
         have ux:=M.ub x (ZqG ht)
         have h2:=C.dropLe M.ua M.sa hzl ux (C.asy _ _ ux (M.ua _ hzm) h1)
         exact h2 y hy)
        rw[<- VT] at m3
        by_cases e3:j+1+k2=b.size
        ·rw[if_pos (by simpa using e3)]
         exact wpS_pure (.inl ⟨_,rfl,M.finA m3 (.inr e3) ⟨_,rfl⟩⟩)
        rw[if_neg (by simpa using e3)]
        have hj3:j+1+k2<b.size:=by omega
        have fz:=fz2
        refine wpS_bind (Zl hz ?_)
        have m4:=MLo.a1 C M m3 hzl fz
        by_cases e4:i+1+1=a.size
        ·rw[if_pos (by simpa using e4)]
         exact wpS_pure (.inl ⟨_,rfl,M.finB m4 e4 ⟨_,rfl⟩⟩)
        ·rw[if_neg (by simpa using e4)]
         split
         ·exact wpS_pure (.inr ⟨rfl,⟨m4,by dsimp only;omega,hj3,_,rfl⟩,by dsimp only;omega⟩)
         ·exact wpS_pure ⟨rfl,⟨m4,by dsimp only;omega,hj3,_,rfl⟩,by dsimp only;omega⟩
       ·rw[if_neg hk2]
        obtain rfl:k2=0:=by omega
        have m3:=m2'
        have hj3:j+1<b.size:=by omega
        have fz:∀y∈b.toList.drop (j+1),R y z=false:=fz2
        refine wpS_bind (Zl hz ?_)
        have m4:=MLo.a1 C M m3 hzl fz
        by_cases e4:i+1+1=a.size
        ·rw[if_pos (by simpa using e4)]
         exact wpS_pure (.inl ⟨_,rfl,M.finB m4 e4 ⟨_,rfl⟩⟩)
        ·rw[if_neg (by simpa using e4)]
         split
         ·exact wpS_pure (.inr ⟨rfl,⟨m4,by dsimp only;omega,hj3,_,rfl⟩,by dsimp only;omega⟩)
         ·exact wpS_pure ⟨rfl,⟨m4,by dsimp only;omega,hj3,_,rfl⟩,by dsimp only;omega⟩
end
noncomputable def Zar:Array Keyed->Array Keyed->StateT SortSt Sem (Array Keyed):=sortPriv% PySem.Builtin.mergeHi
noncomputable def hiA (a b o:Array Keyed) (i j:Nat):Array Keyed:=a.extract 0 i++b.extract 0 j++o.reverse
noncomputable def hiB (a b o:Array Keyed) (i j:Nat):Array Keyed:=b.extract 0 j++a.extract 0 i++o.reverse
theorem ZbH (a b:Array Keyed):Zar a b=(do
  rule "list.sort.merge-hi"
  let n:=a.size+b.size
  let mut i:=a.size-1
  let mut j:=b.size
  let mut o:Array Keyed:=#[<- elem' a i]
  if i==0 then return hiA a b o i j
  if j==1 then return hiB a b o i j
  let mut g:=gallopOf (<- get)
  for _ in [0:n] do
   let mut x:=0
   let mut y:=0
   for _ in [0:n] do
    let some t <- lt' (<- elem' b (j-1)) (<- elem' a (i-1))|return hiA a b o i j
    if t then
     i:=i-1;o:=o.push (<- elem' a i);x:=x+1;y:=0
     if i==0 then return hiA a b o i j
     if x ≥ g then break
    else
     j:=j-1;o:=o.push (<- elem' b j);y:=y+1;x:=0
     if j==1 then return hiB a b o i j
     if y ≥ g then break
   rule "list.sort.gallop"
   g:=g+1
   for _ in [0:n] do
    if g>1 then g:=g-1
    Zjk g
    let some q <- JX false (<- elem' b (j-1)) a 0 i (i-1)|return hiA a b o i j
    let k:=i-q
    x:=k
    if k>0 then
     o:=o++(a.extract q i).reverse;i:=q
     if i==0 then return hiA a b o i j
    j:=j-1;o:=o.push (<- elem' b j)
    if j==1 then return hiB a b o i j
    let some q <- JX true (<- elem' a (i-1)) b 0 j (j-1)|return hiA a b o i j
    let k:=j-q
    y:=k
    if k>0 then
     o:=o++(b.extract q j).reverse;j:=q
     if j==1 then return hiB a b o i j
     if j==0 then return hiA a b o i j
    i:=i-1;o:=o.push (<- elem' a i)
    if i==0 then return hiA a b o i j
    if x<7&&y<7 then break
   g:=g+1
   Zjk g
  unsupported "internal:list.sort.merge-bound"):=rfl
structure MH (R:Keyed->Keyed->Bool) (a b q:List Keyed) (i j:Nat):Prop where
 perm:q.Perm (a.drop i++b.drop j)
 srt:Srt R q
 ga:∀x∈a.take i,∀y∈q,R y x=false
 gb:∀x∈b.take j,∀y∈q,R y x=false
 hi:i<=a.length
 hj:j<=b.length
section
variable {R:Keyed->Keyed->Bool}{a b q:List Keyed}{i j:Nat}
theorem J9 (l:List Keyed) {c i:Nat} (h:c<=i):l.take c++(l.take i).drop c=l.take i:=by
 rw[show l.take c=(l.take i).take c by rw[List.take_take,Nat.min_eq_left h]]
 exact ZqX c (l.take i)
theorem QT (l:List Keyed) {c i:Nat} (h:c<=i):(l.take i).drop c++l.drop i=l.drop c:=by
 have e:l.take c++((l.take i).drop c++l.drop i)=l.take c++l.drop c:=by
  rw[<- ZqP,J9 l h,ZqX,ZqX]
 exact List.append_cancel_left e
theorem Srt.take {l:List Keyed} (h:Srt R l) (i:Nat):Srt R (l.take i):=h.sublist (List.take_sublist i l)
theorem MH.pushA (M:MH R a b q i j) (sa:Srt R a) {c:Nat} (hc:c<=i) (hle:∀x∈b.take j,∀y∈(a.take i).drop c,R y x=false):MH R a b ((a.take i).drop c++q) c j:=by
 have sd:=sa.take i
 rw[<- J9 a hc] at sd
 obtain⟨s1,s2,s3⟩:=ZqR.mp sd
 refine⟨?_, ?_, ?_, ?_,Zrq hc M.hi,M.hj⟩
 ·refine(List.Perm.append_left _ M.perm).trans ?_
  rw[<- ZqP,QT a hc]
 ·exact ZqR.mpr ⟨s2,M.srt,fun x hx y hy=>M.ga x (Zro hx) y hy⟩
 ·intro x hx y hy
  rcases ZqK.mp hy with hy|hy
  ·exact s3 x hx y hy
  ·exact M.ga x (by rw[<- J9 a hc];exact ZqM _ hx) y hy
 ·intro x hx y hy
  rcases ZqK.mp hy with hy|hy
  ·exact hle x hx y hy
  ·exact M.gb x hx y hy
theorem MH.pushB (M:MH R a b q i j) (sb:Srt R b) {c:Nat} (hc:c<=j) (hle:∀x∈a.take i,∀y∈(b.take j).drop c,R y x=false):MH R a b ((b.take j).drop c++q) i c:=by
 have sd:=sb.take j
 rw[<- J9 b hc] at sd
 obtain⟨s1,s2,s3⟩:=ZqR.mp sd
 refine⟨?_, ?_, ?_, ?_,M.hi,Zrq hc M.hj⟩
 ·refine(List.Perm.append_left _ M.perm).trans ?_
  rw[<- QT b hc]
  have:∀X Y Z:List Keyed,(X++(Y++Z)).Perm (Y++(X++Z)):=fun X Y Z=>by
   rw[<- ZqP,<- ZqP]
   exact List.Perm.append_right _ Zr9
  exact this _ _ _
 ·exact ZqR.mpr ⟨s2,M.srt,fun x hx y hy=>M.gb x (Zro hx) y hy⟩
 ·intro x hx y hy
  rcases ZqK.mp hy with hy|hy
  ·exact hle x hx y hy
  ·exact M.ga x hx y hy
 ·intro x hx y hy
  rcases ZqK.mp hy with hy|hy
  ·exact s3 x hx y hy
  ·exact M.gb x (by rw[<- J9 b hc];exact ZqM _ hx) y hy
theorem MH.all_perm (M:MH R a b q i j):(a.take i++(b.take j++q)).Perm (a++b):=by
 refine(List.Perm.append_left _ (List.Perm.append_left _ M.perm)).trans ?_
 have p1:∀X Y Z W:List Keyed,(X++(Y++(Z++W))).Perm ((X++Z)++(Y++W)):=fun X Y Z W=>by
  rw[ZqP]
  refine List.Perm.append_left _ ?_
  rw[<- ZqP,<- ZqP]
  exact List.Perm.append_right _ Zr9
 refine(p1 _ _ _ _).trans ?_
 rw[ZqX,ZqX]
theorem MH.endA (M:MH R a b q i j) (sa:Srt R a) (sb:Srt R b) (h:i=0\/j=0):Srt R (a.take i++(b.take j++q))/\(a.take i++(b.take j++q)).Perm (a++b):=by
 refine⟨?_,M.all_perm⟩
 have sq:Srt R (b.take j++q):=ZqR.mpr ⟨sb.take j,M.srt,M.gb⟩
 refine ZqR.mpr ⟨sa.take i,sq,fun x hx y hy=>?_⟩
 rcases h with h|h
 ·rw[h,List.take_zero] at hx;simp at hx
 ·rw[h,List.take_zero,ZrC] at hy
  exact M.ga x hx y hy
theorem MH.endB (M:MH R a b q i j) (sa:Srt R a) (sb:Srt R b) (h:∀x∈b.take j,∀y∈a.take i,R y x=false):Srt R (b.take j++(a.take i++q))/\(b.take j++(a.take i++q)).Perm (a++b):=by
 refine⟨?_, ?_⟩
 ·refine ZqR.mpr ⟨sb.take j,ZqR.mpr ⟨sa.take i,M.srt,M.ga⟩,fun x hx y hy=>?_⟩
  rcases ZqK.mp hy with hy|hy
  ·exact h x hx y hy
  ·exact M.gb x hx y hy
 ·refine List.Perm.trans ?_ M.all_perm
  rw[<- ZqP,<- ZqP]
  exact List.Perm.append_right _ Zr9
end
section
variable {prog:Program}{w:World}{A:Around}{E:Value->Shared->Prop}{s:Shared}{κ:SortKind}{U:Keyed->Prop}{R:Keyed->Keyed->Bool}{Ok:Keyed->Keyed->Prop}
theorem Us.le {left:Bool}{key:Keyed}{arr:Array Keyed}{base n m:Nat}{P:Nat->Bool} (K:Us U R Ok left key arr base m P) (h:n<=m):Us U R Ok left key arr base n P:=
 ⟨K.uk,fun i hi=>K.it i (by omega),fun i j h1 h2 h3=>K.mono i j h1 (by omega) h3⟩
theorem JR.takeLe (C:JR prog w A s κ U R Ok) {l:List Keyed}{n:Nat}{v z:Keyed} (ul:∀y∈l,U y) (hs:Srt R l) (hn:0<n) (hz:l[n-1]?=some z) (uv:U v) (h:R v z=false):∀x∈l.take n,R v x=false:=fun x hx=>by
 obtain⟨t,ht⟩:=Zrp hx
 rw[Zrh] at ht
 split at ht
 ·rename_i htn
  have h1:=Srt.le C ul hs (show t<=n-1 by omega) ht hz
  exact C.tr x z v (ul x (ZqG ht)) (ul z (ZqG hz)) uv h1 h
 ·cases ht
theorem VE {l:List Keyed}{i:Nat}{x:Keyed} (h:x∈l.take i):∃t,t<i/\l[t]?=some x:=by
 obtain⟨t,ht⟩:=Zrp h
 rw[Zrh] at ht
 split at ht
 ·rename_i hi;exact⟨t,hi,ht⟩
 ·cases ht
theorem Vi {l:List Keyed}{i c:Nat}{x:Keyed} (h:x∈(l.take i).drop c):∃t,(c<=t/\t<i)/\l[t]?=some x:=by
 obtain⟨t,ht⟩:=Zrp h
 rw[Zre,Zrh] at ht
 split at ht
 ·rename_i hi;exact⟨c+t,by omega,ht⟩
 ·cases ht
theorem U3 {l:List Keyed}{i:Nat}{x:Keyed} (hi:0<i) (h:l[i-1]?=some x):(l.take i).drop (i-1)=[x]:=by
 have hl:=ZqI.mp h
 have e:(l.take i)[i-1]?=some x:=by rw[Zrh,if_pos (by omega),h]
 have h2:=ZqI.mp e
 rw[Zrl h2.1,h2.2,ZrX (by rw[Zrd];omega)]
theorem ZhG (a b o:Array Keyed) (i j:Nat):(hiA a b o i j).toList=a.toList.take i++(b.toList.take j++o.toList.reverse):=by
 simp[hiA,ZqP,Zrs]
theorem ZhF (a b o:Array Keyed) (i j:Nat):(hiB a b o i j).toList=b.toList.take j++(a.toList.take i++o.toList.reverse):=by
 simp[hiB,ZqP,Zrs]
theorem VS (l o:Array Keyed) (q i:Nat):(o++(l.extract q i).reverse).toList.reverse=(l.toList.take i).drop q++o.toList.reverse:=by
 simp[Zrs,List.drop_take]
theorem Zcu (o:Array Keyed) (x:Keyed):(o.push x).toList.reverse=[x]++o.toList.reverse:=by simp
def JHi (R:Keyed->Keyed->Bool) (a b:Array Keyed) (st:SortSt) (o:Array Keyed) (i j:Nat) (st':SortSt):Prop:=MH R a.toList b.toList o.toList.reverse i j/\0<i/\1<j/\∃g,st'=JN st g
section
variable {st st':SortSt}{a b o:Array Keyed}{i j:Nat}
theorem MLo.hfA (M:MLo U R Ok a b) (m:MH R a.toList b.toList o.toList.reverse i j) (h:i=0\/j=0) (hg:∃g,st'=JN st g):Ug R a b st (hiA a b o i j) st':=by
 obtain⟨h1,h2⟩:=m.endA M.sa M.sb h
 rw[<- ZhG] at h1 h2
 exact⟨h1,h2,hg⟩
theorem MLo.hfB (C:JR prog w A s κ U R Ok) (M:MLo U R Ok a b) (m:MH R a.toList b.toList o.toList.reverse i j) (h:j=1) (hg:∃g,st'=JN st g):Ug R a b st (hiB a b o i j) st':=by
 obtain⟨a0,ha0,ha0l,ha0m⟩:=Jf M.na
 obtain⟨h1,h2⟩:=m.endB M.sa M.sb fun x hx y hy=>by
  obtain⟨t,ht,hx⟩:=VE hx
  have ht0:t=0:=by omega
  rw[ht0] at hx
  have:=C.dropLe M.ua M.sa ha0l (M.ub _ (ZqG hx)) (M.fst _ _ hx ha0l)
  rw[ZrQ] at this
  exact this y (Zrn hy)
 rw[<- ZhF] at h1 h2
 exact⟨h1,h2,hg⟩
theorem MLo.ha1 (M:MLo U R Ok a b) (m:MH R a.toList b.toList o.toList.reverse i j) {x:Keyed} (hi:0<i) (hx:a.toList[i-1]?=some x) (hle:∀y∈b.toList.take j,R x y=false):MH R a.toList b.toList (o.push x).toList.reverse (i-1) j:=by
 have:=m.pushA M.sa (c:=i-1) (by omega) (by rw[U3 hi hx];intro y hy z hz;rw[Zrg.mp hz];exact hle y hy)
 rw[U3 hi hx] at this
 rw[Zcu];exact this
theorem MLo.hb1 (M:MLo U R Ok a b) (m:MH R a.toList b.toList o.toList.reverse i j) {x:Keyed} (hj:0<j) (hx:b.toList[j-1]?=some x) (hle:∀y∈a.toList.take i,R x y=false):MH R a.toList b.toList (o.push x).toList.reverse i (j-1):=by
 have:=m.pushB M.sb (c:=j-1) (by omega) (by rw[U3 hj hx];intro y hy z hz;rw[Zrg.mp hz];exact hle y hy)
 rw[U3 hj hx] at this
 rw[Zcu];exact this
end
theorem Zb2 (C:JR prog w A s κ U R Ok) {st:SortSt}{a b:Array Keyed}{Q:Array Keyed->SortSt->Prop} (hk:kindOf st=κ) (M:MLo U R Ok a b)
  (h:∀o st',Ug R a b st o st'->Q o st'):wpS (model prog w) A E s (Zar a b) Q st:=by
 rw[ZbH]
 have na:=M.na
 have nb:=M.nb
 obtain⟨al,hal,hall,halm⟩:=Jf (show a.size-1<a.size by omega)
 refine wpS_bind (wpS_lift (wpAny_rule ⟨rfl, ?_⟩))
 refine wpS_bind (Zl hal ?_)
 dsimp only
 have m0:MH R a.toList b.toList (#[]:Array Keyed).toList.reverse a.size b.size:=⟨by simp,List.Pairwise.nil,fun x _ y hy=>by simp at hy,fun x _ y hy=>by simp at hy,by simp,by simp⟩
 have m1:MH R a.toList b.toList (#[al]:Array Keyed).toList.reverse (a.size-1) b.size:=M.ha1 m0 na hall fun y hy=>M.lst y (Zrn hy) al hall
 have g0:∃g,st=JN st g:=⟨gallopOf st,rfl⟩
 by_cases c1:a.size-1=0
 ·rw[if_pos (by simpa using c1)]
  exact wpS_pure (h _ _ (M.hfA m1 (.inl c1) g0))
 rw[if_neg (by simpa using c1)]
 by_cases c2:b.size=1
 ·rw[if_pos (by simpa using c2)]
  exact wpS_pure (h _ _ (MLo.hfB C M m1 c2 g0))
 rw[if_neg (by simpa using c2)]
 refine wpS_bind (wpS_get ?_)
 refine wpS_bind (wpS_mono (wpS_forRange
  (I:=fun x (c:Option (Array Keyed)×Nat×Nat×Array Keyed×Nat) (st':SortSt)=>c.1=none/\JHi R a b st c.2.2.2.1 c.2.1 c.2.2.1 st'/\c.2.1+c.2.2.1+x+1<=a.size+b.size)
  (Q:=fun(c:Option (Array Keyed)×Nat×Nat×Array Keyed×Nat) (st':SortSt)=>∃r,c.1=some r/\Ug R a b st r st') ?step ?fin ⟨rfl,⟨m1,by dsimp only;omega,by dsimp only;omega,g0⟩,by dsimp only;omega⟩) ?post)
 case fin =>
  rintro⟨o1,i,j,o,g⟩ st' ⟨h1,⟨h2,h3,h4,h5⟩,h6⟩
  dsimp only at h3 h4 h6
  omega
 case post =>
  rintro⟨o1,i,j,o,g⟩ st' ⟨r,h1,h2⟩
  dsimp only at h1
  subst h1
  exact wpS_pure (h _ _ h2)
 case step =>
  rintro x ⟨o1,i,j,o,g⟩ st1 _ hx ⟨rfl,J,hm⟩
  dsimp only at J hm ⊢
  refine wpS_bind (wpS_mono (wpS_forRange
   (I:=fun x' (c:Option (Array Keyed)×Nat×Nat×Array Keyed×Nat×Nat) (st':SortSt)=>c.1=none/\JHi R a b st c.2.2.2.1 c.2.1 c.2.2.1 st'/\c.2.1+c.2.2.1+x'<=i+j)
   (Q:=fun(c:Option (Array Keyed)×Nat×Nat×Array Keyed×Nat×Nat) (st':SortSt)=>(∃r,c.1=some r/\Ug R a b st r st')\/(c.1=none/\JHi R a b st c.2.2.2.1 c.2.1 c.2.2.1 st'/\c.2.1+c.2.2.1+1<=i+j)) ?step1 ?fin1 ⟨rfl,J,ZqJ _⟩) ?post1)
  case fin1 =>
   rintro⟨o1,i',j',o',u,v⟩ st' ⟨h1,h2,h3⟩
   dsimp only at h1 h2 h3
   exact .inr ⟨h1,h2,by dsimp only;omega⟩
  case step1 =>
   rintro x' ⟨o1,i',j',o',u,v⟩ st' _ hx' ⟨rfl,⟨m,hi,hj,gs,rfl⟩,hp⟩
   dsimp only at m hi hj hp ⊢
   have lia:=m.hi
   have ljb:=m.hj
   rw[ZqL] at lia ljb
   obtain⟨y,hy,hyl,hym⟩:=Jf (show j'-1<b.size by omega)
   obtain⟨z,hz,hzl,hzm⟩:=Jf (show i'-1<a.size by omega)
   refine wpS_bind (Zl hy (wpS_bind (Zl hz (wpS_bind (UK C hk (M.ub _ hym) (M.ua _ hzm) (M.ok _ hym _ hzm) ?_)))))
   dsimp only
   cases hR:R y z with
   |true =>
    rw[if_pos rfl]
    refine wpS_bind (Zl hz ?_)
    have m2:=M.ha1 m hi hzl (C.takeLe M.ub M.sb (by omega) hyl (M.ua _ hzm) (C.asy _ _ (M.ub _ hym) (M.ua _ hzm) hR))
    by_cases e1:i'-1=0
    ·rw[if_pos (by simpa using e1)]
     exact wpS_pure (.inl ⟨_,rfl,M.hfA m2 (.inl e1) ⟨gs,rfl⟩⟩)
    ·rw[if_neg (by simpa using e1)]
     have J2:JHi R a b st (o'.push z) (i'-1) j' (JN st gs):=⟨m2,by omega,hj,gs,rfl⟩
     split
     ·exact wpS_pure (.inr ⟨rfl,J2,by dsimp only;omega⟩)
     ·exact wpS_pure ⟨rfl,J2,by dsimp only;omega⟩
   |false =>
    rw[if_neg (by decide)]
    refine wpS_bind (Zl hy ?_)
    have m2:=M.hb1 m (by omega) hyl (C.takeLe M.ua M.sa hi hzl (M.ub _ hym) hR)
    by_cases e1:j'-1=1
    ·rw[if_pos (by simpa using e1)]
     exact wpS_pure (.inl ⟨_,rfl,MLo.hfB C M m2 e1 ⟨gs,rfl⟩⟩)
    ·rw[if_neg (by simpa using e1)]
     have J2:JHi R a b st (o'.push y) i' (j'-1) (JN st gs):=⟨m2,hi,by omega,gs,rfl⟩
     split
     ·exact wpS_pure (.inr ⟨rfl,J2,by dsimp only;omega⟩)
     ·exact wpS_pure ⟨rfl,J2,by dsimp only;omega⟩
  case post1 =>
   rintro⟨o1,i',j',o',u,v⟩ st' (⟨r,h1,h2⟩|⟨h1,h2,h3⟩)
   ·dsimp only at h1 h2 ⊢
    subst h1
    exact wpS_pure ⟨r,rfl,h2⟩
   ·dsimp only at h1 h2 h3 ⊢
    subst h1
    refine wpS_bind (wpS_lift (wpAny_rule ⟨rfl, ?_⟩))
    refine wpS_bind (wpS_mono (wpS_forRange
     (I:=fun _ (c:Option (Array Keyed)×Nat×Nat×Array Keyed×Nat×Nat×Nat) (st':SortSt)=>c.1=none/\JHi R a b st c.2.2.2.1 c.2.1 c.2.2.1 st'/\c.2.1+c.2.2.1+(x+1)+1<=a.size+b.size)
     (Q:=fun(c:Option (Array Keyed)×Nat×Nat×Array Keyed×Nat×Nat×Nat) (st':SortSt)=>(∃r,c.1=some r/\Ug R a b st r st')\/(c.1=none/\JHi R a b st c.2.2.2.1 c.2.1 c.2.2.1 st'/\c.2.1+c.2.2.1+(x+1)+1<=a.size+b.size)) ?step2 (fun c st' hc=>.inr hc) ⟨rfl,h2,by dsimp only;omega⟩) ?post2)
    case post2 =>
     rintro⟨o1,i',j',o',g',u,v⟩ st' (⟨r,h1,h2⟩|⟨h1,h2,h3⟩)
     ·dsimp only at h1 h2 ⊢
      subst h1
      exact wpS_pure ⟨r,rfl,h2⟩
     ·dsimp only at h1 h2 h3 ⊢
      subst h1
      obtain⟨m,hi,hj,gs,rfl⟩:=h2
      exact wpS_bind (Vc (wpS_pure ⟨rfl,⟨m,hi,hj,_,rfl⟩,by dsimp only;omega⟩))
    case step2 =>
     clear h2 h3 J hm m0 m1
     rintro x' ⟨o1,i,j,o,g,u,v⟩ st' _ hx' ⟨rfl,⟨m,hi,hj,gs,rfl⟩,hp⟩
     dsimp only at m hi hj hp ⊢
     have lia:=m.hi
     have ljb:=m.hj
     rw[ZqL] at lia ljb
     obtain⟨y,hy,hyl,hym⟩:=Jf (show j-1<b.size by omega)
     by_cases hg1:g>1
     ·rw[if_pos hg1]
      refine wpS_bind (Vc ?_)
      refine wpS_bind (Zl hy (wpS_bind (Z5 C (show kindOf (JN _ _)=κ from hk) ((Zgg C M.ua M.sa (M.ub _ hym) (M.ok _ hym) (Zrt a.size)).le (show i<=a.size-0 by omega)) (by omega) fun q1 p1 p2 p3=>?_)))
      dsimp only
      have fb2:∀z∈a.toList.take q1,R y z=false:=fun z hz=>by
       obtain⟨t,htk,ht⟩:=VE hz
       have h1:=p2 t htk
       rw[Zr4,Z9 ht] at h1
       simpa using h1
      by_cases hk1:i-q1>0
      ·rw[if_pos hk1]
       have m2:=m.pushA M.sa (c:=q1) (by omega) (fun x hx z hz=>by
        obtain⟨t,htk,ht⟩:=Vi hz
        have h1:=p3 t htk.1 htk.2
        rw[Zr4,Z9 ht] at h1
        have uz:=M.ua z (ZqG ht)
        exact C.takeLe M.ub M.sb (by omega) hyl uz (C.asy _ _ (M.ub _ hym) uz (by simpa using h1)) x hx)
       rw[<- VS] at m2
       by_cases e0:q1=0
       ·rw[if_pos (by simpa using e0)]
        exact wpS_pure (.inl ⟨_,rfl,M.hfA m2 (.inl e0) ⟨_,rfl⟩⟩)
       rw[if_neg (by simpa using e0)]
       have hi2:0<q1:=by omega
       have fb:=fb2
       refine wpS_bind (Zl hy ?_)
       have m2':=M.hb1 m2 (by omega) hyl fb
       by_cases e2:j-1=1
       ·rw[if_pos (by simpa using e2)]
        exact wpS_pure (.inl ⟨_,rfl,MLo.hfB C M m2' e2 ⟨_,rfl⟩⟩)
       rw[if_neg (by simpa using e2)]
       obtain⟨z,hz,hzl,hzm⟩:=Jf (show q1-1<a.size by omega)
       refine wpS_bind (Zl hz (wpS_bind (Z5 C hk ((ZaU C M.ub M.sb (M.ua _ hzm) (fun y hy=>M.ok y hy _ hzm) (Zrt b.size)).le (show j-1<=b.size-0 by omega)) (by omega) fun q2 r1 r2 r3=>?_)))
       dsimp only
       have fz2:∀y∈b.toList.take q2,R z y=false:=fun y hy=>by
        obtain⟨t,htk,ht⟩:=VE hy
        have h1:=r2 t htk
        rw[Zr4,Z9 ht] at h1
        exact C.asy _ _ (M.ub _ (ZqG ht)) (M.ua _ hzm) h1
       by_cases hk2:j-1-q2>0
       ·rw[if_pos hk2]
        have m3:=m2'.pushB M.sb (c:=q2) (by omega) (fun x hx y hy=>by
         obtain⟨t,htk,ht⟩:=Vi hy
         have h1:=r3 t htk.1 htk.2
         rw[Zr4,Z9 ht] at h1
         exact C.takeLe M.ua M.sa hi2 hzl (M.ub _ (ZqG ht)) h1 x hx)
        rw[<- VS] at m3
        by_cases e3:q2=1
        ·rw[if_pos (by simpa using e3)]
         exact wpS_pure (.inl ⟨_,rfl,MLo.hfB C M m3 e3 ⟨_,rfl⟩⟩)
        rw[if_neg (by simpa using e3)]
        by_cases e5:q2=0
        ·rw[if_pos (by simpa using e5)]
         exact wpS_pure (.inl ⟨_,rfl,M.hfA m3 (.inr e5) ⟨_,rfl⟩⟩)
        rw[if_neg (by simpa using e5)]
        have hj3:1<q2:=by omega
        have fz:=fz2
        refine wpS_bind (Zl hz ?_)
        have m4:=M.ha1 m3 hi2 hzl fz
        by_cases e4:q1-1=0
        ·rw[if_pos (by simpa using e4)]
         exact wpS_pure (.inl ⟨_,rfl,M.hfA m4 (.inl e4) ⟨_,rfl⟩⟩)
        ·rw[if_neg (by simpa using e4)]
         split
         ·exact wpS_pure (.inr ⟨rfl,⟨m4,by dsimp only;omega,hj3,_,rfl⟩,by dsimp only;omega⟩)
         ·exact wpS_pure ⟨rfl,⟨m4,by dsimp only;omega,hj3,_,rfl⟩,by dsimp only;omega⟩
       ·rw[if_neg hk2]
        have hq2:q2=j-1:=by omega
        subst hq2
        have m3:=m2'
        have hj3:1<j-1:=by omega
        have fz:=fz2
        refine wpS_bind (Zl hz ?_)
        have m4:=M.ha1 m3 hi2 hzl fz
        by_cases e4:q1-1=0
        ·rw[if_pos (by simpa using e4)]
         exact wpS_pure (.inl ⟨_,rfl,M.hfA m4 (.inl e4) ⟨_,rfl⟩⟩)
        ·rw[if_neg (by simpa using e4)]
         split
         ·exact wpS_pure (.inr ⟨rfl,⟨m4,by dsimp only;omega,hj3,_,rfl⟩,by dsimp only;omega⟩)
         ·exact wpS_pure ⟨rfl,⟨m4,by dsimp only;omega,hj3,_,rfl⟩,by dsimp only;omega⟩
      ·rw[if_neg hk1]
       have hq1:q1=i:=by omega
       subst hq1
       have m2:=m
       have hi2:0<q1:=hi
       have fb:=fb2
       refine wpS_bind (Zl hy ?_)
       have m2':=M.hb1 m2 (by omega) hyl fb
       by_cases e2:j-1=1
       ·rw[if_pos (by simpa using e2)]
        exact wpS_pure (.inl ⟨_,rfl,MLo.hfB C M m2' e2 ⟨_,rfl⟩⟩)
       rw[if_neg (by simpa using e2)]
       obtain⟨z,hz,hzl,hzm⟩:=Jf (show q1-1<a.size by omega)
       refine wpS_bind (Zl hz (wpS_bind (Z5 C hk ((ZaU C M.ub M.sb (M.ua _ hzm) (fun y hy=>M.ok y hy _ hzm) (Zrt b.size)).le (show j-1<=b.size-0 by omega)) (by omega) fun q2 r1 r2 r3=>?_)))
       dsimp only
       have fz2:∀y∈b.toList.take q2,R z y=false:=fun y hy=>by
        obtain⟨t,htk,ht⟩:=VE hy
        have h1:=r2 t htk
        rw[Zr4,Z9 ht] at h1
        exact C.asy _ _ (M.ub _ (ZqG ht)) (M.ua _ hzm) h1
       by_cases hk2:j-1-q2>0
       ·rw[if_pos hk2]
        have m3:=m2'.pushB M.sb (c:=q2) (by omega) (fun x hx y hy=>by
         obtain⟨t,htk,ht⟩:=Vi hy
         have h1:=r3 t htk.1 htk.2
         rw[Zr4,Z9 ht] at h1
         exact C.takeLe M.ua M.sa hi2 hzl (M.ub _ (ZqG ht)) h1 x hx)
        rw[<- VS] at m3
        by_cases e3:q2=1
        ·rw[if_pos (by simpa using e3)]
         exact wpS_pure (.inl ⟨_,rfl,MLo.hfB C M m3 e3 ⟨_,rfl⟩⟩)
        rw[if_neg (by simpa using e3)]
        by_cases e5:q2=0
        ·rw[if_pos (by simpa using e5)]
         exact wpS_pure (.inl ⟨_,rfl,M.hfA m3 (.inr e5) ⟨_,rfl⟩⟩)
        rw[if_neg (by simpa using e5)]
        have hj3:1<q2:=by omega
        have fz:=fz2
        refine wpS_bind (Zl hz ?_)
        have m4:=M.ha1 m3 hi2 hzl fz
        by_cases e4:q1-1=0
        ·rw[if_pos (by simpa using e4)]
         exact wpS_pure (.inl ⟨_,rfl,M.hfA m4 (.inl e4) ⟨_,rfl⟩⟩)
        ·rw[if_neg (by simpa using e4)]
         split
         ·exact wpS_pure (.inr ⟨rfl,⟨m4,by dsimp only;omega,hj3,_,rfl⟩,by dsimp only;omega⟩)
         ·exact wpS_pure ⟨rfl,⟨m4,by dsimp only;omega,hj3,_,rfl⟩,by dsimp only;omega⟩
       ·rw[if_neg hk2]
        have hq2:q2=j-1:=by omega
        subst hq2
        have m3:=m2'
        have hj3:1<j-1:=by omega
        have fz:=fz2
        refine wpS_bind (Zl hz ?_)
        have m4:=M.ha1 m3 hi2 hzl fz
        by_cases e4:q1-1=0
        ·rw[if_pos (by simpa using e4)]
         exact wpS_pure (.inl ⟨_,rfl,M.hfA m4 (.inl e4) ⟨_,rfl⟩⟩)
        ·rw[if_neg (by simpa using e4)]
         split
         ·exact wpS_pure (.inr ⟨rfl,⟨m4,by dsimp only;omega,hj3,_,rfl⟩,by dsimp only;omega⟩)
         ·exact wpS_pure ⟨rfl,⟨m4,by dsimp only;omega,hj3,_,rfl⟩,by dsimp only;omega⟩
     ·rw[if_neg hg1]
      refine wpS_bind (Vc ?_)
      refine wpS_bind (Zl hy (wpS_bind (Z5 C (show kindOf (JN _ _)=κ from hk) ((Zgg C M.ua M.sa (M.ub _ hym) (M.ok _ hym) (Zrt a.size)).le (show i<=a.size-0 by omega)) (by omega) fun q1 p1 p2 p3=>?_)))
      dsimp only
      have fb2:∀z∈a.toList.take q1,R y z=false:=fun z hz=>by
       obtain⟨t,htk,ht⟩:=VE hz
       have h1:=p2 t htk
       rw[Zr4,Z9 ht] at h1
       simpa using h1
      by_cases hk1:i-q1>0
      ·rw[if_pos hk1]
       have m2:=m.pushA M.sa (c:=q1) (by omega) (fun x hx z hz=>by
        obtain⟨t,htk,ht⟩:=Vi hz
        have h1:=p3 t htk.1 htk.2
        rw[Zr4,Z9 ht] at h1
        have uz:=M.ua z (ZqG ht)
        exact C.takeLe M.ub M.sb (by omega) hyl uz (C.asy _ _ (M.ub _ hym) uz (by simpa using h1)) x hx)
       rw[<- VS] at m2
       by_cases e0:q1=0
       ·rw[if_pos (by simpa using e0)]
        exact wpS_pure (.inl ⟨_,rfl,M.hfA m2 (.inl e0) ⟨_,rfl⟩⟩)
       rw[if_neg (by simpa using e0)]
       have hi2:0<q1:=by omega
       have fb:=fb2
       refine wpS_bind (Zl hy ?_)
       have m2':=M.hb1 m2 (by omega) hyl fb
       by_cases e2:j-1=1
       ·rw[if_pos (by simpa using e2)]
        exact wpS_pure (.inl ⟨_,rfl,MLo.hfB C M m2' e2 ⟨_,rfl⟩⟩)
       rw[if_neg (by simpa using e2)]
       obtain⟨z,hz,hzl,hzm⟩:=Jf (show q1-1<a.size by omega)
       refine wpS_bind (Zl hz (wpS_bind (Z5 C hk ((ZaU C M.ub M.sb (M.ua _ hzm) (fun y hy=>M.ok y hy _ hzm) (Zrt b.size)).le (show j-1<=b.size-0 by omega)) (by omega) fun q2 r1 r2 r3=>?_)))
       dsimp only
       have fz2:∀y∈b.toList.take q2,R z y=false:=fun y hy=>by
        obtain⟨t,htk,ht⟩:=VE hy
        have h1:=r2 t htk
        rw[Zr4,Z9 ht] at h1
        exact C.asy _ _ (M.ub _ (ZqG ht)) (M.ua _ hzm) h1
       by_cases hk2:j-1-q2>0
       ·rw[if_pos hk2]
        have m3:=m2'.pushB M.sb (c:=q2) (by omega) (fun x hx y hy=>by
         obtain⟨t,htk,ht⟩:=Vi hy
         have h1:=r3 t htk.1 htk.2
         rw[Zr4,Z9 ht] at h1
         exact C.takeLe M.ua M.sa hi2 hzl (M.ub _ (ZqG ht)) h1 x hx)
        rw[<- VS] at m3
        by_cases e3:q2=1
        ·rw[if_pos (by simpa using e3)]
         exact wpS_pure (.inl ⟨_,rfl,MLo.hfB C M m3 e3 ⟨_,rfl⟩⟩)
        rw[if_neg (by simpa using e3)]
        by_cases e5:q2=0
        ·rw[if_pos (by simpa using e5)]
         exact wpS_pure (.inl ⟨_,rfl,M.hfA m3 (.inr e5) ⟨_,rfl⟩⟩)
        rw[if_neg (by simpa using e5)]
        have hj3:1<q2:=by omega
        have fz:=fz2
        refine wpS_bind (Zl hz ?_)
        have m4:=M.ha1 m3 hi2 hzl fz
        by_cases e4:q1-1=0
        ·rw[if_pos (by simpa using e4)]
         exact wpS_pure (.inl ⟨_,rfl,M.hfA m4 (.inl e4) ⟨_,rfl⟩⟩)
        ·rw[if_neg (by simpa using e4)]
         split
         ·exact wpS_pure (.inr ⟨rfl,⟨m4,by dsimp only;omega,hj3,_,rfl⟩,by dsimp only;omega⟩)
         ·exact wpS_pure ⟨rfl,⟨m4,by dsimp only;omega,hj3,_,rfl⟩,by dsimp only;omega⟩
       ·rw[if_neg hk2]
        have hq2:q2=j-1:=by omega
        subst hq2
        have m3:=m2'
        have hj3:1<j-1:=by omega
        have fz:=fz2
        refine wpS_bind (Zl hz ?_)
        have m4:=M.ha1 m3 hi2 hzl fz
        by_cases e4:q1-1=0
        ·rw[if_pos (by simpa using e4)]
         exact wpS_pure (.inl ⟨_,rfl,M.hfA m4 (.inl e4) ⟨_,rfl⟩⟩)
        ·rw[if_neg (by simpa using e4)]
         split
         ·exact wpS_pure (.inr ⟨rfl,⟨m4,by dsimp only;omega,hj3,_,rfl⟩,by dsimp only;omega⟩)
         ·exact wpS_pure ⟨rfl,⟨m4,by dsimp only;omega,hj3,_,rfl⟩,by dsimp only;omega⟩
      ·rw[if_neg hk1]
       have hq1:q1=i:=by omega
       subst hq1
       have m2:=m
       have hi2:0<q1:=hi
       have fb:=fb2
       refine wpS_bind (Zl hy ?_)
       have m2':=M.hb1 m2 (by omega) hyl fb
       by_cases e2:j-1=1
       ·rw[if_pos (by simpa using e2)]
        exact wpS_pure (.inl ⟨_,rfl,MLo.hfB C M m2' e2 ⟨_,rfl⟩⟩)
       rw[if_neg (by simpa using e2)]
       obtain⟨z,hz,hzl,hzm⟩:=Jf (show q1-1<a.size by omega)
       refine wpS_bind (Zl hz (wpS_bind (Z5 C hk ((ZaU C M.ub M.sb (M.ua _ hzm) (fun y hy=>M.ok y hy _ hzm) (Zrt b.size)).le (show j-1<=b.size-0 by omega)) (by omega) fun q2 r1 r2 r3=>?_)))
       dsimp only
       have fz2:∀y∈b.toList.take q2,R z y=false:=fun y hy=>by
        obtain⟨t,htk,ht⟩:=VE hy
        have h1:=r2 t htk
        rw[Zr4,Z9 ht] at h1
        exact C.asy _ _ (M.ub _ (ZqG ht)) (M.ua _ hzm) h1
       by_cases hk2:j-1-q2>0
       ·rw[if_pos hk2]
        have m3:=m2'.pushB M.sb (c:=q2) (by omega) (fun x hx y hy=>by
         obtain⟨t,htk,ht⟩:=Vi hy
         have h1:=r3 t htk.1 htk.2
         rw[Zr4,Z9 ht] at h1
         exact C.takeLe M.ua M.sa hi2 hzl (M.ub _ (ZqG ht)) h1 x hx)
        rw[<- VS] at m3
        by_cases e3:q2=1
        ·rw[if_pos (by simpa using e3)]
         exact wpS_pure (.inl ⟨_,rfl,MLo.hfB C M m3 e3 ⟨_,rfl⟩⟩)
        rw[if_neg (by simpa using e3)]
        by_cases e5:q2=0
        ·rw[if_pos (by simpa using e5)]
         exact wpS_pure (.inl ⟨_,rfl,M.hfA m3 (.inr e5) ⟨_,rfl⟩⟩)
        rw[if_neg (by simpa using e5)]
        have hj3:1<q2:=by omega
        have fz:=fz2
        refine wpS_bind (Zl hz ?_)
        have m4:=M.ha1 m3 hi2 hzl fz
        by_cases e4:q1-1=0
        ·rw[if_pos (by simpa using e4)]
         exact wpS_pure (.inl ⟨_,rfl,M.hfA m4 (.inl e4) ⟨_,rfl⟩⟩)
        ·rw[if_neg (by simpa using e4)]
         split
         ·exact wpS_pure (.inr ⟨rfl,⟨m4,by dsimp only;omega,hj3,_,rfl⟩,by dsimp only;omega⟩)
         ·exact wpS_pure ⟨rfl,⟨m4,by dsimp only;omega,hj3,_,rfl⟩,by dsimp only;omega⟩
       ·rw[if_neg hk2]
        have hq2:q2=j-1:=by omega
        subst hq2
        have m3:=m2'
        have hj3:1<j-1:=by omega
        have fz:=fz2
        refine wpS_bind (Zl hz ?_)
        have m4:=M.ha1 m3 hi2 hzl fz
        by_cases e4:q1-1=0
        ·rw[if_pos (by simpa using e4)]
         exact wpS_pure (.inl ⟨_,rfl,M.hfA m4 (.inl e4) ⟨_,rfl⟩⟩)
        ·rw[if_neg (by simpa using e4)]
         split
         ·exact wpS_pure (.inr ⟨rfl,⟨m4,by dsimp only;omega,hj3,_,rfl⟩,by dsimp only;omega⟩)
         ·exact wpS_pure ⟨rfl,⟨m4,by dsimp only;omega,hj3,_,rfl⟩,by dsimp only;omega⟩
end
theorem ZbI (i:Nat):mergeAt' i=(do
  let s <- get
  let (some (c,n,p),some (d,m,_)):=((pendingOf s)[i]?,(pendingOf s)[i+1]?)|unsupported "internal:list.sort.pending"
  set (setPending s (((pendingOf s).setIfInBounds i (c,n+m,p)).eraseIdxIfInBounds (i+1)))
  let some k <- JX false (<- elem' (arrOf s) d) (arrOf s) c n 0|return false
  let (c,n):=(c+k,n-k)
  if n==0 then return true
  let some m <- JX true (<- elem' (arrOf s) (c+n-1)) (arrOf s) d m (m-1)|return false
  if m==0 then return true
  let x:=(arrOf s).extract c d
  let y:=(arrOf s).extract d (d+m)
  let r <- if n<=m then Zaq x y else Zar x y
  modify fun s=>setArr s (r.toList.zipIdx.foldl (fun a (p,j)=>a.setIfInBounds (c+j) p) (arrOf s))
  return (failedOf (<- get)).isNone):=rfl
section
variable {prog:Program}{w:World}{A:Around}{E:Value->Shared->Prop}{s:Shared}{κ:SortKind}{U:Keyed->Prop}{R:Keyed->Keyed->Bool}{Ok:Keyed->Keyed->Prop}
theorem Zcq:∀(r:List Keyed) (c:Nat) (X:Array Keyed) (n:Nat),c+n+r.length<=X.size->((r.zipIdx n).foldl (fun a (p:Keyed×Nat)=>a.setIfInBounds (c+p.2) p.1) X).toList=X.toList.take (c+n)++r++X.toList.drop (c+n+r.length)
 |[],c,X,n,h=>by simp
 |x::r,c,X,n,h=>by
  simp only[ZqY] at h
  rw[List.zipIdx_cons,List.foldl_cons]
  have ih:=Zcq r c (X.setIfInBounds (c+n) x) (n+1) (by rw[Array.size_setIfInBounds];omega)
  rw[ih,Zsk]
  have hl:c+n<X.toList.length:=by rw[ZqL];omega
  rw[show c+(n+1)=c+n+1 by omega]
  have e1:(X.toList.set (c+n) x).take (c+n+1)=X.toList.take (c+n)++[x]:=by
   rw[List.take_set,List.take_succ_eq_append_getElem hl,List.set_append_right _ _ (by rw[Zrd];omega)]
   rw[show c+n-(X.toList.take (c+n)).length=0 by rw[Zrd,ZqL];omega]
   rfl
  have e2:(X.toList.set (c+n) x).drop (c+n+1+r.length)=X.toList.drop (c+n+1+r.length):=List.drop_set_of_lt (by omega)
  rw[e1,e2]
  simp only[ZqY,ZqP,List.singleton_append,Zss,ZrC]
  rw[show c+n+(r.length+1)=c+n+1+r.length by omega]
theorem Ze7 (C:JR prog w A s κ U R Ok) (left:Bool) {X:Array Keyed}{key:Keyed}{c n:Nat}{P:List Keyed} (hP:∀t,t<n->X[c+t]?=P[t]?) (hn:P.length=n) (ul:∀y∈P,U y) (hs:Srt R P) (uk:U key) (okk:∀y∈P,if left=true then Ok y key else Ok key y) :
  Us U R Ok left key X c n (fun t=>if left=true then R (P.getD t (.none,.none)) key else !R key (P.getD t (.none,.none))):=by
 have get:∀t,t<n->P[t]?=some (P.getD t (.none,.none)):=fun t ht=>by
  rw[ZqF,ZqH (by omega)];rfl
 refine⟨uk,fun t ht=>⟨_,by rw[hP t ht,get t ht],ul _ (ZqG (get t ht)),okk _ (ZqG (get t ht)),rfl⟩,fun t u htu hu h=>?_⟩
 have hu':=get u hu
 have ht':=get t (by omega)
 have h2:=Srt.le C ul hs htu ht' hu'
 have u1:=ul _ (ZqG ht')
 have u2:=ul _ (ZqG hu')
 cases left with
 |false =>
  have h:(!R key (P.getD u (.none,.none)))=true:=h
  show (!R key (P.getD t (.none,.none)))=true
  rw[C.tr _ _ key u1 u2 uk h2 (by simpa using h)];rfl
 |true =>
  have h:R (P.getD u (.none,.none)) key=true:=h
  show R (P.getD t (.none,.none)) key=true
  cases hc:R (P.getD t (.none,.none)) key with
  |true=>rfl
  |false=>rw[C.tr key _ _ uk u1 u2 hc h2] at h;cases h
theorem ZhC {σ:Type}{M:Model}{v:σ}{Q:PUnit->σ->Prop}{st:σ} (h:Q ⟨⟩ v):wpS M A E s (set v:StateT σ Sem PUnit) Q st:=by
 unfold wpS;rw[StateT.run_set];exact wpAny_pure ⟨rfl,h⟩
theorem Zb3 (C:JR prog w A s κ U R Ok) {st:SortSt}{i c n p d m p2:Nat}{pre P Y post:List Keyed}{Q:Bool->SortSt->Prop} (hk:kindOf st=κ) (hf:failedOf st=none)
  (h1:(pendingOf st)[i]?=some (c,n,p)) (h2:(pendingOf st)[i+1]?=some (d,m,p2)) (hX:(arrOf st).toList=pre++(P++(Y++post))) (lp:pre.length=c) (lP:P.length=n) (lY:Y.length=m) (hd:d=c+n) (n0:0<n) (m0:0<m)
  (uP:∀x∈P,U x) (uY:∀x∈Y,U x) (sP:Srt R P) (sY:Srt R Y) (oPY:∀y∈Y,∀x∈P,Ok y x)
  (h:∀st' W,kindOf st'=κ->failedOf st'=none->pendingOf st'=((pendingOf st).setIfInBounds i (c,n+m,p)).eraseIdxIfInBounds (i+1)->(arrOf st').toList=pre++(W++post)->Srt R W->W.Perm (P++Y)->Q true st') :
  wpS (model prog w) A E s (mergeAt' i) Q st:=by
 rw[ZbI]
 refine wpS_bind (wpS_get ?_)
 rw[h1,h2]
 dsimp only
 have size0:(arrOf st).size=c+(n+(m+post.length)):=by
  have:=congrArg List.length hX
  rw[ZqL] at this
  rw[this];simp[lp,lP,lY]
 have gP:∀t,t<n->(arrOf st)[c+t]?=P[t]?:=fun t ht=>by
  rw[<- ZqW,hX,ZqV (by omega),lp,show c+t-c=t by omega,ZqT (by omega)]
 have gY:∀t,t<m->(arrOf st)[d+t]?=Y[t]?:=fun t ht=>by
  rw[<- ZqW,hX,ZqV (by omega),lp,ZqV (by omega),lP,show d+t-c-n=t by omega,ZqT (by omega)]
 refine wpS_bind (ZhC ?_)
 have y0l:Y[0]?=some (Y.getD 0 (.none,.none)):=by rw[ZqF,ZqH (by omega)];rfl
 generalize Y.getD 0 (.none,.none)=y0 at y0l
 have uy0:=uY y0 (ZqG y0l)
 refine wpS_bind (Zl (x:=y0) (by have:=gY 0 m0;rw[Nat.add_zero] at this;rw[this,y0l]) (wpS_bind (Z5 C (show kindOf (setPending st _)=κ from hk) (Ze7 C false gP lP uP sP uy0 (fun x hx=>by rw[if_neg (by decide)];exact oPY _ (ZqG y0l) x hx)) n0 fun k p1 p2 p3=>?_)))
 dsimp only at p2 p3 ⊢
 have gd:∀{l:List Keyed}{t:Nat}{x:Keyed},l[t]?=some x->l.getD t (.none,.none)=x:=fun {l t x} h=>by rw[ZqF,h];rfl
 have pk:∀x∈P.take k,R y0 x=false:=fun x hx=>by
  obtain⟨t,ht,hx⟩:=VE hx
  have:=p2 t ht
  rw[gd hx] at this
  simpa using this
 have pk2:∀t x,k<=t->P[t]?=some x->R y0 x=true:=fun t x ht hx=>by
  have hl:=(ZqI.mp hx).1
  have:=p3 t ht (by omega)
  rw[gd hx] at this
  simpa using this
 by_cases e1:n-k=0
 ·rw[if_pos (by simpa using e1)]
  refine wpS_pure (h _ (P++Y) hk hf rfl (by rw[hX,ZqP]) (ZqR.mpr ⟨sP,sY,fun x hx y hy=>?_⟩) (List.Perm.refl _))
  have:=C.dropLe uY sY y0l (uP x hx) (pk x (by rw[Zrm (by omega)];exact hx))
  rw[ZrQ] at this
  exact this y hy
 rw[if_neg (by simpa using e1)]
 have ll:P[n-1]?=some (P.getD (n-1) (.none,.none)):=by rw[ZqF,ZqH (by omega)];rfl
 generalize P.getD (n-1) (.none,.none)=l at ll
 have ul:=uP l (ZqG ll)
 refine wpS_bind (Zl (x:=l) (by have:=gP (n-1) (by omega);rw[show c+k+(n-k)-1=c+(n-1) by omega,this,ll]) (wpS_bind (Z5 C (show kindOf (setPending st _)=κ from hk) (Ze7 C true gY lY uY sY ul (fun x hx=>by rw[if_pos rfl];exact oPY x hx _ (ZqG ll))) (by omega) fun k2 r1 r2 r3=>?_)))
 dsimp only at r2 r3 ⊢
 have yk:∀x∈Y.take k2,R x l=true:=fun x hx=>by
  obtain⟨t,ht,hx⟩:=VE hx
  have:=r2 t ht
  rw[gd hx] at this
  simpa using this
 have yk2:∀x∈Y.drop k2,R x l=false:=fun x hx=>by
  obtain⟨t,hx⟩:=Jl hx
  have hl:=(ZqI.mp hx).1
  have:=r3 (k2+t) (by omega) (by omega)
  rw[gd hx] at this
  simpa using this
 have pl:∀v,U v->R v l=false->∀x∈P,R v x=false:=fun v uv hv x hx=>C.takeLe uP sP n0 ll uv hv x (by rw[Zrm (by omega)];exact hx)
 by_cases e2:k2=0
 ·rw[if_pos (by simpa using e2)]
  subst e2
  rw[ZrQ] at yk2
  exact wpS_pure (h _ (P++Y) hk hf rfl (by rw[hX,ZqP]) (ZqR.mpr ⟨sP,sY,fun x hx y hy=>pl y (uY y hy) (yk2 y hy) x hx⟩) (List.Perm.refl _))
 rw[if_neg (by simpa using e2)]
 have ex:((arrOf st).extract (c+k) d).toList=P.drop k:=by
  refine Zr6 fun t=>?_
  rw[ZrI,Zrs,Zrh,Zre,Zre,ZqW]
  by_cases ht:t<d-(c+k)
  ·rw[if_pos ht,show c+k+t=c+(k+t) by omega,gP (k+t) (by omega)]
  ·rw[if_neg ht,Zrc (by omega)]
 have ey:((arrOf st).extract d (d+k2)).toList=Y.take k2:=by
  refine Zr6 fun t=>?_
  rw[ZrI,Zrs,Zrh,Zre,Zrh,ZqW]
  by_cases ht:t<k2
  ·rw[if_pos (by omega),if_pos ht,gY t (by omega)]
  ·rw[if_neg (by omega),if_neg ht]
 have sx:((arrOf st).extract (c+k) d).size=n-k:=by
  have:=congrArg List.length ex
  rw[ZqL,Zr1] at this
  omega
 have sy:((arrOf st).extract d (d+k2)).size=k2:=by
  have:=congrArg List.length ey
  rw[ZqL,Zrd] at this
  omega
 have MM:MLo U R Ok ((arrOf st).extract (c+k) d) ((arrOf st).extract d (d+k2)):=by
  refine⟨?_, ?_, ?_, ?_, ?_,by omega,by omega,fun x y hx hy=>?_,fun x hx y hy=>?_⟩
  ·rw[ex];exact fun x hx=>uP x (Zro hx)
  ·rw[ey];exact fun x hx=>uY x (Zrn hx)
  ·rw[ex,ey];exact fun x hx y hy=>oPY x (Zrn hx) y (Zro hy)
  ·rw[ex];exact sP.drop k
  ·rw[ey];exact sY.take k2
  ·rw[ey,Zrh,if_pos (by omega),y0l] at hx
   cases hx
   rw[ex,Zre,Nat.add_zero] at hy
   exact C.asy _ _ uy0 (uP y (ZqG hy)) (pk2 k y (ZqJ _) hy)
  ·rw[ey] at hx
   rw[ex,Zre,sx,show k+(n-k-1)=n-1 by omega,ll] at hy
   cases hy
   exact C.asy _ _ (uY x (Zrn hx)) ul (yk x hx)
 have fin:∀r st2,Ug R ((arrOf st).extract (c+k) d) ((arrOf st).extract d (d+k2)) (setPending st (((pendingOf st).setIfInBounds i (c,n+m,p)).eraseIdxIfInBounds (i+1))) r st2 ->
   wpS (model prog w) A E s (do
    modify fun s=>setArr s (r.toList.zipIdx.foldl (fun a (p,j)=>a.setIfInBounds (c+k+j) p) (arrOf s))
    return (failedOf (<- get)).isNone) Q st2:=by
  rintro r st2 ⟨q1,q2,g,rfl⟩
  rw[ex,ey] at q2
  have lr:r.toList.length=n-k+k2:=by
   rw[q2.length_eq,Zra,Zr1,Zrd];omega
  refine wpS_bind (wpS_modify (wpS_bind (wpS_get (wpS_pure ?_))))
  show Q ((failedOf st).isNone) _
  rw[hf]
  have hw:=Zcq r.toList (c+k) (arrOf st) 0 (by omega)
  have memr:∀x∈r.toList,(x∈P.drop k\/x∈Y.take k2):=fun x hx=>ZqK.mp (q2.mem_iff.mp hx)
  refine h _ (P.take k++(r.toList++Y.drop k2)) hk hf rfl ?_ ?_ ?_
  ·show (r.toList.zipIdx.foldl (fun a (p:Keyed×Nat)=>a.setIfInBounds (c+k+p.2) p.1) (arrOf st)).toList=_
   rw[hw,Nat.add_zero,hX,lr]
   have d1:(pre++(P++(Y++post))).take (c+k)=pre++P.take k:=by
    rw[List.take_append,Zrm (by omega),lp,show c+k-c=k by omega,List.take_append_of_le_length (by omega)]
   have d2:(pre++(P++(Y++post))).drop (c+k+(n-k+k2))=Y.drop k2++post:=by
    rw[List.drop_append,ZrX (by omega),ZrC,lp,List.drop_append,ZrX (by omega),ZrC,lP,List.drop_append_of_le_length (by omega)]
    congr 2
    omega
   rw[d1,d2]
   simp only[ZqP]
  ·refine ZqR.mpr ⟨sP.take k,ZqR.mpr ⟨q1,sY.drop k2,fun x hx y hy=>?_⟩,fun x hx y hy=>?_⟩
   ·rcases memr x hx with z|z
    ·exact pl y (uY y (Zro hy)) (yk2 y hy) x (Zro z)
    ·have sd:=sY
     rw[<- ZqX k2 Y] at sd
     exact(ZqR.mp sd).2.2 x z y hy
   ·have ux:=uP x (Zrn hx)
    have hyY:∀y∈Y,R y x=false:=fun y hy=>by
     have:=C.dropLe uY sY y0l ux (pk x hx)
     rw[ZrQ] at this
     exact this y hy
    rcases ZqK.mp hy with z|z
    ·rcases memr y z with z|z
     ·have sd:=sP
      rw[<- ZqX k P] at sd
      exact(ZqR.mp sd).2.2 x hx y z
     ·exact hyY y (Zrn z)
    ·exact hyY y (Zro z)
  ·have p1:(P.take k++(r.toList++Y.drop k2)).Perm (P.take k++((P.drop k++Y.take k2)++Y.drop k2)):=List.Perm.append_left _ (q2.append_right _)
   refine p1.trans ?_
   rw[ZqP,ZqX,<- ZqP,ZqX]
 by_cases e3:n-k<=k2
 ·rw[if_pos e3]
  exact wpS_bind (Zb1 C (show kindOf (setPending st _)=κ from hk) MM fin)
 ·rw[if_neg e3]
  exact wpS_bind (Zb2 C (show kindOf (setPending st _)=κ from hk) MM fin)
end
noncomputable def gA (X:Array Keyed) (i:Nat):Keyed:=X.getD i (.none,.none)
theorem Qp {X:Array Keyed}{i:Nat} (h:i<X.size):X[i]?=some (gA X i):=by simp[gA,Array.getD,h]
theorem ZdO {X:Array Keyed}{i:Nat}{x:Keyed} (h:X[i]?=some x):gA X i=x:=by
 have hi:i<X.size:=by
  rcases Nat.lt_or_ge i X.size with z|z
  ·exact z
  ·rw[ZrY z] at h;cases h
 rw[Qp hi] at h;exact Option.some.inj h
theorem J5 {X Y:Array Keyed}{i j:Nat} (h:X[i]?=Y[j]?):gA X i=gA Y j:=by
 simp only[gA,Array.getD_eq_getD_getElem?,h]
def Up (R:Keyed->Keyed->Bool) (X:Array Keyed) (lo m:Nat):Prop:=∀i j,i<j->j<m->R (gA X (lo+j)) (gA X (lo+i))=false
def Dn' (R:Keyed->Keyed->Bool) (X:Array Keyed) (lo m:Nat):Prop:=∀i j,i<j->j<m->R (gA X (lo+i)) (gA X (lo+j))=false
structure J8 (X Y:Array Keyed) (lo m:Nat):Prop where
 perm:Y.Perm X
 out:∀k,k<lo\/lo+m<=k->Y[k]?=X[k]?
theorem J8.refl (X:Array Keyed) (lo m:Nat):J8 X X lo m:=⟨Array.Perm.refl _,fun _ _=>rfl⟩
theorem J8.size {X Y:Array Keyed}{lo m:Nat} (h:J8 X Y lo m):Y.size=X.size:=h.perm.size_eq
theorem J8.trans {X Y Z:Array Keyed}{lo m:Nat} (h:J8 X Y lo m) (g:J8 Y Z lo m):J8 X Z lo m:=⟨g.perm.trans h.perm,fun k hk=>(g.out k hk).trans (h.out k hk)⟩
theorem J8.wide {X Y:Array Keyed}{lo lo' m m':Nat} (h:J8 X Y lo' m') (h1:lo<=lo') (h2:lo'+m'<=lo+m):J8 X Y lo m:=⟨h.perm,fun k hk=>h.out k (by omega)⟩
theorem J8.back {X Y:Array Keyed}{lo m q:Nat} (h:J8 X Y lo m) (h1:lo<=q) (h2:q<lo+m) (hq:q<Y.size):∃q',lo<=q'/\q'<lo+m/\q'<X.size/\gA Y q=gA X q':=by
 have hs:=h.size
 have eX:X.toList=X.toList.take lo++((X.toList.drop lo).take m++(X.toList.drop lo).drop m):=by rw[ZqX,ZqX]
 have eY:Y.toList=Y.toList.take lo++((Y.toList.drop lo).take m++(Y.toList.drop lo).drop m):=by rw[ZqX,ZqX]
 have t1:Y.toList.take lo=X.toList.take lo:=by
  refine Zr6 fun i=>?_
  rw[Zrh,Zrh]
  split
  ·rw[ZqW,ZqW];exact h.out i (.inl (by omega))
  ·rfl
 have t2:(Y.toList.drop lo).drop m=(X.toList.drop lo).drop m:=by
  refine Zr6 fun i=>?_
  rw[List.drop_drop,List.drop_drop,Zre,Zre,ZqW,ZqW]
  exact h.out _ (.inr (by omega))
 have p:Y.toList.Perm X.toList:=h.perm.toList
 rw[eX,eY,t1,t2,List.perm_append_left_iff,List.perm_append_right_iff] at p
 have hm:gA Y q∈(Y.toList.drop lo).take m:=by
  refine ZqG (i:=q-lo) ?_
  rw[Zrh,if_pos (by omega),Zre,show lo+(q-lo)=q by omega,ZqW]
  exact Qp hq
 obtain⟨t,ht⟩:=Zrp (p.mem_iff.mp hm)
 rw[Zrh] at ht
 split at ht
 ·rename_i c
  rw[Zre,ZqW] at ht
  have hl:lo+t<X.size:=by
   rcases Nat.lt_or_ge (lo+t) X.size with z|z
   ·exact z
   ·rw[ZrY z] at ht;cases ht
  exact⟨lo+t,by omega,by omega,hl,(ZdO ht).symm⟩
 ·cases ht
def Sep (Ok:Keyed->Keyed->Prop) (X:Array Keyed) (e:Nat):Prop:=∀p q,p<e->e<=q->q<X.size->Ok (gA X q) (gA X p)
theorem J8.place {X Y:Array Keyed}{lo m q:Nat} (h:J8 X Y lo m) (hq:q<Y.size):∃q',q'<X.size/\gA Y q=gA X q'/\∀e,e<=lo\/lo+m<=e->(e<=q ↔ e<=q'):=by
 by_cases c:lo<=q/\q<lo+m
 ·obtain⟨q',a,b,d,e⟩:=h.back c.1 c.2 hq
  exact⟨q',d,e,fun e he=>by omega⟩
 ·exact⟨q,by rw[<- h.size];exact hq,J5 (h.out q (by omega)),fun _ _=>Iff.rfl⟩
theorem J8.sep {Ok:Keyed->Keyed->Prop}{X Y:Array Keyed}{lo m e:Nat} (h:J8 X Y lo m) (he:e<=lo\/lo+m<=e) (hX:Sep Ok X e):Sep Ok Y e:=fun p q hp hq hs=>by
 obtain⟨q',a1,a2,a3⟩:=h.place hs
 obtain⟨p',b1,b2,b3⟩:=h.place (q:=p) (by omega)
 rw[a2,b2]
 have:=b3 e he
 exact hX p' q' (by omega) ((a3 e he).mp hq) a1
section
variable {prog:Program}{w:World}{A:Around}{E:Value->Shared->Prop}{s:Shared}{κ:SortKind}{U:Keyed->Prop}{R:Keyed->Keyed->Bool}{Ok:Keyed->Keyed->Prop}
def Zcp (U:Keyed->Prop) (X:Array Keyed):Prop:=∀i,i<X.size->U (gA X i)
theorem Zcp.stir {X Y:Array Keyed}{lo m:Nat} (h:Zcp U X) (t:J8 X Y lo m):Zcp U Y:=fun i hi=>by
 have hm:gA Y i∈Y:=by
  have:=Qp hi
  exact Array.mem_of_getElem? this
 obtain⟨j,hj⟩:=Array.getElem?_of_mem ((Array.Perm.mem_iff t.perm).mp hm)
 have hjs:j<X.size:=by
  rcases Nat.lt_or_ge j X.size with z|z
  ·exact z
  ·rw[ZrY z] at hj;cases hj
 rw[<- ZdO hj]
 exact h j hjs
theorem VQ (C:JR prog w A s κ U R Ok) {st:SortSt}{i j:Nat}{Q:Option Bool->SortSt->Prop} (hk:kindOf st=κ) (hU:Zcp U (arrOf st)) (hi:i<(arrOf st).size) (hj:j<(arrOf st).size) (ok:Ok (gA (arrOf st) i) (gA (arrOf st) j)) (h:Q (some (R (gA (arrOf st) i) (gA (arrOf st) j))) st) :
  wpS (model prog w) A E s (ltAt' i j) Q st:=by
 rw[ltAt'_eq]
 refine wpS_bind (wpS_get ?_)
 exact wpS_bind (Zl (Qp hi) (wpS_bind (Zl (Qp hj) (UK C hk (hU i hi) (hU j hj) ok h))))
theorem Up.more (C:JR prog w A s κ U R Ok) {X:Array Keyed}{lo n:Nat} (hU:Zcp U X) (hs:lo+n<X.size) (h:Up R X lo n) (hl:n=0\/R (gA X (lo+n)) (gA X (lo+n-1))=false):Up R X lo (n+1):=fun i j hij hj=>by
 by_cases e:j<n
 ·exact h i j hij e
 ·obtain rfl:j=n:=by omega
  rcases hl with hl|hl
  ·omega
  ·by_cases e2:i=j-1
   ·subst e2;rw[show lo+(j-1)=lo+j-1 by omega];exact hl
   ·have h2:=h i (j-1) (by omega) (by omega)
    rw[show lo+(j-1)=lo+j-1 by omega] at h2
    exact C.tr _ _ _ (hU _ (by omega)) (hU _ (by omega)) (hU _ (by omega)) h2 hl
theorem ZhD (C:JR prog w A s κ U R Ok) {st:SortSt}{lo n ok:Nat}{Q:Bool->SortSt->Prop} (hk:kindOf st=κ) (hU:Zcp U (arrOf st)) (hn:lo+n<=(arrOf st).size) (hok:ok<=n) (n1:1<=n) (hs:Up R (arrOf st) lo ok) (hO:∀e,lo+ok<=e->Sep Ok (arrOf st) e)
  (h:∀Y,J8 (arrOf st) Y lo n->Up R Y lo n->Q true (setArr st Y)):wpS (model prog w) A E s (binarySort' lo n ok) Q st:=by
 rw[binarySort'_eq]
 refine wpS_bind (wpS_mono (wpS_forRange
  (I:=fun k (c:Option Bool×Unit) (st':SortSt)=>c.1=none/\∃Y,st'=setArr st Y/\J8 (arrOf st) Y lo k/\Up R Y lo k)
  (Q:=fun(c:Option Bool×Unit) (st':SortSt)=>c.1=none/\∃Y,st'=setArr st Y/\J8 (arrOf st) Y lo n/\Up R Y lo n) ?step ?fin ?ini) ?post)
 case ini =>
  refine⟨rfl,arrOf st,rfl,J8.refl _ _ _,fun i j hij hj=>?_⟩
  by_cases e:1<=ok
  ·exact hs i j hij (by omega)
  ·omega
 case fin =>
  rintro⟨o,u⟩ st' ⟨h1,Y,h2,h3,h4⟩
  exact⟨h1,Y,h2,h3.wide (ZqJ _) (by omega),fun i j hij hj=>h4 i j hij (by omega)⟩
 case post =>
  rintro⟨o,u⟩ st' ⟨h1,Y,rfl,h3,h4⟩
  dsimp only at h1
  subst h1
  exact wpS_pure (h Y h3 h4)
 case step =>
  rintro k ⟨o,u⟩ st' hk1 hk2 ⟨h1,Y,rfl,h3,h4⟩
  dsimp only at h1
  subst h1
  have hYU:=hU.stir h3
  have hYs:=h3.size
  refine wpS_bind (wpS_mono (wpS_forRange
   (I:=fun x (c:Option Bool×Nat×Nat) (st':SortSt)=>c.1=none/\st'=setArr st Y/\c.2.1<=c.2.2/\c.2.2<=k/\(∀i,i<c.2.1->R (gA Y (lo+k)) (gA Y (lo+i))=false)/\(∀i,c.2.2<=i->i<k->R (gA Y (lo+k)) (gA Y (lo+i))=true)/\c.2.2-c.2.1<=k-x)
   (Q:=fun(c:Option Bool×Nat×Nat) (st':SortSt)=>c.1=none/\st'=setArr st Y/\c.2.1=c.2.2/\c.2.2<=k/\(∀i,i<c.2.1->R (gA Y (lo+k)) (gA Y (lo+i))=false)/\(∀i,c.2.2<=i->i<k->R (gA Y (lo+k)) (gA Y (lo+i))=true)) ?step1 ?fin1
   ⟨rfl,rfl,Zrt _,ZqJ _,fun i hi=>absurd hi (Nat.not_lt_zero _),fun i h1 h2=>absurd h1 (by dsimp only;omega),by dsimp only;omega⟩) ?post1)
  case fin1 =>
   rintro⟨o,l,r⟩ st' ⟨rfl,q0,q1,q2,q3,q4,q5⟩
   dsimp only at q1 q2 q3 q4 q5 ⊢
   exact⟨rfl,q0,by omega,q2,q3,q4⟩
  case step1 =>
   rintro x ⟨o,l,r⟩ st' _ hx ⟨rfl,rfl,q1,q2,q3,q4,q5⟩
   dsimp only at q1 q2 q3 q4 q5 ⊢
   by_cases hlr:l ≥ r
   ·rw[if_pos hlr]
    exact wpS_pure ⟨rfl,rfl,by dsimp only;omega,q2,q3,q4⟩
   ·rw[if_neg hlr]
    refine wpS_bind (VQ C (show kindOf (setArr st Y)=κ from hk) hYU (show lo+k<Y.size by omega) (show lo+(l+r)/2<Y.size by omega) (h3.sep (.inr (ZqJ _)) (hO (lo+k) (by omega)) _ _ (by omega) (ZqJ _) (by omega)) ?_)
    dsimp only
    show wpS _ _ _ _ (if R (gA Y (lo+k)) (gA Y (lo+(l+r)/2))=true then _ else _) _ _
    cases hm:R (gA Y (lo+k)) (gA Y (lo+(l+r)/2)) with
    |true =>
     rw[if_pos rfl]
     refine wpS_pure ⟨rfl,rfl,by dsimp only;omega,by dsimp only;omega,q3,fun i i1 i2=>?_,by dsimp only;omega⟩
     dsimp only at i1
     by_cases e:i=(l+r)/2
     ·subst e;exact hm
     ·cases hc:R (gA Y (lo+k)) (gA Y (lo+i)) with
      |true=>rfl
      |false =>
       have:=h4 ((l+r)/2) i (by omega) i2
       rw[C.tr _ _ _ (hYU _ (by omega)) (hYU _ (by omega)) (hYU _ (by omega)) this hc] at hm
       cases hm
    |false =>
     rw[if_neg (by decide)]
     refine wpS_pure ⟨rfl,rfl,by dsimp only;omega,q2,fun i i1=>?_,q4,by dsimp only;omega⟩
     dsimp only at i1
     by_cases e:i=(l+r)/2
     ·subst e;exact hm
     ·have:=h4 i ((l+r)/2) (by omega) (by omega)
      exact C.tr _ _ _ (hYU _ (by omega)) (hYU _ (by omega)) (hYU _ (by omega)) this hm
  case post1 =>
   rintro⟨o,l,r⟩ st' ⟨rfl,rfl,q1,q2,q3,q4⟩
   dsimp only at q1 q2 q3 q4 ⊢
   subst q1
   rw[moveDown'_eq]
   refine wpS_bind (wpS_modify (wpS_pure ⟨rfl,bubble Y (lo+k) (lo+k-(lo+l)),rfl, ?_, ?_⟩))
   ·refine(h3.wide (ZqJ _) (by omega)).trans ⟨bubble_perm _ _ _,fun t ht=>?_⟩
    rw[getElem?_bubble (show lo+k<Y.size by omega) _ (by omega),if_neg (by omega),if_neg (by omega)]
   ·have bg:∀t,t<=k->gA (bubble Y (lo+k) (lo+k-(lo+l))) (lo+t)=if t=l then gA Y (lo+k) else if l<t then gA Y (lo+t-1) else gA Y (lo+t):=fun t ht=>by
     have e:=getElem?_bubble (show lo+k<Y.size by omega) (lo+k-(lo+l)) (by omega) (lo+t)
     by_cases e1:t=l
     ·rw[if_pos e1];rw[if_pos (by omega)] at e;exact J5 e
     ·rw[if_neg e1];rw[if_neg (by omega)] at e
      by_cases e2:l<t
      ·rw[if_pos e2];rw[if_pos (by omega)] at e;exact J5 e
      ·rw[if_neg e2];rw[if_neg (by omega)] at e;exact J5 e
    intro i j hij hj
    rw[bg i (by omega),bg j (by omega)]
    by_cases a1:j=l
    ·rw[if_pos a1,if_neg (by omega),if_neg (by omega)]
     exact q3 i (by omega)
    ·rw[if_neg a1]
     by_cases a2:l<j
     ·rw[if_pos a2]
      by_cases b1:i=l
      ·rw[if_pos b1,show lo+j-1=lo+(j-1) by omega]
       exact C.asy _ _ (hYU _ (by omega)) (hYU _ (by omega)) (q4 (j-1) (by omega) (by omega))
      ·rw[if_neg b1]
       by_cases b2:l<i
       ·rw[if_pos b2,show lo+j-1=lo+(j-1) by omega,show lo+i-1=lo+(i-1) by omega]
        exact h4 (i-1) (j-1) (by omega) (by omega)
       ·rw[if_neg b2,show lo+j-1=lo+(j-1) by omega]
        exact h4 i (j-1) (by omega) (by omega)
     ·rw[if_neg a2,if_neg (by omega),if_neg (by omega)]
      exact h4 i j hij (by omega)
variable {R0:Keyed->Keyed->Bool}
noncomputable abbrev mir (X:Array Keyed) (i j:Nat):Array Keyed:=mirror X i j ((j-i)/2)
theorem QY {st:SortSt}{i j:Nat}{Q:Unit->SortSt->Prop} (h:Q () (setArr st (mir (arrOf st) i j))):wpS (model prog w) A E s (reverseSlice' i j) Q st:=by
 rw[reverseSlice'_eq];exact wpS_modify h
theorem Zao {X:Array Keyed}{i j:Nat} (hij:i<=j) (hj:j<=X.size):J8 X (mir X i j) i (j-i):=
 ⟨mirror_perm _ _ _ _,fun k hk=>by rw[getElem?_mirror_all hj,if_neg (by omega)]⟩
theorem VD {X:Array Keyed}{i j k:Nat} (hj:j<=X.size) (h1:i<=k) (h2:k<j):gA (mir X i j) k=gA X (i+j-1-k):=by
 refine J5 ?_
 rw[getElem?_mirror_all hj,if_pos ⟨h1,h2⟩]
theorem Qd {X:Array Keyed}{i j k:Nat} (hj:j<=X.size) (h:k<i\/j<=k):gA (mir X i j) k=gA X k:=by
 refine J5 ?_
 rw[getElem?_mirror_all hj,if_neg (by omega)]
def Eqv (R:Keyed->Keyed->Bool) (X:Array Keyed) (lo a b:Nat):Prop:=∀i j,a<=i->i<b->a<=j->j<b->R (gA X (lo+i)) (gA X (lo+j))=false
theorem Dn'.up {X:Array Keyed}{lo n:Nat} (hs:lo+n<=X.size) (h:Dn' R X lo n):Up R (mir X lo (lo+n)) lo n:=fun i j hij hj=>by
 rw[VD hs (by omega) (by omega),VD hs (by omega) (by omega),show lo+(lo+n)-1-(lo+j)=lo+(n-1-j) by omega,show lo+(lo+n)-1-(lo+i)=lo+(n-1-i) by omega]
 exact h _ _ (by omega) (by omega)
structure Zks (R0 R:Keyed->Keyed->Bool) (Ok:Keyed->Keyed->Prop):Prop where
 up:∀x y,R0 x y=true->R x y=true
 ok:∀x y,Ok x y->R x y=R0 x y
structure Fal (R0 R:Keyed->Keyed->Bool) (X Y:Array Keyed) (lo q k:Nat):Prop where
 t:J8 X Y lo q
 d:Dn' R Y lo q
 e:Eqv R0 Y lo q k
 st:∀i j,i<q->q<=j->j<k->R0 (gA Y (lo+j)) (gA Y (lo+i))=true
 qk:q<k
theorem Fal.turn (C:JR prog w A s κ U R Ok) (L:Zks R0 R Ok) {X Y:Array Keyed}{lo q k n:Nat} (F:Fal R0 R X Y lo q k) (hU:Zcp U X) (hs:lo+k<=X.size) (hO:∀e,lo+n<=e->Sep Ok X e) (hq:n<=q) :
  J8 X (mir Y (lo+q) (lo+k)) lo k/\Dn' R (mir Y (lo+q) (lo+k)) lo k:=by
 have sz:=F.t.size
 have uY:=hU.stir F.t
 have qk:=F.qk
 have hsY:lo+k<=Y.size:=by omega
 refine⟨(F.t.wide (ZqJ _) (by omega)).trans ((Zao (by omega) hsY).wide (by omega) (by omega)),fun i j hij hj=>?_⟩
 by_cases a:i<q
 ·rw[Qd hsY (.inl (by omega))]
  by_cases b:j<q
  ·rw[Qd hsY (.inl (by omega))]
   exact F.d i j hij b
  ·rw[VD hsY (by omega) (by omega),show lo+q+(lo+k)-1-(lo+j)=lo+(q+k-1-j) by omega]
   exact C.asy _ _ (uY _ (by omega)) (uY _ (by omega)) (L.up _ _ (F.st i (q+k-1-j) a (by omega) (by omega)))
 ·rw[VD hsY (by omega) (by omega),VD hsY (by omega) (by omega),show lo+q+(lo+k)-1-(lo+j)=lo+(q+k-1-j) by omega,show lo+q+(lo+k)-1-(lo+i)=lo+(q+k-1-i) by omega]
  have ok:=F.t.sep (e:=lo+(q+k-1-i)) (.inr (by omega)) (hO _ (by omega)) (lo+(q+k-1-j)) (lo+(q+k-1-i)) (by omega) (ZqJ _) (by omega)
  rw[L.ok _ _ ok]
  exact F.e _ _ (by omega) (by omega) (by omega) (by omega)
theorem Fal.plain (C:JR prog w A s κ U R Ok) (L:Zks R0 R Ok) {X Y:Array Keyed}{lo q:Nat} (F:Fal R0 R X Y lo q (q+1)) (hU:Zcp U X) (hs:lo+(q+1)<=X.size):J8 X Y lo (q+1)/\Dn' R Y lo (q+1):=by
 have sz:=F.t.size
 have uY:=hU.stir F.t
 refine⟨F.t.wide (ZqJ _) (by omega),fun i j hij hj=>?_⟩
 by_cases b:j<q
 ·exact F.d i j hij b
 ·exact C.asy _ _ (uY _ (by omega)) (uY _ (by omega)) (L.up _ _ (F.st i j (by omega) (by omega) hj))
theorem Fal.above (C0:JR prog w A s κ U R0 (fun _ _=>True)) {X Y:Array Keyed}{lo q k:Nat} (F:Fal R0 R X Y lo q k) (hU:Zcp U X) (hs:lo+k<=X.size) (i:Nat) (hi:i<k):R0 (gA Y (lo+i)) (gA Y (lo+(k-1)))=false:=by
 have sz:=F.t.size
 have uY:=hU.stir F.t
 have qk:=F.qk
 by_cases a:i<q
 ·exact C0.asy _ _ (uY _ (by omega)) (uY _ (by omega)) (F.st i (k-1) a (by omega) (by omega))
 ·exact F.e i (k-1) (by omega) hi (by omega) (by omega)
theorem Zhw (C0:JR prog w A s κ U R0 (fun _ _=>True)) {x y z:Keyed} (ux:U x) (uy:U y) (uz:U z) (h1:R0 x y=true) (h2:R0 z y=false):R0 x z=true:=by
 cases h:R0 x z with
 |true=>rfl
 |false=>rw[C0.tr y z x uy uz ux h2 h] at h1;cases h1
theorem ZgU (C:JR prog w A s κ U R Ok) {st:SortSt}{X Z:Array Keyed}{lo n N:Nat}{Q:Option Nat->SortSt->Prop} (hk:kindOf st=κ) (hU:Zcp U X) (hn:lo+N<=X.size) (n1:1<=n) (nN:n<=N)
  (hO:∀e,lo+n<=e->Sep Ok X e) (t:J8 X Z lo n) (d:Dn' R Z lo n)
  (h:∀m Y,n<=m->m<=N->J8 X Y lo m->Up R Y lo m->Q (some m) (setArr st Y)) :
  wpS (model prog w) A E s (do
   let mut n:=n
   reverseSlice' lo (lo+n)
   for _ in [n:N] do
    let some smaller <- ltAt' (lo+n) (lo+n-1)|return none
    if smaller then break
    n:=n+1
   return some n:StateT SortSt Sem (Option Nat)) Q (setArr st Z):=by
 have sZ:=t.size
 refine wpS_bind (QY ?_)
 have t3:J8 X (mir Z lo (lo+n)) lo n:=t.trans ((Zao (by omega) (by omega)).wide (ZqJ _) (by omega))
 have u3:Up R (mir Z lo (lo+n)) lo n:=d.up (by omega)
 show wpS _ _ _ _ _ _ (setArr st (mir Z lo (lo+n)))
 generalize mir Z lo (lo+n)=Y at t3 u3
 have sz3:=t3.size
 have uY:=hU.stir t3
 refine wpS_bind (wpS_mono (wpS_forRange
  (I:=fun x (c:Option (Option Nat)×Nat) (st':SortSt)=>c.1=none/\st'=setArr st Y/\c.2=x/\Up R Y lo x)
  (Q:=fun(c:Option (Option Nat)×Nat) (st':SortSt)=>c.1=none/\st'=setArr st Y/\(n<=c.2/\c.2<=N)/\Up R Y lo c.2) ?_ ?_ ⟨rfl,rfl,rfl,u3⟩) ?_)
 ·rintro x ⟨o,k⟩ st' hx1 hx2 ⟨rfl,rfl,h3,h4⟩
  dsimp only at h3 ⊢
  subst h3
  refine wpS_bind (VQ C (show kindOf (setArr st Y)=κ from hk) uY (show lo+k<Y.size by omega) (show lo+k-1<Y.size by omega) (t3.sep (e:=lo+k) (.inr (by omega)) (hO _ (by omega)) _ _ (by omega) (ZqJ _) (by omega)) ?_)
  dsimp only
  show wpS _ _ _ _ (if R (gA Y (lo+k)) (gA Y (lo+k-1))=true then _ else _) _ _
  cases hR:R (gA Y (lo+k)) (gA Y (lo+k-1)) with
  |true =>
   rw[if_pos rfl]
   exact wpS_pure ⟨rfl,rfl,⟨hx1,by dsimp only;omega⟩,h4⟩
  |false =>
   rw[if_neg (by decide)]
   exact wpS_pure ⟨rfl,rfl,rfl,h4.more C uY (by omega) (.inr hR)⟩
 ·rintro⟨o,k⟩ st' ⟨h1,h2,h3,h4⟩
  dsimp only at h3 ⊢
  subst h3
  exact⟨h1,h2,by omega,h4⟩
 ·rintro⟨o,k⟩ st' ⟨rfl,rfl,h3,h4⟩
  dsimp only at h3 h4 ⊢
  exact wpS_pure (h k Y h3.1 h3.2 (t3.wide (ZqJ _) (by omega)) h4)
theorem Zcr (C:JR prog w A s κ U R Ok) (C0:JR prog w A s κ U R0 (fun _ _=>True)) (L:Zks R0 R Ok) {st:SortSt}{X:Array Keyed}{lo n N:Nat}{Q:Option Nat->SortSt->Prop} (hk:kindOf st=κ) (hU:Zcp U X) (hn:lo+N<=X.size) (n1:1<=n) (nN:n<N)
  (hO:∀e,lo+n<=e->Sep Ok X e) (d1:Dn' R X lo n) (s1:∀i,i<n->R0 (gA X (lo+n)) (gA X (lo+i))=true)
  (h:∀m Y,n<=m->m<=N->J8 X Y lo m->Up R Y lo m->Q (some m) (setArr st Y)) :
  wpS (model prog w) A E s (do
   rule "list.sort.descending-run"
   let mut n:=n+1
   let mut neq:=0
   for _ in [n:N] do
    let some smaller <- ltAt' (lo+n) (lo+n-1)|return none
    if smaller then
     if neq>0 then reverseSlice' (lo+n-(neq+1)) (lo+n)
     neq:=0
    else
     let some larger <- ltAt' (lo+n-1) (lo+n)|return none
     if larger then break
     neq:=neq+1
    n:=n+1
   if neq>0 then reverseSlice' (lo+n-(neq+1)) (lo+n)
   reverseSlice' lo (lo+n)
   for _ in [n:N] do
    let some smaller <- ltAt' (lo+n) (lo+n-1)|return none
    if smaller then break
    n:=n+1
   return some n:StateT SortSt Sem (Option Nat)) Q (setArr st X):=by
 refine wpS_bind (wpS_lift (wpAny_rule ⟨rfl, ?_⟩))
 have irr:∀{x:Keyed},U x->R0 x x=false:=fun {x} u=>by
  cases h:R0 x x with
  |false=>rfl
  |true=>have:=C0.asy x x u u h;rw[h] at this;cases this
 refine wpS_bind (wpS_mono (wpS_forRange
  (I:=fun x (c:Option (Option Nat)×Nat×Nat) (st':SortSt)=>c.1=none/\c.2.1=x/\c.2.2<x/\∃Y,st'=setArr st Y/\Fal R0 R X Y lo (x-1-c.2.2) x/\n<=x-1-c.2.2)
  (Q:=fun(c:Option (Option Nat)×Nat×Nat) (st':SortSt)=>c.1=none/\(n+1<=c.2.1/\c.2.1<=N)/\c.2.2<c.2.1/\∃Y,st'=setArr st Y/\Fal R0 R X Y lo (c.2.1-1-c.2.2) c.2.1/\n<=c.2.1-1-c.2.2) ?_ ?_
  ⟨rfl,rfl,Nat.succ_pos _,X,rfl,⟨(J8.refl _ _ _),d1,fun i j i1 i2 j1 j2=>?_,fun i j i1 j1 j2=>?_, ?_⟩, ?_⟩) ?_)
 ·rintro x ⟨o,k,e⟩ st' hx1 hx2 ⟨rfl,h3,he,Y,rfl,F,hq⟩
  dsimp only at h3 he F hq ⊢
  subst h3
  have szY:=F.t.size
  have uY:=hU.stir F.t
  have kN:k<N:=by omega
  have i1:lo+k<Y.size:=by omega
  have i2:lo+k-1<Y.size:=by omega
  have ek:lo+(k-1)=lo+k-1:=by omega
  refine wpS_bind (VQ C0 (show kindOf (setArr st Y)=κ from hk) uY i1 i2 trivial ?_)
  dsimp only
  show wpS _ _ _ _ (if R0 (gA Y (lo+k)) (gA Y (lo+k-1))=true then _ else _) _ _
  have nxt:∀Z,J8 X Z lo k->Dn' R Z lo k->(∀i,i<k->R0 (gA Z (lo+k)) (gA Z (lo+i))=true)->Fal R0 R X Z lo (k+1-1-0) (k+1):=fun Z t d a=>by
   rw[show k+1-1-0=k by omega]
   have uZ:=hU.stir t
   have sZ:=t.size
   refine⟨t,d,fun i j a1 a2 b1 b2=>?_,fun i j a1 b1 b2=>?_,ZrD _⟩
   ·obtain rfl:i=k:=by omega
    obtain rfl:j=i:=by omega
    exact irr (uZ _ (by omega))
   ·obtain rfl:j=k:=by omega
    exact a i a1
  cases hR:R0 (gA Y (lo+k)) (gA Y (lo+k-1)) with
  |true =>
   rw[if_pos rfl]
   have low:∀i,i<k->R0 (gA Y (lo+k)) (gA Y (lo+i))=true:=fun i hi=>by
    have:=F.above C0 hU (by omega) i hi
    rw[ek] at this
    exact Zhw C0 (uY _ i1) (uY _ i2) (uY _ (by omega)) hR this
   by_cases he0:e>0
   ·rw[if_pos he0]
    obtain⟨t2,d2⟩:=F.turn C L hU (by omega) hO hq
    rw[show lo+(k-1-e)=lo+k-(e+1) by omega] at t2 d2
    refine wpS_bind (QY (wpS_pure ⟨rfl,rfl,Nat.succ_pos _,mir Y (lo+k-(e+1)) (lo+k),rfl,nxt _ t2 d2 fun i hi=>?_, ?_⟩))
    ·have hsY:lo+k<=Y.size:=by omega
     rw[Qd hsY (.inr (ZqJ _))]
     by_cases a:lo+i<lo+k-(e+1)
     ·rw[Qd hsY (.inl a)];exact low i hi
     ·rw[VD hsY (by omega) (by omega),show lo+k-(e+1)+(lo+k)-1-(lo+i)=lo+(k-(e+1)+k-1-i) by omega]
      exact low _ (by omega)
    ·dsimp only;omega
   ·rw[if_neg he0]
    obtain rfl:e=0:=by omega
    have F':Fal R0 R X Y lo (k-1) (k-1+1):=by
     rw[show k-1+1=k by omega];exact F
    obtain⟨t2,d2⟩:=F'.plain C L hU (by omega)
    rw[show k-1+1=k by omega] at t2 d2
    exact wpS_pure ⟨rfl,rfl,Nat.succ_pos _,Y,rfl,nxt _ t2 d2 low,by dsimp only;omega⟩
  |false =>
   rw[if_neg (by decide)]
   refine wpS_bind (VQ C0 (show kindOf (setArr st Y)=κ from hk) uY i2 i1 trivial ?_)
   dsimp only
   show wpS _ _ _ _ (if R0 (gA Y (lo+k-1)) (gA Y (lo+k))=true then _ else _) _ _
   cases hL:R0 (gA Y (lo+k-1)) (gA Y (lo+k)) with
   |true =>
    rw[if_pos rfl]
    exact wpS_pure ⟨rfl,⟨by dsimp only;omega,by dsimp only;omega⟩,he,Y,rfl,F,hq⟩
   |false =>
    rw[if_neg (by decide)]
    refine wpS_pure ⟨rfl,rfl,Nat.succ_lt_succ he,Y,rfl, ?_, ?_⟩
    ·dsimp only
     rw[show k+1-1-(e+1)=k-1-e by omega]
     have qk:=F.qk
     have bd:∀q,q<k->U (gA Y (lo+q)):=fun q hq=>uY _ (by omega)
     have gr:∀q,k-1-e<=q->q<k->R0 (gA Y (lo+q)) (gA Y (lo+k))=false/\R0 (gA Y (lo+k)) (gA Y (lo+q))=false:=fun q q1 q2=>by
      have z1:=F.e q (k-1) q1 q2 (by omega) (by omega)
      have z2:=F.e (k-1) q (by omega) (by omega) q1 q2
      rw[ek] at z1 z2
      exact⟨C0.tr _ _ _ (uY _ i1) (uY _ i2) (bd q q2) hL z1,C0.tr _ _ _ (bd q q2) (uY _ i2) (uY _ i1) z2 hR⟩
     refine⟨F.t,F.d,fun i j a1 a2 b1 b2=>?_,fun i j a1 b1 b2=>?_,by omega⟩
     ·by_cases a:i<k
      ·by_cases b:j<k
       ·exact F.e i j a1 a b1 b
       ·obtain rfl:j=k:=by omega
        exact(gr i a1 a).1
      ·obtain rfl:i=k:=by omega
       by_cases b:j<i
       ·exact(gr j b1 b).2
       ·obtain rfl:j=i:=by omega
        exact irr (uY _ i1)
     ·by_cases b:j<k
      ·exact F.st i j a1 b1 b
      ·obtain rfl:j=k:=by omega
       have z:=F.st i (j-1) a1 (by omega) (by omega)
       rw[ek] at z
       cases hc:R0 (gA Y (lo+j)) (gA Y (lo+i)) with
       |true=>rfl
       |false=>rw[C0.tr _ _ _ (bd i (by omega)) (uY _ i1) (uY _ i2) hc hL] at z;cases z
    ·dsimp only;omega
 ·rintro⟨o,k,e⟩ st' ⟨h1,h3,he,Y,h4,F,hq⟩
  dsimp only at h3 he F hq ⊢
  subst h3
  rw[show max (n+1) N=N by omega] at *
  exact⟨h1,⟨by omega,ZqJ _⟩,he,Y,h4,F,hq⟩
 ·dsimp only at i1 j1
  obtain rfl:i=n:=by omega
  obtain rfl:j=i:=by omega
  exact irr (hU _ (by omega))
 ·dsimp only at i1 j1
  obtain rfl:j=n:=by omega
  exact s1 i (by omega)
 ·dsimp only;omega
 ·dsimp only;omega
 ·rintro⟨o,n2,e⟩ st' ⟨rfl,hn2,he,Y,rfl,F,hq⟩
  dsimp only at hn2 he F hq ⊢
  have hO2:∀e,lo+n2<=e->Sep Ok X e:=fun e h=>hO e (by omega)
  by_cases he0:e>0
  ·rw[if_pos he0]
   refine wpS_bind (QY ?_)
   obtain⟨t2,d2⟩:=F.turn C L hU (by omega) hO hq
   rw[show lo+(n2-1-e)=lo+n2-(e+1) by omega] at t2 d2
   exact ZgU C hk hU hn (by omega) hn2.2 hO2 t2 d2 fun m Y a b=>h m Y (by omega) b
  ·rw[if_neg he0]
   obtain rfl:e=0:=by omega
   have F':Fal R0 R X Y lo (n2-1) (n2-1+1):=by
    rw[show n2-1+1=n2 by omega];exact F
   obtain⟨t2,d2⟩:=F'.plain C L hU (by omega)
   rw[show n2-1+1=n2 by omega] at t2 d2
   exact ZgU C hk hU hn (by omega) hn2.2 hO2 t2 d2 fun m Y a b=>h m Y (by omega) b
theorem Zea (C:JR prog w A s κ U R Ok) (C0:JR prog w A s κ U R0 (fun _ _=>True)) (L:Zks R0 R Ok) {st:SortSt}{lo N:Nat}{Q:Option Nat->SortSt->Prop} (hk:kindOf st=κ) (hU:Zcp U (arrOf st)) (hn:lo+N<=(arrOf st).size) (n1:1<=N)
  (hO:∀e,lo<e->Sep Ok (arrOf st) e) (h:∀m Y,1<=m->m<=N->J8 (arrOf st) Y lo m->Up R Y lo m->Q (some m) (setArr st Y)):wpS (model prog w) A E s (countRun' lo N) Q st:=by
 rw[countRun'_eq]
 refine wpS_bind (wpS_mono (wpS_forRange
  (I:=fun x (c:Option (Option Nat)×Nat) (st':SortSt)=>c.1=none/\st'=st/\c.2=x/\Up R (arrOf st) lo x)
  (Q:=fun(c:Option (Option Nat)×Nat) (st':SortSt)=>c.1=none/\st'=st/\(1<=c.2/\c.2<=N)/\Up R (arrOf st) lo c.2/\(c.2=N\/R (gA (arrOf st) (lo+c.2)) (gA (arrOf st) (lo+c.2-1))=true)) ?step ?fin ⟨rfl,rfl,rfl,fun i j hij hj=>by omega⟩) ?post)
 case fin =>
  rintro⟨o,n⟩ st' ⟨h1,h2,h3,h4⟩
  dsimp only at h1 h3 ⊢
  subst h3
  exact⟨h1,h2,by omega,h4,.inl (by omega)⟩
 case step =>
  rintro x ⟨o,n⟩ st' hx1 hx2 ⟨rfl,rfl,h3,h4⟩
  dsimp only at h3 ⊢
  subst h3
  refine wpS_bind (VQ C hk hU (show lo+n<_ by omega) (show lo+n-1<_ by omega) (hO (lo+n) (by omega) _ _ (by omega) (ZqJ _) (by omega)) ?_)
  dsimp only
  cases hR:R (gA (arrOf st') (lo+n)) (gA (arrOf st') (lo+n-1)) with
  |true =>
   rw[if_pos rfl]
   exact wpS_pure ⟨rfl,rfl,by dsimp only;omega,h4,.inr hR⟩
  |false =>
   rw[if_neg (by decide)]
   exact wpS_pure ⟨rfl,rfl,rfl,h4.more C hU (by omega) (.inr hR)⟩
 case post =>
  rintro⟨o,n⟩ st' ⟨h1,h2,h3,h4,h5⟩
  have h2:=h2.symm
  subst h2
  dsimp only at h1 h3 h4 h5 ⊢
  subst h1
  dsimp only
  by_cases e1:n=N
  ·rw[if_pos (by simpa using e1)]
   exact wpS_pure (h n (arrOf st) h3.1 h3.2 (J8.refl _ _ _) h4)
  rw[if_neg (by simpa using e1)]
  have h5:=h5.resolve_left e1
  have bn:lo+n<(arrOf st).size:=by omega
  have bn1:lo+n-1<(arrOf st).size:=by omega
  have en:lo+(n-1)=lo+n-1:=by omega
  rw[L.ok _ _ (hO (lo+n) (by omega) (lo+n-1) _ (by omega) (ZqJ _) bn)] at h5
  have u:∀q,q<n->U (gA (arrOf st) (lo+q)):=fun q hq=>hU _ (by omega)
  have un:=hU _ bn
  have un1:U (gA (arrOf st) (lo+n-1)):=hU _ bn1
  by_cases e2:n>1
  ·rw[if_pos e2]
   refine wpS_bind (VQ C0 hk hU (show lo<_ by omega) bn1 trivial ?_)
   dsimp only
   cases hR:R0 (gA (arrOf st) lo) (gA (arrOf st) (lo+n-1)) with
   |true =>
    rw[if_pos rfl]
    exact wpS_pure (h n (arrOf st) h3.1 h3.2 (J8.refl _ _ _) h4)
   |false =>
    rw[if_neg (by decide)]
    refine wpS_bind (QY ?_)
    have u0:Up R0 (arrOf st) lo n:=fun i j hij hj=>by
     cases hc:R0 (gA (arrOf st) (lo+j)) (gA (arrOf st) (lo+i)) with
     |false=>rfl
     |true=>have:=L.up _ _ hc;rw[h4 i j hij hj] at this;cases this
    have irr:∀{x:Keyed},U x->R0 x x=false:=fun {x} u=>by
     cases h:R0 x x with
     |false=>rfl
     |true=>have:=C0.asy x x u u h;rw[h] at this;cases this
    have ul:U (gA (arrOf st) lo):=u 0 (by omega)
    have le1:∀q,q<n->R0 (gA (arrOf st) (lo+q)) (gA (arrOf st) lo)=false/\R0 (gA (arrOf st) (lo+n-1)) (gA (arrOf st) (lo+q))=false:=fun q hq=>by
     refine⟨?_, ?_⟩
     ·by_cases z:q=0
      ·subst z;exact irr ul
      ·exact u0 0 q (by omega) hq
     ·by_cases z:q=n-1
      ·subst z;rw[en];exact irr un1
      ·have:=u0 q (n-1) (by omega) (by omega);rw[en] at this;exact this
    have eq1:∀i j,i<n->j<n->R0 (gA (arrOf st) (lo+i)) (gA (arrOf st) (lo+j))=false:=fun i j hi hj=>C0.tr _ _ _ (u j hj) ul (u i hi) (C0.tr _ _ _ (u j hj) un1 ul (le1 j hj).2 hR) (le1 i hi).1
    have t0:J8 (arrOf st) (mir (arrOf st) lo (lo+n)) lo n:=(Zao (by omega) (by omega)).wide (ZqJ _) (by omega)
    have hs:lo+n<=(arrOf st).size:=by omega
    have d0:Dn' R (mir (arrOf st) lo (lo+n)) lo n:=fun i j hij hj=>by
     rw[VD hs (by omega) (by omega),VD hs (by omega) (by omega),show lo+(lo+n)-1-(lo+j)=lo+(n-1-j) by omega,show lo+(lo+n)-1-(lo+i)=lo+(n-1-i) by omega]
     rw[L.ok _ _ (hO (lo+(n-1-i)) (by omega) (lo+(n-1-j)) _ (by omega) (ZqJ _) (by omega))]
     exact eq1 _ _ (by omega) (by omega)
    have s0:∀i,i<n->R0 (gA (mir (arrOf st) lo (lo+n)) (lo+n)) (gA (mir (arrOf st) lo (lo+n)) (lo+i))=true:=fun i hi=>by
     rw[Qd hs (.inr (ZqJ _)),VD hs (by omega) (by omega),show lo+(lo+n)-1-(lo+i)=lo+(n-1-i) by omega]
     refine Zhw C0 un un1 (u _ (by omega)) h5 ?_
     rw[<- en]
     exact eq1 _ _ (by omega) (by omega)
    exact Zcr C C0 L hk (hU.stir t0) (by rw[t0.size];exact hn) h3.1 (by omega) (fun e he=>t0.sep (.inr he) (hO e (by omega))) d0 s0 fun m Y a b c d=>h m Y (by omega) b ((t0.wide (ZqJ _) (by omega)).trans c) d
  ·rw[if_neg e2]
   obtain rfl:n=1:=by omega
   show wpS _ _ _ _ _ _ (setArr st (arrOf st))
   refine Zcr C C0 L hk hU hn (ZqJ _) (by omega) (fun e he=>hO e (by omega)) (fun i j hij hj=>by omega) (fun i hi=>?_) fun m Y a b c d=>h m Y a b c d
   obtain rfl:i=0:=by omega
   rw[show lo+1-1=lo+0 by omega] at h5
   exact h5
end
noncomputable abbrev ZdZ:=Nat×Nat×Nat
def UpS (R:Keyed->Keyed->Bool) (Ok:Keyed->Keyed->Prop) (X:Array Keyed) (c n:Nat):Prop:=Up R X c n/\Sep Ok X c
noncomputable def JQ (R:Keyed->Keyed->Bool) (Ok:Keyed->Keyed->Prop) (X:Array Keyed):Nat->List ZdZ->Nat->Prop
 |s,[],e=>s=e
 |s,(c,n,_)::r,e=>c=s/\0<n/\UpS R Ok X c n/\JQ R Ok X (s+n) r e
section
variable {prog:Program}{w:World}{A:Around}{E:Value->Shared->Prop}{s:Shared}{κ:SortKind}{U:Keyed->Prop}{R:Keyed->Keyed->Bool}{Ok:Keyed->Keyed->Prop}
theorem JQ.le {X:Array Keyed}:∀{L:List ZdZ}{a e:Nat},JQ R Ok X a L e->a+L.length<=e
 |[],a,e,h=>by have h:a=e:=h;simp[h]
 |(c,n,p)::L,a,e,h=>by
  obtain⟨_,h1,_,h2⟩:=h
  have:=JQ.le h2
  simp only[ZqY];omega
theorem JQ.app {X:Array Keyed}:∀{L M:List ZdZ}{a e:Nat},JQ R Ok X a (L++M) e ↔ ∃q,JQ R Ok X a L q/\JQ R Ok X q M e
 |[],M,a,e=>⟨fun h=>⟨a,rfl,h⟩,fun⟨q,h1,h2⟩=>by have h1:a=q:=h1;subst h1;exact h2⟩
 |(c,n,p)::L,M,a,e=>by
  show (c=a/\0<n/\UpS R Ok X c n/\JQ R Ok X (a+n) (L++M) e) ↔ ∃q,(c=a/\0<n/\UpS R Ok X c n/\JQ R Ok X (a+n) L q)/\JQ R Ok X q M e
  constructor
  ·rintro⟨h1,h2,h3,h4⟩
   obtain⟨q,q1,q2⟩:=JQ.app.mp h4
   exact⟨q,⟨h1,h2,h3,q1⟩,q2⟩
  ·rintro⟨q,⟨h1,h2,h3,h4⟩,q2⟩
   exact⟨h1,h2,h3,JQ.app.mpr ⟨q,h4,q2⟩⟩
theorem Up.stir {X Y:Array Keyed}{lo m c n:Nat} (h:Up R X c n) (t:J8 X Y lo m) (d:c+n<=lo\/lo+m<=c):Up R Y c n:=fun i j hij hj=>by
 rw[J5 (t.out (c+j) (by omega)),J5 (t.out (c+i) (by omega))]
 exact h i j hij hj
theorem UpS.stir {X Y:Array Keyed}{lo m c n:Nat} (h:UpS R Ok X c n) (t:J8 X Y lo m) (d:c+n<=lo\/lo+m<=c):UpS R Ok Y c n:=⟨h.1.stir t d,t.sep (by omega) h.2⟩
theorem JQ.stir {X Y:Array Keyed}{lo m:Nat} (t:J8 X Y lo m):∀{L:List ZdZ}{a e:Nat},JQ R Ok X a L e->(e<=lo\/lo+m<=a)->JQ R Ok Y a L e
 |[],a,e,h,_=>h
 |(c,n,p)::L,a,e,h,d=>by
  obtain⟨h1,h2,h3,h4⟩:=h
  have:=JQ.le h4
  exact⟨h1,h2,h3.stir t (by omega),JQ.stir t h4 (by omega)⟩
theorem Up.srt {X:Array Keyed}{c n:Nat} (h:Up R X c n) (hs:c+n<=X.size):Srt R ((X.toList.drop c).take n):=by
 refine ZrR.mpr fun i j hi hj hij=>?_
 have hi':i<n:=by rw[Zrd] at hi;omega
 have hj':j<n:=by rw[Zrd] at hj;omega
 have e:∀t,t<n->∀ht,((X.toList.drop c).take n)[t]'ht=gA X (c+t):=fun t htn ht=>by
  have h1:((X.toList.drop c).take n)[t]?=some (gA X (c+t)):=by
   rw[Zrh,if_pos htn,Zre,ZqW,Qp (by omega)]
  rw[ZqH ht] at h1
  exact Option.some.inj h1
 rw[e i hi' hi,e j hj' hj]
 exact h i j hij hj'
theorem Srt.up {X:Array Keyed}{c n:Nat}{pre W post:List Keyed} (hX:X.toList=pre++(W++post)) (lp:pre.length=c) (lW:W.length=n) (h:Srt R W):Up R X c n:=fun i j hij hj=>by
 have g:∀t (ht:t<n),gA X (c+t)=W[t]'(by omega):=fun t ht=>by
  refine ZdO ?_
  rw[<- ZqW,hX,ZqV (by omega),lp,show c+t-c=t by omega,ZqT (by omega),ZqH (by omega)]
 rw[g i (by omega),g j hj]
 exact ZrR.mp h i j (by omega) (by omega) hij
theorem Zgc {L M:List ZdZ}{a b c:ZdZ}{P:Array ZdZ} (h:P.toList=L++a::b::M):(((P.setIfInBounds L.length c).eraseIdxIfInBounds (L.length+1))).toList=L++c::M:=by
 have hz:L.length+1<(P.setIfInBounds L.length c).size:=by
  have:=congrArg List.length h
  rw[ZqL] at this
  rw[Array.size_setIfInBounds,this];simp
 rw[Array.eraseIdxIfInBounds,dif_pos hz,Array.toList_eraseIdx,Zsk,h]
 rw[List.set_append_right _ _ (ZqJ _),Zsw,Zso,List.eraseIdx_append_of_length_le (by omega),show L.length+1-L.length=1 by omega]
 rfl
theorem ZaC (C:JR prog w A s κ U R Ok) {st:SortSt}{L M:List ZdZ}{c n p d m p2 e:Nat}{Q:Bool->SortSt->Prop} (hk:kindOf st=κ) (hf:failedOf st=none) (hU:Zcp U (arrOf st))
  (hp:(pendingOf st).toList=L++(c,n,p)::(d,m,p2)::M) (hr:JQ R Ok (arrOf st) 0 (pendingOf st).toList e) (he:e<=(arrOf st).size)
  (h:∀st',kindOf st'=κ->failedOf st'=none->(pendingOf st').toList=L++(c,n+m,p)::M->J8 (arrOf st) (arrOf st') c (n+m)->c+n+m<=e->JQ R Ok (arrOf st') 0 (pendingOf st').toList e->Q true st') :
  wpS (model prog w) A E s (mergeAt' L.length) Q st:=by
 rw[hp] at hr
 obtain⟨q,r1,r2⟩:=JQ.app.mp hr
 obtain⟨rfl,n0,u1,rfl,m0,u2,r3⟩:=r2
 have le3:=JQ.le r3
 have hsz:c+n+m<=(arrOf st).size:=by omega
 have sp:(arrOf st).toList=(arrOf st).toList.take c++(((arrOf st).toList.drop c).take n++(((arrOf st).toList.drop (c+n)).take m++(arrOf st).toList.drop (c+n+m))):=by
  rw[Vm,Vm,ZqX]
 have lt:(arrOf st).toList.length=(arrOf st).size:=ZqL
 have inU:∀x∈(arrOf st).toList,U x:=fun x hx=>by
  obtain⟨i,hi⟩:=Zrp hx
  have hl:=(ZqI.mp hi).1
  rw[ZqW] at hi
  rw[<- ZdO hi]
  exact hU i (by omega)
 have i1:(pendingOf st)[L.length]?=some (c,n,p):=by
  rw[<- ZqW,hp,ZqV (ZqJ _),Zsw];rfl
 have i2:(pendingOf st)[L.length+1]?=some (c+n,m,p2):=by
  rw[<- ZqW,hp,ZqV (by omega),show L.length+1-L.length=1 by omega];rfl
 refine Zb3 C hk hf i1 i2 sp (by rw[Zrd];omega) (by rw[Zrd,Zr1];omega) (by rw[Zrd,Zr1];omega) rfl n0 m0
  (fun x hx=>inU x (Zro (Zrn hx))) (fun x hx=>inU x (Zro (Zrn hx))) (u1.1.srt (by omega)) (u2.1.srt (by omega)) (fun y hy x hx=>?ok) fun st' W k1 k2 k3 k4 k5 k6=>?main
 case ok =>
  obtain⟨i,hi⟩:=Zrp hy
  obtain⟨j,hj⟩:=Zrp hx
  rw[Zrh] at hi hj
  split at hi
  ·split at hj
   ·rename_i ci cj
    rw[Zre,ZqW] at hi hj
    rw[<- ZdO hi,<- ZdO hj]
    exact u2.2 _ _ (by omega) (by omega) (by omega)
   ·cases hj
  ·cases hi
 have lW:W.length=n+m:=by rw[k6.length_eq,Zra,Zrd,Zrd,Zr1,Zr1];omega
 have lpre:((arrOf st).toList.take c).length=c:=by rw[Zrd];omega
 have hst:J8 (arrOf st) (arrOf st') c (n+m):=by
  refine⟨?_,fun k hk'=>?_⟩
  ·refine Zsl.mpr ?_
   rw[k4]
   conv=>rhs;rw[sp]
   refine List.Perm.append_left _ ?_
   rw[<- ZqP]
   exact k6.append_right _
  ·rw[<- ZqW,<- ZqW,k4]
   rcases hk' with z|z
   ·rw[ZqT (by omega),Zrh,if_pos z]
   ·rw[ZqV (by omega),lpre,ZqV (by omega),lW,Zre]
    congr 1;omega
 have kp:(pendingOf st').toList=L++(c,n+m,p)::M:=by rw[k3];exact Zgc hp
 refine h st' k1 k2 kp hst (by omega) ?_
 rw[kp]
 refine JQ.app.mpr ⟨c,r1.stir hst (.inl (ZqJ _)),rfl,by omega,⟨Srt.up k4 lpre lW k5,hst.sep (.inl (ZqJ _)) u1.2⟩, ?_⟩
 rw[<- Nat.add_assoc]
 exact r3.stir hst (.inr (by omega))
variable {R0:Keyed->Keyed->Bool}
structure RSt (κ:SortKind) (U:Keyed->Prop) (R:Keyed->Keyed->Bool) (Ok:Keyed->Keyed->Prop) (X:Array Keyed) (lo hi:Nat) (st':SortSt):Prop where
 kd:kindOf st'=κ
 fl:failedOf st'=none
 pm:(arrOf st').Perm X
 us:Zcp U (arrOf st')
 rn:JQ R Ok (arrOf st') 0 (pendingOf st').toList lo
 le:lo<=X.size
 lh:lo<=hi
 sp:∀e,e=lo\/hi<=e->Sep Ok (arrOf st') e
theorem RSt.sz {X:Array Keyed}{lo hi:Nat}{st':SortSt} (h:RSt κ U R Ok X lo hi st'):(arrOf st').size=X.size:=h.pm.size_eq
theorem JQ.mod {X:Array Keyed}{f:ZdZ->ZdZ} (hf:∀c n p,∃p',f (c,n,p)=(c,n,p')):∀{L:List ZdZ}{a e:Nat},JQ R Ok X a L e->∀i,JQ R Ok X a (L.modify i f) e
 |[],a,e,h,i=>by simpa using h
 |(c,n,p)::L,a,e,h,0=>by
  obtain⟨p',hp'⟩:=hf c n p
  rw[List.modify_zero_cons,hp']
  exact h
 |(c,n,p)::L,a,e,h,i+1=>by
  rw[List.modify_succ_cons]
  exact⟨h.1,h.2.1,h.2.2.1,JQ.mod hf h.2.2.2 i⟩
theorem Zji {L:List ZdZ}{i:Nat} (h:i+1<L.length):∃A a b B,L=A++a::b::B/\A.length=i:=by
 refine⟨L.take i,L[i],L[i+1],L.drop (i+2), ?_,by rw[Zrd];omega⟩
 rw[<- Zrl h,<- Zrl (by omega),ZqX]
theorem VP (C:JR prog w A s κ U R Ok) {X:Array Keyed}{st1:SortSt}{lo hi i:Nat}{Q:Bool->SortSt->Prop} (S1:RSt κ U R Ok X lo hi st1) (hi':i+1<(pendingOf st1).size)
  (h:∀st',RSt κ U R Ok X lo hi st'->(pendingOf st').size+1=(pendingOf st1).size->(∀n,Up R (arrOf st1) lo n->Up R (arrOf st') lo n)->Q true st'):wpS (model prog w) A E s (mergeAt' i) Q st1:=by
 obtain⟨L,⟨c,n,p⟩,⟨d,m,p2⟩,M,hL,rfl⟩:=Zji (L:=(pendingOf st1).toList) (by rw[ZqL];exact hi')
 refine ZaC C S1.kd S1.fl S1.us hL S1.rn (by rw[S1.sz];exact S1.le) fun st' k1 k2 k3 k4 k5 k6=>h st' ⟨k1,k2,k4.perm.trans S1.pm,S1.us.stir k4,k6,S1.le,S1.lh,fun e he=>k4.sep (.inr (by have:=S1.lh;omega)) (S1.sp e he)⟩ ?_ fun q hq=>hq.stir k4 (.inr (by omega))
 have e1:=congrArg List.length hL
 have e2:=congrArg List.length k3
 rw[ZqL] at e1 e2
 simp only[Zra,ZqY] at e1 e2
 omega
theorem Zb0 (C:JR prog w A s κ U R Ok) (C0:JR prog w A s κ U R0 (fun _ _=>True)) (L:Zks R0 R Ok) {st:SortSt}{Q:Unit->SortSt->Prop} (hk:kindOf st=κ) (hf:failedOf st=none) (hU:Zcp U (arrOf st)) (hp:pendingOf st=#[]) (hO:∀e,Sep Ok (arrOf st) e)
  (h:∀st',failedOf st'=none->(arrOf st').Perm (arrOf st)->Up R (arrOf st') 0 (arrOf st).size->Q () st'):wpS (model prog w) A E s sortRuns' Q st:=by
 rw[sortRuns'_eq]
 refine wpS_bind (wpS_get ?_)
 dsimp only
 have S0:RSt κ U R Ok (arrOf st) 0 0 st:=⟨hk,hf,Array.Perm.refl _,hU,by rw[hp];rfl,Zrt _,ZqJ _,fun e _=>hO e⟩
 generalize hX:arrOf st=X at S0 h
 refine wpS_bind (wpS_mono (wpS_forRange
  (I:=fun x (c:Option Unit×Nat) (st':SortSt)=>c.1=none/\RSt κ U R Ok X c.2 c.2 st'/\(x<=c.2\/X.size<=c.2))
  (Q:=fun(c:Option Unit×Nat) (st':SortSt)=>c.1=none/\RSt κ U R Ok X X.size X.size st') ?step ?fin ⟨rfl,S0,.inl (ZqJ _)⟩) ?post)
 case fin =>
  rintro⟨o,lo⟩ st' ⟨h1,h2,h3⟩
  dsimp only at h1 h2 h3 ⊢
  have:=h2.le
  obtain rfl:lo=X.size:=by omega
  exact⟨h1,h2⟩
 case step =>
  rintro x ⟨o,lo⟩ st1 _ hx ⟨rfl,S1,h3⟩
  dsimp only at S1 h3 ⊢
  have hle:=S1.le
  have hsz:=S1.sz
  by_cases e0:lo ≥ X.size
  ·rw[if_pos e0]
   obtain rfl:lo=X.size:=by omega
   exact wpS_pure ⟨rfl,S1⟩
  rw[if_neg e0]
  refine wpS_bind (Zea C C0 L S1.kd S1.us (show lo+(X.size-lo)<=_ by omega) (by omega) (fun e he=>S1.sp e (.inr (by omega))) fun m Y m1 m2 t u=>?_)
  dsimp only
  have S1':RSt κ U R Ok X lo (lo+m) (setArr st1 Y):=⟨S1.kd,S1.fl,t.perm.trans S1.pm,S1.us.stir t,S1.rn.stir t (.inl (ZqJ _)),S1.le,by omega,fun e he=>t.sep (by omega) (S1.sp e (by omega))⟩
  by_cases e1:m<minRun' X.size X.size 0
  ·rw[if_pos e1]
   have f1:m<=min (X.size-lo) (minRun' X.size X.size 0):=by omega
   have f2:min (X.size-lo) (minRun' X.size X.size 0)<=X.size-lo:=Zsh _ _
   generalize min (X.size-lo) (minRun' X.size X.size 0)=N1 at f1 f2
   refine wpS_bind (wpS_lift (wpAny_rule ⟨rfl, ?_⟩))
   refine wpS_bind (ZhD C (show kindOf (setArr st1 Y)=κ from S1.kd) S1'.us (show lo+N1<=(arrOf (setArr st1 Y)).size by rw[S1'.sz];omega) f1 (by omega) u (fun e he=>S1'.sp e (.inr he)) fun Y2 t2 u2=>?_)
   rw[if_neg (by decide)]
   have t2:J8 Y Y2 lo N1:=t2
   have S2:RSt κ U R Ok X lo (lo+N1) (setArr st1 Y2):=⟨S1.kd,S1.fl,t2.perm.trans S1'.pm,S1'.us.stir t2,S1'.rn.stir t2 (.inl (ZqJ _)),S1.le,by omega,fun e he=>t2.sep (by omega) (S1'.sp e (by omega))⟩
   show wpS _ _ _ _ _ _ (setArr st1 Y2)
   have PUSH:∀st3,RSt κ U R Ok X lo (lo+N1) st3->Up R (arrOf st3) lo (N1)->RSt κ U R Ok X (lo+(N1)) (lo+(N1)) (setPending st3 ((pendingOf st3).push (lo,N1,0))):=fun st3 S3 u3 =>
    ⟨S3.kd,S3.fl,S3.pm,S3.us,by
     show JQ R Ok (arrOf st3) 0 ((pendingOf st3).push (lo,N1,0)).toList (lo+(N1))
     rw[ZrZ]
     exact JQ.app.mpr ⟨lo,S3.rn,rfl,by omega,⟨u3,S3.sp lo (.inl rfl)⟩,rfl⟩,by omega,ZqJ _,fun e he=>S3.sp e (.inr (by omega))⟩
   refine wpS_bind (wpS_get ?_)
   cases hb:(pendingOf (setArr st1 Y2)).back? with
   |none =>
    dsimp only
    exact wpS_bind (wpS_modify (wpS_pure ⟨rfl,PUSH _ S2 u2,.inl (by dsimp only;omega)⟩))
   |some q =>
    obtain⟨s1,n1,p1⟩:=q
    dsimp only
    refine wpS_bind (wpS_mono (wpS_forRange
     (I:=fun _ (c:Option Unit×Unit) (st':SortSt)=>c.1=none/\RSt κ U R Ok X lo (lo+N1) st'/\Up R (arrOf st') lo (N1))
     (Q:=fun(c:Option Unit×Unit) (st':SortSt)=>c.1=none/\RSt κ U R Ok X lo (lo+N1) st'/\Up R (arrOf st') lo (N1)) ?_ (fun c st' hc=>hc) ⟨rfl,S2,u2⟩) ?_)
    ·rintro y ⟨o,_⟩ st3 _ hy ⟨rfl,S3,u3⟩
     refine wpS_bind (wpS_get ?_)
     by_cases hsz3:(pendingOf st3).size>1
     ·rw[if_pos hsz3]
      have hg:(pendingOf st3)[(pendingOf st3).size-2]?=some ((pendingOf st3)[(pendingOf st3).size-2]'(by omega)):=Array.getElem?_eq_getElem (by omega)
      rw[hg]
      generalize (pendingOf st3)[(pendingOf st3).size-2]'(by omega)=q3 at hg
      obtain⟨a3,b3,older⟩:=q3
      dsimp only
      split
      ·exact wpS_pure ⟨rfl,S3,u3⟩
      ·refine wpS_bind (VP C S3 (by omega) fun st4 S4 _ up4=>?_)
       rw[if_neg (by decide)]
       exact wpS_pure ⟨rfl,S4,up4 _ u3⟩
     ·rw[if_neg hsz3]
      exact wpS_pure ⟨rfl,S3,u3⟩
    ·rintro⟨o,_⟩ st3 ⟨h1,S3,u3⟩
     dsimp only at h1
     subst h1
     dsimp only
     refine wpS_bind (wpS_modify (wpS_bind (wpS_modify (wpS_pure ⟨rfl, ?_,.inl (by dsimp only;omega)⟩))))
     refine PUSH (setPending st3 _) ⟨S3.kd,S3.fl,S3.pm,S3.us, ?_,S3.le,S3.lh,S3.sp⟩ u3
     show JQ R Ok (arrOf st3) 0 ((pendingOf st3).modify _ _).toList lo
     rw[Array.toList_modify]
     exact S3.rn.mod (fun _ _ _=>⟨_,rfl⟩) _
  ·rw[if_neg e1]
   have S2:=S1'
   have u2:=u
   have PUSH:∀st3,RSt κ U R Ok X lo (lo+m) st3->Up R (arrOf st3) lo (m)->RSt κ U R Ok X (lo+(m)) (lo+(m)) (setPending st3 ((pendingOf st3).push (lo,m,0))):=fun st3 S3 u3 =>
    ⟨S3.kd,S3.fl,S3.pm,S3.us,by
     show JQ R Ok (arrOf st3) 0 ((pendingOf st3).push (lo,m,0)).toList (lo+(m))
     rw[ZrZ]
     exact JQ.app.mpr ⟨lo,S3.rn,rfl,by omega,⟨u3,S3.sp lo (.inl rfl)⟩,rfl⟩,by omega,ZqJ _,fun e he=>S3.sp e (.inr (by omega))⟩
   refine wpS_bind (wpS_get ?_)
   cases hb:(pendingOf (setArr st1 Y)).back? with
   |none =>
    dsimp only
    exact wpS_bind (wpS_modify (wpS_pure ⟨rfl,PUSH _ S2 u2,.inl (by dsimp only;omega)⟩))
   |some q =>
    obtain⟨s1,n1,p1⟩:=q
    dsimp only
    refine wpS_bind (wpS_mono (wpS_forRange
     (I:=fun _ (c:Option Unit×Unit) (st':SortSt)=>c.1=none/\RSt κ U R Ok X lo (lo+m) st'/\Up R (arrOf st') lo (m))
     (Q:=fun(c:Option Unit×Unit) (st':SortSt)=>c.1=none/\RSt κ U R Ok X lo (lo+m) st'/\Up R (arrOf st') lo (m)) ?_ (fun c st' hc=>hc) ⟨rfl,S2,u2⟩) ?_)
    ·rintro y ⟨o,_⟩ st3 _ hy ⟨rfl,S3,u3⟩
     refine wpS_bind (wpS_get ?_)
     by_cases hsz3:(pendingOf st3).size>1
     ·rw[if_pos hsz3]
      have hg:(pendingOf st3)[(pendingOf st3).size-2]?=some ((pendingOf st3)[(pendingOf st3).size-2]'(by omega)):=Array.getElem?_eq_getElem (by omega)
      rw[hg]
      generalize (pendingOf st3)[(pendingOf st3).size-2]'(by omega)=q3 at hg
      obtain⟨a3,b3,older⟩:=q3
      dsimp only
      split
      ·exact wpS_pure ⟨rfl,S3,u3⟩
      ·refine wpS_bind (VP C S3 (by omega) fun st4 S4 _ up4=>?_)
       rw[if_neg (by decide)]
       exact wpS_pure ⟨rfl,S4,up4 _ u3⟩
     ·rw[if_neg hsz3]
      exact wpS_pure ⟨rfl,S3,u3⟩
    ·rintro⟨o,_⟩ st3 ⟨h1,S3,u3⟩
     dsimp only at h1
     subst h1
     dsimp only
     refine wpS_bind (wpS_modify (wpS_bind (wpS_modify (wpS_pure ⟨rfl, ?_,.inl (by dsimp only;omega)⟩))))
     refine PUSH (setPending st3 _) ⟨S3.kd,S3.fl,S3.pm,S3.us, ?_,S3.le,S3.lh,S3.sp⟩ u3
     show JQ R Ok (arrOf st3) 0 ((pendingOf st3).modify _ _).toList lo
     rw[Array.toList_modify]
     exact S3.rn.mod (fun _ _ _=>⟨_,rfl⟩) _
 case post =>
  rintro⟨o,lo⟩ st1 ⟨h1,S1⟩
  dsimp only at h1
  subst h1
  dsimp only
  refine wpS_bind (wpS_mono (wpS_forRange
   (I:=fun x (c:Option Unit×Unit) (st':SortSt)=>c.1=none/\RSt κ U R Ok X X.size X.size st'/\((pendingOf st').size+x<=X.size\/(pendingOf st').size<=1))
   (Q:=fun(c:Option Unit×Unit) (st':SortSt)=>c.1=none/\RSt κ U R Ok X X.size X.size st'/\(pendingOf st').size<=1) ?_ ?_ ⟨rfl,S1,.inl ?_⟩) ?_)
  ·rintro x ⟨o,_⟩ st3 _ hx ⟨rfl,S3,h3⟩
   refine wpS_bind (wpS_get ?_)
   by_cases e1:(pendingOf st3).size<=1
   ·rw[if_pos e1]
    exact wpS_pure ⟨rfl,S3,e1⟩
   ·rw[if_neg e1]
    refine wpS_bind (VP C S3 ?_ fun st4 S4 z4 _=>?_)
    ·have hp3:1<(pendingOf st3).size:=Nat.lt_of_not_le e1
     have both:∀(b:Prop) [Decidable b],(if b then (pendingOf st3).size-2-1 else (pendingOf st3).size-2)+1<(pendingOf st3).size:=fun b _=>by
      by_cases hb:b
      ·rw[if_pos hb];omega
      ·rw[if_neg hb];omega
     exact both _
    ·rw[if_neg (by decide)]
     exact wpS_pure ⟨rfl,S4,by omega⟩
  ·rintro⟨o,_⟩ st3 ⟨h1,S3,h3⟩
   have:=JQ.le S3.rn
   rw[ZqL] at this
   exact⟨h1,S3,by omega⟩
  ·have:=JQ.le S1.rn
   rw[ZqL] at this
   omega
  ·rintro⟨o,_⟩ st3 ⟨h1,S3,h3⟩
   dsimp only at h1
   subst h1
   refine wpS_pure (h st3 S3.fl S3.pm ?_)
   have rn:=S3.rn
   have hl:(pendingOf st3).toList.length<=1:=by rw[ZqL];exact h3
   match hL:(pendingOf st3).toList with
   |[] =>
    rw[hL] at rn
    have z:0=X.size:=rn
    intro i j _ hj
    omega
   |[(c,n,p)] =>
    rw[hL] at rn
    obtain⟨rfl,_,z1,z2⟩:=rn
    have z2:0+n=X.size:=z2
    rw[<- z2,Zr4];exact z1.1
   |_::_::_ =>
    rw[hL] at hl
    simp at hl
end
end L2
namespace L2
open PySem PySem.Spec PyProof.Rows
section
end
noncomputable def minus (H:Hp) (G:List Addr):Hp:=fun a=>if a∈G then none else H a
theorem ZcY {H:Hp}{G:List Addr}{a:Addr} (h:a∈G):minus H G a=none:=if_pos h
theorem ZD {H:Hp}{G:List Addr}{a:Addr} (h:a ∉ G):minus H G a=H a:=if_neg h
theorem ZdF {H:Hp}{G:List Addr}:Zy (minus H G) H:=fun a o h=>by
 unfold minus at h
 split at h
 ·cases h
 ·exact h
theorem Rd.minus {H:Hp}{G:List Addr}{a:Addr}{u:HO} (h:Rd H a u) (n:a ∉ G):Rd (minus H G) a u:=by
 rcases h with h|⟨o,h⟩
 ·exact .inl (by rw[ZD n];exact h)
 ·exact .inr ⟨o,by rw[ZD n];exact h⟩
theorem Im.minus {K:W.Frag}{H:Hp}{G:List Addr}{a:Addr}{k:HO} (hG:∀b∈G,∃vs:LvO,H b=some vs.1) (h:Im K H a k):Im K (minus H G) a k:=by
 refine⟨?_,h.2⟩
 rw[ZD fun z=>?_]
 ·exact h.1
 ·obtain⟨vs,q⟩:=hG a z
  exact UA vs.2 h.2 (by rw[h.1] at q;exact Option.some.inj q)
section
variable {K:W.Frag}{B:Addr->Prop}{H0 H H':Hp}{σ:St}{Γ:List Md}{ρ:List PV}{F:Nat->List Addr}
theorem Ag.lost {G:List Addr} (A:Ag K B H0 H σ Γ ρ F (G++[])) (s:Zy (minus H G) H'):Ag K B H0 H' σ Γ ρ F []:=by
 have hG:∀b∈G,∃vs:LvO,H b=some vs.1:=fun b hb=>A.liveR b (by simp[hb])
 refine⟨fun a o h=>s a o ?_,A.own,A.young,by simp,fun i a ha=>?_,by simp,A.disj,by simp,A.lenS,A.lenR,fun i=>?_⟩
 ·rw[ZD (fun z=>by have:=A.youngR a (by simp[z]);rw[h] at this;cases this)]
  exact A.same a o h
 ·obtain⟨vs,q⟩:=A.live i a ha
  exact⟨vs,s _ _ (by rw[ZD (fun z=>A.disjR i a ha (by simp[z]))];exact q)⟩
 ·refine(A.slot i).mono (fun a vs n r=>⟨(r.minus (fun z=>n.2.1 (by simp[z]))).same s,n.1,by simp,n.2.2⟩) (fun a vs r=>s.im (r.minus hG)) fun a ha vs q=>s _ _ (by rw[ZD (fun z=>A.disjR i a ha (by simp[z]))];exact q)
end
noncomputable def frz (m:Md):Md:=if m=.O\/m=.T then .S else m
section
variable {K:W.Frag}{B:Addr->Prop}{H0 H:Hp}{σ:St}{Γ:List Md}{ρ:List PV}{F:Nat->List Addr}{R:List Addr}
theorem Ag.freezeAll (A:Ag K B H0 H σ Γ ρ F R):Ag K B H0 H σ (Γ.map frz) ρ (fun _=>[]) R:=by
 refine⟨A.same,A.own,by simp,A.youngR,by simp,A.liveR,by simp,by simp,by simp[A.lenS],by simp[A.lenR],fun i=>?_⟩
 have sl:=A.slot i
 have e:(Γ.map frz).getD i .U=frz (Γ.getD i .U):=by
  rw[ZqF,ZqF,Zri]
  cases Γ[i]?<;>rfl
 rw[e]
 have up:∀{a},NO B F R a->NO B (fun _=>[]) R a:=fun {a} s=>⟨s.1,s.2.1,by simp⟩
 have ow:∀a∈F i,NO B (fun _=>[]) R a:=fun a ha=>⟨A.own a (A.young i a ha),A.disjR i a ha,by simp⟩
 cases hm:Γ.getD i .U with
 |U=>exact rfl
 |P=>rw[hm] at sl;exact⟨rfl,sl.2⟩
 |S =>
  rw[hm] at sl
  obtain⟨_,v,h1,h2⟩:=sl
  exact⟨rfl,v,h1,Rep.mono (fun a vs s r=>⟨r,up s⟩) (fun a vs r=>r) h2⟩
 |T =>
  rw[hm] at sl
  obtain⟨a,vs,xs,h1,h2,h3,h4,h5⟩:=sl
  refine⟨rfl,.ref a,h1, ?_⟩
  rw[h2]
  exact⟨a,vs,rfl,.inl ⟨.inl h3,ow a (by rw[h5];simp)⟩,Reps.mono (fun a vs s r=>⟨r,up s⟩) (fun a vs r=>r) h4⟩
 |O =>
  rw[hm] at sl
  obtain⟨v,h1,h2⟩:=sl
  exact⟨rfl,v,h1,h2.rep ow⟩
end
end L2
namespace HL
open PySem PyProof.Rows
section
open PySem.SeqAt
open PySem.AutoSeq1 (wpAny_loadPart')
open PySem.MeetsSeq PySem.MeetsSeq2 PySem.MeetsSeq3 SeqRoads2
end
section
end
end HL
namespace L2
open PySem PySem.Spec PyProof.Rows
section
variable {K:W.Frag}{B:Addr->Prop}{H0 H:Hp}{σ:St}{Γ:List Md}{ρ:List PV}{F:Nat->List Addr}{R:List Addr}
theorem Ag.setU {j:Nat}{o:Option V}{y:PV} (A:Ag K B H0 H σ Γ ρ F R) (h:Γ[j]?=some .U):Ag K B H0 H (σ.set j o) Γ (ρ.set j y) F R:=by
 refine⟨A.same,A.own,A.young,A.youngR,A.live,A.liveR,A.disj,A.disjR,by simp[A.lenS],by simp[A.lenR],fun i=>?_⟩
 have sl:=A.slot i
 by_cases e:i=j
 ·subst e
  have hU:Γ.getD i .U=.U:=by rw[ZqF,h];rfl
  rw[hU] at sl ⊢
  exact sl
 ·rw[ZqZ (fun z=>e z.symm),ZqF (l:=ρ.set j y),ZqZ (fun z=>e z.symm),<- ZqF]
  exact sl
end
def G0 (K:W.Frag) (B:Addr->Prop) (H0 H:Hp) (σ:St) (Γb:List Md) (ρ:List PV) (L v:Nat) (a:Addr) (vs:List V) (xs:List PV) (G Gx:List Addr):Prop:=
 Ag K B H0 H σ Γb ρ (fun _=>[]) (a::(G++Gx))/\σ[L]?=some (some (.ref a))/\gv L ρ=.lst xs/\H a=some (.lst vs)/\Trees K H xs vs G/\a ∉ G/\∃w,σ[v]?=some (some w)/\vs[0]?=some w/\xs[0]?=some (gv v ρ)
section
end
structure CkC (N:List Str) (sc scope:Scope) (x:Str):Prop where
 one:((scope.names.filter fun p=>p.2==.cell).map fun p=>p.1)=[x]
 kind:scope.kind=.function
 locs:∀p∈scope.names,p.2=.local->scope.names.lookup p.1=some .local
 var:scope.names.lookup x=some .cell
 nd:(N.map (Zlb [x])++[x]).Nodup
 noN:∀y∈N,y ∉ [x]->scope.names.lookup y≠some .local/\scope.names.lookup y≠some .cell
 noE:scope.names.lookup (Str.ofString "")=none
 fr:∀p∈scope.names,p.2=.free->sc.names.lookup p.1=some .cell\/sc.names.lookup p.1=some .free
section
end
section
open Builtin Builtin.Str
end
section
end
section
variable {κ:Type} [DecidableEq κ]
noncomputable def Zec (kvs:List (κ×V)) (k:κ):Option V:=(kvs.find? fun kv=>decide (kv.1=k)).map (·.2)
noncomputable def ZdX (kvs:List (κ×V)) (k:κ) (v:V):List (κ×V):=
 if (kvs.any fun kv=>decide (kv.1=k))=true then kvs.map (fun kv=>if kv.1=k then (kv.1,v) else kv) else kvs++[(k,v)]
theorem U0 {p:κ×V}{r:List (κ×V)}{k:κ} (e:p.1=k):Zec (p::r) k=some p.2:=by simp[Zec,ZrN,e]
theorem U1 {p:κ×V}{r:List (κ×V)}{k:κ} (e:¬p.1=k):Zec (p::r) k=Zec r k:=by simp[Zec,ZrN,e]
theorem Zcs (k:κ):∀kvs:List (κ×V),(kvs.any fun kv=>decide (kv.1=k))=(Zec kvs k).isSome
 |[]=>rfl
 |p::r=>by
  rw[ZrO]
  by_cases e:p.1=k
  ·simp only[U0 e,decide_eq_true e,Bool.true_or,Option.isSome_some]
  ·rw[U1 e,decide_eq_false e,Bool.false_or];exact Zcs k r
theorem Qg (kvs:List (κ×V)) (k:κ) (v:V):(ZdX kvs k v).length<=kvs.length+1:=by
 unfold ZdX
 split
 ·rw[ZqN];omega
 ·rw[Zra,ZqY,Zry];omega
theorem ZaB.isSome_eq {o:Option V}{u:Option Value} (r:ZaB o u):o.isSome=u.isSome:=by
 cases o with
 |none=>cases u with
  |none=>rfl
  |some _=>exact(show False from r).elim
 |some _=>cases u with
  |none=>exact(show False from r).elim
  |some _=>rfl
theorem KV.val {kvs:List (κ×V)}{vs:List (κ×Value)} (r:KV kvs vs) (k:κ):ZaB (Zec kvs k) (valueAt vs k):=by
 unfold KV at r
 induction r with
 |nil=>exact True.intro
 |@cons p q ps qs h t ih =>
  obtain⟨h1,h2⟩:=h
  by_cases e:p.1=k
  ·have e':q.1=k:=h1.symm.trans e
   have b:valueAt (q::qs) k=some q.2:=by simp[valueAt,ZrN,e']
   rw[U0 e,b];exact h2
  ·have e':¬q.1=k:=fun z=>e (h1.trans z)
   have b:valueAt (q::qs) k=valueAt qs k:=by simp[valueAt,ZrN,e']
   rw[U1 e,b];exact ih
theorem KV.any {kvs:List (κ×V)}{vs:List (κ×Value)} (r:KV kvs vs) (k:κ):(kvs.any fun kv=>decide (kv.1=k))=vs.any fun kv=>decide (kv.1=k):=by
 unfold KV at r
 induction r with
 |nil=>rfl
 |cons h t ih=>rw[ZrO,ZrO,ih,h.1]
theorem KV.repl {kvs:List (κ×V)}{vs:List (κ×Value)} (r:KV kvs vs) (k:κ) {y:V}{u:Value} (ry:Ja y u) :
  KV (kvs.map fun kv=>if kv.1=k then (kv.1,y) else kv) (vs.map fun kv=>if kv.1=k then (kv.1,u) else kv):=by
 unfold KV at r ⊢
 induction r with
 |nil=>exact .nil
 |@cons p q ps qs h t ih =>
  rw[Zrb,Zrb]
  refine .cons ?_ ih
  obtain⟨h1,h2⟩:=h
  by_cases e:p.1=k
  ·rw[if_pos e,if_pos (h1.symm.trans e)];exact⟨h1,ry⟩
  ·rw[if_neg e,if_neg (fun z=>e (h1.trans z))];exact⟨h1,h2⟩
theorem KV.put {kvs:List (κ×V)}{vs:List (κ×Value)} (r:KV kvs vs) (k:κ) {y:V}{u:Value} (ry:Ja y u):KV (ZdX kvs k y) (stored vs k u):=by
 unfold ZdX stored
 rw[r.any k]
 by_cases e:(vs.any fun kv=>decide (kv.1=k))=true
 ·rw[if_pos e,if_pos e];exact r.repl k ry
 ·rw[if_neg e,if_neg e];exact Paired.snoc r ⟨rfl,ry⟩
theorem KV.length {kvs:List (κ×V)}{vs:List (κ×Value)} (r:KV kvs vs):kvs.length=vs.length:=Paired.length r
end
theorem Zgw {P:Program}{w:World}{k:Key}{u:Value} (r:Ja (kV k) u):(Jg P w).is k u=true:=by
 cases k with
 |inl i=>obtain⟨t,e⟩:=(show ∃t,u=Value.int i t from r);subst e;exact ZbF P w i t
 |inr x=>obtain⟨t,e⟩:=(show ∃t,u=Value.str x t from r);subst e;exact ZbE P w x t
theorem Zbe {P:Program}{w:World}:∀{ks:List Key}{us:List Value},ZE (ks.map kV) us->ItemsAre (Jg P w) ks us
 |[],_,r=>by rw[ZrM] at r;cases r;exact .nil
 |k::ks,_,r=>by
  rw[Zrb] at r
  cases r with
  |cons h t=>exact .cons (Zgw h) (Zbe t)
noncomputable abbrev KT (H:Hp):List (List Key×V)->List (List Key×Addr×Value)->Prop:=Paired fun p q=>p.1=q.1/\H q.2.1=some (.tup (p.1.map kV))/\Ja p.2 q.2.2
theorem KT.val {H:Hp}{kvs:List (List Key×V)}{xs:List (List Key×Addr×Value)} (r:KT H kvs xs) (k:List Key):ZaB (Zec kvs k) ((atKey xs k).map (·.2)):=by
 induction r with
 |nil=>exact True.intro
 |@cons p q ps qs h t ih =>
  obtain⟨h1,_,h2⟩:=h
  by_cases e:p.1=k
  ·have e':q.1=k:=h1.symm.trans e
   have b:atKey (q::qs) k=some q.2:=by simp[atKey,ZrN,e']
   rw[U0 e,b];exact h2
  ·have e':¬q.1=k:=fun z=>e (h1.trans z)
   have b:atKey (q::qs) k=atKey qs k:=by simp[atKey,ZrN,e']
   rw[U1 e,b];exact ih
theorem KT.repl {H:Hp}{kvs:List (List Key×V)}{xs:List (List Key×Addr×Value)} (r:KT H kvs xs) (k:List Key) {y:V}{u:Value} (ry:Ja y u) :
  KT H (kvs.map fun kv=>if kv.1=k then (kv.1,y) else kv) (xs.map (putAt k u)):=by
 induction r with
 |nil=>exact .nil
 |@cons p q ps qs h t ih =>
  rw[Zrb,Zrb]
  refine .cons ?_ ih
  obtain⟨h1,h2,h3⟩:=h
  unfold putAt
  by_cases e:p.1=k
  ·rw[if_pos e,if_pos (h1.symm.trans e)];exact⟨h1,h2,ry⟩
  ·rw[if_neg e,if_neg (fun z=>e (h1.trans z))];exact⟨h1,h2,h3⟩
theorem KT.put {H:Hp}{kvs:List (List Key×V)}{xs:List (List Key×Addr×Value)} (r:KT H kvs xs) (k:List Key) {b:Addr}{y:V}{u:Value} (hb:H b=some (.tup (k.map kV))) (ry:Ja y u) :
  KT H (ZdX kvs k y) (storedH xs k b u):=by
 have e:(kvs.any fun kv=>decide (kv.1=k))=(atKey xs k).isSome:=by
  rw[Zcs,(r.val k).isSome_eq,Option.isSome_map]
 unfold ZdX storedH
 rw[e]
 by_cases q:(atKey xs k).isSome=true
 ·rw[if_pos q,if_pos q];exact r.repl k ry
 ·rw[if_neg q,if_neg q];exact Paired.snoc r ⟨rfl,hb,ry⟩
theorem KT.keeps {H H':Hp}{kvs:List (List Key×V)}{xs:List (List Key×Addr×Value)} (r:KT H kvs xs) (ht:∀b ys,H b=some (.tup ys)->H' b=some (.tup ys)):KT H' kvs xs:=
 Paired.mapP r fun _ _ z=>⟨z.1,ht _ _ z.2.1,z.2.2⟩
section
variable {P:Program}{w:World}{H:Hp}{h:Heap}{a:Addr}
theorem Zjn {u:HO} (ok:HOk P w H h) (e:Rd H a u):Ji P w H h a u:=e.ok ok
theorem ZgB {kvs:List (Key×V)} (ok:HOk P w H h) (e:Rd H a (.dK kvs)):kvs.length<=sizeLine/\(a==sysModules)=false/\∃vs,KV kvs vs/\h.DictOf (Jg P w) a vs:=
 show Ji P w H h a (.dK kvs) from Zjn ok e
theorem Zld {kvs:List (Key×V)} (ok:HOk P w H h) (e:H a=some (.dK kvs)):kvs.length<=sizeLine/\(a==sysModules)=false/\∃vs,KV kvs vs/\h.DictOf (Jg P w) a vs:=ZgB ok (.inl e)
theorem Zda {ks:List Key} (ok:HOk P w H h) (e:H a=some (.tup (ks.map kV))):(tupleKind (Jg P w)).is h ks a:=by
 obtain⟨_,its,r,o,h1,h2,n,h3⟩:=(show Ji P w H h a (.tup (ks.map kV)) from ok a _ e)
 exact⟨o,its.toArray,n,h1,h2,h3,by simpa using Zbe r⟩
theorem Zg6 {kvs:List (List Key×V)} (ok:HOk P w H h) (e:Rd H a (.dT kvs)):kvs.length<=sizeLine/\(a==sysModules)=false /\
  ∃xs,KT H kvs xs/\h.DictOfH (tupleKind (Jg P w)) a xs:=by
 obtain⟨z,y,xs,r,o,es,ep,h1,h2,h3,h4,h5⟩:=(show Ji P w H h a (.dT kvs) from Zjn ok e)
 refine⟨z,y,xs,r,o,es,ep,h1,h2,h3,h4,fun x hx=>?_,h5⟩
 have all:∀{l:List (List Key×V)}{m:List (List Key×Addr×Value)},KT H l m->∀x∈m,(tupleKind (Jg P w)).is h x.1 x.2.1:=by
  intro l m q
  induction q with
  |nil=>intro x hx;exact nomatch hx
  |@cons p q ps qs hq t ih =>
   intro x hx
   rcases ZqS.mp hx with e|hx
   ·subst e
    exact Zda ok (by rw[<- hq.1];exact hq.2.1)
   ·exact ih x hx
 exact all r x hx
theorem Zlc {kvs:List (List Key×V)} (ok:HOk P w H h) (e:H a=some (.dT kvs)):kvs.length<=sizeLine/\(a==sysModules)=false /\
  ∃xs,KT H kvs xs/\h.DictOfH (tupleKind (Jg P w)) a xs:=Zg6 ok (.inl e)
end
def ZiR (H:Hp) (a:Addr) (y:V) (r:Option V):Prop:=
 (∃kvs k,Rd H a (.dK kvs)/\y=kV k/\r=Zec kvs k)\/∃kvs k b,Rd H a (.dT kvs)/\y=.ref b/\H b=some (.tup (k.map kV))/\r=Zec kvs k
def ZlS (H:Hp) (a:Addr) (y v:V) (H':Hp):Prop:=
 (∃kvs k,H a=some (.dK kvs)/\y=kV k/\kvs.length<sizeLine/\H'=upd H a (.dK (ZdX kvs k v))) \/
 ∃kvs k b,H a=some (.dT kvs)/\y=.ref b/\H b=some (.tup (k.map kV))/\kvs.length<sizeLine/\H'=upd H a (.dT (ZdX kvs k v))
section
variable {X:Cx}{pins:List (Addr×Obj)}{σ:St}{H:Hp}{s:Shared}{a:Addr}{y v:V}{u r:Value}{o:Option V}{A:Around}{E:Value->Shared->Prop}
theorem Inv.big (I:Inv X pins σ H s):sysModules<s.heap.objs.size:=by
 have h:mainGlobals<s.heap.objs.size:=(I.mod.glob.keeps I.bk).lt
 exact Nat.lt_trans (by decide) h
theorem Zf4 {Q:Value->Shared->Prop} (hu:A.units+1<cLine) (I:Inv X pins σ H s) (g:ZiR H a y (some v)) (ry:Ja y u) (h:∀w' s',Inv X pins σ H s'->Ja v w'->Q w' s') :
  wpAny (model X.prog X.w) A (getItem (.ref a) u) Q E s:=by
 rcases g with ⟨kvs,k,e,ey,l⟩|⟨kvs,k,b,e,ey,eb,l⟩
 ·subst ey
  obtain⟨z,hd,vs,rel,dd⟩:=ZgB I.hok e
  obtain⟨w',hw,rw'⟩:=ZaB.some_of (v:=v) (o:=valueAt vs k) (by rw[l];exact rel.val k)
  exact wpAny_getItem_of (Zgw ry) dd.mapOf hw (h w' _ (I.tok _) rw')
 ·subst ey
  cases (show u=Value.ref b from ry)
  obtain⟨z,hd,xs,rel,dd⟩:=Zg6 I.hok e
  obtain⟨w',hw,rw'⟩:=ZaB.some_of (v:=v) (o:=(atKey xs k).map (·.2)) (by rw[l];exact rel.val k)
  obtain⟨p,hp,hp2⟩:=Option.map_eq_some_iff.mp hw
  refine wpAny_getItem_heap (tupleKind_room_in1 hu) (Zda I.hok eb) dd hp ?_
  rw[hp2]
  exact h w' _ (I.tok _) rw'
theorem Zmb {Q:Value->Shared->Prop} (hu:A.units+1<cLine) (I:Inv X pins σ H s) (g:ZiR H a y o) (ry:Ja y u) (h:∀s',Inv X pins σ H s'->Q (.bool o.isSome) s') :
  wpAny (model X.prog X.w) A (compareOp .In u (.ref a)) Q E s:=by
 rcases g with ⟨kvs,k,e,ey,l⟩|⟨kvs,k,b,e,ey,eb,l⟩
 ·subst ey
  obtain⟨z,hd,vs,rel,dd⟩:=ZgB I.hok e
  refine wpAny_in_of (Zgw ry) hd dd.mapOf ?_
  rw[<- (rel.val k).isSome_eq,<- l]
  exact h _ (I.tok _)
 ·subst ey
  cases (show u=Value.ref b from ry)
  obtain⟨z,hd,xs,rel,dd⟩:=Zg6 I.hok e
  refine wpAny_in_heap (tupleKind_room_in1 hu) (Zda I.hok eb) hd dd ?_
  have q:=(rel.val k).isSome_eq
  rw[Option.isSome_map] at q
  rw[<- q,<- l]
  exact h _ (I.tok _)
theorem Zf2 {h':Heap}{t':Nat}{ob:HO} (I:Inv X pins σ H s) (mu:Mut (H a)) (hs:Heap.SameBut a s.heap h') (he:∃q,h'.get? a=some q) (new:Ji X.prog X.w (upd H a ob) h' a ob) :
  Inv X pins σ (upd H a ob) { s with heap:=h',toks:=t' }:=
 I.write (x:=a) (e:=a) mu (.inl rfl) (fun b q hb z=>(hs.2 b hb).trans z) he new
theorem ZjU {P:Program}{w:World}{H':Hp}{h':Heap}{kvs:List (Key×V)}{vs:List (Key×Value)} (z:kvs.length<=sizeLine) (hd:(a==sysModules)=false) (rel:KV kvs vs) (dd:h'.DictOf (Jg P w) a vs) :
  Ji P w H' h' a (.dK kvs):=⟨z,hd,vs,rel,dd⟩
theorem Zf3 {H':Hp}{Q:Unit->Shared->Prop} (hu:A.units+1<cLine) (I:Inv X pins σ H s) (g:ZlS H a y v H') (ry:Ja y u) (rv:Ja v r) (h:∀s',Inv X pins σ H' s'->Q () s') :
  wpAny (model X.prog X.w) A (setItem (.ref a) u r) Q E s:=by
 rcases g with ⟨kvs,k,e,ey,l,eH⟩|⟨kvs,k,b,e,ey,eb,l,eH⟩
 ·subst ey eH
  obtain⟨z,hd,vs,rel,dd⟩:=Zld I.hok e
  have hz:vs.length<=sizeLine:=by rw[<- rel.length];exact z
  have hl:(ZdX kvs k v).length<=sizeLine:=by have:=Qg kvs k v;omega
  refine wpAny_setItem_pairs (hsz:=hz) (Zgw ry) dd fun h' dd' hs=>h _ ?_
  have he:∃q,h'.get? a=some q:=let ⟨q,_,_,hq,_⟩:=dd';⟨q,hq⟩
  exact Zf2 I (by rw[e];exact True.intro) hs he (ZjU hl hd (rel.put k rv) dd')
 ·subst ey eH
  cases (show u=Value.ref b from ry)
  obtain⟨z,hd,xs,rel,dd⟩:=Zlc I.hok e
  have hz:xs.length<=sizeLine:=by rw[<- Paired.length rel];exact z
  have hl:(ZdX kvs k v).length<=sizeLine:=by have:=Qg kvs k v;omega
  refine wpAny_setItem_heap (hsz:=hz) (tupleKind_room_in1 hu) (Zda I.hok eb) dd fun h' dd' hs=>h _ ?_
  obtain⟨q,es,ep,hq,h2,h3,h4,_,h5⟩:=dd'
  refine Zf2 I (by rw[e];exact True.intro) hs ⟨q,hq⟩ ⟨hl,hd,_,(rel.put k eb rv).keeps fun c ys ec=>?_,q,es,ep,hq,h2,h3,h4,h5⟩
  rw[Zp (Zj8 ec e (fun z=>nomatch z))]
  exact ec
end
def ZlR (i:Expr):Prop:=∀ov iv,subscripted i false ov iv=operate [ov,iv] (getItem ov iv)
theorem ZhJ {prog:Program}{w:World}{A:Around}{E:Value->Shared->Prop}{s:Shared}{env:Env}{value slice:Expr}{pos:Pos}{T id:String}{Q:Value->Shared->Prop}
  (hl:typeLookup (.type T) "__getitem__"=pure (some (.builtin id))) (hs:ZlR slice)
  (h:wpAny (model prog w) A (eval value env) (fun o s₁=>wpAny (model prog w) A (eval slice env) (fun i s₂=>s₂.TypeIs o T/\wpAny (model prog w) A (getItem o i) Q E s₂) E s₁) E s) :
  wpAny (model prog w) A (eval (.Subscript value slice pos) env) Q E s:=by
 refine Subscript_ (wpAny_mono h (fun o s₁ h₁=>wpAny_mono h₁ (fun i s₂ h₂=>?_) fun _ _ x=>x) fun _ _ x=>x)
 obtain⟨hT,h₂⟩:=h₂
 unfold subscriptTail
 refine wpAny_bind ?_
 rw[getitemInPython_of_ne hT.not_modules]
 refine wpAny_bind (wpAny_specialOf hT hl ?_)
 have fin:wpAny (model prog w) A (subscripted slice false o i) (fun r s₃=>wpAny (model prog w) A (letTemporaryGo value o r >>= fun _=>pure r) Q E s₃) E s₂:=by
  rw[hs o i]
  exact wpAny_operating (wpAny_mono h₂ (fun r s₃ h₃=>wpAny_bind (wpAny_letTemporaryGo (wpAny_pure h₃))) fun _ _ x=>x)
 first
  |exact wpAny_pure (wpAny_bind fin)
  |exact wpAny_bind (wpAny_pure (wpAny_bind fin))
  |exact wpAny_bind fin
theorem ZbZ {X:Cx}{pins:List (Addr×Obj)}{σ:St}{H:Hp}{s:Shared}{a:Addr}{y:V}{o:Option V} (I:Inv X pins σ H s) (g:ZiR H a y o):s.TypeIs (.ref a) "dict":=by
 rcases g with ⟨kvs,k,e,_,_⟩|⟨kvs,k,b,e,_,_,_⟩
 ·obtain⟨_,_,vs,_,dd⟩:=ZgB I.hok e
  exact dd.typeIs
 ·obtain⟨_,_,xs,_,dd⟩:=Zg6 I.hok e
  exact dd.typeIs
noncomputable def Zje (td ty:TE):TE:=fun σ H Q=>td σ H fun x H1=>ty σ H1 fun y H2=>∃a v,x=.ref a/\ZiR H2 a y (some v)/\Q v H2
noncomputable def Zl6 (ty td:TE):TE:=fun σ H Q=>ty σ H fun y H1=>td σ H1 fun x H2=>∃a o,x=.ref a/\ZiR H2 a y o/\Q (.bl o.isSome) H2
noncomputable def Zjl (td ty tv:TE):TS:=fun D σ H=>tv σ H fun v H1=>td σ H1 fun x H2=>ty σ H2 fun y H3=>∃a H4,x=.ref a/\ZlS H3 a y v H4/\D.nx σ H4
section
variable {X:Cx}{o i value:Expr}{pos pos':Pos}{td ty tv:TE}
theorem ZhX (hu:X.A.units+1<cLine) (ho:PE X o td) (hi:PE X i ty) (hs:ZlR i):PE X (.Subscript o i pos) (Zje td ty):=by
 intro pins s σ H Q I h
 refine ZhJ PySem.F.slot_dict_getitem.lookup hs (thn (ho pins s σ H _ I h) fun u s1 ⟨x,H1,I1,rx,q1⟩=>thn (hi pins s1 σ H1 _ I1 q1) fun iv s2 ⟨y,H2,I2,ry,a,v,ex,g,q2⟩=>?_)
 subst ex
 obtain rfl:u=Value.ref a:=rx
 exact⟨ZbZ I2 g,Zf4 hu I2 g ry fun w' s3 I3 rw'=>⟨v,H2,I3,rw',q2⟩⟩
theorem Zjy (hu:X.A.units+1<cLine) (hi:PE X i ty) (ho:PE X o td):PC X .In i o (Zl6 ty td):=by
 intro pins s σ H Q I h
 refine thn (hi pins s σ H _ I h) fun iv s1 ⟨y,H1,I1,ry,q1⟩=>thn (ho pins s1 σ H1 _ I1 q1) fun u s2 ⟨x,H2,I2,rx,a,ov,ex,g,q2⟩=>?_
 subst ex
 obtain rfl:u=Value.ref a:=rx
 exact Zmb hu I2 g ry fun s3 I3=>⟨.bl ov.isSome,H2,I3,rfl,q2⟩
theorem ZhQ (hu:X.A.units+1<cLine) (ho:PE X o td) (hi:PE X i ty) (hv:PE X value tv) (hs:swapsWith value (some (.Subscript o i pos')) pos.line X.env=pure false) :
  PS X (.Assign [.Subscript o i pos'] value pos) (Zjl td ty tv):=by
 intro pins s σ H D I h
 refine wpAny_Assign_Subscript (thn (hv pins s σ H _ I h) fun r s1 ⟨v,H1,I1,rv,q1⟩=>thn (ho pins s1 σ H1 _ I1 q1) fun u s2 ⟨x,H2,I2,rx,q2⟩=>thn (hi pins s2 σ H2 _ I2 q2) fun iv s3 ⟨y,H3,I3,ry,a,H4,ex,g,q3⟩=>?_) hs
 subst ex
 obtain rfl:u=Value.ref a:=rx
 exact Zf3 hu I3 g ry rv fun s4 I4=>⟨σ,H4,I4,q3⟩
end
theorem Zg7 {P:Program}{w:World}{H:Hp} (h:Heap) (hb:sysModules<h.objs.size):Ji P w H (h.push { cls:=.type "dict",data:=.dict #[] }) h.objs.size (.dT []):=
 ⟨Zrt _,beq_eq_false_iff_ne.mpr (Ne.symm (Zrk hb)),[],.nil,_,#[],0,Heap.get?_push_size _ rfl,⟨rfl,rfl,rfl⟩,rfl,rfl,List.nodup_nil⟩
noncomputable def Zhb:TE:=fun _ H Q=>∀p,H p=none->Q (.ref p) (upd H p (.dT []))
section
variable {X:Cx}{pos:Pos}
theorem Zge:PE X (.Dict [] [] pos) Zhb:=fun pins s σ H Q I h =>
 wpAny_Dict_empty ⟨.ref s.heap.objs.size,_,I.laid (a:=s.heap.objs.size) (o:=.dT []) (t':=s.toks) (fun _ _ q=>Heap.get?_push_of_some _ q) (ZqJ _) (Zg7 s.heap I.big),rfl,h _ (I.hok.fresh (ZqJ _))⟩
end
noncomputable def Zio:Key->PV
 |.inl i=>.int i
 |.inr x=>.str x
noncomputable def ZdK:PV->Option Key
 |.int i=>some (.inl i)
 |.str x=>some (.inr x)
 |_=>none
noncomputable def Uo:List PV->Option (List Key)
 |[]=>some []
 |x::xs=>match ZdK x,Uo xs with
  |some k,some ks=>some (k::ks)
  |_,_=>none
theorem Zat {x:PV}{k:Key} (h:ZdK x=some k):x=Zio k:=by
 cases x<;>first|(cases h;rfl)|cases h
theorem Qj:∀{xs:List PV}{ks:List Key},Uo xs=some ks->xs=ks.map Zio
 |[],ks,h=>by cases h;rfl
 |x::xs,ks,h=>by
  unfold Uo at h
  split at h
  ·rename_i k ks' h1 h2
   cases h
   rw[Zat h1,Qj h2];rfl
  ·cases h
@[simp] theorem ZiM (k:Key):ZdK (Zio k)=some k:=by cases k<;>rfl
@[simp] theorem Ua:∀ks:List Key,Uo (ks.map Zio)=some ks
 |[]=>rfl
 |k::ks=>by simp[Uo,Ua ks]
section
variable {K:W.Frag}{H:Hp}{S:Addr->Prop}
theorem Zb9 {k:Key}{v:V} (h:Rep K H S (Zio k) v):v=kV k:=by cases k<;>exact h
theorem UT:∀{ks:List Key}{vs:List V},Reps K H S (ks.map Zio) vs->vs=ks.map kV
 |[],_,h=>h
 |k::ks,_,h=>by
  obtain⟨v,r,rfl,h1,h2⟩:=h
  rw[Zb9 h1,UT h2];rfl
end
section
variable {κ:Type} [DecidableEq κ] {α:Type}
noncomputable def atK:List κ->List α->κ->Option α
 |k'::ks,x::xs,k=>if k'=k then some x else atK ks xs k
 |_,_,_=>none
noncomputable def Zd7:List κ->List α->κ->α->List α
 |k'::ks,x::xs,k,y=>(if k'=k then y else x)::Zd7 ks xs k y
 |_,_,_,_=>[]
noncomputable def ZkY (k:κ) (ks:List κ):Bool:=decide (k∈ks)
theorem ZeW {k:κ}{ks:List κ} (h:ZkY k ks=false):k ∉ ks:=of_decide_eq_false h
noncomputable def VV (ks:List κ) (k:κ):List κ:=if k∈ks then ks else ks++[k]
noncomputable def putXs (ks:List κ) (xs:List α) (k:κ) (y:α):List α:=if k∈ks then Zd7 ks xs k y else xs++[y]
theorem Zad:∀{ks:List κ}{xs:List α}{k:κ}{y:α},ks.length=xs.length->(Zd7 ks xs k y).length=ks.length
 |[],[],_,_,_=>rfl
 |k'::ks,x::xs,k,y,h=>by simp[Zd7,Zad (ks:=ks) (xs:=xs) (k:=k) (y:=y) (by simpa using h)]
 |[],_::_,_,_,h=>by simp at h
 |_::_,[],_,_,h=>by simp at h
theorem Zah {ks:List κ}{xs:List α}{k:κ}{y:α} (h:ks.length=xs.length):(VV ks k).length=(putXs ks xs k y).length:=by
 unfold VV putXs
 split
 ·rw[Zad h]
 ·simp[h]
theorem QZ:∀{ks:List κ}{vs:List V}{k:κ},ks.length=vs.length->Zec (ks.zip vs) k=atK ks vs k
 |[],[],_,_=>rfl
 |k'::ks,v::vs,k,h=>by
  rw[ZrG]
  unfold atK
  by_cases e:k'=k
  ·rw[U0 e,if_pos e]
  ·rw[U1 e,if_neg e,QZ (by simpa using h)]
 |[],_::_,_,h=>by simp at h
 |_::_,[],_,h=>by simp at h
theorem Zcj:∀{ks:List κ}{vs:List V}{k:κ},ks.length=vs.length->(((ks.zip vs).any fun kv=>decide (kv.1=k))=true ↔ k∈ks)
 |[],[],_,_=>by simp
 |k'::ks,v::vs,k,h=>by
  rw[ZrG,ZrO,Bool.or_eq_true,Zcj (by simpa using h),ZqS,decide_eq_true_eq]
  exact⟨fun z=>z.imp Eq.symm id,fun z=>z.imp Eq.symm id⟩
 |[],_::_,_,h=>by simp at h
 |_::_,[],_,h=>by simp at h
theorem Zer:∀{ks:List κ}{vs:List V}{k:κ}{y:V},ks.length=vs.length->((ks.zip vs).map fun kv=>if kv.1=k then (kv.1,y) else kv)=ks.zip (Zd7 ks vs k y)
 |[],[],_,_,_=>rfl
 |k'::ks,v::vs,k,y,h=>by
  rw[ZrG,Zrb,Zer (by simpa using h)]
  show _=(k'::ks).zip ((if k'=k then y else v)::Zd7 ks vs k y)
  by_cases e:k'=k
  ·rw[if_pos e,if_pos e];rfl
  ·rw[if_neg e,if_neg e];rfl
 |[],_::_,_,_,h=>by simp at h
 |_::_,[],_,_,h=>by simp at h
theorem ZcA {ks:List κ}{vs:List V}{k:κ}{y:V} (h:ks.length=vs.length):ZdX (ks.zip vs) k y=(VV ks k).zip (putXs ks vs k y):=by
 unfold ZdX VV putXs
 by_cases c:k∈ks
 ·rw[if_pos ((Zcj h).mpr c),if_pos c,if_pos c,Zer h]
 ·rw[if_neg (fun z=>c ((Zcj h).mp z)),if_neg c,if_neg c,List.zip_append h];rfl
end
section
variable {κ:Type} [DecidableEq κ] {K:W.Frag}{H:Hp}{S:Addr->Prop}
theorem Zc5:∀{ks:List κ}{xs:List PV}{vs:List V}{k:κ},Reps K H S xs vs->match atK ks xs k with
  |some y=>∃v,atK ks vs k=some v/\Rep K H S y v
  |none=>atK ks vs k=none
 |[],xs,vs,k,h=>by simp[atK]
 |k'::ks,[],vs,k,h=>by rw[h];simp[atK]
 |k'::ks,x::xs,vs,k,h=>by
  obtain⟨v,r,rfl,h1,h2⟩:=h
  unfold atK
  by_cases e:k'=k
  ·rw[if_pos e,if_pos e];exact⟨v,rfl,h1⟩
  ·rw[if_neg e,if_neg e];exact Zc5 h2
theorem QF:∀{ks:List κ}{xs:List PV}{vs:List V}{G:List Addr}{k:κ}{y:PV}{w:V},ks.length=xs.length->Trees K H xs vs G->ZT K H y w []->∃G',(∀a∈G',a∈G)/\Trees K H (Zd7 ks xs k y) (Zd7 ks vs k w) G'
 |[],[],vs,G,k,y,w,_,h,_=>⟨[],by simp,by rw[h.1];exact⟨rfl,rfl⟩⟩
 |k'::ks,x::xs,vs,G,k,y,w,hl,h,hy=>by
  obtain⟨v,r,G1,G2,rfl,h1,h2,h3,rfl⟩:=h
  obtain⟨G',g1,g2⟩:=QF (ks:=ks) (k:=k) (y:=y) (w:=w) (by simpa using hl) h2 hy
  unfold Zd7
  by_cases e:k'=k
  ·rw[if_pos e,if_pos e]
   exact⟨G',fun a ha=>ZqO _ (g1 a ha),w,_,[],G',rfl,hy,g2,by simp,rfl⟩
  ·rw[if_neg e,if_neg e]
   refine⟨G1++G',fun a ha=>?_,v,_,G1,G',rfl,h1,g2,fun a ha z=>h3 a ha (g1 a z),rfl⟩
   rcases ZqK.mp ha with z|z
   ·exact ZqM _ z
   ·exact ZqO _ (g1 a z)
 |[],_::_,_,_,_,_,_,hl,_,_=>by simp at hl
 |_::_,[],_,_,_,_,_,hl,_,_=>by simp at hl
theorem ZT.flatG {x:PV}{v:V}{G:List Addr} (f:x.flat=true) (h:ZT K H x v G):ZT K H x v []:=Rep.tree f (h.rep (S:=fun _=>True) fun _ _=>trivial)
end
section
variable {K:W.Frag}{B:Addr->Prop}{EX:PX->Hp->Prop}{H0 H H':Hp}{σ:St}{Γ Γ' Γ1 Γ2 Γ3:List Md}{ρ:List PV}{F F':Nat->List Addr}{R:List Addr}{ta tb:TE}{f fa fb:List PV->Rr PV}{k:Kd}
theorem Res.newBox {H1:Hp}{F1:Nat->List Addr}{s:Sh}{xs:List PV}{vs:List V}{u:HO}{p:Addr}{S:Addr->Prop} (s1:Zy H H1) (f1:∀i,∀a∈F1 i,a∈F i) (hb:ZiT K s vs u) (p1:Reps K H1 S xs vs) (hx:PV.flats xs=true) (A1:Ag K B H0 H1 σ Γ' ρ F1 R) (hp:H1 p=none) :
  Res K B H0 H σ Γ' ρ F R .F (.box none s xs) (.ref p) (upd H1 p u):=by
 have e:Zy H1 (upd H1 p u):=Zy.new hp
 refine⟨F1,f1,[p],⟨p,vs,u,[],rfl,Zv,⟨trivial,hb⟩,(Reps.trees hx p1).same e,by simp,rfl⟩,fun a ha=>?_,A1.newB hb.lv hp⟩
 rw[Zrg.mp ha]
 exact⟨(A1.fresh hp).1,.inl (s1.free hp)⟩
theorem ZgH:DE K EX Γ Γ .F Zhb (fun _=>.ok (.box none (.dt []) [])):=fun B H0 H σ ρ F R Q A d p hp =>
 d _ _ (Zy.new hp) (Res.newBox (S:=fun _=>True) (vs:=[]) (Zy.refl _) (fun _ _ h=>h) ⟨rfl,rfl⟩ rfl rfl A hp)
noncomputable def dAt (x y:PV):Option (Option PV):=match x,y with
 |.box _ (.dk ks) xs,y=>(ZdK y).map fun k=>atK ks xs k
 |.box _ (.dt ks) xs,.tup ys=>(Uo ys).map fun k=>atK ks xs k
 |_,_=>none
noncomputable def Zk0 (g:Bool->Bool) (y x:PV):Rr PV:=match dAt x y with
 |some o=>.ok (.bl (g o.isSome))
 |none=>.bad
noncomputable def Zgk (x y:PV):Rr PV:=match dAt x y with
 |some (some z)=>.ok z
 |_=>.bad
theorem Zf5 {x y:PV}{v w:V}{o:Option PV}{S:Addr->Prop} (hx:Rep K H S x v) (hy:Rep K H (fun _=>True) y w) (e:dAt x y=some o) :
  ∃a r,v=.ref a/\ZiR H a w r/\r.isSome=o.isSome/\∀z,o=some z->∃u,r=some u/\Rep K H S z u:=by
 have fin:∀{κ:Type} [DecidableEq κ] {ks:List κ}{xs:List PV}{vs:List V}{k:κ},Reps K H S xs vs->o=atK ks xs k->(atK ks vs k).isSome=o.isSome/\∀z,o=some z->∃u,atK ks vs k=some u/\Rep K H S z u:=fun {κ} _ {ks xs vs k} h e=>by
  have:=Zc5 (ks:=ks) (k:=k) h
  rw[<- e] at this
  cases o with
  |none=>exact⟨by rw[this];rfl,fun z q=>by cases q⟩
  |some z =>
   obtain⟨u,e1,e2⟩:=this
   exact⟨by rw[e1];rfl,fun z' q=>by cases q;exact⟨u,e1,e2⟩⟩
 unfold dAt at e
 split at e
 ·rename_i p ks xs
  obtain⟨a,vs,u,rfl,hr,⟨_,hl,rfl⟩,hxs⟩:=hx
  cases ek:ZdK y with
  |none=>rw[ek] at e;cases e
  |some k =>
   rw[ek] at e
   cases e
   rw[Zat ek] at hy
   obtain⟨g1,g2⟩:=fin (ks:=ks) (k:=k) hxs rfl
   exact⟨a,atK ks vs k,rfl,.inl ⟨_,k,hr.1,Zb9 hy,(QZ hl).symm⟩,g1,g2⟩
 ·rename_i p ks xs ys
  obtain⟨a,vs,u,rfl,hr,⟨_,hl,rfl⟩,hxs⟩:=hx
  cases ek:Uo ys with
  |none=>rw[ek] at e;cases e
  |some k =>
   rw[ek] at e
   cases e
   rw[Qj ek] at hy
   obtain⟨b,ws,rfl,hb,hws⟩:=hy
   rw[UT hws] at hb
   obtain⟨g1,g2⟩:=fin (ks:=ks) (k:=k) hxs rfl
   exact⟨a,atK ks vs k,rfl,.inr ⟨_,k,b,hr.1,rfl,hb.1,(QZ hl).symm⟩,g1,g2⟩
 ·cases e
theorem ZjZ (ha:DE K EX Γ Γ1 .A ta fa) (hb:DE K EX Γ1 Γ2 .A tb fb):DE K EX Γ Γ2 .P (Zl6 ta tb) (fun ρ=>(fa ρ).bind fun y=>(fb ρ).bind fun x=>Zk0 id y x):=fun B H0 H σ ρ F R Q A d=>by
 refine two ha hb A d.bind2 fun y x w v H' F' d s f py px A'=>?_
 unfold Zk0 at d
 cases e:dAt x y with
 |none=>rw[e] at d;exact d.elim
 |some o =>
  rw[e] at d
  obtain⟨a,r,rfl,g1,g2,_⟩:=Zf5 px py e
  exact⟨a,r,rfl,g1,by rw[g2];exact d _ _ s ⟨F',f,rfl,rfl,A'⟩⟩
theorem Zi6 (ha:DE K EX Γ Γ1 .A ta fa) (hb:DE K EX Γ1 Γ2 .A tb fb):DE K EX Γ Γ2 .A (Zje ta tb) (fun ρ=>(fa ρ).bind fun x=>(fb ρ).bind fun y=>Zgk x y):=fun B H0 H σ ρ F R Q A d=>by
 refine two ha hb A d.bind2 fun x y v w H' F' d s f px py A'=>?_
 unfold Zgk at d
 cases e:dAt x y with
 |none=>rw[e] at d;exact d.elim
 |some o =>
  rw[e] at d
  cases o with
  |none=>exact d.elim
  |some z =>
   obtain⟨a,r,rfl,g1,_,g3⟩:=Zf5 px py e
   obtain⟨u,rfl,hu⟩:=g3 z rfl
   exact⟨a,u,rfl,g1,d _ _ s ⟨F',f,hu,A'⟩⟩
noncomputable def ZeL (x y z:PV):Rr PV:=match x,y with
 |.box p (.dk ks) xs,y=>match ZdK y with
  |some k=>if xs.length<1000000/\(ZkY k ks=false\/z.flat=true) then .ok (.box p (.dk (VV ks k)) (putXs ks xs k z)) else .bad
  |none=>.bad
 |.box p (.dt ks) xs,.tup ys=>match Uo ys with
  |some k=>if xs.length<1000000/\(ZkY k ks=false\/z.flat=true) then .ok (.box p (.dt (VV ks k)) (putXs ks xs k z)) else .bad
  |none=>.bad
 |_,_=>.bad
theorem ZaG {κ:Type} [DecidableEq κ] {ks:List κ}{xs:List PV}{vs:List V}{k:κ}{y:PV}{w:V}{G G2:List Addr} (hl:ks.length=xs.length) (h:Trees K H xs vs G) (hy:ZT K H y w G2) (hd:∀a∈G,a ∉ G2) (hk:k∈ks->y.flat=true) :
  ∃G',(∀a∈G',a∈G\/a∈G2)/\Trees K H (putXs ks xs k y) (putXs ks vs k w) G':=by
 unfold putXs
 by_cases c:k∈ks
 ·rw[if_pos c,if_pos c]
  obtain⟨G',g1,g2⟩:=QF (k:=k) hl h (hy.flatG (hk c))
  exact⟨G',fun a ha=>.inl (g1 a ha),g2⟩
 ·rw[if_neg c,if_neg c]
  exact⟨G++G2,fun a ha=>ZqK.mp ha,Trees.append h (Trees.one hy) hd⟩
theorem Zg9 {i:Nat}{tv:TE}{fv:List PV->Rr PV} (hm:Γ1[i]?=some .O) (hv:DE K EX Γ Γ1 .F tv fv) (hk:DE K EX Γ1 Γ1 .A tb fb) :
  DS K EX Γ ⟨Γ1,Γ2,Γ3,k⟩ (Zjl (UP i) tb tv) (fun ρ=>(fv ρ).thenS fun z=>(fb ρ).thenS fun y=>(ZeL (gv i ρ) y z).thenS fun x=>.next (ρ.set i x)):=fun B H0 H σ ρ F D A d=>by
 refine hv B H0 H σ ρ F [] _ A (d.thenS.imp (fun z _ d w H1 s1 r1=>?_) fun e q=>q)
 obtain⟨F1,f1,G2,t1,o1,A1⟩:=r1
 obtain⟨v,h1,h2⟩:=A1.getO hm
 refine⟨v,h1,hk B H0 H1 σ ρ F1 (G2++[]) _ A1 (d.thenS.imp (fun y _ d yv H2 s2 r2=>?_) fun e q=>q)⟩
 obtain⟨F2,f2,p2,A2⟩:=r2
 obtain⟨v',h1',h2'⟩:=A2.getO hm
 rw[h1] at h1';cases h1'
 have d:=d.thenS
 have t2:=t1.same s2
 have core:∀{p:Option Addr}{s s':Sh}{xs xs':List PV}{a:Addr}{vs vs':List V}{u u':HO}{G G':List Addr},ρ.getD i .non=.box p s xs->H2 a=some u->Zk6 p a->Trees K H2 xs vs G->a ∉ G->F2 i=a::G->ZiT K s' vs' u'->Trees K H2 xs' vs' G'->(∀b∈G',b∈G\/b∈G2) ->
   σ[i]?=some (some (.ref a))->DnS K B EX ⟨Γ1,Γ2,Γ3,k⟩ H0 H F D (.next (ρ.set i (.box p s' xs')))->D.nx σ (upd H2 a u'):=fun {p s s' xs xs' a vs vs' u u' G G'} er hH hpn ht hn hF hb ht' hsub hσ d=>by
  have haF:a∈F2 i:=by rw[hF];simp
  have na2:a ∉ G2:=fun z=>A2.disjR i a haF (ZqM _ z)
  have hna:a ∉ G':=fun z=>(hsub a z).elim hn na2
  have hsub2:∀b∈a::G',b∈F2 i\/b∈G2:=fun b hb=>by
   rcases ZqS.mp hb with rfl|hb
   ·exact .inl haF
   ·rcases hsub b hb with z|z
    ·exact .inl (by rw[hF];simp[z])
    ·exact .inr z
  obtain⟨lv,hlv⟩:=A2.live i a haF
  refine d σ _ (JT F2 i (a::G')) (Qq (s1.trans s2) (fun j b hb=>f1 j b (f2 j b hb)) haF fun b hb=>?_) (Ag.chgB hb.lv (G:=G2) (R:=[]) A2 hm haF hsub2 (by simp) ?_)
  ·rcases hsub2 b hb with z|z
   ·exact .inr ⟨i,f1 i b (f2 i b z)⟩
   ·exact(o1 b z).2
  ·exact⟨_,hσ,a,vs',u',G',rfl,Zv,⟨hpn,hb⟩,Trees.putL hlv hna ht',hna,rfl⟩
 unfold ZeL at d
 split at d
 ·rename_i p ks xs er _ _
  rw[show ρ.getD i .non=.box p (.dk ks) xs from er] at h2'
  obtain⟨a,vs,u,G,rfl,hH,⟨hpn,hl,rfl⟩,ht,hn,hF⟩:=h2'
  split at d
  ·rename_i kk ek
   split at d
   ·rename_i hc
    rw[Zat ek] at p2
    have hl':ks.length=xs.length:=by rw[hl,ht.length]
    have dj:∀b∈G,b ∉ G2:=fun b hb z=>A2.disjR i b (by rw[hF];simp[hb]) (ZqM _ z)
    obtain⟨G',g1,g2⟩:=ZaG (k:=kk) hl' ht t2 dj (fun c=>hc.2.resolve_left (fun z=>ZeW z c))
    refine⟨a,_,rfl,.inl ⟨_,kk,hH,Zb9 p2, ?_,rfl⟩,core er hH hpn ht hn hF (s':=.dk (VV ks kk)) (vs':=putXs ks vs kk w) ⟨Zah hl, ?_⟩ g2 g1 h1 d⟩
    ·rw[Zsy,hl,Nat.min_self,ht.length];exact ZqU hc.1 (by decide)
    ·rw[ZcA hl]
   ·exact d.elim
  ·exact d.elim
 ·rename_i p ks xs ys er _ _
  rw[show ρ.getD i .non=.box p (.dt ks) xs from er] at h2'
  obtain⟨a,vs,u,G,rfl,hH,⟨hpn,hl,rfl⟩,ht,hn,hF⟩:=h2'
  split at d
  ·rename_i kk ek
   split at d
   ·rename_i hc
    rw[Qj ek] at p2
    obtain⟨b,ws,rfl,hb,hws⟩:=p2
    rw[UT hws] at hb
    have hl':ks.length=xs.length:=by rw[hl,ht.length]
    have dj:∀b∈G,b ∉ G2:=fun b hb z=>A2.disjR i b (by rw[hF];simp[hb]) (ZqM _ z)
    obtain⟨G',g1,g2⟩:=ZaG (k:=kk) hl' ht t2 dj (fun c=>hc.2.resolve_left (fun z=>ZeW z c))
    refine⟨a,_,rfl,.inr ⟨_,kk,b,hH,rfl,hb.1, ?_,rfl⟩,core er hH hpn ht hn hF (s':=.dt (VV ks kk)) (vs':=putXs ks vs kk w) ⟨Zah hl, ?_⟩ g2 g1 h1 d⟩
    ·rw[Zsy,hl,Nat.min_self,ht.length];exact ZqU hc.1 (by decide)
    ·rw[ZcA hl]
   ·exact d.elim
  ·exact d.elim
 ·exact d.elim
end
section
variable {X:Cx}{K:W.Frag}
def Zhe (K:W.Frag):List V->Hp->VK->Prop:=fun xs H Q=>∃p ys,xs=[.ref p]/\((SqL K H p ys/\∀l,H l=none->Q (.ref l) (upd H l (.tup ys)))\/(SqT K H p ys/\Q (.ref p) H))
theorem Zcd (e:X.K=K:=by rfl):JP X (.type "tuple") (Zhe K):=by subst e;exact Za6
theorem ZfD:bootBuiltins "tuple"=some (.type "tuple"):=by decide +kernel
variable {B:Addr->Prop}{EX:PX->Hp->Prop}{H0 H:Hp}{σ:St}{Γ Γ':List Md}{ρ:List PV}{F:Nat->List Addr}{R:List Addr}{ta:TA}{fa:List PV->Rr (List PV)}
noncomputable def Ze9 (xs:List PV):Rr PV:=match xs with
 |[.lst ys]=>.ok (.tup ys)
 |[.tup ys]=>.ok (.tup ys)
 |_=>.bad
theorem ZgC (ha:DAA K EX Γ Γ' ta fa):DE K EX Γ Γ' .A (tCB (Zhe K) ta) (fun ρ=>(fa ρ).bind Ze9):=fun B H0 H σ ρ F R Q A d=>by
 refine ha B H0 H σ ρ F R _ A (d.bind.imp (fun xs _ d vs H1 F1 s1 f1 p1 A1=>?_) fun e q=>q)
 unfold Ze9 at d
 split at d
 ·obtain⟨v,rfl,a,ws,rfl,hn,hr⟩:=UV p1
  refine⟨a,ws,rfl,.inl ⟨JA (S:=fun _=>True) hn,fun l hl=>?_⟩⟩
  have e:=Zy.new (H:=H1) (o:=.tup ws) hl
  exact d _ _ (s1.trans e) ⟨F1,f1,⟨l,ws,rfl,⟨Zv,trivial⟩,hr.same e⟩,A1.grow e⟩
 ·obtain⟨v,rfl,a,ws,rfl,hn,hr⟩:=UV p1
  exact⟨a,ws,rfl,.inr ⟨hn.sqT,d _ _ s1 ⟨F1,f1,⟨a,ws,rfl,hn,hr⟩,A1⟩⟩⟩
 ·exact d.elim
end
noncomputable def ins {α:Type}:Nat->α->List α->List α
 |0,v,us=>v::us
 |_+1,v,[]=>[v]
 |j+1,v,u::us=>u::ins j v us
theorem JW {α:Type}:∀{j:Nat}{v:α}{us:List α},(ins j v us).length=us.length+1
 |0,_,_=>rfl
 |_+1,_,[]=>rfl
 |j+1,v,u::us=>by simp[ins,JW (j:=j) (v:=v) (us:=us)]
theorem VI {α:Type}:∀{j:Nat}{v:α}{us:List α} (i:Nat),j<=us.length->(ins j v us)[i]?=if i<j then us[i]? else if i=j then some v else us[i-1]?
 |0,v,us,0,_=>rfl
 |0,v,us,i+1,_=>by simp[ins]
 |j+1,v,[],_,h=>by simp at h
 |j+1,v,u::us,0,_=>rfl
 |j+1,v,u::us,i+1,h=>by
  have:=VI (j:=j) (v:=v) (us:=us) i (by simpa using h)
  rw[ins,List.getElem?_cons_succ,this]
  by_cases c:i<j
  ·rw[if_pos c,if_pos (show i+1<j+1 by omega)];rfl
  ·by_cases e:i=j
   ·rw[if_neg c,if_pos e,if_neg (show ¬i+1<j+1 by omega),if_pos (show i+1=j+1 by omega)]
   ·rw[if_neg c,if_neg e,if_neg (show ¬i+1<j+1 by omega),if_neg (show ¬i+1=j+1 by omega)]
    obtain⟨m,rfl⟩:∃m,i=m+1:=⟨i-1,by omega⟩
    rfl
theorem Zbh {α β:Type}{f:α->β}:∀{j:Nat}{v:α}{us:List α},(ins j v us).map f=ins j (f v) (us.map f)
 |0,_,_=>rfl
 |_+1,_,[]=>rfl
 |j+1,v,u::us=>by simp[ins,Zbh (j:=j) (v:=v) (us:=us)]
theorem Zbi {α:Type}{r:List α}:∀{j:Nat}{v:α}{us:List α},j<=us.length->ins j v us++r=ins j v (us++r)
 |0,_,_,_=>rfl
 |_+1,_,[],h=>by simp at h
 |j+1,v,u::us,h=>by
  show u::(ins j v us++r)=u::ins j v (us++r)
  rw[Zbi (by simpa using h)]
section
variable {K:W.Frag}{H:Hp}
theorem ZT.pin {p:Option Addr}{s:Sh}{ys:List PV}{a:Addr}{G:List Addr} (h:ZT K H (.box p s ys) (.ref a) G):ZT K H (.box (some a) s ys) (.ref a) G:=by
 obtain⟨a',vs,u,G',e,h1,h2,h3⟩:=h
 cases e
 exact⟨a,vs,u,G',rfl,h1,⟨rfl,h2.2⟩,h3⟩
theorem ZT.unpin {p:Option Addr}{s:Sh}{ys:List PV}{v:V}{G:List Addr} (h:ZT K H (.box p s ys) v G):ZT K H (.box none s ys) v G:=by
 obtain⟨a',vs,u,G',e,h1,h2,h3⟩:=h
 exact⟨a',vs,u,G',e,h1,⟨trivial,h2.2⟩,h3⟩
theorem ZT.repin {p:Option Addr}{s:Sh}{ys:List PV}{a:Addr}{G:List Addr} (hp:Zk6 p a) (h:ZT K H (.box none s ys) (.ref a) G):ZT K H (.box p s ys) (.ref a) G:=by
 obtain⟨a',vs,u,G',e,h1,h2,h3⟩:=h
 cases e
 exact⟨a,vs,u,G',rfl,h1,⟨hp,h2.2⟩,h3⟩
theorem ZT.pinned {b:Addr}{s:Sh}{ys:List PV}{v:V}{G:List Addr} (h:ZT K H (.box (some b) s ys) v G):v=.ref b:=by
 obtain⟨a',vs,u,G',e,h1,h2,h3⟩:=h
 rw[e,show a'=b from h2.1]
end
noncomputable def spM (K:W.Frag) (n j:Nat) (m:PV->List PV->Rr PV):Sp:=fun vs H Q E=>∃(B:Addr->Prop) (xs:List PV) (us:List V) (a:Addr) (s:Sh) (ys:List PV) (G:List Addr),
 vs=ins j (.ref a) us/\xs.length=n/\Reps K H B xs us/\ZT K H (.box none s ys) (.ref a) G/\(∀b,B b->b ∉ G) /\
 Dn (m (.box none s ys) xs) (fun r=>∃y s' ys',r=.tup [y,.box none s' ys']/\∀u H' G1 G2,Zy (minus H G) H'->ZT K H' y u G1->ZT K H' (.box none s' ys') (.ref a) G2->(∀b∈G1,b ∉ G2)->(∀b∈G1,minus H G b=none)->(∀b∈G2,minus H G b=none)->Q u H') (fun _=>False)
noncomputable def Zhg (a:Addr) (b:PV):PV:=match b with
 |.box _ s ys=>.box (some a) s ys
 |x=>x
noncomputable def ZkP (a:Addr) (r:Rr PV):Rr PV:=match r with
 |.ok (.tup [y,.box _ s ys])=>.ok (.tup [y,.box (some a) s ys])
 |.ok _=>.bad
 |.exc e=>.exc e
 |.bad=>.bad
noncomputable def RS.outN (j:Nat) (r:RS):Rr PV:=match r with
 |.next ρ=>.ok (.tup [.non,gv j ρ])
 |.ret x=>.ok x
 |.exc e=>.exc e
 |_=>.bad
section
variable {K:W.Frag}{B:Addr->Prop}{EX:PX->Hp->Prop}{H0 H:Hp}{σ:St}{Γ Γ' Γ1 Γ2 Γ3:List Md}{ρ:List PV}{F:Nat->List Addr}
theorem Ag.initM {s:Sh}{ys:List PV}{a:Addr}{G:List Addr}{xs:List PV}{us:List V}{j l:Nat} (ht:ZT K H (.box none s ys) (.ref a) G) (h:Reps K H B xs us) (hB:∀b,B b->b ∉ G) (hj:j<=xs.length) :
  Ag K (fun b=>B b\/minus H G b=none) (minus H G) H (ins j (some (.ref a)) (us.map some++List.replicate l none)) (ins j .O (List.replicate xs.length .S++List.replicate l .U)) (ins j (.box (some a) s ys) (xs++List.replicate l .non)) (JT (fun _=>[]) j G) []:=by
 have fin:∀i,∀b∈JT (fun _=>[]) j G i,i=j/\b∈G:=fun i b hb=>by
  unfold JT at hb
  split at hb
  ·exact⟨by assumption,hb⟩
  ·simp at hb
 have A:=Ag.init (n:=l) h
 refine⟨ZdF,fun b h=>.inr h,fun i b hb=>ZcY (fin i b hb).2,by simp,fun i b hb=>ht.alive b (fin i b hb).2,by simp,fun i k hik b hb z=>hik ((fin i b hb).1.trans (fin k b z).1.symm),by simp,by simp[JW,h.length],by simp[JW],fun i=>?_⟩
 have hjs:j<=(us.map some++List.replicate l (none:Option V)).length:=by simp[h.length];omega
 have hjg:j<=(List.replicate xs.length Md.S++List.replicate l Md.U).length:=by simp;omega
 have hjr:j<=(xs++List.replicate l PV.non).length:=by simp;omega
 rw[ZqF,ZqF,VI i hjs,VI i hjg,VI i hjr]
 have go:∀q,q≠j\/True->Vu K H (NO (fun b=>B b\/minus H G b=none) (JT (fun _=>[]) j G) []) ((List.replicate xs.length Md.S++List.replicate l Md.U)[q]?.getD .U) ((xs++List.replicate l PV.non)[q]?.getD .non) (us.map some++List.replicate l none)[q]? []:=fun q _=>by
  have sl:=A.slot q
  rw[ZqF,ZqF] at sl
  refine sl.mono (fun b u s r=>⟨r, ?_,by simp,fun k z=>?_⟩) (fun b u r=>r) (fun b hb=>by cases hb)
  ·rcases s.1 with s|s
   ·exact .inl s
   ·exact .inr (by
     by_cases q:b∈G
     ·exact ZcY q
     ·rw[ZD q];exact s)
  ·have z:=(fin k b z).2
   rcases s.1 with s|s
   ·exact hB b s z
   ·obtain⟨vs,q⟩:=ht.alive b z
    rw[s] at q;cases q
 by_cases c:i<j
 ·rw[if_pos c,if_pos c,if_pos c,Zt (by omega)]
  exact go i (.inr trivial)
 ·rw[if_neg c,if_neg c,if_neg c]
  by_cases e:i=j
  ·rw[if_pos e,if_pos e,if_pos e]
   subst e
   rw[Zo]
   exact⟨_,rfl,ht.pin⟩
  ·rw[if_neg e,if_neg e,if_neg e,Zt e]
   exact go (i-1) (.inr trivial)
noncomputable def ZlC (y x:PV):RS:=match x with
 |.box (some a) s xs=>.ret (.tup [y,.box (some a) s xs])
 |_=>.bad
theorem Zfu {j:Nat}{te:TE}{f:List PV->Rr PV} (he:DE K EX Γ Γ' .F te f) (hm:Γ'[j]?=some .O):DS K EX Γ ⟨Γ3,Γ1,Γ2,.N⟩ (ZiY te) (fun ρ=>(f ρ).thenS fun y=>ZlC y (gv j ρ)):=fun B H0 H σ ρ F D A d=>by
 refine he B H0 H σ ρ F [] _ A (d.thenS.imp (fun y _ d v H1 s1 r1=>?_) fun e q=>q)
 obtain⟨F1,f1,G,h1,h2,A1⟩:=r1
 unfold ZlC at d
 split at d
 ·rename_i a s xs ex
  obtain⟨w,w1,w2⟩:=A1.getO hm
  rw[show ρ.getD j .non=.box (some a) s xs from ex] at w2
  have:=w2.pinned
  subst this
  exact d v H1 A1.same ⟨y,a,s,xs,G,F1 j,rfl,h1,w2,fun b hb z=>A1.disjR j b z (ZqM _ hb),fun b hb=>A1.youngR b (ZqM _ hb),fun b hb=>A1.young j b hb⟩
 ·exact d.elim
end
section
variable {P:Program}{w:World}{K:W.Frag}{mg:Str->Option Value}{base:Heap}
theorem Fun.okM {x qual:Str}{st:Stmt}{f:Addr}{fd:FuncData}{N ps:List Str}{k n l j:Nat}{m:PV->List PV->Rr PV} (F:Fun K x qual st f fd) (S:Zx N ps (Ze st)) (hn:ps.length=n+1) (hl:N.length-(n+1)=l) (hj:j<=n)
  (hbody:∀(cdv:Value) (A:Around) (outer:List Env) (s:Shared) (H:Hp) (E:XK),Vv k (A.deeper (envOfC qual (Ze st) s.heap.objs.size f cdv)) ->
   ∃t g Y,Y.r=.N/\Y.n[j]?=some .O/\PSs (Zbo CX0 P w K mg base N qual (Ze st) f cdv A outer s H E).nox (Zq st) t/\DS K X0 (ins j .O (List.replicate n .S++List.replicate l .U)) Y t g /\
    ∀a b xs,Ref (ZkP a (m b xs)) ((g (ins j (Zhg a b) (xs++List.replicate l .non))).outN j)) :
  J0 P w K mg base CX0 (k+1) f fd ps (spM K n j m):=by
 refine F.ok S (fun vs H Q E h=>?_) (fun cdv A outer s H vs Q E hr h=>?_)
 ·obtain⟨B,xs,us,a,s,ys,G,rfl,h1,h2,_⟩:=h
  rw[JW,h2.length,h1,hn]
 ·obtain⟨B,xs,us,a,s',ys,G,rfl,h1,h2,h3,h4,dn⟩:=h
  obtain⟨t,g,Y,hY,hYn,ht,hd,href⟩:=hbody cdv A outer s H E hr
  refine⟨t,ht, ?_⟩
  have A0:=Ag.initM (l:=l) h3 h2 h4 (show j<=xs.length by omega)
  have est:V9 N (ins j (.ref a) us)=ins j (some (.ref a)) (us.map some++List.replicate l none):=by
   unfold V9
   rw[JW,h2.length,h1,hl,Zbh,Zbi (by rw[ZqN,h2.length];omega)]
  rw[est]
  rw[h1] at A0
  refine hd _ (minus H G) H _ _ _ _ A0 ?_
  have hr:=href a (.box none s' ys) xs
  rw[show Zhg a (.box none s' ys)=.box (some a) s' ys from rfl] at hr
  cases em:m (.box none s' ys) xs with
  |bad=>rw[em] at dn;exact dn.elim
  |exc q=>rw[em] at dn;exact dn.elim
  |ok r =>
   rw[em] at dn hr
   obtain⟨y,s2,ys2,rfl,q⟩:=dn
   have ho:(g (ins j (.box (some a) s' ys) (xs++List.replicate l .non))).outN j=.ok (.tup [y,.box (some a) s2 ys2]):=by
    rcases hr with e|e
    ·cases e
    ·exact e.symm
   cases e:g (ins j (.box (some a) s' ys) (xs++List.replicate l .non)) with
   |next ρ =>
    rw[e] at ho
    have hy:PV.tup [.non,gv j ρ]=.tup [y,.box (some a) s2 ys2]:=by simpa[RS.outN] using ho
    simp only[PV.tup.injEq,List.cons.injEq,and_true] at hy
    obtain⟨rfl,hb⟩:=hy
    refine fun σ' H' F' fr A'=>?_
    obtain⟨v,w1,w2⟩:=A'.getO hYn
    rw[show ρ.getD j .non=.box (some a) s2 ys2 from hb] at w2
    have:=w2.pinned
    subst this
    exact q .non H' [] (F' j) A'.same ⟨rfl,rfl⟩ w2.unpin (by simp) (by simp) fun b hb=>A'.young j b hb
   |ret z =>
    rw[e] at ho
    have hy:z=.tup [y,.box (some a) s2 ys2]:=by simpa[RS.outN] using ho
    subst hy
    refine fun v H' s r=>?_
    rw[hY] at r
    obtain⟨y',a',s3,xs3,G1,G2,e1,r1,r2,r3,r4,r5⟩:=r
    simp only[PV.tup.injEq,List.cons.injEq,and_true,PV.box.injEq,Option.some.injEq] at e1
    obtain⟨rfl,rfl,rfl,rfl⟩:=e1
    exact q v H' G1 G2 s r1 r2.unpin r3 r4 r5
   |exc q=>rw[e] at ho;cases ho
   |brk ρ=>rw[e] at ho;cases ho
   |cont ρ=>rw[e] at ho;cases ho
   |bad=>rw[e] at ho;cases ho
end
theorem bind_ok {α β:Type}{r:Rr α}{g:α->Rr β}{y:β} (h:r.bind g=.ok y):∃x,r=.ok x/\g x=.ok y:=by
 cases r with
 |ok x=>exact⟨x,rfl,h⟩
 |exc e=>cases h
 |bad=>cases h
section
variable {K:W.Frag}{B:Addr->Prop}{EX:PX->Hp->Prop}{H0 H H':Hp}{σ:St}{Γ Γ1 Γ2:List Md}{ρ:List PV}{F F':Nat->List Addr}{R:List Addr}{te:TE}{i j n:Nat}{m:PV->List PV->Rr PV}
def DM (K:W.Frag) (EX:PX->Hp->Prop) (Γ:List Md) (i:Nat) (te:TE) (fm:List PV->Rr (PV×PV)):Prop:=
 ∀(B:Addr->Prop) (H0 H:Hp) (σ:St) (ρ:List PV) (F:Nat->List Addr) (Q:VK),Ag K B H0 H σ Γ ρ F [] ->
  Dn (fm ρ) (fun r=>∀v H' F' G,Frm H F H' F'->ZT K H' r.1 v G->(∀b∈G,H b=none\/∃l,b∈F l)->Ag K B H0 H' σ Γ (ρ.set i r.2) F' (G++[])->Q v H') (fun e=>∀H',Zy H0 H'->EX e H')->te σ H Q
noncomputable def ZgO (m:PV->List PV->Rr PV) (x:PV) (xs:List PV):Rr (PV×PV):=match x with
 |.box p s ys=>match m (.box none s ys) xs with
  |.ok (.tup [y,.box none s' ys'])=>.ok (y,.box p s' ys')
  |_=>.bad
 |_=>.bad
theorem Zhd {α:Type}{l:List α}{i:Nat}{v:α} (h:l[i]?=some v):l.set i v=l:=by
 apply Zr6
 intro q
 by_cases e:i=q
 ·subst e;rw[Zrf (ZqI.mp h).1,h]
 ·rw[ZqZ e]
variable {fm:List PV->Rr (PV×PV)}{k:Kd}{l:Nat}
theorem Zaw {F1:Nat->List Addr}{G:List Addr} (fr:Frm H F H' F1) (hG:∀a∈G,H a=none\/∃j,a∈F j):Frm H F H' (JT F1 l G):=fun b o h n=>by
 obtain⟨h1,h2⟩:=fr b o h n
 refine⟨h1,fun q z=>?_⟩
 by_cases e:q=l
 ·subst e;rw[Zo] at z
  rcases hG b z with w|⟨c,w⟩
  ·rw[h] at w;cases w
  ·exact n c w
 ·rw[Zt e] at z;exact h2 q z
theorem Zdo (he:DM K EX Γ i te fm) (hl:l<Γ.length):DS K EX Γ ⟨Γ.set l .P,Γ1,Γ2,k⟩ (ZiK te (ZbU l)) (fun ρ=>(fm ρ).thenS fun r=>(grd r.1).thenS fun y=>.next ((ρ.set i r.2).set l y)):=fun B H0 H σ ρ F D A d=>by
 refine he B H0 H σ ρ F _ A (d.thenS.imp (fun r _ d v H1 F1 G fr t1 h1 A1=>?_) fun e q=>q)
 unfold grd at d
 split at d
 ·rename_i hf
  exact d _ H1 _ (Zaw (G:=[]) fr (by simp)) (Ag.put (G:=[]) (R:=[]) (A1.less (by simp)) hl (by simp) ⟨rfl,v,rfl,hf,t1.rep fun _ _=>trivial⟩)
 ·exact d.elim
theorem VM (he:DM K EX Γ i te fm):DS K EX Γ ⟨Γ,Γ1,Γ2,k⟩ (Zd3 te) (fun ρ=>(fm ρ).thenS fun r=>.next (ρ.set i r.2)):=fun B H0 H σ ρ F D A d=>by
 refine he B H0 H σ ρ F _ A (d.thenS.imp (fun r _ d v H1 F1 G fr t1 h1 A1=>?_) fun e q=>q)
 exact d _ H1 _ fr (A1.less (by simp))
theorem Zfv (hm:Γ[l]?=some .O) (hil:l≠i) (he:DM K EX Γ i te fm) :
  DS K EX Γ ⟨Γ,Γ1,Γ2,k⟩ (Zd3 (tBM K "list" Zaf (UP l) (Vx te ZdW))) (fun ρ=>(asL (gv l ρ)).thenS fun xs=>(fm ρ).thenS fun r=>(pApp (.lst xs) r.1).thenS fun z=>.next ((ρ.set i r.2).set l z)):=fun B H0 H σ ρ F D A d=>by
 obtain⟨v,h1,h2⟩:=A.getO hm
 refine⟨v,h1, ?_⟩
 obtain⟨xs,e1,d⟩:=Dn.asL d.thenS
 rw[show ρ.getD l .non=.lst xs from e1] at h2
 obtain⟨a,vs,G,rfl,hH,ht,hn,hF⟩:=h2
 refine⟨.inl ⟨rfl,_,SqL.of hH⟩,he B H0 H σ ρ F _ A (d.thenS.imp (fun r _ d w H2 F2 G2 fr y1 y2 A2=>?_) fun e q=>q)⟩
 obtain⟨xs',e2,hlen,d⟩:=Dn.pApp d.thenS
 cases e2
 obtain⟨v',h1',h2'⟩:=A2.getO hm
 rw[h1] at h1';cases h1'
 have el:(ρ.set i r.2).getD l .non=.lst xs:=by
  rw[ZqF,ZqZ (Ne.symm hil),<- ZqF];exact e1
 rw[el] at h2'
 obtain⟨a',vs',G',e,hH',ht',hn',hF'⟩:=h2'
 cases e
 refine⟨a,vs',w,rfl,rfl,hH',by rw[ht'.length];exact ZqU hlen (by decide), ?_⟩
 have haF:a∈F2 l:=by rw[hF'];simp
 have dj:∀b∈G',b ∉ G2:=fun b hb z=>A2.disjR l b (by rw[hF'];simp[hb]) (ZqM _ z)
 have na:a ∉ G2:=fun z=>A2.disjR l a haF (ZqM _ z)
 have hsub:∀b∈a::(G'++G2),b∈F2 l\/b∈G2:=fun b hb=>by
  rw[hF']
  rcases ZqS.mp hb with rfl|hb
  ·simp
  ·rcases ZqK.mp hb with z|z
   ·simp[z]
   ·exact .inr z
 have hna:a ∉ G'++G2:=fun z=>(ZqK.mp z).elim hn' na
 refine d σ _ (JT F2 l (a::(G'++G2))) (fun b o h n=>?_) (Ag.chg (G:=G2) (R:=[]) A2 hm haF hsub (by simp) ?_)
 ·obtain⟨q1,q2⟩:=fr b o h n
  have hne:b≠a:=fun z=>q2 l (z▸haF)
  refine⟨by rw[Zp hne];exact q1,fun j z=>?_⟩
  by_cases q:j=l
  ·subst q;rw[Zo] at z
   rcases hsub b z with w|w
   ·exact q2 j w
   ·rcases y2 b w with w|⟨c,w⟩
    ·rw[h] at w;cases w
    ·exact n c w
  ·rw[Zt q] at z;exact q2 j z
 ·exact⟨_,h1,a,_,G'++G2,rfl,Zv,(Trees.append ht' (Trees.one y1) dj).put hH' hna,hna,rfl⟩
end
noncomputable def Pm.fnM (m:Pm) (b:PV) (xs:List PV):Rr PV:=m.fn (b::xs)
theorem hu1 {n c:Nat} (h:n+64<c):n+1<c:=by omega
theorem VO {m:PV->List PV->Rr PV}{p:Option Addr}{s s':Sh}{ys ys' xs:List PV}{y:PV} (h:m (.box none s ys) xs=.ok (.tup [y,.box none s' ys'])):ZgO m (.box p s ys) xs=.ok (y,.box p s' ys'):=by
 unfold ZgO
 simp only[h]
section
variable {prog:Program}{w:World}{A:Around}{s:Shared}
theorem ZcZ {fin:Bool}{Q:Bool->Shared->Prop}:∀{ns ms:List Int}{vs ws:List Value}{i:Nat},ZE (ns.map V.int) vs->ZE (ms.map V.int) ws->fin=decide (vs.length<ws.length)->Q (HT.ZY ns ms) s ->
  PySem.W.KatLex prog w A true fin Q (vs.zip ws) i s
 |[],[],_,_,i,.nil,.nil,e,q=>by subst e;exact q
 |[],m::ms,_,_,i,.nil,.cons r t,e,q=>by
  have:fin=true:=by rw[e];simp
  subst this
  exact q
 |n::ns,[],_,_,i,.cons r t,.nil,e,q=>by
  have:fin=false:=by rw[e];simp
  subst this
  exact q
 |n::ns,m::ms,_,_,i,.cons r t,.cons r' t',e,q=>by
  obtain⟨k,rfl⟩:=r
  obtain⟨k',rfl⟩:=r'
  rw[ZrG]
  refine PySem.W.kat_cons (wpAny_eqBool_int ?_)
  rw[HT.Js] at q
  by_cases h:n=m
  ·subst h
   rw[if_pos rfl] at q
   simp only[beq_self_eq_true]
   exact PySem.W.kat_yes (ZcZ t t' (by rw[e];simp) q)
  ·rw[if_neg h] at q
   have hb:(n==m)=false:=by simpa using h
   rw[hb]
   refine PySem.W.kat_no ?_
   cases i with
   |zero=>exact oneLt_int q
   |succ i=>exact PySem.W.kat_one _ _ (PyProof.Rows.lt_int q)
end
noncomputable def JO (t:List Int):PV:=.tup (t.map PV.int)
theorem ZaF:∀{a b:List (List Int)},a.map JO=b.map JO->a=b
 |[],[],_=>rfl
 |[],y::b,h=>by simp at h
 |x::a,[],h=>by simp at h
 |x::a,y::b,h=>by
  simp only[Zrb,List.cons.injEq,JO,PV.tup.injEq] at h
  rw[ZR h.1,ZaF h.2]
section
end
theorem Pm.refM2 (m:Pm) {r:Addr->PV->List PV->Rr PV} (h:∀i,m.pre i->∀a b xs,m.enc i=b::xs->r a b xs=ZkP a (m.out i)):∀a b xs,Ref (ZkP a (m.fnM b xs)) (r a b xs):=fun a b xs=>by
 unfold Pm.fnM Pm.fn
 by_cases hx:∃i,m.enc i=b::xs/\m.pre i
 ·rw[dif_pos hx]
  exact .inr (h _ hx.choose_spec.2 a b xs hx.choose_spec.1).symm
 ·rw[dif_neg hx];exact .inl rfl
theorem ZfG:bootBuiltins "sorted"=some (.builtin "sorted"):=by decide +kernel
section
variable {prog:Program}{w:World}{A:Around}{E:Value->Shared->Prop}{s:Shared}
theorem Zd5 {a:Addr}{vs:List Value}{n:Nat}{P:PySem.Fin->Shared->Prop} (κ:SortKind) (Rv:Value->Value->Bool) (ho:s.heap.get? a=some (seqObj "list" vs.toArray n)) (hz:vs.length<=1000000)
  (hk:2<=vs.length->∀(s1:Shared) (Q:SortKind->Shared->Prop),(∀b o,b≠a->s.heap.get? b=some o->s1.heap.get? b=some o)->Q κ s1->wpAny (model prog w) A (keyKind' vs.toArray) Q E s1)
  (hc:∀(s1:Shared) x y,x∈vs->y∈vs->(∀b o,b≠a->s.heap.get? b=some o->s1.heap.get? b=some o)->∀C:Bool->Shared->Prop,C (Rv x y) s1->wpAny (model prog w) A (keyLt' κ x y) C (fun _ _=>False) s1)
  (asy:∀x y,x∈vs->y∈vs->Rv x y=true->Rv y x=false) (tr:∀x y z,x∈vs->y∈vs->z∈vs->Rv y x=false->Rv z y=false->Rv z x=false)
  (hq:∀h' c out,(∀b o,b≠a->s.heap.get? b=some o->h'.get? b=some o)->out.Perm vs->out.Pairwise (fun x y=>Rv y x=false)->h'.get? a=some (seqObj "list" (List.toArray out) c)->P (.done (.ret .none)) { s with heap:=h' }) :
  wpAny (model prog w) A (Builtin.«list.sort» ⟨[.ref a],[]⟩) P E s:=by
 have la:a<s.heap.objs.size:=Heap.lt_size ho
 have line:vs.length<=sizeLine:=VH hz
 obtain⟨e1,ho1⟩:∃c,(s.heap.update a (Obj.mapSeq fun _=>(#[]:Array Value))).get? a=some (seqObj "list" #[] c):=⟨_,get?_update_seq ho _⟩
 rw[list_sort_plain]
 refine wpAny_bind (listItems_at ho rfl (wpAny_bind (listUpdate_at ho rfl (wpAny_bind (seqEpoch_at ho1 rfl (wpAny_bind (wpAny_newTuple (wpAny_bind (wpAny_newList (wpAny_holding ?_) (Zrt _))) ?_)))) ?_ (Zrt _))))
 rotate_left
 ·exact line
 ·rw[ZqQ];exact line
 generalize eh:((s.heap.update a (Obj.mapSeq fun _=>(#[]:Array Value))).push (seqObj "tuple" vs.toArray 0)).push (seqObj "list" #[] 0)=h3
 have k3:∀b o,b≠a->s.heap.get? b=some o->h3.get? b=some o:=fun b o nb q=>by
  subst eh
  exact Heap.get?_push_of_some _ (Heap.get?_push_of_some _ ((Heap.get?_update_ne _ _ _ _ nb).trans q))
 have a3:h3.get? a=some (seqObj "list" #[] e1):=by subst eh;exact Heap.get?_push_of_some _ (Heap.get?_push_of_some _ ho1)
 show wpAny _ _ _ P E { s with heap:=h3 }
 have fin:∀(out:List Value) (st:SortSt),(arrOf st).map (·.2)=List.toArray out->failedOf st=none->out.Perm vs->out.Pairwise (fun x y=>Rv y x=false) ->
   wpAny (model prog w) A (do
    let sorted:=(arrOf st).map (·.2)
    let touched:=(<- seqEpoch a) != e1
    Builtin.List.listUpdate (.ref a) fun _=>sorted
    if let some e:=failedOf st then rule "list.sort.comparison-raised";throw e
    if touched then rule "list.sort.modified";raiseError "ValueError" "list modified during sort"
    ret .none) P E { s with heap:=h3 }:=fun out st ho hf hl hout=>by
  dsimp only
  rw[ho,hf]
  obtain⟨c2,hc2⟩:∃c,(h3.update a (Obj.mapSeq fun _=>List.toArray out)).get? a=some (seqObj "list" (List.toArray out) c):=⟨_,get?_update_seq a3 _⟩
  refine wpAny_bind (seqEpoch_at a3 rfl (wpAny_bind (listUpdate_at a3 rfl ?_ (Zrt _) ?_)))
  ·simp only[bne_self_eq_false,Bool.false_eq_true,if_false]
   exact wpAny_pure (hq _ c2 out (fun b o nb q=>(Heap.get?_update_ne _ _ _ _ nb).trans (k3 b o nb q)) hl hout hc2)
  ·show (List.toArray out).size<=_
   rw[ZqQ,hl.length_eq];exact Zrq line (Zsq _)
 dsimp only
 have zs:((vs.toArray.zip vs.toArray).map (·.2))=vs.toArray:=by
  apply Array.toList_inj.mp
  simp only[Zst,Array.toList_zip]
  exact List.map_snd_zip (ZqJ _)
 by_cases h2:vs.length<2
 ·have e2:vs.toArray.size<2:=by rw[ZqQ];exact h2
  rw[if_pos e2,if_pos e2]
  refine wpAny_bind (wpAny_pure (wpAny_bind (wpAny_pure ?_)))
  refine fin vs _ zs rfl (List.Perm.refl _) ?_
  match vs,h2 with
  |[],_=>exact List.Pairwise.nil
  |[x],_=>exact List.pairwise_singleton _ _
 ·have e2:¬vs.toArray.size<2:=by rw[ZqQ];exact h2
  rw[if_neg e2,if_neg e2]
  refine wpAny_bind (hk (by omega) _ _ k3 ?_)
  have zmem:∀x∈vs.toArray.zip vs.toArray,x.1∈vs/\x.1=x.2:=fun x hx=>by
   have hx:x∈vs.zip vs:=by simpa using hx
   obtain⟨i,hi⟩:=Zrp hx
   rw[List.getElem?_zip_eq_some] at hi
   have e:=hi.1.symm.trans hi.2
   exact⟨ZqG hi.1,Option.some.inj e⟩
  have C:JR prog w A { s with heap:=h3 } κ (fun x=>x.1∈vs/\x.1=x.2) (fun x y=>Rv x.1 y.1) (fun _ _=>True):=
   ⟨fun x y hx hy _ Q q=>hc _ _ _ hx.1 hy.1 k3 Q q,fun x y hx hy q=>asy _ _ hx.1 hy.1 q,fun x y z hx hy hz q r=>tr _ _ _ hx.1 hy.1 hz.1 q r⟩
  have run:=Zb0 (E:=E) C C ⟨fun _ _ h=>h,fun _ _ _=>rfl⟩ (st:=SortSt.mk' κ (vs.toArray.zip vs.toArray) #[] 7 none) (Q:=fun _ st'=>failedOf st'=none/\(arrOf st').Perm (vs.toArray.zip vs.toArray)/\Up (fun x y=>Rv x.1 y.1) (arrOf st') 0 (vs.toArray.zip vs.toArray).size) rfl rfl
   (fun i hi=>zmem _ (Array.mem_of_getElem? (Qp hi))) rfl (fun _ _ _ _ _ _=>trivial) (fun st' k1 k2 k3=>⟨k1,k2,k3⟩)
  refine wpAny_bind (wpAny_mono run ?_ fun _ _ e=>e)
  rintro⟨⟨⟩,st⟩ s' ⟨rfl,hf,hp,hu⟩
  dsimp only at hf hp hu
  have hsz:(arrOf st).size=(vs.toArray.zip vs.toArray).size:=hp.size_eq
  have same:∀x∈(arrOf st).toList,x.1=x.2:=fun x hx=>(zmem x ((Array.Perm.mem_iff hp).mp (by simpa using hx))).2
  refine fin ((arrOf st).toList.map (·.2)) st ?_ hf ?_ ?_
  ·apply Array.toList_inj.mp
   rw[Zst]
  ·have p1:((arrOf st).toList.map (·.2)).Perm ((vs.toArray.zip vs.toArray).toList.map (·.2)):=(Zsl.mp hp).map _
   have p2:=congrArg Array.toList zs
   rw[Zst] at p2
   rw[p2] at p1
   simpa using p1
  ·have sr:=hu.srt (Zsu (by rw[Zr4,hsz]))
   rw[ZrQ,Zrm (Zsu (by rw[ZqL,hsz]))] at sr
   rw[List.pairwise_map]
   refine List.Pairwise.imp_of_mem ?_ sr
   intro x y hx hy q
   rw[<- same x hx,<- same y hy];exact q
theorem Zb8 {l:Addr}{vs:List Value}{Q:Value->Shared->Prop} (κ:SortKind) (Rv:Value->Value->Bool) (hl:s.heap.IsList l vs.toArray) (hz:vs.length<=1000000)
  (hk:2<=vs.length->∀(s1:Shared) (Q:SortKind->Shared->Prop),(∀b o,s.heap.get? b=some o->s1.heap.get? b=some o)->Q κ s1->wpAny (model prog w) A.in1.in1 (keyKind' vs.toArray) Q E s1)
  (hc:∀(s1:Shared) x y,x∈vs->y∈vs->(∀b o,s.heap.get? b=some o->s1.heap.get? b=some o)->∀C:Bool->Shared->Prop,C (Rv x y) s1->wpAny (model prog w) A.in1.in1 (keyLt' κ x y) C (fun _ _=>False) s1)
  (asy:∀x y,x∈vs->y∈vs->Rv x y=true->Rv y x=false) (tr:∀x y z,x∈vs->y∈vs->z∈vs->Rv y x=false->Rv z y=false->Rv z x=false)
  (hq:∀D h' c out,(∀b o,s.heap.get? b=some o->h'.get? b=some o)->s.heap.objs.size<=D->out.Perm vs->out.Pairwise (fun x y=>Rv y x=false)->h'.get? D=some (seqObj "list" (List.toArray out) c)->Q (.ref D) { s with heap:=h' }) :
  wpAny (model prog w) A (call (.builtin "sorted") [.ref l]) Q E s:=by
 refine Calls.call_function_entry kind_sorted plain_sorted entry_sorted (args_sorted1 _) ?_
 unfold Builtin.«sorted»
 have line:vs.length<=sizeLine:=VH hz
 refine wpAny_bind (m:=checkCount "sorted" 1 1 _) (wpAny_pure (wpAny_bind (collect_list hl (wpAny_bind (wpAny_newList ?_ line)) line)))
 generalize eg:(s.heap.push (seqObj "list" #[] 0)).update s.heap.objs.size (Obj.mapSeq (·++vs.toArray))=h1
 have z1:h1.objs.size=s.heap.objs.size+1:=by subst eg;rw[Heap.size_update,size_push']
 have k1:∀b o,s.heap.get? b=some o->h1.get? b=some o:=fun b o q=>by
  have lb:=Heap.lt_size q
  subst eg
  rw[Heap.get?_update_ne _ _ _ _ (Zrk lb)]
  exact Heap.get?_push_of_some _ q
 have hD:(h1.push (seqObj "list" vs.toArray 0)).get? h1.objs.size=some (seqObj "list" vs.toArray 0):=Heap.get?_push_size _ rfl
 show wpAny _ _ _ _ _ { s with heap:=h1.push (seqObj "list" vs.toArray 0) }
 have up:∀(h2:Heap),(∀b o,b≠h1.objs.size->(h1.push (seqObj "list" vs.toArray 0)).get? b=some o->h2.get? b=some o)->∀b o,s.heap.get? b=some o->h2.get? b=some o:=fun h2 k b o q =>
  k b o (Zrk (by rw[z1];exact Nat.lt_succ_of_lt (Heap.lt_size q))) (Heap.get?_push_of_some _ (k1 b o q))
 refine wpAny_bind (wpAny_holding (wpAny_call_entry slot_list_sort ⟨_,hD,rfl⟩ entry_list_sort (Zd5 (s:={ s with heap:=h1.push (seqObj "list" vs.toArray 0) }) κ Rv hD hz (fun h2 s1 Q k q=>hk h2 s1 Q (up _ k) q) (fun s1 x y hx hy k C q=>hc s1 x y hx hy (up _ k) C q) asy tr fun h' c out k p1 p2 e=>?_) (args_list_sort _)))
 exact⟨_,rfl,wpAny_pure ⟨_,rfl,hq _ h' c out (up _ k) (by rw[z1];exact Zsq _) p1 p2 e⟩⟩
end
noncomputable def ZlX:Value->Int
 |.int i _=>i
 |_=>0
theorem VR:∀{ns:List Int}{us:List Value},ZE (ns.map V.int) us->us.map ZlX=ns/\∀u∈us,∃i t,u=Value.int i t
 |[],_,.nil=>⟨rfl,by simp⟩
 |n::ns,_,.cons (b:=u) r rr=>by
  obtain⟨t,rfl⟩:=r
  obtain⟨h1,h2⟩:=VR rr
  refine⟨by rw[Zrb,h1];rfl,fun v hv=>?_⟩
  rcases ZqS.mp hv with rfl|hv
  ·exact⟨n,t,rfl⟩
  ·exact h2 v hv
section
end
noncomputable def ZiO (x:List Int):List (List Int)->List (List Int)
 |[]=>[x]
 |y::l=>if HT.ZY y x=true then y::ZiO x l else x::y::l
noncomputable def ZfV:List (List Int)->List (List Int)
 |[]=>[]
 |x::l=>ZiO x (ZfV l)
noncomputable abbrev UpU (l:List (List Int)):Prop:=l.Pairwise fun a b=>HT.ZY b a=false
theorem Qn (x:List Int):∀l,(ZiO x l).Perm (x::l)
 |[]=>List.Perm.refl _
 |y::l=>by
  unfold ZiO
  split
  ·exact((Qn x l).cons y).trans (List.Perm.swap x y l)
  ·exact List.Perm.refl _
theorem VA:∀l,(ZfV l).Perm l
 |[]=>List.Perm.refl _
 |x::l=>(Qn x _).trans ((VA l).cons x)
theorem Um {a b c:List Int} (h1:HT.ZY b a=false) (h2:HT.ZY c b=false):HT.ZY c a=false:=by
 cases h:HT.ZY c a with
 |false=>rfl
 |true =>
  exfalso
  cases h3:HT.ZY a b with
  |true=>rw[HL.V1 h h3] at h2;cases h2
  |false=>rw[HL.V2 h3 h1] at h;rw[h] at h2;cases h2
theorem Qf {a b:List Int} (h:HT.ZY a b=true):HT.ZY b a=false:=by
 cases h2:HT.ZY b a with
 |false=>rfl
 |true=>have:=HL.V1 h h2;rw[HL.JU] at this;cases this
theorem Zfl {x:List Int}:∀{l:List (List Int)},UpU l->UpU (ZiO x l)
 |[],_=>List.pairwise_singleton _ _
 |y::l,h=>by
  obtain⟨h1,h2⟩:=ZrF.mp h
  unfold ZiO
  split
  ·rename_i e
   refine ZrF.mpr ⟨fun z hz=>?_,Zfl h2⟩
   rcases ZqS.mp ((Qn x l).mem_iff.mp hz) with rfl|hz
   ·exact Qf e
   ·exact h1 z hz
  ·rename_i e
   have e:=Bool.eq_false_iff.mpr e
   refine ZrF.mpr ⟨fun z hz=>?_,h⟩
   rcases ZqS.mp hz with rfl|hz
   ·exact e
   ·exact Um e (h1 z hz)
theorem Zb6:∀l,UpU (ZfV l)
 |[]=>List.Pairwise.nil
 |x::l=>Zfl (Zb6 l)
theorem Zaa:∀{l m:List (List Int)},UpU l->UpU m->l.Perm m->l=m
 |[],m,_,_,p=>(List.nil_perm.mp p).symm
 |x::l,[],_,_,p=>absurd (List.perm_nil.mp p) (by simp)
 |x::l,y::m,h1,h2,p=>by
  obtain⟨a1,a2⟩:=ZrF.mp h1
  obtain⟨b1,b2⟩:=ZrF.mp h2
  have e:x=y:=by
   have hx:x∈y::m:=p.mem_iff.mp (by simp)
   have hy:y∈x::l:=p.mem_iff.mpr (by simp)
   rcases ZqS.mp hx with z|z
   ·exact z
   ·rcases ZqS.mp hy with z'|z'
    ·exact z'.symm
    ·exact HL.V2 (b1 x z) (a1 y z')
  subst e
  rw[Zaa a2 b2 (List.perm_cons _ |>.mp p)]
noncomputable def Ud (ts:List PL2) (a:Addr):List Int:=((ts.find? fun t=>decide (t.1=a)).map (·.2)).getD []
theorem Za3 {ts:List PL2} (hu:∀t∈ts,∀t'∈ts,t.1=t'.1->t.2=t'.2) {t:PL2} (ht:t∈ts):Ud ts t.1=t.2:=by
 unfold Ud
 cases hf:ts.find? fun q=>decide (q.1=t.1) with
 |none=>exact absurd (decide_eq_true rfl) (List.find?_eq_none.mp hf t ht)
 |some q =>
  have h1:=List.find?_some hf
  have h2:=List.mem_of_find?_eq_some hf
  exact hu q h2 t ht (of_decide_eq_true h1)
noncomputable def QV:Value->Addr
 |.ref a=>a
 |_=>0
theorem ZaD:∀{ts:List PL2}{us:List Value},ZE (ts.map fun t=>V.ref t.1) us->us=ts.map fun t=>Value.ref t.1
 |[],_,.nil=>rfl
 |t::ts,_,.cons r rr=>by
  have r:_=Value.ref t.1:=r
  rw[r,ZaD rr];rfl
theorem ZaP:∀(ts:List PL2),ZE (ts.map fun t=>V.ref t.1) (ts.map fun t=>Value.ref t.1)
 |[]=>.nil
 |t::ts=>.cons rfl (ZaP ts)
section
variable {X:Cx}
def Zey (K:W.Frag):List V->Hp->VK->Prop:=fun xs H Q=>∃p,∃ts:List PL2,xs=[.ref p]/\SqL K H p (ts.map fun t=>V.ref t.1) /\
  (∀t∈ts,SqT K H t.1 (t.2.map V.int)/\t.2≠[])/\ts.length<=1000000/\∀l,H l=none->∀qs:List PL2,qs.Perm ts->UpU (qs.map (·.2))->Q (.ref l) (upd H l (.lst (qs.map fun t=>V.ref t.1)))
theorem ZdT:JP X (.builtin "sorted") (Zey X.K):=by
 intro pins s σ H xs us Q I r h
 obtain⟨p,ts,rfl,hq,hall,hz0,q⟩:=h
 obtain⟨u,rfl,rx⟩:=Zb5 r
 cases rx
 obtain⟨its,r',pl,hz⟩:=I.list hq
 have hits:=ZaD r'
 subst hits
 have tup:∀(s1:Shared),(∀b o,s.heap.get? b=some o->s1.heap.get? b=some o)->∀t∈ts,∃vs:List Value,ZE (t.2.map V.int) vs/\IsTup s1.heap t.1 vs.toArray:=fun s1 k t ht=>by
  have I':Inv X pins σ H { s with heap:=s1.heap,toks:=s1.toks }:=I.kept k
  obtain⟨vs,rv,pt,_⟩:=I'.tuple (hall t ht).1
  exact⟨vs,rv,pt⟩
 have hu:∀t∈ts,∀t'∈ts,t.1=t'.1->t.2=t'.2:=fun t ht t' ht' e=>by
  obtain⟨vs,rv,ob,eo,oc,k1,od⟩:=tup s (fun _ _ h=>h) t ht
  obtain⟨vs',rv',ob',eo',oc',k1',od'⟩:=tup s (fun _ _ h=>h) t' ht'
  rw[e,eo'] at eo
  cases eo
  rw[od] at od'
  have e2:vs.toArray=vs'.toArray:=by injection od'
  have e3:vs=vs':=by simpa using e2
  subst e3
  rw[<- (VR rv).1,<- (VR rv').1]
 refine Zb8 (tuples' true) (fun x y=>HT.ZY (Ud ts (QV x)) (Ud ts (QV y))) pl.isList (by simpa using hz0) (fun h2 s1 Q' k q'=>?_) (fun s1 x y hx hy k C q'=>?_) (fun x y _ _ h=>Qf h) (fun x y z _ _ _ h1 h2=>Um h1 h2) fun D h' c out k hD p1 p2 e=>?_
 ·have:∀(ts:List PL2) (its:List Value),(∀t∈ts,t.2≠[]/\∃vs:List Value,ZE (t.2.map V.int) vs/\IsTup s1.heap t.1 vs.toArray)->ZE (ts.map fun t=>V.ref t.1) its->∃fs:List Value,fs.length=ts.length/\PySem.W.KatTups s1.heap its fs/\∀v∈fs,∃n t,v=Value.int n t:=by
   intro ts
   induction ts with
   |nil =>
    intro its _ rv
    cases rv
    exact⟨[],rfl,trivial,by simp⟩
   |cons t ts ih =>
    intro its ht rv
    cases rv with
    |cons rv tv =>
     obtain⟨fs,e1,e2,e3⟩:=ih _ (fun t' h'=>ht t' (Zrj _ h')) tv
     obtain⟨hne,vs,rvs,ob,eo,oc,k,od⟩:=ht t (ZrE ..)
     obtain⟨n,ns,en⟩:=List.exists_cons_of_ne_nil hne
     rw[en] at rvs
     cases rvs with
     |cons rn tn =>
      obtain⟨tk,rfl⟩:=rn
      have rv':_=Value.ref t.1:=rv
      subst rv'
      exact⟨.int n tk::fs,by simp[e1],⟨⟨t.1,ob,_,k,rfl,eo,oc,od,rfl⟩,e2⟩,fun v hv=>(ZqS.mp hv).elim (fun z=>⟨n,tk,z⟩) (e3 v)⟩
  obtain⟨fs,e1,e2,e3⟩:=this ts _ (fun t ht=>⟨(hall t ht).2,tup s1 k t ht⟩) r'
  exact PySem.W.kat_kind (T:=.type "int") e2 (by rw[e1];simp at h2;omega) (fun v hv=>by obtain⟨n,t,rfl⟩:=e3 v hv;exact PySem.W.Looks.of_pure rfl) rfl q'
 ·obtain⟨t,ht,rfl⟩:=Zr3.mp hx
  obtain⟨t',ht',rfl⟩:=Zr3.mp hy
  obtain⟨vs,rv,ob,eo,oc,k1,od⟩:=tup s1 k t ht
  obtain⟨vs',rv',ob',eo',oc',k1',od'⟩:=tup s1 k t' ht'
  refine PySem.W.kat_lt eo od eo' od' (ZcZ rv rv' ?_ ?_)
  ·simp
  ·rw[show QV (.ref t.1)=t.1 from rfl,show QV (.ref t'.1)=t'.1 from rfl,Za3 hu ht,Za3 hu ht'] at q'
   exact q'
 ·have ho:∀u∈out,∃t∈ts,u=Value.ref t.1:=fun u hu=>by
   obtain⟨t,ht,e⟩:=Zr3.mp (p1.mem_iff.mp hu)
   exact⟨t,ht,e.symm⟩
  have hp:(out.map fun v=>((QV v,Ud ts (QV v)):PL2)).Perm ts:=by
   have h1:=p1.map fun v=>((QV v,Ud ts (QV v)):PL2)
   rw[Zsz] at h1
   have h2:ts.map ((fun v=>((QV v,Ud ts (QV v)):PL2))∘fun t=>Value.ref t.1)=ts:=by
    have:ts.map ((fun v=>((QV v,Ud ts (QV v)):PL2))∘fun t=>Value.ref t.1)=ts.map id:=List.map_congr_left fun t ht=>by
     show ((t.1,Ud ts t.1):PL2)=t
     rw[Za3 hu ht]
    rw[this,List.map_id]
   rw[h2] at h1
   exact h1
  have hup:UpU ((out.map fun v=>((QV v,Ud ts (QV v)):PL2)).map (·.2)):=by
   rw[Zsz]
   exact List.pairwise_map.mpr (p2.imp fun h=>h)
  have hout:out=(out.map fun v=>((QV v,Ud ts (QV v)):PL2)).map fun t=>Value.ref t.1:=by
   rw[Zsz]
   have:out.map ((fun(t:PL2)=>Value.ref t.1)∘fun v=>((QV v,Ud ts (QV v)):PL2))=out.map id:=List.map_congr_left fun u hu=>by
    obtain⟨t,ht,rfl⟩:=ho u hu
    rfl
   rw[this,List.map_id]
  generalize (out.map fun v=>((QV v,Ud ts (QV v)):PL2))=qs at hp hup hout
  have I1:Inv X pins σ (upd H D (.lst (qs.map fun t=>V.ref t.1))) { s with heap:=h' }:=by
   refine I.laid (t':=s.toks) k hD ⟨?_,_,c, ?_,e⟩
   ·rw[ZqN,hp.length_eq];exact VH hz0
   ·rw[hout];exact ZaP qs
  exact⟨.ref D,_,I1,rfl,q D (I.hok.fresh hD) qs hp hup⟩
theorem Zce {K:W.Frag} (e:X.K=K:=by rfl):JP X (.builtin "sorted") (Zey K):=by subst e;exact ZdT
end
def OkU (ts:List (List Int)):Prop:=(∀t∈ts,t≠[])/\ts.length<=1000000
open Classical in
noncomputable def ZcM (xs:List PV):Rr PV:=if h:∃ts:List (List Int),xs=[.lst (ts.map JO)]/\OkU ts then newF ((ZfV h.choose).map JO) else .bad
theorem ZeB {ts:List (List Int)} (h:OkU ts):ZcM [.lst (ts.map JO)]=newF ((ZfV ts).map JO):=by
 have hex:∃us:List (List Int),[PV.lst (ts.map JO)]=[.lst (us.map JO)]/\OkU us:=⟨ts,rfl,h⟩
 unfold ZcM
 rw[dif_pos hex]
 have hs:ts.map JO=hex.choose.map JO:=PV.lst.inj (List.cons.inj hex.choose_spec.1).1
 have e:hex.choose=ts:=(ZaF hs).symm
 rw[e]
section
variable {K:W.Frag}{B:Addr->Prop}{EX:PX->Hp->Prop}{H0 H:Hp}{σ:St}{Γ Γ':List Md}{ρ:List PV}{F:Nat->List Addr}{R:List Addr}{ta:TA}{fa:List PV->Rr (List PV)}
theorem QG {S:Addr->Prop}:∀{ts:List (List Int)}{vs:List V},Reps K H S (ts.map JO) vs->∃qs:List PL2,vs=(qs.map fun t=>V.ref t.1)/\(qs.map fun t=>t.2)=ts/\∀t∈qs,SqT K H t.1 (t.2.map V.int)/\Rep K H S (JO t.2) (V.ref t.1)
 |[],vs,h=>⟨[],h,rfl,by simp⟩
 |ns::ts,vs,h=>by
  obtain⟨v,r,rfl,h1,h2⟩:=h
  obtain⟨qs,rfl,e2,e3⟩:=QG h2
  have h1':=h1
  obtain⟨a,ws,rfl,hn,hr⟩:=h1
  have:=UU hr
  subst this
  refine⟨(a,ns)::qs,rfl,by rw[Zrb,e2],fun t ht=>?_⟩
  rcases ZqS.mp ht with rfl|ht
  ·exact⟨hn.sqT,h1'⟩
  ·exact e3 t ht
theorem Zeu {S:Addr->Prop}:∀{qs:List PL2},(∀t∈qs,Rep K H S (JO t.2) (V.ref t.1))->Reps K H S ((qs.map (·.2)).map JO) (qs.map fun t=>V.ref t.1)
 |[],_=>rfl
 |t::qs,h=>⟨_,_,rfl,h t (ZrE ..),Zeu fun q hq=>h q (Zrj _ hq)⟩
theorem ZgD (ha:DAA K EX Γ Γ' ta fa):DE K EX Γ Γ' .F (tCB (Zey K) ta) (fun ρ=>(fa ρ).bind ZcM):=fun B H0 H σ ρ F R Q A d=>by
 refine ha B H0 H σ ρ F R _ A (d.bind.imp (fun xs _ d vs H1 F1 s1 f1 p1 A1=>?_) fun e q=>q)
 unfold ZcM at d
 split at d
 ·rename_i hex
  have hs:=hex.choose_spec
  generalize hex.choose=ts at d hs
  obtain⟨rfl,hne,hl⟩:=hs
  obtain⟨h1,h2,d⟩:=Dn.newF d
  obtain⟨v,rfl,a,ws,rfl,hn,hr⟩:=UV p1
  obtain⟨qs,rfl,rfl,e3⟩:=QG hr
  refine⟨a,qs,rfl,JA (S:=fun _=>True) hn,fun t ht=>⟨(e3 t ht).1,hne _ (List.mem_map_of_mem ht)⟩,by simpa using hl,fun l hz zs hp hup=>?_⟩
  have e:ZfV (qs.map (·.2))=zs.map (·.2):=Zaa (Zb6 _) hup ((VA _).trans (hp.map (·.2)).symm)
  have pr:=Zeu (K:=K) (H:=H1) (S:=fun _=>True) (qs:=zs) fun t ht=>(e3 t (hp.mem_iff.mp ht)).2
  rw[<- e] at pr
  exact d _ _ (s1.trans (Zy.new hz)) (Res.newP s1 f1 pr h1 A1 hz)
 ·exact d.elim
end
section
variable {K:W.Frag}{EX:PX->Hp->Prop}{Γ Γ1 Γ2 Γt:List Md}{tt:TT}{c:List PV->Rr Bool}
theorem ZdS {i l:Nat} (hm:Γ[i]?=some .O) (hl:Γ[l]?=some .U) (hil:l≠i) (ht:DT K EX ((Γ.set i .S).set l .S) Γt tt c) :
  DS K EX Γ ⟨Γ,Γ1,Γ2,.P⟩ (ZkG (Zgz K (UP i)) (ZbU l) (ZkF tt (ZiY (tC (.bl false))) ZhI)) (fun ρ=>(asL (gv i ρ)).thenS fun xs=>ZaA (fun x ρ=>(c (ρ.set l x)).thenS fun b=>if b=true then .ret (.bl false) else .next (ρ.set l x)) xs ρ):=fun B H0 H σ ρ F D A d=>by
 obtain⟨xs,exs,d⟩:=Dn.asL d.thenS
 obtain⟨v,h1,h2⟩:=A.getO hm
 rw[show ρ.getD i .non=.lst xs from exs] at h2
 obtain⟨a,vs,G,rfl,hH,htr,hn,hF⟩:=h2
 have hlen:vs.length=xs.length:=htr.length
 refine⟨.ref a,h1,a,rfl,⟨_,SqL.of hH⟩,fun j m σ' H'=>∃ρ',m=xs.length-j/\j<=xs.length/\Zy H H'/\Ag K B H0 H' σ' Γ ρ' F []/\gv i ρ'=.lst xs/\σ'[i]?=some (some (.ref a))/\DnS K B EX ⟨Γ,Γ1,Γ2,.P⟩ H0 H' F D (ZaA (fun x ρ=>(c (ρ.set l x)).thenS fun b=>if b=true then .ret (.bl false) else .next (ρ.set l x)) (xs.drop j) ρ'),
  ⟨xs.length,ρ,by simp,Zrt _,Zy.refl H,A,exs,h1,by simpa using d⟩, ?_⟩
 rintro j m σ' H' ⟨ρ',rfl,hj,sm,A',ex',hs',dn⟩
 have hH':H' a=some (.lst vs):=sm a _ hH
 have tr':Trees K H' xs vs G:=htr.same sm
 cases hx:xs[j]? with
 |none =>
  have hd:xs.drop j=[]:=Zr5 (Zrw.mp hx)
  rw[hd] at dn
  refine .inl ⟨⟨vs,SqL.of hH',by have:=Zrw.mp hx;omega⟩,dn σ' H' F Frm.refl A'⟩
 |some x =>
  have hlt:j<xs.length:=(ZqI.mp hx).1
  have hdx:xs.drop j=x::xs.drop (j+1):=by
   rw[Zrl hlt]
   rw[ZqH hlt] at hx;cases hx;rfl
  rw[hdx] at dn
  simp only[ZaA] at dn
  have hGi:∀b∈G,b∈F i:=fun b hb=>by rw[hF];simp[hb]
  have rp:Reps K H' (NO B (JT F i []) []) xs vs:=tr'.reps fun b hb=>A'.noF (hGi b hb)
  obtain⟨w,hw,hr⟩:=rp.get hx
  refine .inr ⟨⟨vs,w,SqL.of hH',hw⟩,fun σ2 H2=>∃ρ2,Zy H H2/\Ag K B H0 H2 σ2 Γ ρ2 F []/\gv i ρ2=.lst xs/\σ2[i]?=some (some (.ref a))/\DnS K B EX ⟨Γ,Γ1,Γ2,.P⟩ H0 H2 F D (ZaA (fun x ρ=>(c (ρ.set l x)).thenS fun b=>if b=true then .ret (.bl false) else .next (ρ.set l x)) (xs.drop (j+1)) ρ2),
   fun σ2 H2 ⟨ρ2,a1,a2,a3,a4,a5⟩=>⟨xs.length-(j+1),by omega,ρ2,rfl,hlt,a1,a2,a3,a4,a5⟩,fun u H3 y=>?_⟩
  obtain⟨e3,yl⟩:=y
  subst e3
  have eu:=yl vs (SqL.of hH')
  rw[hw] at eu;cases eu
  have Af:=A'.freeze hm (by decide)
  have hll:l<(Γ.set i .S).length:=by rw[Zr8];exact A'.lt hl
  have At:=Ag.put (i:=l) (m:=.S) (x:=x) (v:=w) (G:=[]) (R:=[]) Af hll (by simp) ⟨rfl,w,rfl,Rep.mono (fun a us s r=>⟨r,s.1,s.2.1,fun j z=>s.2.2 j (Zam j a z)⟩) (fun a us r=>r) hr⟩
  refine ht B H0 H3 _ _ _ [] _ At ?_
  cases e:c (ρ'.set l x) with
  |bad=>rw[e] at dn;exact dn.elim
  |exc q=>rw[e] at dn;exact dn
  |ok b =>
   rw[e] at dn
   simp only[Rr.thenS_ok] at dn
   intro H4 F4 s4 _ A4
   cases b with
   |true =>
    simp only[if_true] at dn ⊢
    exact dn (.bl false) H4 A4.same ⟨rfl,rfl⟩
   |false =>
    simp only[Bool.false_eq_true,if_false] at dn ⊢
    refine⟨ρ'.set l x,sm.trans s4,(A'.setU (o:=some w) (y:=x) hl).grow s4, ?_, ?_,DnS.shift (Frm.of s4 fun _ _ h=>h) dn⟩
    ·show (ρ'.set l x).getD i .non=_
     rw[ZqF,ZqZ hil,<- ZqF];exact ex'
    ·rw[ZqZ hil];exact hs'
end
section
variable {X:Cx}{pins:List (Addr×Obj)}{σ:St}{H:Hp}{s:Shared}
theorem Inv.swapO {a:Addr}{u u':HO} (I:Inv X pins σ H s) (ha:H a=some u) (n1:∀b,u≠.own b) (n2:∀xs,u≠.tup xs) (m1:∀xs,X.H₀ a≠some (.tup xs)) (m2:∀o v,X.H₀ a≠some (.frz o v)) (m3:∀ps,X.H₀ a≠some (.tbl ps))
  (h0:∀o,X.s₀.heap.get? a=some o->X.H₀ a=none->a∈X.ex) (ok:Ji X.prog X.w (upd H a u') s.heap a u'):Inv X pins σ (upd H a u') s:=by
 have nn:∀{b},H b=none->b≠a:=fun {b} e z=>by rw[z,ha] at e;cases e
 refine⟨I.ok,I.os,I.bare,⟨I.base.keep,I.base.slot,fun b o q n hx=>?_,I.base.there,fun b xs q=>?_,fun b o v q=>?_,fun b ps q=>?_⟩,I.loc,I.cell, ?_,fun x c q=>?_,fun p hq=>?_,fun b v q=>?_,I.len⟩
 ·have e:=I.base.free b o q n hx
  rw[Zp (nn e)];exact e
 ·rw[Zp (fun z=>m1 xs (by rw[<- z];exact q))];exact I.base.tups b xs q
 ·rw[Zp (fun z=>m2 o v (by rw[<- z];exact q))];exact I.base.frzs b o v q
 ·obtain⟨m,e⟩:=I.base.tbls b ps q
  exact⟨m,by rw[Zp (fun z=>m3 ps (by rw[<- z];exact q))];exact e⟩
 ·rw[Zp (nn I.free)];exact I.free
 ·rw[Zp (nn (I.freeC x c q))];exact I.freeC x c q
 ·obtain⟨a1,b1,c1⟩:=I.pin p hq
  exact⟨a1,by rw[Zp (nn b1)];exact b1,c1⟩
 ·by_cases hb:b=a
  ·subst hb
   rw[Zv] at q;cases q
   exact ok
  ·rw[Zp hb] at q
   refine(I.hok b v q).stay (fun c w' _ z=>z) (fun c z=>?_) fun c xs z=>?_
   ·rw[Zp (fun y=>by rw[y,ha] at z;cases z;exact n1 _ rfl)];exact z
   ·rw[Zp (fun y=>by rw[y,ha] at z;cases z;exact n2 _ rfl)];exact z
end
mutual
noncomputable def QD:PV->PV
 |.lst xs=>.fz (frzPs xs)
 |.tup xs=>.tup (frzPs xs)
 |.fz xs=>.fz (frzPs xs)
 |.non=>.non
 |.bl b=>.bl b
 |.int i=>.int i
 |.str x=>.str x
 |.exc n=>.exc n
 |.exa n i=>.exa n i
 |.box p s xs=>.box p s xs
noncomputable def frzPs:List PV->List PV
 |[]=>[]
 |x::xs=>QD x::frzPs xs
end
theorem Ub:∀(ns:List Int),frzPs (ns.map PV.int)=ns.map PV.int
 |[]=>rfl
 |n::ns=>by simp only[Zrb,frzPs,QD,Ub ns]
def Zcm (G:List Addr) (H H2:Hp):Prop:=(∀a,a ∉ G->H2 a=H a)/\∀a∈G,∀vs,H a=some (.lst vs)->∃o,H2 a=some (.frz o (.lst vs))
def ZgR (H:Hp) (G:List Addr):Prop:=∀a∈G,∃vs,H a=some (.lst vs)
section
variable {K:W.Frag}{H H2:Hp}{G':List Addr}
theorem Im.frzTo (hL:ZgR H G') (h:Zcm G' H H2) {a:Addr}{u:HO} (i:Im K H a u):Im K H2 a u:=by
 have hn:a ∉ G':=fun z=>by
  obtain⟨vs,e⟩:=hL a z
  rw[i.1] at e;cases e;exact i.2
 exact⟨by rw[h.1 a hn];exact i.1,i.2⟩
mutual
theorem ZT.lists:∀{x:PV}{v:V}{G:List Addr},(QD x).flat=true->ZT K H x v G->ZgR H G
 |.non,_,_,_,h=>by rw[h.2];intro a ha;simp at ha
 |.bl _,_,_,_,h=>by rw[h.2];intro a ha;simp at ha
 |.int _,_,_,_,h=>by rw[h.2];intro a ha;simp at ha
 |.str _,_,_,_,h=>by rw[h.2];intro a ha;simp at ha
 |.exc _,_,_,_,h=>by rw[h.2];intro a ha;simp at ha
 |.exa _ _,_,_,_,h=>by rw[h.2];intro a ha;simp at ha
 |.box _ _ _,_,_,f,_=>by simp[QD,PV.flat] at f
 |.lst xs,_,_,f,h=>by
  obtain⟨a,vs,G,rfl,ha,ht,hn,rfl⟩:=h
  intro b hb
  rcases ZqS.mp hb with rfl|hb
  ·exact⟨vs,ha⟩
  ·exact Trees.lists (by simpa[QD,PV.flat] using f) ht b hb
 |.tup xs,_,_,f,h=>by
  obtain⟨a,vs,rfl,ha,ht⟩:=h
  exact Trees.lists (by simpa[QD,PV.flat] using f) ht
 |.fz xs,_,_,f,h=>by
  obtain⟨a,vs,rfl,ha,ht⟩:=h
  exact Trees.lists (by simpa[QD,PV.flat] using f) ht
theorem Trees.lists:∀{xs:List PV}{vs:List V}{G:List Addr},PV.flats (frzPs xs)=true->Trees K H xs vs G->ZgR H G
 |[],_,_,_,h=>by rw[h.2];intro a ha;simp at ha
 |x::xs,_,_,f,h=>by
  obtain⟨v,r,G1,G2,rfl,h3,h4,hd,rfl⟩:=h
  simp only[frzPs,PV.flats,Bool.and_eq_true] at f
  intro b hb
  rcases ZqK.mp hb with hb|hb
  ·exact ZT.lists f.1 h3 b hb
  ·exact Trees.lists f.2 h4 b hb
end
mutual
theorem ZT.frz (hL:ZgR H G') (hF:Zcm G' H H2):∀{x:PV}{v:V}{G:List Addr},(QD x).flat=true->ZT K H x v G->(∀a∈G,a∈G')->ZT K H2 (QD x) v []
 |.non,_,_,_,h,_=>⟨h.1,rfl⟩
 |.bl _,_,_,_,h,_=>⟨h.1,rfl⟩
 |.int _,_,_,_,h,_=>⟨h.1,rfl⟩
 |.str _,_,_,_,h,_=>⟨h.1,rfl⟩
 |.exc n,_,_,_,h,_=>let ⟨a,o,C,e1,e2,e3⟩:=h.1;⟨⟨a,o,C,e1,Im.frzTo hL hF e2,e3⟩,rfl⟩
 |.exa n i,_,_,_,h,_=>let ⟨a,o,C,d,fs,e1,e2,e2',e3⟩:=h.1;⟨⟨a,o,C,d,fs,e1,Im.frzTo hL hF e2,Im.frzTo hL hF e2',e3⟩,rfl⟩
 |.box _ _ _,_,_,f,_,_=>by simp[QD,PV.flat] at f
 |.lst xs,_,_,f,h,hG=>by
  obtain⟨a,vs,G,rfl,ha,ht,hn,rfl⟩:=h
  obtain⟨o,e⟩:=hF.2 a (hG a (by simp)) vs ha
  exact⟨a,vs,rfl,⟨o,e,trivial⟩,Trees.frz hL hF (by simpa[QD,PV.flat] using f) ht fun b hb=>hG b (by simp[hb])⟩
 |.tup xs,_,_,f,h,hG=>by
  obtain⟨a,vs,rfl,ha,ht⟩:=h
  exact⟨a,vs,rfl,Im.frzTo hL hF ha,Trees.frz hL hF (by simpa[QD,PV.flat] using f) ht hG⟩
 |.fz xs,_,_,f,h,hG=>by
  obtain⟨a,vs,rfl,⟨o,ha⟩,ht⟩:=h
  exact⟨a,vs,rfl,⟨o,Im.frzTo hL hF ha⟩,Trees.frz hL hF (by simpa[QD,PV.flat] using f) ht hG⟩
theorem Trees.frz (hL:ZgR H G') (hF:Zcm G' H H2):∀{xs:List PV}{vs:List V}{G:List Addr},PV.flats (frzPs xs)=true->Trees K H xs vs G->(∀a∈G,a∈G')->Trees K H2 (frzPs xs) vs []
 |[],_,_,_,h,_=>⟨h.1,rfl⟩
 |x::xs,_,_,f,h,hG=>by
  obtain⟨v,r,G1,G2,rfl,h3,h4,hd,rfl⟩:=h
  simp only[frzPs,PV.flats,Bool.and_eq_true] at f
  exact⟨v,r,[],[],rfl,ZT.frz hL hF f.1 h3 fun a ha=>hG a (by simp[ha]),Trees.frz hL hF f.2 h4 fun a ha=>hG a (by simp[ha]),by simp,rfl⟩
end
end
section
variable {X:Cx}{pins:List (Addr×Obj)}{σ:St}{s:Shared}
theorem Inv.frzAll:∀(G:List Addr) {H:Hp},Inv X pins σ H s->ZgR H G->∃H2,Zcm G H H2/\Inv X pins σ H2 s
 |[],H,I,_=>⟨H,⟨fun _ _=>rfl,by simp⟩,I⟩
 |a::G,H,I,hL=>by
  obtain⟨H2,h2,I2⟩:=Inv.frzAll G I fun b hb=>hL b (by simp[hb])
  by_cases hm:a∈G
  ·refine⟨H2,⟨fun b hb=>h2.1 b fun z=>hb (by simp[z]),fun b hb=>?_⟩,I2⟩
   rcases ZqS.mp hb with rfl|hb
   ·exact h2.2 b hm
   ·exact h2.2 b hb
  ·obtain⟨kvs,ha0⟩:=hL a (by simp)
   have ha:H2 a=some (.lst kvs):=by rw[h2.1 a hm];exact ha0
   have ok0:Ji X.prog X.w H2 s.heap a (.lst kvs):=I2.hok a _ ha
   obtain⟨o,ho⟩:∃o,s.heap.get? a=some o:=by obtain⟨_,its,n,_,e⟩:=ok0;exact⟨_,e⟩
   have m1:∀xs,X.H₀ a≠some (.tup xs):=fun xs z=>by have:=I2.base.tups a xs z;rw[ha] at this;cases this
   have m2:∀o v,X.H₀ a≠some (.frz o v):=fun o v z=>by have:=I2.base.frzs a o v z;rw[ha] at this;cases this
   have m3:∀ps,X.H₀ a≠some (.tbl ps):=fun ps z=>by obtain⟨m,this⟩:=I2.base.tbls a ps z;rw[ha] at this;cases this
   have h0:∀o,X.s₀.heap.get? a=some o->X.H₀ a=none->a∈X.ex:=fun o q n=>by
    by_cases hx:a∈X.ex
    ·exact hx
    ·have:=I2.base.free a o q n hx;rw[ha] at this;cases this
   refine⟨_,⟨fun b hb=>?_,fun b hb vs e=>?_⟩,I2.swapO (u':=.frz o (.lst kvs)) ha (fun _ z=>by cases z) (fun _ z=>by cases z) m1 m2 m3 h0 ⟨ho,ok0⟩⟩
   ·have hb':b≠a:=fun z=>hb (by simp[z])
    rw[Zp hb']
    exact h2.1 b fun z=>hb (by simp[z])
   ·by_cases hb':b=a
    ·subst hb'
     rw[ha0] at e;cases e
     exact⟨o,Zv⟩
    ·rw[Zp hb']
     rcases ZqS.mp hb with z|z
     ·exact absurd z hb'
     ·exact h2.2 b z vs e
noncomputable def Zjc (te:TE):TE:=fun σ H Q=>te σ H fun v H1=>∃G,ZgR H1 G/\∀H2,Zcm G H1 H2->Q v H2
noncomputable def Zjd (t:TS):TS:=fun D σ H=>∃G,ZgR H G/\∀H2,Zcm G H H2->t D σ H2
theorem UW {e:Expr}{te:TE} (he:PE X e te):PE X e (Zjc te):=by
 intro pins s σ H Q I h
 refine thn (he pins s σ H _ I h) fun v s1 ⟨x,H1,I1,r,G,hL,q⟩=>?_
 obtain⟨H2,h2,I2⟩:=Inv.frzAll G I1 hL
 exact⟨x,H2,I2,r,q H2 h2⟩
theorem ZhP {st:Stmt}{t:TS} (ht:PS X st t):PS X st (Zjd t):=by
 intro pins s σ H D I h
 obtain⟨G,hL,q⟩:=h
 obtain⟨H2,h2,I2⟩:=Inv.frzAll G I hL
 exact ht pins s σ H2 D I2 (q H2 h2)
end
section
variable {K:W.Frag}{B:Addr->Prop}{EX:PX->Hp->Prop}{H0 H H2:Hp}{σ:St}{Γ Γ':List Md}{ρ:List PV}{F:Nat->List Addr}{R G:List Addr}{te:TE}{f:List PV->Rr PV}{t:TS}{g:List PV->RS}{Y:Tys}
theorem Ag.frzTo (A:Ag K B H0 H σ Γ ρ F (G++R)) (hL:ZgR H G) (h:Zcm G H H2) (hR:∀a∈R,a ∉ G):Ag K B H0 H2 σ Γ ρ F R:=by
 have nG:∀{a},a ∉ G->H2 a=H a:=fun {a} z=>h.1 a z
 refine⟨fun a o e=>?_,A.own,A.young,fun a ha=>A.youngR a (by simp[ha]),fun i a ha=>?_,fun a ha=>?_,A.disj,fun i a ha z=>A.disjR i a ha (by simp[z]),A.lenS,A.lenR,fun i=>?_⟩
 ·rw[nG fun z=>by rw[A.youngR a (by simp[z])] at e;cases e]
  exact A.same a o e
 ·rw[nG fun z=>A.disjR i a ha (by simp[z])];exact A.live i a ha
 ·rw[nG (hR a ha)];exact A.liveR a (by simp[ha])
 ·refine(A.slot i).mono (fun a u s r=>⟨?_,s.1,fun z=>s.2.1 (by simp[z]),s.2.2⟩) (fun a u r=>Im.frzTo hL h r) fun a ha u q=>?_
  ·have:=nG (a:=a) fun z=>s.2.1 (by simp[z])
   rcases r with r|⟨o,r⟩
   ·exact .inl (by rw[this];exact r)
   ·exact .inr ⟨o,by rw[this];exact r⟩
  ·rw[nG fun z=>A.disjR i a ha (by simp[z])];exact q
theorem Qz (he:DE K EX (Γ.map frz) (Γ.map frz) .F te f):DE K EX Γ Γ .P (Zjc te) (fun ρ=>(f ρ).bind fun x=>grd (QD x)):=fun B H0 H σ ρ F R Q A d=>by
 refine he B H0 H σ ρ _ R _ A.freezeAll (d.bind.imp (fun x _ d v H1 s1 r=>?_) fun e q=>q)
 obtain⟨F1,f1,G,t1,o1,_⟩:=r
 have fr:∀a∈G,H a=none:=fun a ha=>by
  rcases (o1 a ha).2 with q|⟨j,q⟩
  ·exact q
  ·simp at q
 unfold grd at d
 split at d
 ·rename_i hf
  refine⟨G,t1.lists hf,fun H2 h2=>?_⟩
  have s2:Zy H H2:=fun a o e=>by
   rw[h2.1 a fun z=>by rw[fr a z] at e;cases e]
   exact s1 a o e
  exact d v H2 s2 ⟨F,fun _ _ h=>h,hf,(ZT.frz (t1.lists hf) h2 hf t1 fun a ha=>ha).rep (by simp),A.grow s2⟩
 ·exact d.elim
theorem Zix {i:Nat} (hm:Γ[i]?=some .O) (h:DS K EX (Γ.set i .P) Y t g):DS K EX Γ Y (Zjd t) (fun ρ=>(grd (QD (gv i ρ))).thenS fun y=>g (ρ.set i y)):=fun B H0 H σ ρ F D A d=>by
 obtain⟨v,h1,h2⟩:=A.getO hm
 have hi:=A.lt hm
 dsimp only at d
 unfold grd at d
 split at d
 ·rename_i hf
  have hf:(QD (ρ.getD i .non)).flat=true:=hf
  refine⟨F i,h2.lists hf,fun H2 hH=>?_⟩
  have AF:=(A.move hm).frzTo (R:=[]) (h2.lists hf) hH (by simp)
  have tr:=ZT.frz (h2.lists hf) hH hf h2 fun a ha=>ha
  have AP:=Ag.put (i:=i) (m:=.P) (x:=QD (ρ.getD i .non)) (v:=v) (G:=[]) (R:=[]) AF (by rw[Zr8];exact hi) (by simp) ⟨rfl,v,rfl,hf,tr.rep (by simp)⟩
  rw[Zhd h1,Zs0] at AP
  refine h B H0 H2 σ _ _ D AP (DnS.shift (fun b o hb hn=>⟨?_,fun l z=>?_⟩) d)
  ·rw[hH.1 b (hn i)];exact hb
  ·by_cases q:l=i
   ·subst q;rw[Zo] at z;simp at z
   ·rw[Zt q,Zt q] at z;exact hn l z
 ·exact d.elim
noncomputable def thw (x:PV):PV:=match x with
 |.fz xs=>.lst xs
 |x=>x
theorem Rep.thw {S:Addr->Prop}{x:PV}{v:V} (hS:∀a o vs,H a=some (.frz o (.lst vs))->S a) (h:Rep K H S x v):Rep K H S (thw x) v:=by
 cases x with
 |fz xs =>
  obtain⟨a,vs,rfl,⟨o,ha⟩,hr⟩:=h
  exact⟨a,vs,rfl,.inl ⟨.inr ⟨o,ha.1⟩,hS a o vs ha.1⟩,hr⟩
 |_=>exact h
theorem Va (he:DE K EX Γ Γ' .A te f):DE K EX Γ Γ' .A te (fun ρ=>(f ρ).bind fun x=>.ok (thw x)):=fun B H0 H σ ρ F R Q A d=>by
 refine he B H0 H σ ρ F R _ A (d.bind.imp (fun x _ d v H1 s1 r=>?_) fun e q=>q)
 obtain⟨F1,f1,p1,A1⟩:=r
 exact d v H1 s1 ⟨F1,f1,p1.thw fun _ _ _ _=>trivial,A1⟩
end
section
variable {X:Cx}{pins:List (Addr×Obj)}{σ:St}{H:Hp}{s:Shared}{a C dx:Addr}{fs:List (Str×V)}{f:Str}
theorem Zau (I:Inv X pins σ H s) (e:Rd H a (.ins C dx fs)):∃mA,Zh8 s.heap a dx C mA/\(∀f,ZaB (fs.lookup f) (mA f)):=by
 obtain⟨d,z,ne,ob,mA,n,r,q⟩:=(show Ji X.prog X.w H s.heap a (.ins C dx fs) from e.ok I.hok)
 exact⟨mA,⟨ob,n,ne⟩,r⟩
end
noncomputable def Zej (K:W.Frag) (ta:TE) (f:Str):TE:=fun σ H Q=>ta σ H fun x H1=>∃a C dx fs v,x=.ref a/\Rd H1 a (.ins C dx fs)/\Cls K C/\Q6 K C f/\fs.lookup f=some v/\Q v H1
noncomputable def ZaI (K:W.Frag) (n m:Str) (sp:Sp) (ta:TE) (t:TA):TE:=fun σ H Q=>ta σ H fun x H1=>∃a C dx fs,x=.ref a/\Rd H1 a (.ins C dx fs)/\QW K n C/\fs.lookup m=none/\t σ H1 fun vs H2=>sp (x::vs) H2 Q E0
def OkM (P:Program) (w:World) (K:W.Frag) (mg:Str->Option Value) (base:Heap) (k:Nat) (n m:Str) (ps:List Str) (sp:Sp):Prop:=
 ∃C f fd,QW K n C/\Cls K C/\Zmd K C m f/\J0 P w K mg base CX0 k f fd ps sp/\Q8 K fd ps []
section
variable {X:Cx}{K:W.Frag}{e o:Expr}{es:List Expr}{f n m:Str}{pos apos:Pos}{ta:TE}{t:TA}{k:Nat}{ps:List Str}{sp:Sp}
theorem Jc (he:PE X e ta) (eK:X.K=K:=by rfl) (hb:attributeBase e f X.env (eval e X.env)=eval e X.env:=by rfl):PE X (.Attribute e f pos) (Zej K ta f):=by
 subst eK
 intro pins s σ H Q I h
 refine ZiC hb (thn (he pins s σ H _ I h) fun u s1 ⟨x,H1,I1,rx,a,C,dx,fs,v,ex,ea,c,n,l,q⟩=>?_)
 subst ex
 obtain rfl:u=Value.ref a:=rx
 obtain⟨mA,O,r⟩:=Zau I1 ea
 obtain⟨u,hu,ru⟩:=ZaB.some_of (v:=v) (o:=mA f) (by rw[<- l];exact r f)
 exact Ziv I1.kIn O (c.get f) c.hd n hu (Zfo ru) ⟨v,H1,I1.tok _,ru,q⟩
theorem U9 {pl:Sem Bool} (G:OkM X.prog X.w X.K X.mg X.base k n m ps sp) (hr:Vv k X.A) (he:PE X o ta) (ha:PA X (e::es) t)
  (hst:starEach (e::es) X.env=(false,eval e X.env)::starEach es X.env:=by rfl) (hpl:(backTo pos (starEach es X.env)).any (·.1)=false:=by rfl)
  (ht:eval (.Call (.Attribute o m apos) (e::es) [] pos) X.env=(do
   let ov <- eval o X.env
   standAt apos.atName
   let (f,first) <- holding [ov] (getMethod ov m pl)
   callWith pos f first (backTo pos (starEach (e::es) X.env)) (backToKw pos (keywordEach [] X.env))):=by rfl) :
  PE X (.Call (.Attribute o m apos) (e::es) [] pos) (ZaI X.K n m sp ta t):=by
 obtain⟨C,f,fd,hC,c,hm,F,hb⟩:=G
 intro pins s σ H Q I h
 refine PySem.W.methodCall_KW (pl:=pl) (thn (he pins s σ H _ I h) fun u s1 ⟨x,H1,I1,rx,a,C',dx,fs,ex,ea,hC',l,q⟩=>?_) ht
 subst ex
 obtain rfl:=hC.inj hC'
 obtain rfl:u=Value.ref a:=rx
 obtain⟨mA,O,r⟩:=Zau I1 ea
 refine Zdj I1.kIn O (c.get m) hm.at_ hm.fn (ZaB.none_of (by rw[<- l];exact r m)) ?_
 refine PySem.W.callWith_K (first:=[.ref a]) (h₀:=X.base) I.ok.mod.kin hm.kp (thn (ha pos pins s1 σ H1 _ I1 q) fun us s2 ⟨vs,H2,I2,r,q2⟩=>⟨I2.kIn, ?_⟩) hst hpl
 exact Zc3 (us:=.ref a::us) (vs:=.ref a::vs) (dvs:=[]) F hr hb .nil Ze8 I2 (.cons rfl r) (by rw[Zrz];exact q2)
theorem VC {pl:Sem Bool} (G:OkM X.prog X.w X.K X.mg X.base k n m ps sp) (hr:Vv k X.A) (he:PE X o ta)
  (ht:eval (.Call (.Attribute o m apos) [] [] pos) X.env=(do
   let ov <- eval o X.env
   standAt apos.atName
   let (f,first) <- holding [ov] (getMethod ov m pl)
   callWith pos f first (backTo pos (starEach [] X.env)) (backToKw pos (keywordEach [] X.env))):=by rfl) :
  PE X (.Call (.Attribute o m apos) [] [] pos) (ZaI X.K n m sp ta ZdW):=by
 obtain⟨C,f,fd,hC,c,hm,F,hb⟩:=G
 intro pins s σ H Q I h
 refine PySem.W.methodCall_KW (pl:=pl) (thn (he pins s σ H _ I h) fun u s1 ⟨x,H1,I1,rx,a,C',dx,fs,ex,ea,hC',l,q⟩=>?_) ht
 subst ex
 obtain rfl:=hC.inj hC'
 obtain rfl:u=Value.ref a:=rx
 obtain⟨mA,O,r⟩:=Zau I1 ea
 refine Zdj I1.kIn O (c.get m) hm.at_ hm.fn (ZaB.none_of (by rw[<- l];exact r m)) ?_
 exact PySem.W.callWith_K0 (first:=[.ref a]) I1.kIn hm.kp (Zc3 (us:=[.ref a]) (vs:=[.ref a]) (dvs:=[]) F hr hb .nil Ze8 I1 (.cons rfl .nil) q)
def OkC (P:Program) (w:World) (K:W.Frag) (mg:Str->Option Value) (base:Heap) (k:Nat) (n:Str) (ps:List Str) (sp:Sp):Prop:=
 ∃C f fd,QW K n C/\mg n=some (.ref C)/\Mk K C f/\J0 P w K mg base CX0 k f fd ps sp/\Q8 K fd ps []
noncomputable def Zha (K:W.Frag) (n:Str) (sp:Sp) (t:TA):TE:=fun σ H Q=>t σ H fun vs H1=>∀x dx C,QW K n C->H1 x=none->H1 dx=none->dx≠x ->
 sp (.ref x::vs) (upd (upd H1 dx (.own x)) x (.ins C dx [])) (fun v H2=>v=.non/\Q (.ref x) H2) E0
theorem Zgd {p:Pos} (G:OkC X.prog X.w X.K X.mg X.base k n ps sp) (hr:Vv (k+1) X.A) (hg:Gl X n) (ha:PA X (e::es) t) (hdb:(n==("__debug__":Str))=false:=by decide)
  (he:starEach (e::es) X.env=(false,eval e X.env)::starEach es X.env:=by rfl) (hpl:(backTo pos (starEach es X.env)).any (·.1)=false:=by rfl) :
  PE X (.Call (.Name n p) (e::es) [] pos) (Zha X.K n sp t):=by
 obtain⟨C,f,fd,hC,hm,M,F,hb⟩:=G
 intro pins s σ H Q I h
 refine wpAny_Call_Name_kw (VY I hg hm ?_ hdb)
 refine PySem.W.callWith_K (h₀:=X.base) I.ok.mod.kin M.kp (thn (ha pos pins s σ H _ I h) fun us s1 ⟨vs,H1,I1,r,q⟩=>⟨I1.kIn, ?_⟩) he hpl
 exact ZfY (dvs:=[]) M F hr hb .nil Ze8 I1 r fun x dx h1 h2 h3=>by rw[Zrz];exact q x dx C hC h1 h2 h3
end
theorem Uz {α:Type}{f:Str}:∀{gs:List Str}{vs:List α},gs.length=vs.length->(gs.zip vs).lookup f=vs[gs.idxOf f]?
 |[],[],_=>rfl
 |[],_::_,h=>by simp at h
 |_::_,[],h=>by simp at h
 |g::gs,v::vs,h=>by
  have ih:=Uz (f:=f) (gs:=gs) (vs:=vs) (by simpa using h)
  rw[ZrG,Zrv,Zs1]
  by_cases e:g=f
  ·subst e;simp
  ·have e1:(f==g)=false:=beq_eq_false_iff_ne.mpr (Ne.symm e)
   have e2:(g==f)=false:=beq_eq_false_iff_ne.mpr e
   rw[e1,e2]
   simpa using ih
noncomputable def pFld (n f:Str) (x:PV):Rr PV:=match x with
 |.box _ (.ob m gs) xs=>if m=n then match xs[gs.idxOf f]? with
  |some y=>.ok y
  |none=>.bad
  else .bad
 |_=>.bad
noncomputable def obG (n m:Str) (x:PV):Rr PV:=match x with
 |.box _ (.ob k gs) _=>if k=n/\m ∉ gs then .ok .non else .bad
 |_=>.bad
theorem Dn.pFld {n f:Str}{x:PV}{ok:PV->Prop}{ex:PX->Prop} (d:Dn (pFld n f x) ok ex):∃p gs xs y,x=.box p (.ob n gs) xs/\xs[gs.idxOf f]?=some y/\ok y:=by
 unfold L2.pFld at d
 split at d
 ·rename_i p m gs xs
  split at d
  ·rename_i e
   subst e
   split at d
   ·rename_i y ey
    exact⟨p,gs,xs,y,rfl,ey,d⟩
   ·exact d.elim
  ·exact d.elim
 ·exact d.elim
theorem Dn.obG {n m:Str}{x:PV}{ok:PV->Prop}{ex:PX->Prop} (d:Dn (obG n m x) ok ex):∃p gs xs,x=.box p (.ob n gs) xs/\m ∉ gs/\ok .non:=by
 unfold L2.obG at d
 split at d
 ·rename_i p k gs xs
  split at d
  ·rename_i e
   obtain⟨rfl,e⟩:=e
   exact⟨p,gs,xs,rfl,e,d⟩
  ·exact d.elim
 ·exact d.elim
def ObC (K:W.Frag) (n:Str) (fs:List Str):Prop:=∃C,QW K n C/\Cls K C/\∀f∈fs,Q6 K C f
theorem ZfO {α:Type}{f:Str}{gs:List Str}{vs:List α} (h:gs.length=vs.length) (hf:f ∉ gs):(gs.zip vs).lookup f=none:=by
 rw[Uz h,Zrc]
 rw[<- h,List.idxOf_eq_length hf]
 exact ZqJ _
section
variable {K:W.Frag}{B:Addr->Prop}{EX:PX->Hp->Prop}{H0 H H':Hp}{σ:St}{Γ Γ':List Md}{ρ:List PV}{F:Nat->List Addr}{R:List Addr}{te:TE}{ta t:TA}{f:List PV->Rr PV}{fa:List PV->Rr (List PV)}{fs:List Str}{n fl m:Str}{i:Nat}{k:Kd}{sp:Sp}
theorem Rep.fld {S:Addr->Prop}{p:Option Addr}{gs:List Str}{xs:List PV}{v:V}{y:PV} (h:Rep K H S (.box p (.ob n gs) xs) v) (e:xs[gs.idxOf fl]?=some y):∃a C dx fs w,v=.ref a/\Rd H a (.ins C dx fs)/\QW K n C/\fs.lookup fl=some w/\Rep K H S y w:=by
 obtain⟨a,vs,u,rfl,⟨rd,_⟩,⟨_,hl,C,dx,rfl,hC⟩,hr⟩:=h
 obtain⟨w,e1,e2⟩:=hr.get e
 exact⟨a,C,dx,_,w,rfl,rd,hC,by rw[Uz hl];exact e1,e2⟩
theorem Q0 (O:ObC K n fs) (hf:fl∈fs) (he:DE K EX Γ Γ' .A te f):DE K EX Γ Γ' .A (Zej K te fl) (fun ρ=>(f ρ).bind (pFld n fl)):=fun B H0 H σ ρ F R Q A d=>by
 obtain⟨C,hC,c,na⟩:=O
 refine he B H0 H σ ρ F R _ A (d.bind.imp (fun x _ d v H1 s1 r=>?_) fun e q=>q)
 obtain⟨F1,f1,p1,A1⟩:=r
 obtain⟨p,gs,xs,y,rfl,ey,d⟩:=Dn.pFld d
 obtain⟨a,C',dx,fs',w,rfl,rd,hC',l,ry⟩:=p1.fld ey
 obtain rfl:=hC.inj hC'
 exact⟨a,C,dx,fs',w,rfl,rd,c,na _ hf,l,d w H1 s1 ⟨F1,f1,ry,A1⟩⟩
theorem Zi5 (O:ObC K n fs) (hf:fl∈fs) (he:DE K EX Γ Γ' .Z te f):DE K EX Γ Γ' .Z (Zej K te fl) (fun ρ=>(f ρ).bind (pFld n fl)):=fun B H0 H σ ρ F R Q A d=>by
 obtain⟨C,hC,c,na⟩:=O
 refine he B H0 H σ ρ F R _ A (d.bind.imp (fun x _ d v H1 s1 r=>?_) fun e q=>q)
 obtain⟨F1,f1,p1,A1⟩:=r
 obtain⟨p,gs,xs,y,rfl,ey,d⟩:=Dn.pFld d
 obtain⟨a,C',dx,fs',w,rfl,rd,hC',l,ry⟩:=p1.fld ey
 obtain rfl:=hC.inj hC'
 exact⟨a,C,dx,fs',w,rfl,rd,c,na _ hf,l,d w H1 s1 ⟨F1,f1,ry,A1⟩⟩
theorem ZeU {Q:VK}{md:Md} (hi:Γ[i]?=some md) (hmd:md≠.U) (A:Ag K B H0 H σ Γ ρ F R) {p:Option Addr}{gs:List Str}{xs:List PV} (e:ρ.getD i .non=.box p (.ob n gs) xs) (hm:m ∉ gs) (h:Vs sp (Vx (UP i) t) σ H Q):ZaI K n m sp (UP i) t σ H Q:=by
 obtain⟨v,h1,h2⟩:=A.getA hi hmd
 rw[e] at h2
 obtain⟨a,vs,u,rfl,⟨rd,_⟩,⟨_,hl,C,dx,rfl,hC⟩,hr⟩:=h2
 obtain⟨v',h1',h⟩:=h
 rw[h1] at h1';cases h1'
 exact⟨.ref a,h1,a,C,dx,_,rfl,rd,hC,ZfO hl hm,h⟩
theorem DE.meth {md:Md} (hi:Γ[i]?=some md) (hmd:md≠.U) (h:DE K EX Γ Γ' k (Vs sp (Vx (UP i) t)) f):DE K EX Γ Γ' k (ZaI K n m sp (UP i) t) (fun ρ=>(obG n m (gv i ρ)).bind fun _=>f ρ):=fun B H0 H σ ρ F R Q A d=>by
 obtain⟨p,gs,xs,e,hm,d⟩:=Dn.obG d.bind
 exact ZeU hi hmd A e hm (h B H0 H σ ρ F R Q A d)
theorem DM.meth {fm:List PV->Rr (PV×PV)} (hi:Γ[i]?=some .O) (h:DM K EX Γ i (Vs sp (Vx (UP i) t)) fm):DM K EX Γ i (ZaI K n m sp (UP i) t) (fun ρ=>(obG n m (gv i ρ)).bind fun _=>fm ρ):=fun B H0 H σ ρ F Q A d=>by
 obtain⟨p,gs,xs,e,hm,d⟩:=Dn.obG d.bind
 exact ZeU hi (by decide) A e hm (h B H0 H σ ρ F Q A d)
noncomputable def Zj9 (n:Str) (m:PV->List PV->Rr PV) (xs:List PV):Rr PV:=match m (.box none (.ob n []) []) xs with
 |.ok (.tup [.non,.box none s ys])=>.ok (.box none s ys)
 |_=>.bad
theorem Zik {m:PV->List PV->Rr PV}{xs ys:List PV}{s:Sh} (h:m (.box none (.ob n []) []) xs=.ok (.tup [.non,.box none s ys])):Zj9 n m xs=.ok (.box none s ys):=by
 unfold Zj9;simp only[h]
theorem Zi3 {l:Nat}{mm:PV->List PV->Rr PV} (hn:Len fa l) (ha:DAA K EX Γ Γ' ta fa):DE K EX Γ Γ' .F (Zha K n (spM K l 0 mm) ta) (fun ρ=>(fa ρ).bind (Zj9 n mm)):=fun B H0 H σ ρ F R Q A d=>by
 refine ha B H0 H σ ρ F R _ A (d.bind.imp (fun xs ex d vs H1 F1 s1 f1 p1 A1 x dx C hC hx hdx hne=>?_) fun e q=>q)
 unfold Zj9 at d
 split at d
 ·rename_i s ys em
  have s2:Zy H1 (upd (upd H1 dx (.own x)) x (.ins C dx [])):=(Zy.newO hdx).trans (Zy.newO (by rw[Zp (Ne.symm hne)];exact hx))
  have nx:∀{a u},Rd H1 a u->a≠x:=fun {a u} r z=>by
   rw[z] at r
   rcases r with r|⟨o,r⟩<;>(rw[hx] at r;cases r)
  refine⟨fun a=>a≠x,xs,vs,x,.ob n [],[],[x],rfl,hn ρ xs ex,Reps.mono (fun a u _ r=>⟨r.same s2,nx r⟩) (fun a u r=>s2.im r) p1,⟨x,[],_,[],rfl,Zv,⟨trivial,rfl,C,dx,rfl,hC⟩,⟨rfl,rfl⟩,by simp,rfl⟩,fun b hb z=>hb (by simpa using z), ?_⟩
  rw[em]
  refine⟨.non,s,ys,rfl,fun u H' G1 G2 sm t1 t2 dj n1 n2=>⟨t1.1, ?_⟩⟩
  have s3:Zy H1 H':=fun a o e=>by
   have ne:a≠x:=fun z=>by rw[z,hx] at e;cases e
   refine sm a o ?_
   rw[ZD (by simpa using ne)]
   exact s2 a o e
  have fr:∀b∈G2,H1 b=none:=fun b hb=>by
   have:=n2 b hb
   by_cases q:b=x
   ·rw[q];exact hx
   ·rw[ZD (by simpa using q),Zp q] at this
    by_cases q2:b=dx
    ·rw[q2];exact hdx
    ·rw[Zp q2] at this;exact this
  refine d _ H' (s1.trans s3) ⟨F1,f1,G2,t2,fun b hb=>⟨(A1.fresh (fr b hb)).1,.inl (s1.free (fr b hb))⟩,A1.more s3 fr t2.alive⟩
 ·exact d.elim
noncomputable def Ux (m:PV->List PV->Rr PV) (x:PV) (xs:List PV):Rr (PV×PV):=if PV.flats xs=true then ZgO m x xs else .bad
theorem Vn {l:Nat}{mm:PV->List PV->Rr PV} (hm:Γ[i]?=some .O) (hn:Len fa l) (ha:DAA K EX Γ Γ ta fa):DM K EX Γ i (Vs (spM K l 0 mm) (Vx (UP i) ta)) (fun ρ=>(fa ρ).bind fun xs=>Ux mm (gv i ρ) xs):=fun B H0 H σ ρ F Q A d=>by
 obtain⟨v0,h10,_⟩:=A.getO hm
 refine⟨v0,h10,ha B H0 H σ ρ F [] _ A (d.bind.imp (fun xs ea d vs H1 F1 s1 f1 p1 A1=>?_) fun e q=>q)⟩
 unfold Ux at d
 split at d
 rotate_left
 ·exact d.elim
 rename_i hfl
 obtain⟨v,h1,h2⟩:=A1.getO hm
 rw[h10] at h1;cases h1
 have hi:=A1.lt hm
 unfold ZgO at d
 split at d
 rotate_left
 ·exact d.elim
 rename_i p s ys er
 rw[show ρ.getD i .non=.box p s ys from er] at h2
 split at d
 rotate_left
 ·exact d.elim
 rename_i y s2 ys2 em
 obtain⟨a,ws,u0,G0,rfl,hH,hb,ht,hna,hF⟩:=id h2
 refine⟨fun b=>b ∉ F1 i,xs,vs,a,s,ys,F1 i,rfl,hn ρ xs ea,p1.flatS hfl,h2.unpin,fun b hb z=>hb z, ?_⟩
 rw[em]
 refine⟨y,s2,ys2,rfl,fun u H' G1 G2 sm t1 t2 dj n1 n2=>?_⟩
 have AL:=(A1.move hm).lost sm
 have nw:∀b,minus H1 (F1 i) b=none->(∀l,b ∉ JT F1 i [] l)/\H0 b=none:=fun b hb=>by
  refine⟨fun l z=>?_, ?_⟩
  ·by_cases q:l=i
   ·subst q;rw[Zo] at z;simp at z
   ·rw[Zt q] at z
    rw[ZD (fun w=>A1.disj l i q b z w)] at hb
    obtain⟨o,e⟩:=A1.live l b z
    rw[hb] at e;cases e
  ·by_cases q:b∈F1 i
   ·exact A1.young i b q
   ·rw[ZD q] at hb
    exact A1.same.free hb
 have AM:Ag K B H0 H' σ (Γ.set i .U) ρ (JT F1 i []) (G2++(G1++[])):=by
  refine⟨AL.same,AL.own,AL.young,fun b hb=>?_,AL.live,fun b hb=>?_,AL.disj,fun l b hb z=>?_,AL.lenS,AL.lenR,fun l=>?_⟩
  ·rcases ZqK.mp hb with z|z
   ·exact(nw b (n2 b z)).2
   ·exact(nw b (n1 b (by simpa using z))).2
  ·rcases ZqK.mp hb with z|z
   ·exact t2.alive b z
   ·exact t1.alive b (by simpa using z)
  ·rcases ZqK.mp z with z|z
   ·exact(nw b (n2 b z)).1 l hb
   ·exact(nw b (n1 b (by simpa using z))).1 l hb
  ·refine((A1.move hm).slot l).mono (fun b o s r=>⟨(r.minus (fun z=>s.2.1 (by simp[z]))).same sm,s.1,fun z=>?_,s.2.2⟩) (fun b o r=>sm.im (r.minus fun c hc=>A1.live i c hc)) fun b hb o q=>sm _ _ ?_
   ·have hb:minus H1 (F1 i) b≠none:=by
     rw[ZD (fun z=>s.2.1 (by simp[z]))]
     rcases r with r|⟨o',r⟩<;>(rw[r];simp)
    rcases ZqK.mp z with z|z
    ·exact hb (n2 b z)
    ·exact hb (n1 b (by simpa using z))
   ·rw[ZD (fun z=>(A1.move hm).disjR l b hb (by simp[z]))];exact q
 have AP:=Ag.put (i:=i) (m:=.O) (x:=.box p s2 ys2) (v:=.ref a) (G:=G2) (R:=G1++[]) AM (by rw[Zr8];exact hi) (fun b hb z=>dj b (by simpa using z) hb) ⟨.ref a,rfl,t2.repin hb.1⟩
 rw[Zhd h10,Zs0,ZfW hm] at AP
 refine d u H' _ G1 ((Frm.of s1 f1).trans fun b o h n=>?_) t1 (fun b hb=>?_) AP
 ·have e:minus H1 (F1 i) b=some o:=by rw[ZD (n i)];exact h
  refine⟨sm _ _ e,fun l z=>?_⟩
  by_cases q:l=i
  ·subst q
   rw[Zo] at z
   rw[n2 b z] at e;cases e
  ·rw[Zt q,Zt q] at z
   exact n l z
 ·have:=n1 b hb
  by_cases q:b∈F1 i
  ·exact .inr ⟨i,f1 i b q⟩
  ·rw[ZD q] at this;exact .inl (s1.free this)
end
section
variable {K:W.Frag}{H:Hp}
mutual
theorem ZT.flat_nil:∀{x:PV}{v:V}{G:List Addr},x.flat=true->ZT K H x v G->G=[]
 |.non,_,_,_,h=>h.2
 |.bl _,_,_,_,h=>h.2
 |.int _,_,_,_,h=>h.2
 |.str _,_,_,_,h=>h.2
 |.exc _,_,_,_,h=>h.2
 |.exa _ _,_,_,_,h=>h.2
 |.box _ _ _,_,_,f,_=>by simp[PV.flat] at f
 |.lst _,_,_,f,_=>by simp[PV.flat] at f
 |.tup xs,_,_,f,h=>by
  obtain⟨a,vs,rfl,ha,ht⟩:=h
  exact Trees.flat_nil (by simpa[PV.flat] using f) ht
 |.fz xs,_,_,f,h=>by
  obtain⟨a,vs,rfl,ha,ht⟩:=h
  exact Trees.flat_nil (by simpa[PV.flat] using f) ht
theorem Trees.flat_nil:∀{xs:List PV}{vs:List V}{G:List Addr},PV.flats xs=true->Trees K H xs vs G->G=[]
 |[],_,_,_,h=>h.2
 |x::xs,_,_,f,h=>by
  obtain⟨v,r,G1,G2,rfl,h3,h4,hd,rfl⟩:=h
  simp only[PV.flats,Bool.and_eq_true] at f
  rw[ZT.flat_nil f.1 h3,Trees.flat_nil f.2 h4];rfl
end
theorem Trees.upL {ys:List PV} (hf:PV.flats ys=true):∀{xs:List PV}{vs:List V}{G:List Addr}{j:Nat},Trees K H xs vs G->xs[j]?=some (.lst ys) ->
  ∃l ws,vs[j]?=some (.ref l)/\H l=some (.lst ws)/\Reps K H (fun _=>True) ys ws/\l∈G/\∀ys' ws',PV.flats ys'=true->Reps K H (fun _=>True) ys' ws'->Trees K (upd H l (.lst ws')) (xs.set j (.lst ys')) vs G
 |[],_,_,_,_,e=>by simp at e
 |x::xs,_,_,0,h,e=>by
  obtain⟨v,r,G1,G2,rfl,h3,h4,hd,rfl⟩:=h
  simp only[ZrB,Option.some.injEq] at e
  subst e
  obtain⟨l,ws,G,rfl,hl,ht,hn,rfl⟩:=h3
  have hG:=Trees.flat_nil hf ht
  subst hG
  refine⟨l,ws,rfl,hl,ht.reps fun _ _=>trivial,by simp,fun ys' ws' f r'=>⟨.ref l,r,[l],G2,rfl,⟨l,ws',[],rfl,Zv,(Reps.trees f r').put hl (by simp),by simp,rfl⟩,h4.put hl (hd l (by simp)),hd,rfl⟩⟩
 |x::xs,_,_,j+1,h,e=>by
  obtain⟨v,r,G1,G2,rfl,h3,h4,hd,rfl⟩:=h
  obtain⟨l,ws,e1,hl,hr,hm,up⟩:=Trees.upL hf (j:=j) h4 (by simpa using e)
  exact⟨l,ws,by simpa using e1,hl,hr,by simp[hm],fun ys' ws' f r'=>⟨v,r,G1,G2,rfl,h3.put hl (fun z=>hd l z hm),up ys' ws' f r',hd,rfl⟩⟩
end
theorem ZcQ {F:Nat->List Addr}{i:Nat}:JT F i (F i)=F:=by
 funext j
 by_cases q:j=i
 ·subst q;exact Zo
 ·exact Zt q
theorem ZfX {ρ:List PV}{i:Nat}:ρ.set i (gv i ρ)=ρ:=by
 apply Zr6
 intro q
 by_cases e:i=q
 ·subst e
  by_cases h:i<ρ.length
  ·rw[Zrf h,gv,ZqF,ZqH h];rfl
  ·rw[Zrc (by simpa using h),Zrc (by simpa using h)]
 ·rw[ZqZ e]
section
variable {K:W.Frag}{B:Addr->Prop}{EX:PX->Hp->Prop}{H0 H H':Hp}{σ:St}{Γ Γ1 Γ2:List Md}{ρ:List PV}{F F':Nat->List Addr}{R:List Addr}{te tb:TE}{f:List PV->Rr PV}{fm fm2:List PV->Rr (PV×PV)}{fs:List Str}{n fl m:Str}{i l:Nat}{k:Kd}
theorem Ag.fldL {p:Option Addr}{gs:List Str}{xs ys:List PV} (A:Ag K B H0 H σ Γ ρ F R) (hm:Γ[i]?=some .O) (e:ρ.getD i .non=.box p (.ob n gs) xs) (hj:xs[gs.idxOf fl]?=some (.lst ys)) (hf:PV.flats ys=true) :
  ∃a C dx fs l ws,σ[i]?=some (some (.ref a))/\H a=some (.ins C dx fs)/\QW K n C/\fs.lookup fl=some (.ref l)/\H l=some (.lst ws)/\l≠a/\Reps K H (fun _=>True) ys ws/\l∈F i /\
   ∀ys' ws',PV.flats ys'=true->Reps K H (fun _=>True) ys' ws'->Ag K B H0 (upd H l (.lst ws')) σ Γ (ρ.set i (.box p (.ob n gs) (xs.set (gs.idxOf fl) (.lst ys')))) F R:=by
 obtain⟨v,h1,h2⟩:=A.getO hm
 rw[e] at h2
 obtain⟨a,vs,u,G,rfl,ha,⟨hp,hl,C,dx,rfl,hC⟩,ht,hn,hF⟩:=h2
 obtain⟨q,ws,e1,e2,e3,e4,up⟩:=Trees.upL hf ht hj
 have hqa:q≠a:=fun z=>hn (z▸e4)
 have hqF:q∈F i:=by rw[hF];simp[e4]
 refine⟨a,C,dx,_,q,ws,h1,ha,hC,by rw[Uz hl];exact e1,e2,hqa,e3,hqF,fun ys' ws' f r=>?_⟩
 have AC:=Ag.chg (G:=[]) (G':=F i) (R:=R) (x':=.box p (.ob n gs) (xs.set (gs.idxOf fl) (.lst ys'))) (vs':=ws') A hm hqF (fun b hb=>.inl hb) (by simp) ⟨_,h1,a,vs,_,G,rfl,by rw[Zp (Ne.symm hqa)];exact ha,⟨hp,hl,C,dx,rfl,hC⟩,up ys' ws' f r,hn,hF⟩
 rw[ZcQ] at AC
 exact AC
def DMf (K:W.Frag) (EX:PX->Hp->Prop) (Γ:List Md) (i:Nat) (te:TE) (fm:List PV->Rr (PV×PV)):Prop:=
 ∀(B:Addr->Prop) (H0 H:Hp) (σ:St) (ρ:List PV) (F:Nat->List Addr) (Q:VK),Ag K B H0 H σ Γ ρ F [] ->
  Dn (fm ρ) (fun r=>∀v H' F',Frm H F H' F'->(∀a C dx fs,H a=some (.ins C dx fs)->H' a=some (.ins C dx fs))->r.1.flat=true->Rep K H' (fun _=>True) r.1 v->Ag K B H0 H' σ Γ (ρ.set i r.2) F' []->Q v H') (fun e=>∀H',Zy H0 H'->EX e H')->te σ H Q
theorem DMf.dm (h:DMf K EX Γ i te fm):DM K EX Γ i te fm:=fun B H0 H σ ρ F Q A d =>
 h B H0 H σ ρ F Q A (d.imp (fun r _ q v H' F' fr _ hf rp A'=>q v H' F' [] fr (rp.tree hf) (by simp) A') fun e q=>q)
theorem Zds (he:DE K EX Γ Γ .P te f):DMf K EX Γ i te (fun ρ=>(f ρ).bind fun x=>.ok (x,gv i ρ)):=fun B H0 H σ ρ F Q A d=>by
 refine he B H0 H σ ρ F [] _ A (d.bind.imp (fun x _ d v H1 s1 r=>?_) fun e q=>q)
 obtain⟨F1,f1,hf,p1,A1⟩:=r
 exact d v H1 F1 (Frm.of s1 f1) (fun a C dx fs e=>s1 _ _ e) hf p1 (by rw[ZfX];exact A1)
noncomputable def popL (ys:List PV):Rr (PV×List PV):=if PV.flats ys=true/\ys.length≠0 then .ok (ys.getD (ys.length-1) .non,ys.dropLast) else .bad
theorem Dn.popL {ys:List PV}{ok:PV×List PV->Prop}{ex:PX->Prop} (d:Dn (popL ys) ok ex):PV.flats ys=true/\0<ys.length/\ok (ys.getD (ys.length-1) .non,ys.dropLast):=by
 unfold L2.popL at d
 split at d
 ·rename_i h
  exact⟨h.1,by omega,d⟩
 ·exact d.elim
noncomputable def US (n fl:Str) (x:PV) (ys:List PV):Rr PV:=match x with
 |.box p (.ob m gs) xs=>.ok (.box p (.ob m gs) (xs.set (gs.idxOf fl) (.lst ys)))
 |_=>.bad
noncomputable def ZhR (n fl:Str) (x:PV):Rr (PV×PV):=(pFld n fl x).bind fun y=>(asL y).bind fun ys=>(popL ys).bind fun r=>(US n fl x r.2).bind fun z=>.ok (r.1,z)
theorem Vl {ys:List PV} (h:PV.flats ys=true) (h0:0<ys.length):(ys.getD (ys.length-1) .non).flat=true:=by
 have hx:ys[ys.length-1]?=some (ys.getD (ys.length-1) .non):=by rw[ZqF,ZqH (by omega)];rfl
 exact PV.flats_all.mp h _ (ZqG hx)
theorem QP {ys:List PV} (h:PV.flats ys=true):PV.flats ys.dropLast=true:=PV.flats_all.mpr fun x hx=>PV.flats_all.mp h x (Zsd _ hx)
theorem ZaO {S:Addr->Prop}{ys:List PV}{ws:List V} (h:Reps K H S ys ws):Reps K H S ys.dropLast ws.dropLast:=by
 rw[List.dropLast_eq_take,List.dropLast_eq_take,h.length];exact h.take _
theorem ZaN {S:Addr->Prop}{ys:List PV}{ws:List V} (h:Reps K H S ys ws) (h0:0<ys.length):∃w,ws[ws.length-1]?=some w/\Rep K H S (ys.getD (ys.length-1) .non) w:=by
 have hx:ys[ys.length-1]?=some (ys.getD (ys.length-1) .non):=by rw[ZqF,ZqH (by omega)];rfl
 obtain⟨w,e1,e2⟩:=h.get hx
 exact⟨w,by rw[h.length];exact e1,e2⟩
theorem Zdl {x:PV}{v:V}{q:Addr}{ws:List V}{o:HO} (hq:H q=some (.lst ws)) (hf:x.flat=true) (h:Rep K H (fun _=>True) x v):Rep K (upd H q o) (fun _=>True) x v:=((h.tree hf).put hq (by simp)).rep (by simp)
theorem ZbV {q:Addr}{o:HO} (hq:q∈F i):Frm H F (upd H q o) F:=fun b u h n=>⟨by rw[Zp (fun z=>n i (by rw[z];exact hq))];exact h,n⟩
theorem ZbY (O:ObC K n fs) (hf:fl∈fs) (hm:Γ[i]?=some .O):DMf K EX Γ i (ZkH K "list" ZkL (Zej K (UP i) fl)) (fun ρ=>ZhR n fl (gv i ρ)):=fun B H0 H σ ρ F Q A d=>by
 obtain⟨C,hC,c,na⟩:=O
 obtain⟨p,gs,xs,y,e,ey,d⟩:=Dn.pFld d.bind
 obtain⟨ys,ye,d⟩:=Dn.asL d.bind
 rw[ye] at ey
 obtain⟨hfl,h0,d⟩:=Dn.popL d.bind
 have e':ρ.getD i .non=.box p (.ob n gs) xs:=e
 obtain⟨a,C',dx,fs',q,ws,h1,ha,hC',lk,hq,hqa,hr,hqF,up⟩:=A.fldL hm e' ey hfl
 obtain rfl:=hC.inj hC'
 dsimp only at d
 rw[e] at d
 have d:(∀v H' F',_):=d
 obtain⟨w,hw,rw'⟩:=ZaN hr h0
 refine⟨.ref a,h1,a,C,dx,fs',.ref q,rfl,.inl ha,c,na _ hf,lk,.inl ⟨rfl,_,SqL.of hq⟩,q,ws,w,rfl,rfl,hq,hw, ?_⟩
 refine d w _ F (ZbV hqF) (fun b D ex gs' hb=>?_) (Vl hfl h0) (Zdl hq (Vl hfl h0) rw') (up _ _ (QP hfl) (ZaO hr))
 rw[Zp (fun z=>by rw[z,hq] at hb;cases hb)];exact hb
noncomputable def ZkO (x:PV):Rr (PV×PV):=(asL x).bind fun ys=>(popL ys).bind fun r=>.ok (r.1,.lst r.2)
theorem Zdr (hm:Γ[i]?=some .O):DMf K EX Γ i (ZkH K "list" ZkL (UP i)) (fun ρ=>ZkO (gv i ρ)):=fun B H0 H σ ρ F Q A d=>by
 obtain⟨ys,e,d⟩:=Dn.asL d.bind
 obtain⟨hfl,h0,d⟩:=Dn.popL d.bind
 obtain⟨v,h1,h2⟩:=A.getO hm
 rw[show ρ.getD i .non=.lst ys from e] at h2
 obtain⟨q,ws,G,rfl,hq,ht,hn,hF⟩:=h2
 have hG:=Trees.flat_nil hfl ht
 subst hG
 have hr:Reps K H (fun _=>True) ys ws:=ht.reps fun _ _=>trivial
 obtain⟨w,hw,rw'⟩:=ZaN hr h0
 have hqF:q∈F i:=by rw[hF];simp
 refine⟨.ref q,h1,.inl ⟨rfl,_,SqL.of hq⟩,q,ws,w,rfl,rfl,hq,hw, ?_⟩
 have d:(∀v H' F',_):=d
 have AC:=Ag.chg (G:=[]) (G':=F i) (R:=[]) (x':=.lst ys.dropLast) (vs':=ws.dropLast) A hm hqF (fun b hb=>.inl hb) (by simp) ⟨_,h1,q,_,[],rfl,Zv,((ZaO hr).trees (QP hfl)).put hq (by simp),by simp,hF⟩
 rw[ZcQ] at AC
 refine d w _ F (ZbV hqF) (fun b D ex gs' hb=>?_) (Vl hfl h0) (Zdl hq (Vl hfl h0) rw') AC
 rw[Zp (fun z=>by rw[z,hq] at hb;cases hb)];exact hb
theorem Zg5 {x:PV}{v:V} (A:Ag K B H0 H σ Γ ρ F R) (fr:Frm H F H' F') (hf:x.flat=true) (h:Rep K H (fun _=>True) x v):Rep K H' (fun _=>True) x v:=by
 refine ZT.rep (F:=[]) (by simp) (ZT.mono (by simp) (fun a u im=>?_) (h.tree hf))
 refine⟨(fr a u im.1 fun j z=>?_).1,im.2⟩
 obtain⟨vs,q⟩:=A.live j a z
 rw[im.1] at q
 exact UA vs.2 im.2 (Option.some.inj q)
theorem ZgA (h1:DMf K EX Γ i te fm) (h2:DMf K EX Γ i tb fm2):DMf K EX Γ i (Zkw (Vx te (Vx tb ZdW))) (fun ρ=>(fm ρ).bind fun r=>(fm2 (ρ.set i r.2)).bind fun q=>.ok (.tup [r.1,q.1],q.2)):=fun B H0 H σ ρ F Q A d=>by
 refine h1 B H0 H σ ρ F _ A (d.bind.imp (fun r _ d v H1 F1 fr1 k1 hf1 p1 A1=>?_) fun e q=>q)
 refine h2 B H0 H1 σ _ F1 _ A1 (d.bind.imp (fun q _ d w H2 F2 fr2 k2 hf2 p2 A2=>?_) fun e q=>q)
 refine⟨by show 2<=_;rw[sizeLine_eq];decide,fun p hp=>?_⟩
 have s3:Zy H2 (upd H2 p (.tup [v,w])):=Zy.new hp
 have A3:=A2.grow s3
 rw[Zs0] at A3
 have p1':=Zg5 A1 fr2 hf1 p1
 exact d _ _ F2 ((fr1.trans fr2).trans (Frm.of s3 fun _ _ h=>h)) (fun a C dx fs e=>s3 _ _ (k2 _ _ _ _ (k1 _ _ _ _ e))) (by simp[PV.flat,PV.flats,hf1,hf2]) ⟨p,_,rfl,⟨Zv,trivial⟩,v,_,rfl,p1'.same s3,w,_,rfl,p2.same s3,rfl⟩ A3
noncomputable def ZiE (n fl:Str) (x y:PV):Rr PV:=(pFld n fl x).bind fun z=>(asL z).bind fun ys=>if PV.flats ys=true/\ys.length<1000000 then US n fl x (ys++[y]) else .bad
noncomputable def Ziu (n fl:Str) (x:PV):Rr PV:=(pFld n fl x).bind fun z=>(asL z).bind fun ys=>if PV.flats ys=true then .ok .non else .bad
theorem Qt (O:ObC K n fs) (hf:fl∈fs) (hm:Γ[i]?=some .O) (he:DMf K EX Γ i te fm):DS K EX Γ ⟨Γ,Γ1,Γ2,k⟩ (Zd3 (tBM K "list" Zaf (Zej K (UP i) fl) (Vx te ZdW)))
  (fun ρ=>(Ziu n fl (gv i ρ)).thenS fun _=>(fm ρ).thenS fun r=>(ZiE n fl r.2 r.1).thenS fun z=>.next (ρ.set i z)):=fun B H0 H σ ρ F D A d=>by
 obtain⟨C,hC,c,na⟩:=O
 have d:=d.thenS
 obtain⟨p,gs,xs,y,e,ey,d⟩:=Dn.pFld d.bind
 obtain⟨ys,ye,d⟩:=Dn.asL d.bind
 rw[ye] at ey
 split at d
 rotate_left
 ·exact d.elim
 rename_i hfl
 have e':ρ.getD i .non=.box p (.ob n gs) xs:=e
 obtain⟨a,C',dx,fs',q,ws,h1,ha,hC',lk,hq,hqa,hr,hqF,up⟩:=A.fldL hm e' ey hfl
 obtain rfl:=hC.inj hC'
 refine⟨.ref a,h1,a,C,dx,fs',.ref q,rfl,.inl ha,c,na _ hf,lk,.inl ⟨rfl,_,SqL.of hq⟩, ?_⟩
 refine he B H0 H σ ρ F _ A ((show DnS _ _ _ _ _ _ _ _ _ from d).thenS.imp (fun r _ d v H1 F1 fr1 k1 hf1 p1 A1=>?_) fun e q=>q)
 have d:=d.thenS
 obtain⟨p2,gs2,xs2,y2,e2,ey2,d⟩:=Dn.pFld d.bind
 obtain⟨ys2,ye2,d⟩:=Dn.asL d.bind
 rw[ye2] at ey2
 split at d
 rotate_left
 ·exact d.elim
 rename_i hfl2
 have hi:=A.lt hm
 have e3:(ρ.set i r.2).getD i .non=.box p2 (.ob n gs2) xs2:=by
  rw[ZqF,Zrf (by rw[A.lenR];exact hi)];exact e2
 obtain⟨a2,C2,dx2,fs2,q2,ws2,h12,ha2,hC2,lk2,hq2,hqa2,hr2,hqF2,up2⟩:=A1.fldL hm e3 ey2 hfl2.1
 rw[h1] at h12;cases h12
 have hk:=k1 _ _ _ _ ha
 rw[ha2] at hk;cases hk
 rw[lk] at lk2;cases lk2
 rw[e2] at d
 refine⟨q,ws2,v,rfl,rfl,hq2,by rw[hr2.length];exact ZqU hfl2.2 (by rw[sizeLine_eq];decide), ?_⟩
 have A4:=up2 (ys2++[r.1]) (ws2++[v]) (by rw[PV.flats_append,hfl2.1];simp[PV.flats,hf1]) (hr2.append (Reps.one p1))
 rw[Zs0] at A4
 exact(show ∀σ' H' F',_ from d) σ _ F1 (fr1.trans (ZbV hqF2)) A4
end
noncomputable def Ze0 (f:Str) (gs:List Str):List Str:=if f∈gs then gs else gs++[f]
noncomputable def ZbA {α:Type} (f:Str) (gs:List Str) (xs:List α) (y:α):List α:=if f∈gs then xs.set (gs.idxOf f) y else xs++[y]
theorem ZcB {f:Str}{v:V}:∀{gs:List Str}{vs:List V},gs.length=vs.length->QH f v (gs.zip vs)=(Ze0 f gs).zip (ZbA f gs vs v)
 |[],[],_=>by simp[QH,Ze0,ZbA]
 |[],_::_,h=>by simp at h
 |_::_,[],h=>by simp at h
 |g::gs,w::vs,h=>by
  have ih:=ZcB (f:=f) (v:=v) (gs:=gs) (vs:=vs) (by simpa using h)
  unfold Ze0 ZbA at ih ⊢
  rw[ZrG,QH]
  by_cases e:g=f
  ·subst e
   simp[Zs1]
  ·have e2:(g==f)=false:=beq_eq_false_iff_ne.mpr e
   rw[if_neg e,ih]
   by_cases hm:f∈gs
   ·rw[if_pos hm,if_pos hm,if_pos (by simp[hm]),if_pos (by simp[hm]),Zs1,e2]
    simp
   ·have hm':f ∉ g::gs:=by simp[hm,Ne.symm e]
    rw[if_neg hm,if_neg hm,if_neg hm',if_neg hm']
    simp
theorem ZfZ {α:Type}{f:Str}{gs:List Str}{vs:List α}{v:α} (h:gs.length=vs.length):(Ze0 f gs).length=(ZbA f gs vs v).length:=by
 unfold Ze0 ZbA
 split<;>simp[h]
noncomputable def pSetF (n f:Str) (x y:PV):Rr PV:=match x with
 |.box p (.ob m gs) xs=>if m=n/\gs.length<1000 then .ok (.box p (.ob m (Ze0 f gs)) (ZbA f gs xs y)) else .bad
 |_=>.bad
theorem Dn.pSetF {n f:Str}{x y:PV}{ok:PV->Prop}{ex:PX->Prop} (d:Dn (pSetF n f x y) ok ex):∃p gs xs,x=.box p (.ob n gs) xs/\gs.length<1000/\ok (.box p (.ob n (Ze0 f gs)) (ZbA f gs xs y)):=by
 unfold L2.pSetF at d
 split at d
 ·rename_i p m gs xs
  split at d
  ·rename_i h
   obtain⟨rfl,h⟩:=h
   exact⟨p,gs,xs,rfl,h,d⟩
  ·exact d.elim
 ·exact d.elim
section
variable {K:W.Frag}{B:Addr->Prop}{EX:PX->Hp->Prop}{H0 H H':Hp}{σ:St}{Γ Γ' Γ1 Γ2:List Md}{ρ:List PV}{F F':Nat->List Addr}{R:List Addr}{te:TE}{f:List PV->Rr PV}{fs:List Str}{n fl:Str}{i:Nat}{k:Kd}
theorem Trees.setN:∀{xs:List PV}{vs:List V}{G G1:List Addr}{j:Nat}{y:PV}{w:V},Trees K H xs vs G->ZT K H y w G1->(∀a∈G,a ∉ G1)->∃G',(∀a∈G',a∈G\/a∈G1)/\Trees K H (xs.set j y) (vs.set j w) G'
 |[],_,_,_,_,_,_,h,_,_=>⟨[],by simp,by rw[h.1];exact⟨rfl,rfl⟩⟩
 |x::xs,_,_,G3,0,y,w,h,h',hd=>by
  obtain⟨v,r,G1,G2,rfl,h1,h2,h3,rfl⟩:=h
  refine⟨G3++G2,fun a ha=>?_,w,r,G3,G2,rfl,h',h2,fun a ha z=>hd a (by simp[z]) ha,rfl⟩
  rcases ZqK.mp ha with z|z
  ·exact .inr z
  ·exact .inl (by simp[z])
 |x::xs,_,_,G3,j+1,y,w,h,h',hd=>by
  obtain⟨v,r,G1,G2,rfl,h1,h2,h3,rfl⟩:=h
  obtain⟨G',h4,h5⟩:=Trees.setN (j:=j) h2 h' fun a ha=>hd a (by simp[ha])
  refine⟨G1++G',fun a ha=>?_,v,r.set j w,G1,G',rfl,h1,h5,fun a ha z=>?_,rfl⟩
  ·rcases ZqK.mp ha with z|z
   ·exact .inl (by simp[z])
   ·rcases h4 a z with q|q
    ·exact .inl (by simp[q])
    ·exact .inr q
  ·rcases h4 a z with q|q
   ·exact h3 a ha q
   ·exact hd a (by simp[ha]) q
theorem Trees.putXs {xs:List PV}{vs:List V}{G G1:List Addr}{y:PV}{w:V}{gs:List Str} (h:Trees K H xs vs G) (h':ZT K H y w G1) (hd:∀a∈G,a ∉ G1):∃G',(∀a∈G',a∈G\/a∈G1)/\Trees K H (ZbA fl gs xs y) (ZbA fl gs vs w) G':=by
 unfold ZbA
 split
 ·exact Trees.setN h h' hd
 ·exact⟨G++G1,fun a ha=>ZqK.mp ha,Trees.append h (Trees.one h') hd⟩
theorem VL (O:ObC K n fs) (hf:fl∈fs) (hm:Γ'[i]?=some .O) (he:DE K EX Γ Γ' .F te f):DS K EX Γ ⟨Γ',Γ1,Γ2,k⟩ (ZkI K (UP i) te fl) (fun ρ=>(f ρ).thenS fun y=>(pSetF n fl (gv i ρ) y).thenS fun z=>.next (ρ.set i z)):=fun B H0 H σ ρ F D A d=>by
 obtain⟨C,hC,c,na⟩:=O
 refine he B H0 H σ ρ F [] _ A (d.thenS.imp (fun y _ d v H1 s1 r=>?_) fun e q=>q)
 obtain⟨F1,f1,G1,t1,o1,A1⟩:=r
 obtain⟨p,gs,xs,e,hl,d⟩:=Dn.pSetF d.thenS
 obtain⟨w,h1,h2⟩:=A1.getO hm
 rw[show ρ.getD i .non=.box p (.ob n gs) xs from e] at h2
 obtain⟨a,vs,u,G,rfl,ha,⟨hp,hlen,C',dx,rfl,hC'⟩,ht,hn,hF⟩:=h2
 obtain rfl:=hC.inj hC'
 have haF:a∈F1 i:=by rw[hF];simp
 have dj:∀b∈G,b ∉ G1:=fun b hb z=>A1.disjR i b (by rw[hF];simp[hb]) (ZqM _ z)
 have na1:a ∉ G1:=fun z=>A1.disjR i a haF (ZqM _ z)
 obtain⟨G',g1,g2⟩:=Trees.putXs (fl:=fl) (gs:=gs) ht t1 dj
 have naG:a ∉ G':=fun z=>(g1 a z).elim hn na1
 refine⟨.ref a,h1,a,C,dx,_,rfl,ha,c,na _ hf,by rw[Zsy];omega, ?_⟩
 have hsub:∀b∈a::G',b∈F1 i\/b∈G1:=fun b hb=>by
  rw[hF]
  rcases ZqS.mp hb with rfl|hb
  ·simp
  ·rcases g1 b hb with z|z
   ·simp[z]
   ·exact .inr z
 refine(show ∀σ' H' F',_ from d) σ _ (JT F1 i (a::G')) (Qq s1 f1 haF fun b hb=>?_) (Ag.chgB (o':=.ins C dx (QH fl v (gs.zip vs))) (G:=G1) (R:=[]) trivial A1 hm haF hsub (by simp) ?_)
 ·rcases hsub b hb with z|z
  ·exact .inr ⟨i,f1 i b z⟩
  ·exact(o1 b z).2
 ·exact⟨_,h1,a,ZbA fl gs vs v,_,G',rfl,Zv,⟨hp,ZfZ hlen,C,dx,by rw[ZcB hlen],hC⟩,g2.putL (us:=⟨.ins C dx (gs.zip vs),trivial⟩) ha naG,naG,rfl⟩
end
section
variable {X:Cx}{K:W.Frag}{o value:Expr}{f:Str}{pos pos':Pos}{ta tv:TE}
theorem Zaj (ha:PE X o ta) (hv:PE X value tv) (eK:X.K=K:=by rfl) (hs:swapsWith value (some (.Attribute o f pos')) pos.line X.env=pure false:=by rfl):PS X (.Assign [.Attribute o f pos'] value pos) (ZkI K ta tv f):=by
 subst eK;exact Zjs ha hv hs
end
noncomputable def Q3 (K:W.Frag) (n:Str) (fs:List Str):Bool:=match PySem.W.nsIn K mainGlobals n with
 |some (some (.ref C))=>PySem.W.plainGet K C Str.empty&&PySem.W.hasDictIn K C&&PySem.W.plainOver K C&&PySem.W.makesIn K C&&PySem.W.keepIn K (.ref C)&&(PySem.W.findIn K (.ref C) "__setattr__" == some (some (.builtin "object.__setattr__")))&&fs.all (fun f=>PySem.W.findIn K (.ref C) f==some none)
 |_=>false
theorem Q2 {K:W.Frag}{n:Str}{fs:List Str} (h:Q3 K n fs=true):∃C,QW K n C/\Cls K C/\(∀f∈fs,Q6 K C f)/\PySem.W.makesIn K C=true/\PySem.W.keepIn K (.ref C)=true:=by
 unfold Q3 at h
 split at h
 ·rename_i C e
  simp only[Bool.and_eq_true,ZrK,beq_iff_eq] at h
  obtain⟨⟨⟨⟨⟨⟨h1,h2⟩,h3⟩,h4⟩,h5⟩,h6⟩,h7⟩:=h
  exact⟨C,e,⟨h1,h2,h3,h6⟩,h7,h4,h5⟩
 ·cases h
theorem Z2 {K:W.Frag}{n:Str}{fs:List Str} (h:Q3 K n fs=true):ObC K n fs:=let ⟨C,a,b,c,_⟩:=Q2 h;⟨C,a,b,c⟩
section
variable {P:Program}{w:World}{K:W.Frag}{mg:Str->Option Value}{base:Heap}{k:Nat}{n m qual:Str}{st:Stmt}{ps fs:List Str}{sp:Sp}
theorem Qb (h:Q3 K n fs=true) (d:ZgQ K n m qual st) (b:∀(kV doc pm:Value) (an:Option Addr) (cdv ct:Value) (us:List Value),us.length=ps.length->bindArgs (PySem.W.fnOf m qual (Zs st) (Zq st) (Ze st) .none kV doc pm an cdv ct) ⟨us,[]⟩=pure (ps.zip us))
  (hf:∀{f fd},Fun K m qual st f fd->J0 P w K mg base CX0 k f fd ps sp):OkM P w K mg base k n m ps sp:=by
 obtain⟨C,a,c,_,_⟩:=Q2 h
 obtain⟨C',f,fd,hC,h1,h2,F⟩:=d
 obtain rfl:=a.inj hC
 exact⟨C,f,fd,a,c,⟨h1,by unfold PySem.W.isFn;rw[h2];rfl,F.kp⟩,hf F,F.binds b⟩
theorem Zj7 (h:Q3 K n fs=true) (d:ZgQ K n "__init__" qual st) (hg:∀C,QW K n C->mg n=some (.ref C)) (b:∀(kV doc pm:Value) (an:Option Addr) (cdv ct:Value) (us:List Value),us.length=ps.length->bindArgs (PySem.W.fnOf "__init__" qual (Zs st) (Zq st) (Ze st) .none kV doc pm an cdv ct) ⟨us,[]⟩=pure (ps.zip us))
  (hf:∀{f fd},Fun K "__init__" qual st f fd->J0 P w K mg base CX0 k f fd ps sp):OkC P w K mg base k n ps sp:=by
 obtain⟨C,a,c,_,mk,kp⟩:=Q2 h
 obtain⟨C',f,fd,hC,h1,h2,F⟩:=d
 obtain rfl:=a.inj hC
 exact⟨C,f,fd,a,hg C a,⟨mk,h1,by unfold PySem.W.isFn;rw[h2];rfl,kp⟩,hf F,F.binds b⟩
end
end L2
namespace My
open L2
noncomputable def tab (n:Nat) (f:Nat->Int):List Int:=(List.range n).map f
theorem Z6 (n:Nat) (f:Nat->Int):(tab n f).length=n:=by simp[tab]
theorem Vw {n:Nat}{f:Nat->Int}{x:Nat} (h:x<n):(tab n f).getD x 0=f x:=by
 rw[ZqF,tab,Zri,Zsi h];rfl
theorem UN {n:Nat}{f:Nat->Int}{l:List Int} (hl:l.length=n) (h:∀x,x<n->l.getD x 0=f x):l=tab n f:=by
 apply List.ext_getElem
 ·rw[hl,Z6]
 ·intro i h1 h2
  have:=h i (by omega)
  rw[ZqF,ZqH h1] at this
  simp only[tab,List.getElem_map,List.getElem_range]
  exact this
theorem Zgs (l:List Int):l=tab l.length fun x=>l.getD x 0:=UN rfl fun _ _=>rfl
theorem getD_set {l:List Int}{j x:Nat}{v:Int} (h:j<l.length):(l.set j v).getD x 0=if x=j then v else l.getD x 0:=by
 rw[ZqF,ZqF]
 by_cases e:x=j
 ·subst e;rw[Zrf h,if_pos rfl];rfl
 ·rw[ZqZ (Ne.symm e),if_neg e]
theorem Zeh {n:Nat}{f:Nat->Int}{j:Nat}{v:Int} (h:j<n):(tab n f).set j v=tab n fun x=>if x=j then v else f x:=by
 refine UN (by rw[Zr8,Z6]) fun x hx=>?_
 rw[getD_set (by rw[Z6];exact h)]
 by_cases e:x=j
 ·rw[if_pos e,if_pos e]
 ·rw[if_neg e,if_neg e,Vw hx]
theorem UO {n:Nat}{f g:Nat->Int} (h:∀x,x<n->f x=g x):tab n f=tab n g:=UN (Z6 _ _) fun x hx=>by rw[Vw hx,h x hx]
theorem ZeV {n:Nat}{f:Nat->Int}{v:Int}:v∈tab n f ↔ ∃x,x<n/\f x=v:=by simp[tab]
theorem Jm {l:List Int}{x:Nat} (h:x<l.length):l.getD x 0∈l:=by
 rw[ZqF,ZqH h];exact Zsb h
theorem Zbb {l:List Int}{v:Int} (h:v∈l):∃x,x<l.length/\l.getD x 0=v:=by
 obtain⟨x,hx,e⟩:=List.getElem_of_mem h
 exact⟨x,hx,by rw[ZqF,ZqH hx,<- e];rfl⟩
theorem U4:∀{l:List Int}{j:Nat}{v:Int},j<l.length->(l.set j v).sum=l.sum-l.getD j 0+v
 |a::l,0,v,_=>by simp;omega
 |a::l,j+1,v,h=>by
  have:=U4 (l:=l) (j:=j) (v:=v) (by simpa using h)
  simp only[Zsp,ZrW,List.getD_cons_succ,this];omega
theorem UQ:∀(ns:List Int) (c:Int),(ns.map fun v=>v+c).sum=ns.sum+ns.length*c
 |[],c=>by simp
 |a::l,c=>by
  simp only[Zrb,ZrW,ZqY]
  rw[UQ l c,Int.natCast_add,Int.add_mul];omega
theorem ZX {n a b:Int} (ha:0<=a) (ha':a<n) (hb:0<=b) (hb':b<n):(a-b)%n=if b<=a then a-b else a-b+n:=by
 by_cases h:b<=a
 ·rw[if_pos h,Zrx (by omega) (by omega)]
 ·rw[if_neg h,<- Int.add_emod_right,Zrx (by omega) (by omega)]
theorem V0 {n a b:Int} (ha:0<=a) (ha':a<n) (hb:0<=b) (hb':b<n):(a+b)%n=if a+b<n then a+b else a+b-n:=by
 by_cases h:a+b<n
 ·rw[if_pos h,Zrx (by omega) (by omega)]
 ·rw[if_neg h,<- Int.sub_emod_right,Zrx (by omega) (by omega)]
structure Uy (ns:List Int):Prop where
 lo:2<=ns.length
 hi:ns.length<=24
 nn:∀x∈ns,0<=x
 sm:ns.sum<=10^60
theorem Uy.nn' {ns:List Int} (h:Uy ns) (x:Nat):0<=ns.getD x 0:=by
 by_cases hx:x<ns.length
 ·exact h.nn _ (Jm hx)
 ·rw[ZqF,Zrc (by omega)];exact Int.le_refl _
theorem sum_nn:∀{l:List Int},(∀x∈l,0<=x)->0<=l.sum
 |[],_=>by simp
 |a::l,h=>by
  have:=sum_nn (l:=l) fun x hx=>h x (by simp[hx])
  have:=h a (by simp)
  simp only[ZrW];omega
theorem Zfa:∀{l:List Int}{v:Int},(∀x∈l,0<=x)->v∈l->v<=l.sum
 |a::l,v,h,hv=>by
  have h1:=sum_nn (l:=l) fun x hx=>h x (by simp[hx])
  have h2:=h a (by simp)
  simp only[ZrW]
  rcases ZqS.mp hv with rfl|hv
  ·omega
  ·have:=Zfa (l:=l) (fun x hx=>h x (by simp[hx])) hv
   omega
noncomputable def ZiL (ns:List Int) (p:Int) (x:Nat):Int:=(if (x:Int)=p then 0 else ns.getD x 0)+ns.getD p.toNat 0/ns.length
noncomputable def Zjj (n:Int) (p:Int) (i:Int) (x:Nat):Int:=if 1<=((x:Int)-p)%n/\((x:Int)-p)%n<=i then 1 else 0
noncomputable def ZaL (ns:List Int) (p:Int) (i:Int) (x:Nat):Int:=ZiL ns p x+Zjj ns.length p i x
theorem Zeo (n p i:Int) (x:Nat):0<=Zjj n p i x:=by unfold Zjj;split<;>omega
theorem VB {n p i:Int}{x:Nat} (h:1<=((x:Int)-p)%n/\((x:Int)-p)%n<=i):Zjj n p i x=1:=if_pos h
theorem VU {n p i:Int}{x:Nat} (h:¬(1<=((x:Int)-p)%n/\((x:Int)-p)%n<=i)):Zjj n p i x=0:=if_neg h
theorem Zeq {ns:List Int}{p:Int}{x:Nat} (h:(x:Int)=p):ZiL ns p x=ns.getD p.toNat 0/ns.length:=by unfold ZiL;rw[if_pos h];omega
theorem Zb7 {ns:List Int}{p:Int}{x:Nat} (h:(x:Int)≠p):ZiL ns p x=ns.getD x 0+ns.getD p.toNat 0/ns.length:=by unfold ZiL;rw[if_neg h]
noncomputable def Zep (ns:List Int) (p:Int):List Int:=tab ns.length (ZaL ns p (ns.getD p.toNat 0%ns.length))
noncomputable def Zen (ns:List Int) (p:Int):Int:=(p+ns.getD p.toNat 0%ns.length)%ns.length
theorem Ju (ns:List Int) (p:Int):(Zep ns p).length=ns.length:=Z6 _ _
section
variable {ns:List Int}{p:Int}
theorem Zcz (h0:0<=p) (h1:p<ns.length):(ns.map fun v=>v+ns.getD p.toNat 0/ns.length).set p.toNat (ns.getD p.toNat 0/ns.length)=tab ns.length (ZaL ns p 0):=by
 refine UN (by simp) fun x hx=>?_
 rw[getD_set (by simp;omega)]
 unfold ZaL
 rw[VU (by omega)]
 by_cases e:x=p.toNat
 ·rw[if_pos e,Zeq (by omega)];omega
 ·rw[if_neg e,Zb7 (by omega)]
  simp[ZqF,ZqH hx]
theorem Zc0 (h0:0<=p) (h1:p<ns.length) {i:Nat} (hi:(i:Int)+1<ns.length) :
  (tab ns.length (ZaL ns p i)).set ((p+(i+1))%ns.length).toNat (ZaL ns p i ((p+(i+1))%ns.length).toNat+1)=tab ns.length (ZaL ns p ((i+1:Nat):Int)):=by
 have m1:=V0 h0 h1 (show (0:Int)<=(i:Int)+1 by omega) hi
 have hlt:((p+((i:Int)+1))%ns.length).toNat<ns.length:=by
  rw[m1];split<;>omega
 rw[Zeh hlt]
 refine UO fun x hx=>?_
 have m2:=ZX (n:=ns.length) (show (0:Int)<=(x:Int) by omega) (by omega) h0 h1
 by_cases e:x=((p+((i:Int)+1))%ns.length).toNat
 ·rw[if_pos e,<- e]
  unfold ZaL
  have hd:((x:Int)-p)%ns.length=i+1:=by
   rw[m2]
   rw[m1] at e
   split at e<;>split<;>omega
  rw[VU (by omega),VB (by omega)];omega
 ·rw[if_neg e]
  unfold ZaL
  have hd:((x:Int)-p)%ns.length≠i+1:=by
   intro z
   apply e
   rw[m2] at z
   rw[m1]
   split at z<;>split<;>omega
  by_cases q:1<=((x:Int)-p)%ns.length/\((x:Int)-p)%ns.length<=i
  ·rw[VB q,VB (by omega)]
  ·rw[VU q,VU (by omega)]
theorem ZaK (h0:0<=p) (h1:p<ns.length):∀i:Nat,(i:Int)<ns.length->(tab ns.length (ZaL ns p i)).sum=ns.sum+ns.length*(ns.getD p.toNat 0/ns.length)-ns.getD p.toNat 0+i
 |0,_=>by
  have:=Zcz h0 h1
  rw[ZrT,<- this,U4 (by simp;omega)]
  have e:=UQ ns (ns.getD p.toNat 0/ns.length)
  rw[e]
  have e2:(ns.map fun v=>v+ns.getD p.toNat 0/ns.length).getD p.toNat 0=ns.getD p.toNat 0+ns.getD p.toNat 0/ns.length:=by
   have hx:p.toNat<ns.length:=by omega
   rw[ZqF,Zri,ZqH hx]
   simp[hx]
  rw[e2];omega
 |i+1,hi=>by
  have ih:=ZaK h0 h1 i (by omega)
  have m1:=V0 h0 h1 (show (0:Int)<=(i:Int)+1 by omega) (by omega)
  have hlt:((p+((i:Int)+1))%ns.length).toNat<ns.length:=by rw[m1];split<;>omega
  rw[<- Zc0 h0 h1 (by omega),U4 (by rw[Z6];exact hlt),ih,Vw hlt];omega
theorem U7 (h0:0<=p) (h1:p<ns.length) (hs:0<=ns.getD p.toNat 0):(Zep ns p).sum=ns.sum:=by
 have b1:=Zru (ns.getD p.toNat 0) (show (ns.length:Int)≠0 by omega)
 have b2:=Zrr (ns.getD p.toNat 0) (show (0:Int)<ns.length by omega)
 have:=ZaK h0 h1 (ns.getD p.toNat 0%ns.length).toNat (by omega)
 rw[Zr7 b1] at this
 have e:=Int.mul_ediv_add_emod (ns.getD p.toNat 0) ns.length
 unfold Zep
 omega
theorem ZhK (hn:∀x∈ns,0<=x) (i:Int) (x:Nat) (hx:x<ns.length):0<=ZaL ns p i x:=by
 have h1:=hn _ (Jm hx)
 have h2:0<=ns.getD p.toNat 0:=by
  by_cases hp:p.toNat<ns.length
  ·exact hn _ (Jm hp)
  ·rw[ZqF,Zrc (by omega)];exact Int.le_refl _
 have h3:=Int.ediv_nonneg h2 (show (0:Int)<=ns.length by omega)
 have h4:=Zeo ns.length p i x
 unfold ZaL ZiL
 split<;>omega
end
noncomputable def run (f:Nat->Int):Nat->Nat->Nat
 |0,i=>i
 |k+1,i=>if 0<f i then run f k (i+1) else i
theorem Zae (f:Nat->Int):∀(k i:Nat),i<=run f k i/\run f k i<=i+k/\(∀j,i<=j->j<run f k i->0<f j)/\(run f k i<i+k->¬0<f (run f k i))
 |0,i=>⟨ZqJ _,ZqJ _,fun j h1 h2=>by simp only[run] at h2;omega,fun h=>by simp only[run] at h;omega⟩
 |k+1,i=>by
  unfold run
  by_cases h:0<f i
  ·rw[if_pos h]
   obtain⟨a,b,c,d⟩:=Zae f k (i+1)
   refine⟨by omega,by omega,fun j h1 h2=>?_,fun h=>d (by omega)⟩
   by_cases e:j=i
   ·subst e;assumption
   ·exact c j (by omega) h2
  ·rw[if_neg h]
   exact⟨ZqJ _,by omega,fun j h1 h2=>by omega,fun _=>h⟩
noncomputable def tbG (ns:List Int) (q:Int) (i:Nat):Int:=ns.getD ((q-i)%ns.length).toNat 0-Ul ns
noncomputable def tbJ (ns:List Int) (q:Int):Nat:=run (tbG ns q) ns.length 0
noncomputable def tbF (ns:List Int) (q:Int) (i:Nat) (x:Nat):Int:=ns.getD x 0-Ul ns-(if (q-x)%(ns.length:Int)<i then 1 else 0)
noncomputable def tbP (ns:List Int) (q:Int):Int:=(q-tbJ ns q)%ns.length
noncomputable def tbT (ns:List Int) (q:Int):Int:=Ul ns*ns.length+tbJ ns q
noncomputable def tbB (ns:List Int) (q:Int):List Int:=(tab ns.length (tbF ns q (tbJ ns q))).set (tbP ns q).toNat (tbT ns q)
theorem Jr (ns:List Int) (q:Int):(tbB ns q).length=ns.length:=by simp[tbB,Z6]
section
variable {ns:List Int}{q:Int}
theorem Zab (h0:0<=q) (h1:q<ns.length):tbJ ns q<ns.length/\(∀i,i<tbJ ns q->0<tbG ns q i)/\tbG ns q (tbJ ns q)=0:=by
 have hne:ns≠[]:=by intro e;rw[e] at h1;simp at h1;omega
 obtain⟨x,hx,ex⟩:=Zbb (Vg hne)
 have m1:=ZX (n:=ns.length) h0 h1 (show (0:Int)<=x by omega) (by omega)
 have b1:0<=(q-x)%(ns.length:Int)/\(q-x)%(ns.length:Int)<ns.length:=by rw[m1];split<;>omega
 have gx:tbG ns q ((q-x)%(ns.length:Int)).toNat=0:=by
  unfold tbG
  have:((q-(((q-x)%(ns.length:Int)).toNat:Nat))%(ns.length:Int)).toNat=x:=by
   rw[Zr7 b1.1,ZX h0 h1 b1.1 b1.2,m1]
   split<;>split<;>omega
  rw[this,ex];omega
 obtain⟨a,b,c,d⟩:=Zae (tbG ns q) ns.length 0
 have hlt:tbJ ns q<ns.length:=by
  unfold tbJ
  by_cases h:run (tbG ns q) ns.length 0<ns.length
  ·exact h
  ·have:=c ((q-x)%(ns.length:Int)).toNat (by omega) (by omega)
   rw[gx] at this;omega
 refine⟨hlt,fun i hi=>c i (by omega) hi, ?_⟩
 have h3:=d (by unfold tbJ at hlt;omega)
 have h4:0<=tbG ns q (tbJ ns q):=by
  unfold tbG
  have:=Zap (ns:=ns) (Jm (x:=((q-tbJ ns q)%(ns.length:Int)).toNat) (by
   have:=Zru (q-tbJ ns q) (show (ns.length:Int)≠0 by omega)
   have:=Zrr (q-tbJ ns q) (show (0:Int)<ns.length by omega)
   omega))
  omega
 have h5:¬0<tbG ns q (tbJ ns q):=h3
 omega
theorem ZhH (h0:0<=q) (h1:q<ns.length) {i:Nat} (hi:i<ns.length):(tab ns.length (tbF ns q i)).set ((q-i)%ns.length).toNat (tbF ns q i ((q-i)%ns.length).toNat-1)=tab ns.length (tbF ns q (i+1)):=by
 have m1:=ZX (n:=ns.length) h0 h1 (show (0:Int)<=i by omega) (by omega)
 have hlt:((q-(i:Int))%ns.length).toNat<ns.length:=by rw[m1];split<;>omega
 rw[Zeh hlt]
 refine UO fun x hx=>?_
 have m2:=ZX (n:=ns.length) h0 h1 (show (0:Int)<=(x:Int) by omega) (by omega)
 by_cases e:x=((q-(i:Int))%ns.length).toNat
 ·rw[if_pos e,<- e]
  unfold tbF
  have hd:(q-(x:Int))%ns.length=i:=by
   rw[m2];rw[m1] at e
   split at e<;>split<;>omega
  rw[hd,if_neg (by omega),if_pos (by omega)];omega
 ·rw[if_neg e]
  unfold tbF
  have hd:(q-(x:Int))%ns.length≠i:=by
   intro z;apply e
   rw[m2] at z;rw[m1]
   split at z<;>split<;>omega
  by_cases h:(q-(x:Int))%ns.length<i
  ·rw[if_pos h,if_pos (by omega)]
  ·rw[if_neg h,if_neg (by omega)]
theorem ZgW (h0:0<=q) (h1:q<ns.length) {i:Nat} (hi:i<ns.length):tbF ns q i ((q-i)%ns.length).toNat=tbG ns q i:=by
 have m1:=ZX (n:=ns.length) h0 h1 (show (0:Int)<=i by omega) (by omega)
 have hb:0<=(q-(i:Int))%ns.length/\(q-(i:Int))%ns.length<ns.length:=by rw[m1];split<;>omega
 unfold tbF tbG
 rw[Zr7 hb.1,ZX h0 h1 hb.1 hb.2,m1]
 have:¬((if (if (i:Int)<=q then q-i else q-i+ns.length)<=q then q-(if (i:Int)<=q then q-i else q-i+ns.length) else q-(if (i:Int)<=q then q-i else q-i+ns.length)+ns.length)<(i:Int)):=by
  split<;>split<;>omega
 rw[if_neg this];omega
end
theorem Zc1 {ns:List Int}{q:Int} (h0:0<=q) (h1:q<ns.length) (hn:∀x∈ns,0<=x):Zep (tbB ns q) (tbP ns q)=ns/\Zen (tbB ns q) (tbP ns q)=q:=by
 have len:=Jr ns q
 obtain⟨j1,j2,j3⟩:=Zab h0 h1
 have hne:ns≠[]:=by intro e;rw[e] at h1;simp at h1;omega
 have hm:=hn _ (Vg hne)
 have m0:=ZX (n:=ns.length) h0 h1 (show (0:Int)<=(tbJ ns q:Nat) by omega) (by omega)
 have eP:tbP ns q=if ((tbJ ns q:Nat):Int)<=q then q-tbJ ns q else q-tbJ ns q+ns.length:=m0
 have hP:0<=tbP ns q/\tbP ns q<ns.length:=by rw[eP];split<;>omega
 have hp:(tbP ns q).toNat<ns.length:=by omega
 have get:∀x,x<ns.length->(tbB ns q).getD x 0=if x=(tbP ns q).toNat then tbT ns q else tbF ns q (tbJ ns q) x:=fun x hx=>by
  unfold tbB
  rw[getD_set (by rw[Z6];exact hp),Vw hx]
 have gp:(tbB ns q).getD (tbP ns q).toNat 0=tbT ns q:=by rw[get _ hp,if_pos rfl]
 have et:tbT ns q/ns.length=Ul ns/\tbT ns q%ns.length=tbJ ns q:=by
  unfold tbT
  constructor
  ·rw[Int.add_comm,Int.add_mul_ediv_right _ _ (by omega),Int.ediv_eq_zero_of_lt (by omega) (by omega)];omega
  ·rw[Int.add_comm,Int.add_mul_emod_self_right,Zrx (by omega) (by omega)]
 constructor
 ·unfold Zep
  rw[len]
  refine((Zgs ns).trans (UO fun x hx=>?_)).symm
  unfold ZaL
  rw[gp,len,et.2]
  have m1:=ZX (n:=ns.length) (show (0:Int)<=x by omega) (by omega) hP.1 hP.2
  have m2:=ZX (n:=ns.length) h0 h1 (show (0:Int)<=x by omega) (by omega)
  by_cases e:(x:Int)=tbP ns q
  ·rw[Zeq e,gp,len,et.1,VU (by rw[e,Int.sub_self,Int.zero_emod];omega)]
   have:x=((q-(tbJ ns q:Nat))%(ns.length:Int)).toNat:=by
    show x=(tbP ns q).toNat
    omega
   unfold tbG at j3
   rw[<- this] at j3;omega
  ·rw[Zb7 e,gp,len,et.1,get x hx,if_neg (by omega)]
   unfold tbF
   have key:(1<=((x:Int)-tbP ns q)%ns.length/\((x:Int)-tbP ns q)%ns.length<=(tbJ ns q:Int)) ↔ (q-x)%(ns.length:Int)<(tbJ ns q:Int):=by
    rw[m1,m2]
    rw[eP] at e ⊢
    split<;>split<;>split at *<;>omega
   by_cases c:(q-x)%(ns.length:Int)<(tbJ ns q:Int)
   ·rw[if_pos c,VB (key.mpr c)];omega
   ·rw[if_neg c,VU (fun z=>c (key.mp z))];omega
 ·unfold Zen
  rw[gp,len,et.2,V0 hP.1 hP.2 (by omega) (by omega),eP]
  split<;>split<;>omega
structure J3 (ns:List Int) (p:Int):Prop where
 bd:Uy ns
 lo:0<=p
 hi:p<ns.length
 pos:0<ns.getD p.toNat 0
noncomputable def Za9 (a:List Int×Int):List Int×Int:=(Zep a.1 a.2,Zen a.1 a.2)
noncomputable def tbS (a:List Int×Int):List Int×Int:=(tbB a.1 a.2,tbP a.1 a.2)
theorem Zem {ns:List Int}{p:Int} (h:J3 ns p):Uy (Zep ns p):=by
 have:=h.lo;have:=h.hi
 refine⟨by rw[Ju];exact h.bd.lo,by rw[Ju];exact h.bd.hi,fun x hx=>?_, ?_⟩
 ·obtain⟨y,hy,rfl⟩:=ZeV.mp hx
  exact ZhK h.bd.nn _ y hy
 ·rw[U7 h.lo h.hi (h.bd.nn' _)];exact h.bd.sm
theorem Zd4 {ns:List Int}{p:Int} (h0:0<=p) (h1:p<ns.length):0<=Zen ns p/\Zen ns p<ns.length:=
 ⟨Zru _ (by omega),Zrr _ (by omega)⟩
theorem UR {ns:List Int}{p:Int} (h:J3 ns p):J3 (Zep ns p) (Zen ns p):=by
 have h0:=h.lo
 have h1:=h.hi
 have hs:=h.pos
 obtain⟨l0,l1⟩:=Zd4 h0 h1
 refine⟨Zem h,l0,by rw[Ju];exact l1, ?_⟩
 have o0:=Zru (ns.getD p.toNat 0) (show (ns.length:Int)≠0 by omega)
 have o1:=Zrr (ns.getD p.toNat 0) (show (0:Int)<ns.length by omega)
 have es:=Int.mul_ediv_add_emod (ns.getD p.toNat 0) ns.length
 have dn:=Int.ediv_nonneg (show 0<=ns.getD p.toNat 0 by omega) (show (0:Int)<=ns.length by omega)
 have hx:(Zen ns p).toNat<ns.length:=by omega
 have hv:=h.bd.nn' (Zen ns p).toNat
 unfold Zep
 rw[Vw hx]
 unfold ZaL
 have mL:Zen ns p=if p+ns.getD p.toNat 0%ns.length<ns.length then p+ns.getD p.toNat 0%ns.length else p+ns.getD p.toNat 0%ns.length-ns.length:=V0 h0 h1 o0 o1
 by_cases c:ns.getD p.toNat 0%ns.length=0
 ·rw[Zeq (by rw[c] at mL;split at mL<;>omega)]
  have:=Zeo ns.length p (ns.getD p.toNat 0%ns.length) (Zen ns p).toNat
  have:ns.getD p.toNat 0/ns.length≠0:=fun z=>by rw[z] at es;omega
  omega
 ·have m2:=ZX (n:=ns.length) l0 l1 h0 h1
  rw[VB (by rw[Zr7 l0,m2];split at mL<;>split<;>omega),Zb7 (by split at mL<;>omega)]
  omega
theorem ZaH {ns:List Int}{q:Int} (h1:0<ns.length):0<=tbP ns q/\tbP ns q<ns.length:=
 ⟨Zru _ (by omega),Zrr _ (by omega)⟩
theorem Zcv {ns:List Int}{q:Int} (h:J3 ns q):J3 (tbB ns q) (tbP ns q):=by
 have h0:=h.lo
 have h1:=h.hi
 have hs:=h.pos
 obtain⟨p0,p1⟩:=ZaH (ns:=ns) (q:=q) (by omega)
 obtain⟨j1,j2,j3⟩:=Zab h0 h1
 have hne:ns≠[]:=by intro e;rw[e] at h1;simp at h1;omega
 have hm:=h.bd.nn _ (Vg hne)
 have hT:0<tbT ns q:=by
  unfold tbT
  by_cases c:tbJ ns q=0
  ·unfold tbG at j3
   rw[c,ZrT,Int.sub_zero,Zrx h0 h1] at j3
   have:0<Ul ns:=by omega
   have:=Int.mul_pos this (show (0:Int)<ns.length by omega)
   omega
  ·have:=Int.mul_nonneg hm (show (0:Int)<=ns.length by omega)
   omega
 have hpl:(tbP ns q).toNat<ns.length:=by omega
 have nn:∀x∈tbB ns q,0<=x:=fun x hx=>by
  unfold tbB at hx
  rcases ZrS hx with z|z
  ·obtain⟨y,hy,rfl⟩:=ZeV.mp z
   have ml:=Zap (ns:=ns) (Jm hy)
   unfold tbF
   split
   ·rename_i c
    have m:=ZX (n:=ns.length) h0 h1 (show (0:Int)<=y by omega) (by omega)
    have g:=j2 ((q-(y:Int))%ns.length).toNat (by have:=Zru (q-(y:Int)) (show (ns.length:Int)≠0 by omega);omega)
    unfold tbG at g
    have e:((q-(((q-(y:Int))%ns.length).toNat:Nat))%(ns.length:Int)).toNat=y:=by
     have b:0<=(q-(y:Int))%ns.length/\(q-(y:Int))%ns.length<ns.length:=by rw[m];split<;>omega
     rw[Zr7 b.1,ZX h0 h1 b.1 b.2,m]
     split<;>split<;>omega
    rw[e] at g;omega
   ·omega
  ·omega
 have hsum:(tbB ns q).sum=ns.sum:=by
  have e:=(Zc1 h0 h1 h.bd.nn).1
  have:=U7 (ns:=tbB ns q) (p:=tbP ns q) p0 (by rw[Jr];exact p1) (by
   by_cases hx:(tbP ns q).toNat<(tbB ns q).length
   ·exact nn _ (Jm hx)
   ·rw[ZqF,Zrc (by omega)];exact Int.le_refl _)
  rw[e] at this
  exact this.symm
 refine⟨⟨by rw[Jr];exact h.bd.lo,by rw[Jr];exact h.bd.hi,nn,by rw[hsum];exact h.bd.sm⟩,p0,by rw[Jr];exact p1, ?_⟩
 unfold tbB
 rw[getD_set (by rw[Z6];exact hpl),if_pos rfl]
 exact hT
theorem ZiW {ns:List Int}{q:Int} (h:J3 ns q):(tbB ns q).sum=ns.sum:=by
 have e:=(Zc1 h.lo h.hi h.bd.nn).1
 have s:=Zcv h
 have:=U7 (ns:=tbB ns q) (p:=tbP ns q) s.lo s.hi (s.bd.nn' _)
 rw[e] at this
 exact this.symm
noncomputable def its {α:Type} (f:α->α):Nat->α->α
 |0,a=>a
 |n+1,a=>f (its f n a)
theorem Qk {f:List Int×Int->List Int×Int} (hf:f=Za9\/f=tbS) {a:List Int×Int} (h:J3 a.1 a.2):∀n,J3 (its f n a).1 (its f n a).2
 |0=>h
 |n+1=>by
  have ih:=Qk hf h n
  rcases hf with rfl|rfl
  ·exact UR ih
  ·exact Zcv ih
section
end
end My
namespace My
open PySem L2
noncomputable abbrev Q9 (a:List Int×Int):PV:=.tup [.lst (a.1.map PV.int),.int a.2]
noncomputable def V5 (ns:List Int) (m:Int):Nat->List Int
 |0=>List.replicate m.toNat 0
 |i+1=>(V5 ns m i).set ((i:Int)%m).toNat (((V5 ns m i).getD ((i:Int)%m).toNat 0*31+ns.getD (i+1) 0)%10^60)
theorem ZdP (ns:List Int) (m:Int) (i:Nat):V5 ns m (i+1)=(V5 ns m i).set ((i:Int)%m).toNat (((V5 ns m i).getD ((i:Int)%m).toNat 0*31+ns.getD (i+1) 0)%10^60):=by rw[V5]
noncomputable def JM (ns:List Int) (m:Int):List Int:=V5 ns m (ns.length-1)
theorem J6 (ns:List Int) (m:Int):∀i,(V5 ns m i).length=m.toNat
 |0=>by simp[V5]
 |i+1=>by simp[V5,J6 ns m i]
theorem JK (ns:List Int) (m:Int):∀i,∀x∈V5 ns m i,0<=x/\x<10^60
 |0=>fun x hx=>by rw[List.eq_of_mem_replicate hx];decide
 |i+1=>fun x hx=>by
  rcases ZrS hx with z|z
  ·exact JK ns m i x z
  ·rw[z];exact⟨Zru _ (by decide),Zrr _ (by decide)⟩
noncomputable def Ut (pits way number:Int):Int:=if way=3 then [0,1,number/24,pits].getD (number/7%4).toNat 0 else if way=2 then number/24 else if way=1 then number/11%30 else number/11%4
noncomputable def JJ (ns:List Int) (pits way:Int):List Int:=(JM ns pits).map (Ut pits way)
noncomputable def BB:Int:=41666666666666666666666666666666666666666666666666666666666
theorem ZbR {pits way z:Int} (h1:2<=pits) (h2:pits<=24) (z0:0<=z) (z1:z<10^60):0<=Ut pits way z/\Ut pits way z<=BB:=by
 unfold Ut BB
 split
 ·have c4:z/7%4=0\/z/7%4=1\/z/7%4=2\/z/7%4=3:=by omega
  rcases c4 with e|e|e|e<;>rw[e]
  ·exact⟨by show (0:Int)<=0;decide,by show (0:Int)<=41666666666666666666666666666666666666666666666666666666666;decide⟩
  ·exact⟨by show (0:Int)<=1;decide,by show (1:Int)<=41666666666666666666666666666666666666666666666666666666666;decide⟩
  ·exact⟨by show 0<=z/24;omega,by show z/24<=_;omega⟩
  ·exact⟨by show 0<=pits;omega,by show pits<=_;omega⟩
 ·split
  ·omega
  ·split<;>omega
theorem Zek (ns:List Int) (h:∀x∈ns,x<=BB):ns.sum<=ns.length*BB:=by
 induction ns with
 |nil=>simp
 |cons x xs ih =>
  have h1:=h x (by simp)
  have h2:=ih fun y hy=>h y (by simp[hy])
  simp only[ZrW,ZqY]
  rw[Int.natCast_add,Int.add_mul]
  omega
theorem Uy.of {ns:List Int} (h1:2<=ns.length) (h2:ns.length<=24) (h:∀x∈ns,0<=x/\x<=BB):Uy ns:=by
 refine⟨h1,h2,fun x hx=>(h x hx).1, ?_⟩
 have a:=Zek ns fun x hx=>(h x hx).2
 have b:(ns.length:Int)*BB<=24*BB:=Int.mul_le_mul_of_nonneg_right (by omega) (by decide)
 have c:(24:Int)*BB<=10^60:=by decide
 omega
theorem JV (ns:List Int) {pits way:Int} (h:0<=pits):((JJ ns pits way).length:Int)=pits:=by
 unfold JJ JM
 rw[ZqN,J6];omega
theorem QA (ns:List Int) {pits way:Int} (h1:2<=pits) (h2:pits<=24):Uy (JJ ns pits way):=by
 have hl:=JV ns (way:=way) (show 0<=pits by omega)
 refine Uy.of (by omega) (by omega) fun x hx=>?_
 obtain⟨z,hz,rfl⟩:=Zr3.mp hx
 obtain⟨z0,z1⟩:=JK ns pits _ z hz
 exact ZbR h1 h2 z0 z1
noncomputable def Jp (ns:List Int):Bool:=decide (2<=ns.length/\ns.length<=24/\(∀x∈ns,0<=x)/\ns.sum<=10^60)
theorem Vp {ns:List Int}:Jp ns=true ↔ Uy ns:=by
 unfold Jp
 rw[decide_eq_true_iff]
 exact⟨fun⟨a,b,c,d⟩=>⟨a,b,c,d⟩,fun h=>⟨h.lo,h.hi,h.nn,h.sm⟩⟩
theorem J3.sowOk {ns:List Int}{p:Int} (h:J3 ns p):0<=p/\p<ns.length/\ns.length<=1000:=⟨h.lo,h.hi,by have:=h.bd.hi;omega⟩
noncomputable def Zju (ns:List Int) (p:Int):Option Str:=if 0<=p/\p<ns.length then none else some "BadPit"
noncomputable def stX (ns:List Int) (p:Int):Option Str:=if Jp ns=true then (if 0<=p/\p<ns.length then (if ns.getD p.toNat 0=0 then some "NoSeeds" else none) else some "BadPit") else some "BadBoard"
theorem U6 {ns:List Int}{p:Int}:stX ns p=none ↔ J3 ns p:=by
 unfold stX
 by_cases h:Jp ns=true
 ·have hB:=Vp.mp h
  rw[if_pos h]
  by_cases h1:0<=p/\p<ns.length
  ·rw[if_pos h1]
   by_cases h2:ns.getD p.toNat 0=0
   ·rw[if_pos h2];exact⟨fun z=>(by cases z),fun z=>(by have:=z.pos;omega)⟩
   ·rw[if_neg h2];exact⟨fun _=>⟨hB,h1.1,h1.2,by have:=hB.nn' p.toNat;omega⟩,fun _=>rfl⟩
  ·rw[if_neg h1];exact⟨fun z=>(by cases z),fun z=>(h1 ⟨z.lo,z.hi⟩).elim⟩
 ·rw[if_neg h];exact⟨fun z=>(by cases z),fun z=>(h (Vp.mpr z.bd)).elim⟩
theorem J3.tbOk {ns:List Int}{p:Int} (h:J3 ns p):0<=p/\p<ns.length/\ns.length<=1000/\∀x∈ns,0<=x/\x<=10^60:=⟨h.lo,h.hi,by have:=h.bd.hi;omega,fun x hx=>⟨h.bd.nn x hx,by have:=Zfa h.bd.nn hx;have:=h.bd.sm;omega⟩⟩
theorem Ze3:∀{l:List Int},(∀x∈l,0<=x)->0<l.sum->∃x∈l,0<x
 |[],_,h=>by simp at h
 |a::l,h,hs=>by
  by_cases c:0<a
  ·exact⟨a,by simp,c⟩
  ·have:=h a (by simp)
   simp only[ZrW] at hs
   obtain⟨x,hx,h2⟩:=Ze3 (l:=l) (fun x hx=>h x (by simp[hx])) (by omega)
   exact⟨x,by simp[hx],h2⟩
theorem Zfn {bs:List Int}{c:Int} (hB:Uy bs) (hs:0<bs.sum):∃j:Nat,j<bs.length/\run (fun i=>if bs.getD ((c%bs.length+i)%bs.length).toNat 0=0 then 1 else 0) bs.length 0=j /\
  (∀i,i<j->bs.getD ((c%bs.length+i)%bs.length).toNat 0=0)/\bs.getD ((c%bs.length+j)%bs.length).toNat 0≠0:=by
 have hl:=hB.lo
 have c0:=Zru c (show (bs.length:Int)≠0 by omega)
 have c1:=Zrr c (show (0:Int)<bs.length by omega)
 obtain⟨v,hv,hp⟩:=Ze3 hB.nn hs
 obtain⟨x,hx,rfl⟩:=Zbb hv
 obtain⟨a,b,d,e⟩:=Zae (fun i=>if bs.getD ((c%bs.length+i)%bs.length).toNat 0=0 then 1 else 0) bs.length 0
 generalize run (fun i=>if bs.getD ((c%bs.length+i)%bs.length).toNat 0=0 then 1 else 0) bs.length 0=j at *
 have z:∀i,i<j->bs.getD ((c%bs.length+i)%bs.length).toNat 0=0:=fun i hi=>by
  have:=d i (by omega) hi
  by_cases q:bs.getD ((c%bs.length+i)%bs.length).toNat 0=0
  ·exact q
  ·simp only[if_neg q] at this;omega
 have m:=ZX (n:=bs.length) (show (0:Int)<=x by omega) (by omega) c0 c1
 have hj:j<bs.length:=by
  by_cases q:j<bs.length
  ·exact q
  ·have b0:0<=((x:Int)-c%bs.length)%bs.length/\((x:Int)-c%bs.length)%bs.length<bs.length:=by rw[m];split<;>omega
   have:=z (((x:Int)-c%bs.length)%bs.length).toNat (by omega)
   have e2:((c%bs.length+((((x:Int)-c%bs.length)%bs.length).toNat:Nat))%(bs.length:Int)).toNat=x:=by
    rw[Zr7 b0.1,V0 c0 c1 b0.1 b0.2,m]
    split<;>split<;>omega
   rw[e2] at this;omega
 refine⟨j,hj,rfl,z,fun q=>?_⟩
 have:=e (by omega)
 simp only[if_pos q] at this
 omega
end My
namespace L2
open PySem
noncomputable def fzI (ns:List Int):PV:=.fz (ns.map PV.int)
noncomputable abbrev Dd:=Str×Int×Int
noncomputable def dd3 (d:Dd):PV:=.tup [.str d.1,.int d.2.1,.int d.2.2]
noncomputable def Zee (u:Dd×List Int):PV:=.tup [dd3 u.1,fzI u.2]
structure Bk where
 bs:List (List Int)
 ds:List Dd
 us:List (Dd×List Int)
noncomputable def J1 (p:Option Addr) (b d u:List PV):PV:=.box p (.ob "RingBook" ["boards", "deeds", "undone"]) [.lst b,.lst d,.lst u]
noncomputable def bkP (p:Option Addr) (k:Bk):PV:=J1 p (k.bs.map fzI) (k.ds.map dd3) (k.us.map Zee)
theorem Zav {a b:List Int} (h:fzI a=fzI b):a=b:=ZR (PV.fz.inj h)
theorem Zca {a b:Dd} (h:dd3 a=dd3 b):a=b:=by
 simp only[dd3,PV.tup.injEq,List.cons.injEq,PV.str.injEq,PV.int.injEq,and_true] at h
 exact Prod.ext h.1 (Prod.ext h.2.1 h.2.2)
theorem ZfQ {a b:Dd×List Int} (h:Zee a=Zee b):a=b:=by
 simp only[Zee,PV.tup.injEq,List.cons.injEq,and_true] at h
 exact Prod.ext (Zca h.1) (Zav h.2)
theorem VF {α:Type}{q:α->PV} (hq:∀a b,q a=q b->a=b):∀{l m:List α},l.map q=m.map q->l=m
 |[],[],_=>rfl
 |[],_::_,h=>by simp at h
 |_::_,[],h=>by simp at h
 |a::l,b::m,h=>by
  simp only[Zrb,List.cons.injEq] at h
  rw[hq a b h.1,VF hq h.2]
theorem Uf {p:Option Addr}{a b:Bk} (h:bkP p a=bkP p b):a=b:=by
 simp only[bkP,J1,PV.box.injEq,List.cons.injEq,PV.lst.injEq,and_true,true_and] at h
 obtain⟨h1,h2,h3⟩:=h
 have e1:=VF (fun _ _=>Zav) h1
 have e2:=VF (fun _ _=>Zca) h2
 have e3:=VF (fun _ _=>ZfQ) h3
 cases a;cases b
 simp only at e1 e2 e3
 rw[e1,e2,e3]
theorem flats_map {α:Type}{q:α->PV} (h:∀a,(q a).flat=true) (l:List α):PV.flats (l.map q)=true:=PV.flats_all.mpr fun x hx=>by
 obtain⟨a,_,rfl⟩:=Zr3.mp hx
 exact h a
theorem Jk (ns:List Int):(fzI ns).flat=true:=PV.flats_ints ns
theorem VN (d:Dd):(dd3 d).flat=true:=rfl
theorem V8 (u:Dd×List Int):(Zee u).flat=true:=by simp[Zee,PV.flat,PV.flats,VN,Jk]
theorem ix0:(["boards", "deeds", "undone"]:List Str).idxOf ("boards":Str)=0:=by decide +kernel
theorem ix1:(["boards", "deeds", "undone"]:List Str).idxOf ("deeds":Str)=1:=by decide +kernel
theorem ix2:(["boards", "deeds", "undone"]:List Str).idxOf ("undone":Str)=2:=by decide +kernel
section
variable {p:Option Addr}{k:Bk}{b d u:List PV}
theorem Zlx:pFld "RingBook" "boards" (J1 p b d u)=.ok (.lst b):=by simp only[pFld,J1,ix0,if_pos];rfl
theorem Zlw:pFld "RingBook" "deeds" (J1 p b d u)=.ok (.lst d):=by simp only[pFld,J1,ix1,if_pos];rfl
theorem Zlv:pFld "RingBook" "undone" (J1 p b d u)=.ok (.lst u):=by simp only[pFld,J1,ix2,if_pos];rfl
theorem ZiB:pFld "RingBook" "boards" (bkP p k)=.ok (.lst (k.bs.map fzI)):=Zlx
theorem Zk5:pFld "RingBook" "deeds" (bkP p k)=.ok (.lst (k.ds.map dd3)):=Zlw
theorem Zk4:pFld "RingBook" "undone" (bkP p k)=.ok (.lst (k.us.map Zee)):=Zlv
theorem ZiQ {m:Str} (h:m ∉ (["boards", "deeds", "undone"]:List Str)):obG "RingBook" m (bkP p k)=.ok .non:=by
 unfold bkP J1 obG
 exact if_pos ⟨rfl,h⟩
theorem Zlr:obG "RingBook" "sow" (bkP p k)=.ok .non:=ZiQ (by decide +kernel)
theorem Zlt:obG "RingBook" "back" (bkP p k)=.ok .non:=ZiQ (by decide +kernel)
theorem Zkg:obG "RingBook" "enter" (bkP p k)=.ok .non:=ZiQ (by decide +kernel)
theorem Zlq:obG "RingBook" "undo" (bkP p k)=.ok .non:=ZiQ (by decide +kernel)
theorem Zls:obG "RingBook" "redo" (bkP p k)=.ok .non:=ZiQ (by decide +kernel)
theorem Zkh:obG "RingBook" "came_again" (bkP p k)=.ok .non:=ZiQ (by decide +kernel)
theorem Zkj:Ziu "RingBook" "boards" (bkP p k)=.ok .non:=by unfold Ziu;rw[ZiB];exact if_pos (flats_map Jk _)
theorem Zki:Ziu "RingBook" "deeds" (bkP p k)=.ok .non:=by unfold Ziu;rw[Zk5];exact if_pos (flats_map VN _)
theorem Zlu:Ziu "RingBook" "undone" (bkP p k)=.ok .non:=by unfold Ziu;rw[Zk4];exact if_pos (flats_map V8 _)
theorem ZlB {y:List PV}:US "RingBook" "boards" (J1 p b d u) y=.ok (J1 p y d u):=by unfold US J1;simp only[ix0];rfl
theorem ZlA {y:List PV}:US "RingBook" "deeds" (J1 p b d u) y=.ok (J1 p b y u):=by unfold US J1;simp only[ix1];rfl
theorem Zl9 {y:List PV}:US "RingBook" "undone" (J1 p b d u) y=.ok (J1 p b d y):=by unfold US J1;simp only[ix2];rfl
theorem Zkl {ns:List Int} (h:k.bs.length<1000000):ZiE "RingBook" "boards" (bkP p k) (fzI ns)=.ok (bkP p ⟨k.bs++[ns],k.ds,k.us⟩):=by
 unfold ZiE
 rw[ZiB]
 show (if _ then _ else _)=_
 rw[if_pos ⟨flats_map Jk _,by rw[ZqN];exact h⟩]
 show US _ _ (J1 p _ _ _) _=_
 rw[ZlB]
 unfold bkP
 rw[Zr0];rfl
theorem Zkk {x:Dd} (h:k.ds.length<1000000):ZiE "RingBook" "deeds" (bkP p k) (dd3 x)=.ok (bkP p ⟨k.bs,k.ds++[x],k.us⟩):=by
 unfold ZiE
 rw[Zk5]
 show (if _ then _ else _)=_
 rw[if_pos ⟨flats_map VN _,by rw[ZqN];exact h⟩]
 show US _ _ (J1 p _ _ _) _=_
 rw[ZlA]
 unfold bkP
 rw[Zr0];rfl
theorem Zly {x:Dd×List Int} (h:k.us.length<1000000):ZiE "RingBook" "undone" (bkP p k) (Zee x)=.ok (bkP p ⟨k.bs,k.ds,k.us++[x]⟩):=by
 unfold ZiE
 rw[Zk4]
 show (if _ then _ else _)=_
 rw[if_pos ⟨flats_map V8 _,by rw[ZqN];exact h⟩]
 show US _ _ (J1 p _ _ _) _=_
 rw[Zl9]
 unfold bkP
 rw[Zr0];rfl
theorem ZkZ {α:Type}{q:α->PV}{L:List α}{d:α} (h:L.length≠0):(L.map q).getD ((L.map q).length-1) .non=q (L.getD (L.length-1) d):=by
 rw[ZqN,ZqF,ZqF,Zri,ZqH (by omega)];rfl
theorem Zkx {α:Type}{q:α->PV} (hq:∀a,(q a).flat=true) {L:List α} (d:α) (h:L.length≠0):popL (L.map q)=.ok (q (L.getD (L.length-1) d),L.dropLast.map q):=by
 unfold popL
 rw[if_pos ⟨flats_map hq _,by rw[ZqN];exact h⟩,ZkZ (d:=d) h,List.map_dropLast]
theorem Zlp (h:k.bs.length≠0):ZhR "RingBook" "boards" (bkP p k)=.ok (fzI (k.bs.getD (k.bs.length-1) []),bkP p ⟨k.bs.dropLast,k.ds,k.us⟩):=by
 unfold ZhR
 rw[ZiB]
 show (popL _).bind _=_
 rw[Zkx Jk [] h]
 simp only[Rr.bind_ok]
 unfold bkP
 rw[ZlB];rfl
theorem Zlo (h:k.ds.length≠0):ZhR "RingBook" "deeds" (bkP p k)=.ok (dd3 (k.ds.getD (k.ds.length-1) ("",0,0)),bkP p ⟨k.bs,k.ds.dropLast,k.us⟩):=by
 unfold ZhR
 rw[Zk5]
 show (popL _).bind _=_
 rw[Zkx VN ("",0,0) h]
 simp only[Rr.bind_ok]
 unfold bkP
 rw[ZlA];rfl
theorem Zln (h:k.us.length≠0):ZhR "RingBook" "undone" (bkP p k)=.ok (Zee (k.us.getD (k.us.length-1) (("",0,0),[])),bkP p ⟨k.bs,k.ds,k.us.dropLast⟩):=by
 unfold ZhR
 rw[Zk4]
 show (popL _).bind _=_
 rw[Zkx V8 (("",0,0),[]) h]
 simp only[Rr.bind_ok]
 unfold bkP
 rw[Zl9];rfl
theorem Zlj:pSetF "RingBook" "undone" (bkP p k) (.lst [])=.ok (bkP p ⟨k.bs,k.ds,[]⟩):=by
 unfold bkP J1
 simp only[pSetF]
 rw[if_pos ⟨trivial,by decide⟩,show Ze0 ("undone":Str) (["boards", "deeds", "undone"]:List Str)=(["boards", "deeds", "undone"]:List Str) by decide +kernel]
 unfold ZbA
 rw[if_pos (by decide +kernel),ix2];rfl
theorem Zlm {y:PV}:pSetF "RingBook" "boards" (.box p (.ob "RingBook" []) []) y=.ok (.box p (.ob "RingBook" ["boards"]) [y]):=by
 simp only[pSetF]
 rw[if_pos ⟨trivial,by decide⟩,show Ze0 ("boards":Str) ([]:List Str)=(["boards"]:List Str) by decide +kernel]
 unfold ZbA
 rw[if_neg (by decide +kernel)];rfl
theorem Zll {x y:PV}:pSetF "RingBook" "deeds" (.box p (.ob "RingBook" ["boards"]) [x]) y=.ok (.box p (.ob "RingBook" ["boards", "deeds"]) [x,y]):=by
 simp only[pSetF]
 rw[if_pos ⟨trivial,by decide⟩,show Ze0 ("deeds":Str) (["boards"]:List Str)=(["boards", "deeds"]:List Str) by decide +kernel]
 unfold ZbA
 rw[if_neg (by decide +kernel)];rfl
theorem Zlk {x y z:PV}:pSetF "RingBook" "undone" (.box p (.ob "RingBook" ["boards", "deeds"]) [x,y]) z=.ok (.box p (.ob "RingBook" ["boards", "deeds", "undone"]) [x,y,z]):=by
 simp only[pSetF]
 rw[if_pos ⟨trivial,by decide⟩,show Ze0 ("undone":Str) (["boards", "deeds"]:List Str)=(["boards", "deeds", "undone"]:List Str) by decide +kernel]
 unfold ZbA
 rw[if_neg (by decide +kernel)];rfl
end
theorem UZ {α:Type}{q:α->PV}{L:List α}{d:α} (h:L.length≠0):pIx (.lst (L.map q)) (.int (-1))=.ok (q (L.getD (L.length-1) d)):=by
 have e:ixN (L.map q).length (-1)=some (L.length-1):=by
  unfold ixN
  rw[ZqN,if_neg (by decide),if_pos (by omega)]
  congr 1
  omega
 unfold pIx atI
 simp only[e,Option.bind_some]
 rw[Zri,ZqF,ZqH (by omega)];rfl
theorem Zhf {α:Type}{q:α->PV} (hq:∀a,(q a).flat=true) {L:List α} (d:α) (h:L.length≠0):ZkO (.lst (L.map q))=.ok (q (L.getD (L.length-1) d),.lst (L.dropLast.map q)):=by
 unfold ZkO
 simp only[Zci,Rr.bind_ok,Zkx hq d h]
theorem UF {a:List Int×Int}:QD (.tup [.lst (a.1.map PV.int),.int a.2])=.tup [fzI a.1,.int a.2]:=by
 simp only[QD,frzPs,Ub];rfl
theorem Qo {ns:List Int}:grd (fzI ns)=.ok (fzI ns):=by unfold grd;rw[if_pos (Jk ns)]
theorem Zdi {ns:List Int}{i:Int}:grd (.tup [fzI ns,.int i])=.ok (.tup [fzI ns,.int i]):=by
 unfold grd;rw[if_pos (by simp[PV.flat,PV.flats,Jk])]
theorem Jt {ns:List Int}:thw (fzI ns)=.lst (ns.map PV.int):=rfl
theorem Zdk {ns:List Int}:QD (.lst (ns.map PV.int))=fzI ns:=by simp only[QD,Ub];rfl
end L2
namespace L2
noncomputable def ZjO (p s:Int):Int:=p*s%(p+1)
noncomputable def ZlQ (p s:Int):Int:=p*s/(p+1)
noncomputable def ZhL (s:Int):Nat->Int
 |0=>s
 |k+1=>ZlQ (k+1) (ZhL s k)
noncomputable def ZjS (s:Int) (n:Nat):List Int:=(List.range n).map fun(k:Nat)=>ZjO (k+1) (ZhL s k)
noncomputable def ZiU (s:Int):Nat->Nat->Nat
 |0,k=>k
 |n+1,k=>if 0<ZhL s k then ZiU s n (k+1) else k
noncomputable def ZlU (s:Int):Nat:=ZiU s s.toNat 0
noncomputable def Zk8 (s:Int):List Int:=ZjS s (ZlU s)
def ZfI (ns:List Int):Prop:=(∀x∈ns,0<=x)/\ns.length<=200/\ns.sum<=10000/\(ns=[]\/ns.getD (ns.length-1) 0≠0)
noncomputable instance (ns:List Int):Decidable (ZfI ns):=by unfold ZfI;infer_instance
def ZhA (ns:List Int):Prop:=ZfI ns/\ns=Zk8 ns.sum
noncomputable instance (ns:List Int):Decidable (ZhA ns):=by unfold ZhA;infer_instance
noncomputable def s2 (ns:List Int) (r:Nat):Nat->Int
 |0=>0
 |i+1=>s2 ns r i+if i%2=r then ns.getD i 0 else 0
noncomputable def hs:Nat->Nat->Int->List Int
 |_,0,_=>[]
 |k,m+1,l=>ZjO (k+1) l::hs (k+1) m (ZlQ (k+1) l)
noncomputable def s3 (ns:List Int) (r:Nat):Nat->Int
 |0=>0
 |i+1=>s3 ns r i+if i%3=r then ns.getD i 0 else 0
def Zh9 (ns:List Int):Prop:=(∀x∈ns,0<=x)/\ns.length<=100/\ns.sum<=100/\(ns=[]\/(ns.getD 0 0≠0/\ns.getD (ns.length-1) 0≠0))
noncomputable instance (ns:List Int):Decidable (Zh9 ns):=by unfold Zh9;infer_instance
theorem sum_nn:∀{ns:List Int},(∀x∈ns,0<=x)->0<=ns.sum
 |[],_=>by simp
 |x::xs,h=>by
  have:=h x (by simp)
  have:=sum_nn (ns:=xs) (fun y hy=>h y (by simp[hy]))
  simp;omega
theorem getD_set {l:List Int}{i j:Nat}{v:Int} (h:i<l.length):(l.set i v).getD j 0=if i=j then v else l.getD j 0:=by
 simp only[ZqF,List.getElem?_set,if_pos h]
 split<;>rfl
theorem mem_getD {l:List Int}{x:Int} (h:x∈l):∃i,i<l.length/\x=l.getD i 0:=by
 obtain⟨i,hi,rfl⟩:=List.getElem_of_mem h
 exact⟨i,hi,by rw[ZqF,ZqH hi];rfl⟩
noncomputable def stir (c j:Int):Int:=((c%2147483647+1009*j+7)*48271%2147483647)*((c%2147483647+1009*j+7)*48271%2147483647)%998244353/8
end L2
namespace My
open L2
noncomputable def ZkD (ns:List Int) (k:Int):List Int:=tab ns.length fun x=>ns.getD (((x:Int)-k)%ns.length).toNat 0
noncomputable def ZkC (a:List Int×Int) (s:Nat):Int:=((its Za9 s a).2-a.2)%a.1.length
def isT (a:List Int×Int) (s:Nat):Prop:=(its Za9 s a).1=ZkD a.1 (ZkC a s)
noncomputable instance (a:List Int×Int) (s:Nat):Decidable (isT a s):=by unfold isT;infer_instance
section
end
end My
namespace My
open PySem PySem.Spec PyProof.Rows L2
theorem Zg4 {xs:List PV}:PV.flat (.tup xs)=PV.flats xs:=by simp[PV.flat]
theorem QQ {ns:List Int}:PV.flat (.tup (ns.map PV.int))=true:=by rw[Zg4];exact Zbl
theorem Zfp {ns:List Int}:grd (.tup (ns.map PV.int))=.ok (.tup (ns.map PV.int)):=by unfold grd;rw[QQ];rfl
noncomputable def tI (b:List Int):List Key:=b.map Sum.inl
theorem Zct (b:List Int):JO b=.tup ((tI b).map Zio):=by unfold JO tI;rw[Zsz];rfl
theorem flats_map {α:Type}{q:α->PV} (h:∀a,PV.flat (q a)=true):∀L:List α,PV.flats (L.map q)=true
 |[]=>by simp[PV.flats]
 |a::L=>by
  rw[Zrb]
  simp only[PV.flats,h a,flats_map h L,Bool.and_self]
theorem Zij {xs:List PV} (h:PV.flats xs=true) (hl:xs.length<=1000000):newF xs=.ok (.lst xs):=by
 unfold newF
 rw[h,decide_eq_true hl];rfl
theorem Zhs {α:Type}{q:α->PV}{L:List α} (h:∀a,PV.flat (q a)=true) (hl:L.length<=1000000):newF (L.map q)=.ok (.lst (L.map q)):=Zij (flats_map h L) (by simpa using hl)
theorem Zfs (t:List Int):PV.flat (JO t)=true:=QQ
theorem Zjb {a b:List Int} (h:tI a=tI b):a=b:=by
 unfold tI at h
 exact(List.map_inj_right fun x y h=>Sum.inl.inj h).mp h
section
variable {κ:Type} [DecidableEq κ]
end
section
variable {ks:List (List Key)}{xs:List PV}{p:Option PySem.Addr}{g:List Int}{v:PV}
theorem Zkc:dAt (.box p (.dt ks) xs) (JO g)=some (atK ks xs (tI g)):=by
 rw[Zct]
 simp only[dAt,Ua,Zsx]
theorem Zig (h:atK ks xs (tI g)=some v):Zgk (.box p (.dt ks) xs) (JO g)=.ok v:=by
 unfold Zgk
 rw[Zkc,h]
theorem Zj2 {f:Bool->Bool}:Zk0 f (JO g) (.box p (.dt ks) xs)=.ok (.bl (f (atK ks xs (tI g)).isSome)):=by
 unfold Zk0
 rw[Zkc]
theorem Zif (hv:v.flat=true) (hl:xs.length<1000000):ZeL (.box p (.dt ks) xs) (JO g) v=.ok (.box p (.dt (VV ks (tI g))) (putXs ks xs (tI g) v)):=by
 rw[Zct]
 unfold ZeL
 simp only[Ua]
 rw[if_pos ⟨hl,.inr hv⟩]
end
end My
namespace My
open PySem L2
noncomputable def QB (bs:List (List Int)) (b:List Int):Nat->Option Nat
 |0=>none
 |i+1=>if bs.getD i []=b then some i else QB bs b i
theorem VZ {bs:List (List Int)}{b:List Int}{i:Nat}:∀{n:Nat},QB bs b n=some i ↔ i<n/\bs.getD i []=b/\∀m,i<m->m<n->bs.getD m []≠b
 |0=>by simp[QB]
 |n+1=>by
  unfold QB
  by_cases e:bs.getD n []=b
  ·rw[if_pos e]
   constructor
   ·intro h
    cases h
    exact⟨ZrD _,e,fun m h1 h2=>by omega⟩
   ·rintro⟨h1,h2,h3⟩
    by_cases q:i=n
    ·rw[q]
    ·exact absurd e (h3 n (by omega) (by omega))
  ·rw[if_neg e,VZ]
   constructor
   ·rintro⟨h1,h2,h3⟩
    refine⟨by omega,h2,fun m q1 q2=>?_⟩
    by_cases q:m=n
    ·rw[q];exact e
    ·exact h3 m q1 (by omega)
   ·rintro⟨h1,h2,h3⟩
    refine⟨?_,h2,fun m q1 q2=>h3 m q1 (by omega)⟩
    by_cases q:i=n
    ·rw[q] at h2;exact absurd h2 e
    ·omega
noncomputable def Zga (o:Option Nat) (j:Nat):List (List Int):=match o with
 |some i=>[[(i:Int),(j:Int)]]
 |none=>[]
noncomputable def QE (bs:List (List Int)):Nat->List (List Int)
 |0=>[]
 |j+1=>QE bs j++Zga (QB bs (bs.getD j []) j) j
def PrC (bs:List (List Int)) (n:Nat) (x:List Int):Prop:=∃i j:Nat,x=[(i:Int),(j:Int)]/\i<j/\j<n/\bs.getD i []=bs.getD j []/\∀m,i<m->m<j->bs.getD m []≠bs.getD j []
theorem UJ {bs:List (List Int)}{x:List Int}:∀{n:Nat},x∈QE bs n ↔ PrC bs n x
 |0=>by
  simp only[QE,List.not_mem_nil,false_iff]
  rintro⟨i,j,_,_,h,_⟩
  omega
 |n+1=>by
  unfold QE
  rw[ZqK,UJ]
  constructor
  ·rintro(⟨i,j,h1,h2,h3,h4⟩|h)
   ·exact⟨i,j,h1,h2,by omega,h4⟩
   ·unfold Zga at h
    split at h
    ·rename_i i e
     obtain⟨e1,e2,e3⟩:=VZ.mp e
     exact⟨i,n,by simpa using h,e1,by omega,e2,e3⟩
    ·simp at h
  ·rintro⟨i,j,rfl,h2,h3,h4,h5⟩
   by_cases q:j=n
   ·subst q
    refine .inr ?_
    rw[VZ.mpr ⟨h2,h4,h5⟩]
    simp[Zga]
   ·exact .inl ⟨i,j,rfl,h2,by omega,h4,h5⟩
theorem Zf9 {bs:List (List Int)}:∀{n:Nat},(QE bs n).Nodup
 |0=>by simp[QE]
 |n+1=>by
  unfold QE
  refine List.nodup_append.mpr ⟨Zf9, ?_,fun a ha b hb=>?_⟩
  ·unfold Zga;split<;>simp
  ·obtain⟨i,j,rfl,h2,h3,h4,h5⟩:=UJ.mp ha
   unfold Zga at hb
   split at hb
   ·rename_i k e
    rw[Zrg.mp hb]
    intro z
    simp only[List.cons.injEq,and_true] at z
    omega
   ·simp at hb
theorem Za5 {bs:List (List Int)}:∀{n:Nat},(QE bs n).length<=n
 |0=>by simp[QE]
 |n+1=>by
  unfold QE
  have:=Za5 (bs:=bs) (n:=n)
  rw[Zra]
  have:(Zga (QB bs (bs.getD n []) n) n).length<=1:=by unfold Zga;split<;>simp
  omega
theorem ZiA {bs:List (List Int)}{n:Nat}:∀t∈QE bs n,t≠[]:=fun t ht=>by
 obtain⟨i,j,rfl,_⟩:=UJ.mp ht
 simp
noncomputable def nxt (bs:List (List Int)) (i j:Nat):Bool:=decide (bs.getD j []=bs.getD i [])&&!decide (bs.getD i []∈(bs.take j).drop (i+1))
theorem Zim {bs:List (List Int)}{i j:Nat}{b:List Int} (hj:j<=bs.length):b∈(bs.take j).drop (i+1) ↔ ∃m,i<m/\m<j/\bs.getD m []=b:=by
 constructor
 ·intro h
  obtain⟨k,hk⟩:=Zrp h
  rw[Zre] at hk
  have hl:=(ZqI.mp hk).1
  rw[Zrd] at hl
  refine⟨i+1+k,by omega,by omega, ?_⟩
  rw[ZrV (by omega)] at hk
  rw[ZqF,hk];rfl
 ·rintro⟨m,h1,h2,rfl⟩
  refine ZqG (i:=m-(i+1)) ?_
  rw[Zre,show i+1+(m-(i+1))=m by omega,ZrV h2,ZqF,ZqH (by omega)];rfl
theorem ZeT {bs:List (List Int)}{i j:Nat} (hj:j<=bs.length):nxt bs i j=true ↔ bs.getD i []=bs.getD j []/\∀m,i<m->m<j->bs.getD m []≠bs.getD j []:=by
 unfold nxt
 rw[Bool.and_eq_true,decide_eq_true_iff,Bool.not_eq_true',decide_eq_false_iff_not,Zim hj]
 constructor
 ·rintro⟨h1,h2⟩
  exact⟨h1.symm,fun m q1 q2 z=>h2 ⟨m,q1,q2,z.trans h1⟩⟩
 ·rintro⟨h1,h2⟩
  exact⟨h1.symm,fun⟨m,q1,q2,z⟩=>h2 m q1 q2 (z.trans h1)⟩
noncomputable def ZdY (bs:List (List Int)) (i:Nat):Nat->List (List Int)
 |0=>[]
 |k+1=>ZdY bs i k++(if nxt bs i (i+1+k)=true then [[(i:Int),((i+1+k:Nat):Int)]] else [])
noncomputable def Zbz (bs:List (List Int)):Nat->List (List Int)
 |0=>[]
 |i+1=>Zbz bs i++ZdY bs i (bs.length-(i+1))
theorem UC {bs:List (List Int)}{i:Nat}{x:List Int}:∀{k:Nat},x∈ZdY bs i k ↔ ∃j,i<j/\j<i+1+k/\x=[(i:Int),(j:Int)]/\nxt bs i j=true
 |0=>by
  simp only[ZdY,List.not_mem_nil,false_iff]
  rintro⟨j,h1,h2,_⟩
  omega
 |k+1=>by
  unfold ZdY
  rw[ZqK,UC]
  constructor
  ·rintro(⟨j,h1,h2,h3⟩|h)
   ·exact⟨j,h1,by omega,h3⟩
   ·split at h
    ·rename_i e
     exact⟨i+1+k,by omega,by omega,by simpa using h,e⟩
    ·simp at h
  ·rintro⟨j,h1,h2,h3,h4⟩
   by_cases q:j=i+1+k
   ·subst q
    exact .inr (by rw[if_pos h4,h3];simp)
   ·exact .inl ⟨j,h1,by omega,h3,h4⟩
theorem UD {bs:List (List Int)}{x:List Int}:∀{n:Nat},x∈Zbz bs n ↔ ∃i j,i<n/\i<j/\j<bs.length/\x=[(i:Int),(j:Int)]/\nxt bs i j=true
 |0=>by simp[Zbz]
 |n+1=>by
  unfold Zbz
  rw[ZqK,UD,UC]
  constructor
  ·rintro(⟨i,j,h1,h2,h3,h4⟩|⟨j,h1,h2,h3,h4⟩)
   ·exact⟨i,j,by omega,h2,h3,h4⟩
   ·exact⟨n,j,by omega,h1,by omega,h3,h4⟩
  ·rintro⟨i,j,h1,h2,h3,h4,h5⟩
   by_cases q:i=n
   ·subst q;exact .inr ⟨j,h2,by omega,h4,h5⟩
   ·exact .inl ⟨i,j,by omega,h2,h3,h4,h5⟩
theorem lt2 {a b c d:Int} (h:a<c\/(a=c/\b<d)):HT.ZY [a,b] [c,d]=true:=by
 rw[HT.Js]
 rcases h with h|⟨rfl,h⟩
 ·rw[if_neg (by omega)];exact decide_eq_true h
 ·rw[if_pos rfl,HT.Js,if_neg (by omega)];exact decide_eq_true h
theorem Zfd {bs:List (List Int)}{i:Nat}:∀{k:Nat},(ZdY bs i k).Pairwise fun a b=>HT.ZY a b=true
 |0=>List.Pairwise.nil
 |k+1=>by
  unfold ZdY
  refine ZqR.mpr ⟨Zfd, ?_,fun a ha b hb=>?_⟩
  ·split<;>simp
  ·obtain⟨j,h1,h2,rfl,h4⟩:=UC.mp ha
   split at hb
   ·rw[Zrg.mp hb]
    exact lt2 (.inr ⟨rfl,by omega⟩)
   ·simp at hb
theorem ZbN {bs:List (List Int)}:∀{n:Nat},(Zbz bs n).Pairwise fun a b=>HT.ZY a b=true
 |0=>List.Pairwise.nil
 |n+1=>by
  unfold Zbz
  refine ZqR.mpr ⟨ZbN,Zfd,fun a ha b hb=>?_⟩
  obtain⟨i,j,h1,h2,h3,rfl,h5⟩:=UD.mp ha
  obtain⟨j',q1,q2,rfl,q4⟩:=UC.mp hb
  exact lt2 (.inl (by omega))
theorem ZkA {l:List (List Int)} (h:l.Pairwise fun a b=>HT.ZY a b=true):l.Nodup:=h.imp fun {a b} q z=>by
 rw[z,HL.JU] at q;cases q
theorem Zf8 (bs:List (List Int)):ZfV (QE bs bs.length)=Zbz bs bs.length:=by
 refine Zaa (Zb6 _) (ZbN.imp fun h=>Qf h) ((VA _).trans ((List.perm_ext_iff_of_nodup Zf9 (ZkA ZbN)).mpr fun x=>?_))
 rw[UJ,UD]
 constructor
 ·rintro⟨i,j,h1,h2,h3,h4⟩
  exact⟨i,j,by omega,h2,h3,h1,(ZeT (by omega)).mpr h4⟩
 ·rintro⟨i,j,h1,h2,h3,h4,h5⟩
  exact⟨i,j,h4,h2,h3,(ZeT (by omega)).mp h5⟩
theorem Za7 {k k':List Key}{y:PV}:∀{ks:List (List Key)}{xs:List PV},ks.length=xs.length->k∈ks->atK ks (Zd7 ks xs k y) k'=if k'=k then some y else atK ks xs k'
 |[],_,_,h=>by simp at h
 |_::_,[],h,_=>by simp at h
 |q::ks,x::xs,h,hm=>by
  unfold Zd7 atK
  by_cases e:q=k
  ·subst e
   rw[if_pos rfl]
   by_cases e2:k'=q
   ·subst e2;rw[if_pos rfl,if_pos rfl]
   ·rw[if_neg (Ne.symm e2),if_neg e2,if_neg (Ne.symm e2)]
    by_cases hm2:q∈ks
    ·rw[Za7 (by simpa using h) hm2,if_neg e2]
    ·clear hm
     have:∀{ks:List (List Key)}{xs:List PV},ks.length=xs.length->q ∉ ks->atK ks (Zd7 ks xs q y) k'=atK ks xs k':=by
      intro ks
      induction ks with
      |nil=>intro xs _ _;rfl
      |cons a ks ih =>
       intro xs hl hn
       cases xs with
       |nil=>simp at hl
       |cons x xs =>
        have hn':a≠q:=fun z=>hn (by simp[z])
        simp only[Zd7,atK]
        rw[if_neg hn',ih (by simpa using hl) fun z=>hn (by simp[z])]
     exact this (by simpa using h) hm2
  ·rw[if_neg e]
   have hm2:k∈ks:=by
    rcases ZqS.mp hm with z|z
    ·exact absurd z.symm e
    ·exact z
   by_cases e2:q=k'
   ·rw[if_pos e2,if_pos e2,if_neg (fun z=>e (e2.trans z))]
   ·rw[if_neg e2,if_neg e2,Za7 (by simpa using h) hm2]
theorem Zd1 {k k':List Key}{y:PV}:∀{ks:List (List Key)}{xs:List PV},ks.length=xs.length->k ∉ ks->atK (ks++[k]) (xs++[y]) k'=if k'=k then some y else atK ks xs k'
 |[],[],_,_=>by
  show (if k=k' then some y else none)=_
  by_cases e:k'=k
  ·rw[if_pos e,if_pos e.symm]
  ·rw[if_neg e,if_neg (Ne.symm e)];rfl
 |[],_::_,h,_=>by simp at h
 |_::_,[],h,_=>by simp at h
 |q::ks,x::xs,h,hm=>by
  have e:q≠k:=fun z=>hm (by simp[z])
  show (if q=k' then some x else atK (ks++[k]) (xs++[y]) k')=if k'=k then some y else if q=k' then some x else atK ks xs k'
  rw[Zd1 (by simpa using h) fun z=>hm (by simp[z])]
  by_cases e2:q=k'
  ·rw[if_pos e2,if_pos e2,if_neg (fun z=>e (e2.trans z))]
  ·rw[if_neg e2,if_neg e2]
theorem ZiD {ks:List (List Key)}{xs:List PV}{k k':List Key}{y:PV} (h:ks.length=xs.length):atK (VV ks k) (putXs ks xs k y) k'=if k'=k then some y else atK ks xs k':=by
 unfold VV putXs
 by_cases hm:k∈ks
 ·rw[if_pos hm,if_pos hm,Za7 h hm]
 ·rw[if_neg hm,if_neg hm,Zd1 h hm]
theorem Zjq {ks:List (List Key)}{xs:List PV}{k:List Key}{y:PV} (h:ks.length=xs.length):(putXs ks xs k y).length<=xs.length+1:=by
 unfold putXs
 split
 ·rw[Zad h,h];omega
 ·simp
theorem ZaY {g:Bool->Bool}{n:Nat}{x:PV} (h:Dat n x) (hn:n<=64:=by decide):ZdE g x x=.ok (.bl (g true)):=by
 unfold ZdE
 rw[h.ok hn,Bool.and_self,if_pos rfl,PySem.SeqAt.eqv_refl _ h.can]
theorem Zdw (L:List (List Int)):Dat 2 (.lst (L.map JO)):=Zf0 fun x hx=>by
 obtain⟨t,_,rfl⟩:=Zr3.mp hx
 exact Zi8 fun y hy=>by
  obtain⟨i,_,rfl⟩:=Zr3.mp hy
  exact Zf1 i
theorem ZjT {α:Type}{q:α->PV}{L:List α}{d:α}{i:Nat}{x:PV} (h:(Zax (L.map q))[i]?=some x):i<L.length/\x=.tup [.int i,q (L.getD i d)]:=by
 unfold Zax at h
 rw[Zsc,Zri] at h
 by_cases hi:i<L.length
 ·rw[ZqH hi] at h
  refine⟨hi, ?_⟩
  rw[ZqF,ZqH hi]
  simpa using h.symm
 ·rw[Zrc (by omega)] at h
  simp at h
theorem ZgL {α:Type}{q:α->PV}{L:List α}{l h:Int} (h0:0<=l) (h1:0<=h):Zi9 (L.map q) (some l) (some h)=((L.take h.toNat).drop l.toNat).map q:=by
 unfold Zi9 HT.sIx
 simp only[ZqN]
 rw[if_neg (by omega),if_neg (by omega),<- List.map_drop,<- List.map_take]
 congr 1
 rw[List.drop_take]
 by_cases c:l.toNat<=L.length
 ·rw[Nat.min_eq_left c,List.take_eq_take_iff]
  simp only[Zr1]
  omega
 ·rw[Zr5 (by omega),Zr5 (by omega)]
  simp
theorem Zid {g:Bool->Bool}{l:List Int}{M:List (List Int)}:Zho g (.lst (l.map PV.int)) (.lst (M.map fzI))=.ok (.bl (g (decide (l∈M)))):=by
 rw[<- ZdC]
 unfold Zho
 simp only[List.all_map,List.any_map]
 rfl
set_option hygiene false
local macro_rules | `(tactic| walk_at "pu")=>`(tactic| try simp -implicitDefEqProofs only[ZbS,ZbT,Zso,Zsp,Zss,ZrC,Zr2,List.replicate_zero,ZrB,Rr.bind_ok,Rr.bind_exc,Rr.bind_bad,Rr.thenS_ok,Rr.thenS_exc,RS.seq_next,RS.seq_ret,RS.seq_exc,RS.out_next,RS.out_ret,RS.out_exc,
 ZeM,ZeA,Zhh,Zhi,Zhp,Zhq,Zfq,Zh6,Zci,ZfH,Zhn,Zhm,Zhl,ZeD,Zhk,Zhj,Zdf,Zdg,Zde,Zdd,ZeI,ZcP,ZaW,ZaV,ZqY,Zry,Bool.not_true,Bool.not_false,Bool.false_eq_true,if_true,if_false,Nat.reduceAdd,Nat.reduceSub,id,Zrb,ZrM,Int.reduceToNat,QK,Vz,Zj4,Zhv,Zhu,Zdh,ZcW,Nat.reduceLeDiff,ZqJ,Int.reduceLT,Int.reduceLE,Int.reduceEq,decide_true,decide_false])
set_option hygiene true
seal PE PT PA PS PSs DE DT DAA DAF DS
noncomputable abbrev Zr:List Str:=["boards", "deeds", "undone"]
noncomputable def top (i:Nat):Stmt:=PySem.Challenge.pw_sowring_k60_came_again.main.body.getD i (.Pass ⟨0,0,0,0⟩)
noncomputable abbrev Znm:Stmt:=top 27
theorem Zqg:Zx ["script", "k"] ["script", "k"] (Ze Znm):=⟨rfl,rfl,rfl,by decide +kernel,rfl,by decide +kernel,by decide +kernel⟩
theorem Zqm:Z3 "_law_at" Znm ["script", "k"]:=fun _ _ _ _ _ _ us hl=>by obtain⟨_,_,rfl⟩:=us2 hl;rfl
noncomputable abbrev ZmD:Stmt:=top 28
theorem Znk:Zx ["script", "many", "numbers", "k", "at"] ["script", "many"] (Ze ZmD):=⟨rfl,rfl,rfl,by decide +kernel,rfl,by decide +kernel,by decide +kernel⟩
theorem Zp6:Z3 "_law_folded" ZmD ["script", "many"]:=fun _ _ _ _ _ _ us hl=>by obtain⟨_,_,rfl⟩:=us2 hl;rfl
noncomputable abbrev ZmK:Stmt:=top 29
theorem ZmN:Zx ["script", "pits", "way", "board", "number", "held"] ["script", "pits", "way"] (Ze ZmK):=⟨rfl,rfl,rfl,by decide +kernel,rfl,by decide +kernel,by decide +kernel⟩
theorem ZpJ:Z3 "_law_board" ZmK ["script", "pits", "way"]:=fun _ _ _ _ _ _ us hl=>by obtain⟨_,_,_,rfl⟩:=us3 hl;rfl
noncomputable abbrev Znb:Stmt:=top 11
theorem ZpY:Zx ["value"] ["value"] (Ze Znb):=⟨rfl,rfl,rfl,by decide +kernel,rfl,by decide +kernel,by decide +kernel⟩
theorem Zqd:Z3 "is_whole" Znb ["value"]:=fun _ _ _ _ _ _ us hl=>by obtain⟨_,rfl⟩:=us1 hl;rfl
noncomputable abbrev Zm0:Stmt:=top 12
theorem ZoW:Zx ["value", "least"] ["value", "least"] (Ze Zm0):=⟨rfl,rfl,rfl,by decide +kernel,rfl,by decide +kernel,by decide +kernel⟩
theorem ZnY:Z3 "is_whole_from" Zm0 ["value", "least"]:=fun _ _ _ _ _ _ us hl=>by obtain⟨_,_,rfl⟩:=us2 hl;rfl
noncomputable abbrev Zmj:Stmt:=top 13
theorem Znf:Zx ["values"] ["values"] (Ze Zmj):=⟨rfl,rfl,rfl,by decide +kernel,rfl,by decide +kernel,by decide +kernel⟩
theorem Zob:Z3 "is_list_from_nought" Zmj ["values"]:=fun _ _ _ _ _ _ us hl=>by obtain⟨_,rfl⟩:=us1 hl;rfl
noncomputable abbrev ZmJ:Stmt:=top 10
theorem ZpA:Zx [] [] (Ze ZmJ):=⟨rfl,rfl,rfl,by decide +kernel,rfl,by decide +kernel,by decide +kernel⟩
theorem ZpI:Z3 "most_seeds" ZmJ []:=fun _ _ _ _ _ _ us hl=>match us,hl with | [],_=>rfl
noncomputable abbrev Znc:Stmt:=top 14
theorem ZpZ:Zx ["board"] ["board"] (Ze Znc):=⟨rfl,rfl,rfl,by decide +kernel,rfl,by decide +kernel,by decide +kernel⟩
theorem Zqe:Z3 "is_board" Znc ["board"]:=fun _ _ _ _ _ _ us hl=>by obtain⟨_,rfl⟩:=us1 hl;rfl
noncomputable abbrev ZmC:Stmt:=top 15
theorem Zp1:Zx ["board"] ["board"] (Ze ZmC):=⟨rfl,rfl,rfl,by decide +kernel,rfl,by decide +kernel,by decide +kernel⟩
theorem Zo5:Z3 "check_board" ZmC ["board"]:=fun _ _ _ _ _ _ us hl=>by obtain⟨_,rfl⟩:=us1 hl;rfl
noncomputable abbrev Zmh:Stmt:=V4 (top 25) 0
theorem Zo1:Zx ["self", "board"] ["self", "board"] (Ze Zmh):=⟨rfl,rfl,rfl,by decide +kernel,rfl,by decide +kernel,by decide +kernel⟩
theorem Zo3:∀(kV doc pm:Value) (an:Option Addr) (cdv ct:Value) (us:List Value),us.length=(["self", "board"]:List Str).length->bindArgs (PySem.W.fnOf "__init__" "RingBook.__init__" (Zs Zmh) (Zq Zmh) (Ze Zmh) .none kV doc pm an cdv ct) ⟨us,[]⟩=pure ((["self", "board"]:List Str).zip us):=fun _ _ _ _ _ _ us hl=>by obtain⟨_,_,rfl⟩:=us2 hl;rfl
noncomputable abbrev ZmL:Stmt:=top 30
theorem Zn0:Zx ["boards", "found", "earlier", "later"] ["boards"] (Ze ZmL):=⟨rfl,rfl,rfl,by decide +kernel,rfl,by decide +kernel,by decide +kernel⟩
theorem ZpK:Z3 "_law_again" ZmL ["boards"]:=fun _ _ _ _ _ _ us hl=>by obtain⟨_,rfl⟩:=us1 hl;rfl
noncomputable abbrev Zmg:Stmt:=V4 (top 25) 9
theorem Zml:Zx ["self", "places", "pairs", "place", "found", "key"] ["self"] (Ze Zmg):=⟨rfl,rfl,rfl,by decide +kernel,rfl,by decide +kernel,by decide +kernel⟩
theorem Zoc:∀(kV doc pm:Value) (an:Option Addr) (cdv ct:Value) (us:List Value),us.length=(["self"]:List Str).length->bindArgs (PySem.W.fnOf "came_again" "RingBook.came_again" (Zs Zmg) (Zq Zmg) (Ze Zmg) .none kV doc pm an cdv ct) ⟨us,[]⟩=pure ((["self"]:List Str).zip us):=fun _ _ _ _ _ _ us hl=>by obtain⟨_,rfl⟩:=us1 hl;rfl
noncomputable abbrev Zmr:Stmt:=top 31
theorem ZmQ:Zx ["book", "boards", "due", "told", "pair"] ["book", "boards"] (Ze Zmr):=⟨rfl,rfl,rfl,by decide +kernel,rfl,by decide +kernel,by decide +kernel⟩
theorem ZoI:Z3 "_law_told_right" Zmr ["book", "boards"]:=fun _ _ _ _ _ _ us hl=>by obtain⟨_,_,rfl⟩:=us2 hl;rfl
noncomputable abbrev Zmn:Stmt:=V4 (top 25) 4
theorem ZoX:Zx ["self"] ["self"] (Ze Zmn):=⟨rfl,rfl,rfl,by decide +kernel,rfl,by decide +kernel,by decide +kernel⟩
theorem Zpc:∀(kV doc pm:Value) (an:Option Addr) (cdv ct:Value) (us:List Value),us.length=(["self"]:List Str).length->bindArgs (PySem.W.fnOf "undo" "RingBook.undo" (Zs Zmn) (Zq Zmn) (Ze Zmn) .none kV doc pm an cdv ct) ⟨us,[]⟩=pure ((["self"]:List Str).zip us):=fun _ _ _ _ _ _ us hl=>by obtain⟨_,rfl⟩:=us1 hl;rfl
noncomputable abbrev Zmo:Stmt:=V4 (top 25) 5
theorem ZnT:Zx ["self", "again"] ["self"] (Ze Zmo):=⟨rfl,rfl,rfl,by decide +kernel,rfl,by decide +kernel,by decide +kernel⟩
theorem Zpd:∀(kV doc pm:Value) (an:Option Addr) (cdv ct:Value) (us:List Value),us.length=(["self"]:List Str).length->bindArgs (PySem.W.fnOf "redo" "RingBook.redo" (Zs Zmo) (Zq Zmo) (Ze Zmo) .none kV doc pm an cdv ct) ⟨us,[]⟩=pure ((["self"]:List Str).zip us):=fun _ _ _ _ _ _ us hl=>by obtain⟨_,rfl⟩:=us1 hl;rfl
noncomputable abbrev Zn7:Stmt:=top 16
theorem Zqp:Zx ["board", "pit"] ["board", "pit"] (Ze Zn7):=⟨rfl,rfl,rfl,by decide +kernel,rfl,by decide +kernel,by decide +kernel⟩
theorem Zqy:Z3 "is_pit" Zn7 ["board", "pit"]:=fun _ _ _ _ _ _ us hl=>by obtain⟨_,_,rfl⟩:=us2 hl;rfl
noncomputable abbrev ZmR:Stmt:=top 17
theorem ZpN:Zx ["board", "pit"] ["board", "pit"] (Ze ZmR):=⟨rfl,rfl,rfl,by decide +kernel,rfl,by decide +kernel,by decide +kernel⟩
theorem ZpU:Z3 "check_pit" ZmR ["board", "pit"]:=fun _ _ _ _ _ _ us hl=>by obtain⟨_,_,rfl⟩:=us2 hl;rfl
noncomputable abbrev Zmw:Stmt:=top 18
theorem ZoJ:Zx ["board", "pit"] ["board", "pit"] (Ze Zmw):=⟨rfl,rfl,rfl,by decide +kernel,rfl,by decide +kernel,by decide +kernel⟩
theorem ZnG:Z3 "check_standing" Zmw ["board", "pit"]:=fun _ _ _ _ _ _ us hl=>by obtain⟨_,_,rfl⟩:=us2 hl;rfl
noncomputable abbrev Zm6:Stmt:=top 23
theorem Zmz:Zx ["board", "pit", "pits", "rounds", "other", "taken", "place"] ["board", "pit"] (Ze Zm6):=⟨rfl,rfl,rfl,by decide +kernel,rfl,by decide +kernel,by decide +kernel⟩
theorem Zpu:Z3 "take_back_at" Zm6 ["board", "pit"]:=fun _ _ _ _ _ _ us hl=>by obtain⟨_,_,rfl⟩:=us2 hl;rfl
noncomputable abbrev ZmI:Stmt:=top 21
theorem Zp9:Zx ["board", "pit"] ["board", "pit"] (Ze ZmI):=⟨rfl,rfl,rfl,by decide +kernel,rfl,by decide +kernel,by decide +kernel⟩
theorem ZoH:Z3 "taken_back" ZmI ["board", "pit"]:=fun _ _ _ _ _ _ us hl=>by obtain⟨_,_,rfl⟩:=us2 hl;rfl
noncomputable abbrev Zmk:Stmt:=V4 (top 25) 3
theorem ZoK:Zx ["self", "deed", "board"] ["self", "deed", "board"] (Ze Zmk):=⟨rfl,rfl,rfl,by decide +kernel,rfl,by decide +kernel,by decide +kernel⟩
theorem ZnH:∀(kV doc pm:Value) (an:Option Addr) (cdv ct:Value) (us:List Value),us.length=(["self", "deed", "board"]:List Str).length->bindArgs (PySem.W.fnOf "enter" "RingBook.enter" (Zs Zmk) (Zq Zmk) (Ze Zmk) .none kV doc pm an cdv ct) ⟨us,[]⟩=pure ((["self", "deed", "board"]:List Str).zip us):=fun _ _ _ _ _ _ us hl=>by obtain⟨_,_,_,rfl⟩:=us3 hl;rfl
noncomputable abbrev Zmp:Stmt:=V4 (top 25) 2
theorem ZnU:Zx ["self", "pit", "behind"] ["self", "pit"] (Ze Zmp):=⟨rfl,rfl,rfl,by decide +kernel,rfl,by decide +kernel,by decide +kernel⟩
theorem Zpe:∀(kV doc pm:Value) (an:Option Addr) (cdv ct:Value) (us:List Value),us.length=(["self", "pit"]:List Str).length->bindArgs (PySem.W.fnOf "back" "RingBook.back" (Zs Zmp) (Zq Zmp) (Ze Zmp) .none kV doc pm an cdv ct) ⟨us,[]⟩=pure ((["self", "pit"]:List Str).zip us):=fun _ _ _ _ _ _ us hl=>by obtain⟨_,_,rfl⟩:=us2 hl;rfl
noncomputable abbrev Znl:Stmt:=top 22
theorem Zna:Zx ["board", "pit", "pits", "rounds", "over", "other", "last", "step"] ["board", "pit"] (Ze Znl):=⟨rfl,rfl,rfl,by decide +kernel,rfl,by decide +kernel,by decide +kernel⟩
theorem Zql:Z3 "sow_pit" Znl ["board", "pit"]:=fun _ _ _ _ _ _ us hl=>by obtain⟨_,_,rfl⟩:=us2 hl;rfl
noncomputable abbrev ZoU:Stmt:=top 20
theorem Zq6:Zx ["board", "pit"] ["board", "pit"] (Ze ZoU):=⟨rfl,rfl,rfl,by decide +kernel,rfl,by decide +kernel,by decide +kernel⟩
theorem Zqx:Z3 "sown" ZoU ["board", "pit"]:=fun _ _ _ _ _ _ us hl=>by obtain⟨_,_,rfl⟩:=us2 hl;rfl
noncomputable abbrev Zmt:Stmt:=V4 (top 25) 1
theorem Zod:Zx ["self", "pit", "behind"] ["self", "pit"] (Ze Zmt):=⟨rfl,rfl,rfl,by decide +kernel,rfl,by decide +kernel,by decide +kernel⟩
theorem Zpv:∀(kV doc pm:Value) (an:Option Addr) (cdv ct:Value) (us:List Value),us.length=(["self", "pit"]:List Str).length->bindArgs (PySem.W.fnOf "sow" "RingBook.sow" (Zs Zmt) (Zq Zmt) (Ze Zmt) .none kV doc pm an cdv ct) ⟨us,[]⟩=pure ((["self", "pit"]:List Str).zip us):=fun _ _ _ _ _ _ us hl=>by obtain⟨_,_,rfl⟩:=us2 hl;rfl
noncomputable abbrev ZpO:Stmt:=top 32
theorem Znz:Zx ["script", "head", "pits", "board", "book", "boards", "gone", "last", "cell", "way", "pit"] ["script"] (Ze ZpO):=⟨rfl,rfl,rfl,by decide +kernel,rfl,by decide +kernel,by decide +kernel⟩
theorem ZqD:Z3 "law" ZpO ["script"]:=fun _ _ _ _ _ _ us hl=>by obtain⟨_,rfl⟩:=us1 hl;rfl
noncomputable abbrev XN:List Str:=["SowError", "BadBoard", "BadPit", "NoSeeds", "NoDeed"]
noncomputable abbrev Zck:List (Str×Str×Bool):=[("SowError", "SowError",true),("BadBoard", "SowError",true),("BadPit", "SowError",true),("NoSeeds", "SowError",true),("NoDeed", "SowError",true)]
noncomputable abbrev Zcl:List (Str×Str×Bool):=[("SowError", "BadBoard",false),("BadBoard", "BadBoard",true),("BadPit", "BadBoard",false),("NoSeeds", "BadBoard",false),("NoDeed", "BadBoard",false)]
noncomputable abbrev ZfK:List (Str×Str×Bool):=[("SowError", "BadPit",false),("BadBoard", "BadPit",false),("BadPit", "BadPit",true),("NoSeeds", "BadPit",false),("NoDeed", "BadPit",false)]
noncomputable abbrev ZdV:List (Str×Str×Bool):=[("SowError", "NoSeeds",false),("BadBoard", "NoSeeds",false),("BadPit", "NoSeeds",false),("NoSeeds", "NoSeeds",true),("NoDeed", "NoSeeds",false)]
noncomputable abbrev ZfJ:List (Str×Str×Bool):=[("SowError", "NoDeed",false),("BadBoard", "NoDeed",false),("BadPit", "NoDeed",false),("NoSeeds", "NoDeed",false),("NoDeed", "NoDeed",true)]
noncomputable abbrev XS:List (Str×Str×Bool):=Zck++Zcl++ZfK++ZdV++ZfJ
noncomputable abbrev XR:List Str:=["SowError", "BadBoard", "BadPit", "NoSeeds", "NoDeed"]
structure Txt (K:PySem.W.Frag) (mg:Str->Option Value):Prop where
 Zqw:Dfn K mg "_law_at" Znm
 ZpH:Dfn K mg "_law_folded" ZmD
 ZpR:Dfn K mg "_law_board" ZmK
 Zqj:Dfn K mg "is_whole" Znb
 Zoq:Dfn K mg "is_whole_from" Zm0
 Zor:Dfn K mg "is_list_from_nought" Zmj
 ZpQ:Dfn K mg "most_seeds" ZmJ
 Zqk:Dfn K mg "is_board" Znc
 ZoF:Dfn K mg "check_board" ZmC
 ZpS:Dfn K mg "_law_again" ZmL
 ZoR:Dfn K mg "_law_told_right" Zmr
 Zq3:Dfn K mg "is_pit" Zn7
 Zqc:Dfn K mg "check_pit" ZmR
 ZnW:Dfn K mg "check_standing" Zmw
 Zp3:Dfn K mg "take_back_at" Zm6
 ZoV:Dfn K mg "taken_back" ZmI
 Zqv:Dfn K mg "sow_pit" Znl
 Zq5:Dfn K mg "sown" ZoU
 ZqE:Dfn K mg "law" ZpO
 c_FEWEST_PITS:∃t,mg "FEWEST_PITS"=some (.int 2 t)
 c_MOST_PITS:∃t,mg "MOST_PITS"=some (.int 24 t)
 z_all:mg "all"=none
 z_bool:mg "bool"=none
 z_enumerate:mg "enumerate"=none
 z_int:mg "int"=none
 z_isinstance:mg "isinstance"=none
 z_len:mg "len"=none
 z_list:mg "list"=none
 z_min:mg "min"=none
 z_range:mg "range"=none
 z_sorted:mg "sorted"=none
 z_sum:mg "sum"=none
 z_tuple:mg "tuple"=none
 x_tab:Zl3 K XN XS=true
 x_exc:ZhB K XR=true
 x_mg:∀n C,QW K n C->mg n=some (.ref C)
 Zo9:ZgQ K "RingBook" "__init__" "RingBook.__init__" Zmh
 Zos:ZgQ K "RingBook" "came_again" "RingBook.came_again" Zmg
 Zpo:ZgQ K "RingBook" "undo" "RingBook.undo" Zmn
 Zpp:ZgQ K "RingBook" "redo" "RingBook.redo" Zmo
 ZnX:ZgQ K "RingBook" "enter" "RingBook.enter" Zmk
 Zpq:ZgQ K "RingBook" "back" "RingBook.back" Zmp
 Zp4:ZgQ K "RingBook" "sow" "RingBook.sow" Zmt
 o_RingBook:Q3 K "RingBook" Zr=true
section
variable {P:Program}{w:World}{K:W.Frag}{mg:Str->Option Value}{base:Heap}
set_option hygiene false
local macro_rules | `(tactic| walk_at "pd")=>`(tactic| try simp -implicitDefEqProofs (disch:=first|omega|(simp only[ZqN,Zra,Zr8,List.length_replicate,ZqY,Zry,Zrd,Zr1,List.length_range,Jv];omega)|decide) only[ZbS,ZbT,Zso,Zsp,Zss,ZrC,Zex,Zew,ZrB,Rr.bind_ok,Rr.bind_exc,Rr.bind_bad,Rr.thenS_ok,Rr.thenS_exc,RS.seq_next,RS.seq_ret,RS.seq_exc,RS.out_next,RS.out_ret,RS.out_exc,
 ZeM,ZeA,Zhh,Zhi,Zhp,Zhq,Zfq,Zg2,Zh6,Zci,ZfH,Zhn,Zhm,Zhl,ZeD,Zhk,Zhj,Zdf,Zdg,Zde,Zdd,ZeI,ZcP,ZaW,ZaV,ZqY,Zry,Bool.not_true,Bool.not_false,Bool.false_eq_true,if_true,if_false,Nat.reduceAdd,Nat.reduceSub,id,Zrb,ZrM,Int.reduceToNat,QK,Vz,Zj4,Zhv,Zhu,Zgj,Zl0,Zdh,ZcW,Nat.reduceLeDiff,ZqJ,Int.reduceLT,Int.reduceLE,Int.reduceEq,decide_true,decide_false,
 ZM,JB,ZaZ,ZcO,ZcN,ZbL,ZdB,Qc,Zkd,Zgn,Zgm,Zgl,beq_self_eq_true,Bool.and_true,Bool.true_and,Bool.and_false,Bool.false_and])
set_option hygiene true
noncomputable def Znd:Pm:=⟨List Int×Int,fun a=>[.lst (a.1.map PV.int),.int a.2],fun a=>0<=a.2,fun a=>.ok (.int (a.1.getD a.2.toNat 0))⟩
theorem Zqi (T:Txt K mg) {f:Addr}{fd:FuncData} (F:Fun K "_law_at" "_law_at" Znm f fd):J0 P w K mg base CX0 1 f fd ["script", "k"] (spF K 2 .P W0 Znd.fn):=by
 refine F.okP Zqg rfl rfl (fun cdv A outer s H E hr=>?_)
 have hu:=hr.units
 refine⟨_,_,⟨[],[],[],.P⟩,rfl,(Zd (J7 (ZB Zih (pv 1) (Zz (ZJ (K:=K)) rfl T.z_len JG (Za (pv 0) Zf)) (ZK _)) (Zm (ZQ (ZW (Zw (K:=K)) (pv 0) (pv 1) (fun _ _=>rfl)))) ZS)
   (Zm (ZQ Zk))),
   (Zn (Γm:=[.S,.S]) (JD (ZA (DE.toA (Zi4 (Zc (i:=1) (m:=.S) rfl (by decide)) (DE.toA (JE (Zb (Zc (i:=0) (m:=.S) rfl (by decide)) Zh))))))
   (Je (DE.grd (Z8 (te:=tC .non) (Zc (i:=0) (m:=.S) rfl (by decide)) (Zc (i:=1) (m:=.S) rfl (by decide)))))
   ZV)
   (Je Zj)), ?_⟩
 refine Pm.ref Znd (g:=fun xs=>_) ?_
 rintro⟨ns,k⟩ (hk:0<=k)
 simp only[Znd]
 walk_at "pu"
 by_cases h:k<ns.length
 ·rw[if_pos (decide_eq_true h),ZM hk h]
  walk_at "pu"
 ·rw[if_neg (by simpa using h)]
  walk_at "pu"
  rw[ZqF,Zrc (by omega)];rfl
theorem Zou {ns:List Int}{k:Int} (h:0<=k):Znd.fn [.lst (ns.map PV.int),.int k]=.ok (.int (ns.getD k.toNat 0)):=Pm.fn_eq Znd (ns,k) h fun(a:List Int×Int) e=>by (simp only[Znd,List.cons.injEq,PV.lst.injEq,PV.int.injEq,PV.str.injEq,PV.bl.injEq,PV.tup.injEq,Vk,and_true] at e ⊢;first|(simp only[e];done)|(subst e;rfl)|(rw[e]))
noncomputable def Zm8:Pm:=⟨List Int×Int,fun a=>[.lst (a.1.map PV.int),.int a.2],fun a=>a.1.length<=63/\1<=a.2/\a.2<=24,fun a=>.ok (.lst ((JM a.1 a.2).map PV.int))⟩
theorem Zp2 (T:Txt K mg) {f:Addr}{fd:FuncData} (F:Fun K "_law_folded" "_law_folded" ZmD f fd):J0 P w K mg base CX0 1 f fd ["script", "many"] (spF K 2 .F W0 Zm8.fn):=by
 refine F.okP Znk rfl rfl (fun cdv A outer s H E hr=>?_)
 have hu:=hr.units
 refine⟨_,_,⟨[],[],[],.F⟩,rfl,(Zd (Z1 (i:=2) Znk.nd rfl (by first|exact Or.inl rfl|exact Or.inr rfl) (ZH Zj5 (J4 (Za Zk Zf)) (pv 1)))
   (Zd (Ui PassesOwn.never rfl (ZaQ rfl T.z_range (Za Zk (Za (Zz (ZJ (K:=K)) rfl T.z_len JG (Za (pv 0) Zf)) Zf))) (JH (i:=3) Znk.nd rfl (by first|exact Or.inl rfl|exact Or.inr rfl)) (Zd (Z1 (i:=4) Znk.nd rfl (by first|exact Or.inl rfl|exact Or.inr rfl) (ZH Jw (ZH ZeN (pv 3) Zk) (pv 1)))
   (Zm (ZcE (ZH Jw (ZH Uk (ZH ZeP (ZW (Zw (K:=K)) (pv 2) (pv 4) (fun _ _=>rfl)) Zk) (ZW (Zw (K:=K)) (pv 0) (pv 3) (fun _ _=>rfl))) (ZH Zhr Zk Zk)) (ZcH (pv 2) (pv 4) Vd)))))
   (Zm (ZQ (pv 2))))),
   (Zn (Γm:=[.S,.S,.O,.U,.U]) (Jd (i:=2) (Zi2 (Zb (DE.toA Zj) Zh) (Zc (i:=1) (m:=.S) rfl (by decide))) (by decide))
   (Zn (Γm:=[.S,.S,.O,.U,.U]) (Qr (Γl:=[.S,.S,.O,.U,.U]) (Zfw (Zb (DE.toA Zj) (Zb (DE.toA (JE (Zb (Zc (i:=0) (m:=.S) rfl (by decide)) Zh))) Zh))) rfl (Zhz (i:=3) (by decide))
   (DS.out (Y:=⟨[.S,.S,.O,.P,.P],[.S,.S,.O,.U,.U],[.S,.S,.O,.U,.U],.F⟩) (Y':=⟨[.S,.S,.O,.U,.U],[.S,.S,.O,.U,.U],[.S,.S,.O,.U,.U],.F⟩) (Zn (Γm:=[.S,.S,.O,.P,.P]) (Z7 (i:=4) (Jx (DE.toA (Zfz (DE.toA (Zg (i:=3) rfl)) (DE.toA Zj))) (Zc (i:=1) (m:=.S) rfl (by decide))) (by decide))
   (VJ (i:=2) rfl (Jx (DE.toA (Ur (DE.toA (Zh3 (Z8 (te:=tC .non) (Zc (i:=2) (m:=.O) rfl (by decide)) (DE.toA (Zg (i:=4) rfl))) (DE.toA Zj))) (Z8 (te:=tC .non) (Zc (i:=0) (m:=.S) rfl (by decide)) (DE.toA (Zg (i:=3) rfl))))) (DE.toA (Zh2 (DE.toA Zj) (DE.toA Zj)))) (DE.toA (Zg (i:=4) rfl)))) rfl rfl rfl rfl))
   (JZ (Qv (i:=2) rfl)))), ?_⟩
 refine Pm.ref Zm8 (g:=fun xs=>_) ?_
 rintro⟨ns,m⟩ ⟨hn,hm1,hm2⟩
 simp only at hn hm1 hm2
 simp only[Zm8]
 walk_at "pu"
 have e0:Zjz [PV.int 0] (.int m)=.ok (.lst ((V5 ns m 0).map PV.int)):=by
  have:=ZeC (ns:=[0]) (k:=m) (by simp;omega) (by omega) (by omega)
  simp only[Zrb,ZrM] at this
  rw[this,List.flatten_replicate_singleton];rfl
 rw[e0]
 walk_at "pu"
 rw[ZcN (by omega) (by omega)]
 walk_at "pu"
 generalize hb:(fun(x:PV) (ρ:List PV)=>_)=body
 obtain⟨ρ',h1,h2⟩:=UG (b:=body) (xs:=Zd8 1 ((ns.length:Int)-1).toNat) (ρ:=[.lst (ns.map PV.int),.int m,.lst ((V5 ns m 0).map PV.int),.non,.non]) (fun i ρ=>∃v3 v4,ρ=[.lst (ns.map PV.int),.int m,.lst ((V5 ns m i).map PV.int),v3,v4]) ⟨_,_,rfl⟩ (by
  rintro i x ρ hx ⟨v3,v4,rfl⟩
  obtain⟨hi,rfl⟩:=U8 hx
  subst hb
  have a0:=Zru (i:Int) (show m≠0 by omega)
  have a1:=Zrr (i:Int) (show 0<m by omega)
  have e1:(1:Int)+i-1=i:=by omega
  have hl:=J6 ns m i
  walk_at "pu"
  rw[Vz (by omega)]
  walk_at "pu"
  rw[e1,ZM a0 (by omega),ZM (by omega) (by omega)]
  walk_at "pu"
  have hb:=JK ns m i ((V5 ns m i).getD ((i:Int)%m).toNat 0) (Jm (by omega))
  rw[ZeE (Zf6 60 2 (by omega) (by decide))]
  walk_at "pu"
  rw[Vz (by decide)]
  walk_at "pu"
  rw[JB a0 (by omega)]
  walk_at "pu"
  rw[show (1+(i:Int)).toNat=i+1 by omega,<- ZdP]
  exact Vq ⟨_,_,rfl⟩)
 obtain⟨v3,v4,rfl⟩:=h2
 rw[h1]
 walk_at "pu"
 rw[Jv]
 unfold JM
 rw[show ((ns.length:Int)-1).toNat=ns.length-1 by omega]
theorem Zne {ns:List Int}{m:Int} (h:ns.length<=63/\1<=m/\m<=24):Zm8.fn [.lst (ns.map PV.int),.int m]=.ok (.lst ((JM ns m).map PV.int)):=
 Pm.fn_eq Zm8 (ns,m) h fun⟨ns',k'⟩ e=>by
  simp only[Zm8,List.cons.injEq,PV.lst.injEq,PV.int.injEq,and_true] at e ⊢
  rw[ZR e.1,e.2]
noncomputable def ZmE:Pm:=⟨List Int×Int×Int,fun a=>[.lst (a.1.map PV.int),.int a.2.1,.int a.2.2],fun a=>a.1.length<=63/\2<=a.2.1/\a.2.1<=24,fun a=>.ok (.lst ((JJ a.1 a.2.1 a.2.2).map PV.int))⟩
theorem ZpE (T:Txt K mg) {f:Addr}{fd:FuncData} (F:Fun K "_law_board" "_law_board" ZmK f fd):J0 P w K mg base CX0 2 f fd ["script", "pits", "way"] (spF K 3 .F W0 ZmE.fn):=by
 have ZpM:=ZcR (P:=P) (w:=w) (base:=base) T.ZpH Zp6 (fun F=>Zp2 T F)
 refine F.okP ZmN rfl rfl (fun cdv A outer s H E hr=>?_)
 have hu:=hr.units
 refine⟨_,_,⟨[],[],[],.F⟩,rfl,(Zd (Z1 (i:=3) ZmN.nd rfl (by first|exact Or.inl rfl|exact Or.inr rfl) (J4 Zf))
   (Zd (Ui PassesOwn.never rfl (Ve (K:=K) (ZU ZpM (hr.mono (by decide)) rfl (Za (pv 0) (Za (pv 1) Zf)))) (JH (i:=4) ZmN.nd rfl (by first|exact Or.inl rfl|exact Or.inr rfl)) (Zd (Z1 (i:=5) ZmN.nd rfl (by first|exact Or.inl rfl|exact Or.inr rfl) (ZH Jw (ZH Jj (pv 4) Zk) Zk))
   (Zd (J7 (ZB (Jo (K:=K) hu) (pv 2) Zk (ZK _)) (Zm (Z1 (i:=5) ZmN.nd rfl (by first|exact Or.inl rfl|exact Or.inr rfl) (ZH Jw (ZH Jj (pv 4) Zk) Zk))) ZS)
   (Zd (J7 (ZB (Jo (K:=K) hu) (pv 2) Zk (ZK _)) (Zm (Z1 (i:=5) ZmN.nd rfl (by first|exact Or.inl rfl|exact Or.inr rfl) (ZH Jj (pv 4) Zk))) ZS)
   (Zd (J7 (ZB (Jo (K:=K) hu) (pv 2) Zk (ZK _)) (Zm (Z1 (i:=5) ZmN.nd rfl (by first|exact Or.inl rfl|exact Or.inr rfl) (ZW (Zw (K:=K)) (J4 (Za Zk (Za Zk (Za (ZH Jj (pv 4) Zk) (Za (pv 1) Zf))))) (ZH Jw (ZH Jj (pv 4) Zk) Zk) (fun _ _=>rfl)))) ZS)
   (Zm (ZC (VW PySem.F.plainAttrs_list PySem.F.slot_list_append PySem.F.type_list_append ZI (pv 3) (Za (pv 5) Zf)))))))))
   (Zm (ZQ (pv 3))))),
   (Zn (Γm:=[.S,.S,.S,.O,.U,.U]) (Jd (i:=3) (Jh ZZ) (by decide))
   (Zn (Γm:=[.S,.S,.S,.O,.U,.U]) (Qr (Γl:=[.S,.S,.S,.O,.U,.U]) (Qu (DE.FZ (Zkb (Zi (Zi Zu)) (Zb (Zc (i:=0) (m:=.S) rfl (by decide)) (Zb (Zc (i:=1) (m:=.S) rfl (by decide)) Zh))))) rfl (Zhz (i:=4) (by decide))
   (DS.out (Y:=⟨[.S,.S,.S,.O,.P,.P],[.S,.S,.S,.O,.U,.U],[.S,.S,.S,.O,.U,.U],.F⟩) (Y':=⟨[.S,.S,.S,.O,.U,.U],[.S,.S,.S,.O,.U,.U],[.S,.S,.S,.O,.U,.U],.F⟩) (Zn (Γm:=[.S,.S,.S,.O,.P,.P]) (Z7 (i:=5) (Jx (DE.toA (Vt (DE.toA (Zg (i:=4) rfl)) (DE.toA Zj))) (DE.toA Zj)) (by decide))
   (Zn (Γm:=[.S,.S,.S,.O,.P,.P]) (JD (ZA (DE.toA (Jn (g:=id) (Zc (i:=2) (m:=.S) rfl (by decide)) (DE.toA Zj))))
   (Z7 (i:=5) (Jx (DE.toA (Vt (DE.toA (Zg (i:=4) rfl)) (DE.toA Zj))) (DE.toA Zj)) (by decide))
   ZV)
   (Zn (Γm:=[.S,.S,.S,.O,.P,.P]) (JD (ZA (DE.toA (Jn (g:=id) (Zc (i:=2) (m:=.S) rfl (by decide)) (DE.toA Zj))))
   (Z7 (i:=5) (Vt (DE.toA (Zg (i:=4) rfl)) (DE.toA Zj)) (by decide))
   ZV)
   (Zn (Γm:=[.S,.S,.S,.O,.P,.P]) (JD (ZA (DE.toA (Jn (g:=id) (Zc (i:=2) (m:=.S) rfl (by decide)) (DE.toA Zj))))
   (Z7 (i:=5) (DE.grd (Z8 (te:=tC .non) (DE.toA (Jh (ZG (DE.PF Zj) (ZG (DE.PF Zj) (ZG (DE.PF (Vt (DE.toA (Zg (i:=4) rfl)) (DE.toA Zj))) (ZG (DE.PF (DE.grd (Zc (i:=1) (m:=.S) rfl (by decide)))) ZZ)))))) (DE.toA (Jx (DE.toA (Vt (DE.toA (Zg (i:=4) rfl)) (DE.toA Zj))) (DE.toA Zj))))) (by decide))
   ZV)
   (Uc (i:=3) rfl rfl (DE.PF (Zg (i:=5) rfl))))))) rfl rfl rfl rfl))
   (JZ (Qv (i:=3) rfl)))), ?_⟩
 refine Pm.ref ZmE (g:=fun xs=>_) ?_
 rintro⟨ns,m,way⟩ ⟨hn,hm1,hm2⟩
 simp only at hn hm1 hm2
 simp only[ZmE]
 walk_at "pu"
 rw[Zne ⟨hn,by omega,hm2⟩]
 walk_at "pu"
 have hfl:(JM ns m).length=m.toNat:=J6 ns m _
 generalize hb:(fun(x:PV) (ρ:List PV)=>_)=body
 obtain⟨ρ',h1,h2⟩:=UG (b:=body) (xs:=(JM ns m).map PV.int) (ρ:=[.lst (ns.map PV.int),.int m,.int way,.lst [],.non,.non])
  (fun i ρ=>∃v4 v5,ρ=[.lst (ns.map PV.int),.int m,.int way,.lst ((((JM ns m).take i).map (Ut m way)).map PV.int),v4,v5]) ⟨_,_,rfl⟩ (by
  rintro i x ρ hx ⟨v4,v5,rfl⟩
  obtain⟨z,rfl,hz,hi⟩:=Zgy hx
  obtain⟨z0,z1⟩:=JK ns m _ z (ZqG hz)
  have tk:(JM ns m).take (i+1)=(JM ns m).take i++[z]:=by
   rw[List.take_succ,hz];rfl
  have app:∀v,v=Ut m way z->pApp (.lst ((((JM ns m).take i).map (Ut m way)).map PV.int)) (.int v)=.ok (.lst ((((JM ns m).take (i+1)).map (Ut m way)).map PV.int)):=fun v hv=>by
   rw[ZaZ (by simp;omega),hv,tk]
   simp
  subst hb
  by_cases w3:way=3
  ·subst w3
   have e:pIx (.lst [.int 0,.int 1,.int (z/24),.int m]) (.int (z/7%4))=.ok (.int ([0,1,z/24,m].getD (z/7%4).toNat 0)):=ZM (ns:=[0,1,z/24,m]) (by omega) (by simp only[ZqY,Zry];omega)
   walk_at "pu"
   rw[e]
   walk_at "pu"
   rw[app _ (by unfold Ut;rw[if_pos rfl])]
   walk_at "pu"
   exact Vq ⟨_,_,rfl⟩
  ·by_cases w2:way=2
   ·subst w2
    walk_at "pu"
    rw[app _ (by unfold Ut;rw[if_neg (by decide),if_pos rfl])]
    walk_at "pu"
    exact Vq ⟨_,_,rfl⟩
   ·by_cases w1:way=1
    ·subst w1
     walk_at "pu"
     rw[app _ (by unfold Ut;rw[if_neg (by decide),if_neg (by decide),if_pos rfl])]
     walk_at "pu"
     exact Vq ⟨_,_,rfl⟩
    ·walk_at "pu"
     rw[decide_eq_false w1]
     walk_at "pu"
     rw[decide_eq_false w2]
     walk_at "pu"
     rw[decide_eq_false w3]
     walk_at "pu"
     rw[app _ (by unfold Ut;rw[if_neg w3,if_neg w2,if_neg w1])]
     walk_at "pu"
     exact Vq ⟨_,_,rfl⟩)
 obtain⟨v4,v5,rfl⟩:=h2
 rw[h1]
 walk_at "pu"
 rw[ZqN,Zrm (ZqJ _)]
 rfl
theorem Znp {ns:List Int}{m way:Int} (h:ns.length<=63/\2<=m/\m<=24):ZmE.fn [.lst (ns.map PV.int),.int m,.int way]=.ok (.lst ((JJ ns m way).map PV.int)):=
 Pm.fn_eq ZmE (ns,m,way) h fun⟨ns',k',w'⟩ e=>by
  simp only[ZmE,List.cons.injEq,PV.lst.injEq,PV.int.injEq,and_true] at e ⊢
  obtain⟨e1,e2,e3⟩:=e
  rw[ZR e1,e2,e3]
noncomputable def ZmZ:Pm:=⟨Int,fun i=>[.int i],fun _=>True,fun _=>.ok (.bl true)⟩
theorem Zqa (T:Txt K mg) {f:Addr}{fd:FuncData} (F:Fun K "is_whole" "is_whole" Znb f fd):J0 P w K mg base CX0 1 f fd ["value"] (spF K 1 .P W0 ZmZ.fn):=by
 refine F.okP ZpY rfl rfl (fun cdv A outer s H E hr=>?_)
 have hu:=hr.units
 refine⟨_,_,⟨[],[],[],.P⟩,rfl,(Zm (ZQ (ZcL (Zz (Jz (K:=K) (n := "int") rfl) rfl T.z_isinstance ZP (Za (pv 0) (Za (Vy (v:=.ty "int") rfl T.z_int Zke rfl) Zf))) (ZcJ (Zjx (Zz (Jz (K:=K) (n := "bool") rfl) rfl T.z_isinstance ZP (Za (pv 0) (Za (Vy (v:=.ty "bool") rfl T.z_bool Zcf rfl) Zf)))))))),
   (Je (Zdv (DE.toA (Qy (Zc (i:=0) (m:=.S) rfl (by decide)))) (ZjW (DE.toA (Qy (Zc (i:=0) (m:=.S) rfl (by decide))))))), ?_⟩
 refine Pm.ref ZmZ (g:=fun xs=>_) ?_
 intro (i:Int) _
 simp only[ZmZ]
 walk_at "pd"
theorem ZnE {i:Int}:ZmZ.fn [.int i]=.ok (.bl true):=Pm.fn_eq ZmZ i trivial fun _ _=>rfl
noncomputable def Zmx:Pm:=⟨Int×Int,fun a=>[.int a.1,.int a.2],fun _=>True,fun a=>.ok (.bl (decide (a.2<=a.1)))⟩
theorem ZnV (T:Txt K mg) {f:Addr}{fd:FuncData} (F:Fun K "is_whole_from" "is_whole_from" Zm0 f fd):J0 P w K mg base CX0 2 f fd ["value", "least"] (spF K 2 .P W0 Zmx.fn):=by
 have Zqn:=ZcR (P:=P) (w:=w) (base:=base) T.Zqj Zqd (fun F=>Zqa T F)
 refine F.okP ZoW rfl rfl (fun cdv A outer s H E hr=>?_)
 have hu:=hr.units
 refine⟨_,_,⟨[],[],[],.P⟩,rfl,(Zm (ZQ (ZcL (ZU Zqn (hr.mono (by decide)) rfl (Za (pv 0) Zf)) (ZcJ (Zak ZkW (pv 0) (pv 1) (ZK _)))))),
   (Je (Zdv (DE.toA (Zh4 (Zi Zu) (Zb (Zc (i:=0) (m:=.S) rfl (by decide)) Zh))) (Zlg (Zc (i:=0) (m:=.S) rfl (by decide)) (Zc (i:=1) (m:=.S) rfl (by decide))))), ?_⟩
 refine Pm.ref Zmx (g:=fun xs=>_) ?_
 rintro⟨i,j⟩ _
 simp only[Zmx]
 walk_at "pd"
 rw[ZnE]
 walk_at "pd"
theorem ZmH {i j:Int}:Zmx.fn [.int i,.int j]=.ok (.bl (decide (j<=i))):=Pm.fn_eq Zmx (i,j) trivial fun(a:Int×Int) e=>by (simp only[Zmx,List.cons.injEq,PV.lst.injEq,PV.int.injEq,PV.str.injEq,PV.bl.injEq,PV.tup.injEq,Vk,and_true] at e ⊢;first|(simp only[e];done)|(subst e;rfl)|(rw[e]))
noncomputable def Zmi:Pm:=⟨List Int,fun ns=>[.lst (ns.map PV.int)],fun ns=>ns.length<=1000000,fun ns=>.ok (.bl (decide (∀x∈ns,0<=x)))⟩
theorem ZnZ (T:Txt K mg) {f:Addr}{fd:FuncData} (F:Fun K "is_list_from_nought" "is_list_from_nought" Zmj f fd):J0 P w K mg base CX0 3 f fd ["values"] (spF K 1 .P W0 Zmi.fn):=by
 have Zn6:=ZcR (P:=P) (w:=w) (base:=base) T.Zoq ZnY (fun F=>ZnV T F)
 refine F.okP Znf rfl rfl (fun cdv A outer s H E hr=>?_)
 have hu:=hr.units
 refine⟨_,_,⟨[],[],[],.P⟩,rfl,(Zm (ZQ (ZcL (Zz (Jz (K:=K) (n := "list") rfl) rfl T.z_isinstance ZP (Za (pv 0) (Za (Vy (v:=.ty "list") rfl T.z_list Ue rfl) Zf))) (ZcJ (Zz (ZfC (K:=K) rfl) rfl T.z_all Zkn (Za (ZhY (Ve (K:=K) (pv 0)) (fun _ _ _ _=>(ZU Zn6 (hr.mono (by decide)) rfl (Za (pv 1) (Za Zk Zf)))) Znf.nd rfl) Zf)))))),
   (Je (Zdv (DE.toA (Qy (Zc (i:=0) (m:=.S) rfl (by decide)))) (Zka (Zb (DE.toA (Za0 (DI.c (Qu (Zaz (i:=0) rfl))) (DE.PF (Zh4 (Zi (Zi Zu)) (Zb (Zc (i:=1) (m:=.S) rfl (by decide)) (Zb (DE.toA Zj) Zh)))))) Zh)))), ?_⟩
 refine Pm.ref Zmi (g:=fun xs=>_) ?_
 intro (ns:List Int) (hn:ns.length<=1000000)
 simp only[Zmi]
 walk_at "pd"
 rw[Zin (g:=fun z=>decide (0<=z)) (fun z _=>ZmH)]
 walk_at "pd"
 rw[ZiF]
theorem Zm1 {ns:List Int} (h:ns.length<=1000000):Zmi.fn [.lst (ns.map PV.int)]=.ok (.bl (decide (∀x∈ns,0<=x))):=Pm.fn_eq Zmi ns h fun(a:List Int) e=>by (simp only[Zmi,List.cons.injEq,PV.lst.injEq,PV.int.injEq,PV.str.injEq,PV.bl.injEq,PV.tup.injEq,Vk,and_true] at e ⊢;first|(simp only[e];done)|(subst e;rfl)|(rw[e]))
noncomputable def ZmO:Pm:=⟨Unit,fun _=>[],fun _=>True,fun _=>.ok (.int (10^60))⟩
theorem ZpD (T:Txt K mg) {f:Addr}{fd:FuncData} (F:Fun K "most_seeds" "most_seeds" ZmJ f fd):J0 P w K mg base CX0 1 f fd [] (spF K 0 .P W0 ZmO.fn):=by
 refine F.okP ZpA rfl rfl (fun cdv A outer s H E hr=>?_)
 have hu:=hr.units
 refine⟨_,_,⟨[],[],[],.P⟩,rfl,(Zm (ZQ (ZH Zhr Zk Zk))),
   (Je (Zh2 (DE.toA Zj) (DE.toA Zj))), ?_⟩
 refine Pm.ref ZmO (g:=fun xs=>_) ?_
 rintro _ _
 simp only[ZmO]
 walk_at "pd"
theorem Zno:ZmO.fn []=.ok (.int (10^60)):=Pm.fn_eq ZmO () trivial fun _ _=>rfl
noncomputable def ZmG:Pm:=⟨List Int,fun ns=>[.lst (ns.map PV.int)],fun ns=>ns.length<=1000,fun ns=>.ok (.bl (Jp ns))⟩
theorem Zqb (T:Txt K mg) {f:Addr}{fd:FuncData} (F:Fun K "is_board" "is_board" Znc f fd):J0 P w K mg base CX0 4 f fd ["board"] (spF K 1 .P W0 ZmG.fn):=by
 have Zo0:=ZcR (P:=P) (w:=w) (base:=base) T.Zor Zob (fun F=>ZnZ T F)
 have ZpV:=ZcR (P:=P) (w:=w) (base:=base) T.ZpQ ZpI (fun F=>ZpD T F)
 refine F.okP ZpZ rfl rfl (fun cdv A outer s H E hr=>?_)
 have hu:=hr.units
 refine⟨_,_,⟨[],[],[],.P⟩,rfl,(Zd (J7 (QI (Uh (ZU Zo0 (hr.mono (by decide)) rfl (Za (pv 0) Zf)))) (Zm (ZQ Ze5)) ZS)
   (Zd (J7 (PW.pt (Zez (ZB Zih (Zz (ZJ (K:=K)) rfl T.z_len JG (Za (pv 0) Zf)) (ZcK T.c_FEWEST_PITS rfl) (ZK _)) (Zc8 (ZB Zgo (Zz (ZJ (K:=K)) rfl T.z_len JG (Za (pv 0) Zf)) (ZcK T.c_MOST_PITS rfl) (ZK _))))) (Zm (ZQ Ze5)) ZS)
   (Zm (ZQ (Zak ZkV (Zz (Zbp (K:=K) rfl) rfl T.z_sum Zh5 (Za (pv 0) Zf)) (Ze4 ZpV (hr.mono (by decide)) rfl) (ZK _)))))),
   (Zn (Γm:=[.S]) (JD (QR (Zg8 (DE.toA (Zh4 (Zi Zu) (Zb (Zc (i:=0) (m:=.S) rfl (by decide)) Zh)))))
   (Je ZgJ)
   ZV)
   (Zn (Γm:=[.S]) (JD (Zft (ZA (DE.toA (Zi4 (DE.toA (JE (Zb (Zc (i:=0) (m:=.S) rfl (by decide)) Zh))) (DE.toA Zj)))) (ZA (DE.toA (ZgG (DE.toA (JE (Zb (Zc (i:=0) (m:=.S) rfl (by decide)) Zh))) (DE.toA Zj)))))
   (Je ZgJ)
   ZV)
   (Je (Zlf (DE.toA (Zh0 (Zb (Zc (i:=0) (m:=.S) rfl (by decide)) Zh))) (DE.toA (Zh4 Zu Zh)))))), ?_⟩
 refine Pm.ref ZmG (g:=fun xs=>_) ?_
 intro (ns:List Int) (hn:ns.length<=1000)
 simp only[ZmG]
 walk_at "pd"
 rw[Zm1 (by omega)]
 walk_at "pd"
 by_cases h3:∀x∈ns,0<=x
 ·rw[decide_eq_true h3]
  walk_at "pd"
  by_cases h1:(ns.length:Int)<2
  ·rw[decide_eq_true h1]
   walk_at "pd"
   rw[show Jp ns=false from decide_eq_false (by omega)]
  rw[decide_eq_false h1]
  walk_at "pd"
  by_cases h2:(24:Int)<ns.length
  ·rw[decide_eq_true h2]
   walk_at "pd"
   rw[show Jp ns=false from decide_eq_false (by omega)]
  rw[decide_eq_false h2]
  walk_at "pd"
  rw[Zno]
  walk_at "pd"
  by_cases h4:ns.sum<=10^60
  ·rw[decide_eq_true h4,Vp.mpr ⟨by omega,by omega,h3,h4⟩]
  ·rw[decide_eq_false h4,show Jp ns=false from decide_eq_false (fun z=>h4 z.2.2.2)]
 ·rw[decide_eq_false h3]
  walk_at "pd"
  rw[show Jp ns=false from decide_eq_false (fun z=>h3 z.2.2.1)]
theorem ZnF {ns:List Int} (h:ns.length<=1000):ZmG.fn [.lst (ns.map PV.int)]=.ok (.bl (Jp ns)):=Pm.fn_eq ZmG ns h fun(a:List Int) e=>by (simp only[ZmG,List.cons.injEq,PV.lst.injEq,PV.int.injEq,PV.str.injEq,PV.bl.injEq,PV.tup.injEq,Vk,and_true] at e ⊢;first|(simp only[e];done)|(subst e;rfl)|(rw[e]))
theorem ZbD:ZmG.calm:=fun a q h=>by (simp only[ZmG] at h;cases h)
noncomputable def Zm7:Pm:=⟨List Int,fun ns=>[.lst (ns.map PV.int)],fun ns=>ns.length<=1000,fun ns=>orX (if Jp ns=true then none else some "BadBoard") .non⟩
theorem Zo4 (T:Txt K mg) {f:Addr}{fd:FuncData} (F:Fun K "check_board" "check_board" ZmC f fd):J0 P w K mg base (CX1 P w) 5 f fd ["board"] (spF K 1 .P (W1 K) Zm7.fn):=by
 have Zqo:=ZcR (P:=P) (w:=w) (base:=base) T.Zqk Zqe (fun F=>Zqb T F)
 obtain⟨C_BadBoard,hC_BadBoard,hQ_BadBoard⟩:=QX T.x_exc (n := "BadBoard") (by decide)
 refine F.okX Zp1 rfl rfl (fun cdv A outer s H E hr=>?_)
 have hu:=hr.units
 refine⟨_,_,⟨[.S],[],[],.P⟩,rfl,(Zm (J7 (QI (Uh (ZU Zqo (hr.mono (by decide)) rfl (Za (pv 0) Zf)))) (Zm (Zai ZbK hQ_BadBoard rfl (T.x_mg _ _ hC_BadBoard) rfl (Za ZaS Zf))) ZS)),
   (JD (QR (Zg8 (DE.toA (ZlO (Zi Zu) (Pm.calm_fn ZbD) (Zb (Zc (i:=0) (m:=.S) rfl (by decide)) Zh)))))
   (Zay hC_BadBoard (Zi Zu) (by decide) (Zb (DE.toA Zbn) Zh))
   ZV), ?_⟩
 refine Pm.ref Zm7 (g:=fun xs=>_) ?_
 intro (ns:List Int) (hn:ns.length<=1000)
 simp only[Zm7]
 walk_at "pu"
 rw[ZnF hn]
 walk_at "pu"
 by_cases h:Jp ns=true
 ·rw[h];walk_at "pu";rfl
 ·rw[Bool.not_eq_true] at h
  rw[h];walk_at "pu";rfl
theorem ZmW {ns:List Int} (h:ns.length<=1000):Zm7.fn [.lst (ns.map PV.int)]=orX (if Jp ns=true then none else some "BadBoard") .non:=Pm.fn_eq Zm7 ns h fun a e=>by
 simp only[Zm7,List.cons.injEq,PV.lst.injEq,and_true] at e ⊢
 rw[ZR e]
noncomputable def Zmv:Pm:=⟨List Int,fun ns=>[.box none (.ob "RingBook" []) [],.lst (ns.map PV.int)],fun ns=>Jp ns=true/\ns.length<=1000,fun ns=>.ok (.tup [.non,bkP none ⟨[ns],[],[]⟩])⟩
theorem Zo2 (T:Txt K mg) {f:Addr}{fd:FuncData} (F:Fun K "__init__" "RingBook.__init__" Zmh f fd):J0 P w K mg base CX0 6 f fd ["self", "board"] (spM K 1 0 Zmv.fnM):=by
 have ZnS:=Zan (P:=P) (w:=w) (base:=base) T.ZoF Zo5 (fun F=>Zo4 T F)
 refine F.okM (n:=1) (j:=0) Zo1 rfl rfl (by decide) (fun cdv A outer s H E hr=>?_)
 have hu:=hr.units
 refine⟨_,_,⟨[.O,.S],[],[],.N⟩,rfl,rfl,(Zd (ZC (Jq ZnS (hr.mono (by decide)) rfl UY (Za (pv 1) Zf)))
   (Zd (Zaj (pv 0) (J4 (Za (UW (JS (Vo (K:=K)) rfl T.z_list Ue (Za (pv 1) Zf))) Zf)))
   (Zd (Zaj (pv 0) (J4 Zf))
   (Zm (Zaj (pv 0) (J4 Zf)))))),
   (Zn (Γm:=[.O,.S]) (Qs (DE.toA (Zma (Zi Zu) (Zb (Zc (i:=1) (m:=.S) rfl (by decide)) Zh))))
   (Zn (Γm:=[.O,.S]) (VL (i:=0) (fs:=Zr) (n := "RingBook") (fl := "boards") (Z2 T.o_RingBook) (by decide) rfl (Jh (ZG (DE.PF (Qz (UH (Zb (Zc (i:=1) (m:=.S) rfl (by decide)) Zh)))) ZZ)))
   (Zn (Γm:=[.O,.S]) (VL (i:=0) (fs:=Zr) (n := "RingBook") (fl := "deeds") (Z2 T.o_RingBook) (by decide) rfl (Jh ZZ))
   (VL (i:=0) (fs:=Zr) (n := "RingBook") (fl := "undone") (Z2 T.o_RingBook) (by decide) rfl (Jh ZZ))))), ?_⟩
 refine Pm.refM2 Zmv ?_
 rintro(ns:List Int) ⟨h0,h1⟩ a b' xs e
 cases e
 simp only[Zmv]
 simp only[ins,Zhg]
 walk_at "pd"
 rw[ZmW h1,if_pos h0]
 walk_at "pd"
 rw[Zdk,Qo]
 walk_at "pd"
 rw[Zlm]
 walk_at "pd"
 rw[Zll]
 walk_at "pd"
 rw[Zlk]
 walk_at "pd"
 rfl
theorem ZoA {ns:List Int} (h0:Jp ns=true) (h1:ns.length<=1000):Zj9 "RingBook" Zmv.fnM [.lst (ns.map PV.int)]=.ok (bkP none ⟨[ns],[],[]⟩):=
 Zik (Pm.fn_eq Zmv ns ⟨h0,h1⟩ fun(b:List Int) e=>by
  simp only[Zmv,List.cons.injEq,PV.lst.injEq,and_true,true_and] at e ⊢
  rw[ZR e])
noncomputable def ZmF:Pm:=⟨List (List Int),fun bs=>[.lst (bs.map fzI)],fun bs=>bs.length<=900,fun bs=>.ok (.lst ((Zbz bs bs.length).map JO))⟩
theorem ZbM {bs:List (List Int)}{i:Nat}:∀{k:Nat},(ZdY bs i k).length<=k
 |0=>ZqJ _
 |k+1=>by
  unfold ZdY
  have:=ZbM (bs:=bs) (i:=i) (k:=k)
  rw[Zra]
  split<;>simp<;>omega
theorem Zas {bs:List (List Int)} (h:bs.length<=900):∀{n:Nat},n<=bs.length->(Zbz bs n).length<=900*n
 |0,_=>ZqJ _
 |n+1,hn=>by
  unfold Zbz
  have:=Zas h (n:=n) (by omega)
  have:=ZbM (bs:=bs) (i:=n) (k:=bs.length-(n+1))
  rw[Zra]
  omega
theorem ZpF (T:Txt K mg) {f:Addr}{fd:FuncData} (F:Fun K "_law_again" "_law_again" ZmL f fd):J0 P w K mg base CX0 1 f fd ["boards"] (spF K 1 .F W0 ZmF.fn):=by
 refine F.okP Zn0 rfl rfl (fun cdv A outer s H E hr=>?_)
 have hu:=hr.units
 refine⟨_,_,⟨[],[],[],.F⟩,rfl,(Zd (Z1 (i:=1) Zn0.nd rfl (by first|exact Or.inl rfl|exact Or.inr rfl) (J4 Zf))
   (Zd (Ui PassesOwn.never rfl (ZaR rfl T.z_range (Za (Zz (ZJ (K:=K)) rfl T.z_len JG (Za (pv 0) Zf)) Zf)) (JH (i:=2) Zn0.nd rfl (by first|exact Or.inl rfl|exact Or.inr rfl)) (Zm (Ui PassesOwn.never rfl (ZaQ rfl T.z_range (Za (ZH Uk (pv 2) Zk) (Za (Zz (ZJ (K:=K)) rfl T.z_len JG (Za (pv 0) Zf)) Zf))) (JH (i:=3) Zn0.nd rfl (by first|exact Or.inl rfl|exact Or.inr rfl)) (Zm (J7 (PW.pt (Zc9 (ZB (Jo (K:=K) hu) (ZW (Zw (K:=K)) (pv 0) (pv 3) (fun _ _=>rfl)) (ZW (Zw (K:=K)) (pv 0) (pv 2) (fun _ _=>rfl)) (ZK _)) (Zag (ZB (ZeO (K:=K) hu) (ZW (Zw (K:=K)) (pv 0) (pv 2) (fun _ _=>rfl)) (ZcI (Zc2 (K:=K)) (pv 0) (ZbB (ZH Uk (pv 2) Zk)) (ZbB (pv 3))) rfl)))) (Zm (ZC (VW PySem.F.plainAttrs_list PySem.F.slot_list_append PySem.F.type_list_append ZI (pv 1) (Za (Uj (Za (pv 2) (Za (pv 3) Zf))) Zf)))) ZS)))))
   (Zm (ZQ (pv 1))))),
   (Zn (Γm:=[.S,.O,.U,.U]) (Jd (i:=1) (Jh ZZ) (by decide))
   (Zn (Γm:=[.S,.O,.U,.U]) (Qr (Γl:=[.S,.O,.U,.U]) (Zfx (Zb (DE.toA (JE (Zb (Zc (i:=0) (m:=.S) rfl (by decide)) Zh))) Zh)) rfl (Zhz (i:=2) (by decide))
   (DS.out (Y:=⟨[.S,.O,.P,.U],[.S,.O,.U,.U],[.S,.O,.U,.U],.F⟩) (Y':=⟨[.S,.O,.U,.U],[.S,.O,.U,.U],[.S,.O,.U,.U],.F⟩) (Qr (Γl:=[.S,.O,.P,.U]) (Zfw (Zb (DE.toA (Ur (DE.toA (Zg (i:=2) rfl)) (DE.toA Zj))) (Zb (DE.toA (JE (Zb (Zc (i:=0) (m:=.S) rfl (by decide)) Zh))) Zh))) rfl (Zhz (i:=3) (by decide))
   (DS.out (Y:=⟨[.S,.O,.P,.P],[.S,.O,.P,.U],[.S,.O,.P,.U],.F⟩) (Y':=⟨[.S,.O,.P,.U],[.S,.O,.P,.U],[.S,.O,.P,.U],.F⟩) (JD (Zdm (ZA (DE.toA (Jn (g:=id) (Va (Z8 (te:=tC .non) (Zc (i:=0) (m:=.S) rfl (by decide)) (DE.toA (Zg (i:=3) rfl)))) (Va (Z8 (te:=tC .non) (Zc (i:=0) (m:=.S) rfl (by decide)) (DE.toA (Zg (i:=2) rfl))))))) (ZA (DE.toA (ZjY (g:=(!·)) (Va (Z8 (te:=tC .non) (Zc (i:=0) (m:=.S) rfl (by decide)) (DE.toA (Zg (i:=2) rfl)))) (DE.toA (Zh1 (Zc (i:=0) (m:=.S) rfl (by decide)) (ZbX (DE.toA (Ur (DE.toA (Zg (i:=2) rfl)) (DE.toA Zj)))) (ZbX (DE.toA (Zg (i:=3) rfl)))))))))
   (Uc (i:=1) rfl rfl (DE.PF (DE.grd (Qw (Zb (DE.toA (Zg (i:=2) rfl)) (Zb (DE.toA (Zg (i:=3) rfl)) Zh))))))
   ZV) rfl rfl rfl rfl)) rfl rfl rfl rfl))
   (JZ (Qv (i:=1) rfl)))), ?_⟩
 refine Pm.ref ZmF (g:=fun xs=>_) ?_
 rintro(bs:List (List Int)) (h:bs.length<=900)
 simp only[ZmF]
 walk_at "pd"
 rw[Vf,ZqN]
 walk_at "pd"
 generalize hw:ZaA _ _ _=W
 obtain⟨ρ',rfl,v1,v2,rfl⟩:=JY hw (fun i ρ=>∃v1 v2,ρ=[.lst (bs.map fzI),.lst ((Zbz bs i).map JO),v1,v2]) ⟨_,_,rfl⟩ (by
  rintro i x ρ hx ⟨v1,v2,rfl⟩
  obtain⟨hi,rfl⟩:=U8 hx
  rw[ZrP] at hi
  rw[Int.zero_add]
  have hL:=Zas h (n:=i) (by omega)
  walk_at "pd"
  rw[Vf,ZqN]
  walk_at "pd"
  generalize hw2:ZaA _ _ _=W2
  obtain⟨ρ',rfl,v2,rfl⟩:=JY hw2 (fun k ρ=>∃v2,ρ=[.lst (bs.map fzI),.lst ((Zbz bs i++ZdY bs i k).map JO),.int i,v2]) ⟨v2,by rw[ZdY,Zrz]⟩ (by
   rintro k x ρ hx ⟨v2,rfl⟩
   obtain⟨hk,rfl⟩:=U8 hx
   rw[show (i:Int)+1+k=((i+1+k:Nat):Int) by omega]
   have hR:=ZbM (bs:=bs) (i:=i) (k:=k)
   have hj:i+1+k<bs.length:=by omega
   walk_at "pd"
   rw[Zj0 (d:=[]) (by omega) (by omega),Zj0 (d:=[]) (by omega) (by omega)]
   walk_at "pd"
   rw[Jt,Jt,ZrP,ZrP]
   walk_at "pd"
   rw[ZgL (by omega) (by omega),show ((i:Int)+1).toNat=i+1 by omega,ZrP]
   have hn:nxt bs i (i+1+k)=(decide (bs.getD (i+1+k) []=bs.getD i [])&&!decide (bs.getD i []∈(bs.take (i+1+k)).drop (i+1))):=rfl
   rw[ZdY,hn]
   by_cases e:bs.getD (i+1+k) []=bs.getD i []
   ·rw[decide_eq_true e]
    walk_at "pd"
    rw[Zhs Jk (by rw[Zr1,Zrd];omega)]
    walk_at "pd"
    rw[Zid]
    by_cases e2:bs.getD i []∈(bs.take (i+1+k)).drop (i+1)
    ·rw[decide_eq_true e2]
     walk_at "pd"
     exact Vq ⟨_,by rw[Zrz]⟩
    ·rw[decide_eq_false e2]
     walk_at "pd"
     rw[JI (by rw[ZqN,Zra];omega)]
     walk_at "pd"
     exact Vq ⟨_,by rw[<- ZqP,Zr0 (l₂:=[[(i:Int),((i+1+k:Nat):Int)]])];rfl⟩
   ·rw[decide_eq_false e]
    walk_at "pd"
    exact Vq ⟨_,by rw[Zrz]⟩)
  walk_at "pd"
  rw[Jv,show ((bs.length:Int)-((i:Int)+1)).toNat=bs.length-(i+1) by omega]
  exact Vq ⟨_,_,rfl⟩)
 walk_at "pd"
 rw[Jv,ZrP]
theorem Znq {bs:List (List Int)} (h:bs.length<=900):ZmF.fn [.lst (bs.map fzI)]=.ok (.lst ((Zbz bs bs.length).map JO)):=
 Pm.fn_eq ZmF bs h fun(bs':List (List Int)) e=>by
  simp only[ZmF,List.cons.injEq,PV.lst.injEq,and_true] at e ⊢
  rw[VF (fun _ _=>Zav) e]
noncomputable def Zmm:Pm:=⟨Bk,fun k=>[bkP none k],fun k=>k.bs.length<=1000/\∀b∈k.bs,b.length<=1000,fun k=>.ok (.lst ((ZfV (QE k.bs k.bs.length)).map JO))⟩
theorem Zoa (T:Txt K mg) {f:Addr}{fd:FuncData} (F:Fun K "came_again" "RingBook.came_again" Zmg f fd):J0 P w K mg base CX0 1 f fd ["self"] (spF K 1 .F W0 Zmm.fn):=by
 refine F.okP Zml rfl rfl (fun cdv A outer s H E hr=>?_)
 have hu:=hr.units
 refine⟨_,_,⟨[],[],[],.F⟩,rfl,(Zd (Z1 (i:=1) Zml.nd rfl (by first|exact Or.inl rfl|exact Or.inr rfl) Zge)
   (Zd (Z1 (i:=2) Zml.nd rfl (by first|exact Or.inl rfl|exact Or.inr rfl) (J4 Zf))
   (Zd (Ui PassesOwn.never rfl (Zgb (K:=K) rfl T.z_enumerate (Za (Jc (pv 0)) Zf)) (Zjv rfl (ZcG (JH (i:=3) Zml.nd rfl (by first|exact Or.inl rfl|exact Or.inr rfl)) (ZcG (JH (i:=4) Zml.nd rfl (by first|exact Or.inl rfl|exact Or.inr rfl)) ZhV))) (Zd (Z1 (i:=5) Zml.nd rfl (by first|exact Or.inl rfl|exact Or.inr rfl) (JS (Zcd (K:=K)) rfl T.z_tuple ZfD (Za (pv 4) Zf)))
   (Zd (J7 (Zjr (Zjy (hu1 hu) (pv 5) (pv 1))) (Zm (ZC (VW PySem.F.plainAttrs_list PySem.F.slot_list_append PySem.F.type_list_append ZI (pv 2) (Za (Uj (Za (ZhX (hu1 hu) (pv 1) (pv 5) (fun _ _=>rfl)) (Za (pv 3) Zf))) Zf)))) ZS)
   (Zm (ZhQ (hu1 hu) (pv 1) (pv 5) (pv 3) rfl)))))
   (Zm (ZQ (Zz (Zce (K:=K)) rfl T.z_sorted ZfG (Za (pv 2) Zf))))))),
   (Zn (Γm:=[.S,.O,.U,.U,.U,.U]) (Jd (i:=1) ZgH (by decide))
   (Zn (Γm:=[.S,.O,.O,.U,.U,.U]) (Jd (i:=2) (Jh ZZ) (by decide))
   (Zn (Γm:=[.S,.O,.O,.U,.U,.U]) (Qr (Γl:=[.S,.O,.O,.U,.U,.U]) (Zi0 (ZgK (Zi5 (fs:=Zr) (n := "RingBook") (Z2 T.o_RingBook) (by decide) (Zaz (i:=0) rfl)) Zi7)) rfl (ZjV (n:=2) (Zdt (Zhz (i:=3) (by decide)) (Zdt (Zhz (i:=4) (by decide)) Zi1)))
   (DS.out (Y:=⟨[.S,.O,.O,.P,.P,.P],[.S,.O,.O,.U,.U,.U],[.S,.O,.O,.U,.U,.U],.F⟩) (Y':=⟨[.S,.O,.O,.U,.U,.U],[.S,.O,.O,.U,.U,.U],[.S,.O,.O,.U,.U,.U],.F⟩) (Zn (Γm:=[.S,.O,.O,.P,.P,.P]) (Z7 (i:=5) (DE.grd (ZgC (Zb (Va (DE.toA (Zg (i:=4) rfl))) Zh))) (by decide))
   (Zn (Γm:=[.S,.O,.O,.P,.P,.P]) (JD (Zg8 (DE.toA (ZjZ (DE.toA (Zg (i:=5) rfl)) (Zc (i:=1) (m:=.O) rfl (by decide)))))
   (Uc (i:=2) rfl rfl (DE.PF (DE.grd (Qw (Zb (Zi6 (Zc (i:=1) (m:=.O) rfl (by decide)) (DE.toA (Zg (i:=5) rfl))) (Zb (DE.toA (Zg (i:=3) rfl)) Zh))))))
   ZV)
   (Zg9 (i:=1) rfl (DE.PF (Zg (i:=3) rfl)) (DE.toA (Zg (i:=5) rfl))))) rfl rfl rfl rfl))
   (JZ (ZgD (Zb (Zc (i:=2) (m:=.O) rfl (by decide)) Zh)))))), ?_⟩
 refine Pm.ref Zmm (g:=fun xs=>_) ?_
 rintro(k:Bk) ⟨h0,h1⟩
 simp only[Zmm]
 walk_at "pd"
 rw[ZiB]
 walk_at "pd"
 generalize hw:ZaA _ _ _=W
 obtain⟨ρ',rfl,ks,xs,v1,v2,v3,rfl,g1,g2,g3⟩:=JY hw (fun i ρ=>∃ks xs v1 v2 v3,ρ=[bkP none k,.box none (.dt ks) xs,.lst ((QE k.bs i).map JO),v1,v2,v3]/\ks.length=xs.length/\xs.length<=i/\∀b,atK ks xs (tI b)=(QB k.bs b i).map fun(j:Nat)=>PV.int (j:Int)) ⟨[],[],_,_,_,rfl,rfl,ZqJ _,fun b=>rfl⟩ (by
  rintro i x ρ hx ⟨ks,xs,v1,v2,v3,rfl,g1,g2,g3⟩
  obtain⟨hi,rfl⟩:=ZjT (d:=[]) hx
  generalize hb:k.bs.getD i []=b
  have hbl:b.length<=1000:=by
   refine h1 b (hb▸?_)
   rw[ZqF,ZqH hi]
   exact Zsb ..
  have hlen:=Za5 (bs:=k.bs) (n:=i)
  have last:(∀b',atK (VV ks (tI b)) (putXs ks xs (tI b) (.int i)) (tI b')=(QB k.bs b' (i+1)).map fun(j:Nat)=>PV.int (j:Int)):=fun b'=>by
   rw[ZiD g1,QB,hb]
   by_cases e:b'=b
   ·rw[if_pos (by rw[e]),if_pos e.symm];rfl
   ·rw[if_neg fun z=>e (Zjb z),if_neg (Ne.symm e)];exact g3 b'
  have hput:ZeL (.box none (.dt ks) xs) (JO b) (.int i)=.ok (.box none (.dt (VV ks (tI b))) (putXs ks xs (tI b) (.int i))):=Zif rfl (by omega)
  have hpl:=Zjq (k:=tI b) (y:=PV.int i) g1
  walk_at "pd"
  rw[Qo]
  walk_at "pd"
  rw[Jt,show Ze9 [PV.lst (b.map PV.int)]=.ok (JO b) from rfl]
  walk_at "pd"
  rw[show grd (JO b)=.ok (JO b) from Zfp]
  walk_at "pd"
  rw[Zj2,g3 b]
  cases hl:QB k.bs b i with
  |none =>
   simp only[Option.map_none,Option.isSome_none,id]
   walk_at "pd"
   rw[hput]
   walk_at "pd"
   rw[show QE k.bs (i+1)=QE k.bs i by rw[QE,hb,hl];simp[Zga]]
   exact Vq ⟨_,_,_,_,_,rfl,Zah g1,by omega,last⟩
  |some j =>
   have hg:=g3 b
   rw[hl] at hg
   simp only[Zsx,Option.isSome_some,id]
   walk_at "pd"
   rw[Zig hg]
   walk_at "pd"
   rw[JI (by rw[ZqN];omega)]
   walk_at "pd"
   rw[hput]
   walk_at "pd"
   rw[show QE k.bs (i+1)=QE k.bs i++[[(j:Int),(i:Int)]] by rw[QE,hb,hl];simp[Zga],Zr0]
   exact Vq ⟨_,_,_,_,_,rfl,Zah g1,by omega,last⟩)
 walk_at "pd"
 rw[show (Zax (k.bs.map fzI)).length=k.bs.length by unfold Zax;simp]
 have hlen:=Za5 (bs:=k.bs) (n:=k.bs.length)
 rw[ZeB ⟨ZiA,by omega⟩,Zhs Zfs (by rw[(VA _).length_eq];omega)]
 walk_at "pd"
theorem Znr {k:Bk} (h:k.bs.length<=1000/\∀b∈k.bs,b.length<=1000):Zmm.fn [bkP none k]=.ok (.lst ((ZfV (QE k.bs k.bs.length)).map JO)):=
 Pm.fn_eq Zmm k h fun(k':Bk) e=>by
  simp only[Zmm,List.cons.injEq,and_true] at e ⊢
  rw[Uf e]
noncomputable def Zmu:Pm:=⟨Bk,fun k=>[bkP none k,.lst (k.bs.map fzI)],fun k=>k.bs.length<=900/\∀b∈k.bs,b.length<=1000,fun k=>.ok (.bl true)⟩
theorem ZoE (T:Txt K mg) {f:Addr}{fd:FuncData} (F:Fun K "_law_told_right" "_law_told_right" Zmr f fd):J0 P w K mg base CX0 2 f fd ["book", "boards"] (spF K 2 .P W0 Zmu.fn):=by
 have ZpX:=ZcR (P:=P) (w:=w) (base:=base) T.ZpS ZpK (fun F=>ZpF T F)
 have Zns:=Qb (P:=P) (w:=w) (mg:=mg) (base:=base) T.o_RingBook T.Zos Zoc (fun F=>Zoa T F)
 refine F.okP ZmQ rfl rfl (fun cdv A outer s H E hr=>?_)
 have hu:=hr.units
 refine⟨_,_,⟨[],[],[],.P⟩,rfl,(Zd (Z1 (i:=2) ZmQ.nd rfl (by first|exact Or.inl rfl|exact Or.inr rfl) (ZU ZpX (hr.mono (by decide)) rfl (Za (pv 1) Zf)))
   (Zd (Z1 (i:=3) ZmQ.nd rfl (by first|exact Or.inl rfl|exact Or.inr rfl) (VC Zns (hr.mono (by decide)) (pv 0)))
   (Zd (J7 (PW.pt (Zez (QI (Uh (Zz (Jz (K:=K) (n := "list") rfl) rfl T.z_isinstance ZP (Za (pv 3) (Za (Vy (v:=.ty "list") rfl T.z_list Ue rfl) Zf))))) (Zc8 (ZB (Zj6 (K:=K) hu) (pv 3) (pv 2) (ZK _))))) (Zm (ZQ Ze5)) ZS)
   (Zd (Ui PassesOwn.never rfl (Ve (K:=K) (pv 3)) (JH (i:=4) ZmQ.nd rfl (by first|exact Or.inl rfl|exact Or.inr rfl)) (Zm (J7 (PW.pt (Zez (QI (Uh (Zz (Jz (K:=K) (n := "tuple") rfl) rfl T.z_isinstance ZP (Za (pv 4) (Za (Vy (v:=.ty "tuple") rfl T.z_tuple ZgP rfl) Zf))))) (Zez (Uh (Zz (Jz (K:=K) (n := "bool") rfl) rfl T.z_isinstance ZP (Za (ZW (Zw (K:=K)) (pv 4) Zk (fun _ _=>rfl)) (Za (Vy (v:=.ty "bool") rfl T.z_bool Zcf rfl) Zf)))) (Zc8 (Uh (Zz (Jz (K:=K) (n := "bool") rfl) rfl T.z_isinstance ZP (Za (ZW (Zw (K:=K)) (pv 4) Zk (fun _ _=>rfl)) (Za (Vy (v:=.ty "bool") rfl T.z_bool Zcf rfl) Zf)))))))) (Zm (ZQ Ze5)) ZS)))
   (Zd (ZC (VW PySem.F.plainAttrs_list PySem.F.slot_list_append PySem.F.type_list_append ZI (pv 3) (Za (Uj (Za Zk (Za Zk Zf))) Zf)))
   (Zm (ZQ (Zak (Jo (K:=K) hu) (VC Zns (hr.mono (by decide)) (pv 0)) (pv 2) (ZK _))))))))),
   (Zn (Γm:=[.S,.S,.O,.U,.U]) (Jd (i:=2) (Zkb (Zi Zu) (Zb (Zc (i:=1) (m:=.S) rfl (by decide)) Zh)) (by decide))
   (Zn (Γm:=[.S,.S,.O,.O,.U]) (Jd (i:=3) (DE.meth (i:=0) (md:=.S) (n := "RingBook") (m := "came_again") rfl (by decide) (Zkb (Zi Zu) (Zb (Zc (i:=0) (m:=.S) rfl (by decide)) Zh))) (by decide))
   (Zn (Γm:=[.S,.S,.O,.O,.U]) (JD (Zft (QR (Zg8 (DE.toA (Qy (Zc (i:=3) (m:=.O) rfl (by decide)))))) (ZA (DE.toA (Jn (g:=(!·)) (Zc (i:=3) (m:=.O) rfl (by decide)) (Zc (i:=2) (m:=.O) rfl (by decide))))))
   (Je ZgJ)
   ZV)
   (Zn (Γm:=[.S,.S,.O,.O,.U]) (ZdS (i:=3) (l:=4) rfl rfl (by decide) (Zft (QR (Zg8 (DE.toA (Qy (Zc (i:=4) (m:=.S) rfl (by decide)))))) (Zft (Zg8 (DE.toA (Qy (Z8 (te:=tC .non) (Zc (i:=4) (m:=.S) rfl (by decide)) (DE.toA Zj))))) (Zg8 (DE.toA (Qy (Z8 (te:=tC .non) (Zc (i:=4) (m:=.S) rfl (by decide)) (DE.toA Zj))))))))
   (Zn (Γm:=[.S,.S,.O,.O,.U]) (Uc (i:=3) rfl rfl (DE.PF (DE.grd (Qw (Zb (DE.toA Zj) (Zb (DE.toA Zj) Zh))))))
   (Je (Jn (g:=id) (DE.toA (DE.meth (i:=0) (md:=.S) (n := "RingBook") (m := "came_again") rfl (by decide) (Zkb (Zi Zu) (Zb (Zc (i:=0) (m:=.S) rfl (by decide)) Zh)))) (Zc (i:=2) (m:=.O) rfl (by decide))))))))), ?_⟩
 refine Pm.ref Zmu (g:=fun xs=>_) ?_
 rintro(k:Bk) ⟨h0,h1⟩
 simp only[Zmu]
 walk_at "pd"
 rw[Znq h0]
 walk_at "pd"
 rw[Zkh]
 walk_at "pd"
 rw[Znr ⟨by omega,h1⟩,Zf8]
 walk_at "pd"
 rw[ZaY (Zdw _)]
 walk_at "pd"
 generalize hw:ZaA _ _ _=W
 obtain⟨ρ',rfl,v,rfl⟩:=JY hw (fun i ρ=>∃v,ρ=[bkP none k,.lst (k.bs.map fzI),.lst ((Zbz k.bs k.bs.length).map JO),.lst ((Zbz k.bs k.bs.length).map JO),v]) ⟨_,rfl⟩ (by
  rintro i x ρ hx ⟨v,rfl⟩
  rw[Zri] at hx
  cases ht:(Zbz k.bs k.bs.length)[i]? with
  |none=>rw[ht] at hx;cases hx
  |some t =>
   rw[ht] at hx
   cases hx
   obtain⟨a,b,_,_,_,rfl,_⟩:=UD.mp (ZqG ht)
   simp only[JO,Zrb,ZrM]
   walk_at "pd"
   exact Vq ⟨_,rfl⟩)
 have hL:=Zas h0 (ZqJ _)
 walk_at "pd"
 rw[JI (by rw[ZqN];omega)]
 walk_at "pd"
 rw[Zkh]
 walk_at "pd"
 rw[Znr ⟨by omega,h1⟩,Zf8]
 walk_at "pd"
 rw[ZaY (Zdw _)]
 walk_at "pd"
theorem Zm9 {k:Bk} (h:k.bs.length<=900/\∀b∈k.bs,b.length<=1000):Zmu.fn [bkP none k,.lst (k.bs.map fzI)]=.ok (.bl true):=
 Pm.fn_eq Zmu k h fun _ _=>rfl
noncomputable def bkU (k:Bk):Bk:=⟨k.bs.dropLast,k.ds.dropLast,k.us++[(k.ds.getD (k.ds.length-1) ("",0,0),k.bs.getD (k.bs.length-1) [])]⟩
noncomputable def Zm2:Pm:=⟨Bk,fun k=>[bkP none k],fun k=>k.bs.length≠0/\k.ds.length≠0/\k.ds.length<1000000/\k.us.length<1000000,fun k=>.ok (.tup [.non,bkP none (bkU k)])⟩
theorem ZoY (T:Txt K mg) {f:Addr}{fd:FuncData} (F:Fun K "undo" "RingBook.undo" Zmn f fd):J0 P w K mg base CX0 1 f fd ["self"] (spM K 0 0 Zm2.fnM):=by
 refine F.okM (n:=0) (j:=0) ZoX rfl rfl (by decide) (fun cdv A outer s H E hr=>?_)
 have hu:=hr.units
 refine⟨_,_,⟨[.O],[],[],.N⟩,rfl,rfl,(Zd (J7 (ZB (Jo (K:=K) hu) (Zz (ZJ (K:=K)) rfl T.z_len JG (Za (Jc (pv 0)) Zf)) Zk (ZK _)) (Zm ZcD) ZS)
   (Zm (ZC (VW PySem.F.plainAttrs_list PySem.F.slot_list_append PySem.F.type_list_append ZI (Jc (pv 0)) (Za (Uj (Za (ZaT PySem.F.plainAttrs_list PySem.F.slot_list_pop PySem.F.type_list_pop Zba (Jc (pv 0))) (Za (ZaT PySem.F.plainAttrs_list PySem.F.slot_list_pop PySem.F.type_list_pop Zba (Jc (pv 0))) Zf))) Zf))))),
   (Zn (Γm:=[.O]) (JD (ZA (DE.toA (Jn (g:=id) (DE.toA (JE (Zb (Q0 (fs:=Zr) (n := "RingBook") (Z2 T.o_RingBook) (by decide) (Zc (i:=0) (m:=.O) rfl (by decide))) Zh))) (DE.toA Zj))))
   Zdp
   ZV)
   (Qt (i:=0) (fs:=Zr) (n := "RingBook") (fl := "undone") (Z2 T.o_RingBook) (by decide) rfl (ZgA (ZbY (i:=0) (fs:=Zr) (n := "RingBook") (fl := "deeds") (Z2 T.o_RingBook) (by decide) rfl) (ZbY (i:=0) (fs:=Zr) (n := "RingBook") (fl := "boards") (Z2 T.o_RingBook) (by decide) rfl)))), ?_⟩
 refine Pm.refM2 Zm2 ?_
 rintro(k:Bk) ⟨h0,h1,h2,h3⟩ a b' xs e
 cases e
 simp only[Zm2]
 rw[show Zhg a (bkP none k)=bkP (some a) k from rfl]
 simp only[ins]
 walk_at "pd"
 rw[Zk5]
 walk_at "pd"
 rw[Vf,ZqN]
 walk_at "pd"
 rw[if_neg (by intro z;have:=of_decide_eq_true z;omega)]
 walk_at "pd"
 rw[Zlu]
 walk_at "pd"
 rw[Zlo h1]
 walk_at "pd"
 rw[Zlp (k:=⟨k.bs,k.ds.dropLast,k.us⟩) h0]
 walk_at "pd"
 rw[show PV.tup [dd3 (k.ds.getD (k.ds.length-1) ("",0,0)),fzI (k.bs.getD (k.bs.length-1) [])]=Zee (k.ds.getD (k.ds.length-1) ("",0,0),k.bs.getD (k.bs.length-1) []) from rfl,Zly (k:=⟨k.bs.dropLast,k.ds.dropLast,k.us⟩) h3]
 walk_at "pd"
 rfl
theorem Zpr {k:Bk} (h0:k.bs.length≠0) (h1:k.ds.length≠0) (h2:k.ds.length<1000000) (h3:k.us.length<1000000):Zm2.fnM (bkP none k) []=.ok (.tup [.non,bkP none (bkU k)]):=
 Pm.fn_eq Zm2 k ⟨h0,h1,h2,h3⟩ fun(k':Bk) e=>by
  simp only[Zm2,List.cons.injEq,and_true] at e ⊢
  rw[Uf e]
theorem Uu {q:Option Addr}{k:Bk} (h0:k.bs.length≠0) (h1:k.ds.length≠0) (h2:k.ds.length<1000000) (h3:k.us.length<1000000):Ux Zm2.fnM (bkP q k) []=.ok (.non,bkP q (bkU k)):=by
 unfold Ux
 rw[if_pos (by simp[PV.flats,PV.flat])]
 exact VO (Zpr h0 h1 h2 h3)
noncomputable def bkR (k:Bk):Bk:=⟨k.bs++[(k.us.getD (k.us.length-1) (("",0,0),[])).2],k.ds++[(k.us.getD (k.us.length-1) (("",0,0),[])).1],k.us.dropLast⟩
noncomputable def Zm3:Pm:=⟨Bk,fun k=>[bkP none k],fun k=>k.us.length≠0/\k.us.length<1000000/\k.bs.length<1000000/\k.ds.length<1000000,fun k=>.ok (.tup [.non,bkP none (bkR k)])⟩
theorem ZoZ (T:Txt K mg) {f:Addr}{fd:FuncData} (F:Fun K "redo" "RingBook.redo" Zmo f fd):J0 P w K mg base CX0 1 f fd ["self"] (spM K 0 0 Zm3.fnM):=by
 refine F.okM (n:=0) (j:=0) ZnT rfl rfl (by decide) (fun cdv A outer s H E hr=>?_)
 have hu:=hr.units
 refine⟨_,_,⟨[.O,.P],[],[],.N⟩,rfl,rfl,(Zd (J7 (ZB (Jo (K:=K) hu) (Zz (ZJ (K:=K)) rfl T.z_len JG (Za (Jc (pv 0)) Zf)) Zk (ZK _)) (Zm ZcD) ZS)
   (Zd (Z1 (i:=1) ZnT.nd rfl (by first|exact Or.inl rfl|exact Or.inr rfl) (ZaT PySem.F.plainAttrs_list PySem.F.slot_list_pop PySem.F.type_list_pop Zba (Jc (pv 0))))
   (Zd (ZC (VW PySem.F.plainAttrs_list PySem.F.slot_list_append PySem.F.type_list_append ZI (Jc (pv 0)) (Za (ZW (Zw (K:=K)) (pv 1) Zk (fun _ _=>rfl)) Zf)))
   (Zm (ZC (VW PySem.F.plainAttrs_list PySem.F.slot_list_append PySem.F.type_list_append ZI (Jc (pv 0)) (Za (ZW (Zw (K:=K)) (pv 1) Zk (fun _ _=>rfl)) Zf))))))),
   (Zn (Γm:=[.O,.U]) (JD (ZA (DE.toA (Jn (g:=id) (DE.toA (JE (Zb (Q0 (fs:=Zr) (n := "RingBook") (Z2 T.o_RingBook) (by decide) (Zc (i:=0) (m:=.O) rfl (by decide))) Zh))) (DE.toA Zj))))
   Zdp
   ZV)
   (Zn (Γm:=[.O,.P]) (Zdo (l:=1) (DMf.dm (ZbY (i:=0) (fs:=Zr) (n := "RingBook") (fl := "undone") (Z2 T.o_RingBook) (by decide) rfl)) (by decide))
   (Zn (Γm:=[.O,.P]) (Qt (i:=0) (fs:=Zr) (n := "RingBook") (fl := "deeds") (Z2 T.o_RingBook) (by decide) rfl (Zds (DE.grd (Z8 (te:=tC .non) (DE.toA (Zg (i:=1) rfl)) (DE.toA Zj)))))
   (Qt (i:=0) (fs:=Zr) (n := "RingBook") (fl := "boards") (Z2 T.o_RingBook) (by decide) rfl (Zds (DE.grd (Z8 (te:=tC .non) (DE.toA (Zg (i:=1) rfl)) (DE.toA Zj)))))))), ?_⟩
 refine Pm.refM2 Zm3 ?_
 rintro(k:Bk) ⟨h0,h1,h2,h3⟩ a b' xs e
 cases e
 simp only[Zm3]
 rw[show Zhg a (bkP none k)=bkP (some a) k from rfl]
 simp only[ins]
 walk_at "pd"
 rw[Zk4]
 walk_at "pd"
 rw[Vf,ZqN]
 walk_at "pd"
 rw[if_neg (by intro z;have:=of_decide_eq_true z;omega)]
 walk_at "pd"
 rw[Zln h0]
 generalize hu:k.us.getD (k.us.length-1) (("",0,0),[])=u
 obtain⟨d,ns⟩:=u
 walk_at "pd"
 rw[show grd (Zee (d,ns))=.ok (.tup [dd3 d,fzI ns]) by unfold grd;rw[if_pos (V8 _)];rfl]
 walk_at "pd"
 rw[Zki,show grd (dd3 d)=.ok (dd3 d) from rfl]
 walk_at "pd"
 rw[Zkk (k:=⟨k.bs,k.ds,k.us.dropLast⟩) h3]
 walk_at "pd"
 rw[Zkj,Qo]
 walk_at "pd"
 rw[Zkl (k:=⟨k.bs,k.ds++[d],k.us.dropLast⟩) h2]
 walk_at "pd"
 simp only[bkR,hu]
 rfl
theorem Zps {k:Bk} (h0:k.us.length≠0) (h1:k.us.length<1000000) (h2:k.bs.length<1000000) (h3:k.ds.length<1000000):Zm3.fnM (bkP none k) []=.ok (.tup [.non,bkP none (bkR k)]):=
 Pm.fn_eq Zm3 k ⟨h0,h1,h2,h3⟩ fun(k':Bk) e=>by
  simp only[Zm3,List.cons.injEq,and_true] at e ⊢
  rw[Uf e]
theorem Uv {q:Option Addr}{k:Bk} (h0:k.us.length≠0) (h1:k.us.length<1000000) (h2:k.bs.length<1000000) (h3:k.ds.length<1000000):Ux Zm3.fnM (bkP q k) []=.ok (.non,bkP q (bkR k)):=by
 unfold Ux
 rw[if_pos (by simp[PV.flats,PV.flat])]
 exact VO (Zps h0 h1 h2 h3)
noncomputable def ZmX:Pm:=⟨List Int×Int,fun a=>[.lst (a.1.map PV.int),.int a.2],fun _=>True,fun a=>.ok (.bl (decide (0<=a.2/\a.2<a.1.length)))⟩
theorem Zqt (T:Txt K mg) {f:Addr}{fd:FuncData} (F:Fun K "is_pit" "is_pit" Zn7 f fd):J0 P w K mg base CX0 3 f fd ["board", "pit"] (spF K 2 .P W0 ZmX.fn):=by
 have Zn6:=ZcR (P:=P) (w:=w) (base:=base) T.Zoq ZnY (fun F=>ZnV T F)
 refine F.okP Zqp rfl rfl (fun cdv A outer s H E hr=>?_)
 have hu:=hr.units
 refine⟨_,_,⟨[],[],[],.P⟩,rfl,(Zm (ZQ (ZcL (ZU Zn6 (hr.mono (by decide)) rfl (Za (pv 1) (Za Zk Zf))) (ZcJ (Zak Zih (pv 1) (Zz (ZJ (K:=K)) rfl T.z_len JG (Za (pv 0) Zf)) (ZK _)))))),
   (Je (Zdv (DE.toA (Zh4 (Zi (Zi Zu)) (Zb (Zc (i:=1) (m:=.S) rfl (by decide)) (Zb (DE.toA Zj) Zh)))) (Zi4 (Zc (i:=1) (m:=.S) rfl (by decide)) (DE.toA (JE (Zb (Zc (i:=0) (m:=.S) rfl (by decide)) Zh)))))), ?_⟩
 refine Pm.ref ZmX (g:=fun xs=>_) ?_
 rintro⟨ns,p⟩ -
 simp only[ZmX]
 walk_at "pd"
 rw[ZmH]
 walk_at "pd"
 by_cases h0:0<=p
 ·rw[decide_eq_true h0]
  walk_at "pd"
  by_cases h1:p<ns.length
  ·rw[decide_eq_true h1,show decide (0<=p/\p<(ns.length:Int))=true from decide_eq_true ⟨h0,h1⟩]
  ·rw[decide_eq_false h1,show decide (0<=p/\p<(ns.length:Int))=false from decide_eq_false (fun z=>h1 z.2)]
 ·rw[decide_eq_false h0,show decide (0<=p/\p<(ns.length:Int))=false from decide_eq_false (fun z=>h0 z.1)]
  walk_at "pd"
theorem ZoG {ns:List Int}{p:Int}:ZmX.fn [.lst (ns.map PV.int),.int p]=.ok (.bl (decide (0<=p/\p<ns.length))):=Pm.fn_eq ZmX (ns,p) trivial fun(a:List Int×Int) e=>by (simp only[ZmX,List.cons.injEq,PV.lst.injEq,PV.int.injEq,PV.str.injEq,PV.bl.injEq,PV.tup.injEq,Vk,and_true] at e ⊢;first|(simp only[e];done)|(subst e;rfl)|(rw[e]))
theorem Ze6:ZmX.calm:=fun a q h=>by (simp only[ZmX] at h;cases h)
noncomputable def ZmM:Pm:=⟨List Int×Int,fun a=>[.lst (a.1.map PV.int),.int a.2],fun a=>True,fun a=>orX (Zju a.1 a.2) .non⟩
theorem ZpP (T:Txt K mg) {f:Addr}{fd:FuncData} (F:Fun K "check_pit" "check_pit" ZmR f fd):J0 P w K mg base (CX1 P w) 4 f fd ["board", "pit"] (spF K 2 .P (W1 K) ZmM.fn):=by
 have Zq4:=ZcR (P:=P) (w:=w) (base:=base) T.Zq3 Zqy (fun F=>Zqt T F)
 obtain⟨C_BadPit,hC_BadPit,hQ_BadPit⟩:=QX T.x_exc (n := "BadPit") (by decide)
 refine F.okX ZpN rfl rfl (fun cdv A outer s H E hr=>?_)
 have hu:=hr.units
 refine⟨_,_,⟨[.S,.S],[],[],.P⟩,rfl,(Zm (J7 (QI (Uh (ZU Zq4 (hr.mono (by decide)) rfl (Za (pv 0) (Za (pv 1) Zf))))) (Zm (Zai ZbK hQ_BadPit rfl (T.x_mg _ _ hC_BadPit) rfl (Za ZaS Zf))) ZS)),
   (JD (QR (Zg8 (DE.toA (ZlO (Zi (Zi Zu)) (Pm.calm_fn Ze6) (Zb (Zc (i:=0) (m:=.S) rfl (by decide)) (Zb (Zc (i:=1) (m:=.S) rfl (by decide)) Zh))))))
   (Zay hC_BadPit (Zi Zu) (by decide) (Zb (DE.toA Zbn) Zh))
   ZV), ?_⟩
 refine Pm.ref ZmM (g:=fun xs=>_) ?_
 rintro⟨ns,p⟩ -
 simp only[ZmM]
 walk_at "pd"
 rw[ZoG]
 walk_at "pd"
 by_cases h:0<=p/\p<ns.length
 ·rw[decide_eq_true h,show Zju ns p=none from if_pos h];walk_at "pd" <;> rfl
 ·rw[decide_eq_false h,show Zju ns p=(some "BadPit":Option Str) from if_neg h];walk_at "pd" <;> rfl
theorem Zn4 {ns:List Int}{p:Int}:ZmM.fn [.lst (ns.map PV.int),.int p]=orX (Zju ns p) .non:=Pm.fn_eq ZmM (ns,p) trivial fun(a:List Int×Int) e=>by (simp only[ZmM,List.cons.injEq,PV.lst.injEq,PV.int.injEq,PV.str.injEq,PV.bl.injEq,PV.tup.injEq,Vk,and_true] at e ⊢;first|(simp only[e];done)|(subst e;rfl)|(rw[e]))
noncomputable def Zms:Pm:=⟨List Int×Int,fun a=>[.lst (a.1.map PV.int),.int a.2],fun a=>a.1.length<=1000,fun a=>orX (stX a.1 a.2) .non⟩
theorem ZnC (T:Txt K mg) {f:Addr}{fd:FuncData} (F:Fun K "check_standing" "check_standing" Zmw f fd):J0 P w K mg base (CX1 P w) 6 f fd ["board", "pit"] (spF K 2 .P (W1 K) Zms.fn):=by
 have ZnS:=Zan (P:=P) (w:=w) (base:=base) T.ZoF Zo5 (fun F=>Zo4 T F)
 have Zqf:=Zan (P:=P) (w:=w) (base:=base) T.Zqc ZpU (fun F=>ZpP T F)
 obtain⟨C_NoSeeds,hC_NoSeeds,hQ_NoSeeds⟩:=QX T.x_exc (n := "NoSeeds") (by decide)
 refine F.okX ZoJ rfl rfl (fun cdv A outer s H E hr=>?_)
 have hu:=hr.units
 refine⟨_,_,⟨[.S,.S],[],[],.P⟩,rfl,(Zd (ZC (Jq ZnS (hr.mono (by decide)) rfl Zal (Za (pv 0) Zf)))
   (Zd (ZC (Jq Zqf (hr.mono (by decide)) rfl Zal (Za (pv 0) (Za (pv 1) Zf))))
   (Zm (J7 (ZB (Jo (K:=K) hu) (ZW (Zw (K:=K)) (pv 0) (pv 1) (fun _ _=>rfl)) Zk (ZK _)) (Zm (Zai ZbK hQ_NoSeeds rfl (T.x_mg _ _ hC_NoSeeds) rfl (Za ZaS Zf))) ZS)))),
   (Zn (Γm:=[.S,.S]) (Qs (DE.toA (Zk3 (Zi Zu) (Zb (Zc (i:=0) (m:=.S) rfl (by decide)) Zh))))
   (Zn (Γm:=[.S,.S]) (Qs (DE.toA (Zk3 (Zi (Zi Zu)) (Zb (Zc (i:=0) (m:=.S) rfl (by decide)) (Zb (Zc (i:=1) (m:=.S) rfl (by decide)) Zh)))))
   (JD (ZA (DE.toA (Jn (g:=id) (Z8 (te:=tC .non) (Zc (i:=0) (m:=.S) rfl (by decide)) (Zc (i:=1) (m:=.S) rfl (by decide))) (DE.toA Zj))))
   (Zay hC_NoSeeds (Zi Zu) (by decide) (Zb (DE.toA Zbn) Zh))
   ZV))), ?_⟩
 refine Pm.ref Zms (g:=fun xs=>_) ?_
 rintro⟨ns,p⟩ (hn:ns.length<=1000)
 simp only[Zms]
 walk_at "pu"
 rw[ZmW hn,stX]
 by_cases h:Jp ns=true
 ·rw[if_pos h,if_pos h]
  simp only[orX]
  walk_at "pu"
  rw[Zn4,Zju]
  by_cases h1:0<=p/\p<ns.length
  ·rw[if_pos h1,if_pos h1]
   simp only[orX]
   walk_at "pu"
   rw[ZM h1.1 h1.2]
   walk_at "pu"
   by_cases h2:ns.getD p.toNat 0=0
   ·rw[decide_eq_true h2,if_pos h2];walk_at "pu"
   ·rw[decide_eq_false h2,if_neg h2];walk_at "pu"
  ·rw[if_neg h1,if_neg h1]
   simp only[orX]
   walk_at "pu"
 ·rw[if_neg h,if_neg h]
  simp only[orX]
  walk_at "pu"
theorem ZmB {ns:List Int}{p:Int} (h:ns.length<=1000):Zms.fn [.lst (ns.map PV.int),.int p]=orX (stX ns p) .non:=Pm.fn_eq Zms (ns,p) h fun⟨ns',k'⟩ e=>by
 simp only[Zms,List.cons.injEq,PV.lst.injEq,PV.int.injEq,and_true] at e ⊢
 rw[ZR e.1,e.2]
noncomputable def Zmq:Pm:=⟨List Int×Int,fun a=>[.lst (a.1.map PV.int),.int a.2],fun a=>0<=a.2/\a.2<a.1.length/\a.1.length<=1000/\∀x∈a.1,0<=x/\x<=10^60,fun a=>.ok (Q9 (tbS a))⟩
theorem Zpk (T:Txt K mg) {f:Addr}{fd:FuncData} (F:Fun K "take_back_at" "take_back_at" Zm6 f fd):J0 P w K mg base CX0 1 f fd ["board", "pit"] (spF K 2 .F W0 Zmq.fn):=by
 refine F.okP Zmz rfl rfl (fun cdv A outer s H E hr=>?_)
 have hu:=hr.units
 refine⟨_,_,⟨[],[],[],.F⟩,rfl,(Zd (Z1 (i:=2) Zmz.nd rfl (by first|exact Or.inl rfl|exact Or.inr rfl) (Zz (ZJ (K:=K)) rfl T.z_len JG (Za (pv 0) Zf)))
   (Zd (Z1 (i:=3) Zmz.nd rfl (by first|exact Or.inl rfl|exact Or.inr rfl) (Zz (ZdU (K:=K) rfl) rfl T.z_min Zkm (Za (pv 0) Zf)))
   (Zd (QJ (i:=4) Zmz.nd rfl (Ve (K:=K) (pv 0)) (fun _ _ _ _=>(ZH ZeN (pv 7) (pv 3))) rfl)
   (Zd (Z1 (i:=5) Zmz.nd rfl (by first|exact Or.inl rfl|exact Or.inr rfl) (ZH ZeP (pv 3) (pv 2)))
   (Zd (Z1 (i:=6) Zmz.nd rfl (by first|exact Or.inl rfl|exact Or.inr rfl) (pv 1))
   (Zd (ZcC PassesOwn.never (ZB Zgo (ZW (Zw (K:=K)) (pv 4) (pv 6) (fun _ _=>rfl)) Zk (ZK _)) (Zd (Ze1 (pv 4) (pv 6) (Zbj (K:=K)) Zk ZjK Vd)
   (Zd (Zjt (i:=5) Zmz.nd rfl (by first|exact Or.inl rfl|exact Or.inr rfl) Zk Zhy)
   (Zm (Z1 (i:=6) Zmz.nd rfl (by first|exact Or.inl rfl|exact Or.inr rfl) (ZH Jw (ZH ZeN (pv 6) Zk) (pv 2)))))))
   (Zd (ZcE (pv 5) (ZcH (pv 4) (pv 6) Vd))
   (Zm (ZQ (Uj (Za (pv 4) (Za (pv 6) Zf)))))))))))),
   (Zn (Γm:=[.S,.S,.P,.U,.U,.U,.U]) (Z7 (i:=2) (JE (Zb (Zc (i:=0) (m:=.S) rfl (by decide)) Zh)) (by decide))
   (Zn (Γm:=[.S,.S,.P,.P,.U,.U,.U]) (Z7 (i:=3) (ZjX (Zb (Zc (i:=0) (m:=.S) rfl (by decide)) Zh)) (by decide))
   (Zn (Γm:=[.S,.S,.P,.P,.O,.U,.U]) (QS (i:=4) (Za0 (DI.c (Qu (Zaz (i:=0) rfl))) (DE.PF (Zfz (Zc (i:=7) (m:=.S) rfl (by decide)) (DE.toA (Zg (i:=3) rfl))))) (by decide))
   (Zn (Γm:=[.S,.S,.P,.P,.O,.P,.U]) (Z7 (i:=5) (Zh3 (DE.toA (Zg (i:=3) rfl)) (DE.toA (Zg (i:=2) rfl))) (by decide))
   (Zn (Γm:=[.S,.S,.P,.P,.O,.P,.P]) (Z7 (i:=6) (DE.grd (Zc (i:=1) (m:=.S) rfl (by decide))) (by decide))
   (Zn (Γm:=[.S,.S,.P,.P,.O,.P,.P]) (Zdn (Γ:=[.S,.S,.P,.P,.O,.P,.P]) (ZA (DE.toA (ZgG (Z8 (te:=tC .non) (Zc (i:=4) (m:=.O) rfl (by decide)) (DE.toA (Zg (i:=6) rfl))) (DE.toA Zj))))
   (Zn (Γm:=[.S,.S,.P,.P,.O,.P,.P]) (Zdq (i:=4) rfl rfl (DE.toA (Zg (i:=6) rfl)) (DE.toA Zj))
   (Zn (Γm:=[.S,.S,.P,.P,.O,.P,.P]) (Ziy (i:=5) rfl (DE.toA Zj))
   (Z7 (i:=6) (Jx (DE.toA (Zfz (DE.toA (Zg (i:=6) rfl)) (DE.toA Zj))) (DE.toA (Zg (i:=2) rfl))) (by decide)))))
   (Zn (Γm:=[.S,.S,.P,.P,.O,.P,.P]) (VJ (i:=4) rfl (Zg (i:=5) rfl) (DE.toA (Zg (i:=6) rfl)))
   (JZ (Zfy (ZG (Qv (i:=4) rfl) (ZG (DE.PF (Zg (i:=6) rfl)) ZZ))))))))))), ?_⟩
 refine Pm.ref Zmq (g:=fun xs=>_) ?_
 rintro⟨ns,q⟩ ⟨h0,h1,h2,h3⟩
 simp only at h0 h1 h2 h3
 simp only[Zmq]
 have hne:ns≠[]:=by intro e;rw[e] at h1;simp at h1;omega
 have hm:=h3 _ (Vg hne)
 obtain⟨j1,j2,j3⟩:=Zab h0 h1
 walk_at "pu"
 rw[ZeF hne]
 walk_at "pu"
 rw[ZbL (by simp;omega)]
 walk_at "pu"
 have hc:ZeX (fun x=>ZkR x (.int (Ul ns))) (ns.map PV.int)=.ok ((tab ns.length (tbF ns q 0)).map PV.int):=by
  have e:tab ns.length (tbF ns q 0)=ns.map fun z=>z-Ul ns:=by
   refine(UN (by simp) fun x hx=>?_).symm
   have b:=Zru (q-(x:Int)) (show (ns.length:Int)≠0 by omega)
   unfold tbF
   rw[if_neg (by omega)]
   simp[ZqF,ZqH hx]
  rw[e,ZbJ (g:=fun x=>match x with|.int z=>PV.int (z-Ul ns)|_=>.non)]
  ·simp[Function.comp_def]
  ·intro x hx
   obtain⟨z,_,rfl⟩:=Zr3.mp hx
   rfl
 rw[hc]
 walk_at "pu"
 rw[ZeE (Zf6 60 3 (by omega) (by omega))]
 walk_at "pu"
 generalize hcd:(fun(ρ:List PV)=>((pIx (gv 4 ρ) (gv 6 ρ)).bind _).bind asB)=cond
 generalize hb:(fun(ρ:List PV)=>RS.seq _ _)=body
 have key:=Zeb (c:=cond) (b:=body) (fun ρ=>∃i:Nat,i<=tbJ ns q/\ρ=[.lst (ns.map PV.int),.int q,.int ns.length,.int (Ul ns),.lst ((tab ns.length (tbF ns q i)).map PV.int),.int (Ul ns*ns.length+i),.int ((q-i)%ns.length)])
  (fun ρ=>match gv 5 ρ with|.int t=>(Ul ns*ns.length+ns.length-t).toNat|_=>0)
  (r:=.next [.lst (ns.map PV.int),.int q,.int ns.length,.int (Ul ns),.lst ((tab ns.length (tbF ns q (tbJ ns q))).map PV.int),.int (tbT ns q),.int (tbP ns q)]) (by
  rintro ρ ⟨i,hi,rfl⟩
  have m1:=ZX (n:=ns.length) h0 h1 (show (0:Int)<=i by omega) (by omega)
  have b:0<=(q-(i:Int))%ns.length/\(q-(i:Int))%ns.length<ns.length:=by rw[m1];split<;>omega
  have ix:pIx (.lst ((tab ns.length (tbF ns q i)).map PV.int)) (.int ((q-(i:Int))%ns.length))=.ok (.int (tbG ns q i)):=by
   rw[ZM b.1 (by rw[Z6];exact b.2),Vw (by omega),ZgW h0 h1 (by omega)]
  by_cases hij:i=tbJ ns q
  ·left
   subst hij
   constructor
   ·subst hcd
    walk_at "pu"
    rw[ix]
    walk_at "pu"
    rw[j3]
    rfl
   ·rfl
  ·right
   have hlt:i<tbJ ns q:=by omega
   constructor
   ·subst hcd
    walk_at "pu"
    rw[ix]
    walk_at "pu"
    rw[decide_eq_true (j2 i hlt)]
   ·left
    have hst:=ZhH h0 h1 (i:=i) (by omega)
    rw[ZgW h0 h1 (by omega)] at hst
    have hset:=JB (ns:=tab ns.length (tbF ns q i)) (k:=(q-(i:Int))%ns.length) (y:=tbG ns q i-1) b.1 (by rw[Z6];exact b.2)
    rw[hst] at hset
    have e2:((q-(i:Int))%ns.length-1)%ns.length=(q-((i+1:Nat):Int))%ns.length:=by
     rw[Int.emod_sub_emod];congr 1;omega
    refine⟨[.lst (ns.map PV.int),.int q,.int ns.length,.int (Ul ns),.lst ((tab ns.length (tbF ns q (i+1))).map PV.int),.int (Ul ns*ns.length+(i+1:Nat)),.int ((q-(i+1:Nat))%ns.length)],.inl ?_,⟨i+1,by omega,rfl⟩, ?_⟩
    ·subst hb
     walk_at "pu"
     rw[ix]
     walk_at "pu"
     rw[hset]
     walk_at "pu"
     walk_at "pu"
     rw[Vz (by omega)]
     walk_at "pu"
     rw[e2,show Ul ns*(ns.length:Int)+i+1=Ul ns*ns.length+(i+1:Nat) by omega]
    ·simp only[ZbT,ZbS]
     omega) _ ⟨0,by omega,by rw[ZrT,Int.add_zero,Int.sub_zero,Zrx h0 h1]⟩
 rw[key]
 have hb2:=ZaH (ns:=ns) (q:=q) (by omega)
 walk_at "pu"
 rw[JB hb2.1 (by rw[Z6];exact hb2.2)]
 walk_at "pu"
 rfl
theorem ZmY {ns:List Int}{q:Int} (h:0<=q/\q<ns.length/\ns.length<=1000/\∀x∈ns,0<=x/\x<=10^60):Zmq.fn [.lst (ns.map PV.int),.int q]=.ok (Q9 (tbS (ns,q))):=
 Pm.fn_eq Zmq (ns,q) h fun⟨ns',k'⟩ e=>by
  simp only[Zmq,List.cons.injEq,PV.lst.injEq,PV.int.injEq,and_true] at e ⊢
  rw[ZR e.1,e.2]
theorem UX:Zmq.calm:=fun a q h=>by (simp only[Zmq] at h;cases h)
noncomputable def Zm5:Pm:=⟨List Int×Int,fun a=>[.lst (a.1.map PV.int),.int a.2],fun a=>a.1.length<=1000,fun a=>orX (stX a.1 a.2) (Q9 (tbS a))⟩
theorem ZoD (T:Txt K mg) {f:Addr}{fd:FuncData} (F:Fun K "taken_back" "taken_back" ZmI f fd):J0 P w K mg base (CX1 P w) 7 f fd ["board", "pit"] (spF K 2 .F (W1 K) Zm5.fn):=by
 have Znx:=Zan (P:=P) (w:=w) (base:=base) T.ZnW ZnG (fun F=>ZnC T F)
 have Zp7:=ZcR (P:=P) (w:=w) (base:=base) T.Zp3 Zpu (fun F=>Zpk T F)
 refine F.okX Zp9 rfl rfl (fun cdv A outer s H E hr=>?_)
 have hu:=hr.units
 refine⟨_,_,⟨[],[],[],.F⟩,rfl,(Zd (ZC (Jq Znx (hr.mono (by decide)) rfl Zal (Za (pv 0) (Za (pv 1) Zf))))
   (Zm (ZQ (ZU Zp7 (hr.mono (by decide)) rfl (Za (pv 0) (Za (pv 1) Zf)))))),
   (Zn (Γm:=[.S,.S]) (Qs (DE.toA (Zk3 (Zi (Zi Zu)) (Zb (Zc (i:=0) (m:=.S) rfl (by decide)) (Zb (Zc (i:=1) (m:=.S) rfl (by decide)) Zh)))))
   (JZ (ZlP (Zi (Zi Zu)) (Pm.calm_fn UX) (Zb (Zc (i:=0) (m:=.S) rfl (by decide)) (Zb (Zc (i:=1) (m:=.S) rfl (by decide)) Zh))))), ?_⟩
 refine Pm.ref Zm5 (g:=fun xs=>_) ?_
 rintro⟨ns,p⟩ (hn:ns.length<=1000)
 simp only[Zm5]
 walk_at "pu"
 rw[ZmB hn]
 cases h:stX ns p with
 |some n=>simp only[orX];walk_at "pu"
 |none =>
  simp only[orX]
  walk_at "pu"
  rw[ZmY (U6.mp h).tbOk]
  rfl
theorem Znn {ns:List Int}{p:Int} (h:ns.length<=1000):Zm5.fn [.lst (ns.map PV.int),.int p]=orX (stX ns p) (Q9 (tbS (ns,p))):=
 Pm.fn_eq Zm5 (ns,p) h fun⟨ns',k'⟩ e=>by
  simp only[Zm5,List.cons.injEq,PV.lst.injEq,PV.int.injEq,and_true] at e ⊢
  rw[ZR e.1,e.2]
theorem Vb {ns:List Int}{p:Int} (h:J3 ns p):Zm5.fn [.lst (ns.map PV.int),.int p]=.ok (Q9 (tbS (ns,p))):=by
 rw[Znn (by have:=h.bd.hi;omega),U6.mpr h];rfl
noncomputable def ZF (k:Bk):List Int:=k.bs.getD (k.bs.length-1) []
structure ZgT (k:Bk) (p:Int):Prop where
 b:k.bs.length≠0
 st:J3 (ZF k) p
 lb:k.bs.length<1000000
 ld:k.ds.length<1000000
noncomputable def Zmy:Pm:=⟨Bk×Dd×List Int,fun a=>[bkP none a.1,dd3 a.2.1,fzI a.2.2],fun a=>a.1.bs.length<1000000/\a.1.ds.length<1000000,fun a=>.ok (.tup [.non,bkP none ⟨a.1.bs++[a.2.2],a.1.ds++[a.2.1],[]⟩])⟩
theorem ZnD (T:Txt K mg) {f:Addr}{fd:FuncData} (F:Fun K "enter" "RingBook.enter" Zmk f fd):J0 P w K mg base CX0 1 f fd ["self", "deed", "board"] (spM K 2 0 Zmy.fnM):=by
 refine F.okM (n:=2) (j:=0) ZoK rfl rfl (by decide) (fun cdv A outer s H E hr=>?_)
 have hu:=hr.units
 refine⟨_,_,⟨[.O,.S,.S],[],[],.N⟩,rfl,rfl,(Zd (ZC (VW PySem.F.plainAttrs_list PySem.F.slot_list_append PySem.F.type_list_append ZI (Jc (pv 0)) (Za (pv 1) Zf)))
   (Zd (ZC (VW PySem.F.plainAttrs_list PySem.F.slot_list_append PySem.F.type_list_append ZI (Jc (pv 0)) (Za (pv 2) Zf)))
   (Zm (Zaj (pv 0) (J4 Zf))))),
   (Zn (Γm:=[.O,.S,.S]) (Qt (i:=0) (fs:=Zr) (n := "RingBook") (fl := "deeds") (Z2 T.o_RingBook) (by decide) rfl (Zds (DE.grd (Zc (i:=1) (m:=.S) rfl (by decide)))))
   (Zn (Γm:=[.O,.S,.S]) (Qt (i:=0) (fs:=Zr) (n := "RingBook") (fl := "boards") (Z2 T.o_RingBook) (by decide) rfl (Zds (DE.grd (Zc (i:=2) (m:=.S) rfl (by decide)))))
   (VL (i:=0) (fs:=Zr) (n := "RingBook") (fl := "undone") (Z2 T.o_RingBook) (by decide) rfl (Jh ZZ)))), ?_⟩
 refine Pm.refM2 Zmy ?_
 rintro⟨k,d,ns⟩ ⟨h0,h1⟩ a b' xs e
 cases e
 simp only[Zmy]
 rw[show Zhg a (bkP none k)=bkP (some a) k from rfl]
 simp only[ins]
 walk_at "pd"
 rw[Zki,show grd (dd3 d)=.ok (dd3 d) from rfl]
 walk_at "pd"
 rw[Zkk h1]
 walk_at "pd"
 rw[Zkj,Qo]
 walk_at "pd"
 rw[Zkl (k:=⟨k.bs,k.ds++[d],k.us⟩) h0]
 walk_at "pd"
 rw[Zlj]
 walk_at "pd"
 rfl
theorem Zpb {k:Bk}{d:Dd}{ns:List Int} (h0:k.bs.length<1000000) (h1:k.ds.length<1000000):Zmy.fnM (bkP none k) [dd3 d,fzI ns]=.ok (.tup [.non,bkP none ⟨k.bs++[ns],k.ds++[d],[]⟩]):=
 Pm.fn_eq Zmy (k,d,ns) ⟨h0,h1⟩ fun⟨k',d',ns'⟩ e=>by
  simp only[Zmy,List.cons.injEq,and_true] at e ⊢
  rw[Uf e.1,Zca e.2.1,Zav e.2.2]
theorem JF {q:Option Addr}{k:Bk}{d:Dd}{ns:List Int} (h0:k.bs.length<1000000) (h1:k.ds.length<1000000):Ux Zmy.fnM (bkP q k) [dd3 d,fzI ns]=.ok (.non,bkP q ⟨k.bs++[ns],k.ds++[d],[]⟩):=by
 unfold Ux
 rw[if_pos (by simp[PV.flats,VN,Jk])]
 exact VO (Zpb h0 h1)
noncomputable def bkT (k:Bk) (p:Int):Bk:=⟨k.bs++[(tbS (ZF k,p)).1],k.ds++[(("back":PySem.Str),p,-(tbS (ZF k,p)).1.getD (tbS (ZF k,p)).2.toNat 0)],[]⟩
noncomputable def Zm4:Pm:=⟨Bk×Int,fun a=>[bkP none a.1,.int a.2],fun a=>ZgT a.1 a.2,fun a=>.ok (.tup [.int (tbS (ZF a.1,a.2)).2,bkP none (bkT a.1 a.2)])⟩
theorem Zpa (T:Txt K mg) {f:Addr}{fd:FuncData} (F:Fun K "back" "RingBook.back" Zmp f fd):J0 P w K mg base CX0 8 f fd ["self", "pit"] (spM K 1 0 Zm4.fnM):=by
 have Zoz:=Zan (P:=P) (w:=w) (base:=base) T.ZoV ZoH (fun F=>ZoD T F)
 have Zny:=Qb (P:=P) (w:=w) (mg:=mg) (base:=base) T.o_RingBook T.ZnX ZnH (fun F=>ZnD T F)
 refine F.okM (n:=1) (j:=0) ZnU rfl rfl (by decide) (fun cdv A outer s H E hr=>?_)
 have hu:=hr.units
 refine⟨_,_,⟨[.O,.S,.U],[],[],.N⟩,rfl,rfl,(Zd (Z1 (i:=2) ZnU.nd rfl (by first|exact Or.inl rfl|exact Or.inr rfl) (UW (Jq Zoz (hr.mono (by decide)) rfl UY (Za (ZW (Zw (K:=K)) (Jc (pv 0)) (ZbC UM Zk) (fun _ _=>rfl)) (Za (pv 1) Zf)))))
   (Zd (ZC (U9 Zny (hr.mono (by decide)) (pv 0) (Za (Uj (Za ZaS (Za (pv 1) (Za (ZbC UM (ZW (Zw (K:=K)) (ZW (Zw (K:=K)) (pv 2) Zk (fun _ _=>rfl)) (ZW (Zw (K:=K)) (pv 2) Zk (fun _ _=>rfl)) (fun _ _=>rfl))) Zf)))) (Za (ZW (Zw (K:=K)) (pv 2) Zk (fun _ _=>rfl)) Zf))))
   (Zm (ZQ (ZW (Zw (K:=K)) (pv 2) Zk (fun _ _=>rfl)))))),
   (Zn (Γm:=[.O,.S,.P]) (Z7 (i:=2) (Qz (Zk2 (Zi (Zi Zu)) (Zb (Va (Z8 (te:=tC .non) (Q0 (fs:=Zr) (n := "RingBook") (Z2 T.o_RingBook) (by decide) (Zc (i:=0) (m:=.S) rfl (by decide))) (DE.toA (Qx (DE.toA Zj))))) (Zb (Zc (i:=1) (m:=.S) rfl (by decide)) Zh)))) (by decide))
   (Zn (Γm:=[.O,.S,.P]) (VM (DM.meth (n := "RingBook") (m := "enter") rfl (Vn (i:=0) rfl (Zi (Zi Zu)) (Zb (Qw (Zb (DE.toA Zbn) (Zb (Zc (i:=1) (m:=.S) rfl (by decide)) (Zb (DE.toA (Qx (Z8 (te:=tC .non) (Va (Z8 (te:=tC .non) (DE.toA (Zg (i:=2) rfl)) (DE.toA Zj))) (Z8 (te:=tC .non) (DE.toA (Zg (i:=2) rfl)) (DE.toA Zj))))) Zh)))) (Zb (Z8 (te:=tC .non) (DE.toA (Zg (i:=2) rfl)) (DE.toA Zj)) Zh)))))
   (Zfu (j:=0) (DE.PF (DE.grd (Z8 (te:=tC .non) (DE.toA (Zg (i:=2) rfl)) (DE.toA Zj)))) rfl))), ?_⟩
 refine Pm.refM2 Zm4 ?_
 rintro⟨k,p⟩ (h:ZgT k p) a b' xs e
 cases e
 simp only[Zm4]
 rw[show Zhg a (bkP none k)=bkP (some a) k from rfl]
 simp only[ins]
 walk_at "pd"
 rw[ZiB]
 walk_at "pd"
 rw[UZ (d:=[]) h.b]
 walk_at "pd"
 rw[Jt,show k.bs.getD (k.bs.length-1) []=ZF k from rfl,Vb h.st]
 walk_at "pd"
 rw[UF,Zdi]
 walk_at "pd"
 rw[Zkg]
 have hb:J3 (tbS (ZF k,p)).1 (tbS (ZF k,p)).2:=Qk (a:=(ZF k,p)) (.inr rfl) h.st 1
 rw[Jt,ZM hb.lo hb.hi]
 walk_at "pd"
 rw[show PV.tup [PV.str (PySem.Str.ofString "back"),PV.int p,PV.int (-(tbS (ZF k,p)).1.getD (tbS (ZF k,p)).2.toNat 0)]=dd3 ("back",p,-(tbS (ZF k,p)).1.getD (tbS (ZF k,p)).2.toNat 0) from rfl,JF h.lb h.ld]
 walk_at "pd"
 rfl
theorem Zpt {k:Bk}{p:Int} (h:ZgT k p):Zm4.fnM (bkP none k) [.int p]=.ok (.tup [.int (tbS (ZF k,p)).2,bkP none (bkT k p)]):=
 Pm.fn_eq Zm4 (k,p) h fun⟨k',p'⟩ e=>by
  simp only[Zm4,List.cons.injEq,PV.int.injEq,and_true] at e ⊢
  rw[Uf e.1,e.2]
theorem Uw {q:Option Addr}{k:Bk}{p:Int} (h:ZgT k p):Ux Zm4.fnM (bkP q k) [.int p]=.ok (.int (tbS (ZF k,p)).2,bkP q (bkT k p)):=by
 unfold Ux
 rw[if_pos (by simp[PV.flats,PV.flat])]
 exact VO (Zpt h)
noncomputable def ZmP:Pm:=⟨List Int×Int,fun a=>[.lst (a.1.map PV.int),.int a.2],fun a=>0<=a.2/\a.2<a.1.length/\a.1.length<=1000,fun a=>.ok (Q9 (Za9 a))⟩
theorem Zqh (T:Txt K mg) {f:Addr}{fd:FuncData} (F:Fun K "sow_pit" "sow_pit" Znl f fd):J0 P w K mg base CX0 1 f fd ["board", "pit"] (spF K 2 .F W0 ZmP.fn):=by
 refine F.okP Zna rfl rfl (fun cdv A outer s H E hr=>?_)
 have hu:=hr.units
 refine⟨_,_,⟨[],[],[],.F⟩,rfl,(Zd (Z1 (i:=2) Zna.nd rfl (by first|exact Or.inl rfl|exact Or.inr rfl) (Zz (ZJ (K:=K)) rfl T.z_len JG (Za (pv 0) Zf)))
   (Zd (Z1 (i:=3) Zna.nd rfl (by first|exact Or.inl rfl|exact Or.inr rfl) (ZH Jj (ZW (Zw (K:=K)) (pv 0) (pv 1) (fun _ _=>rfl)) (pv 2)))
   (Zd (Z1 (i:=4) Zna.nd rfl (by first|exact Or.inl rfl|exact Or.inr rfl) (ZH Jw (ZW (Zw (K:=K)) (pv 0) (pv 1) (fun _ _=>rfl)) (pv 2)))
   (Zd (QJ (i:=5) Zna.nd rfl (Ve (K:=K) (pv 0)) (fun _ _ _ _=>(ZH Uk (pv 8) (pv 3))) rfl)
   (Zd (ZcE (pv 3) (ZcH (pv 5) (pv 1) Vd))
   (Zd (Z1 (i:=6) Zna.nd rfl (by first|exact Or.inl rfl|exact Or.inr rfl) (pv 1))
   (Zd (Ui PassesOwn.never rfl (ZaR rfl T.z_range (Za (pv 4) Zf)) (JH (i:=7) Zna.nd rfl (by first|exact Or.inl rfl|exact Or.inr rfl)) (Zd (Z1 (i:=6) Zna.nd rfl (by first|exact Or.inl rfl|exact Or.inr rfl) (ZH Jw (ZH Uk (pv 6) Zk) (pv 2)))
   (Zm (Ze1 (pv 5) (pv 6) (Zbj (K:=K)) Zk Zhy Vd))))
   (Zm (ZQ (Uj (Za (pv 5) (Za (pv 6) Zf)))))))))))),
   (Zn (Γm:=[.S,.S,.P,.U,.U,.U,.U,.U]) (Z7 (i:=2) (JE (Zb (Zc (i:=0) (m:=.S) rfl (by decide)) Zh)) (by decide))
   (Zn (Γm:=[.S,.S,.P,.P,.U,.U,.U,.U]) (Z7 (i:=3) (Vt (Z8 (te:=tC .non) (Zc (i:=0) (m:=.S) rfl (by decide)) (Zc (i:=1) (m:=.S) rfl (by decide))) (DE.toA (Zg (i:=2) rfl))) (by decide))
   (Zn (Γm:=[.S,.S,.P,.P,.P,.U,.U,.U]) (Z7 (i:=4) (Jx (Z8 (te:=tC .non) (Zc (i:=0) (m:=.S) rfl (by decide)) (Zc (i:=1) (m:=.S) rfl (by decide))) (DE.toA (Zg (i:=2) rfl))) (by decide))
   (Zn (Γm:=[.S,.S,.P,.P,.P,.O,.U,.U]) (QS (i:=5) (Za0 (DI.c (Qu (Zaz (i:=0) rfl))) (DE.PF (Ur (Zc (i:=8) (m:=.S) rfl (by decide)) (DE.toA (Zg (i:=3) rfl))))) (by decide))
   (Zn (Γm:=[.S,.S,.P,.P,.P,.O,.U,.U]) (VJ (i:=5) rfl (Zg (i:=3) rfl) (Zc (i:=1) (m:=.S) rfl (by decide)))
   (Zn (Γm:=[.S,.S,.P,.P,.P,.O,.P,.U]) (Z7 (i:=6) (DE.grd (Zc (i:=1) (m:=.S) rfl (by decide))) (by decide))
   (Zn (Γm:=[.S,.S,.P,.P,.P,.O,.P,.U]) (Qr (Γl:=[.S,.S,.P,.P,.P,.O,.P,.U]) (Zfx (Zb (DE.toA (Zg (i:=4) rfl)) Zh)) rfl (Zhz (i:=7) (by decide))
   (DS.out (Y:=⟨[.S,.S,.P,.P,.P,.O,.P,.P],[.S,.S,.P,.P,.P,.O,.P,.U],[.S,.S,.P,.P,.P,.O,.P,.U],.F⟩) (Y':=⟨[.S,.S,.P,.P,.P,.O,.P,.U],[.S,.S,.P,.P,.P,.O,.P,.U],[.S,.S,.P,.P,.P,.O,.P,.U],.F⟩) (Zn (Γm:=[.S,.S,.P,.P,.P,.O,.P,.P]) (Z7 (i:=6) (Jx (DE.toA (Ur (DE.toA (Zg (i:=6) rfl)) (DE.toA Zj))) (DE.toA (Zg (i:=2) rfl))) (by decide))
   (Zdq (i:=5) rfl rfl (DE.toA (Zg (i:=6) rfl)) (DE.toA Zj))) rfl rfl rfl rfl))
   (JZ (Zfy (ZG (Qv (i:=5) rfl) (ZG (DE.PF (Zg (i:=6) rfl)) ZZ))))))))))), ?_⟩
 refine Pm.ref ZmP (g:=fun xs=>_) ?_
 rintro⟨ns,p⟩ ⟨h0,h1,h2⟩
 simp only at h0 h1 h2
 simp only[ZmP]
 walk_at "pu"
 rw[ZM h0 h1]
 walk_at "pu"
 rw[ZeK (Zf7 3 (by omega) (by omega))]
 walk_at "pu"
 rw[ZM h0 h1]
 walk_at "pu"
 rw[Vz (show (0:Int)<ns.length by omega)]
 walk_at "pu"
 rw[ZbL (by simp;omega)]
 walk_at "pu"
 have hc:ZeX (fun x=>ZkU x (.int (ns.getD p.toNat 0/ns.length))) (ns.map PV.int)=.ok ((ns.map fun z=>z+ns.getD p.toNat 0/ns.length).map PV.int):=by
  rw[ZbJ (g:=fun x=>match x with|.int z=>PV.int (z+ns.getD p.toNat 0/ns.length)|_=>.non)]
  ·simp[Function.comp_def]
  ·intro x hx
   obtain⟨z,_,rfl⟩:=Zr3.mp hx
   rfl
 rw[hc]
 walk_at "pu"
 rw[JB h0 (by simp;omega),Zcz h0 h1]
 walk_at "pu"
 have o0:=Zru (ns.getD p.toNat 0) (show (ns.length:Int)≠0 by omega)
 have o1:=Zrr (ns.getD p.toNat 0) (show (0:Int)<ns.length by omega)
 rw[ZcO (by omega)]
 walk_at "pu"
 generalize hs:ns.getD p.toNat 0/ns.length=rounds
 generalize ho:ns.getD p.toNat 0%ns.length=over at o0 o1
 generalize hb:(fun(x:PV) (ρ:List PV)=>_)=body
 obtain⟨ρ',e1,e2⟩:=UG (b:=body) (xs:=Zd8 0 over.toNat) (ρ:=[.lst (ns.map PV.int),.int p,.int ns.length,.int rounds,.int over,.lst ((tab ns.length (ZaL ns p 0)).map PV.int),.int p,.non])
  (fun i ρ=>∃v,ρ=[.lst (ns.map PV.int),.int p,.int ns.length,.int rounds,.int over,.lst ((tab ns.length (ZaL ns p i)).map PV.int),.int ((p+i)%ns.length),v]) ⟨_,by rw[ZrT,Int.add_zero,Zrx h0 h1]⟩ (by
  rintro i x ρ hx ⟨v,rfl⟩
  obtain⟨hi,rfl⟩:=U8 hx
  subst hb
  have m1:=V0 h0 h1 (show (0:Int)<=i by omega) (by omega)
  have m2:=V0 h0 h1 (show (0:Int)<=(i:Int)+1 by omega) (by omega)
  have e:((p+(i:Int))%ns.length+1)%ns.length=(p+((i:Int)+1))%ns.length:=by
   rw[m1,m2]
   split
   ·rw[show p+(i:Int)+1=p+((i:Int)+1) by omega,m2]
   ·rw[Zrx (by omega) (by omega)];split<;>omega
  have b:0<=(p+((i:Int)+1))%ns.length/\(p+((i:Int)+1))%ns.length<ns.length:=by rw[m2];split<;>omega
  walk_at "pu"
  rw[Vz (by omega)]
  walk_at "pu"
  rw[e,ZM b.1 (by rw[Z6];exact b.2)]
  walk_at "pu"
  rw[Vw (by omega)]
  have hst:=Zc0 h0 h1 (i:=i) (by omega)
  have hset:=JB (ns:=tab ns.length (ZaL ns p i)) (k:=(p+((i:Int)+1))%ns.length) (y:=ZaL ns p i ((p+((i:Int)+1))%ns.length).toNat+1) b.1 (by rw[Z6];exact b.2)
  rw[hst] at hset
  rw[hset]
  walk_at "pu"
  exact Vq ⟨_,by rw[show ((i+1:Nat):Int)=(i:Int)+1 by omega]⟩)
 obtain⟨v,rfl⟩:=e2
 rw[e1]
 walk_at "pu"
 rw[Jv,Zr7 o0]
 show Rr.ok (PV.tup _)=Rr.ok (PV.tup _)
 unfold Za9 Zep Zen
 rw[ho]
theorem Zot {ns:List Int}{p:Int} (h:0<=p/\p<ns.length/\ns.length<=1000):ZmP.fn [.lst (ns.map PV.int),.int p]=.ok (Q9 (Za9 (ns,p))):=
 Pm.fn_eq ZmP (ns,p) h fun⟨ns',k'⟩ e=>by
  simp only[ZmP,List.cons.injEq,PV.lst.injEq,PV.int.injEq,and_true] at e ⊢
  rw[ZR e.1,e.2]
theorem Zd9:ZmP.calm:=fun a q h=>by (simp only[ZmP] at h;cases h)
noncomputable def ZnJ:Pm:=⟨List Int×Int,fun a=>[.lst (a.1.map PV.int),.int a.2],fun a=>a.1.length<=1000,fun a=>orX (stX a.1 a.2) (Q9 (Za9 a))⟩
theorem Zqs (T:Txt K mg) {f:Addr}{fd:FuncData} (F:Fun K "sown" "sown" ZoU f fd):J0 P w K mg base (CX1 P w) 7 f fd ["board", "pit"] (spF K 2 .F (W1 K) ZnJ.fn):=by
 have Znx:=Zan (P:=P) (w:=w) (base:=base) T.ZnW ZnG (fun F=>ZnC T F)
 have Zq1:=ZcR (P:=P) (w:=w) (base:=base) T.Zqv Zql (fun F=>Zqh T F)
 refine F.okX Zq6 rfl rfl (fun cdv A outer s H E hr=>?_)
 have hu:=hr.units
 refine⟨_,_,⟨[],[],[],.F⟩,rfl,(Zd (ZC (Jq Znx (hr.mono (by decide)) rfl Zal (Za (pv 0) (Za (pv 1) Zf))))
   (Zm (ZQ (ZU Zq1 (hr.mono (by decide)) rfl (Za (pv 0) (Za (pv 1) Zf)))))),
   (Zn (Γm:=[.S,.S]) (Qs (DE.toA (Zk3 (Zi (Zi Zu)) (Zb (Zc (i:=0) (m:=.S) rfl (by decide)) (Zb (Zc (i:=1) (m:=.S) rfl (by decide)) Zh)))))
   (JZ (ZlP (Zi (Zi Zu)) (Pm.calm_fn Zd9) (Zb (Zc (i:=0) (m:=.S) rfl (by decide)) (Zb (Zc (i:=1) (m:=.S) rfl (by decide)) Zh))))), ?_⟩
 refine Pm.ref ZnJ (g:=fun xs=>_) ?_
 rintro⟨ns,p⟩ (hn:ns.length<=1000)
 simp only[ZnJ]
 walk_at "pu"
 rw[ZmB hn]
 cases h:stX ns p with
 |some n=>simp only[orX];walk_at "pu"
 |none =>
  simp only[orX]
  walk_at "pu"
  rw[Zot (U6.mp h).sowOk]
  rfl
theorem ZpT {ns:List Int}{p:Int} (h:ns.length<=1000):ZnJ.fn [.lst (ns.map PV.int),.int p]=orX (stX ns p) (Q9 (Za9 (ns,p))):=
 Pm.fn_eq ZnJ (ns,p) h fun⟨ns',k'⟩ e=>by
  simp only[ZnJ,List.cons.injEq,PV.lst.injEq,PV.int.injEq,and_true] at e ⊢
  rw[ZR e.1,e.2]
theorem Zbs {ns:List Int}{p:Int} (h:J3 ns p):ZnJ.fn [.lst (ns.map PV.int),.int p]=.ok (Q9 (Za9 (ns,p))):=by
 rw[ZpT (by have:=h.bd.hi;omega),U6.mpr h];rfl
noncomputable def bkS (k:Bk) (p:Int):Bk:=⟨k.bs++[(Za9 (ZF k,p)).1],k.ds++[(("sow":PySem.Str),p,(ZF k).getD p.toNat 0)],[]⟩
noncomputable def ZmA:Pm:=⟨Bk×Int,fun a=>[bkP none a.1,.int a.2],fun a=>ZgT a.1 a.2,fun a=>.ok (.tup [.int (Za9 (ZF a.1,a.2)).2,bkP none (bkS a.1 a.2)])⟩
theorem Zpl (T:Txt K mg) {f:Addr}{fd:FuncData} (F:Fun K "sow" "RingBook.sow" Zmt f fd):J0 P w K mg base CX0 8 f fd ["self", "pit"] (spM K 1 0 ZmA.fnM):=by
 have Zq0:=Zan (P:=P) (w:=w) (base:=base) T.Zq5 Zqx (fun F=>Zqs T F)
 have Zny:=Qb (P:=P) (w:=w) (mg:=mg) (base:=base) T.o_RingBook T.ZnX ZnH (fun F=>ZnD T F)
 refine F.okM (n:=1) (j:=0) Zod rfl rfl (by decide) (fun cdv A outer s H E hr=>?_)
 have hu:=hr.units
 refine⟨_,_,⟨[.O,.S,.U],[],[],.N⟩,rfl,rfl,(Zd (Z1 (i:=2) Zod.nd rfl (by first|exact Or.inl rfl|exact Or.inr rfl) (UW (Jq Zq0 (hr.mono (by decide)) rfl UY (Za (ZW (Zw (K:=K)) (Jc (pv 0)) (ZbC UM Zk) (fun _ _=>rfl)) (Za (pv 1) Zf)))))
   (Zd (ZC (U9 Zny (hr.mono (by decide)) (pv 0) (Za (Uj (Za ZaS (Za (pv 1) (Za (ZW (Zw (K:=K)) (ZW (Zw (K:=K)) (Jc (pv 0)) (ZbC UM Zk) (fun _ _=>rfl)) (pv 1) (fun _ _=>rfl)) Zf)))) (Za (ZW (Zw (K:=K)) (pv 2) Zk (fun _ _=>rfl)) Zf))))
   (Zm (ZQ (ZW (Zw (K:=K)) (pv 2) Zk (fun _ _=>rfl)))))),
   (Zn (Γm:=[.O,.S,.P]) (Z7 (i:=2) (Qz (Zk2 (Zi (Zi Zu)) (Zb (Va (Z8 (te:=tC .non) (Q0 (fs:=Zr) (n := "RingBook") (Z2 T.o_RingBook) (by decide) (Zc (i:=0) (m:=.S) rfl (by decide))) (DE.toA (Qx (DE.toA Zj))))) (Zb (Zc (i:=1) (m:=.S) rfl (by decide)) Zh)))) (by decide))
   (Zn (Γm:=[.O,.S,.P]) (VM (DM.meth (n := "RingBook") (m := "enter") rfl (Vn (i:=0) rfl (Zi (Zi Zu)) (Zb (Qw (Zb (DE.toA Zbn) (Zb (Zc (i:=1) (m:=.S) rfl (by decide)) (Zb (Z8 (te:=tC .non) (Va (Z8 (te:=tC .non) (Q0 (fs:=Zr) (n := "RingBook") (Z2 T.o_RingBook) (by decide) (Zc (i:=0) (m:=.O) rfl (by decide))) (DE.toA (Qx (DE.toA Zj))))) (Zc (i:=1) (m:=.S) rfl (by decide))) Zh)))) (Zb (Z8 (te:=tC .non) (DE.toA (Zg (i:=2) rfl)) (DE.toA Zj)) Zh)))))
   (Zfu (j:=0) (DE.PF (DE.grd (Z8 (te:=tC .non) (DE.toA (Zg (i:=2) rfl)) (DE.toA Zj)))) rfl))), ?_⟩
 refine Pm.refM2 ZmA ?_
 rintro⟨k,p⟩ (h:ZgT k p) a b' xs e
 cases e
 simp only[ZmA]
 rw[show Zhg a (bkP none k)=bkP (some a) k from rfl]
 simp only[ins]
 walk_at "pd"
 rw[ZiB]
 walk_at "pd"
 rw[UZ (d:=[]) h.b]
 walk_at "pd"
 rw[Jt,show k.bs.getD (k.bs.length-1) []=ZF k from rfl,Zbs h.st]
 walk_at "pd"
 rw[UF,Zdi]
 walk_at "pd"
 rw[Zkg,ZiB]
 walk_at "pd"
 rw[UZ (d:=[]) h.b]
 walk_at "pd"
 rw[Jt,show k.bs.getD (k.bs.length-1) []=ZF k from rfl,ZM h.st.lo h.st.hi]
 walk_at "pd"
 rw[show PV.tup [PV.str (PySem.Str.ofString "sow"),PV.int p,PV.int ((ZF k).getD p.toNat 0)]=dd3 ("sow",p,(ZF k).getD p.toNat 0) from rfl,JF h.lb h.ld]
 walk_at "pd"
 rfl
theorem Zp5 {k:Bk}{p:Int} (h:ZgT k p):ZmA.fnM (bkP none k) [.int p]=.ok (.tup [.int (Za9 (ZF k,p)).2,bkP none (bkS k p)]):=
 Pm.fn_eq ZmA (k,p) h fun⟨k',p'⟩ e=>by
  simp only[ZmA,List.cons.injEq,PV.int.injEq,and_true] at e ⊢
  rw[Uf e.1,e.2]
theorem Q4 {q:Option Addr}{k:Bk}{p:Int} (h:ZgT k p):Ux ZmA.fnM (bkP q k) [.int p]=.ok (.int (Za9 (ZF k,p)).2,bkP q (bkS k p)):=by
 unfold Ux
 rw[if_pos (by simp[PV.flats,PV.flat])]
 exact VO (Zp5 h)
structure Gb (n:Nat) (b:List Int):Prop where
 bd:Uy b
 ln:b.length=n
 ps:0<b.sum
theorem Gb.sow {n:Nat}{b:List Int}{p:Int} (h:Gb n b) (st:J3 b p):Gb n (Za9 (b,p)).1:=
 ⟨(UR st).bd,by rw[<- h.ln];exact Ju b p,by rw[show (Za9 (b,p)).1.sum=b.sum from U7 st.lo st.hi (Int.le_of_lt st.pos)];exact h.ps⟩
theorem Gb.back {n:Nat}{b:List Int}{p:Int} (h:Gb n b) (st:J3 b p):Gb n (tbS (b,p)).1:=
 ⟨(Qk (a:=(b,p)) (.inr rfl) st 1).bd,by rw[<- h.ln];exact Jr b p,by rw[show (tbS (b,p)).1.sum=b.sum from ZiW st];exact h.ps⟩
structure Bi (n i:Nat) (k:Bk) (gs:List (List Int)) (l:Int):Prop where
 b0:k.bs.length≠0
 dl:k.ds.length+1=k.bs.length
 ug:k.us.map (·.2)=gs
 ok:∀b∈k.bs,Gb n b
 og:∀b∈gs,Gb n b
 bi:k.bs.length<=i+1
 gi:gs.length<=i
 l0:0<=l
 l1:l<n
section
variable {n i:Nat}{k:Bk}{gs:List (List Int)}{l p:Int}
theorem Zfc (h:k.bs.length≠0):ZF k∈k.bs:=by
 unfold ZF
 rw[ZqF,ZqH (by omega)]
 exact Zsb ..
theorem Bi.ul (h:Bi n i k gs l):k.us.length=gs.length:=by rw[<- h.ug,ZqN]
theorem Bi.last (h:Bi n i k gs l):Gb n (ZF k):=h.ok _ (Zfc h.b0)
theorem Bi.sow (h:Bi n i k gs l) (st:J3 (ZF k) p):Bi n (i+1) (bkS k p) [] (Za9 (ZF k,p)).2:=by
 have s1:=UR st
 have hl:=h.dl
 have hb:=h.bi
 have hln:=h.last.ln
 refine⟨by simp[bkS],by simp only[bkS,Zra,ZqY,Zry];omega,rfl,fun b hb=>?_,by simp,by simp only[bkS,Zra,ZqY,Zry];omega,by simp,s1.lo, ?_⟩
 ·rcases ZqK.mp hb with z|z
  ·exact h.ok b z
  ·rw[Zrg.mp z];exact h.last.sow st
 ·have:=s1.hi
  rw[show (Zep (ZF k) p).length=n by rw[Ju];exact hln] at this
  exact this
theorem Bi.back (h:Bi n i k gs l) (st:J3 (ZF k) p):Bi n (i+1) (bkT k p) [] l:=by
 have hl:=h.dl
 have hb:=h.bi
 refine⟨by simp[bkT],by simp only[bkT,Zra,ZqY,Zry];omega,rfl,fun b hb=>?_,by simp,by simp only[bkT,Zra,ZqY,Zry];omega,by simp,h.l0,h.l1⟩
 rcases ZqK.mp hb with z|z
 ·exact h.ok b z
 ·rw[Zrg.mp z];exact h.last.back st
theorem Bi.undo (h:Bi n i k gs l) (h1:1<k.bs.length):Bi n (i+1) (bkU k) (gs++[ZF k]) l:=by
 have hl:=h.dl
 have hb:=h.bi
 have hg:=h.gi
 refine⟨by simp only[bkU,ZrH];omega,by simp only[bkU,ZrH];omega,by simp only[bkU,Zr0,h.ug];rfl,fun b hb=>h.ok b (Zsd _ hb),fun b hb=>?_,by simp only[bkU,ZrH];omega,by simp only[Zra,ZqY,Zry];omega,h.l0,h.l1⟩
 rcases ZqK.mp hb with z|z
 ·exact h.og b z
 ·rw[Zrg.mp z];exact h.last
theorem Zed (h:k.us.map (·.2)=gs) (h0:gs.length≠0):(k.us.getD (k.us.length-1) (("",0,0),[])).2=gs.getD (gs.length-1) []:=by
 subst h
 rw[ZqN] at h0 ⊢
 rw[ZqF,ZqF,Zri,ZqH (by omega)];rfl
theorem Bi.redo (h:Bi n i k gs l) (h1:0<gs.length):Bi n (i+1) (bkR k) gs.dropLast l:=by
 have hl:=h.dl
 have hb:=h.bi
 have hg:=h.gi
 refine⟨by simp[bkR],by simp only[bkR,Zra,ZqY,Zry];omega,by simp only[bkR,List.map_dropLast,h.ug],fun b hb=>?_,fun b hb=>h.og b (Zsd _ hb),by simp only[bkR,Zra,ZqY,Zry];omega,by rw[ZrH];omega,h.l0,h.l1⟩
 rcases ZqK.mp hb with z|z
 ·exact h.ok b z
 ·rw[Zrg.mp z,Zed h.ug (by omega)]
  refine h.og _ ?_
  rw[ZqF,ZqH (by omega)]
  exact Zsb ..
theorem Bi.to (h:Bi n i k gs l) (hi:i<=24):k.bs.length<=900/\∀b∈k.bs,b.length<=1000:=by
 have:=h.bi
 exact⟨by omega,fun b hb=>by have:=(h.ok b hb).bd.hi;omega⟩
end
theorem Zes {b:List Int}{j:Nat}{v:Int} (hB:Uy b) (hz:b.sum=0) (hj:j<b.length) (h0:1<=v) (h1:v<=1000):Gb b.length (b.set j v):=by
 have hall:∀x∈b,x=0:=fun x hx=>by have:=Zfa hB.nn hx;have:=hB.nn x hx;omega
 have hsum:(b.set j v).sum=v:=by rw[U4 hj,hz,hall _ (Jm hj)];omega
 refine⟨⟨by rw[Zr8];exact hB.lo,by rw[Zr8];exact hB.hi,fun x hx=>?_,by rw[hsum];omega⟩,Zr8,by omega⟩
 rcases ZrS hx with z|z
 ·exact hB.nn x z
 ·omega
noncomputable def Zpf:Pm:=⟨List Int,fun ns=>[.lst (ns.map PV.int)],fun ns=>ns.length<=63,fun _=>.ok (.bl true)⟩
theorem ZqC (T:Txt K mg) {f:Addr}{fd:FuncData} (F:Fun K "law" "law" ZpO f fd):J0 P w K mg base CX0 9 f fd ["script"] (spF K 1 .P W0 Zpf.fn):=by
 have Zq2:=ZcR (P:=P) (w:=w) (base:=base) T.Zqw Zqm (fun F=>Zqi T F)
 have ZpW:=ZcR (P:=P) (w:=w) (base:=base) T.ZpR ZpJ (fun F=>ZpE T F)
 have ZoC:=Zj7 (P:=P) (w:=w) (mg:=mg) (base:=base) T.o_RingBook T.Zo9 (T.x_mg _) Zo3 (fun F=>Zo2 T F)
 have ZnI:=ZcR (P:=P) (w:=w) (base:=base) T.ZoR ZoI (fun F=>ZoE T F)
 have Zpy:=Qb (P:=P) (w:=w) (mg:=mg) (base:=base) T.o_RingBook T.Zpo Zpc (fun F=>ZoY T F)
 have Zpz:=Qb (P:=P) (w:=w) (mg:=mg) (base:=base) T.o_RingBook T.Zpp Zpd (fun F=>ZoZ T F)
 have Zp0:=Qb (P:=P) (w:=w) (mg:=mg) (base:=base) T.o_RingBook T.Zpq Zpe (fun F=>Zpa T F)
 have Zp8:=Qb (P:=P) (w:=w) (mg:=mg) (base:=base) T.o_RingBook T.Zp4 Zpv (fun F=>Zpl T F)
 have Zoz:=Zan (P:=P) (w:=w) (base:=base) T.ZoV ZoH (fun F=>ZoD T F)
 have Zq0:=Zan (P:=P) (w:=w) (base:=base) T.Zq5 Zqx (fun F=>Zqs T F)
 refine F.okP Znz rfl rfl (fun cdv A outer s H E hr=>?_)
 have hu:=hr.units
 refine⟨_,_,⟨[],[],[],.P⟩,rfl,(Zd (Z1 (i:=1) Znz.nd rfl (by first|exact Or.inl rfl|exact Or.inr rfl) (ZU Zq2 (hr.mono (by decide)) rfl (Za (pv 0) (Za Zk Zf))))
   (Zd (Z1 (i:=2) Znz.nd rfl (by first|exact Or.inl rfl|exact Or.inr rfl) (ZH Uk Zk (ZH Jw (pv 1) Zk)))
   (Zd (Z1 (i:=3) Znz.nd rfl (by first|exact Or.inl rfl|exact Or.inr rfl) (ZU ZpW (hr.mono (by decide)) rfl (Za (pv 0) (Za (pv 2) (Za Zk Zf)))))
   (Zd (J7 (ZB (Jo (K:=K) hu) (Zz (Zbp (K:=K) rfl) rfl T.z_sum Zh5 (Za (pv 3) Zf)) Zk (ZK _)) (Zm (ZcE (ZH Uk Zk (ZH Jw (ZH Jj (pv 1) Zk) Zk)) (ZcH (pv 3) (ZH Jw (ZH Jj (pv 1) Zk) (pv 2)) Vd))) ZS)
   (Zd (Z1 (i:=4) Znz.nd rfl (by first|exact Or.inl rfl|exact Or.inr rfl) (Zgd ZoC (hr.mono (by decide)) rfl (Za (JS (Vo (K:=K)) rfl T.z_list Ue (Za (pv 3) Zf)) Zf)))
   (Zd (ZhP (Z1 (i:=5) Znz.nd rfl (by first|exact Or.inl rfl|exact Or.inr rfl) (J4 (Za (pv 3) Zf))))
   (Zd (Z1 (i:=6) Znz.nd rfl (by first|exact Or.inl rfl|exact Or.inr rfl) (J4 Zf))
   (Zd (Z1 (i:=7) Znz.nd rfl (by first|exact Or.inl rfl|exact Or.inr rfl) Zk)
   (Zd (Ui PassesOwn.never rfl (Ve (K:=K) (ZcI (Zc2 (K:=K)) (pv 0) ZhS (ZbB Zk))) (JH (i:=8) Znz.nd rfl (by first|exact Or.inl rfl|exact Or.inr rfl)) (Zd (Z1 (i:=9) Znz.nd rfl (by first|exact Or.inl rfl|exact Or.inr rfl) (ZW (Zw (K:=K)) (J4 (Za Zk (Za Zk (Za Zk (Za Zk (Za Zk (Za Zk Zf))))))) (ZH Jw (pv 8) Zk) (fun _ _=>rfl)))
   (Zd (Z1 (i:=10) Znz.nd rfl (by first|exact Or.inl rfl|exact Or.inr rfl) (ZH Jw (ZH Jj (pv 8) Zk) (pv 2)))
   (Zd (J7 (ZB (Jo (K:=K) hu) (pv 9) Zk (ZK _)) (Zm (Z1 (i:=10) Znz.nd rfl (by first|exact Or.inl rfl|exact Or.inr rfl) (pv 7))) ZS)
   (Zd (ZcC PassesOwn.never (ZB (Jo (K:=K) hu) (ZW (Zw (K:=K)) (ZW (Zw (K:=K)) (pv 5) (ZbC UM Zk) (fun _ _=>rfl)) (pv 10) (fun _ _=>rfl)) Zk (ZK _)) (Zm (Z1 (i:=10) Znz.nd rfl (by first|exact Or.inl rfl|exact Or.inr rfl) (ZH Jw (ZH Uk (pv 10) Zk) (pv 2)))))
   (Zd (J7 (PW.pt (Zc9 (ZB (Jo (K:=K) hu) (pv 9) Zk (ZK _)) (Zag (ZB Zgo (Zz (ZJ (K:=K)) rfl T.z_len JG (Za (pv 5) Zf)) Zk (ZK _))))) (Zd (ZC (VC Zpy (hr.mono (by decide)) (pv 4)))
   (Zm (ZC (VW PySem.F.plainAttrs_list PySem.F.slot_list_append PySem.F.type_list_append ZI (pv 6) (Za (ZaT PySem.F.plainAttrs_list PySem.F.slot_list_pop PySem.F.type_list_pop Zba (pv 5)) Zf))))) (Zm (J7 (PW.pt (Zc9 (ZB (Jo (K:=K) hu) (pv 9) Zk (ZK _)) (Zag (ZB Zgo (Zz (ZJ (K:=K)) rfl T.z_len JG (Za (pv 6) Zf)) Zk (ZK _))))) (Zd (ZC (VC Zpz (hr.mono (by decide)) (pv 4)))
   (Zm (ZC (VW PySem.F.plainAttrs_list PySem.F.slot_list_append PySem.F.type_list_append ZI (pv 5) (Za (ZaT PySem.F.plainAttrs_list PySem.F.slot_list_pop PySem.F.type_list_pop Zba (pv 6)) Zf))))) (Zm (J7 (PW.pt (Zez (ZB (Jo (K:=K) hu) (pv 9) Zk (ZK _)) (Zc8 (ZB (Jo (K:=K) hu) (pv 9) Zk (ZK _))))) (Zd (ZC (U9 Zp0 (hr.mono (by decide)) (pv 4) (Za (pv 10) Zf)))
   (Zd (ZC (VW PySem.F.plainAttrs_list PySem.F.slot_list_append PySem.F.type_list_append ZI (pv 5) (Za (ZW (Zw (K:=K)) (UW (Jq Zoz (hr.mono (by decide)) rfl UY (Za (JS (Vo (K:=K)) rfl T.z_list Ue (Za (ZW (Zw (K:=K)) (pv 5) (ZbC UM Zk) (fun _ _=>rfl)) Zf)) (Za (pv 10) Zf)))) Zk (fun _ _=>rfl)) Zf)))
   (Zm (Z1 (i:=6) Znz.nd rfl (by first|exact Or.inl rfl|exact Or.inr rfl) (J4 Zf))))) (Zd (Z1 (i:=7) Znz.nd rfl (by first|exact Or.inl rfl|exact Or.inr rfl) (U9 Zp8 (hr.mono (by decide)) (pv 4) (Za (pv 10) Zf)))
   (Zd (ZC (VW PySem.F.plainAttrs_list PySem.F.slot_list_append PySem.F.type_list_append ZI (pv 5) (Za (ZW (Zw (K:=K)) (UW (Jq Zq0 (hr.mono (by decide)) rfl UY (Za (JS (Vo (K:=K)) rfl T.z_list Ue (Za (ZW (Zw (K:=K)) (pv 5) (ZbC UM Zk) (fun _ _=>rfl)) Zf)) (Za (pv 10) Zf)))) Zk (fun _ _=>rfl)) Zf)))
   (Zm (Z1 (i:=6) Znz.nd rfl (by first|exact Or.inl rfl|exact Or.inr rfl) (J4 Zf))))))))))
   (Zm (J7 (PW.pt (Zc9 (ZB (Jo (K:=K) hu) (ZH Jw (ZH Jj (pv 8) Zk) Zk) Zk (ZK _)) (Zag (QI (Uh (ZU ZnI (hr.mono (by decide)) rfl (Za (pv 4) (Za (pv 5) Zf)))))))) (Zm (ZQ Ze5)) ZS))))))))
   (Zm (ZQ (ZU ZnI (hr.mono (by decide)) rfl (Za (pv 4) (Za (pv 5) Zf)))))))))))))),
   (Zn (Γm:=[.S,.P,.U,.U,.U,.U,.U,.U,.U,.U,.U]) (Z7 (i:=1) (Zh4 (Zi (Zi Zu)) (Zb (Zc (i:=0) (m:=.S) rfl (by decide)) (Zb (DE.toA Zj) Zh))) (by decide))
   (Zn (Γm:=[.S,.P,.P,.U,.U,.U,.U,.U,.U,.U,.U]) (Z7 (i:=2) (Ur (DE.toA Zj) (DE.toA (Jx (DE.toA (Zg (i:=1) rfl)) (DE.toA Zj)))) (by decide))
   (Zn (Γm:=[.S,.P,.P,.O,.U,.U,.U,.U,.U,.U,.U]) (Jd (i:=3) (Zkb (Zi (Zi (Zi Zu))) (Zb (Zc (i:=0) (m:=.S) rfl (by decide)) (Zb (DE.toA (Zg (i:=2) rfl)) (Zb (DE.toA Zj) Zh)))) (by decide))
   (Zn (Γm:=[.S,.P,.P,.O,.U,.U,.U,.U,.U,.U,.U]) (JD (ZA (DE.toA (Jn (g:=id) (DE.toA (Zh0 (Zb (Zc (i:=3) (m:=.O) rfl (by decide)) Zh))) (DE.toA Zj))))
   (VJ (i:=3) rfl (Ur (DE.toA Zj) (DE.toA (Jx (DE.toA (Vt (DE.toA (Zg (i:=1) rfl)) (DE.toA Zj))) (DE.toA Zj)))) (DE.toA (Jx (DE.toA (Vt (DE.toA (Zg (i:=1) rfl)) (DE.toA Zj))) (DE.toA (Zg (i:=2) rfl)))))
   ZV)
   (Zn (Γm:=[.S,.P,.P,.O,.O,.U,.U,.U,.U,.U,.U]) (Jd (i:=4) (Zi3 (n := "RingBook") (Zi Zu) (Zb (DE.toA (UH (Zb (Zc (i:=3) (m:=.O) rfl (by decide)) Zh))) Zh)) (by decide))
   (Zn (Γm:=[.S,.P,.P,.P,.O,.O,.U,.U,.U,.U,.U]) (Zix (i:=3) rfl (Jd (i:=5) (Jh (ZG (DE.PF (Zg (i:=3) rfl)) ZZ)) (by decide)))
   (Zn (Γm:=[.S,.P,.P,.P,.O,.O,.O,.U,.U,.U,.U]) (Jd (i:=6) (Jh ZZ) (by decide))
   (Zn (Γm:=[.S,.P,.P,.P,.O,.O,.O,.P,.U,.U,.U]) (Z7 (i:=7) Zj (by decide))
   (Zn (Γm:=[.S,.P,.P,.P,.O,.O,.O,.P,.U,.U,.U]) (Qr (Γl:=[.S,.P,.P,.P,.O,.O,.O,.P,.U,.U,.U]) (Qu (DE.FZ (Zh1 (Zc (i:=0) (m:=.S) rfl (by decide)) Ziz (ZbX (DE.toA Zj))))) rfl (Zhz (i:=8) (by decide))
   (DS.out (Y:=⟨[.S,.P,.P,.P,.O,.O,.O,.P,.P,.P,.P],[.S,.P,.P,.P,.O,.O,.O,.P,.U,.U,.U],[.S,.P,.P,.P,.O,.O,.O,.P,.U,.U,.U],.P⟩) (Y':=⟨[.S,.P,.P,.P,.O,.O,.O,.P,.U,.U,.U],[.S,.P,.P,.P,.O,.O,.O,.P,.U,.U,.U],[.S,.P,.P,.P,.O,.O,.O,.P,.U,.U,.U],.P⟩) (Zn (Γm:=[.S,.P,.P,.P,.O,.O,.O,.P,.P,.P,.U]) (Z7 (i:=9) (DE.grd (Z8 (te:=tC .non) (DE.toA (Jh (ZG (DE.PF Zj) (ZG (DE.PF Zj) (ZG (DE.PF Zj) (ZG (DE.PF Zj) (ZG (DE.PF Zj) (ZG (DE.PF Zj) ZZ)))))))) (DE.toA (Jx (DE.toA (Zg (i:=8) rfl)) (DE.toA Zj))))) (by decide))
   (Zn (Γm:=[.S,.P,.P,.P,.O,.O,.O,.P,.P,.P,.P]) (Z7 (i:=10) (Jx (DE.toA (Vt (DE.toA (Zg (i:=8) rfl)) (DE.toA Zj))) (DE.toA (Zg (i:=2) rfl))) (by decide))
   (Zn (Γm:=[.S,.P,.P,.P,.O,.O,.O,.P,.P,.P,.P]) (JD (ZA (DE.toA (Jn (g:=id) (DE.toA (Zg (i:=9) rfl)) (DE.toA Zj))))
   (Z7 (i:=10) (Zg (i:=7) rfl) (by decide))
   ZV)
   (Zn (Γm:=[.S,.P,.P,.P,.O,.O,.O,.P,.P,.P,.P]) (Zdn (Γ:=[.S,.P,.P,.P,.O,.O,.O,.P,.P,.P,.P]) (ZA (DE.toA (Jn (g:=id) (Z8 (te:=tC .non) (Va (Z8 (te:=tC .non) (Zc (i:=5) (m:=.O) rfl (by decide)) (DE.toA (Qx (DE.toA Zj))))) (DE.toA (Zg (i:=10) rfl))) (DE.toA Zj))))
   (Z7 (i:=10) (Jx (DE.toA (Ur (DE.toA (Zg (i:=10) rfl)) (DE.toA Zj))) (DE.toA (Zg (i:=2) rfl))) (by decide)))
   (Zn (Γm:=[.S,.P,.P,.P,.O,.O,.O,.P,.P,.P,.P]) (JD (Zdm (ZA (DE.toA (Jn (g:=id) (DE.toA (Zg (i:=9) rfl)) (DE.toA Zj)))) (ZA (DE.toA (ZgG (DE.toA (JE (Zb (Zc (i:=5) (m:=.O) rfl (by decide)) Zh))) (DE.toA Zj)))))
   (Zn (Γm:=[.S,.P,.P,.P,.O,.O,.O,.P,.P,.P,.P]) (VM (DM.meth (n := "RingBook") (m := "undo") rfl (Vn (i:=4) rfl Zu Zh)))
   (Zfv (l:=6) rfl (by decide) (DMf.dm (Zdr (i:=5) rfl))))
   (JD (Zdm (ZA (DE.toA (Jn (g:=id) (DE.toA (Zg (i:=9) rfl)) (DE.toA Zj)))) (ZA (DE.toA (ZgG (DE.toA (JE (Zb (Zc (i:=6) (m:=.O) rfl (by decide)) Zh))) (DE.toA Zj)))))
   (Zn (Γm:=[.S,.P,.P,.P,.O,.O,.O,.P,.P,.P,.P]) (VM (DM.meth (n := "RingBook") (m := "redo") rfl (Vn (i:=4) rfl Zu Zh)))
   (Zfv (l:=5) rfl (by decide) (DMf.dm (Zdr (i:=6) rfl))))
   (JD (Zft (ZA (DE.toA (Jn (g:=id) (DE.toA (Zg (i:=9) rfl)) (DE.toA Zj)))) (ZA (DE.toA (Jn (g:=id) (DE.toA (Zg (i:=9) rfl)) (DE.toA Zj)))))
   (Zn (Γm:=[.S,.P,.P,.P,.O,.O,.O,.P,.P,.P,.P]) (VM (DM.meth (n := "RingBook") (m := "back") rfl (Vn (i:=4) rfl (Zi Zu) (Zb (DE.toA (Zg (i:=10) rfl)) Zh))))
   (Zn (Γm:=[.S,.P,.P,.P,.O,.O,.O,.P,.P,.P,.P]) (Uc (i:=5) rfl rfl (DE.PF (DE.grd (Z8 (te:=tC .non) (DE.toA (Qz (Zk2 (Zi (Zi Zu)) (Zb (DE.toA (UH (Zb (Va (Z8 (te:=tC .non) (Zc (i:=5) (m:=.S) rfl (by decide)) (DE.toA (Qx (DE.toA Zj))))) Zh))) (Zb (DE.toA (Zg (i:=10) rfl)) Zh))))) (DE.toA Zj)))))
   (Jd (i:=6) (Jh ZZ) (by decide))))
   (Zn (Γm:=[.S,.P,.P,.P,.O,.O,.O,.P,.P,.P,.P]) (Zdo (l:=7) (DM.meth (n := "RingBook") (m := "sow") rfl (Vn (i:=4) rfl (Zi Zu) (Zb (DE.toA (Zg (i:=10) rfl)) Zh))) (by decide))
   (Zn (Γm:=[.S,.P,.P,.P,.O,.O,.O,.P,.P,.P,.P]) (Uc (i:=5) rfl rfl (DE.PF (DE.grd (Z8 (te:=tC .non) (DE.toA (Qz (Zk2 (Zi (Zi Zu)) (Zb (DE.toA (UH (Zb (Va (Z8 (te:=tC .non) (Zc (i:=5) (m:=.S) rfl (by decide)) (DE.toA (Qx (DE.toA Zj))))) Zh))) (Zb (DE.toA (Zg (i:=10) rfl)) Zh))))) (DE.toA Zj)))))
   (Jd (i:=6) (Jh ZZ) (by decide)))))))
   (JD (Zdm (ZA (DE.toA (Jn (g:=id) (DE.toA (Jx (DE.toA (Vt (DE.toA (Zg (i:=8) rfl)) (DE.toA Zj))) (DE.toA Zj))) (DE.toA Zj)))) (QR (Zg8 (DE.toA (Zh4 (Zi (Zi Zu)) (Zb (Zc (i:=4) (m:=.O) rfl (by decide)) (Zb (Zc (i:=5) (m:=.O) rfl (by decide)) Zh)))))))
   (Je ZgJ)
   ZV)))))) rfl rfl rfl rfl))
   (Je (Zh4 (Zi (Zi Zu)) (Zb (Zc (i:=4) (m:=.O) rfl (by decide)) (Zb (Zc (i:=5) (m:=.O) rfl (by decide)) Zh))))))))))))), ?_⟩
 refine Pm.ref Zpf (g:=fun xs=>_) ?_
 rintro(ns:List Int) (hn:ns.length<=63)
 simp only[Zpf]
 walk_at "pd"
 rw[Zou (by omega)]
 walk_at "pd"
 generalize hh:ns.getD 0 0=h
 rw[Znp ⟨by omega,by omega,by omega⟩]
 have hB:=QA ns (pits:=2+h%3) (way:=0) (by omega) (by omega)
 have hl:(JJ ns (2+h%3) 0).length=(2+h%3).toNat:=by have:=JV ns (pits:=2+h%3) (way:=0) (by omega);omega
 generalize JJ ns (2+h%3) 0=b at *
 generalize hpe:2+h%3=pits at *
 have hp0:2<=pits:=by omega
 have hp1:pits<=4:=by omega
 walk_at "pd"
 generalize hT:(fun ρ:List PV=>RS.seq (Rr.thenS (Rr.bind (Rr.bind (ZeG [gv 3 ρ]) _) _) _) _)=TAIL
 have fin:∀b:List Int,Gb pits.toNat b->(TAIL [.lst (ns.map PV.int),.int h,.int pits,.lst (b.map PV.int),.non,.non,.non,.non,.non,.non,.non]).out=.ok (.bl true):=by
  intro b g
  have hbh:=g.bd.hi
  subst hT
  walk_at "pd"
  rw[ZoA (Vp.mpr g.bd) (by omega)]
  walk_at "pd"
  rw[Zdk,Qo]
  walk_at "pd"
  generalize hw:ZaA _ _ _=W
  have h24:(ns.take 24).length<=24:=by rw[Zrd];omega
  obtain⟨ρ',rfl,k,gs,l,v1,v2,v3,rfl,hI⟩:=JY hw (fun i ρ=>∃k gs l v1 v2 v3,ρ=[.lst (ns.map PV.int),.int h,.int pits,fzI b,bkP none k,.lst (k.bs.map fzI),.lst (gs.map fzI),.int l,v1,v2,v3]/\Bi pits.toNat i k gs l) ⟨⟨[b],[],[]⟩,[],0,_,_,_,rfl,by simp,rfl,rfl,fun x hx=>by rw[Zrg.mp hx];exact g,by simp,by simp,by simp,by omega,by omega⟩ (by
   rintro i x ρ hx ⟨k,gs,l,v1,v2,v3,rfl,hI⟩
   have hi:i<(ns.take 24).length:=by
    have:=(ZqI.mp hx).1
    simpa using this
   rw[Zri,ZqH hi] at hx
   cases hx
   generalize (ns.take 24)[i]=c
   walk_at "pd"
   rw[show PV.lst [PV.int 0,PV.int 0,PV.int 1,PV.int 2,PV.int 3,PV.int 4]=.lst (([0,0,1,2,3,4]:List Int).map PV.int) from rfl,ZM (by omega) (by show c%6<6;omega)]
   generalize ([0,0,1,2,3,4]:List Int).getD (c%6).toNat 0=wv
   walk_at "pd"
   have hG:=hI.last
   have hLn:((ZF k).length:Int)=pits:=by have:=hG.ln;omega
   have hbi:=hI.bi
   have hgi:=hI.gi
   have hul:=hI.ul
   have hdl:=hI.dl
   have hb0:=hI.b0
   generalize hJ:(fun ρ:List PV=>∃k gs l v1 v2 v3,ρ=[.lst (ns.map PV.int),.int h,.int pits,fzI b,bkP none k,.lst (k.bs.map fzI),.lst (gs.map fzI),.int l,v1,v2,v3]/\Bi pits.toNat (i+1) k gs l)=J
   generalize hT1:(fun ρ:List PV=>RS.seq (Vr _ _ ρ) _)=T1
   have go:∀p0:Int,0<=p0->p0<pits->(T1 [.lst (ns.map PV.int),.int h,.int pits,fzI b,bkP none k,.lst (k.bs.map fzI),.lst (gs.map fzI),.int l,.int c,.int wv,.int p0]).good J:=by
    intro p0 q0 q1
    subst hT1
    dsimp only
    generalize hT2:(fun ρ:List PV=>RS.seq (Rr.thenS (Rr.bind (Rr.bind (ZdE id (gv 9 ρ) (PV.int 3)) asB) _) _) _)=T2
    generalize hW:Vr _ _ _=W
    obtain⟨N,n1,n2,n3,n4⟩:=Zfn (c:=p0) hG.bd hG.ps
    rw[hLn,Zrx q0 q1] at n3 n4
    have bd:∀m:Nat,0<=(p0+m)%pits/\(p0+m)%pits<pits:=fun m=>⟨Zru _ (by omega),Zrr _ (by omega)⟩
    obtain⟨ρ',rfl,rfl⟩:=Zb4 hW N (fun m ρ=>ρ=[.lst (ns.map PV.int),.int h,.int pits,fzI b,bkP none k,.lst (k.bs.map fzI),.lst (gs.map fzI),.int l,.int c,.int wv,.int ((p0+m)%pits)]) (by rw[ZrT,Int.add_zero,Zrx q0 q1]) (by
     rintro m ρ hm rfl
     obtain⟨d0,d1⟩:=bd m
     constructor
     ·walk_at "pd"
      rw[UZ (d:=[]) hb0]
      walk_at "pd"
      rw[Jt,show k.bs.getD (k.bs.length-1) []=ZF k from rfl,ZM d0 (by omega),n3 m hm]
      walk_at "pd"
     ·walk_at "pd"
      refine Vq ?_
      rw[Int.emod_add_emod]
      congr 4
      simp only[List.cons.injEq,PV.int.injEq,and_true,true_and]
      congr 1
      omega) (by
     rintro ρ rfl
     obtain⟨d0,d1⟩:=bd N
     walk_at "pd"
     rw[UZ (d:=[]) hb0]
     walk_at "pd"
     rw[Jt,show k.bs.getD (k.bs.length-1) []=ZF k from rfl,ZM d0 (by omega)]
     walk_at "pd"
     rw[decide_eq_false n4])
    obtain⟨d0,d1⟩:=bd N
    have st:J3 (ZF k) ((p0+N)%pits):=⟨hG.bd,d0,by omega,by have:=hG.bd.nn' ((p0+N)%pits).toNat;omega⟩
    generalize (p0+N)%pits=p at *
    subst hT2
    walk_at "pd"
    generalize hT3:(fun ρ:List PV=>Rr.thenS (Rr.bind (Rr.bind (Rr.bind (Rr.bind (Zkz (gv 8 ρ) (PV.int 12)) _) _) asB) _) _)=T3
    have bin:ZgT k p:=⟨hb0,st,by omega,by omega⟩
    have en:∀k' gs' l',Bi pits.toNat (i+1) k' gs' l'->(T3 [.lst (ns.map PV.int),.int h,.int pits,fzI b,bkP none k',.lst (k'.bs.map fzI),.lst (gs'.map fzI),.int l',.int c,.int wv,.int p]).good J:=by
     intro k' gs' l' hI'
     subst hT3
     subst hJ
     walk_at "pd"
     by_cases e:c/12%3=0
     ·rw[decide_eq_true e]
      walk_at "pd"
      rw[Zm9 (hI'.to (by omega))]
      walk_at "pd"
      exact Vq ⟨k',gs',l',_,_,_,rfl,hI'⟩
     ·rw[decide_eq_false e]
      walk_at "pd"
      exact Vq ⟨k',gs',l',_,_,_,rfl,hI'⟩
    have cc:∀(x:Int) (q:Bool),(if decide (wv=x)=true then (Rr.ok q:Rr Bool) else Rr.ok false)=Rr.ok (decide (wv=x)&&q):=fun x q=>by
     by_cases e:wv=x<;>simp[e]
    have c2:(if decide (wv=1)=true then (Rr.ok true:Rr Bool) else Rr.ok (decide (wv=2)))=Rr.ok (decide (wv=1) || decide (wv=2)):=by
     by_cases e:wv=1<;>simp[e]
    have hx:=hG.bd.hi
    rw[Vf,Vf,ZqN,ZqN]
    walk_at "pd"
    rw[cc,cc,c2]
    walk_at "pd"
    cases h3:(decide (wv=3)&&decide ((1:Int)<(k.bs.length:Int))) with
    |true =>
     rw[Bool.and_eq_true,decide_eq_true_iff,decide_eq_true_iff] at h3
     walk_at "pd"
     rw[Zlq]
     walk_at "pd"
     rw[Uu hb0 (by omega) (by omega) (by omega)]
     walk_at "pd"
     rw[Zhf Jk [] hb0]
     walk_at "pd"
     rw[JI (by rw[ZqN];omega)]
     walk_at "pd"
     have:=en (bkU k) (gs++[ZF k]) l (hI.undo (by omega))
     rw[Zr0] at this
     exact this
    |false =>
     walk_at "pd"
     cases h4:(decide (wv=4)&&decide ((0:Int)<(gs.length:Int))) with
     |true =>
      rw[Bool.and_eq_true,decide_eq_true_iff,decide_eq_true_iff] at h4
      walk_at "pd"
      rw[Zls]
      walk_at "pd"
      rw[Uv (by omega) (by omega) (by omega) (by omega)]
      walk_at "pd"
      rw[Zhf Jk [] (by omega)]
      walk_at "pd"
      rw[JI (by rw[ZqN];omega)]
      walk_at "pd"
      have:=en (bkR k) gs.dropLast l (hI.redo (by omega))
      rw[show (bkR k).bs=k.bs++[gs.getD (gs.length-1) []] by rw[<- Zed hI.ug (by omega)];rfl,Zr0] at this
      exact this
     |false =>
      walk_at "pd"
      cases h5:(decide (wv=1) || decide (wv=2)) with
      |true =>
       walk_at "pd"
       rw[Zlt]
       walk_at "pd"
       rw[Uw bin]
       walk_at "pd"
       rw[UZ (d:=[]) hb0]
       walk_at "pd"
       rw[Jt,show k.bs.getD (k.bs.length-1) []=ZF k from rfl]
       walk_at "pd"
       rw[Vb st]
       walk_at "pd"
       rw[UF,Zdi]
       walk_at "pd"
       rw[Qo]
       walk_at "pd"
       rw[JI (by rw[ZqN];omega)]
       walk_at "pd"
       have:=en (bkT k p) [] l (hI.back st)
       rw[show (bkT k p).bs=k.bs++[(tbS (ZF k,p)).1] from rfl,Zr0] at this
       exact this
      |false =>
       walk_at "pd"
       rw[Zlr]
       walk_at "pd"
       rw[Q4 bin]
       walk_at "pd"
       rw[UZ (d:=[]) hb0]
       walk_at "pd"
       rw[Jt,show k.bs.getD (k.bs.length-1) []=ZF k from rfl]
       walk_at "pd"
       rw[Zbs st]
       walk_at "pd"
       rw[UF,Zdi]
       walk_at "pd"
       rw[Qo]
       walk_at "pd"
       rw[JI (by rw[ZqN];omega)]
       walk_at "pd"
       have:=en (bkS k p) [] (Za9 (ZF k,p)).2 (hI.sow st)
       rw[show (bkS k p).bs=k.bs++[(Za9 (ZF k,p)).1] from rfl,Zr0] at this
       exact this
   by_cases e:wv=2
   ·rw[decide_eq_true e]
    walk_at "pd"
    exact go l hI.l0 (by have:=hI.l1;omega)
   ·rw[decide_eq_false e]
    walk_at "pd"
    exact go (c/6%pits) (Zru _ (by omega)) (Zrr _ (by omega)))
  walk_at "pd"
  rw[Zm9 (hI.to (by rw[ZqN];omega))]
  walk_at "pd"
 by_cases hz:b.sum=0
 ·rw[decide_eq_true hz]
  have m0:=Zru (h/3) (show pits≠0 by omega)
  have m1:=Zrr (h/3) (show 0<pits by omega)
  walk_at "pd"
  have:=Zes (j:=(h/3%pits).toNat) (v:=1+h/9%4) hB hz (by omega) (by omega) (by omega)
  rw[hl] at this
  exact fin _ this
 ·rw[decide_eq_false hz]
  walk_at "pd"
  exact fin b ⟨hB,hl,by have:=sum_nn hB.nn;omega⟩
noncomputable def Zel (K:W.Frag):Sp:=spF K 1 .P W0 Zpf.fn
theorem ZjA {l:PySem.W.OpenLaw} (T:Txt K mg) {fa:Addr} (hmg:mg "law"=some (.ref fa)):∃fd:FuncData,(∀(s:Shared) (u:Value),BindsTo s fd ⟨[u],[]⟩ [("script",u)]) /\
  ∀base:Heap,K.In base->base.Ns mainGlobals mg->J0 l.prog w K mg base CX0 9 fa fd ["script"] (Zel K):=by
 obtain⟨f,fd,F,hm⟩:=T.ZqE
 rw[hmg] at hm
 cases hm
 refine⟨fd,fun s u=>?_,fun base _ _=>ZqC T F⟩
 obtain⟨oc,od,kV,doc,pm,an,cdv,ct,osl,rfl,lk,hcd⟩:=F.ex
 exact .of_eq (ZqD kV doc pm an cdv ct [u] rfl)
theorem Zfb {H:Hp}{a:Addr}{ns:List Int} (hl:ns.length<=63) (hO:Zkq H) (hS:SqL K H a (ns.map V.int)):Zel K [.ref a] H (fun v _=>v=.bl true) fun _ _ _=>False:=
 ZdJ (Pm.fn_eq Zpf ns hl fun _ _=>rfl) hS
end
theorem ZiV {K:W.Frag}{h:Heap}{mg:Str->Option Value}{Zpn ZnP Zoo ZoP Zn3 ZmU Zon ZoQ ZnO Zop Zni ZpG Zo8 Znv ZnA Zom Zpm Zqu Zq9:Addr} (X:K.In h) (G:h.Ns mainGlobals mg)
  {od__law_at an__law_at:Option Addr}{sl__law_at:Array (Option Value)}{oc__law_at kV__law_at dc__law_at Znd cd__law_at ct__law_at:Value}
  {od__law_folded an__law_folded:Option Addr}{sl__law_folded:Array (Option Value)}{oc__law_folded kV__law_folded dc__law_folded Zm8 cd__law_folded ct__law_folded:Value}
  {od__law_board an__law_board:Option Addr}{sl__law_board:Array (Option Value)}{oc__law_board kV__law_board dc__law_board ZmE cd__law_board ct__law_board:Value}
  {od_is_whole an_is_whole:Option Addr}{sl_is_whole:Array (Option Value)}{oc_is_whole kV_is_whole dc_is_whole ZmZ cd_is_whole ct_is_whole:Value}
  {od_is_whole_from an_is_whole_from:Option Addr}{sl_is_whole_from:Array (Option Value)}{oc_is_whole_from kV_is_whole_from dc_is_whole_from Zmx cd_is_whole_from ct_is_whole_from:Value}
  {od_is_list_from_nought an_is_list_from_nought:Option Addr}{sl_is_list_from_nought:Array (Option Value)}{oc_is_list_from_nought kV_is_list_from_nought dc_is_list_from_nought Zmi cd_is_list_from_nought ct_is_list_from_nought:Value}
  {od_most_seeds an_most_seeds:Option Addr}{sl_most_seeds:Array (Option Value)}{oc_most_seeds kV_most_seeds dc_most_seeds ZmO cd_most_seeds ct_most_seeds:Value}
  {od_is_board an_is_board:Option Addr}{sl_is_board:Array (Option Value)}{oc_is_board kV_is_board dc_is_board ZmG cd_is_board ct_is_board:Value}
  {od_check_board an_check_board:Option Addr}{sl_check_board:Array (Option Value)}{oc_check_board kV_check_board dc_check_board Zm7 cd_check_board ct_check_board:Value}
  {od__law_again an__law_again:Option Addr}{sl__law_again:Array (Option Value)}{oc__law_again kV__law_again dc__law_again ZmF cd__law_again ct__law_again:Value}
  {od__law_told_right an__law_told_right:Option Addr}{sl__law_told_right:Array (Option Value)}{oc__law_told_right kV__law_told_right dc__law_told_right Zmu cd__law_told_right ct__law_told_right:Value}
  {od_is_pit an_is_pit:Option Addr}{sl_is_pit:Array (Option Value)}{oc_is_pit kV_is_pit dc_is_pit ZmX cd_is_pit ct_is_pit:Value}
  {od_check_pit an_check_pit:Option Addr}{sl_check_pit:Array (Option Value)}{oc_check_pit kV_check_pit dc_check_pit ZmM cd_check_pit ct_check_pit:Value}
  {od_check_standing an_check_standing:Option Addr}{sl_check_standing:Array (Option Value)}{oc_check_standing kV_check_standing dc_check_standing Zms cd_check_standing ct_check_standing:Value}
  {od_take_back_at an_take_back_at:Option Addr}{sl_take_back_at:Array (Option Value)}{oc_take_back_at kV_take_back_at dc_take_back_at Zmq cd_take_back_at ct_take_back_at:Value}
  {od_taken_back an_taken_back:Option Addr}{sl_taken_back:Array (Option Value)}{oc_taken_back kV_taken_back dc_taken_back Zm5 cd_taken_back ct_taken_back:Value}
  {od_sow_pit an_sow_pit:Option Addr}{sl_sow_pit:Array (Option Value)}{oc_sow_pit kV_sow_pit dc_sow_pit ZmP cd_sow_pit ct_sow_pit:Value}
  {od_sown an_sown:Option Addr}{sl_sown:Array (Option Value)}{oc_sown kV_sown dc_sown ZnJ cd_sown ct_sown:Value}
  {od_law an_law:Option Addr}{sl_law:Array (Option Value)}{oc_law kV_law dc_law Zpf cd_law ct_law:Value}
  (Zpx:PySem.W.nsIn K mainGlobals "_law_at"=some (some (.ref Zpn))) (Zph:K.lookup Zpn=some ⟨oc__law_at,od__law_at,.func (PySem.W.fnOf "_law_at" "_law_at" (Zs Znm) (Zq Znm) (Ze Znm) .none kV__law_at dc__law_at Znd an__law_at cd__law_at ct__law_at),sl__law_at⟩) (Zou:PySem.W.codeIn K cd__law_at "_law_at"=true) (Zpj:PySem.W.keepIn K (.ref Zpn)=true)
  (ZnR:PySem.W.nsIn K mainGlobals "_law_folded"=some (some (.ref ZnP))) (ZnL:K.lookup ZnP=some ⟨oc__law_folded,od__law_folded,.func (PySem.W.fnOf "_law_folded" "_law_folded" (Zs ZmD) (Zq ZmD) (Ze ZmD) .none kV__law_folded dc__law_folded Zm8 an__law_folded cd__law_folded ct__law_folded),sl__law_folded⟩) (Zne:PySem.W.codeIn K cd__law_folded "_law_folded"=true) (ZnN:PySem.W.keepIn K (.ref ZnP)=true)
  (Zox:PySem.W.nsIn K mainGlobals "_law_board"=some (some (.ref Zoo))) (Zog:K.lookup Zoo=some ⟨oc__law_board,od__law_board,.func (PySem.W.fnOf "_law_board" "_law_board" (Zs ZmK) (Zq ZmK) (Ze ZmK) .none kV__law_board dc__law_board ZmE an__law_board cd__law_board ct__law_board),sl__law_board⟩) (Znp:PySem.W.codeIn K cd__law_board "_law_board"=true) (Zok:PySem.W.keepIn K (.ref Zoo)=true)
  (ZoS:PySem.W.nsIn K mainGlobals "is_whole"=some (some (.ref ZoP))) (ZoL:K.lookup ZoP=some ⟨oc_is_whole,od_is_whole,.func (PySem.W.fnOf "is_whole" "is_whole" (Zs Znb) (Zq Znb) (Ze Znb) .none kV_is_whole dc_is_whole ZmZ an_is_whole cd_is_whole ct_is_whole),sl_is_whole⟩) (ZnE:PySem.W.codeIn K cd_is_whole "is_whole"=true) (ZoN:PySem.W.keepIn K (.ref ZoP)=true)
  (Zn5:PySem.W.nsIn K mainGlobals "is_whole_from"=some (some (.ref Zn3))) (Zn1:K.lookup Zn3=some ⟨oc_is_whole_from,od_is_whole_from,.func (PySem.W.fnOf "is_whole_from" "is_whole_from" (Zs Zm0) (Zq Zm0) (Ze Zm0) .none kV_is_whole_from dc_is_whole_from Zmx an_is_whole_from cd_is_whole_from ct_is_whole_from),sl_is_whole_from⟩) (ZmH:PySem.W.codeIn K cd_is_whole_from "is_whole_from"=true) (Zn2:PySem.W.keepIn K (.ref Zn3)=true)
  (ZmV:PySem.W.nsIn K mainGlobals "is_list_from_nought"=some (some (.ref ZmU))) (ZmS:K.lookup ZmU=some ⟨oc_is_list_from_nought,od_is_list_from_nought,.func (PySem.W.fnOf "is_list_from_nought" "is_list_from_nought" (Zs Zmj) (Zq Zmj) (Ze Zmj) .none kV_is_list_from_nought dc_is_list_from_nought Zmi an_is_list_from_nought cd_is_list_from_nought ct_is_list_from_nought),sl_is_list_from_nought⟩) (Zm1:PySem.W.codeIn K cd_is_list_from_nought "is_list_from_nought"=true) (ZmT:PySem.W.keepIn K (.ref ZmU)=true)
  (Zow:PySem.W.nsIn K mainGlobals "most_seeds"=some (some (.ref Zon))) (Zof:K.lookup Zon=some ⟨oc_most_seeds,od_most_seeds,.func (PySem.W.fnOf "most_seeds" "most_seeds" (Zs ZmJ) (Zq ZmJ) (Ze ZmJ) .none kV_most_seeds dc_most_seeds ZmO an_most_seeds cd_most_seeds ct_most_seeds),sl_most_seeds⟩) (Zno:PySem.W.codeIn K cd_most_seeds "most_seeds"=true) (Zoj:PySem.W.keepIn K (.ref Zon)=true)
  (ZoT:PySem.W.nsIn K mainGlobals "is_board"=some (some (.ref ZoQ))) (ZoM:K.lookup ZoQ=some ⟨oc_is_board,od_is_board,.func (PySem.W.fnOf "is_board" "is_board" (Zs Znc) (Zq Znc) (Ze Znc) .none kV_is_board dc_is_board ZmG an_is_board cd_is_board ct_is_board),sl_is_board⟩) (ZnF:PySem.W.codeIn K cd_is_board "is_board"=true) (ZoO:PySem.W.keepIn K (.ref ZoQ)=true)
  (ZnQ:PySem.W.nsIn K mainGlobals "check_board"=some (some (.ref ZnO))) (ZnK:K.lookup ZnO=some ⟨oc_check_board,od_check_board,.func (PySem.W.fnOf "check_board" "check_board" (Zs ZmC) (Zq ZmC) (Ze ZmC) .none kV_check_board dc_check_board Zm7 an_check_board cd_check_board ct_check_board),sl_check_board⟩) (ZmW:PySem.W.codeIn K cd_check_board "check_board"=true) (ZnM:PySem.W.keepIn K (.ref ZnO)=true)
  (Zoy:PySem.W.nsIn K mainGlobals "_law_again"=some (some (.ref Zop))) (Zoh:K.lookup Zop=some ⟨oc__law_again,od__law_again,.func (PySem.W.fnOf "_law_again" "_law_again" (Zs ZmL) (Zq ZmL) (Ze ZmL) .none kV__law_again dc__law_again ZmF an__law_again cd__law_again ct__law_again),sl__law_again⟩) (Znq:PySem.W.codeIn K cd__law_again "_law_again"=true) (Zol:PySem.W.keepIn K (.ref Zop)=true)
  (Znj:PySem.W.nsIn K mainGlobals "_law_told_right"=some (some (.ref Zni))) (Zng:K.lookup Zni=some ⟨oc__law_told_right,od__law_told_right,.func (PySem.W.fnOf "_law_told_right" "_law_told_right" (Zs Zmr) (Zq Zmr) (Ze Zmr) .none kV__law_told_right dc__law_told_right Zmu an__law_told_right cd__law_told_right ct__law_told_right),sl__law_told_right⟩) (Zm9:PySem.W.codeIn K cd__law_told_right "_law_told_right"=true) (Znh:PySem.W.keepIn K (.ref Zni)=true)
  (ZpL:PySem.W.nsIn K mainGlobals "is_pit"=some (some (.ref ZpG))) (ZpB:K.lookup ZpG=some ⟨oc_is_pit,od_is_pit,.func (PySem.W.fnOf "is_pit" "is_pit" (Zs Zn7) (Zq Zn7) (Ze Zn7) .none kV_is_pit dc_is_pit ZmX an_is_pit cd_is_pit ct_is_pit),sl_is_pit⟩) (ZoG:PySem.W.codeIn K cd_is_pit "is_pit"=true) (ZpC:PySem.W.keepIn K (.ref ZpG)=true)
  (ZoB:PySem.W.nsIn K mainGlobals "check_pit"=some (some (.ref Zo8))) (Zo6:K.lookup Zo8=some ⟨oc_check_pit,od_check_pit,.func (PySem.W.fnOf "check_pit" "check_pit" (Zs ZmR) (Zq ZmR) (Ze ZmR) .none kV_check_pit dc_check_pit ZmM an_check_pit cd_check_pit ct_check_pit),sl_check_pit⟩) (Zn4:PySem.W.codeIn K cd_check_pit "check_pit"=true) (Zo7:PySem.W.keepIn K (.ref Zo8)=true)
  (Znw:PySem.W.nsIn K mainGlobals "check_standing"=some (some (.ref Znv))) (Znt:K.lookup Znv=some ⟨oc_check_standing,od_check_standing,.func (PySem.W.fnOf "check_standing" "check_standing" (Zs Zmw) (Zq Zmw) (Ze Zmw) .none kV_check_standing dc_check_standing Zms an_check_standing cd_check_standing ct_check_standing),sl_check_standing⟩) (ZmB:PySem.W.codeIn K cd_check_standing "check_standing"=true) (Znu:PySem.W.keepIn K (.ref Znv)=true)
  (ZnB:PySem.W.nsIn K mainGlobals "take_back_at"=some (some (.ref ZnA))) (Zn8:K.lookup ZnA=some ⟨oc_take_back_at,od_take_back_at,.func (PySem.W.fnOf "take_back_at" "take_back_at" (Zs Zm6) (Zq Zm6) (Ze Zm6) .none kV_take_back_at dc_take_back_at Zmq an_take_back_at cd_take_back_at ct_take_back_at),sl_take_back_at⟩) (ZmY:PySem.W.codeIn K cd_take_back_at "take_back_at"=true) (Zn9:PySem.W.keepIn K (.ref ZnA)=true)
  (Zov:PySem.W.nsIn K mainGlobals "taken_back"=some (some (.ref Zom))) (Zoe:K.lookup Zom=some ⟨oc_taken_back,od_taken_back,.func (PySem.W.fnOf "taken_back" "taken_back" (Zs ZmI) (Zq ZmI) (Ze ZmI) .none kV_taken_back dc_taken_back Zm5 an_taken_back cd_taken_back ct_taken_back),sl_taken_back⟩) (Znn:PySem.W.codeIn K cd_taken_back "taken_back"=true) (Zoi:PySem.W.keepIn K (.ref Zom)=true)
  (Zpw:PySem.W.nsIn K mainGlobals "sow_pit"=some (some (.ref Zpm))) (Zpg:K.lookup Zpm=some ⟨oc_sow_pit,od_sow_pit,.func (PySem.W.fnOf "sow_pit" "sow_pit" (Zs Znl) (Zq Znl) (Ze Znl) .none kV_sow_pit dc_sow_pit ZmP an_sow_pit cd_sow_pit ct_sow_pit),sl_sow_pit⟩) (Zot:PySem.W.codeIn K cd_sow_pit "sow_pit"=true) (Zpi:PySem.W.keepIn K (.ref Zpm)=true)
  (Zqz:PySem.W.nsIn K mainGlobals "sown"=some (some (.ref Zqu))) (Zqq:K.lookup Zqu=some ⟨oc_sown,od_sown,.func (PySem.W.fnOf "sown" "sown" (Zs ZoU) (Zq ZoU) (Ze ZoU) .none kV_sown dc_sown ZnJ an_sown cd_sown ct_sown),sl_sown⟩) (ZpT:PySem.W.codeIn K cd_sown "sown"=true) (Zqr:PySem.W.keepIn K (.ref Zqu)=true)
  (ZqB:PySem.W.nsIn K mainGlobals "law"=some (some (.ref Zq9))) (Zq7:K.lookup Zq9=some ⟨oc_law,od_law,.func (PySem.W.fnOf "law" "law" (Zs ZpO) (Zq ZpO) (Ze ZpO) .none kV_law dc_law Zpf an_law cd_law ct_law),sl_law⟩) (ZqA:PySem.W.codeIn K cd_law "law"=true) (Zq8:PySem.W.keepIn K (.ref Zq9)=true)
  {t_FEWEST_PITS:Tok} (a_FEWEST_PITS:PySem.W.nsIn K mainGlobals "FEWEST_PITS"=some (some (.int 2 t_FEWEST_PITS)))
  {t_MOST_PITS:Tok} (a_MOST_PITS:PySem.W.nsIn K mainGlobals "MOST_PITS"=some (some (.int 24 t_MOST_PITS)))
  (z_all:PySem.W.nsIn K mainGlobals "all"=some none)
  (z_bool:PySem.W.nsIn K mainGlobals "bool"=some none)
  (z_enumerate:PySem.W.nsIn K mainGlobals "enumerate"=some none)
  (z_int:PySem.W.nsIn K mainGlobals "int"=some none)
  (z_isinstance:PySem.W.nsIn K mainGlobals "isinstance"=some none)
  (z_len:PySem.W.nsIn K mainGlobals "len"=some none)
  (z_list:PySem.W.nsIn K mainGlobals "list"=some none)
  (z_min:PySem.W.nsIn K mainGlobals "min"=some none)
  (z_range:PySem.W.nsIn K mainGlobals "range"=some none)
  (z_sorted:PySem.W.nsIn K mainGlobals "sorted"=some none)
  (z_sum:PySem.W.nsIn K mainGlobals "sum"=some none)
  (z_tuple:PySem.W.nsIn K mainGlobals "tuple"=some none)
  (x_tab:Zl3 K XN XS=true) (x_exc:ZhB K XR=true)
  {C_RingBook___init__ fm_RingBook___init__:Addr}{odm_RingBook___init__ anm_RingBook___init__:Option Addr}{slm_RingBook___init__:Array (Option Value)}{ocm_RingBook___init__ kVm_RingBook___init__ dcm_RingBook___init__ pmm_RingBook___init__ cdm_RingBook___init__ ctm_RingBook___init__:Value}
  (am_RingBook___init__:PySem.W.nsIn K mainGlobals "RingBook"=some (some (.ref C_RingBook___init__))) (fm1_RingBook___init__:PySem.W.findIn K (.ref C_RingBook___init__) "__init__"=some (some (.ref fm_RingBook___init__))) (tm_RingBook___init__:PySem.W.typeIn K (.ref fm_RingBook___init__)=some (.type "function")) (lm_RingBook___init__:K.lookup fm_RingBook___init__=some ⟨ocm_RingBook___init__,odm_RingBook___init__,.func (PySem.W.fnOf "__init__" "RingBook.__init__" (Zs Zmh) (Zq Zmh) (Ze Zmh) .none kVm_RingBook___init__ dcm_RingBook___init__ pmm_RingBook___init__ anm_RingBook___init__ cdm_RingBook___init__ ctm_RingBook___init__),slm_RingBook___init__⟩) (cm_RingBook___init__:PySem.W.codeIn K cdm_RingBook___init__ "RingBook.__init__"=true) (km_RingBook___init__:PySem.W.keepIn K (.ref fm_RingBook___init__)=true)
  {C_RingBook_came_again fm_RingBook_came_again:Addr}{odm_RingBook_came_again anm_RingBook_came_again:Option Addr}{slm_RingBook_came_again:Array (Option Value)}{ocm_RingBook_came_again kVm_RingBook_came_again dcm_RingBook_came_again pmm_RingBook_came_again cdm_RingBook_came_again ctm_RingBook_came_again:Value}
  (am_RingBook_came_again:PySem.W.nsIn K mainGlobals "RingBook"=some (some (.ref C_RingBook_came_again))) (fm1_RingBook_came_again:PySem.W.findIn K (.ref C_RingBook_came_again) "came_again"=some (some (.ref fm_RingBook_came_again))) (tm_RingBook_came_again:PySem.W.typeIn K (.ref fm_RingBook_came_again)=some (.type "function")) (lm_RingBook_came_again:K.lookup fm_RingBook_came_again=some ⟨ocm_RingBook_came_again,odm_RingBook_came_again,.func (PySem.W.fnOf "came_again" "RingBook.came_again" (Zs Zmg) (Zq Zmg) (Ze Zmg) .none kVm_RingBook_came_again dcm_RingBook_came_again pmm_RingBook_came_again anm_RingBook_came_again cdm_RingBook_came_again ctm_RingBook_came_again),slm_RingBook_came_again⟩) (cm_RingBook_came_again:PySem.W.codeIn K cdm_RingBook_came_again "RingBook.came_again"=true) (km_RingBook_came_again:PySem.W.keepIn K (.ref fm_RingBook_came_again)=true)
  {C_RingBook_undo fm_RingBook_undo:Addr}{odm_RingBook_undo anm_RingBook_undo:Option Addr}{slm_RingBook_undo:Array (Option Value)}{ocm_RingBook_undo kVm_RingBook_undo dcm_RingBook_undo pmm_RingBook_undo cdm_RingBook_undo ctm_RingBook_undo:Value}
  (am_RingBook_undo:PySem.W.nsIn K mainGlobals "RingBook"=some (some (.ref C_RingBook_undo))) (fm1_RingBook_undo:PySem.W.findIn K (.ref C_RingBook_undo) "undo"=some (some (.ref fm_RingBook_undo))) (tm_RingBook_undo:PySem.W.typeIn K (.ref fm_RingBook_undo)=some (.type "function")) (lm_RingBook_undo:K.lookup fm_RingBook_undo=some ⟨ocm_RingBook_undo,odm_RingBook_undo,.func (PySem.W.fnOf "undo" "RingBook.undo" (Zs Zmn) (Zq Zmn) (Ze Zmn) .none kVm_RingBook_undo dcm_RingBook_undo pmm_RingBook_undo anm_RingBook_undo cdm_RingBook_undo ctm_RingBook_undo),slm_RingBook_undo⟩) (cm_RingBook_undo:PySem.W.codeIn K cdm_RingBook_undo "RingBook.undo"=true) (km_RingBook_undo:PySem.W.keepIn K (.ref fm_RingBook_undo)=true)
  {C_RingBook_redo fm_RingBook_redo:Addr}{odm_RingBook_redo anm_RingBook_redo:Option Addr}{slm_RingBook_redo:Array (Option Value)}{ocm_RingBook_redo kVm_RingBook_redo dcm_RingBook_redo pmm_RingBook_redo cdm_RingBook_redo ctm_RingBook_redo:Value}
  (am_RingBook_redo:PySem.W.nsIn K mainGlobals "RingBook"=some (some (.ref C_RingBook_redo))) (fm1_RingBook_redo:PySem.W.findIn K (.ref C_RingBook_redo) "redo"=some (some (.ref fm_RingBook_redo))) (tm_RingBook_redo:PySem.W.typeIn K (.ref fm_RingBook_redo)=some (.type "function")) (lm_RingBook_redo:K.lookup fm_RingBook_redo=some ⟨ocm_RingBook_redo,odm_RingBook_redo,.func (PySem.W.fnOf "redo" "RingBook.redo" (Zs Zmo) (Zq Zmo) (Ze Zmo) .none kVm_RingBook_redo dcm_RingBook_redo pmm_RingBook_redo anm_RingBook_redo cdm_RingBook_redo ctm_RingBook_redo),slm_RingBook_redo⟩) (cm_RingBook_redo:PySem.W.codeIn K cdm_RingBook_redo "RingBook.redo"=true) (km_RingBook_redo:PySem.W.keepIn K (.ref fm_RingBook_redo)=true)
  {C_RingBook_enter fm_RingBook_enter:Addr}{odm_RingBook_enter anm_RingBook_enter:Option Addr}{slm_RingBook_enter:Array (Option Value)}{ocm_RingBook_enter kVm_RingBook_enter dcm_RingBook_enter pmm_RingBook_enter cdm_RingBook_enter ctm_RingBook_enter:Value}
  (am_RingBook_enter:PySem.W.nsIn K mainGlobals "RingBook"=some (some (.ref C_RingBook_enter))) (fm1_RingBook_enter:PySem.W.findIn K (.ref C_RingBook_enter) "enter"=some (some (.ref fm_RingBook_enter))) (tm_RingBook_enter:PySem.W.typeIn K (.ref fm_RingBook_enter)=some (.type "function")) (lm_RingBook_enter:K.lookup fm_RingBook_enter=some ⟨ocm_RingBook_enter,odm_RingBook_enter,.func (PySem.W.fnOf "enter" "RingBook.enter" (Zs Zmk) (Zq Zmk) (Ze Zmk) .none kVm_RingBook_enter dcm_RingBook_enter pmm_RingBook_enter anm_RingBook_enter cdm_RingBook_enter ctm_RingBook_enter),slm_RingBook_enter⟩) (cm_RingBook_enter:PySem.W.codeIn K cdm_RingBook_enter "RingBook.enter"=true) (km_RingBook_enter:PySem.W.keepIn K (.ref fm_RingBook_enter)=true)
  {C_RingBook_back fm_RingBook_back:Addr}{odm_RingBook_back anm_RingBook_back:Option Addr}{slm_RingBook_back:Array (Option Value)}{ocm_RingBook_back kVm_RingBook_back dcm_RingBook_back pmm_RingBook_back cdm_RingBook_back ctm_RingBook_back:Value}
  (am_RingBook_back:PySem.W.nsIn K mainGlobals "RingBook"=some (some (.ref C_RingBook_back))) (fm1_RingBook_back:PySem.W.findIn K (.ref C_RingBook_back) "back"=some (some (.ref fm_RingBook_back))) (tm_RingBook_back:PySem.W.typeIn K (.ref fm_RingBook_back)=some (.type "function")) (lm_RingBook_back:K.lookup fm_RingBook_back=some ⟨ocm_RingBook_back,odm_RingBook_back,.func (PySem.W.fnOf "back" "RingBook.back" (Zs Zmp) (Zq Zmp) (Ze Zmp) .none kVm_RingBook_back dcm_RingBook_back pmm_RingBook_back anm_RingBook_back cdm_RingBook_back ctm_RingBook_back),slm_RingBook_back⟩) (cm_RingBook_back:PySem.W.codeIn K cdm_RingBook_back "RingBook.back"=true) (km_RingBook_back:PySem.W.keepIn K (.ref fm_RingBook_back)=true)
  {C_RingBook_sow fm_RingBook_sow:Addr}{odm_RingBook_sow anm_RingBook_sow:Option Addr}{slm_RingBook_sow:Array (Option Value)}{ocm_RingBook_sow kVm_RingBook_sow dcm_RingBook_sow pmm_RingBook_sow cdm_RingBook_sow ctm_RingBook_sow:Value}
  (am_RingBook_sow:PySem.W.nsIn K mainGlobals "RingBook"=some (some (.ref C_RingBook_sow))) (fm1_RingBook_sow:PySem.W.findIn K (.ref C_RingBook_sow) "sow"=some (some (.ref fm_RingBook_sow))) (tm_RingBook_sow:PySem.W.typeIn K (.ref fm_RingBook_sow)=some (.type "function")) (lm_RingBook_sow:K.lookup fm_RingBook_sow=some ⟨ocm_RingBook_sow,odm_RingBook_sow,.func (PySem.W.fnOf "sow" "RingBook.sow" (Zs Zmt) (Zq Zmt) (Ze Zmt) .none kVm_RingBook_sow dcm_RingBook_sow pmm_RingBook_sow anm_RingBook_sow cdm_RingBook_sow ctm_RingBook_sow),slm_RingBook_sow⟩) (cm_RingBook_sow:PySem.W.codeIn K cdm_RingBook_sow "RingBook.sow"=true) (km_RingBook_sow:PySem.W.keepIn K (.ref fm_RingBook_sow)=true)
  (o_RingBook:Q3 K "RingBook" Zr=true)
  :Txt K mg:=by
 refine⟨?_, ?_, ?_, ?_, ?_, ?_, ?_, ?_, ?_, ?_, ?_, ?_, ?_, ?_, ?_, ?_, ?_, ?_, ?_, ?_, ?_, ?_, ?_, ?_, ?_, ?_, ?_, ?_, ?_, ?_, ?_, ?_, ?_,x_tab,x_exc,fun n C e=>PySem.W.mg_of X G e,⟨_,_,_,am_RingBook___init__,fm1_RingBook___init__,tm_RingBook___init__,ZL (st:=Zmh) lm_RingBook___init__ cm_RingBook___init__ km_RingBook___init__⟩,⟨_,_,_,am_RingBook_came_again,fm1_RingBook_came_again,tm_RingBook_came_again,ZL (st:=Zmg) lm_RingBook_came_again cm_RingBook_came_again km_RingBook_came_again⟩,⟨_,_,_,am_RingBook_undo,fm1_RingBook_undo,tm_RingBook_undo,ZL (st:=Zmn) lm_RingBook_undo cm_RingBook_undo km_RingBook_undo⟩,⟨_,_,_,am_RingBook_redo,fm1_RingBook_redo,tm_RingBook_redo,ZL (st:=Zmo) lm_RingBook_redo cm_RingBook_redo km_RingBook_redo⟩,⟨_,_,_,am_RingBook_enter,fm1_RingBook_enter,tm_RingBook_enter,ZL (st:=Zmk) lm_RingBook_enter cm_RingBook_enter km_RingBook_enter⟩,⟨_,_,_,am_RingBook_back,fm1_RingBook_back,tm_RingBook_back,ZL (st:=Zmp) lm_RingBook_back cm_RingBook_back km_RingBook_back⟩,⟨_,_,_,am_RingBook_sow,fm1_RingBook_sow,tm_RingBook_sow,ZL (st:=Zmt) lm_RingBook_sow cm_RingBook_sow km_RingBook_sow⟩,o_RingBook⟩
 ·exact⟨_,_,ZL (st:=Znm) Zph Zou Zpj,PySem.W.mg_of X G Zpx⟩
 ·exact⟨_,_,ZL (st:=ZmD) ZnL Zne ZnN,PySem.W.mg_of X G ZnR⟩
 ·exact⟨_,_,ZL (st:=ZmK) Zog Znp Zok,PySem.W.mg_of X G Zox⟩
 ·exact⟨_,_,ZL (st:=Znb) ZoL ZnE ZoN,PySem.W.mg_of X G ZoS⟩
 ·exact⟨_,_,ZL (st:=Zm0) Zn1 ZmH Zn2,PySem.W.mg_of X G Zn5⟩
 ·exact⟨_,_,ZL (st:=Zmj) ZmS Zm1 ZmT,PySem.W.mg_of X G ZmV⟩
 ·exact⟨_,_,ZL (st:=ZmJ) Zof Zno Zoj,PySem.W.mg_of X G Zow⟩
 ·exact⟨_,_,ZL (st:=Znc) ZoM ZnF ZoO,PySem.W.mg_of X G ZoT⟩
 ·exact⟨_,_,ZL (st:=ZmC) ZnK ZmW ZnM,PySem.W.mg_of X G ZnQ⟩
 ·exact⟨_,_,ZL (st:=ZmL) Zoh Znq Zol,PySem.W.mg_of X G Zoy⟩
 ·exact⟨_,_,ZL (st:=Zmr) Zng Zm9 Znh,PySem.W.mg_of X G Znj⟩
 ·exact⟨_,_,ZL (st:=Zn7) ZpB ZoG ZpC,PySem.W.mg_of X G ZpL⟩
 ·exact⟨_,_,ZL (st:=ZmR) Zo6 Zn4 Zo7,PySem.W.mg_of X G ZoB⟩
 ·exact⟨_,_,ZL (st:=Zmw) Znt ZmB Znu,PySem.W.mg_of X G Znw⟩
 ·exact⟨_,_,ZL (st:=Zm6) Zn8 ZmY Zn9,PySem.W.mg_of X G ZnB⟩
 ·exact⟨_,_,ZL (st:=ZmI) Zoe Znn Zoi,PySem.W.mg_of X G Zov⟩
 ·exact⟨_,_,ZL (st:=Znl) Zpg Zot Zpi,PySem.W.mg_of X G Zpw⟩
 ·exact⟨_,_,ZL (st:=ZoU) Zqq ZpT Zqr,PySem.W.mg_of X G Zqz⟩
 ·exact⟨_,_,ZL (st:=ZpO) Zq7 ZqA Zq8,PySem.W.mg_of X G ZqB⟩
 ·exact⟨_,PySem.W.mg_of X G a_FEWEST_PITS⟩
 ·exact⟨_,PySem.W.mg_of X G a_MOST_PITS⟩
 ·exact PySem.W.mg_none_of X G z_all
 ·exact PySem.W.mg_none_of X G z_bool
 ·exact PySem.W.mg_none_of X G z_enumerate
 ·exact PySem.W.mg_none_of X G z_int
 ·exact PySem.W.mg_none_of X G z_isinstance
 ·exact PySem.W.mg_none_of X G z_len
 ·exact PySem.W.mg_none_of X G z_list
 ·exact PySem.W.mg_none_of X G z_min
 ·exact PySem.W.mg_none_of X G z_range
 ·exact PySem.W.mg_none_of X G z_sorted
 ·exact PySem.W.mg_none_of X G z_sum
 ·exact PySem.W.mg_none_of X G z_tuple
end My
namespace PySem.W.Fast
noncomputable def tw5753870285134818304:=()
noncomputable def tw5911743179232409664:=()
noncomputable def tw3337446812214099040:=()
noncomputable def tw12679801765121723840:=()
noncomputable def tw9399094292925627872:=()
noncomputable def tw6852175968280445536:=()
noncomputable def tw9672995249695049408:=()
noncomputable def tw9921376502338684961:=()
noncomputable def tw1820657571187496065:=()
noncomputable def tw12792439283199933665:=()
noncomputable def tw6748543781293181313:=()
noncomputable def tw7865677428883866113:=()
noncomputable def tw7442811959258757793:=()
noncomputable def tw1816467670033024673:=()
noncomputable def tw7769653805283224417:=()
noncomputable def tw12734889997641317217:=()
noncomputable def tw7199507321893561570:=()
noncomputable def tw14170381358139770402:=()
noncomputable def tw2458887319485859490:=()
noncomputable def tw6729710004770320066:=()
noncomputable def tw9101709207660151618:=()
noncomputable def tw14047956189615234914:=()
noncomputable def tw5412677767684294530:=()
noncomputable def tw13548673581575658370:=()
noncomputable def tw15989080187721760771:=()
noncomputable def tw12641302326001071107:=()
noncomputable def tw13293318406180915299:=()
noncomputable def tw12581932804417816867:=()
noncomputable def tw7959380613610826147:=()
noncomputable def tw4764529961424439747:=()
noncomputable def tw17219751334904625252:=()
noncomputable def tw14425727083774081220:=()
noncomputable def tw710735243853789700:=()
noncomputable def tw3482855161052207652:=()
noncomputable def tw17814688202425126532:=()
noncomputable def tw16899393639629321892:=()
noncomputable def tw11776997054200969956:=()
noncomputable def tw11655032329745756964:=()
noncomputable def tw13681076745944705924:=()
noncomputable def tw15655311804220157029:=()
noncomputable def tw6185093731736606821:=()
noncomputable def tw10608818598377882789:=()
noncomputable def tw13854370037505039621:=()
noncomputable def tw7829228628836794661:=()
noncomputable def tw11848650933814040005:=()
noncomputable def tw14080228571652012517:=()
noncomputable def tw5591907329839224293:=()
noncomputable def tw11528622124498775525:=()
noncomputable def tw15125882426434302693:=()
noncomputable def tw14851482593593478085:=()
noncomputable def tw12843971426253289445:=()
noncomputable def tw4854554927399646214:=()
noncomputable def tw17306723604429935654:=()
noncomputable def tw10766864522222185702:=()
noncomputable def tw14913798533012308230:=()
noncomputable def tw14343080700175893766:=()
noncomputable def tw5376982777048131910:=()
noncomputable def tw6694258146159461702:=()
noncomputable def tw12717812772833254150:=()
noncomputable def tw12680623890656176966:=()
noncomputable def tw12601344538150825862:=()
noncomputable def tw10123055579922733223:=()
noncomputable def tw10171936611226038471:=()
noncomputable def tw5360970321927280935:=()
noncomputable def tw12115438404472754535:=()
noncomputable def tw16452555405027175783:=()
noncomputable def tw2114824172841730503:=()
noncomputable def tw10986779855562982983:=()
noncomputable def tw16604228918927620775:=()
noncomputable def tw8047312558037125799:=()
noncomputable def tw3616619584143653671:=()
noncomputable def tw9311809242476493864:=()
noncomputable def tw402046462440919240:=()
noncomputable def tw7721236591061917960:=()
noncomputable def tw17070731287310893416:=()
noncomputable def tw16194852399234738696:=()
noncomputable def tw10119397634273593960:=()
noncomputable def tw3661433515630274184:=()
noncomputable def tw8626134739958236936:=()
noncomputable def tw1709504989324929800:=()
noncomputable def tw18062147815855048584:=()
noncomputable def tw404203074948825000:=()
noncomputable def tw15193956328275096488:=()
noncomputable def tw5988796893138340840:=()
noncomputable def tw18225626348299535465:=()
noncomputable def tw10272963980505322761:=()
noncomputable def tw18193997121261338121:=()
noncomputable def tw14355398912788914314:=()
noncomputable def tw10142422287391658474:=()
noncomputable def tw738598078757816874:=()
noncomputable def tw12005257565446617674:=()
noncomputable def tw6708137043178169387:=()
noncomputable def tw8516647301796362283:=()
noncomputable def tw17878024513326855339:=()
noncomputable def tw14048327306601512395:=()
noncomputable def tw6883426187831539275:=()
noncomputable def tw11257492990363288235:=()
noncomputable def tw280405255065247563:=()
noncomputable def tw5613968659523678027:=()
noncomputable def tw1852425495201168203:=()
noncomputable def tw16016898987422899179:=()
noncomputable def tw5605188035488137356:=()
noncomputable def tw10407621432799521964:=()
noncomputable def tw1418672366121253196:=()
noncomputable def tw7217442720899918316:=()
noncomputable def tw17655343425676283436:=()
noncomputable def tw13554991247975552620:=()
noncomputable def tw12713546911574262732:=()
noncomputable def tw15730344243929149453:=()
noncomputable def tw3461348407826379213:=()
noncomputable def tw8723975138224963886:=()
noncomputable def tw2392373091188253262:=()
noncomputable def tw12768713926554103758:=()
noncomputable def tw7713029471759881327:=()
noncomputable def tw4337902927023496399:=()
noncomputable def tw17344248438469850351:=()
noncomputable def tw6280133815759196623:=()
noncomputable def tw12012312354081588911:=()
noncomputable def tw6016907099101876047:=()
noncomputable def tw798914462094504943:=()
noncomputable def tw3442293682474755088:=()
noncomputable def tw11592574224579192944:=()
noncomputable def tw14734005872968709264:=()
noncomputable def tw6308590410090541328:=()
noncomputable def tw13247322623291145488:=()
noncomputable def tw8938457410983713232:=()
noncomputable def tw18406358793661410800:=()
noncomputable def tw1860793601041978000:=()
noncomputable def tw3293207167347506864:=()
noncomputable def tw14998810146558009072:=()
noncomputable def tw17036176210905123696:=()
noncomputable def tw11735789968941583473:=()
noncomputable def tw8143234071503164593:=()
noncomputable def tw1460571333188845009:=()
noncomputable def tw7571794113661572593:=()
noncomputable def tw2097276352877130353:=()
noncomputable def tw3333715468820384433:=()
noncomputable def tw7257087566660751121:=()
noncomputable def tw16018444731641216146:=()
noncomputable def tw15547990654684374194:=()
noncomputable def tw16547749111967508690:=()
noncomputable def tw6787315000666787090:=()
noncomputable def tw8055246701875826034:=()
noncomputable def tw13158114600013881042:=()
noncomputable def tw15031206310934953970:=()
noncomputable def tw10925168007486355507:=()
noncomputable def tw746382078464865427:=()
noncomputable def tw10971552432141753715:=()
noncomputable def tw9121437405377954227:=()
noncomputable def tw12682152242579004947:=()
noncomputable def tw1003020577002765971:=()
noncomputable def tw4183467625334247219:=()
noncomputable def tw11575176078657600596:=()
noncomputable def tw4189091501849218164:=()
noncomputable def tw821008622800522420:=()
noncomputable def tw506224225480902132:=()
noncomputable def tw9326437814404700692:=()
noncomputable def tw1694029967501013652:=()
noncomputable def tw17557118673766836916:=()
noncomputable def tw12918575454538854164:=()
noncomputable def tw12802907634153468724:=()
noncomputable def tw9726785114501655380:=()
noncomputable def tw17172092915002032277:=()
noncomputable def tw624052415290520917:=()
noncomputable def tw2731999697926078933:=()
noncomputable def tw12030791074764593013:=()
noncomputable def tw17790674931095314966:=()
noncomputable def tw4330615892495078006:=()
noncomputable def tw12679940093066406678:=()
noncomputable def tw10578247401278243895:=()
noncomputable def tw8000953275766159863:=()
noncomputable def tw8033358298983077463:=()
noncomputable def tw3315491163679272663:=()
noncomputable def tw6246554608016765976:=()
noncomputable def tw18134620717931738232:=()
noncomputable def tw11413024230243645624:=()
noncomputable def tw11678164087072497976:=()
noncomputable def tw11991401340329566552:=()
noncomputable def tw15213519779013177720:=()
noncomputable def tw11836594052991384120:=()
noncomputable def tw11855225420533043832:=()
noncomputable def tw17073516316885047032:=()
noncomputable def tw16032565213600666392:=()
noncomputable def tw12229243342277297080:=()
noncomputable def tw5292396653825288249:=()
noncomputable def tw1045584077334786169:=()
noncomputable def tw10992374982724936825:=()
noncomputable def tw1692281037364475129:=()
noncomputable def tw6748248479745614073:=()
noncomputable def tw7866401241978794361:=()
noncomputable def tw1853028348707284377:=()
noncomputable def tw6303583402453627289:=()
noncomputable def tw557631987993655769:=()
noncomputable def tw122827043591142873:=()
noncomputable def tw5633462766845481433:=()
noncomputable def tw8049420621065065049:=()
noncomputable def tw3395062779680916185:=()
noncomputable def tw3100233696043580185:=()
noncomputable def tw6064188788522228505:=()
noncomputable def tw2392791798675130233:=()
noncomputable def tw17253076111246098297:=()
noncomputable def tw12689320911849825177:=()
noncomputable def tw3279772404841882585:=()
noncomputable def tw4663058941513131034:=()
noncomputable def tw1289915889026500730:=()
noncomputable def tw11285731554776717466:=()
noncomputable def tw17756074016888462714:=()
noncomputable def tw13322005979158090266:=()
noncomputable def tw8966874388055258746:=()
noncomputable def tw10596531190310164122:=()
noncomputable def tw4407227565290627930:=()
noncomputable def tw14382020865728779194:=()
noncomputable def tw8598760803102372826:=()
noncomputable def tw1268000678456895675:=()
noncomputable def tw4548335803416475835:=()
noncomputable def tw13695672149942326587:=()
noncomputable def tw8415958194206526843:=()
noncomputable def tw9130659097577157051:=()
noncomputable def tw8405802108174458395:=()
noncomputable def tw1707431141353218587:=()
noncomputable def tw2271522562895351355:=()
noncomputable def tw8116884601215308379:=()
noncomputable def tw1456014820509030363:=()
noncomputable def tw9073743841182849019:=()
noncomputable def tw9713187358146633852:=()
noncomputable def tw2541862259888749148:=()
noncomputable def tw13652596785910399676:=()
noncomputable def tw14382507880140316508:=()
noncomputable def tw9539093861829220284:=()
noncomputable def tw8863295306310073533:=()
noncomputable def tw18349357579833886013:=()
noncomputable def tw17342601194912447901:=()
noncomputable def tw10376660951000052221:=()
noncomputable def tw15907576440301101853:=()
noncomputable def tw5053257204603926397:=()
noncomputable def tw4440563517739632509:=()
noncomputable def tw15282130610612224510:=()
noncomputable def tw16166810958176623294:=()
noncomputable def tw4166515327029247710:=()
noncomputable def tw9821837884265729758:=()
noncomputable def tw3751424078135649086:=()
noncomputable def tw17697105254527612766:=()
noncomputable def tw9063900411656906622:=()
noncomputable def tw18049256824642072478:=()
noncomputable def tw11439103599728772159:=()
noncomputable def tw17156245626689042623:=()
noncomputable def tw16602947305873215711:=()
noncomputable def tw15275860980901150975:=()
noncomputable def tw1085760605783487807:=()
noncomputable def tw9989464295855610207:=()
noncomputable def tw1605326900456449471:=()
noncomputable def tw7212539767527383551:=()
noncomputable def tw12619886763132103231:=()
noncomputable def tw11714227549147511391:=()
noncomputable def tw12006936583738558079:=()
noncomputable def tw14539368660989636287:=()
noncomputable def tw14804386855388262143:=()
noncomputable def tw12235263109257850847:=()
noncomputable def tw6685579232517727101:=()
noncomputable def tw11377855245410429641:=()
noncomputable def tw11909727556307499709:=()
noncomputable def tw13052833243701949415:=()
noncomputable def tw6392553845888952513:=()
noncomputable def tw11916492131243627364:=()
noncomputable def tw2102976243951367689:=()
noncomputable def tw3836883241905566948:=()
end PySem.W.Fast
open PySem PySem.W PyProof.Rows
set_option maxRecDepth 100000 in
set_option maxHeartbeats 0 in
theorem PySem.Challenge.cw_sowring_k60_came_again_holds : PySem.Challenge.rw_sowring_k60_came_again.Holds := by
 w_on;o_law;k_head;(case hw=>w_witness2)
 k_fill
 refine L2.ZfP (l:=PySem.Challenge.rw_sowring_k60_came_again) (n:=63) (k:=9) (x := "script") (CX:=L2.CX0) (sp:=My.Zel) rfl (by decide) rfl ⟨rfl,by decide,by decide⟩ (fun w h Y=>by first|exact PySem.W.kIn_of Y|exact PySem.W.km_in_of Y) ?F ?S ?C
 case F =>
  intro w mg fa h KX G hmg
  have T:My.Txt (L2.KOf KX) mg:=by
   dsimp only[L2.KOf]
   refine' My.ZiV KX G ?Zpx ?Zph ?Zou ?Zpj ?ZnR ?ZnL ?Zne ?ZnN ?Zox ?Zog ?Znp ?Zok ?ZoS ?ZoL ?ZnE ?ZoN ?Zn5 ?Zn1 ?ZmH ?Zn2 ?ZmV ?ZmS ?Zm1 ?ZmT ?Zow ?Zof ?Zno ?Zoj ?ZoT ?ZoM ?ZnF ?ZoO ?ZnQ ?ZnK ?ZmW ?ZnM ?Zoy ?Zoh ?Znq ?Zol ?Znj ?Zng ?Zm9 ?Znh ?ZpL ?ZpB ?ZoG ?ZpC ?ZoB ?Zo6 ?Zn4 ?Zo7 ?Znw ?Znt ?ZmB ?Znu ?ZnB ?Zn8 ?ZmY ?Zn9 ?Zov ?Zoe ?Znn ?Zoi ?Zpw ?Zpg ?Zot ?Zpi ?Zqz ?Zqq ?ZpT ?Zqr ?ZqB ?Zq7 ?ZqA ?Zq8 ?a_FEWEST_PITS ?a_MOST_PITS ?z_all ?z_bool ?z_enumerate ?z_int ?z_isinstance ?z_len ?z_list ?z_min ?z_range ?z_sorted ?z_sum ?z_tuple ?x_tab ?x_exc ?am_RingBook___init__ ?fm1_RingBook___init__ ?tm_RingBook___init__ ?lm_RingBook___init__ ?cm_RingBook___init__ ?km_RingBook___init__ ?am_RingBook_came_again ?fm1_RingBook_came_again ?tm_RingBook_came_again ?lm_RingBook_came_again ?cm_RingBook_came_again ?km_RingBook_came_again ?am_RingBook_undo ?fm1_RingBook_undo ?tm_RingBook_undo ?lm_RingBook_undo ?cm_RingBook_undo ?km_RingBook_undo ?am_RingBook_redo ?fm1_RingBook_redo ?tm_RingBook_redo ?lm_RingBook_redo ?cm_RingBook_redo ?km_RingBook_redo ?am_RingBook_enter ?fm1_RingBook_enter ?tm_RingBook_enter ?lm_RingBook_enter ?cm_RingBook_enter ?km_RingBook_enter ?am_RingBook_back ?fm1_RingBook_back ?tm_RingBook_back ?lm_RingBook_back ?cm_RingBook_back ?km_RingBook_back ?am_RingBook_sow ?fm1_RingBook_sow ?tm_RingBook_sow ?lm_RingBook_sow ?cm_RingBook_sow ?km_RingBook_sow ?o_RingBook
   (case Zpx=>k_is)
   (case Zph=>k_is)
   (case Zou=>k_is)
   (case Zpj=>k_is)
   (case ZnR=>k_is)
   (case ZnL=>k_is)
   (case Zne=>k_is)
   (case ZnN=>k_is)
   (case Zox=>k_is)
   (case Zog=>k_is)
   (case Znp=>k_is)
   (case Zok=>k_is)
   (case ZoS=>k_is)
   (case ZoL=>k_is)
   (case ZnE=>k_is)
   (case ZoN=>k_is)
   (case Zn5=>k_is)
   (case Zn1=>k_is)
   (case ZmH=>k_is)
   (case Zn2=>k_is)
   (case ZmV=>k_is)
   (case ZmS=>k_is)
   (case Zm1=>k_is)
   (case ZmT=>k_is)
   (case Zow=>k_is)
   (case Zof=>k_is)
   (case Zno=>k_is)
   (case Zoj=>k_is)
   (case ZoT=>k_is)
   (case ZoM=>k_is)
   (case ZnF=>k_is)
   (case ZoO=>k_is)
   (case ZnQ=>k_is)
   (case ZnK=>k_is)
   (case ZmW=>k_is)
   (case ZnM=>k_is)
   (case Zoy=>k_is)
   (case Zoh=>k_is)
   (case Znq=>k_is)
   (case Zol=>k_is)
   (case Znj=>k_is)
   (case Zng=>k_is)
   (case Zm9=>k_is)
   (case Znh=>k_is)
   (case ZpL=>k_is)
   (case ZpB=>k_is)
   (case ZoG=>k_is)
   (case ZpC=>k_is)
   (case ZoB=>k_is)
   (case Zo6=>k_is)
   (case Zn4=>k_is)
   (case Zo7=>k_is)
   (case Znw=>k_is)
   (case Znt=>k_is)
   (case ZmB=>k_is)
   (case Znu=>k_is)
   (case ZnB=>k_is)
   (case Zn8=>k_is)
   (case ZmY=>k_is)
   (case Zn9=>k_is)
   (case Zov=>k_is)
   (case Zoe=>k_is)
   (case Znn=>k_is)
   (case Zoi=>k_is)
   (case Zpw=>k_is)
   (case Zpg=>k_is)
   (case Zot=>k_is)
   (case Zpi=>k_is)
   (case Zqz=>k_is)
   (case Zqq=>k_is)
   (case ZpT=>k_is)
   (case Zqr=>k_is)
   (case ZqB=>k_is)
   (case Zq7=>k_is)
   (case ZqA=>k_is)
   (case Zq8=>k_is)
   (case a_FEWEST_PITS=>k_is)
   (case a_MOST_PITS=>k_is)
   (case z_all=>k_is)
   (case z_bool=>k_is)
   (case z_enumerate=>k_is)
   (case z_int=>k_is)
   (case z_isinstance=>k_is)
   (case z_len=>k_is)
   (case z_list=>k_is)
   (case z_min=>k_is)
   (case z_range=>k_is)
   (case z_sorted=>k_is)
   (case z_sum=>k_is)
   (case z_tuple=>k_is)
   (case x_tab=>kernel_rfl)
   (case x_exc=>kernel_rfl)
   (case am_RingBook___init__=>k_is)
   (case fm1_RingBook___init__=>k_is)
   (case tm_RingBook___init__=>k_is)
   (case lm_RingBook___init__=>k_is)
   (case cm_RingBook___init__=>k_is)
   (case km_RingBook___init__=>k_is)
   (case am_RingBook_came_again=>k_is)
   (case fm1_RingBook_came_again=>k_is)
   (case tm_RingBook_came_again=>k_is)
   (case lm_RingBook_came_again=>k_is)
   (case cm_RingBook_came_again=>k_is)
   (case km_RingBook_came_again=>k_is)
   (case am_RingBook_undo=>k_is)
   (case fm1_RingBook_undo=>k_is)
   (case tm_RingBook_undo=>k_is)
   (case lm_RingBook_undo=>k_is)
   (case cm_RingBook_undo=>k_is)
   (case km_RingBook_undo=>k_is)
   (case am_RingBook_redo=>k_is)
   (case fm1_RingBook_redo=>k_is)
   (case tm_RingBook_redo=>k_is)
   (case lm_RingBook_redo=>k_is)
   (case cm_RingBook_redo=>k_is)
   (case km_RingBook_redo=>k_is)
   (case am_RingBook_enter=>k_is)
   (case fm1_RingBook_enter=>k_is)
   (case tm_RingBook_enter=>k_is)
   (case lm_RingBook_enter=>k_is)
   (case cm_RingBook_enter=>k_is)
   (case km_RingBook_enter=>k_is)
   (case am_RingBook_back=>k_is)
   (case fm1_RingBook_back=>k_is)
   (case tm_RingBook_back=>k_is)
   (case lm_RingBook_back=>k_is)
   (case cm_RingBook_back=>k_is)
   (case km_RingBook_back=>k_is)
   (case am_RingBook_sow=>k_is)
   (case fm1_RingBook_sow=>k_is)
   (case tm_RingBook_sow=>k_is)
   (case lm_RingBook_sow=>k_is)
   (case cm_RingBook_sow=>k_is)
   (case km_RingBook_sow=>k_is)
   (case o_RingBook=>kernel_rfl)
  exact My.ZjA T hmg
 case S=>exact fun K H a ns hl hO hS=>My.Zfb hl hO hS
 case C=>exact fun _ _ _ _ z=>z
