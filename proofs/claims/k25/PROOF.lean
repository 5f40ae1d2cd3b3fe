import PyProof.Rows.All
import Wide.All
import OpenK.AllK
import Wide.FinOn
import Lean
import PyProof.EqAt
import PyProof.EqKinds
import PyProof.TupleCall
import KE.KTryMore
import PyProof.NsDelKeeps
import PyProof.EnumStmt
import KE.KRevIter
import PyProof.ListNew
import PyProof.Rows.SortRuns
import KE.KIntText
import PyProof.ListRange
import PyProof.Rows.Range3
import PyProof.Rows.TupDisplay
import KE.KSortTup
import PyProof.DictWalks
import PyProof.DictTruth
import PySem.Challenge.RW_sowring_k25_ends_and_seeds
open List renaming getD_eq_getElem?_getD->Zqi,mem_append_right->Zqj,mem_of_getElem?->Zqk,getElem?_eq_some_iff->Zql,getElem?_eq_getElem->Zqm,mem_append->Zqo,mem_append_left->Zqp,getElem?_append_left->Zqr,append_assoc->Zqs,length_map->Zqt,size_toArray->Zqu,getElem?_append_right->Zqv,mem_cons->Zqw,pairwise_append->Zqy,map_cons->Zqz,mem_singleton->Zq0,length_take->Zq1,mem_map->Zq4,take_append_drop->Zq5,getElem?_map->Zq7,length_cons->Zq8,getElem?_set_self->Zq9,mem_cons_of_mem->ZqB,mem_of_mem_take->ZqC,drop_eq_getElem_cons->ZqD,take_of_length_le->ZqG,all_eq_true->ZqH,getElem?_eq_none->ZqI,mem_range->ZqK,extract_eq_take_drop->ZqL,getElem?_set_ne->ZqM,mem_of_mem_drop->ZqN,getElem?_take->ZqO,getElem?_eq_none_iff->ZqQ,getElem?_drop->ZqR,mem_filter->ZqS,lookup_cons->ZqU,length_append->ZqV,map_map->ZqW,drop_eq_nil_of_le->ZqX,getElem?_cons_zero->Zra,getElem?_of_mem->Zrb,append_nil->Zrc,nil_append->Zrd,perm_append_comm->Zre,mem_cons_self->Zrf,length_drop->Zrg,map_append->Zrh,pairwise_cons->Zrl,pairwise_iff_getElem->Zrn,getElem?_range->Zrp,any_cons->Zrq,length_set->Zrr,singleton_append->Zrs,find?_cons->Zrt,length_nil->Zru,length_filter_le->Zrv,pairwise_map->Zrw,sum_cons->Zrx,exists_cons_of_ne_nil->Zry,nodup_iff_pairwise_ne->Zrz,drop_zero->Zr0,filter_eq_self->Zr3,map_nil->Zr5,getElem?_replicate->Zr6,zip_cons_cons->Zr7,pairwise_singleton->Zr8,filter_append->Zr9,drop_of_length_le->ZrA,ext_getElem?->ZrD,contains_iff_mem->ZrF,getElem?_replicate_of_lt->ZrH,cons_append->ZrI,ext_getElem->ZrL,getElem_mem->ZrM,filterMap_cons->ZrO,nodup_cons->ZrP,length_zip->ZrS,map_congr_left->ZrT,length_pos_iff->ZrV,mem_filterMap->ZrY,set_cons_zero->ZrZ,set_cons_succ->Zsa,foldl_append->Zsc,mem_reverse->Zse,filter_cons->Zsg,take_length->Zsh,of_mem_zip->Zsi,range_succ->Zsk
open Nat renaming le_refl->Zqn,lt_of_lt_of_le->Zqx,ne_of_lt->Zq2,le_trans->Zq3,zero_le->ZqA,lt_irrefl->ZqP,zero_add->ZqY,mod_eq_of_lt->Zrj,lt_of_le_of_lt->Zrk,ne_of_gt->Zr4,not_lt->ZrC,succ_pos->ZrG,pow_le_pow_right->ZrN,min_le_left->ZrQ,lt_succ_of_lt->Zsb,lt_succ_self->Zsf,sub_self->Zsj
open Int renaming toNat_natCast->Zq6,emod_lt_of_pos->ZqE,emod_nonneg->ZqJ,toNat_of_nonneg->ZqT,emod_eq_of_lt->ZqZ,zero_add->Zrm,ediv_nonneg->ZrU
open Array renaming length_toList->Zqq,getElem?_toList->ZqF,toList_extract->Zro,getElem?_eq_getElem->Zr1,getElem?_eq_none->ZrB,toList_push->ZrE,toList_inj->ZrJ,toList_map->ZrK,toList_append->ZrR,toList_setIfInBounds->ZrW,perm_iff_toList_perm->ZrX
open Option renaming map_eq_some_iff->Zri,getD_some->Zr2,toList->Zsd
set_option Elab.async false
set_option linter.all false
set_option maxRecDepth 100000
namespace L2
open PySem PySem.Spec PyProof.Rows
noncomputable abbrev Key:=Sum Int Str
noncomputable def Zhx:Key->Value->Bool
 |.inl k,v=>Value.isInt k v
 |.inr x,v=>Value.isStrOf x v
noncomputable def ZpW (w:World):Key->Int
 |.inl k=>hashInt k
 |.inr x=>hashStr w x
theorem YD:∀{k:Key}{v:Value},Zhx k v=true->(∃i t,k=Sum.inl i/\v=Value.int i t)\/(∃x t,k=Sum.inr x/\v=Value.str x t)
 |.inl i,v,h=>by
  obtain⟨t,e⟩:=Value.isInt_shape (k:=i) (v:=v) h
  exact .inl ⟨i,t,rfl,e⟩
 |.inr x,v,h=>by
  obtain⟨t,e⟩:=Value.isStrOf_shape (x:=x) (v:=v) h
  exact .inr ⟨x,t,rfl,e⟩
theorem ZiT (i:Int) (t:Tok):Zhx (.inl i) (.int i t)=true:=by simp[Zhx,Value.isInt]
theorem ZiS (x:Str) (t:Tok):Zhx (.inr x) (.str x t)=true:=by simp[Zhx,Value.isStrOf]
theorem ZnJ (a b:Int):decide ((Sum.inl a:Key)=Sum.inl b)=(a==b):=by
 by_cases e:a=b
 ·subst e;simp
 ·have h:¬(Sum.inl a:Key)=Sum.inl b:=fun q=>e (Sum.inl.inj q)
  rw[decide_eq_false h]
  exact(beq_eq_false_iff_ne.mpr e).symm
theorem ZnG (a b:Str):decide ((Sum.inr a:Key)=Sum.inr b)=decide (a=b):=by
 by_cases e:a=b
 ·subst e;simp
 ·have h:¬(Sum.inr a:Key)=Sum.inr b:=fun q=>e (Sum.inr.inj q)
  rw[decide_eq_false h,decide_eq_false e]
theorem ZnI (a:Int) (b:Str):decide ((Sum.inl a:Key)=Sum.inr b)=false:=decide_eq_false (fun q=>nomatch q)
theorem ZnH (a:Str) (b:Int):decide ((Sum.inr a:Key)=Sum.inl b)=false:=decide_eq_false (fun q=>nomatch q)
noncomputable def W8 (prog:Program) (w:World):PySem.KeyKind prog w Key where
 is:=Zhx
 hash:=ZpW w
 inj:=fun v a b ha hb=>by
  rcases YD ha with ⟨i,t,rfl,rfl⟩|⟨x,t,rfl,rfl⟩
  ·rcases YD hb with ⟨j,u,rfl,e⟩|⟨y,u,rfl,e⟩
   ·injection e with e1 _;rw[e1]
   ·exact nomatch e
  ·rcases YD hb with ⟨j,u,rfl,e⟩|⟨y,u,rfl,e⟩
   ·exact nomatch e
   ·injection e with e1 _;rw[e1]
 byValue:=fun k v h=>by
  rcases YD h with ⟨i,t,rfl,rfl⟩|⟨x,t,rfl,rfl⟩<;>rfl
 pyHash:=fun hv h=>by
  rcases YD hv with ⟨i,t,rfl,rfl⟩|⟨x,t,rfl,rfl⟩
  ·exact wpAny_pyHash_int h
  ·exact wpAny_pyHash_str h
 eqBool:=fun hu hv h=>by
  rcases YD hu with ⟨i,t,rfl,rfl⟩|⟨x,t,rfl,rfl⟩
  ·rcases YD hv with ⟨j,u,rfl,rfl⟩|⟨y,u,rfl,rfl⟩
   ·rw[ZnJ] at h;exact wpAny_eqBool_int h
   ·rw[ZnI] at h;exact SeqAt.EqAt.int_str i t y u _ _ _ _ h
  ·rcases YD hv with ⟨j,u,rfl,rfl⟩|⟨y,u,rfl,rfl⟩
   ·rw[ZnH] at h;exact SeqAt.EqAt.str_int x t j u _ _ _ _ h
   ·rw[ZnG] at h;exact wpAny_eqBool_str h
 «strs»:=fun k x t v h=>by
  rcases YD h with ⟨i,u,rfl,e⟩|⟨y,u,rfl,e⟩
  ·exact nomatch e
  ·injection e with e1 _
   subst e1
   cases v<;>rfl
theorem Zfe (prog:Program) (w:World) (i:Int) (t:Tok):(W8 prog w).is (.inl i) (.int i t)=true:=ZiT i t
theorem Zfd (prog:Program) (w:World) (x:Str) (t:Tok):(W8 prog w).is (.inr x) (.str x t)=true:=ZiS x t
inductive V where
 |non|bl (b:Bool)|int (i:Int)|str (x:Str)|byt (b:Array UInt8)|flt (b:UInt64)|ref (a:Addr)|ty (n:String)
 deriving DecidableEq
noncomputable def WG:V->Value->Prop
 |.non,u=>u=Value.none
 |.bl b,u=>u=Value.bool b
 |.int i,u=>∃t,u=Value.int i t
 |.str x,u=>∃t,u=Value.str x t
 |.byt b,u=>∃t,u=Value.bytes b t
 |.flt b,u=>∃t,u=Value.float b t
 |.ref a,u=>u=Value.ref a
 |.ty n,u=>u=Value.type n
noncomputable abbrev YO:List V->List Value->Prop:=Paired WG
theorem YO.length {xs:List V}{us:List Value} (r:YO xs us):xs.length=us.length:=Paired.length r
theorem YO.get:∀{xs:List V}{us:List Value}{i:Nat}{x:V},YO xs us->xs[i]?=some x->∃u,us[i]?=some u/\WG x u
 |_,_,_,_,.nil,e=>by simp at e
 |_,_,0,_,.cons r _,e=>by simp at e;subst e;exact⟨_,rfl,r⟩
 |_,_,i+1,x,.cons _ t,e=>by
  obtain⟨u,h1,h2⟩:=YO.get (i:=i) (x:=x) t (by simpa using e)
  exact⟨u,by simpa using h1,h2⟩
theorem YO.set {x:V}{u:Value} (r:WG x u):∀{xs:List V}{us:List Value} (i:Nat),YO xs us->YO (xs.set i x) (us.set i u)
 |_,_,_,.nil=>.nil
 |_,_,0,.cons _ t=>.cons r t
 |_,_,i+1,.cons q t=>.cons q (YO.set r i t)
theorem YO.append:∀{xs ys:List V}{us ws:List Value},YO xs us->YO ys ws->YO (xs++ys) (us++ws)
 |_,_,_,_,.nil,s=>s
 |_,_,_,_,.cons r t,s=>.cons r (YO.append t s)
theorem YO.take:∀{xs:List V}{us:List Value} (n:Nat),YO xs us->YO (xs.take n) (us.take n)
 |_,_,0,_=>.nil
 |_,_,_+1,.nil=>.nil
 |_,_,n+1,.cons r t=>.cons r (YO.take n t)
theorem YO.drop:∀{xs:List V}{us:List Value} (n:Nat),YO xs us->YO (xs.drop n) (us.drop n)
 |_,_,0,r=>r
 |_,_,_+1,.nil=>.nil
 |_,_,n+1,.cons _ t=>YO.drop n t
noncomputable def ZmZ:Option V->Option Value->Prop
 |some v,some u=>WG v u
 |none,none=>True
 |_,_=>False
def KV {κ:Type}:List (κ×V)->List (κ×Value)->Prop:=Paired fun(p:κ×V) (q:κ×Value)=>p.1=q.1/\WG p.2 q.2
noncomputable def kV:Key->V
 |.inl i=>.int i
 |.inr x=>.str x
inductive HO where
  |lst (xs:List V)
  |tup (xs:List V)
  |dK (kvs:List (Key×V))|dT (kvs:List (List Key×V))
  |set (S:Int->Bool) (n:Nat)
  |ins (C dx:Addr) (fs:List (Str×V))
  |own (x:Addr)
  |xd (fs:List (Str×V))
  |met (f x:Addr)
  |rng (lo hi:Int)
  |frz (o:Obj) (u:HO)
  |tbl (ps:Array Value)
  |ext (φ:Heap->Prop)
noncomputable abbrev Hp:=Addr->Option HO
noncomputable def upd (H:Hp) (a:Addr) (o:HO):Hp:=fun b=>if b=a then some o else H b
theorem ZT {H:Hp}{a:Addr}{o:HO}:upd H a o a=some o:=by unfold upd;rw[if_pos rfl]
theorem Z9 {H:Hp}{a b:Addr}{o:HO} (h:b≠a):upd H a o b=H b:=by unfold upd;rw[if_neg h]
theorem Zmr {H:Hp}{a b:Addr}{o u:HO} (h:H a=some o) (h':H b=some u) (d:o≠u):a≠b:=by
 intro e;subst e;rw[h] at h';exact d (Option.some.inj h')
theorem Yk {H:Hp}{a b:Addr}{o:HO} (h:H a=some o) (h':H b=none):a≠b:=by
 intro e;subst e;rw[h] at h';cases h'
section
variable (P:Program) (w:World)
noncomputable def Jn (H:Hp) (h:Heap) (a:Addr):HO->Prop
 |.lst xs=>xs.length<=sizeLine/\∃(its:List Value) (n:Nat),YO xs its/\h.get? a=some { cls:=.type "list",data:=.seq its.toArray n }
 |.tup xs=>xs.length<=sizeLine/\∃its:List Value,YO xs its/\IsTup h a its.toArray
 |.dK kvs=>kvs.length<=sizeLine/\(a==sysModules)=false/\∃vs,KV kvs vs/\h.DictOf (W8 P w) a vs
 |.dT kvs=>kvs.length<=sizeLine/\(a==sysModules)=false/\∃xs:List (List Key×Addr×Value),
   Paired (fun(p:List Key×V) (q:List Key×Addr×Value)=>p.1=q.1/\H q.2.1=some (.tup (p.1.map kV))/\WG p.2 q.2.2) kvs xs /\
   ∃o es ep,h.get? a=some o/\o.ExactDict/\o.data=.dict es ep/\es.toList=xs.map (entryOfKey (tupleKind (W8 P w)))/\(xs.map (·.1)).Nodup
 |.set S n=>h.SetOf (intKind P w) a S n
 |.ins C dx fs=>H dx=some (.own a)/\fs.length<=1000/\dx≠a/\h.get? a=some (PySem.W.instObj C dx) /\
   ∃mA,h.Ns1 dx mA/\(∀f,ZmZ (fs.lookup f) (mA f))/\PySem.Within mA (fs.map (·.1))
 |.own _=>∃o,h.get? a=some o
 |.xd fs=>∃mA,h.Ns1 a mA/\∀f,ZmZ (fs.lookup f) (mA f)
 |.rng lo hi=>∃t u v,h.get? a=some { cls:=.type "range",data:=.fields #[.int lo t,.int hi u,.int 1 v] }
 |.frz o u=>h.get? a=some o/\Jn H h a u
 |.tbl ps=>h.get? a=some { cls:=.none,data:=.fields ps }
 |.met f x=>h.get? a=some (PySem.W.methodObj (.ref f) (.ref x))
 |.ext φ=>φ h/\(∃o,h.get? a=some o)/\∀h1 h2:Heap,φ h1->(∀o,h1.get? a=some o->h2.get? a=some o)->φ h2
def HOk (H:Hp) (h:Heap):Prop:=∀a o,H a=some o->Jn P w H h a o
end
section
variable {P:Program}{w:World}{H H':Hp}{h h':Heap}{a:Addr}{o:HO}
theorem Jn.lt (x:Jn P w H h a o):a<h.objs.size:=by
 cases o with
 |lst xs=>obtain⟨_,_,_,_,e⟩:=x;exact Heap.lt_size e
 |tup xs=>obtain⟨_,_,_,p⟩:=x;exact p.lt
 |dK kvs=>obtain⟨_,_,_,_,o,_,_,e,_⟩:=x;exact Heap.lt_size e
 |dT kvs=>obtain⟨_,_,_,_,o,_,_,e,_⟩:=x;exact Heap.lt_size e
 |set S n=>obtain⟨o,_,_,_,e,_⟩:=x;exact Heap.lt_size e
 |ins C dx fs=>obtain⟨_,_,_,e,_⟩:=x;exact Heap.lt_size e
 |own y=>obtain⟨_,e⟩:=x;exact Heap.lt_size e
 |xd fs=>obtain⟨_,⟨_,_,_,e,_⟩,_⟩:=x;exact Heap.lt_size e
 |rng lo hi=>obtain⟨_,_,_,e⟩:=x;exact Heap.lt_size e
 |frz ob u=>obtain⟨e,_⟩:=x;exact Heap.lt_size e
 |tbl ps=>exact Heap.lt_size (show h.get? a=some _ from x)
 |met f y=>exact Heap.lt_size (show h.get? a=some _ from x)
 |ext φ=>obtain⟨_,⟨_,e⟩,_⟩:=x;exact Heap.lt_size e
theorem Paired.mapP {α β:Type}{F G:α->β->Prop}:∀{l₁:List α}{l₂:List β},Paired F l₁ l₂->(∀a b,F a b->G a b)->Paired G l₁ l₂
 |_,_,.nil,_=>.nil
 |_,_,.cons r t,f=>.cons (f _ _ r) (Paired.mapP t f)
theorem Jn.stay (x:Jn P w H h a o) (k:∀b u,(b=a\/H b=some (.own a))->h.get? b=some u->h'.get? b=some u)
  (ho:∀b,H b=some (.own a)->H' b=some (.own a)) (ht:∀b xs,H b=some (.tup xs)->H' b=some (.tup xs)):Jn P w H' h' a o:=by
 induction o with
 |lst xs=>obtain⟨z,its,n,r,e⟩:=x;exact⟨z,its,n,r,k _ _ (.inl rfl) e⟩
 |tup xs=>obtain⟨z,its,r,ob,e,c⟩:=x;exact⟨z,its,r,ob,k _ _ (.inl rfl) e,c⟩
 |dK kvs=>obtain⟨z,y,vs,r,ob,es,ep,e,c⟩:=x;exact⟨z,y,vs,r,ob,es,ep,k _ _ (.inl rfl) e,c⟩
 |dT kvs =>
  obtain⟨z,y,xs,r,ob,es,ep,e,c⟩:=x
  exact⟨z,y,xs,Paired.mapP r fun p q z=>⟨z.1,ht _ _ z.2.1,z.2.2⟩,ob,es,ep,k _ _ (.inl rfl) e,c⟩
 |set S n=>obtain⟨ob,es,ep,t,e,c⟩:=x;exact⟨ob,es,ep,t,k _ _ (.inl rfl) e,c⟩
 |ins C dx fs =>
  obtain⟨d,z,ne,e,mA,⟨od,es,ep,e2,c⟩,r⟩:=x
  exact⟨ho _ d,z,ne,k _ _ (.inl rfl) e,mA,⟨od,es,ep,k _ _ (.inr d) e2,c⟩,r⟩
 |own y=>obtain⟨ob,e⟩:=x;exact⟨ob,k _ _ (.inl rfl) e⟩
 |xd fs=>obtain⟨mA,⟨od,es,ep,e,c⟩,r⟩:=x;exact⟨mA,⟨od,es,ep,k _ _ (.inl rfl) e,c⟩,r⟩
 |rng lo hi=>obtain⟨t,u,v,e⟩:=x;exact⟨t,u,v,k _ _ (.inl rfl) e⟩
 |frz ob u ih=>obtain⟨e,q⟩:=x;exact⟨k _ _ (.inl rfl) e,ih q⟩
 |tbl ps =>
  have e:h.get? a=some { cls:=.none,data:=.fields ps }:=x
  show h'.get? a=some { cls:=.none,data:=.fields ps }
  exact k a _ (.inl rfl) e
 |met f y =>
  have e:h.get? a=some (PySem.W.methodObj (.ref f) (.ref y)):=x
  show h'.get? a=some (PySem.W.methodObj (.ref f) (.ref y))
  exact k a _ (.inl rfl) e
 |ext φ=>obtain⟨p,⟨o,e⟩,st⟩:=x;exact⟨st _ _ p fun o q=>k _ _ (.inl rfl) q,⟨o,k _ _ (.inl rfl) e⟩,st⟩
theorem HOk.lt (x:HOk P w H h) (e:H a=some o):a<h.objs.size:=(x a o e).lt
theorem HOk.fresh (x:HOk P w H h) (e:h.objs.size<=a):H a=none:=by
 cases q:H a with
 |none=>rfl
 |some u=>exact absurd (Zqx (x.lt q) e) (ZqP _)
theorem HOk.kept (x:HOk P w H h) (k:∀b u,h.get? b=some u->h'.get? b=some u):HOk P w H h':=fun a o e =>
 (x a o e).stay (fun b u _ q=>k b u q) (fun _ q=>q) fun _ _ q=>q
theorem HOk.laid (x:HOk P w H h) (k:∀b u,h.get? b=some u->h'.get? b=some u) (hp:h.objs.size<=a) (new:Jn P w (upd H a o) h' a o):HOk P w (upd H a o) h':=fun b u e=>by
 have hn:=x.fresh hp
 by_cases hb:b=a
 ·subst hb;rw[ZT] at e;cases e;exact new
 ·rw[Z9 hb] at e
  exact(x b u e).stay (fun c v _ q=>k c v q) (fun c q=>by rw[Z9 (Yk q hn)];exact q) fun c xs q=>by rw[Z9 (Yk q hn)];exact q
end
def Rd (H:Hp) (a:Addr) (u:HO):Prop:=H a=some u\/∃o,H a=some (.frz o u)
theorem Rd.ok {P:Program}{w:World}{H:Hp}{h:Heap}{a:Addr}{u:HO} (r:Rd H a u) (x:HOk P w H h):Jn P w H h a u:=by
 rcases r with r|⟨o,r⟩
 ·exact x a u r
 ·obtain⟨_,q⟩:=x a _ r
  exact q
noncomputable def Mut:Option HO->Prop
 |some (.lst _)=>True
 |some (.dK _)=>True
 |some (.dT _)=>True
 |some (.set _ _)=>True
 |some (.ins _ _ _)=>True
 |some (.ext _)=>True
 |_=>False
section
variable {P:Program}{w:World}{H:Hp}{h h':Heap}{x e:Addr}{o':HO}
theorem HOk.write (ok:HOk P w H h) (mu:Mut (H x)) (he:e=x\/H e=some (.own x)) (k:∀b u,b≠e->h.get? b=some u->h'.get? b=some u) (heo:∃u,h'.get? e=some u)
  (new:Jn P w (upd H x o') h' x o'):HOk P w (upd H x o') h':=fun b u q=>by
 have nown:∀c y,H c=some (.own y)->c≠x:=fun c y r z=>by subst z;rw[r] at mu;exact mu
 have ntup:∀c xs,H c=some (.tup xs)->c≠x:=fun c xs r z=>by subst z;rw[r] at mu;exact mu
 by_cases hb:b=x
 ·subst hb;rw[ZT] at q;cases q;exact new
 ·rw[Z9 hb] at q
  by_cases hbe:b=e
  ·have q':H b=some (.own x):=by
    rcases he with z|z
    ·exact absurd (hbe.trans z) hb
    ·rw[hbe];exact z
   rw[q] at q';cases q'
   obtain⟨v,hv⟩:=heo
   exact⟨v,by rw[hbe];exact hv⟩
  ·refine(ok b u q).stay (fun c v hc r=>k c v ?_ r) (fun c r=>by rw[Z9 (nown c b r)];exact r) fun c xs r=>by rw[Z9 (ntup c xs r)];exact r
   rcases hc with rfl|hc
   ·exact hbe
   ·rintro rfl
    rcases he with z|z
    ·exact nown c b hc z
    ·rw[hc] at z;cases z;exact hb rfl
end
structure Un (fs ex:List Addr) (H H':Hp) (h h':Heap):Prop where
 keep:∀b o,h.get? b=some o->H b=none->b ∉ fs->b ∉ ex->h'.get? b=some o
 slot:∀b o,h.get? b=some o->H b=none->b∈fs->b ∉ ex->∃sl,h'.get? b=some { o with slots:=sl }
 free:∀b o,h.get? b=some o->H b=none->b ∉ ex->H' b=none
 there:∀b o,h.get? b=some o->b ∉ ex->∃o',h'.get? b=some o'
 tups:∀b xs,H b=some (.tup xs)->H' b=some (.tup xs)
 frzs:∀b o u,H b=some (.frz o u)->H' b=some (.frz o u)
 tbls:∀b ps,H b=some (.tbl ps)->∃more,H' b=some (.tbl (ps++more))
section
variable {fs fs' ex ex':List Addr}{H H1 H2:Hp}{h h1 h2 h':Heap}{a x e:Addr}{o:HO}
theorem Un.any (u:Un fs ex H H1 h h1) {b:Addr}{ob:Obj} (q:h.get? b=some ob) (n:H b=none) (hx:b ∉ ex):∃sl,h1.get? b=some { ob with slots:=sl }:=by
 by_cases hb:b∈fs
 ·exact u.slot b ob q n hb hx
 ·exact⟨ob.slots,u.keep b ob q n hb hx⟩
theorem Un.kept (k:∀b u,h.get? b=some u->h'.get? b=some u):Un fs ex H H h h':=
 ⟨fun b ob q _ _ _=>k b ob q,fun b ob q _ _ _=>⟨ob.slots,k b ob q⟩,fun _ _ _ n _=>n,fun b ob q _=>⟨ob,k b ob q⟩,fun _ _ q=>q,fun _ _ _ q=>q,fun _ ps q=>⟨#[],by rw[q];simp⟩⟩
theorem Un.refl:Un fs ex H H h h:=Un.kept fun _ _ q=>q
theorem Un.laid (k:∀b u,h.get? b=some u->h'.get? b=some u) (hp:h.objs.size<=a) (hn:H a=none):Un fs ex H (upd H a o) h h' where
 keep:=fun b u q _ _ _=>k b u q
 slot:=fun b u q _ _ _=>⟨u.slots,k b u q⟩
 free:=fun b u q n _=>by rw[Z9 (Zq2 (Zqx (Heap.lt_size q) hp))];exact n
 there:=fun b u q _=>⟨u,k b u q⟩
 tups:=fun b xs q=>by rw[Z9 (Yk q hn)];exact q
 frzs:=fun b u xs q=>by rw[Z9 (Yk q hn)];exact q
 tbls:=fun b ps q=>⟨#[],by rw[Z9 (Yk q hn),q];simp⟩
theorem Un.write (mu:Mut (H x)) (he:e=x\/H e=some (.own x)) (k:∀b u,b≠e->h.get? b=some u->h'.get? b=some u) (heo:∃u,h'.get? e=some u):Un fs ex H (upd H x o) h h':=by
 have hx:∀b,H b=none->b≠x:=fun b n z=>by subst z;rw[n] at mu;exact mu
 have hb:∀b,H b=none->b≠e:=fun b n z=>by
  subst z
  rcases he with r|r
  ·exact hx b n r
  ·rw[n] at r;cases r
 have hm:∀b u,H b=some u->¬Mut (some u)->b≠x:=fun b u q nm z=>by subst z;rw[q] at mu;exact nm mu
 refine⟨fun b u q n _ _=>k b u (hb b n) q,fun b u q n _ _=>⟨u.slots,k b u (hb b n) q⟩,fun b u q n _=>by rw[Z9 (hx b n)];exact n,fun b u q _=>?_,
  fun b xs q=>by rw[Z9 (hm b _ q fun z=>z)];exact q,fun b u xs q=>by rw[Z9 (hm b _ q fun z=>z)];exact q,fun b ps q=>⟨#[],by rw[Z9 (hm b _ q fun z=>z),q];simp⟩⟩
 by_cases hbe:b=e
 ·subst hbe;exact heo
 ·exact⟨u,k b u hbe q⟩
end
noncomputable def trk (h:Heap) (H:Hp):List Addr:=(List.range h.objs.size).filter fun a=>(H a).isSome
noncomputable def Zk6 (h:Heap) (H:Hp):Heap:=PySem.W.hideAll h (trk h H)
theorem Zja (h:Heap) (H:Hp):(Zk6 h H).objs.size=h.objs.size:=PySem.W.hideAll_size _ _
theorem Zk5 {h:Heap}{H:Hp}{b:Addr}{o:Obj} (e:h.get? b=some o) (n:H b=none):(Zk6 h H).get? b=some o:=
 PySem.W.hideAll_get _ e fun hm=>by
  have q:(H b).isSome=true:=(ZqS.mp hm).2
  rw[n] at q;simp at q
theorem Zmn {h:Heap}{H:Hp}{b:Addr}{o:Obj} (e:(Zk6 h H).get? b=some o):h.get? b=some o/\H b=none:=by
 have e':h.get? b=some o:=PySem.W.of_hideAll (trk h H) e
 refine⟨e', ?_⟩
 cases q:H b with
 |none=>rfl
 |some x =>
  have hm:b∈trk h H:=ZqS.mpr ⟨ZqK.mpr (Heap.lt_size e'),by simp[q]⟩
  have z:(Zk6 h H).get? b=none:=PySem.W.hideAll_none (trk h H) hm
  rw[z] at e;cases e
noncomputable def ZmO (g h:Heap) (L:Addr):List (Addr×Obj):=(List.range h.objs.size).filterMap fun a=>if a=L\/(g.get? a).isSome=true then none else (h.get? a).map fun o=>(a,o)
noncomputable def ZhQ (g h:Heap) (L d:Addr):List (Addr×Obj):=(ZmO g h L).filter fun p=>decide (p.1≠d)
structure Mod (K:PySem.W.Frag) (mg:Str->Option Value) (base:Heap):Prop where
 kin:K.In base
 glob:base.Ns mainGlobals mg
 blt:∃mb,base.Ns builtinsNs mb/\∀x:Str,x ≠ "__name__"->mb x=bootBuiltins x
 nolimit:base.NoLimit
structure Cx where
 prog:Program
 w:World
 K:PySem.W.Frag
 mg:Str->Option Value
 base:Heap
 A:Around
 N:List Str
 s₀:Shared
 H₀:Hp
 env:Env
 outer:List Env
 stack:List Env
 ex:List Addr
 fn:Str->Bool
 calm:Bool
 pn:List (Addr×Obj)
 xe:Value->Shared->Prop
noncomputable def frs (l:List Env):List Addr:=l.filterMap (·.frame)
noncomputable abbrev Cx.fs (X:Cx):List Addr:=frs X.outer
def Vis (sc:Scope) (x:Str):Prop:=sc.names.lookup x=some .local\/sc.names.lookup x=some .cell\/sc.names.lookup x=some .free
def Loc (sc:Scope) (x:Str):Prop:=sc.names.lookup x=some .local\/sc.names.lookup x=some .cell
def Zqf (env:Env) (h:Heap) (m:Str->Option Value) (x:Str) (u:Value):Prop:=
 (env.kindOf x=some .local/\m x=some u)\/((env.kindOf x=some .cell\/env.kindOf x=some .free)/\∃c,env.cells.lookup x=some c/\h.IsCell c (some u))
structure Cx.Ok (X:Cx):Prop where
 mod:Mod X.K X.mg X.base
 kind:X.env.scope.kind=.function
 glob:X.env.globals=mainGlobals
 blt:X.env.builtins=builtinsNs
 above:X.s₀.heap.objs.size<=X.env.locals
 inj:∀x y c,X.env.cells.lookup x=some c->X.env.cells.lookup y=some c->x=y
 has:∀x,(X.env.kindOf x=some .cell\/X.env.kindOf x=some .free)->∃c,X.env.cells.lookup x=some c
 cab:∀x c,X.fn x=true->X.env.cells.lookup x=some c->X.s₀.heap.objs.size<=c
 hd:X.calm=true->X.A.handled=none
 frames:X.A.frames=some X.stack
 stk:X.stack=X.outer\/(X.stack=X.env::X.outer/\X.env.frame=some X.env.locals)
 exf:∀b∈X.ex,b≠X.env.locals/\∀x c,X.env.cells.lookup x=some c->c≠b
 bs:∀b o,X.base.get? b=some o->X.s₀.heap.get? b=some o/\X.H₀ b=none
 bsz:X.base.objs.size<=X.s₀.heap.objs.size
 noex:∀b o,X.base.get? b=some o->b ∉ X.ex
 exfs:∀b∈X.ex,b ∉ X.fs
 funs:X.s₀.heap.FunFrames X.base X.outer
 frf:∀b∈X.fs,X.H₀ b=none
structure Inv (X:Cx) (pins:List (Addr×Obj)) (σ:List (Option V)) (H:Hp) (s:Shared):Prop where
 ok:X.Ok
 os:s.os=X.s₀.os
 bare:AllBare s.gens
 base:Un X.fs X.ex X.H₀ H X.s₀.heap s.heap
 loc:∃m,s.heap.Ns X.env.locals m/\∀(i:Nat) (x:Str) (v:V),X.N[i]?=some x->σ[i]?=some (some v)->Vis X.env.scope x->∃u,WG v u/\Zqf X.env s.heap m x u
 cell:∀x c,X.env.cells.lookup x=some c->∃v,s.heap.IsCell c v
 free:H X.env.locals=none
 freeC:∀x c,X.env.cells.lookup x=some c->H c=none
 pin:∀p∈X.pn++pins,s.heap.get? p.1=some p.2/\H p.1=none/\p.1≠X.env.locals/\p.1 ∉ X.fs/\∀v,p.2.data≠.cell v
 hok:HOk X.prog X.w H s.heap
 len:σ.length=X.N.length
section
variable {X:Cx}{pins:List (Addr×Obj)}{σ:List (Option V)}{H H':Hp}{s:Shared}{h':Heap}
theorem Cx.Ok.nofr (ok:X.Ok) {b:Addr}{o:Obj} (e:X.base.get? b=some o):b ∉ X.fs:=fun hb=>by
 have:=(ok.funs.mem hb).1
 rw[e] at this;cases this
theorem Inv.bs (I:Inv X pins σ H s):∀b o,X.base.get? b=some o->s.heap.get? b=some o/\H b=none:=fun b o e =>
 ⟨I.base.keep b o (I.ok.bs b o e).1 (I.ok.bs b o e).2 (I.ok.nofr e) (I.ok.noex b o e),I.base.free b o (I.ok.bs b o e).1 (I.ok.bs b o e).2 (I.ok.noex b o e)⟩
theorem Inv.bk (I:Inv X pins σ H s):∀b o,X.base.get? b=some o->s.heap.get? b=some o:=fun b o e=>(I.bs b o e).1
theorem Inv.mod (I:Inv X pins σ H s):Mod X.K X.mg X.base:=I.ok.mod
theorem Inv.kIn (I:Inv X pins σ H s):X.K.In s.heap:=I.ok.mod.kin.keeps I.bk
theorem Inv.lt (I:Inv X pins σ H s):X.env.locals<s.heap.objs.size:=let ⟨_,hn,_⟩:=I.loc;hn.lt
theorem Inv.sz (I:Inv X pins σ H s):X.s₀.heap.objs.size<=s.heap.objs.size:=Zq3 I.ok.above (Nat.le_of_lt I.lt)
theorem Inv.nofs (I:Inv X pins σ H s) {a:Addr} (h:s.heap.objs.size<=a):a ∉ X.fs:=fun hb=>by
 obtain⟨_,o,ho,_⟩:=I.ok.funs.mem hb
 exact absurd (Zqx (Heap.lt_size ho) (Zq3 I.sz h)) (ZqP _)
theorem Inv.cne (I:Inv X pins σ H s):∀x c,X.env.cells.lookup x=some c->c≠X.env.locals:=fun x c e z=>by
 obtain⟨v,o,ho,hd⟩:=I.cell x c e
 obtain⟨m,⟨o',es,ep,ho',hd',_⟩,_⟩:=I.loc
 rw[z,ho'] at ho;cases ho;rw[hd'] at hd;cases hd
theorem Inv.funs (I:Inv X pins σ H s):s.heap.FunFrames X.base X.outer:=by
 have all:∀(l:List Env),(∀b∈frs l,b∈X.fs)->X.s₀.heap.FunFrames X.base l->s.heap.FunFrames X.base l:=by
  intro l
  induction l with
  |nil=>intro _ _;trivial
  |cons env r ih =>
   intro hs hl
   obtain⟨hk,⟨L,o,hf,hn,ho,hd⟩,hr⟩:=hl
   have hL:L∈X.fs:=hs L (by unfold frs;rw[ZrO,hf];exact Zrf)
   obtain⟨sl,e⟩:=I.base.slot L o ho (I.ok.frf L hL) hL fun z=>I.ok.exfs L z hL
   exact⟨hk,⟨L,_,hf,hn,e,hd⟩,ih (fun b hb=>hs b (by unfold frs;rw[ZrO,hf];exact ZqB _ hb)) hr⟩
 exact all X.outer (fun _ hb=>hb) I.ok.funs
theorem Inv.stack (I:Inv X pins σ H s):s.heap.FunFrames X.base X.stack:=by
 rcases I.ok.stk with e|⟨e,hf⟩
 ·rw[e];exact I.funs
 ·rw[e]
  obtain⟨m,hn,_⟩:=I.loc
  refine .cons (by rw[I.ok.kind];decide) hf hn ?_ I.funs
  exact Heap.get?_none_of_le (Zq3 I.ok.bsz I.ok.above)
theorem Inv.stkSub (I:Inv X pins σ H s):∀b∈frs X.stack,b∈X.env.locals::X.fs:=fun b hb=>by
 rcases I.ok.stk with e|⟨e,hf⟩
 ·rw[e] at hb;exact ZqB _ hb
 ·rw[e] at hb
  unfold frs at hb
  rw[ZrO,hf] at hb
  exact hb
theorem Inv.stkFree (I:Inv X pins σ H s):∀b∈frs X.stack,H b=none:=fun b hb=>by
 rcases Zqw.mp (I.stkSub b hb) with e|hb
 ·rw[e];exact I.free
 ·obtain⟨_,o,ho,_⟩:=I.ok.funs.mem hb
  exact I.base.free b o ho (I.ok.frf b hb) fun z=>I.ok.exfs b z hb
theorem Inv.step {g':Array GenState}{t':Nat}{d':Drawn}{ch:List Addr} (I:Inv X pins σ H s)
  (hch:∀b∈ch,(b∈X.ex\/X.s₀.heap.objs.size<=b)/\b≠X.env.locals/\(∀x c,X.env.cells.lookup x=some c->c≠b)/\∀p∈X.pn++pins,p.1≠b)
  (keep:∀b o,b≠X.env.locals->b ∉ X.fs->b ∉ ch->s.heap.get? b=some o->H b=none->h'.get? b=some o)
  (slot:∀b o,b≠X.env.locals->b∈X.fs->b ∉ ch->s.heap.get? b=some o->H b=none->∃sl,h'.get? b=some { o with slots:=sl }) (free:∀b o,b ∉ ch->s.heap.get? b=some o->H b=none->H' b=none)
  (there:∀b o,b ∉ ch->s.heap.get? b=some o->∃o',h'.get? b=some o')
  (tups:∀b xs,H b=some (.tup xs)->H' b=some (.tup xs)) (frzs:∀b o u,H b=some (.frz o u)->H' b=some (.frz o u)) (tbls:∀b ps,H b=some (.tbl ps)->∃more,H' b=some (.tbl (ps++more)))
  (ns:∀m,s.heap.Ns X.env.locals m->h'.Ns X.env.locals m) (hok:HOk X.prog X.w H' h') (hg:AllBare g') :
  Inv X pins σ H' { s with heap:=h',gens:=g',drawn:=d',toks:=t' }:=by
 have neL:∀b o,X.s₀.heap.get? b=some o->b≠X.env.locals:=fun b o e=>Zq2 (Zqx (Heap.lt_size e) I.ok.above)
 have neC:∀b o,X.s₀.heap.get? b=some o->b ∉ X.ex->b ∉ ch:=fun b o e hx hb=>by
  rcases (hch b hb).1 with z|z
  ·exact hx z
  ·exact absurd (Zqx (Heap.lt_size e) z) (ZqP _)
 have cellK:∀x c,X.env.cells.lookup x=some c->∀v,s.heap.IsCell c v->h'.IsCell c v:=fun x c e v ⟨o,ho,hd⟩=>by
  have nch:c ∉ ch:=fun z=>(hch c z).2.2.1 x c e rfl
  by_cases hc:c∈X.fs
  ·obtain⟨sl,q⟩:=slot c o (I.cne x c e) hc nch ho (I.freeC x c e)
   exact⟨_,q,hd⟩
  ·exact⟨o,keep c o (I.cne x c e) hc nch ho (I.freeC x c e),hd⟩
 refine⟨I.ok,I.os,hg,⟨fun b o e n hb hx=>?_,fun b o e n hb hx=>?_,fun b o e n hx=>?_,fun b o e hx=>?_,fun b xs e=>tups b xs (I.base.tups b xs e),fun b o xs e=>frzs b o xs (I.base.frzs b o xs e),fun b ps e=>?_⟩, ?_,fun x c e=>?_, ?_,fun x c e=>?_,fun p hp=>?_,hok,I.len⟩
 ·exact keep b o (neL b o e) hb (neC b o e hx) (I.base.keep b o e n hb hx) (I.base.free b o e n hx)
 ·obtain⟨sl,e1⟩:=I.base.slot b o e n hb hx
  obtain⟨sl',e2⟩:=slot b _ (neL b o e) hb (neC b o e hx) e1 (I.base.free b o e n hx)
  exact⟨sl',e2⟩
 ·obtain⟨o',e1⟩:=I.base.there b o e hx
  exact free b o' (neC b o e hx) e1 (I.base.free b o e n hx)
 ·obtain⟨o',e1⟩:=I.base.there b o e hx
  exact there b o' (neC b o e hx) e1
 ·obtain⟨m1,e1⟩:=I.base.tbls b ps e
  obtain⟨m2,e2⟩:=tbls b _ e1
  exact⟨m1++m2,by rw[e2,Array.append_assoc]⟩
 ·obtain⟨m,hn,hl⟩:=I.loc
  refine⟨m,ns m hn,fun i x v e1 e2 e3=>?_⟩
  obtain⟨u,r,l⟩:=hl i x v e1 e2 e3
  refine⟨u,r, ?_⟩
  rcases l with l|⟨k,c,e,z⟩
  ·exact .inl l
  ·exact .inr ⟨k,c,e,cellK x c e _ z⟩
 ·obtain⟨v,z⟩:=I.cell x c e
  exact⟨v,cellK x c e v z⟩
 ·obtain⟨m,⟨o,_,_,ho,_⟩,_⟩:=I.loc
  exact free _ o (fun z=>(hch _ z).2.1 rfl) ho I.free
 ·obtain⟨v,o,ho,hd⟩:=I.cell x c e
  exact free c o (fun z=>(hch c z).2.2.1 x c e rfl) ho (I.freeC x c e)
 ·obtain⟨e,n,ne,nf,d⟩:=I.pin p hp
  have nch:p.1 ∉ ch:=fun z=>(hch p.1 z).2.2.2 p hp rfl
  exact⟨keep p.1 p.2 ne nf nch e n,free p.1 p.2 nch e n,ne,nf,d⟩
theorem Inv.un {t':Nat} (I:Inv X pins σ H s) (u:Un X.fs [] H H' s.heap h') (hok:HOk X.prog X.w H' h'):Inv X pins σ H' { s with heap:=h',toks:=t' }:=by
 obtain⟨m,⟨o,es,ep,ho,r⟩,_⟩:=id I.loc
 obtain⟨sl,hL⟩:=u.any ho I.free (by simp)
 exact I.step (g':=s.gens) (d':=s.drawn) (ch:=[]) (fun _ z=>nomatch z) (fun b o _ hb _ e n=>u.keep b o e n hb (by simp)) (fun b o _ hb _ e n=>u.slot b o e n hb (by simp)) (fun b o _ e n=>u.free b o e n (by simp)) (fun b o _ e=>u.there b o e (by simp)) u.tups u.frzs u.tbls (fun m' hm=>by
  obtain⟨o',es',ep',ho',r'⟩:=hm
  rw[ho] at ho';cases ho'
  exact⟨_,es',ep',hL,r'⟩) hok I.bare
theorem Inv.call {g':Array GenState}{t':Nat}{d':Drawn}{ch:List Addr} (I:Inv X pins σ H s) (u:Un (frs X.stack) ch H H' s.heap h') (hok:HOk X.prog X.w H' h') (hg:AllBare g')
  (hch:∀b∈ch,(b∈X.ex\/X.s₀.heap.objs.size<=b)/\b≠X.env.locals/\(∀x c,X.env.cells.lookup x=some c->c≠b)/\∀p∈X.pn++pins,p.1≠b) :
  Inv X pins σ H' { s with heap:=h',gens:=g',drawn:=d',toks:=t' }:=by
 obtain⟨m,⟨o,es,ep,ho,r⟩,_⟩:=id I.loc
 obtain⟨sl,hL⟩:=u.any ho I.free fun z=>(hch _ z).2.1 rfl
 exact I.step (ch:=ch) hch (fun b o hL hb hc e n=>u.keep b o e n (fun z=>(Zqw.mp (I.stkSub b z)).elim hL hb) hc) (fun b o _ _ hc e n=>u.any e n hc) (fun b o hc e n=>u.free b o e n hc) (fun b o hc e=>u.there b o e hc) u.tups u.frzs u.tbls (fun m' hm=>by
  obtain⟨o',es',ep',ho',r'⟩:=hm
  rw[ho] at ho';cases ho'
  exact⟨_,es',ep',hL,r'⟩) hok hg
theorem Inv.turned {t':Nat}{it:Addr} (I:Inv X pins σ H s) (k:∀b o,b≠it->s.heap.get? b=some o->h'.get? b=some o) (hn:H it=none) (hL:it≠X.env.locals)
  (h1:it∈X.ex\/X.s₀.heap.objs.size<=it) (h2:∀x c,X.env.cells.lookup x=some c->c≠it) (h3:∀p∈X.pn++pins,p.1≠it):Inv X pins σ H { s with heap:=h',toks:=t' }:=by
 have nit:∀b u,H b=some u->b≠it:=fun b u e z=>by rw[z,hn] at e;cases e
 refine I.step (g':=s.gens) (d':=s.drawn) (ch:=[it]) (fun b hb=>?_) (fun b o _ _ hc e _=>k b o (fun z=>hc (by simp[z])) e) (fun b o _ _ hc e _=>⟨o.slots,k b o (fun z=>hc (by simp[z])) e⟩) (fun _ _ _ _ n=>n)
  (fun b o hc e=>⟨o,k b o (fun z=>hc (by simp[z])) e⟩) (fun _ _ e=>e) (fun _ _ _ e=>e) (fun b ps e=>⟨#[],by rw[e];simp⟩) (fun m hm=>?_) (fun b u e=>?_) I.bare
 ·have e:b=it:=by simpa using hb
  subst e
  exact⟨h1,hL,h2,h3⟩
 ·obtain⟨o,es,ep,ho,r⟩:=hm
  exact⟨o,es,ep,k _ o (Ne.symm hL) ho,r⟩
 ·refine(I.hok b u e).stay (fun c v hc q=>k c v ?_ q) (fun _ q=>q) fun _ _ q=>q
  rcases hc with z|z
  ·rw[z];exact nit b u e
  ·exact nit c _ z
theorem Inv.tok (I:Inv X pins σ H s) (t:Nat):Inv X pins σ H { s with toks:=t }:=I.un (h':=s.heap) (t':=t) Un.refl I.hok
theorem Inv.kept {t':Nat} (I:Inv X pins σ H s) (k:∀b u,s.heap.get? b=some u->h'.get? b=some u):Inv X pins σ H { s with heap:=h',toks:=t' }:=I.un (Un.kept k) (I.hok.kept k)
theorem Inv.laid {a:Addr}{o:HO}{t':Nat} (I:Inv X pins σ H s) (k:∀b u,s.heap.get? b=some u->h'.get? b=some u) (hp:s.heap.objs.size<=a) (new:Jn X.prog X.w (upd H a o) h' a o) :
  Inv X pins σ (upd H a o) { s with heap:=h',toks:=t' }:=I.un (Un.laid k hp (I.hok.fresh hp)) (I.hok.laid k hp new)
theorem Inv.write {x e:Addr}{o:HO}{t':Nat} (I:Inv X pins σ H s) (mu:Mut (H x)) (he:e=x\/H e=some (.own x)) (k:∀b u,b≠e->s.heap.get? b=some u->h'.get? b=some u) (heo:∃u,h'.get? e=some u)
  (new:Jn X.prog X.w (upd H x o) h' x o):Inv X pins σ (upd H x o) { s with heap:=h',toks:=t' }:=I.un (Un.write mu he k heo) (I.hok.write mu he k heo new)
theorem Inv.pins_of {pins':List (Addr×Obj)} (I:Inv X pins σ H s) (h:∀p∈pins',s.heap.get? p.1=some p.2/\H p.1=none/\p.1≠X.env.locals/\p.1 ∉ X.fs/\∀v,p.2.data≠.cell v):Inv X pins' σ H s:=
 ⟨I.ok,I.os,I.bare,I.base,I.loc,I.cell,I.free,I.freeC,fun p hp=>(Zqo.mp hp).elim (fun z=>I.pin p (Zqp _ z)) (h p),I.hok,I.len⟩
theorem Zg9 {N:List Str} (hN:N.Nodup) {i j:Nat}{x:Str} (a:N[i]?=some x) (b:N[j]?=some x):i=j:=by
 obtain⟨h1,e1⟩:=Zql.mp a
 obtain⟨h2,e2⟩:=Zql.mp b
 exact(List.getElem_inj hN).mp (e1.trans e2.symm)
theorem ZaZ {M:Model}{A:Around}{E:Value->Shared->Prop}{i:Nat}{x:Str}{v:V}{u:Value}{Q:Unit->Shared->Prop} (I:Inv X pins σ H s) (hN:X.N.Nodup) (hi:X.N[i]?=some x) (hx:Loc X.env.scope x) (r:WG v u)
  (h:∀s',Inv X pins (σ.set i (some v)) H s'->(∃a,Heap.SameBut a s.heap s'.heap/\(a=X.env.locals\/X.env.cells.lookup x=some a))->Q () s') (hf:X.fn x=true\/X.env.scope.names.lookup x=some .local):wpAny M A (storeName X.env x u) Q E s:=by
 obtain⟨m,hn,hl⟩:=id I.loc
 have hcls:(X.env.scope.kind==.class || (X.env.scope.kind==.module&&X.env.locals != X.env.globals))=false:=by rw[I.ok.kind];rfl
 have hiσ:i<σ.length:=by rw[I.len];exact(Zql.mp hi).1
 have cne:=I.cne
 have tracked:∀{a:Addr}{h':Heap},(∃o,s.heap.get? a=some o/\H a=none)->Heap.SameBut a s.heap h'->HOk X.prog X.w H h':=fun {a h'} ha hs b ob e=>by
  obtain⟨_,_,hfree⟩:=ha
  refine(I.hok b ob e).stay (fun c w' hc q=>(hs.2 c ?_).trans q) (fun _ q=>q) fun _ _ q=>q
  rintro rfl
  rcases hc with rfl|hc
  ·rw[hfree] at e;cases e
  ·rw[hfree] at hc;cases hc
 rcases hx with hk|hk
 ·refine wpAny_storeName_local hk hn (fun h' hn' hs=>?_) hcls
  obtain⟨oL,_,_,hoL,_⟩:=id hn
  refine h _ ⟨I.ok,I.os,I.bare,⟨fun b o e n hb hx=>?_,fun b o e n hb hx=>?_,I.base.free,fun b o e hx=>?_,I.base.tups,I.base.frzs,I.base.tbls⟩,⟨_,hn',fun j y v' e1 e2 e3=>?_⟩,fun y c e=>?_,I.free,I.freeC,fun p hp=>?_,tracked ⟨oL,hoL,I.free⟩ hs,by simpa using I.len⟩ ⟨_,hs,.inl rfl⟩
  ·exact(hs.2 b (Zq2 (Zqx (Heap.lt_size e) I.ok.above))).trans (I.base.keep b o e n hb hx)
  ·obtain⟨sl,e1⟩:=I.base.slot b o e n hb hx
   exact⟨sl,(hs.2 b (Zq2 (Zqx (Heap.lt_size e) I.ok.above))).trans e1⟩
  ·obtain⟨o',e1⟩:=I.base.there b o e hx
   exact⟨o',(hs.2 b (Zq2 (Zqx (Heap.lt_size e) I.ok.above))).trans e1⟩
  ·by_cases hj:j=i
   ·subst hj
    rw[hi] at e1;cases e1
    rw[Zq9 hiσ] at e2
    cases e2
    exact⟨u,r,.inl ⟨hk,by simp⟩⟩
   ·rw[ZqM (Ne.symm hj)] at e2
    obtain⟨u',r',q⟩:=hl j y v' e1 e2 e3
    refine⟨u',r', ?_⟩
    rcases q with ⟨k,e⟩|⟨k,c,e,z⟩
    ·refine .inl ⟨k, ?_⟩
     have:y≠x:=fun e=>hj (Zg9 hN e1 (e▸hi))
     simp[this,e]
    ·exact .inr ⟨k,c,e,z.sameBut hs (cne y c e)⟩
  ·obtain⟨w',z⟩:=I.cell y c e
   exact⟨w',z.sameBut hs (cne y c e)⟩
  ·obtain⟨e,n,ne,nf,d⟩:=I.pin p hp
   exact⟨(hs.2 p.1 ne).trans e,n,ne,nf,d⟩
 ·have hfn:X.fn x=true:=by
   rcases hf with z|z
   ·exact z
   ·rw[z] at hk;cases hk
  obtain⟨c,hc⟩:=I.ok.has x (.inl hk)
  obtain⟨w',z⟩:=I.cell x c hc
  refine wpAny_storeName_cell I.ok.kind hk hc z (fun h' hc' hs=>?_)
  obtain⟨oc,hoc,hocd⟩:=id z
  refine h { s with heap:=h' } ⟨I.ok,I.os,I.bare,⟨fun b o e n hb hx=>?_,fun b o e n hb hx=>?_,I.base.free,fun b o e hx=>?_,I.base.tups,I.base.frzs,I.base.tbls⟩,⟨m,hn.sameBut hs (Ne.symm (cne x c hc)),fun j y v' e1 e2 e3=>?_⟩,fun y c' e=>?_,I.free,I.freeC,fun p hp=>?_,tracked ⟨oc,hoc,I.freeC x c hc⟩ hs,by simpa using I.len⟩ ⟨c,hs,.inr hc⟩
  ·exact(hs.2 b (Zq2 (Zqx (Heap.lt_size e) (I.ok.cab x c hfn hc)))).trans (I.base.keep b o e n hb hx)
  ·obtain⟨sl,e1⟩:=I.base.slot b o e n hb hx
   exact⟨sl,(hs.2 b (Zq2 (Zqx (Heap.lt_size e) (I.ok.cab x c hfn hc)))).trans e1⟩
  ·obtain⟨o',e1⟩:=I.base.there b o e hx
   exact⟨o',(hs.2 b (Zq2 (Zqx (Heap.lt_size e) (I.ok.cab x c hfn hc)))).trans e1⟩
  ·by_cases hj:j=i
   ·subst hj
    rw[hi] at e1;cases e1
    rw[Zq9 hiσ] at e2
    cases e2
    exact⟨u,r,.inr ⟨.inl hk,c,hc,hc'⟩⟩
   ·rw[ZqM (Ne.symm hj)] at e2
    obtain⟨u',r',q⟩:=hl j y v' e1 e2 e3
    refine⟨u',r', ?_⟩
    rcases q with q|⟨k,c',e,z'⟩
    ·exact .inl q
    ·refine .inr ⟨k,c',e,z'.sameBut hs ?_⟩
     rintro rfl
     exact hj (Zg9 hN e1 (I.ok.inj _ _ _ e hc▸hi))
  ·by_cases hcc:c'=c
   ·subst hcc;exact⟨_,hc'⟩
   ·obtain⟨w2,z2⟩:=I.cell y c' e
    exact⟨w2,z2.sameBut hs hcc⟩
  ·obtain⟨e,n,ne,nf,d⟩:=I.pin p hp
   refine⟨(hs.2 p.1 ?_).trans e,n,ne,nf,d⟩
   intro q
   rw[q,hoc] at e
   have q':oc=p.2:=Option.some.inj e
   exact d w' (by rw[<- q'];exact hocd)
theorem ZaH {M:Model}{A:Around}{E:Value->Shared->Prop}{i:Nat}{x:Str}{v:V}{u:Value}{Q:Unit->Shared->Prop} (I:Inv X pins σ H s) (hN:X.N.Nodup) (hi:X.N[i]?=some x) (hx:Loc X.env.scope x) (r:WG v u)
  (h:∀s',Inv X pins (σ.set i (some v)) H s'->Q () s') (hf:X.fn x=true\/X.env.scope.names.lookup x=some .local):wpAny M A (storeName X.env x u) Q E s:=
 ZaZ I hN hi hx r (fun s' I' _=>h s' I') hf
theorem Inv.call' {s':Shared}{ch:List Addr} (I:Inv X pins σ H s) (ho:s'.os=s.os) (u:Un (frs X.stack) ch H H' s.heap s'.heap) (hok:HOk X.prog X.w H' s'.heap) (hg:AllBare s'.gens)
  (hch:∀b∈ch,(b∈X.ex\/X.s₀.heap.objs.size<=b)/\b≠X.env.locals/\(∀x c,X.env.cells.lookup x=some c->c≠b)/\∀p∈X.pn++pins,p.1≠b):Inv X pins σ H' s':=by
 obtain⟨h',g',d',t',o'⟩:=s'
 have e:o'=s.os:=ho
 subst e
 exact I.call (g':=g') (t':=t') (d':=d') u hok hg hch
end
noncomputable abbrev XK:=Value->Option Addr->Hp->Prop
noncomputable abbrev St:=List (Option V)
noncomputable abbrev VK:=V->Hp->Prop
noncomputable abbrev TE:=St->Hp->VK->Prop
noncomputable abbrev TT:=St->Hp->(Bool->Hp->Prop)->Prop
noncomputable abbrev TA:=St->Hp->(List V->Hp->Prop)->Prop
structure ZhP where
 nx:St->Hp->Prop
 rt:VK
 bk:St->Hp->Prop:=fun _ _=>False
 ct:St->Hp->Prop:=fun _ _=>False
noncomputable abbrev TS:=ZhP->St->Hp->Prop
def EP (X:Cx) (pins:List (Addr×Obj)) (σ:St) (Q:VK) (u:Value) (s':Shared):Prop:=∃v H',Inv X pins σ H' s'/\WG v u/\Q v H'
def TP (X:Cx) (pins:List (Addr×Obj)) (σ:St) (Q:Bool->Hp->Prop) (b:Bool) (s':Shared):Prop:=∃H',Inv X pins σ H' s'/\Q b H'
def AP (X:Cx) (pins:List (Addr×Obj)) (σ:St) (Q:List V->Hp->Prop) (us:List Value) (s':Shared):Prop:=∃vs H',Inv X pins σ H' s'/\YO vs us/\Q vs H'
def SP (X:Cx) (pins:List (Addr×Obj)) (D:ZhP) (f:Flow) (s':Shared):Prop:=
 match f with
 |.next=>∃σ' H',Inv X pins σ' H' s'/\D.nx σ' H'
 |.brk=>∃σ' H',Inv X pins σ' H' s'/\D.bk σ' H'
 |.cont=>∃σ' H',Inv X pins σ' H' s'/\D.ct σ' H'
 |.ret u=>∃v σ' H',Inv X pins σ' H' s'/\WG v u/\D.rt v H'
def PE (X:Cx) (e:Expr) (t:TE):Prop:=
 ∀(pins:List (Addr×Obj)) (s:Shared) (σ:St) (H:Hp) (Q:VK),Inv X pins σ H s->t σ H Q->wpAny (model X.prog X.w) X.A (eval e X.env) (EP X pins σ Q) X.xe s
def PT (X:Cx) (e:Expr) (t:TT):Prop:=
 ∀(pins:List (Addr×Obj)) (s:Shared) (σ:St) (H:Hp) (Q:Bool->Hp->Prop),Inv X pins σ H s->t σ H Q->wpAny (model X.prog X.w) X.A (isTrue e X.env (eval e X.env)) (TP X pins σ Q) X.xe s
def PW (X:Cx) (e:Expr) (t:TT):Prop:=
 ∀(whole:Sem Value) (pins:List (Addr×Obj)) (s:Shared) (σ:St) (H:Hp) (Q:Bool->Hp->Prop),Inv X pins σ H s->t σ H Q->wpAny (model X.prog X.w) X.A (isTrue e X.env whole) (TP X pins σ Q) X.xe s
theorem PW.pt {X:Cx}{e:Expr}{t:TT} (h:PW X e t):PT X e t:=h _
def PA (X:Cx) (es:List Expr) (t:TA):Prop:=
 ∀(pos:Pos) (pins:List (Addr×Obj)) (s:Shared) (σ:St) (H:Hp) (Q:List V->Hp->Prop),Inv X pins σ H s->t σ H Q->wpAny (model X.prog X.w) X.A (spliced (backTo pos (starEach es X.env))) (AP X pins σ Q) X.xe s
def PS (X:Cx) (st:Stmt) (t:TS):Prop:=
 ∀(pins:List (Addr×Obj)) (s:Shared) (σ:St) (H:Hp) (D:ZhP),Inv X pins σ H s->t D σ H->wpAny (model X.prog X.w) X.A (exec st X.env) (SP X pins D) X.xe s
def PSs (X:Cx) (st:List Stmt) (t:TS):Prop:=
 ∀(pins:List (Addr×Obj)) (s:Shared) (σ:St) (H:Hp) (D:ZhP),Inv X pins σ H s->t D σ H->wpAny (model X.prog X.w) X.A (execs st X.env) (SP X pins D) X.xe s
theorem thn {α:Type}{t:Sem α}{Q Q':α->Shared->Prop}{M:Model}{A:Around}{E:Value->Shared->Prop}{s:Shared} (h:wpAny M A t Q E s) (hQ:∀a s,Q a s->Q' a s):wpAny M A t Q' E s:=wpAny_mono h hQ fun _ _ x=>x
section
variable {X:Cx}
noncomputable def Zhi (i:Nat):TE:=fun σ H Q=>∃v,σ[i]?=some (some v)/\Q v H
noncomputable def tC (v:V):TE:=fun _ H Q=>Q v H
theorem Znx {i:Nat}{x:Str}{pos:Pos} (hN:X.N[i]?=some x) (hv:Vis X.env.scope x) (hd:(x==("__debug__":Str))=false:=by decide) (hcd:(x==("__classdict__":Str))=false:=by decide):PE X (.Name x pos) (Zhi i):=by
 intro pins s σ H Q I h
 obtain⟨v,e,h⟩:=h
 obtain⟨m,hn,hl⟩:=I.loc
 obtain⟨u,r,l⟩:=hl i x v hN e hv
 have fin:EP X pins σ Q u s:=⟨v,H,I,r,h⟩
 rcases l with ⟨hk,hm⟩|⟨hk,c,hc,hcell⟩
 ·exact wpAny_Name (wpAny_loadName_local I.ok.kind hk hn hm fin) hd
 ·rcases hk with hk|hk
  ·exact wpAny_Name (wpAny_loadName_cell I.ok.kind hk hc hcell fin) hd
  ·exact wpAny_Name (wpAny_loadName_free I.ok.kind hk hc hcell fin hcd) hd
theorem Zm {i j pos}:PE X (.Constant (.int i) j pos) (tC (.int i)):=fun _ _ _ H _ I h=>wpAny_Constant_int ⟨.int i,H,I.tok _,⟨_,rfl⟩,h⟩
theorem ZeW {b j pos}:PE X (.Constant (.bool b) j pos) (tC (.bl b)):=fun _ _ _ H _ I h=>Constant_bool ⟨.bl b,H,I,rfl,h⟩
theorem Znz {j pos}:PE X (.Constant .none j pos) (tC .non):=fun _ _ _ H _ I h=>Constant_none ⟨.non,H,I,rfl,h⟩
theorem ZdD {x j pos}:PE X (.Constant (.str x) j pos) (tC (.str x)):=fun _ _ _ H _ I h=>Calls.Constant_str ⟨.str x,H,I.tok _,⟨_,rfl⟩,h⟩
def Gl (X:Cx) (x:Str):Prop:=X.env.kindOf x=some .globalImplicit
theorem Zbt {E:Value->Shared->Prop}{pins:List (Addr×Obj)}{s:Shared}{σ:St}{H:Hp}{x:Str}{u:Value}{pos:Pos}{Q:Value->Shared->Prop} (I:Inv X pins σ H s) (hg:Gl X x) (hm:X.mg x=some u) (h:Q u s)
  (hd:(x==("__debug__":Str))=false:=by decide):wpAny (model X.prog X.w) X.A (eval (.Name x pos) X.env) Q E s:=
 Calls.Name_function_global I.ok.kind hg (Calls.loadGlobal_global (by rw[I.ok.glob];exact I.mod.glob.keeps I.bk) hm h) hd
theorem ZdP {E:Value->Shared->Prop}{pins:List (Addr×Obj)}{s:Shared}{σ:St}{H:Hp}{x:Str}{u:Value}{pos:Pos}{Q:Value->Shared->Prop} (I:Inv X pins σ H s) (hg:Gl X x) (hm:X.mg x=none) (hv:bootBuiltins x=some u) (h:Q u s)
  (hn:x ≠ "__name__":=by decide) (hd:(x==("__debug__":Str))=false:=by decide):wpAny (model X.prog X.w) X.A (eval (.Name x pos) X.env) Q E s:=by
 obtain⟨mb,h1,h2⟩:=I.mod.blt
 exact Calls.Name_function_global I.ok.kind hg (Calls.loadGlobal_builtin (by rw[I.ok.glob];exact I.mod.glob.keeps I.bk) hm (by rw[I.ok.blt];exact h1.keeps I.bk) ((h2 x hn).trans hv) h) hd
theorem Zmh {x:Str}{v:V}{u:Value}{pos:Pos} (hg:Gl X x) (hm:X.mg x=some u) (r:WG v u) (hd:(x==("__debug__":Str))=false:=by decide):PE X (.Name x pos) (tC v):=
 fun _ _ _ H _ I h=>Zbt I hg hm ⟨v,H,I,r,h⟩ hd
theorem ZcH {x:Str}{v:V}{u:Value}{pos:Pos} (hg:Gl X x) (hm:X.mg x=none) (hv:bootBuiltins x=some u) (r:WG v u) (hn:x ≠ "__name__":=by decide) (hd:(x==("__debug__":Str))=false:=by decide):PE X (.Name x pos) (tC v):=
 fun _ _ _ H _ I h=>ZdP I hg hm hv ⟨v,H,I,r,h⟩ hn hd
variable {a b:Expr}{ta tb:TE}{pos:Pos}
def PC (X:Cx) (op:CmpOp) (a b:Expr) (t:TE):Prop:=
 ∀(pins:List (Addr×Obj)) (s:Shared) (σ:St) (H:Hp) (Q:VK),Inv X pins σ H s->t σ H Q ->
  wpAny (model X.prog X.w) X.A (eval a X.env) (fun v s₁=>wpAny (model X.prog X.w) X.A (eval b X.env) (fun u s₂=>wpAny (model X.prog X.w) X.A (compareOp op v u) (EP X pins σ Q) X.xe s₂) X.xe s₁) X.xe s
theorem Zkx (b:Expr) {op:CmpOp} (h:op≠.In) (h2:op≠.NotIn):behindInMarks op b=false:=by
 have e1:(op==CmpOp.In)=false:=by cases op<;>first|rfl|exact absurd rfl h
 have e2:(op==CmpOp.NotIn)=false:=by cases op<;>first|rfl|exact absurd rfl h2
 cases b<;>simp[behindInMarks,e1,e2]
noncomputable def tB (t:TE):TT:=fun σ H Q=>t σ H fun x H1=>∃c,x=.bl c/\Q c H1
theorem Znu {op:CmpOp}{t:TE} (h:PC X op a b t) (h1:behindInMarks op b=false:=by first|exact Zkx _ (by decide) (by decide)|rfl):PT X (.Compare a [op] [b] pos) (tB t):=by
 intro pins s σ H Q I hw
 refine wpAny_isTrue_Compare1 (thn (h pins s σ H _ I hw) fun v s1 h1=>thn h1 fun u s2 h2=>thn h2 fun c s3 ⟨x,H1,I1,r1,q1⟩=>?_) h1
 obtain⟨d,rfl,q⟩:=q1
 cases r1
 exact wpAny_truthy_bool ⟨H1,I1,q⟩
theorem Zbe {e:Expr}{t:TE} (h:PE X e t) (he:∀whole,isTrue e X.env whole=(do let v <- whole;standAt e.pos;holding [v] (truthy v)):=by exact fun _=>rfl):PT X e (tB t):=by
 intro pins s σ H Q I hw
 refine isTrue_plain (thn (h pins s σ H _ I hw) fun v s1 ⟨x,H1,I1,r1,q1⟩=>?_) (he _)
 obtain⟨d,rfl,q⟩:=q1
 cases r1
 exact wpAny_truthy_bool ⟨H1,I1,q⟩
variable {tA tB':TT}{ZhQ:List Expr}
noncomputable def Zp5 (t u:TT):TT:=fun σ H Q=>t σ H fun c H1=>if c=true then u σ H1 Q else Q false H1
noncomputable def tOr (t u:TT):TT:=fun σ H Q=>t σ H fun c H1=>if c=true then Q true H1 else u σ H1 Q
noncomputable def Zp2 (t:TT):TT:=fun σ H Q=>t σ H fun c H1=>Q (!c) H1
theorem ZcF (ha:PT X a tA):PW X (.BoolOp .And [a] pos) tA:=by
 intro wh pins s σ H Q I h
 refine isTrue_and (thn (ha pins s σ H Q I h) fun c s1 e=>?_)
 cases c with
 |true=>exact isTrue_and_nil e
 |false=>exact e
theorem Zbd (ha:PT X a tA):PW X (.BoolOp .Or [a] pos) tA:=by
 intro wh pins s σ H Q I h
 refine isTrue_or (thn (ha pins s σ H Q I h) fun c s1 e=>?_)
 cases c with
 |false=>exact isTrue_or_nil e
 |true=>exact e
theorem Zgt (ha:PT X a tA) (hb:PW X (.BoolOp .And (b::ZhQ) pos) tB'):PW X (.BoolOp .And (a::b::ZhQ) pos) (Zp5 tA tB'):=by
 intro wh pins s σ H Q I h
 refine isTrue_and (thn (ha pins s σ H _ I h) fun c s1 ⟨H1,I1,q1⟩=>?_)
 cases c with
 |true=>exact hb wh pins s1 σ H1 Q I1 q1
 |false=>exact⟨H1,I1,q1⟩
theorem ZeV (ha:PT X a tA) (hb:PW X (.BoolOp .Or (b::ZhQ) pos) tB'):PW X (.BoolOp .Or (a::b::ZhQ) pos) (tOr tA tB'):=by
 intro wh pins s σ H Q I h
 refine isTrue_or (thn (ha pins s σ H _ I h) fun c s1 ⟨H1,I1,q1⟩=>?_)
 cases c with
 |true=>exact⟨H1,I1,q1⟩
 |false=>exact hb wh pins s1 σ H1 Q I1 q1
theorem Zcg (ha:PT X a tA):PT X (.UnaryOp .Not a pos) (Zp2 tA):=by
 intro pins s σ H Q I h
 exact isTrue_not (ha pins s σ H (fun c H1=>Q (!c) H1) I h)
noncomputable def Znn (ta tb:TE):TE:=fun σ H Q=>ta σ H fun x H1=>∃c,x=.bl c/\if c=true then tb σ H1 Q else Q (.bl false) H1
noncomputable def Zp1 (ta tb:TE):TE:=fun σ H Q=>ta σ H fun x H1=>∃c,x=.bl c/\if c=true then Q (.bl true) H1 else tb σ H1 Q
noncomputable def Znj (ta:TE):TE:=fun σ H Q=>ta σ H fun x H1=>∃c,x=.bl c/\Q (.bl (!c)) H1
theorem Zck {op}{t:TE} (h:PE X a t):PE X (.BoolOp op [a] pos) t:=fun pins s σ H Q I hw=>BoolOp_one (h pins s σ H Q I hw)
theorem ZdE (ha:PE X a ta) (hb:PE X (.BoolOp .And (b::ZhQ) pos) tb):PE X (.BoolOp .And (a::b::ZhQ) pos) (Znn ta tb):=by
 intro pins s σ H Q I h
 refine BoolOp_and (thn (ha pins s σ H _ I h) fun v s1 ⟨x,H1,I1,r1,q1⟩=>?_)
 obtain⟨c,rfl,q1⟩:=q1
 cases r1
 refine wpAny_truthy_bool ?_
 cases c with
 |true=>exact hb pins s1 σ H1 Q I1 q1
 |false=>exact⟨.bl false,H1,I1,rfl,q1⟩
theorem ZoO (ha:PE X a ta) (hb:PE X (.BoolOp .Or (b::ZhQ) pos) tb):PE X (.BoolOp .Or (a::b::ZhQ) pos) (Zp1 ta tb):=by
 intro pins s σ H Q I h
 refine BoolOp_or (thn (ha pins s σ H _ I h) fun v s1 ⟨x,H1,I1,r1,q1⟩=>?_)
 obtain⟨c,rfl,q1⟩:=q1
 cases r1
 refine wpAny_truthy_bool ?_
 cases c with
 |false=>exact hb pins s1 σ H1 Q I1 q1
 |true=>exact⟨.bl true,H1,I1,rfl,q1⟩
theorem Zny (ha:PE X a ta):PE X (.UnaryOp .Not a pos) (Znj ta):=by
 intro pins s σ H Q I h
 refine UnaryOp_ (thn (ha pins s σ H _ I h) fun v s1 ⟨x,H1,I1,r1,q1⟩=>?_)
 obtain⟨c,rfl,q1⟩:=q1
 cases r1
 exact not_of (wpAny_truthy_bool ⟨.bl (!c),H1,I1,rfl,q1⟩)
end
def SqL (K:W.Frag) (H:Hp) (a:Addr) (xs:List V):Prop:=
 Rd H a (.lst xs) \/
  ∃(o:Obj) (its:Array Value) (n:Nat),K.lookup a=some o/\o.cls=.type "list"/\o.dict=none/\o.data=.seq its n/\its.size<=sizeLine/\YO xs its.toList
def SqT (K:W.Frag) (H:Hp) (a:Addr) (xs:List V):Prop:=
 Rd H a (.tup xs) \/
  ∃(o:Obj) (its:Array Value) (n:Nat),K.lookup a=some o/\o.cls=.type "tuple"/\o.data=.seq its n/\its.size<=sizeLine/\YO xs its.toList
noncomputable def Zqd:Value->Option V
 |.none=>some .non
 |.bool b=>some (.bl b)
 |.int i _=>some (.int i)
 |.str x _=>some (.str x)
 |.bytes b _=>some (.byt b)
 |.float b _=>some (.flt b)
 |.ref a=>some (.ref a)
 |.type n=>some (.ty n)
 |_=>none
theorem WG.abs {x:V}{u:Value} (r:WG x u):Zqd u=some x:=by
 cases x with
 |non=>cases r;rfl
 |bl _=>cases r;rfl
 |int _=>obtain⟨t,rfl⟩:=r;rfl
 |str _=>obtain⟨t,rfl⟩:=r;rfl
 |byt _=>obtain⟨t,rfl⟩:=r;rfl
 |flt _=>obtain⟨t,rfl⟩:=r;rfl
 |ref _=>cases r;rfl
 |ty _=>cases r;rfl
theorem WG.inj {x y:V}{u:Value} (r:WG x u) (q:WG y u):x=y:=Option.some.inj (r.abs.symm.trans q.abs)
theorem YO.inj:∀{xs ys:List V}{us:List Value},YO xs us->YO ys us->xs=ys
 |_,_,_,.nil,.nil=>rfl
 |_,_,_,.cons r t,.cons r' t'=>by rw[r.inj r',YO.inj t t']
section
variable {X:Cx}{pins:List (Addr×Obj)}{σ:St}{H:Hp}{s:Shared}{a:Addr}{xs ys:List V}
theorem SqL.of {K:W.Frag} (h:H a=some (.lst xs)):SqL K H a xs:=.inl (.inl h)
theorem Inv.list (I:Inv X pins σ H s) (h:SqL X.K H a xs):∃its:List Value,YO xs its/\PlainL s.heap a its.toArray/\xs.length<=sizeLine:=by
 rcases h with h|⟨o,its,n,hk,hc,hd,hs,hz,r⟩
 ·obtain⟨z,its,n,r,e⟩:=h.ok I.hok
  exact⟨its,r,⟨_,n,e,rfl,rfl,rfl⟩,z⟩
 ·refine⟨its.toList,r,⟨o,n,I.kIn a o hk,hc,hd,by simpa using hs⟩, ?_⟩
  have e:=r.length
  simp only[Zqq] at e
  omega
theorem Inv.tuple (I:Inv X pins σ H s) (h:SqT X.K H a xs):∃its:List Value,YO xs its/\IsTup s.heap a its.toArray/\xs.length<=sizeLine:=by
 rcases h with h|⟨o,its,n,hk,hc,hs,hz,r⟩
 ·obtain⟨z,its,r,p⟩:=h.ok I.hok
  exact⟨its,r,p,z⟩
 ·refine⟨its.toList,r,⟨o,I.kIn a o hk,hc,n,by simpa using hs⟩, ?_⟩
  have e:=r.length
  simp only[Zqq] at e
  omega
theorem Inv.list_inj (I:Inv X pins σ H s) (h:SqL X.K H a xs) (h':SqL X.K H a ys):xs=ys:=by
 obtain⟨its,r,⟨o,n,e,_,_,d⟩,_⟩:=I.list h
 obtain⟨its',r',⟨o',n',e',_,_,d'⟩,_⟩:=I.list h'
 rw[e] at e';cases e'
 rw[d] at d'
 injection d' with d1 _
 have:its=its':=by simpa using congrArg Array.toList d1
 subst this
 exact r.inj r'
theorem Inv.tuple_inj (I:Inv X pins σ H s) (h:SqT X.K H a xs) (h':SqT X.K H a ys):xs=ys:=by
 obtain⟨its,r,⟨o,e,_,n,d⟩,_⟩:=I.tuple h
 obtain⟨its',r',⟨o',e',_,n',d'⟩,_⟩:=I.tuple h'
 rw[e] at e';cases e'
 rw[d] at d'
 injection d' with d1 _
 have:its=its':=by simpa using congrArg Array.toList d1
 subst this
 exact r.inj r'
end
noncomputable abbrev Cx.wish (X:Cx) (E:Value->Shared->Prop):Cx:={ X with xe:=E }
noncomputable abbrev Cx.nox (X:Cx):Cx:=X.wish fun _ _=>False
theorem Cx.Ok.wish {X:Cx} (ok:X.Ok) (E:Value->Shared->Prop):(X.wish E).Ok:=
 ⟨ok.mod,ok.kind,ok.glob,ok.blt,ok.above,ok.inj,ok.has,ok.cab,ok.hd,ok.frames,ok.stk,ok.exf,ok.bs,ok.bsz,ok.noex,ok.exfs,ok.funs,ok.frf⟩
theorem Cx.Ok.unwish {X:Cx}{E:Value->Shared->Prop} (ok:(X.wish E).Ok):X.Ok:=
 ⟨ok.mod,ok.kind,ok.glob,ok.blt,ok.above,ok.inj,ok.has,ok.cab,ok.hd,ok.frames,ok.stk,ok.exf,ok.bs,ok.bsz,ok.noex,ok.exfs,ok.funs,ok.frf⟩
section
variable {X:Cx}{pins:List (Addr×Obj)}{σ:St}{H:Hp}{s:Shared}{E:Value->Shared->Prop}
theorem Inv.wish (I:Inv X pins σ H s) (E:Value->Shared->Prop):Inv (X.wish E) pins σ H s:=⟨I.ok.wish E,I.os,I.bare,I.base,I.loc,I.cell,I.free,I.freeC,I.pin,I.hok,I.len⟩
theorem Inv.unwish (I:Inv (X.wish E) pins σ H s):Inv X pins σ H s:=⟨I.ok.unwish,I.os,I.bare,I.base,I.loc,I.cell,I.free,I.freeC,I.pin,I.hok,I.len⟩
theorem SP.unwish {D:ZhP}{f:Flow}{s':Shared} (h:SP (X.wish E) pins D f s'):SP X pins D f s':=by
 cases f with
 |next=>obtain⟨σ',H',I,q⟩:=h;exact⟨σ',H',I.unwish,q⟩
 |brk=>obtain⟨σ',H',I,q⟩:=h;exact⟨σ',H',I.unwish,q⟩
 |cont=>obtain⟨σ',H',I,q⟩:=h;exact⟨σ',H',I.unwish,q⟩
 |ret u=>obtain⟨v,σ',H',I,r,q⟩:=h;exact⟨v,σ',H',I.unwish,r,q⟩
theorem PSs.nox {st:List Stmt}{t:TS} (h:PSs X.nox st t):PSs X st t:=fun pins s σ H D I hw =>
 wpAny_mono (h pins s σ H D (I.wish _) hw) (fun _ _ q=>q.unwish) fun _ _ z=>False.elim z
end
section
variable {X:Cx}{st:Stmt}{ZhQ:List Stmt}{t u:TS}{e:Expr}{te:TE}{pos:Pos}
noncomputable def Znk:TS:=fun D σ H=>D.nx σ H
noncomputable def Zp0 (t u:TS):TS:=fun D σ H=>t { D with nx:=u D } σ H
theorem Yu:PSs X [] Znk:=fun _ _ σ H _ I h=>wpAny_execs_nil ⟨σ,H,I,h⟩
theorem Zh (h1:PS X st t) (h2:PSs X ZhQ u):PSs X (st::ZhQ) (Zp0 t u):=by
 intro pins s σ H D I h
 refine wpAny_execs_cons (thn (h1 pins s σ H { D with nx:=u D } I h) fun f s1 q=>?_)
 cases f with
 |next =>
  obtain⟨σ',H',I',q⟩:=q
  exact h2 pins s1 σ' H' D I' q
 |ret v=>exact q
 |brk=>exact q
 |cont=>exact q
theorem Zj (h1:PS X st t):PSs X [st] t:=by
 intro pins s σ H D I h
 refine wpAny_execs_cons (thn (h1 pins s σ H D I h) fun f s1 q=>?_)
 cases f with
 |next=>exact wpAny_execs_nil q
 |ret v=>exact q
 |brk=>exact q
 |cont=>exact q
theorem Inv.quiet {pins:List (Addr×Obj)}{σ:St}{H:Hp}{s:Shared} (I:Inv X pins σ H s):interactive X.env=false:=by simp[interactive,I.ok.kind]
noncomputable def ZlP (te:TE):TS:=fun D σ H=>te σ H fun _ H1=>D.nx σ H1
theorem UH (he:PE X e te) (hs:swapsWith e none pos.line X.env=pure false:=by rfl):PS X (.Expr e pos) (ZlP te):=by
 intro pins s σ H D I h
 exact wpAny_Expr_any (thn (he pins s σ H _ I h) fun v s1 ⟨x,H1,I1,r1,q1⟩=>⟨σ,H1,I1,q1⟩) I.quiet hs
noncomputable def Znh (te:TE):TS:=fun D σ H=>te σ H D.rt
theorem ZB (he:PE X e te):PS X (.Return (some e) pos) (Znh te):=by
 intro pins s σ H D I h
 exact wpAny_Return_some (thn (he pins s σ H _ I h) fun v s1 ⟨x,H1,I1,r1,q1⟩=>⟨x,σ,H1,I1,r1,q1⟩)
noncomputable def Zp3 (c:TT) (t u:TS):TS:=fun D σ H=>c σ H fun b H1=>if b=true then t D σ H1 else u D σ H1
theorem Vi {c:Expr}{a b:List Stmt}{tc:TT} (hc:PT X c tc) (ha:PSs X a t) (hb:PSs X b u):PS X (.If c a b pos) (Zp3 tc t u):=by
 intro pins s σ H D I h
 refine wpAny_If (thn (hc pins s σ H _ I h) fun d s1 ⟨H1,I1,q1⟩=>?_)
 cases d with
 |true=>exact ha pins s1 σ H1 D I1 q1
 |false=>exact hb pins s1 σ H1 D I1 q1
end
noncomputable abbrev TG:=V->St->Hp->(St->Hp->Prop)->Prop
noncomputable abbrev TGs:=List V->St->Hp->(St->Hp->Prop)->Prop
def PG (X:Cx) (target:Expr) (t:TG):Prop:=
 ∀(pins:List (Addr×Obj)) (s:Shared) (σ:St) (H:Hp) (v:V) (u:Value) (Q:St->Hp->Prop),Inv X pins σ H s->WG v u->t v σ H Q ->
  wpAny (model X.prog X.w) X.A (assign target X.env u) (fun _ s'=>∃σ' H',Inv X pins σ' H' s'/\Q σ' H') X.xe s
def PGs (X:Cx) (ts:List Expr) (t:TGs):Prop:=
 ∀(pins:List (Addr×Obj)) (s:Shared) (σ:St) (H:Hp) (vs:List V) (us:List Value) (Q:St->Hp->Prop),Inv X pins σ H s->YO vs us->t vs σ H Q ->
  wpAny (model X.prog X.w) X.A (assignInOrder ((assignEach ts X.env).map (·.2)) us) (fun _ s'=>∃σ' H',Inv X pins σ' H' s'/\Q σ' H') X.xe s
noncomputable abbrev Zou:=V->V->V->Hp->(Hp->Prop)->Prop
def Zps (X:Cx) (t:Zou):Prop:=
 ∀(pins:List (Addr×Obj)) (s:Shared) (σ:St) (H:Hp) (o i v:V) (ov iv u:Value) (Q:Hp->Prop),Inv X pins σ H s->WG o ov->WG i iv->WG v u->t o i v H Q ->
  wpAny (model X.prog X.w) X.A (setItem ov iv u) (fun _ s'=>∃H',Inv X pins σ H' s'/\Q H') X.xe s
noncomputable abbrev TIp:=V->V->Hp->VK->Prop
def PIp (X:Cx) (op:Operator) (t:TIp):Prop:=
 ∀(pins:List (Addr×Obj)) (s:Shared) (σ:St) (H:Hp) (x y:V) (v u:Value) (Q:VK),Inv X pins σ H s->WG x v->WG y u->t x y H Q ->
  wpAny (model X.prog X.w) X.A (inplaceOp op v u) (EP X pins σ Q) X.xe s
section
variable {X:Cx}{pos:Pos}
noncomputable def ZcW (i:Nat):TG:=fun v σ H Q=>Q (σ.set i (some v)) H
theorem Ws {i:Nat}{x:Str} (hN:X.N.Nodup) (hi:X.N[i]?=some x) (hx:Loc X.env.scope x) (hf:X.fn x=true\/X.env.scope.names.lookup x=some .local:=by first|exact .inl rfl|exact .inr rfl|assumption):PG X (.Name x pos) (ZcW i):=by
 intro pins s σ H v u Q I r h
 exact wpAny_assign_Name (ZaH I hN hi hx r (fun s' I'=>⟨_,H,I',h⟩) hf)
noncomputable def ZpI:TGs:=fun vs σ H Q=>vs=[]/\Q σ H
noncomputable def ZnU (t:TG) (u:TGs):TGs:=fun vs σ H Q=>∃v r,vs=v::r/\t v σ H fun σ' H'=>u r σ' H' Q
theorem Zmg:PGs X [] ZpI:=by
 intro pins s σ H vs us Q I r h
 obtain⟨e,h⟩:=h
 subst e
 cases r
 exact assignInOrder_nil ⟨σ,H,I,h⟩
theorem Zgw {e:Expr}{es:List Expr}{t:TG}{u:TGs} (h1:PG X e t) (h2:PGs X es u)
  (hs:(assignEach (e::es) X.env).map (·.2)=assign e X.env::(assignEach es X.env).map (·.2):=by rfl):PGs X (e::es) (ZnU t u):=by
 intro pins s σ H vs us Q I r h
 obtain⟨v,vr,e1,h⟩:=h
 subst e1
 cases r with
 |cons r rr =>
  rw[hs]
  refine assignInOrder_cons (thn (h1 pins s σ H _ _ _ I r h) fun _ s1 ⟨σ1,H1,I1,q1⟩=>?_)
  exact h2 pins s1 σ1 H1 _ _ Q I1 rr q1
noncomputable def ZpG (K:W.Frag) (n:Nat) (t:TGs):TG:=fun v σ H Q=>∃a xs,v=.ref a/\SqT K H a xs/\xs.length=n/\t xs σ H Q
theorem Znw {es:List Expr}{k:Nat}{t:TGs}{n:Nat} (hc:X.calm=true) (h:PGs X es t)
  (hn:(assignEach es X.env).length=n:=by rfl) (hst:(assignEach es X.env).findIdx? (·.1)=none:=by rfl):PG X (.Tuple es k pos) (ZpG X.K n t):=by
 intro pins s σ H v u Q I r hw
 obtain⟨a,xs,e1,hq,hl,hw⟩:=hw
 subst e1
 cases r
 obtain⟨its,rv,ht,hz⟩:=I.tuple hq
 refine assign_Tuple_tuple (I.ok.hd hc) ht (by simp[hn,<- hl,rv.length]) hst fun h' hx=>?_
 have I1:Inv X pins σ H { s with heap:=h' }:=I.kept (t':=s.toks) fun b o e=>hx b o (Zq2 (Heap.lt_size e)) e
 exact h pins _ σ H xs _ Q I1 (by simpa using rv) hw
noncomputable def ZpH (to ti:TE) (t:Zou):TG:=fun v σ H Q=>to σ H fun o H1=>ti σ H1 fun i H2=>t o i v H2 fun H3=>Q σ H3
theorem Zci {o i:Expr}{to ti:TE}{t:Zou} (ho:PE X o to) (hi:PE X i ti) (hs:Zps X t)
  (ha:∀v,assign (.Subscript o i pos) X.env v=(do
   let ov <- holding [v] (eval o X.env)
   let iv <- holding [v,ov] (eval i X.env)
   standAt pos
   holding [v,ov,iv] (setItem ov iv v)
   release [v,ov,iv] []):=by exact fun _=>rfl):PG X (.Subscript o i pos) (ZpH to ti t):=by
 intro pins s σ H v u Q I r h
 rw[ha]
 refine wpAny_bind (wpAny_holding (thn (ho pins s σ H _ I h) fun ov s1 ⟨x,H1,I1,r1,q1⟩=>?_))
 refine wpAny_bind (wpAny_holding (thn (hi pins s1 σ H1 _ I1 q1) fun iv s2 ⟨y,H2,I2,r2,q2⟩=>?_))
 refine wpAny_bind (wpAny_standAt (wpAny_bind (wpAny_holding (thn (hs pins s2 σ H2 x y v ov iv u _ I2 r1 r2 r q2) fun _ s3 ⟨H3,I3,q3⟩=>?_))))
 exact wpAny_release ⟨σ,H3,I3,q3⟩
noncomputable def Zld (te:TE) (g:TG):TS:=fun D σ H=>te σ H fun x H1=>g x σ H1 D.nx
theorem Zbg {tg e:Expr}{te:TE}{g:TG} (he:PE X e te) (hg:PG X tg g) (hs:swapsWithSole [tg] e pos.line X.env=pure false:=by rfl) (hw:swappedStores [tg] e X.env=pure none:=by rfl)
  (h1:(assignEach [tg] X.env).map (·.2)=[assign tg X.env]:=by rfl):PS X (.Assign [tg] e pos) (Zld te g):=by
 intro pins s σ H D I h
 refine wpAny_Assign_stores (thn (he pins s σ H _ I h) fun v s1 ⟨x,H1,I1,r1,q1⟩=>?_) hs hw
 rw[h1]
 exact thn (hg pins s1 σ H1 x v _ I1 r1 q1) fun _ s2 q=>q
theorem ZA {i:Nat}{x:Str}{e:Expr}{te:TE}{pos':Pos} (hN:X.N.Nodup) (hi:X.N[i]?=some x) (hx:Loc X.env.scope x) (he:PE X e te) (hs:swapsWith e (some (.Name x pos')) pos.line X.env=pure false:=by rfl) (hf:X.fn x=true\/X.env.scope.names.lookup x=some .local:=by first|exact .inl rfl|exact .inr rfl|assumption) :
  PS X (.Assign [.Name x pos'] e pos) (Zld te (ZcW i)):=by
 intro pins s σ H D I h
 refine wpAny_Assign_Name (thn (he pins s σ H _ I h) fun v s1 ⟨y,H1,I1,r1,q1⟩=>?_) hs
 exact ZaH I1 hN hi hx r1 (fun s2 I2=>⟨_,H1,I2,q1⟩) hf
noncomputable def Znm (to ti te:TE) (tget:V->V->Hp->VK->Prop) (tip:TIp) (tset:Zou):TS:=fun D σ H=>to σ H fun o H1=>ti σ H1 fun i H2=>tget o i H2 fun x H3=>te σ H3 fun y H4=>tip x y H4 fun z H5=>tset o i z H5 fun H6=>D.nx σ H6
def Zpt (X:Cx) (t:V->V->Hp->VK->Prop):Prop:=
 ∀(pins:List (Addr×Obj)) (s:Shared) (σ:St) (H:Hp) (o i:V) (ov iv:Value) (Q:VK),Inv X pins σ H s->WG o ov->WG i iv->t o i H Q ->
  wpAny (model X.prog X.w) X.A (getItem ov iv) (EP X pins σ Q) X.xe s
theorem Zmc {o i e:Expr}{to ti te:TE}{tget:V->V->Hp->VK->Prop}{tip:TIp}{tset:Zou}{op:Operator}{tpos:Pos} (ho:PE X o to) (hi:PE X i ti) (hg:Zpt X tget) (he:PE X e te) (hp:PIp X op tip) (hs:Zps X tset)
  (ha:∀ov iv new,augStore i ov iv new=(do holding [new,ov,iv] (setItem ov iv new);release [new,ov,iv] [];pure .next):=by intros;rfl):PS X (.AugAssign (.Subscript o i tpos) op e pos) (Znm to ti te tget tip tset):=by
 intro pins s σ H D I h
 refine wpAny_AugAssign_SubscriptAny (thn (ho pins s σ H _ I h) fun ov s1 ⟨x1,H1,I1,r1,q1⟩=>?_) ha
 refine thn (hi pins s1 σ H1 _ I1 q1) fun iv s2 ⟨x2,H2,I2,r2,q2⟩=>?_
 refine thn (hg pins s2 σ H2 x1 x2 ov iv _ I2 r1 r2 q2) fun old s3 ⟨x3,H3,I3,r3,q3⟩=>?_
 refine thn (he pins s3 σ H3 _ I3 q3) fun v s4 ⟨x4,H4,I4,r4,q4⟩=>?_
 refine thn (hp pins s4 σ H4 x3 x4 old v _ I4 r3 r4 q4) fun new s5 ⟨x5,H5,I5,r5,q5⟩=>?_
 exact thn (hs pins s5 σ H5 x1 x2 x5 ov iv new _ I5 r1 r2 r5 q5) fun _ s6 ⟨H6,I6,q6⟩=>⟨σ,H6,I6,q6⟩
noncomputable def ipI (f:Int->Int->Int):TIp:=fun x y H Q=>∃i j,x=.int i/\y=.int j/\Q (.int (f i j)) H
theorem ZnO:PIp X .Add (ipI fun i j=>i+j):=by
 intro pins s σ H x y v u Q I r1 r2 h
 obtain⟨i,j,e1,e2,q⟩:=h
 subst e1;subst e2
 obtain⟨t,rfl⟩:=r1
 obtain⟨t',rfl⟩:=r2
 exact iadd_int ⟨.int _,H,I.tok _,⟨_,rfl⟩,q⟩
end
section
variable {X:Cx}{pos:Pos}
noncomputable def ZkZ (c:TT) (tb:TS):TS:=fun D σ H=>∃W:Nat->St->Hp->Prop,(∃m,W m σ H)/\∀m σ H,W m σ H ->
 c σ H fun b H1=>if b=true then ∃N:St->Hp->Prop,(∀σ' H',N σ' H'->∃m',m'<m/\W m' σ' H')/\tb { D with nx:=N,ct:=N,bk:=D.nx } σ H1 else D.nx σ H1
theorem Zkg {c:Expr}{body:List Stmt}{tc:TT}{tb:TS} (hp:PassesOwn (model X.prog X.w) X.A X.env X.xe) (hc:PT X c tc) (hb:PSs X body tb):PS X (.While c body [] pos) (ZkZ tc tb):=by
 intro pins s σ H D I h
 obtain⟨W,⟨m0,w0⟩,turn⟩:=h
 refine wpAny_While (codeAny_whileLoop (fun n s'=>∃σ' H',Inv X pins σ' H' s'/\W n σ' H') ?_ m0 ⟨σ,H,I,w0⟩)
 rintro n s1 ⟨σ1,H1,I1,w1⟩
 refine wpAny_passesOwn hp (thn (hc pins s1 σ1 H1 _ I1 (turn n σ1 H1 w1)) fun b s2 ⟨H2,I2,q2⟩=>?_)
 cases b with
 |true =>
  obtain⟨N,hN,q2⟩:=q2
  rw[if_pos rfl]
  refine wpAny_passesOwn hp (thn (hb pins s2 σ1 H2 _ I2 q2) fun f s3 q3=>?_)
  cases f with
  |next =>
   obtain⟨σ3,H3,I3,n3⟩:=q3
   obtain⟨m',hm,w3⟩:=hN σ3 H3 n3
   exact⟨m',hm,σ3,H3,I3,w3⟩
  |cont =>
   obtain⟨σ3,H3,I3,n3⟩:=q3
   obtain⟨m',hm,w3⟩:=hN σ3 H3 n3
   exact⟨m',hm,σ3,H3,I3,w3⟩
  |brk=>exact q3
  |ret v=>exact q3
 |false =>
  rw[if_neg Bool.false_ne_true]
  exact wpAny_execs_nil ⟨σ1,H2,I2,q2⟩
end
structure It where
 go:Nat->Hp->Prop
 yld:Nat->Hp->V->Hp->Prop
 stop:Nat->Hp->Prop
def ZhU (X:Cx) (pins:List (Addr×Obj)) (H:Hp) (b:Addr):Prop:=
 H b=none/\b≠X.env.locals/\b ∉ X.fs/\(b∈X.ex\/X.s₀.heap.objs.size<=b)/\(∀x c,X.env.cells.lookup x=some c->c≠b)/\∀p∈X.pn++pins,p.1≠b
theorem Inv.fpOk {X:Cx}{pins:List (Addr×Obj)}{σ:St}{H H':Hp}{s:Shared}{b:Addr} (I:Inv X pins σ H s) (hb:s.heap.objs.size<=b) (hn:H' b=none):ZhU X pins H' b:=by
 refine⟨hn,Zr4 (Zqx I.lt hb),I.nofs hb,.inr (Zq3 I.sz hb),fun x c e z=>?_,fun p hp z=>?_⟩
 ·obtain⟨v,q⟩:=I.cell x c e
  exact absurd (Zqx q.lt (by rw[z];exact hb)) (ZqP _)
 ·exact absurd (Zqx (Heap.lt_size (I.pin p hp).1) (by rw[z];exact hb)) (ZqP _)
structure ZmY (P:Program) (w:World) (K:PySem.W.Frag) (tg:Expr) (J:It) (fp:List Addr) (it:Addr) (tn:Nat->Heap->Prop):Prop where
 mem:it∈fp
 obj:∀i h,tn i h->∀b∈fp,∃o,h.get? b=some o/\∀v,o.data≠.cell v
 keep:∀i h h',tn i h->(∀b∈fp,∀o,h.get? b=some o->h'.get? b=some o)->tn i h'
 item:∀(X:Cx),X.prog=P->X.w=w->X.K=K->X.calm=true->∀(i:Nat) (pins:List (Addr×Obj)) (s:Shared) (σ:St) (H:Hp) (E:Value->Shared->Prop),Inv X pins σ H s->(∀b∈fp,ZhU X pins H b)->tn i s.heap->J.go i H ->
  wpAny (model P w) X.A (pyNext (.ref it)) (fun r s1=>∃u,r=some u /\
   wpAny (model P w) X.A (letOwnedTupleGo tg (.ref it) u) (fun _ s2=>∃x H',Inv X pins σ H' s2/\WG x u/\J.yld i H x H'/\tn (i+1) s2.heap/\∀b∈fp,H' b=none) E s1) E s
 done:∀(X:Cx),X.prog=P->X.w=w->X.K=K->X.calm=true->∀(i:Nat) (pins:List (Addr×Obj)) (s:Shared) (σ:St) (H:Hp) (E:Value->Shared->Prop),Inv X pins σ H s->(∀b∈fp,ZhU X pins H b)->tn i s.heap->J.stop i H ->
  wpAny (model P w) X.A (pyNext (.ref it)) (fun r s1=>r=none/\Inv X pins σ H s1) E s
 self:∀(A:Around) (i:Nat) (s:Shared) (Q:Value->Shared->Prop) (E:Value->Shared->Prop),tn i s.heap->Q (.ref it) s->wpAny (model P w) A (pyIter (.ref it)) Q E s
noncomputable abbrev TI:=St->Hp->(It->Hp->Prop)->Prop
def PIE (X:Cx) (pins:List (Addr×Obj)) (σ:St) (tg:Expr) (R:It->Hp->Prop) (itv:Value) (s2:Shared):Prop:=
 ∃(it:Addr) (fp:List Addr) (tn:Nat->Heap->Prop) (J:It) (H':Hp),itv=.ref it/\Inv X pins σ H' s2/\ZmY X.prog X.w X.K tg J fp it tn/\tn 0 s2.heap/\(∀b∈fp,ZhU X pins H' b)/\R J H'
def PI (X:Cx) (tg iter:Expr) (wi:TI):Prop:=
 ∀(pins:List (Addr×Obj)) (s:Shared) (σ:St) (H:Hp) (R:It->Hp->Prop),Inv X pins σ H s->wi σ H R ->
  wpAny (model X.prog X.w) X.A (eval iter X.env) (fun v s1=>wpAny (model X.prog X.w) X.A (pyIter v) (PIE X pins σ tg R) X.xe s1) X.xe s
theorem Zm3 {M:Model}{A:Around}{E:Value->Shared->Prop}{s:Shared}{tg:Expr}{it:Addr}{u:Value}{o:Obj}{n:String}{vs:Array Value}{Q:Unit->Shared->Prop} (ho:s.heap.get? it=some o) (hc:o.cls=.type n) (hd:o.data=.fields vs)
  (hn:["enumerate", "zip", "dict_itemiterator", "dict_reverseitemiterator", "odict_iterator", "itertools.zip_longest", "itertools.pairwise"].contains n=false) (hQ:Q () s):wpAny M A (letOwnedTupleGo tg (.ref it) u) Q E s:=by
 unfold letOwnedTupleGo
 cases tg<;>first
  |exact wpAny_pure hQ
  |(cases u<;>first
    |exact wpAny_pure hQ
    |(refine wpAny_bind (wpAny_load ho ?_)
      rw[hc,hd]
      show wpAny M A (if (["enumerate", "zip", "dict_itemiterator", "dict_reverseitemiterator", "odict_iterator", "itertools.zip_longest", "itertools.pairwise"].contains n&&vs[0]?==some (rawInt _))=true then _ else _) Q E s
      rw[if_neg (by intro h;rw[hn,Bool.false_and] at h;cases h)]
      exact wpAny_pure hQ))
noncomputable def Itl (K:W.Frag) (a:Addr):It:=
 ⟨fun i H=>∃xs x,SqL K H a xs/\xs[i]?=some x,fun i H x H'=>H'=H/\∀xs,SqL K H a xs->xs[i]?=some x,fun i H=>∃xs,SqL K H a xs/\xs.length<=i⟩
noncomputable def Itt (K:W.Frag) (a:Addr):It:=
 ⟨fun i H=>∃xs x,SqT K H a xs/\xs[i]?=some x,fun i H x H'=>H'=H/\∀xs,SqT K H a xs->xs[i]?=some x,fun i H=>∃xs,SqT K H a xs/\xs.length<=i⟩
noncomputable def Itr (lo:Int) (n:Nat):It:=⟨fun i _=>i<n,fun i H x H'=>H'=H/\x=.int (lo+i),fun i _=>n<=i⟩
theorem ZhY {P:Program}{w:World}{K:W.Frag}{tg:Expr} (a it:Addr):ZmY P w K tg (Itl K a) [it] it (fun i h=>h.IsListIter it a i) where
 mem:=by simp
 obj:=fun i h st b hb=>by
  have e:b=it:=by simpa using hb
  subst e
  obtain⟨o,e,c,d⟩:=st
  exact⟨o,e,fun v z=>by rw[d] at z;cases z⟩
 keep:=fun i h h' st k=>st.at fun o e=>k it (by simp) o e
 item:=by
  intro X hP hw hK hc i pins s σ H E I hf st hg
  subst hP hw hK
  obtain⟨xs,x,hq,hx⟩:=hg
  obtain⟨its,rv,p,hz⟩:=I.list hq
  obtain⟨u,hu,ru⟩:=rv.get hx
  obtain⟨f0,f1,f2,f3,f4,f5⟩:=hf it (by simp)
  refine wpAny_pyNext_list_item st p.isList (x:=u) (by simpa using hu) fun h' st' sb=>?_
  have I1:Inv X pins σ H { s with heap:=h' }:=I.turned (t':=s.toks) (fun b o hb e=>(sb.2 b hb).trans e) f0 f1 f3 f4 f5
  obtain⟨o,e,c,d⟩:=id st'
  exact⟨u,rfl,Zm3 (s:={ s with heap:=h' }) e c d (by decide) ⟨x,H,I1,ru,⟨rfl,fun ys hy=>by rw[I.list_inj hy hq];exact hx⟩,st',fun b hb=>(hf b hb).1⟩⟩
 done:=by
  intro X hP hw hK hc i pins s σ H E I hf st hg
  subst hP hw hK
  obtain⟨xs,hq,hx⟩:=hg
  obtain⟨its,rv,p,hz⟩:=I.list hq
  obtain⟨f0,f1,f2,f3,f4,f5⟩:=hf it (by simp)
  have hl:=rv.length
  exact wpAny_pyNext_list_end (I.ok.hd hc) st p.isList (by simp;omega) fun h' eb=>⟨rfl,I.turned (t':=s.toks) (fun b o hb e=>eb b o hb e) f0 f1 f3 f4 f5⟩
 self:=fun _ _ _ _ _ st h=>wpAny_pyIter_listiter st h
theorem Zhg {P:Program}{w:World}{K:W.Frag}{tg:Expr} (a it:Addr):ZmY P w K tg (Itt K a) [it] it (fun i h=>h.IsTupleIter it a i) where
 mem:=by simp
 obj:=fun i h st b hb=>by
  have e:b=it:=by simpa using hb
  subst e
  obtain⟨o,e,c,d⟩:=st
  exact⟨o,e,fun v z=>by rw[d] at z;cases z⟩
 keep:=fun i h h' st k=>st.at fun o e=>k it (by simp) o e
 item:=by
  intro X hP hw hK hc i pins s σ H E I hf st hg
  subst hP hw hK
  obtain⟨xs,x,hq,hx⟩:=hg
  obtain⟨its,rv,p,hz⟩:=I.tuple hq
  obtain⟨u,hu,ru⟩:=rv.get hx
  obtain⟨f0,f1,f2,f3,f4,f5⟩:=hf it (by simp)
  refine wpAny_pyNext_tuple_item st (show s.heap.IsTuple a its.toArray from p) (x:=u) (by simpa using hu) fun h' st' sb=>?_
  have I1:Inv X pins σ H { s with heap:=h' }:=I.turned (t':=s.toks) (fun b o hb e=>(sb.2 b hb).trans e) f0 f1 f3 f4 f5
  obtain⟨o,e,c,d⟩:=id st'
  exact⟨u,rfl,Zm3 (s:={ s with heap:=h' }) e c d (by decide) ⟨x,H,I1,ru,⟨rfl,fun ys hy=>by rw[I.tuple_inj hy hq];exact hx⟩,st',fun b hb=>(hf b hb).1⟩⟩
 done:=by
  intro X hP hw hK hc i pins s σ H E I hf st hg
  subst hP hw hK
  obtain⟨xs,hq,hx⟩:=hg
  obtain⟨its,rv,p,hz⟩:=I.tuple hq
  obtain⟨f0,f1,f2,f3,f4,f5⟩:=hf it (by simp)
  have hl:=rv.length
  exact wpAny_pyNext_tuple_end (I.ok.hd hc) st (show s.heap.IsTuple a its.toArray from p) (by simp;omega) fun h' eb=>⟨rfl,I.turned (t':=s.toks) (fun b o hb e=>eb b o hb e) f0 f1 f3 f4 f5⟩
 self:=fun _ _ _ _ _ st h=>wpAny_pyIter_tupleiter st h
theorem Zhh {P:Program}{w:World}{K:W.Frag}{tg:Expr} (it:Addr) (lo:Int) (n:Nat):ZmY P w K tg (Itr lo n) [it] it (fun i h=>IsRangeIter h it (lo+(i:Nat)*1) ((n:Int)-(i:Nat)) 1) where
 mem:=by simp
 obj:=fun i h st b hb=>by
  have e:b=it:=by simpa using hb
  subst e
  exact⟨_,st,fun v z=>by
   have z':Data.fields _=Data.cell v:=z
   cases z'⟩
 keep:=fun i h h' st k=>k it (by simp) _ st
 item:=by
  intro X hP hw hK hc i pins s σ H E I hf st hg
  subst hP hw hK
  obtain⟨f0,f1,f2,f3,f4,f5⟩:=hf it (by simp)
  have W:=Walks.range (prog:=X.prog) (w:=X.w) (I.ok.hd hc) it lo 1 n
  refine W.item i s _ _ hg st fun v h' tk hv st' kk=>?_
  obtain⟨t,rfl⟩:=hv
  have I1:Inv X pins σ H { s with heap:=h',toks:=tk }:=I.turned (fun b o hb e=>kk b o (by simpa using hb) e) f0 f1 f3 f4 f5
  refine⟨_,rfl,Zm3 (s:={ s with heap:=h',toks:=tk }) (n := "range_iterator") st' rfl rfl (by decide) ⟨.int (lo+i),H,I1,⟨t, ?_⟩,⟨rfl,rfl⟩,st',fun b hb=>(hf b hb).1⟩⟩
  rw[Int.mul_one]
 done:=by
  intro X hP hw hK hc i pins s σ H E I hf st hg
  subst hP hw hK
  obtain⟨f0,f1,f2,f3,f4,f5⟩:=hf it (by simp)
  exact wpAny_pyNext_range_end (I.ok.hd hc) st (by have:n<=i:=hg;omega) fun h' eb=>⟨rfl,I.turned (t':=s.toks) (fun b o hb e=>eb b o hb e) f0 f1 f3 f4 f5⟩
 self:=fun _ _ _ _ _ st h=>wpAny_pyIter_rangeiter st h
section
variable {X:Cx}{tg:Expr}
noncomputable def Zm2 (K:W.Frag) (tl:TE):TI:=fun σ H R=>tl σ H fun x H1=>∃a,x=.ref a/\(∃xs,SqL K H1 a xs)/\R (Itl K a) H1
noncomputable def Zpc (K:W.Frag) (tl:TE):TI:=fun σ H R=>tl σ H fun x H1=>∃a,x=.ref a/\(∃xs,SqT K H1 a xs)/\R (Itt K a) H1
theorem Zmf {l:Expr}{tl:TE} (hl:PE X l tl):PI X tg l (Zm2 X.K tl):=by
 intro pins s σ H R I h
 refine thn (hl pins s σ H _ I h) fun v s1 ⟨x,H1,I1,r1,q1⟩=>?_
 obtain⟨a,e,⟨xs,hq⟩,q⟩:=q1
 subst e
 cases r1
 obtain⟨its,rv,p,hz⟩:=I1.list hq
 refine wpAny_pyIter_list p.isList ?_
 refine⟨s1.heap.objs.size,[s1.heap.objs.size],_,_,H1,rfl,I1.kept (t':=s1.toks) fun b o e=>Heap.get?_push_of_some _ e,ZhY a _,⟨_,Heap.get?_push_size _ rfl,rfl,rfl⟩,fun b hb=>?_,q⟩
 have e:b=s1.heap.objs.size:=by simpa using hb
 subst e
 exact I1.fpOk (Zqn _) (I1.hok.fresh (Zqn _))
theorem Znv {l:Expr}{tl:TE} (hl:PE X l tl):PI X tg l (Zpc X.K tl):=by
 intro pins s σ H R I h
 refine thn (hl pins s σ H _ I h) fun v s1 ⟨x,H1,I1,r1,q1⟩=>?_
 obtain⟨a,e,⟨xs,hq⟩,q⟩:=q1
 subst e
 cases r1
 obtain⟨its,rv,p,hz⟩:=I1.tuple hq
 refine wpAny_pyIter_tuple (show s1.heap.IsTuple a its.toArray from p) ?_
 refine⟨s1.heap.objs.size,[s1.heap.objs.size],_,_,H1,rfl,I1.kept (t':=s1.toks) fun b o e=>Heap.get?_push_of_some _ e,Zhg a _,⟨_,Heap.get?_push_size _ rfl,rfl,rfl⟩,fun b hb=>?_,q⟩
 have e:b=s1.heap.objs.size:=by simpa using hb
 subst e
 exact I1.fpOk (Zqn _) (I1.hok.fresh (Zqn _))
theorem Zgs {pins:List (Addr×Obj)}{σ:St}{H:Hp}{s:Shared}{R:It->Hp->Prop}{E:Value->Shared->Prop}{lo hi:Int}{t u v:Tok}{tk:Nat} (I:Inv X pins σ H s) (h1:-(2^62)<=lo) (h2:lo<2^62) (h3:-(2^62)<=hi) (h4:hi<2^62)
  (q:R (Itr lo (hi-lo).toNat) H):wpAny (model X.prog X.w) X.A (pyIter (.ref s.heap.objs.size)) (PIE X pins σ tg R) E { s with heap:=s.heap.push { cls:=.type "range",data:=.fields #[.int lo t,.int hi u,.int 1 v] },toks:=tk }:=by
 refine wpAny_pyIter_range (IsRange.new ..) (small_one h1 h2 h3 h4) ?_
 have I1:Inv X pins σ H { s with heap:=s.heap.push { cls:=.type "range",data:=.fields #[.int lo t,.int hi u,.int 1 v] },toks:=tk }:=I.kept fun b o e=>Heap.get?_push_of_some _ e
 refine⟨(s.heap.push { cls:=.type "range",data:=.fields #[.int lo t,.int hi u,.int 1 v] }).objs.size,[(s.heap.push { cls:=.type "range",data:=.fields #[.int lo t,.int hi u,.int 1 v] }).objs.size],_,_,H,rfl,
  I1.kept (t':=tk) fun b o e=>Heap.get?_push_of_some _ e,Zhh _ lo (hi-lo).toNat, ?_,fun b hb=>?_,q⟩
 ·have e1:lo+((0:Nat):Int)*1=lo:=by simp
  have e2:(((hi-lo).toNat:Nat):Int)-((0:Nat):Int)=Builtin.Range.rangeSize lo hi 1:=by rw[rangeSize_one];split<;>omega
  show IsRangeIter _ _ (lo+((0:Nat):Int)*1) ((((hi-lo).toNat:Nat):Int)-((0:Nat):Int)) 1
  rw[e1,e2]
  exact Heap.get?_push_size _ rfl
 ·have e:b=(s.heap.push { cls:=.type "range",data:=.fields #[.int lo t,.int hi u,.int 1 v] }).objs.size:=by simpa using hb
  subst e
  exact I1.fpOk (Zqn _) (I1.hok.fresh (Zqn _))
noncomputable def ZnQ (ta:TA):TI:=fun σ H R=>ta σ H fun vs H1=>∃j:Int,vs=[.int j]/\-(2^62)<=j/\j<2^62/\R (Itr 0 j.toNat) H1
noncomputable def ZnP (ta:TA):TI:=fun σ H R=>ta σ H fun vs H1=>∃i j:Int,vs=[.int i,.int j]/\(-(2^62)<=i/\i<2^62/\-(2^62)<=j/\j<2^62)/\R (Itr i (j-i).toNat) H1
theorem YF {a:Expr}{ta:TA}{p pos:Pos} (hg:Gl X "range") (hm:X.mg "range"=none) (ha:PA X [a] ta) (hs:starEach [a] X.env=[(false,eval a X.env)]:=by rfl):PI X tg (.Call (.Name "range" p) [a] [] pos) (ZnQ ta):=by
 intro pins s σ H R I h
 refine Call_ (ZdP I hg hm boot_range (PyProof.Rows.callWith_type1 (thn (ha pos pins s σ H _ I h) fun us s1 ⟨vs,H1,I1,r1,q1⟩=>?_) hs rfl))
 obtain⟨j,e,q1,q2,q⟩:=q1
 subst e
 cases r1 with
 |cons r rr =>
  cases rr
  obtain⟨t,rfl⟩:=r
  exact call_range_1 (Zgs I1 (by omega) (by omega) q1 q2 (by simpa using q))
theorem ZdC {a b:Expr}{ta:TA}{p pos:Pos} (hg:Gl X "range") (hm:X.mg "range"=none) (ha:PA X [a,b] ta) (hs:starEach [a,b] X.env=[(false,eval a X.env),(false,eval b X.env)]:=by rfl) (hs2:starEach [b] X.env=[(false,eval b X.env)]:=by rfl) :
  PI X tg (.Call (.Name "range" p) [a,b] [] pos) (ZnP ta):=by
 intro pins s σ H R I h
 refine Call_ (ZdP I hg hm boot_range (PyProof.Rows.callWith_type1 (thn (ha pos pins s σ H _ I h) fun us s1 ⟨vs,H1,I1,r1,q1⟩=>?_) (by rw[hs,hs2]) (by rw[hs2];rfl)))
 obtain⟨i,j,e,⟨q1,q2,q3,q4⟩,q⟩:=q1
 subst e
 cases r1 with
 |cons r rr =>
  cases rr with
  |cons r' rr =>
   cases rr
   obtain⟨t,rfl⟩:=r
   obtain⟨t',rfl⟩:=r'
   exact call_range_2 (Zgs I1 q1 q2 q3 q4 q)
noncomputable def Zp4 (wi:TI) (g:TG) (tb:TS):TS:=fun D σ H=>wi σ H fun J H1=>∃W:Nat->Nat->St->Hp->Prop,(∃m,W 0 m σ H1)/\∀i m σ H,W i m σ H ->
 (J.stop i H/\D.nx σ H)\/(J.go i H/\∃N:St->Hp->Prop,(∀σ' H',N σ' H'->∃m',m'<m/\W (i+1) m' σ' H')/\∀x H',J.yld i H x H'->g x σ H' fun σ2 H2=>tb { D with nx:=N,ct:=N,bk:=D.nx } σ2 H2)
noncomputable def Zgv (fp:List Addr) (h:Heap):List (Addr×Obj):=fp.filterMap fun b=>(h.get? b).map fun o=>(b,o)
theorem W6 {fp:List Addr}{h:Heap}{b:Addr}{o:Obj} (hb:b∈fp) (e:h.get? b=some o):(b,o)∈Zgv fp h:=ZrY.mpr ⟨b,hb,by rw[e];rfl⟩
theorem ZiK {fp:List Addr}{h:Heap}{p:Addr×Obj} (hp:p∈Zgv fp h):p.1∈fp/\h.get? p.1=some p.2:=by
 obtain⟨b,hb,e⟩:=ZrY.mp hp
 cases q:h.get? b with
 |none=>rw[q] at e;cases e
 |some o =>
  rw[q] at e
  have e':(b,o)=p:=Option.some.inj e
  subst e'
  exact⟨hb,q⟩
theorem Inv.pinned {pins:List (Addr×Obj)}{σ:St}{H:Hp}{s:Shared}{fp:List Addr} (I:Inv X pins σ H s) (hf:∀b∈fp,ZhU X pins H b) (ho:∀b∈fp,∃o,s.heap.get? b=some o/\∀v,o.data≠.cell v):Inv X (pins++Zgv fp s.heap) σ H s:=
 I.pins_of fun p hp=>(Zqo.mp hp).elim (fun z=>I.pin p (Zqj _ z)) fun z=>by
  obtain⟨hb,e⟩:=ZiK z
  obtain⟨f0,f1,f2,_⟩:=hf p.1 hb
  obtain⟨o,e',d⟩:=ho p.1 hb
  rw[e] at e';cases e'
  exact⟨e,f0,f1,f2,d⟩
theorem Inv.unpinned {pins pl:List (Addr×Obj)}{σ:St}{H:Hp}{s:Shared} (I:Inv X (pins++pl) σ H s):Inv X pins σ H s:=I.pins_of fun p hp=>I.pin p (Zqj _ (Zqp _ hp))
theorem Vj {iter:Expr}{body:List Stmt}{wi:TI}{g:TG}{tb:TS}{pos:Pos} (hp:PassesOwn (model X.prog X.w) X.A X.env X.xe) (hc:X.calm=true) (hi:PI X tg iter wi) (hg:PG X tg g) (hb:PSs X body tb)
  (hs:∀x,foldedSetIterable iter X.env x=pure x:=by exact fun _=>rfl):PS X (.For tg iter body [] pos) (Zp4 wi g tb):=by
 intro pins s σ H D I h
 refine wpAny_For (thn (hi pins s σ H _ I h) fun v s1 h1=>thn h1 fun itv s2 h2=>?_) hs
 obtain⟨it,fp,tn,J,H2,e,I2,T,st2,f2,W,⟨m0,w0⟩,turn⟩:=h2
 subst e
 have stat:∀{H':Hp},(∀b∈fp,H' b=none)->∀b∈fp,ZhU X pins H' b:=fun hn b hb=>⟨hn b hb,(f2 b hb).2⟩
 refine codeAny_forLoop_any (fun n s'=>∃i σ' H',Inv X pins σ' H' s'/\tn i s'.heap/\(∀b∈fp,H' b=none)/\W i n σ' H') ?_ m0 ⟨0,σ,H2,I2,st2,fun b hb=>(f2 b hb).1,w0⟩
 rintro n s3 ⟨i,σ3,H3,I3,st3,fr3,w3⟩
 rcases turn i n σ3 H3 w3 with ⟨stop,qn⟩|⟨go,N,hN,step⟩
 ·refine wpAny_passesOwn hp (thn (T.done X rfl rfl rfl hc i pins s3 σ3 H3 X.xe I3 (stat fr3) st3 stop) fun r s4 ⟨hr,I4⟩=>?_)
  subst hr
  exact wpAny_execs_nil ⟨σ3,H3,I4,qn⟩
 ·refine wpAny_passesOwn hp (thn (T.item X rfl rfl rfl hc i pins s3 σ3 H3 X.xe I3 (stat fr3) st3 go) fun r s4 ⟨u,hr,h4⟩=>?_)
  subst hr
  refine wpAny_passesOwn hp (thn h4 fun _ s5 ⟨x,H5,I5,r5,y5,st5,fr5⟩=>?_)
  have I5':=I5.pinned (stat fr5) (T.obj _ _ st5)
  refine wpAny_passesOwn hp (thn (hg _ s5 σ3 H5 x u _ I5' r5 (step x H5 y5)) fun _ s6 ⟨σ6,H6,I6,q6⟩=>?_)
  refine wpAny_passesOwn hp (thn (hb _ s6 σ6 H6 _ I6 q6) fun f s7 q7=>?_)
  have again:∀{σ7:St}{H7:Hp},Inv X (pins++Zgv fp s5.heap) σ7 H7 s7->N σ7 H7->∃m,m<n/\∃i σ' H',Inv X pins σ' H' s7/\tn i s7.heap/\(∀b∈fp,H' b=none)/\W i m σ' H':=fun {σ7 H7} I7 n7=>by
   obtain⟨m',hm,w7⟩:=hN σ7 H7 n7
   refine⟨m',hm,i+1,σ7,H7,I7.unpinned,T.keep _ _ _ st5 fun b hb o e=>(I7.pin (b,o) (Zqj _ (Zqj _ (W6 hb e)))).1,fun b hb=>?_,w7⟩
   obtain⟨o,e,d⟩:=T.obj _ _ st5 b hb
   exact(I7.pin (b,o) (Zqj _ (Zqj _ (W6 hb e)))).2.1
  cases f with
  |next=>obtain⟨σ7,H7,I7,n7⟩:=q7;exact again I7 n7
  |cont=>obtain⟨σ7,H7,I7,n7⟩:=q7;exact again I7 n7
  |brk=>obtain⟨σ7,H7,I7,q7⟩:=q7;exact⟨σ7,H7,I7.unpinned,q7⟩
  |ret v=>obtain⟨x7,σ7,H7,I7,r7,q7⟩:=q7;exact⟨x7,σ7,H7,I7.unpinned,r7,q7⟩
end
noncomputable abbrev R2:=V->V->Hp->VK->Prop
def OpR (X:Cx) (f:Value->Value->Sem Value) (r:R2):Prop:=
 ∀(pins:List (Addr×Obj)) (s:Shared) (σ:St) (H:Hp) (x y:V) (v u:Value) (Q:VK),Inv X pins σ H s->WG x v->WG y u->r x y H Q ->
  wpAny (model X.prog X.w) X.A (f v u) (EP X pins σ Q) X.xe s
def Vv (X:Cx) (f:Value) (r:List V->Hp->VK->Prop):Prop:=
 ∀(pins:List (Addr×Obj)) (s:Shared) (σ:St) (H:Hp) (xs:List V) (us:List Value) (Q:VK),Inv X pins σ H s->YO xs us->r xs H Q ->
  wpAny (model X.prog X.w) X.A (call f us) (EP X pins σ Q) X.xe s
def Zqe (X:Cx) (r:V->Hp->(Bool->Hp->Prop)->Prop):Prop:=
 ∀(pins:List (Addr×Obj)) (s:Shared) (σ:St) (H:Hp) (x:V) (v:Value) (Q:Bool->Hp->Prop),Inv X pins σ H s->WG x v->r x H Q ->
  wpAny (model X.prog X.w) X.A (truthy v) (TP X pins σ Q) X.xe s
noncomputable def tOp (r:R2) (ta tb:TE):TE:=fun σ H Q=>ta σ H fun x H1=>tb σ H1 fun y H2=>r x y H2 Q
noncomputable def rI (C:Int->Int->Prop) (g:Int->Int->V):R2:=fun x y H Q=>∃i j,x=.int i/\y=.int j/\C i j/\Q (g i j) H
noncomputable def rI0 (g:Int->Int->V):R2:=fun x y H Q=>∃i j,x=.int i/\y=.int j/\Q (g i j) H
section
variable {X:Cx}{a b c:Expr}{ta tb tc:TE}{pos:Pos}
theorem Zpn (ha:PE X a ta) (hb:PE X b tb) {pins:List (Addr×Obj)}{s:Shared}{σ:St}{H:Hp}{R:V->V->Hp->Prop} (I:Inv X pins σ H s)
  (h:ta σ H fun x H1=>tb σ H1 fun y H2=>R x y H2) {Q:Value->Shared->Prop}{f:Value->Value->Sem Value}
  (hf:∀v u s2 x y H2,Inv X pins σ H2 s2->WG x v->WG y u->R x y H2->wpAny (model X.prog X.w) X.A (f v u) Q X.xe s2) :
  wpAny (model X.prog X.w) X.A (eval a X.env) (fun v s₁=>wpAny (model X.prog X.w) X.A (eval b X.env) (fun u s₂=>wpAny (model X.prog X.w) X.A (f v u) Q X.xe s₂) X.xe s₁) X.xe s:=by
 refine thn (ha pins s σ H _ I h) fun v s1 ⟨x,H1,I1,r1,q1⟩=>?_
 refine thn (hb pins s1 σ H1 _ I1 q1) fun u s2 ⟨y,H2,I2,r2,q2⟩=>?_
 exact hf v u s2 x y H2 I2 r1 r2 q2
theorem Z7 {op:Operator}{r:R2} (ho:OpR X (binaryOp op) r) (ha:PE X a ta) (hb:PE X b tb):PE X (.BinOp a op b pos) (tOp r ta tb):=by
 intro pins s σ H Q I h
 exact wpAny_BinOp (Zpn ha hb I h fun v u s2 x y H2 I2 rx ry q=>ho pins s2 σ H2 x y v u Q I2 rx ry q)
theorem opI {f:Value->Value->Sem Value}{C:Int->Int->Prop}{g:Int->Int->Int}
  (rule:∀(i j:Int) (t u:Tok) (s:Shared) (Q:Value->Shared->Prop) (E:Value->Shared->Prop),C i j->Q (.int (g i j) s.toks) { s with toks:=s.toks+1 }->wpAny (model X.prog X.w) X.A (f (.int i t) (.int j u)) Q E s) :
  OpR X f (rI C fun i j=>.int (g i j)):=by
 intro pins s σ H x y v u Q I rx ry h
 obtain⟨i,j,rfl,rfl,hc,q⟩:=h
 obtain⟨t,rfl⟩:=rx
 obtain⟨t',rfl⟩:=ry
 exact rule i j t t' s _ _ hc ⟨.int (g i j),H,I.tok _,⟨_,rfl⟩,q⟩
theorem ZpD {f:Value->Value->Sem Value}{g:Int->Int->Int}
  (rule:∀(i j:Int) (t u:Tok) (s:Shared) (Q:Value->Shared->Prop) (E:Value->Shared->Prop),Q (.int (g i j) s.toks) { s with toks:=s.toks+1 }->wpAny (model X.prog X.w) X.A (f (.int i t) (.int j u)) Q E s) :
  OpR X f (rI0 fun i j=>.int (g i j)):=by
 intro pins s σ H x y v u Q I rx ry h
 obtain⟨i,j,rfl,rfl,q⟩:=h
 obtain⟨t,rfl⟩:=rx
 obtain⟨t',rfl⟩:=ry
 exact rule i j t t' s _ _ ⟨.int (g i j),H,I.tok _,⟨_,rfl⟩,q⟩
theorem Zo6 {f:Value->Value->Sem Value}{g:Int->Int->Bool}
  (rule:∀(i j:Int) (t u:Tok) (s:Shared) (Q:Value->Shared->Prop) (E:Value->Shared->Prop),Q (.bool (g i j)) s->wpAny (model X.prog X.w) X.A (f (.int i t) (.int j u)) Q E s) :
  OpR X f (rI0 fun i j=>.bl (g i j)):=by
 intro pins s σ H x y v u Q I rx ry h
 obtain⟨i,j,rfl,rfl,q⟩:=h
 obtain⟨t,rfl⟩:=rx
 obtain⟨t',rfl⟩:=ry
 exact rule i j t t' s _ _ ⟨.bl (g i j),H,I,rfl,q⟩
def Zna (i j:Int):Prop:=0<=j/\j<=1000000/\i.natAbs<2^64
theorem Zhf (k:Nat):(0:Int)<=2^k:=by
 rw[two_pow_cast]
 exact Int.natCast_nonneg _
theorem Jj:OpR X (binaryOp .Add) (rI0 fun i j=>.int (i+j)):=ZpD fun _ _ _ _ _ _ _ q=>add_int q
theorem Zlu:OpR X (binaryOp .Sub) (rI0 fun i j=>.int (i-j)):=ZpD fun _ _ _ _ _ _ _ q=>sub_int q
theorem YG:OpR X (binaryOp .Mod) (rI (fun _ j=>0<j) fun i j=>.int (i%j)):=opI fun i j _ _ _ _ _ hc q=>by
 have h1:(0:Int)<j:=hc
 exact mod_int' (by omega) (by rw[Int.fmod_eq_emod_of_nonneg i (by omega)];exact q)
theorem ZdM:OpR X (binaryOp .Pow) (rI Zna fun i j=>.int (i^j.toNat)):=opI fun _ _ _ _ _ _ _ hc q=>pow_int_small hc.1 hc.2.1 hc.2.2 q
theorem Zn8:OpR X (binaryOp .RShift) (rI (fun _ j=>0<=j) fun i j=>.int (i/2^j.toNat)):=opI fun i j _ _ _ _ _ hc q =>
 rshift_int hc (by rw[Int.fdiv_eq_ediv_of_nonneg i (Zhf _)];exact q)
end
section
variable {X:Cx}{a b c:Expr}{ta tb tc:TE}{pos:Pos}
theorem Zfb:OpR X (compareOp .Lt) (rI0 fun i j=>.bl (decide (i<j))):=Zo6 fun _ _ _ _ _ _ _ q=>lt_int q
theorem ZoX:OpR X (compareOp .LtE) (rI0 fun i j=>.bl (decide (i<=j))):=Zo6 fun _ _ _ _ _ _ _ q=>le_int q
theorem ZiI:OpR X (compareOp .Gt) (rI0 fun i j=>.bl (decide (j<i))):=Zo6 fun _ _ _ _ _ _ _ q=>gt_int q
theorem ZoY:OpR X (compareOp .GtE) (rI0 fun i j=>.bl (decide (j<=i))):=Zo6 fun _ _ _ _ _ _ _ q=>ge_int q
theorem Ye (b:Expr) {op:CmpOp} (h:op≠.In:=by decide) (h2:op≠.NotIn:=by decide):behindInMarks op b=false:=by
 have e1:(op==CmpOp.In)=false:=by cases op<;>first|rfl|exact absurd rfl h
 have e2:(op==CmpOp.NotIn)=false:=by cases op<;>first|rfl|exact absurd rfl h2
 cases b<;>simp[behindInMarks,e1,e2]
theorem JL {op:CmpOp}{r:R2} (ho:OpR X (compareOp op) r) (ha:PE X a ta) (hb:PE X b tb) (hm:behindInMarks op b=false):PE X (.Compare a [op] [b] pos) (tOp r ta tb):=by
 intro pins s σ H Q I h
 exact wpAny_Compare1 (Zpn ha hb I h fun v u s2 x y H2 I2 rx ry q=>ho pins s2 σ H2 x y v u Q I2 rx ry q) hm
noncomputable def Zng (t:TE):TT:=fun σ H Q=>t σ H fun x H'=>∃k,x=.bl k/\Q k H'
theorem ZF {op:CmpOp}{r:R2} (ho:OpR X (compareOp op) r) (ha:PE X a ta) (hb:PE X b tb) (hm:behindInMarks op b=false):PT X (.Compare a [op] [b] pos) (Zng (tOp r ta tb)):=by
 intro pins s σ H Q I h
 refine wpAny_isTrue_Compare1 (thn (ha pins s σ H _ I h) fun v s1 ⟨x,H1,I1,r1,q1⟩=>thn (hb pins s1 σ H1 _ I1 q1) fun u s2 ⟨y,H2,I2,r2,q2⟩ =>
  thn (ho pins s2 σ H2 x y v u _ I2 r1 r2 q2) fun c s3 ⟨z,H3,I3,r3,k,e,q3⟩=>?_) hm
 subst e
 cases r3
 exact wpAny_truthy_bool ⟨H3,I3,q3⟩
def Zpr (K:W.Frag) (x:V) (H:Hp) (k:Bool):Prop:=
 match x with
 |.non=>k=false
 |.bl b=>k=b
 |.int i=>k=(i != 0)
 |.str y=>y.length<=sizeLine/\k=((y.length:Int) != 0)
 |.byt y=>y.size<=sizeLine/\k=((y.size:Int) != 0)
 |.ref p=>(∃xs,SqL K H p xs/\k=!xs.isEmpty)\/(∃xs,SqT K H p xs/\k=!xs.isEmpty)\/∃kvs,H p=some (.dK kvs)/\k=!kvs.isEmpty
 |_=>False
theorem Zh0 {κ:Type}{kvs:List (κ×V)}{vs:List (κ×Value)} (r:KV kvs vs):(!vs.isEmpty)=!kvs.isEmpty:=by
 cases r<;>rfl
theorem Zcn {xs:List V}{its:List Value} (r:YO xs its):(!its.toArray.isEmpty)=!xs.isEmpty:=by
 cases r<;>simp
theorem Zbr:(sizeLine:Nat)<2^63:=by rw[sizeLine_eq];decide
theorem Zne:Zqe X (fun x H Q=>∃k,Zpr X.K x H k/\Q k H):=by
 intro pins s σ H x v Q I rx h
 obtain⟨k,e,q⟩:=h
 have hl:=Zbr
 have hs:sizeLine=16777216:=sizeLine_eq
 cases x with
 |non =>
  cases rx
  have e':k=false:=e
  subst e'
  exact truthy_none ⟨H,I,q⟩
 |bl b =>
  cases rx
  have e':k=b:=e
  subst e'
  exact wpAny_truthy_bool ⟨H,I,q⟩
 |int i =>
  obtain⟨t,rfl⟩:=rx
  have e':k=(i != 0):=e
  subst e'
  exact PySem.P.truthy_int ⟨H,I,q⟩
 |str y =>
  obtain⟨t,rfl⟩:=rx
  obtain⟨hy,e'⟩:y.length<=sizeLine/\k=((y.length:Int) != 0):=e
  subst e'
  exact PySem.P.truthy_str (by omega) ⟨H,I.tok _,q⟩
 |byt y =>
  obtain⟨t,rfl⟩:=rx
  obtain⟨hy,e'⟩:y.size<=sizeLine/\k=((y.size:Int) != 0):=e
  subst e'
  exact PySem.W.truthy_bytes (by omega) ⟨H,I.tok _,q⟩
 |ref p =>
  cases rx
  have e':(∃xs,SqL X.K H p xs/\k=!xs.isEmpty)\/(∃xs,SqT X.K H p xs/\k=!xs.isEmpty)\/∃kvs,H p=some (.dK kvs)/\k=!kvs.isEmpty:=e
  rcases e' with ⟨xs,hx,e'⟩|⟨xs,hx,e'⟩|⟨kvs,hx,e'⟩
  ·subst e'
   obtain⟨its,r,pl,hz⟩:=I.list hx
   have hlen:=r.length
   exact wpAny_truthy_list pl.isList (by simp only[Zqu];omega) ⟨H,I.tok _,by rw[Zcn r];exact q⟩
  ·subst e'
   obtain⟨its,r,pl,hz⟩:=I.tuple hx
   have hlen:=r.length
   exact truthy_tuple pl (by simp only[Zqu];omega) ⟨H,I.tok _,by rw[Zcn r];exact q⟩
  ·subst e'
   obtain⟨hz,hS,vs,r,m⟩:kvs.length<=sizeLine/\(p==sysModules)=false/\∃vs,KV kvs vs/\s.heap.DictOf (W8 X.prog X.w) p vs:=I.hok p _ hx
   have hlen:kvs.length=vs.length:=Paired.length r
   exact wpAny_truthy_dict hS m (by omega) ⟨H,I.tok _,by rw[Zh0 r];exact q⟩
 |_=>exact(show False from e).elim
theorem Zkf (ha:PE X a ta) (he:∀whole,isTrue a X.env whole=(do let v <- whole;standAt a.pos;holding [v] (truthy v))) :
  PT X a (fun σ H Q=>ta σ H fun x H'=>∃k,Zpr X.K x H' k/\Q k H'):=by
 intro pins s σ H Q I h
 exact isTrue_plain (thn (ha pins s σ H _ I h) fun v s1 ⟨x,H1,I1,r1,q1⟩=>Zne pins s1 σ H1 x v Q I1 r1 q1) (he _)
theorem Zc3 {x:V}{us:List Value} (r:YO [x] us):∃u,us=[u]/\WG x u:=by
 cases r with
 |cons r1 r2=>cases r2;exact⟨_,rfl,r1⟩
theorem ZlM {x y:V}{us:List Value} (r:YO [x,y] us):∃u w',us=[u,w']/\WG x u/\WG y w':=by
 cases r with
 |cons r1 r2 =>
  cases r2 with
  |cons r3 r4=>cases r4;exact⟨_,_,rfl,r1,r3⟩
theorem Zj7 (hc:X.calm=true):Vv X (.builtin "max") (fun xs H Q=>∃i j,xs=[.int i,.int j]/\Q (.int (if j>i then j else i)) H):=by
 intro pins s σ H xs us Q I r h
 obtain⟨i,j,rfl,q⟩:=h
 obtain⟨u,w',rfl,⟨t,rfl⟩,⟨t',rfl⟩⟩:=ZlM r
 refine max_two_ints (I.ok.hd hc) fun h' tk k=>⟨_,H,I.kept k, ?_,q⟩
 by_cases hj:j>i
 ·rw[if_pos hj,if_pos hj];exact⟨_,rfl⟩
 ·rw[if_neg hj,if_neg hj];exact⟨_,rfl⟩
theorem Zj6 (hc:X.calm=true):Vv X (.builtin "min") (fun xs H Q=>∃i j,xs=[.int i,.int j]/\Q (.int (if j<i then j else i)) H):=by
 intro pins s σ H xs us Q I r h
 obtain⟨i,j,rfl,q⟩:=h
 obtain⟨u,w',rfl,⟨t,rfl⟩,⟨t',rfl⟩⟩:=ZlM r
 refine min_two_ints (I.ok.hd hc) fun h' tk k=>⟨_,H,I.kept k, ?_,q⟩
 by_cases hj:j<i
 ·rw[if_pos hj,if_pos hj];exact⟨_,rfl⟩
 ·rw[if_neg hj,if_neg hj];exact⟨_,rfl⟩
theorem Zj9:Vv X (.type "int") (fun xs H Q=>(∃i,xs=[.int i]/\Q (.int i) H)\/∃k,xs=[.bl k]/\Q (.int (if k then 1 else 0)) H):=by
 intro pins s σ H xs us Q I r h
 rcases h with ⟨i,rfl,q⟩|⟨k,rfl,q⟩
 ·obtain⟨u,rfl,t,rfl⟩:=Zc3 r
  exact call_int_int ⟨.int i,H,I,⟨_,rfl⟩,q⟩
 ·obtain⟨u,rfl,r1⟩:=Zc3 r
  cases r1
  exact call_int_bool ⟨.int (if k then 1 else 0),H,I.tok _,⟨_,rfl⟩,q⟩
end
section
variable {prog:Program}{w:World}{A:Around}{E:Value->Shared->Prop}{s:Shared}{K:W.Frag}{x dx C f:Addr}{mA:Str->Option Value}{name:Str}{v:Value}
end
section
variable {P:Program}{w:World}{H H':Hp}{h h':Heap}{a C dx:Addr}{fs fs':List (Str×V)}
end
structure Cls (K:PySem.W.Frag) (C:Addr):Prop where
 pg:PySem.W.plainGet K C Str.empty=true
 hd:PySem.W.hasDictIn K C=true
 po:PySem.W.plainOver K C=true
 sa:PySem.W.findIn K (.ref C) "__setattr__"=some (some (.builtin "object.__setattr__"))
section
variable {X:Cx}{pins:List (Addr×Obj)}{σ:St}{H:Hp}{s:Shared}{a C dx:Addr}{fs:List (Str×V)}{f:Str}{v:V}{A:Around}{E:Value->Shared->Prop}
end
section
variable {X:Cx}{o e value:Expr}{f:Str}{pos pos' tpos:Pos}{ta tv:TE}
end
section
variable {X:Cx}{pins:List (Addr×Obj)}{σ:St}{H:Hp}{s:Shared}{A:Around}{E:Value->Shared->Prop}{Q:Value->Shared->Prop}{c:Value}{b:Bool}
end
structure ZaC (k:Nat) (A:Around):Prop where
 hd:A.handled=none
 dp:A.depth+3*k+5<recursionLimit
 un:A.units+16*k+200<cLine
theorem ZaC.mono {j k:Nat}{A:Around} (r:ZaC k A) (h:j<=k):ZaC j A:=⟨r.hd,by have:=r.dp;omega,by have:=r.un;omega⟩
theorem ZaC.deeper {k:Nat}{A:Around} (r:ZaC (k+1) A) (env:Env):ZaC k (A.deeper env):=
 ⟨r.hd,by have:=r.dp;show A.depth+1+3*k+5<_;omega,by have:=r.un;show A.units+3+16*k+200<_;omega⟩
theorem ZaC.depth {k:Nat}{A:Around} (r:ZaC k A):A.depth<recursionLimit:=by have:=r.dp;omega
theorem ZaC.units {k:Nat}{A:Around} (r:ZaC k A):A.units+64<cLine:=by have:=r.un;omega
noncomputable def ZjT:TA:=fun _ H Q=>Q [] H
noncomputable def Zc7 (ta:TE) (tr:TA):TA:=fun σ H Q=>ta σ H fun x H1=>tr σ H1 fun xs H2=>Q (x::xs) H2
section
variable {X:Cx}{e:Expr}{es:List Expr}{te:TE}{t:TA}{pos:Pos}
theorem Zf:PA X [] ZjT:=fun _ _ _ _ H Q I h=>Calls.spliced_nil ⟨[],H,I,.nil,h⟩
theorem Zb (ha:PE X e te) (hr:PA X es t) (hs:starEach (e::es) X.env=(false,eval e X.env)::starEach es X.env:=by rfl):PA X (e::es) (Zc7 te t):=by
 intro pos pins s σ H Q I h
 rw[hs]
 show wpAny _ _ (spliced ((false,eval e X.env)::backTo pos (starEach es X.env))) _ _ s
 refine Calls.spliced_cons (thn (ha pins s σ H _ I h) fun u s1 ⟨x,H1,I1,r1,q1⟩=>?_)
 exact thn (hr pos pins s1 σ H1 _ I1 q1) fun us s2 ⟨xs,H2,I2,r2,q2⟩=>⟨x::xs,H2,I2,.cons r1 r2,q2⟩
noncomputable def ZoH (t:TA):TE:=fun σ H Q=>t σ H fun xs H1=>xs.length<=sizeLine/\∀p,H1 p=none->Q (.ref p) (upd H1 p (.tup xs))
noncomputable def ZoI (t:TA):TE:=fun σ H Q=>t σ H fun xs H1=>xs.length<=sizeLine/\∀p,H1 p=none->Q (.ref p) (upd H1 p (.lst xs))
theorem Zcj {x1} (h:PA X es t):PE X (.Tuple es x1 pos) (ZoH t):=by
 intro pins s σ H Q I hq
 refine wpAny_Tuple_spliced (thn (h pos pins s σ H _ I hq) fun us s1 ⟨xs,H1,I1,r,z,q⟩=>⟨by rw[<- r.length];exact z, ?_⟩)
 have hf:H1 s1.heap.objs.size=none:=I1.hok.fresh (Zqn _)
 refine⟨.ref s1.heap.objs.size,upd H1 s1.heap.objs.size (.tup xs),I1.laid (t':=s1.toks) (fun b u e=>Heap.get?_push_of_some _ e) (Zqn _) ?_,rfl,q _ hf⟩
 exact⟨z,us,r,⟨_,Heap.get?_push_size _ rfl,rfl,_,rfl⟩⟩
theorem VT (h:PA X es t):PE X (.List es pos) (ZoI t):=by
 intro pins s σ H Q I hq
 refine wpAny_List_spliced (thn (h pos pins s σ H _ I hq) fun us s1 ⟨xs,H1,I1,r,z,q⟩=>⟨by rw[<- r.length];exact z, ?_⟩)
 have hf:H1 s1.heap.objs.size=none:=I1.hok.fresh (Zqn _)
 refine⟨.ref s1.heap.objs.size,upd H1 s1.heap.objs.size (.lst xs),I1.laid (t':=s1.toks) (fun b u e=>Heap.get?_push_of_some _ e) (Zqn _) ?_,rfl,q _ hf⟩
 exact⟨z,us,0,r,Heap.get?_push_size _ rfl⟩
end
noncomputable abbrev Sp:=List V->Hp->VK->XK->Prop
noncomputable abbrev CXT:=List Env->Hp->Shared->XK->Value->Shared->Prop
structure ZoB (P:Program) (w:World) (K:PySem.W.Frag) (mg:Str->Option Value) (base:Heap) (A:Around) (outer:List Env) (s:Shared) (H:Hp):Prop where
 frames:A.frames=some outer
 mod:Mod K mg base
 bs:∀b o,base.get? b=some o->s.heap.get? b=some o/\H b=none
 bsz:base.objs.size<=s.heap.objs.size
 funs:s.heap.FunFrames base outer
 frf:∀b∈frs outer,H b=none
 hok:HOk P w H s.heap
 bare:AllBare s.gens
def CE (outer:List Env) (P:Program) (w:World) (H:Hp) (s:Shared) (Q:VK) (u:Value) (s':Shared):Prop:=
 ∃v H',s'.os=s.os/\AllBare s'.gens/\Un (frs outer) [] H H' s.heap s'.heap/\HOk P w H' s'.heap/\WG v u/\Q v H'
def CR (CX:CXT) (outer:List Env) (P:Program) (w:World) (H:Hp) (s:Shared) (Q:VK) (E:XK) (r:Result) (s':Shared):Prop:=
 match r with
 |.ok (.ret u)=>CE outer P w H s Q u s'
 |.ok _=>False
 |.error e=>CX outer H s E e s'
structure Jo (P:Program) (w:World) (K:PySem.W.Frag) (mg:Str->Option Value) (base:Heap) (CX:CXT) (k:Nat) (f:Addr) (fd:FuncData) (ps:List Str) (sp:Sp):Prop where
 len:∀vs H Q E,sp vs H Q E->vs.length=ps.length
 run:∀(A:Around) (outer:List Env) (s:Shared) (H:Hp) (args:Args) (us:List Value) (vs:List V) (Q:VK) (E:XK),ZaC k A->ZoB P w K mg base A outer s H->BindsTo s fd args (ps.zip us)->YO vs us->sp vs H Q E ->
  codeAny (model P w) A (.call (.ref f) args) (CR CX outer P w H s Q E) s
section
variable {X:Cx}{pins:List (Addr×Obj)}{σ:St}{H:Hp}{s s':Shared}
theorem Inv.env0 (I:Inv X pins σ H s):ZoB X.prog X.w X.K X.mg X.base X.A X.stack s H:=
 ⟨I.ok.frames,I.ok.mod,I.bs,Zq3 I.ok.bsz I.sz,I.stack,I.stkFree,I.hok,I.bare⟩
theorem Inv.after {Q:VK}{u:Value} (I:Inv X pins σ H s) (h:CE X.stack X.prog X.w H s Q u s'):EP X pins σ Q u s':=by
 obtain⟨v,H',os,bare,un,hok,r,q⟩:=h
 obtain⟨hh,g,d,t,os'⟩:=s'
 obtain rfl:os'=s.os:=os
 exact⟨v,H',I.call (h':=hh) (g':=g) (d':=d) (t':=t) (ch:=[]) un hok bare (fun b z=>absurd z (by simp)),r,q⟩
end
noncomputable def Znl (sp:Sp) (dvs:List V) (E:XK) (t:TA):TE:=fun σ H Q=>t σ H fun vs H1=>sp (vs++dvs) H1 Q E
def ZeF (K:W.Frag) (fd:FuncData) (ps:List Str) (ds:List Value):Prop:=
 ∀(s:Shared) (us:List Value),K.In s.heap->(us++ds).length=ps.length->BindsTo s fd ⟨us,[]⟩ (ps.zip (us++ds))
theorem ZeF.all {K:W.Frag}{fd:FuncData}{ps:List Str} (h:∀us:List Value,us.length=ps.length->bindArgs fd ⟨us,[]⟩=pure (ps.zip us)):ZeF K fd ps []:=fun s us _ hl=>by
 rw[Zrc] at hl ⊢
 exact .of_eq (h us hl)
def Zhe (CX:CXT) (X:Cx) (E:XK):Prop:=∀(pins:List (Addr×Obj)) (σ:St) (H:Hp) (s:Shared) (e:Value) (s':Shared),Inv X pins σ H s->CX X.stack H s E e s'->X.xe e s'
section
variable {X:Cx}{CX:CXT}{k:Nat}{f C:Addr}{fd:FuncData}{ps:List Str}{sp:Sp}{dvs:List V}{ds:List Value}{E:XK}{x m:Str}{p pos apos:Pos}{e o:Expr}{es:List Expr}{ta:TE}{t:TA}
theorem Zlh {pins:List (Addr×Obj)}{σ:St}{H:Hp}{s:Shared}{Q:VK}{us:List Value}{vs:List V} (F:Jo X.prog X.w X.K X.mg X.base CX k f fd ps sp) (hr:ZaC k X.A) (hb:ZeF X.K fd ps ds) (hd:YO dvs ds) (hx:Zhe CX X E)
  (I:Inv X pins σ H s) (r:YO vs us) (h:sp (vs++dvs) H Q E):wpAny (model X.prog X.w) X.A (call (.ref f) us) (EP X pins σ Q) X.xe s:=by
 have r2:YO (vs++dvs) (us++ds):=r.append hd
 have hl:(us++ds).length=ps.length:=by rw[<- r2.length];exact F.len _ _ _ _ h
 refine wpAny_call (codeAny_mono (F.run X.A X.stack s H ⟨us,[]⟩ (us++ds) (vs++dvs) Q E hr I.env0 (hb s us I.kIn hl) r2 h) fun r s' hq=>?_)
 cases r with
 |error e=>exact hx pins σ H s e s' I hq
 |ok fl =>
  cases fl with
  |ret u=>exact I.after hq
  |next=>exact False.elim hq
  |brk=>exact False.elim hq
  |cont=>exact False.elim hq
theorem Zmi (F:Jo X.prog X.w X.K X.mg X.base CX k f fd ps sp) (hr:ZaC k X.A) (hg:Gl X x) (hm:X.mg x=some (.ref f)) (hk:PySem.W.keepIn X.K (.ref f)=true) (hb:ZeF X.K fd ps ds) (hd:YO dvs ds) (hx:Zhe CX X E)
  (ha:PA X (e::es) t) (hdb:(x==("__debug__":Str))=false:=by decide) (he:starEach (e::es) X.env=(false,eval e X.env)::starEach es X.env:=by rfl) (hpl:(backTo pos (starEach es X.env)).any (·.1)=false:=by rfl) :
  PE X (.Call (.Name x p) (e::es) [] pos) (Znl sp dvs E t):=by
 intro pins s σ H Q I h
 refine wpAny_Call_Name_kw (Zbt I hg hm ?_ hdb)
 refine PySem.W.callWith_K (h₀:=X.base) I.ok.mod.kin hk (thn (ha pos pins s σ H _ I h) fun us s1 ⟨vs,H1,I1,r,q⟩=>⟨I1.kIn, ?_⟩) he hpl
 exact Zlh F hr hb hd hx I1 r q
theorem Zkj (F:Jo X.prog X.w X.K X.mg X.base CX k f fd ps sp) (hr:ZaC k X.A) (hg:Gl X x) (hm:X.mg x=some (.ref f)) (hk:PySem.W.keepIn X.K (.ref f)=true) (hb:ZeF X.K fd ps ds) (hd:YO dvs ds) (hx:Zhe CX X E)
  (hdb:(x==("__debug__":Str))=false:=by decide):PE X (.Call (.Name x p) [] [] pos) (Znl sp dvs E ZjT):=by
 intro pins s σ H Q I h
 refine wpAny_Call_Name_kw (Zbt I hg hm ?_ hdb)
 exact PySem.W.callWith_K0 I.kIn hk (Zlh (us:=[]) F hr hb hd hx I .nil h)
end
section
variable {X:Cx}{CX:CXT}{k:Nat}{f C:Addr}{fd:FuncData}{ps ks:List Str}{sp:Sp}{E:XK}{x m:Str}{p pos apos kpos:Pos}{e o:Expr}{es:List Expr}{kws:List Keyword}{te ta:TE}{t tk:TA}{nm:Option Str}
variable {g:List Value->List Value->List Value}{gV:List V->List V->List V}
end
structure Zy (N P:List Str) (sc:Scope):Prop where
 kind:sc.kind=.function
 co:sc.isCoroutine=false
 gen:sc.isGenerator=false
 nd:N.Nodup
 pre:N.take P.length=P
 par:∀x∈P,sc.names.lookup x=some .local\/sc.names.lookup x=some .cell
 nofree:∀y∈sc.names,y.2≠.free
theorem Ze0 {kindOf:Str->Option NameKind}{x:Str}:∀{binds:List (Str×Value)}{m:Str->Option Value},(∀v,(x,v) ∉ binds)->bindL kindOf binds m x=m x
 |[],_,_=>rfl
 |(n,v)::r,m,h=>by
  unfold bindL
  rw[Ze0 fun w hw=>h w (ZqB _ hw)]
  split
  ·have:x≠n:=by rintro rfl;exact h v Zrf
   simp[this]
  ·rfl
theorem Ze2 {kindOf:Str->Option NameKind}{x:Str}:∀{binds:List (Str×Value)}{m:Str->Option Value},(∀v,(x,v) ∉ binds)->bindC kindOf binds m x=m x
 |[],_,_=>rfl
 |(n,v)::r,m,h=>by
  unfold bindC
  rw[Ze2 fun w hw=>h w (ZqB _ hw)]
  split
  ·rfl
  ·have:x≠n:=by rintro rfl;exact h v Zrf
   simp[this]
theorem Ze1 {kindOf:Str->Option NameKind}{x:Str}{v:Value}:∀{P:List Str}{vs:List Value}{i:Nat}{m:Str->Option Value},P.Nodup->P[i]?=some x->vs[i]?=some v->kindOf x=some .local ->
  bindL kindOf (P.zip vs) m x=some v
 |[],_,_,_,_,h,_,_=>by simp at h
 |_::_,[],_,_,_,_,h,_=>by simp at h
 |p::P,w::vs,0,m,nd,h1,h2,hk=>by
  simp at h1 h2;subst h1;subst h2
  show bindL kindOf ((p,w)::P.zip vs) m p=_
  unfold bindL
  rw[Ze0 fun v hv=>(ZrP.mp nd).1 (Zsi hv).1,if_pos hk]
  simp
 |p::P,w::vs,i+1,m,nd,h1,h2,hk=>by
  show bindL kindOf ((p,w)::P.zip vs) m x=_
  unfold bindL
  exact Ze1 (i:=i) (ZrP.mp nd).2 (by simpa using h1) (by simpa using h2) hk
theorem Ze3 {kindOf:Str->Option NameKind}{x:Str}{v:Value}:∀{P:List Str}{vs:List Value}{i:Nat}{m:Str->Option Value},P.Nodup->P[i]?=some x->vs[i]?=some v->kindOf x≠some .local ->
  bindC kindOf (P.zip vs) m x=some v
 |[],_,_,_,_,h,_,_=>by simp at h
 |_::_,[],_,_,_,_,h,_=>by simp at h
 |p::P,w::vs,0,m,nd,h1,h2,hk=>by
  simp at h1 h2;subst h1;subst h2
  show bindC kindOf ((p,w)::P.zip vs) m p=_
  unfold bindC
  rw[Ze2 fun v hv=>(ZrP.mp nd).1 (Zsi hv).1,if_neg hk]
  simp
 |p::P,w::vs,i+1,m,nd,h1,h2,hk=>by
  show bindC kindOf ((p,w)::P.zip vs) m x=_
  unfold bindC
  exact Ze3 (i:=i) (ZrP.mp nd).2 (by simpa using h1) (by simpa using h2) hk
noncomputable def Qx (N:List Str) (vs:List V):St:=vs.map some++List.replicate (N.length-vs.length) none
noncomputable def Zet (CX:CXT) (P:Program) (w:World) (K:W.Frag) (mg:Str->Option Value) (base:Heap) (N:List Str) (qual:Str) (scope:Scope) (f:Addr) (cd:Value) (A:Around) (outer:List Env) (s:Shared) (H:Hp) (E:XK):Cx where
 prog:=P
 w:=w
 K:=K
 mg:=mg
 base:=base
 A:=A.deeper (envOfC qual scope s.heap.objs.size f cd)
 N:=N
 s₀:=s
 H₀:=H
 env:=envOfC qual scope s.heap.objs.size f cd
 outer:=outer
 stack:=envOfC qual scope s.heap.objs.size f cd::outer
 ex:=[]
 calm:=true
 fn:=fun _=>true
 pn:=[]
 xe:=fun e s'=>wpAny (model P w) (A.deeper (envOfC qual scope s.heap.objs.size f cd)) (leaving (envOfC qual scope s.heap.objs.size f cd) e) (fun _ s''=>CX outer H s E e s'') (fun e' s''=>CX outer H s E e' s'') s'
theorem ZgZ {sc:Scope}{n:Nat}{x:Str} (h:sc.names.lookup x=some .cell):∃c,(cellsFrom n sc.names []).lookup x=some c:=by
 have q:=PySem.W.cellsFrom_some sc.names n [] (.inl h)
 exact Option.isSome_iff_exists.mp q
theorem ZiY {CX:CXT}{P:Program}{w:World}{K:W.Frag}{mg:Str->Option Value}{base:Heap}{N ps:List Str}{qual:Str}{scope:Scope}{f:Addr}{cd:Value}{A:Around}{outer:List Env}{s s1:Shared}{H:Hp}{E:XK}{us:List Value}{vs:List V}
  (S:Zy N ps scope) (hd:A.handled=none) (e0:ZoB P w K mg base A outer s H) (hl:vs.length=ps.length) (r:YO vs us)
  (x:InCallC s s.heap.objs.size (bindL (envOfC qual scope s.heap.objs.size f cd).kindOf (ps.zip us) fun _=>none) (cellsFrom (s.heap.objs.size+1) scope.names []) (bindC (envOfC qual scope s.heap.objs.size f cd).kindOf (ps.zip us) fun _=>none) s1) :
  Inv (Zet CX P w K mg base N qual scope f cd A outer s H E) [] (Qx N vs) H s1:=by
 have hpl:ps.length<=N.length:=by have:=congrArg List.length S.pre;rw[Zq1] at this;omega
 obtain⟨h1,tk,rfl,hk⟩:=x.done
 have noA:∀b:Addr,b ∉ (Zet CX P w K mg base N qual scope f cd A outer s H E).ex:=fun b z=>absurd (show b∈([]:List Addr) from z) (by simp)
 refine⟨⟨e0.mod,S.kind,rfl,rfl,Zqn _,fun y z c h1 h2=>?_,fun y hy=>?_,fun y c _ h=>?_,fun _=>hd,Around.frames_deeper e0.frames,.inr ⟨rfl,rfl⟩,fun b z=>absurd z (noA b),e0.bs,e0.bsz,fun b _ _=>noA b,fun b z=>absurd z (noA b),e0.funs,e0.frf⟩,
  rfl,e0.bare,Un.kept hk,⟨_,x.toInCall.ns,fun i y v h1 h2 h3=>?_⟩,fun y c h=>⟨_,x.cell y c h⟩,e0.hok.fresh (Zqn _),fun y c h=>?_,fun p hp=>absurd (show p∈([]:List (Addr×Obj)) from hp) (by simp),e0.hok.kept hk, ?_⟩
 ·exact name_of_addr x.apart (PySem.mem_of_lookup h1) (PySem.mem_of_lookup h2)
 ·have hy:scope.names.lookup y=some .cell\/scope.names.lookup y=some .free:=hy
  rcases hy with hy|hy
  ·exact ZgZ hy
  ·exact absurd rfl (S.nofree _ (PySem.mem_of_lookup hy))
 ·exact Nat.le_of_lt (x.above y c (PySem.mem_of_lookup h))
 ·have hi:i<vs.length:=by
   unfold Qx at h2
   by_cases hi:i<vs.length
   ·exact hi
   ·rw[Zqv (by simpa using hi)] at h2
    rw[Zr6] at h2
    split at h2<;>cases h2
  have ha:vs[i]?=some v:=by
   unfold Qx at h2
   rw[Zqr (by simpa using hi),Zq7] at h2
   cases e:vs[i]? with
   |none=>rw[e] at h2;cases h2
   |some a=>rw[e] at h2;cases h2;rfl
  obtain⟨u,hu,rv⟩:=r.get ha
  have hp:ps[i]?=some y:=by
   rw[<- S.pre,List.getElem?_take_of_lt (by omega)];exact h1
  have ndP:ps.Nodup:=by rw[<- S.pre];exact S.nd.sublist (List.take_sublist _ _)
  refine⟨u,rv, ?_⟩
  rcases S.par y (Zqk hp) with k|k
  ·exact .inl ⟨k,Ze1 ndP hp hu k⟩
  ·obtain⟨c,e⟩:=ZgZ (n:=s.heap.objs.size+1) k
   refine .inr ⟨.inl k,c,e, ?_⟩
   have q:=x.cell y c e
   rw[Ze3 ndP hp hu (by show scope.names.lookup y≠_;rw[k];decide)] at q
   exact q
 ·exact e0.hok.fresh (Nat.le_of_lt (x.above y c (PySem.mem_of_lookup h)))
 ·unfold Qx
  show _=N.length
  rw[ZqV,Zqt,List.length_replicate]
  omega
theorem ZnW {CX:CXT}{P:Program}{w:World}{K:W.Frag}{mg:Str->Option Value}{base:Heap}{k:Nat}{f:Addr}{name qual:Str}{params:Arguments}{body:List Stmt}{scope:Scope}{dV kV doc pm cdv ct oc:Value}{an od:Option Addr}
  {osl:Array (Option Value)}{N ps:List Str}{sp:Sp} (lk:K.lookup f=some ⟨oc,od,.func (PySem.W.fnOf name qual params body scope dV kV doc pm an cdv ct),osl⟩) (hcd:PySem.W.codeIn K cdv qual=true) (S:Zy N ps scope)
  (len:∀vs H Q E,sp vs H Q E->vs.length=ps.length)
  (hbody:∀(A:Around) (outer:List Env) (s:Shared) (H:Hp) (vs:List V) (Q:VK) (E:XK),ZaC k (A.deeper (envOfC qual scope s.heap.objs.size f cdv))->sp vs H Q E ->
   ∃t,PSs (Zet CX P w K mg base N qual scope f cdv A outer s H E) body t/\t { nx:=fun _ H'=>Q .non H',rt:=Q } (Qx N vs) H) :
  Jo P w K mg base CX (k+1) f (PySem.W.fnOf name qual params body scope dV kV doc pm an cdv ct) ps sp:=by
 refine⟨len,fun A outer s H args us vs Q E hr e0 hb r hsp=>?_⟩
 have hl:=len _ _ _ _ hsp
 have KX:K.In s.heap:=e0.mod.kin.keeps fun b o e=>(e0.bs b o e).1
 have lim:s.heap.NoLimit:=e0.mod.nolimit.keeps fun b o e=>(e0.bs b o e).1
 have hkind:∀y∈ps.zip us,scope.names.lookup y.1=some .local\/(scope.names.lookup y.1=some .cell/\((cellsFrom (s.heap.objs.size+1) scope.names []).lookup y.1).isSome=true):=fun⟨n,v⟩ hy=>by
  rcases S.par n (Zsi hy).1 with q|q
  ·exact .inl q
  ·exact .inr ⟨q,PySem.W.cellsFrom_some _ _ _ (.inl q)⟩
 refine codeAny_call_function hr.depth (KX _ _ lk) rfl S.co S.gen rfl (PySem.W.codeRec_of KX hcd) (hb _ _ _ _ ?_)
 refine wpAny_newFunctionEnv_cells S.kind hkind fun env he s1 x=>?_
 subst he
 refine⟨lim.keeps x.toInCall.keep,codeAny_func ?_⟩
 obtain⟨t,ht,hq⟩:=hbody A outer s H vs Q E (hr.deeper _) hsp
 have I:Inv (Zet CX P w K mg base N qual scope f cdv A outer s H E) [] (Qx N vs) H s1:=ZiY S hr.hd e0 hl r x
 refine wpAny_mono (ht [] s1 (Qx N vs) H _ I hq) (fun fl s' hs=>?_) fun e s' hs=>hs
 have fin:∀{σ':St}{H':Hp}{v:V}{u:Value},Inv (Zet CX P w K mg base N qual scope f cdv A outer s H E) [] σ' H' s'->WG v u->Q v H'->CE outer P w H s Q u s':=
  fun {σ' H' v u} J rv q=>⟨v,H',J.os,J.bare,J.base,J.hok,rv,q⟩
 cases fl with
 |ret u =>
  obtain⟨v,σ',H',J,rv,q⟩:=hs
  exact fin J rv q
 |next =>
  obtain⟨σ',H',J,q⟩:=hs
  exact fin (v:=V.non) (u:=Value.none) J rfl q
 |brk =>
  obtain⟨_,_,_,q⟩:=hs
  exact False.elim q
 |cont =>
  obtain⟨_,_,_,q⟩:=hs
  exact False.elim q
section
variable {X:Cx}{x:Str}{p pos:Pos}{e:Expr}{es:List Expr}{t:TA}{id T:String}{r:List V->Hp->VK->Prop}
noncomputable def tCB (r:List V->Hp->VK->Prop) (t:TA):TE:=fun σ H Q=>t σ H fun vs H1=>r vs H1 Q
theorem Zo (hc:Vv X (.builtin id) r) (hg:Gl X x) (hm:X.mg x=none) (hv:bootBuiltins x=some (.builtin id)) (ha:PA X (e::es) t) (hn:x ≠ "__name__":=by decide) (hdb:(x==("__debug__":Str))=false:=by decide)
  (he:starEach (e::es) X.env=(false,eval e X.env)::starEach es X.env:=by rfl) (hpl:(backTo pos (starEach es X.env)).any (·.1)=false:=by rfl):PE X (.Call (.Name x p) (e::es) [] pos) (tCB r t):=by
 intro pins s σ H Q I h
 refine wpAny_Call_Name_kw (ZdP I hg hm hv ?_ hn hdb)
 exact PyProof.Rows.callWith_builtin1 (thn (ha pos pins s σ H _ I h) fun us s1 ⟨vs,H1,I1,r1,q1⟩=>hc pins s1 σ H1 vs us Q I1 r1 q1) he hpl
theorem ZN (hc:Vv X (.type T) r) (hg:Gl X x) (hm:X.mg x=none) (hv:bootBuiltins x=some (.type T)) (ha:PA X (e::es) t) (hn:x ≠ "__name__":=by decide) (hdb:(x==("__debug__":Str))=false:=by decide)
  (he:starEach (e::es) X.env=(false,eval e X.env)::starEach es X.env:=by rfl) (hpl:(backTo pos (starEach es X.env)).any (·.1)=false:=by rfl):PE X (.Call (.Name x p) (e::es) [] pos) (tCB r t):=by
 intro pins s σ H Q I h
 refine wpAny_Call_Name_kw (ZdP I hg hm hv ?_ hn hdb)
 exact PyProof.Rows.callWith_type1 (thn (ha pos pins s σ H _ I h) fun us s1 ⟨vs,H1,I1,r1,q1⟩=>hc pins s1 σ H1 vs us Q I1 r1 q1) he hpl
end
end L2
namespace HT
open PySem PyProof.Rows
noncomputable def YC:List Int->List Int->Bool
 |[],[]=>false
 |[],_::_=>true
 |_::_,[]=>false
 |x::xs,y::ys=>if x=y then YC xs ys else decide (x<y)
theorem WL (x y:Int) (xs ys:List Int):YC (x::xs) (y::ys)=if x=y then YC xs ys else decide (x<y):=rfl
section
open PySem.SeqAt
open PySem.AutoSeq1 (wpAny_loadPart')
open PySem.MeetsSeq PySem.MeetsSeq2 PySem.MeetsSeq3
end
section
variable {prog:Program}{w:World}{A:Around}{E:Value->Shared->Prop}{s:Shared}
noncomputable def sIx (n d:Nat):Option Int->Nat
 |none=>d
 |some v=>if v<0 then (v+(n:Int)).toNat else min v.toNat n
end
end HT
namespace L2
open PySem PySem.Spec PyProof.Rows
noncomputable abbrev TO:=St->Hp->(Option Int->Hp->Prop)->Prop
def PO (X:Cx) (e:Option Expr) (t:TO):Prop:=
 ∀(pins:List (Addr×Obj)) (s:Shared) (σ:St) (H:Hp) (Q:Option Int->Hp->Prop),Inv X pins σ H s->t σ H Q ->
  wpAny (model X.prog X.w) X.A (evalPart e X.env) (fun u s'=>∃o H',Inv X pins σ H' s'/\IsPart u o/\Q o H') X.xe s
noncomputable def Zia:TO:=fun _ H Q=>Q none H
noncomputable def Zni (t:TE):TO:=fun σ H Q=>t σ H fun x H1=>∃i,x=.int i/\Q (some i) H1
theorem Zh1 {ns:List Int}:∀{us:List Value},YO (ns.map V.int) us->IntsAre us ns:=by
 induction ns with
 |nil=>intro us r;rw[Zr5] at r;cases r;exact .nil
 |cons n ns ih =>
  intro us r
  rw[Zqz] at r
  cases r with
  |cons r1 r2 =>
   obtain⟨t,e⟩:=r1
   subst e
   exact .cons n t (ih r2)
section
variable {X:Cx}{e:Expr}{te:TE}{lo hi:Option Expr}{tl th:TO}{pos p2:Pos}
theorem Ziy:PO X none Zia:=by
 intro pins s σ H Q I h
 rw[evalPart_none]
 exact wpAny_pure ⟨none,H,I,.none,h⟩
theorem Zix (h:PE X e te):PO X (some e) (Zni te):=by
 intro pins s σ H Q I hw
 rw[evalPart_some]
 refine thn (h pins s σ H _ I hw) fun u s1 ⟨x,H1,I1,r1,q1⟩=>?_
 obtain⟨i,rfl,q⟩:=q1
 obtain⟨t,rfl⟩:=r1
 exact⟨some i,H1,I1,.int i t,q⟩
def SlR (X:Cx) (r:V->Option Int->Option Int->Hp->VK->Prop):Prop:=
 ∀(pins:List (Addr×Obj)) (s:Shared) (σ:St) (H:Hp) (x:V) (v vl vu:Value) (lo hi:Option Int) (sl:Addr) (Q:VK),Inv X pins σ H s->WG x v->s.heap.IsSliceOf sl vl vu .none->IsPart vl lo->IsPart vu hi->r x lo hi H Q ->
  ∃T id,typeLookup (.type T) "__getitem__"=pure (some (.builtin id))/\s.TypeIs v T/\wpAny (model X.prog X.w) X.A (getItem v (.ref sl)) (EP X pins σ Q) X.xe s
noncomputable def tSl (r:V->Option Int->Option Int->Hp->VK->Prop) (te:TE) (tl th:TO):TE:=fun σ H Q=>te σ H fun x H1=>tl σ H1 fun l H2=>th σ H2 fun u H3=>r x l u H3 Q
theorem Zgx {r:V->Option Int->Option Int->Hp->VK->Prop} (hr:SlR X r) (he:PE X e te) (hl:PO X lo tl) (hu:PO X hi th):PE X (.Subscript e (.Slice lo hi none p2) pos) (tSl r te tl th):=by
 intro pins s σ H Q I h
 refine Subscript_ (thn (he pins s σ H _ I h) fun v s1 ⟨x,H1,I1,r1,q1⟩=>?_)
 refine wpAny_Slice (thn (hl pins s1 σ H1 _ I1 q1) fun vl s2 ⟨l,H2,I2,pl,q2⟩=>thn (hu pins s2 σ H2 _ I2 q2) fun vu s3 ⟨u,H3,I3,pu,q3⟩=>?_)
 rw[evalPart_none]
 refine wpAny_pure ?_
 have I4:Inv X pins σ H3 { s3 with heap:=s3.heap.push { cls:=.type "slice",data:=.fields #[vl,vu,.none] } }:=I3.kept (t':=s3.toks) fun b ob q=>Heap.get?_push_of_some _ q
 obtain⟨T,id,hT,ht,hg⟩:=hr pins { s3 with heap:=s3.heap.push { cls:=.type "slice",data:=.fields #[vl,vu,.none] } } σ H3 x v vl vu l u s3.heap.objs.size Q I4 r1 (Heap.IsSliceOf.new ..) pl pu q3
 show wpAny (model X.prog X.w) X.A (subscriptTail e (.Slice lo hi none p2) v (.ref s3.heap.objs.size)) (EP X pins σ Q) X.xe { s3 with heap:=s3.heap.push { cls:=.type "slice",data:=.fields #[vl,vu,.none] } }
 exact tail_any (ops:=[.ref s3.heap.objs.size,v]) ht hT hg (by with_unfolding_all rfl)
noncomputable def ZmX (xs:List V) (lo hi:Option Int):List V:=(xs.drop (HT.sIx xs.length 0 lo)).take (HT.sIx xs.length xs.length hi-HT.sIx xs.length 0 lo)
theorem ZfB (xs:List V) (lo hi:Option Int):(ZmX xs lo hi).length<=xs.length:=by
 unfold ZmX
 rw[Zq1,Zrg]
 omega
end
noncomputable def ixN (n:Nat) (i:Int):Option Nat:=if 0<=i then (if i<n then some i.toNat else none) else if -(n:Int)<=i then some (i+n).toNat else none
noncomputable def atI {α:Type} (xs:List α) (i:Int):Option α:=(ixN xs.length i).bind fun j=>xs[j]?
theorem ZiV {n:Nat}{i:Int}{j:Nat} (h:ixN n i=some j):seqIndex? i n=some j/\j<n/\-(n:Int)<=i/\i<n:=by
 unfold ixN at h
 by_cases h0:0<=i
 ·rw[if_pos h0] at h
  by_cases h1:i<n
  ·rw[if_pos h1] at h
   have e:i.toNat=j:=Option.some.inj h
   exact⟨by rw[seqIndex_of h0 h1,e],by omega,by omega,h1⟩
  ·rw[if_neg h1] at h;cases h
 ·rw[if_neg h0] at h
  by_cases h1:-(n:Int)<=i
  ·rw[if_pos h1] at h
   have e:(i+n).toNat=j:=Option.some.inj h
   exact⟨by rw[seqIndex_neg (by omega) h1,e],by omega,h1,by omega⟩
  ·rw[if_neg h1] at h;cases h
theorem Zdu {α:Type}{xs:List α}{i:Int}{v:α} (h:atI xs i=some v):∃j,seqIndex? i xs.length=some j/\xs[j]?=some v/\j<xs.length/\-(xs.length:Int)<=i/\i<xs.length:=by
 unfold atI at h
 cases e:ixN xs.length i with
 |none=>rw[e] at h;cases h
 |some j =>
  rw[e] at h
  obtain⟨h1,h2,h3,h4⟩:=ZiV e
  exact⟨j,h1,h,h2,h3,h4⟩
def ZmR (b:Expr):Prop:=∀o i,subscripted b false o i=operate [o,i] (getItem o i)
def IxR (X:Cx) (r:R2):Prop:=
 ∀(value slice:Expr) (pins:List (Addr×Obj)) (s:Shared) (σ:St) (H:Hp) (x y:V) (v u:Value) (Q:VK),Inv X pins σ H s->WG x v->WG y u->r x y H Q ->
  subscripted slice false v u=operate [v,u] (getItem v u)->wpAny (model X.prog X.w) X.A (subscriptTail value slice v u) (EP X pins σ Q) X.xe s
def MtR (X:Cx) (id:String) (r:V->List V->Hp->VK->Prop):Prop:=
 ∀(pins:List (Addr×Obj)) (s:Shared) (σ:St) (H:Hp) (x:V) (xs:List V) (v:Value) (us:List Value) (Q:VK),Inv X pins σ H s->WG x v->YO xs us->r x xs H Q ->
  wpAny (model X.prog X.w) X.A (call (.builtin id) (v::us)) (EP X pins σ Q) X.xe s
section
variable {X:Cx}{a b:Expr}{ta tb:TE}{pos:Pos}
theorem IxR.or {r r':R2} (h:IxR X r) (h':IxR X r'):IxR X (fun x y H Q=>r x y H Q\/r' x y H Q):=by
 intro value slice pins s σ H x y v u Q I rx ry q hs
 rcases q with q|q
 ·exact h value slice pins s σ H x y v u Q I rx ry q hs
 ·exact h' value slice pins s σ H x y v u Q I rx ry q hs
theorem WZ {r:R2} (hr:IxR X r) (ha:PE X a ta) (hb:PE X b tb) (hs:ZmR b):PE X (.Subscript a b pos) (tOp r ta tb):=by
 intro pins s σ H Q I h
 exact Subscript_ (Zpn ha hb I h fun v u s2 x y H2 I2 rx ry q=>hr a b pins s2 σ H2 x y v u Q I2 rx ry q (hs _ _))
noncomputable def Znt (K:W.Frag):R2:=fun x y H Q=>∃p xs i v,x=.ref p/\y=.int i/\SqL K H p xs/\atI xs i=some v/\Q v H
noncomputable def Zp7 (K:W.Frag):R2:=fun x y H Q=>∃p xs i v,x=.ref p/\y=.int i/\SqT K H p xs/\atI xs i=some v/\Q v H
noncomputable def Zp8:R2:=fun x y H Q=>∃z i c,x=.str z/\y=.int i/\z.length<=sizeLine/\atI z.cps.toList i=some c/\Q (.str ⟨#[c]⟩) H
theorem Zmz:IxR X (Znt X.K):=by
 intro value slice pins s σ H x y v u Q I rx ry h hs
 obtain⟨p,xs,i,z,rfl,rfl,hq,he,q⟩:=h
 cases rx
 obtain⟨t,rfl⟩:=ry
 obtain⟨its,r,pl,hz⟩:=I.list hq
 obtain⟨j,h1,h2,h3,h4,h5⟩:=Zdu he
 obtain⟨w,ew,rw'⟩:=r.get h2
 have hl:=r.length
 have hn:=Zbr
 have fin:EP X pins σ Q w s:=⟨z,H,I,rw',q⟩
 by_cases h0:0<=i
 ·have hj:i.toNat=j:=by
   rw[seqIndex_of h0 h5] at h1
   exact Option.some.inj h1
  exact item_listR pl.isList h0 (by omega) (by rw[hj];simpa using ew) fin hs
 ·have hj:(i+(its.toArray.size:Int)).toNat=j:=by
   rw[seqIndex_neg (by omega) h4] at h1
   rw[Zqu,<- hl]
   exact Option.some.inj h1
  exact subscriptTail_builtinR (x:=w) pl.isList.typeIs slot_list_getitem.lookup
   (wpAny_getItem_list_neg (Q:=fun r s'=>r=w/\EP X pins σ Q r s') pl.isList (by omega) (by rw[Zqu]<;>omega) (by omega) (by rw[hj];simpa using ew) ⟨rfl,fin⟩) hs
theorem ZnL:IxR X (Zp7 X.K):=by
 intro value slice pins s σ H x y v u Q I rx ry h hs
 obtain⟨p,xs,i,z,rfl,rfl,hq,he,q⟩:=h
 cases rx
 obtain⟨t,rfl⟩:=ry
 obtain⟨its,r,pl,hz⟩:=I.tuple hq
 obtain⟨j,h1,h2,h3,h4,h5⟩:=Zdu he
 obtain⟨w,ew,rw'⟩:=r.get h2
 have hl:=r.length
 have hn:=Zbr
 have fin:EP X pins σ Q w s:=⟨z,H,I,rw',q⟩
 exact subscriptTail_builtinR (x:=w) pl.typeIs slot_tuple_getitem.lookup
  (getItem_tuple (j:=j) (Q:=fun r s'=>r=w/\EP X pins σ Q r s') pl (by omega) (by omega) (by rw[Zqu,<- hl];exact h1) (by simpa using ew) ⟨rfl,fin⟩) hs
theorem ZnM:IxR X Zp8:=by
 intro value slice pins s σ H x y v u Q I rx ry h hs
 obtain⟨z,i,c,rfl,rfl,hz,he,q⟩:=h
 obtain⟨t,rfl⟩:=rx
 obtain⟨t',rfl⟩:=ry
 obtain⟨j,h1,h2,h3,h4,h5⟩:=Zdu he
 have hl:z.cps.toList.length=z.length:=by simp[Str.length]
 rw[hl] at h1 h4 h5
 have hn:=Zbr
 exact tail_any (typeIs_str s z t) slot_str_getitem.lookup (getItem_str (c:=c) (by
  have e1:decide (i < -(2^63:Int))=false:=decide_eq_false (by omega)
  have e2:decide (i ≥ 2^63)=false:=decide_eq_false (by omega)
  rw[e1,e2,Bool.or_false]) (by rw[h1];simpa using h2) ⟨.str ⟨#[c]⟩,H,I.tok _,⟨_,rfl⟩,q⟩) hs
noncomputable def rIx (K:W.Frag):R2:=fun x y H Q=>Znt K x y H Q\/Zp7 K x y H Q\/Zp8 x y H Q
theorem ZnN:IxR X (rIx X.K):=Zmz.or (ZnL.or ZnM)
theorem Zhu (its:List Value) (n j:Nat) (u:Value):Obj.mapSeq (·.setIfInBounds j u) { cls:=.type "list",data:=.seq its.toArray n }={ cls:=.type "list",data:=.seq (its.set j u).toArray n }:=by
 simp[Obj.mapSeq]
theorem Inv.lst {pins:List (Addr×Obj)}{σ:St}{H:Hp}{s:Shared}{p:Addr}{xs:List V} (I:Inv X pins σ H s) (h:H p=some (.lst xs)) :
  ∃(its:List Value) (n:Nat),YO xs its/\s.heap.get? p=some { cls:=.type "list",data:=.seq its.toArray n }/\xs.length<=sizeLine:=by
 obtain⟨z,its,n,r,e⟩:=I.hok p _ h
 exact⟨its,n,r,e,z⟩
theorem Inv.lstUpd {pins:List (Addr×Obj)}{σ:St}{H:Hp}{s:Shared}{p:Addr}{xs ys:List V}{its its':List Value}{n n':Nat}{f:Obj->Obj} (I:Inv X pins σ H s) (h:H p=some (.lst xs))
  (ho:s.heap.get? p=some { cls:=.type "list",data:=.seq its.toArray n }) (hf:f { cls:=.type "list",data:=.seq its.toArray n }={ cls:=.type "list",data:=.seq its'.toArray n' }) (r:YO ys its') (hz:ys.length<=sizeLine) (t:Nat) :
  Inv X pins σ (upd H p (.lst ys)) { s with heap:=s.heap.update p f,toks:=t }:=by
 have e:(s.heap.update p f).get? p=some { cls:=.type "list",data:=.seq its'.toArray n' }:=by
  rw[Heap.get?_update_self f ho (by rw[hf]<;>rfl),hf]
 refine I.write (x:=p) (e:=p) (by rw[h];trivial) (.inl rfl) (fun b u hb q=>(Heap.get?_update_other _ _ (Ne.symm hb)).trans q) ⟨_,e⟩ ?_
 exact⟨hz,its',n',r,e⟩
def ZlZ:V->V->V->Hp->(Hp->Prop)->Prop:=fun o i v H Q=>∃p xs k j,o=.ref p/\i=.int k/\H p=some (.lst xs)/\ixN xs.length k=some j/\Q (upd H p (.lst (xs.set j v)))
theorem Vy:Zps X ZlZ:=by
 intro pins s σ H o i v ov iv u Q I ro ri rv h
 obtain⟨p,xs,k,j,rfl,rfl,hp,hj,q⟩:=h
 cases ro
 obtain⟨t,rfl⟩:=ri
 obtain⟨its,n,r,ho,hz⟩:=I.lst hp
 obtain⟨h1,h2,h3,h4⟩:=ZiV hj
 have hl:=r.length
 have hn:=Zbr
 have I':Inv X pins σ (upd H p (.lst (xs.set j v))) { s with heap:=s.heap.update p (Obj.mapSeq (·.setIfInBounds j u)) }:=
  I.lstUpd hp ho (Zhu its n j u) (r.set rv j) (by rw[Zrr];exact hz) s.toks
 by_cases h0:0<=k
 ·have hk:k.toNat=j:=by
   rw[seqIndex_of h0 h4] at h1
   exact Option.some.inj h1
  exact PySem.W.ki_setAt ho h0 (by omega) (by rw[Zqu,<- hl];exact h4) (by rw[hk];exact⟨_,I',q⟩)
 ·have hk:(k+(its.toArray.size:Int)).toNat=j:=by
   rw[seqIndex_neg (by omega) h3] at h1
   rw[Zqu,<- hl]
   exact Option.some.inj h1
  exact PySem.W.ki_setBack ho (by omega) (by rw[Zqu,<- hl];exact h3) (by omega) (by rw[hk];exact⟨_,I',q⟩)
theorem Zd9 (lo hi:Option Int) (n:Nat):(sliceBounds lo hi none n).1=((HT.sIx n 0 lo:Nat):Int)/\(sliceBounds lo hi none n).2.1=((HT.sIx n n hi:Nat):Int)/\(sliceBounds lo hi none n).2.2=1:=by
 refine⟨?_, ?_,rfl⟩
 ·cases lo with
  |none=>simp[sliceBounds,HT.sIx]
  |some i =>
   simp only[sliceBounds,HT.sIx,Option.getD_none,show (1:Int)>0 by decide,if_true]
   by_cases h:i<0
   ·simp only[h,if_true]<;>omega
   ·simp only[h,if_false]<;>omega
 ·cases hi with
  |none=>simp[sliceBounds,HT.sIx]
  |some i =>
   simp only[sliceBounds,HT.sIx,Option.getD_none,show (1:Int)>0 by decide,if_true]
   by_cases h:i<0
   ·simp only[h,if_true]<;>omega
   ·simp only[h,if_false]<;>omega
theorem ZcB (its:List Value) (lo hi:Option Int):slicePick its.toArray lo hi none=((its.drop (HT.sIx its.length 0 lo)).take (HT.sIx its.length its.length hi-HT.sIx its.length 0 lo)).toArray:=by
 obtain⟨h1,h2,h3⟩:=Zd9 lo hi its.toArray.size
 unfold slicePick
 rw[h1,h2,h3]
 simp only[sliceRange_one,pick_run,Zqu]<;>rfl
def ZoK (K:W.Frag):V->Option Int->Option Int->Hp->VK->Prop:=fun x lo hi H Q=>∃a xs,x=.ref a/\SqL K H a xs/\∀p,H p=none->Q (.ref p) (upd H p (.lst (ZmX xs lo hi)))
theorem ZlT:SlR X (ZoK X.K):=by
 intro pins s σ H x v vl vu lo hi sl Q I rx hs pl pu h
 obtain⟨a,xs,rfl,hx,q⟩:=h
 cases rx
 obtain⟨its,r,ht,hz⟩:=I.list hx
 have hlen:=r.length
 refine⟨"list",_,slot_list_getitem.lookup,ht.isList.typeIs, ?_⟩
 refine wpAny_getItem_list_slice ht.isList hs pl pu .none (by simp) ?_ (by rw[Zqu]<;>omega)
 rw[ZcB,<- hlen]
 refine⟨.ref s.heap.objs.size,_,I.laid (t':=s.toks) (o:=.lst (ZmX xs lo hi)) (fun b ob q=>Heap.get?_push_of_some _ q) (Zqn _) ?_,rfl,q _ (I.hok.fresh (Zqn _))⟩
 exact⟨Zq3 (ZfB xs lo hi) hz,_,0,(r.drop (HT.sIx xs.length 0 lo)).take (HT.sIx xs.length xs.length hi-HT.sIx xs.length 0 lo),Heap.get?_push_size _ rfl⟩
theorem Zex:Vv X (.builtin "len") (fun xs H Q=>∃p ys,xs=[.ref p]/\(SqL X.K H p ys\/SqT X.K H p ys)/\Q (.int ys.length) H):=by
 intro pins s σ H xs us Q I r h
 obtain⟨p,ys,rfl,hq,q⟩:=h
 obtain⟨u,rfl,rx⟩:=Zc3 r
 cases rx
 have hn:=Zbr
 rcases hq with hq|hq
 ·obtain⟨its,r',pl,hz⟩:=I.list hq
  have hlen:=r'.length
  exact Calls.call_len_list pl.isList (by simp only[Zqu]<;>omega) ⟨.int ys.length,H,I.tok _,⟨s.toks+1,by rw[Zqu,hlen]⟩,q⟩
 ·obtain⟨its,r',pl,hz⟩:=I.tuple hq
  have hlen:=r'.length
  exact len_tuple pl (by simp only[Zqu]<;>omega) ⟨.int ys.length,H,I.tok _,⟨s.toks+1,by rw[Zqu,hlen]⟩,q⟩
theorem Zew:Vv X (.type "list") (fun xs H Q=>∃p ys,xs=[.ref p]/\(SqL X.K H p ys\/SqT X.K H p ys)/\∀l,H l=none->Q (.ref l) (upd H l (.lst ys))):=by
 intro pins s σ H xs us Q I r h
 obtain⟨p,ys,rfl,hq,q⟩:=h
 obtain⟨u,rfl,rx⟩:=Zc3 r
 cases rx
 have fin:∀(its:List Value),YO ys its->ys.length<=sizeLine->∀(h':Heap) (c':Nat),(∀b o',s.heap.get? b=some o'->h'.get? b=some o') ->
   h'.get? s.heap.objs.size=some { cls:=.type "list",dict:=none,data:=.seq its.toArray c',slots:=#[] }->EP X pins σ Q (.ref s.heap.objs.size) { s with heap:=h' }:=fun its r' hz h' c' kp e =>
  ⟨.ref s.heap.objs.size,_,I.laid (t':=s.toks) kp (Zqn _) (show Jn X.prog X.w _ h' _ (.lst ys) from ⟨hz,its,c',r',e⟩),rfl,q _ (I.hok.fresh (Zqn _))⟩
 rcases hq with hq|hq
 ·obtain⟨its,r',pl,hz⟩:=I.list hq
  have hlen:=r'.length
  obtain⟨o,ho,hc,n,hd⟩:=pl.isList
  exact call_list_seq p (.inl rfl) ho hc hd (fun h' c' kp e=>fin its r' hz h' c' kp e) (by simp only[Zqu]<;>omega)
 ·obtain⟨its,r',pl,hz⟩:=I.tuple hq
  have hlen:=r'.length
  obtain⟨o,ho,hc,n,hd⟩:=pl
  exact call_list_seq p (.inr rfl) ho hc hd (fun h' c' kp e=>fin its r' hz h' c' kp e) (by simp only[Zqu]<;>omega)
theorem Zdm:Vv X (.type "tuple") (fun xs H Q=>∃p ys,xs=[.ref p]/\((SqL X.K H p ys/\∀l,H l=none->Q (.ref l) (upd H l (.tup ys)))\/(SqT X.K H p ys/\Q (.ref p) H))):=by
 intro pins s σ H xs us Q I r h
 obtain⟨p,ys,rfl,h⟩:=h
 obtain⟨u,rfl,rx⟩:=Zc3 r
 cases rx
 rcases h with ⟨hq,q⟩|⟨hq,q⟩
 ·obtain⟨its,r',pl,hz⟩:=I.list hq
  have hlen:=r'.length
  refine call_tuple_list pl.isList (fun h' kp=>?_) (by simp only[Zqu]<;>omega)
  have I1:Inv X pins σ H { s with heap:=h' }:=I.kept (t':=s.toks) kp
  have I2:Inv X pins σ (upd H h'.objs.size (.tup ys)) { s with heap:=h'.push { cls:=.type "tuple",data:=.seq its.toArray } }:=
   I1.laid (t':=s.toks) (fun b o e=>Heap.get?_push_of_some _ e) (Zqn _) (show Jn X.prog X.w _ _ _ (.tup ys) from ⟨hz,its,r',IsTup.new _ _⟩)
  exact⟨.ref h'.objs.size,_,I2,rfl,q _ (I1.hok.fresh (Zqn _))⟩
 ·obtain⟨its,r',pl,hz⟩:=I.tuple hq
  exact call_tuple_same pl ⟨.ref p,H,I,rfl,q⟩
def tyV (K:W.Frag) (T:String) (x:V) (H:Hp):Prop:=match x with
 |.str _=>T = "str"
 |.int _=>T = "int"
 |.ref p=>(T = "list"/\∃xs,SqL K H p xs)\/(T = "tuple"/\∃o,K.lookup p=some o/\o.cls=.type "tuple"/\o.dict=none) \/
   (T = "dict"/\((∃kvs,H p=some (.dK kvs))\/∃kvs,H p=some (.dT kvs)))\/(T = "set"/\∃S n,H p=some (.set S n))
 |_=>False
theorem Znc {pins:List (Addr×Obj)}{σ:St}{H:Hp}{s:Shared}{T:String}{x:V}{v:Value} (I:Inv X pins σ H s) (r:WG x v) (ty:tyV X.K T x H) :
  s.TypeIs v T/\∀a,v=.ref a->∃ob,s.heap.get? a=some ob/\ob.dict=none:=by
 cases x with
 |str z =>
  obtain⟨t,rfl⟩:=r
  cases (show T = "str" from ty)
  exact⟨typeIs_str s z t,fun _ e=>nomatch e⟩
 |int i =>
  obtain⟨t,rfl⟩:=r
  cases (show T = "int" from ty)
  exact⟨typeIs_int s i t,fun _ e=>nomatch e⟩
 |ref p =>
  cases r
  rcases ty with ⟨rfl,xs,hq⟩|⟨rfl,o,hk,hc,hd⟩|⟨rfl,hk⟩|⟨rfl,S,n,hk⟩
  ·obtain⟨its,_,pl,_⟩:=I.list hq
   refine⟨pl.isList.typeIs,fun a e=>?_⟩
   cases e
   obtain⟨o,n,e,c,hd,_⟩:=pl
   exact⟨o,e,hd⟩
  ·refine⟨⟨o,I.kIn p o hk,hc⟩,fun a e=>?_⟩
   cases e
   exact⟨o,I.kIn _ o hk,hd⟩
  ·have z:∃o,s.heap.get? p=some o/\o.ExactDict:=by
    rcases hk with ⟨kvs,hk⟩|⟨kvs,hk⟩
    ·obtain⟨_,_,_,_,o,_,_,e,ex,_⟩:=I.hok p _ hk
     exact⟨o,e,ex⟩
    ·obtain⟨_,_,_,_,o,_,_,e,ex,_⟩:=I.hok p _ hk
     exact⟨o,e,ex⟩
   obtain⟨o,e,ex⟩:=z
   refine⟨⟨o,e,ex.1⟩,fun a e2=>?_⟩
   cases e2
   exact⟨o,e,ex.2.1⟩
  ·obtain⟨o,_,_,_,e,ex,_⟩:=I.hok p _ hk
   refine⟨⟨o,e,ex.1⟩,fun a e2=>?_⟩
   cases e2
   exact⟨o,e,ex.2.1⟩
 |_=>exact False.elim ty
noncomputable def tBM (K:W.Frag) (T:String) (r:V->List V->Hp->VK->Prop) (to:TE) (t:TA):TE:=fun σ H Q=>to σ H fun x H1=>tyV K T x H1/\t σ H1 fun xs H2=>r x xs H2 Q
variable {o e:Expr}{es:List Expr}{to:TE}{t:TA}{name:Str}{apos cpos:Pos}{T id:String}{r:V->List V->Hp->VK->Prop}
theorem Zmj (pa:PlainAttrs T) (slot:Slot T name id) (hty:typeOf (.builtin id)=pure (.type "method_descriptor")) (hm:MtR X id r) (ho:PE X o to) (ha:PA X (e::es) t)
  (hbase:attributeBase o name X.env (eval o X.env)=eval o X.env:=by rfl)
  (hfew:((backTo cpos (starEach (e::es) X.env)).all (fun x=>!x.1)&&(backToKw cpos (keywordEach [] X.env)).all (fun x=>x.1.isSome)
   && decide ((e::es).length+([]:List Keyword).length+(if ([]:List Keyword).isEmpty then 0 else 1)<30))=true:=by rfl)
  (hline:(apos.endLine==cpos.line)=true:=by rfl) (hs:starEach (e::es) X.env=(false,eval e X.env)::starEach es X.env:=by rfl) (hplain:(backTo cpos (starEach es X.env)).any (·.1)=false:=by rfl) :
  PE X (.Call (.Attribute o name apos) (e::es) [] cpos) (tBM X.K T r to t):=by
 intro pins s σ H Q I h
 refine wpAny_Call_method_late hbase hfew hline rfl (thn (ho pins s σ H _ I h) fun v s1 ⟨x,H1,I1,r1,ty,q1⟩=>?_)
 obtain⟨h1,h2⟩:=Znc I1 r1 ty
 refine⟨T,id,pa,slot,hty,h1,h2, ?_⟩
 have hA:=ha cpos pins s1 σ H1 _ I1 q1
 rw[hs] at hA ⊢
 refine Calls.callWith_builtin (by show (false || (backTo cpos (starEach es X.env)).any (·.1))=false;rw[hplain]<;>rfl) (Calls.evalArgs_plain ?_)
 exact thn hA fun us s2 ⟨vs,H2,I2,r2,q2⟩=>hm pins s2 σ H2 x vs v us Q I2 r1 r2 q2
end
def MtM (X:Cx) (id:String) (r:V->List V->Hp->VK->Prop):Prop:=
 ∀(pins:List (Addr×Obj)) (s:Shared) (σ:St) (H:Hp) (x:V) (xs:List V) (v:Value) (us:List Value) (Q:VK),Inv X pins σ H s->WG x v->YO xs us->r x xs H Q ->
  wpAny (model X.prog X.w) X.A (call (.builtin id) (v::us)) (EP X pins σ Q) X.xe s
theorem YO.one:∀{x:V}{us:List Value},YO [x] us->∃u,us=[u]/\WG x u
 |_,_,.cons r .nil=>⟨_,rfl,r⟩
section
variable {X:Cx}{pins:List (Addr×Obj)}{σ:St}{H:Hp}{s:Shared}{l b:Addr}{xs ys zs:List V}
theorem Inv.lset {its its':List Value}{n:Nat}{f:Array Value->Array Value}{t':Nat} (I:Inv X pins σ H s) (hH:H l=some (.lst xs))
  (e:s.heap.get? l=some { cls:=.type "list",data:=.seq its.toArray n }) (hf:f its.toArray=its'.toArray) (hv:YO ys its') (hz:ys.length<=sizeLine) :
  Inv X pins σ (upd H l (.lst ys)) { s with heap:=s.heap.update l (Obj.mapSeq f),toks:=t' }:=by
 have q:=PySem.IsL.update e f
 rw[hf] at q
 refine I.write (x:=l) (e:=l) (by rw[hH];exact trivial) (.inl rfl) (fun b' u hb hu=>(Heap.get?_update_other s.heap (Obj.mapSeq f) (Ne.symm hb)).trans hu) ⟨_,q⟩ ?_
 exact⟨hz,its',_,hv,q⟩
theorem Inv.lstM (I:Inv X pins σ H s) (hH:H l=some (.lst xs)):xs.length<=sizeLine/\∃(its:List Value) (n:Nat),YO xs its/\xs.length=its.length/\s.heap.get? l=some { cls:=.type "list",data:=.seq its.toArray n }:=by
 obtain⟨z,its,n,r,e⟩:=I.hok l _ hH
 exact⟨z,its,n,r,r.length,e⟩
end
section
variable {X:Cx}
def Zis:V->List V->Hp->VK->Prop:=fun x vs H Q=>∃l xs y,x=.ref l/\vs=[y]/\H l=some (.lst xs)/\xs.length<sizeLine/\Q .non (upd H l (.lst (xs++[y])))
theorem Zbo:MtM X "list.append" Zis:=by
 intro pins s σ H x vs v us Q I rx rv h
 obtain⟨l,xs,y,rfl,rfl,hH,hz,q⟩:=h
 cases rx
 obtain⟨u,rfl,ru⟩:=rv.one
 obtain⟨z,its,n,r,hl,e⟩:=I.lstM hH
 refine call_meets F.slot_list_append ⟨_,e,rfl⟩ F.entry_list_append (F.args_list_append_2 _ _) (PySem.list_append l its.toArray n u (by rw[Zqu];omega)) ⟨e, ?_⟩
 refine⟨.non,_,I.lset (its':=its++[u]) hH e (by simp) (r.append (.cons ru .nil)) ?_,rfl,q⟩
 rw[ZqV,List.length_singleton]
 omega
end
section
variable {prog:Program}{w:World}{A:Around}{E:Value->Shared->Prop}{s:Shared}
set_option maxRecDepth 100000 in
end
section
variable {X:Cx}
end
end L2
namespace Att
open PySem PySem.W PySem.Calls PyProof.Rows
theorem Zb0 {P:Params}{h:Heap}:∀(ns:List Int) (vs:List Value),WellAll P h vs (ns.map WData.int)->IntsAre vs ns:=by
 intro ns
 induction ns with
 |nil =>
  intro vs w
  rw[Zr5] at w
  cases w
  exact .nil
 |cons n ns ih =>
  intro vs w
  rw[Zqz] at w
  cases w with
  |cons a b =>
   cases a
   exact .cons _ _ (ih _ b)
theorem Zik {l:OpenLaw}{n:Nat} (hn:l.most=some n) {P:Params}{h:Heap}{args:List WData}{vals:List Value}
  (hpre:l.row.toRowW.claim.pre args=true) (hwl:WellAll P h vals args) :
  ∃a vs ns,vals=[Value.ref a]/\args=[WData.list (ns.map WData.int)]/\h.get? a=some { cls:=.type "list",data:=.seq vs.toArray }/\IntsAre vs ns/\ns.length<=n:=by
 have hsh:WShape.hasAll [] args [.list .int]=true:=(pre_splitW hpre).1
 have hc:l.pre.holds [] { args:=args }=true:=(pre_splitW hpre).2
 obtain⟨d,r,rfl,h1,h2⟩:=hasAllW_cons hsh
 obtain rfl:=hasAllW_nil h2
 obtain⟨xs,rfl,h3⟩:=hasW_list h1
 obtain⟨ns,rfl⟩:=items_int h3
 have hlen:ns.length<=n:=by
  unfold OpenLaw.pre at hc
  have h4:(WTm.not (.lt (.lit (.int (n:Int))) (.len (.arg 0)))).holds [] { args:=[.list (ns.map .int)] }=true:=by
   have h4:=(holds_andW hc).1
   rw[hn] at h4
   exact h4
  have h5:=condW_of h4 (w_not (w_lt w_lit (w_len_list (w_arg rfl))))
  rw[Zqt] at h5
  refine Nat.le_of_not_lt fun q=>?_
  have q':(n:Int)<((ns.length:Nat):Int):=by omega
  first
   |(rw[decide_eq_true q'] at h5;exact absurd h5 (by decide))
   |(simp at h5;omega)
 cases hwl with
 |cons w1 w2 =>
  cases w2
  cases w1 with
  |list ho hall=>exact⟨_,_,ns,rfl,rfl,ho,Zb0 ns _ hall,hlen⟩
theorem Ziw (l:OpenLaw) (args:List WData):l.row.toRowW.claim.post args (.bool true) args=true:=
 postW_of (r:=l.row.toRowW) (X:=(true==true))
  (show WShape.has [] (.bool true) .bool=true by first|rfl|decide|simp[WShape.has,WShape.arms,WShape.armsAll])
  (show (WTm.eq .res (.lit (.bool true))).value [] { args:=args,res:=some (.bool true),after:=args }=some (.bool (true==true)) from w_eq_bool (w_res rfl) w_lit) rfl
theorem ZfN {l:OpenLaw}{n:Nat}{q:Program}{loose:List Str}{XP:(Str->Option Value)->Heap->Prop}{YP:World->Heap->Prop}{d:DefRec}
  (hn:l.most=some n) (hdf:d.params.defaults=[])
  (call:∀(w:World) (s₀ s₁:Shared) (mg mb:Str->Option Value) (fa:Addr) (o:Obj) (pm cd doc:Value) (a:Addr) (vs:List Value) (ns:List Int),
   Ground q loose [] XP w s₀ mg mb s₁.heap->YP w s₁.heap ->
   s₁.heap.get? fa=some o->o.data=.func (docDef d.name d.params d.body d.scope pm cd doc)->s₁.heap.CodeRec cd d.name->mg d.name=some (.ref fa) ->
   s₁.heap.get? a=some { cls:=.type "list",data:=.seq vs.toArray }->IntsAre vs ns->ns.length<=n->s₁.gens=#[] ->
   codeAny (model l.prog w) callerA (.call (.ref fa) ⟨[.ref a],[]⟩) (fun r s'=>r=.ok (.ret (.bool true))/\OldK s₁.heap s'.heap/\s'.os=s₁.os/\AllBare s'.gens) s₁) :
  WalkO q loose XP YP l.row.toRowW d [] (fun f vs=>PySem.call f vs):=by
 intro w s₀ s₁ mg mb G Y fa o pm cd doc dV kV ho hd hcd hD hmg hg args vals as hpre hlay hrd hwl hlo
 obtain rfl:dV=.none:=Dflts.none hD hdf
 obtain rfl:kV=.none:=Dflts.noKw hD
 obtain⟨a,vs,ns,rfl,rfl,hobj,hints,hlen⟩:=Zik hn hpre hwl
 refine enter_call (codeAny_mono (call w s₀ s₁ mg mb fa o pm cd doc a vs ns G Y ho (fd_plain hd) hcd hmg hobj hints hlen hg) fun r s' hq=>?_)
 obtain⟨rfl,h2,h3,h4⟩:=hq
 exact⟨.inl ⟨.bool true,.bool true,[],rfl,fun _=>rfl,.bool true,Ziw l _,fun _=>⟨List.Pairwise.nil,fun _ hm=>(nomatch hm)⟩⟩,h2,h3,h4⟩
section
variable {prog:Program}{w:World}{A:Around}{E:Value->Shared->Prop}{s:Shared}{K:Frag}
end
end Att
namespace L2
open PySem PySem.Spec PyProof.Rows
theorem Zd3:∀{vs:List Value}{ns:List Int},IntsAre vs ns->YO (ns.map V.int) vs
 |_,_,.nil=>.nil
 |_,_,.cons n t h=>.cons ⟨t,rfl⟩ (Zd3 h)
def Zov (H:Hp):Prop:=∀b,H b=none\/∃o xs,H b=some (.frz o (.lst xs))
theorem Zk1 {P:Program}{w:World}{K:W.Frag}{mg mb:Str->Option Value}{CX:CXT}{k:Nat}{fa a:Addr}{fd:FuncData}{x:Str}{sp:Sp}{s₁:Shared}{vs:List Value}{ns:List Int}
  (KX:K.In s₁.heap) (hns:s₁.heap.Ns mainGlobals mg) (hb:s₁.heap.Ns builtinsNs mb) (hbb:∀x:Str,x ≠ "__name__"->mb x=bootBuiltins x) (hlim:s₁.heap.NoLimit) (hg:s₁.gens=#[])
  (ha:s₁.heap.get? a=some { cls:=.type "list",data:=.seq vs.toArray }) (hi:IntsAre vs ns) (hl:ns.length<=sizeLine) (hr:ZaC k callerA)
  (F:∀base:Heap,K.In base->base.Ns mainGlobals mg->Jo P w K mg base CX k fa fd [x] sp) (hbind:∀(s:Shared) (u:Value),BindsTo s fd ⟨[u],[]⟩ [(x,u)])
  (hsp:∀H:Hp,Zov H->SqL K H a (ns.map V.int)->sp [.ref a] H (fun v _=>v=.bl true) fun _ _ _=>False)
  (hCX:∀H e s',CX [] H s₁ (fun _ _ _=>False) e s'->False) :
  codeAny (model P w) callerA (.call (.ref fa) ⟨[.ref a],[]⟩) (fun r s'=>r=.ok (.ret (.bool true))/\OldK s₁.heap s'.heap/\s'.os=s₁.os/\AllBare s'.gens) s₁:=by
 have rv:=Zd3 hi
 have lenV:=hi.length
 have core:∀H:Hp,Zov H->SqL K H a (ns.map V.int)->HOk P w H s₁.heap->(∀b,H b≠none->b=a)->(H a≠none->K.lookup a=none) ->
   codeAny (model P w) callerA (.call (.ref fa) ⟨[.ref a],[]⟩) (fun r s'=>r=.ok (.ret (.bool true))/\OldK s₁.heap s'.heap/\s'.os=s₁.os/\AllBare s'.gens) s₁:=by
  intro H hO hS hok hA hK
  have base_of:∀{b:Addr}{o:Obj},s₁.heap.get? b=some o->H b=none->(Zk6 s₁.heap H).get? b=some o:=fun e n=>Zk5 e n
  have noA:∀{b:Addr}{o:Obj}{es:Array DictEntry}{ep:Nat},s₁.heap.get? b=some o->o.data=.dict es ep->H b=none:=fun {b o es ep} e d=>by
   cases q:H b with
   |none=>rfl
   |some u =>
    have e':b=a:=hA b (by rw[q];simp)
    subst e'
    rw[ha] at e;cases e
    have d':Data.seq vs.toArray _=Data.dict es ep:=d
    cases d'
  have nsK:∀{b:Addr}{m:Str->Option Value},s₁.heap.Ns b m->(Zk6 s₁.heap H).Ns b m:=fun {b m} ⟨o,es,ep,e,d,r⟩=>⟨o,es,ep,base_of e (noA e d),d,r⟩
  have hKb:K.In (Zk6 s₁.heap H):=fun b o e=>base_of (KX b o e) (by
   cases q:H b with
   |none=>rfl
   |some u =>
    have e':b=a:=hA b (by rw[q];simp)
    subst e'
    rw[hK (by rw[q];simp)] at e;cases e)
  have hM:Mod K mg (Zk6 s₁.heap H):=⟨hKb,nsK hns,⟨mb,nsK hb,hbb⟩,let ⟨mc,h1,h2⟩:=hlim;⟨mc,nsK h1,h2⟩⟩
  have e0:ZoB P w K mg (Zk6 s₁.heap H) callerA [] s₁ H:=⟨rfl,hM,fun b o e=>Zmn e,Nat.le_of_eq (Zja _ _),trivial,fun b hb=>absurd (show b∈([]:List Addr) from hb) (by simp),hok,.of_eq hg⟩
  refine codeAny_mono ((F _ hKb (nsK hns)).run callerA [] s₁ H ⟨[.ref a],[]⟩ [.ref a] [.ref a] _ _ hr e0 (hbind s₁ (.ref a)) (.cons rfl .nil) (hsp H hO hS)) fun r s' h=>?_
  cases r with
  |error e=>exact(hCX H e s' h).elim
  |ok fl =>
   cases fl with
   |next=>exact False.elim h
   |brk=>exact False.elim h
   |cont=>exact False.elim h
   |ret u =>
    obtain⟨v,H',os,bare,un,hok',r',q⟩:=h
    have q':v=.bl true:=q
    subst q'
    obtain rfl:u=Value.bool true:=r'
    refine⟨rfl,OldK.of_keep fun b o e=>?_,os,bare⟩
    cases q:H b with
    |none=>exact un.keep b o e q (by intro z;exact absurd (show b∈([]:List Addr) from z) (by simp)) (by simp)
    |some u =>
     rcases hO b with z|⟨ob,xs,z⟩
     ·rw[q] at z;cases z
     ·have z2:=un.frzs b ob _ z
      obtain⟨e1,_⟩:=hok b _ z
      obtain⟨e2,_⟩:=hok' b _ z2
      rw[e] at e1;cases e1
      exact e2
 cases hk:K.lookup a with
 |some o =>
  have e:=KX a o hk
  rw[ha] at e
  cases e
  refine core (fun _=>none) (fun _=>.inl rfl) (.inr ⟨_,vs.toArray,_,hk,rfl,rfl,rfl,by rw[Zqu,lenV];exact hl,by simpa using rv⟩) (fun b u z=>by have z':(none:Option HO)=some u:=z;cases z') (fun b z=>absurd rfl z) fun z=>absurd rfl z
 |none =>
  refine core (fun b=>if b=a then some (.frz { cls:=.type "list",data:=.seq vs.toArray } (.lst (ns.map V.int))) else none) (fun b=>?_) (.inl (.inr ⟨{ cls:=.type "list",data:=.seq vs.toArray },if_pos rfl⟩)) (fun b u z=>?_) (fun b z=>?_) fun _=>hk
  ·by_cases hb:b=a
   ·exact .inr ⟨_,_,if_pos hb⟩
   ·exact .inl (if_neg hb)
  ·by_cases hb:b=a
   ·have z':=(if_pos hb).symm.trans z
    cases z'
    subst hb
    exact⟨ha,by rw[Zqt];exact hl,vs,_,rv,ha⟩
   ·have z':=(if_neg hb).symm.trans z
    cases z'
  ·by_cases hb:b=a
   ·exact hb
   ·exact absurd (if_neg hb) z
noncomputable abbrev KOf {K:W.Frag}{h:Heap} (_:K.In h):W.Frag:=K
theorem ZlL {l:PySem.W.OpenLaw}{n k:Nat}{q:Program}{loose:List Str}{XP:(Str->Option Value)->Heap->Prop}{YP:World->Heap->Prop}{d:DefRec}{K:Params->W.Frag}{CX:World->CXT}{sp:World->Sp}{x:Str}
  (hn:l.most=some n) (hn2:n<=sizeLine) (hdf:d.params.defaults=[]) (hr:ZaC k callerA)
  (hY:∀(w:World) (h:Heap),YP w h->(K w.params).In h)
  (F:∀(w:World) (mg:Str->Option Value) (fa:Addr) (h:Heap),(K w.params).In h->h.Ns mainGlobals mg->mg d.name=some (.ref fa) ->
   ∃fd:FuncData,(∀(s:Shared) (u:Value),BindsTo s fd ⟨[u],[]⟩ [(x,u)]) /\
    ∀base:Heap,(K w.params).In base->base.Ns mainGlobals mg->Jo l.prog w (K w.params) mg base (CX w) k fa fd [x] (sp w))
  (hsp:∀(w:World) (H:Hp) (a:Addr) (ns:List Int),ns.length<=n->Zov H->SqL (K w.params) H a (ns.map V.int)->sp w [.ref a] H (fun v _=>v=.bl true) fun _ _ _=>False)
  (hCX:∀(w:World) (H:Hp) (s:Shared) (e:Value) (s':Shared),CX w [] H s (fun _ _ _=>False) e s'->False) :
  PySem.W.WalkO q loose XP YP l.row.toRowW d [] (fun f vs=>PySem.call f vs):=by
 refine Att.ZfN hn hdf fun w s₀ s₁ mg mb fa o pm cd doc a vs ns G Y ho hd hcd hmg hobj hints hlen hg=>?_
 have KX:=hY w _ Y
 obtain⟨fd,hb,hF⟩:=F w mg fa _ KX G.T.g hmg
 exact Zk1 KX G.T.g G.T.b G.T.builtins G.T.nolimit hg hobj hints (Zq3 hlen hn2) hr hF hb (fun H hO hS=>hsp w H a ns hlen hO hS) fun H e s'=>hCX w H s₁ e s'
theorem ZjO {l:PySem.W.OpenLaw}{n k:Nat}{q:Program}{loose:List Str}{XP:(Str->Option Value)->Heap->Prop}{YP:World->Heap->Prop}{d:DefRec}{K:Params->W.Frag}{CX:CXT}{sp:W.Frag->Sp}{x:Str}
  (hn:l.most=some n) (hn2:n<=sizeLine) (hdf:d.params.defaults=[]) (hr:ZaC k callerA)
  (hY:∀(w:World) (h:Heap),YP w h->(K w.params).In h)
  (F:∀(w:World) (mg:Str->Option Value) (fa:Addr) (h:Heap),(K w.params).In h->h.Ns mainGlobals mg->mg d.name=some (.ref fa) ->
   ∃fd:FuncData,(∀(s:Shared) (u:Value),BindsTo s fd ⟨[u],[]⟩ [(x,u)]) /\
    ∀base:Heap,(K w.params).In base->base.Ns mainGlobals mg->Jo l.prog w (K w.params) mg base CX k fa fd [x] (sp (K w.params)))
  (hsp:∀(K:PySem.W.Frag) (H:Hp) (a:Addr) (ns:List Int),ns.length<=n->Zov H->SqL K H a (ns.map V.int)->sp K [.ref a] H (fun v _=>v=.bl true) fun _ _ _=>False)
  (hCX:∀(H:Hp) (s:Shared) (e:Value) (s':Shared),CX [] H s (fun _ _ _=>False) e s'->False) :
  PySem.W.WalkO q loose XP YP l.row.toRowW d [] (fun f vs=>PySem.call f vs):=
 ZlL (K:=K) (CX:=fun _=>CX) (sp:=fun w=>sp (K w.params)) hn hn2 hdf hr hY F (fun w H a ns h1 h2 h3=>hsp (K w.params) H a ns h1 h2 h3) fun _ H s e s'=>hCX H s e s'
noncomputable def Zz (s:Stmt):Arguments:=match s with
 |.FunctionDef _ a _ _ _ _ _ _ _ _=>a
 |_=>{ posonlyargs:=[],args:=[],vararg:=none,kwonlyargs:=[],kw_defaults:=[],kwarg:=none,defaults:=[] }
noncomputable def Zv (s:Stmt):List Stmt:=match s with
 |.FunctionDef _ _ b _ _ _ _ _ _ _=>b
 |_=>[]
noncomputable def Zg (s:Stmt):Scope:=match s with
 |.FunctionDef _ _ _ _ _ _ sc _ _ _=>sc
 |_=>{ kind:=.function,names:=[],isGenerator:=false,isCoroutine:=false }
noncomputable abbrev CX0:CXT:=fun _ _ _ _ _ _=>False
noncomputable abbrev E0:XK:=fun _ _ _=>False
theorem Zn0 {X:Cx}:Zhe CX0 X E0:=fun _ _ _ _ _ _ _ h=>h.elim
structure Fun (K:PySem.W.Frag) (x qual:Str) (st:Stmt) (f:Addr) (fd:FuncData):Prop where
 ex:∃(oc:Value) (od:Option Addr) (kV doc pm:Value) (an:Option Addr) (cdv ct:Value) (osl:Array (Option Value)),
  fd=PySem.W.fnOf x qual (Zz st) (Zv st) (Zg st) .none kV doc pm an cdv ct/\K.lookup f=some ⟨oc,od,.func fd,osl⟩/\PySem.W.codeIn K cdv qual=true
 kp:PySem.W.keepIn K (.ref f)=true
section
variable {P:Program}{w:World}{K:W.Frag}{mg:Str->Option Value}{base:Heap}
theorem Fun.ok {x qual:Str}{st:Stmt}{f:Addr}{fd:FuncData}{N ps:List Str}{k:Nat}{sp:Sp} (F:Fun K x qual st f fd) (S:Zy N ps (Zg st)) (len:∀vs H Q E,sp vs H Q E->vs.length=ps.length)
  (hbody:∀(cdv:Value) (A:Around) (outer:List Env) (s:Shared) (H:Hp) (vs:List V) (Q:VK) (E:XK),ZaC k (A.deeper (envOfC qual (Zg st) s.heap.objs.size f cdv))->sp vs H Q E ->
   ∃t,PSs (Zet CX0 P w K mg base N qual (Zg st) f cdv A outer s H E).nox (Zv st) t/\t { nx:=fun _ H'=>Q .non H',rt:=Q } (Qx N vs) H):Jo P w K mg base CX0 (k+1) f fd ps sp:=by
 obtain⟨oc,od,kV,doc,pm,an,cdv,ct,osl,rfl,lk,hcd⟩:=F.ex
 refine ZnW lk hcd S len fun A outer s H vs Q E hr hsp=>?_
 obtain⟨t,h,q⟩:=hbody cdv A outer s H vs Q E hr hsp
 exact⟨t,h.nox,q⟩
theorem Fun.binds {x qual:Str}{st:Stmt}{f:Addr}{fd:FuncData}{ps:List Str} (F:Fun K x qual st f fd)
  (h:∀(kV doc pm:Value) (an:Option Addr) (cdv ct:Value) (us:List Value),us.length=ps.length->bindArgs (PySem.W.fnOf x qual (Zz st) (Zv st) (Zg st) .none kV doc pm an cdv ct) ⟨us,[]⟩=pure (ps.zip us)):ZeF K fd ps []:=by
 obtain⟨oc,od,kV,doc,pm,an,cdv,ct,osl,rfl,lk,hcd⟩:=F.ex
 exact .all (h kV doc pm an cdv ct)
theorem Yf {x qual:Str}{st:Stmt}{f:Addr}{oc:Value}{od an:Option Addr}{osl:Array (Option Value)}{kV doc pm cdv ct:Value} (l:K.lookup f=some ⟨oc,od,.func (PySem.W.fnOf x qual (Zz st) (Zv st) (Zg st) .none kV doc pm an cdv ct),osl⟩)
  (c:PySem.W.codeIn K cdv qual=true) (k:PySem.W.keepIn K (.ref f)=true):Fun K x qual st f (PySem.W.fnOf x qual (Zz st) (Zv st) (Zg st) .none kV doc pm an cdv ct):=⟨⟨oc,od,kV,doc,pm,an,cdv,ct,osl,rfl,l,c⟩,k⟩
end
section
variable {X:Cx}
theorem pv (i:Nat) {x:Str}{pos:Pos} (hN:X.N[i]?=some x:=by rfl) (hv:Vis X.env.scope x:=by first|exact Or.inl rfl|exact Or.inr (Or.inl rfl)|exact Or.inr (Or.inr rfl)) (hd:(x==("__debug__":Str))=false:=by decide)
  (hcd:(x==("__classdict__":Str))=false:=by decide):PE X (.Name x pos) (Zhi i):=Znx hN hv hd hcd
end
def Z4 (H H':Hp):Prop:=∀b o,H b=some o->H' b=some o
theorem Z4.refl (H:Hp):Z4 H H:=fun _ _ h=>h
theorem Z4.trans {H H1 H2:Hp} (a:Z4 H H1) (b:Z4 H1 H2):Z4 H H2:=fun c o h=>b c o (a c o h)
theorem Z4.free {H H':Hp} (e:Z4 H H') {l:Addr} (h:H' l=Option.none):H l=Option.none:=by
 cases q:H l with
 |none=>rfl
 |some o =>
  rw[e l o q] at h
  cases h
end L2
set_option maxHeartbeats 4000000
namespace L2
open PySem PySem.Spec PyProof.Rows
noncomputable def Zev (scope:Scope) (env:Env):List (Str×Addr):=
 ((scope.names.filter fun p=>p.2==.free).reverse).map fun p=>(p.1,(env.cells.lookup p.1).getD 0)
theorem Q6 {β:Type}:∀{l:List (Str×β)}{a:Str}{b:β},(a,b)∈l->∃c,l.lookup a=some c
 |[],_,_,h=>absurd h (by simp)
 |(n,v)::r,a,b,h=>by
  cases e:a==n with
  |true=>exact⟨v,by simp[ZqU,e]⟩
  |false =>
   rcases Zqw.mp h with z|z
   ·cases z;simp at e
   ·obtain⟨c,hc⟩:=Q6 z
    exact⟨c,by simp[ZqU,e,hc]⟩
theorem Z6 {env:Env}:∀{names:List (Str×NameKind)}{y:Str}{k:NameKind},(∀p∈names,p.2≠.cell) ->
  (names.map fun(n,k)=>if (k==NameKind.free&&env.scope.kind==.function&&env.kindOf n==some .cell) then (n,NameKind.cell) else (n,k)).lookup y=some k ->
  (k=.local->names.lookup y=some .local)/\(k=.cell\/k=.free->names.lookup y=some .free)
 |[],_,_,_,h=>by simp at h
 |(n,k0)::r,y,k,nc,h=>by
  have ih:=@Z6 env r y k (fun p hp=>nc p (ZqB _ hp))
  have nc0:=nc (n,k0) Zrf
  have h':List.lookup y ((if (k0==NameKind.free&&env.scope.kind==.function&&env.kindOf n==some .cell)=true then (n,NameKind.cell) else (n,k0))::(r.map fun(n,k)=>if (k==NameKind.free&&env.scope.kind==.function&&env.kindOf n==some .cell) then (n,NameKind.cell) else (n,k)))=some k:=h
  cases hx:y==n with
  |true =>
   by_cases hc:(k0==NameKind.free&&env.scope.kind==.function&&env.kindOf n==some .cell)=true
   ·rw[if_pos hc] at h'
    simp only[ZqU,hx] at h'
    have hk:NameKind.cell=k:=Option.some.inj h'
    subst hk
    have hf:k0=.free:=by
     simp only[Bool.and_eq_true] at hc
     exact beq_iff_eq.mp hc.1.1
    subst hf
    exact⟨(fun z=>nomatch z),fun _=>by simp[ZqU,hx]⟩
   ·rw[if_neg hc] at h'
    simp only[ZqU,hx] at h'
    have hk:k0=k:=Option.some.inj h'
    subst hk
    refine⟨fun z=>by subst z;simp[ZqU,hx],fun z=>?_⟩
    rcases z with z|z
    ·exact absurd z nc0
    ·subst z;simp[ZqU,hx]
  |false =>
   by_cases hc:(k0==NameKind.free&&env.scope.kind==.function&&env.kindOf n==some .cell)=true
   ·rw[if_pos hc] at h'
    simp only[ZqU,hx] at h'
    have:=ih h'
    simpa[ZqU,hx] using this
   ·rw[if_neg hc] at h'
    simp only[ZqU,hx] at h'
    have:=ih h'
    simpa[ZqU,hx] using this
noncomputable def blk (X:Cx) (scope:Scope) (x:Str) (C:Addr) (ex:List Addr) (s₂:Shared) (H₂:Hp):Cx:=
 { X with N:=X.N++[x],s₀:=s₂,H₀:=H₂,env:=compEnvC scope (Zev scope X.env) C X.env,outer:=X.stack,ex:=ex,fn:=fun _=>false,pn:=[],xe:=fun _ _=>False }
noncomputable def ZbD (N:List Str) (sc scope:Scope) (x:Str):Bool:=
 (scope.names.all fun p=>!(p.2==.cell))&&(scope.kind==.function)&&(scope.names.all fun p=>!(p.2==.local) || scope.names.lookup p.1==some .local)&&(scope.names.lookup x==some .local)
  && (N.all fun y=>!(scope.names.lookup y==some .local))&&(scope.names.all fun p=>!(p.2==.free) || sc.names.lookup p.1==some .cell || sc.names.lookup p.1==some .free)
structure U0 (N:List Str) (sc scope:Scope) (x:Str):Prop where
 nc:∀p∈scope.names,p.2≠.cell
 kind:scope.kind=.function
 locs:∀p∈scope.names,p.2=.local->scope.names.lookup p.1=some .local
 var:scope.names.lookup x=some .local
 noN:∀y∈N,scope.names.lookup y≠some .local
 fr:∀p∈scope.names,p.2=.free->sc.names.lookup p.1=some .cell\/sc.names.lookup p.1=some .free
theorem U0.of {N:List Str}{sc scope:Scope}{x:Str} (h:ZbD N sc scope x=true):U0 N sc scope x:=by
 unfold ZbD at h
 simp only[Bool.and_eq_true,ZqH,Bool.or_eq_true,Bool.not_eq_true',beq_iff_eq,beq_eq_false_iff_ne] at h
 obtain⟨⟨⟨⟨⟨h1,h2⟩,h3⟩,h4⟩,h5⟩,h6⟩:=h
 refine⟨h1,h2,fun p hp e=>?_,h4,h5,fun p hp e=>?_⟩
 ·rcases h3 p hp with z|z
  ·exact absurd e z
  ·exact z
 ·rcases h6 p hp with (z|z)|z
  ·exact absurd e z
  ·exact .inl z
  ·exact .inr z
section
variable {X:Cx}{pins:List (Addr×Obj)}{σ:St}{H:Hp}{s:Shared}
theorem Inv.adopt {D:Addr}{ys:List V}{its:List Value}{n:Nat} (I:Inv X pins σ H s) (hn:H D=none) (h1:X.s₀.heap.objs.size<=D) (hL:D≠X.env.locals) (hc:∀x c,X.env.cells.lookup x=some c->c≠D)
  (hp:∀p∈X.pn++pins,p.1≠D) (ho:s.heap.get? D=some { cls:=.type "list",data:=.seq its.toArray n }) (r:YO ys its) (hz:ys.length<=sizeLine):Inv X pins σ (upd H D (.lst ys)) s:=by
 refine I.step (h':=s.heap) (g':=s.gens) (d':=s.drawn) (t':=s.toks) (ch:=[D]) (fun b hb=>?_) (fun b o _ _ _ e _=>e) (fun b o _ _ _ e _=>⟨o.slots,e⟩) (fun b o hb _ e=>?_) (fun b o _ e=>⟨o,e⟩)
  (fun b xs e=>?_) (fun b o u e=>?_) (fun b ps e=>⟨#[], ?_⟩) (fun m hm=>hm) (fun b u e=>?_) I.bare
 ·have e:b=D:=by simpa using hb
  subst e
  exact⟨.inr h1,hL,hc,hp⟩
 ·rw[Z9 (by simpa using hb)];exact e
 ·rw[Z9 (Yk e hn)];exact e
 ·rw[Z9 (Yk e hn)];exact e
 ·rw[Z9 (Yk e hn),e];simp
 ·by_cases hb:b=D
  ·subst hb
   rw[ZT] at e;cases e
   exact⟨hz,its,n,r,ho⟩
  ·rw[Z9 hb] at e
   exact(I.hok b u e).stay (fun c v _ q=>q) (fun c q=>by rw[Z9 (Yk q hn)];exact q) fun c xs q=>by rw[Z9 (Yk q hn)];exact q
end
section
variable {X:Cx}{pins:List (Addr×Obj)}{σ:St}{s₂:Shared}{H₂:Hp}{scope:Scope}{x:Str}{px:Pos}{elt iter:Expr}{pos:Pos}{te:TE}{J:It}{fp:List Addr}{it:Addr}{tn:Nat->Heap->Prop}
theorem J4 {sc:U0 X.N X.env.scope scope x} (ok:X.Ok) {y:Str}{c:Addr} (h:(Zev scope X.env).lookup y=some c):X.env.cells.lookup y=some c:=by
 have hm:=PySem.mem_of_lookup h
 unfold Zev at hm
 obtain⟨p,hp,e⟩:=Zq4.mp hm
 have hp':=ZqS.mp (Zse.mp hp)
 obtain⟨e1,e2⟩:=Prod.mk.inj e
 have hk:=sc.fr p hp'.1 (beq_iff_eq.mp hp'.2)
 obtain⟨c',hc'⟩:=ok.has p.1 hk
 rw[hc'] at e2
 rw[<- e1,hc']
 exact congrArg some e2
theorem ZaR {y:Str} (h:scope.names.lookup y=some .free):∃c,(Zev scope X.env).lookup y=some c:=by
 have hm:=PySem.mem_of_lookup h
 refine Q6 (b:=(X.env.cells.lookup y).getD 0) ?_
 unfold Zev
 exact Zq4.mpr ⟨(y,.free),Zse.mpr (ZqS.mpr ⟨hm,rfl⟩),rfl⟩
theorem Zoo (I:Inv X pins σ H₂ s₂) (sc:U0 X.N X.env.scope scope x) {C:Addr} (hC:s₂.heap.objs.size<=C) (ff:∀b∈fp,ZhU X pins H₂ b) (fo:∀b∈fp,∃o,s₂.heap.get? b=some o):(blk X scope x C fp s₂ H₂).Ok where
 mod:=I.ok.mod
 kind:=sc.kind
 glob:=I.ok.glob
 blt:=I.ok.blt
 above:=hC
 inj:=fun y z c h1 h2=>I.ok.inj y z c (J4 (sc:=sc) I.ok h1) (J4 (sc:=sc) I.ok h2)
 has:=fun y hy=>by
  have hy':(relabel scope X.env).names.lookup y=some .cell\/(relabel scope X.env).names.lookup y=some .free:=hy
  have hf:scope.names.lookup y=some .free:=by
   rcases hy' with z|z
   ·exact(Z6 sc.nc z).2 (.inl rfl)
   ·exact(Z6 sc.nc z).2 (.inr rfl)
  exact ZaR hf
 cab:=fun y c h=>by cases h
 hd:=I.ok.hd
 frames:=I.ok.frames
 stk:=.inl rfl
 exf:=fun b hb=>by
  obtain⟨f0,f1,f2,f3,f4,f5⟩:=ff b hb
  obtain⟨o,ho⟩:=fo b hb
  exact⟨Zq2 (Zqx (Heap.lt_size ho) hC),fun y c h=>f4 y c (J4 (sc:=sc) I.ok h)⟩
 bs:=I.bs
 bsz:=Zq3 I.ok.bsz I.sz
 noex:=fun b o e hb=>by
  obtain⟨f0,f1,f2,f3,f4,f5⟩:=ff b hb
  rcases f3 with z|z
  ·exact I.ok.noex b o e z
  ·exact absurd (Zqx (Heap.lt_size e) (Zq3 I.ok.bsz z)) (ZqP _)
 exfs:=fun b hb z=>by
  obtain⟨f0,f1,f2,f3,f4,f5⟩:=ff b hb
  rcases Zqw.mp (I.stkSub b z) with e|e
  ·exact f1 e
  ·exact f2 e
 funs:=I.stack
 frf:=I.stkFree
end
def Zlc (σ:St) (te:TE) (J:It) (H1:Hp) (Q:VK):Prop:=∃W:Nat->Nat->List V->Hp->Prop,(∃m,W 0 m [] H1)/\∀i m ys H2,W i m ys H2->ys.length<=sizeLine /\
 ((J.stop i H2/\∀p,H2 p=none->Q (.ref p) (upd H2 p (.lst ys))) \/
  (J.go i H2/\∃N:List V->Hp->Prop,(∀ys' H',N ys' H'->∃m',m'<m/\W (i+1) m' ys' H')/\∀x H3,J.yld i H2 x H3->te (σ++[some x]) H3 fun y H4=>N (ys++[y]) H4))
noncomputable def ZjU (wi:TI) (te:TE):TE:=fun σ H Q=>wi σ H fun J H1=>Zlc σ te J H1 Q
section
variable {X:Cx}{pins:List (Addr×Obj)}{σ:St}{s₂:Shared}{H₂:Hp}{scope:Scope}{x:Str}{px:Pos}{elt iter:Expr}{pos:Pos}{te:TE}{J:It}{fp:List Addr}{it:Addr}{tn:Nat->Heap->Prop}
theorem ZgY {E:Value->Shared->Prop}{Q:VK}{RR:Value->Addr->Result->Shared->Prop} (I:Inv X pins σ H₂ s₂) (sc:U0 X.N X.env.scope scope x) (hNd:X.N.Nodup) (hc:X.calm=true)
  (T:ZmY X.prog X.w X.K (.Name x px) J fp it tn) (st:tn 0 s₂.heap) (ff:∀b∈fp,ZhU X pins H₂ b) (hw:Zlc σ te J H₂ Q)
  (he:∀C s₂ H₂ ex,PE (blk X scope x C ex s₂ H₂) elt te)
  (hRR:∀D C s' H' m',s₂.heap.objs.size<=C->Inv X pins σ H' s'->s'.heap.Ns C m'->H' C=none->Q (.ref D) H'->RR (.ref D) C (.ok .next) s') :
  wpAny (model X.prog X.w) X.A (newList []) (fun acc s₃=>wpAny (model X.prog X.w) X.A (newFunctionEnv scope X.env.globals (Zev scope X.env) [] X.env.qual none .none (some X.env)) (fun cenv s₄ =>
   codeAny (model X.prog X.w) X.A (.compStart (.ListComp elt [⟨.Name x px,iter,[],0⟩] scope pos) 0 (.ref it) acc { cenv with scope:=relabel scope X.env }) (RR acc cenv.locals) s₄) E s₃) E s₂:=by
 refine wpAny_newObj_type (wpAny_newFunctionEnv sc.nc (by intro y hy;simp at hy) (fun h₁ hns₁ hsb₁=>?_) sc.kind)
 dsimp only at hns₁ hsb₁ ⊢
 generalize hP2:s₂.heap.push { cls:=.type "list",dict:=none,data:=.seq ([]:List Value).toArray }=P2 at hns₁ hsb₁ ⊢
 have hCs:P2.objs.size=s₂.heap.objs.size+1:=by rw[<- hP2,Heap.size_push]
 have hCle:s₂.heap.objs.size<=P2.objs.size:=by rw[hCs];exact Nat.le_succ _
 have hDC:s₂.heap.objs.size≠P2.objs.size:=by rw[hCs];exact Zq2 (Zsf _)
 generalize hCe:P2.objs.size=C at hns₁ hsb₁ hCs hCle hDC ⊢
 generalize hDe:s₂.heap.objs.size=D at hCs hCle hDC ⊢
 have fo:∀b∈fp,∃o,s₂.heap.get? b=some o:=fun b hb=>let ⟨o,e,_⟩:=T.obj _ _ st b hb;⟨o,e⟩
 have flt:∀b∈fp,b<D:=fun b hb=>by obtain⟨o,e⟩:=fo b hb;rw[<- hDe];exact Heap.lt_size e
 have old:∀b o,s₂.heap.get? b=some o->h₁.get? b=some o:=fun b o e=>by
  have hb:=Heap.lt_size e
  exact hsb₁.extBut b o (Zq2 (by rw[hCs];exact Zsb (hDe▸hb))) (Heap.get?_push_of_some _ (hP2▸Heap.get?_push_of_some _ e))
 have hacc:h₁.get? D=some { cls:=.type "list",data:=.seq ([]:List Value).toArray 0 }:=hsb₁.extBut _ _ hDC (Heap.get?_push_of_some _ (hP2▸hDe▸Heap.get?_push_size _ rfl))
 have okB:=Zoo (x:=x) (C:=C) I sc (by rw[hDe];exact hCle) ff fo
 have hfreshD:H₂ D=none:=I.hok.fresh (by rw[hDe];exact Zqn _)
 have hfreshC:H₂ C=none:=I.hok.fresh (by rw[hDe];exact hCle)
 have hxN:x ∉ X.N:=fun z=>sc.noN x z sc.var
 have ndB:(X.N++[x]).Nodup:=List.nodup_append.mpr ⟨hNd,by simp,fun a ha b hb=>by
  have:b=x:=by simpa using hb
  subst this;rintro rfl;exact hxN ha⟩
 have I0:Inv (blk X scope x C fp s₂ H₂) [(D,{ cls:=.type "list",data:=.seq ([]:List Value).toArray 0 })] (σ++[none]) H₂ { s₂ with heap:=h₁,toks:=s₂.toks+([]:List (Str×Value)).length }:=by
  refine⟨okB,rfl,I.bare,Un.kept old,⟨_,hns₁,fun i y v e1 e2 e3=>?_⟩,fun y c e=>?_,hfreshC,fun y c e=>I.freeC y c (J4 (sc:=sc) I.ok e),fun p hp=>?_,I.hok.kept old,by simp[blk,I.len]⟩
  ·have hi:i<σ.length:=by
    by_cases hi:i<σ.length
    ·exact hi
    ·rw[Zqv (by omega)] at e2
     have:([none]:St)[i-σ.length]?=some (some v):=e2
     cases hj:i-σ.length with
     |zero=>rw[hj] at this;simp at this
     |succ j=>rw[hj] at this;simp at this
   rw[Zqr hi] at e2
   have e1':(X.N++[x])[i]?=some y:=e1
   rw[Zqr (by rw[<- I.len];exact hi)] at e1'
   have yN:y∈X.N:=Zqk e1'
   have e3':(relabel scope X.env).names.lookup y=some .local\/(relabel scope X.env).names.lookup y=some .cell\/(relabel scope X.env).names.lookup y=some .free:=e3
   have hcf:(relabel scope X.env).names.lookup y=some .cell\/(relabel scope X.env).names.lookup y=some .free:=by
    rcases e3' with z|z
    ·exact absurd ((Z6 sc.nc z).1 rfl) (sc.noN y yN)
    ·exact z
   have hfree:scope.names.lookup y=some .free:=by
    rcases hcf with z|z
    ·exact(Z6 sc.nc z).2 (.inl rfl)
    ·exact(Z6 sc.nc z).2 (.inr rfl)
   obtain⟨c,hcl⟩:=ZaR (X:=X) hfree
   have hcx:=J4 (sc:=sc) I.ok hcl
   have hvis:=sc.fr _ (PySem.mem_of_lookup hfree) rfl
   obtain⟨m,hn,hl⟩:=I.loc
   obtain⟨u,ru,hlook⟩:=hl i y v e1' e2 (.inr hvis)
   refine⟨u,ru,.inr ⟨hcf,c,hcl, ?_⟩⟩
   rcases hlook with ⟨k,_⟩|⟨k,c',ec,hcell⟩
   ·have k':X.env.scope.names.lookup y=some .local:=k
    have hv':X.env.scope.names.lookup y=some .cell\/X.env.scope.names.lookup y=some .free:=hvis
    rw[k'] at hv'
    rcases hv' with z|z<;>cases z
   ·rw[hcx] at ec;cases ec
    obtain⟨o,ho,hd⟩:=hcell
    exact⟨o,old _ _ ho,hd⟩
  ·obtain⟨v,o,ho,hd⟩:=I.cell y c (J4 (sc:=sc) I.ok e)
   exact⟨v,o,old _ _ ho,hd⟩
  ·have e:p=(D,{ cls:=.type "list",data:=.seq ([]:List Value).toArray 0 }):=by simpa[blk] using hp
   subst e
   exact⟨hacc,hfreshD,hDC,(fun z=>by
    rcases Zqw.mp (I.stkSub D z) with e|e
    ·exact absurd I.lt (by rw[<- e,hDe];exact ZqP _)
    ·exact I.nofs (by rw[hDe];exact Zqn _) e),fun v z=>nomatch z⟩
 obtain⟨W,⟨m0,w0⟩,turn⟩:=hw
 have fpB:∀{H':Hp}{o:Obj},(∀b∈fp,H' b=none)->∀b∈fp,ZhU (blk X scope x C fp s₂ H₂) [(D,o)] H' b:=fun {H' o} hn b hb=>by
  obtain⟨f0,f1,f2,f3,f4,f5⟩:=ff b hb
  obtain⟨g1,g2⟩:=okB.exf b hb
  exact⟨hn b hb,g1,okB.exfs b hb,.inl hb,g2,fun p hp=>by
   have e:p=(D,o):=by simpa[blk] using hp
   subst e
   exact(Zq2 (flt b hb)).symm⟩
 have hσ:σ.length=X.N.length:=I.len
 have loop:∀s₃:Shared,s₃={ s₂ with heap:=h₁,toks:=s₂.toks+([]:List (Str×Value)).length } ->
   codeAny (model X.prog X.w) X.A (.compLoop (.ListComp elt [⟨.Name x px,iter,[],0⟩] scope pos) 0 (.ref it) (.ref D) (compEnvC scope (Zev scope X.env) C X.env)) (RR (.ref D) C) s₃:=by
  rintro s₃ rfl
  refine codeAny_compLoop_tests
   (fun n s'=>∃i ys its k σx H',Inv (blk X scope x C fp s₂ H₂) [(D,{ cls:=.type "list",data:=.seq (List.toArray its) k })] (σ++[σx]) H' s'/\tn i s'.heap/\(∀b∈fp,H' b=none)/\YO ys its/\W i n ys H') ?_ m0
   ⟨0,[],[],0,none,H₂,I0,T.keep _ _ _ st (fun b hb o e=>old b o e),fun b hb=>(ff b hb).1,.nil,w0⟩
  rintro n s' ⟨i,ys,its,k,σx,H',I',st',fr',rv,w'⟩
  obtain⟨hz,hcase⟩:=turn i n ys H' w'
  have hpinD:=I'.pin (D,{ cls:=.type "list",data:=.seq (List.toArray its) k }) (by simp[blk])
  rcases hcase with ⟨stop,q⟩|⟨go,N,hN,step⟩
  ·refine thn (T.done (blk X scope x C fp s₂ H₂) rfl rfl rfl hc i _ s' _ H' _ I' (fpB fr') st' stop) fun r s4 ⟨hr,I4⟩=>?_
   subst hr
   have pD:=I4.pin (D,{ cls:=.type "list",data:=.seq (List.toArray its) k }) (by simp[blk])
   obtain⟨m4,hn4,_⟩:=I4.loc
   have IX:Inv X pins σ H' s4:=I.call' I4.os I4.base I4.hok I4.bare fun b hb=>by
    obtain⟨f0,f1,f2,f3,f4,f5⟩:=ff b hb
    exact⟨f3,f1,f4,f5⟩
   have IX2:=IX.adopt (D:=D) (ys:=ys) (its:=its) (n:=k) hpinD.2.1 (by rw[<- hDe];exact I.sz) (by rw[<- hDe];exact Zr4 I.lt)
    (fun y c e z=>by
     obtain⟨v,o,ho,hd⟩:=I.cell y c e
     have:=Heap.lt_size ho
     rw[hDe,z] at this
     exact ZqP _ this)
    (fun p hp z=>by
     have:=Heap.lt_size (I.pin p hp).1
     rw[hDe,z] at this
     exact ZqP _ this) pD.1 rv hz
   refine hRR D C s4 _ m4 (by rw[hDe];exact hCle) IX2 hn4 ?_ (q D hpinD.2.1)
   rw[Z9 (Ne.symm hDC)]
   exact I4.free
  ·refine thn (T.item (blk X scope x C fp s₂ H₂) rfl rfl rfl hc i _ s' _ H' _ I' (fpB fr') st' go) fun r s4 ⟨u,hr,h4⟩=>?_
   subst hr
   show wpAny _ _ (letOwnedTupleGo (.Name x px) (.ref it) u >>= fun _=>assign (.Name x px) (compEnvC scope (Zev scope X.env) C X.env) u) _ _ s4
   refine wpAny_bind (thn h4 fun _ s5 ⟨y,H5,I5,r5,y5,st5,fr5⟩=>?_)
   have I5':=I5.pinned (fpB fr5) (T.obj _ _ st5)
   refine wpAny_assign_Name ?_
   refine ZaH (X:=blk X scope x C fp s₂ H₂) (i:=X.N.length) (x:=x) (v:=y) I5' ndB (by simp[blk]) (.inl (lookup_relabel_local sc.var)) r5 (fun s6 I6=>?_) (.inr (lookup_relabel_local sc.var))
   have eσ:(σ++[σx]).set X.N.length (some y)=σ++[some y]:=by
    rw[<- hσ];simp
   rw[eσ] at I6
   refine wpAny_tests_nil ?_
   simp only[if_true]
   refine wpAny_mono (he C s₂ H₂ fp _ s6 _ H5 _ I6 (step y H5 y5)) (fun u7 s7 h7=>?_) fun _ _ f=>f.elim
   obtain⟨v7,H7,I7,r7,n7⟩:=h7
   have pD7:=I7.pin (D,{ cls:=.type "list",data:=.seq (List.toArray its) k }) (by simp[blk])
   have hlen:=rv.length
   refine append_at (hsz:=by show its.toArray.size<=sizeLine;rw[Zqu,<- hlen];exact hz) pD7.1 fun h8 hs8 hD8=>?_
   obtain⟨m',hm,w8⟩:=hN _ _ n7
   have hD8':h8.get? D=some { cls:=.type "list",data:=.seq (its++[u7]).toArray (k+1) }:=by rw[hD8,List.push_toArray]
   have I8:Inv (blk X scope x C fp s₂ H₂) [] (σ++[some y]) H7 { s7 with heap:=h8 }:=by
    refine(I7.pins_of (pins':=[]) fun p hp=>absurd hp (by simp)).turned (t':=s7.toks) (it:=D) (fun b o hb e=>(hs8.2 b hb).trans e) pD7.2.1 pD7.2.2.1 (.inr (by show s₂.heap.objs.size<=D;rw[hDe];exact Zqn _)) (fun y' c' e' z=>?_) fun p hp=>absurd (show p∈([]:List (Addr×Obj)) from by simpa[blk] using hp) (by simp)
    obtain⟨v,o,ho,hd⟩:=I.cell y' c' (J4 (sc:=sc) I.ok e')
    have:=Heap.lt_size ho
    rw[hDe,z] at this
    exact ZqP _ this
   refine⟨m',hm,i+1,ys++[v7],its++[u7],k+1,some y,H7,I8.pins_of fun p hp=>?_, ?_,fun b hb=>?_,rv.append (.cons r7 .nil),w8⟩
   ·have e:p=(D,{ cls:=.type "list",data:=.seq (its++[u7]).toArray (k+1) }):=by simpa using hp
    subst e
    exact⟨hD8',pD7.2.1,pD7.2.2.1,pD7.2.2.2.1,fun v z=>nomatch z⟩
   ·refine T.keep _ _ _ st5 fun b hb o e=>?_
    have hpb:=I7.pin (b,o) (Zqj _ (Zqj _ (W6 hb e)))
    exact(hs8.2 b (Zq2 (flt b hb))).trans hpb.1
   ·obtain⟨o,e,d⟩:=T.obj _ _ st5 b hb
    exact(I7.pin (b,o) (Zqj _ (Zqj _ (W6 hb e)))).2.1
 exact codeAny_compStart_list (loop _ rfl) (T.self _ 0 _ _ _ (T.keep _ _ _ st fun b hb o e=>old b o e) (loop _ rfl))
theorem QW {wi:TI} (hi:PI X (.Name x px) iter wi) (he:∀C s₂ H₂ ex,PE (blk X scope x C ex s₂ H₂) elt te) (hNd:X.N.Nodup) (hc:X.calm=true)
  (hclos:closureFor scope X.env=pure (Zev scope X.env):=by rfl) (hchk:ZbD X.N X.env.scope scope x=true:=by rfl) (hs:∀x,foldedSetIterable iter X.env x=pure x:=by exact fun _=>rfl) :
  PE X (.ListComp elt [⟨.Name x px,iter,[],0⟩] scope pos) (ZjU wi te):=by
 intro pins s σ H Q I h
 have sc:=U0.of hchk
 rw[eval_ListComp]
 refine wpAny_comprehension_free (use:=none) rfl hs hclos sc.kind sc.locs (thn (hi pins s σ H _ I h) fun xv s₁ h₁=>thn h₁ fun itv s₂ h₂=>?_)
 obtain⟨it,fp,tn,J,H2,e,I2,T,st2,f2,q⟩:=h₂
 subst e
 refine ZgY (RR:=fun acc C=>compPost (model X.prog X.w) X.A X.xe none (EP X pins σ Q) acc C) I2 sc hNd hc T st2 f2 q he ?_
 intro D C s' H' m' hC I' hn hC0 hq
 refine⟨m',hn,fun h'' hs''=>⟨.ref D,H', ?_,rfl,hq⟩⟩
 refine I'.turned (t':=s'.toks) (it:=C) (fun b o hb e=>(hs''.2 b hb).trans e) hC0 (Zr4 (Zqx I2.lt hC)) (.inr (Zq3 I2.sz hC)) (fun y c e z=>?_) fun p hp z=>?_
 ·obtain⟨v,o,ho,hd⟩:=I2.cell y c e
  exact absurd (Heap.lt_size ho) (ZrC.mpr (by rw[z];exact hC))
 ·exact absurd (Heap.lt_size (I2.pin p hp).1) (ZrC.mpr (by rw[z];exact hC))
noncomputable def Zgh (i:Nat) (wi:TI) (te:TE):TS:=fun D σ H=>ZjU wi te σ H fun v H'=>D.nx (σ.set i (some v)) H'
theorem Zch {i:Nat}{y:Str}{py spos:Pos}{wi:TI} (hN:X.N.Nodup) (hi:X.N[i]?=some y) (hit:PI X (.Name x px) iter wi) (he:∀C s₂ H₂ ex,PE (blk X scope x C ex s₂ H₂) elt te) (hc:X.calm=true)
  (hsw:swapsWith (.ListComp elt [⟨.Name x px,iter,[],0⟩] scope pos) (some (.Name y py)) spos.line X.env=pure true:=by rfl) (hy:X.env.scope.names.lookup y=some .local:=by rfl)
  (hclos:closureFor scope X.env=pure (Zev scope X.env):=by rfl) (hchk:ZbD X.N X.env.scope scope x=true:=by rfl) (hs:∀x,foldedSetIterable iter X.env x=pure x:=by exact fun _=>rfl) :
  PS X (.Assign [.Name y py] (.ListComp elt [⟨.Name x px,iter,[],0⟩] scope pos) spos) (Zgh i wi te):=by
 intro pins s σ H D0 I h
 have sc:=U0.of hchk
 rw[exec_Assign_Name_used _ _ _ _ hsw]
 refine wpAny_bind (wpAny_standAt (wpAny_bind ?_))
 show wpAny _ X.A (do let _ <- comprehension (.ListComp elt [⟨.Name x px,iter,[],0⟩] scope pos) scope X.env _ (newList []) false (eval iter X.env) (some (assign (.Name y py) X.env))) _ _ s
 refine wpAny_bind (wpAny_mono (wpAny_comprehension_free (use:=some (assign (.Name y py) X.env)) (Q:=fun _ s'=>SP X pins D0 .next s') rfl hs hclos sc.kind sc.locs
  (thn (hit pins s σ H _ I h) fun xv s₁ h₁=>thn h₁ fun itv s₂ h₂=>?_)) (fun _ s' hq=>wpAny_pure (wpAny_pure hq)) fun _ _ e=>e)
 obtain⟨it,fp,tn,J,H2,e,I2,T,st2,f2,q⟩:=h₂
 subst e
 refine ZgY (RR:=fun acc C=>compPost (model X.prog X.w) X.A X.xe (some (assign (.Name y py) X.env)) (fun _ s'=>SP X pins D0 .next s') acc C) I2 sc hN hc T st2 f2 q he ?_
 intro D C s' H' m' hC I' hn hC0 hq
 show wpAny _ X.A (assign (.Name y py) X.env (.ref D)) _ _ _
 have cellC:∀y c,X.env.cells.lookup y=some c->c≠C:=fun y c e z=>by
  obtain⟨v,o,ho,hd⟩:=I2.cell y c e
  exact absurd (Heap.lt_size ho) (ZrC.mpr (by rw[z];exact hC))
 have locC:C≠X.env.locals:=Zr4 (Zqx I2.lt hC)
 refine wpAny_assign_Name (ZaZ (i:=i) (v:=.ref D) I' hN hi (.inl hy) rfl (fun s'' I'' ⟨a,hsa,ha⟩=>?_) (.inr hy))
 have hCa:C≠a:=by
  rcases ha with z|z
  ·rw[z];exact locC
  ·exact(cellC _ _ z).symm
 refine⟨m',hn.sameBut hsa hCa,fun h'' hs''=>⟨σ.set i (some (.ref D)),H', ?_,hq⟩⟩
 refine I''.turned (t':=s''.toks) (it:=C) (fun b o hb e=>(hs''.2 b hb).trans e) hC0 locC (.inr (Zq3 I2.sz hC)) cellC fun p hp z=>?_
 exact absurd (Heap.lt_size (I2.pin p hp).1) (ZrC.mpr (by rw[z];exact hC))
end
end L2
namespace HL
open PySem PyProof.Rows
section
open PySem.SeqAt
open PySem.AutoSeq1 (wpAny_loadPart')
open PySem.MeetsSeq PySem.MeetsSeq2 PySem.MeetsSeq3 SeqRoads2
end
section
variable {prog:Program}{w:World}{A:Around}{E:Value->Shared->Prop}{s:Shared}
end
end HL
namespace L2
open PySem PySem.Spec PyProof.Rows
section
variable {X:Cx}
theorem ZkQ (hc:X.calm=true):Vv X (.builtin "sum") (fun xs H Q=>∃p,∃ns:List Int,xs=[.ref p]/\SqL X.K H p (ns.map V.int)/\Q (.int ns.sum) H):=by
 intro pins s σ H xs us Q I r h
 obtain⟨p,ns,rfl,hq,q⟩:=h
 obtain⟨u,rfl,rx⟩:=Zc3 r
 cases rx
 obtain⟨its,r',pl,hz⟩:=I.list hq
 have hi:IntsAre its ns:=Zh1 r'
 obtain⟨xs,hx⟩:=hi.allInts.items
 have hl':s.heap.IsList p (intItems xs):=hx▸pl.isList
 refine sum_intListG (I.ok.hd hc) hl' fun h' tk t' hk=>?_
 have e1:ns=xs.toList.map (·.1):=by
  rw[<- nums_intItems,<- hx]
  exact(show numsOf its.toArray.toList=ns from hi.numsOf).symm
 have e2:preSum (numAt xs) xs.size=ns.sum:=by
  rw[preSum_eq,ZqG (by simp),e1]
 rw[e2]
 exact⟨.int ns.sum,H,I.kept hk,⟨_,rfl⟩,q⟩
theorem ZbG:∀{bs:List Bool}{us:List Value},YO (bs.map V.bl) us->LSm.BoolsAre us bs
 |[],_,.nil=>.nil
 |b::bs,_,.cons r t=>by
  cases r
  exact .cons b (ZbG t)
theorem ZkR (hc:X.calm=true):Vv X (.builtin "all") (fun xs H Q=>∃p,∃bs:List Bool,xs=[.ref p]/\SqL X.K H p (bs.map V.bl)/\Q (.bl (bs.all id)) H):=by
 intro pins s σ H xs us Q I r h
 obtain⟨p,bs,rfl,hq,q⟩:=h
 obtain⟨u,rfl,rx⟩:=Zc3 r
 cases rx
 obtain⟨its,r',pl,hz⟩:=I.list hq
 have hb:=ZbG r'
 have hlt:p<s.heap.objs.size:=by obtain⟨_,e,_⟩:=pl.isList;exact Heap.lt_size e
 refine call_all_walk (wpAny_pyIter_list pl.isList ?_)
 refine⟨s.heap.objs.size,[s.heap.objs.size,p],[s.heap.objs.size],its.toArray.size,_,_,fun i=>(bs[i]?).getD true,rfl,Walks.list (A:=X.A.in1) (I.ok.hd hc) _ p (Zq2 hlt) its.toArray,
  ⟨⟨_,Heap.get?_push_size _ rfl,rfl,rfl⟩,pl.isList.push _⟩,fun i v s' Q' E' hP hQ=>?_,fun h' tk hk=>?_⟩
 ·obtain⟨b,e,rfl⟩:=hb.get i v (by simpa using hP)
  dsimp only at hQ
  rw[e,Zr2] at hQ
  exact wpAny_truthy_bool hQ
 ·rw[Zqu,hb.length,LSm.range_all]
  exact⟨.bl (bs.all id),H,I.kept (LSm.kept_iter hk),rfl,q⟩
end
end L2
namespace HL
open PySem PyProof.Rows
section
variable {prog:Program}{w:World}{A:Around}{R:Result->Shared->Prop}{I:Addr}{fp wr:List Addr}{n:Nat}{P:Nat->Value->Prop}{St:Nat->Heap->Prop}
end
section
variable {prog:Program}{w:World}{A:Around}{E:Value->Shared->Prop}{s:Shared}
end
section
open PySem.SeqAt
open PySem.AutoSeq1 (wpAny_loadPart')
open PySem.MeetsSeq PySem.MeetsSeq2 PySem.MeetsSeq3
end
end HL
namespace HL
open PySem
theorem Jb:∀a:List Int,HT.YC a a=false
 |[]=>rfl
 |x::xs=>by rw[HT.WL,if_pos rfl];exact Jb xs
theorem Jr:∀{a b c:List Int},HT.YC a b=true->HT.YC b c=true->HT.YC a c=true
 |[],[],_,h,_=>by simp[HT.YC] at h
 |[],_::_,[],_,h=>by simp[HT.YC] at h
 |[],_::_,_::_,_,_=>rfl
 |_::_,[],_,h,_=>by simp[HT.YC] at h
 |_::_,_::_,[],_,h=>by simp[HT.YC] at h
 |x::xs,y::ys,z::zs,h1,h2=>by
  rw[HT.WL] at h1 h2 ⊢
  by_cases e1:x=y
  ·rw[if_pos e1] at h1
   subst e1
   by_cases e2:x=z
   ·rw[if_pos e2] at h2 ⊢
    exact Jr h1 h2
   ·rw[if_neg e2] at h2 ⊢
    exact h2
  ·rw[if_neg e1] at h1
   have h1':=of_decide_eq_true h1
   by_cases e2:y=z
   ·subst e2
    rw[if_neg e1]
    exact h1
   ·rw[if_neg e2] at h2
    have h2':=of_decide_eq_true h2
    rw[if_neg (by omega)]
    exact decide_eq_true (by omega)
theorem Js:∀{a b:List Int},HT.YC a b=false->HT.YC b a=false->a=b
 |[],[],_,_=>rfl
 |[],_::_,h,_=>by simp[HT.YC] at h
 |_::_,[],_,h=>by simp[HT.YC] at h
 |x::xs,y::ys,h1,h2=>by
  rw[HT.WL] at h1 h2
  by_cases e:x=y
  ·subst e
   rw[if_pos rfl] at h1 h2
   rw[Js h1 h2]
  ·rw[if_neg e] at h1
   rw[if_neg (Ne.symm e)] at h2
   have:=of_decide_eq_false h1
   have:=of_decide_eq_false h2
   omega
noncomputable def Jq (a b:List Int×Int):Bool:=if a.1=b.1 then decide (a.2<b.2) else HT.YC a.1 b.1
theorem V0 (a:List Int×Int):Jq a a=false:=by unfold Jq;rw[if_pos rfl];exact decide_eq_false (by omega)
theorem Za0 {a b c:List Int×Int} (h1:Jq a b=true) (h2:Jq b c=true):Jq a c=true:=by
 unfold Jq at *
 by_cases e1:a.1=b.1
 ·rw[if_pos e1] at h1
  rw[e1]
  by_cases e2:b.1=c.1
  ·rw[if_pos e2] at h2 ⊢
   have:=of_decide_eq_true h1
   have:=of_decide_eq_true h2
   exact decide_eq_true (by omega)
  ·rw[if_neg e2] at h2 ⊢
   exact h2
 ·rw[if_neg e1] at h1
  by_cases e2:b.1=c.1
  ·rw[if_pos e2] at h2
   rw[<- e2,if_neg e1]
   exact h1
  ·rw[if_neg e2] at h2
   have h3:=Jr h1 h2
   by_cases e3:a.1=c.1
   ·rw[e3,Jb] at h3;cases h3
   ·rw[if_neg e3];exact h3
end HL
namespace L2
open PySem PySem.Spec PyProof.Rows
section
variable {X:Cx}
end
def Dfn (K:W.Frag) (mg:Str->Option Value) (x:Str) (st:Stmt):Prop:=∃f fd,Fun K x x st f fd/\mg x=some (.ref f)
noncomputable abbrev Zr (x:Str) (st:Stmt) (ps:List Str):Prop:=∀(kV doc pm:Value) (an:Option Addr) (cdv ct:Value) (us:List Value),us.length=ps.length ->
 bindArgs (PySem.W.fnOf x x (Zz st) (Zv st) (Zg st) .none kV doc pm an cdv ct) ⟨us,[]⟩=pure (ps.zip us)
def Ok (P:Program) (w:World) (K:W.Frag) (mg:Str->Option Value) (base:Heap) (k:Nat) (x:Str) (ps:List Str) (sp:Sp):Prop:=
 ∃f fd,Jo P w K mg base CX0 k f fd ps sp/\mg x=some (.ref f)/\PySem.W.keepIn K (.ref f)=true/\ZeF K fd ps []
theorem UJ {P:Program}{w:World}{K:W.Frag}{mg:Str->Option Value}{base:Heap}{k:Nat}{x:Str}{st:Stmt}{ps:List Str}{sp:Sp} (d:Dfn K mg x st) (b:Zr x st ps)
  (h:∀{f fd},Fun K x x st f fd->Jo P w K mg base CX0 k f fd ps sp):Ok P w K mg base k x ps sp:=by
 obtain⟨f,fd,F,hm⟩:=d
 exact⟨f,fd,h F,hm,F.kp,F.binds b⟩
section
variable {X:Cx}{k:Nat}{x:Str}{ps:List Str}{sp:Sp}{p pos:Pos}{e:Expr}{es:List Expr}{t:TA}
noncomputable def ZaW (sp:Sp) (t:TA):TE:=fun σ H Q=>t σ H fun vs H1=>sp vs H1 Q E0
theorem Zt (G:Ok X.prog X.w X.K X.mg X.base k x ps sp) (hr:ZaC k X.A) (hg:Gl X x) (ha:PA X (e::es) t) (hdb:(x==("__debug__":Str))=false:=by decide)
  (he:starEach (e::es) X.env=(false,eval e X.env)::starEach es X.env:=by rfl) (hpl:(backTo pos (starEach es X.env)).any (·.1)=false:=by rfl):PE X (.Call (.Name x p) (e::es) [] pos) (ZaW sp t):=by
 obtain⟨f,fd,F,hm,hk,hb⟩:=G
 intro pins s σ H Q I h
 refine Zmi (CX:=CX0) (E:=E0) (dvs:=[]) F hr hg hm hk hb .nil Zn0 ha hdb he hpl pins s σ H Q I ?_
 have e:(fun vs H1=>sp (vs++[]) H1 Q E0)=fun vs H1=>sp vs H1 Q E0:=by funext vs H1;rw[Zrc]
 show t σ H (fun vs H1=>sp (vs++[]) H1 Q E0)
 rw[e]
 exact h
theorem Zi2 (G:Ok X.prog X.w X.K X.mg X.base k x ps sp) (hr:ZaC k X.A) (hg:Gl X x) (hdb:(x==("__debug__":Str))=false:=by decide):PE X (.Call (.Name x p) [] [] pos) (ZaW sp ZjT):=by
 obtain⟨f,fd,F,hm,hk,hb⟩:=G
 exact Zkj (CX:=CX0) (E:=E0) (dvs:=[]) F hr hg hm hk hb .nil Zn0 hdb
theorem ZcG {i:Int} (hm:∃t,X.mg x=some (.int i t)) (hg:Gl X x) (hd:(x==("__debug__":Str))=false:=by decide):PE X (.Name x pos) (tC (.int i)):=by
 obtain⟨t,hm⟩:=hm
 exact Zmh (v:=.int i) hg hm ⟨t,rfl⟩ hd
theorem Zk8:Zpt X (Znt X.K):=by
 intro pins s σ H o i ov iv Q I ro ri h
 obtain⟨p,xs,i,z,rfl,rfl,hq,he,q⟩:=h
 cases ro
 obtain⟨t,rfl⟩:=ri
 obtain⟨its,r,pl,hz⟩:=I.list hq
 obtain⟨j,h1,h2,h3,h4,h5⟩:=Zdu he
 obtain⟨w,ew,rw'⟩:=r.get h2
 have hl:=r.length
 have hn:=Zbr
 have fin:EP X pins σ Q w s:=⟨z,H,I,rw',q⟩
 by_cases h0:0<=i
 ·have hj:i.toNat=j:=by
   rw[seqIndex_of h0 h5] at h1
   exact Option.some.inj h1
  exact wpAny_getItem_list pl.isList h0 (by omega) (by rw[hj];simpa using ew) fin
 ·have hj:(i+(its.toArray.size:Int)).toNat=j:=by
   rw[seqIndex_neg (by omega) h4] at h1
   rw[Zqu,<- hl]
   exact Option.some.inj h1
  exact wpAny_getItem_list_neg pl.isList (by omega) (by rw[Zqu]<;>omega) (by omega) (by rw[hj];simpa using ew) fin
end
theorem Zj8 {X:Cx}:Vv X (.builtin "len") (fun xs H Q=>∃p ys,xs=[.ref p]/\(SqL X.K H p ys\/SqT X.K H p ys)/\Q (.int ys.length) H):=Zex
theorem We:bootBuiltins "len"=some (.builtin "len"):=by decide +kernel
theorem Jm:bootBuiltins "isinstance"=some (.builtin "isinstance"):=by decide +kernel
theorem Zc0:bootBuiltins "sum"=some (.builtin "sum"):=by decide +kernel
theorem ZjF:bootBuiltins "all"=some (.builtin "all"):=by decide +kernel
theorem Zoq:bootBuiltins "min"=some (.builtin "min"):=by decide +kernel
theorem Wt:bootBuiltins "list"=some (.type "list"):=by decide +kernel
theorem ZlD:bootBuiltins "int"=some (.type "int"):=by decide +kernel
theorem ZmM:bootBuiltins "bool"=some (.type "bool"):=by decide +kernel
section
variable {t u:TS}{ta tb tc te:TE}{c d:TT}{D:ZhP}{σ:St}{H:Hp}{Q:VK}{B:Bool->Hp->Prop}{a b:TA}{S:List V->Hp->Prop}
end
section
variable {t u:TS}{ta tb tc te:TE}{c d:TT}{D:ZhP}{σ:St}{H:Hp}{Q:VK}{B:Bool->Hp->Prop}{a b:TA}{S:List V->Hp->Prop}{g:TG}
end
section
variable {X:Cx}{K:W.Frag}
theorem ZP (e:X.K=K:=by rfl):IxR X (rIx K):=by subst e;exact ZnN
theorem Z1 (e:X.K=K:=by rfl):Vv X (.builtin "len") (fun xs H Q=>∃p ys,xs=[.ref p]/\(SqL K H p ys\/SqT K H p ys)/\Q (.int ys.length) H):=by subst e;exact Zj8
theorem Vn (hc:X.calm=true) (e:X.K=K:=by rfl):Vv X (.builtin "sum") (fun xs H Q=>∃p,∃ns:List Int,xs=[.ref p]/\SqL K H p (ns.map V.int)/\Q (.int ns.sum) H):=by subst e;exact ZkQ hc
theorem ZbE (hc:X.calm=true) (e:X.K=K:=by rfl):Vv X (.builtin "all") (fun xs H Q=>∃p,∃bs:List Bool,xs=[.ref p]/\SqL K H p (bs.map V.bl)/\Q (.bl (bs.all id)) H):=by subst e;exact ZkR hc
theorem Yl (e:X.K=K:=by rfl):Vv X (.type "list") (fun xs H Q=>∃p ys,xs=[.ref p]/\(SqL K H p ys\/SqT K H p ys)/\∀l,H l=none->Q (.ref l) (upd H l (.lst ys))):=by subst e;exact Zew
theorem Zgo (e:X.K=K:=by rfl):SlR X (ZoK K):=by subst e;exact ZlT
theorem Zje (e:X.K=K:=by rfl):Zpt X (Znt K):=by subst e;exact Zk8
theorem Wn {tg l:Expr}{tl:TE} (hl:PE X l tl) (e:X.K=K:=by rfl):PI X tg l (Zm2 K tl):=by subst e;exact Zmf hl
end
section
variable {t u:TS}{ta tb tc te:TE}{c d:TT}{D:ZhP}{σ:St}{H:Hp}{Q:VK}{B:Bool->Hp->Prop}{a b:TA}{S:List V->Hp->Prop}{g:TG}
theorem ZgK {n:Nat}{k:Int} (h0:0<=k) (h1:k<n):ixN n k=some k.toNat:=by unfold ixN;rw[if_pos h0,if_pos h1]
theorem Z4.upd {H H':Hp}{p:Addr}{o:HO} (h:Z4 H H') (hp:H p=none):Z4 H (upd H' p o):=fun b u e=>by
 rw[Z9 (Yk e hp)]
 exact h b u e
theorem Z4.new {H:Hp}{p:Addr}{o:HO} (hp:H p=none):Z4 H (L2.upd H p o):=Z4.upd (Z4.refl H) hp
theorem ZaM {n:Nat} (h:n<=1000):n<=sizeLine:=Zq3 h (by decide)
end
inductive Sh where
 |dk (ks:List Key)|dt (ks:List (List Key))|ob (n:Str) (fs:List Str)
inductive PV where
 |non|bl (b:Bool)|int (i:Int)|str (x:Str)|lst (xs:List PV)|tup (xs:List PV)
  |exc (n:Str)
  |exa (n:Str) (i:Int)
  |box (p:Option Addr) (s:Sh) (xs:List PV)
mutual
noncomputable def PV.flat:PV->Bool
 |.lst _=>false
 |.tup xs=>PV.flats xs
 |.non=>true
 |.bl _=>true
 |.int _=>true
 |.str _=>true
 |.exc _=>true
 |.exa _ _=>true
 |.box _ _ _=>false
noncomputable def PV.flats:List PV->Bool
 |[]=>true
 |x::xs=>x.flat&&PV.flats xs
end
def KL (K:W.Frag) (a:Addr) (xs:List V):Prop:=
 ∃(o:Obj) (its:Array Value) (n:Nat),K.lookup a=some o/\o.cls=.type "list"/\o.dict=none/\o.data=.seq its n/\its.size<=sizeLine/\YO xs its.toList
noncomputable def ImO:HO->Prop
 |.tup _=>True
 |.frz _ _=>True
 |.xd _=>True
 |_=>False
def Im (K:W.Frag) (H:Hp) (a:Addr) (u:HO):Prop:=H a=some u/\ImO u
noncomputable def Lvo:HO->Prop
 |.lst _=>True
 |.dK _=>True
 |.dT _=>True
 |.ins _ _ _=>True
 |_=>False
noncomputable abbrev LvO:={ u:HO // Lvo u }
def ZmQ (K:W.Frag) (n:Str) (C:Addr):Prop:=PySem.W.nsIn K mainGlobals n=some (some (.ref C))
def Zoy (K:W.Frag) (H:Hp) (n:Str) (v:V):Prop:=∃a o C,v=.ref a/\Im K H a (.frz o (.own a))/\o.cls=.ref C/\o.dict=none/\PySem.W.notCls o=true/\ZmQ K n C
def Zoz (K:W.Frag) (H:Hp) (n:Str) (i:Int) (v:V):Prop:=∃a o C d fs,v=.ref a/\Im K H a (.frz o (.own a))/\Im K H d (.xd fs)/\o.cls=.ref C/\o.dict=some d/\PySem.W.notCls o=true/\ZmQ K n C/\fs=[(("at":Str),V.int i)]
noncomputable def Zo1 (K:W.Frag):Sh->List V->HO->Prop
 |.dk ks,vs,u=>ks.length=vs.length/\u=.dK (ks.zip vs)
 |.dt ks,vs,u=>ks.length=vs.length/\u=.dT (ks.zip vs)
 |.ob n fs,vs,u=>fs.length=vs.length/\∃C dx,u=.ins C dx (fs.zip vs)/\ZmQ K n C
def Zo9 (p:Option Addr) (a:Addr):Prop:=match p with
 |none=>True
 |some b=>a=b
theorem Zo1.lv {K:W.Frag}{s:Sh}{vs:List V}{u:HO} (h:Zo1 K s vs u):Lvo u:=by
 cases s with
 |dk ks=>obtain⟨_,rfl⟩:=h;trivial
 |dt ks=>obtain⟨_,rfl⟩:=h;trivial
 |ob n fs=>obtain⟨_,C,dx,rfl,_⟩:=h;trivial
theorem ZcQ {u o:HO} (h:Lvo u) (h':ImO o):o≠u:=by
 intro e;subst e
 cases o<;>first|exact h|exact h'
mutual
noncomputable def Rep (K:W.Frag) (H:Hp) (S:Addr->Prop):PV->V->Prop
 |.non,v=>v=.non
 |.bl b,v=>v=.bl b
 |.int i,v=>v=.int i
 |.str x,v=>v=.str x
 |.exc n,v=>Zoy K H n v
 |.exa n i,v=>Zoz K H n i v
 |.box p s xs,v=>∃a vs u,v=.ref a/\(Rd H a u/\S a)/\(Zo9 p a/\Zo1 K s vs u)/\ZS K H S xs vs
 |.lst xs,v=>∃a vs,v=.ref a/\((Rd H a (.lst vs)/\S a)\/KL K a vs)/\ZS K H S xs vs
 |.tup xs,v=>∃a vs,v=.ref a/\Im K H a (.tup vs)/\ZS K H S xs vs
noncomputable def ZS (K:W.Frag) (H:Hp) (S:Addr->Prop):List PV->List V->Prop
 |[],vs=>vs=[]
 |x::xs,vs=>∃v r,vs=v::r/\Rep K H S x v/\ZS K H S xs r
end
mutual
noncomputable def WO (K:W.Frag) (H:Hp):PV->V->List Addr->Prop
 |.non,v,F=>v=.non/\F=[]
 |.bl b,v,F=>v=.bl b/\F=[]
 |.int i,v,F=>v=.int i/\F=[]
 |.str x,v,F=>v=.str x/\F=[]
 |.exc n,v,F=>Zoy K H n v/\F=[]
 |.exa n i,v,F=>Zoz K H n i v/\F=[]
 |.box p s xs,v,F=>∃a vs u G,v=.ref a/\H a=some u/\(Zo9 p a/\Zo1 K s vs u)/\Zw K H xs vs G/\a ∉ G/\F=a::G
 |.lst xs,v,F=>∃a vs G,v=.ref a/\H a=some (.lst vs)/\Zw K H xs vs G/\a ∉ G/\F=a::G
 |.tup xs,v,F=>∃a vs,v=.ref a/\Im K H a (.tup vs)/\Zw K H xs vs F
noncomputable def Zw (K:W.Frag) (H:Hp):List PV->List V->List Addr->Prop
 |[],vs,F=>vs=[]/\F=[]
 |x::xs,vs,F=>∃v r G1 G2,vs=v::r/\WO K H x v G1/\Zw K H xs r G2/\(∀a∈G1,a ∉ G2)/\F=G1++G2
end
section
variable {K:W.Frag}{H H':Hp}{S S':Addr->Prop}
mutual
theorem Rep.mono (h1:∀a u,S a->Rd H a u->Rd H' a u/\S' a) (h2:∀a u,Im K H a u->Im K H' a u):∀{x:PV}{v:V},Rep K H S x v->Rep K H' S' x v
 |.non,_,h=>h
 |.bl _,_,h=>h
 |.int _,_,h=>h
 |.str _,_,h=>h
 |.exc n,_,h=>let ⟨a,o,C,e1,e2,e3⟩:=h;⟨a,o,C,e1,h2 a _ e2,e3⟩
 |.exa n i,_,h=>let ⟨a,o,C,d,fs,e1,e2,e2',e3⟩:=h;⟨a,o,C,d,fs,e1,h2 a _ e2,h2 d _ e2',e3⟩
 |.box p s xs,_,h=>by
  obtain⟨a,vs,u,rfl,⟨n1,n2⟩,hb,hr⟩:=h
  exact⟨a,vs,u,rfl,h1 a u n2 n1,hb,ZS.mono h1 h2 hr⟩
 |.lst xs,_,h=>by
  obtain⟨a,vs,rfl,hn,hr⟩:=h
  refine⟨a,vs,rfl, ?_,ZS.mono h1 h2 hr⟩
  rcases hn with ⟨n1,n2⟩|n
  ·exact .inl (h1 a _ n2 n1)
  ·exact .inr n
 |.tup xs,_,h=>by
  obtain⟨a,vs,rfl,hn,hr⟩:=h
  exact⟨a,vs,rfl,h2 a _ hn,ZS.mono h1 h2 hr⟩
theorem ZS.mono (h1:∀a u,S a->Rd H a u->Rd H' a u/\S' a) (h2:∀a u,Im K H a u->Im K H' a u):∀{xs:List PV}{vs:List V},ZS K H S xs vs->ZS K H' S' xs vs
 |[],_,h=>h
 |x::xs,_,h=>by
  obtain⟨v,r,rfl,h3,h4⟩:=h
  exact⟨v,r,rfl,Rep.mono h1 h2 h3,ZS.mono h1 h2 h4⟩
end
mutual
theorem WO.mono:∀{x:PV}{v:V}{F:List Addr},(∀a∈F,∀o,H a=some o->H' a=some o)->(∀a vs,Im K H a vs->Im K H' a vs)->WO K H x v F->WO K H' x v F
 |.non,_,_,_,_,h=>h
 |.bl _,_,_,_,_,h=>h
 |.int _,_,_,_,_,h=>h
 |.str _,_,_,_,_,h=>h
 |.exc n,_,_,_,h2,h=>let ⟨⟨a,o,C,e1,e2,e3⟩,e4⟩:=h;⟨⟨a,o,C,e1,h2 a _ e2,e3⟩,e4⟩
 |.exa n i,_,_,_,h2,h=>let ⟨⟨a,o,C,d,fs,e1,e2,e2',e3⟩,e4⟩:=h;⟨⟨a,o,C,d,fs,e1,h2 a _ e2,h2 d _ e2',e3⟩,e4⟩
 |.box p s xs,_,_,h1,h2,h=>by
  obtain⟨a,vs,u,G,rfl,ha,hb,ht,hn,rfl⟩:=h
  exact⟨a,vs,u,G,rfl,h1 a (by simp) _ ha,hb,Zw.mono (fun b hb o e=>h1 b (by simp[hb]) o e) h2 ht,hn,rfl⟩
 |.lst xs,_,_,h1,h2,h=>by
  obtain⟨a,vs,G,rfl,ha,ht,hn,rfl⟩:=h
  exact⟨a,vs,G,rfl,h1 a (by simp) _ ha,Zw.mono (fun b hb o e=>h1 b (by simp[hb]) o e) h2 ht,hn,rfl⟩
 |.tup xs,_,_,h1,h2,h=>by
  obtain⟨a,vs,rfl,ha,ht⟩:=h
  exact⟨a,vs,rfl,h2 a _ ha,Zw.mono h1 h2 ht⟩
theorem Zw.mono:∀{xs:List PV}{vs:List V}{F:List Addr},(∀a∈F,∀o,H a=some o->H' a=some o)->(∀a vs,Im K H a vs->Im K H' a vs)->Zw K H xs vs F->Zw K H' xs vs F
 |[],_,_,_,_,h=>h
 |x::xs,_,_,h1,h2,h=>by
  obtain⟨v,r,G1,G2,rfl,h3,h4,hd,rfl⟩:=h
  exact⟨v,r,G1,G2,rfl,WO.mono (fun b hb o e=>h1 b (by simp[hb]) o e) h2 h3,Zw.mono (fun b hb o e=>h1 b (by simp[hb]) o e) h2 h4,hd,rfl⟩
end
mutual
theorem WO.rep:∀{x:PV}{v:V}{F:List Addr},(∀a∈F,S a)->WO K H x v F->Rep K H S x v
 |.non,_,_,_,h=>h.1
 |.bl _,_,_,_,h=>h.1
 |.int _,_,_,_,h=>h.1
 |.str _,_,_,_,h=>h.1
 |.exc _,_,_,_,h=>h.1
 |.exa _ _,_,_,_,h=>h.1
 |.box p s xs,_,_,h1,h=>by
  obtain⟨a,vs,u,G,rfl,ha,hb,ht,hn,rfl⟩:=h
  exact⟨a,vs,u,rfl,⟨.inl ha,h1 a (by simp)⟩,hb,Zw.reps (fun b hb=>h1 b (by simp[hb])) ht⟩
 |.lst xs,_,_,h1,h=>by
  obtain⟨a,vs,G,rfl,ha,ht,hn,rfl⟩:=h
  exact⟨a,vs,rfl,.inl ⟨.inl ha,h1 a (by simp)⟩,Zw.reps (fun b hb=>h1 b (by simp[hb])) ht⟩
 |.tup xs,_,_,h1,h=>by
  obtain⟨a,vs,rfl,ha,ht⟩:=h
  exact⟨a,vs,rfl,ha,Zw.reps h1 ht⟩
theorem Zw.reps:∀{xs:List PV}{vs:List V}{F:List Addr},(∀a∈F,S a)->Zw K H xs vs F->ZS K H S xs vs
 |[],_,_,_,h=>h.1
 |x::xs,_,_,h1,h=>by
  obtain⟨v,r,G1,G2,rfl,h3,h4,hd,rfl⟩:=h
  exact⟨v,r,rfl,WO.rep (fun b hb=>h1 b (by simp[hb])) h3,Zw.reps (fun b hb=>h1 b (by simp[hb])) h4⟩
end
mutual
theorem WO.alive:∀{x:PV}{v:V}{F:List Addr},WO K H x v F->∀a∈F,∃vs:LvO,H a=some vs.1
 |.non,_,_,h=>by rw[h.2];simp
 |.bl _,_,_,h=>by rw[h.2];simp
 |.int _,_,_,h=>by rw[h.2];simp
 |.str _,_,_,h=>by rw[h.2];simp
 |.exc _,_,_,h=>by rw[h.2];simp
 |.exa _ _,_,_,h=>by rw[h.2];simp
 |.box p s xs,_,_,h=>by
  obtain⟨a,vs,u,G,rfl,ha,hb,ht,hn,rfl⟩:=h
  intro b hb'
  rcases Zqw.mp hb' with rfl|hb'
  ·exact⟨⟨u,hb.2.lv⟩,ha⟩
  ·exact Zw.alive ht b hb'
 |.lst xs,_,_,h=>by
  obtain⟨a,vs,G,rfl,ha,ht,hn,rfl⟩:=h
  intro b hb
  rcases Zqw.mp hb with rfl|hb
  ·exact⟨⟨.lst vs,trivial⟩,ha⟩
  ·exact Zw.alive ht b hb
 |.tup xs,_,_,h=>by
  obtain⟨a,vs,rfl,ha,ht⟩:=h
  exact Zw.alive ht
theorem Zw.alive:∀{xs:List PV}{vs:List V}{F:List Addr},Zw K H xs vs F->∀a∈F,∃vs:LvO,H a=some vs.1
 |[],_,_,h=>by rw[h.2];simp
 |x::xs,_,_,h=>by
  obtain⟨v,r,G1,G2,rfl,h3,h4,hd,rfl⟩:=h
  intro b hb
  rcases Zqo.mp hb with hb|hb
  ·exact WO.alive h3 b hb
  ·exact Zw.alive h4 b hb
end
mutual
theorem Rep.tree:∀{x:PV}{v:V},x.flat=true->Rep K H S x v->WO K H x v []
 |.non,_,_,h=>⟨h,rfl⟩
 |.bl _,_,_,h=>⟨h,rfl⟩
 |.int _,_,_,h=>⟨h,rfl⟩
 |.str _,_,_,h=>⟨h,rfl⟩
 |.exc _,_,_,h=>⟨h,rfl⟩
 |.exa _ _,_,_,h=>⟨h,rfl⟩
 |.box p s xs,_,f,_=>by simp[PV.flat] at f
 |.lst xs,_,f,_=>by simp[PV.flat] at f
 |.tup xs,_,f,h=>by
  obtain⟨a,vs,rfl,ha,ht⟩:=h
  exact⟨a,vs,rfl,ha,ZS.trees (by simpa[PV.flat] using f) ht⟩
theorem ZS.trees:∀{xs:List PV}{vs:List V},PV.flats xs=true->ZS K H S xs vs->Zw K H xs vs []
 |[],_,_,h=>⟨h,rfl⟩
 |x::xs,_,f,h=>by
  obtain⟨v,r,rfl,h3,h4⟩:=h
  simp only[PV.flats,Bool.and_eq_true] at f
  exact⟨v,r,[],[],rfl,Rep.tree f.1 h3,ZS.trees f.2 h4,by simp,rfl⟩
end
theorem Rep.any (h:Rep K H S x v):Rep K H (fun _=>True) x v:=Rep.mono (fun a vs _ r=>⟨r,trivial⟩) (fun a vs r=>r) h
theorem ZS.any (h:ZS K H S xs vs):ZS K H (fun _=>True) xs vs:=ZS.mono (fun a vs _ r=>⟨r,trivial⟩) (fun a vs r=>r) h
theorem Rep.flatS {x:PV}{v:V} (f:x.flat=true) (h:Rep K H S x v):Rep K H S' x v:=WO.rep (F:=[]) (by simp) (Rep.tree f h)
theorem ZS.length:∀{xs:List PV}{vs:List V},ZS K H S xs vs->vs.length=xs.length
 |[],_,h=>by rw[h];rfl
 |x::xs,_,h=>by
  obtain⟨v,r,rfl,h3,h4⟩:=h
  simp[ZS.length h4]
theorem Zw.length {xs:List PV}{vs:List V}{F:List Addr} (h:Zw K H xs vs F):vs.length=xs.length:=(Zw.reps (S:=fun _=>True) (fun _ _=>trivial) h).length
theorem ZS.get:∀{xs:List PV}{vs:List V}{i:Nat}{x:PV},ZS K H S xs vs->xs[i]?=some x->∃v,vs[i]?=some v/\Rep K H S x v
 |[],_,_,_,_,e=>by simp at e
 |y::xs,_,0,x,h,e=>by
  obtain⟨v,r,rfl,h3,h4⟩:=h
  simp at e;subst e
  exact⟨v,rfl,h3⟩
 |y::xs,_,i+1,x,h,e=>by
  obtain⟨v,r,rfl,h3,h4⟩:=h
  obtain⟨w,e1,e2⟩:=ZS.get (i:=i) h4 (by simpa using e)
  exact⟨w,by simpa using e1,e2⟩
theorem ZS.append:∀{xs ys:List PV}{vs ws:List V},ZS K H S xs vs->ZS K H S ys ws->ZS K H S (xs++ys) (vs++ws)
 |[],_,_,_,h,h'=>by rw[h];exact h'
 |x::xs,_,_,_,h,h'=>by
  obtain⟨v,r,rfl,h3,h4⟩:=h
  exact⟨v,r++_,rfl,h3,ZS.append h4 h'⟩
theorem ZS.one {x:PV}{v:V} (h:Rep K H S x v):ZS K H S [x] [v]:=⟨v,[],rfl,h,rfl⟩
theorem ZS.take:∀{xs:List PV}{vs:List V} (n:Nat),ZS K H S xs vs->ZS K H S (xs.take n) (vs.take n)
 |_,_,0,_=>by simp[ZS]
 |[],_,n+1,h=>by rw[h];rfl
 |y::xs,_,n+1,h=>by
  obtain⟨w,r,rfl,h3,h4⟩:=h
  exact⟨w,r.take n,rfl,h3,ZS.take n h4⟩
theorem ZS.drop:∀{xs:List PV}{vs:List V} (n:Nat),ZS K H S xs vs->ZS K H S (xs.drop n) (vs.drop n)
 |_,_,0,h=>h
 |[],_,n+1,h=>by rw[h];rfl
 |y::xs,_,n+1,h=>by
  obtain⟨w,r,rfl,h3,h4⟩:=h
  exact ZS.drop n h4
theorem Zw.append:∀{xs ys:List PV}{vs ws:List V}{F G:List Addr},Zw K H xs vs F->Zw K H ys ws G->(∀a∈F,a ∉ G)->Zw K H (xs++ys) (vs++ws) (F++G)
 |[],_,_,_,_,_,h,h',_=>by rw[h.1,h.2];exact h'
 |x::xs,_,_,_,_,_,h,h',hd=>by
  obtain⟨v,r,G1,G2,rfl,h3,h4,hd',rfl⟩:=h
  refine⟨v,r++_,G1,G2++_,rfl,h3,Zw.append h4 h' (fun a ha=>hd a (by simp[ha])),fun a ha z=>?_,by simp⟩
  rcases Zqo.mp z with z|z
  ·exact hd' a ha z
  ·exact hd a (by simp[ha]) z
theorem Zw.one {x:PV}{v:V}{F:List Addr} (h:WO K H x v F):Zw K H [x] [v] F:=⟨v,[],F,[],rfl,h,⟨rfl,rfl⟩,by simp,by simp⟩
theorem PV.flats_all:∀{xs:List PV},PV.flats xs=true ↔ ∀x∈xs,x.flat=true
 |[]=>by simp[PV.flats]
 |x::xs=>by simp[PV.flats,PV.flats_all (xs:=xs)]
theorem PV.flats_ints (ns:List Int):PV.flats (ns.map PV.int)=true:=PV.flats_all.mpr (by simp[PV.flat])
theorem Rd.same (e:Z4 H H') (h:Rd H a u):Rd H' a u:=by
 rcases h with h|⟨o,h⟩
 ·exact .inl (e _ _ h)
 ·exact .inr ⟨o,e _ _ h⟩
theorem Z4.im (e:Z4 H H') {k:HO} (h:Im K H a k):Im K H' a k:=⟨e _ _ h.1,h.2⟩
theorem Im.sqT {vs:List V} (h:Im K H a (.tup vs)):SqT K H a vs:=.inl (.inl h.1)
theorem Rep.same (e:Z4 H H') (h:Rep K H S x v):Rep K H' S x v:=Rep.mono (fun a vs s r=>⟨r.same e,s⟩) (fun a vs r=>e.im r) h
theorem ZS.same (e:Z4 H H') (h:ZS K H S xs vs):ZS K H' S xs vs:=ZS.mono (fun a vs s r=>⟨r.same e,s⟩) (fun a vs r=>e.im r) h
theorem WO.same (e:Z4 H H') (h:WO K H x v F):WO K H' x v F:=WO.mono (fun a _ o q=>e a o q) (fun a vs r=>e.im r) h
theorem Zw.same (e:Z4 H H') (h:Zw K H xs vs F):Zw K H' xs vs F:=Zw.mono (fun a _ o q=>e a o q) (fun a vs r=>e.im r) h
theorem Im.putL {p:Addr}{us:LvO}{o:HO}{k:HO} (hp:H p=some us.1) (h:Im K H a k):Im K (upd H p o) a k:=
 ⟨by rw[Z9 (Zmr h.1 hp (ZcQ us.2 h.2))];exact h.1,h.2⟩
theorem Zw.putL {p:Addr}{us:LvO}{o:HO} (hp:H p=some us.1) (hS:p ∉ F) (h:Zw K H xs vs F):Zw K (upd H p o) xs vs F:=
 Zw.mono (fun a ha o q=>by
  have hne:a≠p:=fun z=>hS (z▸ha)
  rw[Z9 hne];exact q) (fun a vs r=>Im.putL hp r) h
theorem Zw.put {p:Addr}{us:List V}{o:HO} (hp:H p=some (.lst us)) (hS:p ∉ F) (h:Zw K H xs vs F):Zw K (upd H p o) xs vs F:=Zw.putL (us:=⟨.lst us,trivial⟩) hp hS h
end
inductive Md|U|P|S|T|O
 deriving DecidableEq
def NO (B:Addr->Prop) (F:Nat->List Addr) (R:List Addr) (a:Addr):Prop:=B a/\a ∉ R/\∀i,a ∉ F i
def UF (K:W.Frag) (H:Hp) (S:Addr->Prop) (m:Md) (x:PV) (o:Option (Option V)) (G:List Addr):Prop:=match m with
 |.U=>G=[]
 |.P=>G=[]/\∃v,o=some (some v)/\x.flat=true/\Rep K H (fun _=>True) x v
 |.S=>G=[]/\∃v,o=some (some v)/\Rep K H S x v
 |.T=>∃a vs xs,o=some (some (.ref a))/\x=.lst xs/\H a=some (.lst vs)/\ZS K H S xs vs/\G=[a]
 |.O=>∃v,o=some (some v)/\WO K H x v G
structure Ag (K:PySem.W.Frag) (B:Addr->Prop) (H0 H:Hp) (σ:St) (Γ:List Md) (ρ:List PV) (F:Nat->List Addr) (R:List Addr):Prop where
 same:Z4 H0 H
 own:∀a,H0 a=none->B a
 young:∀i,∀a∈F i,H0 a=none
 youngR:∀a∈R,H0 a=none
 live:∀i,∀a∈F i,∃vs:LvO,H a=some vs.1
 liveR:∀a∈R,∃vs:LvO,H a=some vs.1
 disj:∀i j,i≠j->∀a∈F i,a ∉ F j
 disjR:∀i,∀a∈F i,a ∉ R
 lenS:σ.length=Γ.length
 lenR:ρ.length=Γ.length
 slot:∀i,UF K H (NO B F R) (Γ.getD i .U) (ρ.getD i .non) σ[i]? (F i)
theorem UF.mono {K:W.Frag}{H H':Hp}{S S':Addr->Prop}{m:Md}{x:PV}{o:Option (Option V)}{G:List Addr} (h:UF K H S m x o G) (h1:∀a u,S a->Rd H a u->Rd H' a u/\S' a)
  (h2:∀a u,Im K H a u->Im K H' a u) (h3:∀a∈G,∀u,H a=some u->H' a=some u):UF K H' S' m x o G:=by
 cases m with
 |U=>exact h
 |P =>
  obtain⟨e,v,h4,h5,h6⟩:=h
  exact⟨e,v,h4,h5,WO.rep (F:=[]) (by simp) (WO.mono (by simp) h2 (Rep.tree h5 h6))⟩
 |S =>
  obtain⟨e,v,h4,h5⟩:=h
  exact⟨e,v,h4,Rep.mono h1 h2 h5⟩
 |T =>
  obtain⟨a,vs,xs,h4,h5,h6,h7,rfl⟩:=h
  exact⟨a,vs,xs,h4,h5,h3 a (by simp) _ h6,ZS.mono h1 h2 h7,rfl⟩
 |O =>
  obtain⟨v,h4,h5⟩:=h
  exact⟨v,h4,WO.mono (fun a ha o q=>h3 a ha o q) h2 h5⟩
section
variable {K:W.Frag}{B:Addr->Prop}{H0 H H':Hp}{σ:St}{Γ:List Md}{ρ:List PV}{F:Nat->List Addr}{R R':List Addr}
theorem Ag.grow (A:Ag K B H0 H σ Γ ρ F R) (e:Z4 H H'):Ag K B H0 H' σ Γ ρ F R:=
 ⟨A.same.trans e,A.own,A.young,A.youngR,fun i a ha=>let ⟨vs,q⟩:=A.live i a ha;⟨vs,e _ _ q⟩,fun a ha=>let ⟨vs,q⟩:=A.liveR a ha;⟨vs,e _ _ q⟩,A.disj,A.disjR,A.lenS,A.lenR,
  fun i=>(A.slot i).mono (fun a vs s r=>⟨r.same e,s⟩) (fun a vs r=>e.im r) fun a ha vs q=>e _ _ q⟩
theorem Ag.less (A:Ag K B H0 H σ Γ ρ F R) (h:∀a∈R',a∈R):Ag K B H0 H σ Γ ρ F R':=
 ⟨A.same,A.own,A.young,fun a ha=>A.youngR a (h a ha),A.live,fun a ha=>A.liveR a (h a ha),A.disj,fun i a ha z=>A.disjR i a ha (h a z),A.lenS,A.lenR,
  fun i=>(A.slot i).mono (fun a vs s r=>⟨r,s.1,fun z=>s.2.1 (h a z),s.2.2⟩) (fun a vs r=>r) fun a ha vs q=>q⟩
theorem Ag.more {G:List Addr} (A:Ag K B H0 H σ Γ ρ F R) (e:Z4 H H') (hf:∀a∈G,H a=none) (hl:∀a∈G,∃vs:LvO,H' a=some vs.1):Ag K B H0 H' σ Γ ρ F (G++R):=by
 refine⟨A.same.trans e,A.own,A.young,fun a ha=>?_,fun i a ha=>let ⟨vs,q⟩:=A.live i a ha;⟨vs,e _ _ q⟩,fun a ha=>?_,A.disj,fun i a ha z=>?_,A.lenS,A.lenR,fun i=>?_⟩
 ·rcases Zqo.mp ha with z|z
  ·exact A.same.free (hf a z)
  ·exact A.youngR a z
 ·rcases Zqo.mp ha with z|z
  ·exact hl a z
  ·obtain⟨vs,q⟩:=A.liveR a z
   exact⟨vs,e _ _ q⟩
 ·rcases Zqo.mp z with z|z
  ·obtain⟨vs,q⟩:=A.live i a ha
   rw[hf a z] at q;cases q
  ·exact A.disjR i a ha z
 ·refine(A.slot i).mono (fun a vs s r=>⟨r.same e,s.1,fun z=>?_,s.2.2⟩) (fun a vs r=>e.im r) fun a ha vs q=>e _ _ q
  rcases Zqo.mp z with z|z
  ·have:=hf a z
   rcases r with r|⟨o,r⟩<;>(rw[this] at r;cases r)
  ·exact s.2.1 z
theorem Ag.fresh (A:Ag K B H0 H σ Γ ρ F R) {p:Addr} (hp:H p=none):p ∉ R/\(∀i,p ∉ F i)/\H0 p=none/\B p:=by
 refine⟨fun z=>?_,fun i z=>?_,A.same.free hp,A.own p (A.same.free hp)⟩
 ·obtain⟨vs,q⟩:=A.liveR p z
  rw[hp] at q;cases q
 ·obtain⟨vs,q⟩:=A.live i p z
  rw[hp] at q;cases q
theorem Ag.new {p:Addr}{xs:List V} (A:Ag K B H0 H σ Γ ρ F R) (hp:H p=none):Ag K B H0 (upd H p (.lst xs)) σ Γ ρ F (p::R):=
 A.more (G:=[p]) (Z4.new hp) (fun a ha=>by rw[Zq0.mp ha];exact hp) fun a ha=>⟨⟨.lst xs,trivial⟩,by rw[Zq0.mp ha,ZT]⟩
theorem Ag.newB {p:Addr}{u:HO} (hu:Lvo u) (A:Ag K B H0 H σ Γ ρ F R) (hp:H p=none):Ag K B H0 (upd H p u) σ Γ ρ F (p::R):=
 A.more (G:=[p]) (Z4.new hp) (fun a ha=>by rw[Zq0.mp ha];exact hp) fun a ha=>⟨⟨u,hu⟩,by rw[Zq0.mp ha,ZT]⟩
theorem Ag.getO {i:Nat} (A:Ag K B H0 H σ Γ ρ F R) (h:Γ[i]?=some .O):∃v,σ[i]?=some (some v)/\WO K H (ρ.getD i .non) v (F i):=by
 have:=A.slot i
 rw[Zqi,h] at this
 exact this
theorem Ag.getT {i:Nat} (A:Ag K B H0 H σ Γ ρ F R) (h:Γ[i]?=some .T):∃a vs xs,σ[i]?=some (some (.ref a))/\ρ.getD i .non=.lst xs/\H a=some (.lst vs)/\ZS K H (NO B F R) xs vs/\F i=[a]:=by
 have:=A.slot i
 rw[Zqi (l:=Γ),h] at this
 exact this
theorem Ag.getS {i:Nat} (A:Ag K B H0 H σ Γ ρ F R) (h:Γ[i]?=some .S):∃v,σ[i]?=some (some v)/\Rep K H (NO B F R) (ρ.getD i .non) v:=by
 have:=A.slot i
 rw[Zqi (l:=Γ),h] at this
 exact this.2
theorem Ag.getP {i:Nat} (A:Ag K B H0 H σ Γ ρ F R) (h:Γ[i]?=some .P):∃v,σ[i]?=some (some v)/\(ρ.getD i .non).flat=true/\Rep K H (fun _=>True) (ρ.getD i .non) v:=by
 have:=A.slot i
 rw[Zqi (l:=Γ),h] at this
 exact this.2
theorem Ag.getA {i:Nat}{m:Md} (A:Ag K B H0 H σ Γ ρ F R) (h:Γ[i]?=some m) (hm:m≠.U):∃v,σ[i]?=some (some v)/\Rep K H (fun _=>True) (ρ.getD i .non) v:=by
 cases m with
 |U=>exact absurd rfl hm
 |P=>obtain⟨v,h1,h2,h3⟩:=A.getP h;exact⟨v,h1,h3⟩
 |S=>obtain⟨v,h1,h2⟩:=A.getS h;exact⟨v,h1,h2.any⟩
 |T =>
  obtain⟨a,vs,xs,h1,h2,h3,h4,h5⟩:=A.getT h
  exact⟨_,h1,by rw[h2];exact⟨a,vs,rfl,.inl ⟨.inl h3,trivial⟩,h4.any⟩⟩
 |O=>obtain⟨v,h1,h2⟩:=A.getO h;exact⟨v,h1,h2.rep (fun _ _=>trivial)⟩
theorem Ag.lt {i:Nat}{m:Md} (A:Ag K B H0 H σ Γ ρ F R) (h:Γ[i]?=some m):i<Γ.length:=(Zql.mp h).1
noncomputable def U2 (F:Nat->List Addr) (i:Nat) (G:List Addr):Nat->List Addr:=fun j=>if j=i then G else F j
theorem Zq {i:Nat}{G:List Addr}:U2 F i G i=G:=if_pos rfl
theorem Z3 {i j:Nat}{G:List Addr} (h:j≠i):U2 F i G j=F j:=if_neg h
theorem Ag.put {i:Nat}{m:Md}{x:PV}{v:V}{G:List Addr} (A:Ag K B H0 H σ Γ ρ F (G++R)) (hi:i<Γ.length) (hG:∀a∈G,a ∉ R) (hs:UF K H (NO B (U2 F i G) R) m x (some (some v)) G) :
  Ag K B H0 H (σ.set i (some v)) (Γ.set i m) (ρ.set i x) (U2 F i G) R:=by
 refine⟨A.same,A.own,fun j a ha=>?_,fun a ha=>A.youngR a (Zqj _ ha),fun j a ha=>?_,fun a ha=>A.liveR a (Zqj _ ha),fun j k hjk a ha z=>?_,fun j a ha z=>?_,by simp[A.lenS],by simp[A.lenR],fun j=>?_⟩
 ·by_cases h:j=i
  ·subst h;rw[Zq] at ha;exact A.youngR a (Zqp _ ha)
  ·rw[Z3 h] at ha;exact A.young j a ha
 ·by_cases h:j=i
  ·subst h;rw[Zq] at ha;exact A.liveR a (Zqp _ ha)
  ·rw[Z3 h] at ha;exact A.live j a ha
 ·by_cases h:j=i
  ·subst h
   rw[Zq] at ha
   rw[Z3 (Ne.symm hjk)] at z
   exact A.disjR k a z (Zqp _ ha)
  ·rw[Z3 h] at ha
   by_cases h':k=i
   ·subst h'
    rw[Zq] at z
    exact A.disjR j a ha (Zqp _ z)
   ·rw[Z3 h'] at z
    exact A.disj j k hjk a ha z
 ·by_cases h:j=i
  ·subst h;rw[Zq] at ha;exact hG a ha z
  ·rw[Z3 h] at ha;exact A.disjR j a ha (Zqj _ z)
 ·by_cases h:j=i
  ·subst h
   rw[Zq,Zqi,Zqi,Zq9 hi,Zq9 (by rw[A.lenR];exact hi),Zq9 (by rw[A.lenS];exact hi)]
   exact hs
  ·rw[Z3 h,Zqi,Zqi,ZqM (Ne.symm h),ZqM (Ne.symm h),ZqM (Ne.symm h),<- Zqi,<- Zqi]
   refine(A.slot j).mono (fun a vs s r=>⟨r,s.1,fun z=>s.2.1 (Zqj _ z),fun k z=>?_⟩) (fun a vs r=>r) fun a ha vs q=>q
   by_cases h':k=i
   ·subst h';rw[Zq] at z;exact s.2.1 (Zqp _ z)
   ·rw[Z3 h'] at z;exact s.2.2 k z
theorem Ag.turn {i:Nat}{m m':Md}{G:List Addr} (A:Ag K B H0 H σ Γ ρ F R) (h:Γ[i]?=some m) (hG:∀a∈G,a∈F i) (hs:UF K H (NO B (U2 F i []) (G++R)) m' (ρ.getD i .non) σ[i]? []) :
  Ag K B H0 H σ (Γ.set i m') ρ (U2 F i []) (G++R):=by
 have hi:=A.lt h
 refine⟨A.same,A.own,fun j a ha=>?_,fun a ha=>?_,fun j a ha=>?_,fun a ha=>?_,fun j k hjk a ha z=>?_,fun j a ha z=>?_,by simp[A.lenS],by simp[A.lenR],fun j=>?_⟩
 ·by_cases h:j=i
  ·subst h;rw[Zq] at ha;simp at ha
  ·rw[Z3 h] at ha;exact A.young j a ha
 ·rcases Zqo.mp ha with z|z
  ·exact A.young i a (hG a z)
  ·exact A.youngR a z
 ·by_cases h:j=i
  ·subst h;rw[Zq] at ha;simp at ha
  ·rw[Z3 h] at ha;exact A.live j a ha
 ·rcases Zqo.mp ha with z|z
  ·exact A.live i a (hG a z)
  ·exact A.liveR a z
 ·by_cases h:j=i
  ·subst h;rw[Zq] at ha;simp at ha
  ·by_cases h':k=i
   ·subst h';rw[Zq] at z;simp at z
   ·rw[Z3 h] at ha;rw[Z3 h'] at z;exact A.disj j k hjk a ha z
 ·by_cases h:j=i
  ·subst h;rw[Zq] at ha;simp at ha
  ·rw[Z3 h] at ha
   rcases Zqo.mp z with z|z
   ·exact A.disj j i h a ha (hG a z)
   ·exact A.disjR j a ha z
 ·by_cases h:j=i
  ·subst h
   rw[Zq,Zqi (l:=Γ.set _ _),Zq9 hi]
   exact hs
  ·rw[Z3 h,Zqi (l:=Γ.set _ _),ZqM (Ne.symm h),<- Zqi]
   refine(A.slot j).mono (fun a vs s r=>⟨r,s.1,fun z=>?_,fun k z=>?_⟩) (fun a vs r=>r) fun a ha vs q=>q
   ·rcases Zqo.mp z with z|z
    ·exact s.2.2 i (hG a z)
    ·exact s.2.1 z
   ·by_cases h':k=i
    ·subst h';rw[Zq] at z;simp at z
    ·rw[Z3 h'] at z;exact s.2.2 k z
theorem Ag.noF (A:Ag K B H0 H σ Γ ρ F R) {i:Nat}{a:Addr} (ha:a∈F i):NO B (U2 F i []) R a:=⟨A.own a (A.young i a ha),A.disjR i a ha,fun j z=>by
 by_cases h:j=i
 ·subst h;rw[Zq] at z;simp at z
 ·rw[Z3 h] at z;exact A.disj j i h a z ha⟩
theorem Ag.freeze {i:Nat}{m:Md} (A:Ag K B H0 H σ Γ ρ F R) (h:Γ[i]?=some m) (hm:m≠.U):Ag K B H0 H σ (Γ.set i .S) ρ (U2 F i []) R:=by
 refine A.turn (G:=[]) h (by simp) ?_
 show UF K H (NO B (U2 F i []) R) .S (ρ.getD i .non) σ[i]? []
 have up:∀{a vs},NO B F R a->Rd H a vs->Rd H a vs/\NO B (U2 F i []) R a:=fun {a vs} s r=>⟨r,s.1,s.2.1,fun j z=>by
  by_cases h:j=i
  ·subst h;rw[Zq] at z;simp at z
  ·rw[Z3 h] at z;exact s.2.2 j z⟩
 cases m with
 |U=>exact absurd rfl hm
 |P=>obtain⟨v,h1,h2,h3⟩:=A.getP h;exact⟨rfl,v,h1,h3.flatS h2⟩
 |S=>obtain⟨v,h1,h2⟩:=A.getS h;exact⟨rfl,v,h1,Rep.mono (fun a vs s r=>up s r) (fun a vs r=>r) h2⟩
 |T =>
  obtain⟨a,vs,xs,h1,h2,h3,h4,h5⟩:=A.getT h
  refine⟨rfl,_,h1, ?_⟩
  rw[h2]
  exact⟨a,vs,rfl,.inl ⟨.inl h3,A.noF (by rw[h5];simp)⟩,ZS.mono (fun a vs s r=>up s r) (fun a vs r=>r) h4⟩
 |O =>
  obtain⟨v,h1,h2⟩:=A.getO h
  exact⟨rfl,v,h1,h2.rep fun a ha=>A.noF ha⟩
theorem Ag.move {i:Nat} (A:Ag K B H0 H σ Γ ρ F R) (h:Γ[i]?=some .O):Ag K B H0 H σ (Γ.set i .U) ρ (U2 F i []) (F i++R):=A.turn (G:=F i) h (fun a ha=>ha) rfl
end
noncomputable abbrev PX:=Str×PV
inductive Rr (α:Type) where
 |ok (a:α)|exc (e:PX)|bad
noncomputable def Rr.bind {α β:Type}:Rr α->(α->Rr β)->Rr β
 |.ok a,f=>f a
 |.exc e,_=>.exc e
 |.bad,_=>.bad
def Dn {α:Type} (r:Rr α) (ok:α->Prop) (ex:PX->Prop):Prop:=match r with
 |.ok a=>ok a
 |.exc e=>ex e
 |.bad=>False
theorem Dn.bind {α β:Type}{r:Rr α}{f:α->Rr β}{ok:β->Prop}{ex:PX->Prop} (h:Dn (r.bind f) ok ex):Dn r (fun a=>Dn (f a) ok ex) ex:=by
 cases r with
 |ok a=>exact h
 |exc e=>exact h
 |bad=>exact h
theorem Dn.imp {α:Type}{r:Rr α}{ok ok':α->Prop}{ex ex':PX->Prop} (h:Dn r ok ex) (h1:∀a,r=.ok a->ok a->ok' a) (h2:∀e,ex e->ex' e):Dn r ok' ex':=by
 cases r with
 |ok a=>exact h1 a rfl h
 |exc e=>exact h2 e h
 |bad=>exact h
@[simp] theorem Rr.bind_ok {α β:Type}{a:α}{f:α->Rr β}:(Rr.ok a).bind f=f a:=rfl
@[simp] theorem Rr.bind_exc {α β:Type}{e:PX}{f:α->Rr β}:(Rr.exc e:Rr α).bind f=.exc e:=rfl
@[simp] theorem Rr.bind_bad {α β:Type}{f:α->Rr β}:(Rr.bad:Rr α).bind f=.bad:=rfl
inductive Kd|P|F|T|Z|A|N
def Res (K:W.Frag) (B:Addr->Prop) (H0 H:Hp) (σ:St) (Γ':List Md) (ρ:List PV) (F:Nat->List Addr) (R:List Addr) (k:Kd) (x:PV) (v:V) (H':Hp):Prop:=
 ∃F',(∀i,∀a∈F' i,a∈F i)/\match k with
 |.P=>x.flat=true/\Rep K H' (fun _=>True) x v/\Ag K B H0 H' σ Γ' ρ F' R
 |.F=>∃G,WO K H' x v G/\(∀a∈G,a ∉ R/\(H a=none\/∃i,a∈F i))/\Ag K B H0 H' σ Γ' ρ F' (G++R)
 |.T=>∃a vs xs,x=.lst xs/\v=.ref a/\H' a=some (.lst vs)/\ZS K H' (NO B F' (a::R)) xs vs/\a ∉ R/\(H a=none\/∃i,a∈F i)/\Ag K B H0 H' σ Γ' ρ F' (a::R)
 |.Z=>Rep K H' (NO B F' R) x v/\Ag K B H0 H' σ Γ' ρ F' R
 |.A=>Rep K H' (fun _=>True) x v/\Ag K B H0 H' σ Γ' ρ F' R
 |.N=>False
def DE (K:W.Frag) (EX:PX->Hp->Prop) (Γ Γ':List Md) (k:Kd) (te:TE) (f:List PV->Rr PV):Prop:=
 ∀(B:Addr->Prop) (H0 H:Hp) (σ:St) (ρ:List PV) (F:Nat->List Addr) (R:List Addr) (Q:VK),Ag K B H0 H σ Γ ρ F R ->
  Dn (f ρ) (fun x=>∀v H',Z4 H H'->Res K B H0 H σ Γ' ρ F R k x v H'->Q v H') (fun e=>∀H',Z4 H0 H'->EX e H')->te σ H Q
def DT (K:W.Frag) (EX:PX->Hp->Prop) (Γ Γ':List Md) (tt:TT) (f:List PV->Rr Bool):Prop:=
 ∀(B:Addr->Prop) (H0 H:Hp) (σ:St) (ρ:List PV) (F:Nat->List Addr) (R:List Addr) (Q:Bool->Hp->Prop),Ag K B H0 H σ Γ ρ F R ->
  Dn (f ρ) (fun b=>∀H' F',Z4 H H'->(∀i,∀a∈F' i,a∈F i)->Ag K B H0 H' σ Γ' ρ F' R->Q b H') (fun e=>∀H',Z4 H0 H'->EX e H')->tt σ H Q
section
variable {K:W.Frag}{B:Addr->Prop}{EX:PX->Hp->Prop}{H0 H H':Hp}{σ:St}{Γ Γ' Γ1 Γ2 Γ3:List Md}{ρ:List PV}{F F':Nat->List Addr}{R:List Addr}{k:Kd}{x:PV}{v:V}{te ta tb tc:TE}{f fa fb fc:List PV->Rr PV}
theorem Res.ag (h:Res K B H0 H σ Γ' ρ F R k x v H'):∃F',(∀i,∀a∈F' i,a∈F i)/\Rep K H' (fun _=>True) x v/\Ag K B H0 H' σ Γ' ρ F' R:=by
 obtain⟨F',hF,h⟩:=h
 refine⟨F',hF, ?_⟩
 cases k with
 |P=>exact⟨h.2.1,h.2.2⟩
 |F=>obtain⟨G,h1,h2,h3⟩:=h;exact⟨h1.rep fun _ _=>trivial,h3.less fun a ha=>Zqj _ ha⟩
 |T=>obtain⟨a,vs,xs,rfl,rfl,h1,h2,h3,h4,h5⟩:=h;exact⟨⟨a,vs,rfl,.inl ⟨.inl h1,trivial⟩,h2.any⟩,h5.less fun a ha=>ZqB _ ha⟩
 |Z=>exact⟨h.1.any,h.2⟩
 |A=>exact h
 |N=>exact h.elim
theorem Res.toA (h:Res K B H0 H σ Γ' ρ F R k x v H'):Res K B H0 H σ Γ' ρ F R .A x v H':=let ⟨F',a,b,c⟩:=h.ag;⟨F',a,b,c⟩
theorem Res.PF (h:Res K B H0 H σ Γ' ρ F R .P x v H'):Res K B H0 H σ Γ' ρ F R .F x v H':=by
 obtain⟨F',hF,h1,h2,h3⟩:=h
 exact⟨F',hF,[],h2.tree h1,by simp,h3⟩
theorem Res.PZ (h:Res K B H0 H σ Γ' ρ F R .P x v H'):Res K B H0 H σ Γ' ρ F R .Z x v H':=by
 obtain⟨F',hF,h1,h2,h3⟩:=h
 exact⟨F',hF,h2.flatS h1,h3⟩
theorem Res.FZ (h:Res K B H0 H σ Γ' ρ F R .F x v H'):Res K B H0 H σ Γ' ρ F R .Z x v H':=by
 obtain⟨F',hF,G,h1,h2,h3⟩:=h
 exact⟨F',hF,h1.rep fun a ha=>⟨h3.own a (h3.youngR a (Zqp _ ha)),(h2 a ha).1,fun i z=>h3.disjR i a z (Zqp _ ha)⟩,h3.less fun a ha=>Zqj _ ha⟩
theorem Res.TZ (h:Res K B H0 H σ Γ' ρ F R .T x v H'):Res K B H0 H σ Γ' ρ F R .Z x v H':=by
 obtain⟨F',hF,a,vs,xs,rfl,rfl,h1,h2,h3,h4,h5⟩:=h
 refine⟨F',hF,⟨a,vs,rfl,.inl ⟨.inl h1,h5.own a (h5.youngR a (by simp)),h3,fun i z=>h5.disjR i a z (by simp)⟩, ?_⟩,h5.less fun a ha=>ZqB _ ha⟩
 exact ZS.mono (fun b us s r=>⟨r,s.1,fun z=>s.2.1 (ZqB _ z),s.2.2⟩) (fun b us r=>r) h2
theorem DE.imp {k':Kd} (h:DE K EX Γ Γ' k te f) (hr:∀{B:Addr->Prop}{H0 H H':Hp}{σ:St}{ρ:List PV}{F:Nat->List Addr}{R:List Addr}{x:PV}{v:V},Res K B H0 H σ Γ' ρ F R k x v H'->Res K B H0 H σ Γ' ρ F R k' x v H'):DE K EX Γ Γ' k' te f:=
 fun B H0 H σ ρ F R Q A d=>h B H0 H σ ρ F R Q A (d.imp (fun x _ q v H' s r=>q v H' s (hr r)) fun e q=>q)
theorem DE.toA (h:DE K EX Γ Γ' k te f):DE K EX Γ Γ' .A te f:=h.imp Res.toA
theorem DE.PF (h:DE K EX Γ Γ' .P te f):DE K EX Γ Γ' .F te f:=h.imp Res.PF
theorem DE.PZ (h:DE K EX Γ Γ' .P te f):DE K EX Γ Γ' .Z te f:=h.imp Res.PZ
theorem DE.FZ (h:DE K EX Γ Γ' .F te f):DE K EX Γ Γ' .Z te f:=h.imp Res.FZ
theorem DE.TZ (h:DE K EX Γ Γ' .T te f):DE K EX Γ Γ' .Z te f:=h.imp Res.TZ
noncomputable def grd (x:PV):Rr PV:=if x.flat=true then .ok x else .bad
theorem DE.grd (h:DE K EX Γ Γ' .A te f):DE K EX Γ Γ' .P te (fun ρ=>(f ρ).bind grd):=fun B H0 H σ ρ F R Q A d=>by
 refine h B H0 H σ ρ F R Q A (d.bind.imp (fun x _ q v H' s r=>?_) fun e q=>q)
 unfold L2.grd at q
 by_cases hx:x.flat=true
 ·rw[if_pos hx] at q
  obtain⟨F',h1,h2,h3⟩:=r
  exact q v H' s ⟨F',h1,hx,h2,h3⟩
 ·rw[if_neg hx] at q;exact q.elim
theorem Zo8 {v:V} (hf:x.flat=true) (hr:∀H,Rep K H (fun _=>True) x v):DE K EX Γ Γ .P (tC v) (fun _=>.ok x):=fun B H0 H σ ρ F R Q A d =>
 d v H (Z4.refl H) ⟨F,fun _ _ h=>h,hf,hr H,A⟩
theorem Zk {i:Int}:DE K EX Γ Γ .P (tC (.int i)) (fun _=>.ok (.int i)):=Zo8 rfl fun _=>rfl
theorem Zf2 {b:Bool}:DE K EX Γ Γ .P (tC (.bl b)) (fun _=>.ok (.bl b)):=Zo8 rfl fun _=>rfl
theorem Zoj:DE K EX Γ Γ .P (tC .non) (fun _=>.ok .non):=Zo8 rfl fun _=>rfl
theorem Zej {x:Str}:DE K EX Γ Γ .P (tC (.str x)) (fun _=>.ok (.str x)):=Zo8 rfl fun _=>rfl
noncomputable def gv (i:Nat) (ρ:List PV):PV:=ρ.getD i .non
theorem Zc {i:Nat}{m:Md} (h:Γ[i]?=some m) (hm:m≠.U):DE K EX Γ Γ .A (Zhi i) (fun ρ=>.ok (gv i ρ)):=fun B H0 H σ ρ F R Q A d=>by
 obtain⟨v,h1,h2⟩:=A.getA h hm
 exact⟨v,h1,d v H (Z4.refl H) ⟨F,fun _ _ h=>h,h2,A⟩⟩
theorem Zi {i:Nat} (h:Γ[i]?=some .P):DE K EX Γ Γ .P (Zhi i) (fun ρ=>.ok (gv i ρ)):=fun B H0 H σ ρ F R Q A d=>by
 obtain⟨v,h1,h2,h3⟩:=A.getP h
 exact⟨v,h1,d v H (Z4.refl H) ⟨F,fun _ _ h=>h,h2,h3,A⟩⟩
theorem VB {i:Nat} (h:Γ[i]?=some .S):DE K EX Γ Γ .Z (Zhi i) (fun ρ=>.ok (gv i ρ)):=fun B H0 H σ ρ F R Q A d=>by
 obtain⟨v,h1,h2⟩:=A.getS h
 exact⟨v,h1,d v H (Z4.refl H) ⟨F,fun _ _ h=>h,h2,A⟩⟩
theorem V1 {i:Nat}{F:Nat->List Addr}:∀j,∀a∈U2 F i [] j,a∈F j:=fun j a ha=>by
 by_cases h:j=i
 ·subst h;rw[Zq] at ha;simp at ha
 ·rw[Z3 h] at ha;exact ha
theorem VC {i:Nat} (h:Γ[i]?=some .O):DE K EX Γ (Γ.set i .U) .F (Zhi i) (fun ρ=>.ok (gv i ρ)):=fun B H0 H σ ρ F R Q A d=>by
 obtain⟨v,h1,h2⟩:=A.getO h
 exact⟨v,h1,d v H (Z4.refl H) ⟨U2 F i [],V1,F i,h2,fun a ha=>⟨A.disjR i a ha,.inr ⟨i,ha⟩⟩,A.move h⟩⟩
theorem ZmE {i:Nat}{m:Md} (h:Γ[i]?=some m) (hm:m≠.U):DE K EX Γ (Γ.set i .S) .Z (Zhi i) (fun ρ=>.ok (gv i ρ)):=fun B H0 H σ ρ F R Q A d=>by
 have A':=A.freeze h hm
 obtain⟨v,h1,h2⟩:=A'.getS (Zq9 (A.lt h))
 exact⟨v,h1,d v H (Z4.refl H) ⟨U2 F i [],V1,h2,A'⟩⟩
def OpP (K:W.Frag) (r:R2) (o:PV->PV->Rr PV):Prop:=∀{H:Hp}{x y:PV}{v w:V}{Q:VK},Rep K H (fun _=>True) x v->Rep K H (fun _=>True) y w ->
 (∃z,o x y=.ok z/\(z.flat=true->∀u,Rep K H (fun _=>True) z u->Q u H))->r v w H Q
theorem Dn.bind2 {α β γ:Type}{r:Rr α}{q:Rr β}{f:α->β->Rr γ}{ok:γ->Prop}{ex:PX->Prop} (h:Dn (r.bind fun a=>q.bind fun b=>f a b) ok ex):Dn r (fun a=>Dn q (fun b=>Dn (f a b) ok ex) ex) ex:=
 h.bind.imp (fun a _ h=>h.bind) fun e h=>h
theorem two {Q:V->V->Hp->Prop}{ok:PV->PV->Prop} (ha:DE K EX Γ Γ1 .A ta fa) (hb:DE K EX Γ1 Γ2 .A tb fb) (A:Ag K B H0 H σ Γ ρ F R)
  (d:Dn (fa ρ) (fun x=>Dn (fb ρ) (fun y=>ok x y) (fun e=>∀H',Z4 H0 H'->EX e H')) (fun e=>∀H',Z4 H0 H'->EX e H'))
  (hq:∀x y v w H' F',ok x y->Z4 H H'->(∀i,∀a∈F' i,a∈F i)->Rep K H' (fun _=>True) x v->Rep K H' (fun _=>True) y w->Ag K B H0 H' σ Γ2 ρ F' R->Q v w H') :
  ta σ H fun v H1=>tb σ H1 fun w H2=>Q v w H2:=by
 refine ha B H0 H σ ρ F R _ A (d.imp (fun x _ d v H1 s1 r1=>?_) fun e q=>q)
 obtain⟨F1,f1,p1,A1⟩:=r1
 refine hb B H0 H1 σ ρ F1 R _ A1 (d.imp (fun y _ q w H2 s2 r2=>?_) fun e q=>q)
 obtain⟨F2,f2,p2,A2⟩:=r2
 exact hq x y v w H2 F2 q (s1.trans s2) (fun i a h=>f1 i a (f2 i a h)) (p1.same s2) p2 A2
theorem ZkJ {r:R2}{o:PV->PV->Rr PV} (hr:OpP K r o) (ho:∀x y z,o x y=.ok z->z.flat=true) (hx:∀x y e,o x y≠.exc e) (ha:DE K EX Γ Γ1 .A ta fa) (hb:DE K EX Γ1 Γ2 .A tb fb) :
  DE K EX Γ Γ2 .P (tOp r ta tb) (fun ρ=>(fa ρ).bind fun x=>(fb ρ).bind fun y=>o x y):=fun B H0 H σ ρ F R Q A d=>by
 refine two ha hb A d.bind2 fun x y v w H' F' d s hF p1 p2 A'=>?_
 cases e:o x y with
 |ok z=>rw[e] at d;exact hr p1 p2 ⟨z,e,fun hf u hu=>d u H' s ⟨F',hF,hf,hu,A'⟩⟩
 |exc q=>exact absurd e (hx x y q)
 |bad=>rw[e] at d;exact d.elim
noncomputable def oI (C:Int->Int->Bool) (g:Int->Int->PV) (x y:PV):Rr PV:=match x,y with
 |.int i,.int j=>if C i j=true then .ok (g i j) else .bad
 |_,_=>.bad
theorem ZdN {C:Int->Int->Bool}{g:Int->Int->PV}{i j:Int} (h:C i j=true):oI C g (.int i) (.int j)=.ok (g i j):=if_pos h
theorem ZpV {C:Int->Int->Bool}{D:Int->Int->Prop}{g:Int->Int->PV}{g':Int->Int->V} (hC:∀i j,C i j=true->D i j) (hg:∀H i j,Rep K H (fun _=>True) (g i j) (g' i j)) (hf:∀i j,(g i j).flat=true):OpP K (rI D g') (oI C g):=by
 intro H x y v w Q rx ry ⟨z,e,q⟩
 cases x<;>cases y<;>first|(simp only[oI] at e;cases e;done)|skip
 rename_i i j
 simp only[oI] at e
 by_cases h:C i j=true
 ·rw[if_pos h] at e;cases e
  cases rx;cases ry
  exact⟨i,j,rfl,rfl,hC i j h,q (hf i j) _ (hg H i j)⟩
 ·rw[if_neg h] at e;cases e
theorem ZoZ {g:Int->Int->PV}{g':Int->Int->V} (hg:∀H i j,Rep K H (fun _=>True) (g i j) (g' i j)) (hf:∀i j,(g i j).flat=true):OpP K (rI0 g') (oI (fun _ _=>true) g):=by
 intro H x y v w Q rx ry ⟨z,e,q⟩
 cases x<;>cases y<;>first|(simp only[oI] at e;cases e;done)|skip
 rename_i i j
 simp only[oI,if_true] at e
 cases e;cases rx;cases ry
 exact⟨i,j,rfl,rfl,q (hf i j) _ (hg H i j)⟩
theorem Zg7 {C:Int->Int->Bool}{g:Int->Int->PV} (x y:PV) (e:PX):oI C g x y≠.exc e:=by
 cases x<;>cases y<;>first|(intro h;simp only[oI] at h;cases h;done)|skip
 intro h
 simp only[oI] at h
 split at h<;>cases h
theorem ZiL {C:Int->Int->Bool}{g:Int->Int->PV} (hf:∀i j,(g i j).flat=true) (x y z:PV) (h:oI C g x y=.ok z):z.flat=true:=by
 cases x<;>cases y<;>first|(simp only[oI] at h;cases h;done)|skip
 simp only[oI] at h
 split at h
 ·cases h;exact hf _ _
 ·cases h
end
mutual
noncomputable def PV.noX:PV->Bool
 |.exc _=>false
 |.exa _ _=>false
 |.box _ _ _=>false
 |.lst xs=>PV.noXs xs
 |.tup xs=>PV.noXs xs
 |.non=>true
 |.bl _=>true
 |.int _=>true
 |.str _=>true
noncomputable def PV.noXs:List PV->Bool
 |[]=>true
 |x::xs=>x.noX&&PV.noXs xs
end
theorem PV.noXs_ints:∀(ns:List Int),PV.noXs (ns.map PV.int)=true
 |[]=>rfl
 |n::ns=>by simp[PV.noXs,PV.noX,PV.noXs_ints ns]
mutual
noncomputable def PV.dat:PV->PyData
 |.non=>.none
 |.bl b=>.bool b
 |.int i=>.int i
 |.str x=>.str x
 |.exc _=>.none
 |.exa _ _=>.none
 |.box _ _ _=>.none
 |.lst xs=>.list (PV.dats xs)
 |.tup xs=>.tuple (PV.dats xs)
noncomputable def PV.dats:List PV->List PyData
 |[]=>[]
 |x::xs=>x.dat::PV.dats xs
end
section
variable {X:Cx}{pins:List (Addr×Obj)}{σ:St}{H:Hp}{s:Shared}{S:Addr->Prop}
theorem UA {K:W.Frag}{a:Addr}{vs:List V} (h:(Rd H a (.lst vs)/\S a)\/KL K a vs):SqL K H a vs:=by
 rcases h with h|h
 ·exact .inl h.1
 ·exact .inr h
mutual
theorem Rep.reads (I:Inv X pins σ H s):∀{x:PV}{v:V}{u:Value},x.noX=true->Rep X.K H S x v->WG v u->∃as,Reads s.heap u x.dat as
 |.non,_,_,_,h,r=>by cases h;cases r;exact⟨_,.none⟩
 |.bl _,_,_,_,h,r=>by cases h;cases r;exact⟨_,.bool _⟩
 |.int _,_,_,_,h,r=>by cases h;obtain⟨t,rfl⟩:=r;exact⟨_,.int _ _⟩
 |.str _,_,_,_,h,r=>by cases h;obtain⟨t,rfl⟩:=r;exact⟨_,.str _ _⟩
 |.exc _,_,_,z,_,_=>by simp[PV.noX] at z
 |.exa _ _,_,_,z,_,_=>by simp[PV.noX] at z
 |.box _ _ _,_,_,z,_,_=>by simp[PV.noX] at z
 |.lst xs,_,_,z,h,r=>by
  obtain⟨a,vs,rfl,hn,hr⟩:=h
  cases r
  obtain⟨its,rv,pl,_⟩:=I.list (UA hn)
  obtain⟨as,ra⟩:=ZS.reads I (by simpa[PV.noX] using z) hr rv
  obtain⟨o,ho,hc,n,hd⟩:=pl.isList
  exact⟨_,.list ho hc hd (by simpa using ra)⟩
 |.tup xs,_,_,z,h,r=>by
  obtain⟨a,vs,rfl,hn,hr⟩:=h
  cases r
  obtain⟨its,rv,⟨o,ho,hc,n,hd⟩,_⟩:=I.tuple hn.sqT
  obtain⟨as,ra⟩:=ZS.reads I (by simpa[PV.noX] using z) hr rv
  exact⟨_,.tuple ho hc hd (by simpa using ra)⟩
theorem ZS.reads (I:Inv X pins σ H s):∀{xs:List PV}{vs:List V}{us:List Value},PV.noXs xs=true->ZS X.K H S xs vs->YO vs us->∃as,ReadsAll s.heap us (PV.dats xs) as
 |[],_,_,_,h,r=>by rw[h] at r;cases r;exact⟨_,.nil⟩
 |x::xs,_,_,z,h,r=>by
  simp only[PV.noXs,Bool.and_eq_true] at z
  obtain⟨v,vs,rfl,h1,h2⟩:=h
  cases r with
  |cons r1 r2 =>
   obtain⟨as,a1⟩:=Rep.reads I z.1 h1 r1
   obtain⟨bs,b1⟩:=ZS.reads I z.2 h2 r2
   exact⟨_,.cons a1 b1⟩
end
noncomputable def okD (x:PV):Bool:=x.noX&&x.dat.canLay0&&decide (x.dat.depth<=64)
noncomputable def ZoL (K:W.Frag) (g:Bool->Bool):R2:=fun x y H Q=>∃p q,Rep K H (fun _=>True) p x/\Rep K H (fun _=>True) q y/\okD p=true/\okD q=true/\Q (.bl (g (PyData.eqv p.dat q.dat))) H
theorem JI {K:W.Frag} (hu:X.A.units+64<cLine) (e:X.K=K:=by rfl):OpR X (compareOp .Eq) (ZoL K id):=by
 subst e
 intro pins s σ H x y v u Q I rx ry h
 obtain⟨p,q,h1,h2,h3,h4,hq⟩:=h
 simp only[okD,Bool.and_eq_true,decide_eq_true_eq] at h3 h4
 obtain⟨as,ra⟩:=h1.reads I h3.1.1 rx
 obtain⟨bs,rb⟩:=h2.reads I h4.1.1 ry
 exact SeqAt.rcAt_reads ra rb h3.1.2 h4.1.2 (by have:=ZrQ p.dat.depth q.dat.depth;omega) _ _ _ _ ⟨.bl (PyData.eqv p.dat q.dat),H,I,rfl,hq⟩
theorem Zg5 {K:W.Frag} (hu:X.A.units+64<cLine) (e:X.K=K:=by rfl):OpR X (compareOp .NotEq) (ZoL K (!·)):=by
 subst e
 intro pins s σ H x y v u Q I rx ry h
 obtain⟨p,q,h1,h2,h3,h4,hq⟩:=h
 simp only[okD,Bool.and_eq_true,decide_eq_true_eq] at h3 h4
 obtain⟨as,ra⟩:=h1.reads I h3.1.1 rx
 obtain⟨bs,rb⟩:=h2.reads I h4.1.1 ry
 exact SeqAt.rcNeAt_reads ra rb h3.1.2 h4.1.2 (by have:=ZrQ p.dat.depth q.dat.depth;omega) _ _ _ _ ⟨.bl (!PyData.eqv p.dat q.dat),H,I,rfl,hq⟩
end
noncomputable def Zfa (g:Bool->Bool) (x y:PV):Rr PV:=if (okD x&&okD y)=true then .ok (.bl (g (PyData.eqv x.dat y.dat))) else .bad
def ZfX (i j:Int):Prop:=i.natAbs<2^60000/\j.natAbs<2^60000
def ZfY (i j:Int):Prop:=0<j/\j.natAbs<2^9000
noncomputable instance (i j:Int):Decidable (ZfX i j):=by unfold ZfX;infer_instance
noncomputable instance (i j:Int):Decidable (ZfY i j):=by unfold ZfY;infer_instance
noncomputable instance (i j:Int):Decidable (Zna i j):=by unfold Zna;infer_instance
theorem ZjC {i:Int}{n:Nat} (h:i.natAbs<2^n):Builtin.Int.intBits i<=n:=by
 unfold Builtin.Int.intBits
 split
 ·exact ZqA _
 ·rename_i h0
  have:i.natAbs≠0:=by simpa using h0
  exact Nat.succ_le_of_lt ((Nat.log2_lt this).mpr h)
section
variable {X:Cx}
theorem UI:OpR X (binaryOp .Mult) (rI ZfX fun i j=>.int (i*j)):=opI fun _ _ _ _ _ _ _ hc q=>mul_int q (PyProof.Rows.mulOk_of_bits (ZjC hc.1) (ZjC hc.2) (by decide))
theorem WQ:OpR X (binaryOp .FloorDiv) (rI ZfY fun i j=>.int (i/j)):=opI fun i j _ _ _ _ _ hc q=>by
 refine floordiv_int (by have:=hc.1;omega) ?_ (.inl (PyProof.noPylong_of_log2 ?_))
 ·rw[Int.fdiv_eq_ediv_of_nonneg _ (by have:=hc.1;omega)];exact q
 ·have h0:j.natAbs≠0:=by have:=hc.1;omega
  exact(Nat.log2_lt h0).mpr hc.2
end
section
variable {K:W.Frag}{B:Addr->Prop}{EX:PX->Hp->Prop}{H0 H H':Hp}{σ:St}{Γ Γ' Γ1 Γ2 Γ3:List Md}{ρ:List PV}{F F':Nat->List Addr}{R:List Addr}{k:Kd}{x:PV}{v:V}{te ta tb tc:TE}{f fa fb fc:List PV->Rr PV}
noncomputable abbrev ZoU:PV->PV->Rr PV:=oI (fun _ _=>true) fun i j=>.int (i+j)
noncomputable abbrev ZpA:PV->PV->Rr PV:=oI (fun _ _=>true) fun i j=>.int (i-j)
noncomputable abbrev ZoQ:PV->PV->Rr PV:=oI (fun i j=>decide (ZfX i j)) fun i j=>.int (i*j)
noncomputable abbrev ZoT:PV->PV->Rr PV:=oI (fun i j=>decide (ZfY i j)) fun i j=>.int (i/j)
noncomputable abbrev ZpC:PV->PV->Rr PV:=oI (fun _ j=>decide (0<j)) fun i j=>.int (i%j)
noncomputable abbrev Zn1:PV->PV->Rr PV:=oI (fun i j=>decide (Zna i j)) fun i j=>.int (i^j.toNat)
noncomputable abbrev pLt:PV->PV->Rr PV:=oI (fun _ _=>true) fun i j=>.bl (decide (i<j))
noncomputable abbrev pLe:PV->PV->Rr PV:=oI (fun _ _=>true) fun i j=>.bl (decide (i<=j))
noncomputable abbrev pGt:PV->PV->Rr PV:=oI (fun _ _=>true) fun i j=>.bl (decide (j<i))
noncomputable abbrev pGe:PV->PV->Rr PV:=oI (fun _ _=>true) fun i j=>.bl (decide (j<=i))
theorem Zjp {D:Int->Int->Prop}{C:Int->Int->Bool}{g:Int->Int->PV}{g':Int->Int->V} (hC:∀i j,C i j=true->D i j) (hg:∀H i j,Rep K H (fun _=>True) (g i j) (g' i j)) (hf:∀i j,(g i j).flat=true)
  (ha:DE K EX Γ Γ1 .A ta fa) (hb:DE K EX Γ1 Γ2 .A tb fb):DE K EX Γ Γ2 .P (tOp (rI D g') ta tb) (fun ρ=>(fa ρ).bind fun x=>(fb ρ).bind fun y=>oI C g x y):=
 ZkJ (ZpV hC hg hf) (ZiL hf) Zg7 ha hb
theorem Zcx {g:Int->Int->PV}{g':Int->Int->V} (hg:∀H i j,Rep K H (fun _=>True) (g i j) (g' i j)) (hf:∀i j,(g i j).flat=true)
  (ha:DE K EX Γ Γ1 .A ta fa) (hb:DE K EX Γ1 Γ2 .A tb fb):DE K EX Γ Γ2 .P (tOp (rI0 g') ta tb) (fun ρ=>(fa ρ).bind fun x=>(fb ρ).bind fun y=>oI (fun _ _=>true) g x y):=
 ZkJ (ZoZ hg hf) (ZiL hf) Zg7 ha hb
theorem Jk (ha:DE K EX Γ Γ1 .A ta fa) (hb:DE K EX Γ1 Γ2 .A tb fb):DE K EX Γ Γ2 .P (tOp (rI0 fun i j=>.int (i+j)) ta tb) (fun ρ=>(fa ρ).bind fun x=>(fb ρ).bind fun y=>ZoU x y):=Zcx (fun _ _ _=>rfl) (fun _ _=>rfl) ha hb
theorem Zl9 (ha:DE K EX Γ Γ1 .A ta fa) (hb:DE K EX Γ1 Γ2 .A tb fb):DE K EX Γ Γ2 .P (tOp (rI0 fun i j=>.int (i-j)) ta tb) (fun ρ=>(fa ρ).bind fun x=>(fb ρ).bind fun y=>ZpA x y):=Zcx (fun _ _ _=>rfl) (fun _ _=>rfl) ha hb
theorem Zf0 (ha:DE K EX Γ Γ1 .A ta fa) (hb:DE K EX Γ1 Γ2 .A tb fb):DE K EX Γ Γ2 .P (tOp (rI0 fun i j=>.bl (decide (i<j))) ta tb) (fun ρ=>(fa ρ).bind fun x=>(fb ρ).bind fun y=>pLt x y):=Zcx (fun _ _ _=>rfl) (fun _ _=>rfl) ha hb
theorem Zpi (ha:DE K EX Γ Γ1 .A ta fa) (hb:DE K EX Γ1 Γ2 .A tb fb):DE K EX Γ Γ2 .P (tOp (rI0 fun i j=>.bl (decide (i<=j))) ta tb) (fun ρ=>(fa ρ).bind fun x=>(fb ρ).bind fun y=>pLe x y):=Zcx (fun _ _ _=>rfl) (fun _ _=>rfl) ha hb
theorem Zjq (ha:DE K EX Γ Γ1 .A ta fa) (hb:DE K EX Γ1 Γ2 .A tb fb):DE K EX Γ Γ2 .P (tOp (rI0 fun i j=>.bl (decide (j<i))) ta tb) (fun ρ=>(fa ρ).bind fun x=>(fb ρ).bind fun y=>pGt x y):=Zcx (fun _ _ _=>rfl) (fun _ _=>rfl) ha hb
theorem Zpj (ha:DE K EX Γ Γ1 .A ta fa) (hb:DE K EX Γ1 Γ2 .A tb fb):DE K EX Γ Γ2 .P (tOp (rI0 fun i j=>.bl (decide (j<=i))) ta tb) (fun ρ=>(fa ρ).bind fun x=>(fb ρ).bind fun y=>pGe x y):=Zcx (fun _ _ _=>rfl) (fun _ _=>rfl) ha hb
theorem ZbA (ha:DE K EX Γ Γ1 .A ta fa) (hb:DE K EX Γ1 Γ2 .A tb fb):DE K EX Γ Γ2 .P (tOp (rI ZfX fun i j=>.int (i*j)) ta tb) (fun ρ=>(fa ρ).bind fun x=>(fb ρ).bind fun y=>ZoQ x y):=Zjp (fun _ _ h=>of_decide_eq_true h) (fun _ _ _=>rfl) (fun _ _=>rfl) ha hb
theorem UE (ha:DE K EX Γ Γ1 .A ta fa) (hb:DE K EX Γ1 Γ2 .A tb fb):DE K EX Γ Γ2 .P (tOp (rI ZfY fun i j=>.int (i/j)) ta tb) (fun ρ=>(fa ρ).bind fun x=>(fb ρ).bind fun y=>ZoT x y):=Zjp (fun _ _ h=>of_decide_eq_true h) (fun _ _ _=>rfl) (fun _ _=>rfl) ha hb
theorem YI (ha:DE K EX Γ Γ1 .A ta fa) (hb:DE K EX Γ1 Γ2 .A tb fb):DE K EX Γ Γ2 .P (tOp (rI (fun _ j=>0<j) fun i j=>.int (i%j)) ta tb) (fun ρ=>(fa ρ).bind fun x=>(fb ρ).bind fun y=>ZpC x y):=Zjp (fun _ _ h=>of_decide_eq_true h) (fun _ _ _=>rfl) (fun _ _=>rfl) ha hb
theorem Zek (ha:DE K EX Γ Γ1 .A ta fa) (hb:DE K EX Γ1 Γ2 .A tb fb):DE K EX Γ Γ2 .P (tOp (rI Zna fun i j=>.int (i^j.toNat)) ta tb) (fun ρ=>(fa ρ).bind fun x=>(fb ρ).bind fun y=>Zn1 x y):=Zjp (fun _ _ h=>of_decide_eq_true h) (fun _ _ _=>rfl) (fun _ _=>rfl) ha hb
theorem Zhs {g:Bool->Bool} (x y:PV) (e:PX):Zfa g x y≠.exc e:=by
 unfold Zfa
 intro h
 split at h<;>cases h
theorem ZiE {g:Bool->Bool} (x y z:PV) (h:Zfa g x y=.ok z):z.flat=true:=by
 unfold Zfa at h
 split at h
 ·cases h;rfl
 ·cases h
theorem WI {g:Bool->Bool} (ha:DE K EX Γ Γ1 .A ta fa) (hb:DE K EX Γ1 Γ2 .A tb fb):DE K EX Γ Γ2 .P (tOp (ZoL K g) ta tb) (fun ρ=>(fa ρ).bind fun x=>(fb ρ).bind fun y=>Zfa g x y):=by
 refine ZkJ (fun {H x y v w Q} rx ry ⟨z,e,q⟩=>?_) ZiE Zhs ha hb
 unfold Zfa at e
 by_cases h:(okD x&&okD y)=true
 ·rw[if_pos h] at e;cases e
  rw[Bool.and_eq_true] at h
  exact⟨x,y,rx,ry,h.1,h.2,q rfl _ rfl⟩
 ·rw[if_neg h] at e;cases e
noncomputable def asB (x:PV):Rr Bool:=match x with
 |.bl b=>.ok b
 |_=>.bad
theorem Dn.asB {x:PV}{ok:Bool->Prop}{ex:PX->Prop} (d:Dn (asB x) ok ex):∃b,x=.bl b/\ok b:=by
 cases x with
 |bl b=>exact⟨b,rfl,d⟩
 |_=>exact d.elim
theorem Zoi (ha:DE K EX Γ Γ1 .A ta fa):DE K EX Γ Γ1 .P (Znj ta) (fun ρ=>(fa ρ).bind fun x=>(asB x).bind fun b=>.ok (.bl (!b))):=fun B H0 H σ ρ F R Q A d=>by
 refine ha B H0 H σ ρ F R _ A (d.bind.imp (fun x _ d v H1 s1 r1=>?_) fun e q=>q)
 obtain⟨b,rfl,d⟩:=d.bind.asB
 obtain⟨F1,f1,p1,A1⟩:=r1
 cases p1
 exact⟨b,rfl,d _ H1 s1 ⟨F1,f1,rfl,rfl,A1⟩⟩
theorem Res.shift {H1:Hp}{F1:Nat->List Addr}{k:Kd}{Γ2:List Md}{y:PV}{w:V}{H2:Hp} (s1:Z4 H H1) (f1:∀i,∀a∈F1 i,a∈F i) (h:Res K B H0 H1 σ Γ2 ρ F1 R k y w H2):Res K B H0 H σ Γ2 ρ F R k y w H2:=by
 obtain⟨F2,f2,h⟩:=h
 refine⟨F2,fun i a ha=>f1 i a (f2 i a ha), ?_⟩
 have org:∀a,(H1 a=none\/∃i,a∈F1 i)->(H a=none\/∃i,a∈F i):=fun a h=>h.elim (fun z=>.inl (s1.free z)) fun⟨i,z⟩=>.inr ⟨i,f1 i a z⟩
 cases k with
 |P=>exact h
 |F=>obtain⟨G,h1,h2,h3⟩:=h;exact⟨G,h1,fun a ha=>⟨(h2 a ha).1,org a (h2 a ha).2⟩,h3⟩
 |T=>obtain⟨a,vs,xs,h1,h2,h3,h4,h5,h6,h7⟩:=h;exact⟨a,vs,xs,h1,h2,h3,h4,h5,org a h6,h7⟩
 |Z=>exact h
 |A=>exact h
 |N=>exact h.elim
theorem Zem (ha:DE K EX Γ Γ .A ta fa) (hb:DE K EX Γ Γ .P tb fb):DE K EX Γ Γ .P (Znn ta tb) (fun ρ=>(fa ρ).bind fun x=>(asB x).bind fun b=>if b=true then fb ρ else .ok (.bl false)):=fun B H0 H σ ρ F R Q A d=>by
 refine ha B H0 H σ ρ F R _ A (d.bind.imp (fun x _ d v H1 s1 r1=>?_) fun e q=>q)
 obtain⟨b,rfl,d⟩:=d.bind.asB
 obtain⟨F1,f1,p1,A1⟩:=r1
 cases p1
 refine⟨b,rfl, ?_⟩
 cases b with
 |true=>exact hb B H0 H1 σ ρ F1 R _ A1 (d.imp (fun y _ q w H2 s2 r2=>q w H2 (s1.trans s2) (r2.shift s1 f1)) fun e q=>q)
 |false=>exact d _ H1 s1 ⟨F1,f1,rfl,rfl,A1⟩
theorem Zph (ha:DE K EX Γ Γ .A ta fa) (hb:DE K EX Γ Γ .P tb fb):DE K EX Γ Γ .P (Zp1 ta tb) (fun ρ=>(fa ρ).bind fun x=>(asB x).bind fun b=>if b=true then .ok (.bl true) else fb ρ):=fun B H0 H σ ρ F R Q A d=>by
 refine ha B H0 H σ ρ F R _ A (d.bind.imp (fun x _ d v H1 s1 r1=>?_) fun e q=>q)
 obtain⟨b,rfl,d⟩:=d.bind.asB
 obtain⟨F1,f1,p1,A1⟩:=r1
 cases p1
 refine⟨b,rfl, ?_⟩
 cases b with
 |false=>exact hb B H0 H1 σ ρ F1 R _ A1 (d.imp (fun y _ q w H2 s2 r2=>q w H2 (s1.trans s2) (r2.shift s1 f1)) fun e q=>q)
 |true=>exact d _ H1 s1 ⟨F1,f1,rfl,rfl,A1⟩
theorem ZE (ha:DE K EX Γ Γ' .A ta fa):DT K EX Γ Γ' (Zng ta) (fun ρ=>(fa ρ).bind asB):=fun B H0 H σ ρ F R Q A d=>by
 refine ha B H0 H σ ρ F R _ A (d.bind.imp (fun x _ d v H1 s1 r1=>?_) fun e q=>q)
 obtain⟨b,rfl,d⟩:=d.asB
 obtain⟨F1,f1,p1,A1⟩:=r1
 cases p1
 exact⟨b,rfl,d H1 F1 s1 f1 A1⟩
theorem Zl7 (ha:DE K EX Γ Γ' .A ta fa):DT K EX Γ Γ' (tB ta) (fun ρ=>(fa ρ).bind asB):=ZE ha
theorem ZgS {c d:TT}{fc fd:List PV->Rr Bool} (hc:DT K EX Γ Γ c fc) (hd:DT K EX Γ Γ d fd):DT K EX Γ Γ (Zp5 c d) (fun ρ=>(fc ρ).bind fun b=>if b=true then fd ρ else .ok false):=fun B H0 H σ ρ F R Q A dn=>by
 refine hc B H0 H σ ρ F R _ A (dn.bind.imp (fun b _ dn H1 F1 s1 f1 A1=>?_) fun e q=>q)
 cases b with
 |true=>exact hd B H0 H1 σ ρ F1 R _ A1 (dn.imp (fun y _ q H2 F2 s2 f2 A2=>q H2 F2 (s1.trans s2) (fun i a h=>f1 i a (f2 i a h)) A2) fun e q=>q)
 |false=>exact dn H1 F1 s1 f1 A1
theorem Zfv {c d:TT}{fc fd:List PV->Rr Bool} (hc:DT K EX Γ Γ c fc) (hd:DT K EX Γ Γ d fd):DT K EX Γ Γ (tOr c d) (fun ρ=>(fc ρ).bind fun b=>if b=true then .ok true else fd ρ):=fun B H0 H σ ρ F R Q A dn=>by
 refine hc B H0 H σ ρ F R _ A (dn.bind.imp (fun b _ dn H1 F1 s1 f1 A1=>?_) fun e q=>q)
 cases b with
 |false=>exact hd B H0 H1 σ ρ F1 R _ A1 (dn.imp (fun y _ q H2 F2 s2 f2 A2=>q H2 F2 (s1.trans s2) (fun i a h=>f1 i a (f2 i a h)) A2) fun e q=>q)
 |true=>exact dn H1 F1 s1 f1 A1
theorem Zct {c:TT}{fc:List PV->Rr Bool} (hc:DT K EX Γ Γ' c fc):DT K EX Γ Γ' (Zp2 c) (fun ρ=>(fc ρ).bind fun b=>.ok (!b)):=fun B H0 H σ ρ F R Q A dn =>
 hc B H0 H σ ρ F R _ A (dn.bind.imp (fun b _ dn H1 F1 s1 f1 A1=>dn H1 F1 s1 f1 A1) fun e q=>q)
end
def DAA (K:W.Frag) (EX:PX->Hp->Prop) (Γ Γ':List Md) (ta:TA) (f:List PV->Rr (List PV)):Prop:=
 ∀(B:Addr->Prop) (H0 H:Hp) (σ:St) (ρ:List PV) (F:Nat->List Addr) (R:List Addr) (Q:List V->Hp->Prop),Ag K B H0 H σ Γ ρ F R ->
  Dn (f ρ) (fun xs=>∀vs H' F',Z4 H H'->(∀i,∀a∈F' i,a∈F i)->ZS K H' (fun _=>True) xs vs->Ag K B H0 H' σ Γ' ρ F' R->Q vs H') (fun e=>∀H',Z4 H0 H'->EX e H')->ta σ H Q
def DAF (K:W.Frag) (EX:PX->Hp->Prop) (Γ Γ':List Md) (ta:TA) (f:List PV->Rr (List PV)):Prop:=
 ∀(B:Addr->Prop) (H0 H:Hp) (σ:St) (ρ:List PV) (F:Nat->List Addr) (R:List Addr) (Q:List V->Hp->Prop),Ag K B H0 H σ Γ ρ F R ->
  Dn (f ρ) (fun xs=>∀vs H' F' G,Z4 H H'->(∀i,∀a∈F' i,a∈F i)->Zw K H' xs vs G->(∀a∈G,a ∉ R/\(H a=none\/∃i,a∈F i))->Ag K B H0 H' σ Γ' ρ F' (G++R)->Q vs H') (fun e=>∀H',Z4 H0 H'->EX e H')->ta σ H Q
def DAZ (K:W.Frag) (EX:PX->Hp->Prop) (Γ Γ':List Md) (ta:TA) (f:List PV->Rr (List PV)):Prop:=
 ∀(B:Addr->Prop) (H0 H:Hp) (σ:St) (ρ:List PV) (F:Nat->List Addr) (R:List Addr) (Q:List V->Hp->Prop),Ag K B H0 H σ Γ ρ F R ->
  Dn (f ρ) (fun xs=>∀vs H' F',Z4 H H'->(∀i,∀a∈F' i,a∈F i)->ZS K H' (NO B F' R) xs vs->Ag K B H0 H' σ Γ' ρ F' R->Q vs H') (fun e=>∀H',Z4 H0 H'->EX e H')->ta σ H Q
section
variable {K:W.Frag}{B:Addr->Prop}{EX:PX->Hp->Prop}{H0 H H':Hp}{σ:St}{Γ Γ' Γ1 Γ2 Γ3:List Md}{ρ:List PV}{F F':Nat->List Addr}{R:List Addr}{k:Kd}{x:PV}{v:V}{te tb tc:TE}{ta:TA}{f fb fc:List PV->Rr PV}{fa:List PV->Rr (List PV)}
theorem Zd:DAA K EX Γ Γ ZjT (fun _=>.ok []):=fun B H0 H σ ρ F R Q A d=>d [] H F (Z4.refl H) (fun _ _ h=>h) rfl A
theorem Za (he:DE K EX Γ Γ1 .A te f) (ha:DAA K EX Γ1 Γ2 ta fa):DAA K EX Γ Γ2 (Zc7 te ta) (fun ρ=>(f ρ).bind fun x=>(fa ρ).bind fun xs=>.ok (x::xs)):=fun B H0 H σ ρ F R Q A d=>by
 refine he B H0 H σ ρ F R _ A (d.bind.imp (fun x _ d v H1 s1 r1=>?_) fun e q=>q)
 obtain⟨F1,f1,p1,A1⟩:=r1
 refine ha B H0 H1 σ ρ F1 R _ A1 (d.bind.imp (fun xs _ d vs H2 F2 s2 f2 p2 A2=>?_) fun e q=>q)
 exact d (v::vs) H2 F2 (s1.trans s2) (fun i a h=>f1 i a (f2 i a h)) ⟨v,vs,rfl,p1.same s2,p2⟩ A2
theorem J3:DAF K EX Γ Γ ZjT (fun _=>.ok []):=fun B H0 H σ ρ F R Q A d=>d [] H F [] (Z4.refl H) (fun _ _ h=>h) ⟨rfl,rfl⟩ (by simp) A
theorem YN (he:DE K EX Γ Γ1 .F te f) (ha:DAF K EX Γ1 Γ2 ta fa):DAF K EX Γ Γ2 (Zc7 te ta) (fun ρ=>(f ρ).bind fun x=>(fa ρ).bind fun xs=>.ok (x::xs)):=fun B H0 H σ ρ F R Q A d=>by
 refine he B H0 H σ ρ F R _ A (d.bind.imp (fun x _ d v H1 s1 r1=>?_) fun e q=>q)
 obtain⟨F1,f1,G1,p1,o1,A1⟩:=r1
 refine ha B H0 H1 σ ρ F1 (G1++R) _ A1 (d.bind.imp (fun xs _ d vs H2 F2 G2 s2 f2 p2 o2 A2=>?_) fun e q=>q)
 refine d (v::vs) H2 F2 (G1++G2) (s1.trans s2) (fun i a h=>f1 i a (f2 i a h)) ⟨v,vs,G1,G2,rfl,p1.same s2,p2,fun a ha z=>(o2 a z).1 (Zqp _ ha),rfl⟩ (fun a ha=>?_) (A2.less fun a ha=>?_)
 ·rcases Zqo.mp ha with z|z
  ·exact o1 a z
  ·obtain⟨o3,o4⟩:=o2 a z
   exact⟨fun q=>o3 (Zqj _ q),o4.elim (fun q=>.inl (s1.free q)) fun⟨i,q⟩=>.inr ⟨i,f1 i a q⟩⟩
 ·simp only[Zqo] at ha ⊢
  rcases ha with (z|z)|z
  ·exact .inr (.inl z)
  ·exact .inl z
  ·exact .inr (.inr z)
theorem Zjw:DAZ K EX Γ Γ ZjT (fun _=>.ok []):=fun B H0 H σ ρ F R Q A d=>d [] H F (Z4.refl H) (fun _ _ h=>h) rfl A
theorem ZaQ (he:DE K EX Γ Γ1 .Z te f) (ha:DAZ K EX Γ1 Γ2 ta fa):DAZ K EX Γ Γ2 (Zc7 te ta) (fun ρ=>(f ρ).bind fun x=>(fa ρ).bind fun xs=>.ok (x::xs)):=fun B H0 H σ ρ F R Q A d=>by
 refine he B H0 H σ ρ F R _ A (d.bind.imp (fun x _ d v H1 s1 r1=>?_) fun e q=>q)
 obtain⟨F1,f1,p1,A1⟩:=r1
 refine ha B H0 H1 σ ρ F1 R _ A1 (d.bind.imp (fun xs _ d vs H2 F2 s2 f2 p2 A2=>?_) fun e q=>q)
 refine d (v::vs) H2 F2 (s1.trans s2) (fun i a h=>f1 i a (f2 i a h)) ⟨v,vs,rfl, ?_,p2⟩ A2
 exact Rep.mono (fun a us s r=>⟨r.same s2,s.1,s.2.1,fun i z=>s.2.2 i (f2 i a z)⟩) (fun a us r=>s2.im r) p1
noncomputable def mkT (xs:List PV):Rr PV:=if xs.length<=1000 then .ok (.tup xs) else .bad
noncomputable def mkL (xs:List PV):Rr PV:=if xs.length<=1000 then .ok (.lst xs) else .bad
theorem Dn.mkT {xs:List PV}{ok:PV->Prop}{ex:PX->Prop} (d:Dn (mkT xs) ok ex):xs.length<=1000/\ok (.tup xs):=by
 unfold L2.mkT at d
 by_cases h:xs.length<=1000
 ·rw[if_pos h] at d;exact⟨h,d⟩
 ·rw[if_neg h] at d;exact d.elim
theorem Dn.mkL {xs:List PV}{ok:PV->Prop}{ex:PX->Prop} (d:Dn (mkL xs) ok ex):xs.length<=1000/\ok (.lst xs):=by
 unfold L2.mkL at d
 by_cases h:xs.length<=1000
 ·rw[if_pos h] at d;exact⟨h,d⟩
 ·rw[if_neg h] at d;exact d.elim
theorem Zfy (ha:DAF K EX Γ Γ' ta fa):DE K EX Γ Γ' .F (ZoH ta) (fun ρ=>(fa ρ).bind mkT):=fun B H0 H σ ρ F R Q A d=>by
 refine ha B H0 H σ ρ F R _ A (d.bind.imp (fun xs _ d vs H1 F1 G s1 f1 p1 o1 A1=>?_) fun e q=>q)
 obtain⟨hl,d⟩:=d.mkT
 refine⟨by rw[p1.length];exact ZaM hl,fun p hp=>?_⟩
 have e:Z4 H1 (upd H1 p (.tup vs)):=Z4.new hp
 exact d _ _ (s1.trans e) ⟨F1,f1,G,⟨p,vs,rfl,⟨ZT,trivial⟩,p1.same e⟩,o1,A1.grow e⟩
theorem Zfz (ha:DAA K EX Γ Γ' ta fa):DE K EX Γ Γ' .A (ZoH ta) (fun ρ=>(fa ρ).bind mkT):=fun B H0 H σ ρ F R Q A d=>by
 refine ha B H0 H σ ρ F R _ A (d.bind.imp (fun xs _ d vs H1 F1 s1 f1 p1 A1=>?_) fun e q=>q)
 obtain⟨hl,d⟩:=d.mkT
 refine⟨by rw[p1.length];exact ZaM hl,fun p hp=>?_⟩
 have e:Z4 H1 (upd H1 p (.tup vs)):=Z4.new hp
 exact d _ _ (s1.trans e) ⟨F1,f1,⟨p,vs,rfl,⟨ZT,trivial⟩,p1.same e⟩,A1.grow e⟩
theorem Res.newF {H1:Hp}{F1:Nat->List Addr}{G:List Addr}{xs:List PV}{vs:List V}{p:Addr} (s1:Z4 H H1) (f1:∀i,∀a∈F1 i,a∈F i) (p1:Zw K H1 xs vs G) (o1:∀a∈G,a ∉ R/\(H a=none\/∃i,a∈F i)) (A1:Ag K B H0 H1 σ Γ' ρ F1 (G++R)) (hp:H1 p=none) :
  Res K B H0 H σ Γ' ρ F R .F (.lst xs) (.ref p) (upd H1 p (.lst vs)):=by
 have e:Z4 H1 (upd H1 p (.lst vs)):=Z4.new hp
 have hf:=A1.fresh hp
 refine⟨F1,f1,p::G,⟨p,vs,G,rfl,ZT,p1.same e,fun z=>hf.1 (Zqp _ z),rfl⟩,fun a ha=>?_,A1.new hp⟩
 rcases Zqw.mp ha with rfl|z
 ·exact⟨fun z=>hf.1 (Zqj _ z),.inl (s1.free hp)⟩
 ·exact o1 a z
theorem Res.newP {H1:Hp}{F1:Nat->List Addr}{xs:List PV}{vs:List V}{p:Addr}{S:Addr->Prop} (s1:Z4 H H1) (f1:∀i,∀a∈F1 i,a∈F i) (p1:ZS K H1 S xs vs) (hx:PV.flats xs=true) (A1:Ag K B H0 H1 σ Γ' ρ F1 R) (hp:H1 p=none) :
  Res K B H0 H σ Γ' ρ F R .F (.lst xs) (.ref p) (upd H1 p (.lst vs)):=Res.newF (G:=[]) s1 f1 (p1.trees hx) (by simp) A1 hp
theorem Res.newT {H1:Hp}{F1:Nat->List Addr}{xs:List PV}{vs:List V}{p:Addr} (s1:Z4 H H1) (f1:∀i,∀a∈F1 i,a∈F i) (p1:ZS K H1 (NO B F1 R) xs vs) (A1:Ag K B H0 H1 σ Γ' ρ F1 R) (hp:H1 p=none) :
  Res K B H0 H σ Γ' ρ F R .T (.lst xs) (.ref p) (upd H1 p (.lst vs)):=by
 have e:Z4 H1 (upd H1 p (.lst vs)):=Z4.new hp
 have hf:=A1.fresh hp
 refine⟨F1,f1,p,vs,xs,rfl,rfl,ZT, ?_,hf.1,.inl (s1.free hp),A1.new hp⟩
 refine ZS.mono (fun a us s r=>⟨r.same e,s.1,fun z=>?_,s.2.2⟩) (fun a us r=>e.im r) p1
 rcases Zqw.mp z with rfl|z
 ·rcases r with r|⟨o,r⟩<;>(rw[hp] at r;cases r)
 ·exact s.2.1 z
theorem Uo (ha:DAF K EX Γ Γ' ta fa):DE K EX Γ Γ' .F (ZoI ta) (fun ρ=>(fa ρ).bind mkL):=fun B H0 H σ ρ F R Q A d=>by
 refine ha B H0 H σ ρ F R _ A (d.bind.imp (fun xs _ d vs H1 F1 G s1 f1 p1 o1 A1=>?_) fun e q=>q)
 obtain⟨hl,d⟩:=d.mkL
 refine⟨by rw[p1.length];exact ZaM hl,fun p hp=>d _ _ (s1.trans (Z4.new hp)) (Res.newF s1 f1 p1 o1 A1 hp)⟩
noncomputable def pIx (x y:PV):Rr PV:=match x,y with
 |.lst xs,.int i=>match atI xs i with
  |some z=>.ok z
  |none=>.bad
 |.tup xs,.int i=>match atI xs i with
  |some z=>.ok z
  |none=>.bad
 |_,_=>.bad
theorem Zin {S:Addr->Prop}{xs:List PV}{vs:List V}{i:Int}{z:PV} (h:ZS K H S xs vs) (e:atI xs i=some z):∃u,atI vs i=some u/\Rep K H S z u:=by
 unfold atI at e ⊢
 rw[h.length]
 cases q:ixN xs.length i with
 |none=>rw[q] at e;cases e
 |some j =>
  rw[q] at e
  obtain⟨u,e1,e2⟩:=h.get e
  exact⟨u,e1,e2⟩
theorem Zns {S:Addr->Prop}{x y z:PV}{v w:V}{Q:VK} (hx:Rep K H S x v) (hy:Rep K H (fun _=>True) y w) (e:pIx x y=.ok z) (q:∀u,Rep K H S z u->Q u H):rIx K v w H Q:=by
 cases x<;>cases y<;>first|(simp only[pIx] at e;cases e;done)|skip
 ·rename_i xs i
  obtain⟨a,vs,rfl,hn,hr⟩:=hx
  cases hy
  simp only[pIx] at e
  cases e1:atI xs i with
  |none=>rw[e1] at e;cases e
  |some z' =>
   rw[e1] at e;cases e
   obtain⟨u,e2,e3⟩:=Zin hr e1
   exact .inl ⟨a,vs,i,u,rfl,rfl,UA hn,e2,q u e3⟩
 ·rename_i xs i
  obtain⟨a,vs,rfl,hn,hr⟩:=hx
  cases hy
  simp only[pIx] at e
  cases e1:atI xs i with
  |none=>rw[e1] at e;cases e
  |some z' =>
   rw[e1] at e;cases e
   obtain⟨u,e2,e3⟩:=Zin hr e1
   exact .inr (.inl ⟨a,vs,i,u,rfl,rfl,hn.sqT,e2,q u e3⟩)
theorem ZiC (x y:PV) (e:PX):pIx x y≠.exc e:=by
 cases x<;>cases y<;>first|(intro h;simp only[pIx] at h;cases h;done)|skip
 all_goals
  intro h
  simp only[pIx] at h
  split at h<;>cases h
theorem Dn.pIx {x y:PV}{ok:PV->Prop}{ex:PX->Prop} (d:Dn (pIx x y) ok ex):∃z,pIx x y=.ok z/\ok z:=by
 cases e:L2.pIx x y with
 |ok z=>rw[e] at d;exact⟨z,rfl,d⟩
 |exc q=>exact absurd e (ZiC x y q)
 |bad=>rw[e] at d;exact d.elim
theorem YJ {te ta':TE}{fa':List PV->Rr PV} (ha:DE K EX Γ Γ1 .A ta' fa') (hb:DE K EX Γ1 Γ2 .A tb fb):DE K EX Γ Γ2 .A (tOp (rIx K) ta' tb) (fun ρ=>(fa' ρ).bind fun x=>(fb ρ).bind fun y=>pIx x y):=fun B H0 H σ ρ F R Q A d=>by
 refine two ha hb A d.bind2 fun x y v w H' F' d s hF p1 p2 A'=>?_
 obtain⟨z,e,d⟩:=d.pIx
 exact Zns p1 p2 e fun u hu=>d u H' s ⟨F',hF,hu,A'⟩
def CbP (K:W.Frag) (r:List V->Hp->VK->Prop) (o:List PV->Rr PV):Prop:=∀{H:Hp}{xs:List PV}{vs:List V}{Q:VK},ZS K H (fun _=>True) xs vs->∀z,o xs=.ok z->z.flat=true/\((∀u,Rep K H (fun _=>True) z u->Q u H)->r vs H Q)
theorem Zh7 {r:List V->Hp->VK->Prop}{o:List PV->Rr PV} (hr:CbP K r o) (hx:∀xs e,o xs≠.exc e) (ha:DAA K EX Γ Γ' ta fa):DE K EX Γ Γ' .P (tCB r ta) (fun ρ=>(fa ρ).bind o):=fun B H0 H σ ρ F R Q A d=>by
 refine ha B H0 H σ ρ F R _ A (d.bind.imp (fun xs _ d vs H1 F1 s1 f1 p1 A1=>?_) fun e q=>q)
 cases e:o xs with
 |ok z =>
  rw[e] at d
  obtain⟨hf,h⟩:=hr (Q:=Q) p1 z e
  exact h fun u hu=>d u H1 s1 ⟨F1,f1,hf,hu,A1⟩
 |exc q=>exact absurd e (hx xs q)
 |bad=>rw[e] at d;exact d.elim
noncomputable def ZiB (xs:List PV):Rr PV:=match xs with
 |[.lst ys]=>.ok (.int ys.length)
 |[.tup ys]=>.ok (.int ys.length)
 |_=>.bad
theorem Za8 {S:Addr->Prop}{x:PV}{vs:List V} (h:ZS K H S [x] vs):∃v,vs=[v]/\Rep K H S x v:=by
 obtain⟨v,r,rfl,h1,h2⟩:=h
 cases h2
 exact⟨v,rfl,h1⟩
theorem ZlV {S:Addr->Prop}{x y:PV}{vs:List V} (h:ZS K H S [x,y] vs):∃v w,vs=[v,w]/\Rep K H S x v/\Rep K H S y w:=by
 obtain⟨v,r,rfl,h1,w,r',rfl,h2,h3⟩:=h
 cases h3
 exact⟨v,w,rfl,h1,h2⟩
theorem Wc (ha:DAA K EX Γ Γ' ta fa):DE K EX Γ Γ' .P (tCB (fun xs H Q=>∃p ys,xs=[.ref p]/\(SqL K H p ys\/SqT K H p ys)/\Q (.int ys.length) H) ta) (fun ρ=>(fa ρ).bind ZiB):=by
 refine Zh7 (fun {H xs vs Q} h z e=>?_) (fun xs e h=>?_) ha
 ·unfold ZiB at e
  split at e<;>first|(cases e;done)|skip
  all_goals
   cases e
   refine⟨rfl,fun q=>?_⟩
   obtain⟨v,rfl,a,ws,rfl,hn,hr⟩:=Za8 h
   refine⟨a,ws,rfl, ?_,by rw[hr.length];exact q _ rfl⟩
   first|exact .inl (UA (S:=fun _=>True) hn)|exact .inr hn.sqT
 ·unfold ZiB at h;split at h<;>cases h
noncomputable def Za2:List PV->Option (List Int)
 |[]=>some []
 |.int i::xs=>(Za2 xs).map (i::·)
 |_::_=>none
@[simp] theorem ZmU (ns:List Int):Za2 (ns.map PV.int)=some ns:=by
 induction ns with
 |nil=>rfl
 |cons n ns ih=>simp[Za2,ih]
theorem ZdU:∀{xs:List PV}{ns:List Int},Za2 xs=some ns->xs=ns.map PV.int
 |[],_,h=>by cases h;rfl
 |.int i::xs,ns,h=>by
  simp only[Za2] at h
  cases e:Za2 xs with
  |none=>rw[e] at h;cases h
  |some ms=>rw[e] at h;cases h;rw[ZdU e];rfl
 |.non::_,_,h=>by cases h
 |.bl _::_,_,h=>by cases h
 |.str _::_,_,h=>by cases h
 |.exc _::_,_,h=>by cases h
 |.exa _ _::_,_,h=>by cases h
 |.box _ _ _::_,_,h=>by cases h
 |.lst _::_,_,h=>by cases h
 |.tup _::_,_,h=>by cases h
theorem Zbc {S:Addr->Prop}:∀{ns:List Int}{vs:List V},ZS K H S (ns.map PV.int) vs->vs=ns.map V.int
 |[],_,h=>h
 |n::ns,_,h=>by
  obtain⟨v,r,rfl,h1,h2⟩:=h
  cases h1
  rw[Zbc h2];rfl
theorem ZdT {S:Addr->Prop}:∀(ns:List Int),ZS K H S (ns.map PV.int) (ns.map V.int)
 |[]=>rfl
 |n::ns=>⟨_,_,rfl,rfl,ZdT ns⟩
theorem Zkc {S:Addr->Prop}{ns:List Int}{v:V} (h:Rep K H S (.lst (ns.map PV.int)) v):∃a,v=.ref a/\SqL K H a (ns.map V.int):=by
 obtain⟨a,vs,rfl,hn,hr⟩:=h
 rw[Zbc hr] at hn
 exact⟨a,rfl,UA hn⟩
noncomputable def Zhq (g:List Int->Rr PV) (xs:List PV):Rr PV:=match xs with
 |[.lst ys]=>match Za2 ys with
  |some ns=>g ns
  |none=>.bad
 |_=>.bad
theorem Rr.ints {g:List Int->Rr PV}{xs:List PV}{z:PV} (e:Zhq g xs=.ok z):∃ns,xs=[.lst (ns.map PV.int)]/\g ns=.ok z:=by
 unfold Zhq at e
 split at e
 ·split at e
  ·rename_i ns h
   exact⟨ns,by rw[ZdU h],e⟩
  ·cases e
 ·cases e
theorem ZeZ {g:List Int->Rr PV} (hg:∀ns e,g ns≠.exc e) (xs:List PV) (e:PX):Zhq g xs≠.exc e:=by
 intro h
 unfold Zhq at h
 split at h
 ·split at h
  ·exact hg _ _ h
  ·cases h
 ·cases h
noncomputable abbrev ZoP:=Zhq fun ns=>.ok (.int ns.sum)
theorem Zcw (ha:DAA K EX Γ Γ' ta fa):DE K EX Γ Γ' .P (tCB (fun xs H Q=>∃p,∃ns:List Int,xs=[.ref p]/\SqL K H p (ns.map V.int)/\Q (.int ns.sum) H) ta) (fun ρ=>(fa ρ).bind ZoP):=by
 refine Zh7 (fun {H xs vs Q} h z e=>?_) (ZeZ fun ns e h=>by cases h) ha
 obtain⟨ns,rfl,e'⟩:=Rr.ints e
 cases e'
 obtain⟨v,rfl,h1⟩:=Za8 h
 obtain⟨a,rfl,h2⟩:=Zkc h1
 exact⟨rfl,fun q=>⟨a,ns,rfl,h2,q _ rfl⟩⟩
noncomputable def ZfG:List PV->Option (List Bool)
 |[]=>some []
 |.bl i::xs=>(ZfG xs).map (i::·)
 |_::_=>none
@[simp] theorem ZjB (ns:List Bool):ZfG (ns.map PV.bl)=some ns:=by
 induction ns with
 |nil=>rfl
 |cons n ns ih=>simp[ZfG,ih]
theorem Zhc:∀{xs:List PV}{ns:List Bool},ZfG xs=some ns->xs=ns.map PV.bl
 |[],_,h=>by cases h;rfl
 |.bl i::xs,ns,h=>by
  simp only[ZfG] at h
  cases e:ZfG xs with
  |none=>rw[e] at h;cases h
  |some ms=>rw[e] at h;cases h;rw[Zhc e];rfl
 |.non::_,_,h=>by cases h
 |.int _::_,_,h=>by cases h
 |.str _::_,_,h=>by cases h
 |.exc _::_,_,h=>by cases h
 |.exa _ _::_,_,h=>by cases h
 |.box _ _ _::_,_,h=>by cases h
 |.lst _::_,_,h=>by cases h
 |.tup _::_,_,h=>by cases h
theorem Zgq {S:Addr->Prop}:∀{ns:List Bool}{vs:List V},ZS K H S (ns.map PV.bl) vs->vs=ns.map V.bl
 |[],_,h=>h
 |n::ns,_,h=>by
  obtain⟨v,r,rfl,h1,h2⟩:=h
  cases h1
  rw[Zgq h2];rfl
noncomputable def Zn6 (xs:List PV):Rr PV:=match xs with
 |[.lst ys]=>match ZfG ys with
  |some bs=>.ok (.bl (bs.all id))
  |none=>.bad
 |_=>.bad
theorem Zjv (ha:DAA K EX Γ Γ' ta fa):DE K EX Γ Γ' .P (tCB (fun xs H Q=>∃p,∃bs:List Bool,xs=[.ref p]/\SqL K H p (bs.map V.bl)/\Q (.bl (bs.all id)) H) ta) (fun ρ=>(fa ρ).bind Zn6):=by
 refine Zh7 (fun {H xs vs Q} h z e=>?_) (fun xs e h=>?_) ha
 ·unfold Zn6 at e
  split at e
  ·split at e
   ·rename_i bs hb
    cases e
    rw[Zhc hb] at h
    obtain⟨v,rfl,a,ws,rfl,hn,hr⟩:=Za8 h
    rw[Zgq hr] at hn
    exact⟨rfl,fun q=>⟨a,bs,rfl,UA (S:=fun _=>True) hn,q _ rfl⟩⟩
   ·cases e
  ·cases e
 ·unfold Zn6 at h
  split at h
  ·split at h<;>cases h
  ·cases h
noncomputable def Zn4 (xs:List PV):Rr PV:=match xs with
 |[.int i]=>.ok (.int i)
 |[.bl b]=>.ok (.int (if b then 1 else 0))
 |_=>.bad
theorem ZkH (ha:DAA K EX Γ Γ' ta fa):DE K EX Γ Γ' .P (tCB (fun xs H Q=>(∃i,xs=[.int i]/\Q (.int i) H)\/∃k,xs=[.bl k]/\Q (.int (if k then 1 else 0)) H) ta) (fun ρ=>(fa ρ).bind Zn4):=by
 refine Zh7 (fun {H xs vs Q} h z e=>?_) (fun xs e h=>?_) ha
 ·unfold Zn4 at e
  split at e<;>first|(cases e;done)|skip
  ·cases e
   obtain⟨v,rfl,h1⟩:=Za8 h
   cases h1
   exact⟨rfl,fun q=>.inl ⟨_,rfl,q _ rfl⟩⟩
  ·cases e
   obtain⟨v,rfl,h1⟩:=Za8 h
   cases h1
   exact⟨rfl,fun q=>.inr ⟨_,rfl,q _ rfl⟩⟩
 ·unfold Zn4 at h;split at h<;>cases h
end
theorem U4 {n:Nat} (h:n<=1000000):n<=sizeLine:=Zq3 h (by decide)
section
variable {X:Cx}{K:W.Frag}
end
def Frm (H:Hp) (F:Nat->List Addr) (H':Hp) (F':Nat->List Addr):Prop:=∀a o,H a=some o->(∀i,a ∉ F i)->H' a=some o/\∀i,a ∉ F' i
theorem Frm.refl {H:Hp}{F:Nat->List Addr}:Frm H F H F:=fun a o h n=>⟨h,n⟩
theorem Frm.trans {H H1 H2:Hp}{F F1 F2:Nat->List Addr} (h1:Frm H F H1 F1) (h2:Frm H1 F1 H2 F2):Frm H F H2 F2:=fun a o h n=>let ⟨h3,n3⟩:=h1 a o h n;h2 a o h3 n3
theorem Frm.of {H H':Hp}{F F':Nat->List Addr} (s:Z4 H H') (f:∀i,∀a∈F' i,a∈F i):Frm H F H' F':=fun a o h n=>⟨s a o h,fun i z=>n i (f i a z)⟩
def ItP (K:W.Frag) (S:Addr->Prop) (J:It) (xs:List PV) (H:Hp):Prop:=
 ∀i,(∀x,xs[i]?=some x->J.go i H/\∀v H',J.yld i H v H'->Z4 H H'/\Rep K H' S x v)/\(xs[i]?=none->J.stop i H)
def DI (K:W.Frag) (EX:PX->Hp->Prop) (Γ Γ':List Md) (wi:TI) (f:List PV->Rr (List PV)):Prop:=
 ∀(B:Addr->Prop) (H0 H:Hp) (σ:St) (ρ:List PV) (F:Nat->List Addr) (R:List Addr) (Q:It->Hp->Prop),Ag K B H0 H σ Γ ρ F R ->
  Dn (f ρ) (fun xs=>∀J H' F',Z4 H H'->(∀i,∀a∈F' i,a∈F i)->Ag K B H0 H' σ Γ' ρ F' R->(∀H2 F2,Frm H' F' H2 F2->ItP K (fun a=>NO B F2 R a/\H' a≠none/\∀i,a ∉ F' i) J xs H2)->Q J H') (fun e=>∀H',Z4 H0 H'->EX e H')->wi σ H Q
def DIc (K:W.Frag) (EX:PX->Hp->Prop) (Γ Γ':List Md) (wi:TI) (f:List PV->Rr (List PV)):Prop:=
 ∀(B:Addr->Prop) (H0 H:Hp) (σ:St) (ρ:List PV) (F:Nat->List Addr) (R:List Addr) (Q:It->Hp->Prop),Ag K B H0 H σ Γ ρ F R ->
  Dn (f ρ) (fun xs=>∀J H' F',Z4 H H'->(∀i,∀a∈F' i,a∈F i)->Ag K B H0 H' σ Γ' ρ F' R->(∀H2 F2,Z4 H' H2->(∀i,∀a∈F2 i,a∈F' i)->ItP K (fun a=>NO B F2 R a/\H' a≠none/\∀i,a ∉ F' i) J xs H2)->Q J H') (fun e=>∀H',Z4 H0 H'->EX e H')->wi σ H Q
theorem DI.c {K:W.Frag}{EX:PX->Hp->Prop}{Γ Γ':List Md}{wi:TI}{f:List PV->Rr (List PV)} (h:DI K EX Γ Γ' wi f):DIc K EX Γ Γ' wi f:=fun B H0 H σ ρ F R Q A d =>
 h B H0 H σ ρ F R Q A (d.imp (fun xs _ d J H' F' s1 f1 A1 it=>d J H' F' s1 f1 A1 fun H2 F2 s2 f2=>it H2 F2 (Frm.of s2 f2)) fun e q=>q)
section
variable {K:W.Frag}{B:Addr->Prop}{EX:PX->Hp->Prop}{H0 H H':Hp}{σ:St}{Γ Γ' Γ1 Γ2 Γ3:List Md}{ρ:List PV}{F F':Nat->List Addr}{R:List Addr}{k:Kd}{x:PV}{v:V}{te tb tc:TE}{ta:TA}{f fb fc:List PV->Rr PV}{fa:List PV->Rr (List PV)}
theorem Rep.frm {F2:Nat->List Addr}{H2:Hp} (h:Frm H F H2 F2) (A:Ag K B H0 H σ Γ ρ F R) (r:Rep K H (NO B F R) x v):Rep K H2 (fun a=>NO B F2 R a/\H a≠none/\∀i,a ∉ F i) x v:=by
 refine Rep.mono (fun a us s r=>?_) (fun a us r=>?_) r
 ·rcases r with r|⟨o,r⟩
  ·obtain⟨h1,h2⟩:=h a _ r s.2.2;exact⟨.inl h1,⟨s.1,s.2.1,h2⟩,by rw[r];simp,s.2.2⟩
  ·obtain⟨h1,h2⟩:=h a _ r s.2.2;exact⟨.inr ⟨o,h1⟩,⟨s.1,s.2.1,h2⟩,by rw[r];simp,s.2.2⟩
 ·refine⟨(h a _ r.1 fun i z=>?_).1,r.2⟩
  obtain⟨vs,q⟩:=A.live i a z
  exact ZcQ vs.2 r.2 (by rw[r.1] at q;exact Option.some.inj q)
noncomputable def ZeG (lo:Int) (n:Nat):List PV:=(List.range n).map fun(k:Nat)=>PV.int (lo+(k:Int))
theorem ZiW {lo:Int}{n:Nat}{S:Addr->Prop}:ItP K S (Itr lo n) (ZeG lo n) H:=by
 intro i
 constructor
 ·intro x hx
  unfold ZeG at hx
  rw[Zq7] at hx
  by_cases h:i<n
  ·rw[Zrp h] at hx
   cases hx
   exact⟨h,fun v H' ⟨e1,e2⟩=>by subst e1 e2;exact⟨Z4.refl _,rfl⟩⟩
  ·rw[ZqI (by simpa using h)] at hx;cases hx
 ·intro hx
  unfold ZeG at hx
  have:=ZqQ.mp hx
  show n<=i
  simpa using this
noncomputable def okR (j:Int):Bool:=decide (-(2^62)<=j/\j<2^62)
noncomputable def Zkn (xs:List PV):Rr (List PV):=match xs with
 |[.int j]=>if okR j=true then .ok (ZeG 0 j.toNat) else .bad
 |_=>.bad
noncomputable def Zkm (xs:List PV):Rr (List PV):=match xs with
 |[.int i,.int j]=>if (okR i&&okR j)=true then .ok (ZeG i (j-i).toNat) else .bad
 |_=>.bad
theorem Jh (ha:DAA K EX Γ Γ' ta fa):DI K EX Γ Γ' (ZnQ ta) (fun ρ=>(fa ρ).bind Zkn):=fun B H0 H σ ρ F R Q A d=>by
 refine ha B H0 H σ ρ F R _ A (d.bind.imp (fun xs _ d vs H1 F1 s1 f1 p1 A1=>?_) fun e q=>q)
 unfold Zkn at d
 split at d
 ·rename_i j _
  obtain⟨v,rfl,h1⟩:=Za8 p1
  cases h1
  by_cases h:okR j=true
  ·rw[if_pos h] at d
   have h':=of_decide_eq_true h
   exact⟨j,rfl,h'.1,h'.2,d _ H1 F1 s1 f1 A1 fun H2 F2 _=>ZiW⟩
  ·rw[if_neg h] at d;exact d.elim
 ·exact d.elim
theorem Zjm (ha:DAA K EX Γ Γ' ta fa):DI K EX Γ Γ' (ZnP ta) (fun ρ=>(fa ρ).bind Zkm):=fun B H0 H σ ρ F R Q A d=>by
 refine ha B H0 H σ ρ F R _ A (d.bind.imp (fun xs _ d vs H1 F1 s1 f1 p1 A1=>?_) fun e q=>q)
 unfold Zkm at d
 split at d
 ·rename_i i j _
  obtain⟨v,w,rfl,h1,h2⟩:=ZlV p1
  cases h1;cases h2
  by_cases h:(okR i&&okR j)=true
  ·rw[if_pos h] at d
   rw[Bool.and_eq_true] at h
   have h':=of_decide_eq_true h.1
   have h'':=of_decide_eq_true h.2
   exact⟨i,j,rfl,⟨h'.1,h'.2,h''.1,h''.2⟩,d _ H1 F1 s1 f1 A1 fun H2 F2 _=>ZiW⟩
  ·rw[if_neg h] at d;exact d.elim
 ·exact d.elim
noncomputable def asL (x:PV):Rr (List PV):=match x with
 |.lst xs=>.ok xs
 |_=>.bad
theorem Zm1 {a:Addr}{xs:List PV}{S:Addr->Prop} (h:Rep K H S (.lst xs) (.ref a)):ItP K S (Itl K a) xs H:=by
 obtain⟨a',vs,e,hn,hr⟩:=h
 cases e
 intro i
 constructor
 ·intro x hx
  obtain⟨u,e1,e2⟩:=hr.get hx
  refine⟨⟨vs,u,UA hn,e1⟩,fun v H' ⟨e,y⟩=>?_⟩
  subst e
  have:=y vs (UA hn)
  rw[e1] at this;cases this
  exact⟨Z4.refl _,e2⟩
 ·intro hx
  exact⟨vs,UA hn,by rw[hr.length];exact ZqQ.mp hx⟩
theorem Ji (he:DE K EX Γ Γ' .Z te f):DI K EX Γ Γ' (Zm2 K te) (fun ρ=>(f ρ).bind asL):=fun B H0 H σ ρ F R Q A d=>by
 refine he B H0 H σ ρ F R _ A (d.bind.imp (fun x _ d v H1 s1 r1=>?_) fun e q=>q)
 obtain⟨F1,f1,p1,A1⟩:=r1
 cases x with
 |lst xs =>
  obtain⟨a,vs,rfl,hn,hr⟩:=id p1
  exact⟨a,rfl,⟨vs,UA hn⟩,d _ H1 F1 s1 f1 A1 fun H2 F2 h=>Zm1 (p1.frm h A1)⟩
 |_=>exact d.elim
theorem Zeg:∀{ns:List Int},PV.flats (ns.map PV.int)=true
 |[]=>rfl
 |n::ns=>by simp only[Zqz,PV.flats,PV.flat,Zeg,Bool.and_self]
def DO (K:W.Frag) (EX:PX->Hp->Prop) (Γ Γ':List Md) (t:TO) (f:List PV->Rr (Option Int)):Prop:=
 ∀(B:Addr->Prop) (H0 H:Hp) (σ:St) (ρ:List PV) (F:Nat->List Addr) (R:List Addr) (Q:Option Int->Hp->Prop),Ag K B H0 H σ Γ ρ F R ->
  Dn (f ρ) (fun o=>∀H' F',Z4 H H'->(∀i,∀a∈F' i,a∈F i)->Ag K B H0 H' σ Γ' ρ F' R->Q o H') (fun e=>∀H',Z4 H0 H'->EX e H')->t σ H Q
theorem Zjk:DO K EX Γ Γ Zia (fun _=>.ok none):=fun B H0 H σ ρ F R Q A d=>d H F (Z4.refl H) (fun _ _ h=>h) A
noncomputable def asI (x:PV):Rr Int:=match x with
 |.int i=>.ok i
 |_=>.bad
theorem Dn.asI {x:PV}{ok:Int->Prop}{ex:PX->Prop} (d:Dn (asI x) ok ex):∃b,x=.int b/\ok b:=by
 cases x with
 |int b=>exact⟨b,rfl,d⟩
 |_=>exact d.elim
theorem Zjj (he:DE K EX Γ Γ' .A te f):DO K EX Γ Γ' (Zni te) (fun ρ=>(f ρ).bind fun x=>(asI x).bind fun i=>.ok (some i)):=fun B H0 H σ ρ F R Q A d=>by
 refine he B H0 H σ ρ F R _ A (d.bind.imp (fun x _ d v H1 s1 r1=>?_) fun e q=>q)
 obtain⟨i,rfl,d⟩:=d.bind.asI
 obtain⟨F1,f1,p1,A1⟩:=r1
 cases p1
 exact⟨i,rfl,d H1 F1 s1 f1 A1⟩
noncomputable def ZmK {α:Type} (xs:List α) (lo hi:Option Int):List α:=(xs.drop (HT.sIx xs.length 0 lo)).take (HT.sIx xs.length xs.length hi-HT.sIx xs.length 0 lo)
theorem ZS.cut {S:Addr->Prop}{xs:List PV}{vs:List V} (h:ZS K H S xs vs) (lo hi:Option Int):ZS K H S (ZmK xs lo hi) (ZmX vs lo hi):=by
 unfold ZmK ZmX
 rw[h.length]
 exact(h.drop _).take _
noncomputable def newF (xs:List PV):Rr PV:=if (PV.flats xs&&decide (xs.length<=1000000))=true then .ok (.lst xs) else .bad
theorem Dn.newF {xs:List PV}{ok:PV->Prop}{ex:PX->Prop} (d:Dn (newF xs) ok ex):PV.flats xs=true/\xs.length<=1000000/\ok (.lst xs):=by
 unfold L2.newF at d
 by_cases h:(PV.flats xs&&decide (xs.length<=1000000))=true
 ·rw[if_pos h] at d
  rw[Bool.and_eq_true] at h
  exact⟨h.1,of_decide_eq_true h.2,d⟩
 ·rw[if_neg h] at d;exact d.elim
theorem ZlA {tl th:TO}{fl fh:List PV->Rr (Option Int)} (he:DE K EX Γ Γ1 .A te f) (hl:DO K EX Γ1 Γ2 tl fl) (hh:DO K EX Γ2 Γ3 th fh) :
  DE K EX Γ Γ3 .F (tSl (ZoK K) te tl th) (fun ρ=>(f ρ).bind fun x=>(fl ρ).bind fun lo=>(fh ρ).bind fun hi=>(asL x).bind fun xs=>newF (ZmK xs lo hi)):=fun B H0 H σ ρ F R Q A d=>by
 refine he B H0 H σ ρ F R _ A (d.bind.imp (fun x _ d v H1 s1 r1=>?_) fun e q=>q)
 obtain⟨F1,f1,p1,A1⟩:=r1
 refine hl B H0 H1 σ ρ F1 R _ A1 (d.bind.imp (fun lo _ d H2 F2 s2 f2 A2=>?_) fun e q=>q)
 refine hh B H0 H2 σ ρ F2 R _ A2 (d.bind.imp (fun hi _ d H3 F3 s3 f3 A3=>?_) fun e q=>q)
 cases x with
 |lst xs =>
  obtain⟨h1,h2,d⟩:=Dn.newF d
  obtain⟨a,vs,rfl,hn,hr⟩:=(p1.same s2).same s3
  refine⟨a,vs,rfl,UA (S:=fun _=>True) hn,fun p hp=>?_⟩
  exact d _ _ (((s1.trans s2).trans s3).trans (Z4.new hp)) (Res.newP ((s1.trans s2).trans s3) (fun i a h=>f1 i a (f2 i a (f3 i a h))) (hr.cut lo hi) h1 A3 hp)
 |_=>exact d.elim
noncomputable def Zho (xs:List PV):Rr PV:=match xs with
 |[.lst ys]=>newF ys
 |[.tup ys]=>newF ys
 |_=>.bad
theorem Wo (ha:DAA K EX Γ Γ' ta fa):DE K EX Γ Γ' .F (tCB (fun xs H Q=>∃p ys,xs=[.ref p]/\(SqL K H p ys\/SqT K H p ys)/\∀l,H l=none->Q (.ref l) (upd H l (.lst ys))) ta) (fun ρ=>(fa ρ).bind Zho):=fun B H0 H σ ρ F R Q A d=>by
 refine ha B H0 H σ ρ F R _ A (d.bind.imp (fun xs _ d vs H1 F1 s1 f1 p1 A1=>?_) fun e q=>q)
 unfold Zho at d
 split at d
 ·obtain⟨h1,h2,d⟩:=Dn.newF d
  obtain⟨v,rfl,a,ws,rfl,hn,hr⟩:=Za8 p1
  exact⟨a,ws,rfl,.inl (UA (S:=fun _=>True) hn),fun l hl=>d _ _ (s1.trans (Z4.new hl)) (Res.newP s1 f1 hr h1 A1 hl)⟩
 ·obtain⟨h1,h2,d⟩:=Dn.newF d
  obtain⟨v,rfl,a,ws,rfl,hn,hr⟩:=Za8 p1
  exact⟨a,ws,rfl,.inr hn.sqT,fun l hl=>d _ _ (s1.trans (Z4.new hl)) (Res.newP s1 f1 hr h1 A1 hl)⟩
 ·exact d.elim
noncomputable def UC:PV->String
 |.non => "NoneType"
 |.bl _ => "bool"
 |.int _ => "int"
 |.str _ => "str"
 |.lst _ => "list"
 |.tup _ => "tuple"
 |.exc _ => "?"
 |.exa _ _ => "?"
 |.box _ (.dk _) _ => "dict"
 |.box _ (.dt _) _ => "dict"
 |.box _ (.ob _ _) _ => "?"
noncomputable def PV.isX:PV->Bool
 |.exc _=>true
 |.exa _ _=>true
 |.box _ _ _=>true
 |_=>false
noncomputable def ZcU (t n:String):Bool:=t==n || (t == "bool" && n == "int")
noncomputable def ZoE (n:String):Bool:=n == "int" || n == "bool" || n == "str" || n == "list" || n == "tuple"
theorem ZnF (K:W.Frag) {n:String} (h:ZoE n=true) (x:PV) (hx:x.isX=false):PySem.W.kitOne K (.type (UC x)) (.type n)=some (ZcU (UC x) n):=by
 simp only[ZoE,Bool.or_eq_true,beq_iff_eq] at h
 rcases h with (((rfl|rfl)|rfl)|rfl)|rfl<;>cases x<;>first|rfl|cases hx
def Zp9 (K:W.Frag) (n:String):List V->Hp->VK->Prop:=fun xs H Q=>∃x p,xs=[x,.ty n]/\Rep K H (fun _=>True) p x/\p.isX=false/\Q (.bl (ZcU (UC p) n)) H
theorem QJ {X:Cx}{n:String} (hn:ZoE n=true) (e:X.K=K:=by rfl):Vv X (.builtin "isinstance") (Zp9 K n):=by
 subst e
 intro pins s σ H xs us Q I r h
 obtain⟨x,p,rfl,hp,hx,q⟩:=h
 obtain⟨u,w',rfl,rx,rn⟩:=ZlM r
 cases rn
 have e:=ZnF X.K hn p hx
 have fin:∀tk,EP X pins σ Q (.bool (ZcU (UC p) n)) { s with toks:=tk }:=fun tk=>⟨.bl _,H,I.tok _,rfl,q⟩
 cases p with
 |non=>cases hp;cases rx;exact PySem.W.kia_one PySem.W.kitx_none I.kIn True.intro e (fun z=>nomatch z) fin
 |bl y=>cases hp;cases rx;exact PySem.W.kia_one PySem.W.kitx_bool I.kIn True.intro e (fun z=>nomatch z) fin
 |int i=>cases hp;obtain⟨t,rfl⟩:=rx;exact PySem.W.kia_one PySem.W.kitx_int I.kIn True.intro e (fun z=>nomatch z) fin
 |str y=>cases hp;obtain⟨t,rfl⟩:=rx;exact PySem.W.kia_one PySem.W.kitx_str I.kIn True.intro e (fun z=>nomatch z) fin
 |exc y=>cases hx
 |exa y i=>cases hx
 |box p s ps=>cases hx
 |lst ps =>
  obtain⟨a,vs,rfl,hn',hr⟩:=hp
  cases rx
  obtain⟨its,_,pl,_⟩:=I.list (UA (S:=fun _=>True) hn')
  obtain⟨o,h1,h2,_⟩:=pl.isList
  exact PySem.W.kia_one PySem.W.kitx_list I.kIn ⟨o,h1,h2⟩ e (fun z=>nomatch z) fin
 |tup ps =>
  obtain⟨a,vs,rfl,hn',hr⟩:=hp
  cases rx
  obtain⟨its,_,⟨o,h1,h2,_⟩,_⟩:=I.tuple hn'.sqT
  exact PySem.W.kia_one PySem.W.kitx_tuple I.kIn ⟨o,h1,h2⟩ e (fun z=>nomatch z) fin
noncomputable def Zo4 (n:String) (x:PV):Rr PV:=if x.isX=true then .bad else .ok (.bl (ZcU (UC x) n))
theorem ZgT {n:String} (he:DE K EX Γ Γ' .A te f):DE K EX Γ Γ' .P (tCB (Zp9 K n) (Zc7 te (Zc7 (tC (.ty n)) ZjT))) (fun ρ=>(f ρ).bind (Zo4 n)):=fun B H0 H σ ρ F R Q A d=>by
 refine he B H0 H σ ρ F R _ A (d.bind.imp (fun x _ d v H1 s1 r1=>?_) fun e q=>q)
 obtain⟨F1,f1,p1,A1⟩:=r1
 unfold Zo4 at d
 cases hx:x.isX with
 |true=>rw[hx] at d;exact d.elim
 |false=>rw[hx] at d;exact⟨v,x,rfl,p1,hx,d _ H1 s1 ⟨F1,f1,rfl,rfl,A1⟩⟩
def Len (fa:List PV->Rr (List PV)) (n:Nat):Prop:=∀ρ xs,fa ρ=.ok xs->xs.length=n
theorem Zp:Len (fun _=>.ok []) 0:=fun ρ xs h=>by cases h;rfl
theorem Ze {f:List PV->Rr PV}{fa:List PV->Rr (List PV)}{n:Nat} (h:Len fa n):Len (fun ρ=>(f ρ).bind fun x=>(fa ρ).bind fun xs=>.ok (x::xs)) (n+1):=fun ρ xs e=>by
 dsimp only at e
 cases h1:f ρ with
 |ok x =>
  rw[h1] at e
  cases h2:fa ρ with
  |ok ys=>simp only[Rr.bind_ok,h2] at e;cases e;simp[h ρ ys h2]
  |exc q=>simp only[Rr.bind_ok,h2,Rr.bind_exc] at e;cases e
  |bad=>simp only[Rr.bind_ok,h2,Rr.bind_bad] at e;cases e
 |exc q=>rw[h1] at e;cases e
 |bad=>rw[h1] at e;cases e
def ZlF (K:W.Frag) (B:Addr->Prop) (H:Hp) (k:Kd) (x:PV) (v:V) (H':Hp):Prop:=match k with
 |.P=>x.flat=true/\Rep K H' (fun _=>True) x v
 |.F=>∃G,WO K H' x v G/\∀a∈G,H a=none
 |.N=>∃y a s xs G1 G2,x=.tup [y,.box (some a) s xs]/\WO K H' y v G1/\WO K H' (.box (some a) s xs) (.ref a) G2/\(∀b∈G1,b ∉ G2)/\(∀b∈G1,H b=none)/\∀b∈G2,H b=none
 |_=>Rep K H' (fun a=>B a\/H a=none) x v
noncomputable def spF (K:PySem.W.Frag) (n:Nat) (k:Kd) (W:PX->XK->Hp->Prop) (m:List PV->Rr PV):Sp:=fun vs H Q E=>∃B xs,ZS K H B xs vs/\xs.length=n /\
 Dn (m xs) (fun x=>∀v H',Z4 H H'->ZlF K B H k x v H'->Q v H') (fun e=>∀H',Z4 H H'->W e E H')
def W0:PX->XK->Hp->Prop:=fun _ _ _=>False
def X0:PX->Hp->Prop:=fun _ _=>False
section
variable {n:Nat}{W:PX->XK->Hp->Prop}{m:List PV->Rr PV}{E:XK}
theorem ZgU {t:TE} (ht:∀σ H Q,(ta σ H fun vs H1=>spF K n .P W m vs H1 Q E)->t σ H Q) (hW:∀e H',EX e H'->W e E H') (hn:Len fa n) (ha:DAA K EX Γ Γ' ta fa):DE K EX Γ Γ' .P t (fun ρ=>(fa ρ).bind m):=fun B H0 H σ ρ F R Q A d=>by
 refine ht _ _ _ (ha B H0 H σ ρ F R _ A (d.bind.imp (fun xs hx d vs H1 F1 s1 f1 p1 A1=>?_) fun e q=>q))
 exact⟨fun _=>True,xs,p1,hn ρ xs hx,d.imp (fun x _ d v H2 s2 r=>d v H2 (s1.trans s2) ⟨F1,f1,r.1,r.2,A1.grow s2⟩) fun e q H2 s2=>hW e H2 (q H2 (A1.same.trans s2))⟩
theorem Zdh {t:TE} (ht:∀σ H Q,(ta σ H fun vs H1=>spF K n .F W m vs H1 Q E)->t σ H Q) (hW:∀e H',EX e H'->W e E H') (hn:Len fa n) (ha:DAA K EX Γ Γ' ta fa):DE K EX Γ Γ' .F t (fun ρ=>(fa ρ).bind m):=fun B H0 H σ ρ F R Q A d=>by
 refine ht _ _ _ (ha B H0 H σ ρ F R _ A (d.bind.imp (fun xs hx d vs H1 F1 s1 f1 p1 A1=>?_) fun e q=>q))
 refine⟨fun _=>True,xs,p1,hn ρ xs hx,d.imp (fun x _ d v H2 s2 r=>?_) fun e q H2 s2=>hW e H2 (q H2 (A1.same.trans s2))⟩
 obtain⟨G,r1,r2⟩:=r
 exact d v H2 (s1.trans s2) ⟨F1,f1,G,r1,fun a ha=>⟨(A1.fresh (r2 a ha)).1,.inl (s1.free (r2 a ha))⟩,A1.more s2 r2 r1.alive⟩
theorem ZkL {t:TE} (ht:∀σ H Q,(ta σ H fun vs H1=>spF K n .Z W m vs H1 Q E)->t σ H Q) (hW:∀e H',EX e H'->W e E H') (hn:Len fa n) (ha:DAZ K EX Γ Γ' ta fa):DE K EX Γ Γ' .Z t (fun ρ=>(fa ρ).bind m):=fun B H0 H σ ρ F R Q A d=>by
 refine ht _ _ _ (ha B H0 H σ ρ F R _ A (d.bind.imp (fun xs hx d vs H1 F1 s1 f1 p1 A1=>?_) fun e q=>q))
 refine⟨NO B F1 R,xs,p1,hn ρ xs hx,d.imp (fun x _ d v H2 s2 r=>?_) fun e q H2 s2=>hW e H2 (q H2 (A1.same.trans s2))⟩
 refine d v H2 (s1.trans s2) ⟨F1,f1,Rep.mono (fun a us s r=>⟨r, ?_⟩) (fun a us r=>r) r,A1.grow s2⟩
 rcases s with s|s
 ·exact s
 ·obtain⟨h1,h2,h3,h4⟩:=A1.fresh s
  exact⟨h4,h1,h2⟩
end
end
noncomputable def Zdy {α β:Type} (f:α->Rr β):List α->Rr (List β)
 |[]=>.ok []
 |x::xs=>(f x).bind fun y=>(Zdy f xs).bind fun ys=>.ok (y::ys)
noncomputable def lenM (xs:List PV):Rr Unit:=if xs.length<=1000000 then .ok () else .bad
theorem Dn.lenM {xs:List PV}{ok:Unit->Prop}{ex:PX->Prop} (d:Dn (lenM xs) ok ex):xs.length<=1000000/\ok ():=by
 unfold L2.lenM at d
 by_cases h:xs.length<=1000000
 ·rw[if_pos h] at d;exact⟨h,d⟩
 ·rw[if_neg h] at d;exact d.elim
theorem Rr.assoc {α β γ:Type}{r:Rr α}{f:α->Rr β}{g:β->Rr γ}:(r.bind f).bind g=r.bind fun a=>(f a).bind g:=by cases r<;>rfl
section
variable {K:W.Frag}{B:Addr->Prop}{EX:PX->Hp->Prop}{H0 H H':Hp}{σ:St}{Γ Γ' Γ1 Γ2 Γ3:List Md}{ρ:List PV}{F F':Nat->List Addr}{R:List Addr}{k:Kd}{x:PV}{v:V}{te tb tc:TE}{ta:TA}{f fb fc fe:List PV->Rr PV}{fa:List PV->Rr (List PV)}
theorem Ag.outF (A:Ag K B H0 H σ Γ ρ F R) {i:Nat} (h:Γ.length<=i):F i=[]:=by
 have:=A.slot i
 rw[Zqi,ZqI h] at this
 exact this
theorem Ag.push (A:Ag K B H0 H σ Γ ρ F R) (h:Rep K H (NO B F R) x v):Ag K B H0 H (σ++[some v]) (Γ++[.S]) (ρ++[x]) F R:=by
 refine⟨A.same,A.own,A.young,A.youngR,A.live,A.liveR,A.disj,A.disjR,by simp[A.lenS],by simp[A.lenR],fun i=>?_⟩
 by_cases h1:i<Γ.length
 ·have:=A.slot i
  rw[Zqi,Zqi,Zqr h1,Zqr (by rw[A.lenR];exact h1),Zqr (by rw[A.lenS];exact h1),<- Zqi,<- Zqi]
  exact this
 ·by_cases h2:i=Γ.length
  ·subst h2
   rw[Zqi,Zqi,Zqv (Zqn _),Zqv (by rw[A.lenR];exact Zqn _),Zqv (by rw[A.lenS];exact Zqn _),A.lenR,A.lenS]
   simp only[Zsj,Zra,Zr2]
   exact⟨A.outF (Zqn _),v,rfl,h⟩
  ·rw[Zqi,ZqI (by simp;omega)]
   exact A.outF (by omega)
theorem Ag.pop {o:Option V} (A:Ag K B H0 H (σ++[o]) (Γ++[.S]) (ρ++[x]) F R):Ag K B H0 H σ Γ ρ F R:=by
 have l1:σ.length=Γ.length:=by have:=A.lenS;simpa using this
 have l2:ρ.length=Γ.length:=by have:=A.lenR;simpa using this
 refine⟨A.same,A.own,A.young,A.youngR,A.live,A.liveR,A.disj,A.disjR,l1,l2,fun i=>?_⟩
 have:=A.slot i
 by_cases h1:i<Γ.length
 ·rw[Zqi,Zqi,Zqr h1,Zqr (by rw[l2];exact h1),Zqr (by rw[l1];exact h1),<- Zqi,<- Zqi] at this
  exact this
 ·rw[Zqi,ZqI (by omega)]
  by_cases h2:i=Γ.length
  ·subst h2
   rw[Zqi,Zqv (Zqn _)] at this
   simp only[Zsj,Zra,Zr2] at this
   exact this.1
  ·exact A.outF (by simp;omega)
theorem JJ {wi:TI}{fi:List PV->Rr (List PV)} (hi:DIc K EX Γ Γ1 wi fi) (he:DE K EX (Γ1++[.S]) (Γ1++[.S]) .F te fe) :
  DE K EX Γ Γ1 .F (ZjU wi te) (fun ρ=>(fi ρ).bind fun xs=>(lenM xs).bind fun _=>(Zdy (fun x=>fe (ρ++[x])) xs).bind fun ys=>.ok (.lst ys)):=fun B H0 H σ ρ F R Q A d=>by
 refine hi B H0 H σ ρ F R _ A (d.bind.imp (fun xs _ d J H1 F1 s1 f1 A1 it=>?_) fun e q=>q)
 obtain⟨hlen,d⟩:=Dn.lenM d.bind
 refine⟨fun i m ys H2=>∃zs G F2,m=xs.length-i/\i<=xs.length/\ys.length=i/\Z4 H1 H2/\Zw K H2 zs ys G/\(∀a∈G,a ∉ R/\(H1 a=none\/∃j,a∈F1 j))/\(∀i,∀a∈F2 i,a∈F1 i)/\Ag K B H0 H2 σ Γ1 ρ F2 (G++R) /\
  Dn ((Zdy (fun x=>fe (ρ++[x])) (xs.drop i)).bind fun ys'=>.ok (.lst (zs++ys'))) (fun x=>∀v H',Z4 H H'->Res K B H0 H σ Γ1 ρ F R .F x v H'->Q v H') (fun e=>∀H',Z4 H0 H'->EX e H'),
  ⟨xs.length,[],[],F1,by simp,ZqA _,rfl,Z4.refl _,⟨rfl,rfl⟩,by simp,fun _ _ h=>h,A1,by simpa using d⟩, ?_⟩
 rintro i m ys H2 ⟨zs,G,F2,rfl,hi',hl,s2,tr,o2,f2,A2,dn⟩
 refine⟨U4 (by omega), ?_⟩
 have itp:=it H2 F2 s2 f2 i
 cases hx:xs[i]? with
 |none =>
  refine .inl ⟨itp.2 hx,fun p hp=>?_⟩
  have hd:xs.drop i=[]:=ZqX (ZqQ.mp hx)
  rw[hd] at dn
  have dn':∀v H',Z4 H H'->Res K B H0 H σ Γ1 ρ F R .F (.lst (zs++[])) v H'->Q v H':=dn
  rw[Zrc] at dn'
  exact dn' _ _ ((s1.trans s2).trans (Z4.new hp)) (Res.newF (s1.trans s2) (fun i a h=>f1 i a (f2 i a h)) tr (fun a ha=>⟨(o2 a ha).1,(o2 a ha).2.elim (fun z=>.inl (s1.free z)) fun⟨j,z⟩=>.inr ⟨j,f1 j a z⟩⟩) A2 hp)
 |some x =>
  have hlt:i<xs.length:=(Zql.mp hx).1
  obtain⟨go,yl⟩:=itp.1 x hx
  have hdx:xs.drop i=x::xs.drop (i+1):=by
   rw[ZqD hlt]
   rw[Zqm hlt] at hx;cases hx;rfl
  rw[hdx] at dn
  simp only[Zdy,Rr.assoc] at dn
  refine .inr ⟨go,fun ys' H'=>∃zs G F2,ys'.length=i+1/\Z4 H1 H'/\Zw K H' zs ys' G/\(∀a∈G,a ∉ R/\(H1 a=none\/∃j,a∈F1 j))/\(∀i,∀a∈F2 i,a∈F1 i)/\Ag K B H0 H' σ Γ1 ρ F2 (G++R) /\
   Dn ((Zdy (fun x=>fe (ρ++[x])) (xs.drop (i+1))).bind fun ys'=>.ok (.lst (zs++ys'))) (fun x=>∀v H',Z4 H H'->Res K B H0 H σ Γ1 ρ F R .F x v H'->Q v H') (fun e=>∀H',Z4 H0 H'->EX e H'),
   fun ys' H' ⟨zs,G,F2,a1,a2,a3,a4,a5,a6,a7⟩=>⟨xs.length-(i+1),by omega,zs,G,F2,rfl,hlt,a1,a2,a3,a4,a5,a6,a7⟩,fun v H3 y=>?_⟩
  obtain⟨s3,rx⟩:=yl v H3 y
  have A3:=(A2.grow s3).push (x:=x) (v:=v) (Rep.mono (fun a us s r=>⟨r,s.1.1,fun z=>by
   rcases Zqo.mp z with z|z
   ·rcases (o2 a z).2 with q|⟨j,q⟩
    ·exact s.2.1 q
    ·exact s.2.2 j q
   ·exact s.1.2.1 z,s.1.2.2⟩) (fun a us r=>r) rx)
  refine he B H0 H3 _ _ F2 (G++R) _ A3 (dn.bind.imp (fun z _ dn w H4 s4 r4=>?_) fun e q=>q)
  obtain⟨F4,f4,G4,t4,o4,A4⟩:=r4
  refine⟨zs++[z],G++G4,F4,by simp[hl],(s2.trans s3).trans s4,Zw.append ((tr.same s3).same s4) (Zw.one t4) (fun a ha z=>(o4 a z).1 (Zqp _ ha)),fun a ha=>?_,fun i a h=>f2 i a (f4 i a h),A4.pop.less fun a ha=>?_, ?_⟩
  ·rcases Zqo.mp ha with z|z
   ·exact o2 a z
   ·refine⟨fun q=>(o4 a z).1 (Zqj _ q), ?_⟩
    rcases (o4 a z).2 with q|⟨j,q⟩
    ·exact .inl ((s2.trans s3).free q)
    ·exact .inr ⟨j,f2 j a q⟩
  ·simp only[Zqo] at ha ⊢
   rcases ha with (z|z)|z
   ·exact .inr (.inl z)
   ·exact .inl z
   ·exact .inr (.inr z)
  ·simp only[Rr.assoc,Rr.bind_ok,Zqs,Zrs] at dn ⊢
   exact dn
end
inductive RS where
 |next (ρ:List PV)|ret (x:PV)|brk (ρ:List PV)|cont (ρ:List PV)|exc (e:PX)|bad
noncomputable def Rr.thenS {α:Type}:Rr α->(α->RS)->RS
 |.ok a,f=>f a
 |.exc e,_=>.exc e
 |.bad,_=>.bad
noncomputable def RS.seq:RS->(List PV->RS)->RS
 |.next ρ,f=>f ρ
 |r,_=>r
@[simp] theorem Rr.thenS_ok {α:Type}{a:α}{f:α->RS}:(Rr.ok a).thenS f=f a:=rfl
@[simp] theorem Rr.thenS_exc {α:Type}{e:PX}{f:α->RS}:(Rr.exc e:Rr α).thenS f=.exc e:=rfl
@[simp] theorem RS.seq_next {ρ:List PV}{f:List PV->RS}:(RS.next ρ).seq f=f ρ:=rfl
@[simp] theorem RS.seq_ret {x:PV}{f:List PV->RS}:(RS.ret x).seq f=.ret x:=rfl
@[simp] theorem RS.seq_exc {e:PX}{f:List PV->RS}:(RS.exc e).seq f=.exc e:=rfl
structure Tys where
 n:List Md
 b:List Md
 c:List Md
 r:Kd
def DnS (K:W.Frag) (B:Addr->Prop) (EX:PX->Hp->Prop) (Y:Tys) (H0 H:Hp) (F:Nat->List Addr) (D:ZhP) (r:RS):Prop:=match r with
 |.next ρ=>∀σ' H' F',Frm H F H' F'->Ag K B H0 H' σ' Y.n ρ F' []->D.nx σ' H'
 |.brk ρ=>∀σ' H' F',Frm H F H' F'->Ag K B H0 H' σ' Y.b ρ F' []->D.bk σ' H'
 |.cont ρ=>∀σ' H' F',Frm H F H' F'->Ag K B H0 H' σ' Y.c ρ F' []->D.ct σ' H'
 |.ret x=>∀v H',Z4 H0 H'->ZlF K B H0 Y.r x v H'->D.rt v H'
 |.exc e=>∀H',Z4 H0 H'->EX e H'
 |.bad=>False
def DS (K:W.Frag) (EX:PX->Hp->Prop) (Γ:List Md) (Y:Tys) (t:TS) (g:List PV->RS):Prop:=
 ∀(B:Addr->Prop) (H0 H:Hp) (σ:St) (ρ:List PV) (F:Nat->List Addr) (D:ZhP),Ag K B H0 H σ Γ ρ F []->DnS K B EX Y H0 H F D (g ρ)->t D σ H
section
variable {K:W.Frag}{B:Addr->Prop}{EX:PX->Hp->Prop}{H0 H H':Hp}{σ:St}{Γ Γ' Γ1 Γ2 Γ3:List Md}{ρ:List PV}{F F':Nat->List Addr}{R:List Addr}{k:Kd}{x:PV}{v:V}{te tb tc:TE}{ta:TA}{f fb fc fe:List PV->Rr PV}{fa:List PV->Rr (List PV)}
 {t u:TS}{g g':List PV->RS}{Y:Tys}{D:ZhP}
theorem DnS.shift {H1:Hp}{F1:Nat->List Addr}{r:RS} (fr:Frm H F H1 F1) (h:DnS K B EX Y H0 H F D r):DnS K B EX Y H0 H1 F1 D r:=by
 cases r with
 |next ρ=>exact fun σ' H' F' fr' A=>h σ' H' F' (fr.trans fr') A
 |brk ρ=>exact fun σ' H' F' fr' A=>h σ' H' F' (fr.trans fr') A
 |cont ρ=>exact fun σ' H' F' fr' A=>h σ' H' F' (fr.trans fr') A
 |ret x=>exact h
 |exc e=>exact h
 |bad=>exact h
theorem DnS.thenS {α:Type}{r:Rr α}{f:α->RS} (h:DnS K B EX Y H0 H F D (r.thenS f)):Dn r (fun a=>DnS K B EX Y H0 H F D (f a)) (fun e=>∀H',Z4 H0 H'->EX e H'):=by
 cases r with
 |ok a=>exact h
 |exc e=>exact h
 |bad=>exact h
theorem Yw:DS K EX Γ ⟨Γ,Γ1,Γ2,k⟩ Znk (fun ρ=>.next ρ):=fun B H0 H σ ρ F D A d=>d σ H F Frm.refl A
theorem Zn {Γm:List Md} (h1:DS K EX Γ ⟨Γm,Y.b,Y.c,Y.r⟩ t g) (h2:DS K EX Γm Y u g'):DS K EX Γ Y (Zp0 t u) (fun ρ=>(g ρ).seq g'):=fun B H0 H σ ρ F D A d=>by
 refine h1 B H0 H σ ρ F _ A ?_
 dsimp only at d
 cases e:g ρ with
 |next ρ1 =>
  rw[e] at d
  exact fun σ' H' F' fr A'=>h2 B H0 H' σ' ρ1 F' D A' (DnS.shift fr d)
 |brk ρ1=>rw[e] at d;exact d
 |cont ρ1=>rw[e] at d;exact d
 |ret x=>rw[e] at d;exact d
 |exc q=>rw[e] at d;exact d
 |bad=>rw[e] at d;exact d
noncomputable def mle (m m':Md):Bool:=m==m' || m'==.U || (m'==.S&&m != .U) || (m'==.O&&m==.P)
noncomputable def Zlw:List Md->List Md->Bool
 |[],[]=>true
 |m::ms,m'::ms'=>mle m m'&&Zlw ms ms'
 |_,_=>false
theorem ZgC:∀{Γ Γ':List Md},Zlw Γ Γ'=true->Γ.length=Γ'.length/\∀i,mle (Γ.getD i .U) (Γ'.getD i .U)=true
 |[],[],_=>⟨rfl,fun i=>by simp[mle]⟩
 |m::ms,m'::ms',h=>by
  simp only[Zlw,Bool.and_eq_true] at h
  obtain⟨h1,h2⟩:=ZgC h.2
  refine⟨by simp[h1],fun i=>?_⟩
  cases i with
  |zero=>simpa using h.1
  |succ i=>simpa using h2 i
 |[],_::_,h=>by cases h
 |_::_,[],h=>by cases h
theorem Ag.weak (A:Ag K B H0 H σ Γ ρ F R) (h:Zlw Γ Γ'=true):∃F',(∀i,∀a∈F' i,a∈F i)/\Ag K B H0 H σ Γ' ρ F' R:=by
 obtain⟨hl,hm⟩:=ZgC h
 let F':Nat->List Addr:=fun i=>if Γ.getD i .U=Γ'.getD i .U then F i else []
 have hF:∀i,∀a∈F' i,a∈F i:=fun i a ha=>by
  by_cases q:Γ.getD i .U=Γ'.getD i .U
  ·simp only[F',if_pos q] at ha;exact ha
  ·simp only[F',if_neg q] at ha;simp at ha
 have up:∀{a},NO B F R a->NO B F' R a:=fun {a} s=>⟨s.1,s.2.1,fun j z=>s.2.2 j (hF j a z)⟩
 refine⟨F',hF,A.same,A.own,fun i a ha=>A.young i a (hF i a ha),A.youngR,fun i a ha=>A.live i a (hF i a ha),A.liveR,fun i j hij a ha z=>A.disj i j hij a (hF i a ha) (hF j a z),fun i a ha=>A.disjR i a (hF i a ha),by rw[A.lenS,hl],by rw[A.lenR,hl],fun i=>?_⟩
 have sl:=A.slot i
 have hmi:=hm i
 by_cases q:Γ.getD i .U=Γ'.getD i .U
 ·simp only[F',if_pos q]
  rw[<- q]
  exact sl.mono (fun a vs s r=>⟨r,up s⟩) (fun a vs r=>r) fun a ha vs r=>r
 ·simp only[F',if_neg q]
  simp only[mle,Bool.or_eq_true,beq_iff_eq,Bool.and_eq_true,bne_iff_ne] at hmi
  rcases hmi with ((z|z)|z)|z
  ·exact absurd z q
  ·rw[z];exact rfl
  rotate_left
  ·rw[z.1]
   rw[z.2] at sl
   obtain⟨e,v,h1,h2,h3⟩:=sl
   exact⟨v,h1,h3.tree h2⟩
  ·rw[z.1]
   have own:∀a∈F i,NO B F' R a:=fun a ha=>⟨A.own a (A.young i a ha),A.disjR i a ha,fun j w=>by
    by_cases hj:j=i
    ·subst hj;simp only[F',if_neg q] at w;simp at w
    ·exact A.disj j i hj a (hF j a w) ha⟩
   cases hmm:Γ.getD i .U with
   |U=>exact absurd hmm z.2
   |P=>rw[hmm] at sl;obtain⟨e,v,h1,h2,h3⟩:=sl;exact⟨rfl,v,h1,h3.flatS h2⟩
   |S=>rw[hmm] at sl;obtain⟨e,v,h1,h2⟩:=sl;exact⟨rfl,v,h1,Rep.mono (fun a vs s r=>⟨r,up s⟩) (fun a vs r=>r) h2⟩
   |T =>
    rw[hmm] at sl
    obtain⟨a,vs,xs,h1,h2,h3,h4,h5⟩:=sl
    refine⟨rfl,_,h1, ?_⟩
    rw[h2]
    exact⟨a,vs,rfl,.inl ⟨.inl h3,own a (by rw[h5];simp)⟩,ZS.mono (fun a vs s r=>⟨r,up s⟩) (fun a vs r=>r) h4⟩
   |O=>rw[hmm] at sl;obtain⟨v,h1,h2⟩:=sl;exact⟨rfl,v,h1,h2.rep own⟩
theorem DS.out {Y':Tys} (h:DS K EX Γ Y t g) (hn:Zlw Y.n Y'.n=true) (hb:Zlw Y.b Y'.b=true) (hc:Zlw Y.c Y'.c=true) (hr:Y.r=Y'.r):DS K EX Γ Y' t g:=fun B H0 H σ ρ F D A d=>by
 refine h B H0 H σ ρ F D A ?_
 cases e:g ρ with
 |next ρ1=>rw[e] at d;exact fun σ' H' F' fr A'=>let ⟨F2,f2,A2⟩:=A'.weak hn;d σ' H' F2 (fr.trans (Frm.of (Z4.refl _) f2)) A2
 |brk ρ1=>rw[e] at d;exact fun σ' H' F' fr A'=>let ⟨F2,f2,A2⟩:=A'.weak hb;d σ' H' F2 (fr.trans (Frm.of (Z4.refl _) f2)) A2
 |cont ρ1=>rw[e] at d;exact fun σ' H' F' fr A'=>let ⟨F2,f2,A2⟩:=A'.weak hc;d σ' H' F2 (fr.trans (Frm.of (Z4.refl _) f2)) A2
 |ret x=>rw[e] at d;exact fun v H' s r=>d v H' s (hr▸r)
 |exc q=>rw[e] at d;exact d
 |bad=>rw[e] at d;exact d
theorem Zfo {H1:Hp}{F1:Nat->List Addr}{i:Nat}{G:List Addr} (s1:Z4 H H1) (f1:∀i,∀a∈F1 i,a∈F i) (o:∀a∈G,H a=none\/∃i,a∈F i):Frm H F H1 (U2 F1 i G):=fun a u h n=>by
 refine⟨s1 a u h,fun j z=>?_⟩
 by_cases q:j=i
 ·subst q
  rw[Zq] at z
  rcases o a z with w|⟨l,w⟩
  ·rw[h] at w;cases w
  ·exact n l w
 ·rw[Z3 q] at z;exact n j (f1 j a z)
theorem Yj {i:Nat} (he:DE K EX Γ Γ' .P te f) (hi:i<Γ'.length):DS K EX Γ ⟨Γ'.set i .P,Γ1,Γ2,k⟩ (Zld te (ZcW i)) (fun ρ=>(f ρ).thenS fun x=>.next (ρ.set i x)):=fun B H0 H σ ρ F D A d=>by
 refine he B H0 H σ ρ F [] _ A (d.thenS.imp (fun x _ d v H1 s1 r1=>?_) fun e q=>q)
 obtain⟨F1,f1,h1,h2,A1⟩:=r1
 exact d _ H1 _ (Zfo (G:=[]) s1 f1 (by simp)) (Ag.put (G:=[]) (R:=[]) A1 hi (by simp) ⟨rfl,v,rfl,h1,h2⟩)
theorem Wh {i:Nat} (he:DE K EX Γ Γ' .F te f) (hi:i<Γ'.length):DS K EX Γ ⟨Γ'.set i .O,Γ1,Γ2,k⟩ (Zld te (ZcW i)) (fun ρ=>(f ρ).thenS fun x=>.next (ρ.set i x)):=fun B H0 H σ ρ F D A d=>by
 refine he B H0 H σ ρ F [] _ A (d.thenS.imp (fun x _ d v H1 s1 r1=>?_) fun e q=>q)
 obtain⟨F1,f1,G,h1,h2,A1⟩:=r1
 exact d _ H1 _ (Zfo s1 f1 fun a ha=>(h2 a ha).2) (Ag.put (R:=[]) A1 hi (by simp) ⟨v,rfl,h1⟩)
theorem Zji {i:Nat} (he:DE K EX Γ Γ' .Z te f) (hi:i<Γ'.length):DS K EX Γ ⟨Γ'.set i .S,Γ1,Γ2,k⟩ (Zld te (ZcW i)) (fun ρ=>(f ρ).thenS fun x=>.next (ρ.set i x)):=fun B H0 H σ ρ F D A d=>by
 refine he B H0 H σ ρ F [] _ A (d.thenS.imp (fun x _ d v H1 s1 r1=>?_) fun e q=>q)
 obtain⟨F1,f1,h1,A1⟩:=r1
 refine d _ H1 _ (Zfo (G:=[]) s1 f1 (by simp)) (Ag.put (G:=[]) (R:=[]) A1 hi (by simp) ⟨rfl,v,rfl, ?_⟩)
 refine Rep.mono (fun a us s r=>⟨r,s.1,s.2.1,fun j z=>?_⟩) (fun a us r=>r) h1
 exact s.2.2 j (V1 j a z)
theorem Zdf (he:DE K EX Γ Γ' .A te f):DS K EX Γ ⟨Γ',Γ1,Γ2,k⟩ (ZlP te) (fun ρ=>(f ρ).thenS fun _=>.next ρ):=fun B H0 H σ ρ F D A d=>by
 refine he B H0 H σ ρ F [] _ A (d.thenS.imp (fun x _ d v H1 s1 r1=>?_) fun e q=>q)
 obtain⟨F1,f1,h1,A1⟩:=r1
 exact d σ H1 F1 (Frm.of s1 f1) A1
theorem Yi (he:DE K EX Γ Γ' .P te f):DS K EX Γ ⟨Γ3,Γ1,Γ2,.P⟩ (Znh te) (fun ρ=>(f ρ).thenS fun x=>.ret x):=fun B H0 H σ ρ F D A d=>by
 refine he B H0 H σ ρ F [] _ A (d.thenS.imp (fun x _ d v H1 s1 r1=>?_) fun e q=>q)
 obtain⟨F1,f1,h1,h2,A1⟩:=r1
 exact d v H1 A1.same ⟨h1,h2⟩
theorem WC (he:DE K EX Γ Γ' .F te f):DS K EX Γ ⟨Γ3,Γ1,Γ2,.F⟩ (Znh te) (fun ρ=>(f ρ).thenS fun x=>.ret x):=fun B H0 H σ ρ F D A d=>by
 refine he B H0 H σ ρ F [] _ A (d.thenS.imp (fun x _ d v H1 s1 r1=>?_) fun e q=>q)
 obtain⟨F1,f1,G,h1,h2,A1⟩:=r1
 exact d v H1 A1.same ⟨G,h1,fun a ha=>A1.youngR a (by simpa using ha)⟩
theorem Zm9 (he:DE K EX Γ Γ' .Z te f):DS K EX Γ ⟨Γ3,Γ1,Γ2,.Z⟩ (Znh te) (fun ρ=>(f ρ).thenS fun x=>.ret x):=fun B H0 H σ ρ F D A d=>by
 refine he B H0 H σ ρ F [] _ A (d.thenS.imp (fun x _ d v H1 s1 r1=>?_) fun e q=>q)
 obtain⟨F1,f1,h1,A1⟩:=r1
 exact d v H1 A1.same (Rep.mono (fun a us s r=>⟨r,.inl s.1⟩) (fun a us r=>r) h1)
theorem Vl {c:TT}{fc:List PV->Rr Bool} (hc:DT K EX Γ Γ' c fc) (h1:DS K EX Γ' Y t g) (h2:DS K EX Γ' Y u g'):DS K EX Γ Y (Zp3 c t u) (fun ρ=>(fc ρ).thenS fun b=>if b=true then g ρ else g' ρ):=fun B H0 H σ ρ F D A d=>by
 refine hc B H0 H σ ρ F [] _ A (d.thenS.imp (fun b _ d H1 F1 s1 f1 A1=>?_) fun e q=>q)
 cases b with
 |true=>exact h1 B H0 H1 σ ρ F1 D A1 (DnS.shift (Frm.of s1 f1) d)
 |false=>exact h2 B H0 H1 σ ρ F1 D A1 (DnS.shift (Frm.of s1 f1) d)
end
section
variable {K:W.Frag}{B:Addr->Prop}{EX:PX->Hp->Prop}{H0 H H':Hp}{σ:St}{Γ Γ' Γ1 Γ2 Γ3 Γl Γt:List Md}{ρ:List PV}{F F':Nat->List Addr}{R:List Addr}{k:Kd}{x:PV}{v:V}{te ti tb tc:TE}{ta:TA}{f fi fb fc fe:List PV->Rr PV}{fa:List PV->Rr (List PV)}
 {t u:TS}{g g':List PV->RS}{Y:Tys}{D:ZhP}
theorem ZjY {i:Nat}{m:Md} (h:Γ[i]?=some m):Γ.set i m=Γ:=by
 apply ZrD
 intro j
 by_cases q:i=j
 ·subst q;rw[Zq9 (Zql.mp h).1,h]
 ·rw[ZqM q]
theorem Ag.chgB {i:Nat}{m:Md}{a:Addr}{o':HO} (ho:Lvo o') {x':PV}{G G':List Addr} (A:Ag K B H0 H σ Γ ρ F (G++R)) (hm:Γ[i]?=some m) (ha:a∈F i) (hG:∀b∈G',b∈F i\/b∈G) (hGR:∀b∈G,b ∉ R)
  (hs:UF K (upd H a o') (NO B (U2 F i G') R) m x' σ[i]? G'):Ag K B H0 (upd H a o') σ Γ (ρ.set i x') (U2 F i G') R:=by
 obtain⟨us,hH⟩:=A.live i a ha
 have hi:=A.lt hm
 have liveU:∀b,(∃us:LvO,H b=some us.1)->∃us:LvO,upd H a o' b=some us.1:=fun b ⟨us,q⟩=>by
  by_cases e:b=a
  ·exact⟨⟨o',ho⟩,by rw[e,ZT]⟩
  ·exact⟨us,by rw[Z9 e];exact q⟩
 refine⟨A.same.upd (A.young i a ha),A.own,fun j b hb=>?_,fun b hb=>A.youngR b (Zqj _ hb),fun j b hb=>liveU b ?_,fun b hb=>liveU b (A.liveR b (Zqj _ hb)),fun j l hjl b hb z=>?_,fun j b hb z=>?_,A.lenS,by simp[A.lenR],fun j=>?_⟩
 ·by_cases q:j=i
  ·subst q;rw[Zq] at hb
   rcases hG b hb with z|z
   ·exact A.young j b z
   ·exact A.youngR b (Zqp _ z)
  ·rw[Z3 q] at hb;exact A.young j b hb
 ·by_cases q:j=i
  ·subst q;rw[Zq] at hb
   rcases hG b hb with z|z
   ·exact A.live j b z
   ·exact A.liveR b (Zqp _ z)
  ·rw[Z3 q] at hb;exact A.live j b hb
 ·by_cases q:j=i
  ·subst q
   rw[Zq] at hb
   rw[Z3 (Ne.symm hjl)] at z
   rcases hG b hb with w|w
   ·exact A.disj j l hjl b w z
   ·exact A.disjR l b z (Zqp _ w)
  ·rw[Z3 q] at hb
   by_cases q':l=i
   ·subst q'
    rw[Zq] at z
    rcases hG b z with w|w
    ·exact A.disj j l hjl b hb w
    ·exact A.disjR j b hb (Zqp _ w)
   ·rw[Z3 q'] at z;exact A.disj j l hjl b hb z
 ·by_cases q:j=i
  ·subst q;rw[Zq] at hb
   rcases hG b hb with w|w
   ·exact A.disjR j b w (Zqj _ z)
   ·exact hGR b w z
  ·rw[Z3 q] at hb;exact A.disjR j b hb (Zqj _ z)
 ·by_cases q:j=i
  ·subst q
   rw[Zq,Zqi,Zqi,hm,Zq9 (by rw[A.lenR];exact hi)]
   exact hs
  ·rw[Z3 q,Zqi (l:=ρ.set _ _),ZqM (Ne.symm q),<- Zqi]
   refine(A.slot j).mono (fun b us s r=>?_) (fun b us r=>Im.putL hH r) fun b hb us r=>?_
   ·have hne:b≠a:=fun z=>s.2.2 i (z▸ha)
    refine⟨?_,s.1,fun z=>s.2.1 (Zqj _ z),fun l z=>?_⟩
    ·rcases r with r|⟨o,r⟩
     ·exact .inl (by rw[Z9 hne];exact r)
     ·exact .inr ⟨o,by rw[Z9 hne];exact r⟩
    ·by_cases q':l=i
     ·subst q';rw[Zq] at z
      rcases hG b z with w|w
      ·exact s.2.2 l w
      ·exact s.2.1 (Zqp _ w)
     ·rw[Z3 q'] at z;exact s.2.2 l z
   ·have hne:b≠a:=fun z=>A.disj j i q b hb (z▸ha)
    rw[Z9 hne];exact r
theorem Ag.chg {i:Nat}{m:Md}{a:Addr}{vs':List V}{x':PV}{G G':List Addr} (A:Ag K B H0 H σ Γ ρ F (G++R)) (hm:Γ[i]?=some m) (ha:a∈F i) (hG:∀b∈G',b∈F i\/b∈G) (hGR:∀b∈G,b ∉ R)
  (hs:UF K (upd H a (.lst vs')) (NO B (U2 F i G') R) m x' σ[i]? G'):Ag K B H0 (upd H a (.lst vs')) σ Γ (ρ.set i x') (U2 F i G') R:=Ag.chgB (o':=.lst vs') trivial A hm ha hG hGR hs
theorem ZcY {H1:Hp}{F1:Nat->List Addr}{i:Nat}{a:Addr}{o:HO}{G':List Addr} (s1:Z4 H H1) (f1:∀i,∀b∈F1 i,b∈F i) (ha:a∈F1 i) (hG:∀b∈G',H b=none\/∃j,b∈F j):Frm H F (upd H1 a o) (U2 F1 i G'):=fun b u h n=>by
 have hne:b≠a:=fun z=>n i (f1 i b (z▸ha))
 refine⟨by rw[Z9 hne];exact s1 b u h,fun j z=>?_⟩
 by_cases q:j=i
 ·subst q;rw[Zq] at z
  rcases hG b z with w|⟨l,w⟩
  ·rw[h] at w;cases w
  ·exact n l w
 ·rw[Z3 q] at z;exact n j (f1 j b z)
theorem Zw.setP:∀{xs:List PV}{vs:List V}{G:List Addr}{j:Nat}{y:PV}{w:V},Zw K H xs vs G->WO K H y w []->∃G',(∀a∈G',a∈G)/\Zw K H (xs.set j y) (vs.set j w) G'
 |[],_,_,_,_,_,h,_=>⟨[],by simp,by rw[h.1];exact⟨rfl,rfl⟩⟩
 |x::xs,_,_,0,y,w,h,h'=>by
  obtain⟨v,r,G1,G2,rfl,h1,h2,h3,rfl⟩:=h
  exact⟨G2,fun a ha=>by simp[ha],w,r,[],G2,rfl,h',h2,by simp,rfl⟩
 |x::xs,_,_,j+1,y,w,h,h'=>by
  obtain⟨v,r,G1,G2,rfl,h1,h2,h3,rfl⟩:=h
  obtain⟨G',h4,h5⟩:=Zw.setP (j:=j) h2 h'
  refine⟨G1++G',fun a ha=>?_,v,r.set j w,G1,G',rfl,h1,h5,fun a ha z=>h3 a ha (h4 a z),rfl⟩
  rcases Zqo.mp ha with z|z
  ·simp[z]
  ·simp[h4 a z]
noncomputable def pSet (x i y:PV):Rr PV:=match x,i with
 |.lst xs,.int j=>match ixN xs.length j with
  |some n=>.ok (.lst (xs.set n y))
  |none=>.bad
 |_,_=>.bad
theorem Dn.pSet {x i y:PV}{ok:PV->Prop}{ex:PX->Prop} (d:Dn (pSet x i y) ok ex):∃xs j n,x=.lst xs/\i=.int j/\ixN xs.length j=some n/\ok (.lst (xs.set n y)):=by
 unfold L2.pSet at d
 split at d
 ·rename_i xs j
  cases e:ixN xs.length j with
  |none=>rw[e] at d;exact d.elim
  |some n=>rw[e] at d;exact⟨xs,j,n,rfl,rfl,e,d⟩
 ·exact d.elim
theorem Vk {i:Nat} (hm:Γ2[i]?=some .O) (he:DE K EX Γ Γ2 .P te f) (hi:DE K EX Γ2 Γ2 .A ti fi) :
  DS K EX Γ ⟨Γ2,Γ1,Γ3,k⟩ (Zld te (ZpH (Zhi i) ti ZlZ)) (fun ρ=>(f ρ).thenS fun y=>(fi ρ).thenS fun j=>(pSet (gv i ρ) j y).thenS fun z=>.next (ρ.set i z)):=fun B H0 H σ ρ F D A d=>by
 refine he B H0 H σ ρ F [] _ A (d.thenS.imp (fun y _ d w H1 s1 r1=>?_) fun e q=>q)
 obtain⟨F1,f1,y1,y2,A1⟩:=r1
 obtain⟨v,h1,h2⟩:=A1.getO hm
 refine⟨v,h1,hi B H0 H1 σ ρ F1 [] _ A1 (d.thenS.imp (fun j _ d jv H2 s2 r2=>?_) fun e q=>q)⟩
 obtain⟨F2,f2,p2,A2⟩:=r2
 obtain⟨xs,jj,n,e1,rfl,e2,d⟩:=Dn.pSet d.thenS
 obtain⟨v',h1',h2'⟩:=A2.getO hm
 rw[h1] at h1';cases h1'
 rw[show ρ.getD i .non=.lst xs from e1] at h2'
 obtain⟨a,vs,G,rfl,hH,ht,hn,hF⟩:=h2'
 cases p2
 refine⟨a,vs,jj,n,rfl,rfl,hH,by rw[ht.length];exact e2, ?_⟩
 obtain⟨G',g1,g2⟩:=Zw.setP (j:=n) ht ((y2.same s2).tree y1)
 have haF:a∈F2 i:=by rw[hF];simp
 have hsub:∀b∈a::G',b∈F2 i:=fun b hb=>by
  rw[hF]
  rcases Zqw.mp hb with rfl|hb
  ·simp
  ·simp[g1 b hb]
 refine d σ _ (U2 F2 i (a::G')) (ZcY (s1.trans s2) (fun j b hb=>f1 j b (f2 j b hb)) haF fun b hb=>.inr ⟨i,f1 i b (f2 i b (hsub b hb))⟩) (Ag.chg (G:=[]) A2 hm haF (fun b hb=>.inl (hsub b hb)) (by simp) ?_)
 exact⟨_,h1,a,_,G',rfl,ZT,g2.put hH (fun z=>hn (g1 a z)),fun z=>hn (g1 a z),rfl⟩
noncomputable def pApp (x y:PV):Rr PV:=match x with
 |.lst xs=>if xs.length<1000000 then .ok (.lst (xs++[y])) else .bad
 |_=>.bad
theorem Dn.pApp {x y:PV}{ok:PV->Prop}{ex:PX->Prop} (d:Dn (pApp x y) ok ex):∃xs,x=.lst xs/\xs.length<1000000/\ok (.lst (xs++[y])):=by
 unfold L2.pApp at d
 split at d
 ·rename_i xs
  by_cases h:xs.length<1000000
  ·rw[if_pos h] at d;exact⟨xs,rfl,h,d⟩
  ·rw[if_neg h] at d;exact d.elim
 ·exact d.elim
theorem Dn.asL {x:PV}{ok:List PV->Prop}{ex:PX->Prop} (d:Dn (asL x) ok ex):∃xs,x=.lst xs/\ok xs:=by
 cases x with
 |lst xs=>exact⟨xs,rfl,d⟩
 |_=>exact d.elim
theorem Zfw {i:Nat} (hm:Γ[i]?=some .O) (hm2:Γ2[i]?=some .O) (he:DE K EX Γ Γ2 .F te f) :
  DS K EX Γ ⟨Γ2,Γ1,Γ3,k⟩ (ZlP (tBM K "list" Zis (Zhi i) (Zc7 te ZjT))) (fun ρ=>(asL (gv i ρ)).thenS fun xs=>(f ρ).thenS fun y=>(pApp (.lst xs) y).thenS fun z=>.next (ρ.set i z)):=fun B H0 H σ ρ F D A d=>by
 obtain⟨v,h1,h2⟩:=A.getO hm
 refine⟨v,h1, ?_⟩
 obtain⟨xs,e1,d⟩:=Dn.asL d.thenS
 rw[show ρ.getD i .non=.lst xs from e1] at h2
 obtain⟨a,vs,G,rfl,hH,ht,hn,hF⟩:=h2
 refine⟨.inl ⟨rfl,_,SqL.of hH⟩,he B H0 H σ ρ F [] _ A (d.thenS.imp (fun y _ d w H2 s2 r2=>?_) fun e q=>q)⟩
 obtain⟨F2,f2,G2,y1,y2,A2⟩:=r2
 obtain⟨xs',e2,hlen,d⟩:=Dn.pApp d.thenS
 cases e2
 obtain⟨v',h1',h2'⟩:=A2.getO hm2
 rw[h1] at h1';cases h1'
 rw[show ρ.getD i .non=.lst xs from e1] at h2'
 obtain⟨a',vs',G',e,hH',ht',hn',hF'⟩:=h2'
 cases e
 refine⟨a,vs',w,rfl,rfl,hH',by rw[ht'.length];exact Zqx hlen (by decide), ?_⟩
 have haF:a∈F2 i:=by rw[hF'];simp
 have dj:∀b∈G',b ∉ G2:=fun b hb z=>A2.disjR i b (by rw[hF'];simp[hb]) (Zqp _ z)
 have na:a ∉ G2:=fun z=>A2.disjR i a haF (Zqp _ z)
 have hsub:∀b∈a::(G'++G2),b∈F2 i\/b∈G2:=fun b hb=>by
  rw[hF']
  rcases Zqw.mp hb with rfl|hb
  ·simp
  ·rcases Zqo.mp hb with z|z
   ·simp[z]
   ·exact .inr z
 have hna:a ∉ G'++G2:=fun z=>(Zqo.mp z).elim hn' na
 refine d σ _ (U2 F2 i (a::(G'++G2))) (ZcY s2 f2 haF fun b hb=>?_) (Ag.chg (G:=G2) (R:=[]) A2 hm2 haF hsub (by simp) ?_)
 ·rcases hsub b hb with z|z
  ·exact .inr ⟨i,f2 i b z⟩
  ·exact(y2 b z).2
 ·exact⟨_,h1,a,_,G'++G2,rfl,ZT,(Zw.append ht' (Zw.one y1) dj).put hH' hna,hna,rfl⟩
def DG (K:W.Frag) (EX:PX->Hp->Prop) (Γ Γ':List Md) (g:TG) (h:PV->List PV->Rr (List PV)):Prop:=
 ∀(B:Addr->Prop) (H0 H:Hp) (σ:St) (ρ:List PV) (F:Nat->List Addr) (v:V) (x:PV) (N:St->Hp->Prop),Ag K B H0 H σ Γ ρ F []->Rep K H (NO B F []) x v ->
  Dn (h x ρ) (fun ρ'=>∀σ' F',(∀i,∀a∈F' i,a∈F i)->Ag K B H0 H σ' Γ' ρ' F' []->N σ' H) (fun e=>∀H',Z4 H0 H'->EX e H')->g v σ H N
theorem ZpL {i:Nat} (hi:i<Γ.length):DG K EX Γ (Γ.set i .S) (ZcW i) (fun x ρ=>.ok (ρ.set i x)):=fun B H0 H σ ρ F v x N A r d =>
 d _ (U2 F i []) V1 (Ag.put (G:=[]) (R:=[]) A hi (by simp) ⟨rfl,v,rfl,Rep.mono (fun a us s r=>⟨r,s.1,s.2.1,fun j z=>s.2.2 j (V1 j a z)⟩) (fun a us r=>r) r⟩)
theorem Zjn {i:Nat} (hi:i<Γ.length):DG K EX Γ (Γ.set i .P) (ZcW i) (fun x ρ=>(grd x).bind fun x=>.ok (ρ.set i x)):=fun B H0 H σ ρ F v x N A r d=>by
 unfold grd at d;dsimp only at d
 by_cases h:x.flat=true
 ·rw[if_pos h] at d
  exact d _ (U2 F i []) V1 (Ag.put (G:=[]) (R:=[]) A hi (by simp) ⟨rfl,v,rfl,h,r.any⟩)
 ·rw[if_neg h] at d;exact d.elim
noncomputable def ZpE (xs ρ:List PV):Rr (List PV):=match xs with
 |[]=>.ok ρ
 |_=>.bad
noncomputable def hdR (h:PV->List PV->Rr (List PV)) (hs:List PV->List PV->Rr (List PV)) (xs:List PV) (ρ:List PV):Rr (List PV):=match xs with
 |x::r=>(h x ρ).bind fun ρ'=>hs r ρ'
 |[]=>.bad
noncomputable def asT (n:Nat) (x:PV):Rr (List PV):=match x with
 |.tup xs=>if xs.length=n then .ok xs else .bad
 |_=>.bad
theorem Dn.asT {n:Nat}{x:PV}{ok:List PV->Prop}{ex:PX->Prop} (d:Dn (asT n x) ok ex):∃xs,x=.tup xs/\xs.length=n/\ok xs:=by
 cases x with
 |tup xs =>
  unfold L2.asT at d
  by_cases h:xs.length=n
  ·simp only[if_pos h] at d;exact⟨xs,rfl,h,d⟩
  ·simp only[if_neg h] at d;exact d.elim
 |_=>exact d.elim
def DGF (K:W.Frag) (EX:PX->Hp->Prop) (Γ Γ':List Md) (g:TG) (h:PV->List PV->Rr (List PV)):Prop:=
 ∀(B:Addr->Prop) (H0 H:Hp) (σ:St) (ρ:List PV) (F:Nat->List Addr) (G R:List Addr) (v:V) (x:PV) (N:St->Hp->Prop),Ag K B H0 H σ Γ ρ F (G++R)->(∀a∈G,a ∉ R)->WO K H x v G ->
  Dn (h x ρ) (fun ρ'=>∀σ' F',(∀i,∀a∈F' i,a∈F i\/a∈G)->Ag K B H0 H σ' Γ' ρ' F' R->N σ' H) (fun e=>∀H',Z4 H0 H'->EX e H')->g v σ H N
def ZoC (K:W.Frag) (EX:PX->Hp->Prop) (Γ Γ':List Md) (g:TGs) (h:List PV->List PV->Rr (List PV)):Prop:=
 ∀(B:Addr->Prop) (H0 H:Hp) (σ:St) (ρ:List PV) (F:Nat->List Addr) (G R:List Addr) (vs:List V) (xs:List PV) (N:St->Hp->Prop),Ag K B H0 H σ Γ ρ F (G++R)->(∀a∈G,a ∉ R)->Zw K H xs vs G ->
  Dn (h xs ρ) (fun ρ'=>∀σ' F',(∀i,∀a∈F' i,a∈F i\/a∈G)->Ag K B H0 H σ' Γ' ρ' F' R->N σ' H) (fun e=>∀H',Z4 H0 H'->EX e H')->g vs σ H N
theorem Zog {i:Nat} (hi:i<Γ.length):DGF K EX Γ (Γ.set i .P) (ZcW i) (fun x ρ=>(grd x).bind fun x=>.ok (ρ.set i x)):=fun B H0 H σ ρ F G R v x N A hG r d=>by
 unfold grd at d;dsimp only at d
 by_cases h:x.flat=true
 ·rw[if_pos h] at d
  exact d _ (U2 F i []) (fun j a ha=>.inl (V1 j a ha)) (Ag.put (G:=[]) (A.less fun a ha=>Zqj _ ha) hi (by simp) ⟨rfl,v,rfl,h,r.rep fun _ _=>trivial⟩)
 ·rw[if_neg h] at d;exact d.elim
theorem ZkG:ZoC K EX Γ Γ ZpI ZpE:=fun B H0 H σ ρ F G R vs xs N A hG r d=>by
 cases xs with
 |nil=>exact⟨r.1,d σ F (fun _ _ h=>.inl h) (A.less fun a ha=>Zqj _ ha)⟩
 |cons x xs=>exact d.elim
theorem Zei {g:TG}{gs:TGs}{h:PV->List PV->Rr (List PV)}{hs:List PV->List PV->Rr (List PV)} (h1:DGF K EX Γ Γ1 g h) (h2:ZoC K EX Γ1 Γ2 gs hs):ZoC K EX Γ Γ2 (ZnU g gs) (hdR h hs):=fun B H0 H σ ρ F G R vs xs N A hG r d=>by
 cases xs with
 |nil=>exact d.elim
 |cons x xs =>
  obtain⟨v,r',G1,G2,rfl,r1,r2,dj,rfl⟩:=r
  refine⟨v,r',rfl,h1 B H0 H σ ρ F G1 (G2++R) v x _ (by rw[<- Zqs];exact A) (fun a ha z=>?_) r1 ((show Dn ((h x ρ).bind fun ρ'=>hs xs ρ') _ _ from d).bind.imp (fun ρ' _ d σ' F' f' A'=>?_) fun e q=>q)⟩
  ·rcases Zqo.mp z with z|z
   ·exact dj a ha z
   ·exact hG a (Zqp _ ha) z
  ·refine h2 B H0 H σ' ρ' F' G2 R r' xs _ A' (fun a ha=>hG a (Zqj _ ha)) r2 (d.imp (fun ρ2 _ d σ2 F2 f2 A2=>d σ2 F2 (fun j a ha=>?_) A2) fun e q=>q)
   rcases f2 j a ha with z|z
   ·rcases f' j a z with w|w
    ·exact .inl w
    ·exact .inr (Zqp _ w)
   ·exact .inr (Zqj _ z)
theorem ZmD {n:Nat}{gs:TGs}{hs:List PV->List PV->Rr (List PV)} (h2:ZoC K EX Γ Γ2 gs hs):DGF K EX Γ Γ2 (ZpG K n gs) (fun x ρ=>(asT n x).bind fun xs=>hs xs ρ):=fun B H0 H σ ρ F G R v x N A hG r d=>by
 obtain⟨xs,rfl,hl,d⟩:=Dn.asT d.bind
 obtain⟨a,vs,rfl,hn,hr⟩:=r
 exact⟨a,vs,rfl,hn.sqT,by rw[hr.length];exact hl,h2 B H0 H σ ρ F G R vs xs N A hG hr d⟩
theorem ZmB {gt:TG}{h:PV->List PV->Rr (List PV)} (he:DE K EX Γ Γ1 .F te f) (hg:DGF K EX Γ1 Γ2 gt h):DS K EX Γ ⟨Γ2,Γ3,Γ',k⟩ (Zld te gt) (fun ρ=>(f ρ).thenS fun x=>(h x ρ).thenS fun ρ'=>.next ρ'):=fun B H0 H σ ρ F D A d=>by
 refine he B H0 H σ ρ F [] _ A (d.thenS.imp (fun x _ d v H1 s1 r1=>?_) fun e q=>q)
 obtain⟨F1,f1,G,h1,h2,A1⟩:=r1
 refine hg B H0 H1 σ ρ F1 G [] v x _ A1 (by simp) h1 (d.thenS.imp (fun ρ' _ d σ' F' f' A'=>d σ' H1 F' (fun a o ho n=>⟨s1 a o ho,fun j z=>?_⟩) A') fun e q=>q)
 rcases f' j a z with w|w
 ·exact n j (f1 j a w)
 ·rcases (h2 a w).2 with q|⟨l,q⟩
  ·rw[ho] at q;cases q
  ·exact n l q
end
noncomputable def RS.turn:RS->(List PV->RS)->RS
 |.next ρ,f=>f ρ
 |.cont ρ,f=>f ρ
 |.brk ρ,_=>.next ρ
 |r,_=>r
noncomputable def ZbS (b:PV->List PV->RS):List PV->List PV->RS
 |[],ρ=>.next ρ
 |x::xs,ρ=>(b x ρ).turn (ZbS b xs)
noncomputable def VJ (c:List PV->Rr Bool) (b:List PV->RS):Nat->List PV->Option RS
 |0,_=>none
 |n+1,ρ=>match c ρ with
  |.ok true=>match b ρ with
   |.next ρ'=>VJ c b n ρ'
   |.cont ρ'=>VJ c b n ρ'
   |.brk ρ'=>some (.next ρ')
   |r=>some r
  |.ok false=>some (.next ρ)
  |.exc e=>some (.exc e)
  |.bad=>some .bad
open Classical in
noncomputable def Zay (c:List PV->Rr Bool) (b:List PV->RS) (ρ:List PV):RS:=if h:∃n r,VJ c b n ρ=some r then h.choose_spec.choose else .bad
theorem U6 {c:List PV->Rr Bool}{b:List PV->RS}:∀{n m:Nat}{ρ:List PV}{r:RS},n<=m->VJ c b n ρ=some r->VJ c b m ρ=some r
 |0,_,_,_,_,h=>by cases h
 |n+1,0,_,_,hl,_=>by omega
 |n+1,m+1,ρ,r,hl,h=>by
  unfold VJ at h ⊢
  cases hc:c ρ with
  |ok b' =>
   cases b' with
   |true =>
    rw[hc] at h
    cases hb:b ρ with
    |next ρ'=>rw[hb] at h;exact U6 (by omega) h
    |cont ρ'=>rw[hb] at h;exact U6 (by omega) h
    |brk ρ'=>rw[hb] at h;exact h
    |ret x=>rw[hb] at h;exact h
    |exc e=>rw[hb] at h;exact h
    |bad=>rw[hb] at h;exact h
   |false=>rw[hc] at h;exact h
  |exc e=>rw[hc] at h;exact h
  |bad=>rw[hc] at h;exact h
theorem ZiX {c:List PV->Rr Bool}{b:List PV->RS}{n m:Nat}{ρ:List PV}{r r':RS} (h:VJ c b n ρ=some r) (h':VJ c b m ρ=some r'):r=r':=by
 rcases Nat.le_total n m with q|q
 ·have:=U6 q h;rw[h'] at this;exact(Option.some.inj this).symm
 ·have:=U6 q h';rw[h] at this;exact Option.some.inj this
theorem Zd1 {c:List PV->Rr Bool}{b:List PV->RS}{n:Nat}{ρ:List PV}{r:RS} (h:VJ c b n ρ=some r):Zay c b ρ=r:=by
 unfold Zay
 have hx:∃n r,VJ c b n ρ=some r:=⟨n,r,h⟩
 rw[dif_pos hx]
 exact ZiX hx.choose_spec.choose_spec h
section
variable {K:W.Frag}{B:Addr->Prop}{EX:PX->Hp->Prop}{H0 H H':Hp}{σ:St}{Γ Γ' Γ1 Γ2 Γ3 Γl Γt:List Md}{ρ:List PV}{F F':Nat->List Addr}{R:List Addr}{k:Kd}{x:PV}{v:V}{te ti tb tc:TE}{ta:TA}{f fb fc fe:List PV->Rr PV}{fa:List PV->Rr (List PV)}
 {t u:TS}{g g':List PV->RS}{Y:Tys}{D:ZhP}
theorem Vm {wi:TI}{gt:TG}{fi:List PV->Rr (List PV)}{h:PV->List PV->Rr (List PV)} (hi:DI K EX Γ Γ1 wi fi) (hw:Zlw Γ1 Γl=true) (hg:DG K EX Γl Γt gt h) (hb:DS K EX Γt ⟨Γl,Γl,Γl,k⟩ t g) :
  DS K EX Γ ⟨Γl,Γ2,Γ3,k⟩ (Zp4 wi gt t) (fun ρ=>(fi ρ).thenS fun xs=>ZbS (fun x ρ=>(h x ρ).thenS g) xs ρ):=fun B H0 H σ ρ F D A d=>by
 refine hi B H0 H σ ρ F [] _ A (d.thenS.imp (fun xs _ d J H1 F1 s1 f1 A1 it=>?_) fun e q=>q)
 obtain⟨Fl,fl,Al⟩:=A1.weak hw
 have fr0:Frm H F H1 Fl:=Frm.of s1 fun j a ha=>f1 j a (fl j a ha)
 have fr1:Frm H1 F1 H1 Fl:=Frm.of (Z4.refl _) fl
 refine⟨fun i m σ' H'=>∃ρ' F',m=xs.length-i/\i<=xs.length/\Frm H1 F1 H' F'/\Ag K B H0 H' σ' Γl ρ' F' []/\DnS K B EX ⟨Γl,Γ2,Γ3,k⟩ H0 H' F' D (ZbS (fun x ρ=>(h x ρ).thenS g) (xs.drop i) ρ'),
  ⟨xs.length,ρ,Fl,by simp,ZqA _,fr1,Al,by simpa using DnS.shift fr0 d⟩, ?_⟩
 rintro i m σ' H' ⟨ρ',F',rfl,hi',fr,A',dn⟩
 have itp:=it H' F' fr i
 cases hx:xs[i]? with
 |none =>
  refine .inl ⟨itp.2 hx, ?_⟩
  have hd:xs.drop i=[]:=ZqX (ZqQ.mp hx)
  rw[hd] at dn
  exact dn σ' H' F' Frm.refl A'
 |some x =>
  have hlt:i<xs.length:=(Zql.mp hx).1
  obtain⟨go,yl⟩:=itp.1 x hx
  have hdx:xs.drop i=x::xs.drop (i+1):=by
   rw[ZqD hlt]
   rw[Zqm hlt] at hx;cases hx;rfl
  rw[hdx] at dn
  simp only[ZbS] at dn
  refine .inr ⟨go,fun σ2 H2=>∃ρ2 F2,Frm H1 F1 H2 F2/\Ag K B H0 H2 σ2 Γl ρ2 F2 []/\DnS K B EX ⟨Γl,Γ2,Γ3,k⟩ H0 H2 F2 D (ZbS (fun x ρ=>(h x ρ).thenS g) (xs.drop (i+1)) ρ2),
   fun σ2 H2 ⟨ρ2,F2,a1,a2,a3⟩=>⟨xs.length-(i+1),by omega,ρ2,F2,rfl,hlt,a1,a2,a3⟩,fun v H3 y=>?_⟩
  obtain⟨s3,rx⟩:=yl v H3 y
  have fr3:Frm H' F' H3 F':=Frm.of s3 fun _ _ h=>h
  refine hg B H0 H3 σ' ρ' F' v x _ (A'.grow s3) (Rep.mono (fun a us s r=>⟨r,s.1⟩) (fun a us r=>r) rx) ?_
  cases e:h x ρ' with
  |ok ρt =>
   rw[e] at dn
   refine fun σt Ft ft At=>hb B H0 H3 σt ρt Ft _ At ?_
   have frt:Frm H' F' H3 Ft:=Frm.of s3 ft
   simp only[Rr.thenS_ok] at dn
   cases e2:g ρt with
   |next ρ2=>rw[e2] at dn;exact fun σ2 H2 F2 fr2 A2=>⟨ρ2,F2,fr.trans (frt.trans fr2),A2,DnS.shift (frt.trans fr2) dn⟩
   |cont ρ2=>rw[e2] at dn;exact fun σ2 H2 F2 fr2 A2=>⟨ρ2,F2,fr.trans (frt.trans fr2),A2,DnS.shift (frt.trans fr2) dn⟩
   |brk ρ2=>rw[e2] at dn;exact fun σ2 H2 F2 fr2 A2=>dn σ2 H2 F2 (frt.trans fr2) A2
   |ret y=>rw[e2] at dn;exact dn
   |exc q=>rw[e2] at dn;exact dn
   |bad=>rw[e2] at dn;exact dn
  |exc q=>rw[e] at dn;exact dn
  |bad=>rw[e] at dn;exact dn
theorem ZkC {c:TT}{fc:List PV->Rr Bool} (hc:DT K EX Γ Γ c fc) (hb:DS K EX Γ ⟨Γ,Γ,Γ,k⟩ t g):DS K EX Γ ⟨Γ,Γ2,Γ3,k⟩ (ZkZ c t) (fun ρ=>Zay fc g ρ):=fun B H0 H σ ρ F D A d=>by
 dsimp only at d
 have ex:∃n,VJ fc g n ρ=some (Zay fc g ρ):=by
  by_cases hx:∃n r,VJ fc g n ρ=some r
  ·obtain⟨n,r,e⟩:=hx
   exact⟨n,by rw[Zd1 e];exact e⟩
  ·unfold Zay at d
   rw[dif_neg hx] at d
   exact d.elim
 obtain⟨n0,e0⟩:=ex
 generalize hr:Zay fc g ρ=r at e0 d
 refine⟨fun m σ' H'=>∃ρ' F',Frm H F H' F'/\Ag K B H0 H' σ' Γ ρ' F' []/\VJ fc g m ρ'=some r,⟨n0,ρ,F,Frm.refl,A,e0⟩, ?_⟩
 rintro m σ' H' ⟨ρ',F',fr,A',e⟩
 cases m with
 |zero=>cases e
 |succ m =>
  unfold VJ at e
  refine hc B H0 H' σ' ρ' F' [] _ A' ?_
  cases e1:fc ρ' with
  |ok b =>
   rw[e1] at e
   refine fun H2 F2 s2 f2 A2=>?_
   have fr2:Frm H' F' H2 F2:=Frm.of s2 f2
   cases b with
   |true =>
    refine⟨fun σ3 H3=>∃ρ3 F3,Frm H F H3 F3/\Ag K B H0 H3 σ3 Γ ρ3 F3 []/\VJ fc g m ρ3=some r,fun σ3 H3 h=>⟨m,Zsf _,h⟩, ?_⟩
    refine hb B H0 H2 σ' ρ' F2 _ A2 ?_
    cases e2:g ρ' with
    |next ρ2=>rw[e2] at e;exact fun σ3 H3 F3 fr3 A3=>⟨ρ2,F3,fr.trans (fr2.trans fr3),A3,e⟩
    |cont ρ2=>rw[e2] at e;exact fun σ3 H3 F3 fr3 A3=>⟨ρ2,F3,fr.trans (fr2.trans fr3),A3,e⟩
    |brk ρ2 =>
     rw[e2] at e
     have e':RS.next ρ2=r:=Option.some.inj e
     rw[<- e'] at d
     exact fun σ3 H3 F3 fr3 A3=>d σ3 H3 F3 (fr.trans (fr2.trans fr3)) A3
    |ret y =>
     rw[e2] at e
     have e':RS.ret y=r:=Option.some.inj e
     rw[<- e'] at d
     exact d
    |exc q =>
     rw[e2] at e
     have e':RS.exc q=r:=Option.some.inj e
     rw[<- e'] at d
     exact d
    |bad =>
     rw[e2] at e
     have e':RS.bad=r:=Option.some.inj e
     rw[<- e'] at d
     exact d
   |false =>
    have e':RS.next ρ'=r:=Option.some.inj e
    rw[<- e'] at d
    exact d σ' H2 F2 (fr.trans fr2) A2
  |exc q =>
   rw[e1] at e
   have e':RS.exc q=r:=Option.some.inj e
   rw[<- e'] at d
   exact d
  |bad =>
   rw[e1] at e
   have e':RS.bad=r:=Option.some.inj e
   rw[<- e'] at d
   exact d
theorem Zw.get:∀{xs:List PV}{vs:List V}{G:List Addr}{j:Nat}{x:PV},Zw K H xs vs G->xs[j]?=some x->∃v G',vs[j]?=some v/\WO K H x v G'/\∀a∈G',a∈G
 |[],_,_,_,_,_,e=>by simp at e
 |y::xs,_,_,0,x,h,e=>by
  obtain⟨v,r,G1,G2,rfl,h1,h2,h3,rfl⟩:=h
  simp at e;subst e
  exact⟨v,G1,rfl,h1,fun a ha=>by simp[ha]⟩
 |y::xs,_,_,j+1,x,h,e=>by
  obtain⟨v,r,G1,G2,rfl,h1,h2,h3,rfl⟩:=h
  obtain⟨w,G',e1,e2,e3⟩:=Zw.get (j:=j) h2 (by simpa using e)
  exact⟨w,G',by simpa using e1,e2,fun a ha=>by simp[e3 a ha]⟩
theorem ZjQ {xs:List PV}{vs:List V}{G:List Addr}{i:Int}{z:PV} (h:Zw K H xs vs G) (e:atI xs i=some z):∃u G',atI vs i=some u/\WO K H z u G'/\∀a∈G',a∈G:=by
 unfold atI at e ⊢
 rw[h.length]
 cases q:ixN xs.length i with
 |none=>rw[q] at e;cases e
 |some j=>rw[q] at e;exact h.get e
theorem ZkF {i:Nat}{h:Int->Int->Int} (hm:Γ2[i]?=some .O) (hmΓ:Γ[i]?=some .O) (hi:DE K EX Γ Γ2 .A ti f) (he:DE K EX Γ2 Γ2 .A te fe) :
  DS K EX Γ ⟨Γ2,Γ1,Γ3,k⟩ (Znm (Zhi i) ti te (Znt K) (ipI h) ZlZ) (fun ρ=>(f ρ).thenS fun j=>(pIx (gv i ρ) j).thenS fun z=>(asL (gv i ρ)).thenS fun _=>(fe ρ).thenS fun y=>(oI (fun _ _=>true) (fun a b=>.int (h a b)) z y).thenS fun w=>(pSet (gv i ρ) j w).thenS fun z=>.next (ρ.set i z)):=fun B H0 H σ ρ F D A d=>by
 obtain⟨v,h1,h2⟩:=A.getO hmΓ
 refine⟨v,h1,hi B H0 H σ ρ F [] _ A (d.thenS.imp (fun j _ d jv H1 s1 r1=>?_) fun e q=>q)⟩
 obtain⟨F1,f1,p1,A1⟩:=r1
 obtain⟨z,ez,d⟩:=Dn.pIx d.thenS
 obtain⟨xs,ex,d⟩:=Dn.asL d.thenS
 rw[ex] at ez
 obtain⟨v',h1',h2'⟩:=A1.getO hm
 rw[h1] at h1';cases h1'
 rw[show ρ.getD i .non=.lst xs from ex] at h2'
 obtain⟨a,vs,G,rfl,hH,ht,hn,hF⟩:=h2'
 obtain⟨j,rfl⟩:∃j',j=PV.int j':=by cases j<;>first|exact⟨_,rfl⟩|(simp only[pIx] at ez;cases ez;done)
 cases p1
 simp only[pIx] at ez
 cases e1:atI xs j with
 |none=>rw[e1] at ez;cases ez
 |some z' =>
  rw[e1] at ez;cases ez
  obtain⟨u,G2,e2,e3,e4⟩:=ZjQ ht e1
  refine⟨a,vs,j,u,rfl,rfl,SqL.of hH,e2,he B H0 H1 σ ρ F1 [] _ A1 (d.thenS.imp (fun y _ d w H2 s2 r2=>?_) fun e q=>q)⟩
  obtain⟨F2,f2,p2,A2⟩:=r2
  obtain⟨zi,yi,rfl,rfl⟩:∃zi yi,z=PV.int zi/\y=PV.int yi:=by cases z<;>cases y<;>first|exact⟨_,_,rfl,rfl⟩|(exact d.elim;done)
  obtain⟨e5,_⟩:=e3
  subst e5
  cases p2
  refine⟨zi,yi,rfl,rfl, ?_⟩
  obtain⟨xs',jj,n,ex',e6,e7,d⟩:=Dn.pSet (show DnS _ _ _ _ _ _ _ _ ((pSet (gv i ρ) (.int j) (.int (h zi yi))).thenS _) from d).thenS
  cases e6
  rw[ex] at ex';cases ex'
  obtain⟨v',h1',h2'⟩:=A2.getO hm
  rw[h1] at h1';cases h1'
  rw[show ρ.getD i .non=.lst xs from ex] at h2'
  obtain⟨a',vs',G',e,hH',ht',hn',hF'⟩:=h2'
  cases e
  refine⟨a,vs',j,n,rfl,rfl,hH',by rw[ht'.length];exact e7, ?_⟩
  obtain⟨G'',g1,g2⟩:=Zw.setP (j:=n) (y:=.int (h zi yi)) (w:=.int (h zi yi)) ht' ⟨rfl,rfl⟩
  have haF:a∈F2 i:=by rw[hF'];simp
  have hsub:∀b∈a::G'',b∈F2 i:=fun b hb=>by
   rw[hF']
   rcases Zqw.mp hb with rfl|hb
   ·simp
   ·simp[g1 b hb]
  refine d σ _ (U2 F2 i (a::G'')) (ZcY (s1.trans s2) (fun j b hb=>f1 j b (f2 j b hb)) haF fun b hb=>.inr ⟨i,f1 i b (f2 i b (hsub b hb))⟩) (Ag.chg (G:=[]) A2 hm haF (fun b hb=>.inl (hsub b hb)) (by simp) ?_)
  exact⟨_,h1,a,_,G'',rfl,ZT,g2.put hH' (fun z=>hn' (g1 a z)),fun z=>hn' (g1 a z),rfl⟩
end
noncomputable def RS.out:RS->Rr PV
 |.next _=>.ok .non
 |.ret x=>.ok x
 |.exc e=>.exc e
 |.brk _=>.bad
 |.cont _=>.bad
 |.bad=>.bad
@[simp] theorem RS.out_next {ρ:List PV}:(RS.next ρ).out=.ok .non:=rfl
@[simp] theorem RS.out_ret {x:PV}:(RS.ret x).out=.ok x:=rfl
@[simp] theorem RS.out_exc {e:PX}:(RS.exc e).out=.exc e:=rfl
def Ref (r r':Rr PV):Prop:=r=.bad\/r=r'
structure Pm where
 α:Type
 enc:α->List PV
 pre:α->Prop
 out:α->Rr PV
open Classical in
noncomputable def Pm.fn (m:Pm) (xs:List PV):Rr PV:=if h:∃a,m.enc a=xs/\m.pre a then m.out h.choose else .bad
theorem Pm.fn_eq (m:Pm) (a:m.α) (h:m.pre a) (inj:∀b,m.enc b=m.enc a->m.out b=m.out a):m.fn (m.enc a)=m.out a:=by
 unfold Pm.fn
 have hx:∃b,m.enc b=m.enc a/\m.pre b:=⟨a,rfl,h⟩
 rw[dif_pos hx]
 exact inj _ hx.choose_spec.1
theorem Pm.ref (m:Pm) {g:List PV->Rr PV} (h:∀a,m.pre a->g (m.enc a)=m.out a) (xs:List PV):Ref (m.fn xs) (g xs):=by
 unfold Pm.fn
 by_cases hx:∃a,m.enc a=xs/\m.pre a
 ·rw[dif_pos hx]
  have h2:=hx.choose_spec
  right
  have:=h _ h2.2
  rw[h2.1] at this
  exact this.symm
 ·rw[dif_neg hx];exact .inl rfl
section
variable {K:W.Frag}{B:Addr->Prop}{EX:PX->Hp->Prop}{H0 H H':Hp}
theorem Ag.init {xs:List PV}{vs:List V}{n:Nat} (h:ZS K H B xs vs):Ag K (fun a=>B a\/H a=none) H H (vs.map some++List.replicate n none) (List.replicate xs.length .S++List.replicate n .U) (xs++List.replicate n .non) (fun _=>[]) []:=by
 refine⟨Z4.refl _,fun a h=>.inr h,by simp,by simp,by simp,by simp,by simp,by simp,by simp[h.length],by simp,fun i=>?_⟩
 by_cases hi:i<xs.length
 ·have e1:(List.replicate xs.length Md.S++List.replicate n Md.U).getD i .U=.S:=by
   rw[Zqi,Zqr (by simpa using hi),ZrH hi];rfl
  have e2:(xs++List.replicate n PV.non).getD i .non=xs[i]:=by
   rw[Zqi,Zqr hi,Zqm hi];rfl
  rw[e1,e2]
  obtain⟨v,h1,h2⟩:=h.get (Zqm hi)
  refine⟨rfl,v, ?_,Rep.mono (fun a us s r=>⟨r,.inl s,by simp,by simp⟩) (fun a us r=>r) h2⟩
  rw[Zqr (by rw[Zqt,h.length];exact hi),Zq7,h1];rfl
 ·have e1:(List.replicate xs.length Md.S++List.replicate n Md.U).getD i .U=.U:=by
   rw[Zqi,Zqv (by simpa using hi)]
   by_cases q:i-(List.replicate xs.length Md.S).length<n
   ·rw[ZrH q];rfl
   ·rw[ZqI (by simpa using q)];rfl
  rw[e1]
  exact rfl
end
section
variable {P:Program}{w:World}{K:W.Frag}{mg:Str->Option Value}{base:Heap}
theorem Fun.okP {x qual:Str}{st:Stmt}{f:Addr}{fd:FuncData}{N ps:List Str}{k n l:Nat}{kd:Kd}{m:List PV->Rr PV} (F:Fun K x qual st f fd) (S:Zy N ps (Zg st)) (hn:ps.length=n) (hl:N.length-n=l)
  (hbody:∀(cdv:Value) (A:Around) (outer:List Env) (s:Shared) (H:Hp) (E:XK),ZaC k (A.deeper (envOfC qual (Zg st) s.heap.objs.size f cdv)) ->
   ∃t g Y,Y.r=kd/\PSs (Zet CX0 P w K mg base N qual (Zg st) f cdv A outer s H E).nox (Zv st) t/\DS K X0 (List.replicate n .S++List.replicate l .U) Y t g/\∀xs,Ref (m xs) (g (xs++List.replicate l .non)).out) (hkN:kd≠.N:=by nofun) :
  Jo P w K mg base CX0 (k+1) f fd ps (spF K n kd W0 m):=by
 refine F.ok S (fun vs H Q E h=>?_) (fun cdv A outer s H vs Q E hr h=>?_)
 ·obtain⟨B,xs,h1,h2,_⟩:=h
  rw[h1.length,h2,hn]
 ·obtain⟨B,xs,h1,h2,dn⟩:=h
  obtain⟨t,g,Y,hY,ht,hd,href⟩:=hbody cdv A outer s H E hr
  refine⟨t,ht, ?_⟩
  have A0:=Ag.init (n:=l) h1
  have est:Qx N vs=vs.map some++List.replicate l none:=by
   unfold Qx
   rw[h1.length,h2,hl]
  rw[est]
  rw[h2] at A0
  refine hd _ H H _ _ _ _ A0 ?_
  have hdn:Dn (g (xs++List.replicate l .non)).out (fun x=>∀v H',Z4 H H'->ZlF K B H kd x v H'->Q v H') (fun e=>∀H',Z4 H H'->W0 e E H'):=by
   rcases href xs with e|e
   ·rw[e] at dn;exact dn.elim
   ·rw[<- e];exact dn
  have retK:∀{x v H'},ZlF K (fun a=>B a\/H a=none) H kd x v H'->ZlF K B H kd x v H':=fun {x v H'} h=>by
   cases kd with
   |P=>exact h
   |F=>exact h
   |T=>exact Rep.mono (fun a us s r=>⟨r,s.elim id .inr⟩) (fun a us r=>r) h
   |Z=>exact Rep.mono (fun a us s r=>⟨r,s.elim id .inr⟩) (fun a us r=>r) h
   |A=>exact Rep.mono (fun a us s r=>⟨r,s.elim id .inr⟩) (fun a us r=>r) h
   |N=>exact h
  cases e:g (xs++List.replicate l .non) with
  |next ρ =>
   rw[e] at hdn
   refine fun σ' H' F' fr A'=>hdn .non H' A'.same ?_
   cases kd with
   |P=>exact⟨rfl,rfl⟩
   |F=>exact⟨[],⟨rfl,rfl⟩,by simp⟩
   |T=>exact rfl
   |Z=>exact rfl
   |A=>exact rfl
   |N=>exact absurd rfl hkN
  |ret x=>rw[e] at hdn;exact fun v H' s r=>hdn v H' s (retK (hY▸r))
  |exc q=>rw[e] at hdn;exact fun H' s=>hdn H' s
  |brk ρ=>rw[e] at hdn;exact hdn.elim
  |cont ρ=>rw[e] at hdn;exact hdn.elim
  |bad=>rw[e] at hdn;exact hdn.elim
end
section
variable {X:Cx}{K:W.Frag}{k n:Nat}{kd:Kd}{x:Str}{ps:List Str}{m:List PV->Rr PV}{p pos:Pos}{e:Expr}{es:List Expr}{ta:TA}{EX:PX->Hp->Prop}{Γ Γ':List Md}{fa:List PV->Rr (List PV)}
theorem ZkM (hn:Len fa n) (ha:DAA K X0 Γ Γ' ta fa):DE K X0 Γ Γ' .F (ZaW (spF K n .F W0 m) ta) (fun ρ=>(fa ρ).bind m):=Zdh (E:=E0) (W:=W0) (fun σ H Q h=>h) (fun e H' h=>h) hn ha
theorem ZeH (hn:Len fa n) (ha:DAA K X0 Γ Γ' ta fa):DE K X0 Γ Γ' .P (ZaW (spF K n .P W0 m) ta) (fun ρ=>(fa ρ).bind m):=ZgU (E:=E0) (W:=W0) (fun σ H Q h=>h) (fun e H' h=>h) hn ha
end
theorem Zhv {K:W.Frag}{H:Hp}{a:Addr}{ns:List Int}{m:List PV->Rr PV} (hm:m [.lst (ns.map PV.int)]=.ok (.bl true)) (hS:SqL K H a (ns.map V.int)):spF K 1 .P W0 m [.ref a] H (fun v _=>v=.bl true) fun _ _ _=>False:=by
 refine⟨fun _=>True,[.lst (ns.map PV.int)],ZS.one ⟨a,_,rfl,hS.elim (fun h=>.inl ⟨h,trivial⟩) .inr,ZdT ns⟩,rfl, ?_⟩
 rw[hm]
 exact fun v H' _ r=>r.2
section
variable {X:Cx}{K:W.Frag}{EX:PX->Hp->Prop}{Γ Γ' Γ1 Γ2 Γ3:List Md}{k:Kd}{te tb tc:TE}{ta:TA}{f fb fc:List PV->Rr PV}{fa:List PV->Rr (List PV)}
theorem Zor:bootBuiltins "max"=some (.builtin "max"):=by decide +kernel
theorem Zcu {i:Nat}{wi:TI} (he:DE K EX Γ Γ' .F (ZjU wi te) f) (hi:i<Γ'.length):DS K EX Γ ⟨Γ'.set i .O,Γ1,Γ2,k⟩ (Zgh i wi te) (fun ρ=>(f ρ).thenS fun x=>.next (ρ.set i x)):=Wh he hi
noncomputable def Zkr (xs:List PV):Rr PV:=match xs with
 |[.int i,.int j]=>.ok (.int (if j>i then j else i))
 |_=>.bad
theorem ZmG (ha:DAA K EX Γ Γ' ta fa):DE K EX Γ Γ' .P (tCB (fun xs H Q=>∃i j,xs=[.int i,.int j]/\Q (.int (if j>i then j else i)) H) ta) (fun ρ=>(fa ρ).bind Zkr):=by
 refine Zh7 (fun {H xs vs Q} h z e=>?_) (fun xs e h=>?_) ha
 ·unfold Zkr at e
  split at e<;>first|(cases e;done)|skip
  cases e
  obtain⟨v,w,rfl,h1,h2⟩:=ZlV h
  cases h1;cases h2
  exact⟨rfl,fun q=>⟨_,_,rfl,q _ rfl⟩⟩
 ·unfold Zkr at h;split at h<;>cases h
end
def RS.good (r:RS) (I:List PV->Prop):Prop:=match r with
 |.next ρ=>I ρ
 |.cont ρ=>I ρ
 |_=>False
theorem RS.good_ex {r:RS}{I:List PV->Prop} (h:r.good I):∃ρ',(r=.next ρ'\/r=.cont ρ')/\I ρ':=by
 cases r with
 |next ρ=>exact⟨ρ,.inl rfl,h⟩
 |cont ρ=>exact⟨ρ,.inr rfl,h⟩
 |ret x=>exact h.elim
 |brk ρ=>exact h.elim
 |exc e=>exact h.elim
 |bad=>exact h.elim
theorem ZgP {b:PV->List PV->RS}{xs:List PV}{ρ:List PV} (I:Nat->List PV->Prop) (h0:I 0 ρ) (h:∀i x ρ,xs[i]?=some x->I i ρ->(b x ρ).good (I (i+1))) :
  ∃ρ',ZbS b xs ρ=.next ρ'/\I xs.length ρ':=by
 have key:∀n i ρ,xs.length=i+n->I i ρ->∃ρ',ZbS b (xs.drop i) ρ=.next ρ'/\I xs.length ρ':=by
  intro n
  induction n with
  |zero =>
   intro i ρ hl hI
   rw[ZqX (by omega)]
   exact⟨ρ,rfl,by rw[hl];exact hI⟩
  |succ n ih =>
   intro i ρ hl hI
   have hi:i<xs.length:=by omega
   rw[ZqD hi]
   obtain⟨ρ',h1,h2⟩:=RS.good_ex (h i _ ρ (Zqm hi) hI)
   obtain⟨ρ2,h3,h4⟩:=ih (i+1) ρ' (by omega) h2
   refine⟨ρ2, ?_,h4⟩
   simp only[ZbS]
   rcases h1 with h1|h1<;>(rw[h1];exact h3)
 exact key xs.length 0 ρ (by omega) h0
theorem JH {lo:Int}{n i:Nat}{x:PV} (h:(ZeG lo n)[i]?=some x):i<n/\x=.int (lo+i):=by
 unfold ZeG at h
 rw[Zq7] at h
 by_cases hi:i<n
 ·rw[Zrp hi] at h;cases h;exact⟨hi,rfl⟩
 ·rw[ZqI (by simpa using hi)] at h;cases h
@[simp] theorem Wp {lo:Int}{n:Nat}:(ZeG lo n).length=n:=by simp[ZeG]
theorem Zfi {α β:Type}{f:α->Rr β}{g:α->β}:∀{xs:List α},(∀x∈xs,f x=.ok (g x))->Zdy f xs=.ok (xs.map g)
 |[],_=>rfl
 |x::xs,h=>by
  simp only[Zdy,h x (by simp),Rr.bind_ok,Zfi (xs:=xs) fun y hy=>h y (by simp[hy]),Zqz]
@[simp] theorem Zjb {x:PV}{ρ:List PV}:gv 0 (x::ρ)=x:=rfl
@[simp] theorem Zjc {x:PV}{ρ:List PV}{i:Nat}:gv (i+1) (x::ρ)=gv i ρ:=rfl
theorem ZaL {ns:List Int}{k:Int} (h0:0<=k) (h1:k<ns.length):pIx (.lst (ns.map PV.int)) (.int k)=.ok (.int (ns.getD k.toNat 0)):=by
 have:atI (ns.map PV.int) k=some (.int (ns.getD k.toNat 0)):=by
  unfold atI
  rw[Zqt,ZgK h0 h1]
  show (ns.map PV.int)[k.toNat]?=_
  rw[Zq7,Zqm (by omega),Zqi,Zqm (by omega)]
  rfl
 simp only[pIx,this]
theorem Zbk {ns:List Int}{k y:Int} (h0:0<=k) (h1:k<ns.length):pSet (.lst (ns.map PV.int)) (.int k) (.int y)=.ok (.lst ((ns.set k.toNat y).map PV.int)):=by
 simp only[pSet,Zqt,ZgK h0 h1,List.map_set]
theorem ZiG {ns:List Int}{y:Int} (h:ns.length<1000000):pApp (.lst (ns.map PV.int)) (.int y)=.ok (.lst ((ns++[y]).map PV.int)):=by
 simp only[pApp,Zqt,if_pos h,Zrh,Zqz,Zr5]
theorem Zbn {ns:List Int} (h:ns.length<=1000000):newF (ns.map PV.int)=.ok (.lst (ns.map PV.int)):=by
 unfold newF
 rw[PV.flats_ints,Zqt,decide_eq_true h];rfl
theorem QF (ns:List Int):PV.dats (ns.map PV.int)=ns.map PyData.int:=by
 induction ns with
 |nil=>rfl
 |cons n ns ih=>simp[PV.dats,PV.dat,ih]
theorem ZfE (ns:List Int):PyData.canLayAll0 (ns.map PyData.int)=true:=by
 induction ns with
 |nil=>rfl
 |cons n ns ih=>simp[PyData.canLayAll0,PyData.canLay0,ih]
theorem ZiJ (i:Int):okD (.int i)=true:=by simp[okD,PV.noX,PV.dat,PyData.canLay0,PyData.depth]
theorem Zg6 (ns:List Int):okD (.lst (ns.map PV.int))=true:=by
 have hd:PyData.depthAll (ns.map PyData.int)=0:=by
  induction ns with
  |nil=>rfl
  |cons n ns ih=>simp[PyData.depthAll,PyData.depth,ih]
 simp[okD,PV.noX,PV.noXs_ints,PV.dat,QF,PyData.canLay0,ZfE,PyData.depth,hd]
theorem VA:∀(ns ms:List Int),PyData.eqvAll (ns.map PyData.int) (ms.map PyData.int)=decide (ns=ms)
 |[],[]=>by simp[PyData.eqvAll]
 |[],m::ms=>by simp[PyData.eqvAll]
 |n::ns,[]=>by simp[PyData.eqvAll]
 |n::ns,m::ms=>by
  simp only[Zqz,PyData.eqvAll,PyData.eqv,VA ns ms,List.cons.injEq,Bool.decide_and]
  rw[Bool.beq_eq_decide_eq]
theorem ZcL {g:Bool->Bool} (ns ms:List Int):Zfa g (.lst (ns.map PV.int)) (.lst (ms.map PV.int))=.ok (.bl (g (decide (ns=ms)))):=by
 unfold Zfa
 rw[Zg6,Zg6]
 simp only[Bool.and_self,if_true,PV.dat,QF,PyData.eqv,VA]
theorem ZiD {g:Bool->Bool} (i j:Int):Zfa g (.int i) (.int j)=.ok (.bl (g (decide (i=j)))):=by
 unfold Zfa
 rw[ZiJ,ZiJ]
 simp only[Bool.and_self,if_true,PV.dat,PyData.eqv]
 rw[Bool.beq_eq_decide_eq]
theorem ZdL (ns:List Int):ZiB [.lst (ns.map PV.int)]=.ok (.int ns.length):=by simp[ZiB]
theorem ZdK (ns:List Int):ZoP [.lst (ns.map PV.int)]=.ok (.int ns.sum):=by simp[ZoP,Zhq]
theorem Zhn {ns:List Int} (h:ns.length<=1000000):Zho [.lst (ns.map PV.int)]=.ok (.lst (ns.map PV.int)):=by
 simp only[Zho];exact Zbn h
theorem ZmL {i j:Int} (a b:Nat) (h1:i.natAbs<=10^a) (h2:j.natAbs<=10^b) (ha:a<=4000:=by decide) (hb:b<=4000:=by decide):ZfX i j:=by
 have t:∀c:Nat,c<=4000->(10:Nat)^c<2^60000:=fun c hc=>Zrk (ZrN (by decide) hc) (by decide +kernel)
 exact⟨Zrk h1 (t a ha),Zrk h2 (t b hb)⟩
theorem Zj2 {i j:Int} (b:Nat) (h1:0<j) (h2:j.natAbs<=10^b) (hb:b<=2000:=by decide):ZfY i j:=by
 have t:∀c:Nat,c<=2000->(10:Nat)^c<2^9000:=fun c hc=>Zrk (ZrN (by decide) hc) (by decide +kernel)
 exact⟨h1,Zrk h2 (t b hb)⟩
theorem ZiF {i j:Int} (h:ZfY i j):ZoT (.int i) (.int j)=.ok (.int (i/j)):=ZdN (decide_eq_true h)
theorem Zi9 {i j:Int} (h:ZfX i j):ZoQ (.int i) (.int j)=.ok (.int (i*j)):=ZdN (decide_eq_true h)
theorem Zbl {i j:Int} (h:0<j):ZpC (.int i) (.int j)=.ok (.int (i%j)):=ZdN (decide_eq_true h)
theorem ZeY {i j:Int} (h:Zna i j):Zn1 (.int i) (.int j)=.ok (.int (i^j.toNat)):=ZdN (decide_eq_true h)
@[simp] theorem ZiH {i j:Int}:ZoU (.int i) (.int j)=.ok (.int (i+j)):=rfl
@[simp] theorem Zi6 {i j:Int}:ZpA (.int i) (.int j)=.ok (.int (i-j)):=rfl
@[simp] theorem Zll {i j:Int}:pLt (.int i) (.int j)=.ok (.bl (decide (i<j))):=rfl
@[simp] theorem Zlm {i j:Int}:pLe (.int i) (.int j)=.ok (.bl (decide (i<=j))):=rfl
@[simp] theorem Zls {i j:Int}:pGt (.int i) (.int j)=.ok (.bl (decide (j<i))):=rfl
@[simp] theorem Zlt {i j:Int}:pGe (.int i) (.int j)=.ok (.bl (decide (j<=i))):=rfl
@[simp] theorem Zjd {i:Int}:grd (.int i)=.ok (.int i):=rfl
@[simp] theorem ZlE {b:Bool}:asB (.bl b)=.ok b:=rfl
@[simp] theorem ZjH {xs:List PV}:asL (.lst xs)=.ok xs:=rfl
@[simp] theorem ZjI {i:Int}:asI (.int i)=.ok i:=rfl
@[simp] theorem Zlq {n:String}{x:Int}:Zo4 n (.int x)=.ok (.bl (ZcU (UC (.int x)) n)):=rfl
@[simp] theorem Zlp {n:String}{x:List PV}:Zo4 n (.lst x)=.ok (.bl (ZcU (UC (.lst x)) n)):=rfl
@[simp] theorem Zlo {x:PV}{xs:List PV}:pIx (.tup (x::xs)) (.int 0)=.ok x:=by simp[pIx,atI,ixN]
@[simp] theorem Zln {x y:PV}{xs:List PV}:pIx (.tup (x::y::xs)) (.int 1)=.ok y:=by
 have:atI (x::y::xs) 1=some y:=by unfold atI;rw[ZgK (by omega) (by simp only[Zq8];omega)];rfl
 simp only[pIx,this]
theorem Zg1 {j:Int} (h:-(2^62)<=j/\j<2^62):Zkn [.int j]=.ok (ZeG 0 j.toNat):=by simp only[Zkn,okR,decide_eq_true h,if_true]
theorem Zkl {i j:Int} (h:-(2^62)<=i/\i<2^62) (h':-(2^62)<=j/\j<2^62):Zkm [.int i,.int j]=.ok (ZeG i (j-i).toNat):=by simp only[Zkm,okR,decide_eq_true h,decide_eq_true h',Bool.and_self,if_true]
theorem Zfj {xs:List PV} (h:xs.length<=1000000):lenM xs=.ok ():=by simp only[lenM,if_pos h]
@[simp] theorem ZgM:ZcU (UC (.int i)) "int"=true:=rfl
@[simp] theorem ZgN:ZcU (UC (.int i)) "bool"=false:=rfl
@[simp] theorem ZgL:ZcU (UC (.lst xs)) "list"=true:=rfl
theorem V2 {I:List PV->Prop}{ρ:List PV} (h:I ρ):(RS.next ρ).good I:=h
theorem ZgO {h:PV->List PV->Rr (List PV)}{hs:List PV->List PV->Rr (List PV)}{x:PV}{xs ρ:List PV}:hdR h hs (x::xs) ρ=(h x ρ).bind fun ρ'=>hs xs ρ':=rfl
theorem ZgB {ρ:List PV}:ZpE [] ρ=.ok ρ:=rfl
theorem Jx {ns ms:List Int} (e:ns.map PV.int=ms.map PV.int):ns=ms:=by
 have:=congrArg Za2 e
 simpa using this
theorem Zcl {i j:Int} (h0:0<j) (h1:j<1000000000000):ZoT (.int i) (.int j)=.ok (.int (i/j)):=ZiF (Zj2 12 h0 (by omega))
theorem Zn7:Zn1 (.int 10) (.int 60)=.ok (.int (10^60)):=by rw[ZeY (by decide)];rfl
theorem Zlx {xs:List PV} (h:xs.length<=1000):mkT xs=.ok (.tup xs):=if_pos h
theorem Zly {xs:List PV} (h:xs.length<=1000):mkL xs=.ok (.lst xs):=if_pos h
noncomputable def KD {α:Type}:Sem α->Prop
 |.pure _=>True
 |.raise _=>True
 |.unsupported _=>True
 |.finish _=>True
 |.rule _ k=>KD (k ())
 |.at _ k=>KD (k ())
 |.load _ _ k=>∀o,KD (k o)
 |.update _ _ f k=>(∀o:Obj,(f o).dict=o.dict/\(o.isFreed=false->(f o).isFreed=false))/\KD (k ())
 |.alloc _ k=>∀a,KD (k a)
 |.loadIfAlive _ k=>∀o,KD (k o)
 |.point _ k=>KD (k ())
 |.register _ _=>True
 |.fresh k=>∀t,KD (k t)
 |.ask k=>∀x,KD (k x)
 |.choose _ _ k=>∀n,KD (k n)
 |.os _ _ k=>∀r,KD (k r)
 |.call _ _ _ _ _=>False
 |.handled _ k=>∀x,KD (k x)
 |.newGen _ k=>∀g,KD (k g)
 |.genState _ k=>∀x,KD (k x)
 |.resume _ _ _ _=>False
 |.yield _ _ _ _=>True
 |.stack k=>∀x,KD (k x)
 |.fork _ _=>True
 |.thread k=>∀x,KD (k x)
 |.await _ _ _ _ _=>True
def DK (h h':Heap):Prop:=∀b o,h.get? b=some o->∃o',h'.get? b=some o'/\o'.dict=o.dict
theorem DK.refl (h:Heap):DK h h:=fun b o e=>⟨o,e,rfl⟩
theorem DK.trans {h1 h2 h3:Heap} (a:DK h1 h2) (b:DK h2 h3):DK h1 h3:=fun x o e=>by
 obtain⟨o1,e1,d1⟩:=a x o e
 obtain⟨o2,e2,d2⟩:=b x o1 e1
 exact⟨o2,e2,d2.trans d1⟩
theorem Zpb {M:Model}{Γ:PySem.Ctx}{α:Type}{Q:α->Pos->Shared->Prop}{E:Value->Pos->Shared->Prop}{h0:Heap}:∀(t:Sem α) (p:Pos) (s:Shared),KD t->DK h0 s.heap->Sem.wp M Γ t Q E p s ->
  Sem.wp M Γ t (fun a p' s'=>Q a p' s'/\DK h0 s'.heap) (fun e p' s'=>E e p' s'/\DK h0 s'.heap) p s:=by
 intro t
 induction t with
 |pure a=>intro p s _ d h;exact⟨h,d⟩
 |raise e=>intro p s _ d h;exact⟨h,d⟩
 |unsupported w=>intro p s _ _ h;exact h
 |finish e=>intro p s _ _ h;exact h
 |rule t k ih=>intro p s k d h;exact ih () p s k d h
 |«at» q k ih=>intro p s k d h;exact ih () q s k d h
 |load a q k ih=>intro p s k d h;obtain⟨o,e,h⟩:=h;exact⟨o,e,ih o p s (k o) d h⟩
 |update a q f k ih =>
  intro p s k d h
  refine⟨h.1,ih () p _ k.2 (d.trans fun b o e=>?_) h.2⟩
  by_cases hb:a=b
  ·subst hb
   exact⟨_,Heap.get?_update_self f e ((k.1 o).2 (Heap.get?_some_iff.mp e).2),(k.1 o).1⟩
  ·exact⟨o,(Heap.get?_update_other _ f hb).trans e,rfl⟩
 |alloc o k ih=>intro p s k d h;exact ih _ p _ (k _) (d.trans fun b o' e=>⟨o',Heap.get?_push_of_some _ e,rfl⟩) h
 |loadIfAlive a k ih=>intro p s k d h;exact ih _ p s (k _) d h
 |point l k ih=>intro p s k d h;exact ih () p s k d h
 |register a k ih=>intro p s _ _ h;exact h
 |fresh k ih=>intro p s k d h;exact ih _ p _ (k _) d h
 |ask k ih=>intro p s k d h;exact ih _ p _ (k _) d h
 |choose a n k ih=>intro p s k d h;exact⟨h.1,ih _ p _ (k _) d h.2⟩
 |os q l k ih=>intro p s k d h;exact ih _ p _ (k _) d h
 |call c h g l k ih=>intro p s k d h;exact k.elim
 |handled o k ih=>intro p s k d h;exact ih _ p _ (k _) d h
 |newGen c k ih=>intro p s k d h;exact ih _ p _ (k _) d h
 |genState g k ih=>intro p s k d h;obtain⟨st,e,h⟩:=h;exact⟨st,e,ih _ p s (k _) d h⟩
 |resume g r l k ih=>intro p s k d h;exact k.elim
 |yield v g l k ih=>intro p s _ _ h;exact h
 |stack k ih=>intro p s k d h;exact ih _ p _ (k _) d h
 |fork c k ih=>intro p s _ _ h;exact h
 |thread k ih=>intro p s k d h;exact ih _ p _ (k _) d h
 |await a t d l k ih=>intro p s _ _ h;exact h
theorem Zl1 {M:Model}{A:Around}{α:Type}{t:Sem α}{Q:α->Shared->Prop}{E:Value->Shared->Prop}{s:Shared} (k:KD t) (h:wpAny M A t Q E s):wpAny M A t (fun a s'=>Q a s'/\DK s.heap s'.heap) (fun e s'=>E e s'/\DK s.heap s'.heap) s:=
 fun Γ p hΓ=>Zpb t p s k (DK.refl _) (h Γ p hΓ)
theorem ZO {α β:Type}:∀(m:Sem α) {f:α->Sem β},KD m->(∀a,KD (f a))->KD (m >>= f):=by
 intro m f
 show KD m->_->KD (m.bind f)
 induction m with
 |pure a=>intro _ h;exact h a
 |raise e=>intro _ _;trivial
 |unsupported w=>intro _ _;trivial
 |finish e=>intro _ _;trivial
 |rule t k ih=>intro k h;exact ih () k h
 |«at» q k ih=>intro k h;exact ih () k h
 |load a q k ih=>intro k h o;exact ih o (k o) h
 |update a q g k ih=>intro k h;exact⟨k.1,ih () k.2 h⟩
 |alloc o k ih=>intro k h a;exact ih a (k a) h
 |loadIfAlive a k ih=>intro k h o;exact ih o (k o) h
 |point l k ih=>intro k h;exact ih () k h
 |register a k ih=>intro _ _;trivial
 |fresh k ih=>intro k h a;exact ih a (k a) h
 |ask k ih=>intro k h a;exact ih a (k a) h
 |choose a n k ih=>intro k h a;exact ih a (k a) h
 |os q l k ih=>intro k h a;exact ih a (k a) h
 |call c h g l k ih=>intro k h;exact k.elim
 |handled o k ih=>intro k h a;exact ih a (k a) h
 |newGen c k ih=>intro k h a;exact ih a (k a) h
 |genState g k ih=>intro k h a;exact ih a (k a) h
 |resume g r l k ih=>intro k h;exact k.elim
 |yield v g l k ih=>intro _ _;trivial
 |stack k ih=>intro k h a;exact ih a (k a) h
 |fork c k ih=>intro _ _;trivial
 |thread k ih=>intro k h a;exact ih a (k a) h
 |await a t d l k ih=>intro _ _;trivial
theorem YE {α:Type}{a:α}:KD (pure a:Sem α):=trivial
theorem ZbR {α:Type}{w:String}:KD (unsupported w:Sem α):=trivial
theorem Zfk {a:Addr}:KD (load a):=fun _=>trivial
theorem ZnK (g:Array Value->Array Value) (o:Obj):(Obj.mapFields g o).dict=o.dict/\(o.isFreed=false->(Obj.mapFields g o).isFreed=false):=by
 obtain⟨c,d,dt,sl⟩:=o
 cases dt<;>exact⟨rfl,fun h=>h⟩
theorem Zfm (v:Value):KD (fieldsOf v):=by
 unfold fieldsOf
 cases v<;>try exact ZbR
 refine ZO _ Zfk fun o=>?_
 cases o.data<;>first|exact YE|exact ZbR
theorem ZaN (v:Value) (i:Nat):KD (field v i):=by
 unfold field
 refine ZO _ (Zfm v) fun vs=>?_
 cases vs[i]?<;>first|exact YE|exact ZbR
theorem UR (v:Value) (i:Nat) (x:Value):KD (setField v i x):=by
 unfold setField
 cases v<;>try exact ZbR
 unfold updateField
 refine ZO _ Zfk fun o=>?_
 cases o.data<;>try exact ZbR
 dsimp only
 split
 ·exact⟨fun o=>ZnK _ o,trivial⟩
 ·exact ZbR
theorem ZdQ (e:Value) (f:Option Addr):KD (setFlight e f):=by
 unfold setFlight
 refine ZO _ (ZaN e 1) fun tb=>?_
 split
 ·exact UR _ _ _
 ·exact YE
theorem ZdR (ty:String) (vs:List Value):KD (newFields ty vs):=by
 unfold newFields newObj newObjAsIs
 dsimp only
 have al:∀(o:Obj),KD (alloc o):=fun _ _=>trivial
 split
 ·exact ZO _ ZbR fun _=>ZO _ (al _) fun _=>YE
 ·exact ZO _ (al _) fun _=>YE
theorem ZiU (env:Env) (outer:List Env):KD (behindIsImport env outer):=by
 unfold behindIsImport
 split
 ·exact YE
 ·split
  ·exact YE
  ·exact ZO _ (ZaN _ _) fun _=>YE
theorem Zfl (env:Env) (i:Bool) (outer:List Env):KD (keptBack env i outer):=by
 cases outer with
 |nil =>
  have u:KD underTheClaimsCaller:=by
   unfold underTheClaimsCaller
   exact ZO _ (show KD stack from fun _=>trivial) fun _=>YE
  rw[keptBack]
  split
  ·exact YE
  ·exact ZO _ u fun _=>YE
 |cons c r=>unfold keptBack;exact YE
theorem Zk2 {o:Obj}{sl:Array (Option Value)}:({ o with slots:=sl }:Obj).dict=o.dict/\(o.isFreed=false->({ o with slots:=sl }:Obj).isFreed=false):=by
 obtain⟨c,d,dt,s⟩:=o
 cases dt<;>exact⟨rfl,fun h=>h⟩
theorem ZgJ:∀(l:List Env),KD (readyFrames l)
 |[]=>trivial
 |env::outer=>by
  unfold readyFrames
  cases env.frame with
  |none=>exact ZbR
  |some f =>
   dsimp only
   refine ZO _ Zfk fun o=>?_
   split
   ·exact YE
   ·refine ZO _ (ZiU _ _) fun _=>ZO _ (Zfl _ _ _) fun _=>ZO _ ⟨fun o=>Zk2,trivial⟩ fun _=>ZgJ outer
theorem Zhy (env:Env):KD (PySem.frameOf env):=by
 unfold PySem.frameOf
 refine ZO _ ?_ fun l=>ZO _ ?_ fun r=>?_
 ·unfold frameEnvs
  exact ZO _ (fun _=>trivial) fun _=>YE
 ·cases (List.dropWhile (fun x=>x.frame != env.frame) l) with
  |nil=>exact YE
  |cons a r=>exact ZO _ (ZgJ _) fun _=>YE
 ·cases r<;>first|exact YE|exact ZbR
theorem Zk3 (f:Addr) (b:Bool):KD (entryPlaceOf f b):=by
 unfold entryPlaceOf
 refine ZO _ (show KD stack from fun _=>trivial) fun acts=>?_
 split<;>exact YE
theorem Zmw (e:Value) (env:Env):KD (noteFrame e env):=by
 unfold noteFrame
 cases env.frame with
 |none=>exact ZbR
 |some f =>
  dsimp only
  refine ZO _ (ZaN _ _) fun head=>?_
  have tail:∀(hd:Bool),KD (do setField e 1 (<- EntryCells.newEntry head (<- PySem.frameOf env) .none (rawInt f) .none (<- entryPlaceOf f hd))):=fun hd =>
   ZO _ (Zhy env) fun _=>ZO _ (Zk3 _ _) fun _=>ZO _ (ZdR _ _) fun _=>UR _ _ _
  split
  ·refine ZO _ (ZaN _ _) fun x=>?_
   split
   ·exact YE
   ·exact ZO _ (UR _ _ _) fun _=>tail _
  ·exact tail _
theorem Zcm (env:Env) (e:Value):KD (leaving env e):=ZO _ (Zmw e env) fun _=>ZdQ e none
theorem Jn.there {P:Program}{w:World}{H:Hp}{h:Heap}{a:Addr}{o:HO} (x:Jn P w H h a o):∃u,h.get? a=some u:=by
 cases o with
 |lst xs=>obtain⟨_,_,_,_,e⟩:=x;exact⟨_,e⟩
 |tup xs=>obtain⟨_,_,_,_,e,_⟩:=x;exact⟨_,e⟩
 |dK kvs=>obtain⟨_,_,_,_,o,_,_,e,_⟩:=x;exact⟨_,e⟩
 |dT kvs=>obtain⟨_,_,_,_,o,_,_,e,_⟩:=x;exact⟨_,e⟩
 |set S n=>obtain⟨o,_,_,_,e,_⟩:=x;exact⟨_,e⟩
 |ins C dx fs=>obtain⟨_,_,_,e,_⟩:=x;exact⟨_,e⟩
 |own y=>obtain⟨_,e⟩:=x;exact⟨_,e⟩
 |xd fs=>obtain⟨_,⟨_,_,_,e,_⟩,_⟩:=x;exact⟨_,e⟩
 |rng lo hi=>obtain⟨_,_,_,e⟩:=x;exact⟨_,e⟩
 |frz ob u=>exact⟨_,x.1⟩
 |tbl ps=>exact⟨_,x⟩
 |met f y=>exact⟨_,x⟩
 |ext φ=>exact x.2.1
def ZoA (H:Hp) (ea k:Addr) (o:Obj):Prop:=(o.dict=none/\k=ea)\/(o.dict=some k/\∃fs,H k=some (.xd fs))
structure Fly (P:Program) (w:World) (outer:List Env) (H:Hp) (s:Shared) (ea k:Addr) (cls:Value) (H':Hp) (s':Shared):Prop where
 os:s'.os=s.os
 bare:AllBare s'.gens
 un:Un (frs outer) [] H H' s.heap s'.heap
 hok:HOk P w H' s'.heap
 new:H' ea=none
 dict:∃o,s'.heap.get? ea=some o/\ZoA H' ea k o
 fly:∃(Bh:Heap) (t:Addr),Heap.FlyingW Bh outer ea cls (.ref t) s'.heap/\(∀b u,H' b=some u->∀o,s'.heap.get? b=some o->Bh.get? b=some o)/\∀b o,s.heap.get? b=some o->b ∉ frs outer->∃o',Bh.get? b=some o'
noncomputable def CX1 (P:Program) (w:World):CXT:=fun outer H s E e s'=>∃ea k cls H',e=.ref ea/\Fly P w outer H s ea k cls H' s'/\E cls (some k) H'
section
variable {P:Program}{w:World}{K:W.Frag}{mg:Str->Option Value}{base:Heap}{N:List Str}{qual:Str}{scope:Scope}{f:Addr}{cd:Value}{A:Around}{outer:List Env}{s:Shared}{H:Hp}{E:XK}
 {pins:List (Addr×Obj)}{σ:St}{H1 H':Hp}{s1 s':Shared}{g h'' Bh:Heap}{ea k t:Addr}{cls:Value}
theorem Zjh (I:Inv (Zet (CX1 P w) P w K mg base N qual scope f cd A outer s H E) pins σ H1 s1) (os:s'.os=s1.os) (bare:AllBare s'.gens) (un:Un (s.heap.objs.size::frs outer) [] H1 H' s1.heap g) (hok:HOk P w H' g) (up:g.UpToSlots h'')
  (fl:Heap.FlyingW Bh outer ea cls (.ref t) h'') (st:Bh.StaysIn g) (c1:∀b u,H' b=some u->∀o,g.get? b=some o->Bh.get? b=some o) (c2:∀b o,s.heap.get? b=some o->b ∉ s.heap.objs.size::frs outer->∃o',Bh.get? b=some o')
  (new:H' ea=none) (dn:∃o,g.get? ea=some o/\ZoA H' ea k o) (dk:DK g h''):Fly P w outer H s ea k cls H' { s' with heap:=h'' }:=by
 have neL:∀b o,s.heap.get? b=some o->b≠s.heap.objs.size:=fun b o e=>Zq2 (Heap.lt_size e)
 have nin:∀b o,s.heap.get? b=some o->b ∉ frs outer->b ∉ s.heap.objs.size::frs outer:=fun b o e n z=>(Zqw.mp z).elim (neL b o e) n
 have b0:Un (frs outer) [] H H1 s.heap s1.heap:=I.base
 have fr0:∀b∈frs outer,H b=none:=I.ok.frf
 have slot:∀b o,s.heap.get? b=some o->H b=none->b∈frs outer->∃sl,h''.get? b=some { o with slots:=sl }:=fun b o q n hb=>by
  obtain⟨s2,e1⟩:=b0.slot b o q n hb (by simp)
  obtain⟨s3,e2⟩:=un.slot b _ e1 (b0.free b o q n (by simp)) (ZqB _ hb) (by simp)
  obtain⟨_,o',ho',hnf⟩:=Heap.FunFrames.mem (show s.heap.FunFrames base outer from I.ok.funs) hb
  rw[q] at ho';cases ho'
  obtain⟨s4,e3⟩:=up b _ e2 hnf
  exact⟨s4,e3⟩
 have keepB:∀b o,s.heap.get? b=some o->H b=none->b ∉ frs outer->Bh.get? b=some o:=fun b o q n hb=>by
  have e1:=b0.keep b o q n hb (by simp)
  have e2:=un.keep b o e1 (b0.free b o q n (by simp)) (nin b o q hb) (by simp)
  obtain⟨o',e3⟩:=c2 b o q (nin b o q hb)
  have e4:=st b o' e3
  rw[e2] at e4;cases e4
  exact e3
 have thereB:∀b o,s.heap.get? b=some o->b ∉ frs outer->∃o',Bh.get? b=some o':=fun b o q hb=>by
  exact c2 b o q (nin b o q hb)
 refine⟨os.trans I.os,bare,⟨fun b o q n hb _=>fl.1 b o (keepB b o q n hb),fun b o q n hb _=>slot b o q n hb,fun b o q n _=>?_,fun b o q _=>?_,fun b xs q=>un.tups b xs (b0.tups b xs q),fun b o xs q=>un.frzs b o xs (b0.frzs b o xs q),fun b ps q=>?_⟩,fun b u e=>?_,new,(let ⟨o,e,d⟩:=dn;let ⟨o',e',d'⟩:=dk ea o e;⟨o',e',by unfold ZoA at d ⊢;rw[d'];exact d⟩),Bh,t,fl,fun b u e o q=>?_,thereB⟩
 ·obtain⟨o1,e1⟩:=b0.there b o q (by simp)
  exact un.free b o1 e1 (b0.free b o q n (by simp)) (by simp)
 ·by_cases hb:b∈frs outer
  ·obtain⟨sl,e⟩:=slot b o q (fr0 b hb) hb
   exact⟨_,e⟩
  ·obtain⟨o',e⟩:=thereB b o q hb
   exact⟨o',fl.1 b o' e⟩
 ·obtain⟨m1,e1⟩:=b0.tbls b ps q
  obtain⟨m2,e2⟩:=un.tbls b _ e1
  exact⟨m1++m2,by rw[e2,Array.append_assoc]⟩
 ·refine(hok b u e).stay (fun c v hc q=>?_) (fun _ q=>q) fun _ _ q=>q
  rcases hc with rfl|hc
  ·exact fl.1 c v (c1 c u e v q)
  ·exact fl.1 c v (c1 c _ hc v q)
 ·obtain⟨o1,e1⟩:=(hok b u e).there
  have e2:=c1 b u e o1 e1
  have e3:=fl.1 b o1 e2
  rw[e3] at q;cases q
  exact e2
def ZmS (X:Cx) (E:St->XK):Prop:=∀(pins:List (Addr×Obj)) (σ:St) (H:Hp) (s:Shared) (e:Value) (s':Shared),Inv X pins σ H s->CX1 X.prog X.w X.stack H s (E σ) e s'->X.xe e s'
def Zow (X:Cx) (E:St->XK):Prop:=∀(pins:List (Addr×Obj)) (σ:St) (H:Hp) (s:Shared) (h':Heap) (ea:Addr) (cls:Value) (args:List Value),Inv X pins σ H s->Heap.MadeExcOf s.heap h' ea cls args->E σ cls (some ea) H->X.xe (.ref ea) { s with heap:=h' }
theorem Zbi:ZmS (Zet (CX1 P w) P w K mg base N qual scope f cd A outer s H E) (fun _=>E):=fun pins σ H1 s1 e s' I hq=>by
 obtain⟨ea,k,cls,H',rfl,F,hE⟩:=hq
 obtain⟨Bh,t,fl,c1,c2⟩:=F.fly
 refine wpAny_mono (Zl1 (Zcm _ _) (wpAny_leaves_onW (Q:=fun _ s''=>∃h'',s''={ s' with heap:=h'' }/\Heap.FlyingW Bh outer ea cls (.ref t) h''/\s'.heap.UpToSlots h'') I.ok.frames rfl fl fun h'' fl'' up=>⟨h'',rfl,fl'',up⟩)) (fun _ s'' q=>?_) fun _ _ q=>q.1
 obtain⟨⟨h'',rfl,fl'',up⟩,dk⟩:=q
 exact⟨ea,k,cls,H',rfl,Zjh I F.os F.bare F.un F.hok up fl'' fl.1 c1 (fun b o e n=>let ⟨o1,e1⟩:=(show Un (frs outer) [] H H1 s.heap s1.heap from I.base).there b o e (by simp);c2 b o1 e1 n) F.new F.dict dk,hE⟩
theorem Zbq:Zow (Zet (CX1 P w) P w K mg base N qual scope f cd A outer s H E) (fun _=>E):=fun pins σ H1 s1 h' ea cls args I hx hE=>by
 have hin:∀env∈(Zet (CX1 P w) P w K mg base N qual scope f cd A outer s H E).stack,∀b,env.frame=some b->b∈frs (Zet (CX1 P w) P w K mg base N qual scope f cd A outer s H E).stack:=fun env he b hb=>ZrY.mpr ⟨env,he,hb⟩
 have trk:∀b u,H1 b=some u->b ∉ frs (Zet (CX1 P w) P w K mg base N qual scope f cd A outer s H E).stack:=fun b u e z=>by rw[I.stkFree b z] at e;cases e
 have new:H1 ea=none:=by
  cases q:H1 ea with
  |none=>rfl
  |some u=>obtain⟨o,e⟩:=(I.hok ea u q).there;rw[hx.new] at e;cases e
 refine wpAny_mono (Zl1 (Zcm _ _) (wpAny_leaves_madeW (Q:=fun _ s''=>∃h'' t,s''={ s1 with heap:=h'' }/\Heap.FlyingW (PySem.W.hideAll s1.heap (frs (Zet (CX1 P w) P w K mg base N qual scope f cd A outer s H E).stack)) outer ea cls (.ref t) h''/\h'.UpToSlots h'')
  (base:=PySem.W.hideAll s1.heap (frs (Zet (CX1 P w) P w K mg base N qual scope f cd A outer s H E).stack)) (h:=s1.heap) I.ok.frames rfl (fun b o q=>PySem.W.of_hideAll _ q) (PySem.W.funFrames_hide I.stack hin) hx fun h'' t fl _ _ up=>⟨h'',t,rfl,fl,up⟩)) (fun _ s'' q=>?_) fun _ _ q=>q.1
 obtain⟨⟨h'',t,rfl,fl,up⟩,dk⟩:=q
 have dn:∃o,h'.get? ea=some o/\ZoA H1 ea ea o:=by obtain⟨t,e,_⟩:=hx.there;exact⟨_,e,.inl ⟨rfl,rfl⟩⟩
 refine⟨ea,ea,cls,H1,rfl,Zjh (g:=h') (t:=t) (s':={ s1 with heap:=h' }) I rfl I.bare (Un.kept hx.keeps) (I.hok.kept hx.keeps) up fl (fun b o q=>hx.keeps b o (PySem.W.of_hideAll _ q)) (fun b u e o q=>?_) (fun b o q n=>let ⟨o1,e1⟩:=(show Un (frs outer) [] H H1 s.heap s1.heap from I.base).there b o q (by simp);⟨o1,PySem.W.hideAll_get _ e1 n⟩) new dn dk,hE⟩
 obtain⟨o1,e1⟩:=(I.hok b u e).there
 have e2:=hx.keeps b o1 e1
 rw[q] at e2;cases e2
 exact PySem.W.hideAll_get _ e1 (trk b u e)
end
noncomputable def Zpm:List Value:=[.type "ValueError",.type "Exception",.type "BaseException",.type "object"]
noncomputable def Zla (C:Addr) (E:St->XK) (ta:TA):TS:=fun D σ H=>ta σ H fun vs H1=>vs.length<=1000/\∀ea,H1 ea=none->E σ (.ref C) (some ea) H1
theorem Zm7 {K:W.Frag}{h₀:Heap}{C:Addr}{bmB:List Value}{newId:String} (X:K.In h₀) (q:PySem.W.excIn K C bmB newId=true) :
  ∃tl N nm qn bs hdct sn sub ab col dd k0 k1 k2 k3 k5 mN,h₀.get? C=some (excClassObj nm qn C N bs tl hdct sn sub ab col dd k0 k1 k2 k3 k5 newId)/\h₀.Ns N mN/\mN "__init__"=none/\OwnTail h₀ bmB tl:=by
 unfold PySem.W.excIn at q
 split at q
 ·rename_i dd cd sl ho
  split at q
  ·rename_i C' bm k0 k1 k2 k3 n k5 hm hs
   simp only[Bool.and_eq_true,beq_iff_eq,Bool.not_eq_true'] at q
   obtain⟨⟨⟨⟨⟨rfl,rfl⟩,hdel⟩,ht⟩,hok⟩,hni⟩:=q
   obtain⟨nm,bs,mro,ns,qn,hd,sn,sub,ab,col,del⟩:=cd
   dsimp only at hm hdel hok hni
   subst hm hdel
   have hsl:sl=#[k0,k1,k2,k3,some (.builtin n),k5]:=by
    obtain⟨l⟩:=sl
    simp only at hs
    rw[hs]
   subst hsl
   exact⟨bm,ns,nm,qn,bs,hd,sn,sub,ab,col,dd,k0,k1,k2,k3,k5,_,X _ _ ho,.of_isNs (PySem.W.isNs_of_in X hok),PySem.W.nsMap_none_of_in X hok hni,PySem.W.tail_of_in X ht⟩
  ·cases q
 ·cases q
section
variable {X:Cx}{E:St->XK}{x:Str}{C:Addr}{np cpos pos:Pos}{e:Expr}{es:List Expr}{ta:TA}
theorem Q1 (hM:Zow X E) (hq:PySem.W.excIn X.K C Zpm "ValueError.__new__"=true) (hg:Gl X x) (hm:X.mg x=some (.ref C)) (hc:X.calm=true) (ha:PA X (e::es) ta) (hdb:(x==("__debug__":Str))=false:=by decide)
  (he:starEach (e::es) X.env=(false,eval e X.env)::starEach es X.env:=by rfl) (hpl:(backTo cpos (starEach es X.env)).any (·.1)=false:=by rfl) :
  PS X (.Raise (some (.Call (.Name x np) (e::es) [] cpos)) none pos) (Zla C E ta):=by
 intro pins s σ H D I h
 obtain⟨tl,N,nm,q,bs,hdct,sn,sub,ab,col,dd,k0,k1,k2,k3,k5,mN,hC,hN,hni,T⟩:=Zm7 I.ok.mod.kin hq
 refine wpAny_Raise_call_subT (C:=C) (nm:=nm) (q:=q) (N:=N) (bs:=bs) (bm:=tl) (hdct:=hdct) (sn:=sn) (sub:=sub) (ab:=ab) (col:=col) (dd:=dd) (k0:=k0) (k1:=k1) (k2:=k2) (k3:=k3) (k5:=k5)
  PySem.F.excBase_ValueError (mN:=mN) (T.hasType PySem.F.excBase_ValueError.hasBase) (I.ok.hd hc) (by rw[he];show (false || (backTo cpos (starEach es X.env)).any (·.1))=false;rw[hpl];rfl) hni (Zbt I hg hm ⟨rfl, ?_⟩ hdb)
 have h2:=ha cpos pins s σ H _ I h
 rw[he] at h2 ⊢
 refine Calls.evalArgs_plain (wpAny_mono h2 (fun us s₂ z=>?_) fun _ _ y=>y)
 obtain⟨vs,H1,I1,r,hl,hE⟩:=z
 have hnew:∀{h':Heap}{ea:Addr}{args:List Value},Heap.MadeExcOf s₂.heap h' ea (.ref C) args->H1 ea=none:=fun {h' ea args} hx=>by
  cases q:H1 ea with
  |none=>rfl
  |some u=>obtain⟨o,e⟩:=(I1.hok ea u q).there;rw[hx.new] at e;cases e
 exact⟨rfl,Zq3 (by rw[<- r.length];exact hl) (by decide),I1.bk _ _ hC,hN.keeps I1.bk,T.keeps I1.bk,fun h' ea hx=>hM pins σ H1 s₂ h' ea _ _ I1 hx (hE ea (hnew hx))⟩
end
section
variable {X:Cx}{pins:List (Addr×Obj)}{σ:St}{H:Hp}{s:Shared}
end
section
variable {X:Cx}{pins:List (Addr×Obj)}{σ:St}{H:Hp}{s:Shared}
end
section
variable {X:Cx}{C:Addr}{i:Nat}{tb:(St->XK)->TS}{th:TS}{c n:Str}{np hpos pos:Pos}{body suite:List Stmt}{b₀:Stmt}
end
end L2
namespace PySem.W
open PySem PySem.Spec PySem.Calls PyProof.Rows
section
variable {prog:Program}{w:World}{A:Around}{E:Value->Shared->Prop}{s:Shared}{K:Frag}{x D:Addr}{ox:Obj}{od:Option Obj}
noncomputable def exOk (K:Frag) (D:Addr):Bool:=(findIn K (.ref D) "__getattribute__" == some (some (.builtin "BaseException.__getattribute__")))&&(findIn K (.ref D) "__getattr__" == some none)&&(mroIn K D (.type "BaseException")==some true)&&(mroIn K D (.type "object")==some true) &&
 (findIn K (.ref D) "__class__" == some (some (.builtin "object.__class__")))&&(specialIn K (.builtin "object.__class__") "__get__" == some (some (.builtin "getset_descriptor.__get__")))&&(takesIn K (.builtin "object.__class__")==some true)&&(clsIn K D).isSome
end
end PySem.W
namespace L2
open PySem PySem.Spec PyProof.Rows
def OkX (P:Program) (w:World) (K:W.Frag) (mg:Str->Option Value) (base:Heap) (k:Nat) (x:Str) (ps:List Str) (sp:Sp):Prop:=
 ∃f fd,Jo P w K mg base (CX1 P w) k f fd ps sp/\mg x=some (.ref f)/\PySem.W.keepIn K (.ref f)=true/\ZeF K fd ps []
theorem Zfc {P:Program}{w:World}{K:W.Frag}{mg:Str->Option Value}{base:Heap}{k:Nat}{x:Str}{st:Stmt}{ps:List Str}{sp:Sp} (d:Dfn K mg x st) (b:Zr x st ps)
  (h:∀{f fd},Fun K x x st f fd->Jo P w K mg base (CX1 P w) k f fd ps sp):OkX P w K mg base k x ps sp:=by
 obtain⟨f,fd,F,hm⟩:=d
 exact⟨f,fd,h F,hm,F.kp,F.binds b⟩
section
variable {X:Cx}{k:Nat}{x:Str}{ps:List Str}{sp:Sp}{p pos:Pos}{e:Expr}{es:List Expr}{t:TA}{E:St->XK}
noncomputable def Zcc (sp:Sp) (E:St->XK) (t:TA):TE:=fun σ H Q=>t σ H fun vs H1=>sp vs H1 Q (E σ)
theorem WP (G:OkX X.prog X.w X.K X.mg X.base k x ps sp) (hr:ZaC k X.A) (hg:Gl X x) (hx:ZmS X E) (ha:PA X (e::es) t) (hdb:(x==("__debug__":Str))=false:=by decide)
  (he:starEach (e::es) X.env=(false,eval e X.env)::starEach es X.env:=by rfl) (hpl:(backTo pos (starEach es X.env)).any (·.1)=false:=by rfl):PE X (.Call (.Name x p) (e::es) [] pos) (Zcc sp E t):=by
 obtain⟨f,fd,F,hm,hk,hb⟩:=G
 intro pins s σ H Q I h
 refine wpAny_Call_Name_kw (Zbt I hg hm ?_ hdb)
 refine PySem.W.callWith_K (h₀:=X.base) I.ok.mod.kin hk (thn (ha pos pins s σ H _ I h) fun us s1 ⟨vs,H1,I1,r,q⟩=>⟨I1.kIn, ?_⟩) he hpl
 have hl:(us++[]).length=ps.length:=by rw[Zrc,<- r.length];exact F.len _ _ _ _ q
 have hb':=hb s1 us I1.kIn hl
 rw[Zrc] at hb'
 refine wpAny_call (codeAny_mono (F.run X.A X.stack s1 H1 ⟨us,[]⟩ us vs Q (E σ) hr I1.env0 hb' r q) fun r s' hq=>?_)
 cases r with
 |error e=>exact hx pins σ H1 s1 e s' I1 hq
 |ok fl =>
  cases fl with
  |ret u=>exact I1.after hq
  |next=>exact False.elim hq
  |brk=>exact False.elim hq
  |cont=>exact False.elim hq
end
noncomputable def Zqg:PV->Hp->Addr->Prop
 |.non,H,k=>H k=none
 |.int i,H,k=>∃fs,H k=some (.xd fs)/\fs=[(("at":Str),V.int i)]
 |_,_,_=>False
def W1 (K:W.Frag):PX->XK->Hp->Prop:=fun e E H'=>∀C k,ZmQ K e.1 C->Zqg e.2 H' k->E (.ref C) (some k) H'
section
variable {P:Program}{w:World}{K:W.Frag}{mg:Str->Option Value}{base:Heap}
theorem Fun.okX {x qual:Str}{st:Stmt}{f:Addr}{fd:FuncData}{N ps:List Str}{k n l:Nat}{kd:Kd}{m:List PV->Rr PV} (F:Fun K x qual st f fd) (S:Zy N ps (Zg st)) (hn:ps.length=n) (hl:N.length-n=l)
  (hbody:∀(cdv:Value) (A:Around) (outer:List Env) (s:Shared) (H:Hp) (E:XK),ZaC k (A.deeper (envOfC qual (Zg st) s.heap.objs.size f cdv)) ->
   ∃t g Y,Y.r=kd/\PSs (Zet (CX1 P w) P w K mg base N qual (Zg st) f cdv A outer s H E) (Zv st) t/\DS K (fun e H'=>W1 K e E H') (List.replicate n .S++List.replicate l .U) Y t g/\∀xs,Ref (m xs) (g (xs++List.replicate l .non)).out) (hkN:kd≠.N:=by nofun) :
  Jo P w K mg base (CX1 P w) (k+1) f fd ps (spF K n kd (W1 K) m):=by
 obtain⟨oc,od,kV,doc,pm,an,cdv,ct,osl,rfl,lk,hcd⟩:=F.ex
 refine ZnW lk hcd S (fun vs H Q E h=>?_) fun A outer s H vs Q E hr h=>?_
 ·obtain⟨B,xs,h1,h2,_⟩:=h
  rw[h1.length,h2,hn]
 ·obtain⟨B,xs,h1,h2,dn⟩:=h
  obtain⟨t,g,Y,hY,ht,hd,href⟩:=hbody cdv A outer s H E hr
  refine⟨t,ht, ?_⟩
  have A0:=Ag.init (n:=l) h1
  have est:Qx N vs=vs.map some++List.replicate l none:=by
   unfold Qx
   rw[h1.length,h2,hl]
  rw[est]
  rw[h2] at A0
  refine hd _ H H _ _ _ _ A0 ?_
  have hdn:Dn (g (xs++List.replicate l .non)).out (fun x=>∀v H',Z4 H H'->ZlF K B H kd x v H'->Q v H') (fun e=>∀H',Z4 H H'->W1 K e E H'):=by
   rcases href xs with e|e
   ·rw[e] at dn;exact dn.elim
   ·rw[<- e];exact dn
  have retK:∀{x v H'},ZlF K (fun a=>B a\/H a=none) H kd x v H'->ZlF K B H kd x v H':=fun {x v H'} h=>by
   cases kd with
   |P=>exact h
   |F=>exact h
   |T=>exact Rep.mono (fun a us s r=>⟨r,s.elim id .inr⟩) (fun a us r=>r) h
   |Z=>exact Rep.mono (fun a us s r=>⟨r,s.elim id .inr⟩) (fun a us r=>r) h
   |A=>exact Rep.mono (fun a us s r=>⟨r,s.elim id .inr⟩) (fun a us r=>r) h
   |N=>exact h
  cases e:g (xs++List.replicate l .non) with
  |next ρ =>
   rw[e] at hdn
   refine fun σ' H' F' fr A'=>hdn .non H' A'.same ?_
   cases kd with
   |P=>exact⟨rfl,rfl⟩
   |F=>exact⟨[],⟨rfl,rfl⟩,by simp⟩
   |T=>exact rfl
   |Z=>exact rfl
   |A=>exact rfl
   |N=>exact absurd rfl hkN
  |ret x=>rw[e] at hdn;exact fun v H' s r=>hdn v H' s (retK (hY▸r))
  |exc q=>rw[e] at hdn;exact fun H' s=>hdn H' s
  |brk ρ=>rw[e] at hdn;exact hdn.elim
  |cont ρ=>rw[e] at hdn;exact hdn.elim
  |bad=>rw[e] at hdn;exact hdn.elim
end
section
variable {K:W.Frag}{n:Nat}{m:List PV->Rr PV}{ta:TA}{Γ Γ':List Md}{fa:List PV->Rr (List PV)}{E:XK}
noncomputable abbrev EX1 (K:W.Frag) (E:XK):PX->Hp->Prop:=fun e H'=>W1 K e E H'
theorem Zqa (hn:Len fa n) (ha:DAA K (EX1 K E) Γ Γ' ta fa):DE K (EX1 K E) Γ Γ' .F (Zcc (spF K n .F (W1 K) m) (fun _=>E) ta) (fun ρ=>(fa ρ).bind m):=Zdh (E:=E) (W:=W1 K) (fun σ H Q h=>h) (fun e H' h=>h) hn ha
theorem Zo7 (hn:Len fa n) (ha:DAA K (EX1 K E) Γ Γ' ta fa):DE K (EX1 K E) Γ Γ' .P (Zcc (spF K n .P (W1 K) m) (fun _=>E) ta) (fun ρ=>(fa ρ).bind m):=ZgU (E:=E) (W:=W1 K) (fun σ H Q h=>h) (fun e H' h=>h) hn ha
theorem Zpf {EX:PX->Hp->Prop} (hn:Len fa n) (hm:∀xs q,m xs≠.exc q) (ha:DAA K EX Γ Γ' ta fa):DE K EX Γ Γ' .F (ZaW (spF K n .F W0 m) ta) (fun ρ=>(fa ρ).bind m):=fun B H0 H σ ρ F R Q A d=>by
 refine ha B H0 H σ ρ F R _ A (d.bind.imp (fun xs hx d vs H1 F1 s1 f1 p1 A1=>?_) fun e q=>q)
 refine⟨fun _=>True,xs,p1,hn ρ xs hx, ?_⟩
 cases e:m xs with
 |ok x =>
  rw[e] at d
  intro v H2 s2 r
  obtain⟨G,r1,r2⟩:=r
  exact d v H2 (s1.trans s2) ⟨F1,f1,G,r1,fun a ha=>⟨(A1.fresh (r2 a ha)).1,.inl (s1.free (r2 a ha))⟩,A1.more s2 r2 r1.alive⟩
 |exc q=>exact(hm xs q e).elim
 |bad=>rw[e] at d;exact d.elim
theorem ZnZ {EX:PX->Hp->Prop} (hn:Len fa n) (hm:∀xs q,m xs≠.exc q) (ha:DAA K EX Γ Γ' ta fa):DE K EX Γ Γ' .P (ZaW (spF K n .P W0 m) ta) (fun ρ=>(fa ρ).bind m):=fun B H0 H σ ρ F R Q A d=>by
 refine ha B H0 H σ ρ F R _ A (d.bind.imp (fun xs hx d vs H1 F1 s1 f1 p1 A1=>?_) fun e q=>q)
 refine⟨fun _=>True,xs,p1,hn ρ xs hx, ?_⟩
 cases e:m xs with
 |ok x=>rw[e] at d;exact fun v H2 s2 r=>d v H2 (s1.trans s2) ⟨F1,f1,r.1,r.2,A1.grow s2⟩
 |exc q=>exact(hm xs q e).elim
 |bad=>rw[e] at d;exact d.elim
def Pm.calm (m:Pm):Prop:=∀a q,m.out a≠.exc q
theorem Pm.calm_fn {m:Pm} (h:m.calm) (xs:List PV) (q:PX):m.fn xs≠.exc q:=by
 unfold Pm.fn
 by_cases hx:∃a,m.enc a=xs/\m.pre a
 ·rw[dif_pos hx];exact h _ q
 ·rw[dif_neg hx];exact fun z=>by cases z
theorem QD {C:Addr}{x:Str}{Y:Tys} (hC:ZmQ K x C) (hn:Len fa n) (hl:n<=1000) (ha:DAA K (EX1 K E) Γ Γ' ta fa):DS K (EX1 K E) Γ Y (Zla C (fun _=>E) ta) (fun ρ=>(fa ρ).thenS fun _=>.exc (x,.non)):=fun B H0 H σ ρ F D A d=>by
 refine ha B H0 H σ ρ F [] _ A (d.thenS.imp (fun xs hx d vs H1 F1 s1 f1 p1 A1=>?_) fun e q=>q)
 exact⟨by rw[p1.length,hn ρ xs hx];exact hl,fun ea hea=>d H1 A1.same C ea hC hea⟩
end
section
variable {K:W.Frag}{EX:PX->Hp->Prop}{Γ Γ':List Md}{te:TE}{f:List PV->Rr PV}
end
section
variable {K:W.Frag}{EX:PX->Hp->Prop}{Γ Γ':List Md}{te:TE}{f:List PV->Rr PV}
end
section
variable {K:W.Frag}{EX:PX->Hp->Prop}{Γ Γs:List Md}{Y Yh:Tys}{tb:(St->XK)->TS}{th:TS}{gb gh:List PV->RS}{C:Addr}{i:Nat}{L:List Str}
end
noncomputable def ZpS (K:W.Frag) (n:Str):Bool:=match PySem.W.nsIn K mainGlobals n with
 |some (some (.ref C))=>PySem.W.exOk K C&&(PySem.W.kitOne K (.type "NoneType") (.ref C)==some false)&&(PySem.W.kitOne K (.ref C) (.type "ValueError")==some true)
 |_=>false
noncomputable def ZpR (K:W.Frag) (q:Str×Str×Bool):Bool:=match PySem.W.nsIn K mainGlobals q.1,PySem.W.nsIn K mainGlobals q.2.1 with
 |some (some (.ref D)),some (some (.ref C))=>(PySem.W.kitOne K (.ref D) (.ref C)==some q.2.2)&&(PySem.W.exmOne K (.ref D) (.ref C)==some q.2.2)
 |_,_=>false
noncomputable def Zpx (K:W.Frag) (ns:List Str) (ss:List (Str×Str×Bool)):Bool:=(PySem.W.kitOne K (.type "NoneType") (.type "ValueError")==some false)&&(ns.all (ZpS K)&&ss.all (ZpR K))
section
variable {K:W.Frag}{ns:List Str}{ss:List (Str×Str×Bool)}{n c:Str}
noncomputable def ZlI (K:W.Frag) (ns:List Str):Bool:=ns.all fun n=>match PySem.W.nsIn K mainGlobals n with
 |some (some (.ref C))=>PySem.W.excIn K C Zpm "ValueError.__new__"
 |_=>false
theorem Zc2 (h:ZlI K ns=true) (hn:n∈ns):∃C,ZmQ K n C/\PySem.W.excIn K C Zpm "ValueError.__new__"=true:=by
 have:=ZqH.mp h n hn
 split at this
 ·rename_i C e
  exact⟨C,e,this⟩
 ·cases this
end
theorem Zbj {X:Cx}:ZmS X (fun _=>E0):=fun _ _ _ _ _ _ _ h=>by obtain⟨_,_,_,_,_,_,q⟩:=h;exact q.elim
section
variable {K:W.Frag}{n:Nat}{m:List PV->Rr PV}{ta:TA}{Γ Γ':List Md}{fa:List PV->Rr (List PV)}
theorem ZpK (hn:Len fa n) (ha:DAA K X0 Γ Γ' ta fa):DE K X0 Γ Γ' .F (Zcc (spF K n .F (W1 K) m) (fun _=>E0) ta) (fun ρ=>(fa ρ).bind m):=Zdh (E:=E0) (W:=W1 K) (fun σ H Q h=>h) (fun e H' h=>h.elim) hn ha
theorem ZpJ (hn:Len fa n) (ha:DAZ K X0 Γ Γ' ta fa):DE K X0 Γ Γ' .Z (Zcc (spF K n .Z (W1 K) m) (fun _=>E0) ta) (fun ρ=>(fa ρ).bind m):=ZkL (E:=E0) (W:=W1 K) (fun σ H Q h=>h) (fun e H' h=>h.elim) hn ha
end
section
variable {K:W.Frag}{H:Hp}
variable {EX:PX->Hp->Prop}{Γ Γ1 Γ2:List Md}{k:Kd}
end
section
variable {X:Cx}
end
section
variable {K:W.Frag}{EX:PX->Hp->Prop}{Γ Γ1 Γ2:List Md}{ta:TE}{tb:TA}{f:List PV->Rr PV}{fb:List PV->Rr (List PV)}
end
section
variable {K:PySem.W.Frag}{EX:PX->Hp->Prop}{Γ Γ' Γ1 Γ2:List Md}{ta:TA}{fa:List PV->Rr (List PV)}{n:Nat}{W:PX->XK->Hp->Prop}{m:List PV->Rr PV}{E:XK}
theorem Zju {t:TE} (ht:∀σ H Q,(ta σ H fun vs H1=>spF K n .Z W m vs H1 Q E)->t σ H Q) (hW:∀e H',EX e H'->W e E H') (hn:Len fa n) (ha:DAA K EX Γ Γ' ta fa):DE K EX Γ Γ' .A t (fun ρ=>(fa ρ).bind m):=fun B H0 H σ ρ F R Q A d=>by
 refine ht _ _ _ (ha B H0 H σ ρ F R _ A (d.bind.imp (fun xs hx d vs H1 F1 s1 f1 p1 A1=>?_) fun e q=>q))
 exact⟨fun _=>True,xs,p1,hn ρ xs hx,d.imp (fun x _ d v H2 s2 r=>d v H2 (s1.trans s2) ⟨F1,f1,Rep.any r,A1.grow s2⟩) fun e q H2 s2=>hW e H2 (q H2 (A1.same.trans s2))⟩
theorem Zpe (hn:Len fa n) (ha:DAA K X0 Γ Γ' ta fa):DE K X0 Γ Γ' .A (Zcc (spF K n .Z (W1 K) m) (fun _=>E0) ta) (fun ρ=>(fa ρ).bind m):=Zju (E:=E0) (W:=W1 K) (fun σ H Q h=>h) (fun e H' h=>h.elim) hn ha
end
section
variable {X:Cx}{tg:Expr}
end
theorem ZC {ns ms:List Int}:ns.map PV.int=ms.map PV.int ↔ ns=ms:=⟨Jx,fun h=>by rw[h]⟩
noncomputable def orX (o:Option Str) (x:PV):Rr PV:=match o with
 |none=>.ok x
 |some n=>.exc (n,.non)
theorem YH {b:PV->List PV->RS}{xs:List PV}{ρ:List PV}{W:RS} (hw:ZbS b xs ρ=W) (I:Nat->List PV->Prop) (h0:I 0 ρ) (h:∀i x ρ,xs[i]?=some x->I i ρ->(b x ρ).good (I (i+1))) :
  ∃ρ',W=.next ρ'/\I xs.length ρ':=by
 obtain⟨ρ',h1,h2⟩:=ZgP I h0 h
 exact⟨ρ',hw.symm.trans h1,h2⟩
theorem ZeM {c:List PV->Rr Bool}{b:List PV->RS}{ρ:List PV}{W:RS} (hw:Zay c b ρ=W) (N:Nat) (I:Nat->List PV->Prop) (h0:I 0 ρ) (hs:∀i ρ,i<N->I i ρ->c ρ=.ok true/\(b ρ).good (I (i+1))) (he:∀ρ,I N ρ->c ρ=.ok false) :
  ∃ρ',W=.next ρ'/\I N ρ':=by
 subst hw
 have key:∀m i ρ,N=i+m->I i ρ->∃ρ',VJ c b (m+1) ρ=some (.next ρ')/\I N ρ':=by
  intro m
  induction m with
  |zero =>
   intro i ρ hl hI
   obtain rfl:N=i:=by omega
   refine⟨ρ, ?_,hI⟩
   unfold VJ
   rw[he ρ hI]
  |succ m ih =>
   intro i ρ hl hI
   obtain⟨h1,h2⟩:=hs i ρ (by omega) hI
   obtain⟨ρ',h3,h4⟩:=RS.good_ex h2
   obtain⟨ρ2,h5,h6⟩:=ih (i+1) ρ' (by omega) h4
   refine⟨ρ2, ?_,h6⟩
   unfold VJ
   rw[h1]
   rcases h3 with h3|h3<;>(rw[h3];exact h5)
 obtain⟨ρ',h1,h2⟩:=key N 0 ρ (by omega) h0
 exact⟨ρ',Zd1 h1,h2⟩
theorem ZgF {f:PV->Rr PV}{g:Int->Int}{ns:List Int} (h:∀z∈ns,f (.int z)=.ok (.int (g z))):Zdy f (ns.map PV.int)=.ok ((ns.map g).map PV.int):=by
 induction ns with
 |nil=>rfl
 |cons n ns ih =>
  simp only[Zqz,Zdy,h n (by simp),Rr.bind_ok,ih fun z hz=>h z (by simp[hz])]
theorem ZiP {f:PV->Rr PV}{g:Int->Bool}{ns:List Int} (h:∀z∈ns,f (.int z)=.ok (.bl (g z))):Zdy f (ns.map PV.int)=.ok ((ns.map g).map PV.bl):=by
 induction ns with
 |nil=>rfl
 |cons n ns ih =>
  simp only[Zqz,Zdy,h n (by simp),Rr.bind_ok,ih fun z hz=>h z (by simp[hz])]
theorem Zms {f:PV->Rr PV}{g:Nat->Int}{lo:Int}{n:Nat} (h:∀i,i<n->f (.int (lo+(i:Nat)))=.ok (.int (g i))):Zdy f (ZeG lo n)=.ok (((List.range n).map g).map PV.int):=by
 unfold ZeG
 have:∀l:List Nat,(∀i∈l,i<n)->Zdy f (l.map fun(k:Nat)=>PV.int (lo+(k:Int)))=.ok ((l.map g).map PV.int):=by
  intro l
  induction l with
  |nil=>intro _;rfl
  |cons a l ih =>
   intro hl
   simp only[Zqz,Zdy,h a (hl a (by simp)),Rr.bind_ok,ih fun i hi=>hl i (by simp[hi])]
 exact this _ fun i hi=>ZqK.mp hi
theorem Zku (bs:List Bool):Zn6 [.lst (bs.map PV.bl)]=.ok (.bl (bs.all id)):=by simp only[Zn6,ZjB]
theorem ZjJ {ns:List Int}{p:Int->Prop} [DecidablePred p]:(ns.map fun z=>decide (p z)).all id=decide (∀x∈ns,p x):=by
 rw[Bool.eq_iff_iff,ZqH,decide_eq_true_iff]
 simp
theorem Zol {ns:List Int}{h:Int} (h0:0<=h):ZmK (ns.map PV.int) none (some h)=(ns.take h.toNat).map PV.int:=by
 unfold ZmK HT.sIx
 simp only[Zqt,Zr0,Nat.sub_zero]
 rw[if_neg (by omega),<- List.map_take]
 congr 1
 rw[List.take_eq_take_iff];omega
theorem ZkP {ns:List Int}{l:Int} (h0:0<=l):ZmK (ns.map PV.int) (some l) none=(ns.drop l.toNat).map PV.int:=by
 unfold ZmK HT.sIx
 simp only[Zqt]
 rw[if_neg (by omega),<- List.map_drop,<- List.map_take]
 congr 1
 rw[ZqG (by simp)]
 by_cases h:l.toNat<=ns.length
 ·rw[Nat.min_eq_left h]
 ·rw[ZqX (by omega),ZqX (by omega)]
theorem Zn2 {i j:Int} (h1:-(10^80)<=i) (h2:i<=10^80) (h3:-(10^80)<=j) (h4:j<=10^80):ZoQ (.int i) (.int j)=.ok (.int (i*j)):=Zi9 (ZmL 80 80 (by omega) (by omega))
theorem Zkw {x:PV}:orX none x=.ok x:=rfl
theorem Zkv {x:PV}{n:Str}:orX (some n) x=.exc (n,.non):=rfl
theorem Zip {n:Nat}:List.replicate (n+1) PV.non=PV.non::List.replicate n PV.non:=rfl
theorem Zio:List.replicate 0 PV.non=[]:=rfl
section
variable {prog:Program}{w:World}{A:Around}{E:Value->Shared->Prop}{s:Shared}
end
section
variable {X:Cx}{pos:Pos}
end
section
variable {K:W.Frag}{EX:PX->Hp->Prop}{Γ Γ2:List Md}
end
theorem Zk7 {a b:Int}:grd (.tup [.int a,.int b])=.ok (.tup [.int a,.int b]):=rfl
theorem Zml {g:Bool->Bool}{ns:List Int}:Zfa g (.lst (ns.map PV.int)) (.lst [])=.ok (.bl (g (decide (ns=[])))):=ZcL ns []
section
variable {X:Cx}{pins:List (Addr×Obj)}{σ:St}{H:Hp}{s:Shared}{h':Heap}
end
section
variable {X:Cx}{elts:List Expr}{x1:Nat}{tpos:Pos}
end
section
variable {K:W.Frag}{H:Hp}{EX:PX->Hp->Prop}{Γ Γ':List Md}{te:TE}{f:List PV->Rr PV}
end
section
variable {prog:Program}{w:World}{A:Around}{E:Value->Shared->Prop}{R:Result->Shared->Prop}{s:Shared}
theorem Qi {elt target iter:Expr}{ifs:List Expr}{scope:Scope}{pos:Pos}{it acc:Value}{env:Env} (I:Nat->Shared->Prop)
  (turn:∀n s,I n s->wpAny (model prog w) A (pyNext it) (fun r s₁=>match r with
   |none=>R (.ok .next) s₁
   |some v=>wpAny (model prog w) A (letOwnedTupleGo target it v) (fun _ s₁'=>wpAny (model prog w) A (assign target env v) (fun _ s₂ =>
     wpAny (model prog w) A (forIn ifs true fun c r=>if r=true then do let ok <- isTrue c env (eval c env);pure (ForInStep.yield ok) else pure (ForInStep.yield r)) (fun ok s₃ =>
      if ok=true then wpAny (model prog w) A (eval elt env) (fun x s₄ =>
       wpAny (model prog w) A (call (.builtin "list.append") [acc,x]) (fun _ s₅=>∃m,m<n/\I m s₅) (notedBy (model prog w) A env fun e s'=>R (.error e) s') s₄) (notedBy (model prog w) A env fun e s'=>R (.error e) s') s₃
      else ∃m,m<n/\I m s₃) (notedBy (model prog w) A env fun e s'=>R (.error e) s') s₂) (notedBy (model prog w) A env fun e s'=>R (.error e) s') s₁') (notedBy (model prog w) A env fun e s'=>R (.error e) s') s₁) (notedBy (model prog w) A env fun e s'=>R (.error e) s') s)
  (n:Nat) (h:I n s) :
  codeAny (model prog w) A (.compLoop (.ListComp elt [⟨target,iter,ifs,0⟩] scope pos) 0 it acc env) R s:=by
 refine codeAny_loop rfl I (fun n s hI=>?_) n h
 show wpAny _ A ((compTurn (.ListComp elt [⟨target,iter,ifs,0⟩] scope pos) 0 it acc env).onRaise (fun x=>do noteFrame x env;theTreesLotGoes x)) _ _ s
 refine wpAny_noted ?_
 rw[compTurn_list]
 refine wpAny_bind (wpAny_standAt (wpAny_bind (wpAny_mono (turn n s hI) (fun r s₁ h₁=>?_) fun _ _ h'=>h')))
 cases r with
 |none=>exact wpAny_pure h₁
 |some v =>
  refine wpAny_bind (wpAny_mono h₁ (fun _ s₁' h₁'=>?_) fun _ _ h'=>h')
  refine wpAny_bind (wpAny_mono h₁' (fun _ s₂ h₂=>wpAny_bind (wpAny_mono h₂ (fun ok s₃ h₃=>?_) fun _ _ h'=>h')) fun _ _ h'=>h')
  cases ok with
  |false=>exact wpAny_pure ⟨rfl,h₃⟩
  |true =>
   exact wpAny_bind (wpAny_bind (wpAny_mono h₃ (fun x s₄ h₄=>wpAny_bind (wpAny_mono h₄ (fun _ s₅ h₅=>wpAny_pure (wpAny_pure ⟨rfl,h₅⟩)) fun _ _ h'=>h')) fun _ _ h'=>h'))
end
noncomputable def Zfn (xs:List Str) (y:Str):Str:=if xs.contains y then "" else y
noncomputable def Za4 (X:Cx) (scope:Scope) (xs:List Str) (C:Addr) (ex:List Addr) (s₂:Shared) (H₂:Hp):Cx:=
 { X with N:=X.N.map (Zfn xs)++xs,s₀:=s₂,H₀:=H₂,env:=compEnvC scope (Zev scope X.env) C X.env,outer:=X.stack,ex:=ex,fn:=fun _=>false,pn:=[],xe:=fun _ _=>False }
noncomputable abbrev TB:=V->Hp->List V->Prop
noncomputable def tB1:TB:=fun x _ vs=>vs=[x]
def PB (X:Cx) (scope:Scope) (xs:List Str) (tg:Expr) (Bd:TB):Prop:=∀C s₂ H₂ ex,∀(pins:List (Addr×Obj)) (s:Shared) (σ σx:St) (H:Hp) (x:V) (u:Value) (vs:List V) (E:Value->Shared->Prop),σ.length=X.N.length->σx.length=xs.length ->
 Inv (Za4 X scope xs C ex s₂ H₂) pins (σ++σx) H s->WG x u->Bd x H vs->wpAny (model X.prog X.w) X.A (assign tg (Za4 X scope xs C ex s₂ H₂).env u) (fun _ s'=>Inv (Za4 X scope xs C ex s₂ H₂) pins (σ++vs.map some) H s') E s
def PCi (X:Cx) (ifs:List Expr) (t:TT):Prop:=∀(pins:List (Addr×Obj)) (s:Shared) (σ:St) (H:Hp) (Q:Bool->Hp->Prop) (E:Value->Shared->Prop),Inv X pins σ H s->t σ H Q ->
 wpAny (model X.prog X.w) X.A (forIn ifs true fun c r=>if r=true then do let ok <- isTrue c X.env (eval c X.env);pure (ForInStep.yield ok) else pure (ForInStep.yield r)) (TP X pins σ Q) E s
noncomputable def Zpy:TT:=fun _ H Q=>Q true H
theorem Zlk {X:Cx}:PCi X [] Zpy:=fun pins s σ H Q E I h=>wpAny_tests_nil ⟨_,I,h⟩
def Zie (σ:St) (Bd:TB) (tt:TT) (te:TE) (J:It) (H1:Hp) (Q:VK):Prop:=∃W:Nat->Nat->List V->Hp->Prop,(∃m,W 0 m [] H1)/\∀i m ys H2,W i m ys H2->ys.length<=sizeLine /\
 ((J.stop i H2/\∀p,H2 p=none->Q (.ref p) (upd H2 p (.lst ys))) \/
  (J.go i H2/\∃N:List V->Hp->Prop,(∀ys' H',N ys' H'->∃m',m'<m/\W (i+1) m' ys' H')/\∀x H3,J.yld i H2 x H3->∃vs,Bd x H3 vs/\tt (σ++vs.map some) H3 fun b H4=>if b=true then te (σ++vs.map some) H4 fun y H5=>N (ys++[y]) H5 else N ys H4))
noncomputable def Zd6 (wi:TI) (Bd:TB) (tt:TT) (te:TE):TE:=fun σ H Q=>wi σ H fun J H1=>Zie σ Bd tt te J H1 Q
noncomputable def QI (N:List Str) (sc scope:Scope) (xs:List Str):Bool:=xs.all (fun x=>ZbD [] sc scope x)&&decide (N.map (Zfn xs)++xs).Nodup&&!xs.isEmpty&&(N.all fun y=>xs.contains y || !(scope.names.lookup y==some .local))&&(scope.names.lookup (Str.ofString "")==none)
structure CkN (N:List Str) (sc scope:Scope) (xs:List Str):Prop where
 scs:∀x∈xs,U0 [] sc scope x
 nd:(N.map (Zfn xs)++xs).Nodup
 ex:∃x,x∈xs
 noN:∀y∈N,y ∉ xs->scope.names.lookup y≠some .local
 noE:scope.names.lookup (Str.ofString "")=none
theorem Qh {N:List Str}{sc scope:Scope}{xs:List Str} (h:QI N sc scope xs=true):CkN N sc scope xs:=by
 unfold QI at h
 simp only[Bool.and_eq_true,ZqH,decide_eq_true_eq,Bool.not_eq_true',Bool.or_eq_true,beq_iff_eq,beq_eq_false_iff_ne] at h
 obtain⟨⟨⟨⟨h1,h2⟩,h3⟩,h4⟩,h5⟩:=h
 refine⟨fun x hx=>U0.of (h1 x hx),h2, ?_,fun y hy hn=>?_,h5⟩
 ·cases xs with
  |nil=>simp at h3
  |cons a l=>exact⟨a,by simp⟩
 ·rcases h4 y hy with z|z
  ·exact absurd (ZrF.mp z) hn
  ·exact z
section
variable {X:Cx}{pins:List (Addr×Obj)}{σ:St}{s₂:Shared}{H₂:Hp}{scope:Scope}{x:Str}{xs:List Str}{tg elt iter:Expr}{ifs:List Expr}{pos:Pos}{Bd:TB}{tt:TT}{te:TE}{J:It}{fp:List Addr}{it:Addr}{tn:Nat->Heap->Prop}
theorem WM {N0:List Str} (sc:U0 N0 X.env.scope scope x) (ok:X.Ok) {y:Str}{c:Addr} (h:(Zev scope X.env).lookup y=some c):X.env.cells.lookup y=some c:=by
 have hm:=PySem.mem_of_lookup h
 unfold Zev at hm
 obtain⟨p,hp,e⟩:=Zq4.mp hm
 have hp':=ZqS.mp (Zse.mp hp)
 obtain⟨e1,e2⟩:=Prod.mk.inj e
 have hk:=sc.fr p hp'.1 (beq_iff_eq.mp hp'.2)
 obtain⟨c',hc'⟩:=ok.has p.1 hk
 rw[hc'] at e2
 rw[<- e1,hc']
 exact congrArg some e2
theorem ZmN {N0:List Str} (I:Inv X pins σ H₂ s₂) (sc:U0 N0 X.env.scope scope x) {C:Addr} (hC:s₂.heap.objs.size<=C) (ff:∀b∈fp,ZhU X pins H₂ b) (fo:∀b∈fp,∃o,s₂.heap.get? b=some o):(Za4 X scope xs C fp s₂ H₂).Ok where
 mod:=I.ok.mod
 kind:=sc.kind
 glob:=I.ok.glob
 blt:=I.ok.blt
 above:=hC
 inj:=fun y z c h1 h2=>I.ok.inj y z c (WM sc I.ok h1) (WM sc I.ok h2)
 has:=fun y hy=>by
  have hy':(relabel scope X.env).names.lookup y=some .cell\/(relabel scope X.env).names.lookup y=some .free:=hy
  have hf:scope.names.lookup y=some .free:=by
   rcases hy' with z|z
   ·exact(Z6 sc.nc z).2 (.inl rfl)
   ·exact(Z6 sc.nc z).2 (.inr rfl)
  exact ZaR hf
 cab:=fun y c h=>by cases h
 hd:=I.ok.hd
 frames:=I.ok.frames
 stk:=.inl rfl
 exf:=fun b hb=>by
  obtain⟨f0,f1,f2,f3,f4,f5⟩:=ff b hb
  obtain⟨o,ho⟩:=fo b hb
  exact⟨Zq2 (Zqx (Heap.lt_size ho) hC),fun y c h=>f4 y c (WM sc I.ok h)⟩
 bs:=I.bs
 bsz:=Zq3 I.ok.bsz I.sz
 noex:=fun b o e hb=>by
  obtain⟨f0,f1,f2,f3,f4,f5⟩:=ff b hb
  rcases f3 with z|z
  ·exact I.ok.noex b o e z
  ·exact absurd (Zqx (Heap.lt_size e) (Zq3 I.ok.bsz z)) (ZqP _)
 exfs:=fun b hb z=>by
  obtain⟨f0,f1,f2,f3,f4,f5⟩:=ff b hb
  rcases Zqw.mp (I.stkSub b z) with e|e
  ·exact f1 e
  ·exact f2 e
 funs:=I.stack
 frf:=I.stkFree
theorem Zeu {E:Value->Shared->Prop}{Q:VK}{RR:Value->Addr->Result->Shared->Prop} (I:Inv X pins σ H₂ s₂) (ck:CkN X.N X.env.scope scope xs) (hx:x∈xs) (hNd:X.N.Nodup) (hc:X.calm=true)
  (T:ZmY X.prog X.w X.K tg J fp it tn) (st:tn 0 s₂.heap) (ff:∀b∈fp,ZhU X pins H₂ b) (hw:Zie σ Bd tt te J H₂ Q)
  (hb:PB X scope xs tg Bd) (ht:∀C s₂ H₂ ex,PCi (Za4 X scope xs C ex s₂ H₂) ifs tt) (he:∀C s₂ H₂ ex,PE (Za4 X scope xs C ex s₂ H₂) elt te)
  (hvs:∀x H vs,Bd x H vs->vs.length=xs.length)
  (hRR:∀D C s' H' m',s₂.heap.objs.size<=C->Inv X pins σ H' s'->s'.heap.Ns C m'->H' C=none->Q (.ref D) H'->RR (.ref D) C (.ok .next) s') :
  wpAny (model X.prog X.w) X.A (newList []) (fun acc s₃=>wpAny (model X.prog X.w) X.A (newFunctionEnv scope X.env.globals (Zev scope X.env) [] X.env.qual none .none (some X.env)) (fun cenv s₄ =>
   codeAny (model X.prog X.w) X.A (.compStart (.ListComp elt [⟨tg,iter,ifs,0⟩] scope pos) 0 (.ref it) acc { cenv with scope:=relabel scope X.env }) (RR acc cenv.locals) s₄) E s₃) E s₂:=by
 have sc:=ck.scs x hx
 refine wpAny_newObj_type (wpAny_newFunctionEnv sc.nc (by intro y hy;simp at hy) (fun h₁ hns₁ hsb₁=>?_) sc.kind)
 dsimp only at hns₁ hsb₁ ⊢
 generalize hP2:s₂.heap.push { cls:=.type "list",dict:=none,data:=.seq ([]:List Value).toArray }=P2 at hns₁ hsb₁ ⊢
 have hCs:P2.objs.size=s₂.heap.objs.size+1:=by rw[<- hP2,Heap.size_push]
 have hCle:s₂.heap.objs.size<=P2.objs.size:=by rw[hCs];exact Nat.le_succ _
 have hDC:s₂.heap.objs.size≠P2.objs.size:=by rw[hCs];exact Zq2 (Zsf _)
 generalize hCe:P2.objs.size=C at hns₁ hsb₁ hCs hCle hDC ⊢
 generalize hDe:s₂.heap.objs.size=D at hCs hCle hDC ⊢
 have fo:∀b∈fp,∃o,s₂.heap.get? b=some o:=fun b hb=>let ⟨o,e,_⟩:=T.obj _ _ st b hb;⟨o,e⟩
 have flt:∀b∈fp,b<D:=fun b hb=>by obtain⟨o,e⟩:=fo b hb;rw[<- hDe];exact Heap.lt_size e
 have old:∀b o,s₂.heap.get? b=some o->h₁.get? b=some o:=fun b o e=>by
  have hb:=Heap.lt_size e
  exact hsb₁.extBut b o (Zq2 (by rw[hCs];exact Zsb (hDe▸hb))) (Heap.get?_push_of_some _ (hP2▸Heap.get?_push_of_some _ e))
 have hacc:h₁.get? D=some { cls:=.type "list",data:=.seq ([]:List Value).toArray 0 }:=hsb₁.extBut _ _ hDC (Heap.get?_push_of_some _ (hP2▸hDe▸Heap.get?_push_size _ rfl))
 have okB:=ZmN (x:=x) (xs:=xs) (C:=C) I sc (by rw[hDe];exact hCle) ff fo
 have hfreshD:H₂ D=none:=I.hok.fresh (by rw[hDe];exact Zqn _)
 have hfreshC:H₂ C=none:=I.hok.fresh (by rw[hDe];exact hCle)
 have I0:Inv (Za4 X scope xs C fp s₂ H₂) [(D,{ cls:=.type "list",data:=.seq ([]:List Value).toArray 0 })] (σ++List.replicate xs.length none) H₂ { s₂ with heap:=h₁,toks:=s₂.toks+([]:List (Str×Value)).length }:=by
  refine⟨okB,rfl,I.bare,Un.kept old,⟨_,hns₁,fun i y v e1 e2 e3=>?_⟩,fun y c e=>?_,hfreshC,fun y c e=>I.freeC y c (WM sc I.ok e),fun p hp=>?_,I.hok.kept old,by simp[Za4,I.len]⟩
  ·have hi:i<σ.length:=by
    by_cases hi:i<σ.length
    ·exact hi
    ·rw[Zqv (by omega)] at e2
     rw[Zr6] at e2
     split at e2<;>cases e2
   rw[Zqr hi] at e2
   have e1':(X.N.map (Zfn xs)++xs)[i]?=some y:=e1
   rw[Zqr (by rw[Zqt,<- I.len];exact hi),Zq7] at e1'
   have lk:scope.names.lookup y=some .local\/scope.names.lookup y=some .free:=by
    have e3':(relabel scope X.env).names.lookup y=some .local\/(relabel scope X.env).names.lookup y=some .cell\/(relabel scope X.env).names.lookup y=some .free:=e3
    rcases e3' with z|z|z
    ·exact .inl ((Z6 sc.nc z).1 rfl)
    ·exact .inr ((Z6 sc.nc z).2 (.inl rfl))
    ·exact .inr ((Z6 sc.nc z).2 (.inr rfl))
   obtain⟨y0,ey0,ey⟩:∃y0,X.N[i]?=some y0/\Zfn xs y0=y:=by
    cases q:X.N[i]? with
    |none=>rw[q] at e1';cases e1'
    |some y0=>rw[q] at e1';exact⟨y0,rfl,Option.some.inj e1'⟩
   have hy0:y0 ∉ xs:=fun z=>by
    have:y=Str.ofString "":=by rw[<- ey];unfold Zfn;rw[if_pos (ZrF.mpr z)]
    rw[this,ck.noE] at lk
    rcases lk with z|z<;>cases z
   have ey2:y0=y:=by rw[<- ey];unfold Zfn;rw[if_neg (fun z=>hy0 (ZrF.mp z))]
   rw[ey2] at ey0 hy0
   have e1':X.N[i]?=some y:=ey0
   have yN:y∈X.N:=Zqk e1'
   have e3':(relabel scope X.env).names.lookup y=some .local\/(relabel scope X.env).names.lookup y=some .cell\/(relabel scope X.env).names.lookup y=some .free:=e3
   have hcf:(relabel scope X.env).names.lookup y=some .cell\/(relabel scope X.env).names.lookup y=some .free:=by
    rcases e3' with z|z
    ·exact absurd ((Z6 sc.nc z).1 rfl) (ck.noN y yN hy0)
    ·exact z
   have hfree:scope.names.lookup y=some .free:=by
    rcases hcf with z|z
    ·exact(Z6 sc.nc z).2 (.inl rfl)
    ·exact(Z6 sc.nc z).2 (.inr rfl)
   obtain⟨c,hcl⟩:=ZaR (X:=X) hfree
   have hcx:=WM sc I.ok hcl
   have hvis:=sc.fr _ (PySem.mem_of_lookup hfree) rfl
   obtain⟨m,hn,hl⟩:=I.loc
   obtain⟨u,ru,hlook⟩:=hl i y v e1' e2 (.inr hvis)
   refine⟨u,ru,.inr ⟨hcf,c,hcl, ?_⟩⟩
   rcases hlook with ⟨k,_⟩|⟨k,c',ec,hcell⟩
   ·have k':X.env.scope.names.lookup y=some .local:=k
    have hv':X.env.scope.names.lookup y=some .cell\/X.env.scope.names.lookup y=some .free:=hvis
    rw[k'] at hv'
    rcases hv' with z|z<;>cases z
   ·rw[hcx] at ec;cases ec
    obtain⟨o,ho,hd⟩:=hcell
    exact⟨o,old _ _ ho,hd⟩
  ·obtain⟨v,o,ho,hd⟩:=I.cell y c (WM sc I.ok e)
   exact⟨v,o,old _ _ ho,hd⟩
  ·have e:p=(D,{ cls:=.type "list",data:=.seq ([]:List Value).toArray 0 }):=by simpa[Za4] using hp
   subst e
   exact⟨hacc,hfreshD,hDC,(fun z=>by
    rcases Zqw.mp (I.stkSub D z) with e|e
    ·exact absurd I.lt (by rw[<- e,hDe];exact ZqP _)
    ·exact I.nofs (by rw[hDe];exact Zqn _) e),fun v z=>nomatch z⟩
 obtain⟨W,⟨m0,w0⟩,turn⟩:=hw
 have fpB:∀{H':Hp}{o:Obj},(∀b∈fp,H' b=none)->∀b∈fp,ZhU (Za4 X scope xs C fp s₂ H₂) [(D,o)] H' b:=fun {H' o} hn b hb=>by
  obtain⟨f0,f1,f2,f3,f4,f5⟩:=ff b hb
  obtain⟨g1,g2⟩:=okB.exf b hb
  exact⟨hn b hb,g1,okB.exfs b hb,.inl hb,g2,fun p hp=>by
   have e:p=(D,o):=by simpa[Za4] using hp
   subst e
   exact(Zq2 (flt b hb)).symm⟩
 have hσ:σ.length=X.N.length:=I.len
 have loop:∀s₃:Shared,s₃={ s₂ with heap:=h₁,toks:=s₂.toks+([]:List (Str×Value)).length } ->
   codeAny (model X.prog X.w) X.A (.compLoop (.ListComp elt [⟨tg,iter,ifs,0⟩] scope pos) 0 (.ref it) (.ref D) (compEnvC scope (Zev scope X.env) C X.env)) (RR (.ref D) C) s₃:=by
  rintro s₃ rfl
  refine Qi
   (fun n s'=>∃i ys its k σx H',σx.length=xs.length/\Inv (Za4 X scope xs C fp s₂ H₂) [(D,{ cls:=.type "list",data:=.seq (List.toArray its) k })] (σ++σx) H' s'/\tn i s'.heap/\(∀b∈fp,H' b=none)/\YO ys its/\W i n ys H') ?_ m0
   ⟨0,[],[],0,List.replicate xs.length none,H₂,by simp,I0,T.keep _ _ _ st (fun b hb o e=>old b o e),fun b hb=>(ff b hb).1,.nil,w0⟩
  rintro n s' ⟨i,ys,its,k,σx,H',hσx,I',st',fr',rv,w'⟩
  obtain⟨hz,hcase⟩:=turn i n ys H' w'
  have hpinD:=I'.pin (D,{ cls:=.type "list",data:=.seq (List.toArray its) k }) (by simp[Za4])
  rcases hcase with ⟨stop,q⟩|⟨go,N,hN,step⟩
  ·refine thn (T.done (Za4 X scope xs C fp s₂ H₂) rfl rfl rfl hc i _ s' _ H' _ I' (fpB fr') st' stop) fun r s4 ⟨hr,I4⟩=>?_
   subst hr
   have pD:=I4.pin (D,{ cls:=.type "list",data:=.seq (List.toArray its) k }) (by simp[Za4])
   obtain⟨m4,hn4,_⟩:=I4.loc
   have IX:Inv X pins σ H' s4:=I.call' I4.os I4.base I4.hok I4.bare fun b hb=>by
    obtain⟨f0,f1,f2,f3,f4,f5⟩:=ff b hb
    exact⟨f3,f1,f4,f5⟩
   have IX2:=IX.adopt (D:=D) (ys:=ys) (its:=its) (n:=k) hpinD.2.1 (by rw[<- hDe];exact I.sz) (by rw[<- hDe];exact Zr4 I.lt)
    (fun y c e z=>by
     obtain⟨v,o,ho,hd⟩:=I.cell y c e
     have:=Heap.lt_size ho
     rw[hDe,z] at this
     exact ZqP _ this)
    (fun p hp z=>by
     have:=Heap.lt_size (I.pin p hp).1
     rw[hDe,z] at this
     exact ZqP _ this) pD.1 rv hz
   refine hRR D C s4 _ m4 (by rw[hDe];exact hCle) IX2 hn4 ?_ (q D hpinD.2.1)
   rw[Z9 (Ne.symm hDC)]
   exact I4.free
  ·refine thn (T.item (Za4 X scope xs C fp s₂ H₂) rfl rfl rfl hc i _ s' _ H' _ I' (fpB fr') st' go) fun r s4 ⟨u,hr,h4⟩=>?_
   subst hr
   refine thn h4 fun _ s5 ⟨y,H5,I5,r5,y5,st5,fr5⟩=>?_
   have I5':=I5.pinned (fpB fr5) (T.obj _ _ st5)
   obtain⟨vs,bd5,stp⟩:=step y H5 y5
   refine thn (hb C s₂ H₂ fp _ s5 σ σx H5 y u vs _ hσ hσx I5' r5 bd5) fun _ s6 I6=>?_
   refine thn (ht C s₂ H₂ fp _ s6 _ H5 _ _ I6 stp) fun ok s6' hok=>?_
   obtain⟨H6',I6',q6'⟩:=hok
   have hvl:=hvs _ _ _ bd5
   have stay:∀{s9:Shared}{H9:Hp}{ys':List V}{its':List Value}{k':Nat},True:=fun {_ _ _ _ _}=>trivial
   cases ok with
   |false =>
    rw[if_neg Bool.false_ne_true] at q6' ⊢
    have pD6:=I6'.pin (D,{ cls:=.type "list",data:=.seq (List.toArray its) k }) (by simp[Za4])
    obtain⟨m',hm,w8⟩:=hN _ _ q6'
    refine⟨m',hm,i+1,ys,its,k,vs.map some,H6',by simp[hvl],I6'.pins_of fun p hp=>?_, ?_,fun b hb'=>?_,rv,w8⟩
    ·have e:p=(D,{ cls:=.type "list",data:=.seq (List.toArray its) k }):=by simpa using hp
     subst e
     exact⟨pD6.1,pD6.2.1,pD6.2.2.1,pD6.2.2.2.1,fun v z=>nomatch z⟩
    ·refine T.keep _ _ _ st5 fun b hb' o e=>?_
     exact(I6'.pin (b,o) (Zqj _ (Zqj _ (W6 hb' e)))).1
    ·obtain⟨o,e,d⟩:=T.obj _ _ st5 b hb'
     exact(I6'.pin (b,o) (Zqj _ (Zqj _ (W6 hb' e)))).2.1
   |true =>
   rw[if_pos rfl] at q6' ⊢
   refine wpAny_mono (he C s₂ H₂ fp _ s6' _ H6' _ I6' q6') (fun u7 s7 h7=>?_) fun _ _ f=>f.elim
   obtain⟨v7,H7,I7,r7,n7⟩:=h7
   have pD7:=I7.pin (D,{ cls:=.type "list",data:=.seq (List.toArray its) k }) (by simp[Za4])
   have hlen:=rv.length
   refine append_at (hsz:=by show its.toArray.size<=sizeLine;rw[Zqu,<- hlen];exact hz) pD7.1 fun h8 hs8 hD8=>?_
   obtain⟨m',hm,w8⟩:=hN _ _ n7
   have hD8':h8.get? D=some { cls:=.type "list",data:=.seq (its++[u7]).toArray (k+1) }:=by rw[hD8,List.push_toArray]
   have I8:Inv (Za4 X scope xs C fp s₂ H₂) [] (σ++vs.map some) H7 { s7 with heap:=h8 }:=by
    refine(I7.pins_of (pins':=[]) fun p hp=>absurd hp (by simp)).turned (t':=s7.toks) (it:=D) (fun b o hb e=>(hs8.2 b hb).trans e) pD7.2.1 pD7.2.2.1 (.inr (by show s₂.heap.objs.size<=D;rw[hDe];exact Zqn _)) (fun y' c' e' z=>?_) fun p hp=>absurd (show p∈([]:List (Addr×Obj)) from by simpa[Za4] using hp) (by simp)
    obtain⟨v,o,ho,hd⟩:=I.cell y' c' (WM sc I.ok e')
    have:=Heap.lt_size ho
    rw[hDe,z] at this
    exact ZqP _ this
   refine⟨m',hm,i+1,ys++[v7],its++[u7],k+1,vs.map some,H7,by simp[hvl],I8.pins_of fun p hp=>?_, ?_,fun b hb'=>?_,rv.append (.cons r7 .nil),w8⟩
   ·have e:p=(D,{ cls:=.type "list",data:=.seq (its++[u7]).toArray (k+1) }):=by simpa using hp
    subst e
    exact⟨hD8',pD7.2.1,pD7.2.2.1,pD7.2.2.2.1,fun v z=>nomatch z⟩
   ·refine T.keep _ _ _ st5 fun b hb' o e=>?_
    have hpb:=I7.pin (b,o) (Zqj _ (Zqj _ (W6 hb' e)))
    exact(hs8.2 b (Zq2 (flt b hb'))).trans hpb.1
   ·obtain⟨o,e,d⟩:=T.obj _ _ st5 b hb'
    exact(I7.pin (b,o) (Zqj _ (Zqj _ (W6 hb' e)))).2.1
 exact codeAny_compStart_list (loop _ rfl) (T.self _ 0 _ _ _ (T.keep _ _ _ st fun b hb o e=>old b o e) (loop _ rfl))
theorem Zgy {c:Expr} (hx:∀e s,X.xe e s->False) (h:PT X c tt):PCi X [c] tt:=fun pins s σ H Q E I q =>
 wpAny_tests_one (wpAny_mono (h pins s σ H Q I q) (fun _ _ z=>z) fun e s z=>(hx e s z).elim)
theorem QX {px:Pos} (hNd:X.N.Nodup) (hchk:QI X.N X.env.scope scope [x]=true:=by rfl):PB X scope [x] (.Name x px) tB1:=by
 intro C s₂ H₂ ex pins s σ σx H y u vs E hσ hσx I r hb
 have ck:=Qh hchk
 have sc:=ck.scs x (by simp)
 have hb:vs=[y]:=hb
 subst hb
 have ndB:=ck.nd
 refine wpAny_assign_Name ?_
 refine ZaH (X:=Za4 X scope [x] C ex s₂ H₂) (i:=X.N.length) (x:=x) (v:=y) I ndB (by simp[Za4]) (.inl (lookup_relabel_local sc.var)) r (fun s6 I6=>?_) (.inr (lookup_relabel_local sc.var))
 obtain⟨o,rfl⟩:∃o,σx=[o]:=by
  cases σx with
  |nil=>simp at hσx
  |cons a l =>
   cases l with
   |nil=>exact⟨a,rfl⟩
   |cons b l=>simp at hσx
 have eσ:(σ++[o]).set X.N.length (some y)=σ++[some y]:=by
  rw[<- hσ];simp
 rw[eσ] at I6
 exact I6
theorem ZaK {wi:TI} (hi:PI X tg iter wi) (hb:PB X scope xs tg Bd) (ht:∀C s₂ H₂ ex,PCi (Za4 X scope xs C ex s₂ H₂) ifs tt) (he:∀C s₂ H₂ ex,PE (Za4 X scope xs C ex s₂ H₂) elt te) (hvs:∀x H vs,Bd x H vs->vs.length=xs.length) (hNd:X.N.Nodup) (hc:X.calm=true)
  (hclos:closureFor scope X.env=pure (Zev scope X.env):=by rfl) (hchk:QI X.N X.env.scope scope xs=true:=by rfl) (hs:∀x,foldedSetIterable iter X.env x=pure x:=by exact fun _=>rfl) :
  PE X (.ListComp elt [⟨tg,iter,ifs,0⟩] scope pos) (Zd6 wi Bd tt te):=by
 intro pins s σ H Q I h
 have ck:=Qh hchk
 obtain⟨x,hx⟩:=ck.ex
 have sc:=ck.scs x hx
 rw[eval_ListComp]
 refine wpAny_comprehension_free (use:=none) rfl hs hclos sc.kind sc.locs (thn (hi pins s σ H _ I h) fun xv s₁ h₁=>thn h₁ fun itv s₂ h₂=>?_)
 obtain⟨it,fp,tn,J,H2,e,I2,T,st2,f2,q⟩:=h₂
 subst e
 refine Zeu (RR:=fun acc C=>compPost (model X.prog X.w) X.A X.xe none (EP X pins σ Q) acc C) I2 ck hx hNd hc T st2 f2 q hb ht he hvs ?_
 intro D C s' H' m' hC I' hn hC0 hq
 refine⟨m',hn,fun h'' hs''=>⟨.ref D,H', ?_,rfl,hq⟩⟩
 refine I'.turned (t':=s'.toks) (it:=C) (fun b o hb e=>(hs''.2 b hb).trans e) hC0 (Zr4 (Zqx I2.lt hC)) (.inr (Zq3 I2.sz hC)) (fun y c e z=>?_) fun p hp z=>?_
 ·obtain⟨v,o,ho,hd⟩:=I2.cell y c e
  exact absurd (Heap.lt_size ho) (ZrC.mpr (by rw[z];exact hC))
 ·exact absurd (Heap.lt_size (I2.pin p hp).1) (ZrC.mpr (by rw[z];exact hC))
noncomputable def Zd5 (i:Nat) (wi:TI) (Bd:TB) (tt:TT) (te:TE):TS:=fun D σ H=>Zd6 wi Bd tt te σ H fun v H'=>D.nx (σ.set i (some v)) H'
theorem Zbf {i:Nat}{y:Str}{py spos:Pos}{wi:TI} (hN:X.N.Nodup) (hi:X.N[i]?=some y) (hit:PI X tg iter wi) (hb:PB X scope xs tg Bd) (ht:∀C s₂ H₂ ex,PCi (Za4 X scope xs C ex s₂ H₂) ifs tt) (he:∀C s₂ H₂ ex,PE (Za4 X scope xs C ex s₂ H₂) elt te) (hvs:∀x H vs,Bd x H vs->vs.length=xs.length) (hc:X.calm=true)
  (hsw:swapsWith (.ListComp elt [⟨tg,iter,ifs,0⟩] scope pos) (some (.Name y py)) spos.line X.env=pure true:=by rfl) (hy:X.env.scope.names.lookup y=some .local:=by rfl)
  (hclos:closureFor scope X.env=pure (Zev scope X.env):=by rfl) (hchk:QI X.N X.env.scope scope xs=true:=by rfl) (hs:∀x,foldedSetIterable iter X.env x=pure x:=by exact fun _=>rfl) :
  PS X (.Assign [.Name y py] (.ListComp elt [⟨tg,iter,ifs,0⟩] scope pos) spos) (Zd5 i wi Bd tt te):=by
 intro pins s σ H D0 I h
 have ck:=Qh hchk
 obtain⟨x,hx⟩:=ck.ex
 have sc:=ck.scs x hx
 rw[exec_Assign_Name_used _ _ _ _ hsw]
 refine wpAny_bind (wpAny_standAt (wpAny_bind ?_))
 show wpAny _ X.A (do let _ <- comprehension (.ListComp elt [⟨tg,iter,ifs,0⟩] scope pos) scope X.env _ (newList []) false (eval iter X.env) (some (assign (.Name y py) X.env))) _ _ s
 refine wpAny_bind (wpAny_mono (wpAny_comprehension_free (use:=some (assign (.Name y py) X.env)) (Q:=fun _ s'=>SP X pins D0 .next s') rfl hs hclos sc.kind sc.locs
  (thn (hit pins s σ H _ I h) fun xv s₁ h₁=>thn h₁ fun itv s₂ h₂=>?_)) (fun _ s' hq=>wpAny_pure (wpAny_pure hq)) fun _ _ e=>e)
 obtain⟨it,fp,tn,J,H2,e,I2,T,st2,f2,q⟩:=h₂
 subst e
 refine Zeu (RR:=fun acc C=>compPost (model X.prog X.w) X.A X.xe (some (assign (.Name y py) X.env)) (fun _ s'=>SP X pins D0 .next s') acc C) I2 ck hx hN hc T st2 f2 q hb ht he hvs ?_
 intro D C s' H' m' hC I' hn hC0 hq
 show wpAny _ X.A (assign (.Name y py) X.env (.ref D)) _ _ _
 have cellC:∀y c,X.env.cells.lookup y=some c->c≠C:=fun y c e z=>by
  obtain⟨v,o,ho,hd⟩:=I2.cell y c e
  exact absurd (Heap.lt_size ho) (ZrC.mpr (by rw[z];exact hC))
 have locC:C≠X.env.locals:=Zr4 (Zqx I2.lt hC)
 refine wpAny_assign_Name (ZaZ (i:=i) (v:=.ref D) I' hN hi (.inl hy) rfl (fun s'' I'' ⟨a,hsa,ha⟩=>?_) (.inr hy))
 have hCa:C≠a:=by
  rcases ha with z|z
  ·rw[z];exact locC
  ·exact(cellC _ _ z).symm
 refine⟨m',hn.sameBut hsa hCa,fun h'' hs''=>⟨σ.set i (some (.ref D)),H', ?_,hq⟩⟩
 refine I''.turned (t':=s''.toks) (it:=C) (fun b o hb e=>(hs''.2 b hb).trans e) hC0 locC (.inr (Zq3 I2.sz hC)) cellC fun p hp z=>?_
 exact absurd (Heap.lt_size (I2.pin p hp).1) (ZrC.mpr (by rw[z];exact hC))
end
noncomputable def ZgQ {α β:Type} (f:α->Rr (Option β)):List α->Rr (List β)
 |[]=>.ok []
 |x::xs=>(f x).bind fun o=>(ZgQ f xs).bind fun ys=>.ok (o.toList++ys)
def DB (K:W.Frag) (Bd:TB) (k:Nat) (hb:PV->Rr (List PV)):Prop:=(∀x e,hb x≠.exc e)/\∀(H:Hp) (S:Addr->Prop) (x:PV) (v:V) (xs:List PV),Rep K H S x v->hb x=.ok xs->xs.length=k/\∃vs,Bd v H vs/\ZS K H S xs vs
theorem ZmW {K:W.Frag}:DB K tB1 1 (fun x=>.ok [x]):=⟨fun x e h=>(by cases h),fun H S x v xs r h=>by
 cases h
 exact⟨rfl,[v],rfl,v,[],rfl,r,rfl⟩⟩
section
variable {K:W.Frag}{B:Addr->Prop}{EX:PX->Hp->Prop}{H0 H H':Hp}{σ:St}{Γ Γ' Γ1 Γ2 Γ3:List Md}{ρ:List PV}{F F':Nat->List Addr}{R:List Addr}{k:Nat}{x:PV}{v:V}{te tb tc:TE}{ta:TA}{tt:TT}{f fb fc fe:List PV->Rr PV}{c:List PV->Rr Bool}{fa:List PV->Rr (List PV)}{Bd:TB}{hb:PV->Rr (List PV)}
theorem Zl6:DT K EX Γ Γ Zpy (fun _=>.ok true):=fun B H0 H σ ρ F R Q A d=>d H F (Z4.refl H) (fun _ _ h=>h) A
theorem Ag.pushN:∀{xs:List PV}{vs:List V}{σ:St}{Γ:List Md}{ρ:List PV},ZS K H (NO B F R) xs vs->Ag K B H0 H σ Γ ρ F R->Ag K B H0 H (σ++vs.map some) (Γ++List.replicate xs.length .S) (ρ++xs) F R
 |[],vs,σ,Γ,ρ,h,A=>by
  have h:vs=[]:=h
  subst h
  simpa using A
 |x::xs,vs,σ,Γ,ρ,h,A=>by
  obtain⟨v,r,rfl,h1,h2⟩:=h
  have:=Ag.pushN (xs:=xs) (vs:=r) h2 (A.push h1)
  simpa[List.replicate_succ] using this
theorem Ag.popN {n:Nat}{τ:St}{xs:List PV} (A:Ag K B H0 H (σ++τ) (Γ++List.replicate n .S) (ρ++xs) F R) (l1:σ.length=Γ.length) (l2:ρ.length=Γ.length):Ag K B H0 H σ Γ ρ F R:=by
 refine⟨A.same,A.own,A.young,A.youngR,A.live,A.liveR,A.disj,A.disjR,l1,l2,fun i=>?_⟩
 have:=A.slot i
 by_cases h1:i<Γ.length
 ·rw[Zqi,Zqi,Zqr h1,Zqr (by rw[l2];exact h1),Zqr (by rw[l1];exact h1),<- Zqi,<- Zqi] at this
  exact this
 ·rw[Zqi,ZqI (by omega)]
  by_cases h2:i<Γ.length+n
  ·rw[Zqi,Zqv (by omega),Zr6,if_pos (by omega)] at this
   simp only[Zr2] at this
   exact this.1
  ·exact A.outF (by simp;omega)
theorem QE {wi:TI}{fi:List PV->Rr (List PV)} (hi:DIc K EX Γ Γ1 wi fi) (hB:DB K Bd k hb) (ht:DT K EX (Γ1++List.replicate k .S) (Γ1++List.replicate k .S) tt c) (he:DE K EX (Γ1++List.replicate k .S) (Γ1++List.replicate k .S) .F te fe) :
  DE K EX Γ Γ1 .F (Zd6 wi Bd tt te) (fun ρ=>(fi ρ).bind fun xs=>(lenM xs).bind fun _=>(ZgQ (fun x=>(hb x).bind fun as=>(c (ρ++as)).bind fun b=>if b=true then (fe (ρ++as)).bind fun y=>.ok (some y) else .ok none) xs).bind fun ys=>.ok (.lst ys)):=fun B H0 H σ ρ F R Q A d=>by
 refine hi B H0 H σ ρ F R _ A (d.bind.imp (fun xs _ d J H1 F1 s1 f1 A1 it=>?_) fun e q=>q)
 obtain⟨hlen,d⟩:=Dn.lenM d.bind
 generalize hgx:(fun x=>(hb x).bind fun as=>(c (ρ++as)).bind fun b=>if b=true then (fe (ρ++as)).bind fun y=>Rr.ok (some y) else .ok none)=gx at d
 have l1:=A1.lenS
 have l2:=A1.lenR
 refine⟨fun i m ys H2=>∃zs G F2,m=xs.length-i/\i<=xs.length/\ys.length<=i/\Z4 H1 H2/\Zw K H2 zs ys G/\(∀a∈G,a ∉ R/\(H1 a=none\/∃j,a∈F1 j))/\(∀i,∀a∈F2 i,a∈F1 i)/\Ag K B H0 H2 σ Γ1 ρ F2 (G++R) /\
  Dn ((ZgQ gx (xs.drop i)).bind fun ys'=>.ok (.lst (zs++ys'))) (fun x=>∀v H',Z4 H H'->Res K B H0 H σ Γ1 ρ F R .F x v H'->Q v H') (fun e=>∀H',Z4 H0 H'->EX e H'),
  ⟨xs.length,[],[],F1,by simp,ZqA _,Zqn _,Z4.refl _,⟨rfl,rfl⟩,by simp,fun _ _ h=>h,A1,by simpa using d⟩, ?_⟩
 rintro i m ys H2 ⟨zs,G,F2,rfl,hi',hl,s2,tr,o2,f2,A2,dn⟩
 refine⟨U4 (by omega), ?_⟩
 have itp:=it H2 F2 s2 f2 i
 cases hx:xs[i]? with
 |none =>
  refine .inl ⟨itp.2 hx,fun p hp=>?_⟩
  have hd:xs.drop i=[]:=ZqX (ZqQ.mp hx)
  rw[hd] at dn
  have dn':∀v H',Z4 H H'->Res K B H0 H σ Γ1 ρ F R .F (.lst (zs++[])) v H'->Q v H':=dn
  rw[Zrc] at dn'
  exact dn' _ _ ((s1.trans s2).trans (Z4.new hp)) (Res.newF (s1.trans s2) (fun i a h=>f1 i a (f2 i a h)) tr (fun a ha=>⟨(o2 a ha).1,(o2 a ha).2.elim (fun z=>.inl (s1.free z)) fun⟨j,z⟩=>.inr ⟨j,f1 j a z⟩⟩) A2 hp)
 |some x =>
  have hlt:i<xs.length:=(Zql.mp hx).1
  obtain⟨go,yl⟩:=itp.1 x hx
  have hdx:xs.drop i=x::xs.drop (i+1):=by
   rw[ZqD hlt]
   rw[Zqm hlt] at hx;cases hx;rfl
  rw[hdx] at dn
  simp only[ZgQ,Rr.assoc] at dn
  rw[<- hgx] at dn
  simp only[Rr.assoc] at dn
  rw[hgx] at dn
  refine .inr ⟨go,fun ys' H'=>∃zs G F2,ys'.length<=i+1/\Z4 H1 H'/\Zw K H' zs ys' G/\(∀a∈G,a ∉ R/\(H1 a=none\/∃j,a∈F1 j))/\(∀i,∀a∈F2 i,a∈F1 i)/\Ag K B H0 H' σ Γ1 ρ F2 (G++R) /\
   Dn ((ZgQ gx (xs.drop (i+1))).bind fun ys'=>.ok (.lst (zs++ys'))) (fun x=>∀v H',Z4 H H'->Res K B H0 H σ Γ1 ρ F R .F x v H'->Q v H') (fun e=>∀H',Z4 H0 H'->EX e H'),
   fun ys' H' ⟨zs,G,F2,a1,a2,a3,a4,a5,a6,a7⟩=>⟨xs.length-(i+1),by omega,zs,G,F2,rfl,hlt,a1,a2,a3,a4,a5,a6,a7⟩,fun v H3 y=>?_⟩
  obtain⟨s3,rx⟩:=yl v H3 y
  have rx':Rep K H3 (NO B F2 (G++R)) x v:=Rep.mono (fun a us s r=>⟨r,s.1.1,fun z=>by
   rcases Zqo.mp z with z|z
   ·rcases (o2 a z).2 with q|⟨j,q⟩
    ·exact s.2.1 q
    ·exact s.2.2 j q
   ·exact s.1.2.1 z,s.1.2.2⟩) (fun a us r=>r) rx
  cases hbx:hb x with
  |exc e=>exact absurd hbx (hB.1 x e)
  |bad=>rw[hbx] at dn;exact dn.elim
  |ok as =>
   rw[hbx] at dn
   simp only[Rr.bind_ok] at dn
   obtain⟨hk,vs,bd,ra⟩:=hB.2 H3 _ x v as rx' hbx
   refine⟨vs,bd, ?_⟩
   have A3:=Ag.pushN ra (A2.grow s3)
   rw[hk] at A3
   refine ht B H0 H3 _ _ F2 (G++R) _ A3 (dn.bind.imp (fun b _ dn H4 F4 s4 f4 A4=>?_) fun e q=>q)
   cases b with
   |false =>
    rw[if_neg Bool.false_ne_true] at dn ⊢
    simp only[Rr.bind_ok,Zsd] at dn
    refine⟨zs,G,F4,by omega,(s2.trans s3).trans s4,(tr.same s3).same s4,o2,fun i a h=>f2 i a (f4 i a h),A4.popN l1 l2, ?_⟩
    simp only[Rr.assoc,Rr.bind_ok,Zrd] at dn
    exact dn
   |true =>
    rw[if_pos rfl] at dn ⊢
    simp only[Rr.assoc] at dn
    refine he B H0 H4 _ _ F4 (G++R) _ A4 (dn.bind.imp (fun z _ dn w H5 s5 r5=>?_) fun e q=>q)
    obtain⟨F5,f5,G5,t5,o5,A5⟩:=r5
    refine⟨zs++[z],G++G5,F5,by simp;omega,((s2.trans s3).trans s4).trans s5,Zw.append (((tr.same s3).same s4).same s5) (Zw.one t5) (fun a ha z=>(o5 a z).1 (Zqp _ ha)),fun a ha=>?_,fun i a h=>f2 i a (f4 i a (f5 i a h)),(A5.popN l1 l2).less fun a ha=>?_, ?_⟩
    ·rcases Zqo.mp ha with z|z
     ·exact o2 a z
     ·refine⟨fun q=>(o5 a z).1 (Zqj _ q), ?_⟩
      rcases (o5 a z).2 with q|⟨j,q⟩
      ·exact .inl (((s2.trans s3).trans s4).free q)
      ·exact .inr ⟨j,f2 j a (f4 j a q)⟩
    ·simp only[Zqo] at ha ⊢
     rcases ha with (z|z)|z
     ·exact .inr (.inl z)
     ·exact .inl z
     ·exact .inr (.inr z)
    ·simp only[Rr.assoc,Rr.bind_ok,Zsd,Zqs,Zrs] at dn ⊢
     exact dn
theorem Zb9 {EX:PX->Hp->Prop}{kd:Kd}{i:Nat}{wi:TI} (he:DE K EX Γ Γ' .F (Zd6 wi Bd tt te) f) (hi:i<Γ'.length):DS K EX Γ ⟨Γ'.set i .O,Γ1,Γ2,kd⟩ (Zd5 i wi Bd tt te) (fun ρ=>(f ρ).thenS fun x=>.next (ρ.set i x)):=Wh he hi
end
theorem hv1 {n:Str}:∀(x:V) (H:Hp) (vs:List V),tB1 x H vs->vs.length=[n].length:=fun _ _ _ h=>congrArg List.length h
section
variable {X:Cx}{K:W.Frag}
end
section
variable {K:W.Frag}{EX:PX->Hp->Prop}{Γ Γ1 Γ2:List Md}{te:TE}{ta:TA}{f:List PV->Rr PV}{fa:List PV->Rr (List PV)}
end
theorem Zg4 {xs:List PV}{y:PV} (h:xs.length<1000000):pApp (.lst xs) y=.ok (.lst (xs++[y])):=if_pos h
theorem ZoV:Zn1 (.int 10) (.int 62)=.ok (.int (10^62)):=by rw[ZeY (by decide)];rfl
theorem ZoW:Zn1 (.int 10) (.int 61)=.ok (.int (10^61)):=by rw[ZeY (by decide)];rfl
theorem Zkq {i j:Int}:Zkr [.int i,.int j]=.ok (.int (if j>i then j else i)):=rfl
theorem Zpq {a b:PV}:asT 2 (.tup [a,b])=.ok [a,b]:=rfl
noncomputable def ZpP:Nat:=4000000
def Zo0 (i j:Int):Prop:=i.natAbs<2^ZpP/\j.natAbs<2^ZpP
noncomputable instance (i j:Int):Decidable (Zo0 i j):=by unfold Zo0;infer_instance
end L2
namespace Att
open PySem PySem.W PySem.Calls PyProof.Rows
end Att
namespace L2
open PySem PySem.Spec PyProof.Rows
section
variable {X:Cx}{K:W.Frag}
end
noncomputable def okE (x:PV):Bool:=x.noX&&x.dat.canLay0&&decide (x.dat.depth<=60)
noncomputable def Zo2 (K:W.Frag) (g:Bool->Bool):R2:=fun x y H Q=>∃p qs a vs,Rep K H (fun _=>True) p x/\y=.ref a/\(SqL K H a vs\/SqT K H a vs)/\ZS K H (fun _=>True) qs vs/\okE p=true/\(qs.all okE)=true/\Q (.bl (g (qs.any fun q=>PyData.eqv q.dat p.dat))) H
open Classical in
noncomputable def Zh6 (h:Heap) (dx:PyData) (y:Value):Bool:=if hy:∃d as,Reads h y d as/\d.canLay0=true/\d.depth<=60 then PyData.eqv hy.choose dx else false
section
variable {X:Cx}{K:W.Frag}
theorem Zeh {H:Hp}{pins:List (Addr×Obj)}{σ:St}{s:Shared}{S:Addr->Prop} (I:Inv X pins σ H s) (dx:PyData):∀{qs:List PV}{vs:List V}{us:List Value},ZS X.K H S qs vs->YO vs us->(qs.all okE)=true ->
  (us.any (Zh6 s.heap dx)=qs.any fun q=>PyData.eqv q.dat dx)/\∀y∈us,∃d as,Reads s.heap y d as/\d.canLay0=true/\d.depth<=60
 |[],_,us,h,r,_=>by
  rw[h] at r;cases r
  exact⟨rfl,by simp⟩
 |q::qs,_,us,h,r,hk=>by
  obtain⟨v,vs,rfl,h1,h2⟩:=h
  simp only[List.all_cons,Bool.and_eq_true] at hk
  cases r with
  |cons r1 r2 =>
   rename_i u us
   obtain⟨e1,e2⟩:=Zeh I dx h2 r2 hk.2
   have h3:=hk.1
   simp only[okE,Bool.and_eq_true,decide_eq_true_eq] at h3
   obtain⟨as,ra⟩:=h1.reads I h3.1.1 r1
   have hx:∃d as,Reads s.heap u d as/\d.canLay0=true/\d.depth<=60:=⟨_,_,ra,h3.1.2,h3.2⟩
   refine⟨?_,fun y hy=>?_⟩
   ·have:Zh6 s.heap dx u=PyData.eqv q.dat dx:=by
     unfold Zh6
     rw[dif_pos hx]
     obtain⟨as',ra',c1,c2⟩:=hx.choose_spec
     rw[SeqAt.Reads.unique _ _ _ _ _ c1 ra' ra]
    rw[Zrq,Zrq,e1,this]
   ·rcases Zqw.mp hy with rfl|hy
    ·exact hx
    ·exact e2 y hy
theorem Zl2 {H:Hp}{pins:List (Addr×Obj)}{σ:St}{s:Shared}{g:Bool->Bool}{x y:V}{v u:Value}{Q:VK} (I:Inv X pins σ H s) (hu:X.A.units+64<cLine) (rx:WG x v) (ry:WG y u) (h:Zo2 X.K g x y H Q) :
  ∃a items,u=.ref a/\(s.heap.IsList a items\/s.heap.IsTuple a items)/\∃e:Value->Bool,(∀y,y∈items->SeqAt.EqAt X.A.in1 s y v (e y))/\Q (.bl (g (items.any e))) H:=by
 obtain⟨p,qs,a,vs,h1,rfl,hq,hr,h3,h4,q⟩:=h
 cases ry
 simp only[okE,Bool.and_eq_true,decide_eq_true_eq] at h3
 obtain⟨as,ra⟩:=h1.reads I h3.1.1 rx
 have fin:∀its:List Value,YO vs its->(∀y,y∈its.toArray->SeqAt.EqAt X.A.in1 s y v (Zh6 s.heap p.dat y))/\Q (.bl (g (its.toArray.any (Zh6 s.heap p.dat)))) H:=fun its rv=>by
  obtain⟨e1,e2⟩:=Zeh I p.dat hr rv h4
  refine⟨fun y hy=>?_, ?_⟩
  ·have hx:=e2 y (by simpa using hy)
   unfold Zh6
   rw[dif_pos hx]
   obtain⟨as',ra',c1,c2⟩:=hx.choose_spec
   refine SeqAt.eqAt_reads _ _ _ _ _ _ _ _ ra' ra c1 h3.1.2 ?_
   have:=ZrQ hx.choose.depth p.dat.depth
   have hin:X.A.in1.units<=X.A.units+1:=by simp[Around.in1]
   omega
  ·rw[List.any_toArray,e1];exact q
 rcases hq with hq|hq
 ·obtain⟨its,rv,pl,hz⟩:=I.list hq
  obtain⟨f1,f2⟩:=fin its rv
  exact⟨a,its.toArray,rfl,.inl pl.isList,_,f1,f2⟩
 ·obtain⟨its,rv,pl,hz⟩:=I.tuple hq
  obtain⟨f1,f2⟩:=fin its rv
  exact⟨a,its.toArray,rfl,.inr pl,_,f1,f2⟩
theorem Zn9 (hu:X.A.units+64<cLine) (e:X.K=K:=by rfl):OpR X (compareOp .In) (Zo2 K id):=by
 subst e
 intro pins s σ H x y v u Q I rx ry h
 obtain⟨a,items,rfl,hl,e,he,q⟩:=Zl2 I hu rx ry h
 rcases hl with hl|hl
 ·exact SeqAt.in_listAt e hl he ⟨.bl _,H,I,rfl,q⟩
 ·exact SeqAt.in_tupleAt e hl he ⟨.bl _,H,I,rfl,q⟩
theorem Q4 (hu:X.A.units+64<cLine) (e:X.K=K:=by rfl):OpR X (compareOp .NotIn) (Zo2 K (!·)):=by
 subst e
 intro pins s σ H x y v u Q I rx ry h
 obtain⟨a,items,rfl,hl,e,he,q⟩:=Zl2 I hu rx ry h
 rcases hl with hl|hl
 ·exact SeqAt.notIn_listAt e hl he ⟨.bl _,H,I,rfl,q⟩
 ·exact SeqAt.notIn_tupleAt e hl he ⟨.bl _,H,I,rfl,q⟩
end
noncomputable def Zlr (g:Bool->Bool) (x y:PV):Rr PV:=match y with
 |.lst ys=>if (okE x&&ys.all okE)=true then .ok (.bl (g (ys.any fun q=>PyData.eqv q.dat x.dat))) else .bad
 |.tup ys=>if (okE x&&ys.all okE)=true then .ok (.bl (g (ys.any fun q=>PyData.eqv q.dat x.dat))) else .bad
 |_=>.bad
section
variable {K:W.Frag}{EX:PX->Hp->Prop}{Γ Γ' Γ1 Γ2:List Md}{tb tc:TE}{ta:TA}{fb fc:List PV->Rr PV}{fa:List PV->Rr (List PV)}
theorem Zel {g:Bool->Bool} (ha:DE K EX Γ Γ1 .A tb fb) (hb:DE K EX Γ1 Γ2 .A tc fc):DE K EX Γ Γ2 .P (tOp (Zo2 K g) tb tc) (fun ρ=>(fb ρ).bind fun x=>(fc ρ).bind fun y=>Zlr g x y):=by
 refine ZkJ (fun {H x y v w Q} rx ry ⟨z,e,q⟩=>?_) (fun x y z h=>?_) (fun x y e h=>?_) ha hb
 ·unfold Zlr at e
  split at e
  ·split at e
   ·rename_i ys hk
    cases e
    rw[Bool.and_eq_true] at hk
    obtain⟨a,vs,rfl,hn,hr⟩:=ry
    exact⟨x,_,a,vs,rx,rfl,.inl (UA (S:=fun _=>True) hn),hr,hk.1,hk.2,q rfl _ rfl⟩
   ·cases e
  ·split at e
   ·rename_i ys hk
    cases e
    rw[Bool.and_eq_true] at hk
    obtain⟨a,vs,rfl,hn,hr⟩:=ry
    exact⟨x,_,a,vs,rx,rfl,.inr hn.sqT,hr,hk.1,hk.2,q rfl _ rfl⟩
   ·cases e
  ·cases e
 ·unfold Zlr at h
  split at h
  ·split at h<;>cases h;rfl
  ·split at h<;>cases h;rfl
  ·cases h
 ·unfold Zlr at h
  split at h
  ·split at h<;>cases h
  ·split at h<;>cases h
  ·cases h
end
section
variable {K:W.Frag}{EX:PX->Hp->Prop}{Γ Γ1 Γ2 Γ3:List Md}{te:TE}{f:List PV->Rr PV}
end
theorem Zme {X:Cx}{K:W.Frag}{tg l:Expr}{tl:TE} (hl:PE X l tl) (e:X.K=K:=by rfl):PI X tg l (Zpc K tl):=by subst e;exact Znv hl
noncomputable def ZpN (x:PV):Rr (List PV):=match x with
 |.tup xs=>.ok xs
 |_=>.bad
section
variable {K:W.Frag}{H:Hp}{EX:PX->Hp->Prop}{Γ Γ':List Md}{te:TE}{f:List PV->Rr PV}
theorem Zm0 {a:Addr}{xs:List PV}{S:Addr->Prop} (h:Rep K H S (.tup xs) (.ref a)):ItP K S (Itt K a) xs H:=by
 obtain⟨a',vs,e,hn,hr⟩:=h
 cases e
 intro i
 constructor
 ·intro x hx
  obtain⟨u,e1,e2⟩:=hr.get hx
  refine⟨⟨vs,u,hn.sqT,e1⟩,fun v H' ⟨e,y⟩=>?_⟩
  subst e
  have:=y vs hn.sqT
  rw[e1] at this;cases this
  exact⟨Z4.refl _,e2⟩
 ·intro hx
  exact⟨vs,hn.sqT,by rw[hr.length];exact ZqQ.mp hx⟩
theorem Zof (he:DE K EX Γ Γ' .Z te f):DI K EX Γ Γ' (Zpc K te) (fun ρ=>(f ρ).bind ZpN):=fun B H0 H σ ρ F R Q A d=>by
 refine he B H0 H σ ρ F R _ A (d.bind.imp (fun x _ d v H1 s1 r1=>?_) fun e q=>q)
 obtain⟨F1,f1,p1,A1⟩:=r1
 cases x with
 |tup xs =>
  obtain⟨a,vs,rfl,hn,hr⟩:=id p1
  exact⟨a,rfl,⟨vs,hn.sqT⟩,d _ H1 F1 s1 f1 A1 fun H2 F2 h=>Zm0 (p1.frm h A1)⟩
 |_=>exact d.elim
end
section
variable {K:W.Frag}{EX:PX->Hp->Prop}{Γ Γ1 Γ2 Γ3:List Md}{k:Kd}{H:Hp}
end
section
variable {K:W.Frag}{B:Addr->Prop}{EX:PX->Hp->Prop}{H0 H H':Hp}{σ:St}{Γ Γ' Γ1 Γ2 Γ3:List Md}{ρ:List PV}{F F':Nat->List Addr}{R:List Addr}{k:Nat}{kd:Kd}{x:PV}{v:V}{te ta tb tc:TE}{tt:TT}{f fa fb fc fe:List PV->Rr PV}{c:List PV->Rr Bool}{Bd:TB}{hb:PV->Rr (List PV)}
theorem Zjt {wi:TI}{fi:List PV->Rr (List PV)} (hi:DIc K EX Γ Γ1 wi fi) (hB:DB K Bd k hb) (ht:DT K EX (Γ1++List.replicate k .S) (Γ1++List.replicate k .S) tt c) (he:DE K EX (Γ1++List.replicate k .S) (Γ1++List.replicate k .S) .Z te fe) :
  DE K EX Γ Γ1 .T (Zd6 wi Bd tt te) (fun ρ=>(fi ρ).bind fun xs=>(lenM xs).bind fun _=>(ZgQ (fun x=>(hb x).bind fun as=>(c (ρ++as)).bind fun b=>if b=true then (fe (ρ++as)).bind fun y=>.ok (some y) else .ok none) xs).bind fun ys=>.ok (.lst ys)):=fun B H0 H σ ρ F R Q A d=>by
 refine hi B H0 H σ ρ F R _ A (d.bind.imp (fun xs _ d J H1 F1 s1 f1 A1 it=>?_) fun e q=>q)
 obtain⟨hlen,d⟩:=Dn.lenM d.bind
 generalize hgx:(fun x=>(hb x).bind fun as=>(c (ρ++as)).bind fun b=>if b=true then (fe (ρ++as)).bind fun y=>Rr.ok (some y) else .ok none)=gx at d
 have l1:=A1.lenS
 have l2:=A1.lenR
 refine⟨fun i m ys H2=>∃zs F2,m=xs.length-i/\i<=xs.length/\ys.length<=i/\Z4 H1 H2/\ZS K H2 (NO B F2 R) zs ys/\(∀i,∀a∈F2 i,a∈F1 i)/\Ag K B H0 H2 σ Γ1 ρ F2 R /\
  Dn ((ZgQ gx (xs.drop i)).bind fun ys'=>.ok (.lst (zs++ys'))) (fun x=>∀v H',Z4 H H'->Res K B H0 H σ Γ1 ρ F R .T x v H'->Q v H') (fun e=>∀H',Z4 H0 H'->EX e H'),
  ⟨xs.length,[],F1,by simp,ZqA _,Zqn _,Z4.refl _,rfl,fun _ _ h=>h,A1,by simpa using d⟩, ?_⟩
 rintro i m ys H2 ⟨zs,F2,rfl,hi',hl,s2,tr,f2,A2,dn⟩
 refine⟨U4 (by omega), ?_⟩
 have itp:=it H2 F2 s2 f2 i
 cases hx:xs[i]? with
 |none =>
  refine .inl ⟨itp.2 hx,fun p hp=>?_⟩
  have hd:xs.drop i=[]:=ZqX (ZqQ.mp hx)
  rw[hd] at dn
  have dn':∀v H',Z4 H H'->Res K B H0 H σ Γ1 ρ F R .T (.lst (zs++[])) v H'->Q v H':=dn
  rw[Zrc] at dn'
  exact dn' _ _ ((s1.trans s2).trans (Z4.new hp)) (Res.newT (s1.trans s2) (fun i a h=>f1 i a (f2 i a h)) tr A2 hp)
 |some x =>
  have hlt:i<xs.length:=(Zql.mp hx).1
  obtain⟨go,yl⟩:=itp.1 x hx
  have hdx:xs.drop i=x::xs.drop (i+1):=by
   rw[ZqD hlt]
   rw[Zqm hlt] at hx;cases hx;rfl
  rw[hdx] at dn
  simp only[ZgQ,Rr.assoc] at dn
  rw[<- hgx] at dn
  simp only[Rr.assoc] at dn
  rw[hgx] at dn
  refine .inr ⟨go,fun ys' H'=>∃zs F2,ys'.length<=i+1/\Z4 H1 H'/\ZS K H' (NO B F2 R) zs ys'/\(∀i,∀a∈F2 i,a∈F1 i)/\Ag K B H0 H' σ Γ1 ρ F2 R /\
   Dn ((ZgQ gx (xs.drop (i+1))).bind fun ys'=>.ok (.lst (zs++ys'))) (fun x=>∀v H',Z4 H H'->Res K B H0 H σ Γ1 ρ F R .T x v H'->Q v H') (fun e=>∀H',Z4 H0 H'->EX e H'),
   fun ys' H' ⟨zs,F2,a1,a2,a3,a4,a5,a6⟩=>⟨xs.length-(i+1),by omega,zs,F2,rfl,hlt,a1,a2,a3,a4,a5,a6⟩,fun v H3 y=>?_⟩
  obtain⟨s3,rx⟩:=yl v H3 y
  have rx':Rep K H3 (NO B F2 R) x v:=Rep.mono (fun a us s r=>⟨r,s.1⟩) (fun a us r=>r) rx
  cases hbx:hb x with
  |exc e=>exact absurd hbx (hB.1 x e)
  |bad=>rw[hbx] at dn;exact dn.elim
  |ok as =>
   rw[hbx] at dn
   simp only[Rr.bind_ok] at dn
   obtain⟨hk,vs,bd,ra⟩:=hB.2 H3 _ x v as rx' hbx
   refine⟨vs,bd, ?_⟩
   have A3:=Ag.pushN ra (A2.grow s3)
   rw[hk] at A3
   refine ht B H0 H3 _ _ F2 R _ A3 (dn.bind.imp (fun b _ dn H4 F4 s4 f4 A4=>?_) fun e q=>q)
   have low:∀{F4 F5:Nat->List Addr}{Hx:Hp}{us:List PV}{ws:List V},(∀i,∀a∈F5 i,a∈F4 i)->ZS K Hx (NO B F4 R) us ws->ZS K Hx (NO B F5 R) us ws:=fun hF h=>ZS.mono (fun a us s r=>⟨r,s.1,s.2.1,fun i z=>s.2.2 i (hF i a z)⟩) (fun a us r=>r) h
   cases b with
   |false =>
    rw[if_neg Bool.false_ne_true] at dn ⊢
    simp only[Rr.bind_ok,Zsd] at dn
    refine⟨zs,F4,by omega,(s2.trans s3).trans s4,low f4 ((tr.same s3).same s4),fun i a h=>f2 i a (f4 i a h),A4.popN l1 l2, ?_⟩
    simp only[Rr.assoc,Rr.bind_ok,Zrd] at dn
    exact dn
   |true =>
    rw[if_pos rfl] at dn ⊢
    simp only[Rr.assoc] at dn
    refine he B H0 H4 _ _ F4 R _ A4 (dn.bind.imp (fun z _ dn w H5 s5 r5=>?_) fun e q=>q)
    obtain⟨F5,f5,t5,A5⟩:=r5
    refine⟨zs++[z],F5,by simp;omega,((s2.trans s3).trans s4).trans s5,ZS.append (low (fun i a h=>f4 i a (f5 i a h)) (((tr.same s3).same s4).same s5)) (ZS.one t5),fun i a h=>f2 i a (f4 i a (f5 i a h)),A5.popN l1 l2, ?_⟩
    simp only[Rr.assoc,Rr.bind_ok,Zsd,Zqs,Zrs] at dn ⊢
    exact dn
end
section
variable {X:Cx}
end
theorem ZcJ {xs:List PV}:ZiB [.lst xs]=.ok (.int xs.length):=by simp[ZiB]
theorem Zmk {xs:List PV}{k:Int} (h0:0<=k) (h1:k<xs.length):pIx (.lst xs) (.int k)=.ok (xs.getD k.toNat .non):=by
 simp only[pIx,atI,ZgK h0 h1,Option.bind_some]
 rw[Zqi,Zqm (by omega)]
 rfl
theorem ZdJ {a b:List Int×Int} (h1:HL.Jq a b=false) (h2:HL.Jq b a=false):a=b:=by
 unfold HL.Jq at h1 h2
 by_cases e:a.1=b.1
 ·rw[if_pos e] at h1
  rw[if_pos e.symm] at h2
  have:=of_decide_eq_false h1
  have:=of_decide_eq_false h2
  exact Prod.ext e (by omega)
 ·rw[if_neg e] at h1
  rw[if_neg (Ne.symm e)] at h2
  exact absurd (HL.Js h1 h2) e
def Zpu (ts:List (List Int×Int)) (t:List Int×Int):Prop:=t∈ts/\∀u∈ts,HL.Jq u t=false
section
variable {K:W.Frag}{B:Addr->Prop}{EX:PX->Hp->Prop}{H0 H H':Hp}{σ:St}{Γ Γ' Γ1 Γ2 Γ3:List Md}{ρ:List PV}{F F':Nat->List Addr}{R:List Addr}{te:TE}{f:List PV->Rr PV}
end
section
variable {X:Cx}{K:W.Frag}
end
structure Dat (n:Nat) (x:PV):Prop where
 nx:x.noX=true
 can:x.dat.canLay0=true
 dep:x.dat.depth<=n
theorem Dat.ok {n:Nat}{x:PV} (h:Dat n x) (hn:n<=64:=by decide):okD x=true:=by
 unfold okD
 rw[h.nx,h.can,decide_eq_true (Zq3 h.dep hn)];rfl
theorem Zf3 (i:Int):Dat 0 (.int i):=⟨rfl,by simp[PV.dat,PyData.canLay0],by simp[PV.dat,PyData.depth]⟩
theorem ZgV {n:Nat}:∀{xs:List PV},(∀x∈xs,Dat n x)->PV.noXs xs=true/\PyData.canLayAll0 (PV.dats xs)=true/\PyData.depthAll (PV.dats xs)<=n
 |[],_=>⟨rfl,rfl,ZqA _⟩
 |x::xs,h=>by
  obtain⟨h1,h2,h3⟩:=ZgV (xs:=xs) fun y hy=>h y (by simp[hy])
  have hx:=h x (by simp)
  refine⟨by simp[PV.noXs,hx.nx,h1],by simp[PV.dats,PyData.canLayAll0,hx.can,h2], ?_⟩
  simp only[PV.dats,PyData.depthAll]
  exact Nat.max_le.mpr ⟨hx.dep,h3⟩
theorem Zjx {n:Nat}{xs:List PV} (h:∀x∈xs,Dat n x):Dat (n+1) (.lst xs):=by
 obtain⟨h1,h2,h3⟩:=ZgV h
 exact⟨by simp[PV.noX,h1],by simp[PV.dat,PyData.canLay0,h2],by simp only[PV.dat,PyData.depth];omega⟩
theorem QG (ns:List Int):Dat 1 (.lst (ns.map PV.int)):=Zjx fun x hx=>by
 obtain⟨i,_,rfl⟩:=Zq4.mp hx
 exact Zf3 i
theorem QC {f:PV->Rr (Option PV)}{p:Nat->Bool}{g:Nat->PV}{lo:Int}{n:Nat} (h:∀i,i<n->f (.int (lo+(i:Nat)))=.ok (if p i=true then some (g i) else none)):ZgQ f (ZeG lo n)=.ok (((List.range n).filter p).map g):=by
 have key:∀(l:List Nat),(∀i∈l,i<n)->ZgQ f (l.map fun(i:Nat)=>PV.int (lo+i))=.ok ((l.filter p).map g):=by
  intro l
  induction l with
  |nil=>intro _;rfl
  |cons a l ih =>
   intro hl
   simp only[Zqz,ZgQ,h a (hl a (by simp)),Rr.bind_ok,ih fun i hi=>hl i (by simp[hi])]
   cases hp:p a<;>simp[hp,Zsg]
 exact key _ fun i hi=>ZqK.mp hi
theorem Zky {f:PV->Rr PV}{g:Nat->PV}{lo:Int}{n:Nat} (h:∀i,i<n->f (.int (lo+(i:Nat)))=.ok (g i)):Zdy f (ZeG lo n)=.ok ((List.range n).map g):=by
 have key:∀(l:List Nat),(∀i∈l,i<n)->Zdy f (l.map fun(i:Nat)=>PV.int (lo+i))=.ok (l.map g):=by
  intro l
  induction l with
  |nil=>intro _;rfl
  |cons a l ih =>
   intro hl
   simp only[Zqz,Zdy,h a (hl a (by simp)),Rr.bind_ok,ih fun i hi=>hl i (by simp[hi])]
 exact key _ fun i hi=>ZqK.mp hi
theorem ZoR {α:Type}{q:α->PV}{L:List α}{k:Int}{d:α} (h0:0<=k) (h1:k<L.length):pIx (.lst (L.map q)) (.int k)=.ok (q (L.getD k.toNat d)):=by
 rw[Zmk h0 (by simpa using h1),Zqi,Zqi,Zq7,Zqm (by omega)]
 rfl
noncomputable def Zkp (xs:List PV):Rr PV:=match xs with
 |[.int i,.int j]=>.ok (.int (if j<i then j else i))
 |_=>.bad
theorem Zko {i j:Int}:Zkp [.int i,.int j]=.ok (.int (if j<i then j else i)):=rfl
section
variable {K:W.Frag}{EX:PX->Hp->Prop}{Γ Γ':List Md}{ta:TA}{fa:List PV->Rr (List PV)}
theorem ZmF (ha:DAA K EX Γ Γ' ta fa):DE K EX Γ Γ' .P (tCB (fun xs H Q=>∃i j,xs=[.int i,.int j]/\Q (.int (if j<i then j else i)) H) ta) (fun ρ=>(fa ρ).bind Zkp):=by
 refine Zh7 (fun {H xs vs Q} h z e=>?_) (fun xs e h=>?_) ha
 ·unfold Zkp at e
  split at e<;>first|(cases e;done)|skip
  cases e
  obtain⟨v,w,rfl,h1,h2⟩:=ZlV h
  cases h1;cases h2
  exact⟨rfl,fun q=>⟨_,_,rfl,q _ rfl⟩⟩
 ·unfold Zkp at h;split at h<;>cases h
end
theorem us1 {α:Type}{us:List α} (h:us.length=1):∃a,us=[a]:=match us,h with | [a],_=>⟨a,rfl⟩
theorem us2 {α:Type}{us:List α} (h:us.length=2):∃a b,us=[a,b]:=match us,h with | [a,b],_=>⟨a,b,rfl⟩
theorem us3 {α:Type}{us:List α} (h:us.length=3):∃a b c,us=[a,b,c]:=match us,h with | [a,b,c],_=>⟨a,b,c,rfl⟩
theorem us5 {α:Type}{us:List α} (h:us.length=5):∃a b c d e,us=[a,b,c,d,e]:=match us,h with | [a,b,c,d,e],_=>⟨a,b,c,d,e,rfl⟩
section
variable {prog:Program}{w:World}{A:Around}{s:Shared}{R:Result->Shared->Prop}
variable {I:Addr}{fp wr:List Addr}{G:Array GenState->Array GenState->Prop}{n:Nat}{P:Nat->Value->Prop}{St:Nat->Shared->Prop}
end
section
variable {prog:Program}{w:World}{A:Around}{E:Value->Shared->Prop}{s:Shared}
variable {I:Addr}{fp wr:List Addr}{G:Array GenState->Array GenState->Prop}{n:Nat}{P:Nat->Value->Prop}{St:Nat->Shared->Prop}
end
section
variable {X:Cx}{K:W.Frag}{e:Expr}{te:TE}{n1 n2 pos pos':Pos}
end
section
variable {K:W.Frag}{B:Addr->Prop}{EX:PX->Hp->Prop}{H0 H H':Hp}{σ:St}{Γ Γ':List Md}{ρ:List PV}{F F':Nat->List Addr}{R:List Addr}{te:TE}{f:List PV->Rr PV}{S:Addr->Prop}
end
theorem Dat.okE {n:Nat}{x:PV} (h:Dat n x) (hn:n<=60:=by decide):okE x=true:=by
 unfold L2.okE
 rw[h.nx,h.can,decide_eq_true (Zq3 h.dep hn)];rfl
theorem Zhr {g:Bool->Bool}{l:List Int}{M:List (List Int)}:Zlr g (.lst (l.map PV.int)) (.lst (M.map fun q=>.lst (q.map PV.int)))=.ok (.bl (g (decide (l∈M)))):=by
 have h1:(okE (.lst (l.map PV.int))&&(M.map fun q=>PV.lst (q.map PV.int)).all okE)=true:=by
  rw[(QG l).okE,Bool.true_and,ZqH]
  intro x hx
  obtain⟨q,_,rfl⟩:=Zq4.mp hx
  exact(QG q).okE
 simp only[Zlr]
 rw[if_pos h1]
 congr 3
 induction M with
 |nil=>simp
 |cons q M ih =>
  have h2:(okE (.lst (l.map PV.int))&&(M.map fun q=>PV.lst (q.map PV.int)).all okE)=true:=by
   rw[(QG l).okE,Bool.true_and,ZqH]
   intro x hx
   obtain⟨q,_,rfl⟩:=Zq4.mp hx
   exact(QG q).okE
  rw[Zqz,Zrq,ih h2]
  simp only[PV.dat,QF,PyData.eqv,VA]
  by_cases c:q=l
  ·simp[c]
  ·have:¬l=q:=fun z=>c z.symm
   simp[c,this]
theorem Q3 {g:Bool->Bool}{i:Int}{ns:List Int}:Zlr g (.int i) (.lst (ns.map PV.int))=.ok (.bl (g (decide (i∈ns)))):=by
 have hall:∀ns:List Int,(okE (.int i)&&(ns.map PV.int).all okE)=true:=fun ns=>by
  rw[(Zf3 i).okE,Bool.true_and,ZqH]
  intro x hx
  obtain⟨q,_,rfl⟩:=Zq4.mp hx
  exact(Zf3 q).okE
 simp only[Zlr]
 rw[if_pos (hall ns)]
 congr 3
 induction ns with
 |nil=>simp
 |cons q M ih =>
  rw[Zqz,Zrq,ih]
  simp only[PV.dat,PyData.eqv]
  by_cases c:q=i
  ·simp[c]
  ·have:¬i=q:=fun z=>c z.symm
   simp[c,this]
section
variable {K:W.Frag}{n:Nat}{m:List PV->Rr PV}{ta:TA}{Γ Γ':List Md}{fa:List PV->Rr (List PV)}{E:XK}
end
noncomputable abbrev PL2:=Addr×List Int
section
variable {X:Cx}
end
def Zox (ts:List (List Int)) (t:List Int):Prop:=t∈ts/\∀u∈ts,HT.YC u t=false
noncomputable def Vw (t:List Int):PV:=.lst (t.map PV.int)
section
variable {K:W.Frag}{B:Addr->Prop}{EX:PX->Hp->Prop}{H0 H H':Hp}{σ:St}{Γ Γ' Γ1 Γ2 Γ3:List Md}{ρ:List PV}{F F':Nat->List Addr}{R:List Addr}{te:TE}{f:List PV->Rr PV}
end
section
variable {K:W.Frag}{B:Addr->Prop}{EX:PX->Hp->Prop}{H0 H H':Hp}{σ:St}{Γ Γ' Γ1 Γ2 Γ3:List Md}{ρ:List PV}{F F':Nat->List Addr}{R:List Addr}{te tb:TE}{f fb:List PV->Rr PV}
theorem Zge:∀{xs:List PV}{vs:List V}{G:List Addr}{n:Nat}{z:PV},Zw K H xs vs G->xs[n]?=some z->∃u G',vs[n]?=some u/\WO K H z u G'/\∀a∈G',a∈G
 |[],_,_,n,z,_,e=>by simp at e
 |x::xs,vs,G,n,z,h,e=>by
  obtain⟨v,r,G1,G2,rfl,h1,h2,h3,rfl⟩:=h
  cases n with
  |zero=>simp at e;subst e;exact⟨v,G1,by simp,h1,fun a ha=>Zqp _ ha⟩
  |succ n =>
   obtain⟨u,G',e1,e2,e3⟩:=Zge (n:=n) h2 (by simpa using e)
   exact⟨u,G',by simpa using e1,e2,fun a ha=>Zqj _ (e3 a ha)⟩
theorem Zgd:∀{xs:List PV}{vs:List V}{G:List Addr},Zw K H xs vs G->vs.length=xs.length
 |[],_,_,h=>by rw[h.1];rfl
 |x::xs,vs,G,h=>by
  obtain⟨v,r,G1,G2,rfl,h1,h2,h3,rfl⟩:=h
  simp[Zgd h2]
theorem ZjP {xs:List PV}{vs:List V}{G:List Addr}{i:Int}{z:PV} (h:Zw K H xs vs G) (e:atI xs i=some z):∃u G',atI vs i=some u/\WO K H z u G'/\∀a∈G',a∈G:=by
 unfold atI at e ⊢
 rw[Zgd h]
 cases hk:ixN xs.length i with
 |none=>rw[hk] at e;cases e
 |some k =>
  rw[hk] at e
  obtain⟨u,G',e1,e2,e3⟩:=Zge (n:=k) h e
  exact⟨u,G',e1,e2,e3⟩
noncomputable def Zo3 (x y:PV):Rr PV:=match x,y with
 |.tup xs,.int i=>match atI xs i with
  |some z=>.ok z
  |none=>.bad
 |_,_=>.bad
theorem Zok {te ta':TE}{fa':List PV->Rr PV} (ha:DE K EX Γ Γ1 .F ta' fa') (hb:DE K EX Γ1 Γ2 .A tb fb):DE K EX Γ Γ2 .F (tOp (rIx K) ta' tb) (fun ρ=>(fa' ρ).bind fun x=>(fb ρ).bind fun y=>Zo3 x y):=fun B H0 H σ ρ F R Q A d=>by
 refine ha B H0 H σ ρ F R _ A (d.bind.imp (fun x _ d v H1 s1 r1=>?_) fun e q=>q)
 obtain⟨F1,f1,G,t1,o1,A1⟩:=r1
 refine hb B H0 H1 σ ρ F1 (G++R) _ A1 (d.bind.imp (fun y _ d w H2 s2 r2=>?_) fun e q=>q)
 obtain⟨F2,f2,p2,A2⟩:=r2
 cases x with
 |tup xs =>
  cases y with
  |int i =>
   cases p2
   have t2:=t1.same s2
   obtain⟨a,vs,rfl,hq,ht⟩:=t2
   unfold Zo3 at d
   cases e1:atI xs i with
   |none=>simp only[e1] at d;exact d.elim
   |some z =>
    simp only[e1] at d
    obtain⟨u,G',e2,e3,e4⟩:=ZjP ht e1
    exact .inr (.inl ⟨a,vs,i,u,rfl,rfl,hq.sqT,e2,d u H2 (s1.trans s2) ⟨F2,fun i a h=>f1 i a (f2 i a h),G',e3,fun b hb=>o1 b (e4 b hb),A2.less fun b hb=>by
     rcases Zqo.mp hb with z|z
     ·exact Zqp _ (e4 b z)
     ·exact Zqj _ z⟩⟩)
  |_=>exact d.elim
 |_=>exact d.elim
theorem Zn3 {x:PV}{xs:List PV}:Zo3 (.tup (x::xs)) (.int 0)=.ok x:=by simp[Zo3,atI,ixN]
end
section
variable {X:Cx}{K:W.Frag}{e tg:Expr}{te:TE}{n2 pos':Pos}
end
section
variable {K:W.Frag}{B:Addr->Prop}{EX:PX->Hp->Prop}{H0 H H':Hp}{σ:St}{Γ Γ':List Md}{ρ:List PV}{F F':Nat->List Addr}{R:List Addr}{te:TE}{f:List PV->Rr PV}
end
end L2
namespace L2
open PySem PyProof.Rows
structure QL (prog:Program) (w:World) (A:Around) (s:Shared) (κ:SortKind) (U:Keyed->Prop) (R:Keyed->Keyed->Bool):Prop where
 ask:∀x y,U x->U y->∀(Q:Bool->Shared->Prop),Q (R x y) s->wpAny (model prog w) A (keyLt' κ x.1 y.1) Q (fun _ _=>False) s
 asy:∀x y,U x->U y->R x y=true->R y x=false
 tr:∀x y z,U x->U y->U z->R y x=false->R z y=false->R z x=false
section
variable {prog:Program}{w:World}{A:Around}{E:Value->Shared->Prop}{s:Shared}{κ:SortKind}{U:Keyed->Prop}{R:Keyed->Keyed->Bool}
theorem ZaT (C:QL prog w A s κ U R) {st:SortSt}{x y:Keyed}{Q:Option Bool->SortSt->Prop} (hk:kindOf st=κ) (ux:U x) (uy:U y) (h:Q (some (R x y)) st):wpS (model prog w) A E s (lt' x y) Q st:=by
 rw[lt'_eq]
 refine wpS_bind (wpS_get ?_)
 rw[hk]
 refine wpS_bind (wpS_lift (wpAny_attempt (wpAny_mono (C.ask x y ux uy (fun b s'=>s'=s/\b=R x y) ⟨rfl,rfl⟩) (fun b s' q=>?_) fun _ _ q=>q.elim)))
 obtain⟨rfl,rfl⟩:=q
 exact⟨rfl,wpS_pure h⟩
theorem Zl {st:SortSt}{arr:Array Keyed}{i:Nat}{x:Keyed}{Q:Keyed->SortSt->Prop} (hx:arr[i]?=some x) (h:Q x st):wpS (model prog w) A E s (elem' arr i) Q st:=by
 rw[elem'_eq,hx]
 exact wpS_pure h
end
noncomputable def Ug:Bool->Keyed->Array Keyed->Nat->Nat->Nat->StateT SortSt Sem (Option Nat):=sortPriv% PySem.Builtin.gallop
noncomputable def Zhl (left:Bool) (key:Keyed) (arr:Array Keyed) (base:Nat) (i:Nat):StateT SortSt Sem (Option Bool):=do
 let x <- elem' arr (base+i)
 if left then lt' x key else return (<- lt' key x).map (!·)
theorem Zh2 (left:Bool) (key:Keyed) (arr:Array Keyed) (base n hint:Nat):Ug left key arr base n hint=(do
  let mut u:=0
  let mut v:=1
  let mut a:=0
  let mut b:=0
  let some r <- Zhl left key arr base hint|return none
  if r then
   let w:=n-hint
   for _ in [0:n] do
    if v ≥ w then break
    let some m <- Zhl left key arr base (hint+v)|return none
    if !m then break
    u:=v
    v:=2*v+1
   a:=hint+u+1
   b:=hint+min v w
  else
   let w:=hint+1
   for _ in [0:n] do
    if v ≥ w then break
    let some m <- Zhl left key arr base (hint-v)|return none
    if m then break
    u:=v
    v:=2*v+1
   a:=hint+1-min v w
   b:=hint-u
  for _ in [0:n] do
   if a ≥ b then break
   let c:=a+(b-a)/2
   let some m <- Zhl left key arr base c|return none
   if m then a:=c+1 else b:=c
  return some b):=rfl
section
variable {prog:Program}{w:World}{A:Around}{E:Value->Shared->Prop}{s:Shared}{κ:SortKind}{U:Keyed->Prop}{R:Keyed->Keyed->Bool}
structure Za6 (U:Keyed->Prop) (R:Keyed->Keyed->Bool) (left:Bool) (key:Keyed) (arr:Array Keyed) (base n:Nat) (P:Nat->Bool):Prop where
 uk:U key
 it:∀i,i<n->∃x,arr[base+i]?=some x/\U x/\P i=(if left=true then R x key else !R key x)
 mono:∀i j,i<=j->j<n->P j=true->P i=true
theorem Qt (C:QL prog w A s κ U R) {st:SortSt}{left:Bool}{key:Keyed}{arr:Array Keyed}{base n i:Nat}{P:Nat->Bool}{Q:Option Bool->SortSt->Prop} (hk:kindOf st=κ) (K:Za6 U R left key arr base n P) (hi:i<n) (h:Q (some (P i)) st) :
  wpS (model prog w) A E s (Zhl left key arr base i) Q st:=by
 obtain⟨x,hx,ux,hp⟩:=K.it i hi
 unfold Zhl
 refine wpS_bind (Zl hx ?_)
 cases left with
 |true =>
  rw[if_pos rfl] at hp ⊢
  exact ZaT C hk ux K.uk (by rw[<- hp];exact h)
 |false =>
  rw[if_neg (by decide)] at hp ⊢
  exact wpS_bind (ZaT C hk K.uk ux (wpS_pure (by rw[Option.map_some,<- hp];exact h)))
theorem ZR (C:QL prog w A s κ U R) {st:SortSt}{left:Bool}{key:Keyed}{arr:Array Keyed}{base n hint:Nat}{P:Nat->Bool}{Q:Option Nat->SortSt->Prop} (hk:kindOf st=κ) (K:Za6 U R left key arr base n P) (hh:hint<n)
  (h:∀k,k<=n->(∀i,i<k->P i=true)->(∀i,k<=i->i<n->P i=false)->Q (some k) st):wpS (model prog w) A E s (Ug left key arr base n hint) Q st:=by
 rw[Zh2]
 refine wpS_bind (Qt C hk K hh ?_)
 dsimp only
 have down:∀{i j},i<=j->j<n->P i=false->P j=false:=fun {i j} h1 h2 h3=>by
  cases hj:P j with
  |false=>rfl
  |true=>rw[K.mono i j h1 h2 hj] at h3;cases h3
 cases hP:P hint with
 |true =>
  rw[if_pos rfl]
  refine wpS_bind (wpS_mono (wpS_forRange (I:=fun x (c:Option (Option Nat)×Nat×Nat) (st':SortSt)=>st'=st/\c.1=none/\P (hint+c.2.1)=true/\hint+c.2.1<n/\c.2.1<c.2.2/\x+1<=c.2.2)
   (Q:=fun(c:Option (Option Nat)×Nat×Nat) (st':SortSt)=>st'=st/\c.1=none/\P (hint+c.2.1)=true/\hint+c.2.1<n/\c.2.1<c.2.2/\(n-hint<=c.2.2\/(c.2.2<n-hint/\P (hint+c.2.2)=false))) ?_ ?_ ⟨rfl,rfl,by simpa using hP,by simpa using hh,Nat.zero_lt_one,Zqn _⟩) ?_)
  ·rintro x ⟨o,u,v⟩ st' _ hx ⟨rfl,rfl,q1,q2,q3,q4⟩
   dsimp only at q1 q2 q3 q4 ⊢
   by_cases hv:v ≥ n-hint
   ·rw[if_pos hv]
    exact wpS_pure ⟨rfl,rfl,q1,q2,q3,.inl hv⟩
   ·rw[if_neg hv]
    refine wpS_bind (Qt C hk K (by omega) ?_)
    dsimp only
    cases hm:P (hint+v) with
    |true =>
     rw[if_neg (by decide)]
     exact wpS_pure ⟨rfl,rfl,hm,by dsimp only;omega,by dsimp only;omega,by dsimp only;omega⟩
    |false =>
     rw[if_pos (by decide)]
     exact wpS_pure ⟨rfl,rfl,q1,q2,q3,.inr ⟨by dsimp only;omega,hm⟩⟩
  ·rintro⟨o,u,v⟩ st' ⟨rfl,rfl,q1,q2,q3,q4⟩
   dsimp only at q1 q2 q3 q4 ⊢
   exact⟨rfl,rfl,q1,q2,q3,.inl (by omega)⟩
  rintro⟨o,u,v⟩ st' ⟨hst,rfl,q1,q2,q3,q4⟩
  have hst:=hst.symm
  subst hst
  dsimp only at q1 q2 q3 q4 ⊢
  have ab:hint+u+1<=hint+min v (n-hint):=by omega
  have bn:hint+min v (n-hint)<=n:=by omega
  have pa:∀i,i<hint+u+1->P i=true:=fun i hi=>K.mono i (hint+u) (by omega) (by omega) q1
  have pb:∀i,hint+min v (n-hint)<=i->i<n->P i=false:=fun i h1 h2=>by
   rcases q4 with q4|⟨q4,q5⟩
   ·omega
   ·exact down (by omega) h2 q5
  refine wpS_bind (wpS_mono (wpS_forRange (I:=fun x (c:Option (Option Nat)×Nat×Nat) (st':SortSt)=>st'=st/\c.1=none/\c.2.1<=c.2.2/\c.2.2<=n/\(∀i,i<c.2.1->P i=true)/\(∀i,c.2.2<=i->i<n->P i=false)/\c.2.2-c.2.1<=n-x)
   (Q:=fun(c:Option (Option Nat)×Nat×Nat) (st':SortSt)=>st'=st/\c.1=none/\c.2.1=c.2.2/\c.2.2<=n/\(∀i,i<c.2.1->P i=true)/\(∀i,c.2.2<=i->i<n->P i=false)) ?_ ?_ ⟨rfl,rfl,ab,bn,pa,pb,by dsimp only;omega⟩) ?_)
  ·rintro x ⟨o,a,b⟩ st' _ hx ⟨rfl,rfl,q1,q2,q3,q4,q5⟩
   dsimp only at q1 q2 q3 q4 q5 ⊢
   by_cases hab:a ≥ b
   ·rw[if_pos hab]
    exact wpS_pure ⟨rfl,rfl,by dsimp only;omega,q2,q3,q4⟩
   ·rw[if_neg hab]
    refine wpS_bind (Qt C hk K (by omega) ?_)
    dsimp only
    cases hm:P (a+(b-a)/2) with
    |true =>
     rw[if_pos rfl]
     exact wpS_pure ⟨rfl,rfl,by dsimp only;omega,q2,fun i hi=>K.mono i (a+(b-a)/2) (by dsimp only at hi;omega) (by omega) hm,q4,by dsimp only;omega⟩
    |false =>
     rw[if_neg (by decide)]
     refine wpS_pure ⟨rfl,rfl,by dsimp only;omega,by dsimp only;omega,q3,fun i h1 h2=>?_,by dsimp only;omega⟩
     cases hi:P i with
     |false=>rfl
     |true=>rw[K.mono _ i h1 h2 hi] at hm;cases hm
  ·rintro⟨o,a,b⟩ st' ⟨rfl,rfl,q1,q2,q3,q4,q5⟩
   dsimp only at q1 q2 q3 q4 q5 ⊢
   exact⟨rfl,rfl,by omega,q2,q3,q4⟩
  ·rintro⟨o,a,b⟩ st' ⟨rfl,rfl,q1,q2,q3,q4⟩
   dsimp only at q1 q2 q3 q4 ⊢
   exact wpS_pure (h b q2 (by rw[<- q1];exact q3) q4)
 |false =>
  rw[if_neg (by decide)]
  refine wpS_bind (wpS_mono (wpS_forRange (I:=fun x (c:Option (Option Nat)×Nat×Nat) (st':SortSt)=>st'=st/\c.1=none/\P (hint-c.2.1)=false/\c.2.1<=hint/\c.2.1<c.2.2/\x+1<=c.2.2)
   (Q:=fun(c:Option (Option Nat)×Nat×Nat) (st':SortSt)=>st'=st/\c.1=none/\P (hint-c.2.1)=false/\c.2.1<=hint/\c.2.1<c.2.2/\(hint+1<=c.2.2\/(c.2.2<=hint/\P (hint-c.2.2)=true))) ?_ ?_ ⟨rfl,rfl,by simpa using hP,ZqA _,Nat.zero_lt_one,Zqn _⟩) ?_)
  ·rintro x ⟨o,u,v⟩ st' _ hx ⟨rfl,rfl,q1,q2,q3,q4⟩
   dsimp only at q1 q2 q3 q4 ⊢
   by_cases hv:v ≥ hint+1
   ·rw[if_pos hv]
    exact wpS_pure ⟨rfl,rfl,q1,q2,q3,.inl hv⟩
   ·rw[if_neg hv]
    refine wpS_bind (Qt C hk K (by omega) ?_)
    dsimp only
    cases hm:P (hint-v) with
    |true =>
     rw[if_pos rfl]
     exact wpS_pure ⟨rfl,rfl,q1,q2,q3,.inr ⟨by dsimp only;omega,hm⟩⟩
    |false =>
     rw[if_neg (by decide)]
     exact wpS_pure ⟨rfl,rfl,hm,by dsimp only;omega,by dsimp only;omega,by dsimp only;omega⟩
  ·rintro⟨o,u,v⟩ st' ⟨rfl,rfl,q1,q2,q3,q4⟩
   dsimp only at q1 q2 q3 q4 ⊢
   exact⟨rfl,rfl,q1,q2,q3,.inl (by omega)⟩
  rintro⟨o,u,v⟩ st' ⟨hst,rfl,q1,q2,q3,q4⟩
  have hst:=hst.symm
  subst hst
  dsimp only at q1 q2 q3 q4 ⊢
  have ab:hint+1-min v (hint+1)<=hint-u:=by omega
  have bn:hint-u<=n:=by omega
  have pa:∀i,i<hint+1-min v (hint+1)->P i=true:=fun i hi=>by
   rcases q4 with q4|⟨q4,q5⟩
   ·omega
   ·exact K.mono i (hint-v) (by omega) (by omega) q5
  have pb:∀i,hint-u<=i->i<n->P i=false:=fun i h1 h2=>down h1 h2 q1
  refine wpS_bind (wpS_mono (wpS_forRange (I:=fun x (c:Option (Option Nat)×Nat×Nat) (st':SortSt)=>st'=st/\c.1=none/\c.2.1<=c.2.2/\c.2.2<=n/\(∀i,i<c.2.1->P i=true)/\(∀i,c.2.2<=i->i<n->P i=false)/\c.2.2-c.2.1<=n-x)
   (Q:=fun(c:Option (Option Nat)×Nat×Nat) (st':SortSt)=>st'=st/\c.1=none/\c.2.1=c.2.2/\c.2.2<=n/\(∀i,i<c.2.1->P i=true)/\(∀i,c.2.2<=i->i<n->P i=false)) ?_ ?_ ⟨rfl,rfl,ab,bn,pa,pb,by dsimp only;omega⟩) ?_)
  ·rintro x ⟨o,a,b⟩ st' _ hx ⟨rfl,rfl,q1,q2,q3,q4,q5⟩
   dsimp only at q1 q2 q3 q4 q5 ⊢
   by_cases hab:a ≥ b
   ·rw[if_pos hab]
    exact wpS_pure ⟨rfl,rfl,by dsimp only;omega,q2,q3,q4⟩
   ·rw[if_neg hab]
    refine wpS_bind (Qt C hk K (by omega) ?_)
    dsimp only
    cases hm:P (a+(b-a)/2) with
    |true =>
     rw[if_pos rfl]
     exact wpS_pure ⟨rfl,rfl,by dsimp only;omega,q2,fun i hi=>K.mono i (a+(b-a)/2) (by dsimp only at hi;omega) (by omega) hm,q4,by dsimp only;omega⟩
    |false =>
     rw[if_neg (by decide)]
     refine wpS_pure ⟨rfl,rfl,by dsimp only;omega,by dsimp only;omega,q3,fun i h1 h2=>?_,by dsimp only;omega⟩
     cases hi:P i with
     |false=>rfl
     |true=>rw[K.mono _ i h1 h2 hi] at hm;cases hm
  ·rintro⟨o,a,b⟩ st' ⟨rfl,rfl,q1,q2,q3,q4,q5⟩
   dsimp only at q1 q2 q3 q4 q5 ⊢
   exact⟨rfl,rfl,by omega,q2,q3,q4⟩
  ·rintro⟨o,a,b⟩ st' ⟨rfl,rfl,q1,q2,q3,q4⟩
   dsimp only at q1 q2 q3 q4 ⊢
   exact wpS_pure (h b q2 (by rw[<- q1];exact q3) q4)
end
noncomputable def ZcO:Array Keyed->Array Keyed->StateT SortSt Sem (Array Keyed):=sortPriv% PySem.Builtin.mergeLo
noncomputable def Znq (g:Nat):StateT SortSt Sem Unit:=modify fun s=>SortSt.mk' (kindOf s) (arrOf s) (pendingOf s) g (failedOf s)
noncomputable def endA (a b o:Array Keyed) (i j:Nat):Array Keyed:=o++a.extract i a.size++b.extract j b.size
noncomputable def endB (a b o:Array Keyed) (i j:Nat):Array Keyed:=o++b.extract j b.size++a.extract i a.size
theorem Zff (a b:Array Keyed):ZcO a b=(do
  rule "list.sort.merge-lo"
  let n:=a.size+b.size
  let mut o:Array Keyed:=#[<- elem' b 0]
  let mut i:=0
  let mut j:=1
  if j==b.size then return endA a b o i j
  if i+1==a.size then return endB a b o i j
  let mut g:=gallopOf (<- get)
  for _ in [0:n] do
   let mut x:=0
   let mut y:=0
   for _ in [0:n] do
    let some t <- lt' (<- elem' b j) (<- elem' a i)|return endA a b o i j
    if t then
     o:=o.push (<- elem' b j);j:=j+1;y:=y+1;x:=0
     if j==b.size then return endA a b o i j
     if y ≥ g then break
    else
     o:=o.push (<- elem' a i);i:=i+1;x:=x+1;y:=0
     if i+1==a.size then return endB a b o i j
     if x ≥ g then break
   rule "list.sort.gallop"
   g:=g+1
   for _ in [0:n] do
    if g>1 then g:=g-1
    Znq g
    let some k <- Ug false (<- elem' b j) a i (a.size-i) 0|return endA a b o i j
    x:=k
    if k>0 then
     o:=o++a.extract i (i+k);i:=i+k
     if i+1==a.size then return endB a b o i j
     if i==a.size then return endA a b o i j
    o:=o.push (<- elem' b j);j:=j+1
    if j==b.size then return endA a b o i j
    let some k <- Ug true (<- elem' a i) b j (b.size-j) 0|return endA a b o i j
    y:=k
    if k>0 then
     o:=o++b.extract j (j+k);j:=j+k
     if j==b.size then return endA a b o i j
    o:=o.push (<- elem' a i);i:=i+1
    if i+1==a.size then return endB a b o i j
    if x<7&&y<7 then break
   g:=g+1
   Znq g
  unsupported "internal:list.sort.merge-bound"):=rfl
def Srt (R:Keyed->Keyed->Bool) (l:List Keyed):Prop:=l.Pairwise fun x y=>R y x=false
structure MI (R:Keyed->Keyed->Bool) (a b o:List Keyed) (i j:Nat):Prop where
 perm:o.Perm (a.take i++b.take j)
 srt:Srt R o
 ga:∀x∈o,∀y∈a.drop i,R y x=false
 gb:∀x∈o,∀y∈b.drop j,R y x=false
 hi:i<=a.length
 hj:j<=b.length
section
variable {R:Keyed->Keyed->Bool}{a b o:List Keyed}{i j:Nat}
theorem U8 (l:List Keyed) (i k:Nat):(l.drop i).take k++l.drop (i+k)=l.drop i:=by
 rw[<- List.drop_drop];exact Zq5 k (l.drop i)
theorem Zgg (l:List Keyed) (i k:Nat):l.take i++(l.drop i).take k=l.take (i+k):=(List.take_add).symm
theorem Srt.drop {l:List Keyed} (h:Srt R l) (i:Nat):Srt R (l.drop i):=h.sublist (List.drop_sublist i l)
theorem MI.pushA (M:MI R a b o i j) (sa:Srt R a) (k:Nat) (hk:i+k<=a.length) (hle:∀x∈(a.drop i).take k,∀y∈b.drop j,R y x=false):MI R a b (o++(a.drop i).take k) (i+k) j:=by
 have sd:=sa.drop i
 rw[<- U8 a i k] at sd
 obtain⟨s1,s2,s3⟩:=Zqy.mp sd
 refine⟨?_, ?_, ?_, ?_,hk,M.hj⟩
 ·rw[<- Zgg]
  refine(M.perm.append_right _).trans ?_
  rw[Zqs,Zqs]
  exact List.Perm.append_left _ Zre
 ·exact Zqy.mpr ⟨M.srt,s1,fun x hx y hy=>M.ga x hx y (ZqC hy)⟩
 ·intro x hx y hy
  rcases Zqo.mp hx with hx|hx
  ·exact M.ga x hx y (by rw[<- U8 a i k];exact Zqj _ hy)
  ·exact s3 x hx y hy
 ·intro x hx y hy
  rcases Zqo.mp hx with hx|hx
  ·exact M.gb x hx y hy
  ·exact hle x hx y hy
theorem MI.pushB (M:MI R a b o i j) (sb:Srt R b) (k:Nat) (hk:j+k<=b.length) (hle:∀x∈(b.drop j).take k,∀y∈a.drop i,R y x=false):MI R a b (o++(b.drop j).take k) i (j+k):=by
 have sd:=sb.drop j
 rw[<- U8 b j k] at sd
 obtain⟨s1,s2,s3⟩:=Zqy.mp sd
 refine⟨?_, ?_, ?_, ?_,M.hi,hk⟩
 ·rw[<- Zgg]
  refine(M.perm.append_right _).trans ?_
  rw[Zqs]
 ·exact Zqy.mpr ⟨M.srt,s1,fun x hx y hy=>M.gb x hx y (ZqC hy)⟩
 ·intro x hx y hy
  rcases Zqo.mp hx with hx|hx
  ·exact M.ga x hx y hy
  ·exact hle x hx y hy
 ·intro x hx y hy
  rcases Zqo.mp hx with hx|hx
  ·exact M.gb x hx y (by rw[<- U8 b j k];exact Zqj _ hy)
  ·exact s3 x hx y hy
theorem MI.all_perm (M:MI R a b o i j):(o++(a.drop i++b.drop j)).Perm (a++b):=by
 refine(M.perm.append_right _).trans ?_
 have e1:(a.take i++b.take j++(a.drop i++b.drop j))=a.take i++(b.take j++a.drop i)++b.drop j:=by simp[Zqs]
 rw[e1]
 have p1:(a.take i++(b.take j++a.drop i)++b.drop j).Perm (a.take i++(a.drop i++b.take j)++b.drop j):=(List.Perm.append_left _ Zre).append_right _
 refine p1.trans ?_
 have e2:a.take i++(a.drop i++b.take j)++b.drop j=(a.take i++a.drop i)++(b.take j++b.drop j):=by rw[Zqs,Zqs,Zqs]
 rw[e2,Zq5,Zq5]
theorem MI.endA (M:MI R a b o i j) (sa:Srt R a) (sb:Srt R b) (h:i=a.length\/j=b.length):Srt R (o++(a.drop i++b.drop j))/\(o++(a.drop i++b.drop j)).Perm (a++b):=by
 refine⟨?_,M.all_perm⟩
 refine Zqy.mpr ⟨M.srt, ?_,fun x hx y hy=>?_⟩
 ·rcases h with h|h
  ·rw[h,List.drop_length,Zrd];exact sb.drop j
  ·rw[h,List.drop_length,Zrc];exact sa.drop i
 ·rcases Zqo.mp hy with hy|hy
  ·exact M.ga x hx y hy
  ·exact M.gb x hx y hy
theorem MI.endB (M:MI R a b o i j) (sa:Srt R a) (sb:Srt R b) (h:∀x∈b.drop j,∀y∈a.drop i,R y x=false):Srt R (o++(b.drop j++a.drop i))/\(o++(b.drop j++a.drop i)).Perm (a++b):=by
 refine⟨?_,(List.Perm.append_left _ Zre).trans M.all_perm⟩
 refine Zqy.mpr ⟨M.srt,Zqy.mpr ⟨sb.drop j,sa.drop i,h⟩,fun x hx y hy=>?_⟩
 rcases Zqo.mp hy with hy|hy
 ·exact M.gb x hx y hy
 ·exact M.ga x hx y hy
end
section
variable {prog:Program}{w:World}{A:Around}{E:Value->Shared->Prop}{s:Shared}{κ:SortKind}{U:Keyed->Prop}{R:Keyed->Keyed->Bool}
noncomputable abbrev VI (st:SortSt) (g:Nat):SortSt:=SortSt.mk' (kindOf st) (arrOf st) (pendingOf st) g (failedOf st)
structure MLo (U:Keyed->Prop) (R:Keyed->Keyed->Bool) (a b:Array Keyed):Prop where
 ua:∀x∈a.toList,U x
 ub:∀x∈b.toList,U x
 sa:Srt R a.toList
 sb:Srt R b.toList
 na:0<a.size
 nb:0<b.size
 fst:∀x y,b.toList[0]?=some x->a.toList[0]?=some y->R y x=false
 lst:∀x∈b.toList,∀y,a.toList[a.size-1]?=some y->R y x=false
theorem QL.irr (C:QL prog w A s κ U R) {x:Keyed} (ux:U x):R x x=false:=by
 cases h:R x x with
 |false=>rfl
 |true=>have:=C.asy x x ux ux h;rw[h] at this;cases this
theorem QL.dropLe (C:QL prog w A s κ U R) {l:List Keyed}{i:Nat}{x z:Keyed} (ul:∀y∈l,U y) (hs:Srt R l) (hz:l[i]?=some z) (ux:U x) (h:R z x=false):∀y∈l.drop i,R y x=false:=fun y hy=>by
 have hi:=(Zql.mp hz).1
 have e:l.drop i=z::l.drop (i+1):=by
  rw[ZqD hi]
  rw[Zqm hi] at hz
  cases hz;rfl
 have uz:U z:=ul z (Zqk hz)
 have sd:=hs.drop i
 rw[e] at sd hy
 rcases Zqw.mp hy with rfl|hy'
 ·exact h
 ·have h2:=(Zrl.mp sd).1 y hy'
  exact C.tr x z y ux uz (ul y (ZqN hy')) h h2
theorem Srt.le (C:QL prog w A s κ U R) {l:List Keyed} (ul:∀y∈l,U y) (hs:Srt R l) {i j:Nat}{x y:Keyed} (hij:i<=j) (hx:l[i]?=some x) (hy:l[j]?=some y):R y x=false:=by
 by_cases e:i=j
 ·subst e
  rw[hx] at hy;cases hy
  exact C.irr (ul x (Zqk hx))
 ·have hi:=(Zql.mp hx)
  have hj:=(Zql.mp hy)
  have:=Zrn.mp hs i j hi.1 hj.1 (by omega)
  rw[hi.2,hj.2] at this
  exact this
theorem ZjS (a b o:Array Keyed) (i j:Nat):(endA a b o i j).toList=o.toList++(a.toList.drop i++b.toList.drop j):=by
 simp only[endA,ZrR,Zro,Zqs,ZqL]
 rw[ZqG (by simp),ZqG (by simp)]
theorem ZjR (a b o:Array Keyed) (i j:Nat):(endB a b o i j).toList=o.toList++(b.toList.drop j++a.toList.drop i):=by
 simp only[endB,ZrR,Zro,Zqs,ZqL]
 rw[ZqG (by simp),ZqG (by simp)]
theorem ZaF {l:List Keyed}{i:Nat}{x:Keyed} (h:l[i]?=some x):(l.drop i).take 1=[x]:=by
 have hi:=(Zql.mp h)
 rw[ZqD hi.1,hi.2];rfl
theorem QY {l:List Keyed}{i k:Nat}{x:Keyed} (h:x∈(l.drop i).take k):∃t,t<k/\l[i+t]?=some x:=by
 obtain⟨t,ht⟩:=Zrb h
 rw[ZqO] at ht
 split at ht
 ·rename_i hk
  rw[ZqR] at ht
  exact⟨t,hk,ht⟩
 ·cases ht
theorem Ja {l:List Keyed}{i:Nat}{x:Keyed} (h:x∈l.drop i):∃t,l[i+t]?=some x:=by
 obtain⟨t,ht⟩:=Zrb h
 rw[ZqR] at ht
 exact⟨t,ht⟩
theorem Zkk (C:QL prog w A s κ U R) {l:Array Keyed}{key:Keyed}{i:Nat} (ul:∀y∈l.toList,U y) (hs:Srt R l.toList) (uk:U key) (hi:i<=l.size) :
  Za6 U R false key l i (l.size-i) (fun t=>!R key (l.getD (i+t) (.none,.none))):=by
 have get:∀t,t<l.size-i->l.toList[i+t]?=some (l.getD (i+t) (.none,.none))/\l[i+t]?=some (l.getD (i+t) (.none,.none)):=fun t ht=>by
  have hlt:i+t<l.size:=by omega
  have e:l.getD (i+t) (.none,.none)=l[i+t]:=by simp[Array.getD,hlt]
  rw[e]
  exact⟨by simp[hlt],by simp[hlt]⟩
 refine⟨uk,fun t ht=>⟨_,(get t ht).2,ul _ (Zqk (get t ht).1),by rw[if_neg (by decide)]⟩,fun t u htu hu h=>?_⟩
 have hu':=get u hu
 have ht':=get t (by omega)
 have h1:R key (l.getD (i+u) (.none,.none))=false:=by simpa using h
 have h2:=Srt.le C ul hs (show i+t<=i+u by omega) ht'.1 hu'.1
 have:=C.tr _ _ key (ul _ (Zqk ht'.1)) (ul _ (Zqk hu'.1)) uk h2 h1
 show (!R key _)=true
 rw[this];rfl
theorem ZdI (C:QL prog w A s κ U R) {l:Array Keyed}{key:Keyed}{i:Nat} (ul:∀y∈l.toList,U y) (hs:Srt R l.toList) (uk:U key) (hi:i<=l.size) :
  Za6 U R true key l i (l.size-i) (fun t=>R (l.getD (i+t) (.none,.none)) key):=by
 have get:∀t,t<l.size-i->l.toList[i+t]?=some (l.getD (i+t) (.none,.none))/\l[i+t]?=some (l.getD (i+t) (.none,.none)):=fun t ht=>by
  have hlt:i+t<l.size:=by omega
  have e:l.getD (i+t) (.none,.none)=l[i+t]:=by simp[Array.getD,hlt]
  rw[e]
  exact⟨by simp[hlt],by simp[hlt]⟩
 refine⟨uk,fun t ht=>⟨_,(get t ht).2,ul _ (Zqk (get t ht).1),by rw[if_pos rfl]⟩,fun t u htu hu h=>?_⟩
 have hu':=get u hu
 have ht':=get t (by omega)
 cases hc:R (l.getD (i+t) (.none,.none)) key with
 |true=>rfl
 |false =>
  have h2:=Srt.le C ul hs (show i+t<=i+u by omega) ht'.1 hu'.1
  have:=C.tr key _ _ uk (ul _ (Zqk ht'.1)) (ul _ (Zqk hu'.1)) hc h2
  rw[this] at h;cases h
end
section
variable {prog:Program}{w:World}{A:Around}{E:Value->Shared->Prop}{s:Shared}{κ:SortKind}{U:Keyed->Prop}{R:Keyed->Keyed->Bool}
def Zax (R:Keyed->Keyed->Bool) (a b:Array Keyed) (st:SortSt) (r:Array Keyed) (st':SortSt):Prop:=Srt R r.toList/\r.toList.Perm (a.toList++b.toList)/\∃g,st'=VI st g
def JLo (R:Keyed->Keyed->Bool) (a b:Array Keyed) (st:SortSt) (o:Array Keyed) (i j:Nat) (st':SortSt):Prop:=MI R a.toList b.toList o.toList i j/\i+1<a.size/\j<b.size/\∃g,st'=VI st g
theorem U1 {st:SortSt}{g:Nat}{Q:Unit->SortSt->Prop} (h:Q () (VI st g)):wpS (model prog w) A E s (Znq g) Q st:=wpS_modify h
theorem WJ {l:Array Keyed}{i:Nat} (h:i<l.size):∃x,l[i]?=some x/\l.toList[i]?=some x/\x∈l.toList:=
 ⟨l[i],by simp[h],by simp[h],by simp⟩
section
variable {st st':SortSt}{a b o:Array Keyed}{i j:Nat}
theorem MLo.finA (M:MLo U R a b) (m:MI R a.toList b.toList o.toList i j) (h:i=a.size\/j=b.size) (hg:∃g,st'=VI st g):Zax R a b st (endA a b o i j) st':=by
 obtain⟨h1,h2⟩:=m.endA M.sa M.sb (by simpa using h)
 rw[<- ZjS] at h1 h2
 exact⟨h1,h2,hg⟩
theorem MLo.finB (M:MLo U R a b) (m:MI R a.toList b.toList o.toList i j) (h:i+1=a.size) (hg:∃g,st'=VI st g):Zax R a b st (endB a b o i j) st':=by
 obtain⟨h1,h2⟩:=m.endB M.sa M.sb fun x hx y hy=>M.lst x (ZqN hx) y (by
  obtain⟨t,ht⟩:=Ja hy
  have hl:=(Zql.mp ht).1
  rw[Zqq] at hl
  rw[show a.size-1=i+t by omega];exact ht)
 rw[<- ZjR] at h1 h2
 exact⟨h1,h2,hg⟩
theorem MLo.a1 (C:QL prog w A s κ U R) (M:MLo U R a b) (m:MI R a.toList b.toList o.toList i j) {x:Keyed} (hx:a.toList[i]?=some x) (hle:∀y∈b.toList.drop j,R y x=false):MI R a.toList b.toList (o.push x).toList (i+1) j:=by
 have hi:=(Zql.mp hx).1
 have:=m.pushA M.sa 1 (by omega) (by rw[ZaF hx];intro y hy;rw[Zq0.mp hy];exact hle)
 rw[ZaF hx] at this
 rw[ZrE];exact this
theorem MLo.b1 (C:QL prog w A s κ U R) (M:MLo U R a b) (m:MI R a.toList b.toList o.toList i j) {x:Keyed} (hx:b.toList[j]?=some x) (hle:∀y∈a.toList.drop i,R y x=false):MI R a.toList b.toList (o.push x).toList i (j+1):=by
 have hj:=(Zql.mp hx).1
 have:=m.pushB M.sb 1 (by omega) (by rw[ZaF hx];intro y hy;rw[Zq0.mp hy];exact hle)
 rw[ZaF hx] at this
 rw[ZrE];exact this
theorem QS (l:Array Keyed) (i k:Nat):(o++l.extract i (i+k)).toList=o.toList++(l.toList.drop i).take k:=by
 simp only[ZrR,Zro,ZqL]
 rw[show i+k-i=k by omega]
end
theorem ZU {l:Array Keyed}{i:Nat}{x:Keyed} (h:l.toList[i]?=some x):l.getD i (.none,.none)=x:=by
 have hi:=Zql.mp h
 have hs:i<l.size:=by simpa using hi.1
 simp only[Array.getD,hs,dif_pos]
 exact hi.2
theorem ZeJ (C:QL prog w A s κ U R) {st:SortSt}{a b:Array Keyed}{Q:Array Keyed->SortSt->Prop} (hk:kindOf st=κ) (M:MLo U R a b)
  (h:∀o st',Zax R a b st o st'->Q o st'):wpS (model prog w) A E s (ZcO a b) Q st:=by
 rw[Zff]
 obtain⟨b0,hb0,hb0l,hb0m⟩:=WJ M.nb
 obtain⟨a0,ha0,ha0l,ha0m⟩:=WJ M.na
 refine wpS_bind (wpS_lift (wpAny_rule ⟨rfl, ?_⟩))
 refine wpS_bind (Zl hb0 ?_)
 dsimp only
 have m0:MI R a.toList b.toList (#[]:Array Keyed).toList 0 0:=⟨by simp,List.Pairwise.nil,fun x hx=>by simp at hx,fun x hx=>by simp at hx,ZqA _,ZqA _⟩
 have m1:MI R a.toList b.toList (#[b0]:Array Keyed).toList 0 1:=MLo.b1 C M m0 hb0l (C.dropLe M.ua M.sa ha0l (M.ub _ hb0m) (M.fst _ _ hb0l ha0l))
 have g0:∃g,st=VI st g:=⟨gallopOf st,rfl⟩
 by_cases c1:1=b.size
 ·rw[if_pos (by simpa using c1)]
  exact wpS_pure (h _ _ (M.finA m1 (.inr c1) g0))
 rw[if_neg (by simpa using c1)]
 by_cases c2:0+1=a.size
 ·rw[if_pos (by simpa using c2)]
  exact wpS_pure (h _ _ (M.finB m1 c2 g0))
 rw[if_neg (by simpa using c2)]
 refine wpS_bind (wpS_get ?_)
 have na:=M.na
 have nb:=M.nb
 refine wpS_bind (wpS_mono (wpS_forRange
  (I:=fun x (c:Option (Array Keyed)×Array Keyed×Nat×Nat×Nat) (st':SortSt)=>c.1=none/\JLo R a b st c.2.1 c.2.2.1 c.2.2.2.1 st'/\x+1<=c.2.2.1+c.2.2.2.1)
  (Q:=fun(c:Option (Array Keyed)×Array Keyed×Nat×Nat×Nat) (st':SortSt)=>∃r,c.1=some r/\Zax R a b st r st') ?step ?fin ⟨rfl,⟨m1,by dsimp only;omega,by dsimp only;omega,g0⟩,Zqn _⟩) ?post)
 case fin =>
  rintro⟨o1,o,i,j,g⟩ st' ⟨h1,⟨h2,h3,h4,h5⟩,h6⟩
  dsimp only at h3 h4 h6
  omega
 case post =>
  rintro⟨o1,o,i,j,g⟩ st' ⟨r,h1,h2⟩
  dsimp only at h1
  subst h1
  exact wpS_pure (h _ _ h2)
 case step =>
  rintro x ⟨o1,o,i,j,g⟩ st1 _ hx ⟨rfl,J,hm⟩
  dsimp only at J hm ⊢
  refine wpS_bind (wpS_mono (wpS_forRange
   (I:=fun x' (c:Option (Array Keyed)×Array Keyed×Nat×Nat×Nat×Nat) (st':SortSt)=>c.1=none/\JLo R a b st c.2.1 c.2.2.1 c.2.2.2.1 st'/\i+j+x'<=c.2.2.1+c.2.2.2.1)
   (Q:=fun(c:Option (Array Keyed)×Array Keyed×Nat×Nat×Nat×Nat) (st':SortSt)=>(∃r,c.1=some r/\Zax R a b st r st')\/(c.1=none/\JLo R a b st c.2.1 c.2.2.1 c.2.2.2.1 st'/\i+j+1<=c.2.2.1+c.2.2.2.1)) ?step1 ?fin1 ⟨rfl,J,Zqn _⟩) ?post1)
  case fin1 =>
   rintro⟨o1,o',i',j',u,v⟩ st' ⟨h1,h2,h3⟩
   dsimp only at h1 h2 h3
   exact .inr ⟨h1,h2,by dsimp only;omega⟩
  case step1 =>
   rintro x' ⟨o1,o',i',j',u,v⟩ st' _ hx' ⟨rfl,⟨m,hi,hj,gs,rfl⟩,hp⟩
   dsimp only at m hi hj hp ⊢
   obtain⟨y,hy,hyl,hym⟩:=WJ hj
   obtain⟨z,hz,hzl,hzm⟩:=WJ (show i'<a.size by omega)
   refine wpS_bind (Zl hy (wpS_bind (Zl hz (wpS_bind (ZaT C hk (M.ub _ hym) (M.ua _ hzm) ?_)))))
   dsimp only
   cases hR:R y z with
   |true =>
    rw[if_pos rfl]
    refine wpS_bind (Zl hy ?_)
    have m2:=MLo.b1 C M m hyl (C.dropLe M.ua M.sa hzl (M.ub _ hym) (C.asy _ _ (M.ub _ hym) (M.ua _ hzm) hR))
    by_cases e1:j'+1=b.size
    ·rw[if_pos (by simpa using e1)]
     exact wpS_pure (.inl ⟨_,rfl,M.finA m2 (.inr e1) ⟨gs,rfl⟩⟩)
    ·rw[if_neg (by simpa using e1)]
     have J2:JLo R a b st (o'.push y) i' (j'+1) (VI st gs):=⟨m2,hi,by omega,gs,rfl⟩
     split
     ·exact wpS_pure (.inr ⟨rfl,J2,by dsimp only;omega⟩)
     ·exact wpS_pure ⟨rfl,J2,by dsimp only;omega⟩
   |false =>
    rw[if_neg (by decide)]
    refine wpS_bind (Zl hz ?_)
    have m2:=MLo.a1 C M m hzl (C.dropLe M.ub M.sb hyl (M.ua _ hzm) hR)
    by_cases e1:i'+1+1=a.size
    ·rw[if_pos (by simpa using e1)]
     exact wpS_pure (.inl ⟨_,rfl,M.finB m2 e1 ⟨gs,rfl⟩⟩)
    ·rw[if_neg (by simpa using e1)]
     have J2:JLo R a b st (o'.push z) (i'+1) j' (VI st gs):=⟨m2,by omega,hj,gs,rfl⟩
     split
     ·exact wpS_pure (.inr ⟨rfl,J2,by dsimp only;omega⟩)
     ·exact wpS_pure ⟨rfl,J2,by dsimp only;omega⟩
  case post1 =>
   rintro⟨o1,o',i',j',u,v⟩ st' (⟨r,h1,h2⟩|⟨h1,h2,h3⟩)
   ·dsimp only at h1 h2 ⊢
    subst h1
    exact wpS_pure ⟨r,rfl,h2⟩
   ·dsimp only at h1 h2 h3 ⊢
    subst h1
    refine wpS_bind (wpS_lift (wpAny_rule ⟨rfl, ?_⟩))
    refine wpS_bind (wpS_mono (wpS_forRange
     (I:=fun _ (c:Option (Array Keyed)×Array Keyed×Nat×Nat×Nat×Nat×Nat) (st':SortSt)=>c.1=none/\JLo R a b st c.2.1 c.2.2.1 c.2.2.2.1 st'/\x+1+1<=c.2.2.1+c.2.2.2.1)
     (Q:=fun(c:Option (Array Keyed)×Array Keyed×Nat×Nat×Nat×Nat×Nat) (st':SortSt)=>(∃r,c.1=some r/\Zax R a b st r st')\/(c.1=none/\JLo R a b st c.2.1 c.2.2.1 c.2.2.2.1 st'/\x+1+1<=c.2.2.1+c.2.2.2.1)) ?step2 (fun c st' hc=>.inr hc) ⟨rfl,h2,by dsimp only;omega⟩) ?post2)
    case post2 =>
     rintro⟨o1,o',i',j',g',u,v⟩ st' (⟨r,h1,h2⟩|⟨h1,h2,h3⟩)
     ·dsimp only at h1 h2 ⊢
      subst h1
      exact wpS_pure ⟨r,rfl,h2⟩
     ·dsimp only at h1 h2 h3 ⊢
      subst h1
      obtain⟨m,hi,hj,gs,rfl⟩:=h2
      exact wpS_bind (U1 (wpS_pure ⟨rfl,⟨m,hi,hj,_,rfl⟩,by dsimp only;omega⟩))
    case step2 =>
     clear h2 h3 J hm m0 m1
     rintro x' ⟨o1,o,i,j,g,u,v⟩ st' _ hx' ⟨rfl,⟨m,hi,hj,gs,rfl⟩,hp⟩
     dsimp only at m hi hj hp ⊢
     obtain⟨y,hy,hyl,hym⟩:=WJ hj
     by_cases hg1:g>1
     ·rw[if_pos hg1]
      refine wpS_bind (U1 ?_)
      refine wpS_bind (Zl hy (wpS_bind (ZR C (show kindOf (VI _ _)=κ from hk) (Zkk C M.ua M.sa (M.ub _ hym) (show i<=a.size by omega)) (by omega) fun k p1 p2 p3=>?_)))
      dsimp only
      have fb2:∀z∈a.toList.drop (i+k),R z y=false:=fun z hz=>by
       obtain⟨t,ht⟩:=Ja hz
       have hl:=(Zql.mp ht).1
       rw[Zqq] at hl
       have:=p3 (k+t) (by omega) (by omega)
       rw[show i+(k+t)=i+k+t by omega,ZU ht] at this
       exact C.asy _ _ (M.ub _ hym) (M.ua _ (Zqk ht)) (by simpa using this)
      by_cases hk1:k>0
      ·rw[if_pos hk1]
       have m2:=m.pushA M.sa k (by rw[Zqq];omega) (fun x hx z hz=>by
        obtain⟨t,htk,ht⟩:=QY hx
        have h1:=p2 t htk
        rw[ZU ht] at h1
        exact C.dropLe M.ub M.sb hyl (M.ua x (Zqk ht)) (by simpa using h1) z hz)
       rw[<- QS] at m2
       by_cases e0:i+k+1=a.size
       ·rw[if_pos (by simpa using e0)]
        exact wpS_pure (.inl ⟨_,rfl,M.finB m2 e0 ⟨_,rfl⟩⟩)
       rw[if_neg (by simpa using e0)]
       by_cases e1:i+k=a.size
       ·rw[if_pos (by simpa using e1)]
        exact wpS_pure (.inl ⟨_,rfl,M.finA m2 (.inl e1) ⟨_,rfl⟩⟩)
       rw[if_neg (by simpa using e1)]
       have fb:=fb2
       refine wpS_bind (Zl hy ?_)
       have m2':=MLo.b1 C M m2 hyl fb
       by_cases e2:j+1=b.size
       ·rw[if_pos (by simpa using e2)]
        exact wpS_pure (.inl ⟨_,rfl,M.finA m2' (.inr e2) ⟨_,rfl⟩⟩)
       rw[if_neg (by simpa using e2)]
       obtain⟨z,hz,hzl,hzm⟩:=WJ (show i+k<a.size by omega)
       refine wpS_bind (Zl hz (wpS_bind (ZR C hk (ZdI C M.ub M.sb (M.ua _ hzm) (show j+1<=b.size by omega)) (by omega) fun k2 q1 q2 q3=>?_)))
       dsimp only
       have fz2:∀y∈b.toList.drop (j+1+k2),R y z=false:=fun y hy=>by
        obtain⟨t,ht⟩:=Ja hy
        have hl:=(Zql.mp ht).1
        rw[Zqq] at hl
        have:=q3 (k2+t) (by omega) (by omega)
        rw[show j+1+(k2+t)=j+1+k2+t by omega,ZU ht] at this
        exact this
       by_cases hk2:k2>0
       ·rw[if_pos hk2]
        have m3:=m2'.pushB M.sb k2 (by rw[Zqq];omega) (fun x hx y hy=>by
         obtain⟨t,htk,ht⟩:=QY hx
         have h1:=q2 t htk
         rw[ZU ht] at h1
         have ux:=M.ub x (Zqk ht)
         have h2:=C.dropLe M.ua M.sa hzl ux (C.asy _ _ ux (M.ua _ hzm) h1)
         exact h2 y hy)
        rw[<- QS] at m3
        by_cases e3:j+1+k2=b.size
        ·rw[if_pos (by simpa using e3)]
         exact wpS_pure (.inl ⟨_,rfl,M.finA m3 (.inr e3) ⟨_,rfl⟩⟩)
        rw[if_neg (by simpa using e3)]
        have hj3:j+1+k2<b.size:=by omega
        have fz:=fz2
        refine wpS_bind (Zl hz ?_)
        have m4:=MLo.a1 C M m3 hzl fz
        by_cases e4:i+k+1+1=a.size
        ·rw[if_pos (by simpa using e4)]
         exact wpS_pure (.inl ⟨_,rfl,M.finB m4 e4 ⟨_,rfl⟩⟩)
        ·rw[if_neg (by simpa using e4)]
         split
         ·exact wpS_pure (.inr ⟨rfl,⟨m4,by dsimp only;omega,hj3,_,rfl⟩,by dsimp only;omega⟩)
         ·exact wpS_pure ⟨rfl,⟨m4,by dsimp only;omega,hj3,_,rfl⟩,by dsimp only;omega⟩
       ·rw[if_neg hk2]
        obtain rfl:k2=0:=by omega
        have m3:=m2'
        have hj3:j+1<b.size:=by omega
        have fz:∀y∈b.toList.drop (j+1),R y z=false:=fz2
        refine wpS_bind (Zl hz ?_)
        have m4:=MLo.a1 C M m3 hzl fz
        by_cases e4:i+k+1+1=a.size
        ·rw[if_pos (by simpa using e4)]
         exact wpS_pure (.inl ⟨_,rfl,M.finB m4 e4 ⟨_,rfl⟩⟩)
        ·rw[if_neg (by simpa using e4)]
         split
         ·exact wpS_pure (.inr ⟨rfl,⟨m4,by dsimp only;omega,hj3,_,rfl⟩,by dsimp only;omega⟩)
         ·exact wpS_pure ⟨rfl,⟨m4,by dsimp only;omega,hj3,_,rfl⟩,by dsimp only;omega⟩
      ·rw[if_neg hk1]
       obtain rfl:k=0:=by omega
       have m2:=m
       have fb:∀z∈a.toList.drop i,R z y=false:=fb2
       refine wpS_bind (Zl hy ?_)
       have m2':=MLo.b1 C M m2 hyl fb
       by_cases e2:j+1=b.size
       ·rw[if_pos (by simpa using e2)]
        exact wpS_pure (.inl ⟨_,rfl,M.finA m2' (.inr e2) ⟨_,rfl⟩⟩)
       rw[if_neg (by simpa using e2)]
       obtain⟨z,hz,hzl,hzm⟩:=WJ (show i<a.size by omega)
       refine wpS_bind (Zl hz (wpS_bind (ZR C hk (ZdI C M.ub M.sb (M.ua _ hzm) (show j+1<=b.size by omega)) (by omega) fun k2 q1 q2 q3=>?_)))
       dsimp only
       have fz2:∀y∈b.toList.drop (j+1+k2),R y z=false:=fun y hy=>by
        obtain⟨t,ht⟩:=Ja hy
        have hl:=(Zql.mp ht).1
        rw[Zqq] at hl
        have:=q3 (k2+t) (by omega) (by omega)
        rw[show j+1+(k2+t)=j+1+k2+t by omega,ZU ht] at this
        exact this
       by_cases hk2:k2>0
       ·rw[if_pos hk2]
        have m3:=m2'.pushB M.sb k2 (by rw[Zqq];omega) (fun x hx y hy=>by
         obtain⟨t,htk,ht⟩:=QY hx
         have h1:=q2 t htk
         rw[ZU ht] at h1
         have ux:=M.ub x (Zqk ht)
         have h2:=C.dropLe M.ua M.sa hzl ux (C.asy _ _ ux (M.ua _ hzm) h1)
         exact h2 y hy)
        rw[<- QS] at m3
        by_cases e3:j+1+k2=b.size
        ·rw[if_pos (by simpa using e3)]
         exact wpS_pure (.inl ⟨_,rfl,M.finA m3 (.inr e3) ⟨_,rfl⟩⟩)
        rw[if_neg (by simpa using e3)]
        have hj3:j+1+k2<b.size:=by omega
        have fz:=fz2
        refine wpS_bind (Zl hz ?_)
        have m4:=MLo.a1 C M m3 hzl fz
        by_cases e4:i+1+1=a.size
        ·rw[if_pos (by simpa using e4)]
         exact wpS_pure (.inl ⟨_,rfl,M.finB m4 e4 ⟨_,rfl⟩⟩)
        ·rw[if_neg (by simpa using e4)]
         split
         ·exact wpS_pure (.inr ⟨rfl,⟨m4,by dsimp only;omega,hj3,_,rfl⟩,by dsimp only;omega⟩)
         ·exact wpS_pure ⟨rfl,⟨m4,by dsimp only;omega,hj3,_,rfl⟩,by dsimp only;omega⟩
       ·rw[if_neg hk2]
        obtain rfl:k2=0:=by omega
        have m3:=m2'
        have hj3:j+1<b.size:=by omega
        have fz:∀y∈b.toList.drop (j+1),R y z=false:=fz2
        refine wpS_bind (Zl hz ?_)
        have m4:=MLo.a1 C M m3 hzl fz
        by_cases e4:i+1+1=a.size
        ·rw[if_pos (by simpa using e4)]
         exact wpS_pure (.inl ⟨_,rfl,M.finB m4 e4 ⟨_,rfl⟩⟩)
        ·rw[if_neg (by simpa using e4)]
         split
         ·exact wpS_pure (.inr ⟨rfl,⟨m4,by dsimp only;omega,hj3,_,rfl⟩,by dsimp only;omega⟩)
         ·exact wpS_pure ⟨rfl,⟨m4,by dsimp only;omega,hj3,_,rfl⟩,by dsimp only;omega⟩
     ·rw[if_neg hg1]
      refine wpS_bind (U1 ?_)
      refine wpS_bind (Zl hy (wpS_bind (ZR C (show kindOf (VI _ _)=κ from hk) (Zkk C M.ua M.sa (M.ub _ hym) (show i<=a.size by omega)) (by omega) fun k p1 p2 p3=>?_)))
      dsimp only
      have fb2:∀z∈a.toList.drop (i+k),R z y=false:=fun z hz=>by
       obtain⟨t,ht⟩:=Ja hz
       have hl:=(Zql.mp ht).1
       rw[Zqq] at hl
       have:=p3 (k+t) (by omega) (by omega)
       rw[show i+(k+t)=i+k+t by omega,ZU ht] at this
       exact C.asy _ _ (M.ub _ hym) (M.ua _ (Zqk ht)) (by simpa using this)
      by_cases hk1:k>0
      ·rw[if_pos hk1]
       have m2:=m.pushA M.sa k (by rw[Zqq];omega) (fun x hx z hz=>by
        obtain⟨t,htk,ht⟩:=QY hx
        have h1:=p2 t htk
        rw[ZU ht] at h1
        exact C.dropLe M.ub M.sb hyl (M.ua x (Zqk ht)) (by simpa using h1) z hz)
       rw[<- QS] at m2
       by_cases e0:i+k+1=a.size
       ·rw[if_pos (by simpa using e0)]
        exact wpS_pure (.inl ⟨_,rfl,M.finB m2 e0 ⟨_,rfl⟩⟩)
       rw[if_neg (by simpa using e0)]
       by_cases e1:i+k=a.size
       ·rw[if_pos (by simpa using e1)]
        exact wpS_pure (.inl ⟨_,rfl,M.finA m2 (.inl e1) ⟨_,rfl⟩⟩)
       rw[if_neg (by simpa using e1)]
       have fb:=fb2
       refine wpS_bind (Zl hy ?_)
       have m2':=MLo.b1 C M m2 hyl fb
       by_cases e2:j+1=b.size
       ·rw[if_pos (by simpa using e2)]
        exact wpS_pure (.inl ⟨_,rfl,M.finA m2' (.inr e2) ⟨_,rfl⟩⟩)
       rw[if_neg (by simpa using e2)]
       obtain⟨z,hz,hzl,hzm⟩:=WJ (show i+k<a.size by omega)
       refine wpS_bind (Zl hz (wpS_bind (ZR C hk (ZdI C M.ub M.sb (M.ua _ hzm) (show j+1<=b.size by omega)) (by omega) fun k2 q1 q2 q3=>?_)))
       dsimp only
       have fz2:∀y∈b.toList.drop (j+1+k2),R y z=false:=fun y hy=>by
        obtain⟨t,ht⟩:=Ja hy
        have hl:=(Zql.mp ht).1
        rw[Zqq] at hl
        have:=q3 (k2+t) (by omega) (by omega)
        rw[show j+1+(k2+t)=j+1+k2+t by omega,ZU ht] at this
        exact this
       by_cases hk2:k2>0
       ·rw[if_pos hk2]
        have m3:=m2'.pushB M.sb k2 (by rw[Zqq];omega) (fun x hx y hy=>by
         obtain⟨t,htk,ht⟩:=QY hx
         have h1:=q2 t htk
         rw[ZU ht] at h1
         have ux:=M.ub x (Zqk ht)
         have h2:=C.dropLe M.ua M.sa hzl ux (C.asy _ _ ux (M.ua _ hzm) h1)
         exact h2 y hy)
        rw[<- QS] at m3
        by_cases e3:j+1+k2=b.size
        ·rw[if_pos (by simpa using e3)]
         exact wpS_pure (.inl ⟨_,rfl,M.finA m3 (.inr e3) ⟨_,rfl⟩⟩)
        rw[if_neg (by simpa using e3)]
        have hj3:j+1+k2<b.size:=by omega
        have fz:=fz2
        refine wpS_bind (Zl hz ?_)
        have m4:=MLo.a1 C M m3 hzl fz
        by_cases e4:i+k+1+1=a.size
        ·rw[if_pos (by simpa using e4)]
         exact wpS_pure (.inl ⟨_,rfl,M.finB m4 e4 ⟨_,rfl⟩⟩)
        ·rw[if_neg (by simpa using e4)]
         split
         ·exact wpS_pure (.inr ⟨rfl,⟨m4,by dsimp only;omega,hj3,_,rfl⟩,by dsimp only;omega⟩)
         ·exact wpS_pure ⟨rfl,⟨m4,by dsimp only;omega,hj3,_,rfl⟩,by dsimp only;omega⟩
       ·rw[if_neg hk2]
        obtain rfl:k2=0:=by omega
        have m3:=m2'
        have hj3:j+1<b.size:=by omega
        have fz:∀y∈b.toList.drop (j+1),R y z=false:=fz2
        refine wpS_bind (Zl hz ?_)
        have m4:=MLo.a1 C M m3 hzl fz
        by_cases e4:i+k+1+1=a.size
        ·rw[if_pos (by simpa using e4)]
         exact wpS_pure (.inl ⟨_,rfl,M.finB m4 e4 ⟨_,rfl⟩⟩)
        ·rw[if_neg (by simpa using e4)]
         split
         ·exact wpS_pure (.inr ⟨rfl,⟨m4,by dsimp only;omega,hj3,_,rfl⟩,by dsimp only;omega⟩)
         ·exact wpS_pure ⟨rfl,⟨m4,by dsimp only;omega,hj3,_,rfl⟩,by dsimp only;omega⟩
      ·rw[if_neg hk1]
       obtain rfl:k=0:=by omega
       have m2:=m
       have fb:∀z∈a.toList.drop i,R z y=false:=fb2
       refine wpS_bind (Zl hy ?_)
       have m2':=MLo.b1 C M m2 hyl fb
       by_cases e2:j+1=b.size
       ·rw[if_pos (by simpa using e2)]
        exact wpS_pure (.inl ⟨_,rfl,M.finA m2' (.inr e2) ⟨_,rfl⟩⟩)
       rw[if_neg (by simpa using e2)]
       obtain⟨z,hz,hzl,hzm⟩:=WJ (show i<a.size by omega)
       refine wpS_bind (Zl hz (wpS_bind (ZR C hk (ZdI C M.ub M.sb (M.ua _ hzm) (show j+1<=b.size by omega)) (by omega) fun k2 q1 q2 q3=>?_)))
       dsimp only
       have fz2:∀y∈b.toList.drop (j+1+k2),R y z=false:=fun y hy=>by
        obtain⟨t,ht⟩:=Ja hy
        have hl:=(Zql.mp ht).1
        rw[Zqq] at hl
        have:=q3 (k2+t) (by omega) (by omega)
        rw[show j+1+(k2+t)=j+1+k2+t by omega,ZU ht] at this
        exact this
       by_cases hk2:k2>0
       ·rw[if_pos hk2]
        have m3:=m2'.pushB M.sb k2 (by rw[Zqq];omega) (fun x hx y hy=>by
         obtain⟨t,htk,ht⟩:=QY hx
         have h1:=q2 t htk
         rw[ZU ht] at h1
         have ux:=M.ub x (Zqk ht)
         have h2:=C.dropLe M.ua M.sa hzl ux (C.asy _ _ ux (M.ua _ hzm) h1)
         exact h2 y hy)
        rw[<- QS] at m3
        by_cases e3:j+1+k2=b.size
        ·rw[if_pos (by simpa using e3)]
         exact wpS_pure (.inl ⟨_,rfl,M.finA m3 (.inr e3) ⟨_,rfl⟩⟩)
        rw[if_neg (by simpa using e3)]
        have hj3:j+1+k2<b.size:=by omega
        have fz:=fz2
        refine wpS_bind (Zl hz ?_)
        have m4:=MLo.a1 C M m3 hzl fz
        by_cases e4:i+1+1=a.size
        ·rw[if_pos (by simpa using e4)]
         exact wpS_pure (.inl ⟨_,rfl,M.finB m4 e4 ⟨_,rfl⟩⟩)
        ·rw[if_neg (by simpa using e4)]
         split
         ·exact wpS_pure (.inr ⟨rfl,⟨m4,by dsimp only;omega,hj3,_,rfl⟩,by dsimp only;omega⟩)
         ·exact wpS_pure ⟨rfl,⟨m4,by dsimp only;omega,hj3,_,rfl⟩,by dsimp only;omega⟩
       ·rw[if_neg hk2]
        obtain rfl:k2=0:=by omega
        have m3:=m2'
        have hj3:j+1<b.size:=by omega
        have fz:∀y∈b.toList.drop (j+1),R y z=false:=fz2
        refine wpS_bind (Zl hz ?_)
        have m4:=MLo.a1 C M m3 hzl fz
        by_cases e4:i+1+1=a.size
        ·rw[if_pos (by simpa using e4)]
         exact wpS_pure (.inl ⟨_,rfl,M.finB m4 e4 ⟨_,rfl⟩⟩)
        ·rw[if_neg (by simpa using e4)]
         split
         ·exact wpS_pure (.inr ⟨rfl,⟨m4,by dsimp only;omega,hj3,_,rfl⟩,by dsimp only;omega⟩)
         ·exact wpS_pure ⟨rfl,⟨m4,by dsimp only;omega,hj3,_,rfl⟩,by dsimp only;omega⟩
end
noncomputable def ZcP:Array Keyed->Array Keyed->StateT SortSt Sem (Array Keyed):=sortPriv% PySem.Builtin.mergeHi
noncomputable def hiA (a b o:Array Keyed) (i j:Nat):Array Keyed:=a.extract 0 i++b.extract 0 j++o.reverse
noncomputable def hiB (a b o:Array Keyed) (i j:Nat):Array Keyed:=b.extract 0 j++a.extract 0 i++o.reverse
theorem Zfg (a b:Array Keyed):ZcP a b=(do
  rule "list.sort.merge-hi"
  let n:=a.size+b.size
  let mut i:=a.size-1
  let mut j:=b.size
  let mut o:Array Keyed:=#[<- elem' a i]
  if i==0 then return hiA a b o i j
  if j==1 then return hiB a b o i j
  let mut g:=gallopOf (<- get)
  for _ in [0:n] do
   let mut x:=0
   let mut y:=0
   for _ in [0:n] do
    let some t <- lt' (<- elem' b (j-1)) (<- elem' a (i-1))|return hiA a b o i j
    if t then
     i:=i-1;o:=o.push (<- elem' a i);x:=x+1;y:=0
     if i==0 then return hiA a b o i j
     if x ≥ g then break
    else
     j:=j-1;o:=o.push (<- elem' b j);y:=y+1;x:=0
     if j==1 then return hiB a b o i j
     if y ≥ g then break
   rule "list.sort.gallop"
   g:=g+1
   for _ in [0:n] do
    if g>1 then g:=g-1
    Znq g
    let some q <- Ug false (<- elem' b (j-1)) a 0 i (i-1)|return hiA a b o i j
    let k:=i-q
    x:=k
    if k>0 then
     o:=o++(a.extract q i).reverse;i:=q
     if i==0 then return hiA a b o i j
    j:=j-1;o:=o.push (<- elem' b j)
    if j==1 then return hiB a b o i j
    let some q <- Ug true (<- elem' a (i-1)) b 0 j (j-1)|return hiA a b o i j
    let k:=j-q
    y:=k
    if k>0 then
     o:=o++(b.extract q j).reverse;j:=q
     if j==1 then return hiB a b o i j
     if j==0 then return hiA a b o i j
    i:=i-1;o:=o.push (<- elem' a i)
    if i==0 then return hiA a b o i j
    if x<7&&y<7 then break
   g:=g+1
   Znq g
  unsupported "internal:list.sort.merge-bound"):=rfl
structure MH (R:Keyed->Keyed->Bool) (a b q:List Keyed) (i j:Nat):Prop where
 perm:q.Perm (a.drop i++b.drop j)
 srt:Srt R q
 ga:∀x∈a.take i,∀y∈q,R y x=false
 gb:∀x∈b.take j,∀y∈q,R y x=false
 hi:i<=a.length
 hj:j<=b.length
section
variable {R:Keyed->Keyed->Bool}{a b q:List Keyed}{i j:Nat}
theorem Vf (l:List Keyed) {c i:Nat} (h:c<=i):l.take c++(l.take i).drop c=l.take i:=by
 rw[show l.take c=(l.take i).take c by rw[List.take_take,Nat.min_eq_left h]]
 exact Zq5 c (l.take i)
theorem Zcv (l:List Keyed) {c i:Nat} (h:c<=i):(l.take i).drop c++l.drop i=l.drop c:=by
 have e:l.take c++((l.take i).drop c++l.drop i)=l.take c++l.drop c:=by
  rw[<- Zqs,Vf l h,Zq5,Zq5]
 exact List.append_cancel_left e
theorem Srt.take {l:List Keyed} (h:Srt R l) (i:Nat):Srt R (l.take i):=h.sublist (List.take_sublist i l)
theorem MH.pushA (M:MH R a b q i j) (sa:Srt R a) {c:Nat} (hc:c<=i) (hle:∀x∈b.take j,∀y∈(a.take i).drop c,R y x=false):MH R a b ((a.take i).drop c++q) c j:=by
 have sd:=sa.take i
 rw[<- Vf a hc] at sd
 obtain⟨s1,s2,s3⟩:=Zqy.mp sd
 refine⟨?_, ?_, ?_, ?_,Zq3 hc M.hi,M.hj⟩
 ·refine(List.Perm.append_left _ M.perm).trans ?_
  rw[<- Zqs,Zcv a hc]
 ·exact Zqy.mpr ⟨s2,M.srt,fun x hx y hy=>M.ga x (ZqN hx) y hy⟩
 ·intro x hx y hy
  rcases Zqo.mp hy with hy|hy
  ·exact s3 x hx y hy
  ·exact M.ga x (by rw[<- Vf a hc];exact Zqp _ hx) y hy
 ·intro x hx y hy
  rcases Zqo.mp hy with hy|hy
  ·exact hle x hx y hy
  ·exact M.gb x hx y hy
theorem MH.pushB (M:MH R a b q i j) (sb:Srt R b) {c:Nat} (hc:c<=j) (hle:∀x∈a.take i,∀y∈(b.take j).drop c,R y x=false):MH R a b ((b.take j).drop c++q) i c:=by
 have sd:=sb.take j
 rw[<- Vf b hc] at sd
 obtain⟨s1,s2,s3⟩:=Zqy.mp sd
 refine⟨?_, ?_, ?_, ?_,M.hi,Zq3 hc M.hj⟩
 ·refine(List.Perm.append_left _ M.perm).trans ?_
  rw[<- Zcv b hc]
  have:∀X Y Z:List Keyed,(X++(Y++Z)).Perm (Y++(X++Z)):=fun X Y Z=>by
   rw[<- Zqs,<- Zqs]
   exact List.Perm.append_right _ Zre
  exact this _ _ _
 ·exact Zqy.mpr ⟨s2,M.srt,fun x hx y hy=>M.gb x (ZqN hx) y hy⟩
 ·intro x hx y hy
  rcases Zqo.mp hy with hy|hy
  ·exact hle x hx y hy
  ·exact M.ga x hx y hy
 ·intro x hx y hy
  rcases Zqo.mp hy with hy|hy
  ·exact s3 x hx y hy
  ·exact M.gb x (by rw[<- Vf b hc];exact Zqp _ hx) y hy
theorem MH.all_perm (M:MH R a b q i j):(a.take i++(b.take j++q)).Perm (a++b):=by
 refine(List.Perm.append_left _ (List.Perm.append_left _ M.perm)).trans ?_
 have p1:∀X Y Z W:List Keyed,(X++(Y++(Z++W))).Perm ((X++Z)++(Y++W)):=fun X Y Z W=>by
  rw[Zqs]
  refine List.Perm.append_left _ ?_
  rw[<- Zqs,<- Zqs]
  exact List.Perm.append_right _ Zre
 refine(p1 _ _ _ _).trans ?_
 rw[Zq5,Zq5]
theorem MH.endA (M:MH R a b q i j) (sa:Srt R a) (sb:Srt R b) (h:i=0\/j=0):Srt R (a.take i++(b.take j++q))/\(a.take i++(b.take j++q)).Perm (a++b):=by
 refine⟨?_,M.all_perm⟩
 have sq:Srt R (b.take j++q):=Zqy.mpr ⟨sb.take j,M.srt,M.gb⟩
 refine Zqy.mpr ⟨sa.take i,sq,fun x hx y hy=>?_⟩
 rcases h with h|h
 ·rw[h,List.take_zero] at hx;simp at hx
 ·rw[h,List.take_zero,Zrd] at hy
  exact M.ga x hx y hy
theorem MH.endB (M:MH R a b q i j) (sa:Srt R a) (sb:Srt R b) (h:∀x∈b.take j,∀y∈a.take i,R y x=false):Srt R (b.take j++(a.take i++q))/\(b.take j++(a.take i++q)).Perm (a++b):=by
 refine⟨?_, ?_⟩
 ·refine Zqy.mpr ⟨sb.take j,Zqy.mpr ⟨sa.take i,M.srt,M.ga⟩,fun x hx y hy=>?_⟩
  rcases Zqo.mp hy with hy|hy
  ·exact h x hx y hy
  ·exact M.gb x hx y hy
 ·refine List.Perm.trans ?_ M.all_perm
  rw[<- Zqs,<- Zqs]
  exact List.Perm.append_right _ Zre
end
section
variable {prog:Program}{w:World}{A:Around}{E:Value->Shared->Prop}{s:Shared}{κ:SortKind}{U:Keyed->Prop}{R:Keyed->Keyed->Bool}
theorem Za6.le {left:Bool}{key:Keyed}{arr:Array Keyed}{base n m:Nat}{P:Nat->Bool} (K:Za6 U R left key arr base m P) (h:n<=m):Za6 U R left key arr base n P:=
 ⟨K.uk,fun i hi=>K.it i (by omega),fun i j h1 h2 h3=>K.mono i j h1 (by omega) h3⟩
theorem QL.takeLe (C:QL prog w A s κ U R) {l:List Keyed}{n:Nat}{v z:Keyed} (ul:∀y∈l,U y) (hs:Srt R l) (hn:0<n) (hz:l[n-1]?=some z) (uv:U v) (h:R v z=false):∀x∈l.take n,R v x=false:=fun x hx=>by
 obtain⟨t,ht⟩:=Zrb hx
 rw[ZqO] at ht
 split at ht
 ·rename_i htn
  have h1:=Srt.le C ul hs (show t<=n-1 by omega) ht hz
  exact C.tr x z v (ul x (Zqk ht)) (ul z (Zqk hz)) uv h1 h
 ·cases ht
theorem Q5 {l:List Keyed}{i:Nat}{x:Keyed} (h:x∈l.take i):∃t,t<i/\l[t]?=some x:=by
 obtain⟨t,ht⟩:=Zrb h
 rw[ZqO] at ht
 split at ht
 ·rename_i hi;exact⟨t,hi,ht⟩
 ·cases ht
theorem U3 {l:List Keyed}{i c:Nat}{x:Keyed} (h:x∈(l.take i).drop c):∃t,(c<=t/\t<i)/\l[t]?=some x:=by
 obtain⟨t,ht⟩:=Zrb h
 rw[ZqR,ZqO] at ht
 split at ht
 ·rename_i hi;exact⟨c+t,by omega,ht⟩
 ·cases ht
theorem ZaG {l:List Keyed}{i:Nat}{x:Keyed} (hi:0<i) (h:l[i-1]?=some x):(l.take i).drop (i-1)=[x]:=by
 have hl:=Zql.mp h
 have e:(l.take i)[i-1]?=some x:=by rw[ZqO,if_pos (by omega),h]
 have h2:=Zql.mp e
 rw[ZqD h2.1,h2.2,ZrA (by rw[Zq1];omega)]
theorem ZlO (a b o:Array Keyed) (i j:Nat):(hiA a b o i j).toList=a.toList.take i++(b.toList.take j++o.toList.reverse):=by
 simp[hiA,Zqs,ZqL]
theorem ZlN (a b o:Array Keyed) (i j:Nat):(hiB a b o i j).toList=b.toList.take j++(a.toList.take i++o.toList.reverse):=by
 simp[hiB,Zqs,ZqL]
theorem QR (l o:Array Keyed) (q i:Nat):(o++(l.extract q i).reverse).toList.reverse=(l.toList.take i).drop q++o.toList.reverse:=by
 simp[ZqL,List.drop_take]
theorem Zgf (o:Array Keyed) (x:Keyed):(o.push x).toList.reverse=[x]++o.toList.reverse:=by simp
def JHi (R:Keyed->Keyed->Bool) (a b:Array Keyed) (st:SortSt) (o:Array Keyed) (i j:Nat) (st':SortSt):Prop:=MH R a.toList b.toList o.toList.reverse i j/\0<i/\1<j/\∃g,st'=VI st g
section
variable {st st':SortSt}{a b o:Array Keyed}{i j:Nat}
theorem MLo.hfA (M:MLo U R a b) (m:MH R a.toList b.toList o.toList.reverse i j) (h:i=0\/j=0) (hg:∃g,st'=VI st g):Zax R a b st (hiA a b o i j) st':=by
 obtain⟨h1,h2⟩:=m.endA M.sa M.sb h
 rw[<- ZlO] at h1 h2
 exact⟨h1,h2,hg⟩
theorem MLo.hfB (C:QL prog w A s κ U R) (M:MLo U R a b) (m:MH R a.toList b.toList o.toList.reverse i j) (h:j=1) (hg:∃g,st'=VI st g):Zax R a b st (hiB a b o i j) st':=by
 obtain⟨a0,ha0,ha0l,ha0m⟩:=WJ M.na
 obtain⟨h1,h2⟩:=m.endB M.sa M.sb fun x hx y hy=>by
  obtain⟨t,ht,hx⟩:=Q5 hx
  have ht0:t=0:=by omega
  rw[ht0] at hx
  have:=C.dropLe M.ua M.sa ha0l (M.ub _ (Zqk hx)) (M.fst _ _ hx ha0l)
  rw[Zr0] at this
  exact this y (ZqC hy)
 rw[<- ZlN] at h1 h2
 exact⟨h1,h2,hg⟩
theorem MLo.ha1 (M:MLo U R a b) (m:MH R a.toList b.toList o.toList.reverse i j) {x:Keyed} (hi:0<i) (hx:a.toList[i-1]?=some x) (hle:∀y∈b.toList.take j,R x y=false):MH R a.toList b.toList (o.push x).toList.reverse (i-1) j:=by
 have:=m.pushA M.sa (c:=i-1) (by omega) (by rw[ZaG hi hx];intro y hy z hz;rw[Zq0.mp hz];exact hle y hy)
 rw[ZaG hi hx] at this
 rw[Zgf];exact this
theorem MLo.hb1 (M:MLo U R a b) (m:MH R a.toList b.toList o.toList.reverse i j) {x:Keyed} (hj:0<j) (hx:b.toList[j-1]?=some x) (hle:∀y∈a.toList.take i,R x y=false):MH R a.toList b.toList (o.push x).toList.reverse i (j-1):=by
 have:=m.pushB M.sb (c:=j-1) (by omega) (by rw[ZaG hj hx];intro y hy z hz;rw[Zq0.mp hz];exact hle y hy)
 rw[ZaG hj hx] at this
 rw[Zgf];exact this
end
theorem ZeK (C:QL prog w A s κ U R) {st:SortSt}{a b:Array Keyed}{Q:Array Keyed->SortSt->Prop} (hk:kindOf st=κ) (M:MLo U R a b)
  (h:∀o st',Zax R a b st o st'->Q o st'):wpS (model prog w) A E s (ZcP a b) Q st:=by
 rw[Zfg]
 have na:=M.na
 have nb:=M.nb
 obtain⟨al,hal,hall,halm⟩:=WJ (show a.size-1<a.size by omega)
 refine wpS_bind (wpS_lift (wpAny_rule ⟨rfl, ?_⟩))
 refine wpS_bind (Zl hal ?_)
 dsimp only
 have m0:MH R a.toList b.toList (#[]:Array Keyed).toList.reverse a.size b.size:=⟨by simp,List.Pairwise.nil,fun x _ y hy=>by simp at hy,fun x _ y hy=>by simp at hy,by simp,by simp⟩
 have m1:MH R a.toList b.toList (#[al]:Array Keyed).toList.reverse (a.size-1) b.size:=M.ha1 m0 na hall fun y hy=>M.lst y (ZqC hy) al hall
 have g0:∃g,st=VI st g:=⟨gallopOf st,rfl⟩
 by_cases c1:a.size-1=0
 ·rw[if_pos (by simpa using c1)]
  exact wpS_pure (h _ _ (M.hfA m1 (.inl c1) g0))
 rw[if_neg (by simpa using c1)]
 by_cases c2:b.size=1
 ·rw[if_pos (by simpa using c2)]
  exact wpS_pure (h _ _ (MLo.hfB C M m1 c2 g0))
 rw[if_neg (by simpa using c2)]
 refine wpS_bind (wpS_get ?_)
 refine wpS_bind (wpS_mono (wpS_forRange
  (I:=fun x (c:Option (Array Keyed)×Nat×Nat×Array Keyed×Nat) (st':SortSt)=>c.1=none/\JHi R a b st c.2.2.2.1 c.2.1 c.2.2.1 st'/\c.2.1+c.2.2.1+x+1<=a.size+b.size)
  (Q:=fun(c:Option (Array Keyed)×Nat×Nat×Array Keyed×Nat) (st':SortSt)=>∃r,c.1=some r/\Zax R a b st r st') ?step ?fin ⟨rfl,⟨m1,by dsimp only;omega,by dsimp only;omega,g0⟩,by dsimp only;omega⟩) ?post)
 case fin =>
  rintro⟨o1,i,j,o,g⟩ st' ⟨h1,⟨h2,h3,h4,h5⟩,h6⟩
  dsimp only at h3 h4 h6
  omega
 case post =>
  rintro⟨o1,i,j,o,g⟩ st' ⟨r,h1,h2⟩
  dsimp only at h1
  subst h1
  exact wpS_pure (h _ _ h2)
 case step =>
  rintro x ⟨o1,i,j,o,g⟩ st1 _ hx ⟨rfl,J,hm⟩
  dsimp only at J hm ⊢
  refine wpS_bind (wpS_mono (wpS_forRange
   (I:=fun x' (c:Option (Array Keyed)×Nat×Nat×Array Keyed×Nat×Nat) (st':SortSt)=>c.1=none/\JHi R a b st c.2.2.2.1 c.2.1 c.2.2.1 st'/\c.2.1+c.2.2.1+x'<=i+j)
   (Q:=fun(c:Option (Array Keyed)×Nat×Nat×Array Keyed×Nat×Nat) (st':SortSt)=>(∃r,c.1=some r/\Zax R a b st r st')\/(c.1=none/\JHi R a b st c.2.2.2.1 c.2.1 c.2.2.1 st'/\c.2.1+c.2.2.1+1<=i+j)) ?step1 ?fin1 ⟨rfl,J,Zqn _⟩) ?post1)
  case fin1 =>
   rintro⟨o1,i',j',o',u,v⟩ st' ⟨h1,h2,h3⟩
   dsimp only at h1 h2 h3
   exact .inr ⟨h1,h2,by dsimp only;omega⟩
  case step1 =>
   rintro x' ⟨o1,i',j',o',u,v⟩ st' _ hx' ⟨rfl,⟨m,hi,hj,gs,rfl⟩,hp⟩
   dsimp only at m hi hj hp ⊢
   have lia:=m.hi
   have ljb:=m.hj
   rw[Zqq] at lia ljb
   obtain⟨y,hy,hyl,hym⟩:=WJ (show j'-1<b.size by omega)
   obtain⟨z,hz,hzl,hzm⟩:=WJ (show i'-1<a.size by omega)
   refine wpS_bind (Zl hy (wpS_bind (Zl hz (wpS_bind (ZaT C hk (M.ub _ hym) (M.ua _ hzm) ?_)))))
   dsimp only
   cases hR:R y z with
   |true =>
    rw[if_pos rfl]
    refine wpS_bind (Zl hz ?_)
    have m2:=M.ha1 m hi hzl (C.takeLe M.ub M.sb (by omega) hyl (M.ua _ hzm) (C.asy _ _ (M.ub _ hym) (M.ua _ hzm) hR))
    by_cases e1:i'-1=0
    ·rw[if_pos (by simpa using e1)]
     exact wpS_pure (.inl ⟨_,rfl,M.hfA m2 (.inl e1) ⟨gs,rfl⟩⟩)
    ·rw[if_neg (by simpa using e1)]
     have J2:JHi R a b st (o'.push z) (i'-1) j' (VI st gs):=⟨m2,by omega,hj,gs,rfl⟩
     split
     ·exact wpS_pure (.inr ⟨rfl,J2,by dsimp only;omega⟩)
     ·exact wpS_pure ⟨rfl,J2,by dsimp only;omega⟩
   |false =>
    rw[if_neg (by decide)]
    refine wpS_bind (Zl hy ?_)
    have m2:=M.hb1 m (by omega) hyl (C.takeLe M.ua M.sa hi hzl (M.ub _ hym) hR)
    by_cases e1:j'-1=1
    ·rw[if_pos (by simpa using e1)]
     exact wpS_pure (.inl ⟨_,rfl,MLo.hfB C M m2 e1 ⟨gs,rfl⟩⟩)
    ·rw[if_neg (by simpa using e1)]
     have J2:JHi R a b st (o'.push y) i' (j'-1) (VI st gs):=⟨m2,hi,by omega,gs,rfl⟩
     split
     ·exact wpS_pure (.inr ⟨rfl,J2,by dsimp only;omega⟩)
     ·exact wpS_pure ⟨rfl,J2,by dsimp only;omega⟩
  case post1 =>
   rintro⟨o1,i',j',o',u,v⟩ st' (⟨r,h1,h2⟩|⟨h1,h2,h3⟩)
   ·dsimp only at h1 h2 ⊢
    subst h1
    exact wpS_pure ⟨r,rfl,h2⟩
   ·dsimp only at h1 h2 h3 ⊢
    subst h1
    refine wpS_bind (wpS_lift (wpAny_rule ⟨rfl, ?_⟩))
    refine wpS_bind (wpS_mono (wpS_forRange
     (I:=fun _ (c:Option (Array Keyed)×Nat×Nat×Array Keyed×Nat×Nat×Nat) (st':SortSt)=>c.1=none/\JHi R a b st c.2.2.2.1 c.2.1 c.2.2.1 st'/\c.2.1+c.2.2.1+(x+1)+1<=a.size+b.size)
     (Q:=fun(c:Option (Array Keyed)×Nat×Nat×Array Keyed×Nat×Nat×Nat) (st':SortSt)=>(∃r,c.1=some r/\Zax R a b st r st')\/(c.1=none/\JHi R a b st c.2.2.2.1 c.2.1 c.2.2.1 st'/\c.2.1+c.2.2.1+(x+1)+1<=a.size+b.size)) ?step2 (fun c st' hc=>.inr hc) ⟨rfl,h2,by dsimp only;omega⟩) ?post2)
    case post2 =>
     rintro⟨o1,i',j',o',g',u,v⟩ st' (⟨r,h1,h2⟩|⟨h1,h2,h3⟩)
     ·dsimp only at h1 h2 ⊢
      subst h1
      exact wpS_pure ⟨r,rfl,h2⟩
     ·dsimp only at h1 h2 h3 ⊢
      subst h1
      obtain⟨m,hi,hj,gs,rfl⟩:=h2
      exact wpS_bind (U1 (wpS_pure ⟨rfl,⟨m,hi,hj,_,rfl⟩,by dsimp only;omega⟩))
    case step2 =>
     clear h2 h3 J hm m0 m1
     rintro x' ⟨o1,i,j,o,g,u,v⟩ st' _ hx' ⟨rfl,⟨m,hi,hj,gs,rfl⟩,hp⟩
     dsimp only at m hi hj hp ⊢
     have lia:=m.hi
     have ljb:=m.hj
     rw[Zqq] at lia ljb
     obtain⟨y,hy,hyl,hym⟩:=WJ (show j-1<b.size by omega)
     by_cases hg1:g>1
     ·rw[if_pos hg1]
      refine wpS_bind (U1 ?_)
      refine wpS_bind (Zl hy (wpS_bind (ZR C (show kindOf (VI _ _)=κ from hk) ((Zkk C M.ua M.sa (M.ub _ hym) (ZqA a.size)).le (show i<=a.size-0 by omega)) (by omega) fun q1 p1 p2 p3=>?_)))
      dsimp only
      have fb2:∀z∈a.toList.take q1,R y z=false:=fun z hz=>by
       obtain⟨t,htk,ht⟩:=Q5 hz
       have h1:=p2 t htk
       rw[ZqY,ZU ht] at h1
       simpa using h1
      by_cases hk1:i-q1>0
      ·rw[if_pos hk1]
       have m2:=m.pushA M.sa (c:=q1) (by omega) (fun x hx z hz=>by
        obtain⟨t,htk,ht⟩:=U3 hz
        have h1:=p3 t htk.1 htk.2
        rw[ZqY,ZU ht] at h1
        have uz:=M.ua z (Zqk ht)
        exact C.takeLe M.ub M.sb (by omega) hyl uz (C.asy _ _ (M.ub _ hym) uz (by simpa using h1)) x hx)
       rw[<- QR] at m2
       by_cases e0:q1=0
       ·rw[if_pos (by simpa using e0)]
        exact wpS_pure (.inl ⟨_,rfl,M.hfA m2 (.inl e0) ⟨_,rfl⟩⟩)
       rw[if_neg (by simpa using e0)]
       have hi2:0<q1:=by omega
       have fb:=fb2
       refine wpS_bind (Zl hy ?_)
       have m2':=M.hb1 m2 (by omega) hyl fb
       by_cases e2:j-1=1
       ·rw[if_pos (by simpa using e2)]
        exact wpS_pure (.inl ⟨_,rfl,MLo.hfB C M m2' e2 ⟨_,rfl⟩⟩)
       rw[if_neg (by simpa using e2)]
       obtain⟨z,hz,hzl,hzm⟩:=WJ (show q1-1<a.size by omega)
       refine wpS_bind (Zl hz (wpS_bind (ZR C hk ((ZdI C M.ub M.sb (M.ua _ hzm) (ZqA b.size)).le (show j-1<=b.size-0 by omega)) (by omega) fun q2 r1 r2 r3=>?_)))
       dsimp only
       have fz2:∀y∈b.toList.take q2,R z y=false:=fun y hy=>by
        obtain⟨t,htk,ht⟩:=Q5 hy
        have h1:=r2 t htk
        rw[ZqY,ZU ht] at h1
        exact C.asy _ _ (M.ub _ (Zqk ht)) (M.ua _ hzm) h1
       by_cases hk2:j-1-q2>0
       ·rw[if_pos hk2]
        have m3:=m2'.pushB M.sb (c:=q2) (by omega) (fun x hx y hy=>by
         obtain⟨t,htk,ht⟩:=U3 hy
         have h1:=r3 t htk.1 htk.2
         rw[ZqY,ZU ht] at h1
         exact C.takeLe M.ua M.sa hi2 hzl (M.ub _ (Zqk ht)) h1 x hx)
        rw[<- QR] at m3
        by_cases e3:q2=1
        ·rw[if_pos (by simpa using e3)]
         exact wpS_pure (.inl ⟨_,rfl,MLo.hfB C M m3 e3 ⟨_,rfl⟩⟩)
        rw[if_neg (by simpa using e3)]
        by_cases e5:q2=0
        ·rw[if_pos (by simpa using e5)]
         exact wpS_pure (.inl ⟨_,rfl,M.hfA m3 (.inr e5) ⟨_,rfl⟩⟩)
        rw[if_neg (by simpa using e5)]
        have hj3:1<q2:=by omega
        have fz:=fz2
        refine wpS_bind (Zl hz ?_)
        have m4:=M.ha1 m3 hi2 hzl fz
        by_cases e4:q1-1=0
        ·rw[if_pos (by simpa using e4)]
         exact wpS_pure (.inl ⟨_,rfl,M.hfA m4 (.inl e4) ⟨_,rfl⟩⟩)
        ·rw[if_neg (by simpa using e4)]
         split
         ·exact wpS_pure (.inr ⟨rfl,⟨m4,by dsimp only;omega,hj3,_,rfl⟩,by dsimp only;omega⟩)
         ·exact wpS_pure ⟨rfl,⟨m4,by dsimp only;omega,hj3,_,rfl⟩,by dsimp only;omega⟩
       ·rw[if_neg hk2]
        have hq2:q2=j-1:=by omega
        subst hq2
        have m3:=m2'
        have hj3:1<j-1:=by omega
        have fz:=fz2
        refine wpS_bind (Zl hz ?_)
        have m4:=M.ha1 m3 hi2 hzl fz
        by_cases e4:q1-1=0
        ·rw[if_pos (by simpa using e4)]
         exact wpS_pure (.inl ⟨_,rfl,M.hfA m4 (.inl e4) ⟨_,rfl⟩⟩)
        ·rw[if_neg (by simpa using e4)]
         split
         ·exact wpS_pure (.inr ⟨rfl,⟨m4,by dsimp only;omega,hj3,_,rfl⟩,by dsimp only;omega⟩)
         ·exact wpS_pure ⟨rfl,⟨m4,by dsimp only;omega,hj3,_,rfl⟩,by dsimp only;omega⟩
      ·rw[if_neg hk1]
       have hq1:q1=i:=by omega
       subst hq1
       have m2:=m
       have hi2:0<q1:=hi
       have fb:=fb2
       refine wpS_bind (Zl hy ?_)
       have m2':=M.hb1 m2 (by omega) hyl fb
       by_cases e2:j-1=1
       ·rw[if_pos (by simpa using e2)]
        exact wpS_pure (.inl ⟨_,rfl,MLo.hfB C M m2' e2 ⟨_,rfl⟩⟩)
       rw[if_neg (by simpa using e2)]
       obtain⟨z,hz,hzl,hzm⟩:=WJ (show q1-1<a.size by omega)
       refine wpS_bind (Zl hz (wpS_bind (ZR C hk ((ZdI C M.ub M.sb (M.ua _ hzm) (ZqA b.size)).le (show j-1<=b.size-0 by omega)) (by omega) fun q2 r1 r2 r3=>?_)))
       dsimp only
       have fz2:∀y∈b.toList.take q2,R z y=false:=fun y hy=>by
        obtain⟨t,htk,ht⟩:=Q5 hy
        have h1:=r2 t htk
        rw[ZqY,ZU ht] at h1
        exact C.asy _ _ (M.ub _ (Zqk ht)) (M.ua _ hzm) h1
       by_cases hk2:j-1-q2>0
       ·rw[if_pos hk2]
        have m3:=m2'.pushB M.sb (c:=q2) (by omega) (fun x hx y hy=>by
         obtain⟨t,htk,ht⟩:=U3 hy
         have h1:=r3 t htk.1 htk.2
         rw[ZqY,ZU ht] at h1
         exact C.takeLe M.ua M.sa hi2 hzl (M.ub _ (Zqk ht)) h1 x hx)
        rw[<- QR] at m3
        by_cases e3:q2=1
        ·rw[if_pos (by simpa using e3)]
         exact wpS_pure (.inl ⟨_,rfl,MLo.hfB C M m3 e3 ⟨_,rfl⟩⟩)
        rw[if_neg (by simpa using e3)]
        by_cases e5:q2=0
        ·rw[if_pos (by simpa using e5)]
         exact wpS_pure (.inl ⟨_,rfl,M.hfA m3 (.inr e5) ⟨_,rfl⟩⟩)
        rw[if_neg (by simpa using e5)]
        have hj3:1<q2:=by omega
        have fz:=fz2
        refine wpS_bind (Zl hz ?_)
        have m4:=M.ha1 m3 hi2 hzl fz
        by_cases e4:q1-1=0
        ·rw[if_pos (by simpa using e4)]
         exact wpS_pure (.inl ⟨_,rfl,M.hfA m4 (.inl e4) ⟨_,rfl⟩⟩)
        ·rw[if_neg (by simpa using e4)]
         split
         ·exact wpS_pure (.inr ⟨rfl,⟨m4,by dsimp only;omega,hj3,_,rfl⟩,by dsimp only;omega⟩)
         ·exact wpS_pure ⟨rfl,⟨m4,by dsimp only;omega,hj3,_,rfl⟩,by dsimp only;omega⟩
       ·rw[if_neg hk2]
        have hq2:q2=j-1:=by omega
        subst hq2
        have m3:=m2'
        have hj3:1<j-1:=by omega
        have fz:=fz2
        refine wpS_bind (Zl hz ?_)
        have m4:=M.ha1 m3 hi2 hzl fz
        by_cases e4:q1-1=0
        ·rw[if_pos (by simpa using e4)]
         exact wpS_pure (.inl ⟨_,rfl,M.hfA m4 (.inl e4) ⟨_,rfl⟩⟩)
        ·rw[if_neg (by simpa using e4)]
         split
         ·exact wpS_pure (.inr ⟨rfl,⟨m4,by dsimp only;omega,hj3,_,rfl⟩,by dsimp only;omega⟩)
         ·exact wpS_pure ⟨rfl,⟨m4,by dsimp only;omega,hj3,_,rfl⟩,by dsimp only;omega⟩
     ·rw[if_neg hg1]
      refine wpS_bind (U1 ?_)
      refine wpS_bind (Zl hy (wpS_bind (ZR C (show kindOf (VI _ _)=κ from hk) ((Zkk C M.ua M.sa (M.ub _ hym) (ZqA a.size)).le (show i<=a.size-0 by omega)) (by omega) fun q1 p1 p2 p3=>?_)))
      dsimp only
      have fb2:∀z∈a.toList.take q1,R y z=false:=fun z hz=>by
       obtain⟨t,htk,ht⟩:=Q5 hz
       have h1:=p2 t htk
       rw[ZqY,ZU ht] at h1
       simpa using h1
      by_cases hk1:i-q1>0
      ·rw[if_pos hk1]
       have m2:=m.pushA M.sa (c:=q1) (by omega) (fun x hx z hz=>by
        obtain⟨t,htk,ht⟩:=U3 hz
        have h1:=p3 t htk.1 htk.2
        rw[ZqY,ZU ht] at h1
        have uz:=M.ua z (Zqk ht)
        exact C.takeLe M.ub M.sb (by omega) hyl uz (C.asy _ _ (M.ub _ hym) uz (by simpa using h1)) x hx)
       rw[<- QR] at m2
       by_cases e0:q1=0
       ·rw[if_pos (by simpa using e0)]
        exact wpS_pure (.inl ⟨_,rfl,M.hfA m2 (.inl e0) ⟨_,rfl⟩⟩)
       rw[if_neg (by simpa using e0)]
       have hi2:0<q1:=by omega
       have fb:=fb2
       refine wpS_bind (Zl hy ?_)
       have m2':=M.hb1 m2 (by omega) hyl fb
       by_cases e2:j-1=1
       ·rw[if_pos (by simpa using e2)]
        exact wpS_pure (.inl ⟨_,rfl,MLo.hfB C M m2' e2 ⟨_,rfl⟩⟩)
       rw[if_neg (by simpa using e2)]
       obtain⟨z,hz,hzl,hzm⟩:=WJ (show q1-1<a.size by omega)
       refine wpS_bind (Zl hz (wpS_bind (ZR C hk ((ZdI C M.ub M.sb (M.ua _ hzm) (ZqA b.size)).le (show j-1<=b.size-0 by omega)) (by omega) fun q2 r1 r2 r3=>?_)))
       dsimp only
       have fz2:∀y∈b.toList.take q2,R z y=false:=fun y hy=>by
        obtain⟨t,htk,ht⟩:=Q5 hy
        have h1:=r2 t htk
        rw[ZqY,ZU ht] at h1
        exact C.asy _ _ (M.ub _ (Zqk ht)) (M.ua _ hzm) h1
       by_cases hk2:j-1-q2>0
       ·rw[if_pos hk2]
        have m3:=m2'.pushB M.sb (c:=q2) (by omega) (fun x hx y hy=>by
         obtain⟨t,htk,ht⟩:=U3 hy
         have h1:=r3 t htk.1 htk.2
         rw[ZqY,ZU ht] at h1
         exact C.takeLe M.ua M.sa hi2 hzl (M.ub _ (Zqk ht)) h1 x hx)
        rw[<- QR] at m3
        by_cases e3:q2=1
        ·rw[if_pos (by simpa using e3)]
         exact wpS_pure (.inl ⟨_,rfl,MLo.hfB C M m3 e3 ⟨_,rfl⟩⟩)
        rw[if_neg (by simpa using e3)]
        by_cases e5:q2=0
        ·rw[if_pos (by simpa using e5)]
         exact wpS_pure (.inl ⟨_,rfl,M.hfA m3 (.inr e5) ⟨_,rfl⟩⟩)
        rw[if_neg (by simpa using e5)]
        have hj3:1<q2:=by omega
        have fz:=fz2
        refine wpS_bind (Zl hz ?_)
        have m4:=M.ha1 m3 hi2 hzl fz
        by_cases e4:q1-1=0
        ·rw[if_pos (by simpa using e4)]
         exact wpS_pure (.inl ⟨_,rfl,M.hfA m4 (.inl e4) ⟨_,rfl⟩⟩)
        ·rw[if_neg (by simpa using e4)]
         split
         ·exact wpS_pure (.inr ⟨rfl,⟨m4,by dsimp only;omega,hj3,_,rfl⟩,by dsimp only;omega⟩)
         ·exact wpS_pure ⟨rfl,⟨m4,by dsimp only;omega,hj3,_,rfl⟩,by dsimp only;omega⟩
       ·rw[if_neg hk2]
        have hq2:q2=j-1:=by omega
        subst hq2
        have m3:=m2'
        have hj3:1<j-1:=by omega
        have fz:=fz2
        refine wpS_bind (Zl hz ?_)
        have m4:=M.ha1 m3 hi2 hzl fz
        by_cases e4:q1-1=0
        ·rw[if_pos (by simpa using e4)]
         exact wpS_pure (.inl ⟨_,rfl,M.hfA m4 (.inl e4) ⟨_,rfl⟩⟩)
        ·rw[if_neg (by simpa using e4)]
         split
         ·exact wpS_pure (.inr ⟨rfl,⟨m4,by dsimp only;omega,hj3,_,rfl⟩,by dsimp only;omega⟩)
         ·exact wpS_pure ⟨rfl,⟨m4,by dsimp only;omega,hj3,_,rfl⟩,by dsimp only;omega⟩
      ·rw[if_neg hk1]
       have hq1:q1=i:=by omega
       subst hq1
       have m2:=m
       have hi2:0<q1:=hi
       have fb:=fb2
       refine wpS_bind (Zl hy ?_)
       have m2':=M.hb1 m2 (by omega) hyl fb
       by_cases e2:j-1=1
       ·rw[if_pos (by simpa using e2)]
        exact wpS_pure (.inl ⟨_,rfl,MLo.hfB C M m2' e2 ⟨_,rfl⟩⟩)
       rw[if_neg (by simpa using e2)]
       obtain⟨z,hz,hzl,hzm⟩:=WJ (show q1-1<a.size by omega)
       refine wpS_bind (Zl hz (wpS_bind (ZR C hk ((ZdI C M.ub M.sb (M.ua _ hzm) (ZqA b.size)).le (show j-1<=b.size-0 by omega)) (by omega) fun q2 r1 r2 r3=>?_)))
       dsimp only
       have fz2:∀y∈b.toList.take q2,R z y=false:=fun y hy=>by
        obtain⟨t,htk,ht⟩:=Q5 hy
        have h1:=r2 t htk
        rw[ZqY,ZU ht] at h1
        exact C.asy _ _ (M.ub _ (Zqk ht)) (M.ua _ hzm) h1
       by_cases hk2:j-1-q2>0
       ·rw[if_pos hk2]
        have m3:=m2'.pushB M.sb (c:=q2) (by omega) (fun x hx y hy=>by
         obtain⟨t,htk,ht⟩:=U3 hy
         have h1:=r3 t htk.1 htk.2
         rw[ZqY,ZU ht] at h1
         exact C.takeLe M.ua M.sa hi2 hzl (M.ub _ (Zqk ht)) h1 x hx)
        rw[<- QR] at m3
        by_cases e3:q2=1
        ·rw[if_pos (by simpa using e3)]
         exact wpS_pure (.inl ⟨_,rfl,MLo.hfB C M m3 e3 ⟨_,rfl⟩⟩)
        rw[if_neg (by simpa using e3)]
        by_cases e5:q2=0
        ·rw[if_pos (by simpa using e5)]
         exact wpS_pure (.inl ⟨_,rfl,M.hfA m3 (.inr e5) ⟨_,rfl⟩⟩)
        rw[if_neg (by simpa using e5)]
        have hj3:1<q2:=by omega
        have fz:=fz2
        refine wpS_bind (Zl hz ?_)
        have m4:=M.ha1 m3 hi2 hzl fz
        by_cases e4:q1-1=0
        ·rw[if_pos (by simpa using e4)]
         exact wpS_pure (.inl ⟨_,rfl,M.hfA m4 (.inl e4) ⟨_,rfl⟩⟩)
        ·rw[if_neg (by simpa using e4)]
         split
         ·exact wpS_pure (.inr ⟨rfl,⟨m4,by dsimp only;omega,hj3,_,rfl⟩,by dsimp only;omega⟩)
         ·exact wpS_pure ⟨rfl,⟨m4,by dsimp only;omega,hj3,_,rfl⟩,by dsimp only;omega⟩
       ·rw[if_neg hk2]
        have hq2:q2=j-1:=by omega
        subst hq2
        have m3:=m2'
        have hj3:1<j-1:=by omega
        have fz:=fz2
        refine wpS_bind (Zl hz ?_)
        have m4:=M.ha1 m3 hi2 hzl fz
        by_cases e4:q1-1=0
        ·rw[if_pos (by simpa using e4)]
         exact wpS_pure (.inl ⟨_,rfl,M.hfA m4 (.inl e4) ⟨_,rfl⟩⟩)
        ·rw[if_neg (by simpa using e4)]
         split
         ·exact wpS_pure (.inr ⟨rfl,⟨m4,by dsimp only;omega,hj3,_,rfl⟩,by dsimp only;omega⟩)
         ·exact wpS_pure ⟨rfl,⟨m4,by dsimp only;omega,hj3,_,rfl⟩,by dsimp only;omega⟩
end
theorem Zfh (i:Nat):mergeAt' i=(do
  let s <- get
  let (some (c,n,p),some (d,m,_)):=((pendingOf s)[i]?,(pendingOf s)[i+1]?)|unsupported "internal:list.sort.pending"
  set (setPending s (((pendingOf s).setIfInBounds i (c,n+m,p)).eraseIdxIfInBounds (i+1)))
  let some k <- Ug false (<- elem' (arrOf s) d) (arrOf s) c n 0|return false
  let (c,n):=(c+k,n-k)
  if n==0 then return true
  let some m <- Ug true (<- elem' (arrOf s) (c+n-1)) (arrOf s) d m (m-1)|return false
  if m==0 then return true
  let x:=(arrOf s).extract c d
  let y:=(arrOf s).extract d (d+m)
  let r <- if n<=m then ZcO x y else ZcP x y
  modify fun s=>setArr s (r.toList.zipIdx.foldl (fun a (p,j)=>a.setIfInBounds (c+j) p) (arrOf s))
  return (failedOf (<- get)).isNone):=rfl
section
variable {prog:Program}{w:World}{A:Around}{E:Value->Shared->Prop}{s:Shared}{κ:SortKind}{U:Keyed->Prop}{R:Keyed->Keyed->Bool}
theorem Zga:∀(r:List Keyed) (c:Nat) (X:Array Keyed) (n:Nat),c+n+r.length<=X.size->((r.zipIdx n).foldl (fun a (p:Keyed×Nat)=>a.setIfInBounds (c+p.2) p.1) X).toList=X.toList.take (c+n)++r++X.toList.drop (c+n+r.length)
 |[],c,X,n,h=>by simp
 |x::r,c,X,n,h=>by
  simp only[Zq8] at h
  rw[List.zipIdx_cons,List.foldl_cons]
  have ih:=Zga r c (X.setIfInBounds (c+n) x) (n+1) (by rw[Array.size_setIfInBounds];omega)
  rw[ih,ZrW]
  have hl:c+n<X.toList.length:=by rw[Zqq];omega
  rw[show c+(n+1)=c+n+1 by omega]
  have e1:(X.toList.set (c+n) x).take (c+n+1)=X.toList.take (c+n)++[x]:=by
   rw[List.take_set,List.take_succ_eq_append_getElem hl,List.set_append_right _ _ (by rw[Zq1];omega)]
   rw[show c+n-(X.toList.take (c+n)).length=0 by rw[Zq1,Zqq];omega]
   rfl
  have e2:(X.toList.set (c+n) x).drop (c+n+1+r.length)=X.toList.drop (c+n+1+r.length):=List.drop_set_of_lt (by omega)
  rw[e1,e2]
  simp only[Zq8,Zqs,Zrs,ZrI,Zrd]
  rw[show c+n+(r.length+1)=c+n+1+r.length by omega]
theorem Zi5 (C:QL prog w A s κ U R) (left:Bool) {X:Array Keyed}{key:Keyed}{c n:Nat}{P:List Keyed} (hP:∀t,t<n->X[c+t]?=P[t]?) (hn:P.length=n) (ul:∀y∈P,U y) (hs:Srt R P) (uk:U key) :
  Za6 U R left key X c n (fun t=>if left=true then R (P.getD t (.none,.none)) key else !R key (P.getD t (.none,.none))):=by
 have get:∀t,t<n->P[t]?=some (P.getD t (.none,.none)):=fun t ht=>by
  rw[Zqi,Zqm (by omega)];rfl
 refine⟨uk,fun t ht=>⟨_,by rw[hP t ht,get t ht],ul _ (Zqk (get t ht)),rfl⟩,fun t u htu hu h=>?_⟩
 have hu':=get u hu
 have ht':=get t (by omega)
 have h2:=Srt.le C ul hs htu ht' hu'
 have u1:=ul _ (Zqk ht')
 have u2:=ul _ (Zqk hu')
 cases left with
 |false =>
  have h:(!R key (P.getD u (.none,.none)))=true:=h
  show (!R key (P.getD t (.none,.none)))=true
  rw[C.tr _ _ key u1 u2 uk h2 (by simpa using h)];rfl
 |true =>
  have h:R (P.getD u (.none,.none)) key=true:=h
  show R (P.getD t (.none,.none)) key=true
  cases hc:R (P.getD t (.none,.none)) key with
  |true=>rfl
  |false=>rw[C.tr key _ _ uk u1 u2 hc h2] at h;cases h
theorem ZlJ {σ:Type}{M:Model}{v:σ}{Q:PUnit->σ->Prop}{st:σ} (h:Q ⟨⟩ v):wpS M A E s (set v:StateT σ Sem PUnit) Q st:=by
 unfold wpS;rw[StateT.run_set];exact wpAny_pure ⟨rfl,h⟩
theorem ZeL (C:QL prog w A s κ U R) {st:SortSt}{i c n p d m p2:Nat}{pre P Y post:List Keyed}{Q:Bool->SortSt->Prop} (hk:kindOf st=κ) (hf:failedOf st=none)
  (h1:(pendingOf st)[i]?=some (c,n,p)) (h2:(pendingOf st)[i+1]?=some (d,m,p2)) (hX:(arrOf st).toList=pre++(P++(Y++post))) (lp:pre.length=c) (lP:P.length=n) (lY:Y.length=m) (hd:d=c+n) (n0:0<n) (m0:0<m)
  (uP:∀x∈P,U x) (uY:∀x∈Y,U x) (sP:Srt R P) (sY:Srt R Y)
  (h:∀st' W,kindOf st'=κ->failedOf st'=none->pendingOf st'=((pendingOf st).setIfInBounds i (c,n+m,p)).eraseIdxIfInBounds (i+1)->(arrOf st').toList=pre++(W++post)->Srt R W->W.Perm (P++Y)->Q true st') :
  wpS (model prog w) A E s (mergeAt' i) Q st:=by
 rw[Zfh]
 refine wpS_bind (wpS_get ?_)
 rw[h1,h2]
 dsimp only
 have size0:(arrOf st).size=c+(n+(m+post.length)):=by
  have:=congrArg List.length hX
  rw[Zqq] at this
  rw[this];simp[lp,lP,lY]
 have gP:∀t,t<n->(arrOf st)[c+t]?=P[t]?:=fun t ht=>by
  rw[<- ZqF,hX,Zqv (by omega),lp,show c+t-c=t by omega,Zqr (by omega)]
 have gY:∀t,t<m->(arrOf st)[d+t]?=Y[t]?:=fun t ht=>by
  rw[<- ZqF,hX,Zqv (by omega),lp,Zqv (by omega),lP,show d+t-c-n=t by omega,Zqr (by omega)]
 refine wpS_bind (ZlJ ?_)
 have y0l:Y[0]?=some (Y.getD 0 (.none,.none)):=by rw[Zqi,Zqm (by omega)];rfl
 generalize Y.getD 0 (.none,.none)=y0 at y0l
 have uy0:=uY y0 (Zqk y0l)
 refine wpS_bind (Zl (x:=y0) (by have:=gY 0 m0;rw[Nat.add_zero] at this;rw[this,y0l]) (wpS_bind (ZR C (show kindOf (setPending st _)=κ from hk) (Zi5 C false gP lP uP sP uy0) n0 fun k p1 p2 p3=>?_)))
 dsimp only at p2 p3 ⊢
 have gd:∀{l:List Keyed}{t:Nat}{x:Keyed},l[t]?=some x->l.getD t (.none,.none)=x:=fun {l t x} h=>by rw[Zqi,h];rfl
 have pk:∀x∈P.take k,R y0 x=false:=fun x hx=>by
  obtain⟨t,ht,hx⟩:=Q5 hx
  have:=p2 t ht
  rw[gd hx] at this
  simpa using this
 have pk2:∀t x,k<=t->P[t]?=some x->R y0 x=true:=fun t x ht hx=>by
  have hl:=(Zql.mp hx).1
  have:=p3 t ht (by omega)
  rw[gd hx] at this
  simpa using this
 by_cases e1:n-k=0
 ·rw[if_pos (by simpa using e1)]
  refine wpS_pure (h _ (P++Y) hk hf rfl (by rw[hX,Zqs]) (Zqy.mpr ⟨sP,sY,fun x hx y hy=>?_⟩) (List.Perm.refl _))
  have:=C.dropLe uY sY y0l (uP x hx) (pk x (by rw[ZqG (by omega)];exact hx))
  rw[Zr0] at this
  exact this y hy
 rw[if_neg (by simpa using e1)]
 have ll:P[n-1]?=some (P.getD (n-1) (.none,.none)):=by rw[Zqi,Zqm (by omega)];rfl
 generalize P.getD (n-1) (.none,.none)=l at ll
 have ul:=uP l (Zqk ll)
 refine wpS_bind (Zl (x:=l) (by have:=gP (n-1) (by omega);rw[show c+k+(n-k)-1=c+(n-1) by omega,this,ll]) (wpS_bind (ZR C (show kindOf (setPending st _)=κ from hk) (Zi5 C true gY lY uY sY ul) (by omega) fun k2 r1 r2 r3=>?_)))
 dsimp only at r2 r3 ⊢
 have yk:∀x∈Y.take k2,R x l=true:=fun x hx=>by
  obtain⟨t,ht,hx⟩:=Q5 hx
  have:=r2 t ht
  rw[gd hx] at this
  simpa using this
 have yk2:∀x∈Y.drop k2,R x l=false:=fun x hx=>by
  obtain⟨t,hx⟩:=Ja hx
  have hl:=(Zql.mp hx).1
  have:=r3 (k2+t) (by omega) (by omega)
  rw[gd hx] at this
  simpa using this
 have pl:∀v,U v->R v l=false->∀x∈P,R v x=false:=fun v uv hv x hx=>C.takeLe uP sP n0 ll uv hv x (by rw[ZqG (by omega)];exact hx)
 by_cases e2:k2=0
 ·rw[if_pos (by simpa using e2)]
  subst e2
  rw[Zr0] at yk2
  exact wpS_pure (h _ (P++Y) hk hf rfl (by rw[hX,Zqs]) (Zqy.mpr ⟨sP,sY,fun x hx y hy=>pl y (uY y hy) (yk2 y hy) x hx⟩) (List.Perm.refl _))
 rw[if_neg (by simpa using e2)]
 have ex:((arrOf st).extract (c+k) d).toList=P.drop k:=by
  refine ZrD fun t=>?_
  rw[Zro,ZqL,ZqO,ZqR,ZqR,ZqF]
  by_cases ht:t<d-(c+k)
  ·rw[if_pos ht,show c+k+t=c+(k+t) by omega,gP (k+t) (by omega)]
  ·rw[if_neg ht,ZqI (by omega)]
 have ey:((arrOf st).extract d (d+k2)).toList=Y.take k2:=by
  refine ZrD fun t=>?_
  rw[Zro,ZqL,ZqO,ZqR,ZqO,ZqF]
  by_cases ht:t<k2
  ·rw[if_pos (by omega),if_pos ht,gY t (by omega)]
  ·rw[if_neg (by omega),if_neg ht]
 have sx:((arrOf st).extract (c+k) d).size=n-k:=by
  have:=congrArg List.length ex
  rw[Zqq,Zrg] at this
  omega
 have sy:((arrOf st).extract d (d+k2)).size=k2:=by
  have:=congrArg List.length ey
  rw[Zqq,Zq1] at this
  omega
 have MM:MLo U R ((arrOf st).extract (c+k) d) ((arrOf st).extract d (d+k2)):=by
  refine⟨?_, ?_, ?_, ?_,by omega,by omega,fun x y hx hy=>?_,fun x hx y hy=>?_⟩
  ·rw[ex];exact fun x hx=>uP x (ZqN hx)
  ·rw[ey];exact fun x hx=>uY x (ZqC hx)
  ·rw[ex];exact sP.drop k
  ·rw[ey];exact sY.take k2
  ·rw[ey,ZqO,if_pos (by omega),y0l] at hx
   cases hx
   rw[ex,ZqR,Nat.add_zero] at hy
   exact C.asy _ _ uy0 (uP y (Zqk hy)) (pk2 k y (Zqn _) hy)
  ·rw[ey] at hx
   rw[ex,ZqR,sx,show k+(n-k-1)=n-1 by omega,ll] at hy
   cases hy
   exact C.asy _ _ (uY x (ZqC hx)) ul (yk x hx)
 have fin:∀r st2,Zax R ((arrOf st).extract (c+k) d) ((arrOf st).extract d (d+k2)) (setPending st (((pendingOf st).setIfInBounds i (c,n+m,p)).eraseIdxIfInBounds (i+1))) r st2 ->
   wpS (model prog w) A E s (do
    modify fun s=>setArr s (r.toList.zipIdx.foldl (fun a (p,j)=>a.setIfInBounds (c+k+j) p) (arrOf s))
    return (failedOf (<- get)).isNone) Q st2:=by
  rintro r st2 ⟨q1,q2,g,rfl⟩
  rw[ex,ey] at q2
  have lr:r.toList.length=n-k+k2:=by
   rw[q2.length_eq,ZqV,Zrg,Zq1];omega
  refine wpS_bind (wpS_modify (wpS_bind (wpS_get (wpS_pure ?_))))
  show Q ((failedOf st).isNone) _
  rw[hf]
  have hw:=Zga r.toList (c+k) (arrOf st) 0 (by omega)
  have memr:∀x∈r.toList,(x∈P.drop k\/x∈Y.take k2):=fun x hx=>Zqo.mp (q2.mem_iff.mp hx)
  refine h _ (P.take k++(r.toList++Y.drop k2)) hk hf rfl ?_ ?_ ?_
  ·show (r.toList.zipIdx.foldl (fun a (p:Keyed×Nat)=>a.setIfInBounds (c+k+p.2) p.1) (arrOf st)).toList=_
   rw[hw,Nat.add_zero,hX,lr]
   have d1:(pre++(P++(Y++post))).take (c+k)=pre++P.take k:=by
    rw[List.take_append,ZqG (by omega),lp,show c+k-c=k by omega,List.take_append_of_le_length (by omega)]
   have d2:(pre++(P++(Y++post))).drop (c+k+(n-k+k2))=Y.drop k2++post:=by
    rw[List.drop_append,ZrA (by omega),Zrd,lp,List.drop_append,ZrA (by omega),Zrd,lP,List.drop_append_of_le_length (by omega)]
    congr 2
    omega
   rw[d1,d2]
   simp only[Zqs]
  ·refine Zqy.mpr ⟨sP.take k,Zqy.mpr ⟨q1,sY.drop k2,fun x hx y hy=>?_⟩,fun x hx y hy=>?_⟩
   ·rcases memr x hx with z|z
    ·exact pl y (uY y (ZqN hy)) (yk2 y hy) x (ZqN z)
    ·have sd:=sY
     rw[<- Zq5 k2 Y] at sd
     exact(Zqy.mp sd).2.2 x z y hy
   ·have ux:=uP x (ZqC hx)
    have hyY:∀y∈Y,R y x=false:=fun y hy=>by
     have:=C.dropLe uY sY y0l ux (pk x hx)
     rw[Zr0] at this
     exact this y hy
    rcases Zqo.mp hy with z|z
    ·rcases memr y z with z|z
     ·have sd:=sP
      rw[<- Zq5 k P] at sd
      exact(Zqy.mp sd).2.2 x hx y z
     ·exact hyY y (ZqC z)
    ·exact hyY y (ZqN z)
  ·have p1:(P.take k++(r.toList++Y.drop k2)).Perm (P.take k++((P.drop k++Y.take k2)++Y.drop k2)):=List.Perm.append_left _ (q2.append_right _)
   refine p1.trans ?_
   rw[Zqs,Zq5,<- Zqs,Zq5]
 by_cases e3:n-k<=k2
 ·rw[if_pos e3]
  exact wpS_bind (ZeJ C (show kindOf (setPending st _)=κ from hk) MM fin)
 ·rw[if_neg e3]
  exact wpS_bind (ZeK C (show kindOf (setPending st _)=κ from hk) MM fin)
end
noncomputable def gA (X:Array Keyed) (i:Nat):Keyed:=X.getD i (.none,.none)
theorem Zco {X:Array Keyed}{i:Nat} (h:i<X.size):X[i]?=some (gA X i):=by simp[gA,Array.getD,h]
theorem Zm5 {X:Array Keyed}{i:Nat}{x:Keyed} (h:X[i]?=some x):gA X i=x:=by
 have hi:i<X.size:=by
  rcases Nat.lt_or_ge i X.size with z|z
  ·exact z
  ·rw[ZrB z] at h;cases h
 rw[Zco hi] at h;exact Option.some.inj h
theorem V7 {X Y:Array Keyed}{i j:Nat} (h:X[i]?=Y[j]?):gA X i=gA Y j:=by
 simp only[gA,Array.getD_eq_getD_getElem?,h]
def Up (R:Keyed->Keyed->Bool) (X:Array Keyed) (lo m:Nat):Prop:=∀i j,i<j->j<m->R (gA X (lo+j)) (gA X (lo+i))=false
def Dn' (R:Keyed->Keyed->Bool) (X:Array Keyed) (lo m:Nat):Prop:=∀i j,i<j->j<m->R (gA X (lo+i)) (gA X (lo+j))=false
structure Ve (X Y:Array Keyed) (lo m:Nat):Prop where
 perm:Y.Perm X
 out:∀k,k<lo\/lo+m<=k->Y[k]?=X[k]?
theorem Ve.refl (X:Array Keyed) (lo m:Nat):Ve X X lo m:=⟨Array.Perm.refl _,fun _ _=>rfl⟩
theorem Ve.size {X Y:Array Keyed}{lo m:Nat} (h:Ve X Y lo m):Y.size=X.size:=h.perm.size_eq
theorem Ve.trans {X Y Z:Array Keyed}{lo m:Nat} (h:Ve X Y lo m) (g:Ve Y Z lo m):Ve X Z lo m:=⟨g.perm.trans h.perm,fun k hk=>(g.out k hk).trans (h.out k hk)⟩
theorem Ve.wide {X Y:Array Keyed}{lo lo' m m':Nat} (h:Ve X Y lo' m') (h1:lo<=lo') (h2:lo'+m'<=lo+m):Ve X Y lo m:=⟨h.perm,fun k hk=>h.out k (by omega)⟩
section
variable {prog:Program}{w:World}{A:Around}{E:Value->Shared->Prop}{s:Shared}{κ:SortKind}{U:Keyed->Prop}{R:Keyed->Keyed->Bool}
def ZfZ (U:Keyed->Prop) (X:Array Keyed):Prop:=∀i,i<X.size->U (gA X i)
theorem ZfZ.stir {X Y:Array Keyed}{lo m:Nat} (h:ZfZ U X) (t:Ve X Y lo m):ZfZ U Y:=fun i hi=>by
 have hm:gA Y i∈Y:=by
  have:=Zco hi
  exact Array.mem_of_getElem? this
 obtain⟨j,hj⟩:=Array.getElem?_of_mem ((Array.Perm.mem_iff t.perm).mp hm)
 have hjs:j<X.size:=by
  rcases Nat.lt_or_ge j X.size with z|z
  ·exact z
  ·rw[ZrB z] at hj;cases hj
 rw[<- Zm5 hj]
 exact h j hjs
theorem Jp (C:QL prog w A s κ U R) {st:SortSt}{i j:Nat}{Q:Option Bool->SortSt->Prop} (hk:kindOf st=κ) (hU:ZfZ U (arrOf st)) (hi:i<(arrOf st).size) (hj:j<(arrOf st).size) (h:Q (some (R (gA (arrOf st) i) (gA (arrOf st) j))) st) :
  wpS (model prog w) A E s (ltAt' i j) Q st:=by
 rw[ltAt'_eq]
 refine wpS_bind (wpS_get ?_)
 exact wpS_bind (Zl (Zco hi) (wpS_bind (Zl (Zco hj) (ZaT C hk (hU i hi) (hU j hj) h))))
theorem Up.more (C:QL prog w A s κ U R) {X:Array Keyed}{lo n:Nat} (hU:ZfZ U X) (hs:lo+n<X.size) (h:Up R X lo n) (hl:n=0\/R (gA X (lo+n)) (gA X (lo+n-1))=false):Up R X lo (n+1):=fun i j hij hj=>by
 by_cases e:j<n
 ·exact h i j hij e
 ·obtain rfl:j=n:=by omega
  rcases hl with hl|hl
  ·omega
  ·by_cases e2:i=j-1
   ·subst e2;rw[show lo+(j-1)=lo+j-1 by omega];exact hl
   ·have h2:=h i (j-1) (by omega) (by omega)
    rw[show lo+(j-1)=lo+j-1 by omega] at h2
    exact C.tr _ _ _ (hU _ (by omega)) (hU _ (by omega)) (hU _ (by omega)) h2 hl
theorem ZlK (C:QL prog w A s κ U R) {st:SortSt}{lo n ok:Nat}{Q:Bool->SortSt->Prop} (hk:kindOf st=κ) (hU:ZfZ U (arrOf st)) (hn:lo+n<=(arrOf st).size) (hok:ok<=n) (n1:1<=n) (hs:Up R (arrOf st) lo ok)
  (h:∀Y,Ve (arrOf st) Y lo n->Up R Y lo n->Q true (setArr st Y)):wpS (model prog w) A E s (binarySort' lo n ok) Q st:=by
 rw[binarySort'_eq]
 refine wpS_bind (wpS_mono (wpS_forRange
  (I:=fun k (c:Option Bool×Unit) (st':SortSt)=>c.1=none/\∃Y,st'=setArr st Y/\Ve (arrOf st) Y lo n/\Up R Y lo k)
  (Q:=fun(c:Option Bool×Unit) (st':SortSt)=>c.1=none/\∃Y,st'=setArr st Y/\Ve (arrOf st) Y lo n/\Up R Y lo n) ?step ?fin ?ini) ?post)
 case ini =>
  refine⟨rfl,arrOf st,rfl,Ve.refl _ _ _,fun i j hij hj=>?_⟩
  by_cases e:1<=ok
  ·exact hs i j hij (by omega)
  ·omega
 case fin =>
  rintro⟨o,u⟩ st' ⟨h1,Y,h2,h3,h4⟩
  exact⟨h1,Y,h2,h3,fun i j hij hj=>h4 i j hij (by omega)⟩
 case post =>
  rintro⟨o,u⟩ st' ⟨h1,Y,rfl,h3,h4⟩
  dsimp only at h1
  subst h1
  exact wpS_pure (h Y h3 h4)
 case step =>
  rintro k ⟨o,u⟩ st' hk1 hk2 ⟨h1,Y,rfl,h3,h4⟩
  dsimp only at h1
  subst h1
  have hYU:=hU.stir h3
  have hYs:=h3.size
  refine wpS_bind (wpS_mono (wpS_forRange
   (I:=fun x (c:Option Bool×Nat×Nat) (st':SortSt)=>c.1=none/\st'=setArr st Y/\c.2.1<=c.2.2/\c.2.2<=k/\(∀i,i<c.2.1->R (gA Y (lo+k)) (gA Y (lo+i))=false)/\(∀i,c.2.2<=i->i<k->R (gA Y (lo+k)) (gA Y (lo+i))=true)/\c.2.2-c.2.1<=k-x)
   (Q:=fun(c:Option Bool×Nat×Nat) (st':SortSt)=>c.1=none/\st'=setArr st Y/\c.2.1=c.2.2/\c.2.2<=k/\(∀i,i<c.2.1->R (gA Y (lo+k)) (gA Y (lo+i))=false)/\(∀i,c.2.2<=i->i<k->R (gA Y (lo+k)) (gA Y (lo+i))=true)) ?step1 ?fin1
   ⟨rfl,rfl,ZqA _,Zqn _,fun i hi=>absurd hi (Nat.not_lt_zero _),fun i h1 h2=>absurd h1 (by dsimp only;omega),by dsimp only;omega⟩) ?post1)
  case fin1 =>
   rintro⟨o,l,r⟩ st' ⟨rfl,q0,q1,q2,q3,q4,q5⟩
   dsimp only at q1 q2 q3 q4 q5 ⊢
   exact⟨rfl,q0,by omega,q2,q3,q4⟩
  case step1 =>
   rintro x ⟨o,l,r⟩ st' _ hx ⟨rfl,rfl,q1,q2,q3,q4,q5⟩
   dsimp only at q1 q2 q3 q4 q5 ⊢
   by_cases hlr:l ≥ r
   ·rw[if_pos hlr]
    exact wpS_pure ⟨rfl,rfl,by dsimp only;omega,q2,q3,q4⟩
   ·rw[if_neg hlr]
    refine wpS_bind (Jp C (show kindOf (setArr st Y)=κ from hk) hYU (show lo+k<Y.size by omega) (show lo+(l+r)/2<Y.size by omega) ?_)
    dsimp only
    show wpS _ _ _ _ (if R (gA Y (lo+k)) (gA Y (lo+(l+r)/2))=true then _ else _) _ _
    cases hm:R (gA Y (lo+k)) (gA Y (lo+(l+r)/2)) with
    |true =>
     rw[if_pos rfl]
     refine wpS_pure ⟨rfl,rfl,by dsimp only;omega,by dsimp only;omega,q3,fun i i1 i2=>?_,by dsimp only;omega⟩
     dsimp only at i1
     by_cases e:i=(l+r)/2
     ·subst e;exact hm
     ·cases hc:R (gA Y (lo+k)) (gA Y (lo+i)) with
      |true=>rfl
      |false =>
       have:=h4 ((l+r)/2) i (by omega) i2
       rw[C.tr _ _ _ (hYU _ (by omega)) (hYU _ (by omega)) (hYU _ (by omega)) this hc] at hm
       cases hm
    |false =>
     rw[if_neg (by decide)]
     refine wpS_pure ⟨rfl,rfl,by dsimp only;omega,q2,fun i i1=>?_,q4,by dsimp only;omega⟩
     dsimp only at i1
     by_cases e:i=(l+r)/2
     ·subst e;exact hm
     ·have:=h4 i ((l+r)/2) (by omega) (by omega)
      exact C.tr _ _ _ (hYU _ (by omega)) (hYU _ (by omega)) (hYU _ (by omega)) this hm
  case post1 =>
   rintro⟨o,l,r⟩ st' ⟨rfl,rfl,q1,q2,q3,q4⟩
   dsimp only at q1 q2 q3 q4 ⊢
   subst q1
   rw[moveDown'_eq]
   refine wpS_bind (wpS_modify (wpS_pure ⟨rfl,bubble Y (lo+k) (lo+k-(lo+l)),rfl, ?_, ?_⟩))
   ·refine h3.trans ⟨bubble_perm _ _ _,fun t ht=>?_⟩
    rw[getElem?_bubble (show lo+k<Y.size by omega) _ (by omega),if_neg (by omega),if_neg (by omega)]
   ·have bg:∀t,t<=k->gA (bubble Y (lo+k) (lo+k-(lo+l))) (lo+t)=if t=l then gA Y (lo+k) else if l<t then gA Y (lo+t-1) else gA Y (lo+t):=fun t ht=>by
     have e:=getElem?_bubble (show lo+k<Y.size by omega) (lo+k-(lo+l)) (by omega) (lo+t)
     by_cases e1:t=l
     ·rw[if_pos e1];rw[if_pos (by omega)] at e;exact V7 e
     ·rw[if_neg e1];rw[if_neg (by omega)] at e
      by_cases e2:l<t
      ·rw[if_pos e2];rw[if_pos (by omega)] at e;exact V7 e
      ·rw[if_neg e2];rw[if_neg (by omega)] at e;exact V7 e
    intro i j hij hj
    rw[bg i (by omega),bg j (by omega)]
    by_cases a1:j=l
    ·rw[if_pos a1,if_neg (by omega),if_neg (by omega)]
     exact q3 i (by omega)
    ·rw[if_neg a1]
     by_cases a2:l<j
     ·rw[if_pos a2]
      by_cases b1:i=l
      ·rw[if_pos b1,show lo+j-1=lo+(j-1) by omega]
       exact C.asy _ _ (hYU _ (by omega)) (hYU _ (by omega)) (q4 (j-1) (by omega) (by omega))
      ·rw[if_neg b1]
       by_cases b2:l<i
       ·rw[if_pos b2,show lo+j-1=lo+(j-1) by omega,show lo+i-1=lo+(i-1) by omega]
        exact h4 (i-1) (j-1) (by omega) (by omega)
       ·rw[if_neg b2,show lo+j-1=lo+(j-1) by omega]
        exact h4 i (j-1) (by omega) (by omega)
     ·rw[if_neg a2,if_neg (by omega),if_neg (by omega)]
      exact h4 i j hij (by omega)
end
section
variable {prog:Program}{w:World}{A:Around}{E:Value->Shared->Prop}{s:Shared}{κ:SortKind}{U:Keyed->Prop}{R:Keyed->Keyed->Bool}
noncomputable abbrev mir (X:Array Keyed) (i j:Nat):Array Keyed:=mirror X i j ((j-i)/2)
theorem Vx {st:SortSt}{i j:Nat}{Q:Unit->SortSt->Prop} (h:Q () (setArr st (mir (arrOf st) i j))):wpS (model prog w) A E s (reverseSlice' i j) Q st:=by
 rw[reverseSlice'_eq];exact wpS_modify h
theorem YB {X:Array Keyed}{i j:Nat} (hij:i<=j) (hj:j<=X.size):Ve X (mir X i j) i (j-i):=
 ⟨mirror_perm _ _ _ _,fun k hk=>by rw[getElem?_mirror_all hj,if_neg (by omega)]⟩
theorem UD {X:Array Keyed}{i j k:Nat} (hj:j<=X.size) (h1:i<=k) (h2:k<j):gA (mir X i j) k=gA X (i+j-1-k):=by
 refine V7 ?_
 rw[getElem?_mirror_all hj,if_pos ⟨h1,h2⟩]
theorem Zbp {X:Array Keyed}{i j k:Nat} (hj:j<=X.size) (h:k<i\/j<=k):gA (mir X i j) k=gA X k:=by
 refine V7 ?_
 rw[getElem?_mirror_all hj,if_neg (by omega)]
def Eqv (R:Keyed->Keyed->Bool) (X:Array Keyed) (lo a b:Nat):Prop:=∀i j,a<=i->i<b->a<=j->j<b->R (gA X (lo+i)) (gA X (lo+j))=false
theorem Dn'.more (C:QL prog w A s κ U R) {X:Array Keyed}{lo n:Nat} (hU:ZfZ U X) (hs:lo+n<X.size) (h:Dn' R X lo n) (hl:n=0\/R (gA X (lo+n-1)) (gA X (lo+n))=false):Dn' R X lo (n+1):=fun i j hij hj=>by
 by_cases e:j<n
 ·exact h i j hij e
 ·obtain rfl:j=n:=by omega
  rcases hl with hl|hl
  ·omega
  ·by_cases e2:i=j-1
   ·subst e2;rw[show lo+(j-1)=lo+j-1 by omega];exact hl
   ·have h2:=h i (j-1) (by omega) (by omega)
    rw[show lo+(j-1)=lo+j-1 by omega] at h2
    exact C.tr _ _ _ (hU _ (by omega)) (hU _ (by omega)) (hU _ (by omega)) hl h2
theorem Dn'.turn (C:QL prog w A s κ U R) {X:Array Keyed}{lo n c:Nat} (hU:ZfZ U X) (hs:lo+n<=X.size) (hc:c<=n) (h:Dn' R X lo n) (he:Eqv R X lo c n):Dn' R (mir X (lo+c) (lo+n)) lo n:=fun i j hij hj=>by
 by_cases a:i<c
 ·rw[Zbp hs (.inl (by omega))]
  by_cases b:j<c
  ·rw[Zbp hs (.inl (by omega))]
   exact h i j hij hj
  ·rw[UD hs (by omega) (by omega),show lo+c+(lo+n)-1-(lo+j)=lo+(c+n-1-j) by omega]
   exact h i _ (by omega) (by omega)
 ·rw[UD hs (by omega) (by omega),UD hs (by omega) (by omega),show lo+c+(lo+n)-1-(lo+j)=lo+(c+n-1-j) by omega,show lo+c+(lo+n)-1-(lo+i)=lo+(c+n-1-i) by omega]
  exact he _ _ (by omega) (by omega) (by omega) (by omega)
theorem Dn'.up {X:Array Keyed}{lo n:Nat} (hs:lo+n<=X.size) (h:Dn' R X lo n):Up R (mir X lo (lo+n)) lo n:=fun i j hij hj=>by
 rw[UD hs (by omega) (by omega),UD hs (by omega) (by omega),show lo+(lo+n)-1-(lo+j)=lo+(n-1-j) by omega,show lo+(lo+n)-1-(lo+i)=lo+(n-1-i) by omega]
 exact h _ _ (by omega) (by omega)
theorem ZhV (C:QL prog w A s κ U R) {st:SortSt}{lo N:Nat}{Q:Option Nat->SortSt->Prop} (hk:kindOf st=κ) (hU:ZfZ U (arrOf st)) (hn:lo+N<=(arrOf st).size) (n1:1<=N)
  (h:∀m Y,1<=m->m<=N->Ve (arrOf st) Y lo m->Up R Y lo m->Q (some m) (setArr st Y)):wpS (model prog w) A E s (countRun' lo N) Q st:=by
 rw[countRun'_eq]
 have stU:∀{Y lo m},Ve (arrOf st) Y lo m->ZfZ U Y:=fun t=>hU.stir t
 refine wpS_bind (wpS_mono (wpS_forRange
  (I:=fun x (c:Option (Option Nat)×Nat) (st':SortSt)=>c.1=none/\st'=st/\c.2=x/\Up R (arrOf st) lo x)
  (Q:=fun(c:Option (Option Nat)×Nat) (st':SortSt)=>c.1=none/\st'=st/\(1<=c.2/\c.2<=N)/\Up R (arrOf st) lo c.2/\(c.2=N\/R (gA (arrOf st) (lo+c.2)) (gA (arrOf st) (lo+c.2-1))=true)) ?step ?fin ⟨rfl,rfl,rfl,fun i j hij hj=>by omega⟩) ?post)
 case fin =>
  rintro⟨o,n⟩ st' ⟨h1,h2,h3,h4⟩
  dsimp only at h1 h3 ⊢
  subst h3
  exact⟨h1,h2,by omega,h4,.inl (by omega)⟩
 case step =>
  rintro x ⟨o,n⟩ st' hx1 hx2 ⟨rfl,rfl,h3,h4⟩
  dsimp only at h3 ⊢
  subst h3
  refine wpS_bind (Jp C hk hU (show lo+n<_ by omega) (show lo+n-1<_ by omega) ?_)
  dsimp only
  cases hR:R (gA (arrOf st') (lo+n)) (gA (arrOf st') (lo+n-1)) with
  |true =>
   rw[if_pos rfl]
   exact wpS_pure ⟨rfl,rfl,by dsimp only;omega,h4,.inr hR⟩
  |false =>
   rw[if_neg (by decide)]
   exact wpS_pure ⟨rfl,rfl,rfl,h4.more C hU (by omega) (.inr hR)⟩
 case post =>
  rintro⟨o,n⟩ st' ⟨h1,h2,h3,h4,h5⟩
  have h2:=h2.symm
  subst h2
  dsimp only at h1 h3 h4 h5 ⊢
  subst h1
  dsimp only
  by_cases e1:n=N
  ·rw[if_pos (by simpa using e1)]
   exact wpS_pure (h n (arrOf st) h3.1 h3.2 (Ve.refl _ _ _) h4)
  rw[if_neg (by simpa using e1)]
  have h5:=h5.resolve_left e1
  by_cases e2:n>1
  ·rw[if_pos e2]
   refine wpS_bind (Jp C hk hU (show lo<_ by omega) (show lo+n-1<_ by omega) ?_)
   dsimp only
   cases hR:R (gA (arrOf st) lo) (gA (arrOf st) (lo+n-1)) with
   |true =>
    rw[if_pos rfl]
    exact wpS_pure (h n (arrOf st) h3.1 h3.2 (Ve.refl _ _ _) h4)
   |false =>
    rw[if_neg (by decide)]
    refine wpS_bind (Vx ?_)
    have le1:∀q,q<n->R (gA (arrOf st) (lo+q)) (gA (arrOf st) lo)=false/\R (gA (arrOf st) (lo+n-1)) (gA (arrOf st) (lo+q))=false:=fun q hq=>by
     refine⟨?_, ?_⟩
     ·by_cases z:q=0
      ·subst z;exact C.irr (hU _ (by omega))
      ·exact h4 0 q (by omega) hq
     ·by_cases z:q=n-1
      ·subst z;rw[show lo+(n-1)=lo+n-1 by omega];exact C.irr (hU _ (by omega))
      ·have:=h4 q (n-1) (by omega) (by omega);rw[show lo+(n-1)=lo+n-1 by omega] at this;exact this
    have eq1:Eqv R (arrOf st) lo 0 n:=fun i j _ hi _ hj=>C.tr _ _ _ (hU _ (by omega)) (hU _ (by omega)) (hU _ (by omega)) (C.tr _ _ _ (hU _ (by omega)) (hU _ (by omega)) (hU _ (by omega)) (le1 j hj).2 hR) (le1 i hi).1
    have t0:Ve (arrOf st) (mir (arrOf st) lo (lo+n)) lo n:=(YB (by omega) (by omega)).wide (Zqn _) (by omega)
    have t1:Ve (arrOf st) (mir (arrOf st) lo (lo+n)) lo (n+1):=t0.wide (Zqn _) (by omega)
    have dd:Dn' R (mir (arrOf st) lo (lo+n)) lo n:=fun i j hij hj=>by
     rw[UD (by omega) (by omega) (by omega),UD (by omega) (by omega) (by omega),show lo+(lo+n)-1-(lo+j)=lo+(n-1-j) by omega,show lo+(lo+n)-1-(lo+i)=lo+(n-1-i) by omega]
     exact eq1 _ _ (ZqA _) (by omega) (ZqA _) (by omega)
    have d1:Dn' R (mir (arrOf st) lo (lo+n)) lo (n+1):=dd.more C (stU t1) (by have:=t1.size;omega) (.inr (by
     rw[UD (by omega) (by omega) (by omega),Zbp (by omega) (.inr (by omega)),show lo+(lo+n)-1-(lo+n-1)=lo+0 by omega]
     have z1:=eq1 0 (n-1) (ZqA _) (by omega) (ZqA _) (by omega)
     rw[show lo+(n-1)=lo+n-1 by omega] at z1
     exact C.tr _ _ _ (hU _ (by omega)) (hU _ (by omega)) (hU _ (by omega)) (C.asy _ _ (hU _ (by omega)) (hU _ (by omega)) h5) z1))
    show wpS _ _ _ _ _ _ (setArr st (mir (arrOf st) lo (lo+n)))
    generalize mir (arrOf st) lo (lo+n)=X1 at t1 d1
    clear dd t0
    refine wpS_bind (wpS_lift (wpAny_rule ⟨rfl, ?_⟩))
    refine wpS_bind (wpS_mono (wpS_forRange
     (I:=fun x (c:Option (Option Nat)×Nat×Nat) (st':SortSt)=>c.1=none/\c.2.1=x/\∃Y,st'=setArr st Y/\Ve (arrOf st) Y lo x/\Dn' R Y lo x/\c.2.2<x/\Eqv R Y lo (x-1-c.2.2) x)
     (Q:=fun(c:Option (Option Nat)×Nat×Nat) (st':SortSt)=>c.1=none/\(1<=c.2.1/\c.2.1<=N)/\∃Y,st'=setArr st Y/\Ve (arrOf st) Y lo c.2.1/\Dn' R Y lo c.2.1/\c.2.2<c.2.1/\Eqv R Y lo (c.2.1-1-c.2.2) c.2.1) ?_ ?_
     ⟨rfl,rfl,X1,rfl,t1,d1,ZrG _,fun i j i1 i2 j1 j2=>by
      obtain rfl:i=n:=by dsimp only at i1;omega
      obtain rfl:j=i:=by dsimp only at j1;omega
      exact C.irr (stU t1 _ (by have:=t1.size;omega))⟩) ?_)
    ·rintro x ⟨o,k,e⟩ st' hx1 hx2 ⟨rfl,h3,Y,rfl,tY,dY,he,eY⟩
     dsimp only at h3 he eY ⊢
     subst h3
     have szY:=tY.size
     have uY:=stU tY
     refine wpS_bind (Jp C (show kindOf (setArr st Y)=κ from hk) uY (show lo+k<Y.size by omega) (show lo+k-1<Y.size by omega) ?_)
     dsimp only
     show wpS _ _ _ _ (if R (gA Y (lo+k)) (gA Y (lo+k-1))=true then _ else _) _ _
     have one:∀{Z:Array Keyed}{q:Nat},ZfZ U Z->lo+q<Z.size->Eqv R Z lo (q+1-1-0) (q+1):=fun {Z q} hZ hq i j i1 i2 j1 j2=>by
      obtain rfl:i=q:=by omega
      obtain rfl:j=i:=by omega
      exact C.irr (hZ _ hq)
     cases hR:R (gA Y (lo+k)) (gA Y (lo+k-1)) with
     |true =>
      rw[if_pos rfl]
      have as1:=C.asy _ _ (uY _ (by omega)) (uY _ (by omega)) hR
      by_cases he0:e>0
      ·rw[if_pos he0]
       refine wpS_bind (Vx (wpS_pure ⟨rfl,rfl,mir Y (lo+k-(e+1)) (lo+k),rfl, ?_, ?_,ZrG _, ?_⟩))
       ·exact(tY.trans ((YB (by omega) (by omega)).wide (by omega) (by omega))).wide (Zqn _) (by omega)
       ·have t4:Ve (arrOf st) (mir Y (lo+k-(e+1)) (lo+k)) lo k:=tY.trans ((YB (by omega) (by omega)).wide (by omega) (by omega))
        have dm:=dY.turn C uY (by omega) (show k-1-e<=k by omega) eY
        rw[show lo+(k-1-e)=lo+k-(e+1) by omega] at dm
        refine dm.more C (stU t4) (by have:=t4.size;omega) (.inr ?_)
        rw[UD (by omega) (by omega) (by omega),Zbp (by omega) (.inr (by omega)),show lo+k-(e+1)+(lo+k)-1-(lo+k-1)=lo+(k-1-e) by omega]
        have q1:=eY (k-1-e) (k-1) (by omega) (by omega) (by omega) (by omega)
        rw[show lo+(k-1)=lo+k-1 by omega] at q1
        exact C.tr _ _ _ (uY _ (by omega)) (uY _ (by omega)) (uY _ (by omega)) as1 q1
       ·exact one (stU (tY.trans ((YB (by omega) (by omega)).wide (by omega) (by omega)))) (by have:=(YB (X:=Y) (i:=lo+k-(e+1)) (j:=lo+k) (by omega) (by omega)).size;omega)
      ·rw[if_neg he0]
       exact wpS_pure ⟨rfl,rfl,Y,rfl,tY.wide (Zqn _) (by omega),dY.more C uY (by omega) (.inr as1),ZrG _,one uY (by omega)⟩
     |false =>
      rw[if_neg (by decide)]
      refine wpS_bind (Jp C (show kindOf (setArr st Y)=κ from hk) uY (show lo+k-1<Y.size by omega) (show lo+k<Y.size by omega) ?_)
      dsimp only
      show wpS _ _ _ _ (if R (gA Y (lo+k-1)) (gA Y (lo+k))=true then _ else _) _ _
      cases hL:R (gA Y (lo+k-1)) (gA Y (lo+k)) with
      |true =>
       rw[if_pos rfl]
       exact wpS_pure ⟨rfl,by dsimp only;omega,Y,rfl,tY,dY,he,eY⟩
      |false =>
       rw[if_neg (by decide)]
       refine wpS_pure ⟨rfl,rfl,Y,rfl,tY.wide (Zqn _) (by omega),dY.more C uY (by omega) (.inr hL),by dsimp only;omega,fun i j i1 i2 j1 j2=>?_⟩
       dsimp only at i1 i2 j1 j2
       have ek:∀q,k-1-e<=q->q<k->R (gA Y (lo+q)) (gA Y (lo+k-1))=false/\R (gA Y (lo+k-1)) (gA Y (lo+q))=false:=fun q q1 q2=>by
        have z1:=eY q (k-1) q1 q2 (by omega) (by omega)
        have z2:=eY (k-1) q (by omega) (by omega) q1 q2
        rw[show lo+(k-1)=lo+k-1 by omega] at z1 z2
        exact⟨z1,z2⟩
       by_cases a:i<k
       ·by_cases b:j<k
        ·exact eY i j (by omega) a (by omega) b
        ·obtain rfl:j=k:=by omega
         exact C.tr _ _ _ (uY _ (by omega)) (uY _ (by omega)) (uY _ (by omega)) hL (ek i (by omega) a).1
       ·obtain rfl:i=k:=by omega
        by_cases b:j<i
        ·exact C.tr _ _ _ (uY _ (by omega)) (uY _ (by omega)) (uY _ (by omega)) (ek j (by omega) b).2 hR
        ·obtain rfl:j=i:=by omega
         exact C.irr (uY _ (by omega))
    ·rintro⟨o,k,e⟩ st' ⟨h1,h3,Y,h4,tY,dY,he,eY⟩
     dsimp only at h3 he eY ⊢
     subst h3
     rw[show max (n+1) N=N by omega] at *
     exact⟨h1,by omega,Y,h4,tY,dY,he,eY⟩
    ·rintro⟨o,n2,e⟩ st' ⟨rfl,hn2,Y,rfl,tY,dY,he,eY⟩
     dsimp only at hn2 tY dY he eY ⊢
     have szY:=tY.size
     have uY:=stU tY
     by_cases he0:e>0
     ·rw[if_pos he0]
      refine wpS_bind (Vx ?_)
      have t2:Ve (arrOf st) (mir Y (lo+n2-(e+1)) (lo+n2)) lo n2:=tY.trans ((YB (by omega) (by omega)).wide (by omega) (by omega))
      have d2:=dY.turn C uY (by omega) (show n2-1-e<=n2 by omega) eY
      rw[show lo+(n2-1-e)=lo+n2-(e+1) by omega] at d2
      refine wpS_bind (Vx ?_)
      have sz2:(mir Y (lo+n2-(e+1)) (lo+n2)).size=(arrOf st).size:=t2.size
      have t3:Ve (arrOf st) (mir (mir Y (lo+n2-(e+1)) (lo+n2)) lo (lo+n2)) lo n2:=t2.trans ((YB (by omega) (by omega)).wide (Zqn _) (by omega))
      have u3:Up R (mir (mir Y (lo+n2-(e+1)) (lo+n2)) lo (lo+n2)) lo n2:=d2.up (by omega)
      have sz3:=t3.size
      show wpS _ _ _ _ _ _ (setArr st (mir (mir Y (lo+n2-(e+1)) (lo+n2)) lo (lo+n2)))
      generalize mir (mir Y (lo+n2-(e+1)) (lo+n2)) lo (lo+n2)=Y3 at t3 u3 sz3
      refine wpS_bind (wpS_mono (wpS_forRange
       (I:=fun x (c:Option (Option Nat)×Nat) (st':SortSt)=>c.1=none/\st'=setArr st Y3/\c.2=x/\Up R Y3 lo x)
       (Q:=fun(c:Option (Option Nat)×Nat) (st':SortSt)=>c.1=none/\st'=setArr st Y3/\(n2<=c.2/\c.2<=N)/\Up R Y3 lo c.2) ?_ ?_ ⟨rfl,rfl,rfl,u3⟩) ?_)
      ·rintro x ⟨o,k⟩ st' hx1 hx2 ⟨rfl,rfl,h3,h4⟩
       dsimp only at h3 ⊢
       subst h3
       refine wpS_bind (Jp C (show kindOf (setArr st Y3)=κ from hk) (stU t3) (show lo+k<Y3.size by omega) (show lo+k-1<Y3.size by omega) ?_)
       dsimp only
       show wpS _ _ _ _ (if R (gA Y3 (lo+k)) (gA Y3 (lo+k-1))=true then _ else _) _ _
       cases hR:R (gA Y3 (lo+k)) (gA Y3 (lo+k-1)) with
       |true =>
        rw[if_pos rfl]
        exact wpS_pure ⟨rfl,rfl,by dsimp only;omega,h4⟩
       |false =>
        rw[if_neg (by decide)]
        exact wpS_pure ⟨rfl,rfl,rfl,h4.more C (stU t3) (by omega) (.inr hR)⟩
      ·rintro⟨o,k⟩ st' ⟨h1,h2,h3,h4⟩
       dsimp only at h3 ⊢
       subst h3
       exact⟨h1,h2,by omega,h4⟩
      ·rintro⟨o,k⟩ st' ⟨rfl,rfl,h3,h4⟩
       dsimp only at h3 h4 ⊢
       exact wpS_pure (h k Y3 (by omega) h3.2 (t3.wide (Zqn _) (by omega)) h4)
     ·rw[if_neg he0]
      have t2:=tY
      have d2:=dY
      refine wpS_bind (Vx ?_)
      have sz2:(Y).size=(arrOf st).size:=t2.size
      have t3:Ve (arrOf st) (mir (Y) lo (lo+n2)) lo n2:=t2.trans ((YB (by omega) (by omega)).wide (Zqn _) (by omega))
      have u3:Up R (mir (Y) lo (lo+n2)) lo n2:=d2.up (by omega)
      have sz3:=t3.size
      show wpS _ _ _ _ _ _ (setArr st (mir (Y) lo (lo+n2)))
      generalize mir (Y) lo (lo+n2)=Y3 at t3 u3 sz3
      refine wpS_bind (wpS_mono (wpS_forRange
       (I:=fun x (c:Option (Option Nat)×Nat) (st':SortSt)=>c.1=none/\st'=setArr st Y3/\c.2=x/\Up R Y3 lo x)
       (Q:=fun(c:Option (Option Nat)×Nat) (st':SortSt)=>c.1=none/\st'=setArr st Y3/\(n2<=c.2/\c.2<=N)/\Up R Y3 lo c.2) ?_ ?_ ⟨rfl,rfl,rfl,u3⟩) ?_)
      ·rintro x ⟨o,k⟩ st' hx1 hx2 ⟨rfl,rfl,h3,h4⟩
       dsimp only at h3 ⊢
       subst h3
       refine wpS_bind (Jp C (show kindOf (setArr st Y3)=κ from hk) (stU t3) (show lo+k<Y3.size by omega) (show lo+k-1<Y3.size by omega) ?_)
       dsimp only
       show wpS _ _ _ _ (if R (gA Y3 (lo+k)) (gA Y3 (lo+k-1))=true then _ else _) _ _
       cases hR:R (gA Y3 (lo+k)) (gA Y3 (lo+k-1)) with
       |true =>
        rw[if_pos rfl]
        exact wpS_pure ⟨rfl,rfl,by dsimp only;omega,h4⟩
       |false =>
        rw[if_neg (by decide)]
        exact wpS_pure ⟨rfl,rfl,rfl,h4.more C (stU t3) (by omega) (.inr hR)⟩
      ·rintro⟨o,k⟩ st' ⟨h1,h2,h3,h4⟩
       dsimp only at h3 ⊢
       subst h3
       exact⟨h1,h2,by omega,h4⟩
      ·rintro⟨o,k⟩ st' ⟨rfl,rfl,h3,h4⟩
       dsimp only at h3 h4 ⊢
       exact wpS_pure (h k Y3 (by omega) h3.2 (t3.wide (Zqn _) (by omega)) h4)
  ·rw[if_neg e2]
   have t1:Ve (arrOf st) (arrOf st) lo (n+1):=Ve.refl _ _ _
   obtain rfl:n=1:=by omega
   have d1:Dn' R (arrOf st) lo (1+1):=fun i j hij hj=>by
    obtain rfl:i=0:=by omega
    obtain rfl:j=1:=by omega
    have:=C.asy _ _ (hU _ (by omega)) (hU _ (by omega)) h5
    rw[show lo+1-1=lo+0 by omega] at this
    exact this
   show wpS _ _ _ _ _ _ (setArr st (arrOf st))
   refine wpS_bind (wpS_lift (wpAny_rule ⟨rfl, ?_⟩))
   refine wpS_bind (wpS_mono (wpS_forRange
    (I:=fun x (c:Option (Option Nat)×Nat×Nat) (st':SortSt)=>c.1=none/\c.2.1=x/\∃Y,st'=setArr st Y/\Ve (arrOf st) Y lo x/\Dn' R Y lo x/\c.2.2<x/\Eqv R Y lo (x-1-c.2.2) x)
    (Q:=fun(c:Option (Option Nat)×Nat×Nat) (st':SortSt)=>c.1=none/\(1<=c.2.1/\c.2.1<=N)/\∃Y,st'=setArr st Y/\Ve (arrOf st) Y lo c.2.1/\Dn' R Y lo c.2.1/\c.2.2<c.2.1/\Eqv R Y lo (c.2.1-1-c.2.2) c.2.1) ?_ ?_
    ⟨rfl,rfl,(arrOf st),rfl,t1,d1,ZrG _,fun i j i1 i2 j1 j2=>by
     obtain rfl:i=1:=by dsimp only at i1;omega
     obtain rfl:j=1:=by dsimp only at j1;omega
     exact C.irr (stU t1 _ (by have:=t1.size;omega))⟩) ?_)
   ·rintro x ⟨o,k,e⟩ st' hx1 hx2 ⟨rfl,h3,Y,rfl,tY,dY,he,eY⟩
    dsimp only at h3 he eY ⊢
    subst h3
    have szY:=tY.size
    have uY:=stU tY
    refine wpS_bind (Jp C (show kindOf (setArr st Y)=κ from hk) uY (show lo+k<Y.size by omega) (show lo+k-1<Y.size by omega) ?_)
    dsimp only
    show wpS _ _ _ _ (if R (gA Y (lo+k)) (gA Y (lo+k-1))=true then _ else _) _ _
    have one:∀{Z:Array Keyed}{q:Nat},ZfZ U Z->lo+q<Z.size->Eqv R Z lo (q+1-1-0) (q+1):=fun {Z q} hZ hq i j i1 i2 j1 j2=>by
     obtain rfl:i=q:=by omega
     obtain rfl:j=i:=by omega
     exact C.irr (hZ _ hq)
    cases hR:R (gA Y (lo+k)) (gA Y (lo+k-1)) with
    |true =>
     rw[if_pos rfl]
     have as1:=C.asy _ _ (uY _ (by omega)) (uY _ (by omega)) hR
     by_cases he0:e>0
     ·rw[if_pos he0]
      refine wpS_bind (Vx (wpS_pure ⟨rfl,rfl,mir Y (lo+k-(e+1)) (lo+k),rfl, ?_, ?_,ZrG _, ?_⟩))
      ·exact(tY.trans ((YB (by omega) (by omega)).wide (by omega) (by omega))).wide (Zqn _) (by omega)
      ·have t4:Ve (arrOf st) (mir Y (lo+k-(e+1)) (lo+k)) lo k:=tY.trans ((YB (by omega) (by omega)).wide (by omega) (by omega))
       have dm:=dY.turn C uY (by omega) (show k-1-e<=k by omega) eY
       rw[show lo+(k-1-e)=lo+k-(e+1) by omega] at dm
       refine dm.more C (stU t4) (by have:=t4.size;omega) (.inr ?_)
       rw[UD (by omega) (by omega) (by omega),Zbp (by omega) (.inr (by omega)),show lo+k-(e+1)+(lo+k)-1-(lo+k-1)=lo+(k-1-e) by omega]
       have q1:=eY (k-1-e) (k-1) (by omega) (by omega) (by omega) (by omega)
       rw[show lo+(k-1)=lo+k-1 by omega] at q1
       exact C.tr _ _ _ (uY _ (by omega)) (uY _ (by omega)) (uY _ (by omega)) as1 q1
      ·exact one (stU (tY.trans ((YB (by omega) (by omega)).wide (by omega) (by omega)))) (by have:=(YB (X:=Y) (i:=lo+k-(e+1)) (j:=lo+k) (by omega) (by omega)).size;omega)
     ·rw[if_neg he0]
      exact wpS_pure ⟨rfl,rfl,Y,rfl,tY.wide (Zqn _) (by omega),dY.more C uY (by omega) (.inr as1),ZrG _,one uY (by omega)⟩
    |false =>
     rw[if_neg (by decide)]
     refine wpS_bind (Jp C (show kindOf (setArr st Y)=κ from hk) uY (show lo+k-1<Y.size by omega) (show lo+k<Y.size by omega) ?_)
     dsimp only
     show wpS _ _ _ _ (if R (gA Y (lo+k-1)) (gA Y (lo+k))=true then _ else _) _ _
     cases hL:R (gA Y (lo+k-1)) (gA Y (lo+k)) with
     |true =>
      rw[if_pos rfl]
      exact wpS_pure ⟨rfl,by dsimp only;omega,Y,rfl,tY,dY,he,eY⟩
     |false =>
      rw[if_neg (by decide)]
      refine wpS_pure ⟨rfl,rfl,Y,rfl,tY.wide (Zqn _) (by omega),dY.more C uY (by omega) (.inr hL),by dsimp only;omega,fun i j i1 i2 j1 j2=>?_⟩
      dsimp only at i1 i2 j1 j2
      have ek:∀q,k-1-e<=q->q<k->R (gA Y (lo+q)) (gA Y (lo+k-1))=false/\R (gA Y (lo+k-1)) (gA Y (lo+q))=false:=fun q q1 q2=>by
       have z1:=eY q (k-1) q1 q2 (by omega) (by omega)
       have z2:=eY (k-1) q (by omega) (by omega) q1 q2
       rw[show lo+(k-1)=lo+k-1 by omega] at z1 z2
       exact⟨z1,z2⟩
      by_cases a:i<k
      ·by_cases b:j<k
       ·exact eY i j (by omega) a (by omega) b
       ·obtain rfl:j=k:=by omega
        exact C.tr _ _ _ (uY _ (by omega)) (uY _ (by omega)) (uY _ (by omega)) hL (ek i (by omega) a).1
      ·obtain rfl:i=k:=by omega
       by_cases b:j<i
       ·exact C.tr _ _ _ (uY _ (by omega)) (uY _ (by omega)) (uY _ (by omega)) (ek j (by omega) b).2 hR
       ·obtain rfl:j=i:=by omega
        exact C.irr (uY _ (by omega))
   ·rintro⟨o,k,e⟩ st' ⟨h1,h3,Y,h4,tY,dY,he,eY⟩
    dsimp only at h3 he eY ⊢
    subst h3
    rw[show max (1+1) N=N by omega] at *
    exact⟨h1,by omega,Y,h4,tY,dY,he,eY⟩
   ·rintro⟨o,n2,e⟩ st' ⟨rfl,hn2,Y,rfl,tY,dY,he,eY⟩
    dsimp only at hn2 tY dY he eY ⊢
    have szY:=tY.size
    have uY:=stU tY
    by_cases he0:e>0
    ·rw[if_pos he0]
     refine wpS_bind (Vx ?_)
     have t2:Ve (arrOf st) (mir Y (lo+n2-(e+1)) (lo+n2)) lo n2:=tY.trans ((YB (by omega) (by omega)).wide (by omega) (by omega))
     have d2:=dY.turn C uY (by omega) (show n2-1-e<=n2 by omega) eY
     rw[show lo+(n2-1-e)=lo+n2-(e+1) by omega] at d2
     refine wpS_bind (Vx ?_)
     have sz2:(mir Y (lo+n2-(e+1)) (lo+n2)).size=(arrOf st).size:=t2.size
     have t3:Ve (arrOf st) (mir (mir Y (lo+n2-(e+1)) (lo+n2)) lo (lo+n2)) lo n2:=t2.trans ((YB (by omega) (by omega)).wide (Zqn _) (by omega))
     have u3:Up R (mir (mir Y (lo+n2-(e+1)) (lo+n2)) lo (lo+n2)) lo n2:=d2.up (by omega)
     have sz3:=t3.size
     show wpS _ _ _ _ _ _ (setArr st (mir (mir Y (lo+n2-(e+1)) (lo+n2)) lo (lo+n2)))
     generalize mir (mir Y (lo+n2-(e+1)) (lo+n2)) lo (lo+n2)=Y3 at t3 u3 sz3
     refine wpS_bind (wpS_mono (wpS_forRange
      (I:=fun x (c:Option (Option Nat)×Nat) (st':SortSt)=>c.1=none/\st'=setArr st Y3/\c.2=x/\Up R Y3 lo x)
      (Q:=fun(c:Option (Option Nat)×Nat) (st':SortSt)=>c.1=none/\st'=setArr st Y3/\(n2<=c.2/\c.2<=N)/\Up R Y3 lo c.2) ?_ ?_ ⟨rfl,rfl,rfl,u3⟩) ?_)
     ·rintro x ⟨o,k⟩ st' hx1 hx2 ⟨rfl,rfl,h3,h4⟩
      dsimp only at h3 ⊢
      subst h3
      refine wpS_bind (Jp C (show kindOf (setArr st Y3)=κ from hk) (stU t3) (show lo+k<Y3.size by omega) (show lo+k-1<Y3.size by omega) ?_)
      dsimp only
      show wpS _ _ _ _ (if R (gA Y3 (lo+k)) (gA Y3 (lo+k-1))=true then _ else _) _ _
      cases hR:R (gA Y3 (lo+k)) (gA Y3 (lo+k-1)) with
      |true =>
       rw[if_pos rfl]
       exact wpS_pure ⟨rfl,rfl,by dsimp only;omega,h4⟩
      |false =>
       rw[if_neg (by decide)]
       exact wpS_pure ⟨rfl,rfl,rfl,h4.more C (stU t3) (by omega) (.inr hR)⟩
     ·rintro⟨o,k⟩ st' ⟨h1,h2,h3,h4⟩
      dsimp only at h3 ⊢
      subst h3
      exact⟨h1,h2,by omega,h4⟩
     ·rintro⟨o,k⟩ st' ⟨rfl,rfl,h3,h4⟩
      dsimp only at h3 h4 ⊢
      exact wpS_pure (h k Y3 (by omega) h3.2 (t3.wide (Zqn _) (by omega)) h4)
    ·rw[if_neg he0]
     have t2:=tY
     have d2:=dY
     refine wpS_bind (Vx ?_)
     have sz2:(Y).size=(arrOf st).size:=t2.size
     have t3:Ve (arrOf st) (mir (Y) lo (lo+n2)) lo n2:=t2.trans ((YB (by omega) (by omega)).wide (Zqn _) (by omega))
     have u3:Up R (mir (Y) lo (lo+n2)) lo n2:=d2.up (by omega)
     have sz3:=t3.size
     show wpS _ _ _ _ _ _ (setArr st (mir (Y) lo (lo+n2)))
     generalize mir (Y) lo (lo+n2)=Y3 at t3 u3 sz3
     refine wpS_bind (wpS_mono (wpS_forRange
      (I:=fun x (c:Option (Option Nat)×Nat) (st':SortSt)=>c.1=none/\st'=setArr st Y3/\c.2=x/\Up R Y3 lo x)
      (Q:=fun(c:Option (Option Nat)×Nat) (st':SortSt)=>c.1=none/\st'=setArr st Y3/\(n2<=c.2/\c.2<=N)/\Up R Y3 lo c.2) ?_ ?_ ⟨rfl,rfl,rfl,u3⟩) ?_)
     ·rintro x ⟨o,k⟩ st' hx1 hx2 ⟨rfl,rfl,h3,h4⟩
      dsimp only at h3 ⊢
      subst h3
      refine wpS_bind (Jp C (show kindOf (setArr st Y3)=κ from hk) (stU t3) (show lo+k<Y3.size by omega) (show lo+k-1<Y3.size by omega) ?_)
      dsimp only
      show wpS _ _ _ _ (if R (gA Y3 (lo+k)) (gA Y3 (lo+k-1))=true then _ else _) _ _
      cases hR:R (gA Y3 (lo+k)) (gA Y3 (lo+k-1)) with
      |true =>
       rw[if_pos rfl]
       exact wpS_pure ⟨rfl,rfl,by dsimp only;omega,h4⟩
      |false =>
       rw[if_neg (by decide)]
       exact wpS_pure ⟨rfl,rfl,rfl,h4.more C (stU t3) (by omega) (.inr hR)⟩
     ·rintro⟨o,k⟩ st' ⟨h1,h2,h3,h4⟩
      dsimp only at h3 ⊢
      subst h3
      exact⟨h1,h2,by omega,h4⟩
     ·rintro⟨o,k⟩ st' ⟨rfl,rfl,h3,h4⟩
      dsimp only at h3 h4 ⊢
      exact wpS_pure (h k Y3 (by omega) h3.2 (t3.wide (Zqn _) (by omega)) h4)
end
noncomputable abbrev ZhT:=Nat×Nat×Nat
noncomputable def VN (R:Keyed->Keyed->Bool) (X:Array Keyed):Nat->List ZhT->Nat->Prop
 |s,[],e=>s=e
 |s,(c,n,_)::r,e=>c=s/\0<n/\Up R X c n/\VN R X (s+n) r e
section
variable {prog:Program}{w:World}{A:Around}{E:Value->Shared->Prop}{s:Shared}{κ:SortKind}{U:Keyed->Prop}{R:Keyed->Keyed->Bool}
theorem VN.le {X:Array Keyed}:∀{L:List ZhT}{a e:Nat},VN R X a L e->a+L.length<=e
 |[],a,e,h=>by have h:a=e:=h;simp[h]
 |(c,n,p)::L,a,e,h=>by
  obtain⟨_,h1,_,h2⟩:=h
  have:=VN.le h2
  simp only[Zq8];omega
theorem VN.app {X:Array Keyed}:∀{L M:List ZhT}{a e:Nat},VN R X a (L++M) e ↔ ∃q,VN R X a L q/\VN R X q M e
 |[],M,a,e=>⟨fun h=>⟨a,rfl,h⟩,fun⟨q,h1,h2⟩=>by have h1:a=q:=h1;subst h1;exact h2⟩
 |(c,n,p)::L,M,a,e=>by
  show (c=a/\0<n/\Up R X c n/\VN R X (a+n) (L++M) e) ↔ ∃q,(c=a/\0<n/\Up R X c n/\VN R X (a+n) L q)/\VN R X q M e
  constructor
  ·rintro⟨h1,h2,h3,h4⟩
   obtain⟨q,q1,q2⟩:=VN.app.mp h4
   exact⟨q,⟨h1,h2,h3,q1⟩,q2⟩
  ·rintro⟨q,⟨h1,h2,h3,h4⟩,q2⟩
   exact⟨h1,h2,h3,VN.app.mpr ⟨q,h4,q2⟩⟩
theorem Up.stir {X Y:Array Keyed}{lo m c n:Nat} (h:Up R X c n) (t:Ve X Y lo m) (d:c+n<=lo\/lo+m<=c):Up R Y c n:=fun i j hij hj=>by
 rw[V7 (t.out (c+j) (by omega)),V7 (t.out (c+i) (by omega))]
 exact h i j hij hj
theorem VN.stir {X Y:Array Keyed}{lo m:Nat} (t:Ve X Y lo m):∀{L:List ZhT}{a e:Nat},VN R X a L e->(e<=lo\/lo+m<=a)->VN R Y a L e
 |[],a,e,h,_=>h
 |(c,n,p)::L,a,e,h,d=>by
  obtain⟨h1,h2,h3,h4⟩:=h
  have:=VN.le h4
  exact⟨h1,h2,h3.stir t (by omega),VN.stir t h4 (by omega)⟩
theorem Up.srt {X:Array Keyed}{c n:Nat} (h:Up R X c n) (hs:c+n<=X.size):Srt R ((X.toList.drop c).take n):=by
 refine Zrn.mpr fun i j hi hj hij=>?_
 have hi':i<n:=by rw[Zq1] at hi;omega
 have hj':j<n:=by rw[Zq1] at hj;omega
 have e:∀t,t<n->∀ht,((X.toList.drop c).take n)[t]'ht=gA X (c+t):=fun t htn ht=>by
  have h1:((X.toList.drop c).take n)[t]?=some (gA X (c+t)):=by
   rw[ZqO,if_pos htn,ZqR,ZqF,Zco (by omega)]
  rw[Zqm ht] at h1
  exact Option.some.inj h1
 rw[e i hi' hi,e j hj' hj]
 exact h i j hij hj'
theorem Srt.up {X:Array Keyed}{c n:Nat}{pre W post:List Keyed} (hX:X.toList=pre++(W++post)) (lp:pre.length=c) (lW:W.length=n) (h:Srt R W):Up R X c n:=fun i j hij hj=>by
 have g:∀t (ht:t<n),gA X (c+t)=W[t]'(by omega):=fun t ht=>by
  refine Zm5 ?_
  rw[<- ZqF,hX,Zqv (by omega),lp,show c+t-c=t by omega,Zqr (by omega),Zqm (by omega)]
 rw[g i (by omega),g j hj]
 exact Zrn.mp h i j (by omega) (by omega) hij
theorem Zki {L M:List ZhT}{a b c:ZhT}{P:Array ZhT} (h:P.toList=L++a::b::M):(((P.setIfInBounds L.length c).eraseIdxIfInBounds (L.length+1))).toList=L++c::M:=by
 have hz:L.length+1<(P.setIfInBounds L.length c).size:=by
  have:=congrArg List.length h
  rw[Zqq] at this
  rw[Array.size_setIfInBounds,this];simp
 rw[Array.eraseIdxIfInBounds,dif_pos hz,Array.toList_eraseIdx,ZrW,h]
 rw[List.set_append_right _ _ (Zqn _),Zsj,ZrZ,List.eraseIdx_append_of_length_le (by omega),show L.length+1-L.length=1 by omega]
 rfl
theorem Zdz (C:QL prog w A s κ U R) {st:SortSt}{L M:List ZhT}{c n p d m p2 e:Nat}{Q:Bool->SortSt->Prop} (hk:kindOf st=κ) (hf:failedOf st=none) (hU:ZfZ U (arrOf st))
  (hp:(pendingOf st).toList=L++(c,n,p)::(d,m,p2)::M) (hr:VN R (arrOf st) 0 (pendingOf st).toList e) (he:e<=(arrOf st).size)
  (h:∀st',kindOf st'=κ->failedOf st'=none->(pendingOf st').toList=L++(c,n+m,p)::M->Ve (arrOf st) (arrOf st') c (n+m)->c+n+m<=e->VN R (arrOf st') 0 (pendingOf st').toList e->Q true st') :
  wpS (model prog w) A E s (mergeAt' L.length) Q st:=by
 rw[hp] at hr
 obtain⟨q,r1,r2⟩:=VN.app.mp hr
 obtain⟨rfl,n0,u1,rfl,m0,u2,r3⟩:=r2
 have le3:=VN.le r3
 have hsz:c+n+m<=(arrOf st).size:=by omega
 have sp:(arrOf st).toList=(arrOf st).toList.take c++(((arrOf st).toList.drop c).take n++(((arrOf st).toList.drop (c+n)).take m++(arrOf st).toList.drop (c+n+m))):=by
  rw[U8,U8,Zq5]
 have lt:(arrOf st).toList.length=(arrOf st).size:=Zqq
 have inU:∀x∈(arrOf st).toList,U x:=fun x hx=>by
  obtain⟨i,hi⟩:=Zrb hx
  have hl:=(Zql.mp hi).1
  rw[ZqF] at hi
  rw[<- Zm5 hi]
  exact hU i (by omega)
 have i1:(pendingOf st)[L.length]?=some (c,n,p):=by
  rw[<- ZqF,hp,Zqv (Zqn _),Zsj];rfl
 have i2:(pendingOf st)[L.length+1]?=some (c+n,m,p2):=by
  rw[<- ZqF,hp,Zqv (by omega),show L.length+1-L.length=1 by omega];rfl
 refine ZeL C hk hf i1 i2 sp (by rw[Zq1];omega) (by rw[Zq1,Zrg];omega) (by rw[Zq1,Zrg];omega) rfl n0 m0
  (fun x hx=>inU x (ZqN (ZqC hx))) (fun x hx=>inU x (ZqN (ZqC hx))) (u1.srt (by omega)) (u2.srt (by omega)) fun st' W k1 k2 k3 k4 k5 k6=>?_
 have lW:W.length=n+m:=by rw[k6.length_eq,ZqV,Zq1,Zq1,Zrg,Zrg];omega
 have lpre:((arrOf st).toList.take c).length=c:=by rw[Zq1];omega
 have hst:Ve (arrOf st) (arrOf st') c (n+m):=by
  refine⟨?_,fun k hk'=>?_⟩
  ·refine ZrX.mpr ?_
   rw[k4]
   conv=>rhs;rw[sp]
   refine List.Perm.append_left _ ?_
   rw[<- Zqs]
   exact k6.append_right _
  ·rw[<- ZqF,<- ZqF,k4]
   rcases hk' with z|z
   ·rw[Zqr (by omega),ZqO,if_pos z]
   ·rw[Zqv (by omega),lpre,Zqv (by omega),lW,ZqR]
    congr 1;omega
 have kp:(pendingOf st').toList=L++(c,n+m,p)::M:=by rw[k3];exact Zki hp
 refine h st' k1 k2 kp hst (by omega) ?_
 rw[kp]
 refine VN.app.mpr ⟨c,r1.stir hst (.inl (Zqn _)),rfl,by omega,Srt.up k4 lpre lW k5, ?_⟩
 rw[<- Nat.add_assoc]
 exact r3.stir hst (.inr (by omega))
end
section
variable {prog:Program}{w:World}{A:Around}{E:Value->Shared->Prop}{s:Shared}{κ:SortKind}{U:Keyed->Prop}{R:Keyed->Keyed->Bool}
structure RSt (κ:SortKind) (U:Keyed->Prop) (R:Keyed->Keyed->Bool) (X:Array Keyed) (lo:Nat) (st':SortSt):Prop where
 kd:kindOf st'=κ
 fl:failedOf st'=none
 pm:(arrOf st').Perm X
 us:ZfZ U (arrOf st')
 rn:VN R (arrOf st') 0 (pendingOf st').toList lo
 le:lo<=X.size
theorem RSt.sz {X:Array Keyed}{lo:Nat}{st':SortSt} (h:RSt κ U R X lo st'):(arrOf st').size=X.size:=h.pm.size_eq
theorem VN.mod {X:Array Keyed}{f:ZhT->ZhT} (hf:∀c n p,∃p',f (c,n,p)=(c,n,p')):∀{L:List ZhT}{a e:Nat},VN R X a L e->∀i,VN R X a (L.modify i f) e
 |[],a,e,h,i=>by simpa using h
 |(c,n,p)::L,a,e,h,0=>by
  obtain⟨p',hp'⟩:=hf c n p
  rw[List.modify_zero_cons,hp']
  exact h
 |(c,n,p)::L,a,e,h,i+1=>by
  rw[List.modify_succ_cons]
  exact⟨h.1,h.2.1,h.2.2.1,VN.mod hf h.2.2.2 i⟩
theorem Zno {L:List ZhT}{i:Nat} (h:i+1<L.length):∃A a b B,L=A++a::b::B/\A.length=i:=by
 refine⟨L.take i,L[i],L[i+1],L.drop (i+2), ?_,by rw[Zq1];omega⟩
 rw[<- ZqD h,<- ZqD (by omega),Zq5]
theorem QP (C:QL prog w A s κ U R) {X:Array Keyed}{st1:SortSt}{lo i:Nat}{Q:Bool->SortSt->Prop} (S1:RSt κ U R X lo st1) (hi:i+1<(pendingOf st1).size)
  (h:∀st',RSt κ U R X lo st'->(pendingOf st').size+1=(pendingOf st1).size->(∀n,Up R (arrOf st1) lo n->Up R (arrOf st') lo n)->Q true st'):wpS (model prog w) A E s (mergeAt' i) Q st1:=by
 obtain⟨L,⟨c,n,p⟩,⟨d,m,p2⟩,M,hL,rfl⟩:=Zno (L:=(pendingOf st1).toList) (by rw[Zqq];exact hi)
 refine Zdz C S1.kd S1.fl S1.us hL S1.rn (by rw[S1.sz];exact S1.le) fun st' k1 k2 k3 k4 k5 k6=>h st' ⟨k1,k2,k4.perm.trans S1.pm,S1.us.stir k4,k6,S1.le⟩ ?_ fun q hq=>hq.stir k4 (.inr (by omega))
 have e1:=congrArg List.length hL
 have e2:=congrArg List.length k3
 rw[Zqq] at e1 e2
 simp only[ZqV,Zq8] at e1 e2
 omega
theorem ZeI (C:QL prog w A s κ U R) {st:SortSt}{Q:Unit->SortSt->Prop} (hk:kindOf st=κ) (hf:failedOf st=none) (hU:ZfZ U (arrOf st)) (hp:pendingOf st=#[])
  (h:∀st',failedOf st'=none->(arrOf st').Perm (arrOf st)->Up R (arrOf st') 0 (arrOf st).size->Q () st'):wpS (model prog w) A E s sortRuns' Q st:=by
 rw[sortRuns'_eq]
 refine wpS_bind (wpS_get ?_)
 dsimp only
 have S0:RSt κ U R (arrOf st) 0 st:=⟨hk,hf,Array.Perm.refl _,hU,by rw[hp];rfl,ZqA _⟩
 generalize hX:arrOf st=X at S0 h
 refine wpS_bind (wpS_mono (wpS_forRange
  (I:=fun x (c:Option Unit×Nat) (st':SortSt)=>c.1=none/\RSt κ U R X c.2 st'/\(x<=c.2\/X.size<=c.2))
  (Q:=fun(c:Option Unit×Nat) (st':SortSt)=>c.1=none/\RSt κ U R X X.size st') ?step ?fin ⟨rfl,S0,.inl (Zqn _)⟩) ?post)
 case fin =>
  rintro⟨o,lo⟩ st' ⟨h1,h2,h3⟩
  dsimp only at h1 h2 h3 ⊢
  have:=h2.le
  obtain rfl:lo=X.size:=by omega
  exact⟨h1,h2⟩
 case step =>
  rintro x ⟨o,lo⟩ st1 _ hx ⟨rfl,S1,h3⟩
  dsimp only at S1 h3 ⊢
  have hle:=S1.le
  have hsz:=S1.sz
  by_cases e0:lo ≥ X.size
  ·rw[if_pos e0]
   obtain rfl:lo=X.size:=by omega
   exact wpS_pure ⟨rfl,S1⟩
  rw[if_neg e0]
  refine wpS_bind (ZhV C S1.kd S1.us (show lo+(X.size-lo)<=_ by omega) (by omega) fun m Y m1 m2 t u=>?_)
  dsimp only
  have S1':RSt κ U R X lo (setArr st1 Y):=⟨S1.kd,S1.fl,t.perm.trans S1.pm,S1.us.stir t,S1.rn.stir t (.inl (Zqn _)),S1.le⟩
  by_cases e1:m<minRun' X.size X.size 0
  ·rw[if_pos e1]
   have f1:m<=min (X.size-lo) (minRun' X.size X.size 0):=by omega
   have f2:min (X.size-lo) (minRun' X.size X.size 0)<=X.size-lo:=ZrQ _ _
   generalize min (X.size-lo) (minRun' X.size X.size 0)=N1 at f1 f2
   refine wpS_bind (wpS_lift (wpAny_rule ⟨rfl, ?_⟩))
   refine wpS_bind (ZlK C (show kindOf (setArr st1 Y)=κ from S1.kd) S1'.us (show lo+N1<=(arrOf (setArr st1 Y)).size by rw[S1'.sz];omega) f1 (by omega) u fun Y2 t2 u2=>?_)
   rw[if_neg (by decide)]
   have t2:Ve Y Y2 lo N1:=t2
   have S2:RSt κ U R X lo (setArr st1 Y2):=⟨S1.kd,S1.fl,t2.perm.trans S1'.pm,S1'.us.stir t2,S1'.rn.stir t2 (.inl (Zqn _)),S1.le⟩
   show wpS _ _ _ _ _ _ (setArr st1 Y2)
   have PUSH:∀st3,RSt κ U R X lo st3->Up R (arrOf st3) lo (N1)->RSt κ U R X (lo+(N1)) (setPending st3 ((pendingOf st3).push (lo,N1,0))):=fun st3 S3 u3 =>
    ⟨S3.kd,S3.fl,S3.pm,S3.us,by
     show VN R (arrOf st3) 0 ((pendingOf st3).push (lo,N1,0)).toList (lo+(N1))
     rw[ZrE]
     exact VN.app.mpr ⟨lo,S3.rn,rfl,by omega,u3,rfl⟩,by omega⟩
   refine wpS_bind (wpS_get ?_)
   cases hb:(pendingOf (setArr st1 Y2)).back? with
   |none =>
    dsimp only
    exact wpS_bind (wpS_modify (wpS_pure ⟨rfl,PUSH _ S2 u2,.inl (by dsimp only;omega)⟩))
   |some q =>
    obtain⟨s1,n1,p1⟩:=q
    dsimp only
    refine wpS_bind (wpS_mono (wpS_forRange
     (I:=fun _ (c:Option Unit×Unit) (st':SortSt)=>c.1=none/\RSt κ U R X lo st'/\Up R (arrOf st') lo (N1))
     (Q:=fun(c:Option Unit×Unit) (st':SortSt)=>c.1=none/\RSt κ U R X lo st'/\Up R (arrOf st') lo (N1)) ?_ (fun c st' hc=>hc) ⟨rfl,S2,u2⟩) ?_)
    ·rintro y ⟨o,_⟩ st3 _ hy ⟨rfl,S3,u3⟩
     refine wpS_bind (wpS_get ?_)
     by_cases hsz3:(pendingOf st3).size>1
     ·rw[if_pos hsz3]
      have hg:(pendingOf st3)[(pendingOf st3).size-2]?=some ((pendingOf st3)[(pendingOf st3).size-2]'(by omega)):=Zr1 (by omega)
      rw[hg]
      generalize (pendingOf st3)[(pendingOf st3).size-2]'(by omega)=q3 at hg
      obtain⟨a3,b3,older⟩:=q3
      dsimp only
      split
      ·exact wpS_pure ⟨rfl,S3,u3⟩
      ·refine wpS_bind (QP C S3 (by omega) fun st4 S4 _ up4=>?_)
       rw[if_neg (by decide)]
       exact wpS_pure ⟨rfl,S4,up4 _ u3⟩
     ·rw[if_neg hsz3]
      exact wpS_pure ⟨rfl,S3,u3⟩
    ·rintro⟨o,_⟩ st3 ⟨h1,S3,u3⟩
     dsimp only at h1
     subst h1
     dsimp only
     refine wpS_bind (wpS_modify (wpS_bind (wpS_modify (wpS_pure ⟨rfl, ?_,.inl (by dsimp only;omega)⟩))))
     refine PUSH (setPending st3 _) ⟨S3.kd,S3.fl,S3.pm,S3.us, ?_,S3.le⟩ u3
     show VN R (arrOf st3) 0 ((pendingOf st3).modify _ _).toList lo
     rw[Array.toList_modify]
     exact S3.rn.mod (fun _ _ _=>⟨_,rfl⟩) _
  ·rw[if_neg e1]
   have S2:=S1'
   have u2:=u
   have PUSH:∀st3,RSt κ U R X lo st3->Up R (arrOf st3) lo (m)->RSt κ U R X (lo+(m)) (setPending st3 ((pendingOf st3).push (lo,m,0))):=fun st3 S3 u3 =>
    ⟨S3.kd,S3.fl,S3.pm,S3.us,by
     show VN R (arrOf st3) 0 ((pendingOf st3).push (lo,m,0)).toList (lo+(m))
     rw[ZrE]
     exact VN.app.mpr ⟨lo,S3.rn,rfl,by omega,u3,rfl⟩,by omega⟩
   refine wpS_bind (wpS_get ?_)
   cases hb:(pendingOf (setArr st1 Y)).back? with
   |none =>
    dsimp only
    exact wpS_bind (wpS_modify (wpS_pure ⟨rfl,PUSH _ S2 u2,.inl (by dsimp only;omega)⟩))
   |some q =>
    obtain⟨s1,n1,p1⟩:=q
    dsimp only
    refine wpS_bind (wpS_mono (wpS_forRange
     (I:=fun _ (c:Option Unit×Unit) (st':SortSt)=>c.1=none/\RSt κ U R X lo st'/\Up R (arrOf st') lo (m))
     (Q:=fun(c:Option Unit×Unit) (st':SortSt)=>c.1=none/\RSt κ U R X lo st'/\Up R (arrOf st') lo (m)) ?_ (fun c st' hc=>hc) ⟨rfl,S2,u2⟩) ?_)
    ·rintro y ⟨o,_⟩ st3 _ hy ⟨rfl,S3,u3⟩
     refine wpS_bind (wpS_get ?_)
     by_cases hsz3:(pendingOf st3).size>1
     ·rw[if_pos hsz3]
      have hg:(pendingOf st3)[(pendingOf st3).size-2]?=some ((pendingOf st3)[(pendingOf st3).size-2]'(by omega)):=Zr1 (by omega)
      rw[hg]
      generalize (pendingOf st3)[(pendingOf st3).size-2]'(by omega)=q3 at hg
      obtain⟨a3,b3,older⟩:=q3
      dsimp only
      split
      ·exact wpS_pure ⟨rfl,S3,u3⟩
      ·refine wpS_bind (QP C S3 (by omega) fun st4 S4 _ up4=>?_)
       rw[if_neg (by decide)]
       exact wpS_pure ⟨rfl,S4,up4 _ u3⟩
     ·rw[if_neg hsz3]
      exact wpS_pure ⟨rfl,S3,u3⟩
    ·rintro⟨o,_⟩ st3 ⟨h1,S3,u3⟩
     dsimp only at h1
     subst h1
     dsimp only
     refine wpS_bind (wpS_modify (wpS_bind (wpS_modify (wpS_pure ⟨rfl, ?_,.inl (by dsimp only;omega)⟩))))
     refine PUSH (setPending st3 _) ⟨S3.kd,S3.fl,S3.pm,S3.us, ?_,S3.le⟩ u3
     show VN R (arrOf st3) 0 ((pendingOf st3).modify _ _).toList lo
     rw[Array.toList_modify]
     exact S3.rn.mod (fun _ _ _=>⟨_,rfl⟩) _
 case post =>
  rintro⟨o,lo⟩ st1 ⟨h1,S1⟩
  dsimp only at h1
  subst h1
  dsimp only
  refine wpS_bind (wpS_mono (wpS_forRange
   (I:=fun x (c:Option Unit×Unit) (st':SortSt)=>c.1=none/\RSt κ U R X X.size st'/\((pendingOf st').size+x<=X.size\/(pendingOf st').size<=1))
   (Q:=fun(c:Option Unit×Unit) (st':SortSt)=>c.1=none/\RSt κ U R X X.size st'/\(pendingOf st').size<=1) ?_ ?_ ⟨rfl,S1,.inl ?_⟩) ?_)
  ·rintro x ⟨o,_⟩ st3 _ hx ⟨rfl,S3,h3⟩
   refine wpS_bind (wpS_get ?_)
   by_cases e1:(pendingOf st3).size<=1
   ·rw[if_pos e1]
    exact wpS_pure ⟨rfl,S3,e1⟩
   ·rw[if_neg e1]
    refine wpS_bind (QP C S3 ?_ fun st4 S4 z4 _=>?_)
    ·have hp3:1<(pendingOf st3).size:=Nat.lt_of_not_le e1
     have both:∀(b:Prop) [Decidable b],(if b then (pendingOf st3).size-2-1 else (pendingOf st3).size-2)+1<(pendingOf st3).size:=fun b _=>by
      by_cases hb:b
      ·rw[if_pos hb];omega
      ·rw[if_neg hb];omega
     exact both _
    ·rw[if_neg (by decide)]
     exact wpS_pure ⟨rfl,S4,by omega⟩
  ·rintro⟨o,_⟩ st3 ⟨h1,S3,h3⟩
   have:=VN.le S3.rn
   rw[Zqq] at this
   exact⟨h1,S3,by omega⟩
  ·have:=VN.le S1.rn
   rw[Zqq] at this
   omega
  ·rintro⟨o,_⟩ st3 ⟨h1,S3,h3⟩
   dsimp only at h1
   subst h1
   refine wpS_pure (h st3 S3.fl S3.pm ?_)
   have rn:=S3.rn
   have hl:(pendingOf st3).toList.length<=1:=by rw[Zqq];exact h3
   match hL:(pendingOf st3).toList with
   |[] =>
    rw[hL] at rn
    have z:0=X.size:=rn
    intro i j _ hj
    omega
   |[(c,n,p)] =>
    rw[hL] at rn
    obtain⟨rfl,_,z1,z2⟩:=rn
    have z2:0+n=X.size:=z2
    rw[<- z2,ZqY];exact z1
   |_::_::_ =>
    rw[hL] at hl
    simp at hl
end
end L2
namespace L2
open PySem PySem.Spec PyProof.Rows
section
variable {X:Cx}{K:W.Frag}
end
section
variable {K:W.Frag}{EX:PX->Hp->Prop}{Γ Γ1 Γ2:List Md}{te:TE}{ta:TA}{f:List PV->Rr PV}{fa:List PV->Rr (List PV)}
end
theorem ZoS {g:Bool->Bool}{m n:Nat}{x y:PV} (hx:Dat m x) (hy:Dat n y) (h1:m<=64:=by decide) (h2:n<=64:=by decide):Zfa g x y=.ok (.bl (g (PyData.eqv x.dat y.dat))):=by
 unfold Zfa
 rw[hx.ok h1,hy.ok h2,Bool.and_self,if_pos rfl]
theorem ZgR {α:Type} [DecidableEq α] {q:α->PV} (h:∀a b,PyData.eqv (q a).dat (q b).dat=decide (a=b)):∀L M:List α,PyData.eqvAll (PV.dats (L.map q)) (PV.dats (M.map q))=decide (L=M)
 |[],[]=>by simp[PV.dats,PyData.eqvAll]
 |[],b::M=>by simp[PV.dats,PyData.eqvAll]
 |a::L,[]=>by simp[PV.dats,PyData.eqvAll]
 |a::L,b::M=>by
  simp only[Zqz,PV.dats,PyData.eqvAll,h a b,ZgR h L M,List.cons.injEq]
  by_cases c:a=b<;>by_cases d:L=M<;>simp[c,d]
theorem ZkA (a b:List Int):PyData.eqv (Vw a).dat (Vw b).dat=decide (a=b):=by
 simp only[Vw,PV.dat,QF,PyData.eqv,VA]
theorem ZgW (M:List (List Int)):Dat 2 (.lst (M.map Vw)):=Zjx fun x hx=>by
 obtain⟨q,_,rfl⟩:=Zq4.mp hx
 exact QG q
theorem ZcK {g:Bool->Bool} (L M:List (List Int)):Zfa g (.lst (L.map Vw)) (.lst (M.map Vw))=.ok (.bl (g (decide (L=M)))):=by
 rw[ZoS (ZgW L) (ZgW M)]
 simp only[PV.dat,PyData.eqv,ZgR ZkA]
theorem Zl4 {α:Type}{f:PV->Rr (Option PV)}{q:α->PV}{p:α->Bool}{g:α->PV}{L:List α} (h:∀x∈L,f (q x)=.ok (if p x=true then some (g x) else none)):ZgQ f (L.map q)=.ok ((L.filter p).map g):=by
 induction L with
 |nil=>rfl
 |cons a l ih =>
  simp only[Zqz,ZgQ,h a (by simp),Rr.bind_ok,ih fun z hz=>h z (by simp[hz])]
  cases hp:p a<;>simp[hp,Zsg]
noncomputable def minus (H:Hp) (G:List Addr):Hp:=fun a=>if a∈G then none else H a
theorem ZgD {H:Hp}{G:List Addr}{a:Addr} (h:a∈G):minus H G a=none:=if_pos h
theorem Yv {H:Hp}{G:List Addr}{a:Addr} (h:a ∉ G):minus H G a=H a:=if_neg h
theorem Zht {H:Hp}{G:List Addr}:Z4 (minus H G) H:=fun a o h=>by
 unfold minus at h
 split at h
 ·cases h
 ·exact h
theorem Rd.minus {H:Hp}{G:List Addr}{a:Addr}{u:HO} (h:Rd H a u) (n:a ∉ G):Rd (minus H G) a u:=by
 rcases h with h|⟨o,h⟩
 ·exact .inl (by rw[Yv n];exact h)
 ·exact .inr ⟨o,by rw[Yv n];exact h⟩
theorem Im.minus {K:W.Frag}{H:Hp}{G:List Addr}{a:Addr}{k:HO} (hG:∀b∈G,∃vs:LvO,H b=some vs.1) (h:Im K H a k):Im K (minus H G) a k:=by
 refine⟨?_,h.2⟩
 rw[Yv fun z=>?_]
 ·exact h.1
 ·obtain⟨vs,q⟩:=hG a z
  exact ZcQ vs.2 h.2 (by rw[h.1] at q;exact Option.some.inj q)
section
variable {K:W.Frag}{B:Addr->Prop}{EX:PX->Hp->Prop}{H0 H H':Hp}{σ:St}{Γ Γ' Γ1 Γ2:List Md}{ρ:List PV}{F F':Nat->List Addr}{R:List Addr}
theorem Ag.lost {G:List Addr} (A:Ag K B H0 H σ Γ ρ F (G++[])) (s:Z4 (minus H G) H'):Ag K B H0 H' σ Γ ρ F []:=by
 have hG:∀b∈G,∃vs:LvO,H b=some vs.1:=fun b hb=>A.liveR b (by simp[hb])
 refine⟨fun a o h=>s a o ?_,A.own,A.young,by simp,fun i a ha=>?_,by simp,A.disj,by simp,A.lenS,A.lenR,fun i=>?_⟩
 ·rw[Yv (fun z=>by have:=A.youngR a (by simp[z]);rw[h] at this;cases this)]
  exact A.same a o h
 ·obtain⟨vs,q⟩:=A.live i a ha
  exact⟨vs,s _ _ (by rw[Yv (fun z=>A.disjR i a ha (by simp[z]))];exact q)⟩
 ·refine(A.slot i).mono (fun a vs n r=>⟨(r.minus (fun z=>n.2.1 (by simp[z]))).same s,n.1,by simp,n.2.2⟩) (fun a vs r=>s.im (r.minus hG)) fun a ha vs q=>s _ _ (by rw[Yv (fun z=>A.disjR i a ha (by simp[z]))];exact q)
end
section
variable {P:Program}{w:World}{K:W.Frag}{mg:Str->Option Value}{base:Heap}
end
section
variable {K:W.Frag}{EX:PX->Hp->Prop}{Γ Γ' Γ1 Γ2:List Md}{c d:TT}{fc fd:List PV->Rr Bool}{ta:TA}{fa:List PV->Rr (List PV)}{Y:Tys}{t u:TS}{g g':List PV->RS}{n:Nat}{m:List PV->Rr PV}
end
section
variable {K:W.Frag}{H:Hp}
variable {Γ Γ1 Γ2:List Md}{i:Nat}{tp:TE}{ix:List PV->Rr (List Int)}{EX:PX->Hp->Prop}{k:Kd}
end
section
variable {X:Cx}
end
section
variable {K:W.Frag}{EX:PX->Hp->Prop}{Γ Γ':List Md}{ta:TA}{fa:List PV->Rr (List PV)}
end
section
variable {K:W.Frag}{EX:PX->Hp->Prop}{Γ:List Md}{tt:TT}{c:List PV->Rr Bool}
end
noncomputable def frz (m:Md):Md:=if m=.O\/m=.T then .S else m
section
variable {K:W.Frag}{B:Addr->Prop}{EX:PX->Hp->Prop}{H0 H H':Hp}{σ:St}{Γ:List Md}{ρ:List PV}{F:Nat->List Addr}{R:List Addr}{tt:TT}{c:List PV->Rr Bool}{te:TE}{fe:List PV->Rr PV}
end
section
variable {K:W.Frag}{B:Addr->Prop}{EX:PX->Hp->Prop}{H0 H H':Hp}{σ:St}{Γ Γ' Γ1 Γ2:List Md}{ρ:List PV}{F F':Nat->List Addr}{R:List Addr}{te tb:TE}{f fb:List PV->Rr PV}{S:Addr->Prop}
end
end L2
namespace HL
open PySem PyProof.Rows
section
open PySem.SeqAt
open PySem.AutoSeq1 (wpAny_loadPart')
open PySem.MeetsSeq PySem.MeetsSeq2 PySem.MeetsSeq3 SeqRoads2
end
section
variable {prog:Program}{w:World}{A:Around}{E:Value->Shared->Prop}{s:Shared}
end
end HL
namespace L2
open PySem PySem.Spec PyProof.Rows
section
variable {X:Cx}{K:W.Frag}
end
section
variable {X:Cx}{C:Addr}{tb:(St->XK)->TS}{th:TS}{c:Str}{np hpos pos:Pos}{body suite:List Stmt}{b₀:Stmt}
end
section
variable {K:W.Frag}{EX:PX->Hp->Prop}{Γ Γs:List Md}{Y:Tys}{tb:(St->XK)->TS}{th:TS}{gb gh:List PV->RS}{C:Addr}{L:List Str}
end
section
variable {K:W.Frag}{EX:PX->Hp->Prop}{Γ Γ1 Γ2:List Md}{tb tc:TE}{fb fc:List PV->Rr PV}
end
section
variable {K:W.Frag}{B:Addr->Prop}{EX:PX->Hp->Prop}{H0 H H':Hp}{σ:St}{Γ Γ' Γ1 Γ2:List Md}{ρ:List PV}{F F':Nat->List Addr}{R:List Addr}
end
def G0 (K:W.Frag) (B:Addr->Prop) (H0 H:Hp) (σ:St) (Γb:List Md) (ρ:List PV) (L v:Nat) (a:Addr) (vs:List V) (xs:List PV) (G Gx:List Addr):Prop:=
 Ag K B H0 H σ Γb ρ (fun _=>[]) (a::(G++Gx))/\σ[L]?=some (some (.ref a))/\gv L ρ=.lst xs/\H a=some (.lst vs)/\Zw K H xs vs G/\a ∉ G/\∃w,σ[v]?=some (some w)/\vs[0]?=some w/\xs[0]?=some (gv v ρ)
section
variable {K:W.Frag}{B:Addr->Prop}{EX:PX->Hp->Prop}{H0 H H':Hp}{σ:St}{Γ Γb Γ0 Γf Γn Γ1 Γ2:List Md}{ρ:List PV}{F:Nat->List Addr}{L v x:Nat}{a:Addr}{vs:List V}{xs:List PV}{G Gx:List Addr}
end
section
variable {M:Model}{A:Around}{E:Value->Shared->Prop}{s:Shared}
end
section
variable {X:Cx}{pins:List (Addr×Obj)}{σ:St}{s₂:Shared}{H₂:Hp}{scope:Scope}{x:Str}{tg elt iter:Expr}{ifs:List Expr}{pos:Pos}{Bd:TB}{tt:TT}{te:TE}{J:It}{fp:List Addr}{it:Addr}{tn:Nat->Heap->Prop}
end
section
variable {K:W.Frag}{EX:PX->Hp->Prop}{Γ Γ1 Γ2 Γ3:List Md}{k:Kd}{te:TE}{f:List PV->Rr PV}
end
section
variable {X:Cx}{x:Str}{pos:Pos}
end
section
variable {K:W.Frag}{B:Addr->Prop}{EX:PX->Hp->Prop}{H0 H H':Hp}{σ:St}{Γ Γ' Γ1 Γ2 Γ3:List Md}{ρ:List PV}{F F':Nat->List Addr}{R:List Addr}{te tb ta':TE}{ta:TA}{f fb fa':List PV->Rr PV}{fa:List PV->Rr (List PV)}
end
section
variable {K:W.Frag}{H:Hp}{EX:PX->Hp->Prop}{Γ Γ':List Md}{te:TE}{f:List PV->Rr PV}
end
section
variable {prog:Program}{w:World}{A:Around}{E:Value->Shared->Prop}{s:Shared}{x y:Str}{t u:Tok}{Q:Value->Shared->Prop}
open Builtin Builtin.Str
end
section
variable {X:Cx}{K:W.Frag}
end
section
variable {K:W.Frag}{H:Hp}{EX:PX->Hp->Prop}{Γ Γ1 Γ2:List Md}{te tb:TE}{ta:TA}{f fb:List PV->Rr PV}{fa:List PV->Rr (List PV)}
end
noncomputable def newT (xs:List PV):Rr PV:=if xs.length<=1000000 then .ok (.lst xs) else .bad
section
variable {K:W.Frag}{EX:PX->Hp->Prop}{Γ Γ1 Γ2:List Md}{te tb:TE}{f fb:List PV->Rr PV}
end
section
variable {K:W.Frag}{B:Addr->Prop}{EX:PX->Hp->Prop}{H0 H H':Hp}{σ:St}{Γ Γ' Γ1 Γ2 Γ3:List Md}{ρ:List PV}{F F':Nat->List Addr}{R:List Addr}{te tb:TE}{f fb:List PV->Rr PV}
theorem Zf1 {ta:TA}{fa:List PV->Rr (List PV)} (ha:DAA K EX Γ Γ' ta fa):DE K EX Γ Γ' .A (ZoI ta) (fun ρ=>(fa ρ).bind mkL):=fun B H0 H σ ρ F R Q A d=>by
 refine ha B H0 H σ ρ F R _ A (d.bind.imp (fun xs _ d vs H1 F1 s1 f1 p1 A1=>?_) fun e q=>q)
 obtain⟨hl,d⟩:=Dn.mkL d
 refine⟨by rw[p1.length];exact ZaM hl,fun p hp=>?_⟩
 have e:=Z4.new (H:=H1) (o:=.lst vs) hp
 exact d _ _ (s1.trans e) ⟨F1,f1,⟨p,vs,rfl,.inl ⟨.inl ZT,trivial⟩,p1.same e⟩,A1.grow e⟩
end
section
variable {X:Cx}
end
section
variable {K:W.Frag}{B:Addr->Prop}{EX:PX->Hp->Prop}{H0 H H':Hp}{σ:St}{Γ Γ' Γ1 Γ2 Γ3:List Md}{ρ:List PV}{F F':Nat->List Addr}{R:List Addr}{ta:TA}{fa:List PV->Rr (List PV)}
end
section
variable {κ:Type} [DecidableEq κ]
noncomputable def ZhX (kvs:List (κ×V)) (k:κ):Option V:=(kvs.find? fun kv=>decide (kv.1=k)).map (·.2)
noncomputable def ZhS (kvs:List (κ×V)) (k:κ) (v:V):List (κ×V):=
 if (kvs.any fun kv=>decide (kv.1=k))=true then kvs.map (fun kv=>if kv.1=k then (kv.1,v) else kv) else kvs++[(k,v)]
theorem ZaD {p:κ×V}{r:List (κ×V)}{k:κ} (e:p.1=k):ZhX (p::r) k=some p.2:=by simp[ZhX,Zrt,e]
theorem ZaE {p:κ×V}{r:List (κ×V)}{k:κ} (e:¬p.1=k):ZhX (p::r) k=ZhX r k:=by simp[ZhX,Zrt,e]
theorem Zgb (k:κ):∀kvs:List (κ×V),(kvs.any fun kv=>decide (kv.1=k))=(ZhX kvs k).isSome
 |[]=>rfl
 |p::r=>by
  rw[Zrq]
  by_cases e:p.1=k
  ·simp only[ZaD e,decide_eq_true e,Bool.true_or,Option.isSome_some]
  ·rw[ZaE e,decide_eq_false e,Bool.false_or];exact Zgb k r
theorem Zbs (kvs:List (κ×V)) (k:κ) (v:V):(ZhS kvs k v).length<=kvs.length+1:=by
 unfold ZhS
 split
 ·rw[Zqt];omega
 ·rw[ZqV,Zq8,Zru];omega
theorem ZmZ.isSome_eq {o:Option V}{u:Option Value} (r:ZmZ o u):o.isSome=u.isSome:=by
 cases o with
 |none=>cases u with
  |none=>rfl
  |some _=>exact(show False from r).elim
 |some _=>cases u with
  |none=>exact(show False from r).elim
  |some _=>rfl
theorem KV.val {kvs:List (κ×V)}{vs:List (κ×Value)} (r:KV kvs vs) (k:κ):ZmZ (ZhX kvs k) (valueAt vs k):=by
 unfold KV at r
 induction r with
 |nil=>exact True.intro
 |@cons p q ps qs h t ih =>
  obtain⟨h1,h2⟩:=h
  by_cases e:p.1=k
  ·have e':q.1=k:=h1.symm.trans e
   have b:valueAt (q::qs) k=some q.2:=by simp[valueAt,Zrt,e']
   rw[ZaD e,b];exact h2
  ·have e':¬q.1=k:=fun z=>e (h1.trans z)
   have b:valueAt (q::qs) k=valueAt qs k:=by simp[valueAt,Zrt,e']
   rw[ZaE e,b];exact ih
theorem KV.any {kvs:List (κ×V)}{vs:List (κ×Value)} (r:KV kvs vs) (k:κ):(kvs.any fun kv=>decide (kv.1=k))=vs.any fun kv=>decide (kv.1=k):=by
 unfold KV at r
 induction r with
 |nil=>rfl
 |cons h t ih=>rw[Zrq,Zrq,ih,h.1]
theorem KV.repl {kvs:List (κ×V)}{vs:List (κ×Value)} (r:KV kvs vs) (k:κ) {y:V}{u:Value} (ry:WG y u) :
  KV (kvs.map fun kv=>if kv.1=k then (kv.1,y) else kv) (vs.map fun kv=>if kv.1=k then (kv.1,u) else kv):=by
 unfold KV at r ⊢
 induction r with
 |nil=>exact .nil
 |@cons p q ps qs h t ih =>
  rw[Zqz,Zqz]
  refine .cons ?_ ih
  obtain⟨h1,h2⟩:=h
  by_cases e:p.1=k
  ·rw[if_pos e,if_pos (h1.symm.trans e)];exact⟨h1,ry⟩
  ·rw[if_neg e,if_neg (fun z=>e (h1.trans z))];exact⟨h1,h2⟩
theorem KV.put {kvs:List (κ×V)}{vs:List (κ×Value)} (r:KV kvs vs) (k:κ) {y:V}{u:Value} (ry:WG y u):KV (ZhS kvs k y) (stored vs k u):=by
 unfold ZhS stored
 rw[r.any k]
 by_cases e:(vs.any fun kv=>decide (kv.1=k))=true
 ·rw[if_pos e,if_pos e];exact r.repl k ry
 ·rw[if_neg e,if_neg e];exact Paired.snoc r ⟨rfl,ry⟩
theorem KV.length {kvs:List (κ×V)}{vs:List (κ×Value)} (r:KV kvs vs):kvs.length=vs.length:=Paired.length r
end
theorem Zmy {P:Program}{w:World}{k:Key}{u:Value} (r:WG (kV k) u):(W8 P w).is k u=true:=by
 cases k with
 |inl i=>obtain⟨t,e⟩:=(show ∃t,u=Value.int i t from r);subst e;exact Zfe P w i t
 |inr x=>obtain⟨t,e⟩:=(show ∃t,u=Value.str x t from r);subst e;exact Zfd P w x t
theorem ZdS {P:Program}{w:World}:∀{ks:List Key}{us:List Value},YO (ks.map kV) us->ItemsAre (W8 P w) ks us
 |[],_,r=>by rw[Zr5] at r;cases r;exact .nil
 |k::ks,_,r=>by
  rw[Zqz] at r
  cases r with
  |cons h t=>exact .cons (Zmy h) (ZdS t)
noncomputable abbrev KT (H:Hp):List (List Key×V)->List (List Key×Addr×Value)->Prop:=Paired fun p q=>p.1=q.1/\H q.2.1=some (.tup (p.1.map kV))/\WG p.2 q.2.2
theorem KT.val {H:Hp}{kvs:List (List Key×V)}{xs:List (List Key×Addr×Value)} (r:KT H kvs xs) (k:List Key):ZmZ (ZhX kvs k) ((atKey xs k).map (·.2)):=by
 induction r with
 |nil=>exact True.intro
 |@cons p q ps qs h t ih =>
  obtain⟨h1,_,h2⟩:=h
  by_cases e:p.1=k
  ·have e':q.1=k:=h1.symm.trans e
   have b:atKey (q::qs) k=some q.2:=by simp[atKey,Zrt,e']
   rw[ZaD e,b];exact h2
  ·have e':¬q.1=k:=fun z=>e (h1.trans z)
   have b:atKey (q::qs) k=atKey qs k:=by simp[atKey,Zrt,e']
   rw[ZaE e,b];exact ih
theorem KT.repl {H:Hp}{kvs:List (List Key×V)}{xs:List (List Key×Addr×Value)} (r:KT H kvs xs) (k:List Key) {y:V}{u:Value} (ry:WG y u) :
  KT H (kvs.map fun kv=>if kv.1=k then (kv.1,y) else kv) (xs.map (putAt k u)):=by
 induction r with
 |nil=>exact .nil
 |@cons p q ps qs h t ih =>
  rw[Zqz,Zqz]
  refine .cons ?_ ih
  obtain⟨h1,h2,h3⟩:=h
  unfold putAt
  by_cases e:p.1=k
  ·rw[if_pos e,if_pos (h1.symm.trans e)];exact⟨h1,h2,ry⟩
  ·rw[if_neg e,if_neg (fun z=>e (h1.trans z))];exact⟨h1,h2,h3⟩
theorem KT.put {H:Hp}{kvs:List (List Key×V)}{xs:List (List Key×Addr×Value)} (r:KT H kvs xs) (k:List Key) {b:Addr}{y:V}{u:Value} (hb:H b=some (.tup (k.map kV))) (ry:WG y u) :
  KT H (ZhS kvs k y) (storedH xs k b u):=by
 have e:(kvs.any fun kv=>decide (kv.1=k))=(atKey xs k).isSome:=by
  rw[Zgb,(r.val k).isSome_eq,Option.isSome_map]
 unfold ZhS storedH
 rw[e]
 by_cases q:(atKey xs k).isSome=true
 ·rw[if_pos q,if_pos q];exact r.repl k ry
 ·rw[if_neg q,if_neg q];exact Paired.snoc r ⟨rfl,hb,ry⟩
theorem KT.keeps {H H':Hp}{kvs:List (List Key×V)}{xs:List (List Key×Addr×Value)} (r:KT H kvs xs) (ht:∀b ys,H b=some (.tup ys)->H' b=some (.tup ys)):KT H' kvs xs:=
 Paired.mapP r fun _ _ z=>⟨z.1,ht _ _ z.2.1,z.2.2⟩
section
variable {P:Program}{w:World}{H:Hp}{h:Heap}{a:Addr}
theorem ZlW {u:HO} (ok:HOk P w H h) (e:Rd H a u):Jn P w H h a u:=e.ok ok
theorem Zod {kvs:List (Key×V)} (ok:HOk P w H h) (e:Rd H a (.dK kvs)):kvs.length<=sizeLine/\(a==sysModules)=false/\∃vs,KV kvs vs/\h.DictOf (W8 P w) a vs:=
 show Jn P w H h a (.dK kvs) from ZlW ok e
theorem Zpg {kvs:List (Key×V)} (ok:HOk P w H h) (e:H a=some (.dK kvs)):kvs.length<=sizeLine/\(a==sysModules)=false/\∃vs,KV kvs vs/\h.DictOf (W8 P w) a vs:=Zod ok (.inl e)
theorem ZgH {ks:List Key} (ok:HOk P w H h) (e:H a=some (.tup (ks.map kV))):(tupleKind (W8 P w)).is h ks a:=by
 obtain⟨_,its,r,o,h1,h2,n,h3⟩:=(show Jn P w H h a (.tup (ks.map kV)) from ok a _ e)
 exact⟨o,its.toArray,n,h1,h2,h3,by simpa using ZdS r⟩
theorem Zob {kvs:List (List Key×V)} (ok:HOk P w H h) (e:Rd H a (.dT kvs)):kvs.length<=sizeLine/\(a==sysModules)=false /\
  ∃xs,KT H kvs xs/\h.DictOfH (tupleKind (W8 P w)) a xs:=by
 obtain⟨z,y,xs,r,o,es,ep,h1,h2,h3,h4,h5⟩:=(show Jn P w H h a (.dT kvs) from ZlW ok e)
 refine⟨z,y,xs,r,o,es,ep,h1,h2,h3,h4,fun x hx=>?_,h5⟩
 have all:∀{l:List (List Key×V)}{m:List (List Key×Addr×Value)},KT H l m->∀x∈m,(tupleKind (W8 P w)).is h x.1 x.2.1:=by
  intro l m q
  induction q with
  |nil=>intro x hx;exact nomatch hx
  |@cons p q ps qs hq t ih =>
   intro x hx
   rcases Zqw.mp hx with e|hx
   ·subst e
    exact ZgH ok (by rw[<- hq.1];exact hq.2.1)
   ·exact ih x hx
 exact all r x hx
theorem Zoc {kvs:List (List Key×V)} (ok:HOk P w H h) (e:H a=some (.dT kvs)):kvs.length<=sizeLine/\(a==sysModules)=false /\
  ∃xs,KT H kvs xs/\h.DictOfH (tupleKind (W8 P w)) a xs:=Zob ok (.inl e)
end
def Zpv (H:Hp) (a:Addr) (y:V) (r:Option V):Prop:=
 (∃kvs k,Rd H a (.dK kvs)/\y=kV k/\r=ZhX kvs k)\/∃kvs k b,Rd H a (.dT kvs)/\y=.ref b/\H b=some (.tup (k.map kV))/\r=ZhX kvs k
def ZpO (H:Hp) (a:Addr) (y v:V) (H':Hp):Prop:=
 (∃kvs k,H a=some (.dK kvs)/\y=kV k/\kvs.length<sizeLine/\H'=upd H a (.dK (ZhS kvs k v))) \/
 ∃kvs k b,H a=some (.dT kvs)/\y=.ref b/\H b=some (.tup (k.map kV))/\kvs.length<sizeLine/\H'=upd H a (.dT (ZhS kvs k v))
section
variable {X:Cx}{pins:List (Addr×Obj)}{σ:St}{H:Hp}{s:Shared}{a:Addr}{y v:V}{u r:Value}{o:Option V}{A:Around}{E:Value->Shared->Prop}
theorem Inv.big (I:Inv X pins σ H s):sysModules<s.heap.objs.size:=by
 have h:mainGlobals<s.heap.objs.size:=(I.mod.glob.keeps I.bk).lt
 exact Nat.lt_trans (by decide) h
theorem ZmI {Q:Value->Shared->Prop} (hu:A.units+1<cLine) (I:Inv X pins σ H s) (g:Zpv H a y o) (ry:WG y u) (h:∀s',Inv X pins σ H s'->Q (.bool (!o.isSome)) s') :
  wpAny (model X.prog X.w) A (compareOp .NotIn u (.ref a)) Q E s:=by
 rcases g with ⟨kvs,k,e,ey,l⟩|⟨kvs,k,b,e,ey,eb,l⟩
 ·subst ey
  obtain⟨z,hd,vs,rel,dd⟩:=Zod I.hok e
  refine wpAny_notIn_of (Zmy ry) hd dd.mapOf ?_
  rw[<- (rel.val k).isSome_eq,<- l]
  exact h _ (I.tok _)
 ·subst ey
  cases (show u=Value.ref b from ry)
  obtain⟨z,hd,xs,rel,dd⟩:=Zob I.hok e
  refine wpAny_notIn_heap (tupleKind_room_in1 hu) (ZgH I.hok eb) hd dd ?_
  have q:=(rel.val k).isSome_eq
  rw[Option.isSome_map] at q
  rw[<- q,<- l]
  exact h _ (I.tok _)
theorem Zf4 {h':Heap}{t':Nat}{ob:HO} (I:Inv X pins σ H s) (mu:Mut (H a)) (hs:Heap.SameBut a s.heap h') (he:∃q,h'.get? a=some q) (new:Jn X.prog X.w (upd H a ob) h' a ob) :
  Inv X pins σ (upd H a ob) { s with heap:=h',toks:=t' }:=
 I.write (x:=a) (e:=a) mu (.inl rfl) (fun b q hb z=>(hs.2 b hb).trans z) he new
theorem Zoe {P:Program}{w:World}{H':Hp}{h':Heap}{kvs:List (Key×V)}{vs:List (Key×Value)} (z:kvs.length<=sizeLine) (hd:(a==sysModules)=false) (rel:KV kvs vs) (dd:h'.DictOf (W8 P w) a vs) :
  Jn P w H' h' a (.dK kvs):=⟨z,hd,vs,rel,dd⟩
theorem Zjz {H':Hp}{Q:Unit->Shared->Prop} (hu:A.units+1<cLine) (I:Inv X pins σ H s) (g:ZpO H a y v H') (ry:WG y u) (rv:WG v r) (h:∀s',Inv X pins σ H' s'->Q () s') :
  wpAny (model X.prog X.w) A (setItem (.ref a) u r) Q E s:=by
 rcases g with ⟨kvs,k,e,ey,l,eH⟩|⟨kvs,k,b,e,ey,eb,l,eH⟩
 ·subst ey eH
  obtain⟨z,hd,vs,rel,dd⟩:=Zpg I.hok e
  have hz:vs.length<=sizeLine:=by rw[<- rel.length];exact z
  have hl:(ZhS kvs k v).length<=sizeLine:=by have:=Zbs kvs k v;omega
  refine wpAny_setItem_pairs (hsz:=hz) (Zmy ry) dd fun h' dd' hs=>h _ ?_
  have he:∃q,h'.get? a=some q:=let ⟨q,_,_,hq,_⟩:=dd';⟨q,hq⟩
  exact Zf4 I (by rw[e];exact True.intro) hs he (Zoe hl hd (rel.put k rv) dd')
 ·subst ey eH
  cases (show u=Value.ref b from ry)
  obtain⟨z,hd,xs,rel,dd⟩:=Zoc I.hok e
  have hz:xs.length<=sizeLine:=by rw[<- Paired.length rel];exact z
  have hl:(ZhS kvs k v).length<=sizeLine:=by have:=Zbs kvs k v;omega
  refine wpAny_setItem_heap (hsz:=hz) (tupleKind_room_in1 hu) (ZgH I.hok eb) dd fun h' dd' hs=>h _ ?_
  obtain⟨q,es,ep,hq,h2,h3,h4,_,h5⟩:=dd'
  refine Zf4 I (by rw[e];exact True.intro) hs ⟨q,hq⟩ ⟨hl,hd,_,(rel.put k eb rv).keeps fun c ys ec=>?_,q,es,ep,hq,h2,h3,h4,h5⟩
  rw[Z9 (Zmr ec e (fun z=>nomatch z))]
  exact ec
end
section
variable {X:Cx}{pins:List (Addr×Obj)}{σ:St}{H:Hp}{s:Shared}{a:Addr}{kvs:List (Key×V)}{k:Key}{u:Value}{A:Around}{E:Value->Shared->Prop}
end
noncomputable def Zid (ty td:TE):TE:=fun σ H Q=>ty σ H fun y H1=>td σ H1 fun x H2=>∃a o,x=.ref a/\Zpv H2 a y o/\Q (.bl (!o.isSome)) H2
noncomputable def Znr (td ty tv:TE):TS:=fun D σ H=>tv σ H fun v H1=>td σ H1 fun x H2=>ty σ H2 fun y H3=>∃a H4,x=.ref a/\ZpO H3 a y v H4/\D.nx σ H4
section
variable {X:Cx}{o i e value:Expr}{pos pos' tpos:Pos}{td ty tv:TE}
theorem Zi4 (hu:X.A.units+1<cLine) (hi:PE X i ty) (ho:PE X o td):PC X .NotIn i o (Zid ty td):=by
 intro pins s σ H Q I h
 refine thn (hi pins s σ H _ I h) fun iv s1 ⟨y,H1,I1,ry,q1⟩=>thn (ho pins s1 σ H1 _ I1 q1) fun u s2 ⟨x,H2,I2,rx,a,ov,ex,g,q2⟩=>?_
 subst ex
 obtain rfl:u=Value.ref a:=rx
 exact ZmI hu I2 g ry fun s3 I3=>⟨.bl (!ov.isSome),H2,I3,rfl,q2⟩
theorem Zmb (hu:X.A.units+1<cLine) (ho:PE X o td) (hi:PE X i ty) (hv:PE X value tv) (hs:swapsWith value (some (.Subscript o i pos')) pos.line X.env=pure false) :
  PS X (.Assign [.Subscript o i pos'] value pos) (Znr td ty tv):=by
 intro pins s σ H D I h
 refine wpAny_Assign_Subscript (thn (hv pins s σ H _ I h) fun r s1 ⟨v,H1,I1,rv,q1⟩=>thn (ho pins s1 σ H1 _ I1 q1) fun u s2 ⟨x,H2,I2,rx,q2⟩=>thn (hi pins s2 σ H2 _ I2 q2) fun iv s3 ⟨y,H3,I3,ry,a,H4,ex,g,q3⟩=>?_) hs
 subst ex
 obtain rfl:u=Value.ref a:=rx
 exact Zjz hu I3 g ry rv fun s4 I4=>⟨σ,H4,I4,q3⟩
end
theorem ZkB {P:Program}{w:World}{H:Hp} (h:Heap) (hb:sysModules<h.objs.size):Jn P w H (h.push { cls:=.type "dict",data:=.dict #[] }) h.objs.size (.dT []):=
 ⟨ZqA _,beq_eq_false_iff_ne.mpr (Ne.symm (Zq2 hb)),[],.nil,_,#[],0,Heap.get?_push_size _ rfl,⟨rfl,rfl,rfl⟩,rfl,rfl,List.nodup_nil⟩
section
variable {X:Cx}{pos:Pos}
end
noncomputable def Zgi:List (TE×TE)->St->Hp->(List (V×V)->Hp->Prop)->Prop
 |[],_,H,Q=>Q [] H
 |(tk,tv)::r,σ,H,Q=>tk σ H fun x H1=>tv σ H1 fun y H2=>Zgi r σ H2 fun ps H3=>Q ((x,y)::ps) H3
noncomputable abbrev VV:List (V×V)->List (Value×Value)->Prop:=Paired fun p q=>WG p.1 q.1/\WG p.2 q.2
def PPs (X:Cx) (pos:Pos) (keys:List (Option Expr)) (values:List Expr) (trs:List (TE×TE)):Prop:=
 ∀(pins:List (Addr×Obj)) (s:Shared) (σ:St) (H:Hp) (Q:List (V×V)->Hp->Prop),Inv X pins σ H s->Zgi trs σ H Q ->
  wpAny (model X.prog X.w) X.A (evalPairs (pairTrees keys values X.env pos)) (fun vs s'=>∃ps H',Inv X pins σ H' s'/\VV ps vs/\Q ps H') X.xe s
theorem Zmd {X:Cx}{pos:Pos}:PPs X pos [] [] []:=fun pins s σ H Q I h=>pairTrees_nil_walk ⟨[],H,I,.nil,h⟩
theorem Zkh {X:Cx}{pos:Pos}{k v:Expr}{ks:List (Option Expr)}{vs:List Expr}{tk tv:TE}{trs:List (TE×TE)} (hk:PE X k tk) (hv:PE X v tv) (hr:PPs X pos ks vs trs) :
  PPs X pos (some k::ks) (v::vs) ((tk,tv)::trs):=fun pins s σ H Q I h =>
 pairTrees_cons_walk (thn (hk pins s σ H _ I h) fun u s1 ⟨x,H1,I1,rx,q1⟩=>thn (hv pins s1 σ H1 _ I1 q1) fun w2 s2 ⟨y,H2,I2,ry,q2⟩ =>
  thn (hr pins s2 σ H2 _ I2 q2) fun ws s3 ⟨ps,H3,I3,rel,q3⟩=>⟨(x,y)::ps,H3,I3,.cons ⟨rx,ry⟩ rel,q3⟩)
section
variable {X:Cx}{pins:List (Addr×Obj)}{σ:St}{H:Hp}{s:Shared}{a:Addr}{y d:V}{u r:Value}{o:Option V}{A:Around}{E:Value->Shared->Prop}
end
section
variable {X:Cx}{o e f:Expr}{apos cpos:Pos}{td ty tx:TE}
end
section
variable {X:Cx}{pins:List (Addr×Obj)}{σ:St}{H:Hp}{s:Shared}{a:Addr}{kvs:List (Key×V)}{A:Around}{E:Value->Shared->Prop}
end
section
variable {X:Cx}{pins:List (Addr×Obj)}{σ:St}{H:Hp}{s:Shared}{a:Addr}{y:V}{u:Value}{A:Around}{E:Value->Shared->Prop}
end
noncomputable def ZgI:Key->PV
 |.inl i=>.int i
 |.inr x=>.str x
noncomputable def Zhw:PV->Option Key
 |.int i=>some (.inl i)
 |.str x=>some (.inr x)
 |_=>none
noncomputable def Q8:List PV->Option (List Key)
 |[]=>some []
 |x::xs=>match Zhw x,Q8 xs with
  |some k,some ks=>some (k::ks)
  |_,_=>none
theorem ZcS {x:PV}{k:Key} (h:Zhw x=some k):x=ZgI k:=by
 cases x<;>first|(cases h;rfl)|cases h
theorem Q7:∀{xs:List PV}{ks:List Key},Q8 xs=some ks->xs=ks.map ZgI
 |[],ks,h=>by cases h;rfl
 |x::xs,ks,h=>by
  unfold Q8 at h
  split at h
  ·rename_i k ks' h1 h2
   cases h
   rw[ZcS h1,Q7 h2];rfl
  ·cases h
@[simp] theorem ZmT (k:Key):Zhw (ZgI k)=some k:=by cases k<;>rfl
@[simp] theorem U5:∀ks:List Key,Q8 (ks.map ZgI)=some ks
 |[]=>rfl
 |k::ks=>by simp[Q8,U5 ks]
section
variable {K:W.Frag}{H:Hp}{S:Addr->Prop}
theorem ZeU {k:Key}{v:V} (h:Rep K H S (ZgI k) v):v=kV k:=by cases k<;>exact h
theorem Q0:∀{ks:List Key}{vs:List V},ZS K H S (ks.map ZgI) vs->vs=ks.map kV
 |[],_,h=>h
 |k::ks,_,h=>by
  obtain⟨v,r,rfl,h1,h2⟩:=h
  rw[ZeU h1,Q0 h2];rfl
end
section
variable {κ:Type} [DecidableEq κ] {α β:Type}
noncomputable def atK:List κ->List α->κ->Option α
 |k'::ks,x::xs,k=>if k'=k then some x else atK ks xs k
 |_,_,_=>none
noncomputable def ZjZ:List κ->List α->κ->α->List α
 |k'::ks,x::xs,k,y=>(if k'=k then y else x)::ZjZ ks xs k y
 |_,_,_,_=>[]
noncomputable def Zpa (k:κ) (ks:List κ):Bool:=decide (k∈ks)
theorem ZiO {k:κ}{ks:List κ} (h:Zpa k ks=false):k ∉ ks:=of_decide_eq_false h
noncomputable def ZbQ (ks:List κ) (k:κ):List κ:=if k∈ks then ks else ks++[k]
noncomputable def QV (ks:List κ) (xs:List α) (k:κ) (y:α):List α:=if k∈ks then ZjZ ks xs k y else xs++[y]
theorem Zgp:∀{ks:List κ}{xs:List α}{k:κ}{y:α},ks.length=xs.length->(ZjZ ks xs k y).length=ks.length
 |[],[],_,_,_=>rfl
 |k'::ks,x::xs,k,y,h=>by simp[ZjZ,Zgp (ks:=ks) (xs:=xs) (k:=k) (y:=y) (by simpa using h)]
 |[],_::_,_,_,h=>by simp at h
 |_::_,[],_,_,h=>by simp at h
theorem Zit {ks:List κ}{xs:List α}{k:κ}{y:α} (h:ks.length=xs.length):(ZbQ ks k).length=(QV ks xs k y).length:=by
 unfold ZbQ QV
 split
 ·rw[Zgp h]
 ·simp[h]
theorem Zc4:∀{ks:List κ}{vs:List V}{k:κ},ks.length=vs.length->ZhX (ks.zip vs) k=atK ks vs k
 |[],[],_,_=>rfl
 |k'::ks,v::vs,k,h=>by
  rw[Zr7]
  unfold atK
  by_cases e:k'=k
  ·rw[ZaD e,if_pos e]
  ·rw[ZaE e,if_neg e,Zc4 (by simpa using h)]
 |[],_::_,_,h=>by simp at h
 |_::_,[],_,h=>by simp at h
theorem ZfO:∀{ks:List κ}{vs:List V}{k:κ},ks.length=vs.length->(((ks.zip vs).any fun kv=>decide (kv.1=k))=true ↔ k∈ks)
 |[],[],_,_=>by simp
 |k'::ks,v::vs,k,h=>by
  rw[Zr7,Zrq,Bool.or_eq_true,ZfO (by simpa using h),Zqw,decide_eq_true_eq]
  exact⟨fun z=>z.imp Eq.symm id,fun z=>z.imp Eq.symm id⟩
 |[],_::_,_,h=>by simp at h
 |_::_,[],_,h=>by simp at h
theorem Zij:∀{ks:List κ}{vs:List V}{k:κ}{y:V},ks.length=vs.length->((ks.zip vs).map fun kv=>if kv.1=k then (kv.1,y) else kv)=ks.zip (ZjZ ks vs k y)
 |[],[],_,_,_=>rfl
 |k'::ks,v::vs,k,y,h=>by
  rw[Zr7,Zqz,Zij (by simpa using h)]
  show _=(k'::ks).zip ((if k'=k then y else v)::ZjZ ks vs k y)
  by_cases e:k'=k
  ·rw[if_pos e,if_pos e];rfl
  ·rw[if_neg e,if_neg e];rfl
 |[],_::_,_,_,h=>by simp at h
 |_::_,[],_,_,h=>by simp at h
theorem Zgu {ks:List κ}{vs:List V}{k:κ}{y:V} (h:ks.length=vs.length):ZhS (ks.zip vs) k y=(ZbQ ks k).zip (QV ks vs k y):=by
 unfold ZhS ZbQ QV
 by_cases c:k∈ks
 ·rw[if_pos ((ZfO h).mpr c),if_pos c,if_pos c,Zij h]
 ·rw[if_neg (fun z=>c ((ZfO h).mp z)),if_neg c,if_neg c,List.zip_append h];rfl
end
section
variable {κ:Type} [DecidableEq κ] {K:W.Frag}{H:Hp}{S:Addr->Prop}
theorem Zgr:∀{ks:List κ}{xs:List PV}{vs:List V}{k:κ},ZS K H S xs vs->match atK ks xs k with
  |some y=>∃v,atK ks vs k=some v/\Rep K H S y v
  |none=>atK ks vs k=none
 |[],xs,vs,k,h=>by simp[atK]
 |k'::ks,[],vs,k,h=>by rw[h];simp[atK]
 |k'::ks,x::xs,vs,k,h=>by
  obtain⟨v,r,rfl,h1,h2⟩:=h
  unfold atK
  by_cases e:k'=k
  ·rw[if_pos e,if_pos e];exact⟨v,rfl,h1⟩
  ·rw[if_neg e,if_neg e];exact Zgr h2
theorem Zcb:∀{ks:List κ}{xs:List PV}{vs:List V}{G:List Addr}{k:κ}{y:PV}{w:V},ks.length=xs.length->Zw K H xs vs G->WO K H y w []->∃G',(∀a∈G',a∈G)/\Zw K H (ZjZ ks xs k y) (ZjZ ks vs k w) G'
 |[],[],vs,G,k,y,w,_,h,_=>⟨[],by simp,by rw[h.1];exact⟨rfl,rfl⟩⟩
 |k'::ks,x::xs,vs,G,k,y,w,hl,h,hy=>by
  obtain⟨v,r,G1,G2,rfl,h1,h2,h3,rfl⟩:=h
  obtain⟨G',g1,g2⟩:=Zcb (ks:=ks) (k:=k) (y:=y) (w:=w) (by simpa using hl) h2 hy
  unfold ZjZ
  by_cases e:k'=k
  ·rw[if_pos e,if_pos e]
   exact⟨G',fun a ha=>Zqj _ (g1 a ha),w,_,[],G',rfl,hy,g2,by simp,rfl⟩
  ·rw[if_neg e,if_neg e]
   refine⟨G1++G',fun a ha=>?_,v,_,G1,G',rfl,h1,g2,fun a ha z=>h3 a ha (g1 a z),rfl⟩
   rcases Zqo.mp ha with z|z
   ·exact Zqp _ z
   ·exact Zqj _ (g1 a z)
 |[],_::_,_,_,_,_,_,hl,_,_=>by simp at hl
 |_::_,[],_,_,_,_,_,hl,_,_=>by simp at hl
theorem WO.flatG {x:PV}{v:V}{G:List Addr} (f:x.flat=true) (h:WO K H x v G):WO K H x v []:=Rep.tree f (h.rep (S:=fun _=>True) fun _ _=>trivial)
end
section
variable {K:W.Frag}{B:Addr->Prop}{EX:PX->Hp->Prop}{H0 H H':Hp}{σ:St}{Γ Γ' Γ1 Γ2 Γ3:List Md}{ρ:List PV}{F F':Nat->List Addr}{R:List Addr}{te ta tb tc:TE}{f fa fb fc:List PV->Rr PV}{k:Kd}
noncomputable def dAt (x y:PV):Option (Option PV):=match x,y with
 |.box _ (.dk ks) xs,y=>(Zhw y).map fun k=>atK ks xs k
 |.box _ (.dt ks) xs,.tup ys=>(Q8 ys).map fun k=>atK ks xs k
 |_,_=>none
noncomputable def Zo5 (g:Bool->Bool) (y x:PV):Rr PV:=match dAt x y with
 |some o=>.ok (.bl (g o.isSome))
 |none=>.bad
theorem ZmJ {x y:PV}{v w:V}{o:Option PV}{S:Addr->Prop} (hx:Rep K H S x v) (hy:Rep K H (fun _=>True) y w) (e:dAt x y=some o) :
  ∃a r,v=.ref a/\Zpv H a w r/\r.isSome=o.isSome/\∀z,o=some z->∃u,r=some u/\Rep K H S z u:=by
 have fin:∀{κ:Type} [DecidableEq κ] {ks:List κ}{xs:List PV}{vs:List V}{k:κ},ZS K H S xs vs->o=atK ks xs k->(atK ks vs k).isSome=o.isSome/\∀z,o=some z->∃u,atK ks vs k=some u/\Rep K H S z u:=fun {κ} _ {ks xs vs k} h e=>by
  have:=Zgr (ks:=ks) (k:=k) h
  rw[<- e] at this
  cases o with
  |none=>exact⟨by rw[this];rfl,fun z q=>by cases q⟩
  |some z =>
   obtain⟨u,e1,e2⟩:=this
   exact⟨by rw[e1];rfl,fun z' q=>by cases q;exact⟨u,e1,e2⟩⟩
 unfold dAt at e
 split at e
 ·rename_i p ks xs
  obtain⟨a,vs,u,rfl,hr,⟨_,hl,rfl⟩,hxs⟩:=hx
  cases ek:Zhw y with
  |none=>rw[ek] at e;cases e
  |some k =>
   rw[ek] at e
   cases e
   rw[ZcS ek] at hy
   obtain⟨g1,g2⟩:=fin (ks:=ks) (k:=k) hxs rfl
   exact⟨a,atK ks vs k,rfl,.inl ⟨_,k,hr.1,ZeU hy,(Zc4 hl).symm⟩,g1,g2⟩
 ·rename_i p ks xs ys
  obtain⟨a,vs,u,rfl,hr,⟨_,hl,rfl⟩,hxs⟩:=hx
  cases ek:Q8 ys with
  |none=>rw[ek] at e;cases e
  |some k =>
   rw[ek] at e
   cases e
   rw[Q7 ek] at hy
   obtain⟨b,ws,rfl,hb,hws⟩:=hy
   rw[Q0 hws] at hb
   obtain⟨g1,g2⟩:=fin (ks:=ks) (k:=k) hxs rfl
   exact⟨a,atK ks vs k,rfl,.inr ⟨_,k,b,hr.1,rfl,hb.1,(Zc4 hl).symm⟩,g1,g2⟩
 ·cases e
theorem Zjr (ha:DE K EX Γ Γ1 .A ta fa) (hb:DE K EX Γ1 Γ2 .A tb fb):DE K EX Γ Γ2 .P (Zid ta tb) (fun ρ=>(fa ρ).bind fun y=>(fb ρ).bind fun x=>Zo5 (!·) y x):=fun B H0 H σ ρ F R Q A d=>by
 refine two ha hb A d.bind2 fun y x w v H' F' d s f py px A'=>?_
 unfold Zo5 at d
 cases e:dAt x y with
 |none=>rw[e] at d;exact d.elim
 |some o =>
  rw[e] at d
  obtain⟨a,r,rfl,g1,g2,_⟩:=ZmJ px py e
  exact⟨a,r,rfl,g1,by rw[g2];exact d _ _ s ⟨F',f,rfl,rfl,A'⟩⟩
noncomputable def Zkt (x y z:PV):Rr PV:=match x,y with
 |.box p (.dk ks) xs,y=>match Zhw y with
  |some k=>if xs.length<1000000/\(Zpa k ks=false\/z.flat=true) then .ok (.box p (.dk (ZbQ ks k)) (QV ks xs k z)) else .bad
  |none=>.bad
 |.box p (.dt ks) xs,.tup ys=>match Q8 ys with
  |some k=>if xs.length<1000000/\(Zpa k ks=false\/z.flat=true) then .ok (.box p (.dt (ZbQ ks k)) (QV ks xs k z)) else .bad
  |none=>.bad
 |_,_=>.bad
theorem Zd4 {κ:Type} [DecidableEq κ] {ks:List κ}{xs:List PV}{vs:List V}{k:κ}{y:PV}{w:V}{G G2:List Addr} (hl:ks.length=xs.length) (h:Zw K H xs vs G) (hy:WO K H y w G2) (hd:∀a∈G,a ∉ G2) (hk:k∈ks->y.flat=true) :
  ∃G',(∀a∈G',a∈G\/a∈G2)/\Zw K H (QV ks xs k y) (QV ks vs k w) G':=by
 unfold QV
 by_cases c:k∈ks
 ·rw[if_pos c,if_pos c]
  obtain⟨G',g1,g2⟩:=Zcb (k:=k) hl h (hy.flatG (hk c))
  exact⟨G',fun a ha=>.inl (g1 a ha),g2⟩
 ·rw[if_neg c,if_neg c]
  exact⟨G++G2,fun a ha=>Zqo.mp ha,Zw.append h (Zw.one hy) hd⟩
theorem ZkE {i:Nat}{tv:TE}{fv:List PV->Rr PV} (hm:Γ1[i]?=some .O) (hv:DE K EX Γ Γ1 .F tv fv) (hk:DE K EX Γ1 Γ1 .A tb fb) :
  DS K EX Γ ⟨Γ1,Γ2,Γ3,k⟩ (Znr (Zhi i) tb tv) (fun ρ=>(fv ρ).thenS fun z=>(fb ρ).thenS fun y=>(Zkt (gv i ρ) y z).thenS fun x=>.next (ρ.set i x)):=fun B H0 H σ ρ F D A d=>by
 refine hv B H0 H σ ρ F [] _ A (d.thenS.imp (fun z _ d w H1 s1 r1=>?_) fun e q=>q)
 obtain⟨F1,f1,G2,t1,o1,A1⟩:=r1
 obtain⟨v,h1,h2⟩:=A1.getO hm
 refine⟨v,h1,hk B H0 H1 σ ρ F1 (G2++[]) _ A1 (d.thenS.imp (fun y _ d yv H2 s2 r2=>?_) fun e q=>q)⟩
 obtain⟨F2,f2,p2,A2⟩:=r2
 obtain⟨v',h1',h2'⟩:=A2.getO hm
 rw[h1] at h1';cases h1'
 have d:=d.thenS
 have t2:=t1.same s2
 have core:∀{p:Option Addr}{s s':Sh}{xs xs':List PV}{a:Addr}{vs vs':List V}{u u':HO}{G G':List Addr},ρ.getD i .non=.box p s xs->H2 a=some u->Zo9 p a->Zw K H2 xs vs G->a ∉ G->F2 i=a::G->Zo1 K s' vs' u'->Zw K H2 xs' vs' G'->(∀b∈G',b∈G\/b∈G2) ->
   σ[i]?=some (some (.ref a))->DnS K B EX ⟨Γ1,Γ2,Γ3,k⟩ H0 H F D (.next (ρ.set i (.box p s' xs')))->D.nx σ (upd H2 a u'):=fun {p s s' xs xs' a vs vs' u u' G G'} er hH hpn ht hn hF hb ht' hsub hσ d=>by
  have haF:a∈F2 i:=by rw[hF];simp
  have na2:a ∉ G2:=fun z=>A2.disjR i a haF (Zqp _ z)
  have hna:a ∉ G':=fun z=>(hsub a z).elim hn na2
  have hsub2:∀b∈a::G',b∈F2 i\/b∈G2:=fun b hb=>by
   rcases Zqw.mp hb with rfl|hb
   ·exact .inl haF
   ·rcases hsub b hb with z|z
    ·exact .inl (by rw[hF];simp[z])
    ·exact .inr z
  obtain⟨lv,hlv⟩:=A2.live i a haF
  refine d σ _ (U2 F2 i (a::G')) (ZcY (s1.trans s2) (fun j b hb=>f1 j b (f2 j b hb)) haF fun b hb=>?_) (Ag.chgB hb.lv (G:=G2) (R:=[]) A2 hm haF hsub2 (by simp) ?_)
  ·rcases hsub2 b hb with z|z
   ·exact .inr ⟨i,f1 i b (f2 i b z)⟩
   ·exact(o1 b z).2
  ·exact⟨_,hσ,a,vs',u',G',rfl,ZT,⟨hpn,hb⟩,Zw.putL hlv hna ht',hna,rfl⟩
 unfold Zkt at d
 split at d
 ·rename_i p ks xs er _ _
  rw[show ρ.getD i .non=.box p (.dk ks) xs from er] at h2'
  obtain⟨a,vs,u,G,rfl,hH,⟨hpn,hl,rfl⟩,ht,hn,hF⟩:=h2'
  split at d
  ·rename_i kk ek
   split at d
   ·rename_i hc
    rw[ZcS ek] at p2
    have hl':ks.length=xs.length:=by rw[hl,ht.length]
    have dj:∀b∈G,b ∉ G2:=fun b hb z=>A2.disjR i b (by rw[hF];simp[hb]) (Zqp _ z)
    obtain⟨G',g1,g2⟩:=Zd4 (k:=kk) hl' ht t2 dj (fun c=>hc.2.resolve_left (fun z=>ZiO z c))
    refine⟨a,_,rfl,.inl ⟨_,kk,hH,ZeU p2, ?_,rfl⟩,core er hH hpn ht hn hF (s':=.dk (ZbQ ks kk)) (vs':=QV ks vs kk w) ⟨Zit hl, ?_⟩ g2 g1 h1 d⟩
    ·rw[ZrS,hl,Nat.min_self,ht.length];exact Zqx hc.1 (by decide)
    ·rw[Zgu hl]
   ·exact d.elim
  ·exact d.elim
 ·rename_i p ks xs ys er _ _
  rw[show ρ.getD i .non=.box p (.dt ks) xs from er] at h2'
  obtain⟨a,vs,u,G,rfl,hH,⟨hpn,hl,rfl⟩,ht,hn,hF⟩:=h2'
  split at d
  ·rename_i kk ek
   split at d
   ·rename_i hc
    rw[Q7 ek] at p2
    obtain⟨b,ws,rfl,hb,hws⟩:=p2
    rw[Q0 hws] at hb
    have hl':ks.length=xs.length:=by rw[hl,ht.length]
    have dj:∀b∈G,b ∉ G2:=fun b hb z=>A2.disjR i b (by rw[hF];simp[hb]) (Zqp _ z)
    obtain⟨G',g1,g2⟩:=Zd4 (k:=kk) hl' ht t2 dj (fun c=>hc.2.resolve_left (fun z=>ZiO z c))
    refine⟨a,_,rfl,.inr ⟨_,kk,b,hH,rfl,hb.1, ?_,rfl⟩,core er hH hpn ht hn hF (s':=.dt (ZbQ ks kk)) (vs':=QV ks vs kk w) ⟨Zit hl, ?_⟩ g2 g1 h1 d⟩
    ·rw[ZrS,hl,Nat.min_self,ht.length];exact Zqx hc.1 (by decide)
    ·rw[Zgu hl]
   ·exact d.elim
  ·exact d.elim
 ·exact d.elim
end
noncomputable def Zic (tk tv:TE):TE:=fun σ H Q=>∀p,H p=none->tk σ (upd H p (.dT [])) fun x H1=>tv σ H1 fun y H2=>∃b k,x=.ref b/\H2 b=some (.tup (k.map kV))/\H2 p=some (.dT [])/\Q (.ref p) (upd H2 p (.dT [(k,y)]))
theorem Zi1 {X:Cx}{pos:Pos}{e v:Expr}{tk tv:TE} (hu:X.A.units+1<cLine) (hk:PE X e tk) (hv:PE X v tv):PE X (.Dict [some e] [v] pos) (Zic tk tv):=by
 intro pins s σ H Q I q
 have hn:=I.hok.fresh (Zqn s.heap.objs.size)
 have I1:=I.laid (a:=s.heap.objs.size) (o:=.dT []) (h':=s.heap.push { cls:=.type "dict",data:=.dict #[] }) (t':=s.toks) (fun _ _ q=>Heap.get?_push_of_some _ q) (Zqn _) (ZkB s.heap I.big)
 have hp:=Zkh (pos:=pos) hk hv Zmd
 refine wpAny_Dict_any rfl rfl (by simp) (by simp) (thn (hp pins _ σ _ (fun ps H2=>∃x y,ps=[(x,y)]/\∃b k,x=.ref b/\H2 b=some (.tup (k.map kV))/\H2 s.heap.objs.size=some (.dT [])/\Q (.ref s.heap.objs.size) (upd H2 s.heap.objs.size (.dT [(k,y)]))) I1 ?_) fun ws s2 ⟨ps,H2,I2,rel,x,y,ep,b,kk,ex,eb,e,q2⟩=>?_)
 ·have:=q _ hn
  show Zgi [(tk,tv)] σ _ _
  unfold Zgi
  refine cast (congrArg (fun f=>tk σ (upd H s.heap.objs.size (.dT [])) f) (funext fun x=>funext fun H1=>congrArg (fun f=>tv σ H1 f) (funext fun y=>funext fun H2=>propext ⟨fun z=>⟨x,y,rfl,z⟩,fun⟨x',y',e',z⟩=>by cases e';exact z⟩))) this
 subst ep ex
 rcases ws with _|⟨⟨uk,uv⟩,ws⟩
 ·cases rel
 cases rel with
 |cons r1 r2 =>
  cases r2
  obtain⟨rk,rv⟩:=r1
  have ek:uk=Value.ref b:=rk
  subst ek
  obtain⟨z,hd,xs,rl,dd⟩:=Zoc I2.hok e
  cases rl
  show wpAny _ _ (forIn [(Value.ref b,uv)] PUnit.unit _) _ _ s2
  rw[List.forIn_cons]
  refine wpAny_bind (wpAny_bind (wpAny_dictSet_heap (hsz:=ZqA _) (show X.A.units<cLine by omega) (ZgH I2.hok eb) dd fun h' dd' hs=>wpAny_pure ?_))
  dsimp only
  rw[List.forIn_nil]
  refine wpAny_pure ⟨.ref s.heap.objs.size,_, ?_,rfl,q2⟩
  obtain⟨qo,es,ep,hq,h2,h3,h4,_,h5⟩:=dd'
  refine Zf4 I2 (by rw[e];exact True.intro) hs ⟨qo,hq⟩ ⟨?_,hd,_, ?_,qo,es,ep,hq,h2,h3,h4,h5⟩
  ·show 1<=sizeLine
   decide
  ·refine .cons ⟨rfl, ?_,rv⟩ .nil
   show upd H2 s.heap.objs.size _ b=_
   rw[Z9 (Zmr eb e (fun z=>nomatch z))]
   exact eb
section
variable {K:W.Frag}{B:Addr->Prop}{EX:PX->Hp->Prop}{H0 H H':Hp}{σ:St}{Γ Γ' Γ1 Γ2 Γ3:List Md}{ρ:List PV}{F F':Nat->List Addr}{R:List Addr}{te ta tb tc:TE}{f fa fb fc:List PV->Rr PV}{k:Kd}
noncomputable def Zg3 (y z:PV):Rr PV:=match y with
 |.tup ys=>match Q8 ys with
  |some k=>.ok (.box none (.dt [k]) [z])
  |none=>.bad
 |_=>.bad
theorem Zjs (ha:DE K EX Γ Γ1 .A ta fa) (hb:DE K EX Γ1 Γ2 .P tb fb):DE K EX Γ Γ2 .F (Zic ta tb) (fun ρ=>(fa ρ).bind fun y=>(fb ρ).bind fun z=>Zg3 y z):=fun B H0 H σ ρ F R Q A d p hp=>by
 have A0:=A.newB (u:=.dT []) trivial hp
 have s0:Z4 H (upd H p (.dT [])):=Z4.new hp
 refine ha B H0 _ σ ρ F (p::R) _ A0 (d.bind.imp (fun y _ d w H1 s1 r1=>?_) fun e q=>q)
 obtain⟨F1,f1,p1,A1⟩:=r1
 refine hb B H0 H1 σ ρ F1 (p::R) _ A1 (d.bind.imp (fun z _ d v H2 s2 r2=>?_) fun e q=>q)
 obtain⟨F2,f2,z1,z2,A2⟩:=r2
 have p1':=p1.same s2
 unfold Zg3 at d
 split at d
 ·rename_i ys
  split at d
  ·rename_i kk ek
   rw[Q7 ek] at p1'
   obtain⟨b,ws,rfl,hb,hws⟩:=p1'
   rw[Q0 hws] at hb
   have hH:H2 p=some (.dT []):=s2 _ _ (s1 _ _ ZT)
   refine⟨b,kk,rfl,hb.1,hH, ?_⟩
   have hpR:p ∉ R:=fun q=>by obtain⟨u,e⟩:=A.liveR p q;rw[hp] at e;cases e
   have hpF:∀i,p ∉ F i:=fun i q=>by obtain⟨u,e⟩:=A.live i p q;rw[hp] at e;cases e
   have AR:Ag K B H0 (upd H2 p (.dT [(kk,v)])) σ Γ2 ρ F2 (p::R):=by
    refine⟨fun c o e=>?_,A2.own,A2.young,A2.youngR,fun i c hc=>?_,fun c hc=>?_,A2.disj,A2.disjR,A2.lenS,A2.lenR,fun i=>?_⟩
    ·rw[Z9 (fun z=>by rw[z] at e;have:=A2.youngR p (by simp);rw[e] at this;cases this)];exact A2.same c o e
    ·rw[Z9 (fun z=>by rw[z] at hc;exact A2.disjR i p hc (by simp))];exact A2.live i c hc
    ·by_cases q:c=p
     ·exact⟨⟨.dT [(kk,v)],trivial⟩,by rw[q,ZT]⟩
     ·rw[Z9 q];exact A2.liveR c hc
    ·refine(A2.slot i).mono (fun c us s r=>⟨?_,s⟩) (fun c us r=>Im.putL (us:=⟨.dT [],trivial⟩) hH r) fun c hc us q=>?_
     ·have hne:c≠p:=fun z=>s.2.1 (by rw[z];simp)
      rcases r with r|⟨o',r⟩
      ·exact .inl (by rw[Z9 hne];exact r)
      ·exact .inr ⟨o',by rw[Z9 hne];exact r⟩
     ·have hne:c≠p:=fun z=>A2.disjR i c hc (by rw[z];simp)
      rw[Z9 hne];exact q
   have sm:Z4 H (upd H2 p (.dT [(kk,v)])):=fun c o e=>by
    rw[Z9 (Yk e hp)];exact s2 _ _ (s1 _ _ (s0 _ _ e))
   refine d _ _ sm ⟨F2,fun i a h=>f1 i a (f2 i a h),[p],⟨p,[v],_,[],rfl,ZT,⟨trivial,rfl,rfl⟩, ?_,by simp,rfl⟩,fun a ha=>?_,AR⟩
   ·exact⟨v,[],[],[],rfl,WO.mono (fun a ha=>by cases ha) (fun c us r=>Im.putL (us:=⟨.dT [],trivial⟩) hH r) (z2.tree z1),⟨rfl,rfl⟩,by simp,rfl⟩
   ·rw[Zq0.mp ha];exact⟨hpR,.inl hp⟩
  ·exact d.elim
 ·exact d.elim
end
section
variable {X:Cx}{K:W.Frag}
def Zli (K:W.Frag):List V->Hp->VK->Prop:=fun xs H Q=>∃p ys,xs=[.ref p]/\((SqL K H p ys/\∀l,H l=none->Q (.ref l) (upd H l (.tup ys)))\/(SqT K H p ys/\Q (.ref p) H))
theorem Qj (e:X.K=K:=by rfl):Vv X (.type "tuple") (Zli K):=by subst e;exact Zdm
theorem ZbF:bootBuiltins "tuple"=some (.type "tuple"):=by decide +kernel
noncomputable def Zpz (K:W.Frag) (ta:TE):TT:=fun σ H Q=>ta σ H fun x H'=>∃k,Zpr K x H' k/\Q k H'
theorem Zma {a:Expr}{ta:TE} (ha:PE X a ta) (e:X.K=K:=by rfl) (he:∀whole,isTrue a X.env whole=(do let v <- whole;standAt a.pos;holding [v] (truthy v)):=by exact fun _=>rfl):PT X a (Zpz K ta):=by subst e;exact Zkf ha he
end
section
variable {K:W.Frag}{B:Addr->Prop}{EX:PX->Hp->Prop}{H0 H H':Hp}{σ:St}{Γ Γ' Γ1 Γ2 Γ3:List Md}{ρ:List PV}{F F':Nat->List Addr}{R:List Addr}{te tb tc:TE}{ta:TA}{f fb fc:List PV->Rr PV}{fa:List PV->Rr (List PV)}{k:Kd}
noncomputable def Zgz (xs:List PV):Rr PV:=match xs with
 |[.lst ys]=>.ok (.tup ys)
 |[.tup ys]=>.ok (.tup ys)
 |_=>.bad
theorem Zdg (ha:DAA K EX Γ Γ' ta fa):DE K EX Γ Γ' .A (tCB (Zli K) ta) (fun ρ=>(fa ρ).bind Zgz):=fun B H0 H σ ρ F R Q A d=>by
 refine ha B H0 H σ ρ F R _ A (d.bind.imp (fun xs _ d vs H1 F1 s1 f1 p1 A1=>?_) fun e q=>q)
 unfold Zgz at d
 split at d
 ·obtain⟨v,rfl,a,ws,rfl,hn,hr⟩:=Za8 p1
  refine⟨a,ws,rfl,.inl ⟨UA (S:=fun _=>True) hn,fun l hl=>?_⟩⟩
  have e:=Z4.new (H:=H1) (o:=.tup ws) hl
  exact d _ _ (s1.trans e) ⟨F1,f1,⟨l,ws,rfl,⟨ZT,trivial⟩,hr.same e⟩,A1.grow e⟩
 ·obtain⟨v,rfl,a,ws,rfl,hn,hr⟩:=Za8 p1
  exact⟨a,ws,rfl,.inr ⟨hn.sqT,d _ _ s1 ⟨F1,f1,⟨a,ws,rfl,hn,hr⟩,A1⟩⟩⟩
 ·exact d.elim
noncomputable def ZpU (x:PV):Rr Bool:=match x with
 |.lst xs=>.ok (!xs.isEmpty)
 |.bl b=>.ok b
 |_=>.bad
theorem Zoa (ha:DE K EX Γ Γ' .A te f):DT K EX Γ Γ' (Zpz K te) (fun ρ=>(f ρ).bind ZpU):=fun B H0 H σ ρ F R Q A d=>by
 refine ha B H0 H σ ρ F R _ A (d.bind.imp (fun x _ d v H1 s1 r1=>?_) fun e q=>q)
 obtain⟨F1,f1,p1,A1⟩:=r1
 cases x with
 |lst xs =>
  obtain⟨a,vs,rfl,hn,hr⟩:=p1
  refine⟨!xs.isEmpty,.inl ⟨vs,UA (S:=fun _=>True) hn, ?_⟩,d _ F1 s1 f1 A1⟩
  cases xs with
  |nil=>rw[show vs=[] from hr];rfl
  |cons x xs=>obtain⟨v,r,rfl,_⟩:=hr;rfl
 |bl b=>cases p1;exact⟨b,rfl,d _ F1 s1 f1 A1⟩
 |_=>exact d.elim
end
noncomputable def ins {α:Type}:Nat->α->List α->List α
 |0,v,us=>v::us
 |_+1,v,[]=>[v]
 |j+1,v,u::us=>u::ins j v us
theorem Uf {α:Type}:∀{j:Nat}{v:α}{us:List α},(ins j v us).length=us.length+1
 |0,_,_=>rfl
 |_+1,_,[]=>rfl
 |j+1,v,u::us=>by simp[ins,Uf (j:=j) (v:=v) (us:=us)]
theorem Q9 {α:Type}:∀{j:Nat}{v:α}{us:List α} (i:Nat),j<=us.length->(ins j v us)[i]?=if i<j then us[i]? else if i=j then some v else us[i-1]?
 |0,v,us,0,_=>rfl
 |0,v,us,i+1,_=>by simp[ins]
 |j+1,v,[],_,h=>by simp at h
 |j+1,v,u::us,0,_=>rfl
 |j+1,v,u::us,i+1,h=>by
  have:=Q9 (j:=j) (v:=v) (us:=us) i (by simpa using h)
  rw[ins,List.getElem?_cons_succ,this]
  by_cases c:i<j
  ·rw[if_pos c,if_pos (show i+1<j+1 by omega)];rfl
  ·by_cases e:i=j
   ·rw[if_neg c,if_pos e,if_neg (show ¬i+1<j+1 by omega),if_pos (show i+1=j+1 by omega)]
   ·rw[if_neg c,if_neg e,if_neg (show ¬i+1<j+1 by omega),if_neg (show ¬i+1=j+1 by omega)]
    obtain⟨m,rfl⟩:∃m,i=m+1:=⟨i-1,by omega⟩
    rfl
theorem ZdV {α β:Type}{f:α->β}:∀{j:Nat}{v:α}{us:List α},(ins j v us).map f=ins j (f v) (us.map f)
 |0,_,_=>rfl
 |_+1,_,[]=>rfl
 |j+1,v,u::us=>by simp[ins,ZdV (j:=j) (v:=v) (us:=us)]
theorem ZdW {α:Type}{r:List α}:∀{j:Nat}{v:α}{us:List α},j<=us.length->ins j v us++r=ins j v (us++r)
 |0,_,_,_=>rfl
 |_+1,_,[],h=>by simp at h
 |j+1,v,u::us,h=>by
  show u::(ins j v us++r)=u::ins j v (us++r)
  rw[ZdW (by simpa using h)]
section
variable {K:W.Frag}{H H':Hp}{B:Addr->Prop}
theorem WO.pin {p:Option Addr}{s:Sh}{ys:List PV}{a:Addr}{G:List Addr} (h:WO K H (.box p s ys) (.ref a) G):WO K H (.box (some a) s ys) (.ref a) G:=by
 obtain⟨a',vs,u,G',e,h1,h2,h3⟩:=h
 cases e
 exact⟨a,vs,u,G',rfl,h1,⟨rfl,h2.2⟩,h3⟩
theorem WO.unpin {p:Option Addr}{s:Sh}{ys:List PV}{v:V}{G:List Addr} (h:WO K H (.box p s ys) v G):WO K H (.box none s ys) v G:=by
 obtain⟨a',vs,u,G',e,h1,h2,h3⟩:=h
 exact⟨a',vs,u,G',e,h1,⟨trivial,h2.2⟩,h3⟩
theorem WO.repin {p:Option Addr}{s:Sh}{ys:List PV}{a:Addr}{G:List Addr} (hp:Zo9 p a) (h:WO K H (.box none s ys) (.ref a) G):WO K H (.box p s ys) (.ref a) G:=by
 obtain⟨a',vs,u,G',e,h1,h2,h3⟩:=h
 cases e
 exact⟨a,vs,u,G',rfl,h1,⟨hp,h2.2⟩,h3⟩
theorem WO.pinned {b:Addr}{s:Sh}{ys:List PV}{v:V}{G:List Addr} (h:WO K H (.box (some b) s ys) v G):v=.ref b:=by
 obtain⟨a',vs,u,G',e,h1,h2,h3⟩:=h
 rw[e,show a'=b from h2.1]
end
noncomputable def spM (K:W.Frag) (n j:Nat) (m:PV->List PV->Rr PV):Sp:=fun vs H Q E=>∃(B:Addr->Prop) (xs:List PV) (us:List V) (a:Addr) (s:Sh) (ys:List PV) (G:List Addr),
 vs=ins j (.ref a) us/\xs.length=n/\ZS K H B xs us/\WO K H (.box none s ys) (.ref a) G/\(∀b,B b->b ∉ G) /\
 Dn (m (.box none s ys) xs) (fun r=>∃y s' ys',r=.tup [y,.box none s' ys']/\∀u H' G1 G2,Z4 (minus H G) H'->WO K H' y u G1->WO K H' (.box none s' ys') (.ref a) G2->(∀b∈G1,b ∉ G2)->(∀b∈G1,minus H G b=none)->(∀b∈G2,minus H G b=none)->Q u H') (fun _=>False)
noncomputable def ZoN (a:Addr) (b:PV):PV:=match b with
 |.box _ s ys=>.box (some a) s ys
 |x=>x
noncomputable def ZoM (a:Addr) (r:Rr PV):Rr PV:=match r with
 |.ok (.tup [y,.box _ s ys])=>.ok (.tup [y,.box (some a) s ys])
 |.ok _=>.bad
 |.exc e=>.exc e
 |.bad=>.bad
noncomputable def RS.outN (j:Nat) (r:RS):Rr PV:=match r with
 |.next ρ=>.ok (.tup [.non,gv j ρ])
 |.ret x=>.ok x
 |.exc e=>.exc e
 |_=>.bad
section
variable {K:W.Frag}{B:Addr->Prop}{EX:PX->Hp->Prop}{H0 H H':Hp}{σ:St}{Γ Γ' Γ1 Γ2 Γ3:List Md}{ρ:List PV}{F F':Nat->List Addr}{R:List Addr}
theorem Ag.initM {s:Sh}{ys:List PV}{a:Addr}{G:List Addr}{xs:List PV}{us:List V}{j l:Nat} (ht:WO K H (.box none s ys) (.ref a) G) (h:ZS K H B xs us) (hB:∀b,B b->b ∉ G) (hj:j<=xs.length) :
  Ag K (fun b=>B b\/minus H G b=none) (minus H G) H (ins j (some (.ref a)) (us.map some++List.replicate l none)) (ins j .O (List.replicate xs.length .S++List.replicate l .U)) (ins j (.box (some a) s ys) (xs++List.replicate l .non)) (U2 (fun _=>[]) j G) []:=by
 have fin:∀i,∀b∈U2 (fun _=>[]) j G i,i=j/\b∈G:=fun i b hb=>by
  unfold U2 at hb
  split at hb
  ·exact⟨by assumption,hb⟩
  ·simp at hb
 have A:=Ag.init (n:=l) h
 refine⟨Zht,fun b h=>.inr h,fun i b hb=>ZgD (fin i b hb).2,by simp,fun i b hb=>ht.alive b (fin i b hb).2,by simp,fun i k hik b hb z=>hik ((fin i b hb).1.trans (fin k b z).1.symm),by simp,by simp[Uf,h.length],by simp[Uf],fun i=>?_⟩
 have hjs:j<=(us.map some++List.replicate l (none:Option V)).length:=by simp[h.length];omega
 have hjg:j<=(List.replicate xs.length Md.S++List.replicate l Md.U).length:=by simp;omega
 have hjr:j<=(xs++List.replicate l PV.non).length:=by simp;omega
 rw[Zqi,Zqi,Q9 i hjs,Q9 i hjg,Q9 i hjr]
 have go:∀q,q≠j\/True->UF K H (NO (fun b=>B b\/minus H G b=none) (U2 (fun _=>[]) j G) []) ((List.replicate xs.length Md.S++List.replicate l Md.U)[q]?.getD .U) ((xs++List.replicate l PV.non)[q]?.getD .non) (us.map some++List.replicate l none)[q]? []:=fun q _=>by
  have sl:=A.slot q
  rw[Zqi,Zqi] at sl
  refine sl.mono (fun b u s r=>⟨r, ?_,by simp,fun k z=>?_⟩) (fun b u r=>r) (fun b hb=>by cases hb)
  ·rcases s.1 with s|s
   ·exact .inl s
   ·exact .inr (by
     by_cases q:b∈G
     ·exact ZgD q
     ·rw[Yv q];exact s)
  ·have z:=(fin k b z).2
   rcases s.1 with s|s
   ·exact hB b s z
   ·obtain⟨vs,q⟩:=ht.alive b z
    rw[s] at q;cases q
 by_cases c:i<j
 ·rw[if_pos c,if_pos c,if_pos c,Z3 (by omega)]
  exact go i (.inr trivial)
 ·rw[if_neg c,if_neg c,if_neg c]
  by_cases e:i=j
  ·rw[if_pos e,if_pos e,if_pos e]
   subst e
   rw[Zq]
   exact⟨_,rfl,ht.pin⟩
  ·rw[if_neg e,if_neg e,if_neg e,Z3 e]
   exact go (i-1) (.inr trivial)
noncomputable def ZoJ (y x:PV):RS:=match x with
 |.box (some a) s xs=>.ret (.tup [y,.box (some a) s xs])
 |_=>.bad
theorem ZmA {j:Nat}{te:TE}{f:List PV->Rr PV} (he:DE K EX Γ Γ' .F te f) (hm:Γ'[j]?=some .O):DS K EX Γ ⟨Γ3,Γ1,Γ2,.N⟩ (Znh te) (fun ρ=>(f ρ).thenS fun y=>ZoJ y (gv j ρ)):=fun B H0 H σ ρ F D A d=>by
 refine he B H0 H σ ρ F [] _ A (d.thenS.imp (fun y _ d v H1 s1 r1=>?_) fun e q=>q)
 obtain⟨F1,f1,G,h1,h2,A1⟩:=r1
 unfold ZoJ at d
 split at d
 ·rename_i a s xs ex
  obtain⟨w,w1,w2⟩:=A1.getO hm
  rw[show ρ.getD j .non=.box (some a) s xs from ex] at w2
  have:=w2.pinned
  subst this
  exact d v H1 A1.same ⟨y,a,s,xs,G,F1 j,rfl,h1,w2,fun b hb z=>A1.disjR j b z (Zqp _ hb),fun b hb=>A1.youngR b (Zqp _ hb),fun b hb=>A1.young j b hb⟩
 ·exact d.elim
end
section
variable {P:Program}{w:World}{K:W.Frag}{mg:Str->Option Value}{base:Heap}
theorem Fun.okM {x qual:Str}{st:Stmt}{f:Addr}{fd:FuncData}{N ps:List Str}{k n l j:Nat}{m:PV->List PV->Rr PV} (F:Fun K x qual st f fd) (S:Zy N ps (Zg st)) (hn:ps.length=n+1) (hl:N.length-(n+1)=l) (hj:j<=n)
  (hbody:∀(cdv:Value) (A:Around) (outer:List Env) (s:Shared) (H:Hp) (E:XK),ZaC k (A.deeper (envOfC qual (Zg st) s.heap.objs.size f cdv)) ->
   ∃t g Y,Y.r=.N/\Y.n[j]?=some .O/\PSs (Zet CX0 P w K mg base N qual (Zg st) f cdv A outer s H E).nox (Zv st) t/\DS K X0 (ins j .O (List.replicate n .S++List.replicate l .U)) Y t g /\
    ∀a b xs,Ref (ZoM a (m b xs)) ((g (ins j (ZoN a b) (xs++List.replicate l .non))).outN j)) :
  Jo P w K mg base CX0 (k+1) f fd ps (spM K n j m):=by
 refine F.ok S (fun vs H Q E h=>?_) (fun cdv A outer s H vs Q E hr h=>?_)
 ·obtain⟨B,xs,us,a,s,ys,G,rfl,h1,h2,_⟩:=h
  rw[Uf,h2.length,h1,hn]
 ·obtain⟨B,xs,us,a,s',ys,G,rfl,h1,h2,h3,h4,dn⟩:=h
  obtain⟨t,g,Y,hY,hYn,ht,hd,href⟩:=hbody cdv A outer s H E hr
  refine⟨t,ht, ?_⟩
  have A0:=Ag.initM (l:=l) h3 h2 h4 (show j<=xs.length by omega)
  have est:Qx N (ins j (.ref a) us)=ins j (some (.ref a)) (us.map some++List.replicate l none):=by
   unfold Qx
   rw[Uf,h2.length,h1,hl,ZdV,ZdW (by rw[Zqt,h2.length];omega)]
  rw[est]
  rw[h1] at A0
  refine hd _ (minus H G) H _ _ _ _ A0 ?_
  have hr:=href a (.box none s' ys) xs
  rw[show ZoN a (.box none s' ys)=.box (some a) s' ys from rfl] at hr
  cases em:m (.box none s' ys) xs with
  |bad=>rw[em] at dn;exact dn.elim
  |exc q=>rw[em] at dn;exact dn.elim
  |ok r =>
   rw[em] at dn hr
   obtain⟨y,s2,ys2,rfl,q⟩:=dn
   have ho:(g (ins j (.box (some a) s' ys) (xs++List.replicate l .non))).outN j=.ok (.tup [y,.box (some a) s2 ys2]):=by
    rcases hr with e|e
    ·cases e
    ·exact e.symm
   cases e:g (ins j (.box (some a) s' ys) (xs++List.replicate l .non)) with
   |next ρ =>
    rw[e] at ho
    have hy:PV.tup [.non,gv j ρ]=.tup [y,.box (some a) s2 ys2]:=by simpa[RS.outN] using ho
    simp only[PV.tup.injEq,List.cons.injEq,and_true] at hy
    obtain⟨rfl,hb⟩:=hy
    refine fun σ' H' F' fr A'=>?_
    obtain⟨v,w1,w2⟩:=A'.getO hYn
    rw[show ρ.getD j .non=.box (some a) s2 ys2 from hb] at w2
    have:=w2.pinned
    subst this
    exact q .non H' [] (F' j) A'.same ⟨rfl,rfl⟩ w2.unpin (by simp) (by simp) fun b hb=>A'.young j b hb
   |ret z =>
    rw[e] at ho
    have hy:z=.tup [y,.box (some a) s2 ys2]:=by simpa[RS.outN] using ho
    subst hy
    refine fun v H' s r=>?_
    rw[hY] at r
    obtain⟨y',a',s3,xs3,G1,G2,e1,r1,r2,r3,r4,r5⟩:=r
    simp only[PV.tup.injEq,List.cons.injEq,and_true,PV.box.injEq,Option.some.injEq] at e1
    obtain⟨rfl,rfl,rfl,rfl⟩:=e1
    exact q v H' G1 G2 s r1 r2.unpin r3 r4 r5
   |exc q=>rw[e] at ho;cases ho
   |brk ρ=>rw[e] at ho;cases ho
   |cont ρ=>rw[e] at ho;cases ho
   |bad=>rw[e] at ho;cases ho
end
def NoE {α:Type} (f:List PV->Rr α):Prop:=∀ρ e,f ρ≠.exc e
def DER (K:W.Frag) (Γ:List Md) (te:TE) (f:List PV->Rr PV):Prop:=NoE f /\
 ∀(B:Addr->Prop) (H0 H:Hp) (σ:St) (ρ:List PV) (F:Nat->List Addr) (R:List Addr) (Q:VK),Ag K B H0 H σ Γ ρ F R ->
  (∃x,f ρ=.ok x/\∀v,Rep K H (fun a=>a ∉ R) x v->Q v H)->te σ H Q
def DAR (K:W.Frag) (Γ:List Md) (ta:TA) (f:List PV->Rr (List PV)):Prop:=NoE f /\
 ∀(B:Addr->Prop) (H0 H:Hp) (σ:St) (ρ:List PV) (F:Nat->List Addr) (R:List Addr) (Q:List V->Hp->Prop),Ag K B H0 H σ Γ ρ F R ->
  (∃xs,f ρ=.ok xs/\∀vs,ZS K H (fun a=>a ∉ R) xs vs->Q vs H)->ta σ H Q
def DAM (K:W.Frag) (Γ:List Md) (i j:Nat) (ta:TA) (f:List PV->Rr (List PV)):Prop:=NoE f /\
 ∀(B:Addr->Prop) (H0 H:Hp) (σ:St) (ρ:List PV) (F:Nat->List Addr) (R:List Addr) (v:V) (Q:List V->Hp->Prop),Ag K B H0 H σ Γ ρ F R->σ[i]?=some (some v) ->
  (∃xs,f ρ=.ok xs/\∀vs,ZS K H (fun a=>a ∉ R) xs vs->Q (ins j v vs) H)->ta σ H Q
theorem bind_ok {α β:Type}{r:Rr α}{g:α->Rr β}{y:β} (h:r.bind g=.ok y):∃x,r=.ok x/\g x=.ok y:=by
 cases r with
 |ok x=>exact⟨x,rfl,h⟩
 |exc e=>cases h
 |bad=>cases h
theorem ZgA {α β:Type}{f:List PV->Rr α}{g:List PV->α->Rr β} (h1:NoE f) (h2:∀ρ x e,g ρ x≠.exc e):NoE (fun ρ=>(f ρ).bind (g ρ)):=fun ρ e q=>by
 cases ef:f ρ with
 |ok x=>simp only[ef] at q;exact h2 ρ x e q
 |exc e'=>exact h1 ρ e' ef
 |bad=>simp only[ef] at q;cases q
section
variable {K:W.Frag}{B:Addr->Prop}{EX:PX->Hp->Prop}{H0 H H':Hp}{σ:St}{Γ Γ' Γ1 Γ2 Γ3:List Md}{ρ:List PV}{F F':Nat->List Addr}{R:List Addr}{te tb:TE}{ta:TA}{f fb:List PV->Rr PV}{fa:List PV->Rr (List PV)}{i j n:Nat}{m:PV->List PV->Rr PV}
theorem Zjo {l:Nat}{md:Md} (h:Γ[l]?=some md) (hm:md≠.U):DER K Γ (Zhi l) (fun ρ=>.ok (gv l ρ)):=⟨fun ρ e q=>(by cases q),fun B H0 H σ ρ F R Q A d=>by
 obtain⟨x,e,d⟩:=d
 cases e
 cases md with
 |U=>exact absurd rfl hm
 |P=>obtain⟨v,h1,h2,h3⟩:=A.getP h;exact⟨v,h1,d v (h3.flatS h2)⟩
 |S=>obtain⟨v,h1,h2⟩:=A.getS h;exact⟨v,h1,d v (Rep.mono (fun a u s r=>⟨r,s.2.1⟩) (fun a u r=>r) h2)⟩
 |T =>
  obtain⟨a,vs,xs,h1,h2,h3,h4,h5⟩:=A.getT h
  refine⟨_,h1,d _ ?_⟩
  rw[show gv l ρ=.lst xs from h2]
  exact⟨a,vs,rfl,.inl ⟨.inl h3,A.disjR l a (by rw[h5];simp)⟩,ZS.mono (fun a u s r=>⟨r,s.2.1⟩) (fun a u r=>r) h4⟩
 |O=>obtain⟨v,h1,h2⟩:=A.getO h;exact⟨v,h1,d v (h2.rep fun a ha=>A.disjR l a ha)⟩⟩
theorem ZmH:DAR K Γ ZjT (fun _=>.ok []):=⟨fun ρ e q=>(by cases q),fun B H0 H σ ρ F R Q A d=>by
 obtain⟨x,e,d⟩:=d
 cases e
 exact d [] rfl⟩
theorem ZkN (ha:DAR K Γ ta fa):DAM K Γ i 0 (Zc7 (Zhi i) ta) fa:=⟨ha.1,fun B H0 H σ ρ F R v Q A hv d=>⟨v,hv,ha.2 B H0 H σ ρ F R _ A d⟩⟩
theorem ZgX (he:DER K Γ te f) (ha:DAM K Γ i j ta fa):DAM K Γ i (j+1) (Zc7 te ta) (fun ρ=>(f ρ).bind fun x=>(fa ρ).bind fun xs=>.ok (x::xs)):=⟨ZgA he.1 fun ρ x e q=>(ZgA (g:=fun _ xs=>.ok (x::xs)) ha.1 fun _ y e q=>by cases q) ρ e q,fun B H0 H σ ρ F R v Q A hv d=>by
 obtain⟨z,e,d⟩:=d
 obtain⟨x,e1,e⟩:=bind_ok e
 obtain⟨y,e2,e⟩:=bind_ok e
 cases e
 exact he.2 B H0 H σ ρ F R _ A ⟨x,e1,fun u hu=>ha.2 B H0 H σ ρ F R v _ A hv ⟨y,e2,fun vs hvs=>d (u::vs) ⟨u,vs,rfl,hu,hvs⟩⟩⟩⟩
def DM (K:W.Frag) (EX:PX->Hp->Prop) (Γ:List Md) (i:Nat) (te:TE) (fm:List PV->Rr (PV×PV)):Prop:=
 ∀(B:Addr->Prop) (H0 H:Hp) (σ:St) (ρ:List PV) (F:Nat->List Addr) (Q:VK),Ag K B H0 H σ Γ ρ F [] ->
  Dn (fm ρ) (fun r=>∀v H' F' G,Frm H F H' F'->WO K H' r.1 v G->(∀b∈G,H b=none\/∃l,b∈F l)->Ag K B H0 H' σ Γ (ρ.set i r.2) F' (G++[])->Q v H') (fun e=>∀H',Z4 H0 H'->EX e H')->te σ H Q
noncomputable def ZjA (m:PV->List PV->Rr PV) (x:PV) (xs:List PV):Rr (PV×PV):=match x with
 |.box p s ys=>match m (.box none s ys) xs with
  |.ok (.tup [y,.box none s' ys'])=>.ok (y,.box p s' ys')
  |_=>.bad
 |_=>.bad
theorem Znp {α:Type}{l:List α}{i:Nat}{v:α} (h:l[i]?=some v):l.set i v=l:=by
 apply ZrD
 intro q
 by_cases e:i=q
 ·subst e;rw[Zq9 (Zql.mp h).1,h]
 ·rw[ZqM e]
theorem ZmC (hm:Γ[i]?=some .O) (hn:Len fa n) (ha:DAM K (Γ.set i .U) i j ta fa):DM K EX Γ i (ZaW (spM K n j m) ta) (fun ρ=>(fa ρ).bind fun xs=>ZjA m (gv i ρ) xs):=fun B H0 H σ ρ F Q A d=>by
 obtain⟨v,h1,h2⟩:=A.getO hm
 have hi:=A.lt hm
 cases ea:fa ρ with
 |bad=>dsimp only at d;rw[ea] at d;exact d.elim
 |exc q=>exact absurd ea (ha.1 ρ q)
 |ok xs =>
  refine ha.2 B H0 H σ ρ _ (F i++[]) v _ (A.move hm) h1 ⟨xs,ea,fun vs hvs=>?_⟩
  dsimp only at d
  rw[ea] at d
  have d:Dn (ZjA m (gv i ρ) xs) _ _:=d
  unfold ZjA at d
  split at d
  ·rename_i p s ys er
   rw[show ρ.getD i .non=.box p s ys from er] at h2
   split at d
   ·rename_i y s2 ys2 em
    obtain⟨a,ws,u0,G0,rfl,hH,hb,ht,hna,hF⟩:=id h2
    refine⟨fun b=>b ∉ F i,xs,vs,a,s,ys,F i,rfl,hn ρ xs ea,ZS.mono (fun b u s r=>⟨r,fun z=>s (by simp[z])⟩) (fun b u r=>r) hvs,h2.unpin,fun b hb z=>hb z, ?_⟩
    rw[em]
    refine⟨y,s2,ys2,rfl,fun u H' G1 G2 sm t1 t2 dj n1 n2=>?_⟩
    have AL:=(A.move hm).lost sm
    have hiU:(Γ.set i .U)[i]?=some .U:=by rw[Zq9 hi]
    have nw:∀b,minus H (F i) b=none->(∀l,b ∉ U2 F i [] l)/\H0 b=none:=fun b hb=>by
     refine⟨fun l z=>?_, ?_⟩
     ·by_cases q:l=i
      ·subst q;rw[Zq] at z;simp at z
      ·rw[Z3 q] at z
       rw[Yv (fun w=>A.disj l i q b z w)] at hb
       obtain⟨o,e⟩:=A.live l b z
       rw[hb] at e;cases e
     ·by_cases q:b∈F i
      ·exact A.young i b q
      ·rw[Yv q] at hb
       exact A.same.free hb
    have AM:Ag K B H0 H' σ (Γ.set i .U) ρ (U2 F i []) (G2++(G1++[])):=by
     refine⟨AL.same,AL.own,AL.young,fun b hb=>?_,AL.live,fun b hb=>?_,AL.disj,fun l b hb z=>?_,AL.lenS,AL.lenR,fun l=>?_⟩
     ·rcases Zqo.mp hb with z|z
      ·exact(nw b (n2 b z)).2
      ·exact(nw b (n1 b (by simpa using z))).2
     ·rcases Zqo.mp hb with z|z
      ·exact t2.alive b z
      ·exact t1.alive b (by simpa using z)
     ·rcases Zqo.mp z with z|z
      ·exact(nw b (n2 b z)).1 l hb
      ·exact(nw b (n1 b (by simpa using z))).1 l hb
     ·refine((A.move hm).slot l).mono (fun b o s r=>⟨(r.minus (fun z=>s.2.1 (by simp[z]))).same sm,s.1,fun z=>?_,s.2.2⟩) (fun b o r=>sm.im (r.minus fun c hc=>A.live i c hc)) fun b hb o q=>sm _ _ ?_
      ·have hb:minus H (F i) b≠none:=by
        rw[Yv (fun z=>s.2.1 (by simp[z]))]
        rcases r with r|⟨o',r⟩<;>(rw[r];simp)
       rcases Zqo.mp z with z|z
       ·exact hb (n2 b z)
       ·exact hb (n1 b (by simpa using z))
      ·rw[Yv (fun z=>(A.move hm).disjR l b hb (by simp[z]))];exact q
    have AP:=Ag.put (i:=i) (m:=.O) (x:=.box p s2 ys2) (v:=.ref a) (G:=G2) (R:=G1++[]) AM (by rw[Zrr];exact hi) (fun b hb z=>dj b (by simpa using z) hb) ⟨.ref a,rfl,t2.repin hb.1⟩
    rw[Znp h1,List.set_set,ZjY hm] at AP
    refine d u H' _ G1 (fun b o h n=>?_) t1 (fun b hb=>?_) AP
    ·have e:minus H (F i) b=some o:=by rw[Yv (n i)];exact h
     refine⟨sm _ _ e,fun l z=>?_⟩
     by_cases q:l=i
     ·subst q
      rw[Zq] at z
      rw[n2 b z] at e;cases e
     ·rw[Z3 q,Z3 q] at z
      exact n l z
    ·have:=n1 b hb
     by_cases q:b∈F i
     ·exact .inr ⟨i,q⟩
     ·rw[Yv q] at this;exact .inl this
   ·exact d.elim
  ·exact d.elim
variable {fm:List PV->Rr (PV×PV)}{k:Kd}{l:Nat}
theorem ZcX {F1:Nat->List Addr}{G:List Addr} (fr:Frm H F H' F1) (hG:∀a∈G,H a=none\/∃j,a∈F j):Frm H F H' (U2 F1 l G):=fun b o h n=>by
 obtain⟨h1,h2⟩:=fr b o h n
 refine⟨h1,fun q z=>?_⟩
 by_cases e:q=l
 ·subst e;rw[Zq] at z
  rcases hG b z with w|⟨c,w⟩
  ·rw[h] at w;cases w
  ·exact n c w
 ·rw[Z3 e] at z;exact h2 q z
theorem ZkD (he:DM K EX Γ i te fm) (hl:l<Γ.length):DS K EX Γ ⟨Γ.set l .O,Γ1,Γ2,k⟩ (Zld te (ZcW l)) (fun ρ=>(fm ρ).thenS fun r=>.next ((ρ.set i r.2).set l r.1)):=fun B H0 H σ ρ F D A d=>by
 refine he B H0 H σ ρ F _ A (d.thenS.imp (fun r _ d v H1 F1 G fr t1 h1 A1=>?_) fun e q=>q)
 exact d _ H1 _ (ZcX fr h1) (Ag.put (R:=[]) A1 hl (by simp) ⟨v,rfl,t1⟩)
end
noncomputable def Pm.fnM (m:Pm) (b:PV) (xs:List PV):Rr PV:=m.fn (b::xs)
theorem hu1 {n c:Nat} (h:n+64<c):n+1<c:=by omega
theorem Zkb {y:PV}{a:Addr}{s:Sh}{xs:List PV}:ZoJ y (.box (some a) s xs)=.ret (.tup [y,.box (some a) s xs]):=rfl
theorem ZkS {m:PV->List PV->Rr PV}{p:Option Addr}{s s':Sh}{ys ys' xs:List PV}{y:PV} (h:m (.box none s ys) xs=.ok (.tup [y,.box none s' ys'])):ZjA m (.box p s ys) xs=.ok (y,.box p s' ys'):=by
 unfold ZjA
 simp only[h]
section
variable {α β:Type}{n:Nat}{P:α->Prop}{R:β->Prop}
end
section
variable {n:Nat}
end
section
variable {prog:Program}{w:World}{A:Around}{E:Value->Shared->Prop}{s:Shared}
end
section
variable {prog:Program}{w:World}{A:Around}{E:Value->Shared->Prop}{s:Shared}
theorem ZgG {fin:Bool}{Q:Bool->Shared->Prop}:∀{ns ms:List Int}{vs ws:List Value}{i:Nat},YO (ns.map V.int) vs->YO (ms.map V.int) ws->fin=decide (vs.length<ws.length)->Q (HT.YC ns ms) s ->
  PySem.W.KatLex prog w A true fin Q (vs.zip ws) i s
 |[],[],_,_,i,.nil,.nil,e,q=>by subst e;exact q
 |[],m::ms,_,_,i,.nil,.cons r t,e,q=>by
  have:fin=true:=by rw[e];simp
  subst this
  exact q
 |n::ns,[],_,_,i,.cons r t,.nil,e,q=>by
  have:fin=false:=by rw[e];simp
  subst this
  exact q
 |n::ns,m::ms,_,_,i,.cons r t,.cons r' t',e,q=>by
  obtain⟨k,rfl⟩:=r
  obtain⟨k',rfl⟩:=r'
  rw[Zr7]
  refine PySem.W.kat_cons (wpAny_eqBool_int ?_)
  rw[HT.WL] at q
  by_cases h:n=m
  ·subst h
   rw[if_pos rfl] at q
   simp only[beq_self_eq_true]
   exact PySem.W.kat_yes (ZgG t t' (by rw[e];simp) q)
  ·rw[if_neg h] at q
   have hb:(n==m)=false:=by simpa using h
   rw[hb]
   refine PySem.W.kat_no ?_
   cases i with
   |zero=>exact oneLt_int q
   |succ i=>exact PySem.W.kat_one _ _ (PyProof.Rows.lt_int q)
end
section
variable {X:Cx}
end
noncomputable def WR (t:List Int):PV:=.tup (t.map PV.int)
theorem Qu:∀{a b:List (List Int)},a.map WR=b.map WR->a=b
 |[],[],_=>rfl
 |[],y::b,h=>by simp at h
 |x::a,[],h=>by simp at h
 |x::a,y::b,h=>by
  simp only[Zqz,List.cons.injEq,WR,PV.tup.injEq] at h
  rw[Jx h.1,Qu h.2]
section
variable {K:W.Frag}{B:Addr->Prop}{EX:PX->Hp->Prop}{H0 H H':Hp}{σ:St}{Γ Γ' Γ1 Γ2 Γ3:List Md}{ρ:List PV}{F F':Nat->List Addr}{R:List Addr}{te:TE}{ta:TA}{f:List PV->Rr PV}{fa:List PV->Rr (List PV)}{k:Kd}
end
theorem Pm.refM2 (m:Pm) {r:Addr->PV->List PV->Rr PV} (h:∀i,m.pre i->∀a b xs,m.enc i=b::xs->r a b xs=ZoM a (m.out i)):∀a b xs,Ref (ZoM a (m.fnM b xs)) (r a b xs):=fun a b xs=>by
 unfold Pm.fnM Pm.fn
 by_cases hx:∃i,m.enc i=b::xs/\m.pre i
 ·rw[dif_pos hx]
  exact .inr (h _ hx.choose_spec.2 a b xs hx.choose_spec.1).symm
 ·rw[dif_neg hx];exact .inl rfl
theorem ZjE:bootBuiltins "sorted"=some (.builtin "sorted"):=by decide +kernel
section
variable {prog:Program}{w:World}{A:Around}{E:Value->Shared->Prop}{s:Shared}
theorem Zhj {a:Addr}{vs:List Value}{n:Nat}{P:PySem.Fin->Shared->Prop} (κ:SortKind) (Rv:Value->Value->Bool) (ho:s.heap.get? a=some (seqObj "list" vs.toArray n)) (hz:vs.length<=1000000)
  (hk:2<=vs.length->∀(s1:Shared) (Q:SortKind->Shared->Prop),(∀b o,b≠a->s.heap.get? b=some o->s1.heap.get? b=some o)->Q κ s1->wpAny (model prog w) A (keyKind' vs.toArray) Q E s1)
  (hc:∀(s1:Shared) x y,x∈vs->y∈vs->(∀b o,b≠a->s.heap.get? b=some o->s1.heap.get? b=some o)->∀C:Bool->Shared->Prop,C (Rv x y) s1->wpAny (model prog w) A (keyLt' κ x y) C (fun _ _=>False) s1)
  (asy:∀x y,x∈vs->y∈vs->Rv x y=true->Rv y x=false) (tr:∀x y z,x∈vs->y∈vs->z∈vs->Rv y x=false->Rv z y=false->Rv z x=false)
  (hq:∀h' c out,(∀b o,b≠a->s.heap.get? b=some o->h'.get? b=some o)->out.Perm vs->out.Pairwise (fun x y=>Rv y x=false)->h'.get? a=some (seqObj "list" (List.toArray out) c)->P (.done (.ret .none)) { s with heap:=h' }) :
  wpAny (model prog w) A (Builtin.«list.sort» ⟨[.ref a],[]⟩) P E s:=by
 have la:a<s.heap.objs.size:=Heap.lt_size ho
 have line:vs.length<=sizeLine:=U4 hz
 obtain⟨e1,ho1⟩:∃c,(s.heap.update a (Obj.mapSeq fun _=>(#[]:Array Value))).get? a=some (seqObj "list" #[] c):=⟨_,get?_update_seq ho _⟩
 rw[list_sort_plain]
 refine wpAny_bind (listItems_at ho rfl (wpAny_bind (listUpdate_at ho rfl (wpAny_bind (seqEpoch_at ho1 rfl (wpAny_bind (wpAny_newTuple (wpAny_bind (wpAny_newList (wpAny_holding ?_) (ZqA _))) ?_)))) ?_ (ZqA _))))
 rotate_left
 ·exact line
 ·rw[Zqu];exact line
 generalize eh:((s.heap.update a (Obj.mapSeq fun _=>(#[]:Array Value))).push (seqObj "tuple" vs.toArray 0)).push (seqObj "list" #[] 0)=h3
 have k3:∀b o,b≠a->s.heap.get? b=some o->h3.get? b=some o:=fun b o nb q=>by
  subst eh
  exact Heap.get?_push_of_some _ (Heap.get?_push_of_some _ ((Heap.get?_update_ne _ _ _ _ nb).trans q))
 have a3:h3.get? a=some (seqObj "list" #[] e1):=by subst eh;exact Heap.get?_push_of_some _ (Heap.get?_push_of_some _ ho1)
 show wpAny _ _ _ P E { s with heap:=h3 }
 have fin:∀(out:List Value) (st:SortSt),(arrOf st).map (·.2)=List.toArray out->failedOf st=none->out.Perm vs->out.Pairwise (fun x y=>Rv y x=false) ->
   wpAny (model prog w) A (do
    let sorted:=(arrOf st).map (·.2)
    let touched:=(<- seqEpoch a) != e1
    Builtin.List.listUpdate (.ref a) fun _=>sorted
    if let some e:=failedOf st then rule "list.sort.comparison-raised";throw e
    if touched then rule "list.sort.modified";raiseError "ValueError" "list modified during sort"
    ret .none) P E { s with heap:=h3 }:=fun out st ho hf hl hout=>by
  dsimp only
  rw[ho,hf]
  obtain⟨c2,hc2⟩:∃c,(h3.update a (Obj.mapSeq fun _=>List.toArray out)).get? a=some (seqObj "list" (List.toArray out) c):=⟨_,get?_update_seq a3 _⟩
  refine wpAny_bind (seqEpoch_at a3 rfl (wpAny_bind (listUpdate_at a3 rfl ?_ (ZqA _) ?_)))
  ·simp only[bne_self_eq_false,Bool.false_eq_true,if_false]
   exact wpAny_pure (hq _ c2 out (fun b o nb q=>(Heap.get?_update_ne _ _ _ _ nb).trans (k3 b o nb q)) hl hout hc2)
  ·show (List.toArray out).size<=_
   rw[Zqu,hl.length_eq];exact Zq3 line (Nat.le_succ _)
 dsimp only
 have zs:((vs.toArray.zip vs.toArray).map (·.2))=vs.toArray:=by
  apply ZrJ.mp
  simp only[ZrK,Array.toList_zip]
  exact List.map_snd_zip (Zqn _)
 by_cases h2:vs.length<2
 ·have e2:vs.toArray.size<2:=by rw[Zqu];exact h2
  rw[if_pos e2,if_pos e2]
  refine wpAny_bind (wpAny_pure (wpAny_bind (wpAny_pure ?_)))
  refine fin vs _ zs rfl (List.Perm.refl _) ?_
  match vs,h2 with
  |[],_=>exact List.Pairwise.nil
  |[x],_=>exact Zr8 _ _
 ·have e2:¬vs.toArray.size<2:=by rw[Zqu];exact h2
  rw[if_neg e2,if_neg e2]
  refine wpAny_bind (hk (by omega) _ _ k3 ?_)
  have zmem:∀x∈vs.toArray.zip vs.toArray,x.1∈vs/\x.1=x.2:=fun x hx=>by
   have hx:x∈vs.zip vs:=by simpa using hx
   obtain⟨i,hi⟩:=Zrb hx
   rw[List.getElem?_zip_eq_some] at hi
   have e:=hi.1.symm.trans hi.2
   exact⟨Zqk hi.1,Option.some.inj e⟩
  have C:QL prog w A { s with heap:=h3 } κ (fun x=>x.1∈vs/\x.1=x.2) (fun x y=>Rv x.1 y.1):=
   ⟨fun x y hx hy Q q=>hc _ _ _ hx.1 hy.1 k3 Q q,fun x y hx hy q=>asy _ _ hx.1 hy.1 q,fun x y z hx hy hz q r=>tr _ _ _ hx.1 hy.1 hz.1 q r⟩
  have run:=ZeI (E:=E) C (st:=SortSt.mk' κ (vs.toArray.zip vs.toArray) #[] 7 none) (Q:=fun _ st'=>failedOf st'=none/\(arrOf st').Perm (vs.toArray.zip vs.toArray)/\Up (fun x y=>Rv x.1 y.1) (arrOf st') 0 (vs.toArray.zip vs.toArray).size) rfl rfl
   (fun i hi=>zmem _ (Array.mem_of_getElem? (Zco hi))) rfl (fun st' k1 k2 k3=>⟨k1,k2,k3⟩)
  refine wpAny_bind (wpAny_mono run ?_ fun _ _ e=>e)
  rintro⟨⟨⟩,st⟩ s' ⟨rfl,hf,hp,hu⟩
  dsimp only at hf hp hu
  have hsz:(arrOf st).size=(vs.toArray.zip vs.toArray).size:=hp.size_eq
  have same:∀x∈(arrOf st).toList,x.1=x.2:=fun x hx=>(zmem x ((Array.Perm.mem_iff hp).mp (by simpa using hx))).2
  refine fin ((arrOf st).toList.map (·.2)) st ?_ hf ?_ ?_
  ·apply ZrJ.mp
   rw[ZrK]
  ·have p1:((arrOf st).toList.map (·.2)).Perm ((vs.toArray.zip vs.toArray).toList.map (·.2)):=(ZrX.mp hp).map _
   have p2:=congrArg Array.toList zs
   rw[ZrK] at p2
   rw[p2] at p1
   simpa using p1
  ·have sr:=hu.srt (Nat.le_of_eq (by rw[ZqY,hsz]))
   rw[Zr0,ZqG (Nat.le_of_eq (by rw[Zqq,hsz]))] at sr
   rw[Zrw]
   refine List.Pairwise.imp_of_mem ?_ sr
   intro x y hx hy q
   rw[<- same x hx,<- same y hy];exact q
theorem ZeQ {l:Addr}{vs:List Value}{Q:Value->Shared->Prop} (κ:SortKind) (Rv:Value->Value->Bool) (hl:s.heap.IsList l vs.toArray) (hz:vs.length<=1000000)
  (hk:2<=vs.length->∀(s1:Shared) (Q:SortKind->Shared->Prop),(∀b o,s.heap.get? b=some o->s1.heap.get? b=some o)->Q κ s1->wpAny (model prog w) A.in1.in1 (keyKind' vs.toArray) Q E s1)
  (hc:∀(s1:Shared) x y,x∈vs->y∈vs->(∀b o,s.heap.get? b=some o->s1.heap.get? b=some o)->∀C:Bool->Shared->Prop,C (Rv x y) s1->wpAny (model prog w) A.in1.in1 (keyLt' κ x y) C (fun _ _=>False) s1)
  (asy:∀x y,x∈vs->y∈vs->Rv x y=true->Rv y x=false) (tr:∀x y z,x∈vs->y∈vs->z∈vs->Rv y x=false->Rv z y=false->Rv z x=false)
  (hq:∀D h' c out,(∀b o,s.heap.get? b=some o->h'.get? b=some o)->s.heap.objs.size<=D->out.Perm vs->out.Pairwise (fun x y=>Rv y x=false)->h'.get? D=some (seqObj "list" (List.toArray out) c)->Q (.ref D) { s with heap:=h' }) :
  wpAny (model prog w) A (call (.builtin "sorted") [.ref l]) Q E s:=by
 refine Calls.call_function_entry kind_sorted plain_sorted entry_sorted (args_sorted1 _) ?_
 unfold Builtin.«sorted»
 have line:vs.length<=sizeLine:=U4 hz
 refine wpAny_bind (m:=checkCount "sorted" 1 1 _) (wpAny_pure (wpAny_bind (collect_list hl (wpAny_bind (wpAny_newList ?_ line)) line)))
 generalize eg:(s.heap.push (seqObj "list" #[] 0)).update s.heap.objs.size (Obj.mapSeq (·++vs.toArray))=h1
 have z1:h1.objs.size=s.heap.objs.size+1:=by subst eg;rw[Heap.size_update,size_push']
 have k1:∀b o,s.heap.get? b=some o->h1.get? b=some o:=fun b o q=>by
  have lb:=Heap.lt_size q
  subst eg
  rw[Heap.get?_update_ne _ _ _ _ (Zq2 lb)]
  exact Heap.get?_push_of_some _ q
 have hD:(h1.push (seqObj "list" vs.toArray 0)).get? h1.objs.size=some (seqObj "list" vs.toArray 0):=Heap.get?_push_size _ rfl
 show wpAny _ _ _ _ _ { s with heap:=h1.push (seqObj "list" vs.toArray 0) }
 have up:∀(h2:Heap),(∀b o,b≠h1.objs.size->(h1.push (seqObj "list" vs.toArray 0)).get? b=some o->h2.get? b=some o)->∀b o,s.heap.get? b=some o->h2.get? b=some o:=fun h2 k b o q =>
  k b o (Zq2 (by rw[z1];exact Zsb (Heap.lt_size q))) (Heap.get?_push_of_some _ (k1 b o q))
 refine wpAny_bind (wpAny_holding (wpAny_call_entry slot_list_sort ⟨_,hD,rfl⟩ entry_list_sort (Zhj (s:={ s with heap:=h1.push (seqObj "list" vs.toArray 0) }) κ Rv hD hz (fun h2 s1 Q k q=>hk h2 s1 Q (up _ k) q) (fun s1 x y hx hy k C q=>hc s1 x y hx hy (up _ k) C q) asy tr fun h' c out k p1 p2 e=>?_) (args_list_sort _)))
 exact⟨_,rfl,wpAny_pure ⟨_,rfl,hq _ h' c out (up _ k) (by rw[z1];exact Nat.le_succ _) p1 p2 e⟩⟩
end
noncomputable def ZpT:Value->Int
 |.int i _=>i
 |_=>0
theorem QQ:∀{ns:List Int}{us:List Value},YO (ns.map V.int) us->us.map ZpT=ns/\∀u∈us,∃i t,u=Value.int i t
 |[],_,.nil=>⟨rfl,by simp⟩
 |n::ns,_,.cons (b:=u) r rr=>by
  obtain⟨t,rfl⟩:=r
  obtain⟨h1,h2⟩:=QQ rr
  refine⟨by rw[Zqz,h1];rfl,fun v hv=>?_⟩
  rcases Zqw.mp hv with rfl|hv
  ·exact⟨n,t,rfl⟩
  ·exact h2 v hv
section
variable {X:Cx}
end
section
variable {K:W.Frag}{EX:PX->Hp->Prop}{Γ Γ':List Md}{ta:TA}{fa:List PV->Rr (List PV)}
end
section
variable {K:W.Frag}{EX:PX->Hp->Prop}{Γ Γ1 Γ2:List Md}{ta tb:TE}{fa fb:List PV->Rr PV}
noncomputable abbrev ZpB:PV->PV->Rr PV:=oI (fun i j=>decide (0<=j)) fun i j=>.int (i/2^j.toNat)
theorem Zoh (ha:DE K EX Γ Γ1 .A ta fa) (hb:DE K EX Γ1 Γ2 .A tb fb):DE K EX Γ Γ2 .P (tOp (rI (fun _ j=>0<=j) fun i j=>.int (i/2^j.toNat)) ta tb) (fun ρ=>(fa ρ).bind fun x=>(fb ρ).bind fun y=>ZpB x y):=Zjp (fun _ _ h=>of_decide_eq_true h) (fun _ _ _=>rfl) (fun _ _=>rfl) ha hb
theorem Zi8 {i j:Int} (h1:0<=j):ZpB (.int i) (.int j)=.ok (.int (i/2^j.toNat)):=ZdN (decide_eq_true h1)
end
noncomputable def ZmV (x:List Int):List (List Int)->List (List Int)
 |[]=>[x]
 |y::l=>if HT.YC y x=true then y::ZmV x l else x::y::l
noncomputable def ZjM:List (List Int)->List (List Int)
 |[]=>[]
 |x::l=>ZmV x (ZjM l)
noncomputable abbrev UpU (l:List (List Int)):Prop:=l.Pairwise fun a b=>HT.YC b a=false
theorem Zb1 (x:List Int):∀l,(ZmV x l).Perm (x::l)
 |[]=>List.Perm.refl _
 |y::l=>by
  unfold ZmV
  split
  ·exact((Zb1 x l).cons y).trans (List.Perm.swap x y l)
  ·exact List.Perm.refl _
theorem WS:∀l,(ZjM l).Perm l
 |[]=>List.Perm.refl _
 |x::l=>(Zb1 x _).trans ((WS l).cons x)
theorem Za1 {a b c:List Int} (h1:HT.YC b a=false) (h2:HT.YC c b=false):HT.YC c a=false:=by
 cases h:HT.YC c a with
 |false=>rfl
 |true =>
  exfalso
  cases h3:HT.YC a b with
  |true=>rw[HL.Jr h h3] at h2;cases h2
  |false=>rw[HL.Js h3 h1] at h;rw[h] at h2;cases h2
theorem ZdO {a b:List Int} (h:HT.YC a b=true):HT.YC b a=false:=by
 cases h2:HT.YC b a with
 |false=>rfl
 |true=>have:=HL.Jr h h2;rw[HL.Jb] at this;cases this
theorem ZiZ {x:List Int}:∀{l:List (List Int)},UpU l->UpU (ZmV x l)
 |[],_=>Zr8 _ _
 |y::l,h=>by
  obtain⟨h1,h2⟩:=Zrl.mp h
  unfold ZmV
  split
  ·rename_i e
   refine Zrl.mpr ⟨fun z hz=>?_,ZiZ h2⟩
   rcases Zqw.mp ((Zb1 x l).mem_iff.mp hz) with rfl|hz
   ·exact ZdO e
   ·exact h1 z hz
  ·rename_i e
   have e:=Bool.eq_false_iff.mpr e
   refine Zrl.mpr ⟨fun z hz=>?_,h⟩
   rcases Zqw.mp hz with rfl|hz
   ·exact e
   ·exact Za1 e (h1 z hz)
theorem Zif:∀l,UpU (ZjM l)
 |[]=>List.Pairwise.nil
 |x::l=>ZiZ (Zif l)
theorem Zgc:∀{l m:List (List Int)},UpU l->UpU m->l.Perm m->l=m
 |[],m,_,_,p=>(List.nil_perm.mp p).symm
 |x::l,[],_,_,p=>absurd (List.perm_nil.mp p) (by simp)
 |x::l,y::m,h1,h2,p=>by
  obtain⟨a1,a2⟩:=Zrl.mp h1
  obtain⟨b1,b2⟩:=Zrl.mp h2
  have e:x=y:=by
   have hx:x∈y::m:=p.mem_iff.mp (by simp)
   have hy:y∈x::l:=p.mem_iff.mpr (by simp)
   rcases Zqw.mp hx with z|z
   ·exact z
   ·rcases Zqw.mp hy with z'|z'
    ·exact z'.symm
    ·exact HL.Js (b1 x z) (a1 y z')
  subst e
  rw[Zgc a2 b2 (List.perm_cons _ |>.mp p)]
noncomputable def Zaq (ts:List PL2) (a:Addr):List Int:=((ts.find? fun t=>decide (t.1=a)).map (·.2)).getD []
theorem Zdk {ts:List PL2} (hu:∀t∈ts,∀t'∈ts,t.1=t'.1->t.2=t'.2) {t:PL2} (ht:t∈ts):Zaq ts t.1=t.2:=by
 unfold Zaq
 cases hf:ts.find? fun q=>decide (q.1=t.1) with
 |none=>exact absurd (decide_eq_true rfl) (List.find?_eq_none.mp hf t ht)
 |some q =>
  have h1:=List.find?_some hf
  have h2:=List.mem_of_find?_eq_some hf
  exact hu q h2 t ht (of_decide_eq_true h1)
noncomputable def Zc1:Value->Addr
 |.ref a=>a
 |_=>0
theorem Zd2:∀{ts:List PL2}{us:List Value},YO (ts.map fun t=>V.ref t.1) us->us=ts.map fun t=>Value.ref t.1
 |[],_,.nil=>rfl
 |t::ts,_,.cons r rr=>by
  have r:_=Value.ref t.1:=r
  rw[r,Zd2 rr];rfl
theorem ZdB:∀(ts:List PL2),YO (ts.map fun t=>V.ref t.1) (ts.map fun t=>Value.ref t.1)
 |[]=>.nil
 |t::ts=>.cons rfl (ZdB ts)
section
variable {X:Cx}
def Zir (K:W.Frag):List V->Hp->VK->Prop:=fun xs H Q=>∃p,∃ts:List PL2,xs=[.ref p]/\SqL K H p (ts.map fun t=>V.ref t.1) /\
  (∀t∈ts,SqT K H t.1 (t.2.map V.int)/\t.2≠[])/\ts.length<=1000000/\∀l,H l=none->∀qs:List PL2,qs.Perm ts->UpU (qs.map (·.2))->Q (.ref l) (upd H l (.lst (qs.map fun t=>V.ref t.1)))
theorem ZhD:Vv X (.builtin "sorted") (Zir X.K):=by
 intro pins s σ H xs us Q I r h
 obtain⟨p,ts,rfl,hq,hall,hz0,q⟩:=h
 obtain⟨u,rfl,rx⟩:=Zc3 r
 cases rx
 obtain⟨its,r',pl,hz⟩:=I.list hq
 have hits:=Zd2 r'
 subst hits
 have tup:∀(s1:Shared),(∀b o,s.heap.get? b=some o->s1.heap.get? b=some o)->∀t∈ts,∃vs:List Value,YO (t.2.map V.int) vs/\IsTup s1.heap t.1 vs.toArray:=fun s1 k t ht=>by
  have I':Inv X pins σ H { s with heap:=s1.heap,toks:=s1.toks }:=I.kept k
  obtain⟨vs,rv,pt,_⟩:=I'.tuple (hall t ht).1
  exact⟨vs,rv,pt⟩
 have hu:∀t∈ts,∀t'∈ts,t.1=t'.1->t.2=t'.2:=fun t ht t' ht' e=>by
  obtain⟨vs,rv,ob,eo,oc,k1,od⟩:=tup s (fun _ _ h=>h) t ht
  obtain⟨vs',rv',ob',eo',oc',k1',od'⟩:=tup s (fun _ _ h=>h) t' ht'
  rw[e,eo'] at eo
  cases eo
  rw[od] at od'
  have e2:vs.toArray=vs'.toArray:=by injection od'
  have e3:vs=vs':=by simpa using e2
  subst e3
  rw[<- (QQ rv).1,<- (QQ rv').1]
 refine ZeQ (tuples' true) (fun x y=>HT.YC (Zaq ts (Zc1 x)) (Zaq ts (Zc1 y))) pl.isList (by simpa using hz0) (fun h2 s1 Q' k q'=>?_) (fun s1 x y hx hy k C q'=>?_) (fun x y _ _ h=>ZdO h) (fun x y z _ _ _ h1 h2=>Za1 h1 h2) fun D h' c out k hD p1 p2 e=>?_
 ·have:∀(ts:List PL2) (its:List Value),(∀t∈ts,t.2≠[]/\∃vs:List Value,YO (t.2.map V.int) vs/\IsTup s1.heap t.1 vs.toArray)->YO (ts.map fun t=>V.ref t.1) its->∃fs:List Value,fs.length=ts.length/\PySem.W.KatTups s1.heap its fs/\∀v∈fs,∃n t,v=Value.int n t:=by
   intro ts
   induction ts with
   |nil =>
    intro its _ rv
    cases rv
    exact⟨[],rfl,trivial,by simp⟩
   |cons t ts ih =>
    intro its ht rv
    cases rv with
    |cons rv tv =>
     obtain⟨fs,e1,e2,e3⟩:=ih _ (fun t' h'=>ht t' (ZqB _ h')) tv
     obtain⟨hne,vs,rvs,ob,eo,oc,k,od⟩:=ht t (Zrf ..)
     obtain⟨n,ns,en⟩:=Zry hne
     rw[en] at rvs
     cases rvs with
     |cons rn tn =>
      obtain⟨tk,rfl⟩:=rn
      have rv':_=Value.ref t.1:=rv
      subst rv'
      exact⟨.int n tk::fs,by simp[e1],⟨⟨t.1,ob,_,k,rfl,eo,oc,od,rfl⟩,e2⟩,fun v hv=>(Zqw.mp hv).elim (fun z=>⟨n,tk,z⟩) (e3 v)⟩
  obtain⟨fs,e1,e2,e3⟩:=this ts _ (fun t ht=>⟨(hall t ht).2,tup s1 k t ht⟩) r'
  exact PySem.W.kat_kind (T:=.type "int") e2 (by rw[e1];simp at h2;omega) (fun v hv=>by obtain⟨n,t,rfl⟩:=e3 v hv;exact PySem.W.Looks.of_pure rfl) rfl q'
 ·obtain⟨t,ht,rfl⟩:=Zq4.mp hx
  obtain⟨t',ht',rfl⟩:=Zq4.mp hy
  obtain⟨vs,rv,ob,eo,oc,k1,od⟩:=tup s1 k t ht
  obtain⟨vs',rv',ob',eo',oc',k1',od'⟩:=tup s1 k t' ht'
  refine PySem.W.kat_lt eo od eo' od' (ZgG rv rv' ?_ ?_)
  ·simp
  ·rw[show Zc1 (.ref t.1)=t.1 from rfl,show Zc1 (.ref t'.1)=t'.1 from rfl,Zdk hu ht,Zdk hu ht'] at q'
   exact q'
 ·have ho:∀u∈out,∃t∈ts,u=Value.ref t.1:=fun u hu=>by
   obtain⟨t,ht,e⟩:=Zq4.mp (p1.mem_iff.mp hu)
   exact⟨t,ht,e.symm⟩
  have hp:(out.map fun v=>((Zc1 v,Zaq ts (Zc1 v)):PL2)).Perm ts:=by
   have h1:=p1.map fun v=>((Zc1 v,Zaq ts (Zc1 v)):PL2)
   rw[ZqW] at h1
   have h2:ts.map ((fun v=>((Zc1 v,Zaq ts (Zc1 v)):PL2))∘fun t=>Value.ref t.1)=ts:=by
    have:ts.map ((fun v=>((Zc1 v,Zaq ts (Zc1 v)):PL2))∘fun t=>Value.ref t.1)=ts.map id:=ZrT fun t ht=>by
     show ((t.1,Zaq ts t.1):PL2)=t
     rw[Zdk hu ht]
    rw[this,List.map_id]
   rw[h2] at h1
   exact h1
  have hup:UpU ((out.map fun v=>((Zc1 v,Zaq ts (Zc1 v)):PL2)).map (·.2)):=by
   rw[ZqW]
   exact Zrw.mpr (p2.imp fun h=>h)
  have hout:out=(out.map fun v=>((Zc1 v,Zaq ts (Zc1 v)):PL2)).map fun t=>Value.ref t.1:=by
   rw[ZqW]
   have:out.map ((fun(t:PL2)=>Value.ref t.1)∘fun v=>((Zc1 v,Zaq ts (Zc1 v)):PL2))=out.map id:=ZrT fun u hu=>by
    obtain⟨t,ht,rfl⟩:=ho u hu
    rfl
   rw[this,List.map_id]
  generalize (out.map fun v=>((Zc1 v,Zaq ts (Zc1 v)):PL2))=qs at hp hup hout
  have I1:Inv X pins σ (upd H D (.lst (qs.map fun t=>V.ref t.1))) { s with heap:=h' }:=by
   refine I.laid (t':=s.toks) k hD ⟨?_,_,c, ?_,e⟩
   ·rw[Zqt,hp.length_eq];exact U4 hz0
   ·rw[hout];exact ZdB qs
  exact⟨.ref D,_,I1,rfl,q D (I.hok.fresh hD) qs hp hup⟩
theorem ZfF {K:W.Frag} (e:X.K=K:=by rfl):Vv X (.builtin "sorted") (Zir K):=by subst e;exact ZhD
end
def OkU (ts:List (List Int)):Prop:=(∀t∈ts,t≠[])/\ts.length<=1000000
open Classical in
noncomputable def Zg0 (xs:List PV):Rr PV:=if h:∃ts:List (List Int),xs=[.lst (ts.map WR)]/\OkU ts then newF ((ZjM h.choose).map WR) else .bad
theorem Zi7 {ts:List (List Int)} (h:OkU ts):Zg0 [.lst (ts.map WR)]=newF ((ZjM ts).map WR):=by
 have hex:∃us:List (List Int),[PV.lst (ts.map WR)]=[.lst (us.map WR)]/\OkU us:=⟨ts,rfl,h⟩
 unfold Zg0
 rw[dif_pos hex]
 have hs:ts.map WR=hex.choose.map WR:=PV.lst.inj (List.cons.inj hex.choose_spec.1).1
 have e:hex.choose=ts:=(Qu hs).symm
 rw[e]
section
variable {K:W.Frag}{B:Addr->Prop}{EX:PX->Hp->Prop}{H0 H H':Hp}{σ:St}{Γ Γ' Γ1 Γ2 Γ3:List Md}{ρ:List PV}{F F':Nat->List Addr}{R:List Addr}{te:TE}{ta:TA}{f:List PV->Rr PV}{fa:List PV->Rr (List PV)}{k:Kd}
theorem Zcd {S:Addr->Prop}:∀{ts:List (List Int)}{vs:List V},ZS K H S (ts.map WR) vs->∃qs:List PL2,vs=(qs.map fun t=>V.ref t.1)/\(qs.map fun t=>t.2)=ts/\∀t∈qs,SqT K H t.1 (t.2.map V.int)/\Rep K H S (WR t.2) (V.ref t.1)
 |[],vs,h=>⟨[],h,rfl,by simp⟩
 |ns::ts,vs,h=>by
  obtain⟨v,r,rfl,h1,h2⟩:=h
  obtain⟨qs,rfl,e2,e3⟩:=Zcd h2
  have h1':=h1
  obtain⟨a,ws,rfl,hn,hr⟩:=h1
  have:=Zbc hr
  subst this
  refine⟨(a,ns)::qs,rfl,by rw[Zqz,e2],fun t ht=>?_⟩
  rcases Zqw.mp ht with rfl|ht
  ·exact⟨hn.sqT,h1'⟩
  ·exact e3 t ht
theorem Zim {S:Addr->Prop}:∀{qs:List PL2},(∀t∈qs,Rep K H S (WR t.2) (V.ref t.1))->ZS K H S ((qs.map (·.2)).map WR) (qs.map fun t=>V.ref t.1)
 |[],_=>rfl
 |t::qs,h=>⟨_,_,rfl,h t (Zrf ..),Zim fun q hq=>h q (ZqB _ hq)⟩
theorem ZkI (ha:DAA K EX Γ Γ' ta fa):DE K EX Γ Γ' .F (tCB (Zir K) ta) (fun ρ=>(fa ρ).bind Zg0):=fun B H0 H σ ρ F R Q A d=>by
 refine ha B H0 H σ ρ F R _ A (d.bind.imp (fun xs _ d vs H1 F1 s1 f1 p1 A1=>?_) fun e q=>q)
 unfold Zg0 at d
 split at d
 ·rename_i hex
  have hs:=hex.choose_spec
  generalize hex.choose=ts at d hs
  obtain⟨rfl,hne,hl⟩:=hs
  obtain⟨h1,h2,d⟩:=Dn.newF d
  obtain⟨v,rfl,a,ws,rfl,hn,hr⟩:=Za8 p1
  obtain⟨qs,rfl,rfl,e3⟩:=Zcd hr
  refine⟨a,qs,rfl,UA (S:=fun _=>True) hn,fun t ht=>⟨(e3 t ht).1,hne _ (List.mem_map_of_mem ht)⟩,by simpa using hl,fun l hz zs hp hup=>?_⟩
  have e:ZjM (qs.map (·.2))=zs.map (·.2):=Zgc (Zif _) hup ((WS _).trans (hp.map (·.2)).symm)
  have pr:=Zim (K:=K) (H:=H1) (S:=fun _=>True) (qs:=zs) fun t ht=>(e3 t (hp.mem_iff.mp ht)).2
  rw[<- e] at pr
  exact d _ _ (s1.trans (Z4.new hz)) (Res.newP s1 f1 pr h1 A1 hz)
 ·exact d.elim
end
def ZhJ (h:Heap) (d:Addr) (es:Array DictEntry) (ep:Nat):Prop:=∃o,h.get? d=some o/\o.ExactDict/\o.data=.dict es ep
theorem ZhJ.at {h h':Heap}{d:Addr}{es:Array DictEntry}{ep:Nat} (x:ZhJ h d es ep) (k:∀o,h.get? d=some o->h'.get? d=some o):ZhJ h' d es ep:=by
 obtain⟨o,e,r⟩:=x
 exact⟨o,k o e,r⟩
section
variable {prog:Program}{w:World}{A:Around}{E:Value->Shared->Prop}{s:Shared}{d it:Addr}{es:Array DictEntry}{ep:Nat}
theorem ZhJ.ty (x:ZhJ s.heap d es ep):s.TypeIs (.ref d) "dict":=by
 obtain⟨o,e,r,_⟩:=x
 exact⟨o,e,r.1⟩
theorem Zkd {Q:Value->Shared->Prop} (nm:(d==sysModules)=false) (x:ZhJ s.heap d es ep)
  (q:Q (.ref s.heap.objs.size) { s with heap:=s.heap.push { cls:=.type "dict_keyiterator",data:=.fields #[.ref d,.int 0 0,.int es.size 0,.int ep 0] } }):wpAny (model prog w) A (pyIter (.ref d)) Q E s:=by
 have ty:=x.ty
 obtain⟨o,e1,e2,e3⟩:=x
 refine wpAny_pyIter_slot ty F.slot_dict_iter (wpAny_call_entry F.slot_dict_iter ty F.entry_dict_iter (by
  unfold Builtin.«dict.__iter__»
  refine wpAny_bind (by
   unfold Builtin.Dict.dictSlotNone
   refine wpAny_bind (wpAny_notOrdered_dict ty (by
    show wpAny _ _ (pure (Value.ref d)) _ _ s
    refine wpAny_pure (by
     show wpAny _ _ (Builtin.Dict.showsAll d >>= _) _ _ s
     unfold Builtin.Dict.showsAll
     rw[if_neg (by rw[nm];exact Bool.false_ne_true)]
     refine wpAny_bind (wpAny_pure (wpAny_bind (wpAny_dictEntries e1 e3 (wpAny_bind (wpAny_dictEpoch e1 e3 (wpAny_bind (wpAny_newObj_type (wpAny_pure ⟨_,rfl, "dict_keyiterator",_,⟨_,Heap.get?_push_size _ rfl,rfl⟩,F.slot_dict_keyiterator_next.lookup, ?_⟩))))))))
     simpa[rawInt] using q))))) (F.args_dict_iter_1 _))
theorem Zke {i:Nat}{Q:Option Value->Shared->Prop} (hi:s.heap.IsKeyIter it d i es.size ep) (x:ZhJ s.heap d es ep) (hx:i<es.size)
  (q:∀h',h'.IsKeyIter it d (i+1) es.size ep->Heap.SameBut it s.heap h'->Q (some es[i].key) { s with heap:=h' }):wpAny (model prog w) A (pyNext (.ref it)) Q E s:=by
 have ty:=hi.typeIs
 obtain⟨o,e1,e2,e3⟩:=id hi
 obtain⟨u,u1,u2,u3⟩:=x
 unfold pyNext
 refine wpAny_bind (wpAny_attempt (wpAny_callSpecial?_slot (name:=Str.ofString "__next__") ty F.slot_dict_keyiterator_next (wpAny_call_entry F.slot_dict_keyiterator_next ty F.entry_dict_keyiterator_next (by
  refine wpAny_bind (wpAny_pure (wpAny_bind (wpAny_bind (by
   first
    |refine wpAny_bind (wpAny_typeNameOfWhole_keyiter ty (wpAny_pure (wpAny_bind (wpAny_fieldsOf e1 e3 ?_))))
    |refine wpAny_bind (wpAny_typeNameOf_keyiter ty (wpAny_pure (wpAny_bind (wpAny_fieldsOf e1 e3 ?_))))
   have n1:Builtin.Dict_items.ownsTuple "dict_keyiterator"=false:=by decide
   simp only[n1,Bool.false_eq_true,if_false]
   show wpAny _ _ (if (Value.ref d==Value.none)=true then _ else _) _ _ s
   rw[if_neg (show ¬((Value.ref d==Value.none)=true) from Bool.false_ne_true)]
   refine wpAny_bind (wpAny_pure (wpAny_bind (wpAny_dictEntries u1 u3 ?_)))
   rw[if_neg (by simp)]
   refine wpAny_bind (wpAny_pure (wpAny_bind (wpAny_dictEpoch u1 u3 ?_)))
   rw[if_neg (by simp)]
   refine wpAny_pure ?_
   simp only[show ¬((i:Int)<0) from by omega,if_false,Zq6,Zr1 hx]
   have hit':(s.heap.update it (Obj.mapFields (·.setIfInBounds 1 (rawInt ((i:Int)+1))))).IsKeyIter it d (i+1) es.size ep:=⟨_,Heap.get?_update_self _ e1 (Obj.isFreed_of_fields (Obj.data_mapFields e3 _)),(Obj.cls_mapFields ..).trans e2,by rw[Obj.data_mapFields e3];simp[rawInt]⟩
   refine wpAny_bind (by
    first
     |refine wpAny_bind (wpAny_typeNameOfWhole_keyiter ty (wpAny_pure (wpAny_bind (wpAny_isOneOf_keyiter ty ?_))))
     |refine wpAny_bind (wpAny_typeNameOf_keyiter ty (wpAny_pure (wpAny_bind (wpAny_isOneOf_keyiter ty ?_))))
    show wpAny _ _ (setField (.ref it) 1 (rawInt ((i:Int)+1)) >>= _) _ _ s
    refine wpAny_bind (wpAny_setField e1 e3 (by simp) (wpAny_bind (wpAny_holding (wpAny_bind (wpAny_isOneOf_keyiter (s:={ s with heap:=s.heap.update it (Obj.mapFields (·.setIfInBounds 1 (rawInt ((i:Int)+1)))) }) hit'.typeIs (by
     show wpAny _ _ (pure es[i].key) _ _ _
     exact wpAny_pure (wpAny_pure ⟨_,rfl,wpAny_pure (q _ hit' (Heap.SameBut.update ..))⟩))))))))))))) (F.args_dict_keyiterator_next_1 _))))
theorem ZlY {Q:Option Value->Shared->Prop} (hh:A.handled=none) (hi:s.heap.IsKeyIter it d es.size es.size ep) (x:ZhJ s.heap d es ep)
  (q:∀h',Heap.ExtBut it s.heap h'->Q none { s with heap:=h' }):wpAny (model prog w) A (pyNext (.ref it)) Q E s:=by
 have ty:=hi.typeIs
 obtain⟨o,e1,e2,e3⟩:=id hi
 obtain⟨u,u1,u2,u3⟩:=x
 unfold pyNext
 refine wpAny_bind (wpAny_attempt (wpAny_callSpecial?_slot (name:=Str.ofString "__next__") ty F.slot_dict_keyiterator_next (wpAny_call_entry F.slot_dict_keyiterator_next ty F.entry_dict_keyiterator_next (by
  refine wpAny_bind (wpAny_pure (wpAny_bind (wpAny_bind (by
   first
    |refine wpAny_bind (wpAny_typeNameOfWhole_keyiter ty (wpAny_pure (wpAny_bind (wpAny_fieldsOf e1 e3 ?_))))
    |refine wpAny_bind (wpAny_typeNameOf_keyiter ty (wpAny_pure (wpAny_bind (wpAny_fieldsOf e1 e3 ?_))))
   have n1:Builtin.Dict_items.ownsTuple "dict_keyiterator"=false:=by decide
   simp only[n1,Bool.false_eq_true,if_false]
   show wpAny _ _ (if (Value.ref d==Value.none)=true then _ else _) _ _ s
   rw[if_neg (show ¬((Value.ref d==Value.none)=true) from Bool.false_ne_true)]
   refine wpAny_bind (wpAny_pure (wpAny_bind (wpAny_dictEntries u1 u3 ?_)))
   rw[if_neg (by simp)]
   refine wpAny_bind (wpAny_pure (wpAny_bind (wpAny_dictEpoch u1 u3 ?_)))
   rw[if_neg (by simp)]
   refine wpAny_pure ?_
   simp only[show ¬((es.size:Int)<0) from by omega,if_false,Zq6,ZrB (Zqn es.size)]
   refine wpAny_bind (by
    first
     |refine wpAny_bind (wpAny_typeNameOfWhole_keyiter ty (wpAny_pure ?_))
     |refine wpAny_bind (wpAny_typeNameOf_keyiter ty (wpAny_pure ?_))
    show wpAny _ _ (setField (.ref it) 0 .none >>= _) _ _ s
    refine wpAny_bind (wpAny_setField e1 e3 (by simp) ?_)
    show wpAny _ _ (newExc (.type "StopIteration") [] >>= _) _ _ _
    refine wpAny_bind ?_
    simp only[newExc,newTuple]
    refine wpAny_bind (wpAny_newObj_type (wpAny_bind (m:=firstArgMember _ _) (wpAny_of_eq (a:=Value.none) (by first|rfl|(simp only[firstArgMember];rfl)) ?_)) (by size_fits))
    refine wpAny_newObj_type ?_ (by size_fits)
    simp only[raiseNew]
    refine wpAny_bind (wpAny_handled ?_)
    rw[show A.in1.handled=none from hh]
    refine wpAny_bind (wpAny_pure (wpAny_throw ?_));refine wpAny_bind (wpAny_isInstance (T := "StopIteration") (b:=true) ⟨_,Heap.get?_push_size _ rfl,rfl⟩ isSubtype_stop ?_);exact wpAny_pure (q _ (((Heap.SameBut.update ..).extBut.push _).push _)))))))) (F.args_dict_keyiterator_next_1 _))))
theorem ZhW (hh:A.handled=none) (I:Addr) (ne:d≠I):Walks prog w A I [I,d] [I] es.size (fun i v=>(es.map (·.key))[i]?=some v) (fun i h=>h.IsKeyIter I d i es.size ep/\ZhJ h d es ep) where
 sub b hb:=by simp at hb;simp[hb]
 frame _ _ _ st k:=⟨st.1.at fun o e=>k I (by simp) o e,st.2.at fun o e=>k d (by simp) o e⟩
 item i s Q E hi st q:=Zke st.1 st.2 hi fun h' st' sb=>q _ h' s.toks (by simp[hi]) ⟨st',st.2.at fun o e=>(sb.2 d ne).trans e⟩ fun b o hb e=>(sb.2 b (fun z=>hb (by simp[z]))).trans e
 done s Q E st q:=ZlY hh st.1 st.2 fun h' eb=>q h' s.toks fun b o hb e=>eb b o (fun z=>hb (by simp[z])) e
 self _ _ _ _ st q:=wpAny_pyIter_keyiter st.1 q
theorem Zk4 {Q:Bool->Shared->Prop} (nm:(d==sysModules)=false) (x:ZhJ s.heap d es ep) (hz:es.size<=1000000) (q:∀b tk,Q b { s with toks:=tk }):wpAny (model prog w) A (Builtin.List.listLengthHint (.ref d)) Q E s:=by
 have ty:=x.ty
 unfold Builtin.List.listLengthHint
 refine wpAny_bind (wpAny_specialOf ty F.slot_dict_len.lookup ?_)
 generalize hid:("dict.__len__":String)=nm0
 wp_delta
 rw[show splitId nm0=some ("dict", "__len__") from by subst hid;decide +kernel]
 subst hid
 exact wpAny_bind (wpAny_isInstance (T := "dict") (b:=true) ty (by rw[isSubtype_type];kernel_rfl) (wpAny_ite_split (fun z=>absurd z (by decide)) (fun _=>wpAny_ite_split (fun _=>wpAny_bind (wpAny_typeOf ty (wpAny_pure (q _ s.toks)))) (fun z=>absurd (by decide +kernel) z))))
end
section
variable {prog:Program}{w:World}{A:Around}{E:Value->Shared->Prop}{s:Shared}{d:Addr}{es:Array DictEntry}{ep:Nat}
theorem Zh5 {R:Result->Shared->Prop} (hh:A.handled=none) (nm:(d==sysModules)=false) (x:ZhJ s.heap d es ep) (hz:es.size<=1000000) (S:Addr) (res:Value) (c0:Nat) (hS:s.heap.get? S=some { cls:=.type "list",data:=.seq #[] c0 })
  (q:∀h' tk acc c',(∀b o,b≠S->s.heap.get? b=some o->h'.get? b=some o)->h'.get? S=some { cls:=.type "list",dict:=none,data:=.seq acc c',slots:=#[] } ->
   ItemsOf (fun i v=>(es.map (·.key))[i]?=some v) acc es.size->R (.ok (.ret res)) { s with heap:=h',toks:=tk }) :
  wpAny (model prog w) A.in1 (Builtin.List.listExtendWith (.ref S) (.ref d) res) (fun fin s'=>match fin with|.done f=>R (.ok f) s'|.again c'=>c'.quiet=true/\codeAny (model prog w) A c' R s') (fun e s'=>R (.error e) s') s:=by
 have ty:=x.ty
 have dne:S≠d:=fun e=>by
  obtain⟨o,e1,e2,e3⟩:=x
  rw[e,e1] at hS
  cases hS
  cases e3
 have sne:S≠s.heap.objs.size:=Zq2 (Heap.lt_size hS)
 have dI:d≠s.heap.objs.size:=by
  obtain⟨o,e1,_⟩:=x
  exact Zq2 (Heap.lt_size e1)
 have W:=(ZhW (prog:=prog) (w:=w) (A:=A.in1) (es:=es) (ep:=ep) hh s.heap.objs.size dI).toS
 have go:∀(h:Heap) (c1 tk:Nat),h.IsKeyIter s.heap.objs.size d 0 es.size ep->ZhJ h d es ep->(∀b o,b≠S->s.heap.get? b=some o->h.get? b=some o) ->
   h.get? S=some { cls:=.type "list",data:=.seq #[] c1 }->codeAny (model prog w) A (.builtin "list.extend.loop" ⟨[.ref S,.ref s.heap.objs.size,res],[]⟩) R { s with heap:=h,toks:=tk }:=fun h c1 tk st st2 k hS1=>by
  refine codeAny_extend_loopS W (by rw[sizeLine_eq];omega) S (by simp[sne,dne]) res es.size 0 _ #[] c1 rfl (ZqA _) ⟨st,st2⟩ hS1 (ItemsOf.nil _) fun s' acc' c' hm hS' hacc=>?_
  rw[Moved.eq_with hm]
  refine q s'.heap s'.toks acc' c' (fun b o hb e=>hm.heap b o (fun z=>?_) (k b o hb e)) hS' hacc
  rcases Zqw.mp z with z|z
  ·exact hb z
  ·exact absurd (Heap.lt_size e) (by rw[Zq0.mp z];exact ZqP _)
 unfold Builtin.List.listExtendWith
 refine wpAny_bind (wpAny_typeOf ty ?_)
 simp only[show Builtin.List.listSameRef (.ref S) (.ref d)=false by simp[Builtin.List.listSameRef,dne],show (Value.type "dict" == Value.type "list")=false by decide,show (Value.type "dict" == Value.type "tuple")=false by decide,Bool.or_false,Bool.false_eq_true,if_false]
 have p1:∀(ob:Obj) b o,s.heap.get? b=some o->(s.heap.push ob).get? b=some o:=fun ob b o e=>Heap.get?_push_of_some _ e
 refine wpAny_bind (Zkd nm x (wpAny_bind (wpAny_holding (Zk4 nm (x.at fun o e=>p1 _ _ _ e) hz fun bb tk=>?_))))
 have it0:(s.heap.push { cls:=.type "dict_keyiterator",data:=.fields #[.ref d,.int 0 0,.int es.size 0,.int ep 0] }).IsKeyIter s.heap.objs.size d 0 es.size ep:=⟨_,Heap.get?_push_size _ rfl,rfl,rfl⟩
 have S1:=p1 { cls:=.type "dict_keyiterator",data:=.fields #[.ref d,.int 0 0,.int es.size 0,.int ep 0] } S _ hS
 refine wpAny_ite_split (fun _=>wpAny_bind (wpAny_rule (wpAny_bind ?_))) (fun _=>wpAny_pure ⟨plainId_quiet F.plain_extend_loop _,go _ c0 _ it0 (x.at fun o e=>p1 _ _ _ e) (fun b o _ e=>p1 _ b o e) S1⟩)
 show wpAny _ _ (updateSeq S (·.push .none) >>= fun _=>updateSeq S (·.pop)) _ _ _
 have S2:=Heap.get?_update_self (Obj.mapSeq (·.push Value.none)) S1 rfl
 have S3:=Heap.get?_update_self (Obj.mapSeq (·.pop)) S2 rfl
 have oth:∀(h:Heap) f b o,b≠S->h.get? b=some o->(h.update S f).get? b=some o:=fun h f b o hb e=>(Heap.get?_update_other _ _ (Ne.symm hb)).trans e
 exact wpAny_bind (wpAny_updateSeq S1 rfl (wpAny_updateSeq (hz:=by seq_fits) S2 rfl (wpAny_pure ⟨plainId_quiet F.plain_extend_loop _,go _ _ _ (it0.at fun o e=>oth _ _ _ _ (Ne.symm sne) (oth _ _ _ _ (Ne.symm sne) e)) (x.at fun o e=>oth _ _ _ _ (Ne.symm dne) (oth _ _ _ _ (Ne.symm dne) (p1 _ _ _ e))) (fun b o hb e=>oth _ _ _ _ hb (oth _ _ _ _ hb (p1 _ _ _ e))) S3⟩)))
theorem Zk0 {Q:Value->Shared->Prop} (hh:A.handled=none) (nm:(d==sysModules)=false) (x:ZhJ s.heap d es ep) (hz:es.size<=1000000)
  (q:∀h' tk acc c',(∀b o,s.heap.get? b=some o->h'.get? b=some o)->h'.get? s.heap.objs.size=some { cls:=.type "list",dict:=none,data:=.seq acc c',slots:=#[] }->ItemsOf (fun i v=>(es.map (·.key))[i]?=some v) acc es.size->Q (.ref s.heap.objs.size) { s with heap:=h',toks:=tk }) :
  wpAny (model prog w) A (call (.type "list") [.ref d]) Q E s:=by
 have hS:(s.heap.push { cls:=.type "list",data:=.seq #[] }).get? s.heap.objs.size=some { cls:=.type "list",data:=.seq #[] }:=Heap.get?_push_size _ rfl
 have p1:∀b o,s.heap.get? b=some o->(s.heap.push { cls:=.type "list",data:=.seq #[] }).get? b=some o:=fun b o e=>Heap.get?_push_of_some _ e
 have dne:d≠s.heap.objs.size:=by
  obtain⟨o,e1,_⟩:=x
  exact Zq2 (Heap.lt_size e1)
 refine callType_codes (Q₁:=fun ob s1=>ob=.ref s.heap.objs.size/\s1={ s with heap:=s.heap.push { cls:=.type "list",data:=.seq #[] } }) F.called_list (F.typeCall_list_1 _) F.entry_list_init (code_list_new _ ⟨rfl,rfl⟩) fun ob s1 ⟨e1,e2⟩=>?_
 subst e1 e2
 refine⟨⟨_,hS,rfl⟩,F.args_list_init_2 _ _, ?_⟩
 show wpAny _ _ (do let old <- Builtin.List.listItems (.ref s.heap.objs.size);Builtin.List.listUpdate (.ref s.heap.objs.size) (fun _=>#[]);letGo old.toList.reverse;Builtin.List.listExtendWith (.ref s.heap.objs.size) (.ref d) .none) _ _ _
 refine wpAny_bind ?_
 unfold Builtin.List.listItems
 refine wpAny_bind (wpAny_seqItems hS rfl (wpAny_pure ?_))
 show wpAny _ _ (updateSeq s.heap.objs.size (fun _=>#[]) >>= fun _=>letGo (#[]:Array Value).toList.reverse >>= fun _=>Builtin.List.listExtendWith (.ref s.heap.objs.size) (.ref d) .none) _ _ _
 have S2:=Heap.get?_update_self (Obj.mapSeq (fun _=>(#[]:Array Value))) hS rfl
 have oth:∀b o,b≠s.heap.objs.size->s.heap.get? b=some o->((s.heap.push { cls:=.type "list",data:=.seq #[] }).update s.heap.objs.size (Obj.mapSeq (fun _=>(#[]:Array Value)))).get? b=some o:=fun b o hb e=>(Heap.get?_update_other _ _ (Ne.symm hb)).trans (p1 b o e)
 refine wpAny_bind (wpAny_updateSeq hS rfl (wpAny_bind (wpAny_letGo (Zh5 (A:=A.in1) hh nm (x.at fun o e=>oth _ _ dne e) hz _ .none _ S2 fun h' tk acc c' k hS' hacc=>⟨rfl,q h' tk acc c' (fun b o e=>?_) hS' hacc⟩))))
 have hb:b≠s.heap.objs.size:=Zq2 (Heap.lt_size e)
 exact k b o hb (oth b o hb e)
end
section
variable {X:Cx}
theorem Zl0:∀{H:Hp}{kvs:List (List Key×V)}{xs:List (List Key×Addr×Value)},KT H kvs xs->kvs.length=xs.length/\∀(i:Nat) (k:List Key) (v:V),kvs[i]?=some (k,v)->∃b u,xs[i]?=some (k,b,u)/\H b=some (.tup (k.map kV))
 |_,_,_,.nil=>⟨rfl,fun i k v h=>by simp at h⟩
 |H,_,_,.cons (a:=p) (b:=q) r rr=>by
  obtain⟨e,f⟩:=Zl0 rr
  refine⟨by simp[e],fun i k v h=>?_⟩
  cases i with
  |zero =>
   simp only[Zra,Option.some.injEq] at h
   obtain⟨r1,r2,r3⟩:=r
   subst h
   exact⟨q.2.1,q.2.2,by rw[Zra,show k=q.1 from r1],r2⟩
  |succ i =>
   rw[List.getElem?_cons_succ] at h ⊢
   exact f i k v h
def Zlj:List V->Hp->VK->Prop:=fun xs H Q=>∃p,∃kvs:List (List Key×V),xs=[.ref p]/\Rd H p (.dT kvs)/\kvs.length<=1000000 /\
  ∀l,H l=none->∀bs:List Addr,bs.length=kvs.length->(∀(i:Nat) (k:List Key) (v:V),kvs[i]?=some (k,v)->∃b,bs[i]?=some b/\H b=some (.tup (k.map kV)))->Q (.ref l) (upd H l (.lst (bs.map V.ref)))
theorem Zhz {ks:List Value}{acc:Array Value} (h:ItemsOf (fun i v=>(List.toArray ks)[i]?=some v) acc ks.length):acc.toList=ks:=by
 obtain⟨h1,h2⟩:=h
 refine ZrL (by simpa using h1) fun i i1 i2=>?_
 have:=h2 i (acc.toList[i]) (by simp at i1 ⊢)
 have this:(List.toArray ks)[i]?=some acc.toList[i]:=this
 rw[List.getElem?_toArray,Zqm i2] at this
 exact(Option.some.inj this).symm
theorem Zcf:∀(bs:List Addr),YO (bs.map V.ref) (bs.map Value.ref)
 |[]=>.nil
 |b::bs=>.cons rfl (Zcf bs)
theorem ZhE (hc:X.calm=true):Vv X (.type "list") Zlj:=by
 intro pins s σ H xs us Q I r h
 obtain⟨p,kvs,rfl,hp,hz0,q⟩:=h
 obtain⟨u,rfl,rx⟩:=Zc3 r
 cases rx
 obtain⟨z,nm,xs,rv,o,es,ep,h1,h2,h3,h4,h5⟩:=(show Jn X.prog X.w H s.heap p (.dT kvs) from ZlW I.hok hp)
 obtain⟨g1,g2⟩:=Zl0 rv
 have hes:es.size=xs.length:=by rw[<- Zqq,h4,Zqt]
 refine Zk0 (I.ok.hd hc) nm ⟨o,h1,h2,h3⟩ (by omega) fun h' tk acc c' k e hacc=>?_
 have hk:es.map (·.key)=List.toArray (xs.map fun x=>Value.ref x.2.1):=by
  apply ZrJ.mp
  rw[ZrK,h4,ZqW]
  rfl
 rw[hk,hes,show xs.length=(xs.map fun x=>Value.ref x.2.1).length by simp] at hacc
 have ha:=Zhz hacc
 have ea:acc=List.toArray ((xs.map (·.2.1)).map Value.ref):=by
  apply ZrJ.mp
  rw[ha,ZqW]
  rfl
 have I1:Inv X pins σ (upd H s.heap.objs.size (.lst ((xs.map (·.2.1)).map V.ref))) { s with heap:=h',toks:=tk }:=by
  refine I.laid (t':=tk) k (Zqn _) ⟨?_,_,c',Zcf _,by rw[<- ea];exact e⟩
  rw[Zqt,Zqt,<- g1];exact z
 refine⟨.ref s.heap.objs.size,_,I1,rfl,q _ (I.hok.fresh (Zqn _)) (xs.map (·.2.1)) (by simp[g1]) fun i kk v hi=>?_⟩
 obtain⟨b,u,e1,e2⟩:=g2 i kk v hi
 exact⟨b,by rw[Zq7,e1];rfl,e2⟩
end
noncomputable def Zg2 (xs:List PV):Rr PV:=match xs with
 |[.box _ (.dt ks) ys]=>if ks.length=ys.length/\ks.length<=1000000 then .ok (.lst (ks.map fun k=>.tup (k.map ZgI))) else .bad
 |_=>.bad
theorem ZiA {p:Option Addr}{bs:List (List Int)}{ys:List PV} (h:ys.length=bs.length) (hz:bs.length<=1000000):Zg2 [.box p (.dt (bs.map fun b=>b.map Sum.inl)) ys]=.ok (.lst (bs.map WR)):=by
 unfold Zg2
 simp only
 rw[if_pos ⟨by rw[Zqt];omega,by rw[Zqt];exact hz⟩,ZqW]
 congr 2
 refine ZrT fun b _=>?_
 simp only[Function.comp_apply,WR,ZqW]
 rfl
theorem ZcE {K:W.Frag}{H:Hp}{S:Addr->Prop}:∀(k:List Key),ZS K H S (k.map ZgI) (k.map kV)
 |[]=>rfl
 |.inl i::k=>⟨_,_,rfl,rfl,ZcE k⟩
 |.inr x::k=>⟨_,_,rfl,rfl,ZcE k⟩
theorem Zak:∀(k:List Key),PV.flats (k.map ZgI)=true
 |[]=>rfl
 |.inl i::k=>by simp only[Zqz,ZgI,PV.flats,PV.flat,Zak k,Bool.and_self]
 |.inr x::k=>by simp only[Zqz,ZgI,PV.flats,PV.flat,Zak k,Bool.and_self]
theorem Zb5:∀(ks:List (List Key)),PV.flats (ks.map fun k=>.tup (k.map ZgI))=true
 |[]=>rfl
 |k::ks=>by simp only[Zqz,PV.flats,PV.flat,Zak k,Zb5 ks,Bool.and_self]
theorem Zce {K:W.Frag}{H:Hp}{S:Addr->Prop}:∀(ks:List (List Key)) (bs:List Addr),bs.length=ks.length->(∀(i:Nat) (k:List Key),ks[i]?=some k->∃b,bs[i]?=some b/\H b=some (.tup (k.map kV)))->ZS K H S (ks.map fun k=>.tup (k.map ZgI)) (bs.map V.ref)
 |[],[],_,_=>rfl
 |[],b::bs,h,_=>by simp at h
 |k::ks,[],h,_=>by simp at h
 |k::ks,b::bs,h,f=>by
  obtain⟨b',e1,e2⟩:=f 0 k rfl
  have e1:b=b':=by simpa using e1
  subst e1
  exact⟨_,_,rfl,⟨b,_,rfl,⟨e2,trivial⟩,ZcE k⟩,Zce ks bs (by simpa using h) fun i kk hi=>f (i+1) kk hi⟩
section
variable {K:W.Frag}{EX:PX->Hp->Prop}{Γ Γ':List Md}{ta:TA}{fa:List PV->Rr (List PV)}
theorem ZkK (ha:DAA K EX Γ Γ' ta fa):DE K EX Γ Γ' .F (tCB Zlj ta) (fun ρ=>(fa ρ).bind Zg2):=fun B H0 H σ ρ F R Q A d=>by
 refine ha B H0 H σ ρ F R _ A (d.bind.imp (fun xs _ d vs H1 F1 s1 f1 p1 A1=>?_) fun e q=>q)
 unfold Zg2 at d
 split at d
 ·rename_i p ks ys _
  split at d
  ·rename_i hc
   obtain⟨v,rfl,a,ws,u,rfl,⟨hr,_⟩,⟨_,hl,rfl⟩,_⟩:=Za8 p1
   refine⟨a,_,rfl,hr,by rw[ZrS];omega,fun l hz bs hb f=>?_⟩
   have hlz:(ks.zip ws).length=ks.length:=by rw[ZrS];omega
   have pr:=Zce (K:=K) (H:=H1) (S:=fun _=>True) ks bs (by omega) fun i k hi=>by
    have hi':i<ks.length:=(Zql.mp hi).1
    have hw:i<ws.length:=by omega
    exact f i k ws[i] (by rw[List.getElem?_zip_eq_some];exact⟨hi,Zqm hw⟩)
   exact d _ _ (s1.trans (Z4.new hz)) (Res.newP s1 f1 pr (Zb5 ks) A1 hz)
  ·exact d.elim
 ·exact d.elim
end
end L2
namespace My
open L2
noncomputable def tab (n:Nat) (f:Nat->Int):List Int:=(List.range n).map f
theorem Wg (n:Nat) (f:Nat->Int):(tab n f).length=n:=by simp[tab]
theorem ZaU {n:Nat}{f:Nat->Int}{x:Nat} (h:x<n):(tab n f).getD x 0=f x:=by
 rw[Zqi,tab,Zq7,Zrp h];rfl
theorem Zc6 {n:Nat}{f:Nat->Int}{l:List Int} (hl:l.length=n) (h:∀x,x<n->l.getD x 0=f x):l=tab n f:=by
 apply ZrL
 ·rw[hl,Wg]
 ·intro i h1 h2
  have:=h i (by omega)
  rw[Zqi,Zqm h1] at this
  simp only[tab,List.getElem_map,List.getElem_range]
  exact this
theorem QA {l:List Int}{j x:Nat}{v:Int} (h:j<l.length):(l.set j v).getD x 0=if x=j then v else l.getD x 0:=by
 rw[Zqi,Zqi]
 by_cases e:x=j
 ·subst e;rw[Zq9 h,if_pos rfl];rfl
 ·rw[ZqM (Ne.symm e),if_neg e]
theorem ZhZ {n:Nat}{f:Nat->Int}{j:Nat}{v:Int} (h:j<n):(tab n f).set j v=tab n fun x=>if x=j then v else f x:=by
 refine Zc6 (by rw[Zrr,Wg]) fun x hx=>?_
 rw[QA (by rw[Wg];exact h)]
 by_cases e:x=j
 ·rw[if_pos e,if_pos e]
 ·rw[if_neg e,if_neg e,ZaU hx]
theorem ZaV {n:Nat}{f g:Nat->Int} (h:∀x,x<n->f x=g x):tab n f=tab n g:=Zc6 (Wg _ _) fun x hx=>by rw[ZaU hx,h x hx]
theorem ZdY {l:List Int}{x:Nat} (h:x<l.length):l.getD x 0∈l:=by
 rw[Zqi,Zqm h];exact ZrM h
theorem Qw:∀{l:List Int}{j:Nat}{v:Int},j<l.length->(l.set j v).sum=l.sum-l.getD j 0+v
 |a::l,0,v,_=>by simp;omega
 |a::l,j+1,v,h=>by
  have:=Qw (l:=l) (j:=j) (v:=v) (by simpa using h)
  simp only[Zsa,Zrx,List.getD_cons_succ,this];omega
theorem ZaY:∀(ns:List Int) (c:Int),(ns.map fun v=>v+c).sum=ns.sum+ns.length*c
 |[],c=>by simp
 |a::l,c=>by
  simp only[Zqz,Zrx,Zq8]
  rw[ZaY l c,Int.natCast_add,Int.add_mul];omega
theorem ZcM {n a b:Int} (ha:0<=a) (ha':a<n) (hb:0<=b) (hb':b<n):(a-b)%n=if b<=a then a-b else a-b+n:=by
 by_cases h:b<=a
 ·rw[if_pos h,ZqZ (by omega) (by omega)]
 ·rw[if_neg h,<- Int.add_emod_right,ZqZ (by omega) (by omega)]
theorem ZcN {n a b:Int} (ha:0<=a) (ha':a<n) (hb:0<=b) (hb':b<n):(a+b)%n=if a+b<n then a+b else a+b-n:=by
 by_cases h:a+b<n
 ·rw[if_pos h,ZqZ (by omega) (by omega)]
 ·rw[if_neg h,<- Int.sub_emod_right,ZqZ (by omega) (by omega)]
structure Zpw (ns:List Int):Prop where
 lo:2<=ns.length
 hi:ns.length<=24
 nn:∀x∈ns,0<=x
 sm:ns.sum<=10^60
theorem ZaX:∀{l:List Int},(∀x∈l,0<=x)->0<=l.sum
 |[],_=>by simp
 |a::l,h=>by
  have:=ZaX (l:=l) fun x hx=>h x (by simp[hx])
  have:=h a (by simp)
  simp only[Zrx];omega
noncomputable def ZlS (ns:List Int) (p:Int) (x:Nat):Int:=(if (x:Int)=p then 0 else ns.getD x 0)+ns.getD p.toNat 0/ns.length
noncomputable def Zle (n:Int) (p:Int) (i:Int) (x:Nat):Int:=if 1<=((x:Int)-p)%n/\((x:Int)-p)%n<=i then 1 else 0
noncomputable def ZbO (ns:List Int) (p:Int) (i:Int) (x:Nat):Int:=ZlS ns p x+Zle ns.length p i x
theorem ZeO (n p i:Int) (x:Nat):0<=Zle n p i x:=by unfold Zle;split<;>omega
theorem ZaI {n p i:Int}{x:Nat} (h:1<=((x:Int)-p)%n/\((x:Int)-p)%n<=i):Zle n p i x=1:=if_pos h
theorem QU {n p i:Int}{x:Nat} (h:¬(1<=((x:Int)-p)%n/\((x:Int)-p)%n<=i)):Zle n p i x=0:=if_neg h
theorem Zlf {ns:List Int}{p:Int}{x:Nat} (h:(x:Int)=p):ZlS ns p x=ns.getD p.toNat 0/ns.length:=by unfold ZlS;rw[if_pos h];omega
theorem ZcA {ns:List Int}{p:Int}{x:Nat} (h:(x:Int)≠p):ZlS ns p x=ns.getD x 0+ns.getD p.toNat 0/ns.length:=by unfold ZlS;rw[if_neg h]
noncomputable def Qy (ns:List Int) (p:Int):List Int:=tab ns.length (ZbO ns p (ns.getD p.toNat 0%ns.length))
noncomputable def Zp6 (ns:List Int) (p:Int):Int:=(p+ns.getD p.toNat 0%ns.length)%ns.length
theorem ZeP (ns:List Int) (p:Int):(Qy ns p).length=ns.length:=Wg _ _
section
variable {ns:List Int}{p:Int}
theorem Zgl (h0:0<=p) (h1:p<ns.length):(ns.map fun v=>v+ns.getD p.toNat 0/ns.length).set p.toNat (ns.getD p.toNat 0/ns.length)=tab ns.length (ZbO ns p 0):=by
 refine Zc6 (by simp) fun x hx=>?_
 rw[QA (by simp;omega)]
 unfold ZbO
 rw[QU (by omega)]
 by_cases e:x=p.toNat
 ·rw[if_pos e,Zlf (by omega)];omega
 ·rw[if_neg e,ZcA (by omega)]
  simp[Zqi,Zqm hx]
theorem Zgm (h0:0<=p) (h1:p<ns.length) {i:Nat} (hi:(i:Int)+1<ns.length) :
  (tab ns.length (ZbO ns p i)).set ((p+(i+1))%ns.length).toNat (ZbO ns p i ((p+(i+1))%ns.length).toNat+1)=tab ns.length (ZbO ns p ((i+1:Nat):Int)):=by
 have m1:=ZcN h0 h1 (show (0:Int)<=(i:Int)+1 by omega) hi
 have hlt:((p+((i:Int)+1))%ns.length).toNat<ns.length:=by
  rw[m1];split<;>omega
 rw[ZhZ hlt]
 refine ZaV fun x hx=>?_
 have m2:=ZcM (n:=ns.length) (show (0:Int)<=(x:Int) by omega) (by omega) h0 h1
 by_cases e:x=((p+((i:Int)+1))%ns.length).toNat
 ·rw[if_pos e,<- e]
  unfold ZbO
  have hd:((x:Int)-p)%ns.length=i+1:=by
   rw[m2]
   rw[m1] at e
   split at e<;>split<;>omega
  rw[QU (by omega),ZaI (by omega)];omega
 ·rw[if_neg e]
  unfold ZbO
  have hd:((x:Int)-p)%ns.length≠i+1:=by
   intro z
   apply e
   rw[m2] at z
   rw[m1]
   split at z<;>split<;>omega
  by_cases q:1<=((x:Int)-p)%ns.length/\((x:Int)-p)%ns.length<=i
  ·rw[ZaI q,ZaI (by omega)]
  ·rw[QU q,QU (by omega)]
theorem Zd8 (h0:0<=p) (h1:p<ns.length):∀i:Nat,(i:Int)<ns.length->(tab ns.length (ZbO ns p i)).sum=ns.sum+ns.length*(ns.getD p.toNat 0/ns.length)-ns.getD p.toNat 0+i
 |0,_=>by
  have:=Zgl h0 h1
  rw[Int.natCast_zero,<- this,Qw (by simp;omega)]
  have e:=ZaY ns (ns.getD p.toNat 0/ns.length)
  rw[e]
  have e2:(ns.map fun v=>v+ns.getD p.toNat 0/ns.length).getD p.toNat 0=ns.getD p.toNat 0+ns.getD p.toNat 0/ns.length:=by
   have hx:p.toNat<ns.length:=by omega
   rw[Zqi,Zq7,Zqm hx]
   simp[hx]
  rw[e2];omega
 |i+1,hi=>by
  have ih:=Zd8 h0 h1 i (by omega)
  have m1:=ZcN h0 h1 (show (0:Int)<=(i:Int)+1 by omega) (by omega)
  have hlt:((p+((i:Int)+1))%ns.length).toNat<ns.length:=by rw[m1];split<;>omega
  rw[<- Zgm h0 h1 (by omega),Qw (by rw[Wg];exact hlt),ih,ZaU hlt];omega
theorem ZjX (h0:0<=p) (h1:p<ns.length) (hs:0<=ns.getD p.toNat 0):(Qy ns p).sum=ns.sum:=by
 have b1:=ZqJ (ns.getD p.toNat 0) (show (ns.length:Int)≠0 by omega)
 have b2:=ZqE (ns.getD p.toNat 0) (show (0:Int)<ns.length by omega)
 have:=Zd8 h0 h1 (ns.getD p.toNat 0%ns.length).toNat (by omega)
 rw[ZqT b1] at this
 have e:=Int.mul_ediv_add_emod (ns.getD p.toNat 0) ns.length
 unfold Qy
 omega
theorem ZlQ (hn:∀x∈ns,0<=x) (i:Int) (x:Nat) (hx:x<ns.length):0<=ZbO ns p i x:=by
 have h1:=hn _ (ZdY hx)
 have h2:0<=ns.getD p.toNat 0:=by
  by_cases hp:p.toNat<ns.length
  ·exact hn _ (ZdY hp)
  ·rw[Zqi,ZqI (by omega)];exact Int.le_refl _
 have h3:=ZrU h2 (show (0:Int)<=ns.length by omega)
 have h4:=ZeO ns.length p i x
 unfold ZbO ZlS
 split<;>omega
end
noncomputable def run (f:Nat->Int):Nat->Nat->Nat
 |0,i=>i
 |k+1,i=>if 0<f i then run f k (i+1) else i
section
variable {ns:List Int}{q:Int}
end
noncomputable def ZjW (a:List Int×Int):List Int×Int:=(Qy a.1 a.2,Zp6 a.1 a.2)
noncomputable def its {α:Type} (f:α->α):Nat->α->α
 |0,a=>a
 |n+1,a=>f (its f n a)
section
variable {ns:List Int}{q:Int}
end
end My
namespace My
open PySem L2
noncomputable abbrev Zhm (a:List Int×Int):PV:=.tup [.lst (a.1.map PV.int),.int a.2]
noncomputable def Vu (ns:List Int):Bool:=decide (2<=ns.length/\ns.length<=24/\(∀x∈ns,0<=x)/\ns.sum<=10^60)
theorem U9 {ns:List Int}:Vu ns=true ↔ Zpw ns:=by
 unfold Vu
 rw[decide_eq_true_iff]
 exact⟨fun⟨a,b,c,d⟩=>⟨a,b,c,d⟩,fun h=>⟨h.lo,h.hi,h.nn,h.sm⟩⟩
end My
namespace L2
noncomputable def ZnR (p s:Int):Int:=p*s%(p+1)
noncomputable def ZpM (p s:Int):Int:=p*s/(p+1)
noncomputable def ZlR (s:Int):Nat->Int
 |0=>s
 |k+1=>ZpM (k+1) (ZlR s k)
noncomputable def ZnY (s:Int) (n:Nat):List Int:=(List.range n).map fun(k:Nat)=>ZnR (k+1) (ZlR s k)
noncomputable def Znb (s:Int):Nat->Nat->Nat
 |0,k=>k
 |n+1,k=>if 0<ZlR s k then Znb s n (k+1) else k
noncomputable def ZpQ (s:Int):Nat:=Znb s s.toNat 0
noncomputable def ZoD (s:Int):List Int:=ZnY s (ZpQ s)
def ZjK (ns:List Int):Prop:=(∀x∈ns,0<=x)/\ns.length<=200/\ns.sum<=10000/\(ns=[]\/ns.getD (ns.length-1) 0≠0)
noncomputable instance (ns:List Int):Decidable (ZjK ns):=by unfold ZjK;infer_instance
def ZlH (ns:List Int):Prop:=ZjK ns/\ns=ZoD ns.sum
noncomputable instance (ns:List Int):Decidable (ZlH ns):=by unfold ZlH;infer_instance
noncomputable def s2 (ns:List Int) (r:Nat):Nat->Int
 |0=>0
 |i+1=>s2 ns r i+if i%2=r then ns.getD i 0 else 0
theorem Zjf {ns:List Int}{i:Nat} (h:i<ns.length):ns.getD i 0∈ns:=by
 rw[Zqi,Zqm h];exact ZrM _
end L2
namespace L2
end L2
namespace L2
noncomputable def hs:Nat->Nat->Int->List Int
 |_,0,_=>[]
 |k,m+1,l=>ZnR (k+1) l::hs (k+1) m (ZpM (k+1) l)
noncomputable def s3 (ns:List Int) (r:Nat):Nat->Int
 |0=>0
 |i+1=>s3 ns r i+if i%3=r then ns.getD i 0 else 0
end L2
namespace L2
def ZlG (ns:List Int):Prop:=(∀x∈ns,0<=x)/\ns.length<=100/\ns.sum<=100/\(ns=[]\/(ns.getD 0 0≠0/\ns.getD (ns.length-1) 0≠0))
noncomputable instance (ns:List Int):Decidable (ZlG ns):=by unfold ZlG;infer_instance
theorem ZaO {ns:List Int}{i:Nat} (h:ns.length<=i):ns.getD i 0=0:=by
 rw[Zqi,ZqI h];rfl
theorem Zaj {ns:List Int} (h:∀x∈ns,0<=x) (i:Nat):0<=ns.getD i 0:=by
 by_cases z:i<ns.length
 ·exact h _ (Zjf z)
 ·rw[ZaO (by omega)];omega
theorem ZaX:∀{ns:List Int},(∀x∈ns,0<=x)->0<=ns.sum
 |[],_=>by simp
 |x::xs,h=>by
  have:=h x (by simp)
  have:=ZaX (ns:=xs) (fun y hy=>h y (by simp[hy]))
  simp;omega
theorem QA {l:List Int}{i j:Nat}{v:Int} (h:i<l.length):(l.set i v).getD j 0=if i=j then v else l.getD j 0:=by
 simp only[Zqi,List.getElem?_set,if_pos h]
 split<;>rfl
end L2
namespace L2
noncomputable def Wj (ns:List Int) (k:Nat):Int:=ns.getD k 0%10^61
noncomputable def Qv (ns:List Int) (later m:Nat):Nat->List Int
 |0=>List.replicate m 0
 |i+1=>(Qv ns later m i).set (i%m) (((Qv ns later m i).getD (i%m) 0*3+ns.getD (later+i) 0%10^61)%10^62)
@[simp] theorem VO (ns:List Int) (later m:Nat):∀i,(Qv ns later m i).length=m
 |0=>by simp[Qv]
 |i+1=>by rw[Qv,Zrr,VO]
theorem Zgk (ns:List Int) (later m:Nat):∀i,∀x∈Qv ns later m i,0<=x/\x<10^62
 |0=>fun x hx=>by rw[Qv] at hx;rw[List.eq_of_mem_replicate hx];decide
 |i+1=>fun x hx=>by
  rw[Qv] at hx
  rcases List.mem_or_eq_of_mem_set hx with h|h
  ·exact Zgk ns later m i x h
  ·rw[h];omega
theorem Zm4 {l:List Int}{P:Int->Prop} (h:∀x∈l,P x) (h0:P 0) (i:Nat):P (l.getD i 0):=by
 by_cases q:i<l.length
 ·rw[Zqi,Zqm q];exact h _ (ZrM q)
 ·rw[ZaO (by omega)];exact h0
noncomputable def ZeN (ns:List Int) (later m:Nat):List Int:=Qv ns later m (ns.length-later)
@[simp] theorem Zd7 (ns:List Int) (later m:Nat):(ZeN ns later m).length=m:=VO ..
noncomputable def stir (c j:Int):Int:=((c%2147483647+1009*j+7)*48271%2147483647)*((c%2147483647+1009*j+7)*48271%2147483647)%998244353/8
noncomputable def Znf (t b:Int):Nat->Int
 |0=>t
 |j+1=>Znf t b j/b
noncomputable def Zl8 (t b:Int) (m:Nat):List Int:=(List.range m).map fun(j:Nat)=>Znf t b j%b
theorem Zjl (t b:Int) (m:Nat):Zl8 t b (m+1)=Zl8 t b m++[Znf t b m%b]:=by simp[Zl8,Zsk]
@[simp] theorem Zfx (t b:Int) (m:Nat):(Zl8 t b m).length=m:=by simp[Zl8]
noncomputable def Zka (ns:List Int) (skip many base:Int) (mixed:Bool):List Int:=
 if mixed=true then (List.range many.toNat).map fun(j:Nat)=>stir ((ZeN ns skip.toNat (max 1 many.toNat)).getD j 0) j%base
 else Zl8 ((ns.drop skip.toNat).map fun(c:Int)=>c%10^61).sum base many.toNat
@[simp] theorem ZeT (ns:List Int) (skip many base:Int) (mixed:Bool):(Zka ns skip many base mixed).length=many.toNat:=by unfold Zka;split<;>simp
theorem ZlU (ns:List Int) (skip many:Int) {base:Int} (hb:0<base) (mixed:Bool):∀x∈Zka ns skip many base mixed,0<=x/\x<base:=fun x hx=>by
 unfold Zka at hx
 split at hx
 ·obtain⟨j,_,rfl⟩:=Zq4.mp hx
  exact⟨ZqJ _ (by omega),ZqE _ hb⟩
 ·obtain⟨j,_,rfl⟩:=Zq4.mp hx
  exact⟨ZqJ _ (by omega),ZqE _ hb⟩
end L2
namespace My
open L2
noncomputable def ZoG (ns:List Int) (k:Int):List Int:=tab ns.length fun x=>ns.getD (((x:Int)-k)%ns.length).toNat 0
noncomputable def ZoF (a:List Int×Int) (s:Nat):Int:=((its ZjW s a).2-a.2)%a.1.length
def isT (a:List Int×Int) (s:Nat):Prop:=(its ZjW s a).1=ZoG a.1 (ZoF a s)
noncomputable instance (a:List Int×Int) (s:Nat):Decidable (isT a s):=by unfold isT;infer_instance
noncomputable def lsF (bs:List Int) (p:Int) (i:Nat) (x:Nat):Int:=(if (x:Int)=p then 0 else bs.getD x 0)+if ((x:Int)-(p+1))%bs.length<i then bs.getD p.toNat 0/bs.length+(if ((x:Int)-(p+1))%bs.length<bs.getD p.toNat 0%bs.length then 1 else 0) else 0
section
variable {bs:List Int}{p:Int}
theorem Zmt (h0:0<=p) (h1:p<bs.length):bs.set p.toNat 0=tab bs.length (lsF bs p 0):=by
 refine Zc6 (by simp) fun x hx=>?_
 rw[L2.QA (by omega)]
 unfold lsF
 have:=ZqJ ((x:Int)-(p+1)) (show (bs.length:Int)≠0 by omega)
 rw[if_neg (show ¬((x:Int)-(p+1))%bs.length<((0:Nat):Int) by omega)]
 by_cases c:p.toNat=x
 ·rw[if_pos c,if_pos (by omega)];omega
 ·rw[if_neg c,if_neg (by omega)];omega
theorem Zmu (h0:0<=p) (h1:p<bs.length) {i:Nat} (hi:i<bs.length) :
  (tab bs.length (lsF bs p i)).set ((p+1+i)%bs.length).toNat (lsF bs p i ((p+1+i)%bs.length).toNat+bs.getD p.toNat 0/bs.length+(if (i:Int)<bs.getD p.toNat 0%bs.length then 1 else 0))=tab bs.length (lsF bs p (i+1)):=by
 have hn:(0:Int)<bs.length:=by omega
 have y0:=ZqJ (p+1+i) (show (bs.length:Int)≠0 by omega)
 have y1:=ZqE (p+1+i) hn
 rw[ZhZ (by omega)]
 refine ZaV fun x hx=>?_
 have d0:=ZqJ ((x:Int)-(p+1)) (show (bs.length:Int)≠0 by omega)
 have d1:=ZqE ((x:Int)-(p+1)) hn
 have key:((x:Int)-(p+1))%bs.length=i ↔ x=((p+1+i)%bs.length).toNat:=by
  constructor
  ·intro e
   have:(p+1+i)%bs.length=x:=by
    rw[<- e,Int.add_emod_emod,show p+1+((x:Int)-(p+1))=x by omega,ZqZ (by omega) (by omega)]
   omega
  ·intro e
   have:(x:Int)=(p+1+i)%bs.length:=by omega
   rw[this,Int.emod_sub_emod,show p+1+(i:Int)-(p+1)=i by omega,ZqZ (by omega) (by omega)]
 by_cases c:x=((p+1+i)%bs.length).toNat
 ·rw[if_pos c,<- c]
  have hk:=key.mpr c
  unfold lsF
  rw[hk,if_neg (show ¬(i:Int)<(i:Int) by omega),if_pos (show (i:Int)<((i+1:Nat):Int) by omega)]
  omega
 ·rw[if_neg c]
  have hk:¬((x:Int)-(p+1))%bs.length=i:=fun z=>c (key.mp z)
  unfold lsF
  by_cases q:((x:Int)-(p+1))%bs.length<i
  ·rw[if_pos q,if_pos (show ((x:Int)-(p+1))%bs.length<((i+1:Nat):Int) by omega)]
  ·rw[if_neg q,if_neg (show ¬((x:Int)-(p+1))%bs.length<((i+1:Nat):Int) by omega)]
theorem ZnD (h0:0<=p) (h1:p<bs.length):tab bs.length (lsF bs p bs.length)=Qy bs p:=by
 have hn:(0:Int)<bs.length:=by omega
 refine ZaV fun x hx=>?_
 have d0:=ZqJ ((x:Int)-(p+1)) (show (bs.length:Int)≠0 by omega)
 have d1:=ZqE ((x:Int)-(p+1)) hn
 have o1:=ZqE (bs.getD p.toNat 0) hn
 have e:((x:Int)-p)%bs.length=if ((x:Int)-(p+1))%bs.length+1=bs.length then 0 else ((x:Int)-(p+1))%bs.length+1:=by
  have:((x:Int)-p)%bs.length=(((x:Int)-(p+1))%bs.length+1)%bs.length:=by
   rw[Int.emod_add_emod,show (x:Int)-(p+1)+1=x-p by omega]
  rw[this]
  split
  ·rename_i c;rw[c,Int.emod_self]
  ·exact ZqZ (by omega) (by omega)
 have e2:(if 1<=((x:Int)-p)%bs.length/\((x:Int)-p)%bs.length<=bs.getD p.toNat 0%bs.length then (1:Int) else 0)=if ((x:Int)-(p+1))%bs.length<bs.getD p.toNat 0%bs.length then 1 else 0:=by
  generalize ((x:Int)-p)%bs.length=D at e
  subst e
  by_cases q:((x:Int)-(p+1))%bs.length<bs.getD p.toNat 0%bs.length
  ·rw[if_pos q]
   apply if_pos
   split<;>omega
  ·rw[if_neg q]
   apply if_neg
   split<;>omega
 unfold lsF ZbO ZlS Zle
 rw[if_pos d1,e2]
 omega
theorem ZnC (p s n:Int):(p+s)%n=(p+s%n)%n:=by rw[Int.add_emod_emod]
end
end My
namespace My
open PySem PySem.Spec PyProof.Rows L2
theorem Zbm {ns:List Int}{k:Int} (h0:0<=k) (h1:k<ns.length):pIx (.tup (ns.map PV.int)) (.int k)=.ok (.int (ns.getD k.toNat 0)):=ZaL (ns:=ns) h0 h1
theorem Zhp {ns:List Int}:ZiB [.tup (ns.map PV.int)]=.ok (.int ns.length):=by simp[ZiB]
theorem Zk9 {xs:List PV}:PV.flat (.tup xs)=PV.flats xs:=by simp[PV.flat]
theorem Zcr {ns:List Int}:PV.flat (.tup (ns.map PV.int))=true:=by rw[Zk9];exact Zeg
theorem ZdX {ns:List Int}:grd (.tup (ns.map PV.int))=.ok (.tup (ns.map PV.int)):=by unfold grd;rw[Zcr];rfl
theorem ZkU {xs:List PV}:ZpN (.tup xs)=.ok xs:=rfl
noncomputable def tI (b:List Int):List Key:=b.map Sum.inl
theorem Zc5 (b:List Int):WR b=.tup ((tI b).map ZgI):=by unfold WR tI;rw[ZqW];rfl
theorem Zef {α:Type}{q:α->PV} (h:∀a,PV.flat (q a)=true):∀L:List α,PV.flats (L.map q)=true
 |[]=>by simp[PV.flats]
 |a::L=>by
  rw[Zqz]
  simp only[PV.flats,h a,Zef h L,Bool.and_self]
theorem Zmq {xs:List PV} (h:PV.flats xs=true) (hl:xs.length<=1000000):newF xs=.ok (.lst xs):=by
 unfold newF
 rw[h,decide_eq_true hl];rfl
theorem ZnA {α:Type}{q:α->PV}{L:List α} (h:∀a,PV.flat (q a)=true) (hl:L.length<=1000000):newF (L.map q)=.ok (.lst (L.map q)):=Zmq (Zef h L) (by simpa using hl)
theorem Uh (t:List Int):PV.flat (WR t)=true:=Zcr
theorem Zlb {a b:List Int} (h:tI a=tI b):a=b:=by
 unfold tI at h
 exact(List.map_inj_right fun x y h=>Sum.inl.inj h).mp h
section
variable {κ:Type} [DecidableEq κ] {α:Type}{k:κ}{ks:List κ}
theorem Ziv (h:k ∉ ks):ZbQ ks k=ks++[k]:=if_neg h
theorem Ziu {xs:List α}{y:α} (h:k ∉ ks):QV ks xs k y=xs++[y]:=if_neg h
end
section
variable {ks:List (List Key)}{xs:List PV}{p:Option PySem.Addr}{g:List Int}{v:PV}
theorem Zpl:dAt (.box p (.dt ks) xs) (WR g)=some (atK ks xs (tI g)):=by
 rw[Zc5]
 simp only[dAt,U5,Option.map_some]
theorem Zn5 {f:Bool->Bool}:Zo5 f (WR g) (.box p (.dt ks) xs)=.ok (.bl (f (atK ks xs (tI g)).isSome)):=by
 unfold Zo5
 rw[Zpl]
theorem Zmm (hv:v.flat=true) (hl:xs.length<1000000):Zkt (.box p (.dt ks) xs) (WR g) v=.ok (.box p (.dt (ZbQ ks (tI g))) (QV ks xs (tI g) v)):=by
 rw[Zc5]
 unfold Zkt
 simp only[U5]
 rw[if_pos ⟨hl,.inr hv⟩]
theorem Zhd:∀{ks:List (List Key)}{xs:List PV}{k:List Key},k ∉ ks->atK ks xs k=none
 |[],_,_,_=>by unfold atK;rfl
 |k'::ks,[],k,_=>by unfold atK;rfl
 |k'::ks,x::xs,k,h=>by
  unfold atK
  rw[if_neg (fun e=>h (by rw[e];exact Zrf ..)),Zhd fun z=>h (ZqB _ z)]
theorem ZjG:∀{ks:List (List Key)}{xs:List PV}{k:List Key},ks.length=xs.length->k∈ks->∃x,atK ks xs k=some x
 |[],_,_,_,h=>by simp at h
 |k'::ks,[],k,h,_=>by simp at h
 |k'::ks,x::xs,k,h,hm=>by
  unfold atK
  by_cases e:k'=k
  ·rw[if_pos e];exact⟨x,rfl⟩
  ·rw[if_neg e]
   exact ZjG (by simpa using h) ((Zqw.mp hm).resolve_left fun z=>e z.symm)
end
noncomputable def ZjV (x:Int×List Int):PV:=.tup [.int x.1,WR x.2]
end My
namespace L2
noncomputable def cbI (s:Int):Nat->Int
 |0=>1
 |k+1=>cbI s k*(s+((k:Int)+1))/((k:Int)+1)
theorem Zj5 {s:Int} (h:0<=s):∀k,0<=cbI s k
 |0=>by simp[cbI]
 |k+1=>by
  rw[cbI]
  exact ZrU (Int.mul_nonneg (Zj5 h k) (by omega)) (by omega)
theorem ZlB {s:Int} (h:0<=s) (h1:s<=10^60):∀k:Nat,k<=1000->cbI s k<=(10^61)^k
 |0,_=>by simp[cbI]
 |k+1,hk=>by
  have ih:=ZlB h h1 k (by omega)
  have nn:=Zj5 h k
  rw[cbI]
  have e1:cbI s k*(s+((k:Int)+1))<=(10^61)^k*10^61:=Int.mul_le_mul ih (by omega) (by omega) (Int.pow_nonneg (by decide))
  have e2:cbI s k*(s+((k:Int)+1))/((k:Int)+1)<=cbI s k*(s+((k:Int)+1)):=Int.ediv_le_self _ (Int.mul_nonneg nn (by omega))
  rw[Int.pow_succ]
  omega
noncomputable def cbN (p s:Int):Int:=if s<0 then 0 else cbI s (p-1).toNat
theorem Zj4 {s:Int} (h:0<=s) (h1:s<=10^60) {k:Nat} (hk:k<=24):(cbI s k).natAbs<2^60000:=by
 have h2:=ZlB h h1 k (by omega)
 have h3:=Zj5 h k
 have h4:((10:Int)^61)^k<=(10^61)^24:=by
  have:((10:Nat)^61)^k<=(10^61)^24:=ZrN (by decide) hk
  exact_mod_cast this
 have h5:((10:Int)^61)^24=10^1464:=by rw[<- Int.pow_mul]
 have h6:(cbI s k).natAbs<=10^1464:=by
  have:cbI s k<=10^1464:=by rw[<- h5];exact Int.le_trans h2 h4
  have e:((cbI s k).natAbs:Int)=cbI s k:=Int.natAbs_of_nonneg h3
  have:((cbI s k).natAbs:Int)<=((10^1464:Nat):Int):=by rw[e];exact_mod_cast this
  exact_mod_cast this
 have h7:10^1464<2^60000:=by
  calc (10:Nat)^1464<=(2^4)^1464:=Nat.pow_le_pow_left (by decide) _
   _=2^5856:=by rw[<- Nat.pow_mul]
   _<2^60000:=Nat.pow_lt_pow_right (by decide) (by decide)
 omega
end L2
namespace L2
noncomputable def bN:Nat->Nat->Nat
 |0=>fun _=>1
 |s+1=>fun k=>Nat.rec 1 (fun k ih=>bN s (k+1)+ih) k
@[simp] theorem Zqc (s:Nat):bN s 0=1:=by cases s<;>rfl
@[simp] theorem Zqb (k:Nat):bN 0 k=1:=by exact id rfl
theorem ZfM (s k:Nat):bN (s+1) (k+1)=bN s (k+1)+bN (s+1) k:=rfl
theorem Zot:∀n s k,s+k=n->(k+1)*bN s (k+1)=(s+k+1)*bN s k/\(s+1)*bN (s+1) k=(s+k+1)*bN s k:=by
 intro n
 induction n using Nat.strongRecOn with
 |ind n ih =>
  intro s k h
  constructor
  ·cases s with
   |zero=>simp
   |succ s =>
    have h1:=(ih (s+k) (by omega) s k rfl).1
    have h2:=(ih (s+k) (by omega) s k rfl).2
    rw[ZfM,Nat.mul_add,h1,<- h2,<- Nat.add_mul]
    congr 1
  ·cases k with
   |zero=>simp
   |succ k =>
    have h1:=(ih (s+k) (by omega) s k rfl).1
    have h2:=(ih (s+k) (by omega) s k rfl).2
    rw[ZfM,Nat.mul_add,h2,<- h1,<- Nat.add_mul]
    congr 1
    omega
theorem ZlC (s:Nat):∀k:Nat,cbI s k=(bN s k:Nat)
 |0=>by simp[cbI]
 |k+1=>by
  have h:=(Zot (s+k) s k rfl).1
  rw[cbI,ZlC s k]
  have e:((bN s k:Nat):Int)*((s:Int)+((k:Int)+1))=((k:Int)+1)*(bN s (k+1):Nat):=by
   have:(((k+1)*bN s (k+1):Nat):Int)=(((s+k+1)*bN s k:Nat):Int):=by rw[h]
   rw[Int.natCast_mul,Int.natCast_mul] at this
   rw[show ((k:Int)+1)=((k+1:Nat):Int) by omega,this,Int.mul_comm]
   congr 1
  rw[e,Int.mul_ediv_cancel_left _ (by omega)]
theorem Zcy {p s:Int} (hs:0<=s):cbN p s=(bN s.toNat (p-1).toNat:Nat):=by
 unfold cbN
 rw[if_neg (by omega)]
 have:=ZlC s.toNat (p-1).toNat
 rwa [ZqT hs] at this
theorem ZfD {p s:Int} (hs:s<0):cbN p s=0:=if_pos hs
theorem Zj3 (p s:Int):0<=cbN p s:=by
 by_cases h:s<0
 ·rw[ZfD h];exact Int.le_refl _
 ·rw[Zcy (by omega)];omega
theorem ZfC {s:Int} (hs:0<=s):cbN 1 s=1:=by rw[Zcy hs];simp
theorem Zha (p:Int):cbN p 0=1:=by rw[Zcy (Int.le_refl _)];simp
theorem Zdl {p s:Int} (hp:2<=p) (hs:0<=s):cbN p s=cbN p (s-1)+cbN (p-1) s:=by
 by_cases h:s=0
 ·subst h
  rw[ZfD (p:=p) (s:=0-1) (by omega),Zha,Zha];rfl
 ·rw[Zcy hs,Zcy (p:=p) (s:=s-1) (by omega),Zcy (p:=p-1) hs]
  obtain⟨t,ht⟩:∃t:Nat,s=t+1:=⟨(s-1).toNat,by omega⟩
  obtain⟨q,hq⟩:∃q:Nat,p=q+2:=⟨(p-2).toNat,by omega⟩
  subst ht
  subst hq
  rw[show ((t:Int)+1).toNat=t+1 by omega,show ((q:Int)+2-1).toNat=q+1 by omega,show ((t:Int)+1-1).toNat=t by omega,show ((q:Int)+2-1-1).toNat=q by omega,ZfM]
  omega
theorem Zhb {p s t:Int} (hp:1<=p) (h:s<=t):cbN p s<=cbN p t:=by
 by_cases hs:s<0
 ·rw[ZfD hs];exact Zj3 p t
 ·obtain⟨d,rfl⟩:∃d:Nat,t=s+d:=⟨(t-s).toNat,by omega⟩
  induction d with
  |zero=>simp
  |succ d ih =>
   have ih:=ih (by omega)
   by_cases h1:p=1
   ·subst h1;rw[ZfC (by omega),ZfC (by omega)];omega
   ·have h2:=Zdl (p:=p) (s:=s+((d+1:Nat):Int)) (by omega) (by omega)
    rw[show s+((d+1:Nat):Int)-1=s+(d:Int) by omega] at h2
    have:=Zj3 (p-1) (s+((d+1:Nat):Int))
    omega
noncomputable def ZjN:List Int->Int
 |[]=>0
 |[_]=>0
 |_::y::r=>cbN (((y::r).length:Int)+1) ((y::r).sum-1)+ZjN (y::r)
theorem Zdn:∀(l:List Int),l≠[]->(∀x∈l,0<=x)->0<=ZjN l/\ZjN l+1<=cbN l.length l.sum
 |[],h,_=>absurd rfl h
 |[x],_,hn=>by
  have hx:=hn x (by simp)
  simp only[ZjN,Zq8,Zru,Zrx,List.sum_nil]
  rw[show ((0+1:Nat):Int)=1 by rfl,ZfC (by omega)]
  omega
 |x::y::r,_,hn=>by
  have hx:=hn x (by simp)
  have hr:∀z∈y::r,0<=z:=fun z hz=>hn z (by simp only[Zqw] at hz ⊢;right;exact hz)
  have hs:=ZaX hr
  obtain⟨h1,h2⟩:=Zdn (y::r) (by simp) hr
  rw[ZjN]
  have h3:=Zj3 (((y::r).length:Int)+1) ((y::r).sum-1)
  refine⟨by omega, ?_⟩
  have h4:=Zdl (p:=((y::r).length:Int)+1) (s:=(y::r).sum) (by simp only[Zq8];omega) hs
  rw[show ((y::r).length:Int)+1-1=(y::r).length by omega] at h4
  have h5:=Zhb (p:=((y::r).length:Int)+1) (s:=(y::r).sum) (t:=(x::y::r).sum) (by omega) (by simp only[Zrx];omega)
  rw[show (((x::y::r).length:Nat):Int)=((y::r).length:Int)+1 by simp only[Zq8];omega]
  omega
noncomputable def ZiN (l:List Int):Int:=cbN l.length l.sum-1-ZjN l
theorem Zmp {l:List Int} (h:l≠[]) (hn:∀x∈l,0<=x):0<=ZiN l/\ZiN l<cbN l.length l.sum:=by
 have:=Zdn l h hn
 unfold ZiN
 omega
theorem ZiM:∀{a b:List Int},a.length=b.length->a.sum=b.sum->(∀x∈a,0<=x)->(∀x∈b,0<=x)->a≠[] ->
  (∃i,i<a.length/\(∀j,j<i->a.getD j 0=b.getD j 0)/\a.getD i 0<b.getD i 0)->ZjN b<ZjN a
 |[],_,_,_,_,_,h,_=>absurd rfl h
 |[x],b,hl,hs,_,_,_,hd=>by
  obtain⟨i,hi,h1,h2⟩:=hd
  simp at hi
  subst hi
  match b,hl with
  |[z],_=>simp at hs h2;omega
 |x::y::r,b,hl,hs,hna,hnb,_,hd=>by
  match b,hl with
  |z::w::q,hl =>
   have hra:∀v∈y::r,0<=v:=fun v hv=>hna v (by simp only[Zqw] at hv ⊢;right;exact hv)
   have hrb:∀v∈w::q,0<=v:=fun v hv=>hnb v (by simp only[Zqw] at hv ⊢;right;exact hv)
   have hlen:(y::r).length=(w::q).length:=by simpa using hl
   have sa:=ZaX hra
   have sb:=ZaX hrb
   obtain⟨i,hi,h1,h2⟩:=hd
   rw[ZjN,ZjN]
   have hsum:x+(y::r).sum=z+(w::q).sum:=by simpa[Zrx] using hs
   cases i with
   |zero =>
    have h2:x<z:=by simpa using h2
    obtain⟨b1,b2⟩:=Zdn (w::q) (by simp) hrb
    have a1:=(Zdn (y::r) (by simp) hra).1
    have h4:=Zdl (p:=((w::q).length:Int)+1) (s:=(w::q).sum) (by simp only[Zq8];omega) sb
    rw[show ((w::q).length:Int)+1-1=(w::q).length by omega] at h4
    have h5:=Zhb (p:=((w::q).length:Int)+1) (s:=(w::q).sum) (t:=(y::r).sum-1) (by omega) (by omega)
    rw[hlen]
    omega
   |succ i =>
    have hxz:x=z:=by simpa using h1 0 (by omega)
    have ih:=ZiM (a:=y::r) (b:=w::q) hlen (by omega) hra hrb (by simp) ⟨i,by simpa using hi,fun j hj=>by simpa using h1 (j+1) (by omega),by simpa using h2⟩
    rw[hlen,show (y::r).sum=(w::q).sum by omega]
    omega
end L2
namespace L2
end L2
namespace My
open L2
end My
namespace L2
end L2
namespace My
open L2
end My
namespace L2
end L2
namespace L2
noncomputable def tri:Nat->Int
 |0=>0
 |k+1=>tri k+(k+1)
noncomputable def adI (l:List Int) (k i:Nat):Int:=l.getD i 0-((k:Int)-i)
structure Zqh (l:List Int) (k:Nat):Prop where
 lo:tri k<=l.sum
 hi:l.sum<tri (k+1)
 ad:∀i,i<=k->0<=adI l k i/\adI l k i<=1
 z:∀i,k<i->l.getD i 0=0
end L2
namespace L2
noncomputable def ZpX:Bool:=(List.range 63).all fun n=>(List.range (n+1)).all fun m=>(List.range (n+1)).all fun a =>
 ((a*Nat.gcd (n+1) m%(n+1)==0)==(a%((n+1)/Nat.gcd (n+1) m)==0))&&(a*Nat.gcd (n+1) m/(n+1)==a/((n+1)/Nat.gcd (n+1) m))&&decide (a/((n+1)/Nat.gcd (n+1) m)<=Nat.gcd (n+1) m)&&decide (0<Nat.gcd (n+1) m)&&decide (0<(n+1)/Nat.gcd (n+1) m)&&decide (Nat.gcd (n+1) m<=n+1)
theorem ZnT:ZpX=true:=by decide +kernel
structure Gd (n m a:Nat):Prop where
 mod:a*Nat.gcd n m%n=0 ↔ a%(n/Nat.gcd n m)=0
 div:a*Nat.gcd n m/n=a/(n/Nat.gcd n m)
 le:a/(n/Nat.gcd n m)<=Nat.gcd n m
 p1:0<Nat.gcd n m
 p2:0<n/Nat.gcd n m
 le2:Nat.gcd n m<=n
theorem gd {n m a:Nat} (h1:n<=63) (hm:m<n) (ha:a<n):Gd n m a:=by
 have h:=ZqH.mp (ZqH.mp (ZqH.mp ZnT (n-1) (ZqK.mpr (by omega))) m (ZqK.mpr (by omega))) a (ZqK.mpr (by omega))
 rw[show n-1+1=n by omega] at h
 simp only[Bool.and_eq_true,beq_iff_eq,decide_eq_true_eq] at h
 obtain⟨⟨⟨⟨⟨h1,h2⟩,h3⟩,h4⟩,h5⟩,h6⟩:=h
 refine⟨?_,h2,h3,h4,h5,h6⟩
 rw[<- beq_iff_eq (a:=a*Nat.gcd n m%n),<- beq_iff_eq (a:=a%(n/Nat.gcd n m)),h1]
end L2
namespace L2
open PySem
theorem ZgE:∀(ts:List (List Int)),ts≠[]->∃t,Zox ts t
 |[],h=>absurd rfl h
 |[t],_=>⟨t,by simp,fun u hu=>by rw[Zq0.mp hu];exact HL.Jb t⟩
 |t::u::ts,_=>by
  obtain⟨m,h1,h2⟩:=ZgE (u::ts) (by simp)
  cases e:HT.YC t m with
  |true =>
   refine⟨t,by simp,fun v hv=>?_⟩
   rcases Zqw.mp hv with rfl|hv
   ·exact HL.Jb _
   ·cases e2:HT.YC v t with
    |false=>rfl
    |true =>
     have:=HL.Jr e2 e
     rw[h2 v hv] at this;cases this
  |false =>
   refine⟨m,ZqB _ h1,fun v hv=>?_⟩
   rcases Zqw.mp hv with rfl|hv
   ·exact e
   ·exact h2 v hv
end L2
namespace My
open PySem L2
theorem ZaJ {b:List Int}{p:Int}{x:Nat} (hx:x<b.length):(Qy b p).getD x 0=ZbO b p (b.getD p.toNat 0%b.length) x:=by
 unfold Qy tab
 rw[Zqi,Zq7,Zrp hx];rfl
end My
namespace L2
theorem ZpZ {l m:List Int} (hl:l.length=m.length) (h:∀i,i<l.length->l.getD i 0=m.getD i 0):l=m:=by
 refine ZrL hl fun i h1 h2=>?_
 have:=h i h1
 rw[Zqi,Zqi,Zqm h1,Zqm h2] at this
 exact this
end L2
namespace My
open PySem L2
def Wide (ns:List Int):Prop:=∀x∈ns,0<=x/\x<=10^60
end My
namespace My
open L2
theorem ZpF:∀{x y:List Int},HT.YC x y=true->∃i,i<y.length/\(∀j,j<i->x.getD j 0=y.getD j 0)/\(x.getD i 0<y.getD i 0\/x.length<=i)
 |[],[],h=>by simp[HT.YC] at h
 |[],b::y,h=>⟨0,by simp,by simp,.inr (by simp)⟩
 |a::x,[],h=>by simp[HT.YC] at h
 |a::x,b::y,h=>by
  rw[HT.WL] at h
  by_cases e:a=b
  ·rw[if_pos e] at h
   obtain⟨i,h1,h2,h3⟩:=ZpF h
   refine⟨i+1,by simp;exact h1,fun j hj=>?_, ?_⟩
   ·cases j with
    |zero=>simpa using e
    |succ j=>simpa using h2 j (by omega)
   ·rcases h3 with z|z
    ·exact .inl (by simpa using z)
    ·exact .inr (by simpa using z)
  ·rw[if_neg e] at h
   exact⟨0,by simp,by simp,.inl (by simpa using h)⟩
theorem ZiQ:∀{x y:List Int}{i:Nat},i<x.length->i<y.length->(∀j,j<i->x.getD j 0=y.getD j 0)->x.getD i 0<y.getD i 0->HT.YC x y=true
 |[],_,_,h,_,_,_=>by simp at h
 |_::_,[],_,_,h,_,_=>by simp at h
 |a::x,b::y,0,_,_,_,h=>by
  rw[HT.WL]
  have h:a<b:=by simpa using h
  rw[if_neg (by omega),decide_eq_true h]
 |a::x,b::y,i+1,h1,h2,h3,h=>by
  rw[HT.WL,if_pos (by simpa using h3 0 (by omega))]
  exact ZiQ (i:=i) (by simpa using h1) (by simpa using h2) (fun j hj=>by simpa using h3 (j+1) (by omega)) (by simpa using h)
theorem ZgE:∀(l:List (List Int×Int)),l≠[]->∃t,Zpu l t
 |[],h=>absurd rfl h
 |a::l,_=>by
  by_cases hl:l=[]
  ·subst hl
   exact⟨a,by simp,fun u hu=>by simp at hu;rw[hu];exact HL.V0 a⟩
  ·obtain⟨t,t1,t2⟩:=ZgE l hl
   cases hc:HL.Jq t a with
   |true =>
    refine⟨t,by simp[t1],fun u hu=>?_⟩
    rcases Zqw.mp hu with rfl|hu
    ·cases hd:HL.Jq u t with
     |false=>rfl
     |true=>have:=HL.Za0 hd hc;rw[HL.V0] at this;cases this
    ·exact t2 u hu
   |false =>
    refine⟨a,by simp,fun u hu=>?_⟩
    rcases Zqw.mp hu with rfl|hu
    ·exact HL.V0 u
    ·cases hd:HL.Jq u a with
     |false=>rfl
     |true =>
      have h1:=t2 u hu
      by_cases he:t=a
      ·rw[<- he] at hd;rw[h1] at hd;cases hd
      ·have h2:HL.Jq a t=true:=by
        cases h3:HL.Jq a t with
        |true=>rfl
        |false=>exact absurd (ZdJ hc h3) he
       have:=HL.Za0 hd h2
       rw[h1] at this;cases this
def Bs (n:Nat) (s:Int) (b:List Int):Prop:=b.length=n/\(∀x∈b,0<=x)/\b.sum=s
theorem Bs.sow {n:Nat}{s:Int}{b:List Int} (h:Bs n s b) {p:Int} (h0:0<=p) (h1:p<n):Bs n s (Qy b p):=by
 obtain⟨l,nn,sm⟩:=h
 refine⟨by rw[ZeP];exact l,fun x hx=>?_,by rw[ZjX h0 (by omega) (Zaj nn _)];exact sm⟩
 unfold Qy tab at hx
 obtain⟨y,hy,rfl⟩:=Zq4.mp hx
 exact ZlQ nn _ y (ZqK.mp hy)
theorem Zg8:∀(n:Nat) (l:List Nat),l.Nodup->(∀x∈l,x<n)->l.length<=n:=by
 intro n
 induction n with
 |zero=>intro l _ h;cases l with
  |nil=>exact Zqn _
  |cons x l=>exact absurd (h x (by simp)) (by omega)
 |succ n ih =>
  intro l hd h
  have e:=ih (l.erase n) (hd.erase n) (fun x hx=>by
   have:=h x (List.mem_of_mem_erase hx)
   have:x≠n:=fun z=>by subst z;exact(List.Nodup.mem_erase_iff hd).mp hx |>.1 rfl
   omega)
  by_cases c:n∈l
  ·rw[List.length_erase_of_mem c] at e;omega
  ·rw[List.erase_of_not_mem c] at e;omega
theorem Zlv {a b:List Int} (hl:a.length=b.length) (hs:a.sum=b.sum) (ha:∀x∈a,0<=x) (hb:∀x∈b,0<=x) (h:HT.YC a b=true):ZiN a≠ZiN b:=by
 obtain⟨i,i1,i2,i3⟩:=ZpF h
 have:=ZiM hl hs ha hb (fun z=>by rw[z] at hl;simp at hl;omega) ⟨i,by omega,i2,by omega⟩
 unfold ZiN
 rw[hl,hs]
 omega
theorem Zmo {a b:List Int} (hl:a.length=b.length) (hs:a.sum=b.sum) (ha:∀x∈a,0<=x) (hb:∀x∈b,0<=x) (h:ZiN a=ZiN b):a=b:=by
 cases h1:HT.YC a b with
 |true=>exact absurd h (Zlv hl hs ha hb h1)
 |false =>
  cases h2:HT.YC b a with
  |true=>exact absurd h.symm (Zlv hl.symm hs.symm hb ha h2)
  |false=>exact HL.Js h1 h2
theorem Zom {n:Nat}{s:Int} (hn:1<=n) {L:List (List Int)} (nd:L.Nodup) (hL:∀x∈L,Bs n s x):L.length<=(cbN n s).toNat:=by
 have hb:∀x∈L,0<=ZiN x/\ZiN x<cbN n s:=fun x hx=>by
  obtain⟨l,nn,sm⟩:=hL x hx
  have:=Zmp (l:=x) (fun z=>by rw[z] at l;simp at l;omega) nn
  rw[l,sm] at this
  exact this
 have h:=Zg8 (cbN n s).toNat (L.map fun x=>(ZiN x).toNat) (by
  rw[Zrz,Zrw]
  refine(Zrz.mp nd).imp_of_mem ?_
  intro a b ha hb' hab e
  obtain⟨l,nn,sm⟩:=hL a ha
  obtain⟨l',nn',sm'⟩:=hL b hb'
  have:=hb a ha
  have:=hb b hb'
  exact hab (Zmo (by omega) (by omega) nn nn' (by omega))) (fun z hz=>by
  obtain⟨x,hx,rfl⟩:=Zq4.mp hz
  have:=hb x hx
  omega)
 rw[Zqt] at h
 exact h
inductive Rch (P:List Int) (b:List Int):List Int->Prop
 |refl:Rch P b b
 |step {x:List Int}{p:Int}:Rch P b x->p∈P->0<x.getD p.toNat 0->Rch P b (Qy x p)
theorem Rch.trans {P a b c:List Int} (h1:Rch P a b) (h2:Rch P b c):Rch P a c:=by
 induction h2 with
 |refl=>exact h1
 |step _ hp hx ih=>exact .step ih hp hx
theorem Rch.bs {P b:List Int}{n:Nat}{s:Int} (hP:∀p∈P,0<=p/\p<n) (hb:Bs n s b) {x:List Int} (h:Rch P b x):Bs n s x:=by
 induction h with
 |refl=>exact hb
 |step _ hp hx ih=>exact ih.sow (hP _ hp).1 (hP _ hp).2
noncomputable def QT (P:List Int) (x:List Int):List (Int×List Int):=(P.filter fun p=>decide (0<x.getD p.toNat 0)).map fun p=>(p,Qy x p)
theorem Zc9 {P x:List Int}{y:Int×List Int}:y∈QT P x ↔ y.1∈P/\0<x.getD y.1.toNat 0/\y.2=Qy x y.1:=by
 unfold QT
 constructor
 ·intro h
  obtain⟨p,hp,rfl⟩:=Zq4.mp h
  obtain⟨h1,h2⟩:=ZqS.mp hp
  exact⟨h1,of_decide_eq_true h2,rfl⟩
 ·rintro⟨h1,h2,h3⟩
  refine Zq4.mpr ⟨y.1,ZqS.mpr ⟨h1,decide_eq_true h2⟩, ?_⟩
  rw[<- h3]
noncomputable abbrev NB:=List (List Int)×List (List Int)×List PV
noncomputable def stB (x:List Int) (st:NB) (y:Int×List Int):NB:=if y.2∈st.2.1 then st else (st.1++[y.2],st.2.1++[y.2],st.2.2++[.tup [WR x,.int y.1]])
noncomputable def bdB (P x:List Int) (st:NB):NB:=(QT P x).foldl (stB x) st
noncomputable def lvB (P:List Int) (lv:List (List Int)) (st:NB):NB:=lv.foldl (fun st x=>bdB P x st) st
structure Fo (R:List Int->Prop) (bs0:List (List Int)) (st:NB):Prop where
 app:st.2.1=bs0++st.1
 nd:st.2.1.Nodup
 re:∀x∈st.2.1,R x
 ln:st.2.2.length=st.2.1.length
 fl:PV.flats st.2.2=true
theorem Zcq:∀(xs:List PV) (y:PV),PV.flats xs=true->PV.flat y=true->PV.flats (xs++[y])=true
 |[],y,_,h=>by simp[PV.flats,h]
 |x::xs,y,h1,h2=>by
  simp only[PV.flats,Bool.and_eq_true] at h1
  simp only[ZrI,PV.flats,Bool.and_eq_true]
  exact⟨h1.1,Zcq xs y h1.2 h2⟩
section
variable {R:List Int->Prop}{bs0:List (List Int)}{st:NB}
theorem Fo.one (h:Fo R bs0 st) {x:List Int}{y:Int×List Int} (hy:R y.2):Fo R bs0 (stB x st y)/\(∀z∈st.2.1,z∈(stB x st y).2.1)/\y.2∈(stB x st y).2.1:=by
 unfold stB
 split
 ·rename_i c
  exact⟨h,fun z hz=>hz,c⟩
 ·rename_i c
  refine⟨⟨by simp[h.app], ?_,fun z hz=>?_,by simp[h.ln], ?_⟩,fun z hz=>by simp[hz],by simp⟩
  ·show (st.2.1++[y.2]).Nodup
   rw[List.nodup_append]
   refine⟨h.nd,by simp,fun a ha b hb e=>?_⟩
   rw[Zq0.mp hb] at e
   rw[e] at ha
   exact c ha
  ·rcases Zqo.mp hz with hz|hz
   ·exact h.re z hz
   ·rw[Zq0.mp hz];exact hy
  ·exact Zcq _ _ h.fl (by simp only[PV.flat,PV.flats,Uh,Bool.and_self])
theorem Fo.fold {x:List Int}:∀{L:List (Int×List Int)}{st:NB},Fo R bs0 st->(∀y∈L,R y.2)->Fo R bs0 (L.foldl (stB x) st)/\(∀z∈st.2.1,z∈(L.foldl (stB x) st).2.1)/\∀y∈L,y.2∈(L.foldl (stB x) st).2.1
 |[],st,h,_=>⟨h,fun z hz=>hz,by simp⟩
 |y::L,st,h,hL=>by
  obtain⟨a1,a2,a3⟩:=h.one (x:=x) (hL y (by simp))
  obtain⟨b1,b2,b3⟩:=Fo.fold (x:=x) (L:=L) a1 fun z hz=>hL z (by simp[hz])
  refine⟨b1,fun z hz=>b2 z (a2 z hz),fun z hz=>?_⟩
  rcases Zqw.mp hz with rfl|hz
  ·exact b2 _ a3
  ·exact b3 z hz
end
section
variable {P b:List Int}{bs0:List (List Int)}
theorem Fo.lv:∀{lv:List (List Int)}{st:NB},Fo (Rch P b) bs0 st->(∀x∈lv,Rch P b x)->Fo (Rch P b) bs0 (lvB P lv st)/\(∀z∈st.2.1,z∈(lvB P lv st).2.1)/\∀x∈lv,∀p∈P,0<x.getD p.toNat 0->Qy x p∈(lvB P lv st).2.1
 |[],st,h,_=>⟨h,fun z hz=>hz,by simp⟩
 |x::lv,st,h,hL=>by
  obtain⟨a1,a2,a3⟩:=Fo.fold (x:=x) (L:=QT P x) h fun y hy=>by
   obtain⟨h1,h2,h3⟩:=Zc9.mp hy
   rw[h3]
   exact .step (hL x (by simp)) h1 h2
  obtain⟨b1,b2,b3⟩:=Fo.lv (lv:=lv) a1 fun z hz=>hL z (by simp[hz])
  refine⟨b1,fun z hz=>b2 z (a2 z hz),fun z hz p hp hx=>?_⟩
  rcases Zqw.mp hz with rfl|hz
  ·exact b2 _ (a3 (p,Qy z p) (Zc9.mpr ⟨hp,hx,rfl⟩))
  ·exact b3 z hz p hp hx
end
noncomputable def wk (P b:List Int):Nat->NB
 |0=>([b],[b],[.non])
 |i+1=>lvB P (wk P b i).1 ([],(wk P b i).2)
structure Wk (P b:List Int) (st:NB):Prop where
 nd:st.2.1.Nodup
 re:∀x∈st.2.1,Rch P b x
 sub:∀x∈st.1,x∈st.2.1
 cl:∀x∈st.2.1,x∈st.1\/∀p∈P,0<x.getD p.toNat 0->Qy x p∈st.2.1
 bg:b∈st.2.1
 ln:st.2.2.length=st.2.1.length
 fl:PV.flats st.2.2=true
theorem Zd0 (P b:List Int):∀i,Wk P b (wk P b i)
 |0=>⟨by simp[wk],fun x hx=>by rw[Zq0.mp hx];exact .refl,fun x hx=>hx,fun x hx=>.inl hx,by simp[wk],rfl,rfl⟩
 |i+1=>by
  have h:=Zd0 P b i
  have f0:Fo (Rch P b) (wk P b i).2.1 ([],(wk P b i).2):=⟨by simp,h.nd,h.re,h.ln,h.fl⟩
  obtain⟨a1,a2,a3⟩:=Fo.lv f0 fun x hx=>h.re x (h.sub x hx)
  show Wk P b (lvB P (wk P b i).1 ([],(wk P b i).2))
  refine⟨a1.nd,a1.re,fun x hx=>?_,fun x hx=>?_,a2 _ h.bg,a1.ln,a1.fl⟩
  ·rw[a1.app];exact Zqo.mpr (.inr hx)
  ·rw[a1.app] at hx
   rcases Zqo.mp hx with hx|hx
   ·right
    intro p hp hp0
    rcases h.cl x hx with c|c
    ·exact a3 x c p hp hp0
    ·exact a2 _ (c p hp hp0)
   ·exact .inl hx
theorem ZkY (P b:List Int) (i:Nat):(wk P b (i+1)).2.1=(wk P b i).2.1++(wk P b (i+1)).1:=by
 have h:=Zd0 P b i
 have f0:Fo (Rch P b) (wk P b i).2.1 ([],(wk P b i).2):=⟨by simp,h.nd,h.re,h.ln,h.fl⟩
 exact(Fo.lv f0 fun x hx=>h.re x (h.sub x hx)).1.app
theorem ZkX (P b:List Int):∀i,(∀j,j<=i->(wk P b j).1≠[])->i+1<=(wk P b i).2.1.length
 |0,_=>by simp[wk]
 |i+1,h=>by
  have ih:=ZkX P b i fun j hj=>h j (by omega)
  rw[ZkY,ZqV]
  have:=ZrV.mpr (h (i+1) (Zqn _))
  omega
noncomputable def wkN (P b:List Int):Nat:=((List.range 1001).find? fun i=>(wk P b i).1.isEmpty).getD 0
structure ZaS (n:Nat) (s:Int) (P b:List Int):Prop where
 n1:1<=n
 hP:∀p∈P,0<=p/\p<n
 hb:Bs n s b
 few:cbN n s<=1000
theorem ZaS.le {n:Nat}{s:Int}{P b:List Int} (h:ZaS n s P b) (i:Nat):(wk P b i).2.1.length<=1000:=by
 have:=Zom h.n1 (Zd0 P b i).nd fun x hx=>((Zd0 P b i).re x hx).bs h.hP h.hb
 have:=h.few
 omega
theorem ZaS.end {n:Nat}{s:Int}{P b:List Int} (h:ZaS n s P b):wkN P b<=1000/\(wk P b (wkN P b)).1=[]/\∀j,j<wkN P b->(wk P b j).1≠[]:=by
 have hex:∃i,i<1001/\(wk P b i).1=[]:=by
  apply Classical.byContradiction
  intro c
  have:=ZkX P b 1000 fun j hj e=>c ⟨j,by omega,e⟩
  have:=h.le 1000
  omega
 obtain⟨t,t1,t2⟩:=hex
 unfold wkN
 cases hf:(List.range 1001).find? fun i=>(wk P b i).1.isEmpty with
 |none =>
  have:=List.find?_eq_none.mp hf t (ZqK.mpr t1)
  rw[t2] at this
  exact absurd rfl this
 |some q =>
  obtain⟨q1,q2,q3⟩:=List.find?_range_eq_some.mp hf
  refine⟨by have:=ZqK.mp q2;simp only[Zr2];omega,List.isEmpty_iff.mp q1,fun j hj e=>?_⟩
  have:=q3 j hj
  simp[e] at this
noncomputable def ZhR (P b:List Int):List (List Int):=(wk P b (wkN P b)).2.1
theorem ZaS.mem {n:Nat}{s:Int}{P b:List Int} (h:ZaS n s P b) {x:List Int}:x∈ZhR P b ↔ Rch P b x:=by
 have W:=Zd0 P b (wkN P b)
 have e:=h.end.2.1
 constructor
 ·exact fun hx=>W.re x hx
 ·intro hx
  induction hx with
  |refl=>exact W.bg
  |step _ hp h0 ih =>
   rcases W.cl _ ih with c|c
   ·rw[e] at c;cases c
   ·exact c _ hp h0
theorem ZlX (P b:List Int):(ZhR P b).Nodup:=(Zd0 P b _).nd
noncomputable def QO (P b:List Int):List (List Int):=ZjM (ZhR P b)
theorem Zj1 (P b:List Int):(QO P b).Nodup:=(WS _).nodup_iff.mpr (ZlX P b)
theorem ZaS.com {n:Nat}{s:Int}{P b:List Int} (h:ZaS n s P b) {x:List Int}:x∈QO P b ↔ Rch P b x:=by
 unfold QO
 rw[(WS _).mem_iff,h.mem]
theorem ZaS.go {n:Nat}{s:Int}{P b:List Int} (h:ZaS n s P b) {x:List Int} (hx:Rch P b x):ZaS n s P x:=⟨h.n1,h.hP,hx.bs h.hP h.hb,h.few⟩
noncomputable def endB (P x:List Int):Bool:=P.all fun p=>decide (x.getD p.toNat 0=0)
noncomputable def Zcs (P b:List Int):List (List Int):=(QO P b).filter (endB P)
theorem U7 {P x:List Int}:endB P x=true ↔ ∀p∈P,x.getD p.toNat 0=0:=by
 unfold endB
 rw[ZqH]
 exact⟨fun h p hp=>of_decide_eq_true (h p hp),fun h p hp=>decide_eq_true (h p hp)⟩
theorem Zlg {α:Type}:∀{L:List α}{x:α},L.Nodup->x∈L->(∀y∈L,y=x)->L=[x]
 |[],x,_,h,_=>by cases h
 |[y],x,_,_,h=>by rw[h y (by simp)]
 |y::z::L,x,nd,_,h=>by
  have h1:=h y (by simp)
  have h2:=h z (by simp)
  rw[h1,h2] at nd
  simp at nd
theorem Zm8 {P x y:List Int} (h:endB P x=true) (hy:Rch P x y):y=x:=by
 have h:=U7.mp h
 induction hy with
 |refl=>rfl
 |step hx hp h0 ih =>
  subst ih
  have:=h _ hp
  omega
theorem ZaS.end_com {n:Nat}{s:Int}{P x:List Int} (h:ZaS n s P x) (he:endB P x=true):QO P x=[x]:=Zlg (Zj1 P x) (h.com.mpr .refl) fun y hy=>Zm8 he (h.com.mp hy)
theorem ZaS.end_end {n:Nat}{s:Int}{P x:List Int} (h:ZaS n s P x) (he:endB P x=true):Zcs P x=[x]:=by
 unfold Zcs
 rw[h.end_com he,Zsg,he];rfl
noncomputable def Zfu (n:Nat) (s:Int) (q:Nat) (x:List Int):List Int:=(s-x.getD q 0)::(List.range n).map fun(j:Nat)=>x.getD ((q+1+j)%n) 0
theorem ZaP {n:Nat}{s:Int}{q:Nat}{x:List Int}{j:Nat} (h:j<n):(Zfu n s q x).getD (j+1) 0=x.getD ((q+1+j)%n) 0:=by
 unfold Zfu
 rw[List.getD_cons_succ,Zqi,Zq7,Zrp h];rfl
theorem Zih {n:Nat}{s:Int}{x:List Int} (h:Bs n s x) {q:Nat} (hq:q<n) {p:Int} (p0:0<=p) (p1:p<n) (hpq:p≠q) (hx:0<x.getD p.toNat 0):HT.YC (Zfu n s q (Qy x p)) (Zfu n s q x)=true:=by
 obtain⟨l,nn,sm⟩:=h
 have hn:(0:Int)<n:=by omega
 have hpN:p.toNat<n:=by omega
 have gq:(Qy x p).getD q 0=ZbO x p (x.getD p.toNat 0%x.length) q:=ZaJ (by omega)
 have d0:=ZrU (Int.le_of_lt hx) (show (0:Int)<=x.length by omega)
 have i0:=ZeO x.length p (x.getD p.toNat 0%x.length) q
 have hqa:(Qy x p).getD q 0=x.getD q 0+x.getD p.toNat 0/x.length+Zle x.length p (x.getD p.toNat 0%x.length) q:=by
  rw[gq];unfold ZbO;rw[ZcA (by omega)]
 have hlen:∀y,(Zfu n s q y).length=n+1:=fun y=>by simp[Zfu]
 by_cases c:x.getD q 0<(Qy x p).getD q 0
 ·refine ZiQ (i:=0) (by rw[hlen];omega) (by rw[hlen];omega) (by omega) ?_
  show s-(Qy x p).getD q 0<s-x.getD q 0
  omega
 ·have e0:(Qy x p).getD q 0=x.getD q 0:=by omega
  have ed:x.getD p.toNat 0/x.length=0:=by omega
  have ei:Zle x.length p (x.getD p.toNat 0%x.length) q=0:=by omega
  have hov:x.getD p.toNat 0%x.length=x.getD p.toNat 0:=by
   have:=Int.mul_ediv_add_emod (x.getD p.toNat 0) x.length
   rw[ed,Int.mul_zero] at this
   omega
  have hj:∃j:Nat,j<n/\(q+1+j)%n=p.toNat:=by
   by_cases c2:q<p.toNat
   ·exact⟨p.toNat-q-1,by omega,by rw[show q+1+(p.toNat-q-1)=p.toNat by omega];exact Zrj hpN⟩
   ·refine⟨p.toNat+n-q-1,by omega, ?_⟩
    rw[show q+1+(p.toNat+n-q-1)=p.toNat+n by omega,Nat.add_mod_right]
    exact Zrj hpN
  obtain⟨j,j1,j2⟩:=hj
  have hdq:¬(((q:Int)-p)%x.length<=x.getD p.toNat 0):=fun z=>by
   have hne:((q:Int)-p)%x.length≠0:=by
    rw[l]
    intro z
    have m2:=ZcM (n:=n) (show (0:Int)<=(q:Int) by omega) (by omega) p0 p1
    rw[m2] at z
    split at z<;>omega
   have h1:=ZqJ ((q:Int)-p) (show (x.length:Int)≠0 by omega)
   rw[ZaI ⟨by omega,by rw[hov];exact z⟩] at ei
   omega
  refine ZiQ (i:=j+1) (by rw[hlen];omega) (by rw[hlen];omega) (fun k hk=>?_) ?_
  ·cases k with
   |zero=>show s-(Qy x p).getD q 0=s-x.getD q 0;omega
   |succ k =>
    rw[ZaP (by omega),ZaP (by omega)]
    have hr:(q+1+k)%n<n:=Nat.mod_lt _ (by omega)
    rw[ZaJ (by omega)]
    unfold ZbO
    have hkj:k<j:=by omega
    generalize hr':(q+1+k)%n=r at hr
    have hrp:(r:Int)≠p:=fun z=>by
     have e1:(q+1+k)%n=(q+1+j)%n:=by omega
     have e2:=Nat.sub_mod_eq_zero_of_mod_eq e1.symm
     rw[show q+1+j-(q+1+k)=j-k by omega,Zrj (by omega)] at e2
     omega
    rw[ZcA hrp,ed,QU (fun z=>?_)]
    ·omega
    ·apply hdq
     have z2:=z.2
     rw[hov] at z2
     rw[l] at z2 ⊢
     have m1:=ZcM (n:=n) (show (0:Int)<=(r:Int) by omega) (by omega) p0 p1
     have m2:=ZcM (n:=n) (show (0:Int)<=(q:Int) by omega) (by omega) p0 p1
     have b1:=hr'
     have b2:=j2
     have w1:(q+1+k)%n=if q+1+k<n then q+1+k else q+1+k-n:=by
      split
      ·exact Zrj (by omega)
      ·rw[Nat.mod_eq_sub_mod (by omega)];exact Zrj (by omega)
     have w2:(q+1+j)%n=if q+1+j<n then q+1+j else q+1+j-n:=by
      split
      ·exact Zrj (by omega)
      ·rw[Nat.mod_eq_sub_mod (by omega)];exact Zrj (by omega)
     rw[w1] at b1
     rw[w2] at b2
     rw[m1] at z2
     rw[m2]
     split at b1<;>split at b2<;>split at z2<;>split<;>omega
  ·rw[ZaP j1,ZaP j1,j2,ZaJ (by omega)]
   unfold ZbO
   rw[Zlf (by omega),ed,QU (by
    intro z
    have:=z.1
    rw[show ((p.toNat:Nat):Int)-p=0 by omega,Int.zero_emod] at this
    omega)]
   omega
theorem ZaS.ends {n:Nat}{s:Int}{P b:List Int} (h:ZaS n s P b) {q:Nat} (hq:q<n) (hqP:(q:Int) ∉ P):∃x,Rch P b x/\endB P x=true:=by
 obtain⟨t,ht,hmin⟩:=L2.ZgE ((ZhR P b).map (Zfu n s q)) (fun z=>by
  have:=h.mem.mpr (.refl (P:=P) (b:=b))
  rw[List.map_eq_nil_iff.mp z] at this
  cases this)
 obtain⟨x,hx,rfl⟩:=Zq4.mp ht
 have rx:=h.mem.mp hx
 refine⟨x,rx,U7.mpr fun p hp=>?_⟩
 have B:=rx.bs h.hP h.hb
 have hp':=h.hP p hp
 have nn:=Zaj B.2.1 p.toNat
 apply Classical.byContradiction
 intro c
 have h0:0<x.getD p.toNat 0:=by omega
 have h1:=hmin _ (Zq4.mpr ⟨Qy x p,h.mem.mpr (.step rx hp h0),rfl⟩)
 rw[Zih B hq hp'.1 hp'.2 (fun z=>by rw[z] at hp;exact hqP hp) h0] at h1
 cases h1
theorem Ziq {n:Nat}{s:Int}{P b x:List Int} (hP:∀p∈P,0<=p/\p<n) (hb:Bs n s b) (h:Rch P b x) {q:Nat} (hq:q<n) (hqP:(q:Int) ∉ P):b.getD q 0<=x.getD q 0:=by
 induction h with
 |refl=>exact Int.le_refl _
 |@step y p hy hp h0 ih =>
  have B:=hy.bs hP hb
  have l:=B.1
  rw[ZaJ (by omega)]
  unfold ZbO
  rw[ZcA (fun z=>by rw[z] at hqP;exact hqP hp)]
  have d0:=ZrU (Int.le_of_lt h0) (show (0:Int)<=y.length by omega)
  have i0:=ZeO y.length p (y.getD p.toNat 0%y.length) q
  omega
end My
namespace My
open PySem L2
set_option hygiene false
local macro_rules | `(tactic| walk_at "pu")=>`(tactic| try simp -implicitDefEqProofs only[Zjb,Zjc,ZrZ,Zsa,ZrI,Zrd,List.replicate_succ,List.replicate_zero,Zra,Rr.bind_ok,Rr.bind_exc,Rr.bind_bad,Rr.thenS_ok,Rr.thenS_exc,RS.seq_next,RS.seq_ret,RS.seq_exc,RS.out_next,RS.out_ret,RS.out_exc,
 ZiH,Zi6,Zll,Zlm,Zls,Zlt,Zjd,ZlE,ZjH,ZjI,Zlq,Zlp,Zlo,Zln,ZgM,ZgN,ZgL,ZiD,ZcL,ZdL,ZdK,Zq8,Zru,Bool.not_true,Bool.not_false,Bool.false_eq_true,if_true,if_false,Nat.reduceAdd,Nat.reduceSub,id,Zqz,Zr5,Int.reduceToNat,Zcl,Zbl,Zn7,Zly,Zlx,ZgO,ZgB,Nat.reduceLeDiff,Zqn,Int.reduceLT,Int.reduceLE,Int.reduceEq,decide_true,decide_false])
set_option hygiene true
seal PE PT PA PS PSs DE DT DAA DAF DS
noncomputable def top (i:Nat):Stmt:=PySem.Challenge.pw_sowring_k25_ends_and_seeds.main.body.getD i (.Pass ⟨0,0,0,0⟩)
noncomputable abbrev ZY:Stmt:=top 36
theorem Zbb:Zy ["script", "k"] ["script", "k"] (Zg ZY):=⟨rfl,rfl,rfl,by decide +kernel,rfl,by decide +kernel,by decide +kernel⟩
theorem JC:Zr "_law_cell_at" ZY ["script", "k"]:=fun _ _ _ _ _ _ us hl=>by obtain⟨_,_,rfl⟩:=us2 hl;rfl
noncomputable abbrev ZX:Stmt:=top 38
theorem VR:Zy ["cell", "j", "first"] ["cell", "j"] (Zg ZX):=⟨rfl,rfl,rfl,by decide +kernel,rfl,by decide +kernel,by decide +kernel⟩
theorem JB:Zr "_law_stirred" ZX ["cell", "j"]:=fun _ _ _ _ _ _ us hl=>by obtain⟨_,_,rfl⟩:=us2 hl;rfl
noncomputable abbrev Wz:Stmt:=top 42
theorem WK:Zy ["script", "cell", "pits", "seeds"] ["script"] (Zg Wz):=⟨rfl,rfl,rfl,by decide +kernel,rfl,by decide +kernel,by decide +kernel⟩
theorem ZfK:Zr "_law_few" Wz ["script"]:=fun _ _ _ _ _ _ us hl=>by obtain⟨_,rfl⟩:=us1 hl;rfl
noncomputable abbrev YT:Stmt:=top 37
theorem WU:Zy ["script", "later", "most", "sums", "k", "at"] ["script", "later", "most"] (Zg YT):=⟨rfl,rfl,rfl,by decide +kernel,rfl,by decide +kernel,by decide +kernel⟩
theorem Ze6:Zr "_law_sums" YT ["script", "later", "most"]:=fun _ _ _ _ _ _ us hl=>by obtain⟨_,_,_,rfl⟩:=us3 hl;rfl
noncomputable abbrev Wy:Stmt:=top 39
theorem Y9:Zy ["script", "skip", "many", "base", "mixed", "sums", "total", "row", "j"] ["script", "skip", "many", "base", "mixed"] (Zg Wy):=⟨rfl,rfl,rfl,by decide +kernel,rfl,by decide +kernel,by decide +kernel⟩
theorem ZfJ:Zr "_law_row" Wy ["script", "skip", "many", "base", "mixed"]:=fun _ _ _ _ _ _ us hl=>by obtain⟨_,_,_,_,_,rfl⟩:=us5 hl;rfl
noncomputable abbrev YV:Stmt:=top 41
theorem VS:Zy ["places", "pits", "board", "at"] ["places", "pits"] (Zg YV):=⟨rfl,rfl,rfl,by decide +kernel,rfl,by decide +kernel,by decide +kernel⟩
theorem Ze8:Zr "_law_laid" YV ["places", "pits"]:=fun _ _ _ _ _ _ us hl=>by obtain⟨_,_,rfl⟩:=us2 hl;rfl
noncomputable abbrev YW:Stmt:=top 43
theorem WV:Zy ["script", "pits", "cell", "bars"] ["script", "pits"] (Zg YW):=⟨rfl,rfl,rfl,by decide +kernel,rfl,by decide +kernel,by decide +kernel⟩
theorem Ze9:Zr "_law_bars" YW ["script", "pits"]:=fun _ _ _ _ _ _ us hl=>by obtain⟨_,_,rfl⟩:=us2 hl;rfl
noncomputable abbrev Ww:Stmt:=top 10
theorem ZeR:Zy ["value"] ["value"] (Zg Ww):=⟨rfl,rfl,rfl,by decide +kernel,rfl,by decide +kernel,by decide +kernel⟩
theorem ZfH:Zr "is_whole" Ww ["value"]:=fun _ _ _ _ _ _ us hl=>by obtain⟨_,rfl⟩:=us1 hl;rfl
noncomputable abbrev ZJ:Stmt:=top 11
theorem Za7:Zy ["value", "least"] ["value", "least"] (Zg ZJ):=⟨rfl,rfl,rfl,by decide +kernel,rfl,by decide +kernel,by decide +kernel⟩
theorem VH:Zr "is_whole_from" ZJ ["value", "least"]:=fun _ _ _ _ _ _ us hl=>by obtain⟨_,_,rfl⟩:=us2 hl;rfl
noncomputable abbrev Zx:Stmt:=top 12
theorem WH:Zy ["values"] ["values"] (Zg Zx):=⟨rfl,rfl,rfl,by decide +kernel,rfl,by decide +kernel,by decide +kernel⟩
theorem VM:Zr "is_list_from_nought" Zx ["values"]:=fun _ _ _ _ _ _ us hl=>by obtain⟨_,rfl⟩:=us1 hl;rfl
noncomputable abbrev Y0:Stmt:=top 9
theorem ZcC:Zy [] [] (Zg Y0):=⟨rfl,rfl,rfl,by decide +kernel,rfl,by decide +kernel,by decide +kernel⟩
theorem Zdq:Zr "most_seeds" Y0 []:=fun _ _ _ _ _ _ us hl=>match us,hl with | [],_=>rfl
noncomputable abbrev Wx:Stmt:=top 13
theorem ZeS:Zy ["board"] ["board"] (Zg Wx):=⟨rfl,rfl,rfl,by decide +kernel,rfl,by decide +kernel,by decide +kernel⟩
theorem ZfI:Zr "is_board" Wx ["board"]:=fun _ _ _ _ _ _ us hl=>by obtain⟨_,rfl⟩:=us1 hl;rfl
noncomputable abbrev Ym:Stmt:=top 14
theorem ZbP:Zy ["board"] ["board"] (Zg Ym):=⟨rfl,rfl,rfl,by decide +kernel,rfl,by decide +kernel,by decide +kernel⟩
theorem ZbX:Zr "check_board" Ym ["board"]:=fun _ _ _ _ _ _ us hl=>by obtain⟨_,rfl⟩:=us1 hl;rfl
noncomputable abbrev YR:Stmt:=top 16
theorem Zaz:Zy ["numbers"] ["numbers"] (Zg YR):=⟨rfl,rfl,rfl,by decide +kernel,rfl,by decide +kernel,by decide +kernel⟩
theorem Ze5:Zr "is_rising" YR ["numbers"]:=fun _ _ _ _ _ _ us hl=>by obtain⟨_,rfl⟩:=us1 hl;rfl
noncomputable abbrev JG:Stmt:=top 15
theorem Zil:Zy ["board", "pit"] ["board", "pit"] (Zg JG):=⟨rfl,rfl,rfl,by decide +kernel,rfl,by decide +kernel,by decide +kernel⟩
theorem ZjD:Zr "is_pit" JG ["board", "pit"]:=fun _ _ _ _ _ _ us hl=>by obtain⟨_,_,rfl⟩:=us2 hl;rfl
noncomputable abbrev ZW:Stmt:=top 17
theorem VQ:Zy ["board", "barred"] ["board", "barred"] (Zg ZW):=⟨rfl,rfl,rfl,by decide +kernel,rfl,by decide +kernel,by decide +kernel⟩
theorem ZbI:Zr "check_barred" ZW ["board", "barred"]:=fun _ _ _ _ _ _ us hl=>by obtain⟨_,_,rfl⟩:=us2 hl;rfl
noncomputable abbrev ZV:Stmt:=top 19
theorem W7:Zy ["pits", "seeds", "count", "k"] ["pits", "seeds"] (Zg ZV):=⟨rfl,rfl,rfl,by decide +kernel,rfl,by decide +kernel,by decide +kernel⟩
theorem ZbH:Zr "count_boards" ZV ["pits", "seeds"]:=fun _ _ _ _ _ _ us hl=>by obtain⟨_,_,rfl⟩:=us2 hl;rfl
noncomputable abbrev Z5:Stmt:=top 24
theorem UG:Zy ["board"] ["board"] (Zg Z5):=⟨rfl,rfl,rfl,by decide +kernel,rfl,by decide +kernel,by decide +kernel⟩
theorem Qk:Zr "check_few_boards" Z5 ["board"]:=fun _ _ _ _ _ _ us hl=>by obtain⟨_,rfl⟩:=us1 hl;rfl
noncomputable abbrev Y4:Stmt:=top 30
theorem ZcD:Zy ["board", "barred"] ["board", "barred"] (Zg Y4):=⟨rfl,rfl,rfl,by decide +kernel,rfl,by decide +kernel,by decide +kernel⟩
theorem Zds:Zr "check_play" Y4 ["board", "barred"]:=fun _ _ _ _ _ _ us hl=>by obtain⟨_,_,rfl⟩:=us2 hl;rfl
noncomputable abbrev ZI:Stmt:=top 27
theorem VF:Zy ["boards"] ["boards"] (Zg ZI):=⟨rfl,rfl,rfl,by decide +kernel,rfl,by decide +kernel,by decide +kernel⟩
theorem ZaB:Zr "rising_boards" ZI ["boards"]:=fun _ _ _ _ _ _ us hl=>by obtain⟨_,rfl⟩:=us1 hl;rfl
noncomputable abbrev YS:Stmt:=top 32
theorem VP:Zy ["board", "barred"] ["board", "barred"] (Zg YS):=⟨rfl,rfl,rfl,by decide +kernel,rfl,by decide +kernel,by decide +kernel⟩
theorem Za5:Zr "free_pits" YS ["board", "barred"]:=fun _ _ _ _ _ _ us hl=>by obtain⟨_,_,rfl⟩:=us2 hl;rfl
noncomputable abbrev WW:Stmt:=top 21
theorem Wu:Zy ["board", "pit", "pits", "rounds", "over", "other", "last", "step"] ["board", "pit"] (Zg WW):=⟨rfl,rfl,rfl,by decide +kernel,rfl,by decide +kernel,by decide +kernel⟩
theorem ZhF:Zr "sow_pit" WW ["board", "pit"]:=fun _ _ _ _ _ _ us hl=>by obtain⟨_,_,rfl⟩:=us2 hl;rfl
noncomputable abbrev Yy:Stmt:=top 26
theorem Vz:Zy ["board", "pits"] ["board", "pits"] (Zg Yy):=⟨rfl,rfl,rfl,by decide +kernel,rfl,by decide +kernel,by decide +kernel⟩
theorem Zdo:Zr "sowings_of" Yy ["board", "pits"]:=fun _ _ _ _ _ _ us hl=>by obtain⟨_,_,rfl⟩:=us2 hl;rfl
noncomputable abbrev Yz:Stmt:=top 25
theorem Jl:Zy ["level", "pits", "came_from", "found", "board", "step"] ["level", "pits", "came_from"] (Zg Yz):=⟨rfl,rfl,rfl,by decide +kernel,rfl,by decide +kernel,by decide +kernel⟩
theorem Zdp:Zr "next_level" Yz ["level", "pits", "came_from"]:=fun _ _ _ _ _ _ us hl=>by obtain⟨_,_,_,rfl⟩:=us3 hl;rfl
noncomputable abbrev YQ:Stmt:=top 31
theorem WT:Zy ["board", "barred", "pits", "came_from", "level"] ["board", "barred"] (Zg YQ):=⟨rfl,rfl,rfl,by decide +kernel,rfl,by decide +kernel,by decide +kernel⟩
theorem Ze4:Zr "walk_from" YQ ["board", "barred"]:=fun _ _ _ _ _ _ us hl=>by obtain⟨_,_,rfl⟩:=us2 hl;rfl
noncomputable abbrev WY:Stmt:=top 29
theorem Zhk:Zy ["board", "barred"] ["board", "barred"] (Zg WY):=⟨rfl,rfl,rfl,by decide +kernel,rfl,by decide +kernel,by decide +kernel⟩
theorem Zcz:Zr "come_to" WY ["board", "barred"]:=fun _ _ _ _ _ _ us hl=>by obtain⟨_,_,rfl⟩:=us2 hl;rfl
noncomputable abbrev Y1:Stmt:=top 34
theorem Qz:Zy ["board", "pits"] ["board", "pits"] (Zg Y1):=⟨rfl,rfl,rfl,by decide +kernel,rfl,by decide +kernel,by decide +kernel⟩
theorem Zdr:Zr "free_seeds" Y1 ["board", "pits"]:=fun _ _ _ _ _ _ us hl=>by obtain⟨_,_,rfl⟩:=us2 hl;rfl
noncomputable abbrev WX:Stmt:=top 33
theorem Vh:Zy ["board", "barred", "boards", "pits"] ["board", "barred"] (Zg WX):=⟨rfl,rfl,rfl,by decide +kernel,rfl,by decide +kernel,by decide +kernel⟩
theorem ZhG:Zr "ends_of" WX ["board", "barred"]:=fun _ _ _ _ _ _ us hl=>by obtain⟨_,_,rfl⟩:=us2 hl;rfl
noncomputable abbrev W4:Stmt:=top 45
theorem Zba:Zy ["one", "board", "bars", "pit"] ["one", "board", "bars"] (Zg W4):=⟨rfl,rfl,rfl,by decide +kernel,rfl,by decide +kernel,by decide +kernel⟩
theorem ZfL:Zr "_law_end" W4 ["one", "board", "bars"]:=fun _ _ _ _ _ _ us hl=>by obtain⟨_,_,_,rfl⟩:=us3 hl;rfl
noncomputable abbrev YU:Stmt:=top 40
theorem Wv:Zy ["board", "pit", "pits", "seeds", "made", "k", "at"] ["board", "pit"] (Zg YU):=⟨rfl,rfl,rfl,by decide +kernel,rfl,by decide +kernel,by decide +kernel⟩
theorem Ze7:Zr "_law_sown" YU ["board", "pit"]:=fun _ _ _ _ _ _ us hl=>by obtain⟨_,_,rfl⟩:=us2 hl;rfl
noncomputable abbrev Yn:Stmt:=top 44
theorem JK:Zy ["board", "bars", "told", "pit"] ["board", "bars"] (Zg Yn):=⟨rfl,rfl,rfl,by decide +kernel,rfl,by decide +kernel,by decide +kernel⟩
theorem ZbY:Zr "_law_behind" Yn ["board", "bars"]:=fun _ _ _ _ _ _ us hl=>by obtain⟨_,_,rfl⟩:=us2 hl;rfl
noncomputable abbrev ZdA:Stmt:=top 46
theorem Vg:Zy ["script", "pits", "seeds", "row", "board", "bars", "ends", "one", "met", "cell", "k", "some"] ["script"] (Zg ZdA):=⟨rfl,rfl,rfl,by decide +kernel,rfl,by decide +kernel,by decide +kernel⟩
theorem Zop:Zr "law" ZdA ["script"]:=fun _ _ _ _ _ _ us hl=>by obtain⟨_,rfl⟩:=us1 hl;rfl
noncomputable abbrev XN:List Str:=["SowError", "BadBoard", "BadPits", "TooMany"]
noncomputable abbrev ZfP:List (Str×Str×Bool):=[("SowError", "SowError",true),("BadBoard", "SowError",true),("BadPits", "SowError",true),("TooMany", "SowError",true)]
noncomputable abbrev ZfQ:List (Str×Str×Bool):=[("SowError", "BadBoard",false),("BadBoard", "BadBoard",true),("BadPits", "BadBoard",false),("TooMany", "BadBoard",false)]
noncomputable abbrev ZhI:List (Str×Str×Bool):=[("SowError", "BadPits",false),("BadBoard", "BadPits",false),("BadPits", "BadPits",true),("TooMany", "BadPits",false)]
noncomputable abbrev ZhH:List (Str×Str×Bool):=[("SowError", "TooMany",false),("BadBoard", "TooMany",false),("BadPits", "TooMany",false),("TooMany", "TooMany",true)]
noncomputable abbrev XS:List (Str×Str×Bool):=ZfP++ZfQ++ZhI++ZhH
noncomputable abbrev XR:List Str:=["SowError", "BadBoard", "BadPits", "TooMany"]
structure Txt (K:PySem.W.Frag) (mg:Str->Option Value):Prop where
 JZ:Dfn K mg "_law_cell_at" ZY
 JY:Dfn K mg "_law_stirred" ZX
 ZhB:Dfn K mg "_law_few" Wz
 Zf7:Dfn K mg "_law_sums" YT
 ZhA:Dfn K mg "_law_row" Wy
 Zf9:Dfn K mg "_law_laid" YV
 ZfA:Dfn K mg "_law_bars" YW
 Zh8:Dfn K mg "is_whole" Ww
 Uq:Dfn K mg "is_whole_from" ZJ
 Ur:Dfn K mg "is_list_from_nought" Zx
 Zep:Dfn K mg "most_seeds" Y0
 Zh9:Dfn K mg "is_board" Wx
 Zdi:Dfn K mg "check_board" Ym
 Zf6:Dfn K mg "is_rising" YR
 ZkO:Dfn K mg "is_pit" JG
 ZbW:Dfn K mg "check_barred" ZW
 ZbV:Dfn K mg "count_boards" ZV
 QH:Dfn K mg "check_few_boards" Z5
 Zes:Dfn K mg "check_play" Y4
 ZbB:Dfn K mg "rising_boards" ZI
 ZbC:Dfn K mg "free_pits" YS
 Zjy:Dfn K mg "sow_pit" WW
 Zen:Dfn K mg "sowings_of" Yy
 Zeo:Dfn K mg "next_level" Yz
 Zf5:Dfn K mg "walk_from" YQ
 Zer:Dfn K mg "come_to" WY
 Zeq:Dfn K mg "free_seeds" Y1
 Zj0:Dfn K mg "ends_of" WX
 ZhC:Dfn K mg "_law_end" W4
 Zf8:Dfn K mg "_law_sown" YU
 Zdj:Dfn K mg "_law_behind" Yn
 Zpk:Dfn K mg "law" ZdA
 c_FEWEST_PITS:∃t,mg "FEWEST_PITS"=some (.int 2 t)
 c_MOST_BOARDS:∃t,mg "MOST_BOARDS"=some (.int 1000 t)
 c_MOST_PITS:∃t,mg "MOST_PITS"=some (.int 24 t)
 z_all:mg "all"=none
 z_bool:mg "bool"=none
 z_int:mg "int"=none
 z_isinstance:mg "isinstance"=none
 z_len:mg "len"=none
 z_list:mg "list"=none
 z_max:mg "max"=none
 z_min:mg "min"=none
 z_range:mg "range"=none
 z_sorted:mg "sorted"=none
 z_sum:mg "sum"=none
 z_tuple:mg "tuple"=none
 x_tab:Zpx K XN XS=true
 x_exc:ZlI K XR=true
 x_mg:∀n C,ZmQ K n C->mg n=some (.ref C)
section
variable {P:Program}{w:World}{K:W.Frag}{mg:Str->Option Value}{base:Heap}
set_option hygiene false
local macro_rules | `(tactic| walk_at "pd")=>`(tactic| try simp -implicitDefEqProofs (disch:=first|omega|(simp only[Zqt,ZqV,Zrr,List.length_replicate,Zq8,Zru,Zq1,Zrg,List.length_range,Wp];omega)|decide) only[Zjb,Zjc,ZrZ,Zsa,ZrI,Zrd,Zip,Zio,Zra,Rr.bind_ok,Rr.bind_exc,Rr.bind_bad,Rr.thenS_ok,Rr.thenS_exc,RS.seq_next,RS.seq_ret,RS.seq_exc,RS.out_next,RS.out_ret,RS.out_exc,
 ZiH,Zi6,Zll,Zlm,Zls,Zlt,Zjd,Zk7,ZlE,ZjH,Zn3,ZjI,Zlq,Zlp,Zlo,Zln,ZgM,ZgN,ZgL,ZiD,ZcL,Zml,ZdL,ZoV,ZoW,ZdK,Zq8,Zru,Bool.not_true,Bool.not_false,Bool.false_eq_true,if_true,if_false,Nat.reduceAdd,Nat.reduceSub,id,Zqz,Zr5,Int.reduceToNat,Zcl,Zbl,Zn7,Zly,Zlx,Zpq,ZgO,ZgB,Nat.reduceLeDiff,Zqn,Int.reduceLT,Int.reduceLE,Int.reduceEq,decide_true,decide_false,
 ZaL,Zbk,ZiG,Zko,Zkq,Zg1,Zkl,Zfj,Zhn,Zbn,Zol,ZkP,Zkw,Zkv,Zku,beq_self_eq_true,Bool.and_true,Bool.true_and,Bool.and_false,Bool.false_and,Zn2])
set_option hygiene true
noncomputable def ZM:Pm:=⟨List Int×Int,fun a=>[.lst (a.1.map PV.int),.int a.2],fun a=>0<=a.2,fun a=>.ok (.int (Wj a.1 a.2.toNat))⟩
theorem Jz (T:Txt K mg) {f:Addr}{fd:FuncData} (F:Fun K "_law_cell_at" "_law_cell_at" ZY f fd):Jo P w K mg base CX0 1 f fd ["script", "k"] (spF K 2 .P W0 ZM.fn):=by
 refine F.okP Zbb rfl rfl (fun cdv A outer s H E hr=>?_)
 have hu:=hr.units
 refine⟨_,_,⟨[],[],[],.P⟩,rfl,(Zh (Vi (ZF Zfb (pv 1) (Zo (Z1 (K:=K)) rfl T.z_len We (Zb (pv 0) Zf)) (Ye _)) (Zj (ZB (Z7 YG (WZ (ZP (K:=K)) (pv 0) (pv 1) (fun _ _=>rfl)) (Z7 ZdM Zm Zm)))) Yu)
   (Zj (ZB Zm))),
   (Zn (Γm:=[.S,.S]) (Vl (ZE (DE.toA (Zf0 (Zc (i:=1) (m:=.S) rfl (by decide)) (DE.toA (Wc (Za (Zc (i:=0) (m:=.S) rfl (by decide)) Zd))))))
   (Yi (YI (YJ (te:=tC .non) (Zc (i:=0) (m:=.S) rfl (by decide)) (Zc (i:=1) (m:=.S) rfl (by decide))) (DE.toA (Zek (DE.toA Zk) (DE.toA Zk)))))
   Yw)
   (Yi Zk)), ?_⟩
 refine Pm.ref ZM (g:=fun xs=>_) ?_
 rintro⟨ns,k⟩ (hk:0<=k)
 simp only[ZM]
 walk_at "pd"
 unfold Wj
 by_cases h:k<ns.length
 ·rw[decide_eq_true h]
  walk_at "pd"
 ·rw[decide_eq_false h]
  walk_at "pd"
  rw[ZaO (by omega)];rfl
theorem ZH {ns:List Int}{k:Int} (h:0<=k):ZM.fn [.lst (ns.map PV.int),.int k]=.ok (.int (Wj ns k.toNat)):=Pm.fn_eq ZM (ns,k) h fun(a:List Int×Int) e=>by (simp only[ZM,List.cons.injEq,PV.lst.injEq,PV.int.injEq,PV.str.injEq,PV.bl.injEq,PV.tup.injEq,ZC,and_true] at e ⊢;first|(simp only[e];done)|(subst e;rfl)|(rw[e]))
noncomputable def ZL:Pm:=⟨Int×Int,fun a=>[.int a.1,.int a.2],fun a=>0<=a.2/\a.2<=1000000,fun a=>.ok (.int (stir a.1 a.2))⟩
theorem Jy (T:Txt K mg) {f:Addr}{fd:FuncData} (F:Fun K "_law_stirred" "_law_stirred" ZX f fd):Jo P w K mg base CX0 1 f fd ["cell", "j"] (spF K 2 .P W0 ZL.fn):=by
 refine F.okP VR rfl rfl (fun cdv A outer s H E hr=>?_)
 have hu:=hr.units
 refine⟨_,_,⟨[],[],[],.P⟩,rfl,(Zh (ZA (i:=2) VR.nd rfl (by first|exact Or.inl rfl|exact Or.inr rfl) (Z7 YG (Z7 UI (Z7 Jj (Z7 Jj (Z7 YG (pv 0) Zm) (Z7 UI Zm (pv 1))) Zm) Zm) Zm))
   (Zj (ZB (Z7 WQ (Z7 YG (Z7 UI (pv 2) (pv 2)) Zm) Zm)))),
   (Zn (Γm:=[.S,.S,.P]) (Yj (i:=2) (YI (DE.toA (ZbA (DE.toA (Jk (DE.toA (Jk (DE.toA (YI (Zc (i:=0) (m:=.S) rfl (by decide)) (DE.toA Zk))) (DE.toA (ZbA (DE.toA Zk) (Zc (i:=1) (m:=.S) rfl (by decide)))))) (DE.toA Zk))) (DE.toA Zk))) (DE.toA Zk)) (by decide))
   (Yi (UE (DE.toA (YI (DE.toA (ZbA (DE.toA (Zi (i:=2) rfl)) (DE.toA (Zi (i:=2) rfl)))) (DE.toA Zk))) (DE.toA Zk)))), ?_⟩
 refine Pm.ref ZL (g:=fun xs=>_) ?_
 rintro⟨c,j⟩ ⟨h0,h1⟩
 simp only at h0 h1
 simp only[ZL]
 walk_at "pd"
 rfl
theorem Yg {c j:Int} (h:0<=j/\j<=1000000):ZL.fn [.int c,.int j]=.ok (.int (stir c j)):=Pm.fn_eq ZL (c,j) h fun(a:Int×Int) e=>by (simp only[ZL,List.cons.injEq,PV.lst.injEq,PV.int.injEq,PV.str.injEq,PV.bl.injEq,PV.tup.injEq,ZC,and_true] at e ⊢;first|(simp only[e];done)|(subst e;rfl)|(rw[e]))
noncomputable def fwP (c:Int):Int:=if c%4=1 then 6+c/4%5 else 2+c/4%4
noncomputable def fwS (c:Int):Int:=if c%4=1 then stir c 5%4 else stir c 5%([0,0,41,11,7,5]:List Int).getD (2+c/4%4).toNat 0
noncomputable def YY:Pm:=⟨List Int,fun a=>[.lst (a.map PV.int)],fun _=>True,fun a=>.ok (.tup [.int (fwP (Wj a 0)),.int (fwS (Wj a 0))])⟩
theorem Zfs (T:Txt K mg) {f:Addr}{fd:FuncData} (F:Fun K "_law_few" "_law_few" Wz f fd):Jo P w K mg base CX0 2 f fd ["script"] (spF K 1 .P W0 YY.fn):=by
 have Yt:=UJ (P:=P) (w:=w) (base:=base) T.JZ JC (fun F=>Jz T F)
 have YM:=UJ (P:=P) (w:=w) (base:=base) T.JY JB (fun F=>Jy T F)
 refine F.okP WK rfl rfl (fun cdv A outer s H E hr=>?_)
 have hu:=hr.units
 refine⟨_,_,⟨[],[],[],.P⟩,rfl,(Zh (ZA (i:=1) WK.nd rfl (by first|exact Or.inl rfl|exact Or.inr rfl) (Zt Yt (hr.mono (by decide)) rfl (Zb (pv 0) (Zb Zm Zf))))
   (Zh (ZA (i:=2) WK.nd rfl (by first|exact Or.inl rfl|exact Or.inr rfl) (Z7 Jj Zm (Z7 YG (Z7 WQ (pv 1) Zm) Zm)))
   (Zh (ZA (i:=3) WK.nd rfl (by first|exact Or.inl rfl|exact Or.inr rfl) (Z7 YG (Zt YM (hr.mono (by decide)) rfl (Zb (pv 1) (Zb Zm Zf))) (WZ (ZP (K:=K)) (VT (Zb Zm (Zb Zm (Zb Zm (Zb Zm (Zb Zm (Zb Zm Zf))))))) (pv 2) (fun _ _=>rfl))))
   (Zh (Vi (ZF (JI (K:=K) hu) (Z7 YG (pv 1) Zm) Zm (Ye _)) (Zh (ZA (i:=2) WK.nd rfl (by first|exact Or.inl rfl|exact Or.inr rfl) (Z7 Jj Zm (Z7 YG (Z7 WQ (pv 1) Zm) Zm)))
   (Zj (ZA (i:=3) WK.nd rfl (by first|exact Or.inl rfl|exact Or.inr rfl) (Z7 YG (Zt YM (hr.mono (by decide)) rfl (Zb (pv 1) (Zb Zm Zf))) Zm)))) Yu)
   (Zj (ZB (Zcj (Zb (pv 2) (Zb (pv 3) Zf))))))))),
   (Zn (Γm:=[.S,.P,.U,.U]) (Yj (i:=1) (ZeH (Ze (Ze Zp)) (Za (Zc (i:=0) (m:=.S) rfl (by decide)) (Za (DE.toA Zk) Zd))) (by decide))
   (Zn (Γm:=[.S,.P,.P,.U]) (Yj (i:=2) (Jk (DE.toA Zk) (DE.toA (YI (DE.toA (UE (DE.toA (Zi (i:=1) rfl)) (DE.toA Zk))) (DE.toA Zk)))) (by decide))
   (Zn (Γm:=[.S,.P,.P,.P]) (Yj (i:=3) (YI (DE.toA (ZeH (Ze (Ze Zp)) (Za (DE.toA (Zi (i:=1) rfl)) (Za (DE.toA Zk) Zd)))) (YJ (te:=tC .non) (DE.toA (Uo (YN (DE.PF Zk) (YN (DE.PF Zk) (YN (DE.PF Zk) (YN (DE.PF Zk) (YN (DE.PF Zk) (YN (DE.PF Zk) J3)))))))) (DE.toA (Zi (i:=2) rfl)))) (by decide))
   (Zn (Γm:=[.S,.P,.P,.P]) (Vl (ZE (DE.toA (WI (g:=id) (DE.toA (YI (DE.toA (Zi (i:=1) rfl)) (DE.toA Zk))) (DE.toA Zk))))
   (Zn (Γm:=[.S,.P,.P,.P]) (Yj (i:=2) (Jk (DE.toA Zk) (DE.toA (YI (DE.toA (UE (DE.toA (Zi (i:=1) rfl)) (DE.toA Zk))) (DE.toA Zk)))) (by decide))
   (Yj (i:=3) (YI (DE.toA (ZeH (Ze (Ze Zp)) (Za (DE.toA (Zi (i:=1) rfl)) (Za (DE.toA Zk) Zd)))) (DE.toA Zk)) (by decide)))
   Yw)
   (Yi (DE.grd (Zfz (Za (DE.toA (Zi (i:=2) rfl)) (Za (DE.toA (Zi (i:=3) rfl)) Zd))))))))), ?_⟩
 refine Pm.ref YY (g:=fun xs=>_) ?_
 rintro(ns:List Int) -
 simp only[YY]
 walk_at "pd"
 rw[ZH (by omega)]
 walk_at "pd"
 generalize Wj ns 0=c
 rw[Yg ⟨by omega,by omega⟩]
 have hix:pIx (.lst [.int 0,.int 0,.int 41,.int 11,.int 7,.int 5]) (.int (2+c/4%4))=.ok (.int (([0,0,41,11,7,5]:List Int).getD (2+c/4%4).toNat 0)):=ZaL (ns:=[0,0,41,11,7,5]) (by omega) (by simp only[Zq8,Zru];omega)
 rw[hix]
 have hpos:0<([0,0,41,11,7,5]:List Int).getD (2+c/4%4).toNat 0:=by
  have:(2+c/4%4).toNat=2\/(2+c/4%4).toNat=3\/(2+c/4%4).toNat=4\/(2+c/4%4).toNat=5:=by omega
  rcases this with z|z|z|z<;>rw[z]<;>decide
 walk_at "pd"
 unfold fwP fwS
 by_cases e:c%4=1
 ·rw[decide_eq_true e,if_pos e,if_pos e]
  walk_at "pd"
  rw[Yg ⟨by omega,by omega⟩]
  walk_at "pd"
 ·rw[decide_eq_false e,if_neg e,if_neg e]
  walk_at "pd"
theorem Vs {ns:List Int}:YY.fn [.lst (ns.map PV.int)]=.ok (.tup [.int (fwP (Wj ns 0)),.int (fwS (Wj ns 0))]):=Pm.fn_eq YY ns trivial fun(a:List Int) e=>by (simp only[YY,List.cons.injEq,PV.lst.injEq,PV.int.injEq,PV.str.injEq,PV.bl.injEq,PV.tup.injEq,ZC,and_true] at e ⊢;first|(simp only[e];done)|(subst e;rfl)|(rw[e]))
noncomputable def Y5:Pm:=⟨List Int×Int×Int,fun a=>[.lst (a.1.map PV.int),.int a.2.1,.int a.2.2],fun a=>a.1.length<=1000/\(0<=a.2.1/\a.2.1<=1000)/\0<a.2.2/\a.2.2<=1000,fun a=>.ok (.lst ((ZeN a.1 a.2.1.toNat a.2.2.toNat).map PV.int))⟩
theorem Zeb (T:Txt K mg) {f:Addr}{fd:FuncData} (F:Fun K "_law_sums" "_law_sums" YT f fd):Jo P w K mg base CX0 1 f fd ["script", "later", "most"] (spF K 3 .F W0 Y5.fn):=by
 refine F.okP WU rfl rfl (fun cdv A outer s H E hr=>?_)
 have hu:=hr.units
 refine⟨_,_,⟨[],[],[],.F⟩,rfl,(Zh (Zbf (i:=3) WU.nd rfl (YF rfl T.z_range (Zb (pv 2) Zf)) (QX WU.nd) (fun _ _ _ _=>Zlk) (fun _ _ _ _=>Zm) hv1 rfl)
   (Zh (Vj PassesOwn.never rfl (ZdC rfl T.z_range (Zb (pv 1) (Zb (Zo (Z1 (K:=K)) rfl T.z_len We (Zb (pv 0) Zf)) Zf))) (Ws (i:=4) WU.nd rfl (by first|exact Or.inl rfl|exact Or.inr rfl)) (Zh (ZA (i:=5) WU.nd rfl (by first|exact Or.inl rfl|exact Or.inr rfl) (Z7 YG (Z7 Zlu (pv 4) (pv 1)) (pv 2)))
   (Zh (Zbg (Z7 Jj (Z7 UI (WZ (ZP (K:=K)) (pv 3) (pv 5) (fun _ _=>rfl)) Zm) (Z7 YG (WZ (ZP (K:=K)) (pv 0) (pv 4) (fun _ _=>rfl)) (Z7 ZdM Zm Zm))) (Zci (pv 3) (pv 5) Vy))
   (Zj (Zbg (Z7 YG (WZ (ZP (K:=K)) (pv 3) (pv 5) (fun _ _=>rfl)) (Z7 ZdM Zm Zm)) (Zci (pv 3) (pv 5) Vy))))))
   (Zj (ZB (pv 3))))),
   (Zn (Γm:=[.S,.S,.S,.O,.U,.U]) (Zb9 (i:=3) (QE (k:=1) (DI.c (Jh (Za (Zc (i:=2) (m:=.S) rfl (by decide)) Zd))) ZmW Zl6 (DE.PF Zk)) (by decide))
   (Zn (Γm:=[.S,.S,.S,.O,.U,.U]) (Vm (Γl:=[.S,.S,.S,.O,.U,.U]) (Zjm (Za (Zc (i:=1) (m:=.S) rfl (by decide)) (Za (DE.toA (Wc (Za (Zc (i:=0) (m:=.S) rfl (by decide)) Zd))) Zd))) rfl (Zjn (i:=4) (by decide))
   (DS.out (Y:=⟨[.S,.S,.S,.O,.P,.P],[.S,.S,.S,.O,.U,.U],[.S,.S,.S,.O,.U,.U],.F⟩) (Y':=⟨[.S,.S,.S,.O,.U,.U],[.S,.S,.S,.O,.U,.U],[.S,.S,.S,.O,.U,.U],.F⟩) (Zn (Γm:=[.S,.S,.S,.O,.P,.P]) (Yj (i:=5) (YI (DE.toA (Zl9 (DE.toA (Zi (i:=4) rfl)) (Zc (i:=1) (m:=.S) rfl (by decide)))) (Zc (i:=2) (m:=.S) rfl (by decide))) (by decide))
   (Zn (Γm:=[.S,.S,.S,.O,.P,.P]) (Vk (i:=3) rfl (Jk (DE.toA (ZbA (YJ (te:=tC .non) (Zc (i:=3) (m:=.O) rfl (by decide)) (DE.toA (Zi (i:=5) rfl))) (DE.toA Zk))) (DE.toA (YI (YJ (te:=tC .non) (Zc (i:=0) (m:=.S) rfl (by decide)) (DE.toA (Zi (i:=4) rfl))) (DE.toA (Zek (DE.toA Zk) (DE.toA Zk)))))) (DE.toA (Zi (i:=5) rfl)))
   (Vk (i:=3) rfl (YI (YJ (te:=tC .non) (Zc (i:=3) (m:=.O) rfl (by decide)) (DE.toA (Zi (i:=5) rfl))) (DE.toA (Zek (DE.toA Zk) (DE.toA Zk)))) (DE.toA (Zi (i:=5) rfl))))) rfl rfl rfl rfl))
   (WC (VC (i:=3) rfl)))), ?_⟩
 refine Pm.ref Y5 (g:=fun xs=>_) ?_
 rintro⟨ns,l,m⟩ ⟨hn,hl,h0,h1⟩
 simp only at hn hl h0 h1
 simp only[Y5]
 walk_at "pd"
 rw[QC (p:=fun _=>true) (g:=fun _=>.int 0) (fun i hi=>rfl)]
 rw[show ((List.range m.toNat).filter fun _=>true).map (fun _=>PV.int 0)=(Qv ns l.toNat m.toNat 0).map PV.int by
  rw[show ((List.range m.toNat).filter fun _=>true)=List.range m.toNat from Zr3.mpr fun _ _=>rfl,Qv,List.map_const',List.length_range,List.map_replicate]]
 walk_at "pd"
 generalize hw:ZbS _ _ _=W
 obtain⟨ρ',rfl,v,u,rfl⟩:=YH hw (fun i ρ=>∃v u,ρ=[.lst (ns.map PV.int),.int l,.int m,.lst ((Qv ns l.toNat m.toNat i).map PV.int),v,u]) ⟨_,_,rfl⟩ (by
  rintro i x ρ hx ⟨v,u,rfl⟩
  obtain⟨hi,rfl⟩:=JH hx
  have hlen:(Qv ns l.toNat m.toNat i).length=m.toNat:=VO _ _ _ _
  have m0:=ZqJ (l+(i:Int)-l) (show m≠0 by omega)
  have m1:=ZqE (l+(i:Int)-l) h0
  have e:((l+(i:Int)-l)%m).toNat=i%m.toNat:=by
   have:((i%m.toNat:Nat):Int)=(l+(i:Int)-l)%m:=by rw[Int.natCast_emod,ZqT (by omega),show l+(i:Int)-l=i by omega]
   omega
  have hb:=Zm4 (P:=fun x=>0<=x/\x<10^62) (Zgk ns l.toNat m.toNat i) (by decide) ((l+(i:Int)-l)%m).toNat
  walk_at "pd"
  refine V2 ⟨.int (l+(i:Int)),.int ((l+(i:Int)-l)%m), ?_⟩
  rw[List.set_set,L2.QA (by omega),if_pos rfl,Qv,e,show (l+(i:Int)).toNat=l.toNat+i by omega])
 walk_at "pd"
 rw[Wp]
 unfold ZeN
 rw[show ((ns.length:Int)-l).toNat=ns.length-l.toNat by omega]
theorem J7 {ns:List Int}{l m:Int} (h:ns.length<=1000/\(0<=l/\l<=1000)/\0<m/\m<=1000):Y5.fn [.lst (ns.map PV.int),.int l,.int m]=.ok (.lst ((ZeN ns l.toNat m.toNat).map PV.int)):=Pm.fn_eq Y5 (ns,l,m) h fun(a:List Int×Int×Int) e=>by (simp only[Y5,List.cons.injEq,PV.lst.injEq,PV.int.injEq,PV.str.injEq,PV.bl.injEq,PV.tup.injEq,ZC,and_true] at e ⊢;first|(simp only[e];done)|(subst e;rfl)|(rw[e]))
noncomputable def YX:Pm:=⟨List Int×Int×Int×Int×Bool,fun a=>[.lst (a.1.map PV.int),.int a.2.1,.int a.2.2.1,.int a.2.2.2.1,.bl a.2.2.2.2],fun a=>a.1.length<=1000/\(0<=a.2.1/\a.2.1<=1000)/\(0<=a.2.2.1/\a.2.2.1<=1000)/\0<a.2.2.2.1/\a.2.2.2.1<=1000000,fun a=>.ok (.lst ((Zka a.1 a.2.1 a.2.2.1 a.2.2.2.1 a.2.2.2.2).map PV.int))⟩
theorem Zfr (T:Txt K mg) {f:Addr}{fd:FuncData} (F:Fun K "_law_row" "_law_row" Wy f fd):Jo P w K mg base CX0 2 f fd ["script", "skip", "many", "base", "mixed"] (spF K 5 .F W0 YX.fn):=by
 have ZfT:=UJ (P:=P) (w:=w) (base:=base) T.Zf7 Ze6 (fun F=>Zeb T F)
 have YM:=UJ (P:=P) (w:=w) (base:=base) T.JY JB (fun F=>Jy T F)
 refine F.okP Y9 rfl rfl (fun cdv A outer s H E hr=>?_)
 have hu:=hr.units
 refine⟨_,_,⟨[],[],[],.F⟩,rfl,(Zh (Vi (Zbe (pv 4)) (Zh (ZA (i:=5) Y9.nd rfl (by first|exact Or.inl rfl|exact Or.inr rfl) (Zt ZfT (hr.mono (by decide)) rfl (Zb (pv 0) (Zb (pv 1) (Zb (Zo (Zj7 rfl) rfl T.z_max Zor (Zb Zm (Zb (pv 2) Zf))) Zf)))))
   (Zj (ZB (ZaK (YF rfl T.z_range (Zb (pv 2) Zf)) (QX Y9.nd) (fun _ _ _ _=>Zlk) (fun _ _ _ _=>(Z7 YG (Zt YM (hr.mono (by decide)) rfl (Zb (WZ (ZP (K:=K)) (pv 5) (pv 9) (fun _ _=>rfl)) (Zb (pv 9) Zf))) (pv 3))) hv1 Y9.nd rfl)))) Yu)
   (Zh (ZA (i:=6) Y9.nd rfl (by first|exact Or.inl rfl|exact Or.inr rfl) (Zo (Vn (K:=K) rfl) rfl T.z_sum Zc0 (Zb (QW (Wn (K:=K) (Zgx (Zgo (K:=K)) (pv 0) (Zix (pv 1)) Ziy)) (fun _ _ _ _=>(Z7 YG (pv 9) (Z7 ZdM Zm Zm))) Y9.nd rfl) Zf)))
   (Zh (ZA (i:=7) Y9.nd rfl (by first|exact Or.inl rfl|exact Or.inr rfl) (VT Zf))
   (Zh (Vj PassesOwn.never rfl (YF rfl T.z_range (Zb (pv 2) Zf)) (Ws (i:=8) Y9.nd rfl (by first|exact Or.inl rfl|exact Or.inr rfl)) (Zh (UH (Zmj PySem.F.plainAttrs_list PySem.F.slot_list_append PySem.F.type_list_append Zbo (pv 7) (Zb (Z7 YG (pv 6) (pv 3)) Zf)))
   (Zj (ZA (i:=6) Y9.nd rfl (by first|exact Or.inl rfl|exact Or.inr rfl) (Z7 WQ (pv 6) (pv 3))))))
   (Zj (ZB (pv 7))))))),
   (Zn (Γm:=[.S,.S,.S,.S,.S,.U,.U,.U,.U]) (Vl (Zl7 (Zc (i:=4) (m:=.S) rfl (by decide)))
   (Zn (Γm:=[.S,.S,.S,.S,.S,.O,.U,.U,.U]) (Wh (i:=5) (ZkM (Ze (Ze (Ze Zp))) (Za (Zc (i:=0) (m:=.S) rfl (by decide)) (Za (Zc (i:=1) (m:=.S) rfl (by decide)) (Za (DE.toA (ZmG (Za (DE.toA Zk) (Za (Zc (i:=2) (m:=.S) rfl (by decide)) Zd)))) Zd)))) (by decide))
   (WC (QE (k:=1) (DI.c (Jh (Za (Zc (i:=2) (m:=.S) rfl (by decide)) Zd))) ZmW Zl6 (DE.PF (YI (DE.toA (ZeH (Ze (Ze Zp)) (Za (YJ (te:=tC .non) (Zc (i:=5) (m:=.O) rfl (by decide)) (Zc (i:=9) (m:=.S) rfl (by decide))) (Za (Zc (i:=9) (m:=.S) rfl (by decide)) Zd)))) (Zc (i:=3) (m:=.S) rfl (by decide)))))))
   Yw)
   (Zn (Γm:=[.S,.S,.S,.S,.S,.U,.P,.U,.U]) (Yj (i:=6) (Zcw (Za (DE.toA (JJ (DI.c (Ji (DE.FZ (ZlA (Zc (i:=0) (m:=.S) rfl (by decide)) (Zjj (Zc (i:=1) (m:=.S) rfl (by decide))) Zjk)))) (DE.PF (YI (Zc (i:=9) (m:=.S) rfl (by decide)) (DE.toA (Zek (DE.toA Zk) (DE.toA Zk))))))) Zd)) (by decide))
   (Zn (Γm:=[.S,.S,.S,.S,.S,.U,.P,.O,.U]) (Wh (i:=7) (Uo J3) (by decide))
   (Zn (Γm:=[.S,.S,.S,.S,.S,.U,.P,.O,.U]) (Vm (Γl:=[.S,.S,.S,.S,.S,.U,.P,.O,.U]) (Jh (Za (Zc (i:=2) (m:=.S) rfl (by decide)) Zd)) rfl (Zjn (i:=8) (by decide))
   (DS.out (Y:=⟨[.S,.S,.S,.S,.S,.U,.P,.O,.P],[.S,.S,.S,.S,.S,.U,.P,.O,.U],[.S,.S,.S,.S,.S,.U,.P,.O,.U],.F⟩) (Y':=⟨[.S,.S,.S,.S,.S,.U,.P,.O,.U],[.S,.S,.S,.S,.S,.U,.P,.O,.U],[.S,.S,.S,.S,.S,.U,.P,.O,.U],.F⟩) (Zn (Γm:=[.S,.S,.S,.S,.S,.U,.P,.O,.P]) (Zfw (i:=7) rfl rfl (DE.PF (YI (DE.toA (Zi (i:=6) rfl)) (Zc (i:=3) (m:=.S) rfl (by decide)))))
   (Yj (i:=6) (UE (DE.toA (Zi (i:=6) rfl)) (Zc (i:=3) (m:=.S) rfl (by decide))) (by decide))) rfl rfl rfl rfl))
   (WC (VC (i:=7) rfl)))))), ?_⟩
 refine Pm.ref YX (g:=fun xs=>_) ?_
 rintro⟨ns,sk,m,b,mx⟩ ⟨hn,hl,hm,h0,h1⟩
 simp only at hn hl hm h0 h1
 simp only[YX]
 walk_at "pd"
 unfold Zka
 cases mx with
 |true =>
  rw[if_pos rfl]
  walk_at "pd"
  rw[show (if m>1 then m else 1)=((max 1 m.toNat:Nat):Int) by split<;>omega]
  rw[J7 ⟨hn,hl,by omega,by omega⟩,Zq6]
  walk_at "pd"
  rw[QC (p:=fun _=>true) (g:=fun j=>.int (stir ((ZeN ns sk.toNat (max 1 m.toNat)).getD j 0) j%b)) (fun i hi=>by
   have hlen:(ZeN ns sk.toNat (max 1 m.toNat)).length=max 1 m.toNat:=Zd7 _ _ _
   rw[Zrm]
   walk_at "pd"
   rw[Yg ⟨by omega,by omega⟩]
   walk_at "pd"
   rw[Zq6])]
  walk_at "pd"
  rw[show ((List.range m.toNat).filter fun _=>true)=List.range m.toNat from Zr3.mpr fun _ _=>rfl,ZqW]
  rfl
 |false =>
  rw[if_neg (by decide)]
  walk_at "pd"
  rw[ZgF (g:=fun c=>c%10^61) (fun z _=>Zbl (by decide))]
  generalize hsum:((ns.drop sk.toNat).map fun(c:Int)=>c%10^61)=cs
  walk_at "pd"
  generalize hw:ZbS _ _ _=W
  obtain⟨ρ',rfl,v,rfl⟩:=YH hw (fun i ρ=>∃v,ρ=[.lst (ns.map PV.int),.int sk,.int m,.int b,.bl false,.non,.int (Znf cs.sum b i),.lst ((Zl8 cs.sum b i).map PV.int),v]) ⟨_,rfl⟩ (by
   rintro i x ρ hx ⟨v,rfl⟩
   obtain⟨hi,rfl⟩:=JH hx
   have hlen:(Zl8 cs.sum b i).length=i:=Zfx _ _ _
   walk_at "pd"
   exact V2 ⟨.int (0+(i:Int)),by rw[Zjl,Znf]⟩)
  walk_at "pd"
  rw[Wp]
theorem Vr {ns:List Int}{sk m b:Int}{mx:Bool} (h:ns.length<=1000/\(0<=sk/\sk<=1000)/\(0<=m/\m<=1000)/\0<b/\b<=1000000):YX.fn [.lst (ns.map PV.int),.int sk,.int m,.int b,.bl mx]=.ok (.lst ((Zka ns sk m b mx).map PV.int)):=Pm.fn_eq YX (ns,sk,m,b,mx) h fun(a:List Int×Int×Int×Int×Bool) e=>by (simp only[YX,List.cons.injEq,PV.lst.injEq,PV.int.injEq,PV.str.injEq,PV.bl.injEq,PV.tup.injEq,ZC,and_true] at e ⊢;first|(simp only[e];done)|(subst e;rfl)|(rw[e]))
noncomputable def lyI (n:Nat) (L:List Int):List Int:=L.foldl (fun b a=>b.set a.toNat (b.getD a.toNat 0+1)) (List.replicate n 0)
theorem Zlz {n:Nat}:∀(L:List Int) (b:List Int) (s:Int),Bs n s b->(∀a∈L,0<=a/\a<n)->Bs n (s+L.length) (L.foldl (fun b a=>b.set a.toNat (b.getD a.toNat 0+1)) b)
 |[],b,s,h,_=>by simpa using h
 |a::L,b,s,h,hL=>by
  obtain⟨l,nn,sm⟩:=h
  have ha:=hL a (by simp)
  have:=Zlz L (b.set a.toNat (b.getD a.toNat 0+1)) (s+1) ⟨by simp[l],fun x hx=>?_, ?_⟩ fun z hz=>hL z (by simp[hz])
  ·rw[List.foldl_cons,Zq8,show s+((L.length+1:Nat):Int)=s+1+L.length by omega]
   exact this
  ·rcases List.mem_or_eq_of_mem_set hx with z|z
   ·exact nn x z
   ·have:=Zaj nn a.toNat
    omega
  ·rw[Qw (by omega)];omega
theorem ZnB {n:Nat}{L:List Int} (h:∀a∈L,0<=a/\a<n):Bs n L.length (lyI n L):=by
 have:=Zlz L (List.replicate n 0) 0 ⟨by simp,fun x hx=>by rw[List.eq_of_mem_replicate hx];omega,by simp⟩ h
 rw[Zrm] at this
 exact this
noncomputable def Y7:Pm:=⟨List Int×Int,fun a=>[.lst (a.1.map PV.int),.int a.2],fun a=>(∀x∈a.1,0<=x/\x<a.2)/\0<=a.2/\a.2<=1000,fun a=>.ok (.lst ((lyI a.2.toNat a.1).map PV.int))⟩
theorem Zed (T:Txt K mg) {f:Addr}{fd:FuncData} (F:Fun K "_law_laid" "_law_laid" YV f fd):Jo P w K mg base CX0 1 f fd ["places", "pits"] (spF K 2 .F W0 Y7.fn):=by
 refine F.okP VS rfl rfl (fun cdv A outer s H E hr=>?_)
 have hu:=hr.units
 refine⟨_,_,⟨[],[],[],.F⟩,rfl,(Zh (Zch (i:=2) VS.nd rfl (YF rfl T.z_range (Zb (pv 1) Zf)) (fun _ _ _ _=>Zm) rfl)
   (Zh (Vj PassesOwn.never rfl (Wn (K:=K) (pv 0)) (Ws (i:=3) VS.nd rfl (by first|exact Or.inl rfl|exact Or.inr rfl)) (Zj (Zbg (Z7 Jj (WZ (ZP (K:=K)) (pv 2) (pv 3) (fun _ _=>rfl)) Zm) (Zci (pv 2) (pv 3) Vy))))
   (Zj (ZB (pv 2))))),
   (Zn (Γm:=[.S,.S,.O,.U]) (Zcu (i:=2) (JJ (DI.c (Jh (Za (Zc (i:=1) (m:=.S) rfl (by decide)) Zd))) (DE.PF Zk)) (by decide))
   (Zn (Γm:=[.S,.S,.O,.U]) (Vm (Γl:=[.S,.S,.O,.U]) (Ji (VB (i:=0) rfl)) rfl (Zjn (i:=3) (by decide))
   (DS.out (Y:=⟨[.S,.S,.O,.P],[.S,.S,.O,.U],[.S,.S,.O,.U],.F⟩) (Y':=⟨[.S,.S,.O,.U],[.S,.S,.O,.U],[.S,.S,.O,.U],.F⟩) (Vk (i:=2) rfl (Jk (YJ (te:=tC .non) (Zc (i:=2) (m:=.O) rfl (by decide)) (DE.toA (Zi (i:=3) rfl))) (DE.toA Zk)) (DE.toA (Zi (i:=3) rfl))) rfl rfl rfl rfl))
   (WC (VC (i:=2) rfl)))), ?_⟩
 refine Pm.ref Y7 (g:=fun xs=>_) ?_
 rintro⟨L,m⟩ ⟨hL,hm,hn⟩
 simp only at hL hm hn
 obtain⟨n,rfl⟩:∃n:Nat,m=n:=⟨m.toNat,by omega⟩
 simp only[Y7]
 walk_at "pd"
 rw[Zms (g:=fun _=>0) (fun i hi=>rfl),Zq6,show (List.range n).map (fun _=>(0:Int))=lyI n (L.take 0) by simp[lyI,List.map_const']]
 walk_at "pd"
 generalize hw:ZbS _ _ _=W
 obtain⟨ρ',rfl,v,rfl⟩:=YH hw (fun i ρ=>∃v,ρ=[.lst (L.map PV.int),.int n,.lst ((lyI n (L.take i)).map PV.int),v]) ⟨_,rfl⟩ (by
  rintro i x ρ hx ⟨v,rfl⟩
  rw[Zq7] at hx
  obtain⟨a,ha,rfl⟩:=Zri.mp hx
  obtain⟨a0,a1⟩:=hL a (Zqk ha)
  have hl:=(ZnB (n:=n) (L:=L.take i) fun z hz=>hL z (ZqC hz)).1
  have hs:lyI n (L.take (i+1))=(lyI n (L.take i)).set a.toNat ((lyI n (L.take i)).getD a.toNat 0+1):=by
   unfold lyI
   rw[List.take_succ,ha,Zsc];rfl
  rw[hs]
  generalize lyI n (L.take i)=bb at hl
  walk_at "pd"
  exact V2 ⟨_,rfl⟩)
 walk_at "pd"
 rw[Zqt,Zsh]
theorem J9 {L:List Int}{n:Int} (h:(∀x∈L,0<=x/\x<n)/\0<=n/\n<=1000):Y7.fn [.lst (L.map PV.int),.int n]=.ok (.lst ((lyI n.toNat L).map PV.int)):=Pm.fn_eq Y7 (L,n) h fun(a:List Int×Int) e=>by (simp only[Y7,List.cons.injEq,PV.lst.injEq,PV.int.injEq,PV.str.injEq,PV.bl.injEq,PV.tup.injEq,ZC,and_true] at e ⊢;first|(simp only[e];done)|(subst e;rfl)|(rw[e]))
noncomputable def brC (ns:List Int):Int:=if Wj ns 0/2%2=1 then stir (Wj ns 1) 9 else Wj ns 1
noncomputable def brL (c:Int) (n:Nat):List Int:=((List.range n).filter fun(i:Nat)=>decide (c/2^i%2=1)).map fun(i:Nat)=>(i:Int)
noncomputable def brS (ns:List Int) (n:Nat):List Int:=if brL (brC ns) n=[]\/(brL (brC ns) n).length=n then [brC ns/4096%n] else brL (brC ns) n
structure Bar (n:Nat) (l:List Int):Prop where
 al:∀p∈l,0<=p/\p<n
 up:l.Pairwise (·<·)
 ne:l≠[]
 nn:l.length≠n
theorem Zon (ns:List Int) {n:Nat} (h:2<=n):Bar n (brS ns n):=by
 unfold brS
 split
 ·have h1:=ZqJ (brC ns/4096) (show (n:Int)≠0 by omega)
  have h2:=ZqE (brC ns/4096) (show (0:Int)<n by omega)
  exact⟨fun p hp=>by rw[Zq0.mp hp];exact⟨h1,h2⟩,Zr8 _ _,by simp,by simp;omega⟩
 ·rename_i c
  refine⟨fun p hp=>?_, ?_,fun z=>c (.inl z),fun z=>c (.inr z)⟩
  ·obtain⟨i,hi,rfl⟩:=Zq4.mp hp
   have:=ZqK.mp (ZqS.mp hi).1
   omega
  ·unfold brL
   rw[Zrw]
   refine((List.pairwise_lt_range (n:=n)).filter _).imp ?_
   intro a b h
   omega
noncomputable def Y8:Pm:=⟨List Int×Int,fun a=>[.lst (a.1.map PV.int),.int a.2],fun a=>2<=a.2/\a.2<=1000,fun a=>.ok (.lst ((brS a.1 a.2.toNat).map PV.int))⟩
theorem Zee (T:Txt K mg) {f:Addr}{fd:FuncData} (F:Fun K "_law_bars" "_law_bars" YW f fd):Jo P w K mg base CX0 2 f fd ["script", "pits"] (spF K 2 .F W0 Y8.fn):=by
 have Yt:=UJ (P:=P) (w:=w) (base:=base) T.JZ JC (fun F=>Jz T F)
 have YM:=UJ (P:=P) (w:=w) (base:=base) T.JY JB (fun F=>Jy T F)
 refine F.okP WV rfl rfl (fun cdv A outer s H E hr=>?_)
 have hu:=hr.units
 refine⟨_,_,⟨[],[],[],.F⟩,rfl,(Zh (ZA (i:=2) WV.nd rfl (by first|exact Or.inl rfl|exact Or.inr rfl) (Zt Yt (hr.mono (by decide)) rfl (Zb (pv 0) (Zb Zm Zf))))
   (Zh (Vi (ZF (JI (K:=K) hu) (Z7 YG (Z7 WQ (Zt Yt (hr.mono (by decide)) rfl (Zb (pv 0) (Zb Zm Zf))) Zm) Zm) Zm (Ye _)) (Zj (ZA (i:=2) WV.nd rfl (by first|exact Or.inl rfl|exact Or.inr rfl) (Zt YM (hr.mono (by decide)) rfl (Zb (pv 2) (Zb Zm Zf))))) Yu)
   (Zh (Zbf (i:=3) WV.nd rfl (YF rfl T.z_range (Zb (pv 1) Zf)) (QX WV.nd) (fun _ _ _ _=>(Zgy (fun _ _ h=>h) (ZF (JI (K:=K) hu) (Z7 YG (Z7 Zn8 (pv 2) (pv 4)) Zm) Zm (Ye _)))) (fun _ _ _ _=>(pv 4)) hv1 rfl)
   (Zh (Vi (PW.pt (ZeV (ZF (JI (K:=K) hu) (pv 3) (VT Zf) (Ye _)) (Zbd (ZF (JI (K:=K) hu) (Zo (Z1 (K:=K)) rfl T.z_len We (Zb (pv 3) Zf)) (pv 1) (Ye _))))) (Zj (ZB (VT (Zb (Z7 YG (Z7 WQ (pv 2) Zm) (pv 1)) Zf)))) Yu)
   (Zj (ZB (pv 3))))))),
   (Zn (Γm:=[.S,.S,.P,.U]) (Yj (i:=2) (ZeH (Ze (Ze Zp)) (Za (Zc (i:=0) (m:=.S) rfl (by decide)) (Za (DE.toA Zk) Zd))) (by decide))
   (Zn (Γm:=[.S,.S,.P,.U]) (Vl (ZE (DE.toA (WI (g:=id) (DE.toA (YI (DE.toA (UE (DE.toA (ZeH (Ze (Ze Zp)) (Za (Zc (i:=0) (m:=.S) rfl (by decide)) (Za (DE.toA Zk) Zd)))) (DE.toA Zk))) (DE.toA Zk))) (DE.toA Zk))))
   (Yj (i:=2) (ZeH (Ze (Ze Zp)) (Za (DE.toA (Zi (i:=2) rfl)) (Za (DE.toA Zk) Zd))) (by decide))
   Yw)
   (Zn (Γm:=[.S,.S,.P,.O]) (Zb9 (i:=3) (QE (k:=1) (DI.c (Jh (Za (Zc (i:=1) (m:=.S) rfl (by decide)) Zd))) ZmW (ZE (DE.toA (WI (g:=id) (DE.toA (YI (DE.toA (Zoh (DE.toA (Zi (i:=2) rfl)) (Zc (i:=4) (m:=.S) rfl (by decide)))) (DE.toA Zk))) (DE.toA Zk)))) (DE.PF (DE.grd (Zc (i:=4) (m:=.S) rfl (by decide))))) (by decide))
   (Zn (Γm:=[.S,.S,.P,.O]) (Vl (Zfv (ZE (DE.toA (WI (g:=id) (Zc (i:=3) (m:=.O) rfl (by decide)) (DE.toA (Uo J3))))) (ZE (DE.toA (WI (g:=id) (DE.toA (Wc (Za (Zc (i:=3) (m:=.O) rfl (by decide)) Zd))) (Zc (i:=1) (m:=.S) rfl (by decide))))))
   (WC (Uo (YN (DE.PF (YI (DE.toA (UE (DE.toA (Zi (i:=2) rfl)) (DE.toA Zk))) (Zc (i:=1) (m:=.S) rfl (by decide)))) J3)))
   Yw)
   (WC (VC (i:=3) rfl)))))), ?_⟩
 refine Pm.ref Y8 (g:=fun xs=>_) ?_
 rintro⟨ns,m⟩ ⟨h0,h1⟩
 simp only at h0 h1
 obtain⟨n,rfl⟩:∃n:Nat,m=n:=⟨m.toNat,by omega⟩
 simp only[Y8]
 walk_at "pd"
 rw[ZH (by omega)]
 walk_at "pd"
 rw[ZH (by omega)]
 walk_at "pd"
 by_cases c:Wj ns 0/2%2=1
 ·rw[decide_eq_true c]
  walk_at "pd"
  rw[Yg ⟨by omega,by omega⟩,show stir (Wj ns 1) 9=brC ns from (if_pos c).symm]
  walk_at "pd"
  rw[QC (p:=fun i=>decide (brC ns/2^i%2=1)) (g:=fun(i:Nat)=>.int (i:Int)) (fun i hi=>by
   rw[Zrm]
   walk_at "pd"
   rw[Zi8 (by omega),Zq6]
   walk_at "pd"
   by_cases e:brC ns/2^i%2=1
   ·rw[decide_eq_true e]
    walk_at "pd"
   ·rw[decide_eq_false e]
    walk_at "pd")]
  rw[Zq6,show ((List.range n).filter fun i=>decide (brC ns/2^i%2=1)).map (fun(i:Nat)=>PV.int (i:Int))=(brL (brC ns) n).map PV.int by unfold brL;rw[ZqW];rfl]
  unfold brS
  generalize brL (brC ns) n=L
  walk_at "pd"
  by_cases e:L=[]\/L.length=n
  ·rw[if_pos e]
   rcases e with e|e
   ·subst e
    walk_at "pd"
   ·by_cases e2:L=[]
    ·subst e2
     walk_at "pd"
    ·rw[decide_eq_false e2]
     walk_at "pd"
     rw[decide_eq_true (by omega)]
     walk_at "pd"
  ·rw[if_neg e,decide_eq_false (fun z=>e (.inl z))]
   walk_at "pd"
   rw[decide_eq_false (fun z=>e (.inr (by omega)))]
   walk_at "pd"
 ·rw[decide_eq_false c,show Wj ns 1=brC ns from (if_neg c).symm]
  walk_at "pd"
  rw[QC (p:=fun i=>decide (brC ns/2^i%2=1)) (g:=fun(i:Nat)=>.int (i:Int)) (fun i hi=>by
   rw[Zrm]
   walk_at "pd"
   rw[Zi8 (by omega),Zq6]
   walk_at "pd"
   by_cases e:brC ns/2^i%2=1
   ·rw[decide_eq_true e]
    walk_at "pd"
   ·rw[decide_eq_false e]
    walk_at "pd")]
  rw[Zq6,show ((List.range n).filter fun i=>decide (brC ns/2^i%2=1)).map (fun(i:Nat)=>PV.int (i:Int))=(brL (brC ns) n).map PV.int by unfold brL;rw[ZqW];rfl]
  unfold brS
  generalize brL (brC ns) n=L
  walk_at "pd"
  by_cases e:L=[]\/L.length=n
  ·rw[if_pos e]
   rcases e with e|e
   ·subst e
    walk_at "pd"
   ·by_cases e2:L=[]
    ·subst e2
     walk_at "pd"
    ·rw[decide_eq_false e2]
     walk_at "pd"
     rw[decide_eq_true (by omega)]
     walk_at "pd"
  ·rw[if_neg e,decide_eq_false (fun z=>e (.inl z))]
   walk_at "pd"
   rw[decide_eq_false (fun z=>e (.inr (by omega)))]
   walk_at "pd"
theorem JA {ns:List Int}{n:Int} (h:2<=n/\n<=1000):Y8.fn [.lst (ns.map PV.int),.int n]=.ok (.lst ((brS ns n.toNat).map PV.int)):=Pm.fn_eq Y8 (ns,n) h fun(a:List Int×Int) e=>by (simp only[Y8,List.cons.injEq,PV.lst.injEq,PV.int.injEq,PV.str.injEq,PV.bl.injEq,PV.tup.injEq,ZC,and_true] at e ⊢;first|(simp only[e];done)|(subst e;rfl)|(rw[e]))
noncomputable def Wq:Pm:=⟨Int,fun i=>[.int i],fun _=>True,fun _=>.ok (.bl true)⟩
theorem Zfp (T:Txt K mg) {f:Addr}{fd:FuncData} (F:Fun K "is_whole" "is_whole" Ww f fd):Jo P w K mg base CX0 1 f fd ["value"] (spF K 1 .P W0 Wq.fn):=by
 refine F.okP ZeR rfl rfl (fun cdv A outer s H E hr=>?_)
 have hu:=hr.units
 refine⟨_,_,⟨[],[],[],.P⟩,rfl,(Zj (ZB (ZdE (Zo (QJ (K:=K) (n := "int") rfl) rfl T.z_isinstance Jm (Zb (pv 0) (Zb (ZcH (v:=.ty "int") rfl T.z_int ZlD rfl) Zf))) (Zck (Zny (Zo (QJ (K:=K) (n := "bool") rfl) rfl T.z_isinstance Jm (Zb (pv 0) (Zb (ZcH (v:=.ty "bool") rfl T.z_bool ZmM rfl) Zf)))))))),
   (Yi (Zem (DE.toA (ZgT (Zc (i:=0) (m:=.S) rfl (by decide)))) (Zoi (DE.toA (ZgT (Zc (i:=0) (m:=.S) rfl (by decide))))))), ?_⟩
 refine Pm.ref Wq (g:=fun xs=>_) ?_
 intro (i:Int) _
 simp only[Wq]
 walk_at "pd"
theorem Vo {i:Int}:Wq.fn [.int i]=.ok (.bl true):=Pm.fn_eq Wq i trivial fun _ _=>rfl
noncomputable def ZD:Pm:=⟨Int×Int,fun a=>[.int a.1,.int a.2],fun _=>True,fun a=>.ok (.bl (decide (a.2<=a.1)))⟩
theorem VG (T:Txt K mg) {f:Addr}{fd:FuncData} (F:Fun K "is_whole_from" "is_whole_from" ZJ f fd):Jo P w K mg base CX0 2 f fd ["value", "least"] (spF K 2 .P W0 ZD.fn):=by
 have ZhK:=UJ (P:=P) (w:=w) (base:=base) T.Zh8 ZfH (fun F=>Zfp T F)
 refine F.okP Za7 rfl rfl (fun cdv A outer s H E hr=>?_)
 have hu:=hr.units
 refine⟨_,_,⟨[],[],[],.P⟩,rfl,(Zj (ZB (ZdE (Zt ZhK (hr.mono (by decide)) rfl (Zb (pv 0) Zf)) (Zck (JL ZoY (pv 0) (pv 1) (Ye _)))))),
   (Yi (Zem (DE.toA (ZeH (Ze Zp) (Za (Zc (i:=0) (m:=.S) rfl (by decide)) Zd))) (Zpj (Zc (i:=0) (m:=.S) rfl (by decide)) (Zc (i:=1) (m:=.S) rfl (by decide))))), ?_⟩
 refine Pm.ref ZD (g:=fun xs=>_) ?_
 rintro⟨i,j⟩ _
 simp only[ZD]
 walk_at "pd"
 rw[Vo]
 walk_at "pd"
theorem Yx {i j:Int}:ZD.fn [.int i,.int j]=.ok (.bl (decide (j<=i))):=Pm.fn_eq ZD (i,j) trivial fun(a:Int×Int) e=>by (simp only[ZD,List.cons.injEq,PV.lst.injEq,PV.int.injEq,PV.str.injEq,PV.bl.injEq,PV.tup.injEq,ZC,and_true] at e ⊢;first|(simp only[e];done)|(subst e;rfl)|(rw[e]))
noncomputable def Zs:Pm:=⟨List Int,fun ns=>[.lst (ns.map PV.int)],fun ns=>ns.length<=1000000,fun ns=>.ok (.bl (decide (∀x∈ns,0<=x)))⟩
theorem VL (T:Txt K mg) {f:Addr}{fd:FuncData} (F:Fun K "is_list_from_nought" "is_list_from_nought" Zx f fd):Jo P w K mg base CX0 3 f fd ["values"] (spF K 1 .P W0 Zs.fn):=by
 have JF:=UJ (P:=P) (w:=w) (base:=base) T.Uq VH (fun F=>VG T F)
 refine F.okP WH rfl rfl (fun cdv A outer s H E hr=>?_)
 have hu:=hr.units
 refine⟨_,_,⟨[],[],[],.P⟩,rfl,(Zj (ZB (ZdE (Zo (QJ (K:=K) (n := "list") rfl) rfl T.z_isinstance Jm (Zb (pv 0) (Zb (ZcH (v:=.ty "list") rfl T.z_list Wt rfl) Zf))) (Zck (Zo (ZbE (K:=K) rfl) rfl T.z_all ZjF (Zb (QW (Wn (K:=K) (pv 0)) (fun _ _ _ _=>(Zt JF (hr.mono (by decide)) rfl (Zb (pv 1) (Zb Zm Zf)))) WH.nd rfl) Zf)))))),
   (Yi (Zem (DE.toA (ZgT (Zc (i:=0) (m:=.S) rfl (by decide)))) (Zjv (Za (DE.toA (JJ (DI.c (Ji (VB (i:=0) rfl))) (DE.PF (ZeH (Ze (Ze Zp)) (Za (Zc (i:=1) (m:=.S) rfl (by decide)) (Za (DE.toA Zk) Zd)))))) Zd)))), ?_⟩
 refine Pm.ref Zs (g:=fun xs=>_) ?_
 intro (ns:List Int) (hn:ns.length<=1000000)
 simp only[Zs]
 walk_at "pd"
 rw[ZiP (g:=fun z=>decide (0<=z)) (fun z _=>Yx)]
 walk_at "pd"
 rw[ZjJ]
theorem ZQ {ns:List Int} (h:ns.length<=1000000):Zs.fn [.lst (ns.map PV.int)]=.ok (.bl (decide (∀x∈ns,0<=x))):=Pm.fn_eq Zs ns h fun(a:List Int) e=>by (simp only[Zs,List.cons.injEq,PV.lst.injEq,PV.int.injEq,PV.str.injEq,PV.bl.injEq,PV.tup.injEq,ZC,and_true] at e ⊢;first|(simp only[e];done)|(subst e;rfl)|(rw[e]))
noncomputable def YA:Pm:=⟨Unit,fun _=>[],fun _=>True,fun _=>.ok (.int (10^60))⟩
theorem Zdb (T:Txt K mg) {f:Addr}{fd:FuncData} (F:Fun K "most_seeds" "most_seeds" Y0 f fd):Jo P w K mg base CX0 1 f fd [] (spF K 0 .P W0 YA.fn):=by
 refine F.okP ZcC rfl rfl (fun cdv A outer s H E hr=>?_)
 have hu:=hr.units
 refine⟨_,_,⟨[],[],[],.P⟩,rfl,(Zj (ZB (Z7 ZdM Zm Zm))),
   (Yi (Zek (DE.toA Zk) (DE.toA Zk))), ?_⟩
 refine Pm.ref YA (g:=fun xs=>_) ?_
 rintro _ _
 simp only[YA]
 walk_at "pd"
theorem Je:YA.fn []=.ok (.int (10^60)):=Pm.fn_eq YA () trivial fun _ _=>rfl
noncomputable def Ys:Pm:=⟨List Int,fun ns=>[.lst (ns.map PV.int)],fun ns=>ns.length<=1000,fun ns=>.ok (.bl (Vu ns))⟩
theorem Zfq (T:Txt K mg) {f:Addr}{fd:FuncData} (F:Fun K "is_board" "is_board" Wx f fd):Jo P w K mg base CX0 4 f fd ["board"] (spF K 1 .P W0 Ys.fn):=by
 have Uz:=UJ (P:=P) (w:=w) (base:=base) T.Ur VM (fun F=>VL T F)
 have ZeC:=UJ (P:=P) (w:=w) (base:=base) T.Zep Zdq (fun F=>Zdb T F)
 refine F.okP ZeS rfl rfl (fun cdv A outer s H E hr=>?_)
 have hu:=hr.units
 refine⟨_,_,⟨[],[],[],.P⟩,rfl,(Zh (Vi (Zcg (Zbe (Zt Uz (hr.mono (by decide)) rfl (Zb (pv 0) Zf)))) (Zj (ZB ZeW)) Yu)
   (Zh (Vi (PW.pt (ZeV (ZF Zfb (Zo (Z1 (K:=K)) rfl T.z_len We (Zb (pv 0) Zf)) (ZcG T.c_FEWEST_PITS rfl) (Ye _)) (Zbd (ZF ZiI (Zo (Z1 (K:=K)) rfl T.z_len We (Zb (pv 0) Zf)) (ZcG T.c_MOST_PITS rfl) (Ye _))))) (Zj (ZB ZeW)) Yu)
   (Zj (ZB (JL ZoX (Zo (Vn (K:=K) rfl) rfl T.z_sum Zc0 (Zb (pv 0) Zf)) (Zi2 ZeC (hr.mono (by decide)) rfl) (Ye _)))))),
   (Zn (Γm:=[.S]) (Vl (Zct (Zl7 (DE.toA (ZeH (Ze Zp) (Za (Zc (i:=0) (m:=.S) rfl (by decide)) Zd)))))
   (Yi Zf2)
   Yw)
   (Zn (Γm:=[.S]) (Vl (Zfv (ZE (DE.toA (Zf0 (DE.toA (Wc (Za (Zc (i:=0) (m:=.S) rfl (by decide)) Zd))) (DE.toA Zk)))) (ZE (DE.toA (Zjq (DE.toA (Wc (Za (Zc (i:=0) (m:=.S) rfl (by decide)) Zd))) (DE.toA Zk)))))
   (Yi Zf2)
   Yw)
   (Yi (Zpi (DE.toA (Zcw (Za (Zc (i:=0) (m:=.S) rfl (by decide)) Zd))) (DE.toA (ZeH Zp Zd)))))), ?_⟩
 refine Pm.ref Ys (g:=fun xs=>_) ?_
 intro (ns:List Int) (hn:ns.length<=1000)
 simp only[Ys]
 walk_at "pd"
 rw[ZQ (by omega)]
 walk_at "pd"
 by_cases h3:∀x∈ns,0<=x
 ·rw[decide_eq_true h3]
  walk_at "pd"
  by_cases h1:(ns.length:Int)<2
  ·rw[decide_eq_true h1]
   walk_at "pd"
   rw[show Vu ns=false from decide_eq_false (by omega)]
  rw[decide_eq_false h1]
  walk_at "pd"
  by_cases h2:(24:Int)<ns.length
  ·rw[decide_eq_true h2]
   walk_at "pd"
   rw[show Vu ns=false from decide_eq_false (by omega)]
  rw[decide_eq_false h2]
  walk_at "pd"
  rw[Je]
  walk_at "pd"
  by_cases h4:ns.sum<=10^60
  ·rw[decide_eq_true h4,U9.mpr ⟨by omega,by omega,h3,h4⟩]
  ·rw[decide_eq_false h4,show Vu ns=false from decide_eq_false (fun z=>h4 z.2.2.2)]
 ·rw[decide_eq_false h3]
  walk_at "pd"
  rw[show Vu ns=false from decide_eq_false (fun z=>h3 z.2.2.1)]
theorem Vp {ns:List Int} (h:ns.length<=1000):Ys.fn [.lst (ns.map PV.int)]=.ok (.bl (Vu ns)):=Pm.fn_eq Ys ns h fun(a:List Int) e=>by (simp only[Ys,List.cons.injEq,PV.lst.injEq,PV.int.injEq,PV.str.injEq,PV.bl.injEq,PV.tup.injEq,ZC,and_true] at e ⊢;first|(simp only[e];done)|(subst e;rfl)|(rw[e]))
theorem ZeX:Ys.calm:=fun a q h=>by (simp only[Ys] at h;cases h)
noncomputable def Yc:Pm:=⟨List Int,fun ns=>[.lst (ns.map PV.int)],fun ns=>ns.length<=1000,fun ns=>orX (if Vu ns=true then none else some "BadBoard") .non⟩
theorem ZbT (T:Txt K mg) {f:Addr}{fd:FuncData} (F:Fun K "check_board" "check_board" Ym f fd):Jo P w K mg base (CX1 P w) 5 f fd ["board"] (spF K 1 .P (W1 K) Yc.fn):=by
 have ZhL:=UJ (P:=P) (w:=w) (base:=base) T.Zh9 ZfI (fun F=>Zfq T F)
 obtain⟨C_BadBoard,hC_BadBoard,hQ_BadBoard⟩:=Zc2 T.x_exc (n := "BadBoard") (by decide)
 refine F.okX ZbP rfl rfl (fun cdv A outer s H E hr=>?_)
 have hu:=hr.units
 refine⟨_,_,⟨[.S],[],[],.P⟩,rfl,(Zj (Vi (Zcg (Zbe (Zt ZhL (hr.mono (by decide)) rfl (Zb (pv 0) Zf)))) (Zj (Q1 Zbq hQ_BadBoard rfl (T.x_mg _ _ hC_BadBoard) rfl (Zb ZdD Zf))) Yu)),
   (Vl (Zct (Zl7 (DE.toA (ZnZ (Ze Zp) (Pm.calm_fn ZeX) (Za (Zc (i:=0) (m:=.S) rfl (by decide)) Zd)))))
   (QD hC_BadBoard (Ze Zp) (by decide) (Za (DE.toA Zej) Zd))
   Yw), ?_⟩
 refine Pm.ref Yc (g:=fun xs=>_) ?_
 intro (ns:List Int) (hn:ns.length<=1000)
 simp only[Yc]
 walk_at "pu"
 rw[Vp hn]
 walk_at "pu"
 by_cases h:Vu ns=true
 ·rw[h];walk_at "pu";rfl
 ·rw[Bool.not_eq_true] at h
  rw[h];walk_at "pu";rfl
theorem WD {ns:List Int} (h:ns.length<=1000):Yc.fn [.lst (ns.map PV.int)]=orX (if Vu ns=true then none else some "BadBoard") .non:=Pm.fn_eq Yc ns h fun a e=>by
 simp only[Yc,List.cons.injEq,PV.lst.injEq,and_true] at e ⊢
 rw[Jx e]
noncomputable def riB (l:List Int):Bool:=(List.range (l.length-1)).all fun i=>decide (l.getD i 0<l.getD (i+1) 0)
noncomputable def Ya:Pm:=⟨List Int,fun a=>[.lst (a.map PV.int)],fun a=>a.length<=100000,fun a=>.ok (.bl (riB a))⟩
theorem Zea (T:Txt K mg) {f:Addr}{fd:FuncData} (F:Fun K "is_rising" "is_rising" YR f fd):Jo P w K mg base CX0 1 f fd ["numbers"] (spF K 1 .P W0 Ya.fn):=by
 refine F.okP Zaz rfl rfl (fun cdv A outer s H E hr=>?_)
 have hu:=hr.units
 refine⟨_,_,⟨[],[],[],.P⟩,rfl,(Zj (ZB (Zo (ZbE (K:=K) rfl) rfl T.z_all ZjF (Zb (QW (YF rfl T.z_range (Zb (Z7 Zlu (Zo (Z1 (K:=K)) rfl T.z_len We (Zb (pv 0) Zf)) Zm) Zf)) (fun _ _ _ _=>(JL Zfb (WZ (ZP (K:=K)) (pv 0) (pv 1) (fun _ _=>rfl)) (WZ (ZP (K:=K)) (pv 0) (Z7 Jj (pv 1) Zm) (fun _ _=>rfl)) (Ye _))) Zaz.nd rfl) Zf)))),
   (Yi (Zjv (Za (DE.toA (JJ (DI.c (Jh (Za (DE.toA (Zl9 (DE.toA (Wc (Za (Zc (i:=0) (m:=.S) rfl (by decide)) Zd))) (DE.toA Zk))) Zd))) (DE.PF (Zf0 (YJ (te:=tC .non) (Zc (i:=0) (m:=.S) rfl (by decide)) (Zc (i:=1) (m:=.S) rfl (by decide))) (YJ (te:=tC .non) (Zc (i:=0) (m:=.S) rfl (by decide)) (DE.toA (Jk (Zc (i:=1) (m:=.S) rfl (by decide)) (DE.toA Zk)))))))) Zd))), ?_⟩
 refine Pm.ref Ya (g:=fun xs=>_) ?_
 rintro(l:List Int) (hl:l.length<=100000)
 simp only[Ya]
 walk_at "pd"
 rw[Zky (g:=fun(i:Nat)=>PV.bl (decide (l.getD i 0<l.getD (i+1) 0))) (fun i hi=>by
  rw[Zrm]
  walk_at "pd"
  rw[Zq6,show ((i:Int)+1).toNat=i+1 by omega])]
 rw[show (List.range ((l.length:Int)-1).toNat).map (fun(i:Nat)=>PV.bl (decide (l.getD i 0<l.getD (i+1) 0)))=((List.range (l.length-1)).map fun(i:Nat)=>decide (l.getD i 0<l.getD (i+1) 0)).map PV.bl by rw[ZqW,show ((l.length:Int)-1).toNat=l.length-1 by omega];rfl]
 walk_at "pd"
 unfold riB
 rw[List.all_map];rfl
theorem J6 {l:List Int} (h:l.length<=100000):Ya.fn [.lst (l.map PV.int)]=.ok (.bl (riB l)):=Pm.fn_eq Ya l h fun(a:List Int) e=>by (simp only[Ya,List.cons.injEq,PV.lst.injEq,PV.int.injEq,PV.str.injEq,PV.bl.injEq,PV.tup.injEq,ZC,and_true] at e ⊢;first|(simp only[e];done)|(subst e;rfl)|(rw[e]))
theorem ZdG:Ya.calm:=fun a q h=>by (simp only[Ya] at h;cases h)
noncomputable def Wi:Pm:=⟨List Int×Int,fun a=>[.lst (a.1.map PV.int),.int a.2],fun _=>True,fun a=>.ok (.bl (decide (0<=a.2/\a.2<a.1.length)))⟩
theorem Zjg (T:Txt K mg) {f:Addr}{fd:FuncData} (F:Fun K "is_pit" "is_pit" JG f fd):Jo P w K mg base CX0 3 f fd ["board", "pit"] (spF K 2 .P W0 Wi.fn):=by
 have JF:=UJ (P:=P) (w:=w) (base:=base) T.Uq VH (fun F=>VG T F)
 refine F.okP Zil rfl rfl (fun cdv A outer s H E hr=>?_)
 have hu:=hr.units
 refine⟨_,_,⟨[],[],[],.P⟩,rfl,(Zj (ZB (ZdE (Zt JF (hr.mono (by decide)) rfl (Zb (pv 1) (Zb Zm Zf))) (Zck (JL Zfb (pv 1) (Zo (Z1 (K:=K)) rfl T.z_len We (Zb (pv 0) Zf)) (Ye _)))))),
   (Yi (Zem (DE.toA (ZeH (Ze (Ze Zp)) (Za (Zc (i:=1) (m:=.S) rfl (by decide)) (Za (DE.toA Zk) Zd)))) (Zf0 (Zc (i:=1) (m:=.S) rfl (by decide)) (DE.toA (Wc (Za (Zc (i:=0) (m:=.S) rfl (by decide)) Zd)))))), ?_⟩
 refine Pm.ref Wi (g:=fun xs=>_) ?_
 rintro⟨ns,p⟩ -
 simp only[Wi]
 walk_at "pd"
 rw[Yx]
 walk_at "pd"
 by_cases h0:0<=p
 ·rw[decide_eq_true h0]
  walk_at "pd"
  by_cases h1:p<ns.length
  ·rw[decide_eq_true h1,show decide (0<=p/\p<(ns.length:Int))=true from decide_eq_true ⟨h0,h1⟩]
  ·rw[decide_eq_false h1,show decide (0<=p/\p<(ns.length:Int))=false from decide_eq_false (fun z=>h1 z.2)]
 ·rw[decide_eq_false h0,show decide (0<=p/\p<(ns.length:Int))=false from decide_eq_false (fun z=>h0 z.1)]
  walk_at "pd"
theorem QK {ns:List Int}{p:Int}:Wi.fn [.lst (ns.map PV.int),.int p]=.ok (.bl (decide (0<=p/\p<ns.length))):=Pm.fn_eq Wi (ns,p) trivial fun(a:List Int×Int) e=>by (simp only[Wi,List.cons.injEq,PV.lst.injEq,PV.int.injEq,PV.str.injEq,PV.bl.injEq,PV.tup.injEq,ZC,and_true] at e ⊢;first|(simp only[e];done)|(subst e;rfl)|(rw[e]))
theorem Zi3:Wi.calm:=fun a q h=>by (simp only[Wi] at h;cases h)
def ZkW (n:Nat) (l:List Int):Prop:=(∀p∈l,0<=p/\p<n)/\riB l=true/\l.length≠0/\l.length≠n
noncomputable instance (n:Nat) (l:List Int):Decidable (ZkW n l):=by unfold ZkW;infer_instance
noncomputable def Zos (n:Nat) (l:List Int):Option Str:=if ZkW n l then none else some "BadPits"
theorem Zdt {n:Nat}{l:List Int} (h:ZkW n l):Zos n l=none:=if_pos h
theorem Zar {n:Nat}{l:List Int} (h:¬ZkW n l):Zos n l=(some "BadPits":Option Str):=if_neg h
noncomputable def ZK:Pm:=⟨List Int×List Int,fun a=>[.lst (a.1.map PV.int),.lst (a.2.map PV.int)],fun a=>a.1.length<=1000/\a.2.length<=1000,fun a=>orX (Zos a.1.length a.2) .non⟩
theorem Zb4 (T:Txt K mg) {f:Addr}{fd:FuncData} (F:Fun K "check_barred" "check_barred" ZW f fd):Jo P w K mg base (CX1 P w) 4 f fd ["board", "barred"] (spF K 2 .P (W1 K) ZK.fn):=by
 have ZfS:=UJ (P:=P) (w:=w) (base:=base) T.Zf6 Ze5 (fun F=>Zea T F)
 have ZkV:=UJ (P:=P) (w:=w) (base:=base) T.ZkO ZjD (fun F=>Zjg T F)
 obtain⟨C_BadPits,hC_BadPits,hQ_BadPits⟩:=Zc2 T.x_exc (n := "BadPits") (by decide)
 refine F.okX VQ rfl rfl (fun cdv A outer s H E hr=>?_)
 have hu:=hr.units
 refine⟨_,_,⟨[.S,.S],[],[],.P⟩,rfl,(Zh (Vi (PW.pt (ZeV (Zcg (Zbe (Zo (QJ (K:=K) (n := "list") rfl) rfl T.z_isinstance Jm (Zb (pv 1) (Zb (ZcH (v:=.ty "list") rfl T.z_list Wt rfl) Zf))))) (Zbd (Zcg (Zbe (Zo (ZbE (K:=K) rfl) rfl T.z_all ZjF (Zb (QW (Wn (K:=K) (pv 1)) (fun _ _ _ _=>(Zt ZkV (hr.mono (by decide)) rfl (Zb (pv 0) (Zb (pv 2) Zf)))) VQ.nd rfl) Zf))))))) (Zj (Q1 Zbq hQ_BadPits rfl (T.x_mg _ _ hC_BadPits) rfl (Zb ZdD Zf))) Yu)
   (Zh (Vi (Zcg (Zbe (Zt ZfS (hr.mono (by decide)) rfl (Zb (pv 1) Zf)))) (Zj (Q1 Zbq hQ_BadPits rfl (T.x_mg _ _ hC_BadPits) rfl (Zb ZdD Zf))) Yu)
   (Zj (Vi (PW.pt (ZeV (ZF (JI (K:=K) hu) (Zo (Z1 (K:=K)) rfl T.z_len We (Zb (pv 1) Zf)) Zm (Ye _)) (Zbd (ZF (JI (K:=K) hu) (Zo (Z1 (K:=K)) rfl T.z_len We (Zb (pv 1) Zf)) (Zo (Z1 (K:=K)) rfl T.z_len We (Zb (pv 0) Zf)) (Ye _))))) (Zj (Q1 Zbq hQ_BadPits rfl (T.x_mg _ _ hC_BadPits) rfl (Zb ZdD Zf))) Yu)))),
   (Zn (Γm:=[.S,.S]) (Vl (Zfv (Zct (Zl7 (DE.toA (ZgT (Zc (i:=1) (m:=.S) rfl (by decide)))))) (Zct (Zl7 (DE.toA (Zjv (Za (DE.toA (JJ (DI.c (Ji (VB (i:=1) rfl))) (DE.PF (ZnZ (Ze (Ze Zp)) (Pm.calm_fn Zi3) (Za (Zc (i:=0) (m:=.S) rfl (by decide)) (Za (Zc (i:=2) (m:=.S) rfl (by decide)) Zd)))))) Zd))))))
   (QD hC_BadPits (Ze Zp) (by decide) (Za (DE.toA Zej) Zd))
   Yw)
   (Zn (Γm:=[.S,.S]) (Vl (Zct (Zl7 (DE.toA (ZnZ (Ze Zp) (Pm.calm_fn ZdG) (Za (Zc (i:=1) (m:=.S) rfl (by decide)) Zd)))))
   (QD hC_BadPits (Ze Zp) (by decide) (Za (DE.toA Zej) Zd))
   Yw)
   (Vl (Zfv (ZE (DE.toA (WI (g:=id) (DE.toA (Wc (Za (Zc (i:=1) (m:=.S) rfl (by decide)) Zd))) (DE.toA Zk)))) (ZE (DE.toA (WI (g:=id) (DE.toA (Wc (Za (Zc (i:=1) (m:=.S) rfl (by decide)) Zd))) (DE.toA (Wc (Za (Zc (i:=0) (m:=.S) rfl (by decide)) Zd)))))))
   (QD hC_BadPits (Ze Zp) (by decide) (Za (DE.toA Zej) Zd))
   Yw))), ?_⟩
 refine Pm.ref ZK (g:=fun xs=>_) ?_
 rintro⟨b,l⟩ ⟨hb,hl⟩
 simp only at hb hl
 simp only[ZK]
 walk_at "pd"
 rw[ZiP (g:=fun z=>decide (0<=z/\z<(b.length:Int))) (fun z _=>QK)]
 walk_at "pd"
 rw[ZjJ]
 by_cases h1:∀x∈l,0<=x/\x<(b.length:Int)
 ·rw[decide_eq_true h1]
  walk_at "pd"
  rw[J6 (by omega)]
  walk_at "pd"
  by_cases h2:riB l=true
  ·rw[h2]
   walk_at "pd"
   by_cases h3:l.length=0
   ·rw[decide_eq_true (show (l.length:Int)=0 by omega),Zar (fun z=>z.2.2.1 h3)]
    walk_at "pd"
   ·rw[decide_eq_false (show ¬(l.length:Int)=0 by omega)]
    walk_at "pd"
    by_cases h4:l.length=b.length
    ·rw[decide_eq_true (show (l.length:Int)=b.length by omega),Zar (fun z=>z.2.2.2 h4)]
     walk_at "pd"
    ·rw[decide_eq_false (show ¬(l.length:Int)=b.length by omega),Zdt ⟨h1,h2,h3,h4⟩]
     walk_at "pd"
  ·rw[eq_false_of_ne_true h2,Zar (fun z=>h2 z.2.1)]
   walk_at "pd"
 ·rw[decide_eq_false h1,Zar (fun z=>h1 z.1)]
  walk_at "pd"
theorem Wm {b l:List Int} (h:b.length<=1000/\l.length<=1000):ZK.fn [.lst (b.map PV.int),.lst (l.map PV.int)]=orX (Zos b.length l) .non:=Pm.fn_eq ZK (b,l) h fun(a:List Int×List Int) e=>by (simp only[ZK,List.cons.injEq,PV.lst.injEq,PV.int.injEq,PV.str.injEq,PV.bl.injEq,PV.tup.injEq,ZC,and_true] at e ⊢;first|(simp only[e];done)|(subst e;rfl)|(rw[e]))
theorem Zpo:(10:Nat)^61<2^60000:=by
 calc (10:Nat)^61<=(2^4)^61:=Nat.pow_le_pow_left (by decide) _
  _=2^244:=by rw[<- Nat.pow_mul]
  _<2^60000:=Nat.pow_lt_pow_right (by decide) (by decide)
noncomputable def Z8:Pm:=⟨Int×Int,fun a=>[.int a.1,.int a.2],fun a=>(1<=a.1/\a.1<=24)/\a.2<=10^60,fun a=>.ok (.int (cbN a.1 a.2))⟩
theorem Zb3 (T:Txt K mg) {f:Addr}{fd:FuncData} (F:Fun K "count_boards" "count_boards" ZV f fd):Jo P w K mg base CX0 1 f fd ["pits", "seeds"] (spF K 2 .P W0 Z8.fn):=by
 refine F.okP W7 rfl rfl (fun cdv A outer s H E hr=>?_)
 have hu:=hr.units
 refine⟨_,_,⟨[],[],[],.P⟩,rfl,(Zh (Vi (ZF Zfb (pv 1) Zm (Ye _)) (Zj (ZB Zm)) Yu)
   (Zh (ZA (i:=2) W7.nd rfl (by first|exact Or.inl rfl|exact Or.inr rfl) Zm)
   (Zh (Vj PassesOwn.never rfl (ZdC rfl T.z_range (Zb Zm (Zb (pv 0) Zf))) (Ws (i:=3) W7.nd rfl (by first|exact Or.inl rfl|exact Or.inr rfl)) (Zj (ZA (i:=2) W7.nd rfl (by first|exact Or.inl rfl|exact Or.inr rfl) (Z7 WQ (Z7 UI (pv 2) (Z7 Jj (pv 1) (pv 3))) (pv 3)))))
   (Zj (ZB (pv 2)))))),
   (Zn (Γm:=[.S,.S,.U,.U]) (Vl (ZE (DE.toA (Zf0 (Zc (i:=1) (m:=.S) rfl (by decide)) (DE.toA Zk))))
   (Yi Zk)
   Yw)
   (Zn (Γm:=[.S,.S,.P,.U]) (Yj (i:=2) Zk (by decide))
   (Zn (Γm:=[.S,.S,.P,.U]) (Vm (Γl:=[.S,.S,.P,.U]) (Zjm (Za (DE.toA Zk) (Za (Zc (i:=0) (m:=.S) rfl (by decide)) Zd))) rfl (Zjn (i:=3) (by decide))
   (DS.out (Y:=⟨[.S,.S,.P,.P],[.S,.S,.P,.U],[.S,.S,.P,.U],.P⟩) (Y':=⟨[.S,.S,.P,.U],[.S,.S,.P,.U],[.S,.S,.P,.U],.P⟩) (Yj (i:=2) (UE (DE.toA (ZbA (DE.toA (Zi (i:=2) rfl)) (DE.toA (Jk (Zc (i:=1) (m:=.S) rfl (by decide)) (DE.toA (Zi (i:=3) rfl)))))) (DE.toA (Zi (i:=3) rfl))) (by decide)) rfl rfl rfl rfl))
   (Yi (Zi (i:=2) rfl))))), ?_⟩
 refine Pm.ref Z8 (g:=fun xs=>_) ?_
 rintro⟨p,s⟩ ⟨⟨hp0,hp⟩,hs⟩
 simp only at hp0 hp hs
 simp only[Z8]
 unfold cbN
 walk_at "pd"
 by_cases h:s<0
 ·rw[decide_eq_true h,if_pos h]
  walk_at "pd"
 ·rw[decide_eq_false h,if_neg h]
  walk_at "pd"
  generalize hw:ZbS _ _ _=W
  obtain⟨ρ',rfl,v,rfl⟩:=YH hw (fun i ρ=>∃v,ρ=[.int p,.int s,.int (cbI s i),v]) ⟨_,rfl⟩ (by
   rintro i x ρ hx ⟨v,rfl⟩
   obtain⟨hi,rfl⟩:=JH hx
   walk_at "pd"
   rw[Zi9 ⟨Zj4 (by omega) hs (by omega),Zrk (show (s+(1+(i:Int))).natAbs<=10^61 by omega) Zpo⟩]
   walk_at "pd"
   exact V2 ⟨.int (1+(i:Int)),by rw[cbI,Int.add_comm 1 (i:Int)]⟩)
  walk_at "pd"
  rw[Wp]
theorem Wl {p s:Int} (h:(1<=p/\p<=24)/\s<=10^60):Z8.fn [.int p,.int s]=.ok (.int (cbN p s)):=Pm.fn_eq Z8 (p,s) h fun(a:Int×Int) e=>by (simp only[Z8,List.cons.injEq,PV.lst.injEq,PV.int.injEq,PV.str.injEq,PV.bl.injEq,PV.tup.injEq,ZC,and_true] at e ⊢;first|(simp only[e];done)|(subst e;rfl)|(rw[e]))
theorem Zbh:Z8.calm:=fun a q h=>by (simp only[Z8] at h;cases h)
noncomputable def Zl5 (b:List Int):Option Str:=if 1000<cbN b.length b.sum then some "TooMany" else none
noncomputable def Z0:Pm:=⟨List Int,fun a=>[.lst (a.map PV.int)],fun a=>(1<=a.length/\a.length<=24)/\a.sum<=10^60,fun a=>orX (Zl5 a) .non⟩
theorem UZ (T:Txt K mg) {f:Addr}{fd:FuncData} (F:Fun K "check_few_boards" "check_few_boards" Z5 f fd):Jo P w K mg base (CX1 P w) 2 f fd ["board"] (spF K 1 .P (W1 K) Z0.fn):=by
 have ZbZ:=UJ (P:=P) (w:=w) (base:=base) T.ZbV ZbH (fun F=>Zb3 T F)
 obtain⟨C_TooMany,hC_TooMany,hQ_TooMany⟩:=Zc2 T.x_exc (n := "TooMany") (by decide)
 refine F.okX UG rfl rfl (fun cdv A outer s H E hr=>?_)
 have hu:=hr.units
 refine⟨_,_,⟨[.S],[],[],.P⟩,rfl,(Zj (Vi (ZF ZiI (Zt ZbZ (hr.mono (by decide)) rfl (Zb (Zo (Z1 (K:=K)) rfl T.z_len We (Zb (pv 0) Zf)) (Zb (Zo (Vn (K:=K) rfl) rfl T.z_sum Zc0 (Zb (pv 0) Zf)) Zf))) (ZcG T.c_MOST_BOARDS rfl) (Ye _)) (Zj (Q1 Zbq hQ_TooMany rfl (T.x_mg _ _ hC_TooMany) rfl (Zb ZdD Zf))) Yu)),
   (Vl (ZE (DE.toA (Zjq (DE.toA (ZnZ (Ze (Ze Zp)) (Pm.calm_fn Zbh) (Za (DE.toA (Wc (Za (Zc (i:=0) (m:=.S) rfl (by decide)) Zd))) (Za (DE.toA (Zcw (Za (Zc (i:=0) (m:=.S) rfl (by decide)) Zd))) Zd)))) (DE.toA Zk))))
   (QD hC_TooMany (Ze Zp) (by decide) (Za (DE.toA Zej) Zd))
   Yw), ?_⟩
 refine Pm.ref Z0 (g:=fun xs=>_) ?_
 rintro(b:List Int) ⟨⟨h0,h1⟩,h2⟩
 simp only[Z0]
 walk_at "pd"
 rw[Wl ⟨⟨by omega,by omega⟩,h2⟩]
 walk_at "pd"
 by_cases c:1000<cbN b.length b.sum
 ·rw[decide_eq_true c,show Zl5 b=(some "TooMany":Option Str) from if_pos c]
  walk_at "pd"
 ·rw[decide_eq_false c,show Zl5 b=none from if_neg c]
  walk_at "pd"
theorem Yr {b:List Int} (h:(1<=b.length/\b.length<=24)/\b.sum<=10^60):Z0.fn [.lst (b.map PV.int)]=orX (Zl5 b) .non:=Pm.fn_eq Z0 b h fun(a:List Int) e=>by (simp only[Z0,List.cons.injEq,PV.lst.injEq,PV.int.injEq,PV.str.injEq,PV.bl.injEq,PV.tup.injEq,ZC,and_true] at e ⊢;first|(simp only[e];done)|(subst e;rfl)|(rw[e]))
noncomputable def UB (b l:List Int):Option Str:=if Vu b=true then match Zos b.length l with
 |none=>Zl5 b
 |some q=>some q
 else some "BadBoard"
noncomputable def Yq:Pm:=⟨List Int×List Int,fun a=>[.lst (a.1.map PV.int),.lst (a.2.map PV.int)],fun a=>a.1.length<=1000/\a.2.length<=1000,fun a=>orX (UB a.1 a.2) .non⟩
theorem Zdd (T:Txt K mg) {f:Addr}{fd:FuncData} (F:Fun K "check_play" "check_play" Y4 f fd):Jo P w K mg base (CX1 P w) 6 f fd ["board", "barred"] (spF K 2 .P (W1 K) Yq.fn):=by
 have Zdw:=Zfc (P:=P) (w:=w) (base:=base) T.Zdi ZbX (fun F=>ZbT T F)
 have Zca:=Zfc (P:=P) (w:=w) (base:=base) T.ZbW ZbI (fun F=>Zb4 T F)
 have QN:=Zfc (P:=P) (w:=w) (base:=base) T.QH Qk (fun F=>UZ T F)
 refine F.okX ZcD rfl rfl (fun cdv A outer s H E hr=>?_)
 have hu:=hr.units
 refine⟨_,_,⟨[.S,.S],[],[],.P⟩,rfl,(Zh (UH (WP Zdw (hr.mono (by decide)) rfl Zbi (Zb (pv 0) Zf)))
   (Zh (UH (WP Zca (hr.mono (by decide)) rfl Zbi (Zb (pv 0) (Zb (pv 1) Zf))))
   (Zj (UH (WP QN (hr.mono (by decide)) rfl Zbi (Zb (pv 0) Zf)))))),
   (Zn (Γm:=[.S,.S]) (Zdf (DE.toA (Zo7 (Ze Zp) (Za (Zc (i:=0) (m:=.S) rfl (by decide)) Zd))))
   (Zn (Γm:=[.S,.S]) (Zdf (DE.toA (Zo7 (Ze (Ze Zp)) (Za (Zc (i:=0) (m:=.S) rfl (by decide)) (Za (Zc (i:=1) (m:=.S) rfl (by decide)) Zd)))))
   (Zdf (DE.toA (Zo7 (Ze Zp) (Za (Zc (i:=0) (m:=.S) rfl (by decide)) Zd)))))), ?_⟩
 refine Pm.ref Yq (g:=fun xs=>_) ?_
 rintro⟨b,l⟩ ⟨hb,hl⟩
 simp only at hb hl
 simp only[Yq]
 walk_at "pd"
 rw[WD (by omega)]
 unfold UB
 by_cases h1:Vu b=true
 ·rw[if_pos h1,if_pos h1]
  simp only[orX]
  walk_at "pd"
  rw[Wm ⟨by omega,by omega⟩]
  by_cases h2:ZkW b.length l
  ·rw[Zdt h2]
   simp only[orX]
   have B:=U9.mp h1
   have l1:=B.lo
   have l2:=B.hi
   have l3:=B.sm
   walk_at "pd"
   rw[Yr ⟨⟨by omega,by omega⟩,l3⟩]
   unfold Zl5
   split<;>walk_at "pd"
  ·rw[Zar h2]
   walk_at "pd"
 ·rw[if_neg h1,if_neg h1]
  walk_at "pd"
theorem Jg {b l:List Int} (h:b.length<=1000/\l.length<=1000):Yq.fn [.lst (b.map PV.int),.lst (l.map PV.int)]=orX (UB b l) .non:=Pm.fn_eq Yq (b,l) h fun(a:List Int×List Int) e=>by (simp only[Yq,List.cons.injEq,PV.lst.injEq,PV.int.injEq,PV.str.injEq,PV.bl.injEq,PV.tup.injEq,ZC,and_true] at e ⊢;first|(simp only[e];done)|(subst e;rfl)|(rw[e]))
noncomputable def Z2:Pm:=⟨List (List Int),fun ts=>[.lst (ts.map WR)],fun ts=>(∀t∈ts,t≠[]/\t.length<=1000)/\ts.length<=100000,fun ts=>.ok (.lst ((ZjM ts).map Vw))⟩
theorem ZaA (T:Txt K mg) {f:Addr}{fd:FuncData} (F:Fun K "rising_boards" "rising_boards" ZI f fd):Jo P w K mg base CX0 1 f fd ["boards"] (spF K 1 .F W0 Z2.fn):=by
 refine F.okP VF rfl rfl (fun cdv A outer s H E hr=>?_)
 have hu:=hr.units
 refine⟨_,_,⟨[],[],[],.F⟩,rfl,(Zj (ZB (QW (Wn (K:=K) (Zo (ZfF (K:=K)) rfl T.z_sorted ZjE (Zb (pv 0) Zf))) (fun _ _ _ _=>(ZN (Yl (K:=K)) rfl T.z_list Wt (Zb (pv 1) Zf))) VF.nd rfl))),
   (WC (JJ (DI.c (Ji (DE.FZ (ZkI (Za (Zc (i:=0) (m:=.S) rfl (by decide)) Zd))))) (Wo (Za (Zc (i:=1) (m:=.S) rfl (by decide)) Zd)))), ?_⟩
 refine Pm.ref Z2 (g:=fun xs=>_) ?_
 rintro(ts:List (List Int)) ⟨h1,h2⟩
 simp only[Z2]
 walk_at "pd"
 have hl:(ZjM ts).length=ts.length:=(WS ts).length_eq
 rw[Zi7 ⟨fun t ht=>(h1 t ht).1,by omega⟩,ZnA Uh (by omega)]
 walk_at "pd"
 rw[Zfi (g:=fun x=>match x with|.tup ys=>.lst ys|_=>.non) (fun x hx=>by
  obtain⟨t,ht,rfl⟩:=Zq4.mp hx
  have:=(h1 t ((WS ts).mem_iff.mp ht)).2
  unfold WR
  show Zho [.tup (t.map PV.int)]=_
  simp only[Zho]
  rw[Zbn (by omega)])]
 walk_at "pd"
 rw[ZqW];rfl
theorem Wd {ts:List (List Int)} (h:(∀t∈ts,t≠[]/\t.length<=1000)/\ts.length<=100000):Z2.fn [.lst (ts.map WR)]=.ok (.lst ((ZjM ts).map Vw)):=Pm.fn_eq Z2 ts h (fun(a:List (List Int)) e=>by
 have e':a=ts:=by
  simp only[Z2,List.cons.injEq,PV.lst.injEq,and_true] at e
  exact Qu e
 rw[e'])
theorem Za9:Z2.calm:=fun a q h=>by (simp only[Z2] at h;cases h)
noncomputable def Zu (n:Nat) (l:List Int):List Int:=((List.range n).filter fun(i:Nat)=>decide ((i:Int) ∉ l)).map fun(i:Nat)=>(i:Int)
theorem QB {n:Nat}{l:List Int}{p:Int}:p∈Zu n l ↔ (0<=p/\p<n)/\p ∉ l:=by
 unfold Zu
 constructor
 ·intro h
  obtain⟨i,hi,rfl⟩:=Zq4.mp h
  obtain⟨h1,h2⟩:=ZqS.mp hi
  have:=ZqK.mp h1
  exact⟨by omega,of_decide_eq_true h2⟩
 ·rintro⟨h1,h2⟩
  exact Zq4.mpr ⟨p.toNat,ZqS.mpr ⟨ZqK.mpr (by omega),decide_eq_true (by rw[ZqT h1.1];exact h2)⟩,by omega⟩
theorem Zb2 (n:Nat) (l:List Int):(Zu n l).length<=n:=by
 unfold Zu
 rw[Zqt]
 exact Zq3 (Zrv _ _) (by simp)
noncomputable def Yb:Pm:=⟨List Int×List Int,fun a=>[.lst (a.1.map PV.int),.lst (a.2.map PV.int)],fun a=>a.1.length<=1000,fun a=>.ok (.lst ((Zu a.1.length a.2).map PV.int))⟩
theorem Za3 (T:Txt K mg) {f:Addr}{fd:FuncData} (F:Fun K "free_pits" "free_pits" YS f fd):Jo P w K mg base CX0 1 f fd ["board", "barred"] (spF K 2 .F W0 Yb.fn):=by
 refine F.okP VP rfl rfl (fun cdv A outer s H E hr=>?_)
 have hu:=hr.units
 refine⟨_,_,⟨[],[],[],.F⟩,rfl,(Zj (ZB (ZaK (YF rfl T.z_range (Zb (Zo (Z1 (K:=K)) rfl T.z_len We (Zb (pv 0) Zf)) Zf)) (QX VP.nd) (fun _ _ _ _=>(Zgy (fun _ _ h=>h) (ZF (Q4 (K:=K) hu) (pv 2) (pv 1) rfl))) (fun _ _ _ _=>(pv 2)) hv1 VP.nd rfl))),
   (WC (QE (k:=1) (DI.c (Jh (Za (DE.toA (Wc (Za (Zc (i:=0) (m:=.S) rfl (by decide)) Zd))) Zd))) ZmW (ZE (DE.toA (Zel (g:=(!·)) (Zc (i:=2) (m:=.S) rfl (by decide)) (Zc (i:=1) (m:=.S) rfl (by decide))))) (DE.PF (DE.grd (Zc (i:=2) (m:=.S) rfl (by decide)))))), ?_⟩
 refine Pm.ref Yb (g:=fun xs=>_) ?_
 rintro⟨b,l⟩ (hb:b.length<=1000)
 simp only[Yb]
 walk_at "pd"
 rw[QC (p:=fun i=>decide ((i:Int) ∉ l)) (g:=fun(i:Nat)=>.int (i:Int)) (fun i hi=>by
  rw[Zrm]
  walk_at "pd"
  rw[Q3]
  walk_at "pd"
  by_cases e:(i:Int)∈l
  ·rw[decide_eq_true e,decide_eq_false (fun z=>z e)]
   walk_at "pd"
  ·rw[decide_eq_false e,decide_eq_true e]
   walk_at "pd")]
 walk_at "pd"
 unfold Zu
 rw[ZqW,Zq6];rfl
theorem WN {b l:List Int} (h:b.length<=1000):Yb.fn [.lst (b.map PV.int),.lst (l.map PV.int)]=.ok (.lst ((Zu b.length l).map PV.int)):=Pm.fn_eq Yb (b,l) h fun(a:List Int×List Int) e=>by (simp only[Yb,List.cons.injEq,PV.lst.injEq,PV.int.injEq,PV.str.injEq,PV.bl.injEq,PV.tup.injEq,ZC,and_true] at e ⊢;first|(simp only[e];done)|(subst e;rfl)|(rw[e]))
theorem ZdH:Yb.calm:=fun a q h=>by (simp only[Yb] at h;cases h)
noncomputable def W5:Pm:=⟨List Int×Int,fun a=>[.tup (a.1.map PV.int),.int a.2],fun a=>0<=a.2/\a.2<a.1.length/\a.1.length<=1000,fun a=>.ok (Zhm (ZjW a))⟩
theorem Zh3 (T:Txt K mg) {f:Addr}{fd:FuncData} (F:Fun K "sow_pit" "sow_pit" WW f fd):Jo P w K mg base CX0 1 f fd ["board", "pit"] (spF K 2 .F W0 W5.fn):=by
 refine F.okP Wu rfl rfl (fun cdv A outer s H E hr=>?_)
 have hu:=hr.units
 refine⟨_,_,⟨[],[],[],.F⟩,rfl,(Zh (ZA (i:=2) Wu.nd rfl (by first|exact Or.inl rfl|exact Or.inr rfl) (Zo (Z1 (K:=K)) rfl T.z_len We (Zb (pv 0) Zf)))
   (Zh (ZA (i:=3) Wu.nd rfl (by first|exact Or.inl rfl|exact Or.inr rfl) (Z7 WQ (WZ (ZP (K:=K)) (pv 0) (pv 1) (fun _ _=>rfl)) (pv 2)))
   (Zh (ZA (i:=4) Wu.nd rfl (by first|exact Or.inl rfl|exact Or.inr rfl) (Z7 YG (WZ (ZP (K:=K)) (pv 0) (pv 1) (fun _ _=>rfl)) (pv 2)))
   (Zh (Zch (i:=5) Wu.nd rfl (Zme (K:=K) (pv 0)) (fun _ _ _ _=>(Z7 Jj (pv 8) (pv 3))) rfl)
   (Zh (Zbg (pv 3) (Zci (pv 5) (pv 1) Vy))
   (Zh (ZA (i:=6) Wu.nd rfl (by first|exact Or.inl rfl|exact Or.inr rfl) (pv 1))
   (Zh (Vj PassesOwn.never rfl (YF rfl T.z_range (Zb (pv 4) Zf)) (Ws (i:=7) Wu.nd rfl (by first|exact Or.inl rfl|exact Or.inr rfl)) (Zh (ZA (i:=6) Wu.nd rfl (by first|exact Or.inl rfl|exact Or.inr rfl) (Z7 YG (Z7 Jj (pv 6) Zm) (pv 2)))
   (Zj (Zmc (pv 5) (pv 6) (Zje (K:=K)) Zm ZnO Vy))))
   (Zj (ZB (Zcj (Zb (pv 5) (Zb (pv 6) Zf)))))))))))),
   (Zn (Γm:=[.S,.S,.P,.U,.U,.U,.U,.U]) (Yj (i:=2) (Wc (Za (Zc (i:=0) (m:=.S) rfl (by decide)) Zd)) (by decide))
   (Zn (Γm:=[.S,.S,.P,.P,.U,.U,.U,.U]) (Yj (i:=3) (UE (YJ (te:=tC .non) (Zc (i:=0) (m:=.S) rfl (by decide)) (Zc (i:=1) (m:=.S) rfl (by decide))) (DE.toA (Zi (i:=2) rfl))) (by decide))
   (Zn (Γm:=[.S,.S,.P,.P,.P,.U,.U,.U]) (Yj (i:=4) (YI (YJ (te:=tC .non) (Zc (i:=0) (m:=.S) rfl (by decide)) (Zc (i:=1) (m:=.S) rfl (by decide))) (DE.toA (Zi (i:=2) rfl))) (by decide))
   (Zn (Γm:=[.S,.S,.P,.P,.P,.O,.U,.U]) (Zcu (i:=5) (JJ (DI.c (Zof (DE.PZ (DE.grd (Zc (i:=0) (m:=.S) rfl (by decide)))))) (DE.PF (Jk (Zc (i:=8) (m:=.S) rfl (by decide)) (DE.toA (Zi (i:=3) rfl))))) (by decide))
   (Zn (Γm:=[.S,.S,.P,.P,.P,.O,.U,.U]) (Vk (i:=5) rfl (Zi (i:=3) rfl) (Zc (i:=1) (m:=.S) rfl (by decide)))
   (Zn (Γm:=[.S,.S,.P,.P,.P,.O,.P,.U]) (Yj (i:=6) (DE.grd (Zc (i:=1) (m:=.S) rfl (by decide))) (by decide))
   (Zn (Γm:=[.S,.S,.P,.P,.P,.O,.P,.U]) (Vm (Γl:=[.S,.S,.P,.P,.P,.O,.P,.U]) (Jh (Za (DE.toA (Zi (i:=4) rfl)) Zd)) rfl (Zjn (i:=7) (by decide))
   (DS.out (Y:=⟨[.S,.S,.P,.P,.P,.O,.P,.P],[.S,.S,.P,.P,.P,.O,.P,.U],[.S,.S,.P,.P,.P,.O,.P,.U],.F⟩) (Y':=⟨[.S,.S,.P,.P,.P,.O,.P,.U],[.S,.S,.P,.P,.P,.O,.P,.U],[.S,.S,.P,.P,.P,.O,.P,.U],.F⟩) (Zn (Γm:=[.S,.S,.P,.P,.P,.O,.P,.P]) (Yj (i:=6) (YI (DE.toA (Jk (DE.toA (Zi (i:=6) rfl)) (DE.toA Zk))) (DE.toA (Zi (i:=2) rfl))) (by decide))
   (ZkF (i:=5) rfl rfl (DE.toA (Zi (i:=6) rfl)) (DE.toA Zk))) rfl rfl rfl rfl))
   (WC (Zfy (YN (VC (i:=5) rfl) (YN (DE.PF (Zi (i:=6) rfl)) J3))))))))))), ?_⟩
 refine Pm.ref W5 (g:=fun xs=>_) ?_
 rintro⟨ns,p⟩ ⟨h0,h1,h2⟩
 simp only at h0 h1 h2
 simp only[W5]
 walk_at "pu"
 rw[Zhp]
 walk_at "pu"
 rw[Zbm h0 h1]
 walk_at "pu"
 rw[ZiF (Zj2 3 (by omega) (by omega))]
 walk_at "pu"
 rw[Zbm h0 h1]
 walk_at "pu"
 rw[Zbl (show (0:Int)<ns.length by omega)]
 walk_at "pu"
 rw[ZdX]
 walk_at "pu"
 rw[ZkU]
 walk_at "pu"
 rw[Zfj (by simp;omega)]
 walk_at "pu"
 have hc:Zdy (fun x=>ZoU x (.int (ns.getD p.toNat 0/ns.length))) (ns.map PV.int)=.ok ((ns.map fun z=>z+ns.getD p.toNat 0/ns.length).map PV.int):=by
  rw[Zfi (g:=fun x=>match x with|.int z=>PV.int (z+ns.getD p.toNat 0/ns.length)|_=>.non)]
  ·simp[Function.comp_def]
  ·intro x hx
   obtain⟨z,_,rfl⟩:=Zq4.mp hx
   rfl
 rw[hc]
 walk_at "pu"
 rw[Zbk h0 (by simp;omega),Zgl h0 h1]
 walk_at "pu"
 have o0:=ZqJ (ns.getD p.toNat 0) (show (ns.length:Int)≠0 by omega)
 have o1:=ZqE (ns.getD p.toNat 0) (show (0:Int)<ns.length by omega)
 rw[Zg1 (by omega)]
 walk_at "pu"
 generalize hs:ns.getD p.toNat 0/ns.length=rounds
 generalize ho:ns.getD p.toNat 0%ns.length=over at o0 o1
 generalize hb:(fun(x:PV) (ρ:List PV)=>_)=body
 obtain⟨ρ',e1,e2⟩:=ZgP (b:=body) (xs:=ZeG 0 over.toNat) (ρ:=[.tup (ns.map PV.int),.int p,.int ns.length,.int rounds,.int over,.lst ((tab ns.length (ZbO ns p 0)).map PV.int),.int p,.non])
  (fun i ρ=>∃v,ρ=[.tup (ns.map PV.int),.int p,.int ns.length,.int rounds,.int over,.lst ((tab ns.length (ZbO ns p i)).map PV.int),.int ((p+i)%ns.length),v]) ⟨_,by rw[Int.natCast_zero,Int.add_zero,ZqZ h0 h1]⟩ (by
  rintro i x ρ hx ⟨v,rfl⟩
  obtain⟨hi,rfl⟩:=JH hx
  subst hb
  have m1:=ZcN h0 h1 (show (0:Int)<=i by omega) (by omega)
  have m2:=ZcN h0 h1 (show (0:Int)<=(i:Int)+1 by omega) (by omega)
  have e:((p+(i:Int))%ns.length+1)%ns.length=(p+((i:Int)+1))%ns.length:=by
   rw[m1,m2]
   split
   ·rw[show p+(i:Int)+1=p+((i:Int)+1) by omega,m2]
   ·rw[ZqZ (by omega) (by omega)];split<;>omega
  have b:0<=(p+((i:Int)+1))%ns.length/\(p+((i:Int)+1))%ns.length<ns.length:=by rw[m2];split<;>omega
  walk_at "pu"
  rw[Zbl (by omega)]
  walk_at "pu"
  rw[e,ZaL b.1 (by rw[Wg];exact b.2)]
  walk_at "pu"
  rw[ZaU (by omega)]
  have hst:=Zgm h0 h1 (i:=i) (by omega)
  have hset:=Zbk (ns:=tab ns.length (ZbO ns p i)) (k:=(p+((i:Int)+1))%ns.length) (y:=ZbO ns p i ((p+((i:Int)+1))%ns.length).toNat+1) b.1 (by rw[Wg];exact b.2)
  rw[hst] at hset
  rw[hset]
  walk_at "pu"
  exact V2 ⟨_,by rw[show ((i+1:Nat):Int)=(i:Int)+1 by omega]⟩)
 obtain⟨v,rfl⟩:=e2
 rw[e1]
 walk_at "pu"
 rw[Wp,ZqT o0]
 show Rr.ok (PV.tup _)=Rr.ok (PV.tup _)
 unfold ZjW Qy Zp6
 rw[ho]
theorem Us {ns:List Int}{p:Int} (h:0<=p/\p<ns.length/\ns.length<=1000):W5.fn [.tup (ns.map PV.int),.int p]=.ok (Zhm (ZjW (ns,p))):=
 Pm.fn_eq W5 (ns,p) h fun⟨ns',k'⟩ e=>by
  simp only[W5,List.cons.injEq,PV.tup.injEq,PV.int.injEq,and_true] at e ⊢
  rw[Jx e.1,e.2]
noncomputable def Yo:Pm:=⟨List Int×List Int,fun a=>[WR a.1,.lst (a.2.map PV.int)],fun a=>(∀p∈a.2,0<=p/\p<a.1.length)/\a.1.length<=1000/\a.2.length<=1000,fun a=>.ok (.lst ((QT a.2 a.1).map ZjV))⟩
theorem Zl3 {i:Int}{b:List Int}:grd (.tup [.int i,WR b])=.ok (.tup [.int i,WR b]):=by
 unfold grd
 simp only[PV.flat,PV.flats,Uh,Bool.and_self,if_true]
theorem ZcZ (T:Txt K mg) {f:Addr}{fd:FuncData} (F:Fun K "sowings_of" "sowings_of" Yy f fd):Jo P w K mg base CX0 2 f fd ["board", "pits"] (spF K 2 .F W0 Yo.fn):=by
 have ZjL:=UJ (P:=P) (w:=w) (base:=base) T.Zjy ZhF (fun F=>Zh3 T F)
 refine F.okP Vz rfl rfl (fun cdv A outer s H E hr=>?_)
 have hu:=hr.units
 refine⟨_,_,⟨[],[],[],.F⟩,rfl,(Zj (ZB (ZaK (Wn (K:=K) (pv 1)) (QX Vz.nd) (fun _ _ _ _=>(Zgy (fun _ _ h=>h) (ZF ZiI (WZ (ZP (K:=K)) (pv 0) (pv 2) (fun _ _=>rfl)) Zm (Ye _)))) (fun _ _ _ _=>(Zcj (Zb (pv 2) (Zb (ZN (Qj (K:=K)) rfl T.z_tuple ZbF (Zb (WZ (ZP (K:=K)) (Zt ZjL (hr.mono (by decide)) rfl (Zb (pv 0) (Zb (pv 2) Zf))) Zm (fun _ _=>rfl)) Zf)) Zf)))) hv1 Vz.nd rfl))),
   (WC (QE (k:=1) (DI.c (Ji (VB (i:=1) rfl))) ZmW (ZE (DE.toA (Zjq (YJ (te:=tC .non) (Zc (i:=0) (m:=.S) rfl (by decide)) (Zc (i:=2) (m:=.S) rfl (by decide))) (DE.toA Zk)))) (DE.PF (DE.grd (Zfz (Za (Zc (i:=2) (m:=.S) rfl (by decide)) (Za (Zdg (Za (YJ (te:=tC .non) (DE.toA (ZkM (Ze (Ze Zp)) (Za (Zc (i:=0) (m:=.S) rfl (by decide)) (Za (Zc (i:=2) (m:=.S) rfl (by decide)) Zd)))) (DE.toA Zk)) Zd)) Zd))))))), ?_⟩
 refine Pm.ref Yo (g:=fun xs=>_) ?_
 rintro⟨b,Q⟩ ⟨h0,h1,h2⟩
 simp only at h0 h1 h2
 simp only[Yo]
 walk_at "pd"
 rw[Zl4 (q:=PV.int) (p:=fun p=>decide (0<b.getD p.toNat 0)) (g:=fun p=>ZjV (p,Qy b p)) (fun p hp=>by
  have hp':=h0 p hp
  unfold WR
  walk_at "pd"
  rw[Zbm (by omega) (by omega)]
  walk_at "pd"
  by_cases c:0<b.getD p.toNat 0
  ·rw[decide_eq_true c]
   walk_at "pd"
   rw[Us ⟨by omega,by omega,h1⟩]
   simp only[Zhm,ZjW]
   walk_at "pd"
   rw[show Zgz [PV.lst ((Qy b p).map PV.int)]=.ok (WR (Qy b p)) from rfl]
   walk_at "pd"
   rw[Zl3]
   walk_at "pd"
   rfl
  ·rw[decide_eq_false c]
   walk_at "pd")]
 walk_at "pd"
 unfold QT
 rw[ZqW];rfl
theorem Jc {b Q:List Int} (h:(∀p∈Q,0<=p/\p<b.length)/\b.length<=1000/\Q.length<=1000):Yo.fn [WR b,.lst (Q.map PV.int)]=.ok (.lst ((QT Q b).map ZjV)):=Pm.fn_eq Yo (b,Q) h (fun(a:List Int×List Int) e=>by
 have e':a=(b,Q):=by
  simp only[Yo,WR,List.cons.injEq,PV.tup.injEq,PV.lst.injEq,and_true] at e
  exact Prod.ext (Jx e.1) (Jx e.2)
 rw[e'])
theorem ZnS {b:List Int}{i:Int}:grd (.tup [WR b,.int i])=.ok (.tup [WR b,.int i]):=by
 unfold grd
 simp only[PV.flat,PV.flats,Uh,Bool.and_self,if_true]
theorem ZcV {t:List Int}:grd (WR t)=.ok (WR t):=ZdX
theorem Zib:∀{a b:List (List Int)},a.map tI=b.map tI->a=b
 |[],[],_=>rfl
 |[],y::b,h=>by simp at h
 |x::a,[],h=>by simp at h
 |x::a,y::b,h=>by
  simp only[Zqz,List.cons.injEq] at h
  rw[Zlb h.1,Zib h.2]
theorem Zgj {x:List Int}{bs:List (List Int)}:tI x∈bs.map tI ↔ x∈bs:=by
 constructor
 ·intro h
  obtain⟨y,hy,e⟩:=Zq4.mp h
  rw[<- Zlb e];exact hy
 ·exact fun h=>List.mem_map_of_mem h
structure NlP (lv:List (List Int)) (Q:List Int) (bs:List (List Int)) (vs:List PV):Prop where
 hl:∀x∈lv,(∀p∈Q,0<=p/\p<x.length)/\x.length<=1000
 hq:Q.length<=1000
 ln:vs.length=bs.length
 sz:bs.length+lv.length*Q.length<=900000
 fl:PV.flats vs=true
theorem Zgn (Q x:List Int):(QT Q x).length<=Q.length:=by
 unfold QT
 rw[Zqt]
 exact Zrv _ _
structure NlI (n:Nat) (st:NB):Prop where
 ln:st.2.2.length=st.2.1.length
 sz:st.2.1.length<=n
 fz:st.1.length<=n
theorem NlI.step {n:Nat}{st:NB} (h:NlI n st) (x:List Int) (y:Int×List Int):NlI (n+1) (stB x st y):=by
 have h1:=h.ln
 have h2:=h.sz
 have h3:=h.fz
 unfold stB
 split
 ·exact⟨h1,by omega,by omega⟩
 ·exact⟨by simp[h1],by simp;omega,by simp;omega⟩
theorem NlI.fold {x:List Int}:∀{L:List (Int×List Int)}{n:Nat}{st:NB},NlI n st->NlI (n+L.length) (L.foldl (stB x) st)
 |[],n,st,h=>h
 |y::L,n,st,h=>by
  have:=NlI.fold (x:=x) (L:=L) (h.step x y)
  rw[Zq8,show n+(L.length+1)=n+1+L.length by omega]
  exact this
theorem NlI.up {n m:Nat}{st:NB} (h:NlI n st) (hm:n<=m):NlI m st:=⟨h.ln,Zq3 h.sz hm,Zq3 h.fz hm⟩
theorem NlI.lv {Q:List Int}:∀{lv:List (List Int)}{n:Nat}{st:NB},NlI n st->NlI (n+lv.length*Q.length) (lvB Q lv st)
 |[],n,st,h=>by simpa[lvB] using h
 |x::lv,n,st,h=>by
  have h1:NlI (n+Q.length) (bdB Q x st):=(NlI.fold (x:=x) (L:=QT Q x) h).up (by have:=Zgn Q x;omega)
  have:=NlI.lv (Q:=Q) (lv:=lv) h1
  rw[Zq8,Nat.add_mul,show n+(lv.length*Q.length+1*Q.length)=n+Q.length+lv.length*Q.length by omega]
  exact this
noncomputable def Yp:Pm:=⟨List (List Int)×List Int×List (List Int)×List PV,fun a=>[.box none (.dt (a.2.2.1.map tI)) a.2.2.2,.lst (a.1.map WR),.lst (a.2.1.map PV.int)],fun a=>NlP a.1 a.2.1 a.2.2.1 a.2.2.2,fun a=>.ok (.tup [.lst ((lvB a.2.1 a.1 ([],a.2.2)).1.map WR),.box none (.dt ((lvB a.2.1 a.1 ([],a.2.2)).2.1.map tI)) (lvB a.2.1 a.1 ([],a.2.2)).2.2])⟩
theorem Zda (T:Txt K mg) {f:Addr}{fd:FuncData} (F:Fun K "next_level" "next_level" Yz f fd):Jo P w K mg base CX0 3 f fd ["level", "pits", "came_from"] (spM K 2 2 Yp.fnM):=by
 have ZeA:=UJ (P:=P) (w:=w) (base:=base) T.Zen Zdo (fun F=>ZcZ T F)
 refine F.okM (n:=2) (j:=2) Jl rfl rfl (by decide) (fun cdv A outer s H E hr=>?_)
 have hu:=hr.units
 refine⟨_,_,⟨[.S,.S,.O,.U,.U,.U],[],[],.N⟩,rfl,rfl,(Zh (ZA (i:=3) Jl.nd rfl (by first|exact Or.inl rfl|exact Or.inr rfl) (VT Zf))
   (Zh (Vj PassesOwn.never rfl (Wn (K:=K) (pv 0)) (Ws (i:=4) Jl.nd rfl (by first|exact Or.inl rfl|exact Or.inr rfl)) (Zj (Vj PassesOwn.never rfl (Wn (K:=K) (Zt ZeA (hr.mono (by decide)) rfl (Zb (pv 4) (Zb (pv 1) Zf)))) (Ws (i:=5) Jl.nd rfl (by first|exact Or.inl rfl|exact Or.inr rfl)) (Zj (Vi (Znu (Zi4 (hu1 hu) (WZ (ZP (K:=K)) (pv 5) Zm (fun _ _=>rfl)) (pv 2))) (Zh (Zmb (hu1 hu) (pv 2) (WZ (ZP (K:=K)) (pv 5) Zm (fun _ _=>rfl)) (Zcj (Zb (pv 4) (Zb (WZ (ZP (K:=K)) (pv 5) Zm (fun _ _=>rfl)) Zf))) rfl)
   (Zj (UH (Zmj PySem.F.plainAttrs_list PySem.F.slot_list_append PySem.F.type_list_append Zbo (pv 3) (Zb (WZ (ZP (K:=K)) (pv 5) Zm (fun _ _=>rfl)) Zf))))) Yu)))))
   (Zj (ZB (pv 3))))),
   (Zn (Γm:=[.S,.S,.O,.O,.U,.U]) (Wh (i:=3) (Uo J3) (by decide))
   (Zn (Γm:=[.S,.S,.O,.O,.U,.U]) (Vm (Γl:=[.S,.S,.O,.O,.U,.U]) (Ji (VB (i:=0) rfl)) rfl (Zjn (i:=4) (by decide))
   (DS.out (Y:=⟨[.S,.S,.O,.O,.P,.U],[.S,.S,.O,.O,.U,.U],[.S,.S,.O,.O,.U,.U],.N⟩) (Y':=⟨[.S,.S,.O,.O,.U,.U],[.S,.S,.O,.O,.U,.U],[.S,.S,.O,.O,.U,.U],.N⟩) (Vm (Γl:=[.S,.S,.O,.O,.P,.U]) (Ji (DE.FZ (ZkM (Ze (Ze Zp)) (Za (DE.toA (Zi (i:=4) rfl)) (Za (Zc (i:=1) (m:=.S) rfl (by decide)) Zd))))) rfl (Zjn (i:=5) (by decide))
   (DS.out (Y:=⟨[.S,.S,.O,.O,.P,.P],[.S,.S,.O,.O,.P,.U],[.S,.S,.O,.O,.P,.U],.N⟩) (Y':=⟨[.S,.S,.O,.O,.P,.U],[.S,.S,.O,.O,.P,.U],[.S,.S,.O,.O,.P,.U],.N⟩) (Vl (Zl7 (DE.toA (Zjr (YJ (te:=tC .non) (DE.toA (Zi (i:=5) rfl)) (DE.toA Zk)) (Zc (i:=2) (m:=.O) rfl (by decide)))))
   (Zn (Γm:=[.S,.S,.O,.O,.P,.P]) (ZkE (i:=2) rfl (DE.PF (DE.grd (Zfz (Za (DE.toA (Zi (i:=4) rfl)) (Za (YJ (te:=tC .non) (DE.toA (Zi (i:=5) rfl)) (DE.toA Zk)) Zd))))) (YJ (te:=tC .non) (DE.toA (Zi (i:=5) rfl)) (DE.toA Zk)))
   (Zfw (i:=3) rfl rfl (DE.PF (DE.grd (YJ (te:=tC .non) (DE.toA (Zi (i:=5) rfl)) (DE.toA Zk))))))
   Yw) rfl rfl rfl rfl)) rfl rfl rfl rfl))
   (ZmA (j:=2) (VC (i:=3) rfl) rfl))), ?_⟩
 refine Pm.refM2 Yp ?_
 rintro⟨lv,Q,bs,vs⟩ (hp:NlP lv Q bs vs) a b' xs e
 cases e
 simp only[Yp]
 have hq:=hp.hq
 have hz:=hp.sz
 walk_at "pd"
 simp only[ins,ZoN]
 walk_at "pd"
 generalize hw:ZbS _ _ _=W
 obtain⟨ρ',rfl,v,w,rfl⟩:=YH hw (fun i ρ=>∃v w,ρ=[.lst (lv.map WR),.lst (Q.map PV.int),.box (some a) (.dt ((lvB Q (lv.take i) ([],bs,vs)).2.1.map tI)) (lvB Q (lv.take i) ([],bs,vs)).2.2,.lst ((lvB Q (lv.take i) ([],bs,vs)).1.map WR),v,w]) ⟨_,_,rfl⟩ (by
  rintro i x ρ hx ⟨v,w,rfl⟩
  rw[Zq7] at hx
  obtain⟨b,hb,rfl⟩:=Zri.mp hx
  have hi:i<lv.length:=(Zql.mp hb).1
  obtain⟨b1,b2⟩:=hp.hl b (Zqk hb)
  have hs:lvB Q (lv.take (i+1)) ([],bs,vs)=(QT Q b).foldl (stB b) (lvB Q (lv.take i) ([],bs,vs)):=by
   unfold lvB
   rw[List.take_succ,hb,Zsc];rfl
  rw[hs]
  have I0:NlI (bs.length+(lv.take i).length*Q.length) (lvB Q (lv.take i) ([],bs,vs)):=NlI.lv ⟨hp.ln,Zqn _,ZqA _⟩
  have hsz:bs.length+(lv.take i).length*Q.length+Q.length<=900000:=by
   have h1:(lv.take i).length=i:=by rw[Zq1];omega
   rw[h1]
   have h2:(i+1)*Q.length<=lv.length*Q.length:=Nat.mul_le_mul_right _ hi
   rw[Nat.add_mul] at h2
   omega
  generalize lvB Q (lv.take i) ([],bs,vs)=st0 at I0
  walk_at "pd"
  rw[ZcV]
  walk_at "pd"
  rw[Jc ⟨b1,b2,hq⟩]
  walk_at "pd"
  have hsl:=Zgn Q b
  generalize QT Q b=SL at hsl
  generalize hw2:ZbS _ _ _=W2
  obtain⟨ρ2,rfl,v2,rfl⟩:=YH hw2 (fun n ρ=>∃v,ρ=[.lst (lv.map WR),.lst (Q.map PV.int),.box (some a) (.dt (((SL.take n).foldl (stB b) st0).2.1.map tI)) ((SL.take n).foldl (stB b) st0).2.2,.lst (((SL.take n).foldl (stB b) st0).1.map WR),WR b,v]) ⟨_,rfl⟩ (by
   rintro n x ρ hx ⟨v,rfl⟩
   rw[Zq7] at hx
   obtain⟨y,hy,rfl⟩:=Zri.mp hx
   have hn:n<SL.length:=(Zql.mp hy).1
   have hs2:(SL.take (n+1)).foldl (stB b) st0=stB b ((SL.take n).foldl (stB b) st0) y:=by
    rw[List.take_succ,hy,Zsc];rfl
   rw[hs2]
   have I:=NlI.fold (x:=b) (L:=SL.take n) I0
   have htl:(SL.take n).length<=Q.length:=by rw[Zq1];omega
   generalize (SL.take n).foldl (stB b) st0=st at I
   obtain⟨i1,i2,i3⟩:=I
   unfold ZjV
   rw[Zl3]
   walk_at "pd"
   rw[Zn5]
   walk_at "pd"
   unfold stB
   by_cases c:y.2∈st.2.1
   ·obtain⟨z,hz⟩:=ZjG (ks:=st.2.1.map tI) (xs:=st.2.2) (by rw[Zqt];omega) (Zgj.mpr c)
    rw[hz,if_pos c]
    walk_at "pd"
    exact V2 ⟨_,rfl⟩
   ·rw[Zhd (fun z=>c (Zgj.mp z)),if_neg c]
    walk_at "pd"
    rw[ZnS]
    walk_at "pd"
    rw[Zmm (by simp only[PV.flat,PV.flats,Uh,Bool.and_self]) (by omega),Ziv (fun z=>c (Zgj.mp z)),Ziu (fun z=>c (Zgj.mp z))]
    walk_at "pd"
    rw[ZcV]
    walk_at "pd"
    rw[Zg4 (by rw[Zqt];omega)]
    walk_at "pd"
    refine V2 ⟨.tup [.int y.1,WR y.2], ?_⟩
    rw[Zrh,Zrh]
    rfl)
  walk_at "pd"
  refine V2 ⟨WR b,v2, ?_⟩
  rw[Zqt,Zsh])
 walk_at "pd"
 rw[Zqt,Zsh]
 rw[Zkb]
 rfl
theorem Jd {lv:List (List Int)}{Q:List Int}{bs:List (List Int)}{vs:List PV} (h:NlP lv Q bs vs):Yp.fnM (.box none (.dt (bs.map tI)) vs) [.lst (lv.map WR),.lst (Q.map PV.int)]=.ok (.tup [.lst ((lvB Q lv ([],bs,vs)).1.map WR),.box none (.dt ((lvB Q lv ([],bs,vs)).2.1.map tI)) (lvB Q lv ([],bs,vs)).2.2]):=Pm.fn_eq Yp (lv,Q,bs,vs) h (fun(a:List (List Int)×List Int×List (List Int)×List PV) e=>by
 have e':a=(lv,Q,bs,vs):=by
  simp only[Yp,List.cons.injEq,PV.lst.injEq,PV.box.injEq,and_true] at e
  obtain⟨e1,e2,e3⟩:=e
  refine Prod.ext (Qu e2) (Prod.ext (Jx e3) (Prod.ext (Zib ?_) e1.2.2))
  have:=e1.2.1
  injection this
 rw[e'])
theorem Zks {b:List Int}:Zg3 (WR b) .non=.ok (.box none (.dt [tI b]) [.non]):=by
 rw[Zc5]
 unfold Zg3
 simp only[U5]
noncomputable def ZZ:Pm:=⟨List Int×List Int,fun a=>[.lst (a.1.map PV.int),.lst (a.2.map PV.int)],fun a=>a.1.length<=24/\∃s,ZaS a.1.length s (Zu a.1.length a.2) a.1,fun a=>.ok (.box none (.dt ((ZhR (Zu a.1.length a.2) a.1).map tI)) (wk (Zu a.1.length a.2) a.1 (wkN (Zu a.1.length a.2) a.1)).2.2)⟩
theorem ZdZ (T:Txt K mg) {f:Addr}{fd:FuncData} (F:Fun K "walk_from" "walk_from" YQ f fd):Jo P w K mg base CX0 4 f fd ["board", "barred"] (spF K 2 .F W0 ZZ.fn):=by
 have Qs:=UJ (P:=P) (w:=w) (base:=base) T.ZbC Za5 (fun F=>Za3 T F)
 have ZeB:=UJ (P:=P) (w:=w) (base:=base) T.Zeo Zdp (fun F=>Zda T F)
 refine F.okP WT rfl rfl (fun cdv A outer s H E hr=>?_)
 have hu:=hr.units
 refine⟨_,_,⟨[],[],[],.F⟩,rfl,(Zh (ZA (i:=2) WT.nd rfl (by first|exact Or.inl rfl|exact Or.inr rfl) (Zt Qs (hr.mono (by decide)) rfl (Zb (pv 0) (Zb (pv 1) Zf))))
   (Zh (ZA (i:=3) WT.nd rfl (by first|exact Or.inl rfl|exact Or.inr rfl) (Zi1 (hu1 hu) (ZN (Qj (K:=K)) rfl T.z_tuple ZbF (Zb (pv 0) Zf)) Znz))
   (Zh (ZA (i:=4) WT.nd rfl (by first|exact Or.inl rfl|exact Or.inr rfl) (VT (Zb (ZN (Qj (K:=K)) rfl T.z_tuple ZbF (Zb (pv 0) Zf)) Zf)))
   (Zh (Zkg PassesOwn.never (Zma (K:=K) (pv 4)) (Zj (ZA (i:=4) WT.nd rfl (by first|exact Or.inl rfl|exact Or.inr rfl) (Zt ZeB (hr.mono (by decide)) rfl (Zb (pv 4) (Zb (pv 2) (Zb (pv 3) Zf)))))))
   (Zj (ZB (pv 3))))))),
   (Zn (Γm:=[.S,.S,.O,.U,.U]) (Wh (i:=2) (ZkM (Ze (Ze Zp)) (Za (Zc (i:=0) (m:=.S) rfl (by decide)) (Za (Zc (i:=1) (m:=.S) rfl (by decide)) Zd))) (by decide))
   (Zn (Γm:=[.S,.S,.O,.O,.U]) (Wh (i:=3) (Zjs (Zdg (Za (Zc (i:=0) (m:=.S) rfl (by decide)) Zd)) Zoj) (by decide))
   (Zn (Γm:=[.S,.S,.O,.O,.O]) (Wh (i:=4) (Uo (YN (DE.PF (DE.grd (Zdg (Za (Zc (i:=0) (m:=.S) rfl (by decide)) Zd)))) J3)) (by decide))
   (Zn (Γm:=[.S,.S,.O,.O,.O]) (ZkC (Γ:=[.S,.S,.O,.O,.O]) (Zoa (Zc (i:=4) (m:=.O) rfl (by decide)))
   (ZkD (l:=4) (ZmC (i:=3) rfl (Ze (Ze Zp)) (ZgX (Zjo (l:=4) (md:=.O) rfl (by decide)) (ZgX (Zjo (l:=2) (md:=.O) rfl (by decide)) (ZkN ZmH)))) (by decide)))
   (WC (VC (i:=3) rfl)))))), ?_⟩
 refine Pm.ref ZZ (g:=fun xs=>_) ?_
 rintro⟨b,l⟩ ⟨hl,s,F⟩
 simp only at hl F
 simp only[ZZ]
 walk_at "pd"
 rw[WN (by omega)]
 have hpl:=Zb2 b.length l
 unfold ZhR
 generalize Zu b.length l=Q at F hpl
 walk_at "pd"
 obtain⟨w1,w2,w3⟩:=F.end
 have hT:Zgz [PV.lst (b.map PV.int)]=.ok (WR b):=rfl
 rw[hT]
 walk_at "pd"
 rw[Zks]
 walk_at "pd"
 rw[hT]
 walk_at "pd"
 rw[ZcV]
 walk_at "pd"
 generalize hw:Zay _ _ _=W
 obtain⟨ρ',rfl,rfl⟩:=ZeM hw (wkN Q b) (fun i ρ=>ρ=[.lst (b.map PV.int),.lst (l.map PV.int),.lst (Q.map PV.int),.box none (.dt ((wk Q b i).2.1.map tI)) (wk Q b i).2.2,.lst ((wk Q b i).1.map WR)]) rfl (by
  rintro i ρ hi rfl
  have W:=Zd0 Q b i
  have hle:=F.le i
  have hsub:(wk Q b i).1.length<=1000:=by
   cases i with
   |zero=>simp[wk]
   |succ i =>
    have:=ZkY Q b i
    rw[this,ZqV] at hle
    omega
  constructor
  ·walk_at "pd"
   obtain⟨y,ys,e⟩:=Zry (w3 i hi)
   rw[e];rfl
  ·walk_at "pd"
   rw[ZkS (Jd (lv:=(wk Q b i).1) (Q:=Q) (bs:=(wk Q b i).2.1) (vs:=(wk Q b i).2.2) ⟨fun x hx=>by
    have B:=(W.re x (W.sub x hx)).bs F.hP F.hb
    exact⟨fun p hp=>by have:=F.hP p hp;have:=B.1;omega,by have:=B.1;omega⟩,by omega,W.ln,by
    have:(wk Q b i).1.length*Q.length<=1000*24:=Nat.mul_le_mul hsub (by omega)
    omega,W.fl⟩)]
   walk_at "pd"
   exact V2 rfl) (by
  rintro ρ rfl
  rw[w2]
  walk_at "pd"
  rfl)
 walk_at "pd"
theorem J5 {b l:List Int} (h:b.length<=24/\∃s,ZaS b.length s (Zu b.length l) b):ZZ.fn [.lst (b.map PV.int),.lst (l.map PV.int)]=.ok (.box none (.dt ((ZhR (Zu b.length l) b).map tI)) (wk (Zu b.length l) b (wkN (Zu b.length l) b)).2.2):=Pm.fn_eq ZZ (b,l) h fun(a:List Int×List Int) e=>by (simp only[ZZ,List.cons.injEq,PV.lst.injEq,PV.int.injEq,PV.str.injEq,PV.bl.injEq,PV.tup.injEq,ZC,and_true] at e ⊢;first|(simp only[e];done)|(subst e;rfl)|(rw[e]))
theorem ZdF:ZZ.calm:=fun a q h=>by (simp only[ZZ] at h;cases h)
theorem Ziz {b l:List Int} (h:UB b l=none):b.length<=24/\2<=b.length/\ZkW b.length l/\ZaS b.length b.sum (Zu b.length l) b:=by
 unfold UB at h
 split at h
 ·rename_i h1
  have B:=U9.mp h1
  by_cases h2:ZkW b.length l
  ·rw[Zdt h2] at h
   simp only[Zl5] at h
   split at h
   ·cases h
   ·rename_i h3
    have l1:=B.lo
    exact⟨B.hi,B.lo,h2,⟨by omega,fun p hp=>(QB.mp hp).1,⟨rfl,B.nn,rfl⟩,by omega⟩⟩
  ·rw[Zar h2] at h
   cases h
 ·cases h
noncomputable def YL:Pm:=⟨List Int×List Int,fun a=>[.lst (a.1.map PV.int),.lst (a.2.map PV.int)],fun a=>a.1.length<=1000/\a.2.length<=1000,fun a=>orX (UB a.1 a.2) (.lst ((QO (Zu a.1.length a.2) a.1).map Vw))⟩
theorem Zcp (T:Txt K mg) {f:Addr}{fd:FuncData} (F:Fun K "come_to" "come_to" WY f fd):Jo P w K mg base (CX1 P w) 7 f fd ["board", "barred"] (spF K 2 .F (W1 K) YL.fn):=by
 have ZeE:=Zfc (P:=P) (w:=w) (base:=base) T.Zes Zds (fun F=>Zdd T F)
 have ZbM:=UJ (P:=P) (w:=w) (base:=base) T.ZbB ZaB (fun F=>ZaA T F)
 have ZfR:=UJ (P:=P) (w:=w) (base:=base) T.Zf5 Ze4 (fun F=>ZdZ T F)
 refine F.okX Zhk rfl rfl (fun cdv A outer s H E hr=>?_)
 have hu:=hr.units
 refine⟨_,_,⟨[],[],[],.F⟩,rfl,(Zh (UH (WP ZeE (hr.mono (by decide)) rfl Zbi (Zb (pv 0) (Zb (pv 1) Zf))))
   (Zj (ZB (Zt ZbM (hr.mono (by decide)) rfl (Zb (ZN (ZhE rfl) rfl T.z_list Wt (Zb (Zt ZfR (hr.mono (by decide)) rfl (Zb (pv 0) (Zb (pv 1) Zf))) Zf)) Zf))))),
   (Zn (Γm:=[.S,.S]) (Zdf (DE.toA (Zo7 (Ze (Ze Zp)) (Za (Zc (i:=0) (m:=.S) rfl (by decide)) (Za (Zc (i:=1) (m:=.S) rfl (by decide)) Zd)))))
   (WC (Zpf (Ze Zp) (Pm.calm_fn Za9) (Za (DE.toA (ZkK (Za (DE.toA (Zpf (Ze (Ze Zp)) (Pm.calm_fn ZdF) (Za (Zc (i:=0) (m:=.S) rfl (by decide)) (Za (Zc (i:=1) (m:=.S) rfl (by decide)) Zd)))) Zd))) Zd)))), ?_⟩
 refine Pm.ref YL (g:=fun xs=>_) ?_
 rintro⟨b,l⟩ ⟨hb,hl⟩
 simp only at hb hl
 simp only[YL]
 walk_at "pd"
 rw[Jg ⟨hb,hl⟩]
 cases hX:UB b l with
 |some q =>
  simp only[orX]
  walk_at "pd"
 |none =>
  obtain⟨p1,p2,p3,F⟩:=Ziz hX
  simp only[orX]
  walk_at "pd"
  rw[J5 ⟨p1,_,F⟩]
  walk_at "pd"
  have W:=Zd0 (Zu b.length l) b (wkN (Zu b.length l) b)
  have hle:=F.le (wkN (Zu b.length l) b)
  rw[show List.map tI (ZhR (Zu b.length l) b)=(ZhR (Zu b.length l) b).map (fun b=>b.map Sum.inl) from rfl,ZiA (bs:=ZhR (Zu b.length l) b) W.ln (by unfold ZhR;omega)]
  walk_at "pd"
  rw[Wd ⟨fun t ht=>by
   have B:=(F.mem.mp ht).bs F.hP F.hb
   exact⟨fun z=>by have:=B.1;rw[z] at this;simp at this;omega,by have:=B.1;omega⟩,by unfold ZhR;omega⟩]
  walk_at "pd"
  rfl
theorem Vq {b l:List Int} (h:b.length<=1000/\l.length<=1000):YL.fn [.lst (b.map PV.int),.lst (l.map PV.int)]=orX (UB b l) (.lst ((QO (Zu b.length l) b).map Vw)):=Pm.fn_eq YL (b,l) h fun(a:List Int×List Int) e=>by (simp only[YL,List.cons.injEq,PV.lst.injEq,PV.int.injEq,PV.str.injEq,PV.bl.injEq,PV.tup.injEq,ZC,and_true] at e ⊢;first|(simp only[e];done)|(subst e;rfl)|(rw[e]))
theorem Zez {b l:List Int} (h:b.length<=1000/\l.length<=1000) (hX:UB b l=none):YL.fn [.lst (b.map PV.int),.lst (l.map PV.int)]=.ok (.lst ((QO (Zu b.length l) b).map Vw)):=by
 rw[Vq h,hX];rfl
noncomputable def ZG:Pm:=⟨List Int×List Int,fun a=>[.lst (a.1.map PV.int),.lst (a.2.map PV.int)],fun a=>(∀p∈a.2,0<=p/\p<a.1.length)/\a.2.length<=1000,fun a=>.ok (.int ((a.2.map fun p=>a.1.getD p.toNat 0).sum))⟩
theorem Zdc (T:Txt K mg) {f:Addr}{fd:FuncData} (F:Fun K "free_seeds" "free_seeds" Y1 f fd):Jo P w K mg base CX0 1 f fd ["board", "pits"] (spF K 2 .P W0 ZG.fn):=by
 refine F.okP Qz rfl rfl (fun cdv A outer s H E hr=>?_)
 have hu:=hr.units
 refine⟨_,_,⟨[],[],[],.P⟩,rfl,(Zj (ZB (Zo (Vn (K:=K) rfl) rfl T.z_sum Zc0 (Zb (QW (Wn (K:=K) (pv 1)) (fun _ _ _ _=>(WZ (ZP (K:=K)) (pv 0) (pv 2) (fun _ _=>rfl))) Qz.nd rfl) Zf)))),
   (Yi (Zcw (Za (DE.toA (JJ (DI.c (Ji (VB (i:=1) rfl))) (DE.PF (DE.grd (YJ (te:=tC .non) (Zc (i:=0) (m:=.S) rfl (by decide)) (Zc (i:=2) (m:=.S) rfl (by decide))))))) Zd))), ?_⟩
 refine Pm.ref ZG (g:=fun xs=>_) ?_
 rintro⟨b,Q⟩ ⟨h0,h1⟩
 simp only at h0 h1
 simp only[ZG]
 walk_at "pd"
 rw[ZgF (g:=fun p=>b.getD p.toNat 0) (fun p hp=>by
  have:=h0 p hp
  walk_at "pd")]
 walk_at "pd"
theorem Jf {b Q:List Int} (h:(∀p∈Q,0<=p/\p<b.length)/\Q.length<=1000):ZG.fn [.lst (b.map PV.int),.lst (Q.map PV.int)]=.ok (.int ((Q.map fun p=>b.getD p.toNat 0).sum)):=Pm.fn_eq ZG (b,Q) h fun(a:List Int×List Int) e=>by (simp only[ZG,List.cons.injEq,PV.lst.injEq,PV.int.injEq,PV.str.injEq,PV.bl.injEq,PV.tup.injEq,ZC,and_true] at e ⊢;first|(simp only[e];done)|(subst e;rfl)|(rw[e]))
theorem ZcI:ZG.calm:=fun a q h=>by (simp only[ZG] at h;cases h)
theorem Zc8 {x:List Int} (h:∀y∈x,0<=y):∀{Q:List Int},(Q.map fun p=>x.getD p.toNat 0).sum=0 ↔ ∀p∈Q,x.getD p.toNat 0=0
 |[]=>by simp
 |p::Q=>by
  have h1:=Zaj h p.toNat
  have h2:0<=(Q.map fun p=>x.getD p.toNat 0).sum:=L2.ZaX fun y hy=>by
   obtain⟨q,_,rfl⟩:=Zq4.mp hy
   exact Zaj h _
  rw[Zqz,Zrx]
  constructor
  ·intro e q hq
   rcases Zqw.mp hq with rfl|hq
   ·omega
   ·exact(Zc8 h (Q:=Q)).mp (by omega) q hq
  ·intro e
   have e1:=e p (by simp)
   have e2:=(Zc8 h (Q:=Q)).mpr fun q hq=>e q (by simp[hq])
   omega
noncomputable def YK:Pm:=⟨List Int×List Int,fun a=>[.lst (a.1.map PV.int),.lst (a.2.map PV.int)],fun a=>a.1.length<=1000/\a.2.length<=1000,fun a=>orX (UB a.1 a.2) (.lst ((Zcs (Zu a.1.length a.2) a.1).map Vw))⟩
theorem Zh4 (T:Txt K mg) {f:Addr}{fd:FuncData} (F:Fun K "ends_of" "ends_of" WX f fd):Jo P w K mg base (CX1 P w) 8 f fd ["board", "barred"] (spF K 2 .Z (W1 K) YK.fn):=by
 have QM:=Zfc (P:=P) (w:=w) (base:=base) T.Zer Zcz (fun F=>Zcp T F)
 have Qs:=UJ (P:=P) (w:=w) (base:=base) T.ZbC Za5 (fun F=>Za3 T F)
 have ZeD:=UJ (P:=P) (w:=w) (base:=base) T.Zeq Zdr (fun F=>Zdc T F)
 refine F.okX Vh rfl rfl (fun cdv A outer s H E hr=>?_)
 have hu:=hr.units
 refine⟨_,_,⟨[],[],[],.Z⟩,rfl,(Zh (ZA (i:=2) Vh.nd rfl (by first|exact Or.inl rfl|exact Or.inr rfl) (WP QM (hr.mono (by decide)) rfl Zbi (Zb (pv 0) (Zb (pv 1) Zf))))
   (Zh (ZA (i:=3) Vh.nd rfl (by first|exact Or.inl rfl|exact Or.inr rfl) (Zt Qs (hr.mono (by decide)) rfl (Zb (pv 0) (Zb (pv 1) Zf))))
   (Zj (ZB (ZaK (Wn (K:=K) (pv 2)) (QX Vh.nd) (fun _ _ _ _=>(Zgy (fun _ _ h=>h) (ZF (JI (K:=K) hu) (Zt ZeD (hr.mono (by decide)) rfl (Zb (pv 4) (Zb (pv 3) Zf))) Zm (Ye _)))) (fun _ _ _ _=>(pv 4)) hv1 Vh.nd rfl))))),
   (Zn (Γm:=[.S,.S,.O,.U]) (Wh (i:=2) (Zqa (Ze (Ze Zp)) (Za (Zc (i:=0) (m:=.S) rfl (by decide)) (Za (Zc (i:=1) (m:=.S) rfl (by decide)) Zd))) (by decide))
   (Zn (Γm:=[.S,.S,.O,.O]) (Wh (i:=3) (Zpf (Ze (Ze Zp)) (Pm.calm_fn ZdH) (Za (Zc (i:=0) (m:=.S) rfl (by decide)) (Za (Zc (i:=1) (m:=.S) rfl (by decide)) Zd))) (by decide))
   (Zm9 (DE.TZ (Zjt (k:=1) (DI.c (Ji (ZmE (i:=2) (m:=.O) rfl (by decide)))) ZmW (ZE (DE.toA (WI (g:=id) (DE.toA (ZnZ (Ze (Ze Zp)) (Pm.calm_fn ZcI) (Za (Zc (i:=4) (m:=.S) rfl (by decide)) (Za (Zc (i:=3) (m:=.O) rfl (by decide)) Zd)))) (DE.toA Zk)))) (VB (i:=4) rfl)))))), ?_⟩
 refine Pm.ref YK (g:=fun xs=>_) ?_
 rintro⟨b,l⟩ ⟨hb,hl⟩
 simp only at hb hl
 simp only[YK]
 walk_at "pd"
 rw[Vq ⟨hb,hl⟩]
 cases hX:UB b l with
 |some q =>
  simp only[orX]
  walk_at "pd"
 |none =>
  obtain⟨p1,p2,p3,F⟩:=Ziz hX
  simp only[orX]
  walk_at "pd"
  rw[WN (by omega)]
  have hpl:=Zb2 b.length l
  generalize Zu b.length l=Q at F hpl
  walk_at "pd"
  have hle:(QO Q b).length<=1000:=by
   unfold QO
   rw[(WS _).length_eq]
   exact F.le _
  rw[Zfj (by rw[Zqt];omega)]
  walk_at "pd"
  rw[Zl4 (q:=Vw) (p:=endB Q) (g:=Vw) (fun x hx=>by
   have B:=(F.com.mp hx).bs F.hP F.hb
   have bl:=B.1
   rw[show Vw x=.lst (x.map PV.int) from rfl]
   rw[Jf ⟨fun p hp=>by have:=F.hP p hp;omega,by omega⟩]
   walk_at "pd"
   have hz:((Q.map fun p=>x.getD p.toNat 0).sum=0) ↔ endB Q x=true:=by
    rw[U7]
    exact Zc8 B.2.1
   by_cases c:endB Q x=true
   ·rw[decide_eq_true (hz.mpr c),c]
    walk_at "pd"
   ·rw[decide_eq_false (fun z=>c (hz.mp z)),eq_false_of_ne_true c]
    walk_at "pd")]
  walk_at "pd"
  rfl
theorem Ut {b l:List Int} (h:b.length<=1000/\l.length<=1000):YK.fn [.lst (b.map PV.int),.lst (l.map PV.int)]=orX (UB b l) (.lst ((Zcs (Zu b.length l) b).map Vw)):=Pm.fn_eq YK (b,l) h fun(a:List Int×List Int) e=>by (simp only[YK,List.cons.injEq,PV.lst.injEq,PV.int.injEq,PV.str.injEq,PV.bl.injEq,PV.tup.injEq,ZC,and_true] at e ⊢;first|(simp only[e];done)|(subst e;rfl)|(rw[e]))
theorem Zey {b l:List Int} (h:b.length<=1000/\l.length<=1000) (hX:UB b l=none):YK.fn [.lst (b.map PV.int),.lst (l.map PV.int)]=.ok (.lst ((Zcs (Zu b.length l) b).map Vw)):=by
 rw[Ut h,hX];rfl
noncomputable def Wr:Pm:=⟨List Int×List Int×List Int,fun a=>[.lst (a.1.map PV.int),.lst (a.2.1.map PV.int),.lst (a.2.2.map PV.int)],fun a=>(a.1.length=a.2.1.length/\a.1.length<=1000)/\(∀i:Nat,i<a.1.length->((i:Int)∈a.2.2->a.2.1.getD i 0<=a.1.getD i 0)/\((i:Int) ∉ a.2.2->a.1.getD i 0=0))/\a.1.sum=a.2.1.sum,fun _=>.ok (.bl true)⟩
theorem Zft (T:Txt K mg) {f:Addr}{fd:FuncData} (F:Fun K "_law_end" "_law_end" W4 f fd):Jo P w K mg base CX0 1 f fd ["one", "board", "bars"] (spF K 3 .P W0 Wr.fn):=by
 refine F.okP Zba rfl rfl (fun cdv A outer s H E hr=>?_)
 have hu:=hr.units
 refine⟨_,_,⟨[],[],[],.P⟩,rfl,(Zh (Vj PassesOwn.never rfl (YF rfl T.z_range (Zb (Zo (Z1 (K:=K)) rfl T.z_len We (Zb (pv 1) Zf)) Zf)) (Ws (i:=3) Zba.nd rfl (by first|exact Or.inl rfl|exact Or.inr rfl)) (Zj (Vi (PW.pt (ZeV (PW.pt (Zgt (ZF (Zn9 (K:=K) hu) (pv 3) (pv 2) rfl) (ZcF (ZF Zfb (WZ (ZP (K:=K)) (pv 0) (pv 3) (fun _ _=>rfl)) (WZ (ZP (K:=K)) (pv 1) (pv 3) (fun _ _=>rfl)) (Ye _))))) (Zbd (PW.pt (Zgt (ZF (Q4 (K:=K) hu) (pv 3) (pv 2) rfl) (ZcF (ZF (Zg5 (K:=K) hu) (WZ (ZP (K:=K)) (pv 0) (pv 3) (fun _ _=>rfl)) Zm (Ye _)))))))) (Zj (ZB ZeW)) Yu)))
   (Zj (ZB (ZdE (JL (JI (K:=K) hu) (Zo (Z1 (K:=K)) rfl T.z_len We (Zb (pv 0) Zf)) (Zo (Z1 (K:=K)) rfl T.z_len We (Zb (pv 1) Zf)) (Ye _)) (Zck (JL (JI (K:=K) hu) (Zo (Vn (K:=K) rfl) rfl T.z_sum Zc0 (Zb (pv 0) Zf)) (Zo (Vn (K:=K) rfl) rfl T.z_sum Zc0 (Zb (pv 1) Zf)) (Ye _))))))),
   (Zn (Γm:=[.S,.S,.S,.U]) (Vm (Γl:=[.S,.S,.S,.U]) (Jh (Za (DE.toA (Wc (Za (Zc (i:=1) (m:=.S) rfl (by decide)) Zd))) Zd)) rfl (Zjn (i:=3) (by decide))
   (DS.out (Y:=⟨[.S,.S,.S,.P],[.S,.S,.S,.U],[.S,.S,.S,.U],.P⟩) (Y':=⟨[.S,.S,.S,.U],[.S,.S,.S,.U],[.S,.S,.S,.U],.P⟩) (Vl (Zfv (ZgS (ZE (DE.toA (Zel (g:=id) (DE.toA (Zi (i:=3) rfl)) (Zc (i:=2) (m:=.S) rfl (by decide))))) (ZE (DE.toA (Zf0 (YJ (te:=tC .non) (Zc (i:=0) (m:=.S) rfl (by decide)) (DE.toA (Zi (i:=3) rfl))) (YJ (te:=tC .non) (Zc (i:=1) (m:=.S) rfl (by decide)) (DE.toA (Zi (i:=3) rfl))))))) (ZgS (ZE (DE.toA (Zel (g:=(!·)) (DE.toA (Zi (i:=3) rfl)) (Zc (i:=2) (m:=.S) rfl (by decide))))) (ZE (DE.toA (WI (g:=(!·)) (YJ (te:=tC .non) (Zc (i:=0) (m:=.S) rfl (by decide)) (DE.toA (Zi (i:=3) rfl))) (DE.toA Zk))))))
   (Yi Zf2)
   Yw) rfl rfl rfl rfl))
   (Yi (Zem (DE.toA (WI (g:=id) (DE.toA (Wc (Za (Zc (i:=0) (m:=.S) rfl (by decide)) Zd))) (DE.toA (Wc (Za (Zc (i:=1) (m:=.S) rfl (by decide)) Zd))))) (WI (g:=id) (DE.toA (Zcw (Za (Zc (i:=0) (m:=.S) rfl (by decide)) Zd))) (DE.toA (Zcw (Za (Zc (i:=1) (m:=.S) rfl (by decide)) Zd))))))), ?_⟩
 refine Pm.ref Wr (g:=fun xs=>_) ?_
 rintro⟨o,b,l⟩ ⟨⟨h0,h1⟩,h2,h3⟩
 simp only at h0 h1 h2 h3
 simp only[Wr]
 walk_at "pd"
 generalize hw:ZbS _ _ _=W
 obtain⟨ρ',rfl,v,rfl⟩:=YH hw (fun i ρ=>∃v,ρ=[.lst (o.map PV.int),.lst (b.map PV.int),.lst (l.map PV.int),v]) ⟨_,rfl⟩ (by
  rintro i x ρ hx ⟨v,rfl⟩
  obtain⟨hi,rfl⟩:=JH hx
  obtain⟨g1,g2⟩:=h2 i (by omega)
  rw[Zrm]
  walk_at "pd"
  rw[Q3,Q3,Zq6]
  by_cases e:(i:Int)∈l
  ·rw[decide_eq_true e,decide_eq_false (show ¬o.getD i 0<b.getD i 0 by have:=g1 e;omega)]
   walk_at "pd"
   exact V2 ⟨_,rfl⟩
  ·rw[decide_eq_false e,decide_eq_true (g2 e)]
   walk_at "pd"
   exact V2 ⟨_,rfl⟩)
 walk_at "pd"
 rw[decide_eq_true (by omega),decide_eq_true h3]
 walk_at "pd"
theorem Vt {o b l:List Int} (h:(o.length=b.length/\o.length<=1000)/\(∀i:Nat,i<o.length->((i:Int)∈l->b.getD i 0<=o.getD i 0)/\((i:Int) ∉ l->o.getD i 0=0))/\o.sum=b.sum):Wr.fn [.lst (o.map PV.int),.lst (b.map PV.int),.lst (l.map PV.int)]=.ok (.bl true):=Pm.fn_eq Wr (o,b,l) h (fun _ _=>rfl)
noncomputable def Y6:Pm:=⟨List Int×Int,fun a=>[.lst (a.1.map PV.int),.int a.2],fun a=>0<=a.2/\a.2<a.1.length/\a.1.length<=1000,fun a=>.ok (Zhm (ZjW a))⟩
theorem Zec (T:Txt K mg) {f:Addr}{fd:FuncData} (F:Fun K "_law_sown" "_law_sown" YU f fd):Jo P w K mg base CX0 1 f fd ["board", "pit"] (spF K 2 .F W0 Y6.fn):=by
 refine F.okP Wv rfl rfl (fun cdv A outer s H E hr=>?_)
 have hu:=hr.units
 refine⟨_,_,⟨[],[],[],.F⟩,rfl,(Zh (ZA (i:=2) Wv.nd rfl (by first|exact Or.inl rfl|exact Or.inr rfl) (Zo (Z1 (K:=K)) rfl T.z_len We (Zb (pv 0) Zf)))
   (Zh (ZA (i:=3) Wv.nd rfl (by first|exact Or.inl rfl|exact Or.inr rfl) (WZ (ZP (K:=K)) (pv 0) (pv 1) (fun _ _=>rfl)))
   (Zh (ZA (i:=4) Wv.nd rfl (by first|exact Or.inl rfl|exact Or.inr rfl) (ZN (Yl (K:=K)) rfl T.z_list Wt (Zb (pv 0) Zf)))
   (Zh (Zbg Zm (Zci (pv 4) (pv 1) Vy))
   (Zh (Vj PassesOwn.never rfl (YF rfl T.z_range (Zb (pv 2) Zf)) (Ws (i:=5) Wv.nd rfl (by first|exact Or.inl rfl|exact Or.inr rfl)) (Zh (ZA (i:=6) Wv.nd rfl (by first|exact Or.inl rfl|exact Or.inr rfl) (Z7 YG (Z7 Jj (Z7 Jj (pv 1) Zm) (pv 5)) (pv 2)))
   (Zj (Zbg (Z7 Jj (Z7 Jj (WZ (ZP (K:=K)) (pv 4) (pv 6) (fun _ _=>rfl)) (Z7 WQ (pv 3) (pv 2))) (ZN Zj9 rfl T.z_int ZlD (Zb (JL Zfb (pv 5) (Z7 YG (pv 3) (pv 2)) (Ye _)) Zf))) (Zci (pv 4) (pv 6) Vy)))))
   (Zj (ZB (Zcj (Zb (pv 4) (Zb (Z7 YG (Z7 Jj (pv 1) (pv 3)) (pv 2)) Zf)))))))))),
   (Zn (Γm:=[.S,.S,.P,.U,.U,.U,.U]) (Yj (i:=2) (Wc (Za (Zc (i:=0) (m:=.S) rfl (by decide)) Zd)) (by decide))
   (Zn (Γm:=[.S,.S,.P,.P,.U,.U,.U]) (Yj (i:=3) (DE.grd (YJ (te:=tC .non) (Zc (i:=0) (m:=.S) rfl (by decide)) (Zc (i:=1) (m:=.S) rfl (by decide)))) (by decide))
   (Zn (Γm:=[.S,.S,.P,.P,.O,.U,.U]) (Wh (i:=4) (Wo (Za (Zc (i:=0) (m:=.S) rfl (by decide)) Zd)) (by decide))
   (Zn (Γm:=[.S,.S,.P,.P,.O,.U,.U]) (Vk (i:=4) rfl Zk (Zc (i:=1) (m:=.S) rfl (by decide)))
   (Zn (Γm:=[.S,.S,.P,.P,.O,.U,.U]) (Vm (Γl:=[.S,.S,.P,.P,.O,.U,.U]) (Jh (Za (DE.toA (Zi (i:=2) rfl)) Zd)) rfl (Zjn (i:=5) (by decide))
   (DS.out (Y:=⟨[.S,.S,.P,.P,.O,.P,.P],[.S,.S,.P,.P,.O,.U,.U],[.S,.S,.P,.P,.O,.U,.U],.F⟩) (Y':=⟨[.S,.S,.P,.P,.O,.U,.U],[.S,.S,.P,.P,.O,.U,.U],[.S,.S,.P,.P,.O,.U,.U],.F⟩) (Zn (Γm:=[.S,.S,.P,.P,.O,.P,.P]) (Yj (i:=6) (YI (DE.toA (Jk (DE.toA (Jk (Zc (i:=1) (m:=.S) rfl (by decide)) (DE.toA Zk))) (DE.toA (Zi (i:=5) rfl)))) (DE.toA (Zi (i:=2) rfl))) (by decide))
   (Vk (i:=4) rfl (Jk (DE.toA (Jk (YJ (te:=tC .non) (Zc (i:=4) (m:=.O) rfl (by decide)) (DE.toA (Zi (i:=6) rfl))) (DE.toA (UE (DE.toA (Zi (i:=3) rfl)) (DE.toA (Zi (i:=2) rfl)))))) (DE.toA (ZkH (Za (DE.toA (Zf0 (DE.toA (Zi (i:=5) rfl)) (DE.toA (YI (DE.toA (Zi (i:=3) rfl)) (DE.toA (Zi (i:=2) rfl)))))) Zd)))) (DE.toA (Zi (i:=6) rfl)))) rfl rfl rfl rfl))
   (WC (Zfy (YN (VC (i:=4) rfl) (YN (DE.PF (YI (DE.toA (Jk (Zc (i:=1) (m:=.S) rfl (by decide)) (DE.toA (Zi (i:=3) rfl)))) (DE.toA (Zi (i:=2) rfl)))) J3))))))))), ?_⟩
 refine Pm.ref Y6 (g:=fun xs=>_) ?_
 rintro⟨bs,p⟩ ⟨h0,h1,h2⟩
 simp only at h0 h1 h2
 simp only[Y6]
 walk_at "pd"
 rw[Zmt h0 h1]
 generalize hw:ZbS _ _ _=W
 obtain⟨ρ',rfl,v,u,rfl⟩:=YH hw (fun i ρ=>∃v u,ρ=[.lst (bs.map PV.int),.int p,.int bs.length,.int (bs.getD p.toNat 0),.lst ((tab bs.length (lsF bs p i)).map PV.int),v,u]) ⟨_,_,rfl⟩ (by
  rintro i x ρ hx ⟨v,u,rfl⟩
  obtain⟨hi,rfl⟩:=JH hx
  rw[Zrm]
  have hn:(0:Int)<bs.length:=by omega
  have hlen:(tab bs.length (lsF bs p i)).length=bs.length:=Wg _ _
  have y0:=ZqJ (p+1+i) (show (bs.length:Int)≠0 by omega)
  have y1:=ZqE (p+1+i) hn
  have hst:=Zmu (bs:=bs) (p:=p) h0 h1 (i:=i) (by omega)
  walk_at "pd"
  rw[ZaU (by omega)]
  by_cases c:(i:Int)<bs.getD p.toNat 0%bs.length
  ·rw[if_pos c] at hst
   rw[decide_eq_true c,show Zn4 [PV.bl true]=.ok (.int 1) from rfl]
   walk_at "pd"
   rw[hst]
   exact V2 ⟨_,_,rfl⟩
  ·rw[if_neg c] at hst
   rw[decide_eq_false c,show Zn4 [PV.bl false]=.ok (.int 0) from rfl]
   walk_at "pd"
   rw[hst]
   exact V2 ⟨_,_,rfl⟩)
 walk_at "pd"
 rw[Wp,show (bs.length:Int).toNat=bs.length by omega,ZnD h0 h1,ZnC]
 rfl
theorem J8 {bs:List Int}{p:Int} (h:0<=p/\p<bs.length/\bs.length<=1000):Y6.fn [.lst (bs.map PV.int),.int p]=.ok (Zhm (ZjW (bs,p))):=Pm.fn_eq Y6 (bs,p) h fun(a:List Int×Int) e=>by
 simp only[Y6,List.cons.injEq,PV.lst.injEq,PV.int.injEq,ZC,and_true] at e ⊢
 rw[show a=(bs,p) from Prod.ext e.1 e.2]
theorem Zii (Q x:List Int):(QT Q x).length<=Q.length:=by
 unfold QT
 rw[Zqt]
 exact Zrv _ _
noncomputable def Zpp (y:Int×List Int):PV:=.tup [.int y.1,Vw y.2]
noncomputable def Yd:Pm:=⟨List Int×List Int,fun a=>[.lst (a.1.map PV.int),.lst (a.2.map PV.int)],fun a=>a.1.length<=1000,fun a=>.ok (.lst ((QT (Zu a.1.length a.2) a.1).map Zpp))⟩
theorem ZbU (T:Txt K mg) {f:Addr}{fd:FuncData} (F:Fun K "_law_behind" "_law_behind" Yn f fd):Jo P w K mg base CX0 2 f fd ["board", "bars"] (spF K 2 .F W0 Yd.fn):=by
 have ZfU:=UJ (P:=P) (w:=w) (base:=base) T.Zf8 Ze7 (fun F=>Zec T F)
 refine F.okP JK rfl rfl (fun cdv A outer s H E hr=>?_)
 have hu:=hr.units
 refine⟨_,_,⟨[],[],[],.F⟩,rfl,(Zh (ZA (i:=2) JK.nd rfl (by first|exact Or.inl rfl|exact Or.inr rfl) (VT Zf))
   (Zh (Vj PassesOwn.never rfl (YF rfl T.z_range (Zb (Zo (Z1 (K:=K)) rfl T.z_len We (Zb (pv 0) Zf)) Zf)) (Ws (i:=3) JK.nd rfl (by first|exact Or.inl rfl|exact Or.inr rfl)) (Zj (Vi (PW.pt (Zgt (ZF ZiI (WZ (ZP (K:=K)) (pv 0) (pv 3) (fun _ _=>rfl)) Zm (Ye _)) (ZcF (ZF (Q4 (K:=K) hu) (pv 3) (pv 1) rfl)))) (Zj (UH (Zmj PySem.F.plainAttrs_list PySem.F.slot_list_append PySem.F.type_list_append Zbo (pv 2) (Zb (Zcj (Zb (pv 3) (Zb (WZ (ZP (K:=K)) (Zt ZfU (hr.mono (by decide)) rfl (Zb (pv 0) (Zb (pv 3) Zf))) Zm (fun _ _=>rfl)) Zf))) Zf)))) Yu)))
   (Zj (ZB (pv 2))))),
   (Zn (Γm:=[.S,.S,.O,.U]) (Wh (i:=2) (Uo J3) (by decide))
   (Zn (Γm:=[.S,.S,.O,.U]) (Vm (Γl:=[.S,.S,.O,.U]) (Jh (Za (DE.toA (Wc (Za (Zc (i:=0) (m:=.S) rfl (by decide)) Zd))) Zd)) rfl (Zjn (i:=3) (by decide))
   (DS.out (Y:=⟨[.S,.S,.O,.P],[.S,.S,.O,.U],[.S,.S,.O,.U],.F⟩) (Y':=⟨[.S,.S,.O,.U],[.S,.S,.O,.U],[.S,.S,.O,.U],.F⟩) (Vl (ZgS (ZE (DE.toA (Zjq (YJ (te:=tC .non) (Zc (i:=0) (m:=.S) rfl (by decide)) (DE.toA (Zi (i:=3) rfl))) (DE.toA Zk)))) (ZE (DE.toA (Zel (g:=(!·)) (DE.toA (Zi (i:=3) rfl)) (Zc (i:=1) (m:=.S) rfl (by decide))))))
   (Zfw (i:=2) rfl rfl (Zfy (YN (DE.PF (Zi (i:=3) rfl)) (YN (Zok (te:=tC .non) (ZkM (Ze (Ze Zp)) (Za (Zc (i:=0) (m:=.S) rfl (by decide)) (Za (DE.toA (Zi (i:=3) rfl)) Zd))) (DE.toA Zk)) J3))))
   Yw) rfl rfl rfl rfl))
   (WC (VC (i:=2) rfl)))), ?_⟩
 refine Pm.ref Yd (g:=fun xs=>_) ?_
 rintro⟨b,l⟩ (hb:b.length<=1000)
 simp only[Yd]
 walk_at "pd"
 generalize hw:ZbS _ _ _=W
 obtain⟨ρ',rfl,v,rfl⟩:=YH hw (fun i ρ=>∃v,ρ=[.lst (b.map PV.int),.lst (l.map PV.int),.lst ((QT (Zu i l) b).map Zpp),v]) ⟨_,rfl⟩ (by
  rintro i x ρ hx ⟨v,rfl⟩
  obtain⟨hi,rfl⟩:=JH hx
  rw[Zrm]
  have hlen:(QT (Zu i l) b).length<=i:=Zq3 (Zii _ _) (Zb2 _ _)
  have hY:(i:Int) ∉ l->0<b.getD i 0->QT (Zu (i+1) l) b=QT (Zu i l) b++[((i:Int),Qy b i)]:=fun e e2=>by
   unfold QT Zu
   rw[Zsk,Zr9,Zrh,Zr9,Zrh]
   congr 1
   rw[show List.filter (fun(i:Nat)=>decide ((i:Int) ∉ l)) [i]=[i] from Zr3.mpr fun z hz=>by rw[Zq0.mp hz];exact decide_eq_true e]
   rw[show List.filter (fun(p:Int)=>decide (0<b.getD p.toNat 0)) ([i].map fun(i:Nat)=>(i:Int))=[(i:Int)] from Zr3.mpr fun z hz=>by rw[Zq0.mp hz];exact decide_eq_true e2]
   rfl
  have hN:¬((i:Int) ∉ l/\0<b.getD i 0)->QT (Zu (i+1) l) b=QT (Zu i l) b:=fun c=>by
   unfold QT Zu
   rw[Zsk,Zr9,Zrh,Zr9,Zrh]
   rw[show List.filter (fun(p:Int)=>decide (0<b.getD p.toNat 0)) ((List.filter (fun(i:Nat)=>decide ((i:Int) ∉ l)) [i]).map fun(i:Nat)=>(i:Int))=[] from List.filter_eq_nil_iff.mpr fun z hz=>by
    obtain⟨k,hk,rfl⟩:=Zq4.mp hz
    obtain⟨k1,k2⟩:=ZqS.mp hk
    rw[Zq0.mp k1] at k2 ⊢
    intro z
    exact c ⟨of_decide_eq_true k2,of_decide_eq_true z⟩]
   rw[Zr5,Zrc]
  walk_at "pd"
  rw[Q3,Zq6]
  by_cases e2:0<b.getD i 0
  ·rw[decide_eq_true e2]
   walk_at "pd"
   by_cases e:(i:Int)∈l
   ·rw[decide_eq_true e,hN (fun z=>z.1 e)]
    walk_at "pd"
    exact V2 ⟨_,rfl⟩
   ·rw[decide_eq_false e,hY e e2]
    walk_at "pd"
    rw[J8 ⟨by omega,by omega,by omega⟩]
    simp only[Zhm,ZjW]
    walk_at "pd"
    rw[Zg4 (by rw[Zqt];omega)]
    walk_at "pd"
    exact V2 ⟨_,by rw[Zrh];rfl⟩
  ·rw[decide_eq_false e2,hN (fun z=>e2 z.2)]
   walk_at "pd"
   exact V2 ⟨_,rfl⟩)
 walk_at "pd"
 rw[Wp,Zq6]
theorem WE {b l:List Int} (h:b.length<=1000):Yd.fn [.lst (b.map PV.int),.lst (l.map PV.int)]=.ok (.lst ((QT (Zu b.length l) b).map Zpp)):=Pm.fn_eq Yd (b,l) h fun(a:List Int×List Int) e=>by (simp only[Yd,List.cons.injEq,PV.lst.injEq,PV.int.injEq,PV.str.injEq,PV.bl.injEq,PV.tup.injEq,ZC,and_true] at e ⊢;first|(simp only[e];done)|(subst e;rfl)|(rw[e]))
theorem Bar.barB {n:Nat}{l:List Int} (h:Bar n l):ZkW n l:=by
 refine⟨h.al, ?_,fun z=>h.ne (List.length_eq_zero_iff.mp z),h.nn⟩
 unfold riB
 refine ZqH.mpr fun i hi=>decide_eq_true ?_
 have hi:=ZqK.mp hi
 have:=Zrn.mp h.up i (i+1) (by omega) (by omega) (by omega)
 rw[Zqi,Zqi,Zqm (show i<l.length by omega),Zqm (show i+1<l.length by omega)]
 exact this
theorem Zi0 {n:Nat}{s:Int}{b l:List Int} (h2:2<=n) (h24:n<=24) (hs:s<=10^60) (hB:Bs n s b) (hl:Bar n l) (hc:cbN n s<=1000):UB b l=none:=by
 obtain⟨e1,e2,e3⟩:=hB
 unfold UB
 rw[if_pos (U9.mpr ⟨by omega,by omega,e2,by omega⟩),e1,Zdt hl.barB]
 simp only[Zl5]
 rw[e1,e3,if_neg (by omega)]
noncomputable def ZpY:Bool:=(List.range 11).all fun(p:Nat)=>(List.range 41).all fun(s:Nat)=>decide ((p=2\/(p=3/\s<11)\/(p=4/\s<7)\/(p=5/\s<5)\/(6<=p/\s<4))->cbN p s<=1000)
theorem ZnV:ZpY=true:=by decide +kernel
theorem Zpd (c:Int):2<=fwP c/\fwP c<=10/\0<=fwS c/\fwS c<=40/\cbN (fwP c) (fwS c)<=1000:=by
 have key:∀(p s:Nat),p<11->s<41->(p=2\/(p=3/\s<11)\/(p=4/\s<7)\/(p=5/\s<5)\/(6<=p/\s<4))->cbN p s<=1000:=fun p s hp hs hc=>by
  have h:=ZqH.mp (ZqH.mp ZnV p (ZqK.mpr hp)) s (ZqK.mpr hs)
  exact of_decide_eq_true h hc
 unfold fwP fwS
 split
 ·rename_i e
  have m1:=ZqJ (stir c 5) (show (4:Int)≠0 by decide)
  have m2:=ZqE (stir c 5) (show (0:Int)<4 by decide)
  refine⟨by omega,by omega,m1,by omega, ?_⟩
  have:=key (6+c/4%5).toNat (stir c 5%4).toNat (by omega) (by omega) (by omega)
  rw[ZqT (by omega),ZqT m1] at this
  exact this
 ·rename_i e
  have h4:(c/4%4=0\/c/4%4=1\/c/4%4=2\/c/4%4=3):=by omega
  have fin:∀(p:Nat) (m:Int),0<m->m<=41->(p=2/\m=41\/p=3/\m=11\/p=4/\m=7\/p=5/\m=5)->2<=(p:Int)/\(p:Int)<=10/\0<=stir c 5%m/\stir c 5%m<=40/\cbN p (stir c 5%m)<=1000:=fun p m m0 m1 hc=>by
   have q1:=ZqJ (stir c 5) (show m≠0 by omega)
   have q2:=ZqE (stir c 5) m0
   have:=key p (stir c 5%m).toNat (by omega) (by omega) (by omega)
   rw[ZqT q1] at this
   exact⟨by omega,by omega,q1,by omega,this⟩
  rcases h4 with z|z|z|z<;>rw[z]
  ·exact fin 2 41 (by decide) (by decide) (by decide)
  ·exact fin 3 11 (by decide) (by decide) (by decide)
  ·exact fin 4 7 (by decide) (by decide) (by decide)
  ·exact fin 5 5 (by decide) (by decide) (by decide)
theorem Zkz {x:List Int}{q:Nat} (hq:q<x.length) (h:∀i,i<x.length->i≠q->x.getD i 0=0):x.getD q 0=x.sum:=by
 have h1:=Qw (l:=x) (j:=q) (v:=0) hq
 have h2:x.set q 0=List.replicate x.length 0:=by
  refine ZrL (by simp) fun i i1 i2=>?_
  simp only[Zrr] at i1
  rw[List.getElem_replicate,List.getElem_set]
  split
  ·rfl
  ·rename_i e
   have:=h i i1 (fun z=>e z.symm)
   rw[Zqi,Zqm i1] at this
   exact this
 rw[h2] at h1
 simp only[List.sum_replicate_int] at h1
 omega
noncomputable def Q2:Pm:=⟨List Int,fun ns=>[.lst (ns.map PV.int)],fun ns=>ns.length<=63,fun _=>.ok (.bl true)⟩
theorem ZnX (T:Txt K mg) {f:Addr}{fd:FuncData} (F:Fun K "law" "law" ZdA f fd):Jo P w K mg base CX0 9 f fd ["script"] (spF K 1 .P W0 Q2.fn):=by
 have ZhN:=UJ (P:=P) (w:=w) (base:=base) T.ZhB ZfK (fun F=>Zfs T F)
 have ZhM:=UJ (P:=P) (w:=w) (base:=base) T.ZhA ZfJ (fun F=>Zfr T F)
 have ZfV:=UJ (P:=P) (w:=w) (base:=base) T.Zf9 Ze8 (fun F=>Zed T F)
 have ZfW:=UJ (P:=P) (w:=w) (base:=base) T.ZfA Ze9 (fun F=>Zee T F)
 have ZbN:=Zfc (P:=P) (w:=w) (base:=base) T.Zj0 ZhG (fun F=>Zh4 T F)
 have QM:=Zfc (P:=P) (w:=w) (base:=base) T.Zer Zcz (fun F=>Zcp T F)
 have Yt:=UJ (P:=P) (w:=w) (base:=base) T.JZ JC (fun F=>Jz T F)
 have ZhO:=UJ (P:=P) (w:=w) (base:=base) T.ZhC ZfL (fun F=>Zft T F)
 have Zdx:=UJ (P:=P) (w:=w) (base:=base) T.Zdj ZbY (fun F=>ZbU T F)
 refine F.okP Vg rfl rfl (fun cdv A outer s H E hr=>?_)
 have hu:=hr.units
 refine⟨_,_,⟨[],[],[],.P⟩,rfl,(Zh (Zbg (Zt ZhN (hr.mono (by decide)) rfl (Zb (pv 0) Zf)) (Znw rfl (Zgw (Ws (i:=1) Vg.nd rfl (by first|exact Or.inl rfl|exact Or.inr rfl)) (Zgw (Ws (i:=2) Vg.nd rfl (by first|exact Or.inl rfl|exact Or.inr rfl)) Zmg))))
   (Zh (ZA (i:=3) Vg.nd rfl (by first|exact Or.inl rfl|exact Or.inr rfl) (Zt ZhM (hr.mono (by decide)) rfl (Zb (pv 0) (Zb Zm (Zb (Z7 UI Zm (pv 2)) (Zb (pv 1) (Zb (JL (JI (K:=K) hu) (Z7 YG (Z7 WQ (Zt Yt (hr.mono (by decide)) rfl (Zb (pv 0) (Zb Zm Zf))) Zm) Zm) Zm (Ye _)) Zf)))))))
   (Zh (ZA (i:=4) Vg.nd rfl (by first|exact Or.inl rfl|exact Or.inr rfl) (Zt ZfV (hr.mono (by decide)) rfl (Zb (Zgx (Zgo (K:=K)) (pv 3) Ziy (Zix (pv 2))) (Zb (pv 1) Zf))))
   (Zh (ZA (i:=5) Vg.nd rfl (by first|exact Or.inl rfl|exact Or.inr rfl) (Zt ZfW (hr.mono (by decide)) rfl (Zb (pv 0) (Zb (pv 1) Zf))))
   (Zh (ZA (i:=6) Vg.nd rfl (by first|exact Or.inl rfl|exact Or.inr rfl) (WP ZbN (hr.mono (by decide)) rfl Zbj (Zb (ZN (Yl (K:=K)) rfl T.z_list Wt (Zb (pv 4) Zf)) (Zb (ZN (Yl (K:=K)) rfl T.z_list Wt (Zb (pv 5) Zf)) Zf))))
   (Zh (Vi (PW.pt (ZeV (ZF (JI (K:=K) hu) (pv 6) (VT Zf) (Ye _)) (Zbd (PW.pt (Zgt (ZF (JI (K:=K) hu) (Zo (Z1 (K:=K)) rfl T.z_len We (Zb (pv 5) Zf)) Zm (Ye _)) (ZcF (ZF (Zg5 (K:=K) hu) (Zo (Z1 (K:=K)) rfl T.z_len We (Zb (pv 6) Zf)) Zm (Ye _)))))))) (Zj (ZB ZeW)) Yu)
   (Zh (Vj PassesOwn.never rfl (Wn (K:=K) (pv 6)) (Ws (i:=7) Vg.nd rfl (by first|exact Or.inl rfl|exact Or.inr rfl)) (Zh (Vi (Zcg (Zbe (Zt ZhO (hr.mono (by decide)) rfl (Zb (pv 7) (Zb (pv 4) (Zb (pv 5) Zf)))))) (Zj (ZB ZeW)) Yu)
   (Zj (Vi (PW.pt (ZeV (ZF (Zg5 (K:=K) hu) (WP QM (hr.mono (by decide)) rfl Zbj (Zb (ZN (Yl (K:=K)) rfl T.z_list Wt (Zb (pv 7) Zf)) (Zb (ZN (Yl (K:=K)) rfl T.z_list Wt (Zb (pv 5) Zf)) Zf))) (VT (Zb (pv 7) Zf)) (Ye _)) (Zbd (ZF (Zg5 (K:=K) hu) (WP ZbN (hr.mono (by decide)) rfl Zbj (Zb (ZN (Yl (K:=K)) rfl T.z_list Wt (Zb (pv 7) Zf)) (Zb (ZN (Yl (K:=K)) rfl T.z_list Wt (Zb (pv 5) Zf)) Zf))) (VT (Zb (pv 7) Zf)) (Ye _))))) (Zj (ZB ZeW)) Yu))))
   (Zh (ZA (i:=8) Vg.nd rfl (by first|exact Or.inl rfl|exact Or.inr rfl) (WP QM (hr.mono (by decide)) rfl Zbj (Zb (ZN (Yl (K:=K)) rfl T.z_list Wt (Zb (pv 4) Zf)) (Zb (ZN (Yl (K:=K)) rfl T.z_list Wt (Zb (pv 5) Zf)) Zf))))
   (Zh (ZA (i:=9) Vg.nd rfl (by first|exact Or.inl rfl|exact Or.inr rfl) (Zt Yt (hr.mono (by decide)) rfl (Zb (pv 0) (Zb Zm Zf))))
   (Zh (Vj PassesOwn.never rfl (YF rfl T.z_range (Zb (Zo (Zj6 rfl) rfl T.z_min Zoq (Zb Zm (Zb (Zo (Z1 (K:=K)) rfl T.z_len We (Zb (pv 8) Zf)) Zf))) Zf)) (Ws (i:=10) Vg.nd rfl (by first|exact Or.inl rfl|exact Or.inr rfl)) (Zh (ZA (i:=11) Vg.nd rfl (by first|exact Or.inl rfl|exact Or.inr rfl) (WP ZbN (hr.mono (by decide)) rfl Zbj (Zb (ZN (Yl (K:=K)) rfl T.z_list Wt (Zb (WZ (ZP (K:=K)) (pv 8) (Z7 YG (Z7 Jj (pv 9) (Z7 UI Zm (pv 10))) (Zo (Z1 (K:=K)) rfl T.z_len We (Zb (pv 8) Zf))) (fun _ _=>rfl)) Zf)) (Zb (ZN (Yl (K:=K)) rfl T.z_list Wt (Zb (pv 5) Zf)) Zf))))
   (Zj (Vj PassesOwn.never rfl (Wn (K:=K) (pv 11)) (Ws (i:=7) Vg.nd rfl (by first|exact Or.inl rfl|exact Or.inr rfl)) (Zj (Vi (ZF (Q4 (K:=K) hu) (pv 7) (pv 6) rfl) (Zj (ZB ZeW)) Yu))))))
   (Zj (ZB (ZoO (JL ZiI (Zo (Z1 (K:=K)) rfl T.z_len We (Zb (Zt Zdx (hr.mono (by decide)) rfl (Zb (pv 4) (Zb (pv 5) Zf))) Zf)) Zm (Ye _)) (Zck (JL (JI (K:=K) hu) (pv 8) (VT (Zb (pv 4) Zf)) (Ye _)))))))))))))))),
   (Zn (Γm:=[.S,.P,.P,.U,.U,.U,.U,.U,.U,.U,.U,.U]) (ZmB (DE.PF (ZeH (Ze Zp) (Za (Zc (i:=0) (m:=.S) rfl (by decide)) Zd))) (ZmD (n:=2) (Zei (Zog (i:=1) (by decide)) (Zei (Zog (i:=2) (by decide)) ZkG))))
   (Zn (Γm:=[.S,.P,.P,.O,.U,.U,.U,.U,.U,.U,.U,.U]) (Wh (i:=3) (ZkM (Ze (Ze (Ze (Ze (Ze Zp))))) (Za (Zc (i:=0) (m:=.S) rfl (by decide)) (Za (DE.toA Zk) (Za (DE.toA (ZbA (DE.toA Zk) (DE.toA (Zi (i:=2) rfl)))) (Za (DE.toA (Zi (i:=1) rfl)) (Za (DE.toA (WI (g:=id) (DE.toA (YI (DE.toA (UE (DE.toA (ZeH (Ze (Ze Zp)) (Za (Zc (i:=0) (m:=.S) rfl (by decide)) (Za (DE.toA Zk) Zd)))) (DE.toA Zk))) (DE.toA Zk))) (DE.toA Zk))) Zd)))))) (by decide))
   (Zn (Γm:=[.S,.P,.P,.O,.O,.U,.U,.U,.U,.U,.U,.U]) (Wh (i:=4) (ZkM (Ze (Ze Zp)) (Za (DE.toA (ZlA (Zc (i:=3) (m:=.O) rfl (by decide)) Zjk (Zjj (DE.toA (Zi (i:=2) rfl))))) (Za (DE.toA (Zi (i:=1) rfl)) Zd))) (by decide))
   (Zn (Γm:=[.S,.P,.P,.O,.O,.O,.U,.U,.U,.U,.U,.U]) (Wh (i:=5) (ZkM (Ze (Ze Zp)) (Za (Zc (i:=0) (m:=.S) rfl (by decide)) (Za (DE.toA (Zi (i:=1) rfl)) Zd))) (by decide))
   (Zn (Γm:=[.S,.P,.P,.O,.O,.O,.S,.U,.U,.U,.U,.U]) (Zji (i:=6) (ZpJ (Ze (Ze Zp)) (ZaQ (DE.FZ (Wo (Za (Zc (i:=4) (m:=.O) rfl (by decide)) Zd))) (ZaQ (DE.FZ (Wo (Za (Zc (i:=5) (m:=.O) rfl (by decide)) Zd))) Zjw))) (by decide))
   (Zn (Γm:=[.S,.P,.P,.O,.O,.O,.S,.U,.U,.U,.U,.U]) (Vl (Zfv (ZE (DE.toA (WI (g:=id) (Zc (i:=6) (m:=.S) rfl (by decide)) (DE.toA (Uo J3))))) (ZgS (ZE (DE.toA (WI (g:=id) (DE.toA (Wc (Za (Zc (i:=5) (m:=.O) rfl (by decide)) Zd))) (DE.toA Zk)))) (ZE (DE.toA (WI (g:=(!·)) (DE.toA (Wc (Za (Zc (i:=6) (m:=.S) rfl (by decide)) Zd))) (DE.toA Zk))))))
   (Yi Zf2)
   Yw)
   (Zn (Γm:=[.S,.P,.P,.O,.O,.O,.S,.U,.U,.U,.U,.U]) (Vm (Γl:=[.S,.P,.P,.O,.O,.O,.S,.U,.U,.U,.U,.U]) (Ji (VB (i:=6) rfl)) rfl (ZpL (i:=7) (by decide))
   (DS.out (Y:=⟨[.S,.P,.P,.O,.O,.O,.S,.S,.U,.U,.U,.U],[.S,.P,.P,.O,.O,.O,.S,.U,.U,.U,.U,.U],[.S,.P,.P,.O,.O,.O,.S,.U,.U,.U,.U,.U],.P⟩) (Y':=⟨[.S,.P,.P,.O,.O,.O,.S,.U,.U,.U,.U,.U],[.S,.P,.P,.O,.O,.O,.S,.U,.U,.U,.U,.U],[.S,.P,.P,.O,.O,.O,.S,.U,.U,.U,.U,.U],.P⟩) (Zn (Γm:=[.S,.P,.P,.O,.O,.O,.S,.S,.U,.U,.U,.U]) (Vl (Zct (Zl7 (DE.toA (ZeH (Ze (Ze (Ze Zp))) (Za (Zc (i:=7) (m:=.S) rfl (by decide)) (Za (Zc (i:=4) (m:=.O) rfl (by decide)) (Za (Zc (i:=5) (m:=.O) rfl (by decide)) Zd)))))))
   (Yi Zf2)
   Yw)
   (Vl (Zfv (ZE (DE.toA (WI (g:=(!·)) (DE.toA (ZpK (Ze (Ze Zp)) (Za (DE.toA (Wo (Za (Zc (i:=7) (m:=.S) rfl (by decide)) Zd))) (Za (DE.toA (Wo (Za (Zc (i:=5) (m:=.O) rfl (by decide)) Zd))) Zd)))) (Zf1 (Za (Zc (i:=7) (m:=.S) rfl (by decide)) Zd))))) (ZE (DE.toA (WI (g:=(!·)) (Zpe (Ze (Ze Zp)) (Za (DE.toA (Wo (Za (Zc (i:=7) (m:=.S) rfl (by decide)) Zd))) (Za (DE.toA (Wo (Za (Zc (i:=5) (m:=.O) rfl (by decide)) Zd))) Zd))) (Zf1 (Za (Zc (i:=7) (m:=.S) rfl (by decide)) Zd))))))
   (Yi Zf2)
   Yw)) rfl rfl rfl rfl))
   (Zn (Γm:=[.S,.P,.P,.O,.O,.O,.S,.U,.O,.U,.U,.U]) (Wh (i:=8) (ZpK (Ze (Ze Zp)) (Za (DE.toA (Wo (Za (Zc (i:=4) (m:=.O) rfl (by decide)) Zd))) (Za (DE.toA (Wo (Za (Zc (i:=5) (m:=.O) rfl (by decide)) Zd))) Zd))) (by decide))
   (Zn (Γm:=[.S,.P,.P,.O,.O,.O,.S,.U,.O,.P,.U,.U]) (Yj (i:=9) (ZeH (Ze (Ze Zp)) (Za (Zc (i:=0) (m:=.S) rfl (by decide)) (Za (DE.toA Zk) Zd))) (by decide))
   (Zn (Γm:=[.S,.P,.P,.O,.O,.O,.S,.U,.O,.P,.U,.U]) (Vm (Γl:=[.S,.P,.P,.O,.O,.O,.S,.U,.O,.P,.U,.U]) (Jh (Za (DE.toA (ZmF (Za (DE.toA Zk) (Za (DE.toA (Wc (Za (Zc (i:=8) (m:=.O) rfl (by decide)) Zd))) Zd)))) Zd)) rfl (Zjn (i:=10) (by decide))
   (DS.out (Y:=⟨[.S,.P,.P,.O,.O,.O,.S,.U,.O,.P,.P,.S],[.S,.P,.P,.O,.O,.O,.S,.U,.O,.P,.U,.U],[.S,.P,.P,.O,.O,.O,.S,.U,.O,.P,.U,.U],.P⟩) (Y':=⟨[.S,.P,.P,.O,.O,.O,.S,.U,.O,.P,.U,.U],[.S,.P,.P,.O,.O,.O,.S,.U,.O,.P,.U,.U],[.S,.P,.P,.O,.O,.O,.S,.U,.O,.P,.U,.U],.P⟩) (Zn (Γm:=[.S,.P,.P,.O,.O,.O,.S,.U,.O,.P,.P,.S]) (Zji (i:=11) (ZpJ (Ze (Ze Zp)) (ZaQ (DE.FZ (Wo (Za (YJ (te:=tC .non) (Zc (i:=8) (m:=.O) rfl (by decide)) (DE.toA (YI (DE.toA (Jk (DE.toA (Zi (i:=9) rfl)) (DE.toA (ZbA (DE.toA Zk) (DE.toA (Zi (i:=10) rfl)))))) (DE.toA (Wc (Za (Zc (i:=8) (m:=.O) rfl (by decide)) Zd)))))) Zd))) (ZaQ (DE.FZ (Wo (Za (Zc (i:=5) (m:=.O) rfl (by decide)) Zd))) Zjw))) (by decide))
   (Vm (Γl:=[.S,.P,.P,.O,.O,.O,.S,.U,.O,.P,.P,.S]) (Ji (VB (i:=11) rfl)) rfl (ZpL (i:=7) (by decide))
   (DS.out (Y:=⟨[.S,.P,.P,.O,.O,.O,.S,.S,.O,.P,.P,.S],[.S,.P,.P,.O,.O,.O,.S,.U,.O,.P,.P,.S],[.S,.P,.P,.O,.O,.O,.S,.U,.O,.P,.P,.S],.P⟩) (Y':=⟨[.S,.P,.P,.O,.O,.O,.S,.U,.O,.P,.P,.S],[.S,.P,.P,.O,.O,.O,.S,.U,.O,.P,.P,.S],[.S,.P,.P,.O,.O,.O,.S,.U,.O,.P,.P,.S],.P⟩) (Vl (ZE (DE.toA (Zel (g:=(!·)) (Zc (i:=7) (m:=.S) rfl (by decide)) (Zc (i:=6) (m:=.S) rfl (by decide)))))
   (Yi Zf2)
   Yw) rfl rfl rfl rfl))) rfl rfl rfl rfl))
   (Yi (Zph (DE.toA (Zjq (DE.toA (Wc (Za (DE.toA (ZkM (Ze (Ze Zp)) (Za (Zc (i:=4) (m:=.O) rfl (by decide)) (Za (Zc (i:=5) (m:=.O) rfl (by decide)) Zd)))) Zd))) (DE.toA Zk))) (WI (g:=id) (Zc (i:=8) (m:=.O) rfl (by decide)) (Zf1 (Za (Zc (i:=4) (m:=.O) rfl (by decide)) Zd))))))))))))))), ?_⟩
 refine Pm.ref Q2 (g:=fun xs=>_) ?_
 intro (ns:List Int) (hn:ns.length<=63)
 simp only[Q2]
 walk_at "pd"
 rw[Vs]
 walk_at "pd"
 obtain⟨p2,p10,s0,s40,hcb⟩:=Zpd (Wj ns 0)
 generalize fwP (Wj ns 0)=m at p2 p10 hcb
 generalize fwS (Wj ns 0)=s at s0 s40 hcb
 obtain⟨n,rfl⟩:∃n:Nat,m=n:=⟨m.toNat,by omega⟩
 rw[ZH (by omega)]
 walk_at "pd"
 rw[Vr ⟨by omega,⟨by omega,by omega⟩,⟨by omega,by omega⟩,by omega,by omega⟩]
 have hrl:(Zka ns 2 (2*s) n (decide (Wj ns 0/2%2=1))).length=(2*s).toNat:=ZeT ..
 have hrb:=ZlU ns 2 (2*s) (base:=(n:Int)) (by omega) (decide (Wj ns 0/2%2=1))
 generalize Zka ns 2 (2*s) n (decide (Wj ns 0/2%2=1))=row at hrl hrb
 walk_at "pd"
 rw[J9 ⟨fun x hx=>hrb x (ZqC hx),by omega,by omega⟩,Zq6]
 have B:Bs n s (lyI n (row.take s.toNat)):=by
  have:=ZnB (n:=n) (L:=row.take s.toNat) fun x hx=>hrb x (ZqC hx)
  rw[Zq1,hrl,show ((min s.toNat (2*s).toNat:Nat):Int)=s by omega] at this
  exact this
 generalize lyI n (row.take s.toNat)=b at B
 walk_at "pd"
 rw[JA ⟨by omega,by omega⟩,Zq6]
 have L:=Zon ns (n:=n) (by omega)
 generalize brS ns n=l at L
 have hll:l.length<=n:=by
  have:=Zg8 n (l.map fun z=>z.toNat) (by
   rw[Zrz,Zrw]
   refine L.up.imp_of_mem ?_
   intro a c ha hc hac e
   have:=L.al a ha
   have:=L.al c hc
   omega) (fun z hz=>by
   obtain⟨y,hy,rfl⟩:=Zq4.mp hz
   have:=L.al y hy
   omega)
  rw[Zqt] at this
  exact this
 have bl:=B.1
 have hbl:b.length<=1000:=by omega
 have hll2:l.length<=1000:=by omega
 have hX:∀{x:List Int},Bs n s x->UB x l=none:=fun hx=>Zi0 (by omega) (by omega) (by omega) hx L hcb
 obtain⟨q,q1,q2⟩:∃q:Nat,q<n/\(q:Int)∈l:=by
  obtain⟨y,ys,e⟩:=Zry L.ne
  have hy:y∈l:=by rw[e];simp
  have:=L.al y hy
  exact⟨y.toNat,by omega,by rw[ZqT this.1];exact hy⟩
 have hfm:∀{p:Int},p∈Zu n l ↔ (0<=p/\p<n)/\p ∉ l:=QB
 have F:ZaS n s (Zu n l) b:=⟨by omega,fun p hp=>(QB.mp hp).1,B,hcb⟩
 have hq:(q:Int) ∉ Zu n l:=fun z=>(QB.mp z).2 q2
 have cE:∀{x:List Int},Bs n s x->YK.fn [.lst (x.map PV.int),.lst (l.map PV.int)]=.ok (.lst ((Zcs (Zu n l) x).map Vw)):=fun {x} hx=>by
  have:=hx.1
  rw[Zey ⟨by omega,hll2⟩ (hX hx),this]
 have cC:∀{x:List Int},Bs n s x->YL.fn [.lst (x.map PV.int),.lst (l.map PV.int)]=.ok (.lst ((QO (Zu n l) x).map Vw)):=fun {x} hx=>by
  have:=hx.1
  rw[Zez ⟨by omega,hll2⟩ (hX hx),this]
 have endM:∀{x y:List Int},ZaS n s (Zu n l) x->(y∈Zcs (Zu n l) x ↔ Rch (Zu n l) x y/\endB (Zu n l) y=true):=fun {x y} Fx=>by
  unfold Zcs
  rw[ZqS,Fx.com]
 have lenC:∀{x:List Int},ZaS n s (Zu n l) x->(QO (Zu n l) x).length<=1000:=fun {x} Fx=>by
  unfold QO
  rw[(WS _).length_eq]
  exact Fx.le _
 have lenE:∀{x:List Int},ZaS n s (Zu n l) x->(Zcs (Zu n l) x).length<=1000:=fun {x} Fx=>Zq3 (Zrv _ _) (lenC Fx)
 have hEl:=lenE F
 have hCl:=lenC F
 have hEne:Zcs (Zu n l) b≠[]:=fun z=>by
  obtain⟨x,x1,x2⟩:=F.ends q1 hq
  have:=(endM F).mpr ⟨x1,x2⟩
  rw[z] at this
  cases this
 have hone:l.length=1->(Zcs (Zu n l) b).length=1:=fun h1=>by
  have hlq:l=[(q:Int)]:=by
   obtain⟨y,hy⟩:=List.length_eq_one_iff.mp h1
   rw[hy] at q2 ⊢
   rw[Zq0.mp q2]
  have uniq:∀x∈Zcs (Zu n l) b,∀i,x.getD i 0=if i=q then s else 0:=fun x hx i=>by
   obtain⟨x1,x2⟩:=(endM F).mp hx
   have Bx:=x1.bs F.hP F.hb
   have x0:∀j,j<x.length->j≠q->x.getD j 0=0:=fun j hj hjq=>by
    have:=U7.mp x2 j (hfm.mpr ⟨by have:=Bx.1;omega,by rw[hlq];simp;omega⟩)
    rw[Zq6] at this
    exact this
   by_cases e:i=q
   ·rw[if_pos e,e,Zkz (by have:=Bx.1;omega) x0]
    exact Bx.2.2
   ·rw[if_neg e]
    by_cases e2:i<x.length
    ·exact x0 i e2 e
    ·exact ZaO (by omega)
  obtain⟨y,hy⟩:=List.exists_mem_of_ne_nil _ hEne
  rw[Zlg (L:=Zcs (Zu n l) b) (x:=y) ((Zj1 _ _).filter _) hy fun z hz=>by
   have Bz:=((endM F).mp hz).1.bs F.hP F.hb
   have By:=((endM F).mp hy).1.bs F.hP F.hb
   exact ZpZ (by have:=Bz.1;have:=By.1;omega) fun i _=>by rw[uniq z hz,uniq y hy]]
  rfl
 walk_at "pd"
 rw[cE B]
 walk_at "pd"
 rw[show PV.lst []=.lst (([]:List (List Int)).map Vw) from rfl,ZcK,decide_eq_false hEne]
 walk_at "pd"
 rw[show (if decide ((l.length:Int)=1)=true then ((ZiB [PV.lst ((Zcs (Zu n l) b).map Vw)]).bind fun x=>Zfa (fun x=>!x) x (PV.int 1)).bind asB else Rr.ok false)=Rr.ok false by
  by_cases h1:l.length=1
  ·rw[decide_eq_true (show (l.length:Int)=1 by omega),if_pos rfl,ZcJ,Zqt,hone h1];rfl
  ·rw[decide_eq_false (show ¬(l.length:Int)=1 by omega),if_neg (by decide)]]
 walk_at "pd"
 generalize hw:ZbS _ _ _=W
 obtain⟨ρ',rfl,v,rfl⟩:=YH hw (fun i ρ=>∃v,ρ=[.lst (ns.map PV.int),.int n,.int s,.lst (row.map PV.int),.lst (b.map PV.int),.lst (l.map PV.int),.lst ((Zcs (Zu n l) b).map Vw),v,.non,.non,.non,.non]) ⟨_,rfl⟩ (by
  rintro i x ρ hx ⟨v,rfl⟩
  rw[Zq7] at hx
  obtain⟨o,ho,rfl⟩:=Zri.mp hx
  obtain⟨o1,o2⟩:=(endM F).mp (Zqk ho)
  have Bo:=o1.bs F.hP F.hb
  have Fo:=F.go o1
  have ol:=Bo.1
  rw[show Vw o=.lst (o.map PV.int) from rfl]
  walk_at "pd"
  rw[Vt ⟨⟨by omega,by omega⟩,fun j hj=>⟨fun hjl=>Ziq F.hP F.hb o1 (by omega) (fun z=>(hfm.mp z).2 hjl),fun hjl=>by
   have:=U7.mp o2 j (hfm.mpr ⟨by omega,hjl⟩)
   rw[Zq6] at this
   exact this⟩,by rw[Bo.2.2,B.2.2]⟩]
  walk_at "pd"
  rw[cC Bo,Fo.end_com o2]
  walk_at "pd"
  rw[show PV.lst [PV.lst (o.map PV.int)]=.lst ([o].map Vw) from rfl]
  rw[cE Bo,Fo.end_end o2]
  walk_at "pd"
  rw[show PV.lst [Vw o]=.lst ([o].map Vw) from rfl,ZcK,decide_eq_true rfl]
  walk_at "pd"
  exact V2 ⟨_,rfl⟩)
 walk_at "pd"
 rw[cC B]
 walk_at "pd"
 rw[ZH (by omega)]
 have hpl:ZiB [.lst ((QO (Zu n l) b).map Vw)]=.ok (.int ((QO (Zu n l) b).length:Nat)):=by rw[ZcJ,Zqt]
 have hc0:0<(QO (Zu n l) b).length:=ZrV.mpr fun z=>by
  have:=F.com.mpr (.refl (P:=Zu n l) (b:=b))
  rw[z] at this
  cases this
 generalize hcell:Wj ns (Int.toNat 2)=cell
 walk_at "pd"
 rw[hpl]
 walk_at "pd"
 have htop:(if ((QO (Zu n l) b).length:Int)<4 then ((QO (Zu n l) b).length:Int) else 4)<=4:=by split<;>omega
 generalize (if ((QO (Zu n l) b).length:Int)<4 then ((QO (Zu n l) b).length:Int) else 4)=top at htop
 generalize hw2:ZbS _ _ _=W2
 obtain⟨ρ',rfl,v1,v2,v3,rfl⟩:=YH hw2 (fun i ρ=>∃v1 v2 v3,ρ=[.lst (ns.map PV.int),.int n,.int s,.lst (row.map PV.int),.lst (b.map PV.int),.lst (l.map PV.int),.lst ((Zcs (Zu n l) b).map Vw),v1,.lst ((QO (Zu n l) b).map Vw),.int cell,v2,v3]) ⟨_,_,_,rfl⟩ (by
  rintro i x ρ hx ⟨v1,v2,v3,rfl⟩
  obtain⟨hi,rfl⟩:=JH hx
  rw[Zrm]
  walk_at "pd"
  rw[hpl]
  walk_at "pd"
  have r0:=ZqJ (cell+7*(i:Int)) (show ((QO (Zu n l) b).length:Int)≠0 by omega)
  have r1:=ZqE (cell+7*(i:Int)) (show (0:Int)<((QO (Zu n l) b).length:Int) by omega)
  generalize (cell+7*(i:Int))%((QO (Zu n l) b).length:Int)=r at r0 r1
  rw[ZoR (q:=Vw) (d:=[]) r0 r1]
  have hm:(QO (Zu n l) b).getD r.toNat []∈QO (Zu n l) b:=by
   rw[Zqi,Zqm (by omega)];exact ZrM _
  generalize (QO (Zu n l) b).getD r.toNat []=o at hm
  have o1:=F.com.mp hm
  have Bo:=o1.bs F.hP F.hb
  have Fo:=F.go o1
  have ol:=Bo.1
  rw[show Vw o=.lst (o.map PV.int) from rfl]
  walk_at "pd"
  rw[cE Bo]
  walk_at "pd"
  generalize hw3:ZbS _ _ _=W3
  obtain⟨ρ3,rfl,v4,rfl⟩:=YH hw3 (fun j ρ=>∃v,ρ=[.lst (ns.map PV.int),.int n,.int s,.lst (row.map PV.int),.lst (b.map PV.int),.lst (l.map PV.int),.lst ((Zcs (Zu n l) b).map Vw),v,.lst ((QO (Zu n l) b).map Vw),.int cell,.int i,.lst ((Zcs (Zu n l) o).map Vw)]) ⟨_,rfl⟩ (by
   rintro j x ρ hx ⟨v,rfl⟩
   rw[Zq7] at hx
   obtain⟨e,he,rfl⟩:=Zri.mp hx
   obtain⟨e1,e2⟩:=(endM Fo).mp (Zqk he)
   walk_at "pd"
   rw[show Vw e=.lst (e.map PV.int) from rfl,show (Zcs (Zu n l) b).map Vw=(Zcs (Zu n l) b).map (fun q=>.lst (q.map PV.int)) from rfl,Zhr,decide_eq_true ((endM F).mpr ⟨o1.trans e1,e2⟩)]
   walk_at "pd"
   exact V2 ⟨_,rfl⟩)
  exact V2 ⟨_,_,_,rfl⟩)
 walk_at "pd"
 rw[WE (by omega),bl]
 walk_at "pd"
 rw[ZcJ,Zqt]
 walk_at "pd"
 by_cases hb0:QT (Zu n l) b=[]
 ·have he:endB (Zu n l) b=true:=U7.mpr fun p hp=>by
   have hp':=hfm.mp hp
   have nn:=Zaj B.2.1 p.toNat
   apply Classical.byContradiction
   intro c
   have:(p,Qy b p)∈QT (Zu n l) b:=Zc9.mpr ⟨hp,show 0<b.getD p.toNat 0 by omega,rfl⟩
   rw[hb0] at this
   cases this
  rw[hb0,F.end_com he]
  walk_at "pd"
  rw[show PV.lst [PV.lst (b.map PV.int)]=.lst ([b].map Vw) from rfl,show PV.lst [Vw b]=.lst ([b].map Vw) from rfl,ZcK,decide_eq_true rfl]
  rfl
 ·have:=ZrV.mpr hb0
  rw[decide_eq_true (show (0:Int)<((QT (Zu n l) b).length:Nat) by omega)]
  walk_at "pd"
theorem ZkT {ns:List Int} (h:ns.length<=63):Q2.fn [.lst (ns.map PV.int)]=.ok (.bl true):=Pm.fn_eq Q2 ns h (fun _ _=>rfl)
noncomputable def Zig (K:W.Frag):Sp:=spF K 1 .P W0 Q2.fn
theorem ZnE {l:PySem.W.OpenLaw} (T:Txt K mg) {fa:Addr} (hmg:mg "law"=some (.ref fa)):∃fd:FuncData,(∀(s:Shared) (u:Value),BindsTo s fd ⟨[u],[]⟩ [("script",u)]) /\
  ∀base:Heap,K.In base->base.Ns mainGlobals mg->Jo l.prog w K mg base CX0 9 fa fd ["script"] (Zig K):=by
 obtain⟨f,fd,F,hm⟩:=T.Zpk
 rw[hmg] at hm
 cases hm
 refine⟨fd,fun s u=>?_,fun base _ _=>ZnX T F⟩
 obtain⟨oc,od,kV,doc,pm,an,cdv,ct,osl,rfl,lk,hcd⟩:=F.ex
 exact .of_eq (Zop kV doc pm an cdv ct [u] rfl)
theorem ZiR {H:Hp}{a:Addr}{ns:List Int} (hl:ns.length<=63) (hO:Zov H) (hS:SqL K H a (ns.map V.int)):Zig K [.ref a] H (fun v _=>v=.bl true) fun _ _ _=>False:=
 Zhv (Pm.fn_eq Q2 ns hl fun _ _=>rfl) hS
end
theorem Znd {K:W.Frag}{h:Heap}{mg:Str->Option Value}{JX JW Zao Qd Zan Qf Qg Zal J1 Wb Uk Zam V8 Qb Zde JV JU WB Um J0 Qc Zb6 Ui Uj Qa Zb8 Ul Zb7 Zap Qe V9 Zm6:Addr} (X:K.In h) (G:h.Ns mainGlobals mg)
  {od__law_cell_at an__law_cell_at:Option Addr}{sl__law_cell_at:Array (Option Value)}{oc__law_cell_at kV__law_cell_at dc__law_cell_at ZM cd__law_cell_at ct__law_cell_at:Value}
  {od__law_stirred an__law_stirred:Option Addr}{sl__law_stirred:Array (Option Value)}{oc__law_stirred kV__law_stirred dc__law_stirred ZL cd__law_stirred ct__law_stirred:Value}
  {od__law_few an__law_few:Option Addr}{sl__law_few:Array (Option Value)}{oc__law_few kV__law_few dc__law_few YY cd__law_few ct__law_few:Value}
  {od__law_sums an__law_sums:Option Addr}{sl__law_sums:Array (Option Value)}{oc__law_sums kV__law_sums dc__law_sums Y5 cd__law_sums ct__law_sums:Value}
  {od__law_row an__law_row:Option Addr}{sl__law_row:Array (Option Value)}{oc__law_row kV__law_row dc__law_row YX cd__law_row ct__law_row:Value}
  {od__law_laid an__law_laid:Option Addr}{sl__law_laid:Array (Option Value)}{oc__law_laid kV__law_laid dc__law_laid Y7 cd__law_laid ct__law_laid:Value}
  {od__law_bars an__law_bars:Option Addr}{sl__law_bars:Array (Option Value)}{oc__law_bars kV__law_bars dc__law_bars Y8 cd__law_bars ct__law_bars:Value}
  {od_is_whole an_is_whole:Option Addr}{sl_is_whole:Array (Option Value)}{oc_is_whole kV_is_whole dc_is_whole Wq cd_is_whole ct_is_whole:Value}
  {od_is_whole_from an_is_whole_from:Option Addr}{sl_is_whole_from:Array (Option Value)}{oc_is_whole_from kV_is_whole_from dc_is_whole_from ZD cd_is_whole_from ct_is_whole_from:Value}
  {od_is_list_from_nought an_is_list_from_nought:Option Addr}{sl_is_list_from_nought:Array (Option Value)}{oc_is_list_from_nought kV_is_list_from_nought dc_is_list_from_nought Zs cd_is_list_from_nought ct_is_list_from_nought:Value}
  {od_most_seeds an_most_seeds:Option Addr}{sl_most_seeds:Array (Option Value)}{oc_most_seeds kV_most_seeds dc_most_seeds YA cd_most_seeds ct_most_seeds:Value}
  {od_is_board an_is_board:Option Addr}{sl_is_board:Array (Option Value)}{oc_is_board kV_is_board dc_is_board Ys cd_is_board ct_is_board:Value}
  {od_check_board an_check_board:Option Addr}{sl_check_board:Array (Option Value)}{oc_check_board kV_check_board dc_check_board Yc cd_check_board ct_check_board:Value}
  {od_is_rising an_is_rising:Option Addr}{sl_is_rising:Array (Option Value)}{oc_is_rising kV_is_rising dc_is_rising Ya cd_is_rising ct_is_rising:Value}
  {od_is_pit an_is_pit:Option Addr}{sl_is_pit:Array (Option Value)}{oc_is_pit kV_is_pit dc_is_pit Wi cd_is_pit ct_is_pit:Value}
  {od_check_barred an_check_barred:Option Addr}{sl_check_barred:Array (Option Value)}{oc_check_barred kV_check_barred dc_check_barred ZK cd_check_barred ct_check_barred:Value}
  {od_count_boards an_count_boards:Option Addr}{sl_count_boards:Array (Option Value)}{oc_count_boards kV_count_boards dc_count_boards Z8 cd_count_boards ct_count_boards:Value}
  {od_check_few_boards an_check_few_boards:Option Addr}{sl_check_few_boards:Array (Option Value)}{oc_check_few_boards kV_check_few_boards dc_check_few_boards Z0 cd_check_few_boards ct_check_few_boards:Value}
  {od_check_play an_check_play:Option Addr}{sl_check_play:Array (Option Value)}{oc_check_play kV_check_play dc_check_play Yq cd_check_play ct_check_play:Value}
  {od_rising_boards an_rising_boards:Option Addr}{sl_rising_boards:Array (Option Value)}{oc_rising_boards kV_rising_boards dc_rising_boards Z2 cd_rising_boards ct_rising_boards:Value}
  {od_free_pits an_free_pits:Option Addr}{sl_free_pits:Array (Option Value)}{oc_free_pits kV_free_pits dc_free_pits Yb cd_free_pits ct_free_pits:Value}
  {od_sow_pit an_sow_pit:Option Addr}{sl_sow_pit:Array (Option Value)}{oc_sow_pit kV_sow_pit dc_sow_pit W5 cd_sow_pit ct_sow_pit:Value}
  {od_sowings_of an_sowings_of:Option Addr}{sl_sowings_of:Array (Option Value)}{oc_sowings_of kV_sowings_of dc_sowings_of Yo cd_sowings_of ct_sowings_of:Value}
  {od_next_level an_next_level:Option Addr}{sl_next_level:Array (Option Value)}{oc_next_level kV_next_level dc_next_level Yp cd_next_level ct_next_level:Value}
  {od_walk_from an_walk_from:Option Addr}{sl_walk_from:Array (Option Value)}{oc_walk_from kV_walk_from dc_walk_from ZZ cd_walk_from ct_walk_from:Value}
  {od_come_to an_come_to:Option Addr}{sl_come_to:Array (Option Value)}{oc_come_to kV_come_to dc_come_to YL cd_come_to ct_come_to:Value}
  {od_free_seeds an_free_seeds:Option Addr}{sl_free_seeds:Array (Option Value)}{oc_free_seeds kV_free_seeds dc_free_seeds ZG cd_free_seeds ct_free_seeds:Value}
  {od_ends_of an_ends_of:Option Addr}{sl_ends_of:Array (Option Value)}{oc_ends_of kV_ends_of dc_ends_of YK cd_ends_of ct_ends_of:Value}
  {od__law_end an__law_end:Option Addr}{sl__law_end:Array (Option Value)}{oc__law_end kV__law_end dc__law_end Wr cd__law_end ct__law_end:Value}
  {od__law_sown an__law_sown:Option Addr}{sl__law_sown:Array (Option Value)}{oc__law_sown kV__law_sown dc__law_sown Y6 cd__law_sown ct__law_sown:Value}
  {od__law_behind an__law_behind:Option Addr}{sl__law_behind:Array (Option Value)}{oc__law_behind kV__law_behind dc__law_behind Yd cd__law_behind ct__law_behind:Value}
  {od_law an_law:Option Addr}{sl_law:Array (Option Value)}{oc_law kV_law dc_law Q2 cd_law ct_law:Value}
  (Vd:PySem.W.nsIn K mainGlobals "_law_cell_at"=some (some (.ref JX))) (JP:K.lookup JX=some ⟨oc__law_cell_at,od__law_cell_at,.func (PySem.W.fnOf "_law_cell_at" "_law_cell_at" (Zz ZY) (Zv ZY) (Zg ZY) .none kV__law_cell_at dc__law_cell_at ZM an__law_cell_at cd__law_cell_at ct__law_cell_at),sl__law_cell_at⟩) (ZH:PySem.W.codeIn K cd__law_cell_at "_law_cell_at"=true) (JT:PySem.W.keepIn K (.ref JX)=true)
  (Vc:PySem.W.nsIn K mainGlobals "_law_stirred"=some (some (.ref JW))) (JO:K.lookup JW=some ⟨oc__law_stirred,od__law_stirred,.func (PySem.W.fnOf "_law_stirred" "_law_stirred" (Zz ZX) (Zv ZX) (Zg ZX) .none kV__law_stirred dc__law_stirred ZL an__law_stirred cd__law_stirred ct__law_stirred),sl__law_stirred⟩) (Yg:PySem.W.codeIn K cd__law_stirred "_law_stirred"=true) (JS:PySem.W.keepIn K (.ref JW)=true)
  (Zav:PySem.W.nsIn K mainGlobals "_law_few"=some (some (.ref Zao))) (Zac:K.lookup Zao=some ⟨oc__law_few,od__law_few,.func (PySem.W.fnOf "_law_few" "_law_few" (Zz Wz) (Zv Wz) (Zg Wz) .none kV__law_few dc__law_few YY an__law_few cd__law_few ct__law_few),sl__law_few⟩) (Vs:PySem.W.codeIn K cd__law_few "_law_few"=true) (Zah:PySem.W.keepIn K (.ref Zao)=true)
  (Qo:PySem.W.nsIn K mainGlobals "_law_sums"=some (some (.ref Qd))) (UN:K.lookup Qd=some ⟨oc__law_sums,od__law_sums,.func (PySem.W.fnOf "_law_sums" "_law_sums" (Zz YT) (Zv YT) (Zg YT) .none kV__law_sums dc__law_sums Y5 an__law_sums cd__law_sums ct__law_sums),sl__law_sums⟩) (J7:PySem.W.codeIn K cd__law_sums "_law_sums"=true) (UV:PySem.W.keepIn K (.ref Qd)=true)
  (Zau:PySem.W.nsIn K mainGlobals "_law_row"=some (some (.ref Zan))) (Zab:K.lookup Zan=some ⟨oc__law_row,od__law_row,.func (PySem.W.fnOf "_law_row" "_law_row" (Zz Wy) (Zv Wy) (Zg Wy) .none kV__law_row dc__law_row YX an__law_row cd__law_row ct__law_row),sl__law_row⟩) (Vr:PySem.W.codeIn K cd__law_row "_law_row"=true) (Zag:PySem.W.keepIn K (.ref Zan)=true)
  (Qq:PySem.W.nsIn K mainGlobals "_law_laid"=some (some (.ref Qf))) (UP:K.lookup Qf=some ⟨oc__law_laid,od__law_laid,.func (PySem.W.fnOf "_law_laid" "_law_laid" (Zz YV) (Zv YV) (Zg YV) .none kV__law_laid dc__law_laid Y7 an__law_laid cd__law_laid ct__law_laid),sl__law_laid⟩) (J9:PySem.W.codeIn K cd__law_laid "_law_laid"=true) (UX:PySem.W.keepIn K (.ref Qf)=true)
  (Qr:PySem.W.nsIn K mainGlobals "_law_bars"=some (some (.ref Qg))) (UQ:K.lookup Qg=some ⟨oc__law_bars,od__law_bars,.func (PySem.W.fnOf "_law_bars" "_law_bars" (Zz YW) (Zv YW) (Zg YW) .none kV__law_bars dc__law_bars Y8 an__law_bars cd__law_bars ct__law_bars),sl__law_bars⟩) (JA:PySem.W.codeIn K cd__law_bars "_law_bars"=true) (UY:PySem.W.keepIn K (.ref Qg)=true)
  (Zas:PySem.W.nsIn K mainGlobals "is_whole"=some (some (.ref Zal))) (QZ:K.lookup Zal=some ⟨oc_is_whole,od_is_whole,.func (PySem.W.fnOf "is_whole" "is_whole" (Zz Ww) (Zv Ww) (Zg Ww) .none kV_is_whole dc_is_whole Wq an_is_whole cd_is_whole ct_is_whole),sl_is_whole⟩) (Vo:PySem.W.codeIn K cd_is_whole "is_whole"=true) (Zae:PySem.W.keepIn K (.ref Zal)=true)
  (JE:PySem.W.nsIn K mainGlobals "is_whole_from"=some (some (.ref J1))) (Ju:K.lookup J1=some ⟨oc_is_whole_from,od_is_whole_from,.func (PySem.W.fnOf "is_whole_from" "is_whole_from" (Zz ZJ) (Zv ZJ) (Zg ZJ) .none kV_is_whole_from dc_is_whole_from ZD an_is_whole_from cd_is_whole_from ct_is_whole_from),sl_is_whole_from⟩) (Yx:PySem.W.codeIn K cd_is_whole_from "is_whole_from"=true) (Jw:PySem.W.keepIn K (.ref J1)=true)
  (Wf:PySem.W.nsIn K mainGlobals "is_list_from_nought"=some (some (.ref Wb))) (YZ:K.lookup Wb=some ⟨oc_is_list_from_nought,od_is_list_from_nought,.func (PySem.W.fnOf "is_list_from_nought" "is_list_from_nought" (Zz Zx) (Zv Zx) (Zg Zx) .none kV_is_list_from_nought dc_is_list_from_nought Zs an_is_list_from_nought cd_is_list_from_nought ct_is_list_from_nought),sl_is_list_from_nought⟩) (ZQ:PySem.W.codeIn K cd_is_list_from_nought "is_list_from_nought"=true) (Wa:PySem.W.keepIn K (.ref Wb)=true)
  (Uw:PySem.W.nsIn K mainGlobals "most_seeds"=some (some (.ref Uk))) (VX:K.lookup Uk=some ⟨oc_most_seeds,od_most_seeds,.func (PySem.W.fnOf "most_seeds" "most_seeds" (Zz Y0) (Zv Y0) (Zg Y0) .none kV_most_seeds dc_most_seeds YA an_most_seeds cd_most_seeds ct_most_seeds),sl_most_seeds⟩) (Je:PySem.W.codeIn K cd_most_seeds "most_seeds"=true) (Uc:PySem.W.keepIn K (.ref Uk)=true)
  (Zat:PySem.W.nsIn K mainGlobals "is_board"=some (some (.ref Zam))) (Zaa:K.lookup Zam=some ⟨oc_is_board,od_is_board,.func (PySem.W.fnOf "is_board" "is_board" (Zz Wx) (Zv Wx) (Zg Wx) .none kV_is_board dc_is_board Ys an_is_board cd_is_board ct_is_board),sl_is_board⟩) (Vp:PySem.W.codeIn K cd_is_board "is_board"=true) (Zaf:PySem.W.keepIn K (.ref Zam)=true)
  (VD:PySem.W.nsIn K mainGlobals "check_board"=some (some (.ref V8))) (V3:K.lookup V8=some ⟨oc_check_board,od_check_board,.func (PySem.W.fnOf "check_board" "check_board" (Zz Ym) (Zv Ym) (Zg Ym) .none kV_check_board dc_check_board Yc an_check_board cd_check_board ct_check_board),sl_check_board⟩) (WD:PySem.W.codeIn K cd_check_board "check_board"=true) (V5:PySem.W.keepIn K (.ref V8)=true)
  (Qm:PySem.W.nsIn K mainGlobals "is_rising"=some (some (.ref Qb))) (UL:K.lookup Qb=some ⟨oc_is_rising,od_is_rising,.func (PySem.W.fnOf "is_rising" "is_rising" (Zz YR) (Zv YR) (Zg YR) .none kV_is_rising dc_is_rising Ya an_is_rising cd_is_rising ct_is_rising),sl_is_rising⟩) (J6:PySem.W.codeIn K cd_is_rising "is_rising"=true) (UT:PySem.W.keepIn K (.ref Qb)=true)
  (Zdv:PySem.W.nsIn K mainGlobals "is_pit"=some (some (.ref Zde))) (ZcR:K.lookup Zde=some ⟨oc_is_pit,od_is_pit,.func (PySem.W.fnOf "is_pit" "is_pit" (Zz JG) (Zv JG) (Zg JG) .none kV_is_pit dc_is_pit Wi an_is_pit cd_is_pit ct_is_pit),sl_is_pit⟩) (QK:PySem.W.codeIn K cd_is_pit "is_pit"=true) (ZcT:PySem.W.keepIn K (.ref Zde)=true)
  (Vb:PySem.W.nsIn K mainGlobals "check_barred"=some (some (.ref JV))) (JN:K.lookup JV=some ⟨oc_check_barred,od_check_barred,.func (PySem.W.fnOf "check_barred" "check_barred" (Zz ZW) (Zv ZW) (Zg ZW) .none kV_check_barred dc_check_barred ZK an_check_barred cd_check_barred ct_check_barred),sl_check_barred⟩) (Wm:PySem.W.codeIn K cd_check_barred "check_barred"=true) (JR:PySem.W.keepIn K (.ref JV)=true)
  (Va:PySem.W.nsIn K mainGlobals "count_boards"=some (some (.ref JU))) (JM:K.lookup JU=some ⟨oc_count_boards,od_count_boards,.func (PySem.W.fnOf "count_boards" "count_boards" (Zz ZV) (Zv ZV) (Zg ZV) .none kV_count_boards dc_count_boards Z8 an_count_boards cd_count_boards ct_count_boards),sl_count_boards⟩) (Wl:PySem.W.codeIn K cd_count_boards "count_boards"=true) (JQ:PySem.W.keepIn K (.ref JU)=true)
  (WF:PySem.W.nsIn K mainGlobals "check_few_boards"=some (some (.ref WB))) (W9:K.lookup WB=some ⟨oc_check_few_boards,od_check_few_boards,.func (PySem.W.fnOf "check_few_boards" "check_few_boards" (Zz Z5) (Zv Z5) (Zg Z5) .none kV_check_few_boards dc_check_few_boards Z0 an_check_few_boards cd_check_few_boards ct_check_few_boards),sl_check_few_boards⟩) (Yr:PySem.W.codeIn K cd_check_few_boards "check_few_boards"=true) (WA:PySem.W.keepIn K (.ref WB)=true)
  (Uy:PySem.W.nsIn K mainGlobals "check_play"=some (some (.ref Um))) (VZ:K.lookup Um=some ⟨oc_check_play,od_check_play,.func (PySem.W.fnOf "check_play" "check_play" (Zz Y4) (Zv Y4) (Zg Y4) .none kV_check_play dc_check_play Yq an_check_play cd_check_play ct_check_play),sl_check_play⟩) (Jg:PySem.W.codeIn K cd_check_play "check_play"=true) (Ue:PySem.W.keepIn K (.ref Um)=true)
  (JD:PySem.W.nsIn K mainGlobals "rising_boards"=some (some (.ref J0))) (Jt:K.lookup J0=some ⟨oc_rising_boards,od_rising_boards,.func (PySem.W.fnOf "rising_boards" "rising_boards" (Zz ZI) (Zv ZI) (Zg ZI) .none kV_rising_boards dc_rising_boards Z2 an_rising_boards cd_rising_boards ct_rising_boards),sl_rising_boards⟩) (Wd:PySem.W.codeIn K cd_rising_boards "rising_boards"=true) (Jv:PySem.W.keepIn K (.ref J0)=true)
  (Qn:PySem.W.nsIn K mainGlobals "free_pits"=some (some (.ref Qc))) (UM:K.lookup Qc=some ⟨oc_free_pits,od_free_pits,.func (PySem.W.fnOf "free_pits" "free_pits" (Zz YS) (Zv YS) (Zg YS) .none kV_free_pits dc_free_pits Yb an_free_pits cd_free_pits ct_free_pits),sl_free_pits⟩) (WN:PySem.W.codeIn K cd_free_pits "free_pits"=true) (UU:PySem.W.keepIn K (.ref Qc)=true)
  (ZbJ:PySem.W.nsIn K mainGlobals "sow_pit"=some (some (.ref Zb6))) (Zbu:K.lookup Zb6=some ⟨oc_sow_pit,od_sow_pit,.func (PySem.W.fnOf "sow_pit" "sow_pit" (Zz WW) (Zv WW) (Zg WW) .none kV_sow_pit dc_sow_pit W5 an_sow_pit cd_sow_pit ct_sow_pit),sl_sow_pit⟩) (Us:PySem.W.codeIn K cd_sow_pit "sow_pit"=true) (Zbx:PySem.W.keepIn K (.ref Zb6)=true)
  (Uu:PySem.W.nsIn K mainGlobals "sowings_of"=some (some (.ref Ui))) (VU:K.lookup Ui=some ⟨oc_sowings_of,od_sowings_of,.func (PySem.W.fnOf "sowings_of" "sowings_of" (Zz Yy) (Zv Yy) (Zg Yy) .none kV_sowings_of dc_sowings_of Yo an_sowings_of cd_sowings_of ct_sowings_of),sl_sowings_of⟩) (Jc:PySem.W.codeIn K cd_sowings_of "sowings_of"=true) (Ua:PySem.W.keepIn K (.ref Ui)=true)
  (Uv:PySem.W.nsIn K mainGlobals "next_level"=some (some (.ref Uj))) (VW:K.lookup Uj=some ⟨oc_next_level,od_next_level,.func (PySem.W.fnOf "next_level" "next_level" (Zz Yz) (Zv Yz) (Zg Yz) .none kV_next_level dc_next_level Yp an_next_level cd_next_level ct_next_level),sl_next_level⟩) (Jd:PySem.W.codeIn K cd_next_level "next_level"=true) (Ub:PySem.W.keepIn K (.ref Uj)=true)
  (Ql:PySem.W.nsIn K mainGlobals "walk_from"=some (some (.ref Qa))) (UK:K.lookup Qa=some ⟨oc_walk_from,od_walk_from,.func (PySem.W.fnOf "walk_from" "walk_from" (Zz YQ) (Zv YQ) (Zg YQ) .none kV_walk_from dc_walk_from ZZ an_walk_from cd_walk_from ct_walk_from),sl_walk_from⟩) (J5:PySem.W.codeIn K cd_walk_from "walk_from"=true) (US:PySem.W.keepIn K (.ref Qa)=true)
  (ZbL:PySem.W.nsIn K mainGlobals "come_to"=some (some (.ref Zb8))) (Zbw:K.lookup Zb8=some ⟨oc_come_to,od_come_to,.func (PySem.W.fnOf "come_to" "come_to" (Zz WY) (Zv WY) (Zg WY) .none kV_come_to dc_come_to YL an_come_to cd_come_to ct_come_to),sl_come_to⟩) (Vq:PySem.W.codeIn K cd_come_to "come_to"=true) (Zbz:PySem.W.keepIn K (.ref Zb8)=true)
  (Ux:PySem.W.nsIn K mainGlobals "free_seeds"=some (some (.ref Ul))) (VY:K.lookup Ul=some ⟨oc_free_seeds,od_free_seeds,.func (PySem.W.fnOf "free_seeds" "free_seeds" (Zz Y1) (Zv Y1) (Zg Y1) .none kV_free_seeds dc_free_seeds ZG an_free_seeds cd_free_seeds ct_free_seeds),sl_free_seeds⟩) (Jf:PySem.W.codeIn K cd_free_seeds "free_seeds"=true) (Ud:PySem.W.keepIn K (.ref Ul)=true)
  (ZbK:PySem.W.nsIn K mainGlobals "ends_of"=some (some (.ref Zb7))) (Zbv:K.lookup Zb7=some ⟨oc_ends_of,od_ends_of,.func (PySem.W.fnOf "ends_of" "ends_of" (Zz WX) (Zv WX) (Zg WX) .none kV_ends_of dc_ends_of YK an_ends_of cd_ends_of ct_ends_of),sl_ends_of⟩) (Ut:PySem.W.codeIn K cd_ends_of "ends_of"=true) (Zby:PySem.W.keepIn K (.ref Zb7)=true)
  (Zaw:PySem.W.nsIn K mainGlobals "_law_end"=some (some (.ref Zap))) (Zad:K.lookup Zap=some ⟨oc__law_end,od__law_end,.func (PySem.W.fnOf "_law_end" "_law_end" (Zz W4) (Zv W4) (Zg W4) .none kV__law_end dc__law_end Wr an__law_end cd__law_end ct__law_end),sl__law_end⟩) (Vt:PySem.W.codeIn K cd__law_end "_law_end"=true) (Zai:PySem.W.keepIn K (.ref Zap)=true)
  (Qp:PySem.W.nsIn K mainGlobals "_law_sown"=some (some (.ref Qe))) (UO:K.lookup Qe=some ⟨oc__law_sown,od__law_sown,.func (PySem.W.fnOf "_law_sown" "_law_sown" (Zz YU) (Zv YU) (Zg YU) .none kV__law_sown dc__law_sown Y6 an__law_sown cd__law_sown ct__law_sown),sl__law_sown⟩) (J8:PySem.W.codeIn K cd__law_sown "_law_sown"=true) (UW:PySem.W.keepIn K (.ref Qe)=true)
  (VE:PySem.W.nsIn K mainGlobals "_law_behind"=some (some (.ref V9))) (V4:K.lookup V9=some ⟨oc__law_behind,od__law_behind,.func (PySem.W.fnOf "_law_behind" "_law_behind" (Zz Yn) (Zv Yn) (Zg Yn) .none kV__law_behind dc__law_behind Yd an__law_behind cd__law_behind ct__law_behind),sl__law_behind⟩) (WE:PySem.W.codeIn K cd__law_behind "_law_behind"=true) (V6:PySem.W.keepIn K (.ref V9)=true)
  (ZmP:PySem.W.nsIn K mainGlobals "law"=some (some (.ref Zm6))) (Zmv:K.lookup Zm6=some ⟨oc_law,od_law,.func (PySem.W.fnOf "law" "law" (Zz ZdA) (Zv ZdA) (Zg ZdA) .none kV_law dc_law Q2 an_law cd_law ct_law),sl_law⟩) (ZkT:PySem.W.codeIn K cd_law "law"=true) (Zmx:PySem.W.keepIn K (.ref Zm6)=true)
  {t_FEWEST_PITS:Tok} (a_FEWEST_PITS:PySem.W.nsIn K mainGlobals "FEWEST_PITS"=some (some (.int 2 t_FEWEST_PITS)))
  {t_MOST_BOARDS:Tok} (a_MOST_BOARDS:PySem.W.nsIn K mainGlobals "MOST_BOARDS"=some (some (.int 1000 t_MOST_BOARDS)))
  {t_MOST_PITS:Tok} (a_MOST_PITS:PySem.W.nsIn K mainGlobals "MOST_PITS"=some (some (.int 24 t_MOST_PITS)))
  (z_all:PySem.W.nsIn K mainGlobals "all"=some none)
  (z_bool:PySem.W.nsIn K mainGlobals "bool"=some none)
  (z_int:PySem.W.nsIn K mainGlobals "int"=some none)
  (z_isinstance:PySem.W.nsIn K mainGlobals "isinstance"=some none)
  (z_len:PySem.W.nsIn K mainGlobals "len"=some none)
  (z_list:PySem.W.nsIn K mainGlobals "list"=some none)
  (z_max:PySem.W.nsIn K mainGlobals "max"=some none)
  (z_min:PySem.W.nsIn K mainGlobals "min"=some none)
  (z_range:PySem.W.nsIn K mainGlobals "range"=some none)
  (z_sorted:PySem.W.nsIn K mainGlobals "sorted"=some none)
  (z_sum:PySem.W.nsIn K mainGlobals "sum"=some none)
  (z_tuple:PySem.W.nsIn K mainGlobals "tuple"=some none)
  (x_tab:Zpx K XN XS=true) (x_exc:ZlI K XR=true)
  :Txt K mg:=by
 refine⟨?_, ?_, ?_, ?_, ?_, ?_, ?_, ?_, ?_, ?_, ?_, ?_, ?_, ?_, ?_, ?_, ?_, ?_, ?_, ?_, ?_, ?_, ?_, ?_, ?_, ?_, ?_, ?_, ?_, ?_, ?_, ?_, ?_, ?_, ?_, ?_, ?_, ?_, ?_, ?_, ?_, ?_, ?_, ?_, ?_, ?_, ?_,x_tab,x_exc,fun n C e=>PySem.W.mg_of X G e⟩
 ·exact⟨_,_,Yf (st:=ZY) JP ZH JT,PySem.W.mg_of X G Vd⟩
 ·exact⟨_,_,Yf (st:=ZX) JO Yg JS,PySem.W.mg_of X G Vc⟩
 ·exact⟨_,_,Yf (st:=Wz) Zac Vs Zah,PySem.W.mg_of X G Zav⟩
 ·exact⟨_,_,Yf (st:=YT) UN J7 UV,PySem.W.mg_of X G Qo⟩
 ·exact⟨_,_,Yf (st:=Wy) Zab Vr Zag,PySem.W.mg_of X G Zau⟩
 ·exact⟨_,_,Yf (st:=YV) UP J9 UX,PySem.W.mg_of X G Qq⟩
 ·exact⟨_,_,Yf (st:=YW) UQ JA UY,PySem.W.mg_of X G Qr⟩
 ·exact⟨_,_,Yf (st:=Ww) QZ Vo Zae,PySem.W.mg_of X G Zas⟩
 ·exact⟨_,_,Yf (st:=ZJ) Ju Yx Jw,PySem.W.mg_of X G JE⟩
 ·exact⟨_,_,Yf (st:=Zx) YZ ZQ Wa,PySem.W.mg_of X G Wf⟩
 ·exact⟨_,_,Yf (st:=Y0) VX Je Uc,PySem.W.mg_of X G Uw⟩
 ·exact⟨_,_,Yf (st:=Wx) Zaa Vp Zaf,PySem.W.mg_of X G Zat⟩
 ·exact⟨_,_,Yf (st:=Ym) V3 WD V5,PySem.W.mg_of X G VD⟩
 ·exact⟨_,_,Yf (st:=YR) UL J6 UT,PySem.W.mg_of X G Qm⟩
 ·exact⟨_,_,Yf (st:=JG) ZcR QK ZcT,PySem.W.mg_of X G Zdv⟩
 ·exact⟨_,_,Yf (st:=ZW) JN Wm JR,PySem.W.mg_of X G Vb⟩
 ·exact⟨_,_,Yf (st:=ZV) JM Wl JQ,PySem.W.mg_of X G Va⟩
 ·exact⟨_,_,Yf (st:=Z5) W9 Yr WA,PySem.W.mg_of X G WF⟩
 ·exact⟨_,_,Yf (st:=Y4) VZ Jg Ue,PySem.W.mg_of X G Uy⟩
 ·exact⟨_,_,Yf (st:=ZI) Jt Wd Jv,PySem.W.mg_of X G JD⟩
 ·exact⟨_,_,Yf (st:=YS) UM WN UU,PySem.W.mg_of X G Qn⟩
 ·exact⟨_,_,Yf (st:=WW) Zbu Us Zbx,PySem.W.mg_of X G ZbJ⟩
 ·exact⟨_,_,Yf (st:=Yy) VU Jc Ua,PySem.W.mg_of X G Uu⟩
 ·exact⟨_,_,Yf (st:=Yz) VW Jd Ub,PySem.W.mg_of X G Uv⟩
 ·exact⟨_,_,Yf (st:=YQ) UK J5 US,PySem.W.mg_of X G Ql⟩
 ·exact⟨_,_,Yf (st:=WY) Zbw Vq Zbz,PySem.W.mg_of X G ZbL⟩
 ·exact⟨_,_,Yf (st:=Y1) VY Jf Ud,PySem.W.mg_of X G Ux⟩
 ·exact⟨_,_,Yf (st:=WX) Zbv Ut Zby,PySem.W.mg_of X G ZbK⟩
 ·exact⟨_,_,Yf (st:=W4) Zad Vt Zai,PySem.W.mg_of X G Zaw⟩
 ·exact⟨_,_,Yf (st:=YU) UO J8 UW,PySem.W.mg_of X G Qp⟩
 ·exact⟨_,_,Yf (st:=Yn) V4 WE V6,PySem.W.mg_of X G VE⟩
 ·exact⟨_,_,Yf (st:=ZdA) Zmv ZkT Zmx,PySem.W.mg_of X G ZmP⟩
 ·exact⟨_,PySem.W.mg_of X G a_FEWEST_PITS⟩
 ·exact⟨_,PySem.W.mg_of X G a_MOST_BOARDS⟩
 ·exact⟨_,PySem.W.mg_of X G a_MOST_PITS⟩
 ·exact PySem.W.mg_none_of X G z_all
 ·exact PySem.W.mg_none_of X G z_bool
 ·exact PySem.W.mg_none_of X G z_int
 ·exact PySem.W.mg_none_of X G z_isinstance
 ·exact PySem.W.mg_none_of X G z_len
 ·exact PySem.W.mg_none_of X G z_list
 ·exact PySem.W.mg_none_of X G z_max
 ·exact PySem.W.mg_none_of X G z_min
 ·exact PySem.W.mg_none_of X G z_range
 ·exact PySem.W.mg_none_of X G z_sorted
 ·exact PySem.W.mg_none_of X G z_sum
 ·exact PySem.W.mg_none_of X G z_tuple
end My
namespace PySem.W.Fast
def tw16656674855345348640:=()
def tw5593355225884306496:=()
def tw6503806311367018560:=()
def tw16451449653648881888:=()
def tw18001383200583422432:=()
def tw3806565968235091456:=()
def tw3045593041551313440:=()
def tw7527197620248843968:=()
def tw14626885677185162944:=()
def tw16563122649011330944:=()
def tw13657891321989104576:=()
def tw1423773368029672481:=()
def tw17552199557823279489:=()
def tw1808775768937814497:=()
def tw1421643677014767233:=()
def tw15032840636138401505:=()
def tw14371210420027806914:=()
def tw17124995975178411298:=()
def tw16990611561100587426:=()
def tw10117297197733641666:=()
def tw13246326477157127906:=()
def tw13784740168707546914:=()
def tw16092402951128727362:=()
def tw4031857711037381538:=()
def tw7345280651593140547:=()
def tw2426380296703446531:=()
def tw840340422494475811:=()
def tw5301482737305353091:=()
def tw14120720957524851619:=()
def tw2088949819935089796:=()
def tw10528114669196081444:=()
def tw1030734407230529476:=()
def tw777622711814615269:=()
def tw18182779409986165125:=()
def tw6802315840281329125:=()
def tw7354697250244264453:=()
def tw15136777078108723877:=()
def tw2577830011143484293:=()
def tw10094224729257582501:=()
def tw12521619700382029830:=()
def tw10050511283166434310:=()
def tw5813403691223752070:=()
def tw8842122423446707622:=()
def tw9107219058303828390:=()
def tw7650644103426644550:=()
def tw17408602152310746918:=()
def tw14050847557080363910:=()
def tw11179026631955948551:=()
def tw15830112248435331303:=()
def tw9265091560779489639:=()
def tw3424195571924643239:=()
def tw9573757902282996263:=()
def tw8605974553687058983:=()
def tw3423672246564459079:=()
def tw7177610922752322247:=()
def tw5081350254576785448:=()
def tw193105944750064616:=()
def tw13117375528335191145:=()
def tw10923742986383242473:=()
def tw1165646365721487657:=()
def tw14085861008819599913:=()
def tw4892139367413792393:=()
def tw5534822499928103593:=()
def tw11744734985814458313:=()
def tw11518647273307729897:=()
def tw1902667262615829962:=()
def tw7423880616501399082:=()
def tw18122613438011978314:=()
def tw8536942141399767882:=()
def tw934196513125881674:=()
def tw15423035180320051082:=()
def tw6020695631160206347:=()
def tw17900262594003625259:=()
def tw7331754408069935403:=()
def tw10304466708814268075:=()
def tw2084291905623261899:=()
def tw14652542358994437484:=()
def tw7661589421681352076:=()
def tw5296501099529091564:=()
def tw10809823101713772236:=()
def tw9344749102374017037:=()
def tw6594540572311025709:=()
def tw16420329907604519053:=()
def tw8540203402808277421:=()
def tw8819013527406296525:=()
def tw11092062611136052781:=()
def tw6884281393552923181:=()
def tw6023064689874030157:=()
def tw16676835836091853389:=()
def tw1887091935992885933:=()
def tw8196281794843306925:=()
def tw15477075389538718990:=()
def tw3375883575816152334:=()
def tw6124088534041812270:=()
def tw16148745234160621966:=()
def tw5555663275435929198:=()
def tw653463202219075246:=()
def tw7293573627533443854:=()
def tw14904761536002403407:=()
def tw6122681317444477135:=()
def tw2276803691795892495:=()
def tw1772409721397253711:=()
def tw7933352880858192879:=()
def tw12278213578452222992:=()
def tw15202917288562862192:=()
def tw16751259037970128336:=()
def tw16844935555640816336:=()
def tw13303481500711807281:=()
def tw6048179607891746129:=()
def tw52467438086717873:=()
def tw11481709569159911953:=()
def tw9537881309799650001:=()
def tw17364606152240646065:=()
def tw17979641734016296881:=()
def tw17098091234270986258:=()
def tw1929613020087935058:=()
def tw17358490426442086802:=()
def tw5645036460328567442:=()
def tw18069142992906824370:=()
def tw2898669001007054642:=()
def tw8481270756442764499:=()
def tw10612156666404483411:=()
def tw6448773882597563827:=()
def tw622273732736054227:=()
def tw16807640150309082292:=()
def tw10098335148746609908:=()
def tw17856487165832960276:=()
def tw16302307470661255540:=()
def tw14512434141596590452:=()
def tw14480635901125748180:=()
def tw16566831884939001300:=()
def tw1944677590876104244:=()
def tw7799445724060524116:=()
def tw12012688438832509524:=()
def tw5179004477511368308:=()
def tw11122611437702480564:=()
def tw15259552015893019316:=()
def tw12233195957512730324:=()
def tw2178044508683682516:=()
def tw12069298629687416564:=()
def tw15976897184709751732:=()
def tw9779637911536165909:=()
def tw485372212553029685:=()
def tw3738144857358688373:=()
def tw318680962488328341:=()
def tw17585212000805912789:=()
def tw13811402270228763125:=()
def tw15221566644700161557:=()
def tw2490049076092256821:=()
def tw1027909075831978613:=()
def tw9100516115040320245:=()
def tw10823480186846370613:=()
def tw2010521427093051253:=()
def tw296660894449779766:=()
def tw12460217171058357302:=()
def tw15797916326267172022:=()
def tw2277023476731947254:=()
def tw1104402953157986678:=()
def tw14538446356633015766:=()
def tw17472615571299572246:=()
def tw17193512785409426966:=()
def tw10551434870073286230:=()
def tw1508608987792554934:=()
def tw10906590573788026838:=()
def tw9393580863934241815:=()
def tw7590281661864653015:=()
def tw13651271801092094263:=()
def tw16243069730691430263:=()
def tw62768299910542263:=()
def tw6988568229969706008:=()
def tw1514106379501017208:=()
def tw13742737356037417080:=()
def tw13235225002113435832:=()
def tw7243398650342904:=()
def tw16568151275049499448:=()
def tw3634995550087406392:=()
def tw9732392022829915289:=()
def tw8858847379301738809:=()
def tw4188226512336396761:=()
def tw9267217562059440633:=()
def tw17417415388204875321:=()
def tw14575119348611161785:=()
def tw12476080731441228537:=()
def tw11382445810866577241:=()
def tw16205013473029430233:=()
def tw16235715531338970170:=()
def tw17598334796639514810:=()
def tw12856452601023734074:=()
def tw998701645827823066:=()
def tw11105222200723626490:=()
def tw12350510225609396794:=()
def tw4759876830019365498:=()
def tw1569045482244674234:=()
def tw4961021788045982458:=()
def tw3629062713371033434:=()
def tw3675948512007202810:=()
def tw17510680876209319067:=()
def tw7624616813867533851:=()
def tw7287163615593901691:=()
def tw2413396790329075483:=()
def tw11591284599696375132:=()
def tw9829080423697477052:=()
def tw11630797176890801628:=()
def tw75066341799837500:=()
def tw3971981682082213692:=()
def tw3474351345338896380:=()
def tw4925185109853801468:=()
def tw11634353369079406653:=()
def tw8616543718491101309:=()
def tw17815704670607414589:=()
def tw13524655358321837405:=()
def tw3869917031472324989:=()
def tw7502144300361924061:=()
def tw5492553888473797309:=()
def tw13938408995136445309:=()
def tw4547179089600861117:=()
def tw3750855083262560478:=()
def tw1971950605732584062:=()
def tw16147780970221441022:=()
def tw8175445281682851871:=()
def tw2343573579229608031:=()
def tw14786253450420036735:=()
def tw14126249381193719007:=()
def tw7965559726710058303:=()
def tw3056792929918630271:=()
def tw5471585643116371391:=()
def tw10469153126844608031:=()
def tw6801833542880246399:=()
def tw17838397907756640063:=()
def tw5622777861612447647:=()
def tw7391967897550595071:=()
def tw13153634754783894527:=()
def tw15991070852005015412:=()
def tw9640078853178653469:=()
def tw13856080052055101033:=()
def tw7697396826158743597:=()
def tw9562927981844003669:=()
def tw3675392783580467998:=()
def tw11561632136601556154:=()
def tw6216298790845414340:=()
end PySem.W.Fast
open PySem PySem.W PyProof.Rows
set_option maxRecDepth 100000 in
set_option maxHeartbeats 0 in
theorem PySem.Challenge.cw_sowring_k25_ends_and_seeds_holds : PySem.Challenge.rw_sowring_k25_ends_and_seeds.Holds := by
 w_on;o_law;k_head;(case hw=>w_witness2)
 k_fill
 refine L2.ZjO (l:=PySem.Challenge.rw_sowring_k25_ends_and_seeds) (n:=63) (k:=9) (x := "script") (CX:=L2.CX0) (sp:=My.Zig) rfl (by decide) rfl ⟨rfl,by decide,by decide⟩ (fun w h Y=>by first|exact PySem.W.kIn_of Y|exact PySem.W.km_in_of Y) ?F ?S ?C
 case F =>
  intro w mg fa h KX G hmg
  have T:My.Txt (L2.KOf KX) mg:=by
   dsimp only[L2.KOf]
   refine' My.Znd KX G ?Vd ?JP ?ZH ?JT ?Vc ?JO ?Yg ?JS ?Zav ?Zac ?Vs ?Zah ?Qo ?UN ?J7 ?UV ?Zau ?Zab ?Vr ?Zag ?Qq ?UP ?J9 ?UX ?Qr ?UQ ?JA ?UY ?Zas ?QZ ?Vo ?Zae ?JE ?Ju ?Yx ?Jw ?Wf ?YZ ?ZQ ?Wa ?Uw ?VX ?Je ?Uc ?Zat ?Zaa ?Vp ?Zaf ?VD ?V3 ?WD ?V5 ?Qm ?UL ?J6 ?UT ?Zdv ?ZcR ?QK ?ZcT ?Vb ?JN ?Wm ?JR ?Va ?JM ?Wl ?JQ ?WF ?W9 ?Yr ?WA ?Uy ?VZ ?Jg ?Ue ?JD ?Jt ?Wd ?Jv ?Qn ?UM ?WN ?UU ?ZbJ ?Zbu ?Us ?Zbx ?Uu ?VU ?Jc ?Ua ?Uv ?VW ?Jd ?Ub ?Ql ?UK ?J5 ?US ?ZbL ?Zbw ?Vq ?Zbz ?Ux ?VY ?Jf ?Ud ?ZbK ?Zbv ?Ut ?Zby ?Zaw ?Zad ?Vt ?Zai ?Qp ?UO ?J8 ?UW ?VE ?V4 ?WE ?V6 ?ZmP ?Zmv ?ZkT ?Zmx ?a_FEWEST_PITS ?a_MOST_BOARDS ?a_MOST_PITS ?z_all ?z_bool ?z_int ?z_isinstance ?z_len ?z_list ?z_max ?z_min ?z_range ?z_sorted ?z_sum ?z_tuple ?x_tab ?x_exc
   (case Vd=>k_is)
   (case JP=>k_is)
   (case ZH=>k_is)
   (case JT=>k_is)
   (case Vc=>k_is)
   (case JO=>k_is)
   (case Yg=>k_is)
   (case JS=>k_is)
   (case Zav=>k_is)
   (case Zac=>k_is)
   (case Vs=>k_is)
   (case Zah=>k_is)
   (case Qo=>k_is)
   (case UN=>k_is)
   (case J7=>k_is)
   (case UV=>k_is)
   (case Zau=>k_is)
   (case Zab=>k_is)
   (case Vr=>k_is)
   (case Zag=>k_is)
   (case Qq=>k_is)
   (case UP=>k_is)
   (case J9=>k_is)
   (case UX=>k_is)
   (case Qr=>k_is)
   (case UQ=>k_is)
   (case JA=>k_is)
   (case UY=>k_is)
   (case Zas=>k_is)
   (case QZ=>k_is)
   (case Vo=>k_is)
   (case Zae=>k_is)
   (case JE=>k_is)
   (case Ju=>k_is)
   (case Yx=>k_is)
   (case Jw=>k_is)
   (case Wf=>k_is)
   (case YZ=>k_is)
   (case ZQ=>k_is)
   (case Wa=>k_is)
   (case Uw=>k_is)
   (case VX=>k_is)
   (case Je=>k_is)
   (case Uc=>k_is)
   (case Zat=>k_is)
   (case Zaa=>k_is)
   (case Vp=>k_is)
   (case Zaf=>k_is)
   (case VD=>k_is)
   (case V3=>k_is)
   (case WD=>k_is)
   (case V5=>k_is)
   (case Qm=>k_is)
   (case UL=>k_is)
   (case J6=>k_is)
   (case UT=>k_is)
   (case Zdv=>k_is)
   (case ZcR=>k_is)
   (case QK=>k_is)
   (case ZcT=>k_is)
   (case Vb=>k_is)
   (case JN=>k_is)
   (case Wm=>k_is)
   (case JR=>k_is)
   (case Va=>k_is)
   (case JM=>k_is)
   (case Wl=>k_is)
   (case JQ=>k_is)
   (case WF=>k_is)
   (case W9=>k_is)
   (case Yr=>k_is)
   (case WA=>k_is)
   (case Uy=>k_is)
   (case VZ=>k_is)
   (case Jg=>k_is)
   (case Ue=>k_is)
   (case JD=>k_is)
   (case Jt=>k_is)
   (case Wd=>k_is)
   (case Jv=>k_is)
   (case Qn=>k_is)
   (case UM=>k_is)
   (case WN=>k_is)
   (case UU=>k_is)
   (case ZbJ=>k_is)
   (case Zbu=>k_is)
   (case Us=>k_is)
   (case Zbx=>k_is)
   (case Uu=>k_is)
   (case VU=>k_is)
   (case Jc=>k_is)
   (case Ua=>k_is)
   (case Uv=>k_is)
   (case VW=>k_is)
   (case Jd=>k_is)
   (case Ub=>k_is)
   (case Ql=>k_is)
   (case UK=>k_is)
   (case J5=>k_is)
   (case US=>k_is)
   (case ZbL=>k_is)
   (case Zbw=>k_is)
   (case Vq=>k_is)
   (case Zbz=>k_is)
   (case Ux=>k_is)
   (case VY=>k_is)
   (case Jf=>k_is)
   (case Ud=>k_is)
   (case ZbK=>k_is)
   (case Zbv=>k_is)
   (case Ut=>k_is)
   (case Zby=>k_is)
   (case Zaw=>k_is)
   (case Zad=>k_is)
   (case Vt=>k_is)
   (case Zai=>k_is)
   (case Qp=>k_is)
   (case UO=>k_is)
   (case J8=>k_is)
   (case UW=>k_is)
   (case VE=>k_is)
   (case V4=>k_is)
   (case WE=>k_is)
   (case V6=>k_is)
   (case ZmP=>k_is)
   (case Zmv=>k_is)
   (case ZkT=>k_is)
   (case Zmx=>k_is)
   (case a_FEWEST_PITS=>k_is)
   (case a_MOST_BOARDS=>k_is)
   (case a_MOST_PITS=>k_is)
   (case z_all=>k_is)
   (case z_bool=>k_is)
   (case z_int=>k_is)
   (case z_isinstance=>k_is)
   (case z_len=>k_is)
   (case z_list=>k_is)
   (case z_max=>k_is)
   (case z_min=>k_is)
   (case z_range=>k_is)
   (case z_sorted=>k_is)
   (case z_sum=>k_is)
   (case z_tuple=>k_is)
   (case x_tab=>kernel_rfl)
   (case x_exc=>kernel_rfl)
  exact My.ZnE T hmg
 case S=>exact fun K H a ns hl hO hS=>My.ZiR hl hO hS
 case C=>exact fun _ _ _ _ z=>z

