import PyProof.Rows.All
import Wide.All
import OpenK.AllK
import Wide.FinOn
import Lean
import PyProof.EqAt
import PyProof.EqKinds
import PyProof.TupleCall
import KE.KTryMore
import PyProof.NsDelKeeps
import PyProof.EnumStmt
import KE.KRevIter
import PyProof.ListNew
import KE.KIntText
import PyProof.ListRange
import PyProof.Rows.Range3
import PyProof.Rows.TupDisplay
import KE.KSortTup
import PyProof.Rows.SortRuns
import KE.KSortKey
import KE.KLam
import PyProof.DictWalks
import PyProof.DictTruth
import PyProof.StrBlock2
import PyProof.ExcInit
import PyProof.ExcClass2
import PySem.Challenge.RW_sowring_k33_whole_the_last_sowing
open List renaming getD_eq_getElem?_getD->Zrf,getElem?_eq_some_iff->Zrg,mem_of_getElem?->Zrh,getElem?_eq_getElem->Zri,length_map->Zrj,mem_append_right->Zrk,getElem?_map->Zrn,mem_append->Zro,mem_append_left->Zrp,size_toArray->Zrq,append_assoc->Zrr,getElem?_append_right->Zrs,mem_cons->Zrt,map_cons->Zru,getElem?_append_left->Zrw,pairwise_append->Zrx,mem_map->Zrz,map_map->Zr1,take_append_drop->Zr2,getElem?_eq_none->Zr3,getElem?_of_mem->Zr4,mem_cons_of_mem->Zr6,length_take->Zr9,mem_range->ZrB,getElem?_set_self->ZrC,mem_singleton->ZrD,getElem?_take->ZrE,length_cons->ZrF,getElem?_drop->ZrG,drop_eq_getElem_cons->ZrH,getElem?_set_ne->ZrJ,mem_cons_self->ZrM,map_congr_left->ZrN,take_of_length_le->ZrO,mem_of_mem_take->ZrP,mem_of_mem_drop->ZrQ,all_eq_true->ZrR,mem_filter->ZrS,length_append->ZrT,getElem?_eq_none_iff->ZrU,extract_eq_take_drop->ZrV,ext_getElem?->ZrX,getElem?_zip_eq_some->ZrY,getElem?_range->ZrZ,lookup_cons->Zsa,pairwise_map->Zsb,nodup_iff_pairwise_ne->Zsc,replicate_succ->Zsd,nodup_cons->Zse,pairwise_iff_getElem->Zsh,perm_append_comm->Zsi,length_filter_le->Zsj,nil_append->Zsm,exists_cons_of_ne_nil->Zsn,length_drop->Zso,pairwise_cons->Zsq,getElem?_take_of_lt->Zst,flatten_cons->Zsu,map_append->Zsv,length_zip->Zsw,getElem?_cons_zero->Zsy,any_cons->Zsz,getElem_mem->Zs1,drop_of_length_le->Zs4,map_inj_right->Zs6,contains_iff_mem->Zs8,singleton_append->Zs9,find?_cons->ZsA,sum_cons->ZsB,getLastD_concat->ZsD,drop_zero->ZsE,cons_append->ZsF,take_length->ZsH,mem_map_of_mem->ZsJ,map_nil->ZsK,append_nil->ZsL,getElem?_replicate->ZsM,length_set->ZsN,zip_cons_cons->ZsO,getElem?_cons_succ->ZsP,pairwise_singleton->ZsS,find?_eq_none->ZsT,drop_eq_nil_of_le->ZsU,length_range->ZsX,set_append_right->ZsZ,getElem?_replicate_of_lt->Ztb,getElem?_mapIdx->Ztd,filterMap_cons->Ztf,length_nil->Zti,range_succ->Ztk,take_sublist->Ztp,foldl_append->Ztq,mem_reverse->Zts,of_mem_zip->Ztt,foldl_cons->Ztu,map_id->Zty
open Nat renaming le_refl->Zrl,lt_of_lt_of_le->Zr0,le_trans->Zr7,ne_of_lt->Zr8,zero_le->ZrI,zero_add->ZrW,lt_of_le_of_lt->Zsf,lt_irrefl->Zsg,le_of_lt->Zs7,le_succ->ZsI,lt_succ_of_lt->ZsV,ne_of_gt->ZsY,lt_succ_self->Zta,pow_le_pow_right->Ztc,pow_lt_pow_right->Zte,min_le_left->Zth,pow_le_pow_left->Ztl,le_of_eq->Ztn,min_self->Ztv,add_zero->Ztw,not_lt->Ztx
open Int renaming emod_lt_of_pos->Zry,emod_nonneg->Zr5,toNat_of_nonneg->ZrA,emod_eq_of_lt->ZrK,toNat_natCast->ZrL,ediv_emod_unique->Zsl,mul_ediv_add_emod->Zsp,zero_add->Zsx,add_emod_right->ZsQ,mul_one->Ztg,le_refl->Ztj
open Array renaming length_toList->Zrm,getElem?_toList->Zrv,getElem?_eq_getElem->Zsr,toList_extract->Zss,toList_append->Zs0,toList_map->Zs2,getElem?_eq_none->Zs5,perm_iff_toList_perm->ZsC,toList_inj->ZsG,toList_push->ZsW,toList_setIfInBounds->Ztm,append_assoc->Zto
open Option renaming getD_some->Zsk,map_eq_some_iff->Zs3,map_some->ZsR,toList->Ztr
set_option Elab.async false
set_option genSizeOf false
set_option genSizeOfSpec false
set_option linter.all false
set_option maxRecDepth 100000
namespace L2
open PySem PySem.Spec PyProof.Rows
noncomputable abbrev Key:=Sum Int Str
noncomputable def Zd8:Key->Value->Bool
 |.inl k,v=>Value.isInt k v
 |.inr x,v=>Value.isStrOf x v
noncomputable def Zm9(w:World):Key->Int
 |.inl k=>hashInt k
 |.inr x=>hashStr w x
theorem ZV:∀{k:Key}{v:Value},Zd8 k v=true->(∃i t,k=Sum.inl i/\v=Value.int i t)\/(∃x t,k=Sum.inr x/\v=Value.str x t)
 |.inl i,v,h=>by
  obtain⟨t,e⟩:=Value.isInt_shape (k:=i) (v:=v) h
  exact .inl ⟨i,t,rfl,e⟩
 |.inr x,v,h=>by
  obtain⟨t,e⟩:=Value.isStrOf_shape (x:=x) (v:=v) h
  exact .inr ⟨x,t,rfl,e⟩
theorem ZeY(i:Int)(t:Tok):Zd8 (.inl i) (.int i t)=true:=by simp[Zd8,Value.isInt]
theorem ZeX(x:Str)(t:Tok):Zd8 (.inr x) (.str x t)=true:=by simp[Zd8,Value.isStrOf]
theorem Zk7(a b:Int):decide ((Sum.inl a:Key)=Sum.inl b)=(a==b):=by
 by_cases e:a=b
 ·subst e;simp
 ·have h:¬(Sum.inl a:Key)=Sum.inl b:=fun q=>e (Sum.inl.inj q)
  rw[decide_eq_false h]
  exact(beq_eq_false_iff_ne.mpr e).symm
theorem Zk4(a b:Str):decide ((Sum.inr a:Key)=Sum.inr b)=decide (a=b):=by
 by_cases e:a=b
 ·subst e;simp
 ·have h:¬(Sum.inr a:Key)=Sum.inr b:=fun q=>e (Sum.inr.inj q)
  rw[decide_eq_false h,decide_eq_false e]
theorem Zk6(a:Int)(b:Str):decide ((Sum.inl a:Key)=Sum.inr b)=false:=decide_eq_false (fun q=>nomatch q)
theorem Zk5(a:Str)(b:Int):decide ((Sum.inr a:Key)=Sum.inl b)=false:=decide_eq_false (fun q=>nomatch q)
noncomputable def Jj(prog:Program)(w:World):PySem.KeyKind prog w Key where
 is:=Zd8
 hash:=Zm9 w
 inj:=fun v a b ha hb=>by
  rcases ZV ha with ⟨i,t,rfl,rfl⟩|⟨x,t,rfl,rfl⟩
  ·rcases ZV hb with ⟨j,u,rfl,e⟩|⟨y,u,rfl,e⟩
   ·injection e with e1 _;rw[e1]
   ·exact nomatch e
  ·rcases ZV hb with ⟨j,u,rfl,e⟩|⟨y,u,rfl,e⟩
   ·exact nomatch e
   ·injection e with e1 _;rw[e1]
 byValue:=fun k v h=>by
  rcases ZV h with ⟨i,t,rfl,rfl⟩|⟨x,t,rfl,rfl⟩<;>rfl
 pyHash:=fun hv h=>by
  rcases ZV hv with ⟨i,t,rfl,rfl⟩|⟨x,t,rfl,rfl⟩
  ·exact wpAny_pyHash_int h
  ·exact wpAny_pyHash_str h
 eqBool:=fun hu hv h=>by
  rcases ZV hu with ⟨i,t,rfl,rfl⟩|⟨x,t,rfl,rfl⟩
  ·rcases ZV hv with ⟨j,u,rfl,rfl⟩|⟨y,u,rfl,rfl⟩
   ·rw[Zk7] at h;exact wpAny_eqBool_int h
   ·rw[Zk6] at h;exact SeqAt.EqAt.int_str i t y u _ _ _ _ h
  ·rcases ZV hv with ⟨j,u,rfl,rfl⟩|⟨y,u,rfl,rfl⟩
   ·rw[Zk5] at h;exact SeqAt.EqAt.str_int x t j u _ _ _ _ h
   ·rw[Zk4] at h;exact wpAny_eqBool_str h
 «strs»:=fun k x t v h=>by
  rcases ZV h with ⟨i,u,rfl,e⟩|⟨y,u,rfl,e⟩
  ·exact nomatch e
  ·injection e with e1 _
   subst e1
   cases v<;>rfl
theorem ZbR(prog:Program)(w:World)(i:Int)(t:Tok):(Jj prog w).is (.inl i) (.int i t)=true:=ZeY i t
theorem ZbQ(prog:Program)(w:World)(x:Str)(t:Tok):(Jj prog w).is (.inr x) (.str x t)=true:=ZeX x t
inductive V where
 |non|bl (b:Bool)|int (i:Int)|str (x:Str)|byt (b:Array UInt8)|flt (b:UInt64)|ref (a:Addr)|ty (n:String)
 deriving DecidableEq
noncomputable def Jf:V->Value->Prop
 |.non,u=>u=Value.none
 |.bl b,u=>u=Value.bool b
 |.int i,u=>∃t,u=Value.int i t
 |.str x,u=>∃t,u=Value.str x t
 |.byt b,u=>∃t,u=Value.bytes b t
 |.flt b,u=>∃t,u=Value.float b t
 |.ref a,u=>u=Value.ref a
 |.ty n,u=>u=Value.type n
noncomputable abbrev ZP:List V->List Value->Prop:=Paired Jf
theorem ZP.length{xs:List V}{us:List Value}(r:ZP xs us):xs.length=us.length:=Paired.length r
theorem ZP.get:∀{xs:List V}{us:List Value}{i:Nat}{x:V},ZP xs us->xs[i]?=some x->∃u,us[i]?=some u/\Jf x u
 |_,_,_,_,.nil,e=>by simp at e
 |_,_,0,_,.cons r _,e=>by simp at e;subst e;exact⟨_,rfl,r⟩
 |_,_,i+1,x,.cons _ t,e=>by
  obtain⟨u,h1,h2⟩:=ZP.get (i:=i) (x:=x) t (by simpa using e)
  exact⟨u,by simpa using h1,h2⟩
theorem ZP.set{x:V}{u:Value}(r:Jf x u):∀{xs:List V}{us:List Value} (i:Nat),ZP xs us->ZP (xs.set i x) (us.set i u)
 |_,_,_,.nil=>.nil
 |_,_,0,.cons _ t=>.cons r t
 |_,_,i+1,.cons q t=>.cons q (ZP.set r i t)
theorem ZP.append:∀{xs ys:List V}{us ws:List Value},ZP xs us->ZP ys ws->ZP (xs++ys) (us++ws)
 |_,_,_,_,.nil,s=>s
 |_,_,_,_,.cons r t,s=>.cons r (ZP.append t s)
noncomputable def ZfL:Option V->Option Value->Prop
 |some v,some u=>Jf v u
 |none,none=>True
 |_,_=>False
def KV{κ:Type}:List (κ×V)->List (κ×Value)->Prop:=Paired fun(p:κ×V) (q:κ×Value)=>p.1=q.1/\Jf p.2 q.2
noncomputable def kV:Key->V
 |.inl i=>.int i
 |.inr x=>.str x
inductive HO where
  |lst (xs:List V)
  |tup (xs:List V)
  |dK (kvs:List (Key×V))|dT (kvs:List (List Key×V))
  |set (S:Int->Bool) (n:Nat)
  |ins (C dx:Addr) (fs:List (Str×V))
  |own (x:Addr)
  |xd (fs:List (Str×V))
  |met (f x:Addr)
  |rng (lo hi:Int)
  |frz (o:Obj) (u:HO)
  |tbl (ps:Array Value) (q:Str)
  |ext (φ:Heap->Prop)
noncomputable abbrev Hp:=Addr->Option HO
noncomputable def Zm0:HO->Prop
 |.tup _=>True
 |.frz _ (.own _)=>True
 |_=>False
noncomputable abbrev TF:={ u:HO // Zm0 u }
def Zjy(q:Str)(o:Obj):Prop:=∃vs t,o.data=.fields vs/\vs[1]?=some (.str q t)
noncomputable def upd(H:Hp)(a:Addr)(o:HO):Hp:=fun b=>if b=a then some o else H b
theorem Zv{H:Hp}{a:Addr}{o:HO}:upd H a o a=some o:=by unfold upd;rw[if_pos rfl]
theorem Zp{H:Hp}{a b:Addr}{o:HO}(h:b≠a):upd H a o b=H b:=by unfold upd;rw[if_neg h]
theorem ZiN{H:Hp}{a b:Addr}{o u:HO}(h:H a=some o)(h':H b=some u)(d:o≠u):a≠b:=by
 intro e;subst e;rw[h] at h';exact d (Option.some.inj h')
theorem Z3{H:Hp}{a b:Addr}{o:HO}(h:H a=some o)(h':H b=none):a≠b:=by
 intro e;subst e;rw[h] at h';cases h'
section
variable (P:Program) (w:World)
noncomputable def Jt(H:Hp)(h:Heap)(a:Addr):HO->Prop
 |.lst xs=>xs.length<=sizeLine/\∃(its:List Value) (n:Nat),ZP xs its/\h.get? a=some { cls:=.type "list",data:=.seq its.toArray n }
 |.tup xs=>xs.length<=sizeLine/\∃its:List Value,ZP xs its/\IsTup h a its.toArray
 |.dK kvs=>kvs.length<=sizeLine/\(a==sysModules)=false/\∃vs,KV kvs vs/\h.DictOf (Jj P w) a vs
 |.dT kvs=>kvs.length<=sizeLine/\(a==sysModules)=false/\∃xs:List (List Key×Addr×Value),
   Paired (fun(p:List Key×V) (q:List Key×Addr×Value)=>p.1=q.1/\H q.2.1=some (.tup (p.1.map kV))/\Jf p.2 q.2.2) kvs xs /\
   ∃o es ep,h.get? a=some o/\o.ExactDict/\o.data=.dict es ep/\es.toList=xs.map (entryOfKey (tupleKind (Jj P w)))/\(xs.map (·.1)).Nodup
 |.set S n=>h.SetOf (intKind P w) a S n
 |.ins C dx fs=>H dx=some (.own a)/\fs.length<=1000/\dx≠a/\h.get? a=some (PySem.W.instObj C dx) /\
   ∃mA,h.Ns1 dx mA/\(∀f,ZfL (fs.lookup f) (mA f))/\PySem.Within mA (fs.map (·.1))
 |.own _=>∃o,h.get? a=some o
 |.xd fs=>∃mA,h.Ns1 a mA/\∀f,ZfL (fs.lookup f) (mA f)
 |.rng lo hi=>∃t u v,h.get? a=some { cls:=.type "range",data:=.fields #[.int lo t,.int hi u,.int 1 v] }
 |.frz o u=>h.get? a=some o/\Jt H h a u
 |.tbl ps q=>∃more:Array Value,h.get? a=some { cls:=.none,data:=.fields (ps++more) }/\TriplesOk (ps++more).toList/\∀pos c',codeAmong pos (ps++more).toList=some c'->∃c o,c'=.ref c/\H c=some (.frz o (.own c))/\Zjy q o
 |.met f x=>h.get? a=some (PySem.W.methodObj (.ref f) (.ref x))
 |.ext φ=>φ h/\(∃o,h.get? a=some o)/\∀h1 h2:Heap,φ h1->(∀o,h1.get? a=some o->h2.get? a=some o)->φ h2
def HOk(H:Hp)(h:Heap):Prop:=∀a o,H a=some o->Jt P w H h a o
end
section
variable {P:Program}{w:World}{H H':Hp}{h h':Heap}{a:Addr}{o:HO}
theorem Jt.lt(x:Jt P w H h a o):a<h.objs.size:=by
 cases o with
 |lst xs=>obtain⟨_,_,_,_,e⟩:=x;exact Heap.lt_size e
 |tup xs=>obtain⟨_,_,_,p⟩:=x;exact p.lt
 |dK kvs=>obtain⟨_,_,_,_,o,_,_,e,_⟩:=x;exact Heap.lt_size e
 |dT kvs=>obtain⟨_,_,_,_,o,_,_,e,_⟩:=x;exact Heap.lt_size e
 |set S n=>obtain⟨o,_,_,_,e,_⟩:=x;exact Heap.lt_size e
 |ins C dx fs=>obtain⟨_,_,_,e,_⟩:=x;exact Heap.lt_size e
 |own y=>obtain⟨_,e⟩:=x;exact Heap.lt_size e
 |xd fs=>obtain⟨_,⟨_,_,_,e,_⟩,_⟩:=x;exact Heap.lt_size e
 |rng lo hi=>obtain⟨_,_,_,e⟩:=x;exact Heap.lt_size e
 |frz ob u=>obtain⟨e,_⟩:=x;exact Heap.lt_size e
 |tbl ps q=>obtain⟨_,e,_⟩:=x;exact Heap.lt_size e
 |met f y=>exact Heap.lt_size (show h.get? a=some _ from x)
 |ext φ=>obtain⟨_,⟨_,e⟩,_⟩:=x;exact Heap.lt_size e
theorem Paired.mapP{α β:Type}{F G:α->β->Prop}:∀{l₁:List α}{l₂:List β},Paired F l₁ l₂->(∀a b,F a b->G a b)->Paired G l₁ l₂
 |_,_,.nil,_=>.nil
 |_,_,.cons r t,f=>.cons (f _ _ r) (Paired.mapP t f)
theorem Jt.stay(x:Jt P w H h a o)(k:∀b u,(b=a\/H b=some (.own a))->h.get? b=some u->h'.get? b=some u)(ho:∀b,H b=some (.own a)->H' b=some (.own a))(ht:∀b (xs:TF),H b=some xs.1->H' b=some xs.1):Jt P w H' h' a o:=by
 induction o with
 |lst xs=>obtain⟨z,its,n,r,e⟩:=x;exact⟨z,its,n,r,k _ _ (.inl rfl) e⟩
 |tup xs=>obtain⟨z,its,r,ob,e,c⟩:=x;exact⟨z,its,r,ob,k _ _ (.inl rfl) e,c⟩
 |dK kvs=>obtain⟨z,y,vs,r,ob,es,ep,e,c⟩:=x;exact⟨z,y,vs,r,ob,es,ep,k _ _ (.inl rfl) e,c⟩
 |dT kvs =>
  obtain⟨z,y,xs,r,ob,es,ep,e,c⟩:=x
  exact⟨z,y,xs,Paired.mapP r fun p q z=>⟨z.1,ht _ ⟨.tup _,trivial⟩ z.2.1,z.2.2⟩,ob,es,ep,k _ _ (.inl rfl) e,c⟩
 |set S n=>obtain⟨ob,es,ep,t,e,c⟩:=x;exact⟨ob,es,ep,t,k _ _ (.inl rfl) e,c⟩
 |ins C dx fs =>
  obtain⟨d,z,ne,e,mA,⟨od,es,ep,e2,c⟩,r⟩:=x
  exact⟨ho _ d,z,ne,k _ _ (.inl rfl) e,mA,⟨od,es,ep,k _ _ (.inr d) e2,c⟩,r⟩
 |own y=>obtain⟨ob,e⟩:=x;exact⟨ob,k _ _ (.inl rfl) e⟩
 |xd fs=>obtain⟨mA,⟨od,es,ep,e,c⟩,r⟩:=x;exact⟨mA,⟨od,es,ep,k _ _ (.inl rfl) e,c⟩,r⟩
 |rng lo hi=>obtain⟨t,u,v,e⟩:=x;exact⟨t,u,v,k _ _ (.inl rfl) e⟩
 |frz ob u ih=>obtain⟨e,q⟩:=x;exact⟨k _ _ (.inl rfl) e,ih q⟩
 |tbl ps q =>
  obtain⟨more,e,t,cs⟩:=x
  refine⟨more,k a _ (.inl rfl) e,t,fun pos c' h1=>?_⟩
  obtain⟨c,o2,e1,e2,e3⟩:=cs pos c' h1
  exact⟨c,o2,e1,ht _ ⟨.frz _ (.own _),trivial⟩ e2,e3⟩
 |met f y =>
  have e:h.get? a=some (PySem.W.methodObj (.ref f) (.ref y)):=x
  show h'.get? a=some (PySem.W.methodObj (.ref f) (.ref y))
  exact k a _ (.inl rfl) e
 |ext φ=>obtain⟨p,⟨o,e⟩,st⟩:=x;exact⟨st _ _ p fun o q=>k _ _ (.inl rfl) q,⟨o,k _ _ (.inl rfl) e⟩,st⟩
theorem HOk.lt(x:HOk P w H h)(e:H a=some o):a<h.objs.size:=(x a o e).lt
theorem HOk.fresh(x:HOk P w H h)(e:h.objs.size<=a):H a=none:=by
 cases q:H a with
 |none=>rfl
 |some u=>exact absurd (Zr0 (x.lt q) e) (Zsg _)
theorem HOk.kept(x:HOk P w H h)(k:∀b u,h.get? b=some u->h'.get? b=some u):HOk P w H h':=fun a o e =>
 (x a o e).stay (fun b u _ q=>k b u q) (fun _ q=>q) fun _ _ q=>q
theorem HOk.laid(x:HOk P w H h)(k:∀b u,h.get? b=some u->h'.get? b=some u)(hp:h.objs.size<=a)(new:Jt P w (upd H a o) h' a o):HOk P w (upd H a o) h':=fun b u e=>by
 have hn:=x.fresh hp
 by_cases hb:b=a
 ·subst hb;rw[Zv] at e;cases e;exact new
 ·rw[Zp hb] at e
  exact(x b u e).stay (fun c v _ q=>k c v q) (fun c q=>by rw[Zp (Z3 q hn)];exact q) fun c xs q=>by rw[Zp (Z3 q hn)];exact q
end
def Rd(H:Hp)(a:Addr)(u:HO):Prop:=H a=some u\/∃o,H a=some (.frz o u)
theorem Rd.ok{P:Program}{w:World}{H:Hp}{h:Heap}{a:Addr}{u:HO}(r:Rd H a u)(x:HOk P w H h):Jt P w H h a u:=by
 rcases r with r|⟨o,r⟩
 ·exact x a u r
 ·obtain⟨_,q⟩:=x a _ r
  exact q
noncomputable def Mut:Option HO->Prop
 |some (.lst _)=>True
 |some (.dK _)=>True
 |some (.dT _)=>True
 |some (.set _ _)=>True
 |some (.ins _ _ _)=>True
 |some (.ext _)=>True
 |_=>False
section
variable {P:Program}{w:World}{H:Hp}{h h':Heap}{x e:Addr}{o':HO}
theorem HOk.write(ok:HOk P w H h)(mu:Mut (H x))(he:e=x\/H e=some (.own x))(k:∀b u,b≠e->h.get? b=some u->h'.get? b=some u)(heo:∃u,h'.get? e=some u)(new:Jt P w (upd H x o') h' x o'):HOk P w (upd H x o') h':=fun b u q=>by
 have nown:∀c y,H c=some (.own y)->c≠x:=fun c y r z=>by subst z;rw[r] at mu;exact mu
 have ntup:∀c (xs:TF),H c=some xs.1->c≠x:=fun c xs r z=>by
  subst z;rw[r] at mu
  obtain⟨u,hu⟩:=xs
  cases u<;>first|exact mu.elim|exact hu.elim
 by_cases hb:b=x
 ·subst hb;rw[Zv] at q;cases q;exact new
 ·rw[Zp hb] at q
  by_cases hbe:b=e
  ·have q':H b=some (.own x):=by
    rcases he with z|z
    ·exact absurd (hbe.trans z) hb
    ·rw[hbe];exact z
   rw[q] at q';cases q'
   obtain⟨v,hv⟩:=heo
   exact⟨v,by rw[hbe];exact hv⟩
  ·refine(ok b u q).stay (fun c v hc r=>k c v ?_ r) (fun c r=>by rw[Zp (nown c b r)];exact r) fun c xs r=>by rw[Zp (ntup c xs r)];exact r
   rcases hc with rfl|hc
   ·exact hbe
   ·rintro rfl
    rcases he with z|z
    ·exact nown c b hc z
    ·rw[hc] at z;cases z;exact hb rfl
end
structure Un(fs ex:List Addr)(H H':Hp)(h h':Heap):Prop where
 keep:∀b o,h.get? b=some o->H b=none->b ∉ fs->b ∉ ex->h'.get? b=some o
 slot:∀b o,h.get? b=some o->H b=none->b∈fs->b ∉ ex->∃sl,h'.get? b=some { o with slots:=sl }
 free:∀b o,h.get? b=some o->H b=none->b ∉ ex->H' b=none
 there:∀b o,h.get? b=some o->b ∉ ex->∃o',h'.get? b=some o'
 tups:∀b xs,H b=some (.tup xs)->H' b=some (.tup xs)
 frzs:∀b o u,H b=some (.frz o u)->H' b=some (.frz o u)
 tbls:∀b ps q,H b=some (.tbl ps q)->H' b=some (.tbl ps q)
section
variable {fs ex:List Addr}{H H1:Hp}{h h1 h':Heap}{a x e:Addr}{o:HO}
theorem Un.any(u:Un fs ex H H1 h h1){b:Addr}{ob:Obj}(q:h.get? b=some ob)(n:H b=none)(hx:b ∉ ex):∃sl,h1.get? b=some { ob with slots:=sl }:=by
 by_cases hb:b∈fs
 ·exact u.slot b ob q n hb hx
 ·exact⟨ob.slots,u.keep b ob q n hb hx⟩
theorem Un.kept(k:∀b u,h.get? b=some u->h'.get? b=some u):Un fs ex H H h h':=
 ⟨fun b ob q _ _ _=>k b ob q,fun b ob q _ _ _=>⟨ob.slots,k b ob q⟩,fun _ _ _ n _=>n,fun b ob q _=>⟨ob,k b ob q⟩,fun _ _ q=>q,fun _ _ _ q=>q,fun _ _ _ q=>q⟩
theorem Un.refl:Un fs ex H H h h:=Un.kept fun _ _ q=>q
theorem Un.laid(k:∀b u,h.get? b=some u->h'.get? b=some u)(hp:h.objs.size<=a)(hn:H a=none):Un fs ex H (upd H a o) h h' where
 keep:=fun b u q _ _ _=>k b u q
 slot:=fun b u q _ _ _=>⟨u.slots,k b u q⟩
 free:=fun b u q n _=>by rw[Zp (Zr8 (Zr0 (Heap.lt_size q) hp))];exact n
 there:=fun b u q _=>⟨u,k b u q⟩
 tups:=fun b xs q=>by rw[Zp (Z3 q hn)];exact q
 frzs:=fun b u xs q=>by rw[Zp (Z3 q hn)];exact q
 tbls:=fun b ps u q=>by rw[Zp (Z3 q hn)];exact q
theorem Un.write(mu:Mut (H x))(he:e=x\/H e=some (.own x))(k:∀b u,b≠e->h.get? b=some u->h'.get? b=some u)(heo:∃u,h'.get? e=some u):Un fs ex H (upd H x o) h h':=by
 have hx:∀b,H b=none->b≠x:=fun b n z=>by subst z;rw[n] at mu;exact mu
 have hb:∀b,H b=none->b≠e:=fun b n z=>by
  subst z
  rcases he with r|r
  ·exact hx b n r
  ·rw[n] at r;cases r
 have hm:∀b u,H b=some u->¬Mut (some u)->b≠x:=fun b u q nm z=>by subst z;rw[q] at mu;exact nm mu
 refine⟨fun b u q n _ _=>k b u (hb b n) q,fun b u q n _ _=>⟨u.slots,k b u (hb b n) q⟩,fun b u q n _=>by rw[Zp (hx b n)];exact n,fun b u q _=>?_,
  fun b xs q=>by rw[Zp (hm b _ q fun z=>z)];exact q,fun b u xs q=>by rw[Zp (hm b _ q fun z=>z)];exact q,fun b ps u q=>by rw[Zp (hm b _ q fun z=>z)];exact q⟩
 by_cases hbe:b=e
 ·subst hbe;exact heo
 ·exact⟨u,k b u hbe q⟩
end
noncomputable def trk(h:Heap)(H:Hp):List Addr:=(List.range h.objs.size).filter fun a=>(H a).isSome
noncomputable def ZgJ(h:Heap)(H:Hp):Heap:=PySem.W.hideAll h (trk h H)
theorem Zff(h:Heap)(H:Hp):(ZgJ h H).objs.size=h.objs.size:=PySem.W.hideAll_size _ _
theorem ZgI{h:Heap}{H:Hp}{b:Addr}{o:Obj}(e:h.get? b=some o)(n:H b=none):(ZgJ h H).get? b=some o:=
 PySem.W.hideAll_get _ e fun hm=>by
  have q:(H b).isSome=true:=(ZrS.mp hm).2
  rw[n] at q;simp at q
theorem ZiJ{h:Heap}{H:Hp}{b:Addr}{o:Obj}(e:(ZgJ h H).get? b=some o):h.get? b=some o/\H b=none:=by
 have e':h.get? b=some o:=PySem.W.of_hideAll (trk h H) e
 refine⟨e', ?_⟩
 cases q:H b with
 |none=>rfl
 |some x =>
  have hm:b∈trk h H:=ZrS.mpr ⟨ZrB.mpr (Heap.lt_size e'),by simp[q]⟩
  have z:(ZgJ h H).get? b=none:=PySem.W.hideAll_none (trk h H) hm
  rw[z] at e;cases e
noncomputable def Zju(g h:Heap)(L:Addr):List (Addr×Obj):=(List.range h.objs.size).filterMap fun a=>if a=L\/(g.get? a).isSome=true then none else (h.get? a).map fun o=>(a,o)
noncomputable def ZdM(g h:Heap)(L d:Addr):List (Addr×Obj):=(Zju g h L).filter fun p=>decide (p.1≠d)
def BMd(mg:Str->Option Value)(h:Heap):Prop:=∃bm o,mg "__builtins__"=some (.ref bm)/\bm≠builtinsNs/\h.get? bm=some o/\o.cls=.type "module"/\o.dict=some builtinsNs/\o.data=.plain
structure Mod(K:PySem.W.Frag)(mg:Str->Option Value)(base:Heap):Prop where
 kin:K.In base
 glob:base.Ns mainGlobals mg
 blt:∃mb,base.Ns builtinsNs mb/\∀x:Str,x ≠ "__name__"->mb x=bootBuiltins x
 nolimit:base.NoLimit
 bmod:BMd mg base
structure Cx where
 prog:Program
 w:World
 K:PySem.W.Frag
 mg:Str->Option Value
 base:Heap
 A:Around
 N:List Str
 s₀:Shared
 H₀:Hp
 env:Env
 outer:List Env
 stack:List Env
 ex:List Addr
 fn:Str->Bool
 calm:Bool
 pn:List (Addr×Obj)
 xe:Value->Shared->Prop
noncomputable def frs(l:List Env):List Addr:=l.filterMap (·.frame)
noncomputable abbrev Cx.fs(X:Cx):List Addr:=frs X.outer
def Vis(sc:Scope)(x:Str):Prop:=sc.names.lookup x=some .local\/sc.names.lookup x=some .cell\/sc.names.lookup x=some .free
def Loc(sc:Scope)(x:Str):Prop:=sc.names.lookup x=some .local\/sc.names.lookup x=some .cell
def ZmI(env:Env)(h:Heap)(m:Str->Option Value)(x:Str)(u:Value):Prop:=
 (env.kindOf x=some .local/\m x=some u)\/((env.kindOf x=some .cell\/env.kindOf x=some .free)/\∃c,env.cells.lookup x=some c/\h.IsCell c (some u))
noncomputable def Zb2(K:W.Frag)(f:Addr):Option (Addr×Addr):=match K.lookup f with
 |some ⟨_,_,.func fd,_⟩=>if fd.name = "ends_first" then (match fd.code with
   |.ref c=>(match K.lookup c with
    |some ⟨_,_,.fields vs,_⟩=>(match (vs[11]?:Option Value) with
     |some (.ref P)=>if PySem.W.codeHdIn K c P=true then some (c,P) else none
     |_=>none)
    |_=>none)
   |_=>none) else none
 |_=>none
def Zib(K:W.Frag)(H:Hp):Prop:=∀f c P,Zb2 K f=some (c,P)->H P=some (.tbl #[] "ends_first.<locals>.<lambda>")
structure Cx.Ok(X:Cx):Prop where
 mod:Mod X.K X.mg X.base
 kind:X.env.scope.kind=.function
 glob:X.env.globals=mainGlobals
 blt:X.env.builtins=builtinsNs
 above:X.s₀.heap.objs.size<=X.env.locals
 inj:∀x y c,X.env.cells.lookup x=some c->X.env.cells.lookup y=some c->x=y
 has:∀x,(X.env.kindOf x=some .cell\/X.env.kindOf x=some .free)->∃c,X.env.cells.lookup x=some c
 cab:∀x c,X.fn x=true->X.env.cells.lookup x=some c->X.s₀.heap.objs.size<=c
 hd:X.calm=true->X.A.handled=none
 frames:X.A.frames=some X.stack
 stk:X.stack=X.outer\/(X.stack=X.env::X.outer/\X.env.frame=some X.env.locals)
 exf:∀b∈X.ex,b≠X.env.locals/\∀x c,X.env.cells.lookup x=some c->c≠b
 bs:∀b o,X.base.get? b=some o->X.s₀.heap.get? b=some o/\X.H₀ b=none
 bsz:X.base.objs.size<=X.s₀.heap.objs.size
 noex:∀b o,X.base.get? b=some o->b ∉ X.ex
 exfs:∀b∈X.ex,b ∉ X.fs
 funs:X.s₀.heap.FunFrames X.base X.outer
 frf:∀b∈X.fs,X.H₀ b=none
 tab:Zib X.K X.H₀
structure Inv(X:Cx)(pins:List (Addr×Obj))(σ:List (Option V))(H:Hp)(s:Shared):Prop where
 ok:X.Ok
 os:s.os=X.s₀.os
 bare:AllBare s.gens
 base:Un X.fs X.ex X.H₀ H X.s₀.heap s.heap
 loc:∃m,s.heap.Ns X.env.locals m/\∀(i:Nat) (x:Str) (v:V),X.N[i]?=some x->σ[i]?=some (some v)->Vis X.env.scope x->∃u,Jf v u/\ZmI X.env s.heap m x u
 cell:∀x c,X.env.cells.lookup x=some c->∃v,s.heap.IsCell c v
 free:H X.env.locals=none
 freeC:∀x c,X.env.cells.lookup x=some c->H c=none
 pin:∀p∈X.pn++pins,s.heap.get? p.1=some p.2/\H p.1=none/\p.1≠X.env.locals/\p.1 ∉ X.fs/\∀v,p.2.data≠.cell v
 hok:HOk X.prog X.w H s.heap
 len:σ.length=X.N.length
section
variable {X:Cx}{pins:List (Addr×Obj)}{σ:List (Option V)}{H H':Hp}{s:Shared}{h':Heap}
theorem Cx.Ok.nofr(ok:X.Ok){b:Addr}{o:Obj}(e:X.base.get? b=some o):b ∉ X.fs:=fun hb=>by
 have:=(ok.funs.mem hb).1
 rw[e] at this;cases this
theorem Inv.bs(I:Inv X pins σ H s):∀b o,X.base.get? b=some o->s.heap.get? b=some o/\H b=none:=fun b o e =>
 ⟨I.base.keep b o (I.ok.bs b o e).1 (I.ok.bs b o e).2 (I.ok.nofr e) (I.ok.noex b o e),I.base.free b o (I.ok.bs b o e).1 (I.ok.bs b o e).2 (I.ok.noex b o e)⟩
theorem Inv.bk(I:Inv X pins σ H s):∀b o,X.base.get? b=some o->s.heap.get? b=some o:=fun b o e=>(I.bs b o e).1
theorem Inv.mod(I:Inv X pins σ H s):Mod X.K X.mg X.base:=I.ok.mod
theorem Inv.kIn(I:Inv X pins σ H s):X.K.In s.heap:=I.ok.mod.kin.keeps I.bk
theorem Inv.nolimit(I:Inv X pins σ H s):s.heap.NoLimit:=I.ok.mod.nolimit.keeps I.bk
theorem Inv.lt(I:Inv X pins σ H s):X.env.locals<s.heap.objs.size:=let ⟨_,hn,_⟩:=I.loc;hn.lt
theorem Inv.sz(I:Inv X pins σ H s):X.s₀.heap.objs.size<=s.heap.objs.size:=Zr7 I.ok.above (Zs7 I.lt)
theorem Inv.nofs(I:Inv X pins σ H s){a:Addr}(h:s.heap.objs.size<=a):a ∉ X.fs:=fun hb=>by
 obtain⟨_,o,ho,_⟩:=I.ok.funs.mem hb
 exact absurd (Zr0 (Heap.lt_size ho) (Zr7 I.sz h)) (Zsg _)
theorem Inv.cne(I:Inv X pins σ H s):∀x c,X.env.cells.lookup x=some c->c≠X.env.locals:=fun x c e z=>by
 obtain⟨v,o,ho,hd⟩:=I.cell x c e
 obtain⟨m,⟨o',es,ep,ho',hd',_⟩,_⟩:=I.loc
 rw[z,ho'] at ho;cases ho;rw[hd'] at hd;cases hd
theorem Inv.funs(I:Inv X pins σ H s):s.heap.FunFrames X.base X.outer:=by
 have all:∀(l:List Env),(∀b∈frs l,b∈X.fs)->X.s₀.heap.FunFrames X.base l->s.heap.FunFrames X.base l:=by
  intro l
  induction l with
  |nil=>intro _ _;trivial
  |cons env r ih =>
   intro hs hl
   obtain⟨hk,⟨L,o,hf,hn,ho,hd⟩,hr⟩:=hl
   have hL:L∈X.fs:=hs L (by unfold frs;rw[Ztf,hf];exact ZrM)
   obtain⟨sl,e⟩:=I.base.slot L o ho (I.ok.frf L hL) hL fun z=>I.ok.exfs L z hL
   exact⟨hk,⟨L,_,hf,hn,e,hd⟩,ih (fun b hb=>hs b (by unfold frs;rw[Ztf,hf];exact Zr6 _ hb)) hr⟩
 exact all X.outer (fun _ hb=>hb) I.ok.funs
theorem Inv.stack(I:Inv X pins σ H s):s.heap.FunFrames X.base X.stack:=by
 rcases I.ok.stk with e|⟨e,hf⟩
 ·rw[e];exact I.funs
 ·rw[e]
  obtain⟨m,hn,_⟩:=I.loc
  refine .cons (by rw[I.ok.kind];decide) hf hn ?_ I.funs
  exact Heap.get?_none_of_le (Zr7 I.ok.bsz I.ok.above)
theorem Inv.stkSub(I:Inv X pins σ H s):∀b∈frs X.stack,b∈X.env.locals::X.fs:=fun b hb=>by
 rcases I.ok.stk with e|⟨e,hf⟩
 ·rw[e] at hb;exact Zr6 _ hb
 ·rw[e] at hb
  unfold frs at hb
  rw[Ztf,hf] at hb
  exact hb
theorem Inv.stkFree(I:Inv X pins σ H s):∀b∈frs X.stack,H b=none:=fun b hb=>by
 rcases Zrt.mp (I.stkSub b hb) with e|hb
 ·rw[e];exact I.free
 ·obtain⟨_,o,ho,_⟩:=I.ok.funs.mem hb
  exact I.base.free b o ho (I.ok.frf b hb) fun z=>I.ok.exfs b z hb
theorem Inv.step{g':Array GenState}{t':Nat}{d':Drawn}{ch:List Addr}(I:Inv X pins σ H s)(hch:∀b∈ch,(b∈X.ex\/X.s₀.heap.objs.size<=b)/\b≠X.env.locals/\(∀x c,X.env.cells.lookup x=some c->c≠b)/\∀p∈X.pn++pins,p.1≠b)(keep:∀b o,b≠X.env.locals->b ∉ X.fs->b ∉ ch->s.heap.get? b=some o->H b=none->h'.get? b=some o)(slot:∀b o,b≠X.env.locals->b∈X.fs->b ∉ ch->s.heap.get? b=some o->H b=none->∃sl,h'.get? b=some { o with slots:=sl })(free:∀b o,b ∉ ch->s.heap.get? b=some o->H b=none->H' b=none)(there:∀b o,b ∉ ch->s.heap.get? b=some o->∃o',h'.get? b=some o')(tups:∀b xs,H b=some (.tup xs)->H' b=some (.tup xs))(frzs:∀b o u,H b=some (.frz o u)->H' b=some (.frz o u))(tbls:∀b ps q,H b=some (.tbl ps q)->H' b=some (.tbl ps q))(ns:∀m,s.heap.Ns X.env.locals m->h'.Ns X.env.locals m)(hok:HOk X.prog X.w H' h')(hg:AllBare g') :
  Inv X pins σ H' { s with heap:=h',gens:=g',drawn:=d',toks:=t' }:=by
 have neL:∀b o,X.s₀.heap.get? b=some o->b≠X.env.locals:=fun b o e=>Zr8 (Zr0 (Heap.lt_size e) I.ok.above)
 have neC:∀b o,X.s₀.heap.get? b=some o->b ∉ X.ex->b ∉ ch:=fun b o e hx hb=>by
  rcases (hch b hb).1 with z|z
  ·exact hx z
  ·exact absurd (Zr0 (Heap.lt_size e) z) (Zsg _)
 have cellK:∀x c,X.env.cells.lookup x=some c->∀v,s.heap.IsCell c v->h'.IsCell c v:=fun x c e v ⟨o,ho,hd⟩=>by
  have nch:c ∉ ch:=fun z=>(hch c z).2.2.1 x c e rfl
  by_cases hc:c∈X.fs
  ·obtain⟨sl,q⟩:=slot c o (I.cne x c e) hc nch ho (I.freeC x c e)
   exact⟨_,q,hd⟩
  ·exact⟨o,keep c o (I.cne x c e) hc nch ho (I.freeC x c e),hd⟩
 refine⟨I.ok,I.os,hg,⟨fun b o e n hb hx=>?_,fun b o e n hb hx=>?_,fun b o e n hx=>?_,fun b o e hx=>?_,fun b xs e=>tups b xs (I.base.tups b xs e),fun b o xs e=>frzs b o xs (I.base.frzs b o xs e),fun b ps u e=>tbls b ps u (I.base.tbls b ps u e)⟩, ?_,fun x c e=>?_, ?_,fun x c e=>?_,fun p hp=>?_,hok,I.len⟩
 ·exact keep b o (neL b o e) hb (neC b o e hx) (I.base.keep b o e n hb hx) (I.base.free b o e n hx)
 ·obtain⟨sl,e1⟩:=I.base.slot b o e n hb hx
  obtain⟨sl',e2⟩:=slot b _ (neL b o e) hb (neC b o e hx) e1 (I.base.free b o e n hx)
  exact⟨sl',e2⟩
 ·obtain⟨o',e1⟩:=I.base.there b o e hx
  exact free b o' (neC b o e hx) e1 (I.base.free b o e n hx)
 ·obtain⟨o',e1⟩:=I.base.there b o e hx
  exact there b o' (neC b o e hx) e1
 ·obtain⟨m,hn,hl⟩:=I.loc
  refine⟨m,ns m hn,fun i x v e1 e2 e3=>?_⟩
  obtain⟨u,r,l⟩:=hl i x v e1 e2 e3
  refine⟨u,r, ?_⟩
  rcases l with l|⟨k,c,e,z⟩
  ·exact .inl l
  ·exact .inr ⟨k,c,e,cellK x c e _ z⟩
 ·obtain⟨v,z⟩:=I.cell x c e
  exact⟨v,cellK x c e v z⟩
 ·obtain⟨m,⟨o,_,_,ho,_⟩,_⟩:=I.loc
  exact free _ o (fun z=>(hch _ z).2.1 rfl) ho I.free
 ·obtain⟨v,o,ho,hd⟩:=I.cell x c e
  exact free c o (fun z=>(hch c z).2.2.1 x c e rfl) ho (I.freeC x c e)
 ·obtain⟨e,n,ne,nf,d⟩:=I.pin p hp
  have nch:p.1 ∉ ch:=fun z=>(hch p.1 z).2.2.2 p hp rfl
  exact⟨keep p.1 p.2 ne nf nch e n,free p.1 p.2 nch e n,ne,nf,d⟩
theorem Inv.un{t':Nat}(I:Inv X pins σ H s)(u:Un X.fs [] H H' s.heap h')(hok:HOk X.prog X.w H' h'):Inv X pins σ H' { s with heap:=h',toks:=t' }:=by
 obtain⟨m,⟨o,es,ep,ho,r⟩,_⟩:=id I.loc
 obtain⟨sl,hL⟩:=u.any ho I.free (by simp)
 exact I.step (g':=s.gens) (d':=s.drawn) (ch:=[]) (fun _ z=>nomatch z) (fun b o _ hb _ e n=>u.keep b o e n hb (by simp)) (fun b o _ hb _ e n=>u.slot b o e n hb (by simp)) (fun b o _ e n=>u.free b o e n (by simp)) (fun b o _ e=>u.there b o e (by simp)) u.tups u.frzs u.tbls (fun m' hm=>by
  obtain⟨o',es',ep',ho',r'⟩:=hm
  rw[ho] at ho';cases ho'
  exact⟨_,es',ep',hL,r'⟩) hok I.bare
theorem Inv.call{g':Array GenState}{t':Nat}{d':Drawn}{ch:List Addr}(I:Inv X pins σ H s)(u:Un (frs X.stack) ch H H' s.heap h')(hok:HOk X.prog X.w H' h')(hg:AllBare g')(hch:∀b∈ch,(b∈X.ex\/X.s₀.heap.objs.size<=b)/\b≠X.env.locals/\(∀x c,X.env.cells.lookup x=some c->c≠b)/\∀p∈X.pn++pins,p.1≠b) :
  Inv X pins σ H' { s with heap:=h',gens:=g',drawn:=d',toks:=t' }:=by
 obtain⟨m,⟨o,es,ep,ho,r⟩,_⟩:=id I.loc
 obtain⟨sl,hL⟩:=u.any ho I.free fun z=>(hch _ z).2.1 rfl
 exact I.step (ch:=ch) hch (fun b o hL hb hc e n=>u.keep b o e n (fun z=>(Zrt.mp (I.stkSub b z)).elim hL hb) hc) (fun b o _ _ hc e n=>u.any e n hc) (fun b o hc e n=>u.free b o e n hc) (fun b o hc e=>u.there b o e hc) u.tups u.frzs u.tbls (fun m' hm=>by
  obtain⟨o',es',ep',ho',r'⟩:=hm
  rw[ho] at ho';cases ho'
  exact⟨_,es',ep',hL,r'⟩) hok hg
theorem Inv.turned{t':Nat}{it:Addr}(I:Inv X pins σ H s)(k:∀b o,b≠it->s.heap.get? b=some o->h'.get? b=some o)(hn:H it=none)(hL:it≠X.env.locals)(h1:it∈X.ex\/X.s₀.heap.objs.size<=it)(h2:∀x c,X.env.cells.lookup x=some c->c≠it)(h3:∀p∈X.pn++pins,p.1≠it):Inv X pins σ H { s with heap:=h',toks:=t' }:=by
 have nit:∀b u,H b=some u->b≠it:=fun b u e z=>by rw[z,hn] at e;cases e
 refine I.step (g':=s.gens) (d':=s.drawn) (ch:=[it]) (fun b hb=>?_) (fun b o _ _ hc e _=>k b o (fun z=>hc (by simp[z])) e) (fun b o _ _ hc e _=>⟨o.slots,k b o (fun z=>hc (by simp[z])) e⟩) (fun _ _ _ _ n=>n)
  (fun b o hc e=>⟨o,k b o (fun z=>hc (by simp[z])) e⟩) (fun _ _ e=>e) (fun _ _ _ e=>e) (fun b ps u e=>e) (fun m hm=>?_) (fun b u e=>?_) I.bare
 ·have e:b=it:=by simpa using hb
  subst e
  exact⟨h1,hL,h2,h3⟩
 ·obtain⟨o,es,ep,ho,r⟩:=hm
  exact⟨o,es,ep,k _ o (Ne.symm hL) ho,r⟩
 ·refine(I.hok b u e).stay (fun c v hc q=>k c v ?_ q) (fun _ q=>q) fun _ _ q=>q
  rcases hc with z|z
  ·rw[z];exact nit b u e
  ·exact nit c _ z
theorem Inv.tok(I:Inv X pins σ H s)(t:Nat):Inv X pins σ H { s with toks:=t }:=I.un (h':=s.heap) (t':=t) Un.refl I.hok
theorem Inv.kept{t':Nat}(I:Inv X pins σ H s)(k:∀b u,s.heap.get? b=some u->h'.get? b=some u):Inv X pins σ H { s with heap:=h',toks:=t' }:=I.un (Un.kept k) (I.hok.kept k)
theorem Inv.laid{a:Addr}{o:HO}{t':Nat}(I:Inv X pins σ H s)(k:∀b u,s.heap.get? b=some u->h'.get? b=some u)(hp:s.heap.objs.size<=a)(new:Jt X.prog X.w (upd H a o) h' a o) :
  Inv X pins σ (upd H a o) { s with heap:=h',toks:=t' }:=I.un (Un.laid k hp (I.hok.fresh hp)) (I.hok.laid k hp new)
theorem Inv.write{x e:Addr}{o:HO}{t':Nat}(I:Inv X pins σ H s)(mu:Mut (H x))(he:e=x\/H e=some (.own x))(k:∀b u,b≠e->s.heap.get? b=some u->h'.get? b=some u)(heo:∃u,h'.get? e=some u)(new:Jt X.prog X.w (upd H x o) h' x o):Inv X pins σ (upd H x o) { s with heap:=h',toks:=t' }:=I.un (Un.write mu he k heo) (I.hok.write mu he k heo new)
theorem Inv.pins_of{pins':List (Addr×Obj)}(I:Inv X pins σ H s)(h:∀p∈pins',s.heap.get? p.1=some p.2/\H p.1=none/\p.1≠X.env.locals/\p.1 ∉ X.fs/\∀v,p.2.data≠.cell v):Inv X pins' σ H s:=
 ⟨I.ok,I.os,I.bare,I.base,I.loc,I.cell,I.free,I.freeC,fun p hp=>(Zro.mp hp).elim (fun z=>I.pin p (Zrp _ z)) (h p),I.hok,I.len⟩
theorem ZcY{N:List Str}(hN:N.Nodup){i j:Nat}{x:Str}(a:N[i]?=some x)(b:N[j]?=some x):i=j:=by
 obtain⟨h1,e1⟩:=Zrg.mp a
 obtain⟨h2,e2⟩:=Zrg.mp b
 exact(List.getElem_inj hN).mp (e1.trans e2.symm)
theorem ZaJ{M:Model}{A:Around}{E:Value->Shared->Prop}{i:Nat}{x:Str}{v:V}{u:Value}{Q:Unit->Shared->Prop}(I:Inv X pins σ H s)(hN:X.N.Nodup)(hi:X.N[i]?=some x)(hx:Loc X.env.scope x)(r:Jf v u)(h:∀s',Inv X pins (σ.set i (some v)) H s'->(∃a,Heap.SameBut a s.heap s'.heap/\(a=X.env.locals\/X.env.cells.lookup x=some a))->Q () s')(hf:X.fn x=true\/X.env.scope.names.lookup x=some .local):wpAny M A (storeName X.env x u) Q E s:=by
 obtain⟨m,hn,hl⟩:=id I.loc
 have hcls:(X.env.scope.kind==.class || (X.env.scope.kind==.module&&X.env.locals != X.env.globals))=false:=by rw[I.ok.kind];rfl
 have hiσ:i<σ.length:=by rw[I.len];exact(Zrg.mp hi).1
 have cne:=I.cne
 have tracked:∀{a:Addr}{h':Heap},(∃o,s.heap.get? a=some o/\H a=none)->Heap.SameBut a s.heap h'->HOk X.prog X.w H h':=fun {a h'} ha hs b ob e=>by
  obtain⟨_,_,hfree⟩:=ha
  refine(I.hok b ob e).stay (fun c w' hc q=>(hs.2 c ?_).trans q) (fun _ q=>q) fun _ _ q=>q
  rintro rfl
  rcases hc with rfl|hc
  ·rw[hfree] at e;cases e
  ·rw[hfree] at hc;cases hc
 rcases hx with hk|hk
 ·refine wpAny_storeName_local hk hn (fun h' hn' hs=>?_) hcls
  obtain⟨oL,_,_,hoL,_⟩:=id hn
  refine h _ ⟨I.ok,I.os,I.bare,⟨fun b o e n hb hx=>?_,fun b o e n hb hx=>?_,I.base.free,fun b o e hx=>?_,I.base.tups,I.base.frzs,I.base.tbls⟩,⟨_,hn',fun j y v' e1 e2 e3=>?_⟩,fun y c e=>?_,I.free,I.freeC,fun p hp=>?_,tracked ⟨oL,hoL,I.free⟩ hs,by simpa using I.len⟩ ⟨_,hs,.inl rfl⟩
  ·exact(hs.2 b (Zr8 (Zr0 (Heap.lt_size e) I.ok.above))).trans (I.base.keep b o e n hb hx)
  ·obtain⟨sl,e1⟩:=I.base.slot b o e n hb hx
   exact⟨sl,(hs.2 b (Zr8 (Zr0 (Heap.lt_size e) I.ok.above))).trans e1⟩
  ·obtain⟨o',e1⟩:=I.base.there b o e hx
   exact⟨o',(hs.2 b (Zr8 (Zr0 (Heap.lt_size e) I.ok.above))).trans e1⟩
  ·by_cases hj:j=i
   ·subst hj
    rw[hi] at e1;cases e1
    rw[ZrC hiσ] at e2
    cases e2
    exact⟨u,r,.inl ⟨hk,by simp⟩⟩
   ·rw[ZrJ (Ne.symm hj)] at e2
    obtain⟨u',r',q⟩:=hl j y v' e1 e2 e3
    refine⟨u',r', ?_⟩
    rcases q with ⟨k,e⟩|⟨k,c,e,z⟩
    ·refine .inl ⟨k, ?_⟩
     have:y≠x:=fun e=>hj (ZcY hN e1 (e▸hi))
     simp[this,e]
    ·exact .inr ⟨k,c,e,z.sameBut hs (cne y c e)⟩
  ·obtain⟨w',z⟩:=I.cell y c e
   exact⟨w',z.sameBut hs (cne y c e)⟩
  ·obtain⟨e,n,ne,nf,d⟩:=I.pin p hp
   exact⟨(hs.2 p.1 ne).trans e,n,ne,nf,d⟩
 ·have hfn:X.fn x=true:=by
   rcases hf with z|z
   ·exact z
   ·rw[z] at hk;cases hk
  obtain⟨c,hc⟩:=I.ok.has x (.inl hk)
  obtain⟨w',z⟩:=I.cell x c hc
  refine wpAny_storeName_cell I.ok.kind hk hc z (fun h' hc' hs=>?_)
  obtain⟨oc,hoc,hocd⟩:=id z
  refine h { s with heap:=h' } ⟨I.ok,I.os,I.bare,⟨fun b o e n hb hx=>?_,fun b o e n hb hx=>?_,I.base.free,fun b o e hx=>?_,I.base.tups,I.base.frzs,I.base.tbls⟩,⟨m,hn.sameBut hs (Ne.symm (cne x c hc)),fun j y v' e1 e2 e3=>?_⟩,fun y c' e=>?_,I.free,I.freeC,fun p hp=>?_,tracked ⟨oc,hoc,I.freeC x c hc⟩ hs,by simpa using I.len⟩ ⟨c,hs,.inr hc⟩
  ·exact(hs.2 b (Zr8 (Zr0 (Heap.lt_size e) (I.ok.cab x c hfn hc)))).trans (I.base.keep b o e n hb hx)
  ·obtain⟨sl,e1⟩:=I.base.slot b o e n hb hx
   exact⟨sl,(hs.2 b (Zr8 (Zr0 (Heap.lt_size e) (I.ok.cab x c hfn hc)))).trans e1⟩
  ·obtain⟨o',e1⟩:=I.base.there b o e hx
   exact⟨o',(hs.2 b (Zr8 (Zr0 (Heap.lt_size e) (I.ok.cab x c hfn hc)))).trans e1⟩
  ·by_cases hj:j=i
   ·subst hj
    rw[hi] at e1;cases e1
    rw[ZrC hiσ] at e2
    cases e2
    exact⟨u,r,.inr ⟨.inl hk,c,hc,hc'⟩⟩
   ·rw[ZrJ (Ne.symm hj)] at e2
    obtain⟨u',r',q⟩:=hl j y v' e1 e2 e3
    refine⟨u',r', ?_⟩
    rcases q with q|⟨k,c',e,z'⟩
    ·exact .inl q
    ·refine .inr ⟨k,c',e,z'.sameBut hs ?_⟩
     rintro rfl
     exact hj (ZcY hN e1 (I.ok.inj _ _ _ e hc▸hi))
  ·by_cases hcc:c'=c
   ·subst hcc;exact⟨_,hc'⟩
   ·obtain⟨w2,z2⟩:=I.cell y c' e
    exact⟨w2,z2.sameBut hs hcc⟩
  ·obtain⟨e,n,ne,nf,d⟩:=I.pin p hp
   refine⟨(hs.2 p.1 ?_).trans e,n,ne,nf,d⟩
   intro q
   rw[q,hoc] at e
   have q':oc=p.2:=Option.some.inj e
   exact d w' (by rw[<- q'];exact hocd)
theorem UG{M:Model}{A:Around}{E:Value->Shared->Prop}{i:Nat}{x:Str}{v:V}{u:Value}{Q:Unit->Shared->Prop}(I:Inv X pins σ H s)(hN:X.N.Nodup)(hi:X.N[i]?=some x)(hx:Loc X.env.scope x)(r:Jf v u)(h:∀s',Inv X pins (σ.set i (some v)) H s'->Q () s')(hf:X.fn x=true\/X.env.scope.names.lookup x=some .local):wpAny M A (storeName X.env x u) Q E s:=
 ZaJ I hN hi hx r (fun s' I' _=>h s' I') hf
theorem Inv.call'{s':Shared}{ch:List Addr}(I:Inv X pins σ H s)(ho:s'.os=s.os)(u:Un (frs X.stack) ch H H' s.heap s'.heap)(hok:HOk X.prog X.w H' s'.heap)(hg:AllBare s'.gens)(hch:∀b∈ch,(b∈X.ex\/X.s₀.heap.objs.size<=b)/\b≠X.env.locals/\(∀x c,X.env.cells.lookup x=some c->c≠b)/\∀p∈X.pn++pins,p.1≠b):Inv X pins σ H' s':=by
 obtain⟨h',g',d',t',o'⟩:=s'
 have e:o'=s.os:=ho
 subst e
 exact I.call (g':=g') (t':=t') (d':=d') u hok hg hch
end
noncomputable abbrev XK:=Value->Option Addr->Hp->Prop
noncomputable abbrev St:=List (Option V)
noncomputable abbrev VK:=V->Hp->Prop
noncomputable abbrev TE:=St->Hp->VK->Prop
noncomputable abbrev TT:=St->Hp->(Bool->Hp->Prop)->Prop
noncomputable abbrev TA:=St->Hp->(List V->Hp->Prop)->Prop
structure Zhu where
 nx:St->Hp->Prop
 rt:VK
 bk:St->Hp->Prop:=fun _ _=>False
 ct:St->Hp->Prop:=fun _ _=>False
noncomputable abbrev TS:=Zhu->St->Hp->Prop
def EP(X:Cx)(pins:List (Addr×Obj))(σ:St)(Q:VK)(u:Value)(s':Shared):Prop:=∃v H',Inv X pins σ H' s'/\Jf v u/\Q v H'
def TP(X:Cx)(pins:List (Addr×Obj))(σ:St)(Q:Bool->Hp->Prop)(b:Bool)(s':Shared):Prop:=∃H',Inv X pins σ H' s'/\Q b H'
def AP(X:Cx)(pins:List (Addr×Obj))(σ:St)(Q:List V->Hp->Prop)(us:List Value)(s':Shared):Prop:=∃vs H',Inv X pins σ H' s'/\ZP vs us/\Q vs H'
def SP(X:Cx)(pins:List (Addr×Obj))(D:Zhu)(f:Flow)(s':Shared):Prop:=
 match f with
 |.next=>∃σ' H',Inv X pins σ' H' s'/\D.nx σ' H'
 |.brk=>∃σ' H',Inv X pins σ' H' s'/\D.bk σ' H'
 |.cont=>∃σ' H',Inv X pins σ' H' s'/\D.ct σ' H'
 |.ret u=>∃v σ' H',Inv X pins σ' H' s'/\Jf v u/\D.rt v H'
def PE(X:Cx)(e:Expr)(t:TE):Prop:=
 ∀(pins:List (Addr×Obj)) (s:Shared) (σ:St) (H:Hp) (Q:VK),Inv X pins σ H s->t σ H Q->wpAny (model X.prog X.w) X.A (eval e X.env) (EP X pins σ Q) X.xe s
def PT(X:Cx)(e:Expr)(t:TT):Prop:=
 ∀(pins:List (Addr×Obj)) (s:Shared) (σ:St) (H:Hp) (Q:Bool->Hp->Prop),Inv X pins σ H s->t σ H Q->wpAny (model X.prog X.w) X.A (isTrue e X.env (eval e X.env)) (TP X pins σ Q) X.xe s
def PW(X:Cx)(e:Expr)(t:TT):Prop:=
 ∀(whole:Sem Value) (pins:List (Addr×Obj)) (s:Shared) (σ:St) (H:Hp) (Q:Bool->Hp->Prop),Inv X pins σ H s->t σ H Q->wpAny (model X.prog X.w) X.A (isTrue e X.env whole) (TP X pins σ Q) X.xe s
theorem PW.pt{X:Cx}{e:Expr}{t:TT}(h:PW X e t):PT X e t:=h _
def PA(X:Cx)(es:List Expr)(t:TA):Prop:=
 ∀(pos:Pos) (pins:List (Addr×Obj)) (s:Shared) (σ:St) (H:Hp) (Q:List V->Hp->Prop),Inv X pins σ H s->t σ H Q->wpAny (model X.prog X.w) X.A (spliced (backTo pos (starEach es X.env))) (AP X pins σ Q) X.xe s
def PS(X:Cx)(st:Stmt)(t:TS):Prop:=
 ∀(pins:List (Addr×Obj)) (s:Shared) (σ:St) (H:Hp) (D:Zhu),Inv X pins σ H s->t D σ H->wpAny (model X.prog X.w) X.A (exec st X.env) (SP X pins D) X.xe s
def PSs(X:Cx)(st:List Stmt)(t:TS):Prop:=
 ∀(pins:List (Addr×Obj)) (s:Shared) (σ:St) (H:Hp) (D:Zhu),Inv X pins σ H s->t D σ H->wpAny (model X.prog X.w) X.A (execs st X.env) (SP X pins D) X.xe s
theorem thn{α:Type}{t:Sem α}{Q Q':α->Shared->Prop}{M:Model}{A:Around}{E:Value->Shared->Prop}{s:Shared}(h:wpAny M A t Q E s)(hQ:∀a s,Q a s->Q' a s):wpAny M A t Q' E s:=wpAny_mono h hQ fun _ _ x=>x
section
variable {X:Cx}
noncomputable def ZaI(i:Nat):TE:=fun σ H Q=>∃v,σ[i]?=some (some v)/\Q v H
noncomputable def tC(v:V):TE:=fun _ H Q=>Q v H
theorem ZjZ{i:Nat}{x:Str}{pos:Pos}(hN:X.N[i]?=some x)(hv:Vis X.env.scope x)(hd:(x==("__debug__":Str))=false:=by decide)(hcd:(x==("__classdict__":Str))=false:=by decide):PE X (.Name x pos) (ZaI i):=by
 intro pins s σ H Q I h
 obtain⟨v,e,h⟩:=h
 obtain⟨m,hn,hl⟩:=I.loc
 obtain⟨u,r,l⟩:=hl i x v hN e hv
 have fin:EP X pins σ Q u s:=⟨v,H,I,r,h⟩
 rcases l with ⟨hk,hm⟩|⟨hk,c,hc,hcell⟩
 ·exact wpAny_Name (wpAny_loadName_local I.ok.kind hk hn hm fin) hd
 ·rcases hk with hk|hk
  ·exact wpAny_Name (wpAny_loadName_cell I.ok.kind hk hc hcell fin) hd
  ·exact wpAny_Name (wpAny_loadName_free I.ok.kind hk hc hcell fin hcd) hd
theorem Zm{i j pos}:PE X (.Constant (.int i) j pos) (tC (.int i)):=fun _ _ _ H _ I h=>wpAny_Constant_int ⟨.int i,H,I.tok _,⟨_,rfl⟩,h⟩
theorem ZaR{b j pos}:PE X (.Constant (.bool b) j pos) (tC (.bl b)):=fun _ _ _ H _ I h=>Constant_bool ⟨.bl b,H,I,rfl,h⟩
theorem QJ{j pos}:PE X (.Constant .none j pos) (tC .non):=fun _ _ _ H _ I h=>Constant_none ⟨.non,H,I,rfl,h⟩
theorem QH{x j pos}:PE X (.Constant (.str x) j pos) (tC (.str x)):=fun _ _ _ H _ I h=>Calls.Constant_str ⟨.str x,H,I.tok _,⟨_,rfl⟩,h⟩
def Gl(X:Cx)(x:Str):Prop:=X.env.kindOf x=some .globalImplicit
theorem ZbX{E:Value->Shared->Prop}{pins:List (Addr×Obj)}{s:Shared}{σ:St}{H:Hp}{x:Str}{u:Value}{pos:Pos}{Q:Value->Shared->Prop}(I:Inv X pins σ H s)(hg:Gl X x)(hm:X.mg x=some u)(h:Q u s)(hd:(x==("__debug__":Str))=false:=by decide):wpAny (model X.prog X.w) X.A (eval (.Name x pos) X.env) Q E s:=
 Calls.Name_function_global I.ok.kind hg (Calls.loadGlobal_global (by rw[I.ok.glob];exact I.mod.glob.keeps I.bk) hm h) hd
theorem Qm{E:Value->Shared->Prop}{pins:List (Addr×Obj)}{s:Shared}{σ:St}{H:Hp}{x:Str}{u:Value}{pos:Pos}{Q:Value->Shared->Prop}(I:Inv X pins σ H s)(hg:Gl X x)(hm:X.mg x=none)(hv:bootBuiltins x=some u)(h:Q u s)(hn:x ≠ "__name__":=by decide)(hd:(x==("__debug__":Str))=false:=by decide):wpAny (model X.prog X.w) X.A (eval (.Name x pos) X.env) Q E s:=by
 obtain⟨mb,h1,h2⟩:=I.mod.blt
 exact Calls.Name_function_global I.ok.kind hg (Calls.loadGlobal_builtin (by rw[I.ok.glob];exact I.mod.glob.keeps I.bk) hm (by rw[I.ok.blt];exact h1.keeps I.bk) ((h2 x hn).trans hv) h) hd
theorem Zi2{x:Str}{v:V}{u:Value}{pos:Pos}(hg:Gl X x)(hm:X.mg x=some u)(r:Jf v u)(hd:(x==("__debug__":Str))=false:=by decide):PE X (.Name x pos) (tC v):=
 fun _ _ _ H _ I h=>ZbX I hg hm ⟨v,H,I,r,h⟩ hd
theorem Qc{x:Str}{v:V}{u:Value}{pos:Pos}(hg:Gl X x)(hm:X.mg x=none)(hv:bootBuiltins x=some u)(r:Jf v u)(hn:x ≠ "__name__":=by decide)(hd:(x==("__debug__":Str))=false:=by decide):PE X (.Name x pos) (tC v):=
 fun _ _ _ H _ I h=>Qm I hg hm hv ⟨v,H,I,r,h⟩ hn hd
variable {a b:Expr}{ta tb:TE}{pos:Pos}
def PC(X:Cx)(op:CmpOp)(a b:Expr)(t:TE):Prop:=
 ∀(pins:List (Addr×Obj)) (s:Shared) (σ:St) (H:Hp) (Q:VK),Inv X pins σ H s->t σ H Q ->
  wpAny (model X.prog X.w) X.A (eval a X.env) (fun v s₁=>wpAny (model X.prog X.w) X.A (eval b X.env) (fun u s₂=>wpAny (model X.prog X.w) X.A (compareOp op v u) (EP X pins σ Q) X.xe s₂) X.xe s₁) X.xe s
noncomputable def tB(t:TE):TT:=fun σ H Q=>t σ H fun x H1=>∃c,x=.bl c/\Q c H1
theorem ZjX{op:CmpOp}{t:TE}(h:PC X op a b t)(h1:behindInMarks op b=false:=by rfl):PT X (.Compare a [op] [b] pos) (tB t):=by
 intro pins s σ H Q I hw
 refine wpAny_isTrue_Compare1 (thn (h pins s σ H _ I hw) fun v s1 h1=>thn h1 fun u s2 h2=>thn h2 fun c s3 ⟨x,H1,I1,r1,q1⟩=>?_) h1
 obtain⟨d,rfl,q⟩:=q1
 cases r1
 exact wpAny_truthy_bool ⟨H1,I1,q⟩
theorem Qa{e:Expr}{t:TE}(h:PE X e t)(he:∀whole,isTrue e X.env whole=(do let v <- whole;standAt e.pos;holding [v] (truthy v)):=by exact fun _=>rfl):PT X e (tB t):=by
 intro pins s σ H Q I hw
 refine isTrue_plain (thn (h pins s σ H _ I hw) fun v s1 ⟨x,H1,I1,r1,q1⟩=>?_) (he _)
 obtain⟨d,rfl,q⟩:=q1
 cases r1
 exact wpAny_truthy_bool ⟨H1,I1,q⟩
variable {tA tB':TT}{ZdM:List Expr}
noncomputable def Zmm(t u:TT):TT:=fun σ H Q=>t σ H fun c H1=>if c=true then u σ H1 Q else Q false H1
noncomputable def tOr(t u:TT):TT:=fun σ H Q=>t σ H fun c H1=>if c=true then Q true H1 else u σ H1 Q
noncomputable def Zmi(t:TT):TT:=fun σ H Q=>t σ H fun c H1=>Q (!c) H1
theorem Zix(ha:PT X a tA):PW X (.BoolOp .And [a] pos) tA:=by
 intro wh pins s σ H Q I h
 refine isTrue_and (thn (ha pins s σ H Q I h) fun c s1 e=>?_)
 cases c with
 |true=>exact isTrue_and_nil e
 |false=>exact e
theorem QG(ha:PT X a tA):PW X (.BoolOp .Or [a] pos) tA:=by
 intro wh pins s σ H Q I h
 refine isTrue_or (thn (ha pins s σ H Q I h) fun c s1 e=>?_)
 cases c with
 |false=>exact isTrue_or_nil e
 |true=>exact e
theorem ZjW(ha:PT X a tA)(hb:PW X (.BoolOp .And (b::ZdM) pos) tB'):PW X (.BoolOp .And (a::b::ZdM) pos) (Zmm tA tB'):=by
 intro wh pins s σ H Q I h
 refine isTrue_and (thn (ha pins s σ H _ I h) fun c s1 ⟨H1,I1,q1⟩=>?_)
 cases c with
 |true=>exact hb wh pins s1 σ H1 Q I1 q1
 |false=>exact⟨H1,I1,q1⟩
theorem ZbG(ha:PT X a tA)(hb:PW X (.BoolOp .Or (b::ZdM) pos) tB'):PW X (.BoolOp .Or (a::b::ZdM) pos) (tOr tA tB'):=by
 intro wh pins s σ H Q I h
 refine isTrue_or (thn (ha pins s σ H _ I h) fun c s1 ⟨H1,I1,q1⟩=>?_)
 cases c with
 |true=>exact⟨H1,I1,q1⟩
 |false=>exact hb wh pins s1 σ H1 Q I1 q1
theorem Qb(ha:PT X a tA):PT X (.UnaryOp .Not a pos) (Zmi tA):=by
 intro pins s σ H Q I h
 exact isTrue_not (ha pins s σ H (fun c H1=>Q (!c) H1) I h)
noncomputable def ZjM(ta tb:TE):TE:=fun σ H Q=>ta σ H fun x H1=>∃c,x=.bl c/\if c=true then tb σ H1 Q else Q (.bl false) H1
noncomputable def Zmh(ta tb:TE):TE:=fun σ H Q=>ta σ H fun x H1=>∃c,x=.bl c/\if c=true then Q (.bl true) H1 else tb σ H1 Q
noncomputable def ZjF(ta:TE):TE:=fun σ H Q=>ta σ H fun x H1=>∃c,x=.bl c/\Q (.bl (!c)) H1
theorem QI{op}{t:TE}(h:PE X a t):PE X (.BoolOp op [a] pos) t:=fun pins s σ H Q I hw=>BoolOp_one (h pins s σ H Q I hw)
theorem ZaS(ha:PE X a ta)(hb:PE X (.BoolOp .And (b::ZdM) pos) tb):PE X (.BoolOp .And (a::b::ZdM) pos) (ZjM ta tb):=by
 intro pins s σ H Q I h
 refine BoolOp_and (thn (ha pins s σ H _ I h) fun v s1 ⟨x,H1,I1,r1,q1⟩=>?_)
 obtain⟨c,rfl,q1⟩:=q1
 cases r1
 refine wpAny_truthy_bool ?_
 cases c with
 |true=>exact hb pins s1 σ H1 Q I1 q1
 |false=>exact⟨.bl false,H1,I1,rfl,q1⟩
theorem ZlB(ha:PE X a ta)(hb:PE X (.BoolOp .Or (b::ZdM) pos) tb):PE X (.BoolOp .Or (a::b::ZdM) pos) (Zmh ta tb):=by
 intro pins s σ H Q I h
 refine BoolOp_or (thn (ha pins s σ H _ I h) fun v s1 ⟨x,H1,I1,r1,q1⟩=>?_)
 obtain⟨c,rfl,q1⟩:=q1
 cases r1
 refine wpAny_truthy_bool ?_
 cases c with
 |false=>exact hb pins s1 σ H1 Q I1 q1
 |true=>exact⟨.bl true,H1,I1,rfl,q1⟩
theorem Zka(ha:PE X a ta):PE X (.UnaryOp .Not a pos) (ZjF ta):=by
 intro pins s σ H Q I h
 refine UnaryOp_ (thn (ha pins s σ H _ I h) fun v s1 ⟨x,H1,I1,r1,q1⟩=>?_)
 obtain⟨c,rfl,q1⟩:=q1
 cases r1
 exact not_of (wpAny_truthy_bool ⟨.bl (!c),H1,I1,rfl,q1⟩)
end
def SqL(K:W.Frag)(H:Hp)(a:Addr)(xs:List V):Prop:=
 Rd H a (.lst xs) \/
  ∃(o:Obj) (its:Array Value) (n:Nat),K.lookup a=some o/\o.cls=.type "list"/\o.dict=none/\o.data=.seq its n/\its.size<=sizeLine/\ZP xs its.toList
def SqT(K:W.Frag)(H:Hp)(a:Addr)(xs:List V):Prop:=
 Rd H a (.tup xs) \/
  ∃(o:Obj) (its:Array Value) (n:Nat),K.lookup a=some o/\o.cls=.type "tuple"/\o.data=.seq its n/\its.size<=sizeLine/\ZP xs its.toList
noncomputable def ZmG:Value->Option V
 |.none=>some .non
 |.bool b=>some (.bl b)
 |.int i _=>some (.int i)
 |.str x _=>some (.str x)
 |.bytes b _=>some (.byt b)
 |.float b _=>some (.flt b)
 |.ref a=>some (.ref a)
 |.type n=>some (.ty n)
 |_=>none
theorem Jf.abs{x:V}{u:Value}(r:Jf x u):ZmG u=some x:=by
 cases x with
 |non=>cases r;rfl
 |bl _=>cases r;rfl
 |int _=>obtain⟨t,rfl⟩:=r;rfl
 |str _=>obtain⟨t,rfl⟩:=r;rfl
 |byt _=>obtain⟨t,rfl⟩:=r;rfl
 |flt _=>obtain⟨t,rfl⟩:=r;rfl
 |ref _=>cases r;rfl
 |ty _=>cases r;rfl
theorem Jf.inj{x y:V}{u:Value}(r:Jf x u)(q:Jf y u):x=y:=Option.some.inj (r.abs.symm.trans q.abs)
theorem ZP.inj:∀{xs ys:List V}{us:List Value},ZP xs us->ZP ys us->xs=ys
 |_,_,_,.nil,.nil=>rfl
 |_,_,_,.cons r t,.cons r' t'=>by rw[r.inj r',ZP.inj t t']
section
variable {X:Cx}{pins:List (Addr×Obj)}{σ:St}{H:Hp}{s:Shared}{a:Addr}{xs ys:List V}
theorem SqL.of{K:W.Frag}(h:H a=some (.lst xs)):SqL K H a xs:=.inl (.inl h)
theorem Inv.list(I:Inv X pins σ H s)(h:SqL X.K H a xs):∃its:List Value,ZP xs its/\PlainL s.heap a its.toArray/\xs.length<=sizeLine:=by
 rcases h with h|⟨o,its,n,hk,hc,hd,hs,hz,r⟩
 ·obtain⟨z,its,n,r,e⟩:=h.ok I.hok
  exact⟨its,r,⟨_,n,e,rfl,rfl,rfl⟩,z⟩
 ·refine⟨its.toList,r,⟨o,n,I.kIn a o hk,hc,hd,by simpa using hs⟩, ?_⟩
  have e:=r.length
  simp only[Zrm] at e
  omega
theorem Inv.tuple(I:Inv X pins σ H s)(h:SqT X.K H a xs):∃its:List Value,ZP xs its/\IsTup s.heap a its.toArray/\xs.length<=sizeLine:=by
 rcases h with h|⟨o,its,n,hk,hc,hs,hz,r⟩
 ·obtain⟨z,its,r,p⟩:=h.ok I.hok
  exact⟨its,r,p,z⟩
 ·refine⟨its.toList,r,⟨o,I.kIn a o hk,hc,n,by simpa using hs⟩, ?_⟩
  have e:=r.length
  simp only[Zrm] at e
  omega
theorem Inv.list_inj(I:Inv X pins σ H s)(h:SqL X.K H a xs)(h':SqL X.K H a ys):xs=ys:=by
 obtain⟨its,r,⟨o,n,e,_,_,d⟩,_⟩:=I.list h
 obtain⟨its',r',⟨o',n',e',_,_,d'⟩,_⟩:=I.list h'
 rw[e] at e';cases e'
 rw[d] at d'
 injection d' with d1 _
 have:its=its':=by simpa using congrArg Array.toList d1
 subst this
 exact r.inj r'
theorem Inv.tuple_inj(I:Inv X pins σ H s)(h:SqT X.K H a xs)(h':SqT X.K H a ys):xs=ys:=by
 obtain⟨its,r,⟨o,e,_,n,d⟩,_⟩:=I.tuple h
 obtain⟨its',r',⟨o',e',_,n',d'⟩,_⟩:=I.tuple h'
 rw[e] at e';cases e'
 rw[d] at d'
 injection d' with d1 _
 have:its=its':=by simpa using congrArg Array.toList d1
 subst this
 exact r.inj r'
end
noncomputable abbrev Cx.wish(X:Cx)(E:Value->Shared->Prop):Cx:={ X with xe:=E }
noncomputable abbrev Cx.nox(X:Cx):Cx:=X.wish fun _ _=>False
theorem Cx.Ok.wish{X:Cx}(ok:X.Ok)(E:Value->Shared->Prop):(X.wish E).Ok:=
 ⟨ok.mod,ok.kind,ok.glob,ok.blt,ok.above,ok.inj,ok.has,ok.cab,ok.hd,ok.frames,ok.stk,ok.exf,ok.bs,ok.bsz,ok.noex,ok.exfs,ok.funs,ok.frf,ok.tab⟩
theorem Cx.Ok.unwish{X:Cx}{E:Value->Shared->Prop}(ok:(X.wish E).Ok):X.Ok:=
 ⟨ok.mod,ok.kind,ok.glob,ok.blt,ok.above,ok.inj,ok.has,ok.cab,ok.hd,ok.frames,ok.stk,ok.exf,ok.bs,ok.bsz,ok.noex,ok.exfs,ok.funs,ok.frf,ok.tab⟩
section
variable {X:Cx}{pins:List (Addr×Obj)}{σ:St}{H:Hp}{s:Shared}{E:Value->Shared->Prop}
theorem Inv.wish(I:Inv X pins σ H s)(E:Value->Shared->Prop):Inv (X.wish E) pins σ H s:=⟨I.ok.wish E,I.os,I.bare,I.base,I.loc,I.cell,I.free,I.freeC,I.pin,I.hok,I.len⟩
theorem Inv.unwish(I:Inv (X.wish E) pins σ H s):Inv X pins σ H s:=⟨I.ok.unwish,I.os,I.bare,I.base,I.loc,I.cell,I.free,I.freeC,I.pin,I.hok,I.len⟩
theorem SP.unwish{D:Zhu}{f:Flow}{s':Shared}(h:SP (X.wish E) pins D f s'):SP X pins D f s':=by
 cases f with
 |next=>obtain⟨σ',H',I,q⟩:=h;exact⟨σ',H',I.unwish,q⟩
 |brk=>obtain⟨σ',H',I,q⟩:=h;exact⟨σ',H',I.unwish,q⟩
 |cont=>obtain⟨σ',H',I,q⟩:=h;exact⟨σ',H',I.unwish,q⟩
 |ret u=>obtain⟨v,σ',H',I,r,q⟩:=h;exact⟨v,σ',H',I.unwish,r,q⟩
theorem PSs.nox{st:List Stmt}{t:TS}(h:PSs X.nox st t):PSs X st t:=fun pins s σ H D I hw =>
 wpAny_mono (h pins s σ H D (I.wish _) hw) (fun _ _ q=>q.unwish) fun _ _ z=>False.elim z
end
section
variable {X:Cx}{st:Stmt}{ZdM:List Stmt}{t u:TS}{e:Expr}{te:TE}{pos:Pos}
noncomputable def ZjG:TS:=fun D σ H=>D.nx σ H
noncomputable def Zmg(t u:TS):TS:=fun D σ H=>t { D with nx:=u D } σ H
theorem ZM:PSs X [] ZjG:=fun _ _ σ H _ I h=>wpAny_execs_nil ⟨σ,H,I,h⟩
theorem Ze(h1:PS X st t)(h2:PSs X ZdM u):PSs X (st::ZdM) (Zmg t u):=by
 intro pins s σ H D I h
 refine wpAny_execs_cons (thn (h1 pins s σ H { D with nx:=u D } I h) fun f s1 q=>?_)
 cases f with
 |next =>
  obtain⟨σ',H',I',q⟩:=q
  exact h2 pins s1 σ' H' D I' q
 |ret v=>exact q
 |brk=>exact q
 |cont=>exact q
theorem Zi(h1:PS X st t):PSs X [st] t:=by
 intro pins s σ H D I h
 refine wpAny_execs_cons (thn (h1 pins s σ H D I h) fun f s1 q=>?_)
 cases f with
 |next=>exact wpAny_execs_nil q
 |ret v=>exact q
 |brk=>exact q
 |cont=>exact q
theorem Inv.quiet{pins:List (Addr×Obj)}{σ:St}{H:Hp}{s:Shared}(I:Inv X pins σ H s):interactive X.env=false:=by simp[interactive,I.ok.kind]
noncomputable def ZfQ(te:TE):TS:=fun D σ H=>te σ H fun _ H1=>D.nx σ H1
theorem Jh(he:PE X e te)(hs:swapsWith e none pos.line X.env=pure false:=by rfl):PS X (.Expr e pos) (ZfQ te):=by
 intro pins s σ H D I h
 exact wpAny_Expr_any (thn (he pins s σ H _ I h) fun v s1 ⟨x,H1,I1,r1,q1⟩=>⟨σ,H1,I1,q1⟩) I.quiet hs
noncomputable def Zln(te:TE):TS:=fun D σ H=>te σ H D.rt
theorem Z5(he:PE X e te):PS X (.Return (some e) pos) (Zln te):=by
 intro pins s σ H D I h
 exact wpAny_Return_some (thn (he pins s σ H _ I h) fun v s1 ⟨x,H1,I1,r1,q1⟩=>⟨x,σ,H1,I1,r1,q1⟩)
noncomputable def Zmj(c:TT)(t u:TS):TS:=fun D σ H=>c σ H fun b H1=>if b=true then t D σ H1 else u D σ H1
theorem JH{c:Expr}{a b:List Stmt}{tc:TT}(hc:PT X c tc)(ha:PSs X a t)(hb:PSs X b u):PS X (.If c a b pos) (Zmj tc t u):=by
 intro pins s σ H D I h
 refine wpAny_If (thn (hc pins s σ H _ I h) fun d s1 ⟨H1,I1,q1⟩=>?_)
 cases d with
 |true=>exact ha pins s1 σ H1 D I1 q1
 |false=>exact hb pins s1 σ H1 D I1 q1
noncomputable def Zhz:TS:=fun _ _ _=>False
theorem Uc:PS X st Zhz:=fun _ _ _ _ _ _ h=>h.elim
end
noncomputable abbrev TG:=V->St->Hp->(St->Hp->Prop)->Prop
noncomputable abbrev TGs:=List V->St->Hp->(St->Hp->Prop)->Prop
def PG(X:Cx)(target:Expr)(t:TG):Prop:=
 ∀(pins:List (Addr×Obj)) (s:Shared) (σ:St) (H:Hp) (v:V) (u:Value) (Q:St->Hp->Prop),Inv X pins σ H s->Jf v u->t v σ H Q ->
  wpAny (model X.prog X.w) X.A (assign target X.env u) (fun _ s'=>∃σ' H',Inv X pins σ' H' s'/\Q σ' H') X.xe s
def PGs(X:Cx)(ts:List Expr)(t:TGs):Prop:=
 ∀(pins:List (Addr×Obj)) (s:Shared) (σ:St) (H:Hp) (vs:List V) (us:List Value) (Q:St->Hp->Prop),Inv X pins σ H s->ZP vs us->t vs σ H Q ->
  wpAny (model X.prog X.w) X.A (assignInOrder ((assignEach ts X.env).map (·.2)) us) (fun _ s'=>∃σ' H',Inv X pins σ' H' s'/\Q σ' H') X.xe s
noncomputable abbrev Zlh:=V->V->V->Hp->(Hp->Prop)->Prop
def Zma(X:Cx)(t:Zlh):Prop:=
 ∀(pins:List (Addr×Obj)) (s:Shared) (σ:St) (H:Hp) (o i v:V) (ov iv u:Value) (Q:Hp->Prop),Inv X pins σ H s->Jf o ov->Jf i iv->Jf v u->t o i v H Q ->
  wpAny (model X.prog X.w) X.A (setItem ov iv u) (fun _ s'=>∃H',Inv X pins σ H' s'/\Q H') X.xe s
noncomputable abbrev TIp:=V->V->Hp->VK->Prop
def PIp(X:Cx)(op:Operator)(t:TIp):Prop:=
 ∀(pins:List (Addr×Obj)) (s:Shared) (σ:St) (H:Hp) (x y:V) (v u:Value) (Q:VK),Inv X pins σ H s->Jf x v->Jf y u->t x y H Q ->
  wpAny (model X.prog X.w) X.A (inplaceOp op v u) (EP X pins σ Q) X.xe s
section
variable {X:Cx}{pos:Pos}
noncomputable def Qr(i:Nat):TG:=fun v σ H Q=>Q (σ.set i (some v)) H
theorem Ji{i:Nat}{x:Str}(hN:X.N.Nodup)(hi:X.N[i]?=some x)(hx:Loc X.env.scope x)(hf:X.fn x=true\/X.env.scope.names.lookup x=some .local:=by first|exact .inl rfl|exact .inr rfl|assumption):PG X (.Name x pos) (Qr i):=by
 intro pins s σ H v u Q I r h
 exact wpAny_assign_Name (UG I hN hi hx r (fun s' I'=>⟨_,H,I',h⟩) hf)
noncomputable def ZlQ:TGs:=fun vs σ H Q=>vs=[]/\Q σ H
noncomputable def ZgP(t:TG)(u:TGs):TGs:=fun vs σ H Q=>∃v r,vs=v::r/\t v σ H fun σ' H'=>u r σ' H' Q
theorem Zeu:PGs X [] ZlQ:=by
 intro pins s σ H vs us Q I r h
 obtain⟨e,h⟩:=h
 subst e
 cases r
 exact assignInOrder_nil ⟨σ,H,I,h⟩
theorem UI{e:Expr}{es:List Expr}{t:TG}{u:TGs}(h1:PG X e t)(h2:PGs X es u)(hs:(assignEach (e::es) X.env).map (·.2)=assign e X.env::(assignEach es X.env).map (·.2):=by rfl):PGs X (e::es) (ZgP t u):=by
 intro pins s σ H vs us Q I r h
 obtain⟨v,vr,e1,h⟩:=h
 subst e1
 cases r with
 |cons r rr =>
  rw[hs]
  refine assignInOrder_cons (thn (h1 pins s σ H _ _ _ I r h) fun _ s1 ⟨σ1,H1,I1,q1⟩=>?_)
  exact h2 pins s1 σ1 H1 _ _ Q I1 rr q1
noncomputable def ZlP(K:W.Frag)(n:Nat)(t:TGs):TG:=fun v σ H Q=>∃a xs,v=.ref a/\SqT K H a xs/\xs.length=n/\t xs σ H Q
theorem ZhA{es:List Expr}{k:Nat}{t:TGs}{n:Nat}(hc:X.calm=true)(h:PGs X es t)(hn:(assignEach es X.env).length=n:=by rfl)(hst:(assignEach es X.env).findIdx? (·.1)=none:=by rfl):PG X (.Tuple es k pos) (ZlP X.K n t):=by
 intro pins s σ H v u Q I r hw
 obtain⟨a,xs,e1,hq,hl,hw⟩:=hw
 subst e1
 cases r
 obtain⟨its,rv,ht,hz⟩:=I.tuple hq
 refine assign_Tuple_tuple (I.ok.hd hc) ht (by simp[hn,<- hl,rv.length]) hst fun h' hx=>?_
 have I1:Inv X pins σ H { s with heap:=h' }:=I.kept (t':=s.toks) fun b o e=>hx b o (Zr8 (Heap.lt_size e)) e
 exact h pins _ σ H xs _ Q I1 (by simpa using rv) hw
noncomputable def Zmx(to ti:TE)(t:Zlh):TG:=fun v σ H Q=>to σ H fun o H1=>ti σ H1 fun i H2=>t o i v H2 fun H3=>Q σ H3
theorem Zev{o i:Expr}{to ti:TE}{t:Zlh}(ho:PE X o to)(hi:PE X i ti)(hs:Zma X t)(ha:∀v,assign (.Subscript o i pos) X.env v=(do
   let ov <- holding [v] (eval o X.env)
   let iv <- holding [v,ov] (eval i X.env)
   standAt pos
   holding [v,ov,iv] (setItem ov iv v)
   release [v,ov,iv] []):=by exact fun _=>rfl):PG X (.Subscript o i pos) (Zmx to ti t):=by
 intro pins s σ H v u Q I r h
 rw[ha]
 refine wpAny_bind (wpAny_holding (thn (ho pins s σ H _ I h) fun ov s1 ⟨x,H1,I1,r1,q1⟩=>?_))
 refine wpAny_bind (wpAny_holding (thn (hi pins s1 σ H1 _ I1 q1) fun iv s2 ⟨y,H2,I2,r2,q2⟩=>?_))
 refine wpAny_bind (wpAny_standAt (wpAny_bind (wpAny_holding (thn (hs pins s2 σ H2 x y v ov iv u _ I2 r1 r2 r q2) fun _ s3 ⟨H3,I3,q3⟩=>?_))))
 exact wpAny_release ⟨σ,H3,I3,q3⟩
noncomputable def Zin(te:TE)(g:TG):TS:=fun D σ H=>te σ H fun x H1=>g x σ H1 D.nx
theorem ZcL{tg e:Expr}{te:TE}{g:TG}(he:PE X e te)(hg:PG X tg g)(hs:swapsWithSole [tg] e pos.line X.env=pure false:=by rfl)(hw:swappedStores [tg] e X.env=pure none:=by rfl)(h1:(assignEach [tg] X.env).map (·.2)=[assign tg X.env]:=by rfl):PS X (.Assign [tg] e pos) (Zin te g):=by
 intro pins s σ H D I h
 refine wpAny_Assign_stores (thn (he pins s σ H _ I h) fun v s1 ⟨x,H1,I1,r1,q1⟩=>?_) hs hw
 rw[h1]
 exact thn (hg pins s1 σ H1 x v _ I1 r1 q1) fun _ s2 q=>q
theorem Z1{i:Nat}{x:Str}{e:Expr}{te:TE}{pos':Pos}(hN:X.N.Nodup)(hi:X.N[i]?=some x)(hx:Loc X.env.scope x)(he:PE X e te)(hs:swapsWith e (some (.Name x pos')) pos.line X.env=pure false:=by rfl)(hf:X.fn x=true\/X.env.scope.names.lookup x=some .local:=by first|exact .inl rfl|exact .inr rfl|assumption) :
  PS X (.Assign [.Name x pos'] e pos) (Zin te (Qr i)):=by
 intro pins s σ H D I h
 refine wpAny_Assign_Name (thn (he pins s σ H _ I h) fun v s1 ⟨y,H1,I1,r1,q1⟩=>?_) hs
 exact UG I1 hN hi hx r1 (fun s2 I2=>⟨_,H1,I2,q1⟩) hf
noncomputable def Zml(i:Nat)(te:TE)(ti:TIp):TS:=fun D σ H=>∃x,σ[i]?=some (some x)/\te σ H fun y H1=>ti x y H1 fun z H2=>D.nx (σ.set i (some z)) H2
theorem Zh9{i:Nat}{x:Str}{e:Expr}{te:TE}{op:Operator}{ti:TIp}{pos':Pos}(hN:X.N.Nodup)(hi:X.N[i]?=some x)(hx:Loc X.env.scope x)(he:PE X e te)(ho:PIp X op ti)(hf:X.fn x=true\/X.env.scope.names.lookup x=some .local:=by first|exact .inl rfl|exact .inr rfl|assumption) :
  PS X (.AugAssign (.Name x pos') op e pos) (Zml i te ti):=by
 intro pins s σ H D I h
 obtain⟨v,e1,h⟩:=h
 obtain⟨m,hn,hl⟩:=I.loc
 have vis:Vis X.env.scope x:=by rcases hx with k|k;exact .inl k;exact .inr (.inl k)
 obtain⟨u,r,l⟩:=hl i x v hi e1 vis
 refine wpAny_AugAssign_Name ?_
 have go:wpAny (model X.prog X.w) X.A (eval e X.env) (fun w s₂=>wpAny (model X.prog X.w) X.A (inplaceOp op u w) (fun r s₃=>wpAny (model X.prog X.w) X.A (storeName X.env x r) (fun _=>SP X pins D .next) X.xe s₃) X.xe s₂) X.xe s:=by
  refine thn (he pins s σ H _ I h) fun w s1 ⟨y,H1,I1,r1,q1⟩=>?_
  refine thn (ho pins s1 σ H1 v y u w _ I1 r r1 q1) fun z s2 ⟨zv,H2,I2,r2,q2⟩=>?_
  exact UG I2 hN hi hx r2 (fun s3 I3=>⟨_,H2,I3,q2⟩) hf
 rcases l with ⟨hk,hm⟩|⟨hk,c,hc,hcell⟩
 ·exact wpAny_loadName_local I.ok.kind hk hn hm go
 ·rcases hk with hk|hk
  ·exact wpAny_loadName_cell I.ok.kind hk hc hcell go
  ·rcases hx with k|k
   ·have:X.env.scope.names.lookup x=some .free:=hk
    rw[k] at this;cases this
   ·have:X.env.scope.names.lookup x=some .free:=hk
    rw[k] at this;cases this
noncomputable def ZjL(to ti te:TE)(tget:V->V->Hp->VK->Prop)(tip:TIp)(tset:Zlh):TS:=fun D σ H=>to σ H fun o H1=>ti σ H1 fun i H2=>tget o i H2 fun x H3=>te σ H3 fun y H4=>tip x y H4 fun z H5=>tset o i z H5 fun H6=>D.nx σ H6
def Zmb(X:Cx)(t:V->V->Hp->VK->Prop):Prop:=
 ∀(pins:List (Addr×Obj)) (s:Shared) (σ:St) (H:Hp) (o i:V) (ov iv:Value) (Q:VK),Inv X pins σ H s->Jf o ov->Jf i iv->t o i H Q ->
  wpAny (model X.prog X.w) X.A (getItem ov iv) (EP X pins σ Q) X.xe s
theorem ZbI{o i e:Expr}{to ti te:TE}{tget:V->V->Hp->VK->Prop}{tip:TIp}{tset:Zlh}{op:Operator}{tpos:Pos}(ho:PE X o to)(hi:PE X i ti)(hg:Zmb X tget)(he:PE X e te)(hp:PIp X op tip)(hs:Zma X tset)(ha:∀ov iv new,augStore i ov iv new=(do holding [new,ov,iv] (setItem ov iv new);release [new,ov,iv] [];pure .next):=by intros;rfl):PS X (.AugAssign (.Subscript o i tpos) op e pos) (ZjL to ti te tget tip tset):=by
 intro pins s σ H D I h
 refine wpAny_AugAssign_SubscriptAny (thn (ho pins s σ H _ I h) fun ov s1 ⟨x1,H1,I1,r1,q1⟩=>?_) ha
 refine thn (hi pins s1 σ H1 _ I1 q1) fun iv s2 ⟨x2,H2,I2,r2,q2⟩=>?_
 refine thn (hg pins s2 σ H2 x1 x2 ov iv _ I2 r1 r2 q2) fun old s3 ⟨x3,H3,I3,r3,q3⟩=>?_
 refine thn (he pins s3 σ H3 _ I3 q3) fun v s4 ⟨x4,H4,I4,r4,q4⟩=>?_
 refine thn (hp pins s4 σ H4 x3 x4 old v _ I4 r3 r4 q4) fun new s5 ⟨x5,H5,I5,r5,q5⟩=>?_
 exact thn (hs pins s5 σ H5 x1 x2 x5 ov iv new _ I5 r1 r2 r5 q5) fun _ s6 ⟨H6,I6,q6⟩=>⟨σ,H6,I6,q6⟩
noncomputable def ipI(f:Int->Int->Int):TIp:=fun x y H Q=>∃i j,x=.int i/\y=.int j/\Q (.int (f i j)) H
theorem Zbb:PIp X .Add (ipI fun i j=>i+j):=by
 intro pins s σ H x y v u Q I r1 r2 h
 obtain⟨i,j,e1,e2,q⟩:=h
 subst e1;subst e2
 obtain⟨t,rfl⟩:=r1
 obtain⟨t',rfl⟩:=r2
 exact iadd_int ⟨.int _,H,I.tok _,⟨_,rfl⟩,q⟩
noncomputable def Zhy(c:TT)(tb:TS):TS:=fun D σ H=>∃W:Nat->St->Hp->Prop,(∃m,W m σ H)/\∀m σ H,W m σ H ->
 c σ H fun b H1=>if b=true then ∃N:St->Hp->Prop,(∀σ' H',N σ' H'->∃m',m'<m/\W m' σ' H')/\tb { D with nx:=N,ct:=N,bk:=D.nx } σ H1 else D.nx σ H1
theorem Zaj{c:Expr}{body:List Stmt}{tc:TT}{tb:TS}(hp:PassesOwn (model X.prog X.w) X.A X.env X.xe)(hc:PT X c tc)(hb:PSs X body tb):PS X (.While c body [] pos) (Zhy tc tb):=by
 intro pins s σ H D I h
 obtain⟨W,⟨m0,w0⟩,turn⟩:=h
 refine wpAny_While (codeAny_whileLoop (fun n s'=>∃σ' H',Inv X pins σ' H' s'/\W n σ' H') ?_ m0 ⟨σ,H,I,w0⟩)
 rintro n s1 ⟨σ1,H1,I1,w1⟩
 refine wpAny_passesOwn hp (thn (hc pins s1 σ1 H1 _ I1 (turn n σ1 H1 w1)) fun b s2 ⟨H2,I2,q2⟩=>?_)
 cases b with
 |true =>
  obtain⟨N,hN,q2⟩:=q2
  rw[if_pos rfl]
  refine wpAny_passesOwn hp (thn (hb pins s2 σ1 H2 _ I2 q2) fun f s3 q3=>?_)
  cases f with
  |next =>
   obtain⟨σ3,H3,I3,n3⟩:=q3
   obtain⟨m',hm,w3⟩:=hN σ3 H3 n3
   exact⟨m',hm,σ3,H3,I3,w3⟩
  |cont =>
   obtain⟨σ3,H3,I3,n3⟩:=q3
   obtain⟨m',hm,w3⟩:=hN σ3 H3 n3
   exact⟨m',hm,σ3,H3,I3,w3⟩
  |brk=>exact q3
  |ret v=>exact q3
 |false =>
  rw[if_neg Bool.false_ne_true]
  exact wpAny_execs_nil ⟨σ1,H2,I2,q2⟩
end
structure It where
 go:Nat->Hp->Prop
 yld:Nat->Hp->V->Hp->Prop
 stop:Nat->Hp->Prop
def ZfE(X:Cx)(pins:List (Addr×Obj))(H:Hp)(b:Addr):Prop:=
 H b=none/\b≠X.env.locals/\b ∉ X.fs/\(b∈X.ex\/X.s₀.heap.objs.size<=b)/\(∀x c,X.env.cells.lookup x=some c->c≠b)/\∀p∈X.pn++pins,p.1≠b
theorem Inv.fpOk{X:Cx}{pins:List (Addr×Obj)}{σ:St}{H H':Hp}{s:Shared}{b:Addr}(I:Inv X pins σ H s)(hb:s.heap.objs.size<=b)(hn:H' b=none):ZfE X pins H' b:=by
 refine⟨hn,ZsY (Zr0 I.lt hb),I.nofs hb,.inr (Zr7 I.sz hb),fun x c e z=>?_,fun p hp z=>?_⟩
 ·obtain⟨v,q⟩:=I.cell x c e
  exact absurd (Zr0 q.lt (by rw[z];exact hb)) (Zsg _)
 ·exact absurd (Zr0 (Heap.lt_size (I.pin p hp).1) (by rw[z];exact hb)) (Zsg _)
structure Zjv(P:Program)(w:World)(K:PySem.W.Frag)(tg:Expr)(J:It)(fp:List Addr)(it:Addr)(tn:Nat->Heap->Prop):Prop where
 mem:it∈fp
 obj:∀i h,tn i h->∀b∈fp,∃o,h.get? b=some o/\∀v,o.data≠.cell v
 keep:∀i h h',tn i h->(∀b∈fp,∀o,h.get? b=some o->h'.get? b=some o)->tn i h'
 item:∀(X:Cx),X.prog=P->X.w=w->X.K=K->X.calm=true->∀(i:Nat) (pins:List (Addr×Obj)) (s:Shared) (σ:St) (H:Hp) (E:Value->Shared->Prop),Inv X pins σ H s->(∀b∈fp,ZfE X pins H b)->tn i s.heap->J.go i H ->
  wpAny (model P w) X.A (pyNext (.ref it)) (fun r s1=>∃u,r=some u /\
   wpAny (model P w) X.A (letOwnedTupleGo tg (.ref it) u) (fun _ s2=>∃x H',Inv X pins σ H' s2/\Jf x u/\J.yld i H x H'/\tn (i+1) s2.heap/\∀b∈fp,H' b=none) E s1) E s
 done:∀(X:Cx),X.prog=P->X.w=w->X.K=K->X.calm=true->∀(i:Nat) (pins:List (Addr×Obj)) (s:Shared) (σ:St) (H:Hp) (E:Value->Shared->Prop),Inv X pins σ H s->(∀b∈fp,ZfE X pins H b)->tn i s.heap->J.stop i H ->
  wpAny (model P w) X.A (pyNext (.ref it)) (fun r s1=>r=none/\Inv X pins σ H s1) E s
 self:∀(A:Around) (i:Nat) (s:Shared) (Q:Value->Shared->Prop) (E:Value->Shared->Prop),tn i s.heap->Q (.ref it) s->wpAny (model P w) A (pyIter (.ref it)) Q E s
noncomputable abbrev TI:=St->Hp->(It->Hp->Prop)->Prop
def PIE(X:Cx)(pins:List (Addr×Obj))(σ:St)(tg:Expr)(R:It->Hp->Prop)(itv:Value)(s2:Shared):Prop:=
 ∃(it:Addr) (fp:List Addr) (tn:Nat->Heap->Prop) (J:It) (H':Hp),itv=.ref it/\Inv X pins σ H' s2/\Zjv X.prog X.w X.K tg J fp it tn/\tn 0 s2.heap/\(∀b∈fp,ZfE X pins H' b)/\R J H'
def PI(X:Cx)(tg iter:Expr)(wi:TI):Prop:=
 ∀(pins:List (Addr×Obj)) (s:Shared) (σ:St) (H:Hp) (R:It->Hp->Prop),Inv X pins σ H s->wi σ H R ->
  wpAny (model X.prog X.w) X.A (eval iter X.env) (fun v s1=>wpAny (model X.prog X.w) X.A (pyIter v) (PIE X pins σ tg R) X.xe s1) X.xe s
theorem ZgM{M:Model}{A:Around}{E:Value->Shared->Prop}{s:Shared}{tg:Expr}{it:Addr}{u:Value}{o:Obj}{n:String}{vs:Array Value}{Q:Unit->Shared->Prop}(ho:s.heap.get? it=some o)(hc:o.cls=.type n)(hd:o.data=.fields vs)(hn:["enumerate", "zip", "dict_itemiterator", "dict_reverseitemiterator", "odict_iterator", "itertools.zip_longest", "itertools.pairwise"].contains n=false)(hQ:Q () s):wpAny M A (letOwnedTupleGo tg (.ref it) u) Q E s:=by
 unfold letOwnedTupleGo
 cases tg<;>first
  |exact wpAny_pure hQ
  |(cases u<;>first
    |exact wpAny_pure hQ
    |(refine wpAny_bind (wpAny_load ho ?_)
      rw[hc,hd]
      show wpAny M A (if (["enumerate", "zip", "dict_itemiterator", "dict_reverseitemiterator", "odict_iterator", "itertools.zip_longest", "itertools.pairwise"].contains n&&vs[0]?==some (rawInt _))=true then _ else _) Q E s
      rw[if_neg (by intro h;rw[hn,Bool.false_and] at h;cases h)]
      exact wpAny_pure hQ))
noncomputable def Itl(K:W.Frag)(a:Addr):It:=
 ⟨fun i H=>∃xs x,SqL K H a xs/\xs[i]?=some x,fun i H x H'=>H'=H/\∀xs,SqL K H a xs->xs[i]?=some x,fun i H=>∃xs,SqL K H a xs/\xs.length<=i⟩
noncomputable def Itt(K:W.Frag)(a:Addr):It:=
 ⟨fun i H=>∃xs x,SqT K H a xs/\xs[i]?=some x,fun i H x H'=>H'=H/\∀xs,SqT K H a xs->xs[i]?=some x,fun i H=>∃xs,SqT K H a xs/\xs.length<=i⟩
noncomputable def Itr(lo:Int)(n:Nat):It:=⟨fun i _=>i<n,fun i H x H'=>H'=H/\x=.int (lo+i),fun i _=>n<=i⟩
theorem ZdV{P:Program}{w:World}{K:W.Frag}{tg:Expr}(a it:Addr):Zjv P w K tg (Itl K a) [it] it (fun i h=>h.IsListIter it a i) where
 mem:=by simp
 obj:=fun i h st b hb=>by
  have e:b=it:=by simpa using hb
  subst e
  obtain⟨o,e,c,d⟩:=st
  exact⟨o,e,fun v z=>by rw[d] at z;cases z⟩
 keep:=fun i h h' st k=>st.at fun o e=>k it (by simp) o e
 item:=by
  intro X hP hw hK hc i pins s σ H E I hf st hg
  subst hP hw hK
  obtain⟨xs,x,hq,hx⟩:=hg
  obtain⟨its,rv,p,hz⟩:=I.list hq
  obtain⟨u,hu,ru⟩:=rv.get hx
  obtain⟨f0,f1,f2,f3,f4,f5⟩:=hf it (by simp)
  refine wpAny_pyNext_list_item st p.isList (x:=u) (by simpa using hu) fun h' st' sb=>?_
  have I1:Inv X pins σ H { s with heap:=h' }:=I.turned (t':=s.toks) (fun b o hb e=>(sb.2 b hb).trans e) f0 f1 f3 f4 f5
  obtain⟨o,e,c,d⟩:=id st'
  exact⟨u,rfl,ZgM (s:={ s with heap:=h' }) e c d (by decide) ⟨x,H,I1,ru,⟨rfl,fun ys hy=>by rw[I.list_inj hy hq];exact hx⟩,st',fun b hb=>(hf b hb).1⟩⟩
 done:=by
  intro X hP hw hK hc i pins s σ H E I hf st hg
  subst hP hw hK
  obtain⟨xs,hq,hx⟩:=hg
  obtain⟨its,rv,p,hz⟩:=I.list hq
  obtain⟨f0,f1,f2,f3,f4,f5⟩:=hf it (by simp)
  have hl:=rv.length
  exact wpAny_pyNext_list_end (I.ok.hd hc) st p.isList (by simp;omega) fun h' eb=>⟨rfl,I.turned (t':=s.toks) (fun b o hb e=>eb b o hb e) f0 f1 f3 f4 f5⟩
 self:=fun _ _ _ _ _ st h=>wpAny_pyIter_listiter st h
theorem Zdr{P:Program}{w:World}{K:W.Frag}{tg:Expr}(a it:Addr):Zjv P w K tg (Itt K a) [it] it (fun i h=>h.IsTupleIter it a i) where
 mem:=by simp
 obj:=fun i h st b hb=>by
  have e:b=it:=by simpa using hb
  subst e
  obtain⟨o,e,c,d⟩:=st
  exact⟨o,e,fun v z=>by rw[d] at z;cases z⟩
 keep:=fun i h h' st k=>st.at fun o e=>k it (by simp) o e
 item:=by
  intro X hP hw hK hc i pins s σ H E I hf st hg
  subst hP hw hK
  obtain⟨xs,x,hq,hx⟩:=hg
  obtain⟨its,rv,p,hz⟩:=I.tuple hq
  obtain⟨u,hu,ru⟩:=rv.get hx
  obtain⟨f0,f1,f2,f3,f4,f5⟩:=hf it (by simp)
  refine wpAny_pyNext_tuple_item st (show s.heap.IsTuple a its.toArray from p) (x:=u) (by simpa using hu) fun h' st' sb=>?_
  have I1:Inv X pins σ H { s with heap:=h' }:=I.turned (t':=s.toks) (fun b o hb e=>(sb.2 b hb).trans e) f0 f1 f3 f4 f5
  obtain⟨o,e,c,d⟩:=id st'
  exact⟨u,rfl,ZgM (s:={ s with heap:=h' }) e c d (by decide) ⟨x,H,I1,ru,⟨rfl,fun ys hy=>by rw[I.tuple_inj hy hq];exact hx⟩,st',fun b hb=>(hf b hb).1⟩⟩
 done:=by
  intro X hP hw hK hc i pins s σ H E I hf st hg
  subst hP hw hK
  obtain⟨xs,hq,hx⟩:=hg
  obtain⟨its,rv,p,hz⟩:=I.tuple hq
  obtain⟨f0,f1,f2,f3,f4,f5⟩:=hf it (by simp)
  have hl:=rv.length
  exact wpAny_pyNext_tuple_end (I.ok.hd hc) st (show s.heap.IsTuple a its.toArray from p) (by simp;omega) fun h' eb=>⟨rfl,I.turned (t':=s.toks) (fun b o hb e=>eb b o hb e) f0 f1 f3 f4 f5⟩
 self:=fun _ _ _ _ _ st h=>wpAny_pyIter_tupleiter st h
theorem Zds{P:Program}{w:World}{K:W.Frag}{tg:Expr}(it:Addr)(lo:Int)(n:Nat):Zjv P w K tg (Itr lo n) [it] it (fun i h=>IsRangeIter h it (lo+(i:Nat)*1) ((n:Int)-(i:Nat)) 1) where
 mem:=by simp
 obj:=fun i h st b hb=>by
  have e:b=it:=by simpa using hb
  subst e
  exact⟨_,st,fun v z=>by
   have z':Data.fields _=Data.cell v:=z
   cases z'⟩
 keep:=fun i h h' st k=>k it (by simp) _ st
 item:=by
  intro X hP hw hK hc i pins s σ H E I hf st hg
  subst hP hw hK
  obtain⟨f0,f1,f2,f3,f4,f5⟩:=hf it (by simp)
  have W:=Walks.range (prog:=X.prog) (w:=X.w) (I.ok.hd hc) it lo 1 n
  refine W.item i s _ _ hg st fun v h' tk hv st' kk=>?_
  obtain⟨t,rfl⟩:=hv
  have I1:Inv X pins σ H { s with heap:=h',toks:=tk }:=I.turned (fun b o hb e=>kk b o (by simpa using hb) e) f0 f1 f3 f4 f5
  refine⟨_,rfl,ZgM (s:={ s with heap:=h',toks:=tk }) (n := "range_iterator") st' rfl rfl (by decide) ⟨.int (lo+i),H,I1,⟨t, ?_⟩,⟨rfl,rfl⟩,st',fun b hb=>(hf b hb).1⟩⟩
  rw[Ztg]
 done:=by
  intro X hP hw hK hc i pins s σ H E I hf st hg
  subst hP hw hK
  obtain⟨f0,f1,f2,f3,f4,f5⟩:=hf it (by simp)
  exact wpAny_pyNext_range_end (I.ok.hd hc) st (by have:n<=i:=hg;omega) fun h' eb=>⟨rfl,I.turned (t':=s.toks) (fun b o hb e=>eb b o hb e) f0 f1 f3 f4 f5⟩
 self:=fun _ _ _ _ _ st h=>wpAny_pyIter_rangeiter st h
section
variable {X:Cx}{tg:Expr}
noncomputable def ZdB(K:W.Frag)(tl:TE):TI:=fun σ H R=>tl σ H fun x H1=>∃a,x=.ref a/\(∃xs,SqL K H1 a xs)/\R (Itl K a) H1
noncomputable def Zlt(K:W.Frag)(tl:TE):TI:=fun σ H R=>tl σ H fun x H1=>∃a,x=.ref a/\(∃xs,SqT K H1 a xs)/\R (Itt K a) H1
theorem Zet{l:Expr}{tl:TE}(hl:PE X l tl):PI X tg l (ZdB X.K tl):=by
 intro pins s σ H R I h
 refine thn (hl pins s σ H _ I h) fun v s1 ⟨x,H1,I1,r1,q1⟩=>?_
 obtain⟨a,e,⟨xs,hq⟩,q⟩:=q1
 subst e
 cases r1
 obtain⟨its,rv,p,hz⟩:=I1.list hq
 refine wpAny_pyIter_list p.isList ?_
 refine⟨s1.heap.objs.size,[s1.heap.objs.size],_,_,H1,rfl,I1.kept (t':=s1.toks) fun b o e=>Heap.get?_push_of_some _ e,ZdV a _,⟨_,Heap.get?_push_size _ rfl,rfl,rfl⟩,fun b hb=>?_,q⟩
 have e:b=s1.heap.objs.size:=by simpa using hb
 subst e
 exact I1.fpOk (Zrl _) (I1.hok.fresh (Zrl _))
theorem ZjY{l:Expr}{tl:TE}(hl:PE X l tl):PI X tg l (Zlt X.K tl):=by
 intro pins s σ H R I h
 refine thn (hl pins s σ H _ I h) fun v s1 ⟨x,H1,I1,r1,q1⟩=>?_
 obtain⟨a,e,⟨xs,hq⟩,q⟩:=q1
 subst e
 cases r1
 obtain⟨its,rv,p,hz⟩:=I1.tuple hq
 refine wpAny_pyIter_tuple (show s1.heap.IsTuple a its.toArray from p) ?_
 refine⟨s1.heap.objs.size,[s1.heap.objs.size],_,_,H1,rfl,I1.kept (t':=s1.toks) fun b o e=>Heap.get?_push_of_some _ e,Zdr a _,⟨_,Heap.get?_push_size _ rfl,rfl,rfl⟩,fun b hb=>?_,q⟩
 have e:b=s1.heap.objs.size:=by simpa using hb
 subst e
 exact I1.fpOk (Zrl _) (I1.hok.fresh (Zrl _))
theorem ZcJ{pins:List (Addr×Obj)}{σ:St}{H:Hp}{s:Shared}{R:It->Hp->Prop}{E:Value->Shared->Prop}{lo hi:Int}{t u v:Tok}{tk:Nat}(I:Inv X pins σ H s)(h1:-(2^62)<=lo)(h2:lo<2^62)(h3:-(2^62)<=hi)(h4:hi<2^62)(q:R (Itr lo (hi-lo).toNat) H):wpAny (model X.prog X.w) X.A (pyIter (.ref s.heap.objs.size)) (PIE X pins σ tg R) E { s with heap:=s.heap.push { cls:=.type "range",data:=.fields #[.int lo t,.int hi u,.int 1 v] },toks:=tk }:=by
 refine wpAny_pyIter_range (IsRange.new ..) (small_one h1 h2 h3 h4) ?_
 have I1:Inv X pins σ H { s with heap:=s.heap.push { cls:=.type "range",data:=.fields #[.int lo t,.int hi u,.int 1 v] },toks:=tk }:=I.kept fun b o e=>Heap.get?_push_of_some _ e
 refine⟨(s.heap.push { cls:=.type "range",data:=.fields #[.int lo t,.int hi u,.int 1 v] }).objs.size,[(s.heap.push { cls:=.type "range",data:=.fields #[.int lo t,.int hi u,.int 1 v] }).objs.size],_,_,H,rfl,
  I1.kept (t':=tk) fun b o e=>Heap.get?_push_of_some _ e,Zds _ lo (hi-lo).toNat, ?_,fun b hb=>?_,q⟩
 ·have e1:lo+((0:Nat):Int)*1=lo:=by simp
  have e2:(((hi-lo).toNat:Nat):Int)-((0:Nat):Int)=Builtin.Range.rangeSize lo hi 1:=by rw[rangeSize_one];split<;>omega
  show IsRangeIter _ _ (lo+((0:Nat):Int)*1) ((((hi-lo).toNat:Nat):Int)-((0:Nat):Int)) 1
  rw[e1,e2]
  exact Heap.get?_push_size _ rfl
 ·have e:b=(s.heap.push { cls:=.type "range",data:=.fields #[.int lo t,.int hi u,.int 1 v] }).objs.size:=by simpa using hb
  subst e
  exact I1.fpOk (Zrl _) (I1.hok.fresh (Zrl _))
noncomputable def ZkC(ta:TA):TI:=fun σ H R=>ta σ H fun vs H1=>∃j:Int,vs=[.int j]/\-(2^62)<=j/\j<2^62/\R (Itr 0 j.toNat) H1
noncomputable def ZkB(ta:TA):TI:=fun σ H R=>ta σ H fun vs H1=>∃i j:Int,vs=[.int i,.int j]/\(-(2^62)<=i/\i<2^62/\-(2^62)<=j/\j<2^62)/\R (Itr i (j-i).toNat) H1
theorem Jc{a:Expr}{ta:TA}{p pos:Pos}(hg:Gl X "range")(hm:X.mg "range"=none)(ha:PA X [a] ta)(hs:starEach [a] X.env=[(false,eval a X.env)]:=by rfl):PI X tg (.Call (.Name "range" p) [a] [] pos) (ZkC ta):=by
 intro pins s σ H R I h
 refine Call_ (Qm I hg hm boot_range (PyProof.Rows.callWith_type1 (thn (ha pos pins s σ H _ I h) fun us s1 ⟨vs,H1,I1,r1,q1⟩=>?_) hs rfl))
 obtain⟨j,e,q1,q2,q⟩:=q1
 subst e
 cases r1 with
 |cons r rr =>
  cases rr
  obtain⟨t,rfl⟩:=r
  exact call_range_1 (ZcJ I1 (by omega) (by omega) q1 q2 (by simpa using q))
theorem Zes{a b:Expr}{ta:TA}{p pos:Pos}(hg:Gl X "range")(hm:X.mg "range"=none)(ha:PA X [a,b] ta)(hs:starEach [a,b] X.env=[(false,eval a X.env),(false,eval b X.env)]:=by rfl)(hs2:starEach [b] X.env=[(false,eval b X.env)]:=by rfl) :
  PI X tg (.Call (.Name "range" p) [a,b] [] pos) (ZkB ta):=by
 intro pins s σ H R I h
 refine Call_ (Qm I hg hm boot_range (PyProof.Rows.callWith_type1 (thn (ha pos pins s σ H _ I h) fun us s1 ⟨vs,H1,I1,r1,q1⟩=>?_) (by rw[hs,hs2]) (by rw[hs2];rfl)))
 obtain⟨i,j,e,⟨q1,q2,q3,q4⟩,q⟩:=q1
 subst e
 cases r1 with
 |cons r rr =>
  cases rr with
  |cons r' rr =>
   cases rr
   obtain⟨t,rfl⟩:=r
   obtain⟨t',rfl⟩:=r'
   exact call_range_2 (ZcJ I1 q1 q2 q3 q4 q)
noncomputable def Zmk(wi:TI)(g:TG)(tb:TS):TS:=fun D σ H=>wi σ H fun J H1=>∃W:Nat->Nat->St->Hp->Prop,(∃m,W 0 m σ H1)/\∀i m σ H,W i m σ H ->
 (J.stop i H/\D.nx σ H)\/(J.go i H/\∃N:St->Hp->Prop,(∀σ' H',N σ' H'->∃m',m'<m/\W (i+1) m' σ' H')/\∀x H',J.yld i H x H'->g x σ H' fun σ2 H2=>tb { D with nx:=N,ct:=N,bk:=D.nx } σ2 H2)
noncomputable def ZcM(fp:List Addr)(h:Heap):List (Addr×Obj):=fp.filterMap fun b=>(h.get? b).map fun o=>(b,o)
theorem J8{fp:List Addr}{h:Heap}{b:Addr}{o:Obj}(hb:b∈fp)(e:h.get? b=some o):(b,o)∈ZcM fp h:=List.mem_filterMap.mpr ⟨b,hb,by rw[e];rfl⟩
theorem ZeH{fp:List Addr}{h:Heap}{p:Addr×Obj}(hp:p∈ZcM fp h):p.1∈fp/\h.get? p.1=some p.2:=by
 obtain⟨b,hb,e⟩:=List.mem_filterMap.mp hp
 cases q:h.get? b with
 |none=>rw[q] at e;cases e
 |some o =>
  rw[q] at e
  have e':(b,o)=p:=Option.some.inj e
  subst e'
  exact⟨hb,q⟩
theorem Inv.pinned{pins:List (Addr×Obj)}{σ:St}{H:Hp}{s:Shared}{fp:List Addr}(I:Inv X pins σ H s)(hf:∀b∈fp,ZfE X pins H b)(ho:∀b∈fp,∃o,s.heap.get? b=some o/\∀v,o.data≠.cell v):Inv X (pins++ZcM fp s.heap) σ H s:=
 I.pins_of fun p hp=>(Zro.mp hp).elim (fun z=>I.pin p (Zrk _ z)) fun z=>by
  obtain⟨hb,e⟩:=ZeH z
  obtain⟨f0,f1,f2,_⟩:=hf p.1 hb
  obtain⟨o,e',d⟩:=ho p.1 hb
  rw[e] at e';cases e'
  exact⟨e,f0,f1,f2,d⟩
theorem Inv.unpinned{pins pl:List (Addr×Obj)}{σ:St}{H:Hp}{s:Shared}(I:Inv X (pins++pl) σ H s):Inv X pins σ H s:=I.pins_of fun p hp=>I.pin p (Zrk _ (Zrp _ hp))
theorem VD{iter:Expr}{body:List Stmt}{wi:TI}{g:TG}{tb:TS}{pos:Pos}(hp:PassesOwn (model X.prog X.w) X.A X.env X.xe)(hc:X.calm=true)(hi:PI X tg iter wi)(hg:PG X tg g)(hb:PSs X body tb)(hs:∀x,foldedSetIterable iter X.env x=pure x:=by exact fun _=>rfl):PS X (.For tg iter body [] pos) (Zmk wi g tb):=by
 intro pins s σ H D I h
 refine wpAny_For (thn (hi pins s σ H _ I h) fun v s1 h1=>thn h1 fun itv s2 h2=>?_) hs
 obtain⟨it,fp,tn,J,H2,e,I2,T,st2,f2,W,⟨m0,w0⟩,turn⟩:=h2
 subst e
 have stat:∀{H':Hp},(∀b∈fp,H' b=none)->∀b∈fp,ZfE X pins H' b:=fun hn b hb=>⟨hn b hb,(f2 b hb).2⟩
 refine codeAny_forLoop_any (fun n s'=>∃i σ' H',Inv X pins σ' H' s'/\tn i s'.heap/\(∀b∈fp,H' b=none)/\W i n σ' H') ?_ m0 ⟨0,σ,H2,I2,st2,fun b hb=>(f2 b hb).1,w0⟩
 rintro n s3 ⟨i,σ3,H3,I3,st3,fr3,w3⟩
 rcases turn i n σ3 H3 w3 with ⟨stop,qn⟩|⟨go,N,hN,step⟩
 ·refine wpAny_passesOwn hp (thn (T.done X rfl rfl rfl hc i pins s3 σ3 H3 X.xe I3 (stat fr3) st3 stop) fun r s4 ⟨hr,I4⟩=>?_)
  subst hr
  exact wpAny_execs_nil ⟨σ3,H3,I4,qn⟩
 ·refine wpAny_passesOwn hp (thn (T.item X rfl rfl rfl hc i pins s3 σ3 H3 X.xe I3 (stat fr3) st3 go) fun r s4 ⟨u,hr,h4⟩=>?_)
  subst hr
  refine wpAny_passesOwn hp (thn h4 fun _ s5 ⟨x,H5,I5,r5,y5,st5,fr5⟩=>?_)
  have I5':=I5.pinned (stat fr5) (T.obj _ _ st5)
  refine wpAny_passesOwn hp (thn (hg _ s5 σ3 H5 x u _ I5' r5 (step x H5 y5)) fun _ s6 ⟨σ6,H6,I6,q6⟩=>?_)
  refine wpAny_passesOwn hp (thn (hb _ s6 σ6 H6 _ I6 q6) fun f s7 q7=>?_)
  have again:∀{σ7:St}{H7:Hp},Inv X (pins++ZcM fp s5.heap) σ7 H7 s7->N σ7 H7->∃m,m<n/\∃i σ' H',Inv X pins σ' H' s7/\tn i s7.heap/\(∀b∈fp,H' b=none)/\W i m σ' H':=fun {σ7 H7} I7 n7=>by
   obtain⟨m',hm,w7⟩:=hN σ7 H7 n7
   refine⟨m',hm,i+1,σ7,H7,I7.unpinned,T.keep _ _ _ st5 fun b hb o e=>(I7.pin (b,o) (Zrk _ (Zrk _ (J8 hb e)))).1,fun b hb=>?_,w7⟩
   obtain⟨o,e,d⟩:=T.obj _ _ st5 b hb
   exact(I7.pin (b,o) (Zrk _ (Zrk _ (J8 hb e)))).2.1
  cases f with
  |next=>obtain⟨σ7,H7,I7,n7⟩:=q7;exact again I7 n7
  |cont=>obtain⟨σ7,H7,I7,n7⟩:=q7;exact again I7 n7
  |brk=>obtain⟨σ7,H7,I7,q7⟩:=q7;exact⟨σ7,H7,I7.unpinned,q7⟩
  |ret v=>obtain⟨x7,σ7,H7,I7,r7,q7⟩:=q7;exact⟨x7,σ7,H7,I7.unpinned,r7,q7⟩
end
noncomputable abbrev R2:=V->V->Hp->VK->Prop
def OpR(X:Cx)(f:Value->Value->Sem Value)(r:R2):Prop:=
 ∀(pins:List (Addr×Obj)) (s:Shared) (σ:St) (H:Hp) (x y:V) (v u:Value) (Q:VK),Inv X pins σ H s->Jf x v->Jf y u->r x y H Q ->
  wpAny (model X.prog X.w) X.A (f v u) (EP X pins σ Q) X.xe s
def Vg(X:Cx)(f:Value)(r:List V->Hp->VK->Prop):Prop:=
 ∀(pins:List (Addr×Obj)) (s:Shared) (σ:St) (H:Hp) (xs:List V) (us:List Value) (Q:VK),Inv X pins σ H s->ZP xs us->r xs H Q ->
  wpAny (model X.prog X.w) X.A (call f us) (EP X pins σ Q) X.xe s
def ZmH(X:Cx)(r:V->Hp->(Bool->Hp->Prop)->Prop):Prop:=
 ∀(pins:List (Addr×Obj)) (s:Shared) (σ:St) (H:Hp) (x:V) (v:Value) (Q:Bool->Hp->Prop),Inv X pins σ H s->Jf x v->r x H Q ->
  wpAny (model X.prog X.w) X.A (truthy v) (TP X pins σ Q) X.xe s
noncomputable def tOp(r:R2)(ta tb:TE):TE:=fun σ H Q=>ta σ H fun x H1=>tb σ H1 fun y H2=>r x y H2 Q
noncomputable def rI(C:Int->Int->Prop)(g:Int->Int->V):R2:=fun x y H Q=>∃i j,x=.int i/\y=.int j/\C i j/\Q (g i j) H
noncomputable def rI0(g:Int->Int->V):R2:=fun x y H Q=>∃i j,x=.int i/\y=.int j/\Q (g i j) H
section
variable {X:Cx}{a b:Expr}{ta tb:TE}{pos:Pos}
theorem ZlV(ha:PE X a ta)(hb:PE X b tb){pins:List (Addr×Obj)}{s:Shared}{σ:St}{H:Hp}{R:V->V->Hp->Prop}(I:Inv X pins σ H s)(h:ta σ H fun x H1=>tb σ H1 fun y H2=>R x y H2){Q:Value->Shared->Prop}{f:Value->Value->Sem Value}(hf:∀v u s2 x y H2,Inv X pins σ H2 s2->Jf x v->Jf y u->R x y H2->wpAny (model X.prog X.w) X.A (f v u) Q X.xe s2) :
  wpAny (model X.prog X.w) X.A (eval a X.env) (fun v s₁=>wpAny (model X.prog X.w) X.A (eval b X.env) (fun u s₂=>wpAny (model X.prog X.w) X.A (f v u) Q X.xe s₂) X.xe s₁) X.xe s:=by
 refine thn (ha pins s σ H _ I h) fun v s1 ⟨x,H1,I1,r1,q1⟩=>?_
 refine thn (hb pins s1 σ H1 _ I1 q1) fun u s2 ⟨y,H2,I2,r2,q2⟩=>?_
 exact hf v u s2 x y H2 I2 r1 r2 q2
theorem ZL{op:Operator}{r:R2}(ho:OpR X (binaryOp op) r)(ha:PE X a ta)(hb:PE X b tb):PE X (.BinOp a op b pos) (tOp r ta tb):=by
 intro pins s σ H Q I h
 exact wpAny_BinOp (ZlV ha hb I h fun v u s2 x y H2 I2 rx ry q=>ho pins s2 σ H2 x y v u Q I2 rx ry q)
theorem opI{f:Value->Value->Sem Value}{C:Int->Int->Prop}{g:Int->Int->Int}(rule:∀(i j:Int) (t u:Tok) (s:Shared) (Q:Value->Shared->Prop) (E:Value->Shared->Prop),C i j->Q (.int (g i j) s.toks) { s with toks:=s.toks+1 }->wpAny (model X.prog X.w) X.A (f (.int i t) (.int j u)) Q E s) :
  OpR X f (rI C fun i j=>.int (g i j)):=by
 intro pins s σ H x y v u Q I rx ry h
 obtain⟨i,j,rfl,rfl,hc,q⟩:=h
 obtain⟨t,rfl⟩:=rx
 obtain⟨t',rfl⟩:=ry
 exact rule i j t t' s _ _ hc ⟨.int (g i j),H,I.tok _,⟨_,rfl⟩,q⟩
theorem Zmu{f:Value->Value->Sem Value}{g:Int->Int->Int}(rule:∀(i j:Int) (t u:Tok) (s:Shared) (Q:Value->Shared->Prop) (E:Value->Shared->Prop),Q (.int (g i j) s.toks) { s with toks:=s.toks+1 }->wpAny (model X.prog X.w) X.A (f (.int i t) (.int j u)) Q E s) :
  OpR X f (rI0 fun i j=>.int (g i j)):=by
 intro pins s σ H x y v u Q I rx ry h
 obtain⟨i,j,rfl,rfl,q⟩:=h
 obtain⟨t,rfl⟩:=rx
 obtain⟨t',rfl⟩:=ry
 exact rule i j t t' s _ _ ⟨.int (g i j),H,I.tok _,⟨_,rfl⟩,q⟩
theorem Zlr{f:Value->Value->Sem Value}{g:Int->Int->Bool}(rule:∀(i j:Int) (t u:Tok) (s:Shared) (Q:Value->Shared->Prop) (E:Value->Shared->Prop),Q (.bool (g i j)) s->wpAny (model X.prog X.w) X.A (f (.int i t) (.int j u)) Q E s) :
  OpR X f (rI0 fun i j=>.bl (g i j)):=by
 intro pins s σ H x y v u Q I rx ry h
 obtain⟨i,j,rfl,rfl,q⟩:=h
 obtain⟨t,rfl⟩:=rx
 obtain⟨t',rfl⟩:=ry
 exact rule i j t t' s _ _ ⟨.bl (g i j),H,I,rfl,q⟩
def Zj5(i j:Int):Prop:=0<=j/\j<=1000000/\i.natAbs<2^64
theorem JV:OpR X (binaryOp .Add) (rI0 fun i j=>.int (i+j)):=Zmu fun _ _ _ _ _ _ _ q=>add_int q
theorem Zkt:OpR X (binaryOp .Sub) (rI0 fun i j=>.int (i-j)):=Zmu fun _ _ _ _ _ _ _ q=>sub_int q
theorem Jd:OpR X (binaryOp .Mod) (rI (fun _ j=>0<j) fun i j=>.int (i%j)):=opI fun i j _ _ _ _ _ hc q=>by
 have h1:(0:Int)<j:=hc
 exact mod_int' (by omega) (by rw[Int.fmod_eq_emod_of_nonneg i (by omega)];exact q)
theorem Zkv:OpR X (binaryOp .Pow) (rI Zj5 fun i j=>.int (i^j.toNat)):=opI fun _ _ _ _ _ _ _ hc q=>pow_int_small hc.1 hc.2.1 hc.2.2 q
variable {c:Expr}
theorem ZhN{pins:List (Addr×Obj)}{σ:St}{H:Hp}{s:Shared}{Q:VK}{k k':Bool}(I:Inv X pins σ H s)(q:Q (.bl k) H)(e:k=k'):EP X pins σ Q (.bool k') s:=by
 subst e
 exact⟨.bl k,H,I,rfl,q⟩
theorem Zgw:OpR X (compareOp .Lt) (rI0 fun i j=>.bl (decide (i<j))):=Zlr fun _ _ _ _ _ _ _ q=>lt_int q
theorem ZlI:OpR X (compareOp .LtE) (rI0 fun i j=>.bl (decide (i<=j))):=Zlr fun _ _ _ _ _ _ _ q=>le_int q
theorem Zd2:OpR X (compareOp .Gt) (rI0 fun i j=>.bl (decide (j<i))):=Zlr fun _ _ _ _ _ _ _ q=>gt_int q
theorem ZlJ:OpR X (compareOp .GtE) (rI0 fun i j=>.bl (decide (j<=i))):=Zlr fun _ _ _ _ _ _ _ q=>ge_int q
theorem ZhC:OpR X (compareOp .Is) (fun x y H Q=>y=.non/\Q (.bl (decide (x=.non))) H):=by
 intro pins s σ H x y v u Q I rx ry h
 obtain⟨rfl,q⟩:=h
 cases ry
 refine is_none_gen (ZhN I q ?_)
 cases x<;>first
  |(cases rx;rfl)
  |(obtain⟨t,rfl⟩:=rx;rfl)
theorem ZiG:OpR X (compareOp .IsNot) (fun x y H Q=>y=.non/\Q (.bl (!decide (x=.non))) H):=by
 intro pins s σ H x y v u Q I rx ry h
 obtain⟨rfl,q⟩:=h
 cases ry
 refine isnot_none_gen (ZhN I q ?_)
 cases x<;>first
  |(cases rx;rfl)
  |(obtain⟨t,rfl⟩:=rx;rfl)
theorem ZB(b:Expr){op:CmpOp}(h:op≠.In:=by decide)(h2:op≠.NotIn:=by decide):behindInMarks op b=false:=by
 have e1:(op==CmpOp.In)=false:=by cases op<;>first|rfl|exact absurd rfl h
 have e2:(op==CmpOp.NotIn)=false:=by cases op<;>first|rfl|exact absurd rfl h2
 cases b<;>simp[behindInMarks,e1,e2]
theorem Jx{op:CmpOp}{r:R2}(ho:OpR X (compareOp op) r)(ha:PE X a ta)(hb:PE X b tb)(hm:behindInMarks op b=false):PE X (.Compare a [op] [b] pos) (tOp r ta tb):=by
 intro pins s σ H Q I h
 exact wpAny_Compare1 (ZlV ha hb I h fun v u s2 x y H2 I2 rx ry q=>ho pins s2 σ H2 x y v u Q I2 rx ry q) hm
noncomputable def ZjE(t:TE):TT:=fun σ H Q=>t σ H fun x H'=>∃k,x=.bl k/\Q k H'
theorem Z6{op:CmpOp}{r:R2}(ho:OpR X (compareOp op) r)(ha:PE X a ta)(hb:PE X b tb)(hm:behindInMarks op b=false):PT X (.Compare a [op] [b] pos) (ZjE (tOp r ta tb)):=by
 intro pins s σ H Q I h
 refine wpAny_isTrue_Compare1 (thn (ha pins s σ H _ I h) fun v s1 ⟨x,H1,I1,r1,q1⟩=>thn (hb pins s1 σ H1 _ I1 q1) fun u s2 ⟨y,H2,I2,r2,q2⟩ =>
  thn (ho pins s2 σ H2 x y v u _ I2 r1 r2 q2) fun c s3 ⟨z,H3,I3,r3,k,e,q3⟩=>?_) hm
 subst e
 cases r3
 exact wpAny_truthy_bool ⟨H3,I3,q3⟩
def ZlZ(K:W.Frag)(x:V)(H:Hp)(k:Bool):Prop:=
 match x with
 |.non=>k=false
 |.bl b=>k=b
 |.int i=>k=(i != 0)
 |.str y=>y.length<=sizeLine/\k=((y.length:Int) != 0)
 |.byt y=>y.size<=sizeLine/\k=((y.size:Int) != 0)
 |.ref p=>(∃xs,SqL K H p xs/\k=!xs.isEmpty)\/(∃xs,SqT K H p xs/\k=!xs.isEmpty)\/∃kvs,H p=some (.dK kvs)/\k=!kvs.isEmpty
 |_=>False
theorem Zd9{κ:Type}{kvs:List (κ×V)}{vs:List (κ×Value)}(r:KV kvs vs):(!vs.isEmpty)=!kvs.isEmpty:=by
 cases r<;>rfl
theorem QN{xs:List V}{its:List Value}(r:ZP xs its):(!its.toArray.isEmpty)=!xs.isEmpty:=by
 cases r<;>simp
theorem Qj:(sizeLine:Nat)<2^63:=by rw[sizeLine_eq];decide
theorem ZjC:ZmH X (fun x H Q=>∃k,ZlZ X.K x H k/\Q k H):=by
 intro pins s σ H x v Q I rx h
 obtain⟨k,e,q⟩:=h
 have hl:=Qj
 have hs:sizeLine=16777216:=sizeLine_eq
 cases x with
 |non =>
  cases rx
  have e':k=false:=e
  subst e'
  exact truthy_none ⟨H,I,q⟩
 |bl b =>
  cases rx
  have e':k=b:=e
  subst e'
  exact wpAny_truthy_bool ⟨H,I,q⟩
 |int i =>
  obtain⟨t,rfl⟩:=rx
  have e':k=(i != 0):=e
  subst e'
  exact PySem.P.truthy_int ⟨H,I,q⟩
 |str y =>
  obtain⟨t,rfl⟩:=rx
  obtain⟨hy,e'⟩:y.length<=sizeLine/\k=((y.length:Int) != 0):=e
  subst e'
  exact PySem.P.truthy_str (by omega) ⟨H,I.tok _,q⟩
 |byt y =>
  obtain⟨t,rfl⟩:=rx
  obtain⟨hy,e'⟩:y.size<=sizeLine/\k=((y.size:Int) != 0):=e
  subst e'
  exact PySem.W.truthy_bytes (by omega) ⟨H,I.tok _,q⟩
 |ref p =>
  cases rx
  have e':(∃xs,SqL X.K H p xs/\k=!xs.isEmpty)\/(∃xs,SqT X.K H p xs/\k=!xs.isEmpty)\/∃kvs,H p=some (.dK kvs)/\k=!kvs.isEmpty:=e
  rcases e' with ⟨xs,hx,e'⟩|⟨xs,hx,e'⟩|⟨kvs,hx,e'⟩
  ·subst e'
   obtain⟨its,r,pl,hz⟩:=I.list hx
   have hlen:=r.length
   exact wpAny_truthy_list pl.isList (by simp only[Zrq];omega) ⟨H,I.tok _,by rw[QN r];exact q⟩
  ·subst e'
   obtain⟨its,r,pl,hz⟩:=I.tuple hx
   have hlen:=r.length
   exact truthy_tuple pl (by simp only[Zrq];omega) ⟨H,I.tok _,by rw[QN r];exact q⟩
  ·subst e'
   obtain⟨hz,hS,vs,r,m⟩:kvs.length<=sizeLine/\(p==sysModules)=false/\∃vs,KV kvs vs/\s.heap.DictOf (Jj X.prog X.w) p vs:=I.hok p _ hx
   have hlen:kvs.length=vs.length:=Paired.length r
   exact wpAny_truthy_dict hS m (by omega) ⟨H,I.tok _,by rw[Zd9 r];exact q⟩
 |_=>exact(show False from e).elim
theorem Zgb(ha:PE X a ta)(he:∀whole,isTrue a X.env whole=(do let v <- whole;standAt a.pos;holding [v] (truthy v))) :
  PT X a (fun σ H Q=>ta σ H fun x H'=>∃k,ZlZ X.K x H' k/\Q k H'):=by
 intro pins s σ H Q I h
 exact isTrue_plain (thn (ha pins s σ H _ I h) fun v s1 ⟨x,H1,I1,r1,q1⟩=>ZjC pins s1 σ H1 x v Q I1 r1 q1) (he _)
theorem UT{x:V}{us:List Value}(r:ZP [x] us):∃u,us=[u]/\Jf x u:=by
 cases r with
 |cons r1 r2=>cases r2;exact⟨_,rfl,r1⟩
theorem Zl1{x y:V}{us:List Value}(r:ZP [x,y] us):∃u w',us=[u,w']/\Jf x u/\Jf y w':=by
 cases r with
 |cons r1 r2 =>
  cases r2 with
  |cons r3 r4=>cases r4;exact⟨_,_,rfl,r1,r3⟩
theorem Zf5:Vg X (.type "int") (fun xs H Q=>(∃i,xs=[.int i]/\Q (.int i) H)\/∃k,xs=[.bl k]/\Q (.int (if k then 1 else 0)) H):=by
 intro pins s σ H xs us Q I r h
 rcases h with ⟨i,rfl,q⟩|⟨k,rfl,q⟩
 ·obtain⟨u,rfl,t,rfl⟩:=UT r
  exact call_int_int ⟨.int i,H,I,⟨_,rfl⟩,q⟩
 ·obtain⟨u,rfl,r1⟩:=UT r
  cases r1
  exact call_int_bool ⟨.int (if k then 1 else 0),H,I.tok _,⟨_,rfl⟩,q⟩
end
theorem ZfL.some_of{v:V}{o:Option Value}(r:ZfL (some v) o):∃u,o=some u/\Jf v u:=by
 cases o with
 |none=>exact(show False from r).elim
 |some u=>exact⟨u,rfl,r⟩
section
end
structure Cls(K:PySem.W.Frag)(C:Addr):Prop where
 pg:PySem.W.plainGet K C Str.empty=true
 hd:PySem.W.hasDictIn K C=true
 po:PySem.W.plainOver K C=true
 sa:PySem.W.findIn K (.ref C) "__setattr__"=some (some (.builtin "object.__setattr__"))
section
end
structure VW(k:Nat)(A:Around):Prop where
 hd:A.handled=none
 dp:A.depth+3*k+5<recursionLimit
 un:A.units+16*k+200<cLine
theorem VW.mono{j k:Nat}{A:Around}(r:VW k A)(h:j<=k):VW j A:=⟨r.hd,by have:=r.dp;omega,by have:=r.un;omega⟩
theorem VW.deeper{k:Nat}{A:Around}(r:VW (k+1) A)(env:Env):VW k (A.deeper env):=
 ⟨r.hd,by have:=r.dp;show A.depth+1+3*k+5<_;omega,by have:=r.un;show A.units+3+16*k+200<_;omega⟩
theorem VW.in1{k:Nat}{A:Around}(r:VW (k+1) A):VW k A.in1:=
 ⟨r.hd,by have:=r.dp;show A.depth+3*k+5<_;omega,by have:=r.un;show A.units+1+16*k+200<_;omega⟩
theorem VW.depth{k:Nat}{A:Around}(r:VW k A):A.depth<recursionLimit:=by have:=r.dp;omega
theorem VW.units{k:Nat}{A:Around}(r:VW k A):A.units+64<cLine:=by have:=r.un;omega
noncomputable def ZdY:TA:=fun _ H Q=>Q [] H
noncomputable def U0(ta:TE)(tr:TA):TA:=fun σ H Q=>ta σ H fun x H1=>tr σ H1 fun xs H2=>Q (x::xs) H2
section
variable {X:Cx}{e:Expr}{es:List Expr}{te:TE}{t:TA}{pos:Pos}
theorem Zf:PA X [] ZdY:=fun _ _ _ _ H Q I h=>Calls.spliced_nil ⟨[],H,I,.nil,h⟩
theorem Zb(ha:PE X e te)(hr:PA X es t)(hs:starEach (e::es) X.env=(false,eval e X.env)::starEach es X.env:=by rfl):PA X (e::es) (U0 te t):=by
 intro pos pins s σ H Q I h
 rw[hs]
 show wpAny _ _ (spliced ((false,eval e X.env)::backTo pos (starEach es X.env))) _ _ s
 refine Calls.spliced_cons (thn (ha pins s σ H _ I h) fun u s1 ⟨x,H1,I1,r1,q1⟩=>?_)
 exact thn (hr pos pins s1 σ H1 _ I1 q1) fun us s2 ⟨xs,H2,I2,r2,q2⟩=>⟨x::xs,H2,I2,.cons r1 r2,q2⟩
noncomputable def Zl5(t:TA):TE:=fun σ H Q=>t σ H fun xs H1=>xs.length<=sizeLine/\∀p,H1 p=none->Q (.ref p) (upd H1 p (.tup xs))
noncomputable def Zl6(t:TA):TE:=fun σ H Q=>t σ H fun xs H1=>xs.length<=sizeLine/\∀p,H1 p=none->Q (.ref p) (upd H1 p (.lst xs))
theorem VE{x1}(h:PA X es t):PE X (.Tuple es x1 pos) (Zl5 t):=by
 intro pins s σ H Q I hq
 refine wpAny_Tuple_spliced (thn (h pos pins s σ H _ I hq) fun us s1 ⟨xs,H1,I1,r,z,q⟩=>⟨by rw[<- r.length];exact z, ?_⟩)
 have hf:H1 s1.heap.objs.size=none:=I1.hok.fresh (Zrl _)
 refine⟨.ref s1.heap.objs.size,upd H1 s1.heap.objs.size (.tup xs),I1.laid (t':=s1.toks) (fun b u e=>Heap.get?_push_of_some _ e) (Zrl _) ?_,rfl,q _ hf⟩
 exact⟨z,us,r,⟨_,Heap.get?_push_size _ rfl,rfl,_,rfl⟩⟩
theorem VF(h:PA X es t):PE X (.List es pos) (Zl6 t):=by
 intro pins s σ H Q I hq
 refine wpAny_List_spliced (thn (h pos pins s σ H _ I hq) fun us s1 ⟨xs,H1,I1,r,z,q⟩=>⟨by rw[<- r.length];exact z, ?_⟩)
 have hf:H1 s1.heap.objs.size=none:=I1.hok.fresh (Zrl _)
 refine⟨.ref s1.heap.objs.size,upd H1 s1.heap.objs.size (.lst xs),I1.laid (t':=s1.toks) (fun b u e=>Heap.get?_push_of_some _ e) (Zrl _) ?_,rfl,q _ hf⟩
 exact⟨z,us,0,r,Heap.get?_push_size _ rfl⟩
end
noncomputable abbrev Sp:=List V->Hp->VK->XK->Prop
noncomputable abbrev CXT:=List Env->Hp->Shared->XK->Value->Shared->Prop
structure Zlx(P:Program)(w:World)(K:PySem.W.Frag)(mg:Str->Option Value)(base:Heap)(A:Around)(outer:List Env)(s:Shared)(H:Hp):Prop where
 frames:A.frames=some outer
 mod:Mod K mg base
 bs:∀b o,base.get? b=some o->s.heap.get? b=some o/\H b=none
 bsz:base.objs.size<=s.heap.objs.size
 funs:s.heap.FunFrames base outer
 frf:∀b∈frs outer,H b=none
 hok:HOk P w H s.heap
 bare:AllBare s.gens
 tab:Zib K H
def CE(outer:List Env)(P:Program)(w:World)(H:Hp)(s:Shared)(Q:VK)(u:Value)(s':Shared):Prop:=
 ∃v H',s'.os=s.os/\AllBare s'.gens/\Un (frs outer) [] H H' s.heap s'.heap/\HOk P w H' s'.heap/\Jf v u/\Q v H'
def CR(CX:CXT)(outer:List Env)(P:Program)(w:World)(H:Hp)(s:Shared)(Q:VK)(E:XK)(r:Result)(s':Shared):Prop:=
 match r with
 |.ok (.ret u)=>CE outer P w H s Q u s'
 |.ok _=>False
 |.error e=>CX outer H s E e s'
structure JF(P:Program)(w:World)(K:PySem.W.Frag)(mg:Str->Option Value)(base:Heap)(CX:CXT)(k:Nat)(f:Addr)(fd:FuncData)(ps:List Str)(sp:Sp):Prop where
 len:∀vs H Q E,sp vs H Q E->vs.length=ps.length
 run:∀(A:Around) (outer:List Env) (s:Shared) (H:Hp) (args:Args) (us:List Value) (vs:List V) (Q:VK) (E:XK),VW k A->Zlx P w K mg base A outer s H->BindsTo s fd args (ps.zip us)->ZP vs us->sp vs H Q E ->
  codeAny (model P w) A (.call (.ref f) args) (CR CX outer P w H s Q E) s
section
variable {X:Cx}{pins:List (Addr×Obj)}{σ:St}{H:Hp}{s s':Shared}
theorem Inv.env0(I:Inv X pins σ H s):Zlx X.prog X.w X.K X.mg X.base X.A X.stack s H:=
 ⟨I.ok.frames,I.ok.mod,I.bs,Zr7 I.ok.bsz I.sz,I.stack,I.stkFree,I.hok,I.bare,fun f c P h1=>I.base.tbls _ _ _ (I.ok.tab f c P h1)⟩
theorem Inv.after{Q:VK}{u:Value}(I:Inv X pins σ H s)(h:CE X.stack X.prog X.w H s Q u s'):EP X pins σ Q u s':=by
 obtain⟨v,H',os,bare,un,hok,r,q⟩:=h
 obtain⟨hh,g,d,t,os'⟩:=s'
 obtain rfl:os'=s.os:=os
 exact⟨v,H',I.call (h':=hh) (g':=g) (d':=d) (t':=t) (ch:=[]) un hok bare (fun b z=>absurd z (by simp)),r,q⟩
end
noncomputable def ZjK(sp:Sp)(dvs:List V)(E:XK)(t:TA):TE:=fun σ H Q=>t σ H fun vs H1=>sp (vs++dvs) H1 Q E
def Zcv(K:W.Frag)(fd:FuncData)(ps:List Str)(ds:List Value):Prop:=
 ∀(s:Shared) (us:List Value),K.In s.heap->(us++ds).length=ps.length->BindsTo s fd ⟨us,[]⟩ (ps.zip (us++ds))
theorem Zcv.all{K:W.Frag}{fd:FuncData}{ps:List Str}(h:∀us:List Value,us.length=ps.length->bindArgs fd ⟨us,[]⟩=pure (ps.zip us)):Zcv K fd ps []:=fun s us _ hl=>by
 rw[ZsL] at hl ⊢
 exact .of_eq (h us hl)
def Zdq(CX:CXT)(X:Cx)(E:XK):Prop:=∀(pins:List (Addr×Obj)) (σ:St) (H:Hp) (s:Shared) (e:Value) (s':Shared),Inv X pins σ H s->CX X.stack H s E e s'->X.xe e s'
section
variable {X:Cx}{CX:CXT}{k:Nat}{f:Addr}{fd:FuncData}{ps:List Str}{sp:Sp}{dvs:List V}{ds:List Value}{E:XK}{x:Str}{p pos:Pos}{e:Expr}{es:List Expr}{t:TA}
theorem Zh3{pins:List (Addr×Obj)}{σ:St}{H:Hp}{s:Shared}{Q:VK}{us:List Value}{vs:List V}(F:JF X.prog X.w X.K X.mg X.base CX k f fd ps sp)(hr:VW k X.A)(hb:Zcv X.K fd ps ds)(hd:ZP dvs ds)(hx:Zdq CX X E)(I:Inv X pins σ H s)(r:ZP vs us)(h:sp (vs++dvs) H Q E):wpAny (model X.prog X.w) X.A (call (.ref f) us) (EP X pins σ Q) X.xe s:=by
 have r2:ZP (vs++dvs) (us++ds):=r.append hd
 have hl:(us++ds).length=ps.length:=by rw[<- r2.length];exact F.len _ _ _ _ h
 refine wpAny_call (codeAny_mono (F.run X.A X.stack s H ⟨us,[]⟩ (us++ds) (vs++dvs) Q E hr I.env0 (hb s us I.kIn hl) r2 h) fun r s' hq=>?_)
 cases r with
 |error e=>exact hx pins σ H s e s' I hq
 |ok fl =>
  cases fl with
  |ret u=>exact I.after hq
  |next=>exact False.elim hq
  |brk=>exact False.elim hq
  |cont=>exact False.elim hq
theorem Zi4(F:JF X.prog X.w X.K X.mg X.base CX k f fd ps sp)(hr:VW k X.A)(hg:Gl X x)(hm:X.mg x=some (.ref f))(hk:PySem.W.keepIn X.K (.ref f)=true)(hb:Zcv X.K fd ps ds)(hd:ZP dvs ds)(hx:Zdq CX X E)(ha:PA X (e::es) t)(hdb:(x==("__debug__":Str))=false:=by decide)(he:starEach (e::es) X.env=(false,eval e X.env)::starEach es X.env:=by rfl)(hpl:(backTo pos (starEach es X.env)).any (·.1)=false:=by rfl) :
  PE X (.Call (.Name x p) (e::es) [] pos) (ZjK sp dvs E t):=by
 intro pins s σ H Q I h
 refine wpAny_Call_Name_kw (ZbX I hg hm ?_ hdb)
 refine PySem.W.callWith_K (h₀:=X.base) I.ok.mod.kin hk (thn (ha pos pins s σ H _ I h) fun us s1 ⟨vs,H1,I1,r,q⟩=>⟨I1.kIn, ?_⟩) he hpl
 exact Zh3 F hr hb hd hx I1 r q
theorem Zgh(F:JF X.prog X.w X.K X.mg X.base CX k f fd ps sp)(hr:VW k X.A)(hg:Gl X x)(hm:X.mg x=some (.ref f))(hk:PySem.W.keepIn X.K (.ref f)=true)(hb:Zcv X.K fd ps ds)(hd:ZP dvs ds)(hx:Zdq CX X E)(hdb:(x==("__debug__":Str))=false:=by decide):PE X (.Call (.Name x p) [] [] pos) (ZjK sp dvs E ZdY):=by
 intro pins s σ H Q I h
 refine wpAny_Call_Name_kw (ZbX I hg hm ?_ hdb)
 exact PySem.W.callWith_K0 I.kIn hk (Zh3 (us:=[]) F hr hb hd hx I .nil h)
end
structure Zy(N P:List Str)(sc:Scope):Prop where
 kind:sc.kind=.function
 co:sc.isCoroutine=false
 gen:sc.isGenerator=false
 nd:N.Nodup
 pre:N.take P.length=P
 par:∀x∈P,sc.names.lookup x=some .local\/sc.names.lookup x=some .cell
 nofree:∀y∈sc.names,y.2≠.free
theorem Zbw{kindOf:Str->Option NameKind}{x:Str}:∀{binds:List (Str×Value)}{m:Str->Option Value},(∀v,(x,v) ∉ binds)->bindL kindOf binds m x=m x
 |[],_,_=>rfl
 |(n,v)::r,m,h=>by
  unfold bindL
  rw[Zbw fun w hw=>h w (Zr6 _ hw)]
  split
  ·have:x≠n:=by rintro rfl;exact h v ZrM
   simp[this]
  ·rfl
theorem Zby{kindOf:Str->Option NameKind}{x:Str}:∀{binds:List (Str×Value)}{m:Str->Option Value},(∀v,(x,v) ∉ binds)->bindC kindOf binds m x=m x
 |[],_,_=>rfl
 |(n,v)::r,m,h=>by
  unfold bindC
  rw[Zby fun w hw=>h w (Zr6 _ hw)]
  split
  ·rfl
  ·have:x≠n:=by rintro rfl;exact h v ZrM
   simp[this]
theorem Zbx{kindOf:Str->Option NameKind}{x:Str}{v:Value}:∀{P:List Str}{vs:List Value}{i:Nat}{m:Str->Option Value},P.Nodup->P[i]?=some x->vs[i]?=some v->kindOf x=some .local ->
  bindL kindOf (P.zip vs) m x=some v
 |[],_,_,_,_,h,_,_=>by simp at h
 |_::_,[],_,_,_,_,h,_=>by simp at h
 |p::P,w::vs,0,m,nd,h1,h2,hk=>by
  simp at h1 h2;subst h1;subst h2
  show bindL kindOf ((p,w)::P.zip vs) m p=_
  unfold bindL
  rw[Zbw fun v hv=>(Zse.mp nd).1 (Ztt hv).1,if_pos hk]
  simp
 |p::P,w::vs,i+1,m,nd,h1,h2,hk=>by
  show bindL kindOf ((p,w)::P.zip vs) m x=_
  unfold bindL
  exact Zbx (i:=i) (Zse.mp nd).2 (by simpa using h1) (by simpa using h2) hk
theorem Zbz{kindOf:Str->Option NameKind}{x:Str}{v:Value}:∀{P:List Str}{vs:List Value}{i:Nat}{m:Str->Option Value},P.Nodup->P[i]?=some x->vs[i]?=some v->kindOf x≠some .local ->
  bindC kindOf (P.zip vs) m x=some v
 |[],_,_,_,_,h,_,_=>by simp at h
 |_::_,[],_,_,_,_,h,_=>by simp at h
 |p::P,w::vs,0,m,nd,h1,h2,hk=>by
  simp at h1 h2;subst h1;subst h2
  show bindC kindOf ((p,w)::P.zip vs) m p=_
  unfold bindC
  rw[Zby fun v hv=>(Zse.mp nd).1 (Ztt hv).1,if_neg hk]
  simp
 |p::P,w::vs,i+1,m,nd,h1,h2,hk=>by
  show bindC kindOf ((p,w)::P.zip vs) m x=_
  unfold bindC
  exact Zbz (i:=i) (Zse.mp nd).2 (by simpa using h1) (by simpa using h2) hk
noncomputable def Ua(N:List Str)(vs:List V):St:=vs.map some++List.replicate (N.length-vs.length) none
noncomputable def Zhm(CX:CXT)(P:Program)(w:World)(K:W.Frag)(mg:Str->Option Value)(base:Heap)(N:List Str)(qual:Str)(scope:Scope)(f:Addr)(cd:Value)(A:Around)(outer:List Env)(s:Shared)(H:Hp)(E:XK):Cx where
 prog:=P
 w:=w
 K:=K
 mg:=mg
 base:=base
 A:=A.deeper (envOfC qual scope s.heap.objs.size f cd)
 N:=N
 s₀:=s
 H₀:=H
 env:=envOfC qual scope s.heap.objs.size f cd
 outer:=outer
 stack:=envOfC qual scope s.heap.objs.size f cd::outer
 ex:=[]
 calm:=true
 fn:=fun _=>true
 pn:=[]
 xe:=fun e s'=>wpAny (model P w) (A.deeper (envOfC qual scope s.heap.objs.size f cd)) (leaving (envOfC qual scope s.heap.objs.size f cd) e) (fun _ s''=>CX outer H s E e s'') (fun e' s''=>CX outer H s E e' s'') s'
theorem Zdk{sc:Scope}{n:Nat}{x:Str}(h:sc.names.lookup x=some .cell):∃c,(cellsFrom n sc.names []).lookup x=some c:=by
 have q:=PySem.W.cellsFrom_some sc.names n [] (.inl h)
 exact Option.isSome_iff_exists.mp q
theorem Zfd{CX:CXT}{P:Program}{w:World}{K:W.Frag}{mg:Str->Option Value}{base:Heap}{N ps:List Str}{qual:Str}{scope:Scope}{f:Addr}{cd:Value}{A:Around}{outer:List Env}{s s1:Shared}{H:Hp}{E:XK}{us:List Value}{vs:List V}(S:Zy N ps scope)(hd:A.handled=none)(e0:Zlx P w K mg base A outer s H)(hl:vs.length=ps.length)(r:ZP vs us)(x:InCallC s s.heap.objs.size (bindL (envOfC qual scope s.heap.objs.size f cd).kindOf (ps.zip us) fun _=>none) (cellsFrom (s.heap.objs.size+1) scope.names []) (bindC (envOfC qual scope s.heap.objs.size f cd).kindOf (ps.zip us) fun _=>none) s1) :
  Inv (Zhm CX P w K mg base N qual scope f cd A outer s H E) [] (Ua N vs) H s1:=by
 have hpl:ps.length<=N.length:=by have:=congrArg List.length S.pre;rw[Zr9] at this;omega
 obtain⟨h1,tk,rfl,hk⟩:=x.done
 have noA:∀b:Addr,b ∉ (Zhm CX P w K mg base N qual scope f cd A outer s H E).ex:=fun b z=>absurd (show b∈([]:List Addr) from z) (by simp)
 refine⟨⟨e0.mod,S.kind,rfl,rfl,Zrl _,fun y z c h1 h2=>?_,fun y hy=>?_,fun y c _ h=>?_,fun _=>hd,Around.frames_deeper e0.frames,.inr ⟨rfl,rfl⟩,fun b z=>absurd z (noA b),e0.bs,e0.bsz,fun b _ _=>noA b,fun b z=>absurd z (noA b),e0.funs,e0.frf,e0.tab⟩,
  rfl,e0.bare,Un.kept hk,⟨_,x.toInCall.ns,fun i y v h1 h2 h3=>?_⟩,fun y c h=>⟨_,x.cell y c h⟩,e0.hok.fresh (Zrl _),fun y c h=>?_,fun p hp=>absurd (show p∈([]:List (Addr×Obj)) from hp) (by simp),e0.hok.kept hk, ?_⟩
 ·exact name_of_addr x.apart (PySem.mem_of_lookup h1) (PySem.mem_of_lookup h2)
 ·have hy:scope.names.lookup y=some .cell\/scope.names.lookup y=some .free:=hy
  rcases hy with hy|hy
  ·exact Zdk hy
  ·exact absurd rfl (S.nofree _ (PySem.mem_of_lookup hy))
 ·exact Zs7 (x.above y c (PySem.mem_of_lookup h))
 ·have hi:i<vs.length:=by
   unfold Ua at h2
   by_cases hi:i<vs.length
   ·exact hi
   ·rw[Zrs (by simpa using hi)] at h2
    rw[ZsM] at h2
    split at h2<;>cases h2
  have ha:vs[i]?=some v:=by
   unfold Ua at h2
   rw[Zrw (by simpa using hi),Zrn] at h2
   cases e:vs[i]? with
   |none=>rw[e] at h2;cases h2
   |some a=>rw[e] at h2;cases h2;rfl
  obtain⟨u,hu,rv⟩:=r.get ha
  have hp:ps[i]?=some y:=by
   rw[<- S.pre,Zst (by omega)];exact h1
  have ndP:ps.Nodup:=by rw[<- S.pre];exact S.nd.sublist (Ztp _ _)
  refine⟨u,rv, ?_⟩
  rcases S.par y (Zrh hp) with k|k
  ·exact .inl ⟨k,Zbx ndP hp hu k⟩
  ·obtain⟨c,e⟩:=Zdk (n:=s.heap.objs.size+1) k
   refine .inr ⟨.inl k,c,e, ?_⟩
   have q:=x.cell y c e
   rw[Zbz ndP hp hu (by show scope.names.lookup y≠_;rw[k];decide)] at q
   exact q
 ·exact e0.hok.fresh (Zs7 (x.above y c (PySem.mem_of_lookup h)))
 ·unfold Ua
  show _=N.length
  rw[ZrT,Zrj,List.length_replicate]
  omega
theorem ZkK{CX:CXT}{P:Program}{w:World}{K:W.Frag}{mg:Str->Option Value}{base:Heap}{k:Nat}{f:Addr}{name qual:Str}{params:Arguments}{body:List Stmt}{scope:Scope}{dV kV doc pm cdv ct oc:Value}{an od:Option Addr}{osl:Array (Option Value)}{N ps:List Str}{sp:Sp}(lk:K.lookup f=some ⟨oc,od,.func (PySem.W.fnOf name qual params body scope dV kV doc pm an cdv ct),osl⟩)(hcd:PySem.W.codeIn K cdv qual=true)(S:Zy N ps scope)(len:∀vs H Q E,sp vs H Q E->vs.length=ps.length)(hbody:∀(A:Around) (outer:List Env) (s:Shared) (H:Hp) (vs:List V) (Q:VK) (E:XK),VW k (A.deeper (envOfC qual scope s.heap.objs.size f cdv))->sp vs H Q E ->
   ∃t,PSs (Zhm CX P w K mg base N qual scope f cdv A outer s H E) body t/\t { nx:=fun _ H'=>Q .non H',rt:=Q } (Ua N vs) H) :
  JF P w K mg base CX (k+1) f (PySem.W.fnOf name qual params body scope dV kV doc pm an cdv ct) ps sp:=by
 refine⟨len,fun A outer s H args us vs Q E hr e0 hb r hsp=>?_⟩
 have hl:=len _ _ _ _ hsp
 have KX:K.In s.heap:=e0.mod.kin.keeps fun b o e=>(e0.bs b o e).1
 have lim:s.heap.NoLimit:=e0.mod.nolimit.keeps fun b o e=>(e0.bs b o e).1
 have hkind:∀y∈ps.zip us,scope.names.lookup y.1=some .local\/(scope.names.lookup y.1=some .cell/\((cellsFrom (s.heap.objs.size+1) scope.names []).lookup y.1).isSome=true):=fun⟨n,v⟩ hy=>by
  rcases S.par n (Ztt hy).1 with q|q
  ·exact .inl q
  ·exact .inr ⟨q,PySem.W.cellsFrom_some _ _ _ (.inl q)⟩
 refine codeAny_call_function hr.depth (KX _ _ lk) rfl S.co S.gen rfl (PySem.W.codeRec_of KX hcd) (hb _ _ _ _ ?_)
 refine wpAny_newFunctionEnv_cells S.kind hkind fun env he s1 x=>?_
 subst he
 refine⟨lim.keeps x.toInCall.keep,codeAny_func ?_⟩
 obtain⟨t,ht,hq⟩:=hbody A outer s H vs Q E (hr.deeper _) hsp
 have I:Inv (Zhm CX P w K mg base N qual scope f cdv A outer s H E) [] (Ua N vs) H s1:=Zfd S hr.hd e0 hl r x
 refine wpAny_mono (ht [] s1 (Ua N vs) H _ I hq) (fun fl s' hs=>?_) fun e s' hs=>hs
 have fin:∀{σ':St}{H':Hp}{v:V}{u:Value},Inv (Zhm CX P w K mg base N qual scope f cdv A outer s H E) [] σ' H' s'->Jf v u->Q v H'->CE outer P w H s Q u s':=
  fun {σ' H' v u} J rv q=>⟨v,H',J.os,J.bare,J.base,J.hok,rv,q⟩
 cases fl with
 |ret u =>
  obtain⟨v,σ',H',J,rv,q⟩:=hs
  exact fin J rv q
 |next =>
  obtain⟨σ',H',J,q⟩:=hs
  exact fin (v:=V.non) (u:=Value.none) J rfl q
 |brk =>
  obtain⟨_,_,_,q⟩:=hs
  exact False.elim q
 |cont =>
  obtain⟨_,_,_,q⟩:=hs
  exact False.elim q
section
variable {X:Cx}{x:Str}{p pos:Pos}{e:Expr}{es:List Expr}{t:TA}{id T:String}{r:List V->Hp->VK->Prop}
noncomputable def tCB(r:List V->Hp->VK->Prop)(t:TA):TE:=fun σ H Q=>t σ H fun vs H1=>r vs H1 Q
theorem Zw(hc:Vg X (.builtin id) r)(hg:Gl X x)(hm:X.mg x=none)(hv:bootBuiltins x=some (.builtin id))(ha:PA X (e::es) t)(hn:x ≠ "__name__":=by decide)(hdb:(x==("__debug__":Str))=false:=by decide)(he:starEach (e::es) X.env=(false,eval e X.env)::starEach es X.env:=by rfl)(hpl:(backTo pos (starEach es X.env)).any (·.1)=false:=by rfl):PE X (.Call (.Name x p) (e::es) [] pos) (tCB r t):=by
 intro pins s σ H Q I h
 refine wpAny_Call_Name_kw (Qm I hg hm hv ?_ hn hdb)
 exact PyProof.Rows.callWith_builtin1 (thn (ha pos pins s σ H _ I h) fun us s1 ⟨vs,H1,I1,r1,q1⟩=>hc pins s1 σ H1 vs us Q I1 r1 q1) he hpl
theorem Zz(hc:Vg X (.type T) r)(hg:Gl X x)(hm:X.mg x=none)(hv:bootBuiltins x=some (.type T))(ha:PA X (e::es) t)(hn:x ≠ "__name__":=by decide)(hdb:(x==("__debug__":Str))=false:=by decide)(he:starEach (e::es) X.env=(false,eval e X.env)::starEach es X.env:=by rfl)(hpl:(backTo pos (starEach es X.env)).any (·.1)=false:=by rfl):PE X (.Call (.Name x p) (e::es) [] pos) (tCB r t):=by
 intro pins s σ H Q I h
 refine wpAny_Call_Name_kw (Qm I hg hm hv ?_ hn hdb)
 exact PyProof.Rows.callWith_type1 (thn (ha pos pins s σ H _ I h) fun us s1 ⟨vs,H1,I1,r1,q1⟩=>hc pins s1 σ H1 vs us Q I1 r1 q1) he hpl
end
end L2
namespace HT
open PySem PyProof.Rows
noncomputable def ZA:List Int->List Int->Bool
 |[],[]=>false
 |[],_::_=>true
 |_::_,[]=>false
 |x::xs,y::ys=>if x=y then ZA xs ys else decide (x<y)
theorem JW(x y:Int)(xs ys:List Int):ZA (x::xs) (y::ys)=if x=y then ZA xs ys else decide (x<y):=rfl
section
open PySem.SeqAt
open PySem.AutoSeq1 (wpAny_loadPart')
open PySem.MeetsSeq PySem.MeetsSeq2 PySem.MeetsSeq3
end
section
end
end HT
namespace L2
open PySem PySem.Spec PyProof.Rows
noncomputable abbrev TO:=St->Hp->(Option Int->Hp->Prop)->Prop
theorem ZdA{ns:List Int}:∀{us:List Value},ZP (ns.map V.int) us->IntsAre us ns:=by
 induction ns with
 |nil=>intro us r;rw[ZsK] at r;cases r;exact .nil
 |cons n ns ih =>
  intro us r
  rw[Zru] at r
  cases r with
  |cons r1 r2 =>
   obtain⟨t,e⟩:=r1
   subst e
   exact .cons n t (ih r2)
section
end
noncomputable def ixN(n:Nat)(i:Int):Option Nat:=if 0<=i then (if i<n then some i.toNat else none) else if -(n:Int)<=i then some (i+n).toNat else none
noncomputable def atI{α:Type}(xs:List α)(i:Int):Option α:=(ixN xs.length i).bind fun j=>xs[j]?
theorem ZbZ{n:Nat}{i:Int}{j:Nat}(h:ixN n i=some j):seqIndex? i n=some j/\j<n/\-(n:Int)<=i/\i<n:=by
 unfold ixN at h
 by_cases h0:0<=i
 ·rw[if_pos h0] at h
  by_cases h1:i<n
  ·rw[if_pos h1] at h
   have e:i.toNat=j:=Option.some.inj h
   exact⟨by rw[seqIndex_of h0 h1,e],by omega,by omega,h1⟩
  ·rw[if_neg h1] at h;cases h
 ·rw[if_neg h0] at h
  by_cases h1:-(n:Int)<=i
  ·rw[if_pos h1] at h
   have e:(i+n).toNat=j:=Option.some.inj h
   exact⟨by rw[seqIndex_neg (by omega) h1,e],by omega,h1,by omega⟩
  ·rw[if_neg h1] at h;cases h
theorem Za8{α:Type}{xs:List α}{i:Int}{v:α}(h:atI xs i=some v):∃j,seqIndex? i xs.length=some j/\xs[j]?=some v/\j<xs.length/\-(xs.length:Int)<=i/\i<xs.length:=by
 unfold atI at h
 cases e:ixN xs.length i with
 |none=>rw[e] at h;cases h
 |some j =>
  rw[e] at h
  obtain⟨h1,h2,h3,h4⟩:=ZbZ e
  exact⟨j,h1,h,h2,h3,h4⟩
def Zjw(b:Expr):Prop:=∀o i,subscripted b false o i=operate [o,i] (getItem o i)
def IxR(X:Cx)(r:R2):Prop:=
 ∀(value slice:Expr) (pins:List (Addr×Obj)) (s:Shared) (σ:St) (H:Hp) (x y:V) (v u:Value) (Q:VK),Inv X pins σ H s->Jf x v->Jf y u->r x y H Q ->
  subscripted slice false v u=operate [v,u] (getItem v u)->wpAny (model X.prog X.w) X.A (subscriptTail value slice v u) (EP X pins σ Q) X.xe s
def MtR(X:Cx)(id:String)(r:V->List V->Hp->VK->Prop):Prop:=
 ∀(pins:List (Addr×Obj)) (s:Shared) (σ:St) (H:Hp) (x:V) (xs:List V) (v:Value) (us:List Value) (Q:VK),Inv X pins σ H s->Jf x v->ZP xs us->r x xs H Q ->
  wpAny (model X.prog X.w) X.A (call (.builtin id) (v::us)) (EP X pins σ Q) X.xe s
section
variable {X:Cx}{a b:Expr}{ta tb:TE}{pos:Pos}
theorem IxR.or{r r':R2}(h:IxR X r)(h':IxR X r'):IxR X (fun x y H Q=>r x y H Q\/r' x y H Q):=by
 intro value slice pins s σ H x y v u Q I rx ry q hs
 rcases q with q|q
 ·exact h value slice pins s σ H x y v u Q I rx ry q hs
 ·exact h' value slice pins s σ H x y v u Q I rx ry q hs
theorem ZT{r:R2}(hr:IxR X r)(ha:PE X a ta)(hb:PE X b tb)(hs:Zjw b):PE X (.Subscript a b pos) (tOp r ta tb):=by
 intro pins s σ H Q I h
 exact Subscript_ (ZlV ha hb I h fun v u s2 x y H2 I2 rx ry q=>hr a b pins s2 σ H2 x y v u Q I2 rx ry q (hs _ _))
noncomputable def ZjV(K:W.Frag):R2:=fun x y H Q=>∃p xs i v,x=.ref p/\y=.int i/\SqL K H p xs/\atI xs i=some v/\Q v H
noncomputable def Zmp(K:W.Frag):R2:=fun x y H Q=>∃p xs i v,x=.ref p/\y=.int i/\SqT K H p xs/\atI xs i=some v/\Q v H
noncomputable def Zmq:R2:=fun x y H Q=>∃z i c,x=.str z/\y=.int i/\z.length<=sizeLine/\atI z.cps.toList i=some c/\Q (.str ⟨#[c]⟩) H
theorem ZiS:IxR X (ZjV X.K):=by
 intro value slice pins s σ H x y v u Q I rx ry h hs
 obtain⟨p,xs,i,z,rfl,rfl,hq,he,q⟩:=h
 cases rx
 obtain⟨t,rfl⟩:=ry
 obtain⟨its,r,pl,hz⟩:=I.list hq
 obtain⟨j,h1,h2,h3,h4,h5⟩:=Za8 he
 obtain⟨w,ew,rw'⟩:=r.get h2
 have hl:=r.length
 have hn:=Qj
 have fin:EP X pins σ Q w s:=⟨z,H,I,rw',q⟩
 by_cases h0:0<=i
 ·have hj:i.toNat=j:=by
   rw[seqIndex_of h0 h5] at h1
   exact Option.some.inj h1
  exact item_listR pl.isList h0 (by omega) (by rw[hj];simpa using ew) fin hs
 ·have hj:(i+(its.toArray.size:Int)).toNat=j:=by
   rw[seqIndex_neg (by omega) h4] at h1
   rw[Zrq,<- hl]
   exact Option.some.inj h1
  exact subscriptTail_builtinR (x:=w) pl.isList.typeIs slot_list_getitem.lookup
   (wpAny_getItem_list_neg (Q:=fun r s'=>r=w/\EP X pins σ Q r s') pl.isList (by omega) (by rw[Zrq]<;>omega) (by omega) (by rw[hj];simpa using ew) ⟨rfl,fin⟩) hs
theorem Zk8:IxR X (Zmp X.K):=by
 intro value slice pins s σ H x y v u Q I rx ry h hs
 obtain⟨p,xs,i,z,rfl,rfl,hq,he,q⟩:=h
 cases rx
 obtain⟨t,rfl⟩:=ry
 obtain⟨its,r,pl,hz⟩:=I.tuple hq
 obtain⟨j,h1,h2,h3,h4,h5⟩:=Za8 he
 obtain⟨w,ew,rw'⟩:=r.get h2
 have hl:=r.length
 have hn:=Qj
 have fin:EP X pins σ Q w s:=⟨z,H,I,rw',q⟩
 exact subscriptTail_builtinR (x:=w) pl.typeIs slot_tuple_getitem.lookup
  (getItem_tuple (j:=j) (Q:=fun r s'=>r=w/\EP X pins σ Q r s') pl (by omega) (by omega) (by rw[Zrq,<- hl];exact h1) (by simpa using ew) ⟨rfl,fin⟩) hs
theorem Zk9:IxR X Zmq:=by
 intro value slice pins s σ H x y v u Q I rx ry h hs
 obtain⟨z,i,c,rfl,rfl,hz,he,q⟩:=h
 obtain⟨t,rfl⟩:=rx
 obtain⟨t',rfl⟩:=ry
 obtain⟨j,h1,h2,h3,h4,h5⟩:=Za8 he
 have hl:z.cps.toList.length=z.length:=by simp[Str.length]
 rw[hl] at h1 h4 h5
 have hn:=Qj
 exact tail_any (typeIs_str s z t) slot_str_getitem.lookup (getItem_str (c:=c) (by
  have e1:decide (i < -(2^63:Int))=false:=decide_eq_false (by omega)
  have e2:decide (i ≥ 2^63)=false:=decide_eq_false (by omega)
  rw[e1,e2,Bool.or_false]) (by rw[h1];simpa using h2) ⟨.str ⟨#[c]⟩,H,I.tok _,⟨_,rfl⟩,q⟩) hs
noncomputable def rIx(K:W.Frag):R2:=fun x y H Q=>ZjV K x y H Q\/Zmp K x y H Q\/Zmq x y H Q
theorem ZkA:IxR X (rIx X.K):=ZiS.or (Zk8.or Zk9)
theorem Zd5(its:List Value)(n j:Nat)(u:Value):Obj.mapSeq (·.setIfInBounds j u) { cls:=.type "list",data:=.seq its.toArray n }={ cls:=.type "list",data:=.seq (its.set j u).toArray n }:=by
 simp[Obj.mapSeq]
theorem Inv.lst{pins:List (Addr×Obj)}{σ:St}{H:Hp}{s:Shared}{p:Addr}{xs:List V}(I:Inv X pins σ H s)(h:H p=some (.lst xs)) :
  ∃(its:List Value) (n:Nat),ZP xs its/\s.heap.get? p=some { cls:=.type "list",data:=.seq its.toArray n }/\xs.length<=sizeLine:=by
 obtain⟨z,its,n,r,e⟩:=I.hok p _ h
 exact⟨its,n,r,e,z⟩
theorem Inv.lstUpd{pins:List (Addr×Obj)}{σ:St}{H:Hp}{s:Shared}{p:Addr}{xs ys:List V}{its its':List Value}{n n':Nat}{f:Obj->Obj}(I:Inv X pins σ H s)(h:H p=some (.lst xs))(ho:s.heap.get? p=some { cls:=.type "list",data:=.seq its.toArray n })(hf:f { cls:=.type "list",data:=.seq its.toArray n }={ cls:=.type "list",data:=.seq its'.toArray n' })(r:ZP ys its')(hz:ys.length<=sizeLine)(t:Nat) :
  Inv X pins σ (upd H p (.lst ys)) { s with heap:=s.heap.update p f,toks:=t }:=by
 have e:(s.heap.update p f).get? p=some { cls:=.type "list",data:=.seq its'.toArray n' }:=by
  rw[Heap.get?_update_self f ho (by rw[hf]<;>rfl),hf]
 refine I.write (x:=p) (e:=p) (by rw[h];trivial) (.inl rfl) (fun b u hb q=>(Heap.get?_update_other _ _ (Ne.symm hb)).trans q) ⟨_,e⟩ ?_
 exact⟨hz,its',n',r,e⟩
def Ziw:V->V->V->Hp->(Hp->Prop)->Prop:=fun o i v H Q=>∃p xs k j,o=.ref p/\i=.int k/\H p=some (.lst xs)/\ixN xs.length k=some j/\Q (upd H p (.lst (xs.set j v)))
theorem V1:Zma X Ziw:=by
 intro pins s σ H o i v ov iv u Q I ro ri rv h
 obtain⟨p,xs,k,j,rfl,rfl,hp,hj,q⟩:=h
 cases ro
 obtain⟨t,rfl⟩:=ri
 obtain⟨its,n,r,ho,hz⟩:=I.lst hp
 obtain⟨h1,h2,h3,h4⟩:=ZbZ hj
 have hl:=r.length
 have hn:=Qj
 have I':Inv X pins σ (upd H p (.lst (xs.set j v))) { s with heap:=s.heap.update p (Obj.mapSeq (·.setIfInBounds j u)) }:=
  I.lstUpd hp ho (Zd5 its n j u) (r.set rv j) (by rw[ZsN];exact hz) s.toks
 by_cases h0:0<=k
 ·have hk:k.toNat=j:=by
   rw[seqIndex_of h0 h4] at h1
   exact Option.some.inj h1
  exact PySem.W.ki_setAt ho h0 (by omega) (by rw[Zrq,<- hl];exact h4) (by rw[hk];exact⟨_,I',q⟩)
 ·have hk:(k+(its.toArray.size:Int)).toNat=j:=by
   rw[seqIndex_neg (by omega) h3] at h1
   rw[Zrq,<- hl]
   exact Option.some.inj h1
  exact PySem.W.ki_setBack ho (by omega) (by rw[Zrq,<- hl];exact h3) (by omega) (by rw[hk];exact⟨_,I',q⟩)
theorem Zbu:Vg X (.builtin "len") (fun xs H Q=>∃p ys,xs=[.ref p]/\(SqL X.K H p ys\/SqT X.K H p ys)/\Q (.int ys.length) H):=by
 intro pins s σ H xs us Q I r h
 obtain⟨p,ys,rfl,hq,q⟩:=h
 obtain⟨u,rfl,rx⟩:=UT r
 cases rx
 have hn:=Qj
 rcases hq with hq|hq
 ·obtain⟨its,r',pl,hz⟩:=I.list hq
  have hlen:=r'.length
  exact Calls.call_len_list pl.isList (by simp only[Zrq]<;>omega) ⟨.int ys.length,H,I.tok _,⟨s.toks+1,by rw[Zrq,hlen]⟩,q⟩
 ·obtain⟨its,r',pl,hz⟩:=I.tuple hq
  have hlen:=r'.length
  exact len_tuple pl (by simp only[Zrq]<;>omega) ⟨.int ys.length,H,I.tok _,⟨s.toks+1,by rw[Zrq,hlen]⟩,q⟩
theorem Zbt:Vg X (.type "list") (fun xs H Q=>∃p ys,xs=[.ref p]/\(SqL X.K H p ys\/SqT X.K H p ys)/\∀l,H l=none->Q (.ref l) (upd H l (.lst ys))):=by
 intro pins s σ H xs us Q I r h
 obtain⟨p,ys,rfl,hq,q⟩:=h
 obtain⟨u,rfl,rx⟩:=UT r
 cases rx
 have fin:∀(its:List Value),ZP ys its->ys.length<=sizeLine->∀(h':Heap) (c':Nat),(∀b o',s.heap.get? b=some o'->h'.get? b=some o') ->
   h'.get? s.heap.objs.size=some { cls:=.type "list",dict:=none,data:=.seq its.toArray c',slots:=#[] }->EP X pins σ Q (.ref s.heap.objs.size) { s with heap:=h' }:=fun its r' hz h' c' kp e =>
  ⟨.ref s.heap.objs.size,_,I.laid (t':=s.toks) kp (Zrl _) (show Jt X.prog X.w _ h' _ (.lst ys) from ⟨hz,its,c',r',e⟩),rfl,q _ (I.hok.fresh (Zrl _))⟩
 rcases hq with hq|hq
 ·obtain⟨its,r',pl,hz⟩:=I.list hq
  have hlen:=r'.length
  obtain⟨o,ho,hc,n,hd⟩:=pl.isList
  exact call_list_seq p (.inl rfl) ho hc hd (fun h' c' kp e=>fin its r' hz h' c' kp e) (by simp only[Zrq]<;>omega)
 ·obtain⟨its,r',pl,hz⟩:=I.tuple hq
  have hlen:=r'.length
  obtain⟨o,ho,hc,n,hd⟩:=pl
  exact call_list_seq p (.inr rfl) ho hc hd (fun h' c' kp e=>fin its r' hz h' c' kp e) (by simp only[Zrq]<;>omega)
theorem Za3:Vg X (.type "tuple") (fun xs H Q=>∃p ys,xs=[.ref p]/\((SqL X.K H p ys/\∀l,H l=none->Q (.ref l) (upd H l (.tup ys)))\/(SqT X.K H p ys/\Q (.ref p) H))):=by
 intro pins s σ H xs us Q I r h
 obtain⟨p,ys,rfl,h⟩:=h
 obtain⟨u,rfl,rx⟩:=UT r
 cases rx
 rcases h with ⟨hq,q⟩|⟨hq,q⟩
 ·obtain⟨its,r',pl,hz⟩:=I.list hq
  have hlen:=r'.length
  refine call_tuple_list pl.isList (fun h' kp=>?_) (by simp only[Zrq]<;>omega)
  have I1:Inv X pins σ H { s with heap:=h' }:=I.kept (t':=s.toks) kp
  have I2:Inv X pins σ (upd H h'.objs.size (.tup ys)) { s with heap:=h'.push { cls:=.type "tuple",data:=.seq its.toArray } }:=
   I1.laid (t':=s.toks) (fun b o e=>Heap.get?_push_of_some _ e) (Zrl _) (show Jt X.prog X.w _ _ _ (.tup ys) from ⟨hz,its,r',IsTup.new _ _⟩)
  exact⟨.ref h'.objs.size,_,I2,rfl,q _ (I1.hok.fresh (Zrl _))⟩
 ·obtain⟨its,r',pl,hz⟩:=I.tuple hq
  exact call_tuple_same pl ⟨.ref p,H,I,rfl,q⟩
def tyV(K:W.Frag)(T:String)(x:V)(H:Hp):Prop:=match x with
 |.str _=>T = "str"
 |.int _=>T = "int"
 |.ref p=>(T = "list"/\∃xs,SqL K H p xs)\/(T = "tuple"/\∃o,K.lookup p=some o/\o.cls=.type "tuple"/\o.dict=none) \/
   (T = "dict"/\((∃kvs,H p=some (.dK kvs))\/∃kvs,H p=some (.dT kvs)))\/(T = "set"/\∃S n,H p=some (.set S n))
 |_=>False
theorem ZjB{pins:List (Addr×Obj)}{σ:St}{H:Hp}{s:Shared}{T:String}{x:V}{v:Value}(I:Inv X pins σ H s)(r:Jf x v)(ty:tyV X.K T x H) :
  s.TypeIs v T/\∀a,v=.ref a->∃ob,s.heap.get? a=some ob/\ob.dict=none:=by
 cases x with
 |str z =>
  obtain⟨t,rfl⟩:=r
  cases (show T = "str" from ty)
  exact⟨typeIs_str s z t,fun _ e=>nomatch e⟩
 |int i =>
  obtain⟨t,rfl⟩:=r
  cases (show T = "int" from ty)
  exact⟨typeIs_int s i t,fun _ e=>nomatch e⟩
 |ref p =>
  cases r
  rcases ty with ⟨rfl,xs,hq⟩|⟨rfl,o,hk,hc,hd⟩|⟨rfl,hk⟩|⟨rfl,S,n,hk⟩
  ·obtain⟨its,_,pl,_⟩:=I.list hq
   refine⟨pl.isList.typeIs,fun a e=>?_⟩
   cases e
   obtain⟨o,n,e,c,hd,_⟩:=pl
   exact⟨o,e,hd⟩
  ·refine⟨⟨o,I.kIn p o hk,hc⟩,fun a e=>?_⟩
   cases e
   exact⟨o,I.kIn _ o hk,hd⟩
  ·have z:∃o,s.heap.get? p=some o/\o.ExactDict:=by
    rcases hk with ⟨kvs,hk⟩|⟨kvs,hk⟩
    ·obtain⟨_,_,_,_,o,_,_,e,ex,_⟩:=I.hok p _ hk
     exact⟨o,e,ex⟩
    ·obtain⟨_,_,_,_,o,_,_,e,ex,_⟩:=I.hok p _ hk
     exact⟨o,e,ex⟩
   obtain⟨o,e,ex⟩:=z
   refine⟨⟨o,e,ex.1⟩,fun a e2=>?_⟩
   cases e2
   exact⟨o,e,ex.2.1⟩
  ·obtain⟨o,_,_,_,e,ex,_⟩:=I.hok p _ hk
   refine⟨⟨o,e,ex.1⟩,fun a e2=>?_⟩
   cases e2
   exact⟨o,e,ex.2.1⟩
 |_=>exact False.elim ty
noncomputable def tBM(K:W.Frag)(T:String)(r:V->List V->Hp->VK->Prop)(to:TE)(t:TA):TE:=fun σ H Q=>to σ H fun x H1=>tyV K T x H1/\t σ H1 fun xs H2=>r x xs H2 Q
variable {o e:Expr}{es:List Expr}{to:TE}{t:TA}{name:Str}{apos cpos:Pos}{T id:String}{r:V->List V->Hp->VK->Prop}
theorem Zi5(pa:PlainAttrs T)(slot:Slot T name id)(hty:typeOf (.builtin id)=pure (.type "method_descriptor"))(hm:MtR X id r)(ho:PE X o to)(ha:PA X (e::es) t)(hbase:attributeBase o name X.env (eval o X.env)=eval o X.env:=by rfl)(hfew:((backTo cpos (starEach (e::es) X.env)).all (fun x=>!x.1)&&(backToKw cpos (keywordEach [] X.env)).all (fun x=>x.1.isSome)
   && decide ((e::es).length+([]:List Keyword).length+(if ([]:List Keyword).isEmpty then 0 else 1)<30))=true:=by rfl)(hline:(apos.endLine==cpos.line)=true:=by rfl)(hs:starEach (e::es) X.env=(false,eval e X.env)::starEach es X.env:=by rfl)(hplain:(backTo cpos (starEach es X.env)).any (·.1)=false:=by rfl) :
  PE X (.Call (.Attribute o name apos) (e::es) [] cpos) (tBM X.K T r to t):=by
 intro pins s σ H Q I h
 refine wpAny_Call_method_late hbase hfew hline rfl (thn (ho pins s σ H _ I h) fun v s1 ⟨x,H1,I1,r1,ty,q1⟩=>?_)
 obtain⟨h1,h2⟩:=ZjB I1 r1 ty
 refine⟨T,id,pa,slot,hty,h1,h2, ?_⟩
 have hA:=ha cpos pins s1 σ H1 _ I1 q1
 rw[hs] at hA ⊢
 refine Calls.callWith_builtin (by show (false || (backTo cpos (starEach es X.env)).any (·.1))=false;rw[hplain]<;>rfl) (Calls.evalArgs_plain ?_)
 exact thn hA fun us s2 ⟨vs,H2,I2,r2,q2⟩=>hm pins s2 σ H2 x vs v us Q I2 r1 r2 q2
end
def MtM(X:Cx)(id:String)(r:V->List V->Hp->VK->Prop):Prop:=
 ∀(pins:List (Addr×Obj)) (s:Shared) (σ:St) (H:Hp) (x:V) (xs:List V) (v:Value) (us:List Value) (Q:VK),Inv X pins σ H s->Jf x v->ZP xs us->r x xs H Q ->
  wpAny (model X.prog X.w) X.A (call (.builtin id) (v::us)) (EP X pins σ Q) X.xe s
theorem ZP.one:∀{x:V}{us:List Value},ZP [x] us->∃u,us=[u]/\Jf x u
 |_,_,.cons r .nil=>⟨_,rfl,r⟩
theorem ZP.eraseIdx:∀{xs:List V}{us:List Value} (i:Nat),ZP xs us->ZP (xs.eraseIdx i) (us.eraseIdx i)
 |_,_,_,.nil=>.nil
 |_,_,0,.cons _ t=>t
 |_,_,i+1,.cons r t=>.cons r (ZP.eraseIdx i t)
theorem ZP.rep{xs:List V}{us:List Value}(h:ZP xs us):∀k:Nat,ZP (List.replicate k xs).flatten (List.replicate k us).flatten
 |0=>.nil
 |k+1=>by
  rw[Zsd,Zsd,Zsu,Zsu]
  exact ZP.append h (ZP.rep h k)
theorem ZaY{α:Type}:∀(l:List α) (i:Nat),(l.eraseIdx i).length<=l.length
 |[],_=>Zrl _
 |_::_,0=>ZsI _
 |_::r,i+1=>Nat.succ_le_succ (ZaY r i)
theorem Zbi(its:List Value):∀(k:Nat) (acc:List Value),
  List.foldl (fun x1 x2=>x1++x2) acc.toArray (List.replicate k its.toArray)=(acc++(List.replicate k its).flatten).toArray
 |0,acc=>by simp
 |k+1,acc=>by
  have e:acc.toArray++its.toArray=(acc++its).toArray:=by simp
  have e2:(acc++its)++(List.replicate k its).flatten=acc++(List.replicate (k+1) its).flatten:=by
   rw[Zsd,Zsu,Zrr]
  rw[<- e2,<- Zbi its k (acc++its),<- e,Zsd,Ztu]
section
variable {X:Cx}{pins:List (Addr×Obj)}{σ:St}{H:Hp}{s:Shared}{l:Addr}{xs ys:List V}
theorem Inv.lset{its its':List Value}{n:Nat}{f:Array Value->Array Value}{t':Nat}(I:Inv X pins σ H s)(hH:H l=some (.lst xs))(e:s.heap.get? l=some { cls:=.type "list",data:=.seq its.toArray n })(hf:f its.toArray=its'.toArray)(hv:ZP ys its')(hz:ys.length<=sizeLine) :
  Inv X pins σ (upd H l (.lst ys)) { s with heap:=s.heap.update l (Obj.mapSeq f),toks:=t' }:=by
 have q:=PySem.IsL.update e f
 rw[hf] at q
 refine I.write (x:=l) (e:=l) (by rw[hH];exact trivial) (.inl rfl) (fun b' u hb hu=>(Heap.get?_update_other s.heap (Obj.mapSeq f) (Ne.symm hb)).trans hu) ⟨_,q⟩ ?_
 exact⟨hz,its',_,hv,q⟩
theorem Inv.lnew{its:List Value}{t':Nat}(I:Inv X pins σ H s)(hv:ZP ys its)(hz:ys.length<=sizeLine) :
  Inv X pins σ (upd H s.heap.objs.size (.lst ys)) { s with heap:=s.heap.push { cls:=.type "list",data:=.seq its.toArray },toks:=t' }:=
 I.laid (fun _ _ q=>Heap.get?_push_of_some _ q) (Zrl _) ⟨hz,its,0,hv,Heap.get?_push_size _ rfl⟩
theorem Inv.fresh(I:Inv X pins σ H s):H s.heap.objs.size=none:=I.hok.fresh (Zrl _)
theorem Inv.lstM(I:Inv X pins σ H s)(hH:H l=some (.lst xs)):xs.length<=sizeLine/\∃(its:List Value) (n:Nat),ZP xs its/\xs.length=its.length/\s.heap.get? l=some { cls:=.type "list",data:=.seq its.toArray n }:=by
 obtain⟨z,its,n,r,e⟩:=I.hok l _ hH
 exact⟨z,its,n,r,r.length,e⟩
theorem Zgz{n:Nat}(h:n<=sizeLine):Builtin.List.listTooLong n=false:=by
 unfold Builtin.List.listTooLong
 exact decide_eq_false (by omega)
end
section
variable {X:Cx}
def Zeo:V->List V->Hp->VK->Prop:=fun x vs H Q=>∃l xs y,x=.ref l/\vs=[y]/\H l=some (.lst xs)/\xs.length<sizeLine/\Q .non (upd H l (.lst (xs++[y])))
theorem ZaX:MtM X "list.append" Zeo:=by
 intro pins s σ H x vs v us Q I rx rv h
 obtain⟨l,xs,y,rfl,rfl,hH,hz,q⟩:=h
 cases rx
 obtain⟨u,rfl,ru⟩:=rv.one
 obtain⟨z,its,n,r,hl,e⟩:=I.lstM hH
 refine call_meets F.slot_list_append ⟨_,e,rfl⟩ F.entry_list_append (F.args_list_append_2 _ _) (PySem.list_append l its.toArray n u (by rw[Zrq];omega)) ⟨e, ?_⟩
 refine⟨.non,_,I.lset (its':=its++[u]) hH e (by simp) (r.append (.cons ru .nil)) ?_,rfl,q⟩
 rw[ZrT,List.length_singleton]
 omega
def Zh6:V->List V->Hp->VK->Prop:=fun x vs H Q=>∃l xs i k y,x=.ref l/\vs=[.int i]/\H l=some (.lst xs)/\-(2^63)<=i/\i<2^63/\seqIndex? i xs.length=some k/\xs[k]?=some y/\Q y (upd H l (.lst (xs.eraseIdx k)))
theorem Zg2:MtM X "list.pop" Zh6:=by
 intro pins s σ H x vs v us Q I rx rv h
 obtain⟨l,xs,i,k,y,rfl,rfl,hH,h1,h2,hk,hy,q⟩:=h
 cases rx
 obtain⟨u,rfl,ru⟩:=rv.one
 obtain⟨t,rfl⟩:=ru
 obtain⟨z,its,n,r,hl,e⟩:=I.lstM hH
 obtain⟨w,hw,rw'⟩:=r.get hy
 refine call_meets F.slot_list_pop ⟨_,e,rfl⟩ F.entry_list_pop (F.args_list_pop_2 _ _)
  (MeetsSeq.list_pop_at l its.toArray n i t k w (fitsIndex_both h1 h2) (by rw[Zrq,<- hl];exact hk) (by rw[<- Zrv];exact hw) (by rw[Zrq];omega)) ⟨e, ?_⟩
 refine⟨y,_,I.lset (its':=its.eraseIdx k) hH e ?_ (r.eraseIdx k) ?_,rw',q⟩
 ·show its.toArray.eraseIdxIfInBounds k=(its.eraseIdx k).toArray
  rw[List.eraseIdxIfInBounds_toArray]
 ·have:=ZaY xs k
  omega
noncomputable def Zmo:R2:=fun x y H Q=>∃l k xs,x=.ref l/\y=.int k/\H l=some (.lst xs)/\-(2^63)<=k/\k<2^63/\xs.length*k.toNat<=sizeLine /\
 ∀p,H p=none->Q (.ref p) (upd H p (.lst (List.replicate k.toNat xs).flatten))
theorem ZeQ{α:Type}(xs:List α)(k:Nat):(List.replicate k xs).flatten.length=k*xs.length:=by
 induction k with
 |zero=>simp
 |succ k ih=>rw[Zsd,Zsu,ZrT,ih,Nat.succ_mul,Nat.add_comm]
theorem Zku:OpR X (binaryOp .Mult) Zmo:=by
 intro pins s σ H x y v u Q I rx ry h
 obtain⟨l,k,xs,rfl,rfl,hH,h1,h2,hz,q⟩:=h
 cases rx
 obtain⟨t,rfl⟩:=ry
 obtain⟨z,its,n,r,hl,e⟩:=I.lstM hH
 have hlen:its.toArray.size*k.toNat<=sizeLine:=by rw[Zrq,<- hl];exact hz
 have hcap:¬its.toArray.size*k.toNat>(2^63-1)/8:=by
  have:(sizeLine:Nat)<=(2^63-1)/8:=by decide
  omega
 have hfit:¬(!Builtin.List.listFitsIndex k)=true:=by
  rw[fitsIndex_both h1 h2]
  exact Bool.false_ne_true
 have hlong:¬Builtin.List.listTooLong (its.toArray.size*k.toNat)=true:=by
  rw[Zgz hlen]
  exact Bool.false_ne_true
 have hnew:List.foldl (fun x1 x2=>x1++x2) #[] (List.replicate (if its.toArray.isEmpty=true then 0 else k.toNat) its.toArray)=(List.replicate k.toNat its).flatten.toArray:=by
  have f0:∀m:Nat,List.foldl (fun x1 x2=>x1++x2) #[] (List.replicate m its.toArray)=(List.replicate m its).flatten.toArray:=fun m=>by
   have:=Zbi its m []
   rw[Zsm] at this
   exact this
  rw[f0]
  cases its with
  |nil=>simp
  |cons a r'=>rw[if_neg (by simp)]
 refine wpAny_binaryOp_repeat_ref (T := "list") (U := "int") (by decide) ⟨_,e,rfl⟩ (fun s'=>typeIs_int s' k t) noFill_list_mul F.fills_int_mul F.slot_int_rmul repeat_list F.slot_int_index.lookup
  (call_meets F.slot_int_rmul (typeIs_int s k t) F.entry_int_rmul (F.args_int_rmul_2 _ _) (int___rmul___int_list k t l its.toArray n)
   ⟨e,rfl,⟨_,e,rfl⟩,call_meets F.slot_list_mul ⟨_,e,rfl⟩ F.entry_list_mul (F.args_list_mul_2 _ _) (AutoListH.list___mul___list_int_3 l its.toArray n k t hfit hcap hlong) ⟨e, ?_⟩⟩)
 rw[hnew]
 exact⟨.ref _,_,I.lnew (t':=s.toks) (r.rep k.toNat) (by rw[ZeQ,Nat.mul_comm];exact hz),rfl,q _ I.fresh⟩
end
section
set_option maxRecDepth 100000 in
end
section
end
end L2
namespace Att
open PySem PySem.W PySem.Calls PyProof.Rows
theorem Qo{P:Params}{h:Heap}:∀(ns:List Int) (vs:List Value),WellAll P h vs (ns.map WData.int)->IntsAre vs ns:=by
 intro ns
 induction ns with
 |nil =>
  intro vs w
  rw[ZsK] at w
  cases w
  exact .nil
 |cons n ns ih =>
  intro vs w
  rw[Zru] at w
  cases w with
  |cons a b =>
   cases a
   exact .cons _ _ (ih _ b)
theorem Zeh{l:OpenLaw}{n:Nat}(hn:l.most=some n){P:Params}{h:Heap}{args:List WData}{vals:List Value}(hpre:l.row.toRowW.claim.pre args=true)(hwl:WellAll P h vals args) :
  ∃a vs ns,vals=[Value.ref a]/\args=[WData.list (ns.map WData.int)]/\h.get? a=some { cls:=.type "list",data:=.seq vs.toArray }/\IntsAre vs ns/\ns.length<=n:=by
 have hsh:WShape.hasAll [] args [.list .int]=true:=(pre_splitW hpre).1
 have hc:l.pre.holds [] { args:=args }=true:=(pre_splitW hpre).2
 obtain⟨d,r,rfl,h1,h2⟩:=hasAllW_cons hsh
 obtain rfl:=hasAllW_nil h2
 obtain⟨xs,rfl,h3⟩:=hasW_list h1
 obtain⟨ns,rfl⟩:=items_int h3
 have hlen:ns.length<=n:=by
  unfold OpenLaw.pre at hc
  have h4:(WTm.not (.lt (.lit (.int (n:Int))) (.len (.arg 0)))).holds [] { args:=[.list (ns.map .int)] }=true:=by
   have h4:=(holds_andW hc).1
   rw[hn] at h4
   exact h4
  have h5:=condW_of h4 (w_not (w_lt w_lit (w_len_list (w_arg rfl))))
  rw[Zrj] at h5
  refine Nat.le_of_not_lt fun q=>?_
  have q':(n:Int)<((ns.length:Nat):Int):=by omega
  first
   |(rw[decide_eq_true q'] at h5;exact absurd h5 (by decide))
   |(simp at h5;omega)
 cases hwl with
 |cons w1 w2 =>
  cases w2
  cases w1 with
  |list ho hall=>exact⟨_,_,ns,rfl,rfl,ho,Qo ns _ hall,hlen⟩
theorem Zer(l:OpenLaw)(args:List WData):l.row.toRowW.claim.post args (.bool true) args=true:=
 postW_of (r:=l.row.toRowW) (X:=(true==true))
  (show WShape.has [] (.bool true) .bool=true by first|rfl|decide|simp[WShape.has,WShape.arms,WShape.armsAll])
  (show (WTm.eq .res (.lit (.bool true))).value [] { args:=args,res:=some (.bool true),after:=args }=some (.bool (true==true)) from w_eq_bool (w_res rfl) w_lit) rfl
theorem Zcp{l:OpenLaw}{n:Nat}{q:Program}{loose:List Str}{XP:(Str->Option Value)->Heap->Prop}{YP:World->Heap->Prop}{d:DefRec}(hn:l.most=some n)(hdf:d.params.defaults=[])(call:∀(w:World) (s₀ s₁:Shared) (mg mb:Str->Option Value) (fa:Addr) (o:Obj) (pm cd doc:Value) (a:Addr) (vs:List Value) (ns:List Int),
   Ground q loose [] XP w s₀ mg mb s₁.heap->YP w s₁.heap ->
   s₁.heap.get? fa=some o->o.data=.func (docDef d.name d.params d.body d.scope pm cd doc)->s₁.heap.CodeRec cd d.name->mg d.name=some (.ref fa) ->
   s₁.heap.get? a=some { cls:=.type "list",data:=.seq vs.toArray }->IntsAre vs ns->ns.length<=n->s₁.gens=#[] ->
   codeAny (model l.prog w) callerA (.call (.ref fa) ⟨[.ref a],[]⟩) (fun r s'=>r=.ok (.ret (.bool true))/\OldK s₁.heap s'.heap/\s'.os=s₁.os/\AllBare s'.gens) s₁) :
  WalkO q loose XP YP l.row.toRowW d [] (fun f vs=>PySem.call f vs):=by
 intro w s₀ s₁ mg mb G Y fa o pm cd doc dV kV ho hd hcd hD hmg hg args vals as hpre hlay hrd hwl hlo
 obtain rfl:dV=.none:=Dflts.none hD hdf
 obtain rfl:kV=.none:=Dflts.noKw hD
 obtain⟨a,vs,ns,rfl,rfl,hobj,hints,hlen⟩:=Zeh hn hpre hwl
 refine enter_call (codeAny_mono (call w s₀ s₁ mg mb fa o pm cd doc a vs ns G Y ho (fd_plain hd) hcd hmg hobj hints hlen hg) fun r s' hq=>?_)
 obtain⟨rfl,h2,h3,h4⟩:=hq
 exact⟨.inl ⟨.bool true,.bool true,[],rfl,fun _=>rfl,.bool true,Zer l _,fun _=>⟨List.Pairwise.nil,fun _ hm=>(nomatch hm)⟩⟩,h2,h3,h4⟩
section
end
end Att
namespace L2
open PySem PySem.Spec PyProof.Rows
theorem ZaF:∀{vs:List Value}{ns:List Int},IntsAre vs ns->ZP (ns.map V.int) vs
 |_,_,.nil=>.nil
 |_,_,.cons n t h=>.cons ⟨t,rfl⟩ (ZaF h)
def Zjx(K:W.Frag)(h:Heap):Prop:=∀f c P,Zb2 K f=some (c,P)->h.get? P=some (PySem.W.tabObj #[])/\K.lookup P=none
theorem ZeU{K:W.Frag}{f c P:Addr}(h:Zb2 K f=some (c,P)):PySem.W.codeHdIn K c P=true:=by
 unfold Zb2 at h
 repeat' split at h
 all_goals first|cases h;done|skip
 rename_i hd
 cases h
 exact hd
open Classical in
theorem Zg5{P:Program}{w:World}{K:W.Frag}{mg mb:Str->Option Value}{CX:CXT}{k:Nat}{fa a:Addr}{fd:FuncData}{x:Str}{sp:Sp}{s₁:Shared}{vs:List Value}{ns:List Int}(KX:K.In s₁.heap)(hns:s₁.heap.Ns mainGlobals mg)(hb:s₁.heap.Ns builtinsNs mb)(hbb:∀x:Str,x ≠ "__name__"->mb x=bootBuiltins x)(hlim:s₁.heap.NoLimit)(hbm:BMd mg s₁.heap)(hL:Zjx K s₁.heap)(hg:s₁.gens=#[])(ha:s₁.heap.get? a=some { cls:=.type "list",data:=.seq vs.toArray })(hi:IntsAre vs ns)(hl:ns.length<=sizeLine)(hr:VW k callerA)(F:∀base:Heap,K.In base->base.Ns mainGlobals mg->JF P w K mg base CX k fa fd [x] sp)(hbind:∀(s:Shared) (u:Value),BindsTo s fd ⟨[u],[]⟩ [(x,u)])(hsp:∀H:Hp,SqL K H a (ns.map V.int)->sp [.ref a] H (fun v _=>v=.bl true) fun _ _ _=>False)(hCX:∀H e s',CX [] H s₁ (fun _ _ _=>False) e s'->False) :
  codeAny (model P w) callerA (.call (.ref fa) ⟨[.ref a],[]⟩) (fun r s'=>r=.ok (.ret (.bool true))/\OldK s₁.heap s'.heap/\s'.os=s₁.os/\AllBare s'.gens) s₁:=by
 have rv:=ZaF hi
 have lenV:=hi.length
 generalize hH:(fun b=>if (∃f c,Zb2 K f=some (c,b)) then some (HO.tbl #[] "ends_first.<locals>.<lambda>") else if b=a/\K.lookup a=none then some (.frz { cls:=.type "list",data:=.seq vs.toArray } (.lst (ns.map V.int))) else none:Hp)=H
 have tabP:∀{b},(∃f c,Zb2 K f=some (c,b))->s₁.heap.get? b=some (PySem.W.tabObj #[])/\K.lookup b=none/\PySem.isCodeTable s₁.heap b:=fun {b} e=>by
  obtain⟨f0,c,q⟩:=e
  obtain⟨h1,h2⟩:=hL f0 c b q
  exact⟨h1,h2,((PySem.W.codeHd_of_K KX (ZeU q)).tab h1).isCodeTable⟩
 have at_tab:∀{b},(∃f c,Zb2 K f=some (c,b))->H b=some (.tbl #[] "ends_first.<locals>.<lambda>"):=fun {b} e=>by subst hH;exact if_pos e
 have at_a:K.lookup a=none->H a=some (.frz { cls:=.type "list",data:=.seq vs.toArray } (.lst (ns.map V.int))):=fun e=>by
  subst hH
  refine(if_neg fun z=>?_).trans (if_pos ⟨rfl,e⟩)
  have:=(tabP z).1
  rw[ha] at this
  cases this
 have cases_H:∀b u,H b=some u->((∃f c,Zb2 K f=some (c,b))/\u=.tbl #[] "ends_first.<locals>.<lambda>")\/(b=a/\K.lookup a=none/\u=.frz { cls:=.type "list",data:=.seq vs.toArray } (.lst (ns.map V.int))):=fun b u e=>by
  subst hH
  dsimp only at e
  split at e
  ·rename_i z;exact .inl ⟨z,(Option.some.inj e).symm⟩
  ·split at e
   ·rename_i z;exact .inr ⟨z.1,z.2,(Option.some.inj e).symm⟩
   ·cases e
 have hS:SqL K H a (ns.map V.int):=by
  cases hk:K.lookup a with
  |some o =>
   have e:=KX a o hk
   rw[ha] at e
   cases e
   exact .inr ⟨_,vs.toArray,_,hk,rfl,rfl,rfl,by rw[Zrq,lenV];exact hl,by simpa using rv⟩
  |none=>exact .inl (.inr ⟨_,at_a hk⟩)
 have hok:HOk P w H s₁.heap:=fun b u e=>by
  rcases cases_H b u e with ⟨z,rfl⟩|⟨rfl,_,rfl⟩
  ·exact⟨#[],(tabP z).1,trivial,fun pos c' q=>by cases q⟩
  ·exact⟨ha,by rw[Zrj];exact hl,vs,_,rv,ha⟩
 have base_of:∀{b:Addr}{o:Obj},s₁.heap.get? b=some o->H b=none->(ZgJ s₁.heap H).get? b=some o:=fun e n=>ZgI e n
 have noA:∀{b:Addr}{o:Obj},s₁.heap.get? b=some o->(∀xs n,o.data≠.seq xs n)->(∀xs,o.data≠.fields xs)->H b=none:=fun {b o} e d1 d2=>by
  cases q:H b with
  |none=>rfl
  |some u =>
   rcases cases_H b u q with ⟨z,_⟩|⟨z,_,_⟩
   ·have:=(tabP z).1
    rw[e] at this;cases this
    exact absurd rfl (d2 _)
   ·subst z
    rw[ha] at e;cases e
    exact absurd rfl (d1 _ _)
 have nsK:∀{b:Addr}{m:Str->Option Value},s₁.heap.Ns b m->(ZgJ s₁.heap H).Ns b m:=fun {b m} ⟨o,es,ep,e,d,r⟩=>⟨o,es,ep,base_of e (noA e (fun _ _ z=>by rw[d] at z;cases z) (fun _ z=>by rw[d] at z;cases z)),d,r⟩
 have hKb:K.In (ZgJ s₁.heap H):=fun b o e=>base_of (KX b o e) (by
  cases q:H b with
  |none=>rfl
  |some u =>
   rcases cases_H b u q with ⟨z,_⟩|⟨rfl,z,_⟩
   ·rw[(tabP z).2.1] at e;cases e
   ·rw[z] at e;cases e)
 have hM:Mod K mg (ZgJ s₁.heap H):=⟨hKb,nsK hns,⟨mb,nsK hb,hbb⟩,let ⟨mc,h1,h2⟩:=hlim;⟨mc,nsK h1,h2⟩,by
  obtain⟨bm,o,b1,b2,b3,b4,b5,b6⟩:=hbm
  exact⟨bm,o,b1,b2,base_of b3 (noA b3 (fun _ _ z=>by rw[b6] at z;cases z) (fun _ z=>by rw[b6] at z;cases z)),b4,b5,b6⟩⟩
 have e0:Zlx P w K mg (ZgJ s₁.heap H) callerA [] s₁ H:=⟨rfl,hM,fun b o e=>ZiJ e,Ztn (Zff _ _),trivial,fun b hb=>absurd (show b∈([]:List Addr) from hb) (by simp),hok,.of_eq hg,fun f0 c P0 q=>at_tab ⟨f0,c,q⟩⟩
 refine codeAny_mono ((F _ hKb (nsK hns)).run callerA [] s₁ H ⟨[.ref a],[]⟩ [.ref a] [.ref a] _ _ hr e0 (hbind s₁ (.ref a)) (.cons rfl .nil) (hsp H hS)) fun r s' h=>?_
 match r,h with
 |.error e,h=>exact(hCX H e s' h).elim
 |.ok (.ret u),h =>
  obtain⟨v,H',os,bare,un,hok',r',q⟩:=h
  have q':v=.bl true:=q
  subst q'
  obtain rfl:u=Value.bool true:=r'
  have old:∀b o,s₁.heap.get? b=some o->PySem.asItWas s₁.heap s'.heap b o/\∃o',s'.heap.get? b=some o':=fun b o e=>by
   cases q:H b with
   |none =>
    have:=un.keep b o e q (by intro z;exact absurd (show b∈([]:List Addr) from z) (by simp)) (by simp)
    exact⟨.inl this,_,this⟩
   |some u =>
    rcases cases_H b u q with ⟨z,rfl⟩|⟨rfl,_,rfl⟩
    ·obtain⟨more,e2,_⟩:=hok' b _ (un.tbls b _ _ q)
     obtain⟨t1,_,t2⟩:=tabP z
     rw[e] at t1;cases t1
     exact⟨.inr (.inl ⟨t2,rfl,#[],more,rfl,e2⟩),_,e2⟩
    ·obtain⟨e1,_⟩:=hok b _ q
     obtain⟨e2,_⟩:=hok' b _ (un.frzs b _ _ q)
     rw[e] at e1;cases e1
     exact⟨.inl e2,_,e2⟩
  exact⟨rfl,⟨fun b o e=>(old b o e).1,fun b o e=>(old b o e).2⟩,os,bare⟩
noncomputable abbrev KOf{K:W.Frag}{h:Heap}(_:K.In h):W.Frag:=K
theorem Zld{p:Program}{loose:List Str}{mean:ExcName->Option Value}{mg mb:Str->Option Value}{h:Heap}(T:PyProof.Rows.Top p loose mean mg mb h):BMd mg h:=let ⟨bm,ob,a,b,c,d,e,f⟩:=T.bmain;⟨bm,ob,a,b,c,d,e,f⟩
theorem ZfM{l:PySem.W.OpenLaw}{n k:Nat}{q:Program}{loose:List Str}{XP:(Str->Option Value)->Heap->Prop}{YP:World->Heap->Prop}{d:DefRec}{K:Params->W.Frag}{CX:CXT}{sp:W.Frag->Sp}{x:Str}(hn:l.most=some n)(hn2:n<=sizeLine)(hdf:d.params.defaults=[])(hr:VW k callerA)(hY:∀(w:World) (h:Heap),YP w h->(K w.params).In h/\Zjx (K w.params) h)(F:∀(w:World) (mg:Str->Option Value) (fa:Addr) (h:Heap),(K w.params).In h->h.Ns mainGlobals mg->mg d.name=some (.ref fa) ->
   ∃fd:FuncData,(∀(s:Shared) (u:Value),BindsTo s fd ⟨[u],[]⟩ [(x,u)]) /\
    ∀base:Heap,(K w.params).In base->base.Ns mainGlobals mg->JF l.prog w (K w.params) mg base CX k fa fd [x] (sp (K w.params)))(hsp:∀(K:PySem.W.Frag) (H:Hp) (a:Addr) (ns:List Int),ns.length<=n->SqL K H a (ns.map V.int)->sp K [.ref a] H (fun v _=>v=.bl true) fun _ _ _=>False)(hCX:∀(H:Hp) (s:Shared) (e:Value) (s':Shared),CX [] H s (fun _ _ _=>False) e s'->False) :
  PySem.W.WalkO q loose XP YP l.row.toRowW d [] (fun f vs=>PySem.call f vs):=by
 refine Att.Zcp hn hdf fun w s₀ s₁ mg mb fa o pm cd doc a vs ns G Y ho hd hcd hmg hobj hints hlen hg=>?_
 obtain⟨KX,LX⟩:=hY w _ Y
 obtain⟨fd,hb,hF⟩:=F w mg fa _ KX G.T.g hmg
 exact Zg5 KX G.T.g G.T.b G.T.builtins G.T.nolimit (Zld G.T) LX hg hobj hints (Zr7 hlen hn2) hr hF hb (fun H hS=>hsp (K w.params) H a ns hlen hS) fun H e s'=>hCX H s₁ e s'
noncomputable def U5(s:Stmt):Arguments:=match s with
 |.FunctionDef _ a _ _ _ _ _ _ _ _=>a
 |_=>{ posonlyargs:=[],args:=[],vararg:=none,kwonlyargs:=[],kw_defaults:=[],kwarg:=none,defaults:=[] }
noncomputable def JQ(s:Stmt):List Stmt:=match s with
 |.FunctionDef _ _ b _ _ _ _ _ _ _=>b
 |_=>[]
noncomputable def Zk(s:Stmt):Scope:=match s with
 |.FunctionDef _ _ _ _ _ _ sc _ _ _=>sc
 |_=>{ kind:=.function,names:=[],isGenerator:=false,isCoroutine:=false }
noncomputable abbrev CX0:CXT:=fun _ _ _ _ _ _=>False
noncomputable abbrev E0:XK:=fun _ _ _=>False
theorem Zkb{X:Cx}:Zdq CX0 X E0:=fun _ _ _ _ _ _ _ h=>h.elim
structure Fun(K:PySem.W.Frag)(x qual:Str)(st:Stmt)(f:Addr)(fd:FuncData):Prop where
 ex:∃(oc:Value) (od:Option Addr) (kV doc pm:Value) (an:Option Addr) (cdv ct:Value) (osl:Array (Option Value)),
  fd=PySem.W.fnOf x qual (U5 st) (JQ st) (Zk st) .none kV doc pm an cdv ct/\K.lookup f=some ⟨oc,od,.func fd,osl⟩/\PySem.W.codeIn K cdv qual=true
 kp:PySem.W.keepIn K (.ref f)=true
section
variable {P:Program}{w:World}{K:W.Frag}{mg:Str->Option Value}{base:Heap}
theorem Fun.ok{x qual:Str}{st:Stmt}{f:Addr}{fd:FuncData}{N ps:List Str}{k:Nat}{sp:Sp}(F:Fun K x qual st f fd)(S:Zy N ps (Zk st))(len:∀vs H Q E,sp vs H Q E->vs.length=ps.length)(hbody:∀(cdv:Value) (A:Around) (outer:List Env) (s:Shared) (H:Hp) (vs:List V) (Q:VK) (E:XK),VW k (A.deeper (envOfC qual (Zk st) s.heap.objs.size f cdv))->sp vs H Q E ->
   ∃t,PSs (Zhm CX0 P w K mg base N qual (Zk st) f cdv A outer s H E).nox (JQ st) t/\t { nx:=fun _ H'=>Q .non H',rt:=Q } (Ua N vs) H):JF P w K mg base CX0 (k+1) f fd ps sp:=by
 obtain⟨oc,od,kV,doc,pm,an,cdv,ct,osl,rfl,lk,hcd⟩:=F.ex
 refine ZkK lk hcd S len fun A outer s H vs Q E hr hsp=>?_
 obtain⟨t,h,q⟩:=hbody cdv A outer s H vs Q E hr hsp
 exact⟨t,h.nox,q⟩
theorem Fun.binds{x qual:Str}{st:Stmt}{f:Addr}{fd:FuncData}{ps:List Str}(F:Fun K x qual st f fd)(h:∀(kV doc pm:Value) (an:Option Addr) (cdv ct:Value) (us:List Value),us.length=ps.length->bindArgs (PySem.W.fnOf x qual (U5 st) (JQ st) (Zk st) .none kV doc pm an cdv ct) ⟨us,[]⟩=pure (ps.zip us)):Zcv K fd ps []:=by
 obtain⟨oc,od,kV,doc,pm,an,cdv,ct,osl,rfl,lk,hcd⟩:=F.ex
 exact .all (h kV doc pm an cdv ct)
theorem ZkJ{x qual:Str}{st:Stmt}{f:Addr}{oc:Value}{od an:Option Addr}{osl:Array (Option Value)}{kV doc pm cdv ct:Value}(l:K.lookup f=some ⟨oc,od,.func (PySem.W.fnOf x qual (U5 st) (JQ st) (Zk st) .none kV doc pm an cdv ct),osl⟩)(c:PySem.W.codeIn K cdv qual=true)(k:PySem.W.keepIn K (.ref f)=true):Fun K x qual st f (PySem.W.fnOf x qual (U5 st) (JQ st) (Zk st) .none kV doc pm an cdv ct):=⟨⟨oc,od,kV,doc,pm,an,cdv,ct,osl,rfl,l,c⟩,k⟩
variable {X:Cx}
theorem pv(i:Nat){x:Str}{pos:Pos}(hN:X.N[i]?=some x:=by rfl)(hv:Vis X.env.scope x:=by first|exact Or.inl rfl|exact Or.inr (Or.inl rfl)|exact Or.inr (Or.inr rfl))(hd:(x==("__debug__":Str))=false:=by decide)(hcd:(x==("__classdict__":Str))=false:=by decide):PE X (.Name x pos) (ZaI i):=ZjZ hN hv hd hcd
end
def Z2(H H':Hp):Prop:=∀b o,H b=some o->H' b=some o
theorem Z2.refl(H:Hp):Z2 H H:=fun _ _ h=>h
theorem Z2.trans{H H1 H2:Hp}(a:Z2 H H1)(b:Z2 H1 H2):Z2 H H2:=fun c o h=>b c o (a c o h)
theorem Z2.free{H H':Hp}(e:Z2 H H'){l:Addr}(h:H' l=Option.none):H l=Option.none:=by
 cases q:H l with
 |none=>rfl
 |some o =>
  rw[e l o q] at h
  cases h
end L2
set_option maxHeartbeats 4000000
namespace L2
open PySem PySem.Spec PyProof.Rows
noncomputable def Q7(scope:Scope)(env:Env):List (Str×Addr):=
 ((scope.names.filter fun p=>p.2==.free).reverse).map fun p=>(p.1,(env.cells.lookup p.1).getD 0)
theorem Ug{β:Type}:∀{l:List (Str×β)}{a:Str}{b:β},(a,b)∈l->∃c,l.lookup a=some c
 |[],_,_,h=>absurd h (by simp)
 |(n,v)::r,a,b,h=>by
  cases e:a==n with
  |true=>exact⟨v,by simp[Zsa,e]⟩
  |false =>
   rcases Zrt.mp h with z|z
   ·cases z;simp at e
   ·obtain⟨c,hc⟩:=Ug z
    exact⟨c,by simp[Zsa,e,hc]⟩
theorem ZO{env:Env}:∀{names:List (Str×NameKind)}{y:Str}{k:NameKind},(∀p∈names,p.2≠.cell) ->
  (names.map fun(n,k)=>if (k==NameKind.free&&env.scope.kind==.function&&env.kindOf n==some .cell) then (n,NameKind.cell) else (n,k)).lookup y=some k ->
  (k=.local->names.lookup y=some .local)/\(k=.cell\/k=.free->names.lookup y=some .free)
 |[],_,_,_,h=>by simp at h
 |(n,k0)::r,y,k,nc,h=>by
  have ih:=@ZO env r y k (fun p hp=>nc p (Zr6 _ hp))
  have nc0:=nc (n,k0) ZrM
  have h':List.lookup y ((if (k0==NameKind.free&&env.scope.kind==.function&&env.kindOf n==some .cell)=true then (n,NameKind.cell) else (n,k0))::(r.map fun(n,k)=>if (k==NameKind.free&&env.scope.kind==.function&&env.kindOf n==some .cell) then (n,NameKind.cell) else (n,k)))=some k:=h
  cases hx:y==n with
  |true =>
   by_cases hc:(k0==NameKind.free&&env.scope.kind==.function&&env.kindOf n==some .cell)=true
   ·rw[if_pos hc] at h'
    simp only[Zsa,hx] at h'
    have hk:NameKind.cell=k:=Option.some.inj h'
    subst hk
    have hf:k0=.free:=by
     simp only[Bool.and_eq_true] at hc
     exact beq_iff_eq.mp hc.1.1
    subst hf
    exact⟨(fun z=>nomatch z),fun _=>by simp[Zsa,hx]⟩
   ·rw[if_neg hc] at h'
    simp only[Zsa,hx] at h'
    have hk:k0=k:=Option.some.inj h'
    subst hk
    refine⟨fun z=>by subst z;simp[Zsa,hx],fun z=>?_⟩
    rcases z with z|z
    ·exact absurd z nc0
    ·subst z;simp[Zsa,hx]
  |false =>
   by_cases hc:(k0==NameKind.free&&env.scope.kind==.function&&env.kindOf n==some .cell)=true
   ·rw[if_pos hc] at h'
    simp only[Zsa,hx] at h'
    have:=ih h'
    simpa[Zsa,hx] using this
   ·rw[if_neg hc] at h'
    simp only[Zsa,hx] at h'
    have:=ih h'
    simpa[Zsa,hx] using this
noncomputable def Zch(N:List Str)(sc scope:Scope)(x:Str):Bool:=
 (scope.names.all fun p=>!(p.2==.cell))&&(scope.kind==.function)&&(scope.names.all fun p=>!(p.2==.local) || scope.names.lookup p.1==some .local)&&(scope.names.lookup x==some .local)
  && (N.all fun y=>!(scope.names.lookup y==some .local))&&(scope.names.all fun p=>!(p.2==.free) || sc.names.lookup p.1==some .cell || sc.names.lookup p.1==some .free)
structure Zaa(N:List Str)(sc scope:Scope)(x:Str):Prop where
 nc:∀p∈scope.names,p.2≠.cell
 kind:scope.kind=.function
 locs:∀p∈scope.names,p.2=.local->scope.names.lookup p.1=some .local
 var:scope.names.lookup x=some .local
 noN:∀y∈N,scope.names.lookup y≠some .local
 fr:∀p∈scope.names,p.2=.free->sc.names.lookup p.1=some .cell\/sc.names.lookup p.1=some .free
theorem Zaa.of{N:List Str}{sc scope:Scope}{x:Str}(h:Zch N sc scope x=true):Zaa N sc scope x:=by
 unfold Zch at h
 simp only[Bool.and_eq_true,ZrR,Bool.or_eq_true,Bool.not_eq_true',beq_iff_eq,beq_eq_false_iff_ne] at h
 obtain⟨⟨⟨⟨⟨h1,h2⟩,h3⟩,h4⟩,h5⟩,h6⟩:=h
 refine⟨h1,h2,fun p hp e=>?_,h4,h5,fun p hp e=>?_⟩
 ·rcases h3 p hp with z|z
  ·exact absurd e z
  ·exact z
 ·rcases h6 p hp with (z|z)|z
  ·exact absurd e z
  ·exact .inl z
  ·exact .inr z
section
variable {X:Cx}{pins:List (Addr×Obj)}{σ:St}{H:Hp}{s:Shared}
theorem Inv.adopt{D:Addr}{ys:List V}{its:List Value}{n:Nat}(I:Inv X pins σ H s)(hn:H D=none)(h1:X.s₀.heap.objs.size<=D)(hL:D≠X.env.locals)(hc:∀x c,X.env.cells.lookup x=some c->c≠D)(hp:∀p∈X.pn++pins,p.1≠D)(ho:s.heap.get? D=some { cls:=.type "list",data:=.seq its.toArray n })(r:ZP ys its)(hz:ys.length<=sizeLine):Inv X pins σ (upd H D (.lst ys)) s:=by
 refine I.step (h':=s.heap) (g':=s.gens) (d':=s.drawn) (t':=s.toks) (ch:=[D]) (fun b hb=>?_) (fun b o _ _ _ e _=>e) (fun b o _ _ _ e _=>⟨o.slots,e⟩) (fun b o hb _ e=>?_) (fun b o _ e=>⟨o,e⟩)
  (fun b xs e=>?_) (fun b o u e=>?_) (fun b ps w e=>?_) (fun m hm=>hm) (fun b u e=>?_) I.bare
 ·have e:b=D:=by simpa using hb
  subst e
  exact⟨.inr h1,hL,hc,hp⟩
 ·rw[Zp (by simpa using hb)];exact e
 ·rw[Zp (Z3 e hn)];exact e
 ·rw[Zp (Z3 e hn)];exact e
 ·rw[Zp (Z3 e hn)];exact e
 ·by_cases hb:b=D
  ·subst hb
   rw[Zv] at e;cases e
   exact⟨hz,its,n,r,ho⟩
  ·rw[Zp hb] at e
   exact(I.hok b u e).stay (fun c v _ q=>q) (fun c q=>by rw[Zp (Z3 q hn)];exact q) fun c xs q=>by rw[Zp (Z3 q hn)];exact q
variable {scope:Scope}
theorem UO{y:Str}(h:scope.names.lookup y=some .free):∃c,(Q7 scope X.env).lookup y=some c:=by
 have hm:=PySem.mem_of_lookup h
 refine Ug (b:=(X.env.cells.lookup y).getD 0) ?_
 unfold Q7
 exact Zrz.mpr ⟨(y,.free),Zts.mpr (ZrS.mpr ⟨hm,rfl⟩),rfl⟩
end
end L2
namespace HL
open PySem PyProof.Rows
section
open PySem.SeqAt
open PySem.AutoSeq1 (wpAny_loadPart')
open PySem.MeetsSeq PySem.MeetsSeq2 PySem.MeetsSeq3 SeqRoads2
end
section
end
end HL
namespace L2
open PySem PySem.Spec PyProof.Rows
section
variable {X:Cx}
theorem Zhp(hc:X.calm=true):Vg X (.builtin "sum") (fun xs H Q=>∃p,∃ns:List Int,xs=[.ref p]/\SqL X.K H p (ns.map V.int)/\Q (.int ns.sum) H):=by
 intro pins s σ H xs us Q I r h
 obtain⟨p,ns,rfl,hq,q⟩:=h
 obtain⟨u,rfl,rx⟩:=UT r
 cases rx
 obtain⟨its,r',pl,hz⟩:=I.list hq
 have hi:IntsAre its ns:=ZdA r'
 obtain⟨xs,hx⟩:=hi.allInts.items
 have hl':s.heap.IsList p (intItems xs):=hx▸pl.isList
 refine sum_intListG (I.ok.hd hc) hl' fun h' tk t' hk=>?_
 have e1:ns=xs.toList.map (·.1):=by
  rw[<- nums_intItems,<- hx]
  exact(show numsOf its.toArray.toList=ns from hi.numsOf).symm
 have e2:preSum (numAt xs) xs.size=ns.sum:=by
  rw[preSum_eq,ZrO (by simp),e1]
 rw[e2]
 exact⟨.int ns.sum,H,I.kept hk,⟨_,rfl⟩,q⟩
theorem Q1:∀{bs:List Bool}{us:List Value},ZP (bs.map V.bl) us->LSm.BoolsAre us bs
 |[],_,.nil=>.nil
 |b::bs,_,.cons r t=>by
  cases r
  exact .cons b (Q1 t)
theorem Zhq(hc:X.calm=true):Vg X (.builtin "all") (fun xs H Q=>∃p,∃bs:List Bool,xs=[.ref p]/\SqL X.K H p (bs.map V.bl)/\Q (.bl (bs.all id)) H):=by
 intro pins s σ H xs us Q I r h
 obtain⟨p,bs,rfl,hq,q⟩:=h
 obtain⟨u,rfl,rx⟩:=UT r
 cases rx
 obtain⟨its,r',pl,hz⟩:=I.list hq
 have hb:=Q1 r'
 have hlt:p<s.heap.objs.size:=by obtain⟨_,e,_⟩:=pl.isList;exact Heap.lt_size e
 refine call_all_walk (wpAny_pyIter_list pl.isList ?_)
 refine⟨s.heap.objs.size,[s.heap.objs.size,p],[s.heap.objs.size],its.toArray.size,_,_,fun i=>(bs[i]?).getD true,rfl,Walks.list (A:=X.A.in1) (I.ok.hd hc) _ p (Zr8 hlt) its.toArray,
  ⟨⟨_,Heap.get?_push_size _ rfl,rfl,rfl⟩,pl.isList.push _⟩,fun i v s' Q' E' hP hQ=>?_,fun h' tk hk=>?_⟩
 ·obtain⟨b,e,rfl⟩:=hb.get i v (by simpa using hP)
  dsimp only at hQ
  rw[e,Zsk] at hQ
  exact wpAny_truthy_bool hQ
 ·rw[Zrq,hb.length,LSm.range_all]
  exact⟨.bl (bs.all id),H,I.kept (LSm.kept_iter hk),rfl,q⟩
end
end L2
namespace HL
open PySem PyProof.Rows
section
end
section
open PySem.SeqAt
open PySem.AutoSeq1 (wpAny_loadPart')
open PySem.MeetsSeq PySem.MeetsSeq2 PySem.MeetsSeq3
end
end HL
namespace HL
open PySem
theorem Vt:∀a:List Int,HT.ZA a a=false
 |[]=>rfl
 |x::xs=>by rw[HT.JW,if_pos rfl];exact Vt xs
theorem VQ:∀{a b c:List Int},HT.ZA a b=true->HT.ZA b c=true->HT.ZA a c=true
 |[],[],_,h,_=>by simp[HT.ZA] at h
 |[],_::_,[],_,h=>by simp[HT.ZA] at h
 |[],_::_,_::_,_,_=>rfl
 |_::_,[],_,h,_=>by simp[HT.ZA] at h
 |_::_,_::_,[],_,h=>by simp[HT.ZA] at h
 |x::xs,y::ys,z::zs,h1,h2=>by
  rw[HT.JW] at h1 h2 ⊢
  by_cases e1:x=y
  ·rw[if_pos e1] at h1
   subst e1
   by_cases e2:x=z
   ·rw[if_pos e2] at h2 ⊢
    exact VQ h1 h2
   ·rw[if_neg e2] at h2 ⊢
    exact h2
  ·rw[if_neg e1] at h1
   have h1':=of_decide_eq_true h1
   by_cases e2:y=z
   ·subst e2
    rw[if_neg e1]
    exact h1
   ·rw[if_neg e2] at h2
    have h2':=of_decide_eq_true h2
    rw[if_neg (by omega)]
    exact decide_eq_true (by omega)
theorem Vc:∀{a b:List Int},HT.ZA a b=false->HT.ZA b a=false->a=b
 |[],[],_,_=>rfl
 |[],_::_,h,_=>by simp[HT.ZA] at h
 |_::_,[],_,h=>by simp[HT.ZA] at h
 |x::xs,y::ys,h1,h2=>by
  rw[HT.JW] at h1 h2
  by_cases e:x=y
  ·subst e
   rw[if_pos rfl] at h1 h2
   rw[Vc h1 h2]
  ·rw[if_neg e] at h1
   rw[if_neg (Ne.symm e)] at h2
   have:=of_decide_eq_false h1
   have:=of_decide_eq_false h2
   omega
end HL
namespace L2
open PySem PySem.Spec PyProof.Rows
section
end
def Dfn(K:W.Frag)(mg:Str->Option Value)(x:Str)(st:Stmt):Prop:=∃f fd,Fun K x x st f fd/\mg x=some (.ref f)
noncomputable abbrev Zu(x:Str)(st:Stmt)(ps:List Str):Prop:=∀(kV doc pm:Value) (an:Option Addr) (cdv ct:Value) (us:List Value),us.length=ps.length ->
 bindArgs (PySem.W.fnOf x x (U5 st) (JQ st) (Zk st) .none kV doc pm an cdv ct) ⟨us,[]⟩=pure (ps.zip us)
def Ok(P:Program)(w:World)(K:W.Frag)(mg:Str->Option Value)(base:Heap)(k:Nat)(x:Str)(ps:List Str)(sp:Sp):Prop:=
 ∃f fd,JF P w K mg base CX0 k f fd ps sp/\mg x=some (.ref f)/\PySem.W.keepIn K (.ref f)=true/\Zcv K fd ps []
theorem JB{P:Program}{w:World}{K:W.Frag}{mg:Str->Option Value}{base:Heap}{k:Nat}{x:Str}{st:Stmt}{ps:List Str}{sp:Sp}(d:Dfn K mg x st)(b:Zu x st ps)(h:∀{f fd},Fun K x x st f fd->JF P w K mg base CX0 k f fd ps sp):Ok P w K mg base k x ps sp:=by
 obtain⟨f,fd,F,hm⟩:=d
 exact⟨f,fd,h F,hm,F.kp,F.binds b⟩
section
variable {X:Cx}{k:Nat}{x:Str}{ps:List Str}{sp:Sp}{p pos:Pos}{e:Expr}{es:List Expr}{t:TA}
noncomputable def QA(sp:Sp)(t:TA):TE:=fun σ H Q=>t σ H fun vs H1=>sp vs H1 Q E0
theorem Zl(G:Ok X.prog X.w X.K X.mg X.base k x ps sp)(hr:VW k X.A)(hg:Gl X x)(ha:PA X (e::es) t)(hdb:(x==("__debug__":Str))=false:=by decide)(he:starEach (e::es) X.env=(false,eval e X.env)::starEach es X.env:=by rfl)(hpl:(backTo pos (starEach es X.env)).any (·.1)=false:=by rfl):PE X (.Call (.Name x p) (e::es) [] pos) (QA sp t):=by
 obtain⟨f,fd,F,hm,hk,hb⟩:=G
 intro pins s σ H Q I h
 refine Zi4 (CX:=CX0) (E:=E0) (dvs:=[]) F hr hg hm hk hb .nil Zkb ha hdb he hpl pins s σ H Q I ?_
 have e:(fun vs H1=>sp (vs++[]) H1 Q E0)=fun vs H1=>sp vs H1 Q E0:=by funext vs H1;rw[ZsL]
 show t σ H (fun vs H1=>sp (vs++[]) H1 Q E0)
 rw[e]
 exact h
theorem Zex(G:Ok X.prog X.w X.K X.mg X.base k x ps sp)(hr:VW k X.A)(hg:Gl X x)(hdb:(x==("__debug__":Str))=false:=by decide):PE X (.Call (.Name x p) [] [] pos) (QA sp ZdY):=by
 obtain⟨f,fd,F,hm,hk,hb⟩:=G
 exact Zgh (CX:=CX0) (E:=E0) (dvs:=[]) F hr hg hm hk hb .nil Zkb hdb
theorem Zak{i:Int}(hm:∃t,X.mg x=some (.int i t))(hg:Gl X x)(hd:(x==("__debug__":Str))=false:=by decide):PE X (.Name x pos) (tC (.int i)):=by
 obtain⟨t,hm⟩:=hm
 exact Zi2 (v:=.int i) hg hm ⟨t,rfl⟩ hd
theorem ZgN:Zmb X (ZjV X.K):=by
 intro pins s σ H o i ov iv Q I ro ri h
 obtain⟨p,xs,i,z,rfl,rfl,hq,he,q⟩:=h
 cases ro
 obtain⟨t,rfl⟩:=ri
 obtain⟨its,r,pl,hz⟩:=I.list hq
 obtain⟨j,h1,h2,h3,h4,h5⟩:=Za8 he
 obtain⟨w,ew,rw'⟩:=r.get h2
 have hl:=r.length
 have hn:=Qj
 have fin:EP X pins σ Q w s:=⟨z,H,I,rw',q⟩
 by_cases h0:0<=i
 ·have hj:i.toNat=j:=by
   rw[seqIndex_of h0 h5] at h1
   exact Option.some.inj h1
  exact wpAny_getItem_list pl.isList h0 (by omega) (by rw[hj];simpa using ew) fin
 ·have hj:(i+(its.toArray.size:Int)).toNat=j:=by
   rw[seqIndex_neg (by omega) h4] at h1
   rw[Zrq,<- hl]
   exact Option.some.inj h1
  exact wpAny_getItem_list_neg pl.isList (by omega) (by rw[Zrq]<;>omega) (by omega) (by rw[hj];simpa using ew) fin
end
theorem Zf4{X:Cx}:Vg X (.builtin "len") (fun xs H Q=>∃p ys,xs=[.ref p]/\(SqL X.K H p ys\/SqT X.K H p ys)/\Q (.int ys.length) H):=Zbu
theorem Jr:bootBuiltins "len"=some (.builtin "len"):=by decide +kernel
theorem Js:bootBuiltins "isinstance"=some (.builtin "isinstance"):=by decide +kernel
theorem Zdo:bootBuiltins "sum"=some (.builtin "sum"):=by decide +kernel
theorem Zf9:bootBuiltins "all"=some (.builtin "all"):=by decide +kernel
theorem ZW:bootBuiltins "list"=some (.type "list"):=by decide +kernel
theorem ZhV:bootBuiltins "int"=some (.type "int"):=by decide +kernel
theorem Zjp:bootBuiltins "bool"=some (.type "bool"):=by decide +kernel
theorem Zhs:bootBuiltins "tuple"=some (.type "tuple"):=by decide +kernel
section
variable {X:Cx}{K:W.Frag}
theorem Zx(e:X.K=K:=by rfl):IxR X (rIx K):=by subst e;exact ZkA
theorem Z8(e:X.K=K:=by rfl):Vg X (.builtin "len") (fun xs H Q=>∃p ys,xs=[.ref p]/\(SqL K H p ys\/SqT K H p ys)/\Q (.int ys.length) H):=by subst e;exact Zf4
theorem Us(hc:X.calm=true)(e:X.K=K:=by rfl):Vg X (.builtin "sum") (fun xs H Q=>∃p,∃ns:List Int,xs=[.ref p]/\SqL K H p (ns.map V.int)/\Q (.int ns.sum) H):=by subst e;exact Zhp hc
theorem Q0(hc:X.calm=true)(e:X.K=K:=by rfl):Vg X (.builtin "all") (fun xs H Q=>∃p,∃bs:List Bool,xs=[.ref p]/\SqL K H p (bs.map V.bl)/\Q (.bl (bs.all id)) H):=by subst e;exact Zhq hc
theorem Z9(e:X.K=K:=by rfl):Vg X (.type "list") (fun xs H Q=>∃p ys,xs=[.ref p]/\(SqL K H p ys\/SqT K H p ys)/\∀l,H l=none->Q (.ref l) (upd H l (.lst ys))):=by subst e;exact Zbt
theorem Qq(e:X.K=K:=by rfl):Zmb X (ZjV K):=by subst e;exact ZgN
theorem Ja{tg l:Expr}{tl:TE}(hl:PE X l tl)(e:X.K=K:=by rfl):PI X tg l (ZdB K tl):=by subst e;exact Zet hl
variable {u:TS}{H:Hp}{b:TA}
theorem ZeZ{n:Nat}{k:Int}(h0:0<=k)(h1:k<n):ixN n k=some k.toNat:=by unfold ixN;rw[if_pos h0,if_pos h1]
theorem Z2.upd{H H':Hp}{p:Addr}{o:HO}(h:Z2 H H')(hp:H p=none):Z2 H (upd H' p o):=fun b u e=>by
 rw[Zp (Z3 e hp)]
 exact h b u e
theorem Z2.new{H:Hp}{p:Addr}{o:HO}(hp:H p=none):Z2 H (L2.upd H p o):=Z2.upd (Z2.refl H) hp
theorem UL{n:Nat}(h:n<=1000):n<=sizeLine:=Zr7 h (by decide)
end
inductive Sh where
 |dk (ks:List Key)|dt (ks:List (List Key))|ob (n:Str) (fs:List Str)
  |jk
  |ls
inductive PV where
 |non|bl (b:Bool)|int (i:Int)|str (x:Str)|lst (xs:List PV)|tup (xs:List PV)
  |exc (n:Str)
  |exa (n:Str) (i:Int)
  |box (p:Option Addr) (s:Sh) (xs:List PV)
  |fz (xs:List PV)
mutual
noncomputable def PV.flat:PV->Bool
 |.lst _=>false
 |.tup xs=>PV.flats xs
 |.non=>true
 |.bl _=>true
 |.int _=>true
 |.str _=>true
 |.exc _=>true
 |.exa _ _=>true
 |.box _ _ _=>false
 |.fz xs=>PV.flats xs
noncomputable def PV.flats:List PV->Bool
 |[]=>true
 |x::xs=>x.flat&&PV.flats xs
end
def KL(K:W.Frag)(a:Addr)(xs:List V):Prop:=
 ∃(o:Obj) (its:Array Value) (n:Nat),K.lookup a=some o/\o.cls=.type "list"/\o.dict=none/\o.data=.seq its n/\its.size<=sizeLine/\ZP xs its.toList
noncomputable def ImO:HO->Prop
 |.tup _=>True
 |.frz _ _=>True
 |.xd _=>True
 |_=>False
def Im(K:W.Frag)(H:Hp)(a:Addr)(u:HO):Prop:=H a=some u/\ImO u
noncomputable def Lvo:HO->Prop
 |.lst _=>True
 |.dK _=>True
 |.dT _=>True
 |.ins _ _ _=>True
 |_=>False
noncomputable abbrev LvO:={ u:HO // Lvo u }
def ZlY(K:W.Frag)(n:Str)(C:Addr):Prop:=PySem.W.nsIn K mainGlobals n=some (some (.ref C))
def Zlj(K:W.Frag)(H:Hp)(n:Str)(v:V):Prop:=∃a o C,v=.ref a/\Im K H a (.frz o (.own a))/\o.cls=.ref C/\o.dict=none/\PySem.W.notCls o=true/\ZlY K n C
def Zlk(K:W.Frag)(H:Hp)(n:Str)(i:Int)(v:V):Prop:=∃a o C d fs,v=.ref a/\Im K H a (.frz o (.own a))/\Im K H d (.xd fs)/\o.cls=.ref C/\o.dict=some d/\PySem.W.notCls o=true/\ZlY K n C/\fs=[(("at":Str),V.int i)]
noncomputable def Zj6(K:W.Frag):Sh->List V->HO->Prop
 |.dk ks,vs,u=>ks.length=vs.length/\u=.dK (ks.zip vs)
 |.dt ks,vs,u=>ks.length=vs.length/\u=.dT (ks.zip vs)
 |.ob n fs,vs,u=>fs.length=vs.length/\∃C dx,u=.ins C dx (fs.zip vs)/\ZlY K n C
 |.jk,vs,u=>vs=[]/\∃ws,u=.lst ws
 |.ls,vs,u=>u=.lst vs
def Zlw(p:Option Addr)(a:Addr):Prop:=match p with
 |none=>True
 |some b=>a=b
theorem Zj6.lv{K:W.Frag}{s:Sh}{vs:List V}{u:HO}(h:Zj6 K s vs u):Lvo u:=by
 cases s with
 |dk ks=>obtain⟨_,rfl⟩:=h;trivial
 |dt ks=>obtain⟨_,rfl⟩:=h;trivial
 |ob n fs=>obtain⟨_,C,dx,rfl,_⟩:=h;trivial
 |jk=>obtain⟨_,ws,rfl⟩:=h;trivial
 |ls=>cases h;trivial
theorem Zar{u o:HO}(h:Lvo u)(h':ImO o):o≠u:=by
 intro e;subst e
 cases o<;>first|exact h|exact h'
def FzL(K:W.Frag)(H:Hp)(a:Addr)(vs:List V):Prop:=∃o,Im K H a (.frz o (.lst vs))
mutual
noncomputable def Rep(K:W.Frag)(H:Hp)(S:Addr->Prop):PV->V->Prop
 |.non,v=>v=.non
 |.bl b,v=>v=.bl b
 |.int i,v=>v=.int i
 |.str x,v=>v=.str x
 |.exc n,v=>Zlj K H n v
 |.exa n i,v=>Zlk K H n i v
 |.box p s xs,v=>∃a vs u,v=.ref a/\(Rd H a u/\S a)/\(Zlw p a/\Zj6 K s vs u)/\Reps K H S xs vs
 |.lst xs,v=>∃a vs,v=.ref a/\((Rd H a (.lst vs)/\S a)\/KL K a vs)/\Reps K H S xs vs
 |.tup xs,v=>∃a vs,v=.ref a/\Im K H a (.tup vs)/\Reps K H S xs vs
 |.fz xs,v=>∃a vs,v=.ref a/\FzL K H a vs/\Reps K H S xs vs
noncomputable def Reps(K:W.Frag)(H:Hp)(S:Addr->Prop):List PV->List V->Prop
 |[],vs=>vs=[]
 |x::xs,vs=>∃v r,vs=v::r/\Rep K H S x v/\Reps K H S xs r
end
mutual
noncomputable def Jg(K:W.Frag)(H:Hp):PV->V->List Addr->Prop
 |.non,v,F=>v=.non/\F=[]
 |.bl b,v,F=>v=.bl b/\F=[]
 |.int i,v,F=>v=.int i/\F=[]
 |.str x,v,F=>v=.str x/\F=[]
 |.exc n,v,F=>Zlj K H n v/\F=[]
 |.exa n i,v,F=>Zlk K H n i v/\F=[]
 |.box p s xs,v,F=>∃a vs u G,v=.ref a/\H a=some u/\(Zlw p a/\Zj6 K s vs u)/\Trees K H xs vs G/\a ∉ G/\F=a::G
 |.lst xs,v,F=>∃a vs G,v=.ref a/\H a=some (.lst vs)/\Trees K H xs vs G/\a ∉ G/\F=a::G
 |.tup xs,v,F=>∃a vs,v=.ref a/\Im K H a (.tup vs)/\Trees K H xs vs F
 |.fz xs,v,F=>∃a vs,v=.ref a/\FzL K H a vs/\Trees K H xs vs F
noncomputable def Trees(K:W.Frag)(H:Hp):List PV->List V->List Addr->Prop
 |[],vs,F=>vs=[]/\F=[]
 |x::xs,vs,F=>∃v r G1 G2,vs=v::r/\Jg K H x v G1/\Trees K H xs r G2/\(∀a∈G1,a ∉ G2)/\F=G1++G2
end
section
variable {K:W.Frag}{H H':Hp}{S S':Addr->Prop}
mutual
theorem Rep.mono(h1:∀a u,S a->Rd H a u->Rd H' a u/\S' a)(h2:∀a u,Im K H a u->Im K H' a u):∀{x:PV}{v:V},Rep K H S x v->Rep K H' S' x v
 |.non,_,h=>h
 |.bl _,_,h=>h
 |.int _,_,h=>h
 |.str _,_,h=>h
 |.exc n,_,h=>let ⟨a,o,C,e1,e2,e3⟩:=h;⟨a,o,C,e1,h2 a _ e2,e3⟩
 |.exa n i,_,h=>let ⟨a,o,C,d,fs,e1,e2,e2',e3⟩:=h;⟨a,o,C,d,fs,e1,h2 a _ e2,h2 d _ e2',e3⟩
 |.box p s xs,_,h=>by
  obtain⟨a,vs,u,rfl,⟨n1,n2⟩,hb,hr⟩:=h
  exact⟨a,vs,u,rfl,h1 a u n2 n1,hb,Reps.mono h1 h2 hr⟩
 |.lst xs,_,h=>by
  obtain⟨a,vs,rfl,hn,hr⟩:=h
  refine⟨a,vs,rfl, ?_,Reps.mono h1 h2 hr⟩
  rcases hn with ⟨n1,n2⟩|n
  ·exact .inl (h1 a _ n2 n1)
  ·exact .inr n
 |.tup xs,_,h=>by
  obtain⟨a,vs,rfl,hn,hr⟩:=h
  exact⟨a,vs,rfl,h2 a _ hn,Reps.mono h1 h2 hr⟩
 |.fz xs,_,h=>by
  obtain⟨a,vs,rfl,⟨o,hn⟩,hr⟩:=h
  exact⟨a,vs,rfl,⟨o,h2 a _ hn⟩,Reps.mono h1 h2 hr⟩
theorem Reps.mono(h1:∀a u,S a->Rd H a u->Rd H' a u/\S' a)(h2:∀a u,Im K H a u->Im K H' a u):∀{xs:List PV}{vs:List V},Reps K H S xs vs->Reps K H' S' xs vs
 |[],_,h=>h
 |x::xs,_,h=>by
  obtain⟨v,r,rfl,h3,h4⟩:=h
  exact⟨v,r,rfl,Rep.mono h1 h2 h3,Reps.mono h1 h2 h4⟩
end
mutual
theorem Jg.mono:∀{x:PV}{v:V}{F:List Addr},(∀a∈F,∀o,H a=some o->H' a=some o)->(∀a vs,Im K H a vs->Im K H' a vs)->Jg K H x v F->Jg K H' x v F
 |.non,_,_,_,_,h=>h
 |.bl _,_,_,_,_,h=>h
 |.int _,_,_,_,_,h=>h
 |.str _,_,_,_,_,h=>h
 |.exc n,_,_,_,h2,h=>let ⟨⟨a,o,C,e1,e2,e3⟩,e4⟩:=h;⟨⟨a,o,C,e1,h2 a _ e2,e3⟩,e4⟩
 |.exa n i,_,_,_,h2,h=>let ⟨⟨a,o,C,d,fs,e1,e2,e2',e3⟩,e4⟩:=h;⟨⟨a,o,C,d,fs,e1,h2 a _ e2,h2 d _ e2',e3⟩,e4⟩
 |.box p s xs,_,_,h1,h2,h=>by
  obtain⟨a,vs,u,G,rfl,ha,hb,ht,hn,rfl⟩:=h
  exact⟨a,vs,u,G,rfl,h1 a (by simp) _ ha,hb,Trees.mono (fun b hb o e=>h1 b (by simp[hb]) o e) h2 ht,hn,rfl⟩
 |.lst xs,_,_,h1,h2,h=>by
  obtain⟨a,vs,G,rfl,ha,ht,hn,rfl⟩:=h
  exact⟨a,vs,G,rfl,h1 a (by simp) _ ha,Trees.mono (fun b hb o e=>h1 b (by simp[hb]) o e) h2 ht,hn,rfl⟩
 |.tup xs,_,_,h1,h2,h=>by
  obtain⟨a,vs,rfl,ha,ht⟩:=h
  exact⟨a,vs,rfl,h2 a _ ha,Trees.mono h1 h2 ht⟩
 |.fz xs,_,_,h1,h2,h=>by
  obtain⟨a,vs,rfl,⟨o,ha⟩,ht⟩:=h
  exact⟨a,vs,rfl,⟨o,h2 a _ ha⟩,Trees.mono h1 h2 ht⟩
theorem Trees.mono:∀{xs:List PV}{vs:List V}{F:List Addr},(∀a∈F,∀o,H a=some o->H' a=some o)->(∀a vs,Im K H a vs->Im K H' a vs)->Trees K H xs vs F->Trees K H' xs vs F
 |[],_,_,_,_,h=>h
 |x::xs,_,_,h1,h2,h=>by
  obtain⟨v,r,G1,G2,rfl,h3,h4,hd,rfl⟩:=h
  exact⟨v,r,G1,G2,rfl,Jg.mono (fun b hb o e=>h1 b (by simp[hb]) o e) h2 h3,Trees.mono (fun b hb o e=>h1 b (by simp[hb]) o e) h2 h4,hd,rfl⟩
end
mutual
theorem Jg.rep:∀{x:PV}{v:V}{F:List Addr},(∀a∈F,S a)->Jg K H x v F->Rep K H S x v
 |.non,_,_,_,h=>h.1
 |.bl _,_,_,_,h=>h.1
 |.int _,_,_,_,h=>h.1
 |.str _,_,_,_,h=>h.1
 |.exc _,_,_,_,h=>h.1
 |.exa _ _,_,_,_,h=>h.1
 |.box p s xs,_,_,h1,h=>by
  obtain⟨a,vs,u,G,rfl,ha,hb,ht,hn,rfl⟩:=h
  exact⟨a,vs,u,rfl,⟨.inl ha,h1 a (by simp)⟩,hb,Trees.reps (fun b hb=>h1 b (by simp[hb])) ht⟩
 |.lst xs,_,_,h1,h=>by
  obtain⟨a,vs,G,rfl,ha,ht,hn,rfl⟩:=h
  exact⟨a,vs,rfl,.inl ⟨.inl ha,h1 a (by simp)⟩,Trees.reps (fun b hb=>h1 b (by simp[hb])) ht⟩
 |.tup xs,_,_,h1,h=>by
  obtain⟨a,vs,rfl,ha,ht⟩:=h
  exact⟨a,vs,rfl,ha,Trees.reps h1 ht⟩
 |.fz xs,_,_,h1,h=>by
  obtain⟨a,vs,rfl,ha,ht⟩:=h
  exact⟨a,vs,rfl,ha,Trees.reps h1 ht⟩
theorem Trees.reps:∀{xs:List PV}{vs:List V}{F:List Addr},(∀a∈F,S a)->Trees K H xs vs F->Reps K H S xs vs
 |[],_,_,_,h=>h.1
 |x::xs,_,_,h1,h=>by
  obtain⟨v,r,G1,G2,rfl,h3,h4,hd,rfl⟩:=h
  exact⟨v,r,rfl,Jg.rep (fun b hb=>h1 b (by simp[hb])) h3,Trees.reps (fun b hb=>h1 b (by simp[hb])) h4⟩
end
mutual
theorem Jg.alive:∀{x:PV}{v:V}{F:List Addr},Jg K H x v F->∀a∈F,∃vs:LvO,H a=some vs.1
 |.non,_,_,h=>by rw[h.2];simp
 |.bl _,_,_,h=>by rw[h.2];simp
 |.int _,_,_,h=>by rw[h.2];simp
 |.str _,_,_,h=>by rw[h.2];simp
 |.exc _,_,_,h=>by rw[h.2];simp
 |.exa _ _,_,_,h=>by rw[h.2];simp
 |.box p s xs,_,_,h=>by
  obtain⟨a,vs,u,G,rfl,ha,hb,ht,hn,rfl⟩:=h
  intro b hb'
  rcases Zrt.mp hb' with rfl|hb'
  ·exact⟨⟨u,hb.2.lv⟩,ha⟩
  ·exact Trees.alive ht b hb'
 |.lst xs,_,_,h=>by
  obtain⟨a,vs,G,rfl,ha,ht,hn,rfl⟩:=h
  intro b hb
  rcases Zrt.mp hb with rfl|hb
  ·exact⟨⟨.lst vs,trivial⟩,ha⟩
  ·exact Trees.alive ht b hb
 |.tup xs,_,_,h=>by
  obtain⟨a,vs,rfl,ha,ht⟩:=h
  exact Trees.alive ht
 |.fz xs,_,_,h=>by
  obtain⟨a,vs,rfl,ha,ht⟩:=h
  exact Trees.alive ht
theorem Trees.alive:∀{xs:List PV}{vs:List V}{F:List Addr},Trees K H xs vs F->∀a∈F,∃vs:LvO,H a=some vs.1
 |[],_,_,h=>by rw[h.2];simp
 |x::xs,_,_,h=>by
  obtain⟨v,r,G1,G2,rfl,h3,h4,hd,rfl⟩:=h
  intro b hb
  rcases Zro.mp hb with hb|hb
  ·exact Jg.alive h3 b hb
  ·exact Trees.alive h4 b hb
end
mutual
theorem Rep.tree:∀{x:PV}{v:V},x.flat=true->Rep K H S x v->Jg K H x v []
 |.non,_,_,h=>⟨h,rfl⟩
 |.bl _,_,_,h=>⟨h,rfl⟩
 |.int _,_,_,h=>⟨h,rfl⟩
 |.str _,_,_,h=>⟨h,rfl⟩
 |.exc _,_,_,h=>⟨h,rfl⟩
 |.exa _ _,_,_,h=>⟨h,rfl⟩
 |.box p s xs,_,f,_=>by simp[PV.flat] at f
 |.lst xs,_,f,_=>by simp[PV.flat] at f
 |.tup xs,_,f,h=>by
  obtain⟨a,vs,rfl,ha,ht⟩:=h
  exact⟨a,vs,rfl,ha,Reps.trees (by simpa[PV.flat] using f) ht⟩
 |.fz xs,_,f,h=>by
  obtain⟨a,vs,rfl,ha,ht⟩:=h
  exact⟨a,vs,rfl,ha,Reps.trees (by simpa[PV.flat] using f) ht⟩
theorem Reps.trees:∀{xs:List PV}{vs:List V},PV.flats xs=true->Reps K H S xs vs->Trees K H xs vs []
 |[],_,_,h=>⟨h,rfl⟩
 |x::xs,_,f,h=>by
  obtain⟨v,r,rfl,h3,h4⟩:=h
  simp only[PV.flats,Bool.and_eq_true] at f
  exact⟨v,r,[],[],rfl,Rep.tree f.1 h3,Reps.trees f.2 h4,by simp,rfl⟩
end
theorem Rep.any(h:Rep K H S x v):Rep K H (fun _=>True) x v:=Rep.mono (fun a vs _ r=>⟨r,trivial⟩) (fun a vs r=>r) h
theorem Reps.any(h:Reps K H S xs vs):Reps K H (fun _=>True) xs vs:=Reps.mono (fun a vs _ r=>⟨r,trivial⟩) (fun a vs r=>r) h
theorem Rep.flatS{x:PV}{v:V}(f:x.flat=true)(h:Rep K H S x v):Rep K H S' x v:=Jg.rep (F:=[]) (by simp) (Rep.tree f h)
theorem Reps.length:∀{xs:List PV}{vs:List V},Reps K H S xs vs->vs.length=xs.length
 |[],_,h=>by rw[h];rfl
 |x::xs,_,h=>by
  obtain⟨v,r,rfl,h3,h4⟩:=h
  simp[Reps.length h4]
theorem Trees.length{xs:List PV}{vs:List V}{F:List Addr}(h:Trees K H xs vs F):vs.length=xs.length:=(Trees.reps (S:=fun _=>True) (fun _ _=>trivial) h).length
theorem Reps.get:∀{xs:List PV}{vs:List V}{i:Nat}{x:PV},Reps K H S xs vs->xs[i]?=some x->∃v,vs[i]?=some v/\Rep K H S x v
 |[],_,_,_,_,e=>by simp at e
 |y::xs,_,0,x,h,e=>by
  obtain⟨v,r,rfl,h3,h4⟩:=h
  simp at e;subst e
  exact⟨v,rfl,h3⟩
 |y::xs,_,i+1,x,h,e=>by
  obtain⟨v,r,rfl,h3,h4⟩:=h
  obtain⟨w,e1,e2⟩:=Reps.get (i:=i) h4 (by simpa using e)
  exact⟨w,by simpa using e1,e2⟩
theorem Reps.append:∀{xs ys:List PV}{vs ws:List V},Reps K H S xs vs->Reps K H S ys ws->Reps K H S (xs++ys) (vs++ws)
 |[],_,_,_,h,h'=>by rw[h];exact h'
 |x::xs,_,_,_,h,h'=>by
  obtain⟨v,r,rfl,h3,h4⟩:=h
  exact⟨v,r++_,rfl,h3,Reps.append h4 h'⟩
theorem Reps.one{x:PV}{v:V}(h:Rep K H S x v):Reps K H S [x] [v]:=⟨v,[],rfl,h,rfl⟩
theorem Trees.append:∀{xs ys:List PV}{vs ws:List V}{F G:List Addr},Trees K H xs vs F->Trees K H ys ws G->(∀a∈F,a ∉ G)->Trees K H (xs++ys) (vs++ws) (F++G)
 |[],_,_,_,_,_,h,h',_=>by rw[h.1,h.2];exact h'
 |x::xs,_,_,_,_,_,h,h',hd=>by
  obtain⟨v,r,G1,G2,rfl,h3,h4,hd',rfl⟩:=h
  refine⟨v,r++_,G1,G2++_,rfl,h3,Trees.append h4 h' (fun a ha=>hd a (by simp[ha])),fun a ha z=>?_,by simp⟩
  rcases Zro.mp z with z|z
  ·exact hd' a ha z
  ·exact hd a (by simp[ha]) z
theorem Trees.one{x:PV}{v:V}{F:List Addr}(h:Jg K H x v F):Trees K H [x] [v] F:=⟨v,[],F,[],rfl,h,⟨rfl,rfl⟩,by simp,by simp⟩
theorem PV.flats_all:∀{xs:List PV},PV.flats xs=true ↔ ∀x∈xs,x.flat=true
 |[]=>by simp[PV.flats]
 |x::xs=>by simp[PV.flats,PV.flats_all (xs:=xs)]
theorem PV.flats_ints(ns:List Int):PV.flats (ns.map PV.int)=true:=PV.flats_all.mpr (by simp[PV.flat])
theorem Rd.same(e:Z2 H H')(h:Rd H a u):Rd H' a u:=by
 rcases h with h|⟨o,h⟩
 ·exact .inl (e _ _ h)
 ·exact .inr ⟨o,e _ _ h⟩
theorem Z2.im(e:Z2 H H'){k:HO}(h:Im K H a k):Im K H' a k:=⟨e _ _ h.1,h.2⟩
theorem Im.sqT{vs:List V}(h:Im K H a (.tup vs)):SqT K H a vs:=.inl (.inl h.1)
theorem Rep.same(e:Z2 H H')(h:Rep K H S x v):Rep K H' S x v:=Rep.mono (fun a vs s r=>⟨r.same e,s⟩) (fun a vs r=>e.im r) h
theorem Reps.same(e:Z2 H H')(h:Reps K H S xs vs):Reps K H' S xs vs:=Reps.mono (fun a vs s r=>⟨r.same e,s⟩) (fun a vs r=>e.im r) h
theorem Jg.same(e:Z2 H H')(h:Jg K H x v F):Jg K H' x v F:=Jg.mono (fun a _ o q=>e a o q) (fun a vs r=>e.im r) h
theorem Trees.same(e:Z2 H H')(h:Trees K H xs vs F):Trees K H' xs vs F:=Trees.mono (fun a _ o q=>e a o q) (fun a vs r=>e.im r) h
theorem Im.putL{p:Addr}{us:LvO}{o:HO}{k:HO}(hp:H p=some us.1)(h:Im K H a k):Im K (upd H p o) a k:=
 ⟨by rw[Zp (ZiN h.1 hp (Zar us.2 h.2))];exact h.1,h.2⟩
theorem Trees.putL{p:Addr}{us:LvO}{o:HO}(hp:H p=some us.1)(hS:p ∉ F)(h:Trees K H xs vs F):Trees K (upd H p o) xs vs F:=
 Trees.mono (fun a ha o q=>by
  have hne:a≠p:=fun z=>hS (z▸ha)
  rw[Zp hne];exact q) (fun a vs r=>Im.putL hp r) h
theorem Trees.put{p:Addr}{us:List V}{o:HO}(hp:H p=some (.lst us))(hS:p ∉ F)(h:Trees K H xs vs F):Trees K (upd H p o) xs vs F:=Trees.putL (us:=⟨.lst us,trivial⟩) hp hS h
end
inductive Md|U|P|S|T|O
 deriving DecidableEq
def NO(B:Addr->Prop)(F:Nat->List Addr)(R:List Addr)(a:Addr):Prop:=B a/\a ∉ R/\∀i,a ∉ F i
def Uv(K:W.Frag)(H:Hp)(S:Addr->Prop)(m:Md)(x:PV)(o:Option (Option V))(G:List Addr):Prop:=match m with
 |.U=>G=[]
 |.P=>G=[]/\∃v,o=some (some v)/\x.flat=true/\Rep K H (fun _=>True) x v
 |.S=>G=[]/\∃v,o=some (some v)/\Rep K H S x v
 |.T=>∃a vs xs,o=some (some (.ref a))/\x=.lst xs/\H a=some (.lst vs)/\Reps K H S xs vs/\G=[a]
 |.O=>∃v,o=some (some v)/\Jg K H x v G
structure Ag(K:PySem.W.Frag)(B:Addr->Prop)(H0 H:Hp)(σ:St)(Γ:List Md)(ρ:List PV)(F:Nat->List Addr)(R:List Addr):Prop where
 same:Z2 H0 H
 own:∀a,H0 a=none->B a
 young:∀i,∀a∈F i,H0 a=none
 youngR:∀a∈R,H0 a=none
 live:∀i,∀a∈F i,∃vs:LvO,H a=some vs.1
 liveR:∀a∈R,∃vs:LvO,H a=some vs.1
 disj:∀i j,i≠j->∀a∈F i,a ∉ F j
 disjR:∀i,∀a∈F i,a ∉ R
 lenS:σ.length=Γ.length
 lenR:ρ.length=Γ.length
 slot:∀i,Uv K H (NO B F R) (Γ.getD i .U) (ρ.getD i .non) σ[i]? (F i)
theorem Uv.mono{K:W.Frag}{H H':Hp}{S S':Addr->Prop}{m:Md}{x:PV}{o:Option (Option V)}{G:List Addr}(h:Uv K H S m x o G)(h1:∀a u,S a->Rd H a u->Rd H' a u/\S' a)(h2:∀a u,Im K H a u->Im K H' a u)(h3:∀a∈G,∀u,H a=some u->H' a=some u):Uv K H' S' m x o G:=by
 cases m with
 |U=>exact h
 |P =>
  obtain⟨e,v,h4,h5,h6⟩:=h
  exact⟨e,v,h4,h5,Jg.rep (F:=[]) (by simp) (Jg.mono (by simp) h2 (Rep.tree h5 h6))⟩
 |S =>
  obtain⟨e,v,h4,h5⟩:=h
  exact⟨e,v,h4,Rep.mono h1 h2 h5⟩
 |T =>
  obtain⟨a,vs,xs,h4,h5,h6,h7,rfl⟩:=h
  exact⟨a,vs,xs,h4,h5,h3 a (by simp) _ h6,Reps.mono h1 h2 h7,rfl⟩
 |O =>
  obtain⟨v,h4,h5⟩:=h
  exact⟨v,h4,Jg.mono (fun a ha o q=>h3 a ha o q) h2 h5⟩
section
variable {K:W.Frag}{B:Addr->Prop}{H0 H H':Hp}{σ:St}{Γ:List Md}{ρ:List PV}{F:Nat->List Addr}{R R':List Addr}
theorem Ag.grow(A:Ag K B H0 H σ Γ ρ F R)(e:Z2 H H'):Ag K B H0 H' σ Γ ρ F R:=
 ⟨A.same.trans e,A.own,A.young,A.youngR,fun i a ha=>let ⟨vs,q⟩:=A.live i a ha;⟨vs,e _ _ q⟩,fun a ha=>let ⟨vs,q⟩:=A.liveR a ha;⟨vs,e _ _ q⟩,A.disj,A.disjR,A.lenS,A.lenR,
  fun i=>(A.slot i).mono (fun a vs s r=>⟨r.same e,s⟩) (fun a vs r=>e.im r) fun a ha vs q=>e _ _ q⟩
theorem Ag.less(A:Ag K B H0 H σ Γ ρ F R)(h:∀a∈R',a∈R):Ag K B H0 H σ Γ ρ F R':=
 ⟨A.same,A.own,A.young,fun a ha=>A.youngR a (h a ha),A.live,fun a ha=>A.liveR a (h a ha),A.disj,fun i a ha z=>A.disjR i a ha (h a z),A.lenS,A.lenR,
  fun i=>(A.slot i).mono (fun a vs s r=>⟨r,s.1,fun z=>s.2.1 (h a z),s.2.2⟩) (fun a vs r=>r) fun a ha vs q=>q⟩
theorem Ag.more{G:List Addr}(A:Ag K B H0 H σ Γ ρ F R)(e:Z2 H H')(hf:∀a∈G,H a=none)(hl:∀a∈G,∃vs:LvO,H' a=some vs.1):Ag K B H0 H' σ Γ ρ F (G++R):=by
 refine⟨A.same.trans e,A.own,A.young,fun a ha=>?_,fun i a ha=>let ⟨vs,q⟩:=A.live i a ha;⟨vs,e _ _ q⟩,fun a ha=>?_,A.disj,fun i a ha z=>?_,A.lenS,A.lenR,fun i=>?_⟩
 ·rcases Zro.mp ha with z|z
  ·exact A.same.free (hf a z)
  ·exact A.youngR a z
 ·rcases Zro.mp ha with z|z
  ·exact hl a z
  ·obtain⟨vs,q⟩:=A.liveR a z
   exact⟨vs,e _ _ q⟩
 ·rcases Zro.mp z with z|z
  ·obtain⟨vs,q⟩:=A.live i a ha
   rw[hf a z] at q;cases q
  ·exact A.disjR i a ha z
 ·refine(A.slot i).mono (fun a vs s r=>⟨r.same e,s.1,fun z=>?_,s.2.2⟩) (fun a vs r=>e.im r) fun a ha vs q=>e _ _ q
  rcases Zro.mp z with z|z
  ·have:=hf a z
   rcases r with r|⟨o,r⟩<;>(rw[this] at r;cases r)
  ·exact s.2.1 z
theorem Ag.fresh(A:Ag K B H0 H σ Γ ρ F R){p:Addr}(hp:H p=none):p ∉ R/\(∀i,p ∉ F i)/\H0 p=none/\B p:=by
 refine⟨fun z=>?_,fun i z=>?_,A.same.free hp,A.own p (A.same.free hp)⟩
 ·obtain⟨vs,q⟩:=A.liveR p z
  rw[hp] at q;cases q
 ·obtain⟨vs,q⟩:=A.live i p z
  rw[hp] at q;cases q
theorem Ag.new{p:Addr}{xs:List V}(A:Ag K B H0 H σ Γ ρ F R)(hp:H p=none):Ag K B H0 (upd H p (.lst xs)) σ Γ ρ F (p::R):=
 A.more (G:=[p]) (Z2.new hp) (fun a ha=>by rw[ZrD.mp ha];exact hp) fun a ha=>⟨⟨.lst xs,trivial⟩,by rw[ZrD.mp ha,Zv]⟩
theorem Ag.newB{p:Addr}{u:HO}(hu:Lvo u)(A:Ag K B H0 H σ Γ ρ F R)(hp:H p=none):Ag K B H0 (upd H p u) σ Γ ρ F (p::R):=
 A.more (G:=[p]) (Z2.new hp) (fun a ha=>by rw[ZrD.mp ha];exact hp) fun a ha=>⟨⟨u,hu⟩,by rw[ZrD.mp ha,Zv]⟩
theorem Ag.getO{i:Nat}(A:Ag K B H0 H σ Γ ρ F R)(h:Γ[i]?=some .O):∃v,σ[i]?=some (some v)/\Jg K H (ρ.getD i .non) v (F i):=by
 have:=A.slot i
 rw[Zrf,h] at this
 exact this
theorem Ag.getT{i:Nat}(A:Ag K B H0 H σ Γ ρ F R)(h:Γ[i]?=some .T):∃a vs xs,σ[i]?=some (some (.ref a))/\ρ.getD i .non=.lst xs/\H a=some (.lst vs)/\Reps K H (NO B F R) xs vs/\F i=[a]:=by
 have:=A.slot i
 rw[Zrf (l:=Γ),h] at this
 exact this
theorem Ag.getS{i:Nat}(A:Ag K B H0 H σ Γ ρ F R)(h:Γ[i]?=some .S):∃v,σ[i]?=some (some v)/\Rep K H (NO B F R) (ρ.getD i .non) v:=by
 have:=A.slot i
 rw[Zrf (l:=Γ),h] at this
 exact this.2
theorem Ag.getP{i:Nat}(A:Ag K B H0 H σ Γ ρ F R)(h:Γ[i]?=some .P):∃v,σ[i]?=some (some v)/\(ρ.getD i .non).flat=true/\Rep K H (fun _=>True) (ρ.getD i .non) v:=by
 have:=A.slot i
 rw[Zrf (l:=Γ),h] at this
 exact this.2
theorem Ag.getA{i:Nat}{m:Md}(A:Ag K B H0 H σ Γ ρ F R)(h:Γ[i]?=some m)(hm:m≠.U):∃v,σ[i]?=some (some v)/\Rep K H (fun _=>True) (ρ.getD i .non) v:=by
 cases m with
 |U=>exact absurd rfl hm
 |P=>obtain⟨v,h1,h2,h3⟩:=A.getP h;exact⟨v,h1,h3⟩
 |S=>obtain⟨v,h1,h2⟩:=A.getS h;exact⟨v,h1,h2.any⟩
 |T =>
  obtain⟨a,vs,xs,h1,h2,h3,h4,h5⟩:=A.getT h
  exact⟨_,h1,by rw[h2];exact⟨a,vs,rfl,.inl ⟨.inl h3,trivial⟩,h4.any⟩⟩
 |O=>obtain⟨v,h1,h2⟩:=A.getO h;exact⟨v,h1,h2.rep (fun _ _=>trivial)⟩
theorem Ag.lt{i:Nat}{m:Md}(A:Ag K B H0 H σ Γ ρ F R)(h:Γ[i]?=some m):i<Γ.length:=(Zrg.mp h).1
noncomputable def Ud(F:Nat->List Addr)(i:Nat)(G:List Addr):Nat->List Addr:=fun j=>if j=i then G else F j
theorem Zt{i:Nat}{G:List Addr}:Ud F i G i=G:=if_pos rfl
theorem Z0{i j:Nat}{G:List Addr}(h:j≠i):Ud F i G j=F j:=if_neg h
theorem Ag.put{i:Nat}{m:Md}{x:PV}{v:V}{G:List Addr}(A:Ag K B H0 H σ Γ ρ F (G++R))(hi:i<Γ.length)(hG:∀a∈G,a ∉ R)(hs:Uv K H (NO B (Ud F i G) R) m x (some (some v)) G) :
  Ag K B H0 H (σ.set i (some v)) (Γ.set i m) (ρ.set i x) (Ud F i G) R:=by
 refine⟨A.same,A.own,fun j a ha=>?_,fun a ha=>A.youngR a (Zrk _ ha),fun j a ha=>?_,fun a ha=>A.liveR a (Zrk _ ha),fun j k hjk a ha z=>?_,fun j a ha z=>?_,by simp[A.lenS],by simp[A.lenR],fun j=>?_⟩
 ·by_cases h:j=i
  ·subst h;rw[Zt] at ha;exact A.youngR a (Zrp _ ha)
  ·rw[Z0 h] at ha;exact A.young j a ha
 ·by_cases h:j=i
  ·subst h;rw[Zt] at ha;exact A.liveR a (Zrp _ ha)
  ·rw[Z0 h] at ha;exact A.live j a ha
 ·by_cases h:j=i
  ·subst h
   rw[Zt] at ha
   rw[Z0 (Ne.symm hjk)] at z
   exact A.disjR k a z (Zrp _ ha)
  ·rw[Z0 h] at ha
   by_cases h':k=i
   ·subst h'
    rw[Zt] at z
    exact A.disjR j a ha (Zrp _ z)
   ·rw[Z0 h'] at z
    exact A.disj j k hjk a ha z
 ·by_cases h:j=i
  ·subst h;rw[Zt] at ha;exact hG a ha z
  ·rw[Z0 h] at ha;exact A.disjR j a ha (Zrk _ z)
 ·by_cases h:j=i
  ·subst h
   rw[Zt,Zrf,Zrf,ZrC hi,ZrC (by rw[A.lenR];exact hi),ZrC (by rw[A.lenS];exact hi)]
   exact hs
  ·rw[Z0 h,Zrf,Zrf,ZrJ (Ne.symm h),ZrJ (Ne.symm h),ZrJ (Ne.symm h),<- Zrf,<- Zrf]
   refine(A.slot j).mono (fun a vs s r=>⟨r,s.1,fun z=>s.2.1 (Zrk _ z),fun k z=>?_⟩) (fun a vs r=>r) fun a ha vs q=>q
   by_cases h':k=i
   ·subst h';rw[Zt] at z;exact s.2.1 (Zrp _ z)
   ·rw[Z0 h'] at z;exact s.2.2 k z
theorem Ag.turn{i:Nat}{m m':Md}{G:List Addr}(A:Ag K B H0 H σ Γ ρ F R)(h:Γ[i]?=some m)(hG:∀a∈G,a∈F i)(hs:Uv K H (NO B (Ud F i []) (G++R)) m' (ρ.getD i .non) σ[i]? []) :
  Ag K B H0 H σ (Γ.set i m') ρ (Ud F i []) (G++R):=by
 have hi:=A.lt h
 refine⟨A.same,A.own,fun j a ha=>?_,fun a ha=>?_,fun j a ha=>?_,fun a ha=>?_,fun j k hjk a ha z=>?_,fun j a ha z=>?_,by simp[A.lenS],by simp[A.lenR],fun j=>?_⟩
 ·by_cases h:j=i
  ·subst h;rw[Zt] at ha;simp at ha
  ·rw[Z0 h] at ha;exact A.young j a ha
 ·rcases Zro.mp ha with z|z
  ·exact A.young i a (hG a z)
  ·exact A.youngR a z
 ·by_cases h:j=i
  ·subst h;rw[Zt] at ha;simp at ha
  ·rw[Z0 h] at ha;exact A.live j a ha
 ·rcases Zro.mp ha with z|z
  ·exact A.live i a (hG a z)
  ·exact A.liveR a z
 ·by_cases h:j=i
  ·subst h;rw[Zt] at ha;simp at ha
  ·by_cases h':k=i
   ·subst h';rw[Zt] at z;simp at z
   ·rw[Z0 h] at ha;rw[Z0 h'] at z;exact A.disj j k hjk a ha z
 ·by_cases h:j=i
  ·subst h;rw[Zt] at ha;simp at ha
  ·rw[Z0 h] at ha
   rcases Zro.mp z with z|z
   ·exact A.disj j i h a ha (hG a z)
   ·exact A.disjR j a ha z
 ·by_cases h:j=i
  ·subst h
   rw[Zt,Zrf (l:=Γ.set _ _),ZrC hi]
   exact hs
  ·rw[Z0 h,Zrf (l:=Γ.set _ _),ZrJ (Ne.symm h),<- Zrf]
   refine(A.slot j).mono (fun a vs s r=>⟨r,s.1,fun z=>?_,fun k z=>?_⟩) (fun a vs r=>r) fun a ha vs q=>q
   ·rcases Zro.mp z with z|z
    ·exact s.2.2 i (hG a z)
    ·exact s.2.1 z
   ·by_cases h':k=i
    ·subst h';rw[Zt] at z;simp at z
    ·rw[Z0 h'] at z;exact s.2.2 k z
theorem Ag.move{i:Nat}(A:Ag K B H0 H σ Γ ρ F R)(h:Γ[i]?=some .O):Ag K B H0 H σ (Γ.set i .U) ρ (Ud F i []) (F i++R):=A.turn (G:=F i) h (fun a ha=>ha) rfl
end
noncomputable abbrev PX:=Str×PV
inductive Rr(α:Type) where
 |ok (a:α)|exc (e:PX)|bad
noncomputable def Rr.bind{α β:Type}:Rr α->(α->Rr β)->Rr β
 |.ok a,f=>f a
 |.exc e,_=>.exc e
 |.bad,_=>.bad
def Dn{α:Type}(r:Rr α)(ok:α->Prop)(ex:PX->Prop):Prop:=match r with
 |.ok a=>ok a
 |.exc e=>ex e
 |.bad=>False
theorem Dn.bind{α β:Type}{r:Rr α}{f:α->Rr β}{ok:β->Prop}{ex:PX->Prop}(h:Dn (r.bind f) ok ex):Dn r (fun a=>Dn (f a) ok ex) ex:=by
 cases r with
 |ok a=>exact h
 |exc e=>exact h
 |bad=>exact h
theorem Dn.imp{α:Type}{r:Rr α}{ok ok':α->Prop}{ex ex':PX->Prop}(h:Dn r ok ex)(h1:∀a,r=.ok a->ok a->ok' a)(h2:∀e,ex e->ex' e):Dn r ok' ex':=by
 cases r with
 |ok a=>exact h1 a rfl h
 |exc e=>exact h2 e h
 |bad=>exact h
@[simp] theorem Rr.bind_ok{α β:Type}{a:α}{f:α->Rr β}:(Rr.ok a).bind f=f a:=rfl
@[simp] theorem Rr.bind_exc{α β:Type}{e:PX}{f:α->Rr β}:(Rr.exc e:Rr α).bind f=.exc e:=rfl
@[simp] theorem Rr.bind_bad{α β:Type}{f:α->Rr β}:(Rr.bad:Rr α).bind f=.bad:=rfl
inductive Kd|P|F|T|Z|A|N|M
def Res(K:W.Frag)(B:Addr->Prop)(H0 H:Hp)(σ:St)(Γ':List Md)(ρ:List PV)(F:Nat->List Addr)(R:List Addr)(k:Kd)(x:PV)(v:V)(H':Hp):Prop:=
 ∃F',(∀i,∀a∈F' i,a∈F i)/\match k with
 |.P=>x.flat=true/\Rep K H' (fun _=>True) x v/\Ag K B H0 H' σ Γ' ρ F' R
 |.F=>∃G,Jg K H' x v G/\(∀a∈G,a ∉ R/\(H a=none\/∃i,a∈F i))/\Ag K B H0 H' σ Γ' ρ F' (G++R)
 |.T=>∃a vs xs,x=.lst xs/\v=.ref a/\H' a=some (.lst vs)/\Reps K H' (NO B F' (a::R)) xs vs/\a ∉ R/\(H a=none\/∃i,a∈F i)/\Ag K B H0 H' σ Γ' ρ F' (a::R)
 |.Z=>Rep K H' (NO B F' R) x v/\Ag K B H0 H' σ Γ' ρ F' R
 |.A=>Rep K H' (fun _=>True) x v/\Ag K B H0 H' σ Γ' ρ F' R
 |.N=>False
 |.M=>False
def DE(K:W.Frag)(EX:PX->Hp->Prop)(Γ Γ':List Md)(k:Kd)(te:TE)(f:List PV->Rr PV):Prop:=
 ∀(B:Addr->Prop) (H0 H:Hp) (σ:St) (ρ:List PV) (F:Nat->List Addr) (R:List Addr) (Q:VK),Ag K B H0 H σ Γ ρ F R ->
  Dn (f ρ) (fun x=>∀v H',Z2 H H'->Res K B H0 H σ Γ' ρ F R k x v H'->Q v H') (fun e=>∀H',Z2 H0 H'->EX e H')->te σ H Q
def DT(K:W.Frag)(EX:PX->Hp->Prop)(Γ Γ':List Md)(tt:TT)(f:List PV->Rr Bool):Prop:=
 ∀(B:Addr->Prop) (H0 H:Hp) (σ:St) (ρ:List PV) (F:Nat->List Addr) (R:List Addr) (Q:Bool->Hp->Prop),Ag K B H0 H σ Γ ρ F R ->
  Dn (f ρ) (fun b=>∀H' F',Z2 H H'->(∀i,∀a∈F' i,a∈F i)->Ag K B H0 H' σ Γ' ρ F' R->Q b H') (fun e=>∀H',Z2 H0 H'->EX e H')->tt σ H Q
section
variable {K:W.Frag}{B:Addr->Prop}{EX:PX->Hp->Prop}{H0 H H':Hp}{σ:St}{Γ Γ' Γ1 Γ2:List Md}{ρ:List PV}{F F':Nat->List Addr}{R:List Addr}{k:Kd}{x:PV}{v:V}{te ta tb:TE}{f fa fb:List PV->Rr PV}
theorem Res.ag(h:Res K B H0 H σ Γ' ρ F R k x v H'):∃F',(∀i,∀a∈F' i,a∈F i)/\Rep K H' (fun _=>True) x v/\Ag K B H0 H' σ Γ' ρ F' R:=by
 obtain⟨F',hF,h⟩:=h
 refine⟨F',hF, ?_⟩
 cases k with
 |P=>exact⟨h.2.1,h.2.2⟩
 |F=>obtain⟨G,h1,h2,h3⟩:=h;exact⟨h1.rep fun _ _=>trivial,h3.less fun a ha=>Zrk _ ha⟩
 |T=>obtain⟨a,vs,xs,rfl,rfl,h1,h2,h3,h4,h5⟩:=h;exact⟨⟨a,vs,rfl,.inl ⟨.inl h1,trivial⟩,h2.any⟩,h5.less fun a ha=>Zr6 _ ha⟩
 |Z=>exact⟨h.1.any,h.2⟩
 |A=>exact h
 |N=>exact h.elim
 |M=>exact h.elim
theorem Res.toA(h:Res K B H0 H σ Γ' ρ F R k x v H'):Res K B H0 H σ Γ' ρ F R .A x v H':=let ⟨F',a,b,c⟩:=h.ag;⟨F',a,b,c⟩
theorem Res.PF(h:Res K B H0 H σ Γ' ρ F R .P x v H'):Res K B H0 H σ Γ' ρ F R .F x v H':=by
 obtain⟨F',hF,h1,h2,h3⟩:=h
 exact⟨F',hF,[],h2.tree h1,by simp,h3⟩
theorem Res.FZ(h:Res K B H0 H σ Γ' ρ F R .F x v H'):Res K B H0 H σ Γ' ρ F R .Z x v H':=by
 obtain⟨F',hF,G,h1,h2,h3⟩:=h
 exact⟨F',hF,h1.rep fun a ha=>⟨h3.own a (h3.youngR a (Zrp _ ha)),(h2 a ha).1,fun i z=>h3.disjR i a z (Zrp _ ha)⟩,h3.less fun a ha=>Zrk _ ha⟩
theorem DE.imp{k':Kd}(h:DE K EX Γ Γ' k te f)(hr:∀{B:Addr->Prop}{H0 H H':Hp}{σ:St}{ρ:List PV}{F:Nat->List Addr}{R:List Addr}{x:PV}{v:V},Res K B H0 H σ Γ' ρ F R k x v H'->Res K B H0 H σ Γ' ρ F R k' x v H'):DE K EX Γ Γ' k' te f:=
 fun B H0 H σ ρ F R Q A d=>h B H0 H σ ρ F R Q A (d.imp (fun x _ q v H' s r=>q v H' s (hr r)) fun e q=>q)
theorem DE.toA(h:DE K EX Γ Γ' k te f):DE K EX Γ Γ' .A te f:=h.imp Res.toA
theorem DE.PF(h:DE K EX Γ Γ' .P te f):DE K EX Γ Γ' .F te f:=h.imp Res.PF
theorem DE.FZ(h:DE K EX Γ Γ' .F te f):DE K EX Γ Γ' .Z te f:=h.imp Res.FZ
noncomputable def grd(x:PV):Rr PV:=if x.flat=true then .ok x else .bad
theorem DE.grd(h:DE K EX Γ Γ' .A te f):DE K EX Γ Γ' .P te (fun ρ=>(f ρ).bind grd):=fun B H0 H σ ρ F R Q A d=>by
 refine h B H0 H σ ρ F R Q A (d.bind.imp (fun x _ q v H' s r=>?_) fun e q=>q)
 unfold L2.grd at q
 by_cases hx:x.flat=true
 ·rw[if_pos hx] at q
  obtain⟨F',h1,h2,h3⟩:=r
  exact q v H' s ⟨F',h1,hx,h2,h3⟩
 ·rw[if_neg hx] at q;exact q.elim
theorem Zlu{v:V}(hf:x.flat=true)(hr:∀H,Rep K H (fun _=>True) x v):DE K EX Γ Γ .P (tC v) (fun _=>.ok x):=fun B H0 H σ ρ F R Q A d =>
 d v H (Z2.refl H) ⟨F,fun _ _ h=>h,hf,hr H,A⟩
theorem Zj{i:Int}:DE K EX Γ Γ .P (tC (.int i)) (fun _=>.ok (.int i)):=Zlu rfl fun _=>rfl
theorem Zbp{b:Bool}:DE K EX Γ Γ .P (tC (.bl b)) (fun _=>.ok (.bl b)):=Zlu rfl fun _=>rfl
theorem Zfo:DE K EX Γ Γ .P (tC .non) (fun _=>.ok .non):=Zlu rfl fun _=>rfl
theorem QV{x:Str}:DE K EX Γ Γ .P (tC (.str x)) (fun _=>.ok (.str x)):=Zlu rfl fun _=>rfl
noncomputable def gv(i:Nat)(ρ:List PV):PV:=ρ.getD i .non
theorem Zr{i:Nat}{m:Md}(h:Γ[i]?=some m)(hm:m≠.U):DE K EX Γ Γ .A (ZaI i) (fun ρ=>.ok (gv i ρ)):=fun B H0 H σ ρ F R Q A d=>by
 obtain⟨v,h1,h2⟩:=A.getA h hm
 exact⟨v,h1,d v H (Z2.refl H) ⟨F,fun _ _ h=>h,h2,A⟩⟩
theorem Zq{i:Nat}(h:Γ[i]?=some .P):DE K EX Γ Γ .P (ZaI i) (fun ρ=>.ok (gv i ρ)):=fun B H0 H σ ρ F R Q A d=>by
 obtain⟨v,h1,h2,h3⟩:=A.getP h
 exact⟨v,h1,d v H (Z2.refl H) ⟨F,fun _ _ h=>h,h2,h3,A⟩⟩
theorem VS{i:Nat}(h:Γ[i]?=some .S):DE K EX Γ Γ .Z (ZaI i) (fun ρ=>.ok (gv i ρ)):=fun B H0 H σ ρ F R Q A d=>by
 obtain⟨v,h1,h2⟩:=A.getS h
 exact⟨v,h1,d v H (Z2.refl H) ⟨F,fun _ _ h=>h,h2,A⟩⟩
theorem ZcU{i:Nat}{F:Nat->List Addr}:∀j,∀a∈Ud F i [] j,a∈F j:=fun j a ha=>by
 by_cases h:j=i
 ·subst h;rw[Zt] at ha;simp at ha
 ·rw[Z0 h] at ha;exact ha
theorem JR{i:Nat}(h:Γ[i]?=some .O):DE K EX Γ (Γ.set i .U) .F (ZaI i) (fun ρ=>.ok (gv i ρ)):=fun B H0 H σ ρ F R Q A d=>by
 obtain⟨v,h1,h2⟩:=A.getO h
 exact⟨v,h1,d v H (Z2.refl H) ⟨Ud F i [],ZcU,F i,h2,fun a ha=>⟨A.disjR i a ha,.inr ⟨i,ha⟩⟩,A.move h⟩⟩
def OpP(K:W.Frag)(r:R2)(o:PV->PV->Rr PV):Prop:=∀{H:Hp}{x y:PV}{v w:V}{Q:VK},Rep K H (fun _=>True) x v->Rep K H (fun _=>True) y w ->
 (∃z,o x y=.ok z/\(z.flat=true->∀u,Rep K H (fun _=>True) z u->Q u H))->r v w H Q
theorem Dn.bind2{α β γ:Type}{r:Rr α}{q:Rr β}{f:α->β->Rr γ}{ok:γ->Prop}{ex:PX->Prop}(h:Dn (r.bind fun a=>q.bind fun b=>f a b) ok ex):Dn r (fun a=>Dn q (fun b=>Dn (f a b) ok ex) ex) ex:=
 h.bind.imp (fun a _ h=>h.bind) fun e h=>h
theorem two{Q:V->V->Hp->Prop}{ok:PV->PV->Prop}(ha:DE K EX Γ Γ1 .A ta fa)(hb:DE K EX Γ1 Γ2 .A tb fb)(A:Ag K B H0 H σ Γ ρ F R)(d:Dn (fa ρ) (fun x=>Dn (fb ρ) (fun y=>ok x y) (fun e=>∀H',Z2 H0 H'->EX e H')) (fun e=>∀H',Z2 H0 H'->EX e H'))(hq:∀x y v w H' F',ok x y->Z2 H H'->(∀i,∀a∈F' i,a∈F i)->Rep K H' (fun _=>True) x v->Rep K H' (fun _=>True) y w->Ag K B H0 H' σ Γ2 ρ F' R->Q v w H') :
  ta σ H fun v H1=>tb σ H1 fun w H2=>Q v w H2:=by
 refine ha B H0 H σ ρ F R _ A (d.imp (fun x _ d v H1 s1 r1=>?_) fun e q=>q)
 obtain⟨F1,f1,p1,A1⟩:=r1
 refine hb B H0 H1 σ ρ F1 R _ A1 (d.imp (fun y _ q w H2 s2 r2=>?_) fun e q=>q)
 obtain⟨F2,f2,p2,A2⟩:=r2
 exact hq x y v w H2 F2 q (s1.trans s2) (fun i a h=>f1 i a (f2 i a h)) (p1.same s2) p2 A2
theorem Zhc{r:R2}{o:PV->PV->Rr PV}(hr:OpP K r o)(ho:∀x y z,o x y=.ok z->z.flat=true)(hx:∀x y e,o x y≠.exc e)(ha:DE K EX Γ Γ1 .A ta fa)(hb:DE K EX Γ1 Γ2 .A tb fb) :
  DE K EX Γ Γ2 .P (tOp r ta tb) (fun ρ=>(fa ρ).bind fun x=>(fb ρ).bind fun y=>o x y):=fun B H0 H σ ρ F R Q A d=>by
 refine two ha hb A d.bind2 fun x y v w H' F' d s hF p1 p2 A'=>?_
 cases e:o x y with
 |ok z=>rw[e] at d;exact hr p1 p2 ⟨z,e,fun hf u hu=>d u H' s ⟨F',hF,hf,hu,A'⟩⟩
 |exc q=>exact absurd e (hx x y q)
 |bad=>rw[e] at d;exact d.elim
noncomputable def oI(C:Int->Int->Bool)(g:Int->Int->PV)(x y:PV):Rr PV:=match x,y with
 |.int i,.int j=>if C i j=true then .ok (g i j) else .bad
 |_,_=>.bad
theorem ZcX{C:Int->Int->Bool}{g:Int->Int->PV}{i j:Int}(h:C i j=true):oI C g (.int i) (.int j)=.ok (g i j):=if_pos h
theorem Zm7{C:Int->Int->Bool}{D:Int->Int->Prop}{g:Int->Int->PV}{g':Int->Int->V}(hC:∀i j,C i j=true->D i j)(hg:∀H i j,Rep K H (fun _=>True) (g i j) (g' i j))(hf:∀i j,(g i j).flat=true):OpP K (rI D g') (oI C g):=by
 intro H x y v w Q rx ry ⟨z,e,q⟩
 cases x<;>cases y<;>first|(simp only[oI] at e;cases e;done)|skip
 rename_i i j
 simp only[oI] at e
 by_cases h:C i j=true
 ·rw[if_pos h] at e;cases e
  cases rx;cases ry
  exact⟨i,j,rfl,rfl,hC i j h,q (hf i j) _ (hg H i j)⟩
 ·rw[if_neg h] at e;cases e
theorem ZlK{g:Int->Int->PV}{g':Int->Int->V}(hg:∀H i j,Rep K H (fun _=>True) (g i j) (g' i j))(hf:∀i j,(g i j).flat=true):OpP K (rI0 g') (oI (fun _ _=>true) g):=by
 intro H x y v w Q rx ry ⟨z,e,q⟩
 cases x<;>cases y<;>first|(simp only[oI] at e;cases e;done)|skip
 rename_i i j
 simp only[oI,if_true] at e
 cases e;cases rx;cases ry
 exact⟨i,j,rfl,rfl,q (hf i j) _ (hg H i j)⟩
theorem ZcW{C:Int->Int->Bool}{g:Int->Int->PV}(x y:PV)(e:PX):oI C g x y≠.exc e:=by
 cases x<;>cases y<;>first|(intro h;simp only[oI] at h;cases h;done)|skip
 intro h
 simp only[oI] at h
 split at h<;>cases h
theorem ZeI{C:Int->Int->Bool}{g:Int->Int->PV}(hf:∀i j,(g i j).flat=true)(x y z:PV)(h:oI C g x y=.ok z):z.flat=true:=by
 cases x<;>cases y<;>first|(simp only[oI] at h;cases h;done)|skip
 simp only[oI] at h
 split at h
 ·cases h;exact hf _ _
 ·cases h
end
mutual
noncomputable def PV.noX:PV->Bool
 |.exc _=>false
 |.exa _ _=>false
 |.box _ _ _=>false
 |.fz xs=>PV.noXs xs
 |.lst xs=>PV.noXs xs
 |.tup xs=>PV.noXs xs
 |.non=>true
 |.bl _=>true
 |.int _=>true
 |.str _=>true
noncomputable def PV.noXs:List PV->Bool
 |[]=>true
 |x::xs=>x.noX&&PV.noXs xs
end
theorem PV.noXs_ints:∀(ns:List Int),PV.noXs (ns.map PV.int)=true
 |[]=>rfl
 |n::ns=>by simp[PV.noXs,PV.noX,PV.noXs_ints ns]
mutual
noncomputable def PV.dat:PV->PyData
 |.non=>.none
 |.bl b=>.bool b
 |.int i=>.int i
 |.str x=>.str x
 |.exc _=>.none
 |.exa _ _=>.none
 |.box _ _ _=>.none
 |.fz xs=>.list (PV.dats xs)
 |.lst xs=>.list (PV.dats xs)
 |.tup xs=>.tuple (PV.dats xs)
noncomputable def PV.dats:List PV->List PyData
 |[]=>[]
 |x::xs=>x.dat::PV.dats xs
end
section
variable {X:Cx}{pins:List (Addr×Obj)}{σ:St}{H:Hp}{s:Shared}{S:Addr->Prop}
theorem JG{K:W.Frag}{a:Addr}{vs:List V}(h:(Rd H a (.lst vs)/\S a)\/KL K a vs):SqL K H a vs:=by
 rcases h with h|h
 ·exact .inl h.1
 ·exact .inr h
mutual
theorem Rep.reads(I:Inv X pins σ H s):∀{x:PV}{v:V}{u:Value},x.noX=true->Rep X.K H S x v->Jf v u->∃as,Reads s.heap u x.dat as
 |.non,_,_,_,h,r=>by cases h;cases r;exact⟨_,.none⟩
 |.bl _,_,_,_,h,r=>by cases h;cases r;exact⟨_,.bool _⟩
 |.int _,_,_,_,h,r=>by cases h;obtain⟨t,rfl⟩:=r;exact⟨_,.int _ _⟩
 |.str _,_,_,_,h,r=>by cases h;obtain⟨t,rfl⟩:=r;exact⟨_,.str _ _⟩
 |.exc _,_,_,z,_,_=>by simp[PV.noX] at z
 |.exa _ _,_,_,z,_,_=>by simp[PV.noX] at z
 |.box _ _ _,_,_,z,_,_=>by simp[PV.noX] at z
 |.fz xs,_,_,z,h,r=>by
  obtain⟨a,vs,rfl,⟨o,hn⟩,hr⟩:=h
  cases r
  obtain⟨its,rv,pl,_⟩:=I.list (JG (S:=fun _=>True) (.inl ⟨.inr ⟨o,hn.1⟩,trivial⟩))
  obtain⟨as,ra⟩:=Reps.reads I (by simpa[PV.noX] using z) hr rv
  obtain⟨o,ho,hc,n,hd⟩:=pl.isList
  exact⟨_,.list ho hc hd (by simpa using ra)⟩
 |.lst xs,_,_,z,h,r=>by
  obtain⟨a,vs,rfl,hn,hr⟩:=h
  cases r
  obtain⟨its,rv,pl,_⟩:=I.list (JG hn)
  obtain⟨as,ra⟩:=Reps.reads I (by simpa[PV.noX] using z) hr rv
  obtain⟨o,ho,hc,n,hd⟩:=pl.isList
  exact⟨_,.list ho hc hd (by simpa using ra)⟩
 |.tup xs,_,_,z,h,r=>by
  obtain⟨a,vs,rfl,hn,hr⟩:=h
  cases r
  obtain⟨its,rv,⟨o,ho,hc,n,hd⟩,_⟩:=I.tuple hn.sqT
  obtain⟨as,ra⟩:=Reps.reads I (by simpa[PV.noX] using z) hr rv
  exact⟨_,.tuple ho hc hd (by simpa using ra)⟩
theorem Reps.reads(I:Inv X pins σ H s):∀{xs:List PV}{vs:List V}{us:List Value},PV.noXs xs=true->Reps X.K H S xs vs->ZP vs us->∃as,ReadsAll s.heap us (PV.dats xs) as
 |[],_,_,_,h,r=>by rw[h] at r;cases r;exact⟨_,.nil⟩
 |x::xs,_,_,z,h,r=>by
  simp only[PV.noXs,Bool.and_eq_true] at z
  obtain⟨v,vs,rfl,h1,h2⟩:=h
  cases r with
  |cons r1 r2 =>
   obtain⟨as,a1⟩:=Rep.reads I z.1 h1 r1
   obtain⟨bs,b1⟩:=Reps.reads I z.2 h2 r2
   exact⟨_,.cons a1 b1⟩
end
noncomputable def okD(x:PV):Bool:=x.noX&&x.dat.canLay0&&decide (x.dat.depth<=64)
noncomputable def Zl8(K:W.Frag)(g:Bool->Bool):R2:=fun x y H Q=>∃p q,Rep K H (fun _=>True) p x/\Rep K H (fun _=>True) q y/\okD p=true/\okD q=true/\Q (.bl (g (PyData.eqv p.dat q.dat))) H
theorem Jv{K:W.Frag}(hu:X.A.units+64<cLine)(e:X.K=K:=by rfl):OpR X (compareOp .Eq) (Zl8 K id):=by
 subst e
 intro pins s σ H x y v u Q I rx ry h
 obtain⟨p,q,h1,h2,h3,h4,hq⟩:=h
 simp only[okD,Bool.and_eq_true,decide_eq_true_eq] at h3 h4
 obtain⟨as,ra⟩:=h1.reads I h3.1.1 rx
 obtain⟨bs,rb⟩:=h2.reads I h4.1.1 ry
 exact SeqAt.rcAt_reads ra rb h3.1.2 h4.1.2 (by have:=Zth p.dat.depth q.dat.depth;omega) _ _ _ _ ⟨.bl (PyData.eqv p.dat q.dat),H,I,rfl,hq⟩
theorem ZaV{K:W.Frag}(hu:X.A.units+64<cLine)(e:X.K=K:=by rfl):OpR X (compareOp .NotEq) (Zl8 K (!·)):=by
 subst e
 intro pins s σ H x y v u Q I rx ry h
 obtain⟨p,q,h1,h2,h3,h4,hq⟩:=h
 simp only[okD,Bool.and_eq_true,decide_eq_true_eq] at h3 h4
 obtain⟨as,ra⟩:=h1.reads I h3.1.1 rx
 obtain⟨bs,rb⟩:=h2.reads I h4.1.1 ry
 exact SeqAt.rcNeAt_reads ra rb h3.1.2 h4.1.2 (by have:=Zth p.dat.depth q.dat.depth;omega) _ _ _ _ ⟨.bl (!PyData.eqv p.dat q.dat),H,I,rfl,hq⟩
end
noncomputable def ZaA(g:Bool->Bool)(x y:PV):Rr PV:=if (okD x&&okD y)=true then .ok (.bl (g (PyData.eqv x.dat y.dat))) else .bad
def Zct(i j:Int):Prop:=i.natAbs<2^60000/\j.natAbs<2^60000
def Zcu(i j:Int):Prop:=0<j/\j.natAbs<2^9000
noncomputable instance (i j:Int):Decidable (Zct i j):=by unfold Zct;infer_instance
noncomputable instance (i j:Int):Decidable (Zcu i j):=by unfold Zcu;infer_instance
noncomputable instance (i j:Int):Decidable (Zj5 i j):=by unfold Zj5;infer_instance
theorem Zf8{i:Int}{n:Nat}(h:i.natAbs<2^n):Builtin.Int.intBits i<=n:=by
 unfold Builtin.Int.intBits
 split
 ·exact ZrI _
 ·rename_i h0
  have:i.natAbs≠0:=by simpa using h0
  exact Nat.succ_le_of_lt ((Nat.log2_lt this).mpr h)
section
variable {X:Cx}
theorem ZbO:OpR X (binaryOp .Mult) (rI Zct fun i j=>.int (i*j)):=opI fun _ _ _ _ _ _ _ hc q=>mul_int q (PyProof.Rows.mulOk_of_bits (Zf8 hc.1) (Zf8 hc.2) (by decide))
theorem V3:OpR X (binaryOp .FloorDiv) (rI Zcu fun i j=>.int (i/j)):=opI fun i j _ _ _ _ _ hc q=>by
 refine floordiv_int (by have:=hc.1;omega) ?_ (.inl (PyProof.noPylong_of_log2 ?_))
 ·rw[Int.fdiv_eq_ediv_of_nonneg _ (by have:=hc.1;omega)];exact q
 ·have h0:j.natAbs≠0:=by have:=hc.1;omega
  exact(Nat.log2_lt h0).mpr hc.2
variable {K:W.Frag}{B:Addr->Prop}{EX:PX->Hp->Prop}{H0 H:Hp}{σ:St}{Γ Γ' Γ1 Γ2:List Md}{ρ:List PV}{F:Nat->List Addr}{R:List Addr}{k:Kd}{x:PV}{v:V}{ta tb:TE}{fa fb fc:List PV->Rr PV}
noncomputable abbrev ZlG:PV->PV->Rr PV:=oI (fun _ _=>true) fun i j=>.int (i+j)
noncomputable abbrev Zms:PV->PV->Rr PV:=oI (fun _ _=>true) fun i j=>.int (i-j)
noncomputable abbrev ZlE:PV->PV->Rr PV:=oI (fun i j=>decide (Zct i j)) fun i j=>.int (i*j)
noncomputable abbrev ZlF:PV->PV->Rr PV:=oI (fun i j=>decide (Zcu i j)) fun i j=>.int (i/j)
noncomputable abbrev Zmt:PV->PV->Rr PV:=oI (fun _ j=>decide (0<j)) fun i j=>.int (i%j)
noncomputable abbrev ZlD:PV->PV->Rr PV:=oI (fun i j=>decide (Zj5 i j)) fun i j=>.int (i^j.toNat)
noncomputable abbrev pLt:PV->PV->Rr PV:=oI (fun _ _=>true) fun i j=>.bl (decide (i<j))
noncomputable abbrev pLe:PV->PV->Rr PV:=oI (fun _ _=>true) fun i j=>.bl (decide (i<=j))
noncomputable abbrev pGt:PV->PV->Rr PV:=oI (fun _ _=>true) fun i j=>.bl (decide (j<i))
noncomputable abbrev pGe:PV->PV->Rr PV:=oI (fun _ _=>true) fun i j=>.bl (decide (j<=i))
theorem Zhd{D:Int->Int->Prop}{C:Int->Int->Bool}{g:Int->Int->PV}{g':Int->Int->V}(hC:∀i j,C i j=true->D i j)(hg:∀H i j,Rep K H (fun _=>True) (g i j) (g' i j))(hf:∀i j,(g i j).flat=true)(ha:DE K EX Γ Γ1 .A ta fa)(hb:DE K EX Γ1 Γ2 .A tb fb):DE K EX Γ Γ2 .P (tOp (rI D g') ta tb) (fun ρ=>(fa ρ).bind fun x=>(fb ρ).bind fun y=>oI C g x y):=
 Zhc (Zm7 hC hg hf) (ZeI hf) ZcW ha hb
theorem QW{g:Int->Int->PV}{g':Int->Int->V}(hg:∀H i j,Rep K H (fun _=>True) (g i j) (g' i j))(hf:∀i j,(g i j).flat=true)(ha:DE K EX Γ Γ1 .A ta fa)(hb:DE K EX Γ1 Γ2 .A tb fb):DE K EX Γ Γ2 .P (tOp (rI0 g') ta tb) (fun ρ=>(fa ρ).bind fun x=>(fb ρ).bind fun y=>oI (fun _ _=>true) g x y):=
 Zhc (ZlK hg hf) (ZeI hf) ZcW ha hb
theorem JX(ha:DE K EX Γ Γ1 .A ta fa)(hb:DE K EX Γ1 Γ2 .A tb fb):DE K EX Γ Γ2 .P (tOp (rI0 fun i j=>.int (i+j)) ta tb) (fun ρ=>(fa ρ).bind fun x=>(fb ρ).bind fun y=>ZlG x y):=QW (fun _ _ _=>rfl) (fun _ _=>rfl) ha hb
theorem ZkY(ha:DE K EX Γ Γ1 .A ta fa)(hb:DE K EX Γ1 Γ2 .A tb fb):DE K EX Γ Γ2 .P (tOp (rI0 fun i j=>.int (i-j)) ta tb) (fun ρ=>(fa ρ).bind fun x=>(fb ρ).bind fun y=>Zms x y):=QW (fun _ _ _=>rfl) (fun _ _=>rfl) ha hb
theorem Zhe(ha:DE K EX Γ Γ1 .A ta fa)(hb:DE K EX Γ1 Γ2 .A tb fb):DE K EX Γ Γ2 .P (tOp (rI0 fun i j=>.bl (decide (i<j))) ta tb) (fun ρ=>(fa ρ).bind fun x=>(fb ρ).bind fun y=>pLt x y):=QW (fun _ _ _=>rfl) (fun _ _=>rfl) ha hb
theorem ZlT(ha:DE K EX Γ Γ1 .A ta fa)(hb:DE K EX Γ1 Γ2 .A tb fb):DE K EX Γ Γ2 .P (tOp (rI0 fun i j=>.bl (decide (i<=j))) ta tb) (fun ρ=>(fa ρ).bind fun x=>(fb ρ).bind fun y=>pLe x y):=QW (fun _ _ _=>rfl) (fun _ _=>rfl) ha hb
theorem ZdG(ha:DE K EX Γ Γ1 .A ta fa)(hb:DE K EX Γ1 Γ2 .A tb fb):DE K EX Γ Γ2 .P (tOp (rI0 fun i j=>.bl (decide (j<i))) ta tb) (fun ρ=>(fa ρ).bind fun x=>(fb ρ).bind fun y=>pGt x y):=QW (fun _ _ _=>rfl) (fun _ _=>rfl) ha hb
theorem ZlU(ha:DE K EX Γ Γ1 .A ta fa)(hb:DE K EX Γ1 Γ2 .A tb fb):DE K EX Γ Γ2 .P (tOp (rI0 fun i j=>.bl (decide (j<=i))) ta tb) (fun ρ=>(fa ρ).bind fun x=>(fb ρ).bind fun y=>pGe x y):=QW (fun _ _ _=>rfl) (fun _ _=>rfl) ha hb
theorem Zfp(ha:DE K EX Γ Γ1 .A ta fa)(hb:DE K EX Γ1 Γ2 .A tb fb):DE K EX Γ Γ2 .P (tOp (rI Zct fun i j=>.int (i*j)) ta tb) (fun ρ=>(fa ρ).bind fun x=>(fb ρ).bind fun y=>ZlE x y):=Zhd (fun _ _ h=>of_decide_eq_true h) (fun _ _ _=>rfl) (fun _ _=>rfl) ha hb
theorem QY(ha:DE K EX Γ Γ1 .A ta fa)(hb:DE K EX Γ1 Γ2 .A tb fb):DE K EX Γ Γ2 .P (tOp (rI Zcu fun i j=>.int (i/j)) ta tb) (fun ρ=>(fa ρ).bind fun x=>(fb ρ).bind fun y=>ZlF x y):=Zhd (fun _ _ h=>of_decide_eq_true h) (fun _ _ _=>rfl) (fun _ _=>rfl) ha hb
theorem Je(ha:DE K EX Γ Γ1 .A ta fa)(hb:DE K EX Γ1 Γ2 .A tb fb):DE K EX Γ Γ2 .P (tOp (rI (fun _ j=>0<j) fun i j=>.int (i%j)) ta tb) (fun ρ=>(fa ρ).bind fun x=>(fb ρ).bind fun y=>Zmt x y):=Zhd (fun _ _ h=>of_decide_eq_true h) (fun _ _ _=>rfl) (fun _ _=>rfl) ha hb
theorem ZkZ(ha:DE K EX Γ Γ1 .A ta fa)(hb:DE K EX Γ1 Γ2 .A tb fb):DE K EX Γ Γ2 .P (tOp (rI Zj5 fun i j=>.int (i^j.toNat)) ta tb) (fun ρ=>(fa ρ).bind fun x=>(fb ρ).bind fun y=>ZlD x y):=Zhd (fun _ _ h=>of_decide_eq_true h) (fun _ _ _=>rfl) (fun _ _=>rfl) ha hb
theorem Zd0{g:Bool->Bool}(x y:PV)(e:PX):ZaA g x y≠.exc e:=by
 unfold ZaA
 intro h
 split at h<;>cases h
theorem ZeB{g:Bool->Bool}(x y z:PV)(h:ZaA g x y=.ok z):z.flat=true:=by
 unfold ZaA at h
 split at h
 ·cases h;rfl
 ·cases h
theorem ZY{g:Bool->Bool}(ha:DE K EX Γ Γ1 .A ta fa)(hb:DE K EX Γ1 Γ2 .A tb fb):DE K EX Γ Γ2 .P (tOp (Zl8 K g) ta tb) (fun ρ=>(fa ρ).bind fun x=>(fb ρ).bind fun y=>ZaA g x y):=by
 refine Zhc (fun {H x y v w Q} rx ry ⟨z,e,q⟩=>?_) ZeB Zd0 ha hb
 unfold ZaA at e
 by_cases h:(okD x&&okD y)=true
 ·rw[if_pos h] at e;cases e
  rw[Bool.and_eq_true] at h
  exact⟨x,y,rx,ry,h.1,h.2,q rfl _ rfl⟩
 ·rw[if_neg h] at e;cases e
noncomputable def Zlp(g:Bool->Bool)(x:PV):Rr PV:=match x with
 |.non=>.ok (.bl (g true))
 |_=>.ok (.bl (g false))
theorem Zej{x:PV}{v:V}{S:Addr->Prop}(h:Rep K H S x v):decide (v=.non)=match x with|.non=>true|_=>false:=by
 cases x<;>first|(cases h;rfl)|(obtain⟨a,vs,rfl,_⟩:=h;rfl)|(obtain⟨a,vs,c,rfl,_⟩:=h;rfl)|(obtain⟨a,o,c,d,fs,rfl,_⟩:=h;rfl)
theorem ZhR(ha:DE K EX Γ Γ1 .A ta fa):DE K EX Γ Γ1 .P (tOp (fun x y H Q=>y=.non/\Q (.bl (decide (x=.non))) H) ta (tC .non)) (fun ρ=>(fa ρ).bind (Zlp id)):=fun B H0 H σ ρ F R Q A d=>by
 refine ha B H0 H σ ρ F R _ A (d.bind.imp (fun x _ d v H1 s1 r1=>?_) fun e q=>q)
 obtain⟨F1,f1,p1,A1⟩:=r1
 have e:=Zej p1
 refine⟨rfl, ?_⟩
 rw[e]
 cases x<;>exact d _ H1 s1 ⟨F1,f1,rfl,rfl,A1⟩
theorem Zjh(ha:DE K EX Γ Γ1 .A ta fa):DE K EX Γ Γ1 .P (tOp (fun x y H Q=>y=.non/\Q (.bl (!decide (x=.non))) H) ta (tC .non)) (fun ρ=>(fa ρ).bind (Zlp (!·))):=fun B H0 H σ ρ F R Q A d=>by
 refine ha B H0 H σ ρ F R _ A (d.bind.imp (fun x _ d v H1 s1 r1=>?_) fun e q=>q)
 obtain⟨F1,f1,p1,A1⟩:=r1
 have e:=Zej p1
 refine⟨rfl, ?_⟩
 rw[e]
 cases x<;>exact d _ H1 s1 ⟨F1,f1,rfl,rfl,A1⟩
noncomputable def asB(x:PV):Rr Bool:=match x with
 |.bl b=>.ok b
 |_=>.bad
theorem Dn.asB{x:PV}{ok:Bool->Prop}{ex:PX->Prop}(d:Dn (asB x) ok ex):∃b,x=.bl b/\ok b:=by
 cases x with
 |bl b=>exact⟨b,rfl,d⟩
 |_=>exact d.elim
theorem Zla(ha:DE K EX Γ Γ1 .A ta fa):DE K EX Γ Γ1 .P (ZjF ta) (fun ρ=>(fa ρ).bind fun x=>(asB x).bind fun b=>.ok (.bl (!b))):=fun B H0 H σ ρ F R Q A d=>by
 refine ha B H0 H σ ρ F R _ A (d.bind.imp (fun x _ d v H1 s1 r1=>?_) fun e q=>q)
 obtain⟨b,rfl,d⟩:=d.bind.asB
 obtain⟨F1,f1,p1,A1⟩:=r1
 cases p1
 exact⟨b,rfl,d _ H1 s1 ⟨F1,f1,rfl,rfl,A1⟩⟩
theorem Res.shift{H1:Hp}{F1:Nat->List Addr}{k:Kd}{Γ2:List Md}{y:PV}{w:V}{H2:Hp}(s1:Z2 H H1)(f1:∀i,∀a∈F1 i,a∈F i)(h:Res K B H0 H1 σ Γ2 ρ F1 R k y w H2):Res K B H0 H σ Γ2 ρ F R k y w H2:=by
 obtain⟨F2,f2,h⟩:=h
 refine⟨F2,fun i a ha=>f1 i a (f2 i a ha), ?_⟩
 have org:∀a,(H1 a=none\/∃i,a∈F1 i)->(H a=none\/∃i,a∈F i):=fun a h=>h.elim (fun z=>.inl (s1.free z)) fun⟨i,z⟩=>.inr ⟨i,f1 i a z⟩
 cases k with
 |P=>exact h
 |F=>obtain⟨G,h1,h2,h3⟩:=h;exact⟨G,h1,fun a ha=>⟨(h2 a ha).1,org a (h2 a ha).2⟩,h3⟩
 |T=>obtain⟨a,vs,xs,h1,h2,h3,h4,h5,h6,h7⟩:=h;exact⟨a,vs,xs,h1,h2,h3,h4,h5,org a h6,h7⟩
 |Z=>exact h
 |A=>exact h
 |N=>exact h.elim
 |M=>exact h.elim
theorem Zbq(ha:DE K EX Γ Γ .A ta fa)(hb:DE K EX Γ Γ .P tb fb):DE K EX Γ Γ .P (ZjM ta tb) (fun ρ=>(fa ρ).bind fun x=>(asB x).bind fun b=>if b=true then fb ρ else .ok (.bl false)):=fun B H0 H σ ρ F R Q A d=>by
 refine ha B H0 H σ ρ F R _ A (d.bind.imp (fun x _ d v H1 s1 r1=>?_) fun e q=>q)
 obtain⟨b,rfl,d⟩:=d.bind.asB
 obtain⟨F1,f1,p1,A1⟩:=r1
 cases p1
 refine⟨b,rfl, ?_⟩
 cases b with
 |true=>exact hb B H0 H1 σ ρ F1 R _ A1 (d.imp (fun y _ q w H2 s2 r2=>q w H2 (s1.trans s2) (r2.shift s1 f1)) fun e q=>q)
 |false=>exact d _ H1 s1 ⟨F1,f1,rfl,rfl,A1⟩
theorem ZlS(ha:DE K EX Γ Γ .A ta fa)(hb:DE K EX Γ Γ .P tb fb):DE K EX Γ Γ .P (Zmh ta tb) (fun ρ=>(fa ρ).bind fun x=>(asB x).bind fun b=>if b=true then .ok (.bl true) else fb ρ):=fun B H0 H σ ρ F R Q A d=>by
 refine ha B H0 H σ ρ F R _ A (d.bind.imp (fun x _ d v H1 s1 r1=>?_) fun e q=>q)
 obtain⟨b,rfl,d⟩:=d.bind.asB
 obtain⟨F1,f1,p1,A1⟩:=r1
 cases p1
 refine⟨b,rfl, ?_⟩
 cases b with
 |false=>exact hb B H0 H1 σ ρ F1 R _ A1 (d.imp (fun y _ q w H2 s2 r2=>q w H2 (s1.trans s2) (r2.shift s1 f1)) fun e q=>q)
 |true=>exact d _ H1 s1 ⟨F1,f1,rfl,rfl,A1⟩
theorem Z4(ha:DE K EX Γ Γ' .A ta fa):DT K EX Γ Γ' (ZjE ta) (fun ρ=>(fa ρ).bind asB):=fun B H0 H σ ρ F R Q A d=>by
 refine ha B H0 H σ ρ F R _ A (d.bind.imp (fun x _ d v H1 s1 r1=>?_) fun e q=>q)
 obtain⟨b,rfl,d⟩:=d.asB
 obtain⟨F1,f1,p1,A1⟩:=r1
 cases p1
 exact⟨b,rfl,d H1 F1 s1 f1 A1⟩
theorem ZhQ(ha:DE K EX Γ Γ' .A ta fa):DT K EX Γ Γ' (tB ta) (fun ρ=>(fa ρ).bind asB):=Z4 ha
theorem ZkS{c d:TT}{fc fd:List PV->Rr Bool}(hc:DT K EX Γ Γ c fc)(hd:DT K EX Γ Γ d fd):DT K EX Γ Γ (Zmm c d) (fun ρ=>(fc ρ).bind fun b=>if b=true then fd ρ else .ok false):=fun B H0 H σ ρ F R Q A dn=>by
 refine hc B H0 H σ ρ F R _ A (dn.bind.imp (fun b _ dn H1 F1 s1 f1 A1=>?_) fun e q=>q)
 cases b with
 |true=>exact hd B H0 H1 σ ρ F1 R _ A1 (dn.imp (fun y _ q H2 F2 s2 f2 A2=>q H2 F2 (s1.trans s2) (fun i a h=>f1 i a (f2 i a h)) A2) fun e q=>q)
 |false=>exact dn H1 F1 s1 f1 A1
theorem Zce{c d:TT}{fc fd:List PV->Rr Bool}(hc:DT K EX Γ Γ c fc)(hd:DT K EX Γ Γ d fd):DT K EX Γ Γ (tOr c d) (fun ρ=>(fc ρ).bind fun b=>if b=true then .ok true else fd ρ):=fun B H0 H σ ρ F R Q A dn=>by
 refine hc B H0 H σ ρ F R _ A (dn.bind.imp (fun b _ dn H1 F1 s1 f1 A1=>?_) fun e q=>q)
 cases b with
 |false=>exact hd B H0 H1 σ ρ F1 R _ A1 (dn.imp (fun y _ q H2 F2 s2 f2 A2=>q H2 F2 (s1.trans s2) (fun i a h=>f1 i a (f2 i a h)) A2) fun e q=>q)
 |true=>exact dn H1 F1 s1 f1 A1
theorem Qw{c:TT}{fc:List PV->Rr Bool}(hc:DT K EX Γ Γ' c fc):DT K EX Γ Γ' (Zmi c) (fun ρ=>(fc ρ).bind fun b=>.ok (!b)):=fun B H0 H σ ρ F R Q A dn =>
 hc B H0 H σ ρ F R _ A (dn.bind.imp (fun b _ dn H1 F1 s1 f1 A1=>dn H1 F1 s1 f1 A1) fun e q=>q)
end
def DAA(K:W.Frag)(EX:PX->Hp->Prop)(Γ Γ':List Md)(ta:TA)(f:List PV->Rr (List PV)):Prop:=
 ∀(B:Addr->Prop) (H0 H:Hp) (σ:St) (ρ:List PV) (F:Nat->List Addr) (R:List Addr) (Q:List V->Hp->Prop),Ag K B H0 H σ Γ ρ F R ->
  Dn (f ρ) (fun xs=>∀vs H' F',Z2 H H'->(∀i,∀a∈F' i,a∈F i)->Reps K H' (fun _=>True) xs vs->Ag K B H0 H' σ Γ' ρ F' R->Q vs H') (fun e=>∀H',Z2 H0 H'->EX e H')->ta σ H Q
def DAF(K:W.Frag)(EX:PX->Hp->Prop)(Γ Γ':List Md)(ta:TA)(f:List PV->Rr (List PV)):Prop:=
 ∀(B:Addr->Prop) (H0 H:Hp) (σ:St) (ρ:List PV) (F:Nat->List Addr) (R:List Addr) (Q:List V->Hp->Prop),Ag K B H0 H σ Γ ρ F R ->
  Dn (f ρ) (fun xs=>∀vs H' F' G,Z2 H H'->(∀i,∀a∈F' i,a∈F i)->Trees K H' xs vs G->(∀a∈G,a ∉ R/\(H a=none\/∃i,a∈F i))->Ag K B H0 H' σ Γ' ρ F' (G++R)->Q vs H') (fun e=>∀H',Z2 H0 H'->EX e H')->ta σ H Q
def DAZ(K:W.Frag)(EX:PX->Hp->Prop)(Γ Γ':List Md)(ta:TA)(f:List PV->Rr (List PV)):Prop:=
 ∀(B:Addr->Prop) (H0 H:Hp) (σ:St) (ρ:List PV) (F:Nat->List Addr) (R:List Addr) (Q:List V->Hp->Prop),Ag K B H0 H σ Γ ρ F R ->
  Dn (f ρ) (fun xs=>∀vs H' F',Z2 H H'->(∀i,∀a∈F' i,a∈F i)->Reps K H' (NO B F' R) xs vs->Ag K B H0 H' σ Γ' ρ F' R->Q vs H') (fun e=>∀H',Z2 H0 H'->EX e H')->ta σ H Q
section
variable {K:W.Frag}{B:Addr->Prop}{EX:PX->Hp->Prop}{H0 H H':Hp}{σ:St}{Γ Γ' Γ1 Γ2:List Md}{ρ:List PV}{F F':Nat->List Addr}{R:List Addr}{k:Kd}{x:PV}{v:V}{te tb:TE}{ta:TA}{f fb:List PV->Rr PV}{fa:List PV->Rr (List PV)}
theorem Zd:DAA K EX Γ Γ ZdY (fun _=>.ok []):=fun B H0 H σ ρ F R Q A d=>d [] H F (Z2.refl H) (fun _ _ h=>h) rfl A
theorem Za(he:DE K EX Γ Γ1 .A te f)(ha:DAA K EX Γ1 Γ2 ta fa):DAA K EX Γ Γ2 (U0 te ta) (fun ρ=>(f ρ).bind fun x=>(fa ρ).bind fun xs=>.ok (x::xs)):=fun B H0 H σ ρ F R Q A d=>by
 refine he B H0 H σ ρ F R _ A (d.bind.imp (fun x _ d v H1 s1 r1=>?_) fun e q=>q)
 obtain⟨F1,f1,p1,A1⟩:=r1
 refine ha B H0 H1 σ ρ F1 R _ A1 (d.bind.imp (fun xs _ d vs H2 F2 s2 f2 p2 A2=>?_) fun e q=>q)
 exact d (v::vs) H2 F2 (s1.trans s2) (fun i a h=>f1 i a (f2 i a h)) ⟨v,vs,rfl,p1.same s2,p2⟩ A2
theorem Jp:DAF K EX Γ Γ ZdY (fun _=>.ok []):=fun B H0 H σ ρ F R Q A d=>d [] H F [] (Z2.refl H) (fun _ _ h=>h) ⟨rfl,rfl⟩ (by simp) A
theorem ZJ(he:DE K EX Γ Γ1 .F te f)(ha:DAF K EX Γ1 Γ2 ta fa):DAF K EX Γ Γ2 (U0 te ta) (fun ρ=>(f ρ).bind fun x=>(fa ρ).bind fun xs=>.ok (x::xs)):=fun B H0 H σ ρ F R Q A d=>by
 refine he B H0 H σ ρ F R _ A (d.bind.imp (fun x _ d v H1 s1 r1=>?_) fun e q=>q)
 obtain⟨F1,f1,G1,p1,o1,A1⟩:=r1
 refine ha B H0 H1 σ ρ F1 (G1++R) _ A1 (d.bind.imp (fun xs _ d vs H2 F2 G2 s2 f2 p2 o2 A2=>?_) fun e q=>q)
 refine d (v::vs) H2 F2 (G1++G2) (s1.trans s2) (fun i a h=>f1 i a (f2 i a h)) ⟨v,vs,G1,G2,rfl,p1.same s2,p2,fun a ha z=>(o2 a z).1 (Zrp _ ha),rfl⟩ (fun a ha=>?_) (A2.less fun a ha=>?_)
 ·rcases Zro.mp ha with z|z
  ·exact o1 a z
  ·obtain⟨o3,o4⟩:=o2 a z
   exact⟨fun q=>o3 (Zrk _ q),o4.elim (fun q=>.inl (s1.free q)) fun⟨i,q⟩=>.inr ⟨i,f1 i a q⟩⟩
 ·simp only[Zro] at ha ⊢
  rcases ha with (z|z)|z
  ·exact .inr (.inl z)
  ·exact .inl z
  ·exact .inr (.inr z)
theorem Zjj:DAZ K EX Γ Γ ZdY (fun _=>.ok []):=fun B H0 H σ ρ F R Q A d=>d [] H F (Z2.refl H) (fun _ _ h=>h) rfl A
theorem Zhk(he:DE K EX Γ Γ1 .Z te f)(ha:DAZ K EX Γ1 Γ2 ta fa):DAZ K EX Γ Γ2 (U0 te ta) (fun ρ=>(f ρ).bind fun x=>(fa ρ).bind fun xs=>.ok (x::xs)):=fun B H0 H σ ρ F R Q A d=>by
 refine he B H0 H σ ρ F R _ A (d.bind.imp (fun x _ d v H1 s1 r1=>?_) fun e q=>q)
 obtain⟨F1,f1,p1,A1⟩:=r1
 refine ha B H0 H1 σ ρ F1 R _ A1 (d.bind.imp (fun xs _ d vs H2 F2 s2 f2 p2 A2=>?_) fun e q=>q)
 refine d (v::vs) H2 F2 (s1.trans s2) (fun i a h=>f1 i a (f2 i a h)) ⟨v,vs,rfl, ?_,p2⟩ A2
 exact Rep.mono (fun a us s r=>⟨r.same s2,s.1,s.2.1,fun i z=>s.2.2 i (f2 i a z)⟩) (fun a us r=>s2.im r) p1
noncomputable def mkT(xs:List PV):Rr PV:=if xs.length<=1000 then .ok (.tup xs) else .bad
noncomputable def mkL(xs:List PV):Rr PV:=if xs.length<=1000 then .ok (.lst xs) else .bad
theorem Dn.mkT{xs:List PV}{ok:PV->Prop}{ex:PX->Prop}(d:Dn (mkT xs) ok ex):xs.length<=1000/\ok (.tup xs):=by
 unfold L2.mkT at d
 by_cases h:xs.length<=1000
 ·rw[if_pos h] at d;exact⟨h,d⟩
 ·rw[if_neg h] at d;exact d.elim
theorem Dn.mkL{xs:List PV}{ok:PV->Prop}{ex:PX->Prop}(d:Dn (mkL xs) ok ex):xs.length<=1000/\ok (.lst xs):=by
 unfold L2.mkL at d
 by_cases h:xs.length<=1000
 ·rw[if_pos h] at d;exact⟨h,d⟩
 ·rw[if_neg h] at d;exact d.elim
theorem Qy(ha:DAF K EX Γ Γ' ta fa):DE K EX Γ Γ' .F (Zl5 ta) (fun ρ=>(fa ρ).bind mkT):=fun B H0 H σ ρ F R Q A d=>by
 refine ha B H0 H σ ρ F R _ A (d.bind.imp (fun xs _ d vs H1 F1 G s1 f1 p1 o1 A1=>?_) fun e q=>q)
 obtain⟨hl,d⟩:=d.mkT
 refine⟨by rw[p1.length];exact UL hl,fun p hp=>?_⟩
 have e:Z2 H1 (upd H1 p (.tup vs)):=Z2.new hp
 exact d _ _ (s1.trans e) ⟨F1,f1,G,⟨p,vs,rfl,⟨Zv,trivial⟩,p1.same e⟩,o1,A1.grow e⟩
theorem Qz(ha:DAA K EX Γ Γ' ta fa):DE K EX Γ Γ' .A (Zl5 ta) (fun ρ=>(fa ρ).bind mkT):=fun B H0 H σ ρ F R Q A d=>by
 refine ha B H0 H σ ρ F R _ A (d.bind.imp (fun xs _ d vs H1 F1 s1 f1 p1 A1=>?_) fun e q=>q)
 obtain⟨hl,d⟩:=d.mkT
 refine⟨by rw[p1.length];exact UL hl,fun p hp=>?_⟩
 have e:Z2 H1 (upd H1 p (.tup vs)):=Z2.new hp
 exact d _ _ (s1.trans e) ⟨F1,f1,⟨p,vs,rfl,⟨Zv,trivial⟩,p1.same e⟩,A1.grow e⟩
theorem Res.newF{H1:Hp}{F1:Nat->List Addr}{G:List Addr}{xs:List PV}{vs:List V}{p:Addr}(s1:Z2 H H1)(f1:∀i,∀a∈F1 i,a∈F i)(p1:Trees K H1 xs vs G)(o1:∀a∈G,a ∉ R/\(H a=none\/∃i,a∈F i))(A1:Ag K B H0 H1 σ Γ' ρ F1 (G++R))(hp:H1 p=none) :
  Res K B H0 H σ Γ' ρ F R .F (.lst xs) (.ref p) (upd H1 p (.lst vs)):=by
 have e:Z2 H1 (upd H1 p (.lst vs)):=Z2.new hp
 have hf:=A1.fresh hp
 refine⟨F1,f1,p::G,⟨p,vs,G,rfl,Zv,p1.same e,fun z=>hf.1 (Zrp _ z),rfl⟩,fun a ha=>?_,A1.new hp⟩
 rcases Zrt.mp ha with rfl|z
 ·exact⟨fun z=>hf.1 (Zrk _ z),.inl (s1.free hp)⟩
 ·exact o1 a z
theorem Res.newP{H1:Hp}{F1:Nat->List Addr}{xs:List PV}{vs:List V}{p:Addr}{S:Addr->Prop}(s1:Z2 H H1)(f1:∀i,∀a∈F1 i,a∈F i)(p1:Reps K H1 S xs vs)(hx:PV.flats xs=true)(A1:Ag K B H0 H1 σ Γ' ρ F1 R)(hp:H1 p=none) :
  Res K B H0 H σ Γ' ρ F R .F (.lst xs) (.ref p) (upd H1 p (.lst vs)):=Res.newF (G:=[]) s1 f1 (p1.trees hx) (by simp) A1 hp
theorem Ve(ha:DAF K EX Γ Γ' ta fa):DE K EX Γ Γ' .F (Zl6 ta) (fun ρ=>(fa ρ).bind mkL):=fun B H0 H σ ρ F R Q A d=>by
 refine ha B H0 H σ ρ F R _ A (d.bind.imp (fun xs _ d vs H1 F1 G s1 f1 p1 o1 A1=>?_) fun e q=>q)
 obtain⟨hl,d⟩:=d.mkL
 refine⟨by rw[p1.length];exact UL hl,fun p hp=>d _ _ (s1.trans (Z2.new hp)) (Res.newF s1 f1 p1 o1 A1 hp)⟩
noncomputable def pIx(x y:PV):Rr PV:=match x,y with
 |.lst xs,.int i=>match atI xs i with
  |some z=>.ok z
  |none=>.bad
 |.tup xs,.int i=>match atI xs i with
  |some z=>.ok z
  |none=>.bad
 |_,_=>.bad
theorem Zei{S:Addr->Prop}{xs:List PV}{vs:List V}{i:Int}{z:PV}(h:Reps K H S xs vs)(e:atI xs i=some z):∃u,atI vs i=some u/\Rep K H S z u:=by
 unfold atI at e ⊢
 rw[h.length]
 cases q:ixN xs.length i with
 |none=>rw[q] at e;cases e
 |some j =>
  rw[q] at e
  obtain⟨u,e1,e2⟩:=h.get e
  exact⟨u,e1,e2⟩
theorem ZjT{S:Addr->Prop}{x y z:PV}{v w:V}{Q:VK}(hx:Rep K H S x v)(hy:Rep K H (fun _=>True) y w)(e:pIx x y=.ok z)(q:∀u,Rep K H S z u->Q u H):rIx K v w H Q:=by
 cases x<;>cases y<;>first|(simp only[pIx] at e;cases e;done)|skip
 ·rename_i xs i
  obtain⟨a,vs,rfl,hn,hr⟩:=hx
  cases hy
  simp only[pIx] at e
  cases e1:atI xs i with
  |none=>rw[e1] at e;cases e
  |some z' =>
   rw[e1] at e;cases e
   obtain⟨u,e2,e3⟩:=Zei hr e1
   exact .inl ⟨a,vs,i,u,rfl,rfl,JG hn,e2,q u e3⟩
 ·rename_i xs i
  obtain⟨a,vs,rfl,hn,hr⟩:=hx
  cases hy
  simp only[pIx] at e
  cases e1:atI xs i with
  |none=>rw[e1] at e;cases e
  |some z' =>
   rw[e1] at e;cases e
   obtain⟨u,e2,e3⟩:=Zei hr e1
   exact .inr (.inl ⟨a,vs,i,u,rfl,rfl,hn.sqT,e2,q u e3⟩)
theorem Ze7(x y:PV)(e:PX):pIx x y≠.exc e:=by
 cases x<;>cases y<;>first|(intro h;simp only[pIx] at h;cases h;done)|skip
 all_goals
  intro h
  simp only[pIx] at h
  split at h<;>cases h
theorem Dn.pIx{x y:PV}{ok:PV->Prop}{ex:PX->Prop}(d:Dn (pIx x y) ok ex):∃z,pIx x y=.ok z/\ok z:=by
 cases e:L2.pIx x y with
 |ok z=>rw[e] at d;exact⟨z,rfl,d⟩
 |exc q=>exact absurd e (Ze7 x y q)
 |bad=>rw[e] at d;exact d.elim
theorem Z7{te ta':TE}{fa':List PV->Rr PV}(ha:DE K EX Γ Γ1 .A ta' fa')(hb:DE K EX Γ1 Γ2 .A tb fb):DE K EX Γ Γ2 .A (tOp (rIx K) ta' tb) (fun ρ=>(fa' ρ).bind fun x=>(fb ρ).bind fun y=>pIx x y):=fun B H0 H σ ρ F R Q A d=>by
 refine two ha hb A d.bind2 fun x y v w H' F' d s hF p1 p2 A'=>?_
 obtain⟨z,e,d⟩:=d.pIx
 exact ZjT p1 p2 e fun u hu=>d u H' s ⟨F',hF,hu,A'⟩
def CbP(K:W.Frag)(r:List V->Hp->VK->Prop)(o:List PV->Rr PV):Prop:=∀{H:Hp}{xs:List PV}{vs:List V}{Q:VK},Reps K H (fun _=>True) xs vs->∀z,o xs=.ok z->z.flat=true/\((∀u,Rep K H (fun _=>True) z u->Q u H)->r vs H Q)
theorem Zhh{r:List V->Hp->VK->Prop}{o:List PV->Rr PV}(hr:CbP K r o)(hx:∀xs e,o xs≠.exc e)(ha:DAA K EX Γ Γ' ta fa):DE K EX Γ Γ' .P (tCB r ta) (fun ρ=>(fa ρ).bind o):=fun B H0 H σ ρ F R Q A d=>by
 refine ha B H0 H σ ρ F R _ A (d.bind.imp (fun xs _ d vs H1 F1 s1 f1 p1 A1=>?_) fun e q=>q)
 cases e:o xs with
 |ok z =>
  rw[e] at d
  obtain⟨hf,h⟩:=hr (Q:=Q) p1 z e
  exact h fun u hu=>d u H1 s1 ⟨F1,f1,hf,hu,A1⟩
 |exc q=>exact absurd e (hx xs q)
 |bad=>rw[e] at d;exact d.elim
noncomputable def Ze6(xs:List PV):Rr PV:=match xs with
 |[.lst ys]=>.ok (.int ys.length)
 |[.tup ys]=>.ok (.int ys.length)
 |_=>.bad
theorem VN{S:Addr->Prop}{x:PV}{vs:List V}(h:Reps K H S [x] vs):∃v,vs=[v]/\Rep K H S x v:=by
 obtain⟨v,r,rfl,h1,h2⟩:=h
 cases h2
 exact⟨v,rfl,h1⟩
theorem ZjU{S:Addr->Prop}{x y:PV}{vs:List V}(h:Reps K H S [x,y] vs):∃v w,vs=[v,w]/\Rep K H S x v/\Rep K H S y w:=by
 obtain⟨v,r,rfl,h1,w,r',rfl,h2,h3⟩:=h
 cases h3
 exact⟨v,w,rfl,h1,h2⟩
theorem Jo(ha:DAA K EX Γ Γ' ta fa):DE K EX Γ Γ' .P (tCB (fun xs H Q=>∃p ys,xs=[.ref p]/\(SqL K H p ys\/SqT K H p ys)/\Q (.int ys.length) H) ta) (fun ρ=>(fa ρ).bind Ze6):=by
 refine Zhh (fun {H xs vs Q} h z e=>?_) (fun xs e h=>?_) ha
 ·unfold Ze6 at e
  split at e<;>first|(cases e;done)|skip
  all_goals
   cases e
   refine⟨rfl,fun q=>?_⟩
   obtain⟨v,rfl,a,ws,rfl,hn,hr⟩:=VN h
   refine⟨a,ws,rfl, ?_,by rw[hr.length];exact q _ rfl⟩
   first|exact .inl (JG (S:=fun _=>True) hn)|exact .inr hn.sqT
 ·unfold Ze6 at h;split at h<;>cases h
noncomputable def U7:List PV->Option (List Int)
 |[]=>some []
 |.int i::xs=>(U7 xs).map (i::·)
 |_::_=>none
@[simp] theorem Zj2(ns:List Int):U7 (ns.map PV.int)=some ns:=by
 induction ns with
 |nil=>rfl
 |cons n ns ih=>simp[U7,ih]
theorem Zbd:∀{xs:List PV}{ns:List Int},U7 xs=some ns->xs=ns.map PV.int
 |[],_,h=>by cases h;rfl
 |.int i::xs,ns,h=>by
  simp only[U7] at h
  cases e:U7 xs with
  |none=>rw[e] at h;cases h
  |some ms=>rw[e] at h;cases h;rw[Zbd e];rfl
 |.non::_,_,h=>by cases h
 |.bl _::_,_,h=>by cases h
 |.str _::_,_,h=>by cases h
 |.exc _::_,_,h=>by cases h
 |.exa _ _::_,_,h=>by cases h
 |.box _ _ _::_,_,h=>by cases h
 |.fz _::_,_,h=>by cases h
 |.lst _::_,_,h=>by cases h
 |.tup _::_,_,h=>by cases h
theorem Vp{S:Addr->Prop}:∀{ns:List Int}{vs:List V},Reps K H S (ns.map PV.int) vs->vs=ns.map V.int
 |[],_,h=>h
 |n::ns,_,h=>by
  obtain⟨v,r,rfl,h1,h2⟩:=h
  cases h1
  rw[Vp h2];rfl
theorem Zbc{S:Addr->Prop}:∀(ns:List Int),Reps K H S (ns.map PV.int) (ns.map V.int)
 |[]=>rfl
 |n::ns=>⟨_,_,rfl,rfl,Zbc ns⟩
theorem ZfZ{S:Addr->Prop}{ns:List Int}{v:V}(h:Rep K H S (.lst (ns.map PV.int)) v):∃a,v=.ref a/\SqL K H a (ns.map V.int):=by
 obtain⟨a,vs,rfl,hn,hr⟩:=h
 rw[Vp hr] at hn
 exact⟨a,rfl,JG hn⟩
noncomputable def Zdz(g:List Int->Rr PV)(xs:List PV):Rr PV:=match xs with
 |[.lst ys]=>match U7 ys with
  |some ns=>g ns
  |none=>.bad
 |_=>.bad
theorem Rr.ints{g:List Int->Rr PV}{xs:List PV}{z:PV}(e:Zdz g xs=.ok z):∃ns,xs=[.lst (ns.map PV.int)]/\g ns=.ok z:=by
 unfold Zdz at e
 split at e
 ·split at e
  ·rename_i ns h
   exact⟨ns,by rw[Zbd h],e⟩
  ·cases e
 ·cases e
theorem ZbM{g:List Int->Rr PV}(hg:∀ns e,g ns≠.exc e)(xs:List PV)(e:PX):Zdz g xs≠.exc e:=by
 intro h
 unfold Zdz at h
 split at h
 ·split at h
  ·exact hg _ _ h
  ·cases h
 ·cases h
noncomputable abbrev ZlC:=Zdz fun ns=>.ok (.int ns.sum)
theorem Zdi(ha:DAA K EX Γ Γ' ta fa):DE K EX Γ Γ' .P (tCB (fun xs H Q=>∃p,∃ns:List Int,xs=[.ref p]/\SqL K H p (ns.map V.int)/\Q (.int ns.sum) H) ta) (fun ρ=>(fa ρ).bind ZlC):=by
 refine Zhh (fun {H xs vs Q} h z e=>?_) (ZbM fun ns e h=>by cases h) ha
 obtain⟨ns,rfl,e'⟩:=Rr.ints e
 cases e'
 obtain⟨v,rfl,h1⟩:=VN h
 obtain⟨a,rfl,h2⟩:=ZfZ h1
 exact⟨rfl,fun q=>⟨a,ns,rfl,h2,q _ rfl⟩⟩
noncomputable def Zcn:List PV->Option (List Bool)
 |[]=>some []
 |.bl i::xs=>(Zcn xs).map (i::·)
 |_::_=>none
@[simp] theorem Zf7(ns:List Bool):Zcn (ns.map PV.bl)=some ns:=by
 induction ns with
 |nil=>rfl
 |cons n ns ih=>simp[Zcn,ih]
theorem Zdn:∀{xs:List PV}{ns:List Bool},Zcn xs=some ns->xs=ns.map PV.bl
 |[],_,h=>by cases h;rfl
 |.bl i::xs,ns,h=>by
  simp only[Zcn] at h
  cases e:Zcn xs with
  |none=>rw[e] at h;cases h
  |some ms=>rw[e] at h;cases h;rw[Zdn e];rfl
 |.non::_,_,h=>by cases h
 |.int _::_,_,h=>by cases h
 |.str _::_,_,h=>by cases h
 |.exc _::_,_,h=>by cases h
 |.exa _ _::_,_,h=>by cases h
 |.box _ _ _::_,_,h=>by cases h
 |.fz _::_,_,h=>by cases h
 |.lst _::_,_,h=>by cases h
 |.tup _::_,_,h=>by cases h
theorem ZcF{S:Addr->Prop}:∀{ns:List Bool}{vs:List V},Reps K H S (ns.map PV.bl) vs->vs=ns.map V.bl
 |[],_,h=>h
 |n::ns,_,h=>by
  obtain⟨v,r,rfl,h1,h2⟩:=h
  cases h1
  rw[ZcF h2];rfl
noncomputable def Zks(xs:List PV):Rr PV:=match xs with
 |[.lst ys]=>match Zcn ys with
  |some bs=>.ok (.bl (bs.all id))
  |none=>.bad
 |_=>.bad
theorem Zfs(ha:DAA K EX Γ Γ' ta fa):DE K EX Γ Γ' .P (tCB (fun xs H Q=>∃p,∃bs:List Bool,xs=[.ref p]/\SqL K H p (bs.map V.bl)/\Q (.bl (bs.all id)) H) ta) (fun ρ=>(fa ρ).bind Zks):=by
 refine Zhh (fun {H xs vs Q} h z e=>?_) (fun xs e h=>?_) ha
 ·unfold Zks at e
  split at e
  ·split at e
   ·rename_i bs hb
    cases e
    rw[Zdn hb] at h
    obtain⟨v,rfl,a,ws,rfl,hn,hr⟩:=VN h
    rw[ZcF hr] at hn
    exact⟨rfl,fun q=>⟨a,bs,rfl,JG (S:=fun _=>True) hn,q _ rfl⟩⟩
   ·cases e
  ·cases e
 ·unfold Zks at h
  split at h
  ·split at h<;>cases h
  ·cases h
noncomputable def Zkm(xs:List PV):Rr PV:=match xs with
 |[.int i]=>.ok (.int i)
 |[.bl b]=>.ok (.int (if b then 1 else 0))
 |_=>.bad
theorem ZgZ(ha:DAA K EX Γ Γ' ta fa):DE K EX Γ Γ' .P (tCB (fun xs H Q=>(∃i,xs=[.int i]/\Q (.int i) H)\/∃k,xs=[.bl k]/\Q (.int (if k then 1 else 0)) H) ta) (fun ρ=>(fa ρ).bind Zkm):=by
 refine Zhh (fun {H xs vs Q} h z e=>?_) (fun xs e h=>?_) ha
 ·unfold Zkm at e
  split at e<;>first|(cases e;done)|skip
  ·cases e
   obtain⟨v,rfl,h1⟩:=VN h
   cases h1
   exact⟨rfl,fun q=>.inl ⟨_,rfl,q _ rfl⟩⟩
  ·cases e
   obtain⟨v,rfl,h1⟩:=VN h
   cases h1
   exact⟨rfl,fun q=>.inr ⟨_,rfl,q _ rfl⟩⟩
 ·unfold Zkm at h;split at h<;>cases h
end
theorem Jk{n:Nat}(h:n<=1000000):n<=sizeLine:=Zr7 h (by decide)
def LX(K:W.Frag)(H:Hp)(a:Addr)(vs:List V):Prop:=Rd H a (.lst vs)\/KL K a vs
section
end
def Frm(H:Hp)(F:Nat->List Addr)(H':Hp)(F':Nat->List Addr):Prop:=∀a o,H a=some o->(∀i,a ∉ F i)->H' a=some o/\∀i,a ∉ F' i
theorem Frm.refl{H:Hp}{F:Nat->List Addr}:Frm H F H F:=fun a o h n=>⟨h,n⟩
theorem Frm.trans{H H1 H2:Hp}{F F1 F2:Nat->List Addr}(h1:Frm H F H1 F1)(h2:Frm H1 F1 H2 F2):Frm H F H2 F2:=fun a o h n=>let ⟨h3,n3⟩:=h1 a o h n;h2 a o h3 n3
theorem Frm.of{H H':Hp}{F F':Nat->List Addr}(s:Z2 H H')(f:∀i,∀a∈F' i,a∈F i):Frm H F H' F':=fun a o h n=>⟨s a o h,fun i z=>n i (f i a z)⟩
def ItP(K:W.Frag)(S:Addr->Prop)(J:It)(xs:List PV)(H:Hp):Prop:=
 ∀i,(∀x,xs[i]?=some x->J.go i H/\∀v H',J.yld i H v H'->Z2 H H'/\Rep K H' S x v)/\(xs[i]?=none->J.stop i H)
def DI(K:W.Frag)(EX:PX->Hp->Prop)(Γ Γ':List Md)(wi:TI)(f:List PV->Rr (List PV)):Prop:=
 ∀(B:Addr->Prop) (H0 H:Hp) (σ:St) (ρ:List PV) (F:Nat->List Addr) (R:List Addr) (Q:It->Hp->Prop),Ag K B H0 H σ Γ ρ F R ->
  Dn (f ρ) (fun xs=>∀J H' F',Z2 H H'->(∀i,∀a∈F' i,a∈F i)->Ag K B H0 H' σ Γ' ρ F' R->(∀H2 F2,Frm H' F' H2 F2->ItP K (fun a=>NO B F2 R a/\H' a≠none/\∀i,a ∉ F' i) J xs H2)->Q J H') (fun e=>∀H',Z2 H0 H'->EX e H')->wi σ H Q
def DIc(K:W.Frag)(EX:PX->Hp->Prop)(Γ Γ':List Md)(wi:TI)(f:List PV->Rr (List PV)):Prop:=
 ∀(B:Addr->Prop) (H0 H:Hp) (σ:St) (ρ:List PV) (F:Nat->List Addr) (R:List Addr) (Q:It->Hp->Prop),Ag K B H0 H σ Γ ρ F R ->
  Dn (f ρ) (fun xs=>∀J H' F',Z2 H H'->(∀i,∀a∈F' i,a∈F i)->Ag K B H0 H' σ Γ' ρ F' R->(∀H2 F2,Z2 H' H2->(∀i,∀a∈F2 i,a∈F' i)->ItP K (fun a=>NO B F2 R a/\H' a≠none/\∀i,a ∉ F' i) J xs H2)->Q J H') (fun e=>∀H',Z2 H0 H'->EX e H')->wi σ H Q
theorem DI.c{K:W.Frag}{EX:PX->Hp->Prop}{Γ Γ':List Md}{wi:TI}{f:List PV->Rr (List PV)}(h:DI K EX Γ Γ' wi f):DIc K EX Γ Γ' wi f:=fun B H0 H σ ρ F R Q A d =>
 h B H0 H σ ρ F R Q A (d.imp (fun xs _ d J H' F' s1 f1 A1 it=>d J H' F' s1 f1 A1 fun H2 F2 s2 f2=>it H2 F2 (Frm.of s2 f2)) fun e q=>q)
theorem ItP.flat{K:W.Frag}{S S':Addr->Prop}{J:It}{xs:List PV}{H:Hp}(f:PV.flats xs=true)(h:ItP K S J xs H):ItP K S' J xs H:=fun i=>by
 refine⟨fun x hx=>?_,(h i).2⟩
 obtain⟨h1,h2⟩:=(h i).1 x hx
 have fx:∀(xs:List PV) (i:Nat),PV.flats xs=true->xs[i]?=some x->x.flat=true:=by
  intro xs
  induction xs with
  |nil=>intro i _ h;simp at h
  |cons y ys ih =>
   intro i hf hx
   simp only[PV.flats,Bool.and_eq_true] at hf
   cases i with
   |zero=>simp at hx;rw[<- hx];exact hf.1
   |succ i=>exact ih i hf.2 (by simpa using hx)
 exact⟨h1,fun v H' y=>⟨(h2 v H' y).1,(h2 v H' y).2.flatS (fx xs i f hx)⟩⟩
section
variable {K:W.Frag}{B:Addr->Prop}{EX:PX->Hp->Prop}{H0 H H':Hp}{σ:St}{Γ Γ' Γ1 Γ2:List Md}{ρ:List PV}{F:Nat->List Addr}{R:List Addr}{k:Kd}{x:PV}{v:V}{te tb:TE}{ta:TA}{f fb:List PV->Rr PV}{fa:List PV->Rr (List PV)}
theorem Rep.frm{F2:Nat->List Addr}{H2:Hp}(h:Frm H F H2 F2)(A:Ag K B H0 H σ Γ ρ F R)(r:Rep K H (NO B F R) x v):Rep K H2 (fun a=>NO B F2 R a/\H a≠none/\∀i,a ∉ F i) x v:=by
 refine Rep.mono (fun a us s r=>?_) (fun a us r=>?_) r
 ·rcases r with r|⟨o,r⟩
  ·obtain⟨h1,h2⟩:=h a _ r s.2.2;exact⟨.inl h1,⟨s.1,s.2.1,h2⟩,by rw[r];simp,s.2.2⟩
  ·obtain⟨h1,h2⟩:=h a _ r s.2.2;exact⟨.inr ⟨o,h1⟩,⟨s.1,s.2.1,h2⟩,by rw[r];simp,s.2.2⟩
 ·refine⟨(h a _ r.1 fun i z=>?_).1,r.2⟩
  obtain⟨vs,q⟩:=A.live i a z
  exact Zar vs.2 r.2 (by rw[r.1] at q;exact Option.some.inj q)
noncomputable def ZcE(lo:Int)(n:Nat):List PV:=(List.range n).map fun(k:Nat)=>PV.int (lo+(k:Int))
theorem Zfa{lo:Int}{n:Nat}{S:Addr->Prop}:ItP K S (Itr lo n) (ZcE lo n) H:=by
 intro i
 constructor
 ·intro x hx
  unfold ZcE at hx
  rw[Zrn] at hx
  by_cases h:i<n
  ·rw[ZrZ h] at hx
   cases hx
   exact⟨h,fun v H' ⟨e1,e2⟩=>by subst e1 e2;exact⟨Z2.refl _,rfl⟩⟩
  ·rw[Zr3 (by simpa using h)] at hx;cases hx
 ·intro hx
  unfold ZcE at hx
  have:=ZrU.mp hx
  show n<=i
  simpa using this
noncomputable def okR(j:Int):Bool:=decide (-(2^62)<=j/\j<2^62)
noncomputable def Zgm(xs:List PV):Rr (List PV):=match xs with
 |[.int j]=>if okR j=true then .ok (ZcE 0 j.toNat) else .bad
 |_=>.bad
noncomputable def Zgl(xs:List PV):Rr (List PV):=match xs with
 |[.int i,.int j]=>if (okR i&&okR j)=true then .ok (ZcE i (j-i).toNat) else .bad
 |_=>.bad
theorem JP(ha:DAA K EX Γ Γ' ta fa):DI K EX Γ Γ' (ZkC ta) (fun ρ=>(fa ρ).bind Zgm):=fun B H0 H σ ρ F R Q A d=>by
 refine ha B H0 H σ ρ F R _ A (d.bind.imp (fun xs _ d vs H1 F1 s1 f1 p1 A1=>?_) fun e q=>q)
 unfold Zgm at d
 split at d
 ·rename_i j _
  obtain⟨v,rfl,h1⟩:=VN p1
  cases h1
  by_cases h:okR j=true
  ·rw[if_pos h] at d
   have h':=of_decide_eq_true h
   exact⟨j,rfl,h'.1,h'.2,d _ H1 F1 s1 f1 A1 fun H2 F2 _=>Zfa⟩
  ·rw[if_neg h] at d;exact d.elim
 ·exact d.elim
theorem Zjd(ha:DAA K EX Γ Γ' ta fa):DI K EX Γ Γ' (ZkB ta) (fun ρ=>(fa ρ).bind Zgl):=fun B H0 H σ ρ F R Q A d=>by
 refine ha B H0 H σ ρ F R _ A (d.bind.imp (fun xs _ d vs H1 F1 s1 f1 p1 A1=>?_) fun e q=>q)
 unfold Zgl at d
 split at d
 ·rename_i i j _
  obtain⟨v,w,rfl,h1,h2⟩:=ZjU p1
  cases h1;cases h2
  by_cases h:(okR i&&okR j)=true
  ·rw[if_pos h] at d
   rw[Bool.and_eq_true] at h
   have h':=of_decide_eq_true h.1
   have h'':=of_decide_eq_true h.2
   exact⟨i,j,rfl,⟨h'.1,h'.2,h''.1,h''.2⟩,d _ H1 F1 s1 f1 A1 fun H2 F2 _=>Zfa⟩
  ·rw[if_neg h] at d;exact d.elim
 ·exact d.elim
noncomputable def asL(x:PV):Rr (List PV):=match x with
 |.lst xs=>.ok xs
 |_=>.bad
theorem Zfb{a:Addr}{xs:List PV}{S:Addr->Prop}(h:Rep K H S (.lst xs) (.ref a)):ItP K S (Itl K a) xs H:=by
 obtain⟨a',vs,e,hn,hr⟩:=h
 cases e
 intro i
 constructor
 ·intro x hx
  obtain⟨u,e1,e2⟩:=hr.get hx
  refine⟨⟨vs,u,JG hn,e1⟩,fun v H' ⟨e,y⟩=>?_⟩
  subst e
  have:=y vs (JG hn)
  rw[e1] at this;cases this
  exact⟨Z2.refl _,e2⟩
 ·intro hx
  exact⟨vs,JG hn,by rw[hr.length];exact ZrU.mp hx⟩
theorem Jn(he:DE K EX Γ Γ' .Z te f):DI K EX Γ Γ' (ZdB K te) (fun ρ=>(f ρ).bind asL):=fun B H0 H σ ρ F R Q A d=>by
 refine he B H0 H σ ρ F R _ A (d.bind.imp (fun x _ d v H1 s1 r1=>?_) fun e q=>q)
 obtain⟨F1,f1,p1,A1⟩:=r1
 cases x with
 |lst xs =>
  obtain⟨a,vs,rfl,hn,hr⟩:=id p1
  exact⟨a,rfl,⟨vs,JG hn⟩,d _ H1 F1 s1 f1 A1 fun H2 F2 h=>Zfb (p1.frm h A1)⟩
 |_=>exact d.elim
noncomputable def Zlv(x:PV):Rr (List PV):=match x with
 |.lst xs=>if PV.flats xs=true then .ok xs else .bad
 |_=>.bad
theorem ZgX(he:DE K EX Γ Γ' .A te f):DIc K EX Γ Γ' (ZdB K te) (fun ρ=>(f ρ).bind Zlv):=fun B H0 H σ ρ F R Q A d=>by
 refine he B H0 H σ ρ F R _ A (d.bind.imp (fun x _ d v H1 s1 r1=>?_) fun e q=>q)
 obtain⟨F1,f1,p1,A1⟩:=r1
 cases x with
 |lst xs =>
  unfold Zlv at d
  by_cases hf:PV.flats xs=true
  ·simp only[hf,if_true] at d
   obtain⟨a,vs,rfl,hn,hr⟩:=id p1
   exact⟨a,rfl,⟨vs,JG (S:=fun _=>True) hn⟩,d _ H1 F1 s1 f1 A1 fun H2 F2 s2 _=>ItP.flat hf (Zfb (p1.same s2))⟩
  ·simp only[hf] at d;exact d.elim
 |_=>exact d.elim
theorem Uo:∀{ns:List Int},PV.flats (ns.map PV.int)=true
 |[]=>rfl
 |n::ns=>by simp only[Zru,PV.flats,PV.flat,Uo,Bool.and_self]
theorem Zht{ns:List Int}:Zlv (.lst (ns.map PV.int))=.ok (ns.map PV.int):=by unfold Zlv;simp only[Uo,if_true]
noncomputable def newF(xs:List PV):Rr PV:=if (PV.flats xs&&decide (xs.length<=1000000))=true then .ok (.lst xs) else .bad
theorem Dn.newF{xs:List PV}{ok:PV->Prop}{ex:PX->Prop}(d:Dn (newF xs) ok ex):PV.flats xs=true/\xs.length<=1000000/\ok (.lst xs):=by
 unfold L2.newF at d
 by_cases h:(PV.flats xs&&decide (xs.length<=1000000))=true
 ·rw[if_pos h] at d
  rw[Bool.and_eq_true] at h
  exact⟨h.1,of_decide_eq_true h.2,d⟩
 ·rw[if_neg h] at d;exact d.elim
noncomputable def Zkc(xs:List PV)(y:PV):Rr PV:=match y with
 |.int k=>if xs.length*k.toNat<=1000000/\-(2^63)<=k/\k<2^63 then newF (List.replicate k.toNat xs).flatten else .bad
 |_=>.bad
theorem Reps.rep{S:Addr->Prop}{xs:List PV}{vs:List V}(h:Reps K H S xs vs):∀n:Nat,Reps K H S (List.replicate n xs).flatten (List.replicate n vs).flatten
 |0=>rfl
 |n+1=>by
  rw[Zsd,Zsd,Zsu,Zsu]
  exact h.append (Reps.rep h n)
theorem Zjg(ha:DAA K EX Γ Γ1 ta fa)(hb:DE K EX Γ1 Γ2 .A tb fb) :
  DE K EX Γ Γ2 .F (tOp Zmo (Zl6 ta) tb) (fun ρ=>(fa ρ).bind fun xs=>(mkL xs).bind fun _=>(fb ρ).bind fun y=>Zkc xs y):=fun B H0 H σ ρ F R Q A d=>by
 refine ha B H0 H σ ρ F R _ A (d.bind.imp (fun xs _ d vs H1 F1 s1 f1 p1 A1=>?_) fun e q=>q)
 obtain⟨hl,d⟩:=Dn.mkL d.bind
 refine⟨by rw[p1.length];exact UL hl,fun p hp=>?_⟩
 have e:Z2 H1 (upd H1 p (.lst vs)):=Z2.new hp
 refine hb B H0 _ σ ρ F1 R _ (A1.grow e) (d.bind.imp (fun y _ d w H2 s2 r2=>?_) fun e q=>q)
 obtain⟨F2,f2,p2,A2⟩:=r2
 cases y with
 |int k =>
  cases p2
  simp only[Zkc] at d
  by_cases h:xs.length*k.toNat<=1000000/\-(2^63)<=k/\k<2^63
  ·rw[if_pos h] at d
   obtain⟨h1,h2,d⟩:=Dn.newF d
   refine⟨p,k,vs,rfl,rfl,s2 _ _ Zv,h.2.1,h.2.2,by rw[p1.length];exact Jk h.1,fun q hq=>?_⟩
   have st:=(s1.trans e).trans s2
   exact d _ _ (st.trans (Z2.new hq)) (Res.newP st (fun i a h=>f1 i a (f2 i a h)) (((p1.same e).same s2).rep k.toNat) h1 A2 hq)
  ·rw[if_neg h] at d;exact d.elim
 |_=>exact d.elim
noncomputable def Zal(xs:List PV):Rr PV:=match xs with
 |[.lst ys]=>newF ys
 |[.tup ys]=>newF ys
 |_=>.bad
theorem ZQ(ha:DAA K EX Γ Γ' ta fa):DE K EX Γ Γ' .F (tCB (fun xs H Q=>∃p ys,xs=[.ref p]/\(SqL K H p ys\/SqT K H p ys)/\∀l,H l=none->Q (.ref l) (upd H l (.lst ys))) ta) (fun ρ=>(fa ρ).bind Zal):=fun B H0 H σ ρ F R Q A d=>by
 refine ha B H0 H σ ρ F R _ A (d.bind.imp (fun xs _ d vs H1 F1 s1 f1 p1 A1=>?_) fun e q=>q)
 unfold Zal at d
 split at d
 ·obtain⟨h1,h2,d⟩:=Dn.newF d
  obtain⟨v,rfl,a,ws,rfl,hn,hr⟩:=VN p1
  exact⟨a,ws,rfl,.inl (JG (S:=fun _=>True) hn),fun l hl=>d _ _ (s1.trans (Z2.new hl)) (Res.newP s1 f1 hr h1 A1 hl)⟩
 ·obtain⟨h1,h2,d⟩:=Dn.newF d
  obtain⟨v,rfl,a,ws,rfl,hn,hr⟩:=VN p1
  exact⟨a,ws,rfl,.inr hn.sqT,fun l hl=>d _ _ (s1.trans (Z2.new hl)) (Res.newP s1 f1 hr h1 A1 hl)⟩
 ·exact d.elim
noncomputable def Vh:PV->String
 |.non => "NoneType"
 |.bl _ => "bool"
 |.int _ => "int"
 |.str _ => "str"
 |.lst _ => "list"
 |.tup _ => "tuple"
 |.exc _ => "?"
 |.exa _ _ => "?"
 |.box _ (.dk _) _ => "dict"
 |.box _ (.dt _) _ => "dict"
 |.box _ (.ob _ _) _ => "?"
 |.box _ .jk _ => "?"
 |.box _ .ls _ => "?"
 |.fz _ => "?"
noncomputable def PV.isX:PV->Bool
 |.exc _=>true
 |.exa _ _=>true
 |.box _ _ _=>true
 |.fz _=>true
 |_=>false
noncomputable def Qn(t n:String):Bool:=t==n || (t == "bool" && n == "int")
noncomputable def Zl2(n:String):Bool:=n == "int" || n == "bool" || n == "str" || n == "list" || n == "tuple"
theorem Zk3(K:W.Frag){n:String}(h:Zl2 n=true)(x:PV)(hx:x.isX=false):PySem.W.kitOne K (.type (Vh x)) (.type n)=some (Qn (Vh x) n):=by
 simp only[Zl2,Bool.or_eq_true,beq_iff_eq] at h
 rcases h with (((rfl|rfl)|rfl)|rfl)|rfl<;>cases x<;>first|rfl|cases hx
def Zmr(K:W.Frag)(n:String):List V->Hp->VK->Prop:=fun xs H Q=>∃x p,xs=[x,.ty n]/\Rep K H (fun _=>True) p x/\p.isX=false/\Q (.bl (Qn (Vh p) n)) H
theorem Vx{X:Cx}{n:String}(hn:Zl2 n=true)(e:X.K=K:=by rfl):Vg X (.builtin "isinstance") (Zmr K n):=by
 subst e
 intro pins s σ H xs us Q I r h
 obtain⟨x,p,rfl,hp,hx,q⟩:=h
 obtain⟨u,w',rfl,rx,rn⟩:=Zl1 r
 cases rn
 have e:=Zk3 X.K hn p hx
 have fin:∀tk,EP X pins σ Q (.bool (Qn (Vh p) n)) { s with toks:=tk }:=fun tk=>⟨.bl _,H,I.tok _,rfl,q⟩
 cases p with
 |non=>cases hp;cases rx;exact PySem.W.kia_one PySem.W.kitx_none I.kIn True.intro e (fun z=>nomatch z) fin
 |bl y=>cases hp;cases rx;exact PySem.W.kia_one PySem.W.kitx_bool I.kIn True.intro e (fun z=>nomatch z) fin
 |int i=>cases hp;obtain⟨t,rfl⟩:=rx;exact PySem.W.kia_one PySem.W.kitx_int I.kIn True.intro e (fun z=>nomatch z) fin
 |str y=>cases hp;obtain⟨t,rfl⟩:=rx;exact PySem.W.kia_one PySem.W.kitx_str I.kIn True.intro e (fun z=>nomatch z) fin
 |exc y=>cases hx
 |exa y i=>cases hx
 |box p s ps=>cases hx
 |fz ps=>cases hx
 |lst ps =>
  obtain⟨a,vs,rfl,hn',hr⟩:=hp
  cases rx
  obtain⟨its,_,pl,_⟩:=I.list (JG (S:=fun _=>True) hn')
  obtain⟨o,h1,h2,_⟩:=pl.isList
  exact PySem.W.kia_one PySem.W.kitx_list I.kIn ⟨o,h1,h2⟩ e (fun z=>nomatch z) fin
 |tup ps =>
  obtain⟨a,vs,rfl,hn',hr⟩:=hp
  cases rx
  obtain⟨its,_,⟨o,h1,h2,_⟩,_⟩:=I.tuple hn'.sqT
  exact PySem.W.kia_one PySem.W.kitx_tuple I.kIn ⟨o,h1,h2⟩ e (fun z=>nomatch z) fin
noncomputable def Zkl(n:String)(x:PV):Rr PV:=if x.isX=true then .bad else .ok (.bl (Qn (Vh x) n))
theorem Zbo{n:String}(he:DE K EX Γ Γ' .A te f):DE K EX Γ Γ' .P (tCB (Zmr K n) (U0 te (U0 (tC (.ty n)) ZdY))) (fun ρ=>(f ρ).bind (Zkl n)):=fun B H0 H σ ρ F R Q A d=>by
 refine he B H0 H σ ρ F R _ A (d.bind.imp (fun x _ d v H1 s1 r1=>?_) fun e q=>q)
 obtain⟨F1,f1,p1,A1⟩:=r1
 unfold Zkl at d
 cases hx:x.isX with
 |true=>rw[hx] at d;exact d.elim
 |false=>rw[hx] at d;exact⟨v,x,rfl,p1,hx,d _ H1 s1 ⟨F1,f1,rfl,rfl,A1⟩⟩
def Len(fa:List PV->Rr (List PV))(n:Nat):Prop:=∀ρ xs,fa ρ=.ok xs->xs.length=n
theorem Zs:Len (fun _=>.ok []) 0:=fun ρ xs h=>by cases h;rfl
theorem Zc{f:List PV->Rr PV}{fa:List PV->Rr (List PV)}{n:Nat}(h:Len fa n):Len (fun ρ=>(f ρ).bind fun x=>(fa ρ).bind fun xs=>.ok (x::xs)) (n+1):=fun ρ xs e=>by
 dsimp only at e
 cases h1:f ρ with
 |ok x =>
  rw[h1] at e
  cases h2:fa ρ with
  |ok ys=>simp only[Rr.bind_ok,h2] at e;cases e;simp[h ρ ys h2]
  |exc q=>simp only[Rr.bind_ok,h2,Rr.bind_exc] at e;cases e
  |bad=>simp only[Rr.bind_ok,h2,Rr.bind_bad] at e;cases e
 |exc q=>rw[h1] at e;cases e
 |bad=>rw[h1] at e;cases e
def Zmc(K:W.Frag)(H:Hp)(a:Addr)(xs:List PV):Prop:=PV.flats xs=true/\∃vs,H a=some (.lst vs)/\Reps K H (fun _=>True) xs vs
def LsR(K:W.Frag)(H:Hp)(x:PV)(v:V)(H':Hp):Prop:=∃y a0 x0 a1 x1 a2 x2,x=.tup [y,.box (some a0) .ls x0,.box (some a1) .ls x1,.box (some a2) .ls x2]/\y.flat=true/\Rep K H' (fun _=>True) y v /\
 Zmc K H' a0 x0/\Zmc K H' a1 x1/\Zmc K H' a2 x2/\H a0=none/\H a1=none/\H a2=none
def Zic(K:W.Frag)(B:Addr->Prop)(H:Hp)(k:Kd)(x:PV)(v:V)(H':Hp):Prop:=match k with
 |.P=>x.flat=true/\Rep K H' (fun _=>True) x v
 |.F=>∃G,Jg K H' x v G/\∀a∈G,H a=none
 |.N=>∃y a s xs G1 G2,x=.tup [y,.box (some a) s xs]/\Jg K H' y v G1/\Jg K H' (.box (some a) s xs) (.ref a) G2/\(∀b∈G1,b ∉ G2)/\(∀b∈G1,H b=none)/\∀b∈G2,H b=none
 |.M=>LsR K H x v H'
 |_=>Rep K H' (fun a=>B a\/H a=none) x v
noncomputable def spF(K:PySem.W.Frag)(n:Nat)(k:Kd)(W:PX->XK->Hp->Prop)(m:List PV->Rr PV):Sp:=fun vs H Q E=>∃B xs,Reps K H B xs vs/\xs.length=n /\
 Dn (m xs) (fun x=>∀v H',Z2 H H'->Zic K B H k x v H'->Q v H') (fun e=>∀H',Z2 H H'->W e E H')
def W0:PX->XK->Hp->Prop:=fun _ _ _=>False
def X0:PX->Hp->Prop:=fun _ _=>False
section
variable {n:Nat}{W:PX->XK->Hp->Prop}{m:List PV->Rr PV}{E:XK}
theorem Zhi{t:TE}(ht:∀σ H Q,(ta σ H fun vs H1=>spF K n .P W m vs H1 Q E)->t σ H Q)(hW:∀e H',EX e H'->W e E H')(hn:Len fa n)(ha:DAA K EX Γ Γ' ta fa):DE K EX Γ Γ' .P t (fun ρ=>(fa ρ).bind m):=fun B H0 H σ ρ F R Q A d=>by
 refine ht _ _ _ (ha B H0 H σ ρ F R _ A (d.bind.imp (fun xs hx d vs H1 F1 s1 f1 p1 A1=>?_) fun e q=>q))
 exact⟨fun _=>True,xs,p1,hn ρ xs hx,d.imp (fun x _ d v H2 s2 r=>d v H2 (s1.trans s2) ⟨F1,f1,r.1,r.2,A1.grow s2⟩) fun e q H2 s2=>hW e H2 (q H2 (A1.same.trans s2))⟩
theorem Zhj{t:TE}(ht:∀σ H Q,(ta σ H fun vs H1=>spF K n .F W m vs H1 Q E)->t σ H Q)(hW:∀e H',EX e H'->W e E H')(hn:Len fa n)(ha:DAA K EX Γ Γ' ta fa):DE K EX Γ Γ' .F t (fun ρ=>(fa ρ).bind m):=fun B H0 H σ ρ F R Q A d=>by
 refine ht _ _ _ (ha B H0 H σ ρ F R _ A (d.bind.imp (fun xs hx d vs H1 F1 s1 f1 p1 A1=>?_) fun e q=>q))
 refine⟨fun _=>True,xs,p1,hn ρ xs hx,d.imp (fun x _ d v H2 s2 r=>?_) fun e q H2 s2=>hW e H2 (q H2 (A1.same.trans s2))⟩
 obtain⟨G,r1,r2⟩:=r
 exact d v H2 (s1.trans s2) ⟨F1,f1,G,r1,fun a ha=>⟨(A1.fresh (r2 a ha)).1,.inl (s1.free (r2 a ha))⟩,A1.more s2 r2 r1.alive⟩
end
end
noncomputable def Zb1{α β:Type}(f:α->Rr β):List α->Rr (List β)
 |[]=>.ok []
 |x::xs=>(f x).bind fun y=>(Zb1 f xs).bind fun ys=>.ok (y::ys)
noncomputable def lenM(xs:List PV):Rr Unit:=if xs.length<=1000000 then .ok () else .bad
theorem Dn.lenM{xs:List PV}{ok:Unit->Prop}{ex:PX->Prop}(d:Dn (lenM xs) ok ex):xs.length<=1000000/\ok ():=by
 unfold L2.lenM at d
 by_cases h:xs.length<=1000000
 ·rw[if_pos h] at d;exact⟨h,d⟩
 ·rw[if_neg h] at d;exact d.elim
theorem Rr.assoc{α β γ:Type}{r:Rr α}{f:α->Rr β}{g:β->Rr γ}:(r.bind f).bind g=r.bind fun a=>(f a).bind g:=by cases r<;>rfl
section
variable {K:W.Frag}{B:Addr->Prop}{H0 H:Hp}{σ:St}{Γ:List Md}{ρ:List PV}{F:Nat->List Addr}{R:List Addr}{x:PV}{v:V}
theorem Ag.outF(A:Ag K B H0 H σ Γ ρ F R){i:Nat}(h:Γ.length<=i):F i=[]:=by
 have:=A.slot i
 rw[Zrf,Zr3 h] at this
 exact this
theorem Ag.push(A:Ag K B H0 H σ Γ ρ F R)(h:Rep K H (NO B F R) x v):Ag K B H0 H (σ++[some v]) (Γ++[.S]) (ρ++[x]) F R:=by
 refine⟨A.same,A.own,A.young,A.youngR,A.live,A.liveR,A.disj,A.disjR,by simp[A.lenS],by simp[A.lenR],fun i=>?_⟩
 by_cases h1:i<Γ.length
 ·have:=A.slot i
  rw[Zrf,Zrf,Zrw h1,Zrw (by rw[A.lenR];exact h1),Zrw (by rw[A.lenS];exact h1),<- Zrf,<- Zrf]
  exact this
 ·by_cases h2:i=Γ.length
  ·subst h2
   rw[Zrf,Zrf,Zrs (Zrl _),Zrs (by rw[A.lenR];exact Zrl _),Zrs (by rw[A.lenS];exact Zrl _),A.lenR,A.lenS]
   simp only[Nat.sub_self,Zsy,Zsk]
   exact⟨A.outF (Zrl _),v,rfl,h⟩
  ·rw[Zrf,Zr3 (by simp;omega)]
   exact A.outF (by omega)
end
inductive RS where
 |next (ρ:List PV)|ret (x:PV)|brk (ρ:List PV)|cont (ρ:List PV)|exc (e:PX)|bad
noncomputable def Rr.thenS{α:Type}:Rr α->(α->RS)->RS
 |.ok a,f=>f a
 |.exc e,_=>.exc e
 |.bad,_=>.bad
noncomputable def RS.seq:RS->(List PV->RS)->RS
 |.next ρ,f=>f ρ
 |r,_=>r
@[simp] theorem Rr.thenS_ok{α:Type}{a:α}{f:α->RS}:(Rr.ok a).thenS f=f a:=rfl
@[simp] theorem RS.seq_next{ρ:List PV}{f:List PV->RS}:(RS.next ρ).seq f=f ρ:=rfl
@[simp] theorem RS.seq_ret{x:PV}{f:List PV->RS}:(RS.ret x).seq f=.ret x:=rfl
structure Tys where
 n:List Md
 b:List Md
 c:List Md
 r:Kd
def DnS(K:W.Frag)(B:Addr->Prop)(EX:PX->Hp->Prop)(Y:Tys)(H0 H:Hp)(F:Nat->List Addr)(D:Zhu)(r:RS):Prop:=match r with
 |.next ρ=>∀σ' H' F',Frm H F H' F'->Ag K B H0 H' σ' Y.n ρ F' []->D.nx σ' H'
 |.brk ρ=>∀σ' H' F',Frm H F H' F'->Ag K B H0 H' σ' Y.b ρ F' []->D.bk σ' H'
 |.cont ρ=>∀σ' H' F',Frm H F H' F'->Ag K B H0 H' σ' Y.c ρ F' []->D.ct σ' H'
 |.ret x=>∀v H',Z2 H0 H'->Zic K B H0 Y.r x v H'->D.rt v H'
 |.exc e=>∀H',Z2 H0 H'->EX e H'
 |.bad=>False
def DS(K:W.Frag)(EX:PX->Hp->Prop)(Γ:List Md)(Y:Tys)(t:TS)(g:List PV->RS):Prop:=
 ∀(B:Addr->Prop) (H0 H:Hp) (σ:St) (ρ:List PV) (F:Nat->List Addr) (D:Zhu),Ag K B H0 H σ Γ ρ F []->DnS K B EX Y H0 H F D (g ρ)->t D σ H
section
variable {K:W.Frag}{B:Addr->Prop}{EX:PX->Hp->Prop}{H0 H H':Hp}{σ:St}{Γ Γ' Γ1 Γ2 Γ3:List Md}{ρ:List PV}{F F':Nat->List Addr}{R:List Addr}{k:Kd}{x:PV}{v:V}{te:TE}{f fc:List PV->Rr PV}{t u:TS}{g g':List PV->RS}{Y:Tys}{D:Zhu}
theorem DnS.shift{H1:Hp}{F1:Nat->List Addr}{r:RS}(fr:Frm H F H1 F1)(h:DnS K B EX Y H0 H F D r):DnS K B EX Y H0 H1 F1 D r:=by
 cases r with
 |next ρ=>exact fun σ' H' F' fr' A=>h σ' H' F' (fr.trans fr') A
 |brk ρ=>exact fun σ' H' F' fr' A=>h σ' H' F' (fr.trans fr') A
 |cont ρ=>exact fun σ' H' F' fr' A=>h σ' H' F' (fr.trans fr') A
 |ret x=>exact h
 |exc e=>exact h
 |bad=>exact h
theorem DnS.thenS{α:Type}{r:Rr α}{f:α->RS}(h:DnS K B EX Y H0 H F D (r.thenS f)):Dn r (fun a=>DnS K B EX Y H0 H F D (f a)) (fun e=>∀H',Z2 H0 H'->EX e H'):=by
 cases r with
 |ok a=>exact h
 |exc e=>exact h
 |bad=>exact h
theorem ZN:DS K EX Γ ⟨Γ,Γ1,Γ2,k⟩ ZjG (fun ρ=>.next ρ):=fun B H0 H σ ρ F D A d=>d σ H F Frm.refl A
theorem Zn{Γm:List Md}(h1:DS K EX Γ ⟨Γm,Y.b,Y.c,Y.r⟩ t g)(h2:DS K EX Γm Y u g'):DS K EX Γ Y (Zmg t u) (fun ρ=>(g ρ).seq g'):=fun B H0 H σ ρ F D A d=>by
 refine h1 B H0 H σ ρ F _ A ?_
 dsimp only at d
 cases e:g ρ with
 |next ρ1 =>
  rw[e] at d
  exact fun σ' H' F' fr A'=>h2 B H0 H' σ' ρ1 F' D A' (DnS.shift fr d)
 |brk ρ1=>rw[e] at d;exact d
 |cont ρ1=>rw[e] at d;exact d
 |ret x=>rw[e] at d;exact d
 |exc q=>rw[e] at d;exact d
 |bad=>rw[e] at d;exact d
noncomputable def mle(m m':Md):Bool:=m==m' || m'==.U || (m'==.S&&m != .U) || (m'==.O&&m==.P)
noncomputable def ZhH:List Md->List Md->Bool
 |[],[]=>true
 |m::ms,m'::ms'=>mle m m'&&ZhH ms ms'
 |_,_=>false
theorem Zda:∀{Γ Γ':List Md},ZhH Γ Γ'=true->Γ.length=Γ'.length/\∀i,mle (Γ.getD i .U) (Γ'.getD i .U)=true
 |[],[],_=>⟨rfl,fun i=>by simp[mle]⟩
 |m::ms,m'::ms',h=>by
  simp only[ZhH,Bool.and_eq_true] at h
  obtain⟨h1,h2⟩:=Zda h.2
  refine⟨by simp[h1],fun i=>?_⟩
  cases i with
  |zero=>simpa using h.1
  |succ i=>simpa using h2 i
 |[],_::_,h=>by cases h
 |_::_,[],h=>by cases h
theorem Ag.weak(A:Ag K B H0 H σ Γ ρ F R)(h:ZhH Γ Γ'=true):∃F',(∀i,∀a∈F' i,a∈F i)/\Ag K B H0 H σ Γ' ρ F' R:=by
 obtain⟨hl,hm⟩:=Zda h
 let F':Nat->List Addr:=fun i=>if Γ.getD i .U=Γ'.getD i .U then F i else []
 have hF:∀i,∀a∈F' i,a∈F i:=fun i a ha=>by
  by_cases q:Γ.getD i .U=Γ'.getD i .U
  ·simp only[F',if_pos q] at ha;exact ha
  ·simp only[F',if_neg q] at ha;simp at ha
 have up:∀{a},NO B F R a->NO B F' R a:=fun {a} s=>⟨s.1,s.2.1,fun j z=>s.2.2 j (hF j a z)⟩
 refine⟨F',hF,A.same,A.own,fun i a ha=>A.young i a (hF i a ha),A.youngR,fun i a ha=>A.live i a (hF i a ha),A.liveR,fun i j hij a ha z=>A.disj i j hij a (hF i a ha) (hF j a z),fun i a ha=>A.disjR i a (hF i a ha),by rw[A.lenS,hl],by rw[A.lenR,hl],fun i=>?_⟩
 have sl:=A.slot i
 have hmi:=hm i
 by_cases q:Γ.getD i .U=Γ'.getD i .U
 ·simp only[F',if_pos q]
  rw[<- q]
  exact sl.mono (fun a vs s r=>⟨r,up s⟩) (fun a vs r=>r) fun a ha vs r=>r
 ·simp only[F',if_neg q]
  simp only[mle,Bool.or_eq_true,beq_iff_eq,Bool.and_eq_true,bne_iff_ne] at hmi
  rcases hmi with ((z|z)|z)|z
  ·exact absurd z q
  ·rw[z];exact rfl
  rotate_left
  ·rw[z.1]
   rw[z.2] at sl
   obtain⟨e,v,h1,h2,h3⟩:=sl
   exact⟨v,h1,h3.tree h2⟩
  ·rw[z.1]
   have own:∀a∈F i,NO B F' R a:=fun a ha=>⟨A.own a (A.young i a ha),A.disjR i a ha,fun j w=>by
    by_cases hj:j=i
    ·subst hj;simp only[F',if_neg q] at w;simp at w
    ·exact A.disj j i hj a (hF j a w) ha⟩
   cases hmm:Γ.getD i .U with
   |U=>exact absurd hmm z.2
   |P=>rw[hmm] at sl;obtain⟨e,v,h1,h2,h3⟩:=sl;exact⟨rfl,v,h1,h3.flatS h2⟩
   |S=>rw[hmm] at sl;obtain⟨e,v,h1,h2⟩:=sl;exact⟨rfl,v,h1,Rep.mono (fun a vs s r=>⟨r,up s⟩) (fun a vs r=>r) h2⟩
   |T =>
    rw[hmm] at sl
    obtain⟨a,vs,xs,h1,h2,h3,h4,h5⟩:=sl
    refine⟨rfl,_,h1, ?_⟩
    rw[h2]
    exact⟨a,vs,rfl,.inl ⟨.inl h3,own a (by rw[h5];simp)⟩,Reps.mono (fun a vs s r=>⟨r,up s⟩) (fun a vs r=>r) h4⟩
   |O=>rw[hmm] at sl;obtain⟨v,h1,h2⟩:=sl;exact⟨rfl,v,h1,h2.rep own⟩
theorem DS.out{Y':Tys}(h:DS K EX Γ Y t g)(hn:ZhH Y.n Y'.n=true)(hb:ZhH Y.b Y'.b=true)(hc:ZhH Y.c Y'.c=true)(hr:Y.r=Y'.r):DS K EX Γ Y' t g:=fun B H0 H σ ρ F D A d=>by
 refine h B H0 H σ ρ F D A ?_
 cases e:g ρ with
 |next ρ1=>rw[e] at d;exact fun σ' H' F' fr A'=>let ⟨F2,f2,A2⟩:=A'.weak hn;d σ' H' F2 (fr.trans (Frm.of (Z2.refl _) f2)) A2
 |brk ρ1=>rw[e] at d;exact fun σ' H' F' fr A'=>let ⟨F2,f2,A2⟩:=A'.weak hb;d σ' H' F2 (fr.trans (Frm.of (Z2.refl _) f2)) A2
 |cont ρ1=>rw[e] at d;exact fun σ' H' F' fr A'=>let ⟨F2,f2,A2⟩:=A'.weak hc;d σ' H' F2 (fr.trans (Frm.of (Z2.refl _) f2)) A2
 |ret x=>rw[e] at d;exact fun v H' s r=>d v H' s (hr▸r)
 |exc q=>rw[e] at d;exact d
 |bad=>rw[e] at d;exact d
theorem Zca{H1:Hp}{F1:Nat->List Addr}{i:Nat}{G:List Addr}(s1:Z2 H H1)(f1:∀i,∀a∈F1 i,a∈F i)(o:∀a∈G,H a=none\/∃i,a∈F i):Frm H F H1 (Ud F1 i G):=fun a u h n=>by
 refine⟨s1 a u h,fun j z=>?_⟩
 by_cases q:j=i
 ·subst q
  rw[Zt] at z
  rcases o a z with w|⟨l,w⟩
  ·rw[h] at w;cases w
  ·exact n l w
 ·rw[Z0 q] at z;exact n j (f1 j a z)
theorem ZS{i:Nat}(he:DE K EX Γ Γ' .P te f)(hi:i<Γ'.length):DS K EX Γ ⟨Γ'.set i .P,Γ1,Γ2,k⟩ (Zin te (Qr i)) (fun ρ=>(f ρ).thenS fun x=>.next (ρ.set i x)):=fun B H0 H σ ρ F D A d=>by
 refine he B H0 H σ ρ F [] _ A (d.thenS.imp (fun x _ d v H1 s1 r1=>?_) fun e q=>q)
 obtain⟨F1,f1,h1,h2,A1⟩:=r1
 exact d _ H1 _ (Zca (G:=[]) s1 f1 (by simp)) (Ag.put (G:=[]) (R:=[]) A1 hi (by simp) ⟨rfl,v,rfl,h1,h2⟩)
theorem ZG{i:Nat}(he:DE K EX Γ Γ' .F te f)(hi:i<Γ'.length):DS K EX Γ ⟨Γ'.set i .O,Γ1,Γ2,k⟩ (Zin te (Qr i)) (fun ρ=>(f ρ).thenS fun x=>.next (ρ.set i x)):=fun B H0 H σ ρ F D A d=>by
 refine he B H0 H σ ρ F [] _ A (d.thenS.imp (fun x _ d v H1 s1 r1=>?_) fun e q=>q)
 obtain⟨F1,f1,G,h1,h2,A1⟩:=r1
 exact d _ H1 _ (Zca s1 f1 fun a ha=>(h2 a ha).2) (Ag.put (R:=[]) A1 hi (by simp) ⟨v,rfl,h1⟩)
theorem JE(he:DE K EX Γ Γ' .A te f):DS K EX Γ ⟨Γ',Γ1,Γ2,k⟩ (ZfQ te) (fun ρ=>(f ρ).thenS fun _=>.next ρ):=fun B H0 H σ ρ F D A d=>by
 refine he B H0 H σ ρ F [] _ A (d.thenS.imp (fun x _ d v H1 s1 r1=>?_) fun e q=>q)
 obtain⟨F1,f1,h1,A1⟩:=r1
 exact d σ H1 F1 (Frm.of s1 f1) A1
theorem ZC(he:DE K EX Γ Γ' .P te f):DS K EX Γ ⟨Γ3,Γ1,Γ2,.P⟩ (Zln te) (fun ρ=>(f ρ).thenS fun x=>.ret x):=fun B H0 H σ ρ F D A d=>by
 refine he B H0 H σ ρ F [] _ A (d.thenS.imp (fun x _ d v H1 s1 r1=>?_) fun e q=>q)
 obtain⟨F1,f1,h1,h2,A1⟩:=r1
 exact d v H1 A1.same ⟨h1,h2⟩
theorem Jm(he:DE K EX Γ Γ' .F te f):DS K EX Γ ⟨Γ3,Γ1,Γ2,.F⟩ (Zln te) (fun ρ=>(f ρ).thenS fun x=>.ret x):=fun B H0 H σ ρ F D A d=>by
 refine he B H0 H σ ρ F [] _ A (d.thenS.imp (fun x _ d v H1 s1 r1=>?_) fun e q=>q)
 obtain⟨F1,f1,G,h1,h2,A1⟩:=r1
 exact d v H1 A1.same ⟨G,h1,fun a ha=>A1.youngR a (by simpa using ha)⟩
theorem JI{c:TT}{fc:List PV->Rr Bool}(hc:DT K EX Γ Γ' c fc)(h1:DS K EX Γ' Y t g)(h2:DS K EX Γ' Y u g'):DS K EX Γ Y (Zmj c t u) (fun ρ=>(fc ρ).thenS fun b=>if b=true then g ρ else g' ρ):=fun B H0 H σ ρ F D A d=>by
 refine hc B H0 H σ ρ F [] _ A (d.thenS.imp (fun b _ d H1 F1 s1 f1 A1=>?_) fun e q=>q)
 cases b with
 |true=>exact h1 B H0 H1 σ ρ F1 D A1 (DnS.shift (Frm.of s1 f1) d)
 |false=>exact h2 B H0 H1 σ ρ F1 D A1 (DnS.shift (Frm.of s1 f1) d)
theorem Uq:DS K EX Γ Y Zhz (fun _=>.bad):=fun B H0 H σ ρ F D A d=>d
theorem Zfl{i:Nat}{h:Int->Int->Int}(hm:Γ[i]?=some .P)(he:DE K EX Γ Γ .A te f):DS K EX Γ ⟨Γ,Γ1,Γ2,k⟩ (Zml i te (ipI h)) (fun ρ=>(f ρ).thenS fun y=>(oI (fun _ _=>true) (fun i j=>.int (h i j)) (gv i ρ) y).thenS fun z=>.next (ρ.set i z)):=fun B H0 H σ ρ F D A d=>by
 obtain⟨v,h1,h2,h3⟩:=A.getP hm
 refine⟨v,h1,he B H0 H σ ρ F [] _ A (d.thenS.imp (fun y _ d w H1 s1 r1=>?_) fun e q=>q)⟩
 obtain⟨F1,f1,p1,A1⟩:=r1
 have h3':=h3.same s1
 change Rep K H1 _ (gv i ρ) v at h3'
 generalize gv i ρ=gx at h3' d
 cases gx<;>cases y<;>first|(exact d.elim;done)|skip
 rename_i p q _
 cases h3';cases p1
 refine⟨p,q,rfl,rfl,d _ H1 _ (Zca (i:=i) (G:=[]) s1 f1 (by simp)) ?_⟩
 have:=Ag.put (i:=i) (m:=.P) (x:=.int (h p q)) (v:=.int (h p q)) (G:=[]) (R:=[]) A1 (A.lt hm) (by simp) ⟨rfl,_,rfl,rfl,rfl⟩
 have e:Γ.set i .P=Γ:=by
  apply ZrX
  intro j
  by_cases q:i=j
  ·subst q;rw[ZrC (A.lt hm),hm]
  ·rw[ZrJ q]
 rw[e] at this
 exact this
variable {ti:TE}{fi:List PV->Rr PV}
theorem ZfW{i:Nat}{m:Md}(h:Γ[i]?=some m):Γ.set i m=Γ:=by
 apply ZrX
 intro j
 by_cases q:i=j
 ·subst q;rw[ZrC (Zrg.mp h).1,h]
 ·rw[ZrJ q]
theorem Ag.chgB{i:Nat}{m:Md}{a:Addr}{o':HO}(ho:Lvo o'){x':PV}{G G':List Addr}(A:Ag K B H0 H σ Γ ρ F (G++R))(hm:Γ[i]?=some m)(ha:a∈F i)(hG:∀b∈G',b∈F i\/b∈G)(hGR:∀b∈G,b ∉ R)(hs:Uv K (upd H a o') (NO B (Ud F i G') R) m x' σ[i]? G'):Ag K B H0 (upd H a o') σ Γ (ρ.set i x') (Ud F i G') R:=by
 obtain⟨us,hH⟩:=A.live i a ha
 have hi:=A.lt hm
 have liveU:∀b,(∃us:LvO,H b=some us.1)->∃us:LvO,upd H a o' b=some us.1:=fun b ⟨us,q⟩=>by
  by_cases e:b=a
  ·exact⟨⟨o',ho⟩,by rw[e,Zv]⟩
  ·exact⟨us,by rw[Zp e];exact q⟩
 refine⟨A.same.upd (A.young i a ha),A.own,fun j b hb=>?_,fun b hb=>A.youngR b (Zrk _ hb),fun j b hb=>liveU b ?_,fun b hb=>liveU b (A.liveR b (Zrk _ hb)),fun j l hjl b hb z=>?_,fun j b hb z=>?_,A.lenS,by simp[A.lenR],fun j=>?_⟩
 ·by_cases q:j=i
  ·subst q;rw[Zt] at hb
   rcases hG b hb with z|z
   ·exact A.young j b z
   ·exact A.youngR b (Zrp _ z)
  ·rw[Z0 q] at hb;exact A.young j b hb
 ·by_cases q:j=i
  ·subst q;rw[Zt] at hb
   rcases hG b hb with z|z
   ·exact A.live j b z
   ·exact A.liveR b (Zrp _ z)
  ·rw[Z0 q] at hb;exact A.live j b hb
 ·by_cases q:j=i
  ·subst q
   rw[Zt] at hb
   rw[Z0 (Ne.symm hjl)] at z
   rcases hG b hb with w|w
   ·exact A.disj j l hjl b w z
   ·exact A.disjR l b z (Zrp _ w)
  ·rw[Z0 q] at hb
   by_cases q':l=i
   ·subst q'
    rw[Zt] at z
    rcases hG b z with w|w
    ·exact A.disj j l hjl b hb w
    ·exact A.disjR j b hb (Zrp _ w)
   ·rw[Z0 q'] at z;exact A.disj j l hjl b hb z
 ·by_cases q:j=i
  ·subst q;rw[Zt] at hb
   rcases hG b hb with w|w
   ·exact A.disjR j b w (Zrk _ z)
   ·exact hGR b w z
  ·rw[Z0 q] at hb;exact A.disjR j b hb (Zrk _ z)
 ·by_cases q:j=i
  ·subst q
   rw[Zt,Zrf,Zrf,hm,ZrC (by rw[A.lenR];exact hi)]
   exact hs
  ·rw[Z0 q,Zrf (l:=ρ.set _ _),ZrJ (Ne.symm q),<- Zrf]
   refine(A.slot j).mono (fun b us s r=>?_) (fun b us r=>Im.putL hH r) fun b hb us r=>?_
   ·have hne:b≠a:=fun z=>s.2.2 i (z▸ha)
    refine⟨?_,s.1,fun z=>s.2.1 (Zrk _ z),fun l z=>?_⟩
    ·rcases r with r|⟨o,r⟩
     ·exact .inl (by rw[Zp hne];exact r)
     ·exact .inr ⟨o,by rw[Zp hne];exact r⟩
    ·by_cases q':l=i
     ·subst q';rw[Zt] at z
      rcases hG b z with w|w
      ·exact s.2.2 l w
      ·exact s.2.1 (Zrp _ w)
     ·rw[Z0 q'] at z;exact s.2.2 l z
   ·have hne:b≠a:=fun z=>A.disj j i q b hb (z▸ha)
    rw[Zp hne];exact r
theorem Ag.chg{i:Nat}{m:Md}{a:Addr}{vs':List V}{x':PV}{G G':List Addr}(A:Ag K B H0 H σ Γ ρ F (G++R))(hm:Γ[i]?=some m)(ha:a∈F i)(hG:∀b∈G',b∈F i\/b∈G)(hGR:∀b∈G,b ∉ R)(hs:Uv K (upd H a (.lst vs')) (NO B (Ud F i G') R) m x' σ[i]? G'):Ag K B H0 (upd H a (.lst vs')) σ Γ (ρ.set i x') (Ud F i G') R:=Ag.chgB (o':=.lst vs') trivial A hm ha hG hGR hs
theorem Zav{H1:Hp}{F1:Nat->List Addr}{i:Nat}{a:Addr}{o:HO}{G':List Addr}(s1:Z2 H H1)(f1:∀i,∀b∈F1 i,b∈F i)(ha:a∈F1 i)(hG:∀b∈G',H b=none\/∃j,b∈F j):Frm H F (upd H1 a o) (Ud F1 i G'):=fun b u h n=>by
 have hne:b≠a:=fun z=>n i (f1 i b (z▸ha))
 refine⟨by rw[Zp hne];exact s1 b u h,fun j z=>?_⟩
 by_cases q:j=i
 ·subst q;rw[Zt] at z
  rcases hG b z with w|⟨l,w⟩
  ·rw[h] at w;cases w
  ·exact n l w
 ·rw[Z0 q] at z;exact n j (f1 j b z)
theorem Trees.setP:∀{xs:List PV}{vs:List V}{G:List Addr}{j:Nat}{y:PV}{w:V},Trees K H xs vs G->Jg K H y w []->∃G',(∀a∈G',a∈G)/\Trees K H (xs.set j y) (vs.set j w) G'
 |[],_,_,_,_,_,h,_=>⟨[],by simp,by rw[h.1];exact⟨rfl,rfl⟩⟩
 |x::xs,_,_,0,y,w,h,h'=>by
  obtain⟨v,r,G1,G2,rfl,h1,h2,h3,rfl⟩:=h
  exact⟨G2,fun a ha=>by simp[ha],w,r,[],G2,rfl,h',h2,by simp,rfl⟩
 |x::xs,_,_,j+1,y,w,h,h'=>by
  obtain⟨v,r,G1,G2,rfl,h1,h2,h3,rfl⟩:=h
  obtain⟨G',h4,h5⟩:=Trees.setP (j:=j) h2 h'
  refine⟨G1++G',fun a ha=>?_,v,r.set j w,G1,G',rfl,h1,h5,fun a ha z=>h3 a ha (h4 a z),rfl⟩
  rcases Zro.mp ha with z|z
  ·simp[z]
  ·simp[h4 a z]
noncomputable def pSet(x i y:PV):Rr PV:=match x,i with
 |.lst xs,.int j=>match ixN xs.length j with
  |some n=>.ok (.lst (xs.set n y))
  |none=>.bad
 |_,_=>.bad
theorem Dn.pSet{x i y:PV}{ok:PV->Prop}{ex:PX->Prop}(d:Dn (pSet x i y) ok ex):∃xs j n,x=.lst xs/\i=.int j/\ixN xs.length j=some n/\ok (.lst (xs.set n y)):=by
 unfold L2.pSet at d
 split at d
 ·rename_i xs j
  cases e:ixN xs.length j with
  |none=>rw[e] at d;exact d.elim
  |some n=>rw[e] at d;exact⟨xs,j,n,rfl,rfl,e,d⟩
 ·exact d.elim
theorem Qx{i:Nat}(hm:Γ2[i]?=some .O)(he:DE K EX Γ Γ2 .P te f)(hi:DE K EX Γ2 Γ2 .A ti fi) :
  DS K EX Γ ⟨Γ2,Γ1,Γ3,k⟩ (Zin te (Zmx (ZaI i) ti Ziw)) (fun ρ=>(f ρ).thenS fun y=>(fi ρ).thenS fun j=>(pSet (gv i ρ) j y).thenS fun z=>.next (ρ.set i z)):=fun B H0 H σ ρ F D A d=>by
 refine he B H0 H σ ρ F [] _ A (d.thenS.imp (fun y _ d w H1 s1 r1=>?_) fun e q=>q)
 obtain⟨F1,f1,y1,y2,A1⟩:=r1
 obtain⟨v,h1,h2⟩:=A1.getO hm
 refine⟨v,h1,hi B H0 H1 σ ρ F1 [] _ A1 (d.thenS.imp (fun j _ d jv H2 s2 r2=>?_) fun e q=>q)⟩
 obtain⟨F2,f2,p2,A2⟩:=r2
 obtain⟨xs,jj,n,e1,rfl,e2,d⟩:=Dn.pSet d.thenS
 obtain⟨v',h1',h2'⟩:=A2.getO hm
 rw[h1] at h1';cases h1'
 rw[show ρ.getD i .non=.lst xs from e1] at h2'
 obtain⟨a,vs,G,rfl,hH,ht,hn,hF⟩:=h2'
 cases p2
 refine⟨a,vs,jj,n,rfl,rfl,hH,by rw[ht.length];exact e2, ?_⟩
 obtain⟨G',g1,g2⟩:=Trees.setP (j:=n) ht ((y2.same s2).tree y1)
 have haF:a∈F2 i:=by rw[hF];simp
 have hsub:∀b∈a::G',b∈F2 i:=fun b hb=>by
  rw[hF]
  rcases Zrt.mp hb with rfl|hb
  ·simp
  ·simp[g1 b hb]
 refine d σ _ (Ud F2 i (a::G')) (Zav (s1.trans s2) (fun j b hb=>f1 j b (f2 j b hb)) haF fun b hb=>.inr ⟨i,f1 i b (f2 i b (hsub b hb))⟩) (Ag.chg (G:=[]) A2 hm haF (fun b hb=>.inl (hsub b hb)) (by simp) ?_)
 exact⟨_,h1,a,_,G',rfl,Zv,g2.put hH (fun z=>hn (g1 a z)),fun z=>hn (g1 a z),rfl⟩
noncomputable def pApp(x y:PV):Rr PV:=match x with
 |.lst xs=>if xs.length<1000000 then .ok (.lst (xs++[y])) else .bad
 |_=>.bad
theorem Dn.pApp{x y:PV}{ok:PV->Prop}{ex:PX->Prop}(d:Dn (pApp x y) ok ex):∃xs,x=.lst xs/\xs.length<1000000/\ok (.lst (xs++[y])):=by
 unfold L2.pApp at d
 split at d
 ·rename_i xs
  by_cases h:xs.length<1000000
  ·rw[if_pos h] at d;exact⟨xs,rfl,h,d⟩
  ·rw[if_neg h] at d;exact d.elim
 ·exact d.elim
theorem Dn.asL{x:PV}{ok:List PV->Prop}{ex:PX->Prop}(d:Dn (asL x) ok ex):∃xs,x=.lst xs/\ok xs:=by
 cases x with
 |lst xs=>exact⟨xs,rfl,d⟩
 |_=>exact d.elim
theorem Zfm{i:Nat}(hm:Γ[i]?=some .O)(hm2:Γ2[i]?=some .O)(he:DE K EX Γ Γ2 .F te f) :
  DS K EX Γ ⟨Γ2,Γ1,Γ3,k⟩ (ZfQ (tBM K "list" Zeo (ZaI i) (U0 te ZdY))) (fun ρ=>(asL (gv i ρ)).thenS fun xs=>(f ρ).thenS fun y=>(pApp (.lst xs) y).thenS fun z=>.next (ρ.set i z)):=fun B H0 H σ ρ F D A d=>by
 obtain⟨v,h1,h2⟩:=A.getO hm
 refine⟨v,h1, ?_⟩
 obtain⟨xs,e1,d⟩:=Dn.asL d.thenS
 rw[show ρ.getD i .non=.lst xs from e1] at h2
 obtain⟨a,vs,G,rfl,hH,ht,hn,hF⟩:=h2
 refine⟨.inl ⟨rfl,_,SqL.of hH⟩,he B H0 H σ ρ F [] _ A (d.thenS.imp (fun y _ d w H2 s2 r2=>?_) fun e q=>q)⟩
 obtain⟨F2,f2,G2,y1,y2,A2⟩:=r2
 obtain⟨xs',e2,hlen,d⟩:=Dn.pApp d.thenS
 cases e2
 obtain⟨v',h1',h2'⟩:=A2.getO hm2
 rw[h1] at h1';cases h1'
 rw[show ρ.getD i .non=.lst xs from e1] at h2'
 obtain⟨a',vs',G',e,hH',ht',hn',hF'⟩:=h2'
 cases e
 refine⟨a,vs',w,rfl,rfl,hH',by rw[ht'.length];exact Zr0 hlen (by decide), ?_⟩
 have haF:a∈F2 i:=by rw[hF'];simp
 have dj:∀b∈G',b ∉ G2:=fun b hb z=>A2.disjR i b (by rw[hF'];simp[hb]) (Zrp _ z)
 have na:a ∉ G2:=fun z=>A2.disjR i a haF (Zrp _ z)
 have hsub:∀b∈a::(G'++G2),b∈F2 i\/b∈G2:=fun b hb=>by
  rw[hF']
  rcases Zrt.mp hb with rfl|hb
  ·simp
  ·rcases Zro.mp hb with z|z
   ·simp[z]
   ·exact .inr z
 have hna:a ∉ G'++G2:=fun z=>(Zro.mp z).elim hn' na
 refine d σ _ (Ud F2 i (a::(G'++G2))) (Zav s2 f2 haF fun b hb=>?_) (Ag.chg (G:=G2) (R:=[]) A2 hm2 haF hsub (by simp) ?_)
 ·rcases hsub b hb with z|z
  ·exact .inr ⟨i,f2 i b z⟩
  ·exact(y2 b z).2
 ·exact⟨_,h1,a,_,G'++G2,rfl,Zv,(Trees.append ht' (Trees.one y1) dj).put hH' hna,hna,rfl⟩
def DG(K:W.Frag)(EX:PX->Hp->Prop)(Γ Γ':List Md)(g:TG)(h:PV->List PV->Rr (List PV)):Prop:=
 ∀(B:Addr->Prop) (H0 H:Hp) (σ:St) (ρ:List PV) (F:Nat->List Addr) (v:V) (x:PV) (N:St->Hp->Prop),Ag K B H0 H σ Γ ρ F []->Rep K H (NO B F []) x v ->
  Dn (h x ρ) (fun ρ'=>∀σ' F',(∀i,∀a∈F' i,a∈F i)->Ag K B H0 H σ' Γ' ρ' F' []->N σ' H) (fun e=>∀H',Z2 H0 H'->EX e H')->g v σ H N
theorem ZfJ{i:Nat}(hi:i<Γ.length):DG K EX Γ (Γ.set i .P) (Qr i) (fun x ρ=>(grd x).bind fun x=>.ok (ρ.set i x)):=fun B H0 H σ ρ F v x N A r d=>by
 unfold grd at d;dsimp only at d
 by_cases h:x.flat=true
 ·rw[if_pos h] at d
  exact d _ (Ud F i []) ZcU (Ag.put (G:=[]) (R:=[]) A hi (by simp) ⟨rfl,v,rfl,h,r.any⟩)
 ·rw[if_neg h] at d;exact d.elim
noncomputable def Zmv(xs ρ:List PV):Rr (List PV):=match xs with
 |[]=>.ok ρ
 |_=>.bad
noncomputable def hdR(h:PV->List PV->Rr (List PV))(hs:List PV->List PV->Rr (List PV))(xs:List PV)(ρ:List PV):Rr (List PV):=match xs with
 |x::r=>(h x ρ).bind fun ρ'=>hs r ρ'
 |[]=>.bad
noncomputable def asT(n:Nat)(x:PV):Rr (List PV):=match x with
 |.tup xs=>if xs.length=n then .ok xs else .bad
 |_=>.bad
theorem Dn.asT{n:Nat}{x:PV}{ok:List PV->Prop}{ex:PX->Prop}(d:Dn (asT n x) ok ex):∃xs,x=.tup xs/\xs.length=n/\ok xs:=by
 cases x with
 |tup xs =>
  unfold L2.asT at d
  by_cases h:xs.length=n
  ·simp only[if_pos h] at d;exact⟨xs,rfl,h,d⟩
  ·simp only[if_neg h] at d;exact d.elim
 |_=>exact d.elim
def DGF(K:W.Frag)(EX:PX->Hp->Prop)(Γ Γ':List Md)(g:TG)(h:PV->List PV->Rr (List PV)):Prop:=
 ∀(B:Addr->Prop) (H0 H:Hp) (σ:St) (ρ:List PV) (F:Nat->List Addr) (G R:List Addr) (v:V) (x:PV) (N:St->Hp->Prop),Ag K B H0 H σ Γ ρ F (G++R)->(∀a∈G,a ∉ R)->Jg K H x v G ->
  Dn (h x ρ) (fun ρ'=>∀σ' F',(∀i,∀a∈F' i,a∈F i\/a∈G)->Ag K B H0 H σ' Γ' ρ' F' R->N σ' H) (fun e=>∀H',Z2 H0 H'->EX e H')->g v σ H N
def Zly(K:W.Frag)(EX:PX->Hp->Prop)(Γ Γ':List Md)(g:TGs)(h:List PV->List PV->Rr (List PV)):Prop:=
 ∀(B:Addr->Prop) (H0 H:Hp) (σ:St) (ρ:List PV) (F:Nat->List Addr) (G R:List Addr) (vs:List V) (xs:List PV) (N:St->Hp->Prop),Ag K B H0 H σ Γ ρ F (G++R)->(∀a∈G,a ∉ R)->Trees K H xs vs G ->
  Dn (h xs ρ) (fun ρ'=>∀σ' F',(∀i,∀a∈F' i,a∈F i\/a∈G)->Ag K B H0 H σ' Γ' ρ' F' R->N σ' H) (fun e=>∀H',Z2 H0 H'->EX e H')->g vs σ H N
theorem ZkX{i:Nat}(hi:i<Γ.length):DGF K EX Γ (Γ.set i .O) (Qr i) (fun x ρ=>.ok (ρ.set i x)):=fun B H0 H σ ρ F G R v x N A hG r d =>
 d _ (Ud F i G) (fun j a ha=>by
  by_cases q:j=i
  ·subst q;rw[Zt] at ha;exact .inr ha
  ·rw[Z0 q] at ha;exact .inl ha) (Ag.put A hi hG ⟨v,rfl,r⟩)
theorem ZgY:Zly K EX Γ Γ ZlQ Zmv:=fun B H0 H σ ρ F G R vs xs N A hG r d=>by
 cases xs with
 |nil=>exact⟨r.1,d σ F (fun _ _ h=>.inl h) (A.less fun a ha=>Zrk _ ha)⟩
 |cons x xs=>exact d.elim
theorem Zbn{g:TG}{gs:TGs}{h:PV->List PV->Rr (List PV)}{hs:List PV->List PV->Rr (List PV)}(h1:DGF K EX Γ Γ1 g h)(h2:Zly K EX Γ1 Γ2 gs hs):Zly K EX Γ Γ2 (ZgP g gs) (hdR h hs):=fun B H0 H σ ρ F G R vs xs N A hG r d=>by
 cases xs with
 |nil=>exact d.elim
 |cons x xs =>
  obtain⟨v,r',G1,G2,rfl,r1,r2,dj,rfl⟩:=r
  refine⟨v,r',rfl,h1 B H0 H σ ρ F G1 (G2++R) v x _ (by rw[<- Zrr];exact A) (fun a ha z=>?_) r1 ((show Dn ((h x ρ).bind fun ρ'=>hs xs ρ') _ _ from d).bind.imp (fun ρ' _ d σ' F' f' A'=>?_) fun e q=>q)⟩
  ·rcases Zro.mp z with z|z
   ·exact dj a ha z
   ·exact hG a (Zrp _ ha) z
  ·refine h2 B H0 H σ' ρ' F' G2 R r' xs _ A' (fun a ha=>hG a (Zrk _ ha)) r2 (d.imp (fun ρ2 _ d σ2 F2 f2 A2=>d σ2 F2 (fun j a ha=>?_) A2) fun e q=>q)
   rcases f2 j a ha with z|z
   ·rcases f' j a z with w|w
    ·exact .inl w
    ·exact .inr (Zrp _ w)
   ·exact .inr (Zrk _ z)
theorem Zjf{n:Nat}{gs:TGs}{hs:List PV->List PV->Rr (List PV)}(h2:Zly K EX Γ Γ2 gs hs):DGF K EX Γ Γ2 (ZlP K n gs) (fun x ρ=>(asT n x).bind fun xs=>hs xs ρ):=fun B H0 H σ ρ F G R v x N A hG r d=>by
 obtain⟨xs,rfl,hl,d⟩:=Dn.asT d.bind
 obtain⟨a,vs,rfl,hn,hr⟩:=r
 exact⟨a,vs,rfl,hn.sqT,by rw[hr.length];exact hl,h2 B H0 H σ ρ F G R vs xs N A hG hr d⟩
theorem Zjb{gt:TG}{h:PV->List PV->Rr (List PV)}(he:DE K EX Γ Γ1 .F te f)(hg:DGF K EX Γ1 Γ2 gt h):DS K EX Γ ⟨Γ2,Γ3,Γ',k⟩ (Zin te gt) (fun ρ=>(f ρ).thenS fun x=>(h x ρ).thenS fun ρ'=>.next ρ'):=fun B H0 H σ ρ F D A d=>by
 refine he B H0 H σ ρ F [] _ A (d.thenS.imp (fun x _ d v H1 s1 r1=>?_) fun e q=>q)
 obtain⟨F1,f1,G,h1,h2,A1⟩:=r1
 refine hg B H0 H1 σ ρ F1 G [] v x _ A1 (by simp) h1 (d.thenS.imp (fun ρ' _ d σ' F' f' A'=>d σ' H1 F' (fun a o ho n=>⟨s1 a o ho,fun j z=>?_⟩) A') fun e q=>q)
 rcases f' j a z with w|w
 ·exact n j (f1 j a w)
 ·rcases (h2 a w).2 with q|⟨l,q⟩
  ·rw[ho] at q;cases q
  ·exact n l q
end
noncomputable def RS.turn:RS->(List PV->RS)->RS
 |.next ρ,f=>f ρ
 |.cont ρ,f=>f ρ
 |.brk ρ,_=>.next ρ
 |r,_=>r
noncomputable def Qs(b:PV->List PV->RS):List PV->List PV->RS
 |[],ρ=>.next ρ
 |x::xs,ρ=>(b x ρ).turn (Qs b xs)
noncomputable def Vl(c:List PV->Rr Bool)(b:List PV->RS):Nat->List PV->Option RS
 |0,_=>none
 |n+1,ρ=>match c ρ with
  |.ok true=>match b ρ with
   |.next ρ'=>Vl c b n ρ'
   |.cont ρ'=>Vl c b n ρ'
   |.brk ρ'=>some (.next ρ')
   |r=>some r
  |.ok false=>some (.next ρ)
  |.exc e=>some (.exc e)
  |.bad=>some .bad
open Classical in
noncomputable def VC(c:List PV->Rr Bool)(b:List PV->RS)(ρ:List PV):RS:=if h:∃n r,Vl c b n ρ=some r then h.choose_spec.choose else .bad
theorem V6{c:List PV->Rr Bool}{b:List PV->RS}:∀{n m:Nat}{ρ:List PV}{r:RS},n<=m->Vl c b n ρ=some r->Vl c b m ρ=some r
 |0,_,_,_,_,h=>by cases h
 |n+1,0,_,_,hl,_=>by omega
 |n+1,m+1,ρ,r,hl,h=>by
  unfold Vl at h ⊢
  cases hc:c ρ with
  |ok b' =>
   cases b' with
   |true =>
    rw[hc] at h
    cases hb:b ρ with
    |next ρ'=>rw[hb] at h;exact V6 (by omega) h
    |cont ρ'=>rw[hb] at h;exact V6 (by omega) h
    |brk ρ'=>rw[hb] at h;exact h
    |ret x=>rw[hb] at h;exact h
    |exc e=>rw[hb] at h;exact h
    |bad=>rw[hb] at h;exact h
   |false=>rw[hc] at h;exact h
  |exc e=>rw[hc] at h;exact h
  |bad=>rw[hc] at h;exact h
theorem Zfc{c:List PV->Rr Bool}{b:List PV->RS}{n m:Nat}{ρ:List PV}{r r':RS}(h:Vl c b n ρ=some r)(h':Vl c b m ρ=some r'):r=r':=by
 rcases Nat.le_total n m with q|q
 ·have:=V6 q h;rw[h'] at this;exact(Option.some.inj this).symm
 ·have:=V6 q h';rw[h] at this;exact Option.some.inj this
theorem ZaD{c:List PV->Rr Bool}{b:List PV->RS}{n:Nat}{ρ:List PV}{r:RS}(h:Vl c b n ρ=some r):VC c b ρ=r:=by
 unfold VC
 have hx:∃n r,Vl c b n ρ=some r:=⟨n,r,h⟩
 rw[dif_pos hx]
 exact Zfc hx.choose_spec.choose_spec h
section
variable {K:W.Frag}{B:Addr->Prop}{EX:PX->Hp->Prop}{H0 H H':Hp}{σ:St}{Γ Γ1 Γ2 Γ3 Γl Γt:List Md}{ρ:List PV}{F F':Nat->List Addr}{k:Kd}{x:PV}{v:V}{te ti:TE}{f fc fe:List PV->Rr PV}{t u:TS}{g:List PV->RS}{D:Zhu}
theorem VH{wi:TI}{gt:TG}{fi:List PV->Rr (List PV)}{h:PV->List PV->Rr (List PV)}(hi:DI K EX Γ Γ1 wi fi)(hw:ZhH Γ1 Γl=true)(hg:DG K EX Γl Γt gt h)(hb:DS K EX Γt ⟨Γl,Γl,Γl,k⟩ t g) :
  DS K EX Γ ⟨Γl,Γ2,Γ3,k⟩ (Zmk wi gt t) (fun ρ=>(fi ρ).thenS fun xs=>Qs (fun x ρ=>(h x ρ).thenS g) xs ρ):=fun B H0 H σ ρ F D A d=>by
 refine hi B H0 H σ ρ F [] _ A (d.thenS.imp (fun xs _ d J H1 F1 s1 f1 A1 it=>?_) fun e q=>q)
 obtain⟨Fl,fl,Al⟩:=A1.weak hw
 have fr0:Frm H F H1 Fl:=Frm.of s1 fun j a ha=>f1 j a (fl j a ha)
 have fr1:Frm H1 F1 H1 Fl:=Frm.of (Z2.refl _) fl
 refine⟨fun i m σ' H'=>∃ρ' F',m=xs.length-i/\i<=xs.length/\Frm H1 F1 H' F'/\Ag K B H0 H' σ' Γl ρ' F' []/\DnS K B EX ⟨Γl,Γ2,Γ3,k⟩ H0 H' F' D (Qs (fun x ρ=>(h x ρ).thenS g) (xs.drop i) ρ'),
  ⟨xs.length,ρ,Fl,by simp,ZrI _,fr1,Al,by simpa using DnS.shift fr0 d⟩, ?_⟩
 rintro i m σ' H' ⟨ρ',F',rfl,hi',fr,A',dn⟩
 have itp:=it H' F' fr i
 cases hx:xs[i]? with
 |none =>
  refine .inl ⟨itp.2 hx, ?_⟩
  have hd:xs.drop i=[]:=ZsU (ZrU.mp hx)
  rw[hd] at dn
  exact dn σ' H' F' Frm.refl A'
 |some x =>
  have hlt:i<xs.length:=(Zrg.mp hx).1
  obtain⟨go,yl⟩:=itp.1 x hx
  have hdx:xs.drop i=x::xs.drop (i+1):=by
   rw[ZrH hlt]
   rw[Zri hlt] at hx;cases hx;rfl
  rw[hdx] at dn
  simp only[Qs] at dn
  refine .inr ⟨go,fun σ2 H2=>∃ρ2 F2,Frm H1 F1 H2 F2/\Ag K B H0 H2 σ2 Γl ρ2 F2 []/\DnS K B EX ⟨Γl,Γ2,Γ3,k⟩ H0 H2 F2 D (Qs (fun x ρ=>(h x ρ).thenS g) (xs.drop (i+1)) ρ2),
   fun σ2 H2 ⟨ρ2,F2,a1,a2,a3⟩=>⟨xs.length-(i+1),by omega,ρ2,F2,rfl,hlt,a1,a2,a3⟩,fun v H3 y=>?_⟩
  obtain⟨s3,rx⟩:=yl v H3 y
  have fr3:Frm H' F' H3 F':=Frm.of s3 fun _ _ h=>h
  refine hg B H0 H3 σ' ρ' F' v x _ (A'.grow s3) (Rep.mono (fun a us s r=>⟨r,s.1⟩) (fun a us r=>r) rx) ?_
  cases e:h x ρ' with
  |ok ρt =>
   rw[e] at dn
   refine fun σt Ft ft At=>hb B H0 H3 σt ρt Ft _ At ?_
   have frt:Frm H' F' H3 Ft:=Frm.of s3 ft
   simp only[Rr.thenS_ok] at dn
   cases e2:g ρt with
   |next ρ2=>rw[e2] at dn;exact fun σ2 H2 F2 fr2 A2=>⟨ρ2,F2,fr.trans (frt.trans fr2),A2,DnS.shift (frt.trans fr2) dn⟩
   |cont ρ2=>rw[e2] at dn;exact fun σ2 H2 F2 fr2 A2=>⟨ρ2,F2,fr.trans (frt.trans fr2),A2,DnS.shift (frt.trans fr2) dn⟩
   |brk ρ2=>rw[e2] at dn;exact fun σ2 H2 F2 fr2 A2=>dn σ2 H2 F2 (frt.trans fr2) A2
   |ret y=>rw[e2] at dn;exact dn
   |exc q=>rw[e2] at dn;exact dn
   |bad=>rw[e2] at dn;exact dn
  |exc q=>rw[e] at dn;exact dn
  |bad=>rw[e] at dn;exact dn
theorem Zaz{c:TT}{fc:List PV->Rr Bool}(hc:DT K EX Γ Γ c fc)(hb:DS K EX Γ ⟨Γ,Γ,Γ,k⟩ t g):DS K EX Γ ⟨Γ,Γ2,Γ3,k⟩ (Zhy c t) (fun ρ=>VC fc g ρ):=fun B H0 H σ ρ F D A d=>by
 dsimp only at d
 have ex:∃n,Vl fc g n ρ=some (VC fc g ρ):=by
  by_cases hx:∃n r,Vl fc g n ρ=some r
  ·obtain⟨n,r,e⟩:=hx
   exact⟨n,by rw[ZaD e];exact e⟩
  ·unfold VC at d
   rw[dif_neg hx] at d
   exact d.elim
 obtain⟨n0,e0⟩:=ex
 generalize hr:VC fc g ρ=r at e0 d
 refine⟨fun m σ' H'=>∃ρ' F',Frm H F H' F'/\Ag K B H0 H' σ' Γ ρ' F' []/\Vl fc g m ρ'=some r,⟨n0,ρ,F,Frm.refl,A,e0⟩, ?_⟩
 rintro m σ' H' ⟨ρ',F',fr,A',e⟩
 cases m with
 |zero=>cases e
 |succ m =>
  unfold Vl at e
  refine hc B H0 H' σ' ρ' F' [] _ A' ?_
  cases e1:fc ρ' with
  |ok b =>
   rw[e1] at e
   refine fun H2 F2 s2 f2 A2=>?_
   have fr2:Frm H' F' H2 F2:=Frm.of s2 f2
   cases b with
   |true =>
    refine⟨fun σ3 H3=>∃ρ3 F3,Frm H F H3 F3/\Ag K B H0 H3 σ3 Γ ρ3 F3 []/\Vl fc g m ρ3=some r,fun σ3 H3 h=>⟨m,Zta _,h⟩, ?_⟩
    refine hb B H0 H2 σ' ρ' F2 _ A2 ?_
    cases e2:g ρ' with
    |next ρ2=>rw[e2] at e;exact fun σ3 H3 F3 fr3 A3=>⟨ρ2,F3,fr.trans (fr2.trans fr3),A3,e⟩
    |cont ρ2=>rw[e2] at e;exact fun σ3 H3 F3 fr3 A3=>⟨ρ2,F3,fr.trans (fr2.trans fr3),A3,e⟩
    |brk ρ2 =>
     rw[e2] at e
     have e':RS.next ρ2=r:=Option.some.inj e
     rw[<- e'] at d
     exact fun σ3 H3 F3 fr3 A3=>d σ3 H3 F3 (fr.trans (fr2.trans fr3)) A3
    |ret y =>
     rw[e2] at e
     have e':RS.ret y=r:=Option.some.inj e
     rw[<- e'] at d
     exact d
    |exc q =>
     rw[e2] at e
     have e':RS.exc q=r:=Option.some.inj e
     rw[<- e'] at d
     exact d
    |bad =>
     rw[e2] at e
     have e':RS.bad=r:=Option.some.inj e
     rw[<- e'] at d
     exact d
   |false =>
    have e':RS.next ρ'=r:=Option.some.inj e
    rw[<- e'] at d
    exact d σ' H2 F2 (fr.trans fr2) A2
  |exc q =>
   rw[e1] at e
   have e':RS.exc q=r:=Option.some.inj e
   rw[<- e'] at d
   exact d
  |bad =>
   rw[e1] at e
   have e':RS.bad=r:=Option.some.inj e
   rw[<- e'] at d
   exact d
theorem Trees.get:∀{xs:List PV}{vs:List V}{G:List Addr}{j:Nat}{x:PV},Trees K H xs vs G->xs[j]?=some x->∃v G',vs[j]?=some v/\Jg K H x v G'/\∀a∈G',a∈G
 |[],_,_,_,_,_,e=>by simp at e
 |y::xs,_,_,0,x,h,e=>by
  obtain⟨v,r,G1,G2,rfl,h1,h2,h3,rfl⟩:=h
  simp at e;subst e
  exact⟨v,G1,rfl,h1,fun a ha=>by simp[ha]⟩
 |y::xs,_,_,j+1,x,h,e=>by
  obtain⟨v,r,G1,G2,rfl,h1,h2,h3,rfl⟩:=h
  obtain⟨w,G',e1,e2,e3⟩:=Trees.get (j:=j) h2 (by simpa using e)
  exact⟨w,G',by simpa using e1,e2,fun a ha=>by simp[e3 a ha]⟩
theorem ZfN{xs:List PV}{vs:List V}{G:List Addr}{i:Int}{z:PV}(h:Trees K H xs vs G)(e:atI xs i=some z):∃u G',atI vs i=some u/\Jg K H z u G'/\∀a∈G',a∈G:=by
 unfold atI at e ⊢
 rw[h.length]
 cases q:ixN xs.length i with
 |none=>rw[q] at e;cases e
 |some j=>rw[q] at e;exact h.get e
theorem Za0{i:Nat}{h:Int->Int->Int}(hm:Γ2[i]?=some .O)(hmΓ:Γ[i]?=some .O)(hi:DE K EX Γ Γ2 .A ti f)(he:DE K EX Γ2 Γ2 .A te fe) :
  DS K EX Γ ⟨Γ2,Γ1,Γ3,k⟩ (ZjL (ZaI i) ti te (ZjV K) (ipI h) Ziw) (fun ρ=>(f ρ).thenS fun j=>(pIx (gv i ρ) j).thenS fun z=>(asL (gv i ρ)).thenS fun _=>(fe ρ).thenS fun y=>(oI (fun _ _=>true) (fun a b=>.int (h a b)) z y).thenS fun w=>(pSet (gv i ρ) j w).thenS fun z=>.next (ρ.set i z)):=fun B H0 H σ ρ F D A d=>by
 obtain⟨v,h1,h2⟩:=A.getO hmΓ
 refine⟨v,h1,hi B H0 H σ ρ F [] _ A (d.thenS.imp (fun j _ d jv H1 s1 r1=>?_) fun e q=>q)⟩
 obtain⟨F1,f1,p1,A1⟩:=r1
 obtain⟨z,ez,d⟩:=Dn.pIx d.thenS
 obtain⟨xs,ex,d⟩:=Dn.asL d.thenS
 rw[ex] at ez
 obtain⟨v',h1',h2'⟩:=A1.getO hm
 rw[h1] at h1';cases h1'
 rw[show ρ.getD i .non=.lst xs from ex] at h2'
 obtain⟨a,vs,G,rfl,hH,ht,hn,hF⟩:=h2'
 obtain⟨j,rfl⟩:∃j',j=PV.int j':=by cases j<;>first|exact⟨_,rfl⟩|(simp only[pIx] at ez;cases ez;done)
 cases p1
 simp only[pIx] at ez
 cases e1:atI xs j with
 |none=>rw[e1] at ez;cases ez
 |some z' =>
  rw[e1] at ez;cases ez
  obtain⟨u,G2,e2,e3,e4⟩:=ZfN ht e1
  refine⟨a,vs,j,u,rfl,rfl,SqL.of hH,e2,he B H0 H1 σ ρ F1 [] _ A1 (d.thenS.imp (fun y _ d w H2 s2 r2=>?_) fun e q=>q)⟩
  obtain⟨F2,f2,p2,A2⟩:=r2
  obtain⟨zi,yi,rfl,rfl⟩:∃zi yi,z=PV.int zi/\y=PV.int yi:=by cases z<;>cases y<;>first|exact⟨_,_,rfl,rfl⟩|(exact d.elim;done)
  obtain⟨e5,_⟩:=e3
  subst e5
  cases p2
  refine⟨zi,yi,rfl,rfl, ?_⟩
  obtain⟨xs',jj,n,ex',e6,e7,d⟩:=Dn.pSet (show DnS _ _ _ _ _ _ _ _ ((pSet (gv i ρ) (.int j) (.int (h zi yi))).thenS _) from d).thenS
  cases e6
  rw[ex] at ex';cases ex'
  obtain⟨v',h1',h2'⟩:=A2.getO hm
  rw[h1] at h1';cases h1'
  rw[show ρ.getD i .non=.lst xs from ex] at h2'
  obtain⟨a',vs',G',e,hH',ht',hn',hF'⟩:=h2'
  cases e
  refine⟨a,vs',j,n,rfl,rfl,hH',by rw[ht'.length];exact e7, ?_⟩
  obtain⟨G'',g1,g2⟩:=Trees.setP (j:=n) (y:=.int (h zi yi)) (w:=.int (h zi yi)) ht' ⟨rfl,rfl⟩
  have haF:a∈F2 i:=by rw[hF'];simp
  have hsub:∀b∈a::G'',b∈F2 i:=fun b hb=>by
   rw[hF']
   rcases Zrt.mp hb with rfl|hb
   ·simp
   ·simp[g1 b hb]
  refine d σ _ (Ud F2 i (a::G'')) (Zav (s1.trans s2) (fun j b hb=>f1 j b (f2 j b hb)) haF fun b hb=>.inr ⟨i,f1 i b (f2 i b (hsub b hb))⟩) (Ag.chg (G:=[]) A2 hm haF (fun b hb=>.inl (hsub b hb)) (by simp) ?_)
  exact⟨_,h1,a,_,G'',rfl,Zv,g2.put hH' (fun z=>hn' (g1 a z)),fun z=>hn' (g1 a z),rfl⟩
end
noncomputable def RS.out:RS->Rr PV
 |.next _=>.ok .non
 |.ret x=>.ok x
 |.exc e=>.exc e
 |.brk _=>.bad
 |.cont _=>.bad
 |.bad=>.bad
@[simp] theorem RS.out_next{ρ:List PV}:(RS.next ρ).out=.ok .non:=rfl
@[simp] theorem RS.out_ret{x:PV}:(RS.ret x).out=.ok x:=rfl
def Ref(r r':Rr PV):Prop:=r=.bad\/r=r'
structure Pm where
 α:Type
 enc:α->List PV
 pre:α->Prop
 out:α->Rr PV
open Classical in
noncomputable def Pm.fn(m:Pm)(xs:List PV):Rr PV:=if h:∃a,m.enc a=xs/\m.pre a then m.out h.choose else .bad
theorem Pm.fn_eq(m:Pm)(a:m.α)(h:m.pre a)(inj:∀b,m.enc b=m.enc a->m.out b=m.out a):m.fn (m.enc a)=m.out a:=by
 unfold Pm.fn
 have hx:∃b,m.enc b=m.enc a/\m.pre b:=⟨a,rfl,h⟩
 rw[dif_pos hx]
 exact inj _ hx.choose_spec.1
theorem Pm.ref(m:Pm){g:List PV->Rr PV}(h:∀a,m.pre a->g (m.enc a)=m.out a)(xs:List PV):Ref (m.fn xs) (g xs):=by
 unfold Pm.fn
 by_cases hx:∃a,m.enc a=xs/\m.pre a
 ·rw[dif_pos hx]
  have h2:=hx.choose_spec
  right
  have:=h _ h2.2
  rw[h2.1] at this
  exact this.symm
 ·rw[dif_neg hx];exact .inl rfl
section
variable {K:W.Frag}{B:Addr->Prop}{H:Hp}
theorem Ag.init{xs:List PV}{vs:List V}{n:Nat}(h:Reps K H B xs vs):Ag K (fun a=>B a\/H a=none) H H (vs.map some++List.replicate n none) (List.replicate xs.length .S++List.replicate n .U) (xs++List.replicate n .non) (fun _=>[]) []:=by
 refine⟨Z2.refl _,fun a h=>.inr h,by simp,by simp,by simp,by simp,by simp,by simp,by simp[h.length],by simp,fun i=>?_⟩
 by_cases hi:i<xs.length
 ·have e1:(List.replicate xs.length Md.S++List.replicate n Md.U).getD i .U=.S:=by
   rw[Zrf,Zrw (by simpa using hi),Ztb hi];rfl
  have e2:(xs++List.replicate n PV.non).getD i .non=xs[i]:=by
   rw[Zrf,Zrw hi,Zri hi];rfl
  rw[e1,e2]
  obtain⟨v,h1,h2⟩:=h.get (Zri hi)
  refine⟨rfl,v, ?_,Rep.mono (fun a us s r=>⟨r,.inl s,by simp,by simp⟩) (fun a us r=>r) h2⟩
  rw[Zrw (by rw[Zrj,h.length];exact hi),Zrn,h1];rfl
 ·have e1:(List.replicate xs.length Md.S++List.replicate n Md.U).getD i .U=.U:=by
   rw[Zrf,Zrs (by simpa using hi)]
   by_cases q:i-(List.replicate xs.length Md.S).length<n
   ·rw[Ztb q];rfl
   ·rw[Zr3 (by simpa using q)];rfl
  rw[e1]
  exact rfl
end
section
variable {P:Program}{w:World}{K:W.Frag}{mg:Str->Option Value}{base:Heap}
theorem Fun.okP{x qual:Str}{st:Stmt}{f:Addr}{fd:FuncData}{N ps:List Str}{k n l:Nat}{kd:Kd}{m:List PV->Rr PV}(F:Fun K x qual st f fd)(S:Zy N ps (Zk st))(hn:ps.length=n)(hl:N.length-n=l)(hbody:∀(cdv:Value) (A:Around) (outer:List Env) (s:Shared) (H:Hp) (E:XK),VW k (A.deeper (envOfC qual (Zk st) s.heap.objs.size f cdv)) ->
   ∃t g Y,Y.r=kd/\PSs (Zhm CX0 P w K mg base N qual (Zk st) f cdv A outer s H E).nox (JQ st) t/\DS K X0 (List.replicate n .S++List.replicate l .U) Y t g/\∀xs,Ref (m xs) (g (xs++List.replicate l .non)).out)(hkN:kd≠.N:=by nofun)(hkM:kd≠.M:=by nofun) :
  JF P w K mg base CX0 (k+1) f fd ps (spF K n kd W0 m):=by
 refine F.ok S (fun vs H Q E h=>?_) (fun cdv A outer s H vs Q E hr h=>?_)
 ·obtain⟨B,xs,h1,h2,_⟩:=h
  rw[h1.length,h2,hn]
 ·obtain⟨B,xs,h1,h2,dn⟩:=h
  obtain⟨t,g,Y,hY,ht,hd,href⟩:=hbody cdv A outer s H E hr
  refine⟨t,ht, ?_⟩
  have A0:=Ag.init (n:=l) h1
  have est:Ua N vs=vs.map some++List.replicate l none:=by
   unfold Ua
   rw[h1.length,h2,hl]
  rw[est]
  rw[h2] at A0
  refine hd _ H H _ _ _ _ A0 ?_
  have hdn:Dn (g (xs++List.replicate l .non)).out (fun x=>∀v H',Z2 H H'->Zic K B H kd x v H'->Q v H') (fun e=>∀H',Z2 H H'->W0 e E H'):=by
   rcases href xs with e|e
   ·rw[e] at dn;exact dn.elim
   ·rw[<- e];exact dn
  have retK:∀{x v H'},Zic K (fun a=>B a\/H a=none) H kd x v H'->Zic K B H kd x v H':=fun {x v H'} h=>by
   cases kd with
   |P=>exact h
   |F=>exact h
   |T=>exact Rep.mono (fun a us s r=>⟨r,s.elim id .inr⟩) (fun a us r=>r) h
   |Z=>exact Rep.mono (fun a us s r=>⟨r,s.elim id .inr⟩) (fun a us r=>r) h
   |A=>exact Rep.mono (fun a us s r=>⟨r,s.elim id .inr⟩) (fun a us r=>r) h
   |N=>exact h
   |M=>exact h
  cases e:g (xs++List.replicate l .non) with
  |next ρ =>
   rw[e] at hdn
   refine fun σ' H' F' fr A'=>hdn .non H' A'.same ?_
   cases kd with
   |P=>exact⟨rfl,rfl⟩
   |F=>exact⟨[],⟨rfl,rfl⟩,by simp⟩
   |T=>exact rfl
   |Z=>exact rfl
   |A=>exact rfl
   |N=>exact absurd rfl hkN
   |M=>exact absurd rfl hkM
  |ret x=>rw[e] at hdn;exact fun v H' s r=>hdn v H' s (retK (hY▸r))
  |exc q=>rw[e] at hdn;exact fun H' s=>hdn H' s
  |brk ρ=>rw[e] at hdn;exact hdn.elim
  |cont ρ=>rw[e] at hdn;exact hdn.elim
  |bad=>rw[e] at hdn;exact hdn.elim
end
section
variable {K:W.Frag}{n:Nat}{m:List PV->Rr PV}{e:Expr}{ta:TA}{Γ Γ':List Md}{fa:List PV->Rr (List PV)}
theorem Q3(hn:Len fa n)(ha:DAA K X0 Γ Γ' ta fa):DE K X0 Γ Γ' .F (QA (spF K n .F W0 m) ta) (fun ρ=>(fa ρ).bind m):=Zhj (E:=E0) (W:=W0) (fun σ H Q h=>h) (fun e H' h=>h) hn ha
theorem Ur(hn:Len fa n)(ha:DAA K X0 Γ Γ' ta fa):DE K X0 Γ Γ' .P (QA (spF K n .P W0 m) ta) (fun ρ=>(fa ρ).bind m):=Zhi (E:=E0) (W:=W0) (fun σ H Q h=>h) (fun e H' h=>h) hn ha
end
theorem Zd6{K:W.Frag}{H:Hp}{a:Addr}{ns:List Int}{m:List PV->Rr PV}(hm:m [.lst (ns.map PV.int)]=.ok (.bl true))(hS:SqL K H a (ns.map V.int)):spF K 1 .P W0 m [.ref a] H (fun v _=>v=.bl true) fun _ _ _=>False:=by
 refine⟨fun _=>True,[.lst (ns.map PV.int)],Reps.one ⟨a,_,rfl,hS.elim (fun h=>.inl ⟨h,trivial⟩) .inr,Zbc ns⟩,rfl, ?_⟩
 rw[hm]
 exact fun v H' _ r=>r.2
section
end
def RS.good(r:RS)(I:List PV->Prop):Prop:=match r with
 |.next ρ=>I ρ
 |.cont ρ=>I ρ
 |_=>False
theorem RS.good_ex{r:RS}{I:List PV->Prop}(h:r.good I):∃ρ',(r=.next ρ'\/r=.cont ρ')/\I ρ':=by
 cases r with
 |next ρ=>exact⟨ρ,.inl rfl,h⟩
 |cont ρ=>exact⟨ρ,.inr rfl,h⟩
 |ret x=>exact h.elim
 |brk ρ=>exact h.elim
 |exc e=>exact h.elim
 |bad=>exact h.elim
theorem Zde{b:PV->List PV->RS}{xs:List PV}{ρ:List PV}(I:Nat->List PV->Prop)(h0:I 0 ρ)(h:∀i x ρ,xs[i]?=some x->I i ρ->(b x ρ).good (I (i+1))) :
  ∃ρ',Qs b xs ρ=.next ρ'/\I xs.length ρ':=by
 have key:∀n i ρ,xs.length=i+n->I i ρ->∃ρ',Qs b (xs.drop i) ρ=.next ρ'/\I xs.length ρ':=by
  intro n
  induction n with
  |zero =>
   intro i ρ hl hI
   rw[ZsU (by omega)]
   exact⟨ρ,rfl,by rw[hl];exact hI⟩
  |succ n ih =>
   intro i ρ hl hI
   have hi:i<xs.length:=by omega
   rw[ZrH hi]
   obtain⟨ρ',h1,h2⟩:=RS.good_ex (h i _ ρ (Zri hi) hI)
   obtain⟨ρ2,h3,h4⟩:=ih (i+1) ρ' (by omega) h2
   refine⟨ρ2, ?_,h4⟩
   simp only[Qs]
   rcases h1 with h1|h1<;>(rw[h1];exact h3)
 exact key xs.length 0 ρ (by omega) h0
theorem JK{lo:Int}{n i:Nat}{x:PV}(h:(ZcE lo n)[i]?=some x):i<n/\x=.int (lo+i):=by
 unfold ZcE at h
 rw[Zrn] at h
 by_cases hi:i<n
 ·rw[ZrZ hi] at h;cases h;exact⟨hi,rfl⟩
 ·rw[Zr3 (by simpa using hi)] at h;cases h
@[simp] theorem ZU{lo:Int}{n:Nat}:(ZcE lo n).length=n:=by simp[ZcE]
theorem ZbW{α β:Type}{f:α->Rr β}{g:α->β}:∀{xs:List α},(∀x∈xs,f x=.ok (g x))->Zb1 f xs=.ok (xs.map g)
 |[],_=>rfl
 |x::xs,h=>by
  simp only[Zb1,h x (by simp),Rr.bind_ok,ZbW (xs:=xs) fun y hy=>h y (by simp[hy]),Zru]
@[simp] theorem ZiV{x:PV}{ρ:List PV}:gv 0 (x::ρ)=x:=rfl
@[simp] theorem ZiW{x:PV}{ρ:List PV}{i:Nat}:gv (i+1) (x::ρ)=gv i ρ:=rfl
theorem UK{ns:List Int}{k:Int}(h0:0<=k)(h1:k<ns.length):pIx (.lst (ns.map PV.int)) (.int k)=.ok (.int (ns.getD k.toNat 0)):=by
 have:atI (ns.map PV.int) k=some (.int (ns.getD k.toNat 0)):=by
  unfold atI
  rw[Zrj,ZeZ h0 h1]
  show (ns.map PV.int)[k.toNat]?=_
  rw[Zrn,Zri (by omega),Zrf,Zri (by omega)]
  rfl
 simp only[pIx,this]
theorem Qf{ns:List Int}{k y:Int}(h0:0<=k)(h1:k<ns.length):pSet (.lst (ns.map PV.int)) (.int k) (.int y)=.ok (.lst ((ns.set k.toNat y).map PV.int)):=by
 simp only[pSet,Zrj,ZeZ h0 h1,List.map_set]
theorem ZeE{ns:List Int}{y:Int}(h:ns.length<1000000):pApp (.lst (ns.map PV.int)) (.int y)=.ok (.lst ((ns++[y]).map PV.int)):=by
 simp only[pApp,Zrj,if_pos h,Zsv,Zru,ZsK]
theorem Vs{ns:List Int}(h:ns.length<=1000000):newF (ns.map PV.int)=.ok (.lst (ns.map PV.int)):=by
 unfold newF
 rw[PV.flats_ints,Zrj,decide_eq_true h];rfl
theorem Zbr(ns:List Int):PV.dats (ns.map PV.int)=ns.map PyData.int:=by
 induction ns with
 |nil=>rfl
 |cons n ns ih=>simp[PV.dats,PV.dat,ih]
theorem Zcl(ns:List Int):PyData.canLayAll0 (ns.map PyData.int)=true:=by
 induction ns with
 |nil=>rfl
 |cons n ns ih=>simp[PyData.canLayAll0,PyData.canLay0,ih]
theorem ZeG(i:Int):okD (.int i)=true:=by simp[okD,PV.noX,PV.dat,PyData.canLay0,PyData.depth]
theorem ZhE(b:Bool):okD (.bl b)=true:=by simp[okD,PV.noX,PV.dat,PyData.canLay0,PyData.depth]
theorem ZcV(ns:List Int):okD (.lst (ns.map PV.int))=true:=by
 have hd:PyData.depthAll (ns.map PyData.int)=0:=by
  induction ns with
  |nil=>rfl
  |cons n ns ih=>simp[PyData.depthAll,PyData.depth,ih]
 simp[okD,PV.noX,PV.noXs_ints,PV.dat,Zbr,PyData.canLay0,Zcl,PyData.depth,hd]
theorem Qu:∀(ns ms:List Int),PyData.eqvAll (ns.map PyData.int) (ms.map PyData.int)=decide (ns=ms)
 |[],[]=>by simp[PyData.eqvAll]
 |[],m::ms=>by simp[PyData.eqvAll]
 |n::ns,[]=>by simp[PyData.eqvAll]
 |n::ns,m::ms=>by
  simp only[Zru,PyData.eqvAll,PyData.eqv,Qu ns ms,List.cons.injEq,Bool.decide_and]
  rw[Bool.beq_eq_decide_eq]
theorem ZcR{g:Bool->Bool}(ns ms:List Int):ZaA g (.lst (ns.map PV.int)) (.lst (ms.map PV.int))=.ok (.bl (g (decide (ns=ms)))):=by
 unfold ZaA
 rw[ZcV,ZcV]
 simp only[Bool.and_self,if_true,PV.dat,Zbr,PyData.eqv,Qu]
theorem ZiD{g:Bool->Bool}(i j:Int):ZaA g (.int i) (.int j)=.ok (.bl (g (decide (i=j)))):=by
 unfold ZaA
 rw[ZeG,ZeG]
 simp only[Bool.and_self,if_true,PV.dat,PyData.eqv]
 rw[Bool.beq_eq_decide_eq]
theorem ZaU(ns:List Int):Ze6 [.lst (ns.map PV.int)]=.ok (.int ns.length):=by simp[Ze6]
theorem Ze1(ns:List Int):ZlC [.lst (ns.map PV.int)]=.ok (.int ns.sum):=by simp[ZlC,Zdz]
theorem Zdx{ns:List Int}(h:ns.length<=1000000):Zal [.lst (ns.map PV.int)]=.ok (.lst (ns.map PV.int)):=by
 simp only[Zal];exact Vs h
theorem Ze4{ns:List Int}{k:Int}(h0:ns.length*k.toNat<=1000000)(h1:-(2^63)<=k)(h2:k<2^63):Zkc (ns.map PV.int) (.int k)=.ok (.lst ((List.replicate k.toNat ns).flatten.map PV.int)):=by
 simp only[Zkc,Zrj]
 rw[if_pos ⟨h0,h1,h2⟩]
 have e:(List.replicate k.toNat (ns.map PV.int)).flatten=(List.replicate k.toNat ns).flatten.map PV.int:=by
  rw[List.map_flatten,List.map_replicate]
 rw[e]
 refine Vs ?_
 rw[ZeQ,Nat.mul_comm];exact h0
theorem Zjo{i j:Int}(a b:Nat)(h1:i.natAbs<=10^a)(h2:j.natAbs<=10^b)(ha:a<=4000:=by decide)(hb:b<=4000:=by decide):Zct i j:=by
 have t:∀c:Nat,c<=4000->(10:Nat)^c<2^60000:=fun c hc=>Zsf (Ztc (by decide) hc) (by decide +kernel)
 exact⟨Zsf h1 (t a ha),Zsf h2 (t b hb)⟩
theorem Zf0{i j:Int}(b:Nat)(h1:0<j)(h2:j.natAbs<=10^b)(hb:b<=2000:=by decide):Zcu i j:=by
 have t:∀c:Nat,c<=2000->(10:Nat)^c<2^9000:=fun c hc=>Zsf (Ztc (by decide) hc) (by decide +kernel)
 exact⟨h1,Zsf h2 (t b hb)⟩
theorem ZeC{i j:Int}(h:Zcu i j):ZlF (.int i) (.int j)=.ok (.int (i/j)):=ZcX (decide_eq_true h)
theorem ZbK{i j:Int}(h:Zct i j):ZlE (.int i) (.int j)=.ok (.int (i*j)):=ZcX (decide_eq_true h)
theorem ZbL{i j:Int}(h:0<j):Zmt (.int i) (.int j)=.ok (.int (i%j)):=ZcX (decide_eq_true h)
theorem Zi9{i j:Int}(h:Zj5 i j):ZlD (.int i) (.int j)=.ok (.int (i^j.toNat)):=ZcX (decide_eq_true h)
@[simp] theorem ZiF{i j:Int}:ZlG (.int i) (.int j)=.ok (.int (i+j)):=rfl
@[simp] theorem Zi8{i j:Int}:Zms (.int i) (.int j)=.ok (.int (i-j)):=rfl
@[simp] theorem Zke{i j:Int}:pLt (.int i) (.int j)=.ok (.bl (decide (i<j))):=rfl
@[simp] theorem Zkf{i j:Int}:pLe (.int i) (.int j)=.ok (.bl (decide (i<=j))):=rfl
@[simp] theorem Zkn{i j:Int}:pGt (.int i) (.int j)=.ok (.bl (decide (j<i))):=rfl
@[simp] theorem Zko{i j:Int}:pGe (.int i) (.int j)=.ok (.bl (decide (j<=i))):=rfl
@[simp] theorem ZiX{i:Int}:grd (.int i)=.ok (.int i):=rfl
@[simp] theorem Zlg{b:Bool}:asB (.bl b)=.ok b:=rfl
@[simp] theorem Zjt{xs:List PV}:asL (.lst xs)=.ok xs:=rfl
@[simp] theorem Zkk{n:String}{x:Int}:Zkl n (.int x)=.ok (.bl (Qn (Vh (.int x)) n)):=rfl
@[simp] theorem Zkj{n:String}{x:List PV}:Zkl n (.lst x)=.ok (.bl (Qn (Vh (.lst x)) n)):=rfl
@[simp] theorem Zki{n:String}{x:List PV}:Zkl n (.tup x)=.ok (.bl (Qn (Vh (.tup x)) n)):=rfl
@[simp] theorem Zkh{x:PV}{xs:List PV}:pIx (.tup (x::xs)) (.int 0)=.ok x:=by simp[pIx,atI,ixN]
@[simp] theorem Zkg{x y:PV}{xs:List PV}:pIx (.tup (x::y::xs)) (.int 1)=.ok y:=by
 have:atI (x::y::xs) 1=some y:=by unfold atI;rw[ZeZ (by omega) (by simp only[ZrF];omega)];rfl
 simp only[pIx,this]
theorem ZcP{j:Int}(h:-(2^62)<=j/\j<2^62):Zgm [.int j]=.ok (ZcE 0 j.toNat):=by simp only[Zgm,okR,decide_eq_true h,if_true]
theorem Zgk{i j:Int}(h:-(2^62)<=i/\i<2^62)(h':-(2^62)<=j/\j<2^62):Zgl [.int i,.int j]=.ok (ZcE i (j-i).toNat):=by simp only[Zgl,okR,decide_eq_true h,decide_eq_true h',Bool.and_self,if_true]
theorem Ql{xs:List PV}(h:xs.length<=1000000):lenM xs=.ok ():=by simp only[lenM,if_pos h]
@[simp] theorem ZgE:Qn (Vh (.int i)) "int"=true:=rfl
@[simp] theorem ZgF:Qn (Vh (.int i)) "bool"=false:=rfl
@[simp] theorem ZgD:Qn (Vh (.lst xs)) "list"=true:=rfl
@[simp] theorem ZgC:Qn (Vh (.tup xs)) "tuple"=true:=rfl
theorem VB{I:List PV->Prop}{ρ:List PV}(h:I ρ):(RS.next ρ).good I:=h
theorem ZgK{h:PV->List PV->Rr (List PV)}{hs:List PV->List PV->Rr (List PV)}{x:PV}{xs ρ:List PV}:hdR h hs (x::xs) ρ=(h x ρ).bind fun ρ'=>hs xs ρ':=rfl
theorem Zg1{ρ:List PV}:Zmv [] ρ=.ok ρ:=rfl
theorem ZD{ns ms:List Int}(e:ns.map PV.int=ms.map PV.int):ns=ms:=by
 have:=congrArg U7 e
 simpa using this
theorem Zd1{i j:Int}(h0:0<j)(h1:j<1000000000000):ZlF (.int i) (.int j)=.ok (.int (i/j)):=ZeC (Zf0 12 h0 (by omega))
theorem ZlH:ZlD (.int 10) (.int 60)=.ok (.int (10^60)):=by rw[Zi9 (by decide)];rfl
theorem Zkx{xs:List PV}(h:xs.length<=1000):mkT xs=.ok (.tup xs):=if_pos h
theorem Zky{xs:List PV}(h:xs.length<=1000):mkL xs=.ok (.lst xs):=if_pos h
theorem Jt.there{P:Program}{w:World}{H:Hp}{h:Heap}{a:Addr}{o:HO}(x:Jt P w H h a o):∃u,h.get? a=some u:=by
 cases o with
 |lst xs=>obtain⟨_,_,_,_,e⟩:=x;exact⟨_,e⟩
 |tup xs=>obtain⟨_,_,_,_,e,_⟩:=x;exact⟨_,e⟩
 |dK kvs=>obtain⟨_,_,_,_,o,_,_,e,_⟩:=x;exact⟨_,e⟩
 |dT kvs=>obtain⟨_,_,_,_,o,_,_,e,_⟩:=x;exact⟨_,e⟩
 |set S n=>obtain⟨o,_,_,_,e,_⟩:=x;exact⟨_,e⟩
 |ins C dx fs=>obtain⟨_,_,_,e,_⟩:=x;exact⟨_,e⟩
 |own y=>obtain⟨_,e⟩:=x;exact⟨_,e⟩
 |xd fs=>obtain⟨_,⟨_,_,_,e,_⟩,_⟩:=x;exact⟨_,e⟩
 |rng lo hi=>obtain⟨_,_,_,e⟩:=x;exact⟨_,e⟩
 |frz ob u=>exact⟨_,x.1⟩
 |tbl ps q=>obtain⟨_,e,_⟩:=x;exact⟨_,e⟩
 |met f y=>exact⟨_,x⟩
 |ext φ=>exact x.2.1
section
end
end L2
namespace PySem.W
open PySem PySem.Spec PySem.Calls PyProof.Rows
section
end
end PySem.W
namespace L2
open PySem PySem.Spec PyProof.Rows
section
end
noncomputable def ZlL(Γ:List Md):Bool:=Γ.all fun m=>m==.U || m==.P || m==.S
section
end
theorem ZeF{x:Str}(h:PyData.canLay0 (.str x)=true):okD (.str x)=true:=by simp[okD,PV.noX,PV.dat,PyData.depth,h]
theorem ZbN{g:Bool->Bool}{a b:Str}(ha:PyData.canLay0 (.str a)=true)(hb:PyData.canLay0 (.str b)=true):ZaA g (.str a) (.str b)=.ok (.bl (g (a==b))):=by
 unfold ZaA
 rw[ZeF ha,ZeF hb]
 simp only[Bool.and_self,if_true,PV.dat,PyData.eqv]
section
end
theorem ZgG{ns ms:List Int}:ns.map PV.int=ms.map PV.int ↔ ns=ms:=⟨ZD,fun h=>by rw[h]⟩
theorem Jl{b:PV->List PV->RS}{xs:List PV}{ρ:List PV}{W:RS}(hw:Qs b xs ρ=W)(I:Nat->List PV->Prop)(h0:I 0 ρ)(h:∀i x ρ,xs[i]?=some x->I i ρ->(b x ρ).good (I (i+1))) :
  ∃ρ',W=.next ρ'/\I xs.length ρ':=by
 obtain⟨ρ',h1,h2⟩:=Zde I h0 h
 exact⟨ρ',hw.symm.trans h1,h2⟩
theorem VL{c:List PV->Rr Bool}{b:List PV->RS}{ρ:List PV}{W:RS}(hw:VC c b ρ=W)(N:Nat)(I:Nat->List PV->Prop)(h0:I 0 ρ)(hs:∀i ρ,i<N->I i ρ->c ρ=.ok true/\(b ρ).good (I (i+1)))(he:∀ρ,I N ρ->c ρ=.ok false) :
  ∃ρ',W=.next ρ'/\I N ρ':=by
 subst hw
 have key:∀m i ρ,N=i+m->I i ρ->∃ρ',Vl c b (m+1) ρ=some (.next ρ')/\I N ρ':=by
  intro m
  induction m with
  |zero =>
   intro i ρ hl hI
   obtain rfl:N=i:=by omega
   refine⟨ρ, ?_,hI⟩
   unfold Vl
   rw[he ρ hI]
  |succ m ih =>
   intro i ρ hl hI
   obtain⟨h1,h2⟩:=hs i ρ (by omega) hI
   obtain⟨ρ',h3,h4⟩:=RS.good_ex h2
   obtain⟨ρ2,h5,h6⟩:=ih (i+1) ρ' (by omega) h4
   refine⟨ρ2, ?_,h6⟩
   unfold Vl
   rw[h1]
   rcases h3 with h3|h3<;>(rw[h3];exact h5)
 obtain⟨ρ',h1,h2⟩:=key N 0 ρ (by omega) h0
 exact⟨ρ',ZaD h1,h2⟩
theorem Zaq{f:PV->Rr PV}{g:Int->Int}{ns:List Int}(h:∀z∈ns,f (.int z)=.ok (.int (g z))):Zb1 f (ns.map PV.int)=.ok ((ns.map g).map PV.int):=by
 induction ns with
 |nil=>rfl
 |cons n ns ih =>
  simp only[Zru,Zb1,h n (by simp),Rr.bind_ok,ih fun z hz=>h z (by simp[hz])]
theorem ZeO{f:PV->Rr PV}{g:Int->Bool}{ns:List Int}(h:∀z∈ns,f (.int z)=.ok (.bl (g z))):Zb1 f (ns.map PV.int)=.ok ((ns.map g).map PV.bl):=by
 induction ns with
 |nil=>rfl
 |cons n ns ih =>
  simp only[Zru,Zb1,h n (by simp),Rr.bind_ok,ih fun z hz=>h z (by simp[hz])]
theorem Zgu(bs:List Bool):Zks [.lst (bs.map PV.bl)]=.ok (.bl (bs.all id)):=by simp only[Zks,Zf7]
theorem ZfC{ns:List Int}{p:Int->Prop}[DecidablePred p]:(ns.map fun z=>decide (p z)).all id=decide (∀x∈ns,p x):=by
 rw[Bool.eq_iff_iff,ZrR,decide_eq_true_iff]
 simp
theorem Zkd{i j:Int}(h1:-(10^80)<=i)(h2:i<=10^80)(h3:-(10^80)<=j)(h4:j<=10^80):ZlE (.int i) (.int j)=.ok (.int (i*j)):=ZbK (Zjo 80 80 (by omega) (by omega))
theorem Zgn{k:Int}{z:Int}(h1:-(2^63)<=k)(h2:k<=1000000):Zkc [.int z] (.int k)=.ok (.lst ((List.replicate k.toNat z).map PV.int)):=by
 have:=Ze4 (ns:=[z]) (k:=k) (by simp;omega) h1 (by omega)
 simp only[Zru,ZsK] at this
 rw[this,List.flatten_replicate_singleton]
theorem Zel{n:Nat}:List.replicate (n+1) PV.non=PV.non::List.replicate n PV.non:=rfl
theorem Zek:List.replicate 0 PV.non=[]:=rfl
theorem ZiA{a b c:PV}:Ze6 [.tup [a,b,c]]=.ok (.int 3):=rfl
section
end
theorem ZgL{a b:Int}:grd (.tup [.int a,.int b])=.ok (.tup [.int a,.int b]):=rfl
theorem Zgo{g:Bool->Bool}:Zlp g .non=.ok (.bl (g true)):=rfl
theorem ZiC{g:Bool->Bool}{ns:List Int}:ZaA g (.lst (ns.map PV.int)) (.lst [])=.ok (.bl (g (decide (ns=[])))):=ZcR ns []
section
variable {X:Cx}{pins:List (Addr×Obj)}{σ:St}{H:Hp}{s:Shared}{h':Heap}
theorem Inv.turned2{t':Nat}{it e:Addr}(I:Inv X pins σ H s)(k:∀b o,b≠e->b≠it->s.heap.get? b=some o->h'.get? b=some o)(f:∀b,b=e\/b=it->H b=none/\b≠X.env.locals/\(b∈X.ex\/X.s₀.heap.objs.size<=b)/\(∀x c,X.env.cells.lookup x=some c->c≠b)/\∀p∈X.pn++pins,p.1≠b):Inv X pins σ H { s with heap:=h',toks:=t' }:=by
 have nit:∀b u,H b=some u->b≠e/\b≠it:=fun b u q=>by
  refine⟨fun z=>?_,fun z=>?_⟩
  ·rw[z,(f e (.inl rfl)).1] at q;cases q
  ·rw[z,(f it (.inr rfl)).1] at q;cases q
 refine I.step (g':=s.gens) (d':=s.drawn) (ch:=[e,it]) (fun b hb=>?_) (fun b o _ _ hc q _=>k b o (fun z=>hc (by simp[z])) (fun z=>hc (by simp[z])) q) (fun b o _ _ hc q _=>⟨o.slots,k b o (fun z=>hc (by simp[z])) (fun z=>hc (by simp[z])) q⟩) (fun _ _ _ _ n=>n)
  (fun b o hc q=>⟨o,k b o (fun z=>hc (by simp[z])) (fun z=>hc (by simp[z])) q⟩) (fun _ _ q=>q) (fun _ _ _ q=>q) (fun b ps w q=>q) (fun m hm=>?_) (fun b u q=>?_) I.bare
 ·obtain⟨g0,g1,g2,g3,g4⟩:=f b (by simpa using hb)
  exact⟨g2,g1,g3,g4⟩
 ·obtain⟨o,es,ep,ho,r⟩:=hm
  exact⟨o,es,ep,k _ o (Ne.symm (f e (.inl rfl)).2.1) (Ne.symm (f it (.inr rfl)).2.1) ho,r⟩
 ·refine(I.hok b u q).stay (fun c v hc q2=>?_) (fun _ q2=>q2) fun _ _ q2=>q2
  have:c≠e/\c≠it:=by
   rcases hc with z|z
   ·rw[z];exact nit b u q
   ·exact nit c _ z
  exact k c v this.1 this.2 q2
theorem Inv.adoptT{D:Addr}{ys:List V}{its:List Value}(I:Inv X pins σ H s)(hn:H D=none)(h1:X.s₀.heap.objs.size<=D)(hL:D≠X.env.locals)(hc:∀x c,X.env.cells.lookup x=some c->c≠D)(hp:∀p∈X.pn++pins,p.1≠D)(ho:s.heap.get? D=some { cls:=.type "tuple",data:=.seq its.toArray })(r:ZP ys its)(hz:ys.length<=sizeLine):Inv X pins σ (upd H D (.tup ys)) s:=by
 refine I.step (h':=s.heap) (g':=s.gens) (d':=s.drawn) (t':=s.toks) (ch:=[D]) (fun b hb=>?_) (fun b o _ _ _ e _=>e) (fun b o _ _ _ e _=>⟨o.slots,e⟩) (fun b o hb _ e=>?_) (fun b o _ e=>⟨o,e⟩)
  (fun b xs e=>?_) (fun b o u e=>?_) (fun b ps w e=>?_) (fun m hm=>hm) (fun b u e=>?_) I.bare
 ·have e:b=D:=by simpa using hb
  subst e
  exact⟨.inr h1,hL,hc,hp⟩
 ·rw[Zp (by simpa using hb)];exact e
 ·rw[Zp (Z3 e hn)];exact e
 ·rw[Zp (Z3 e hn)];exact e
 ·rw[Zp (Z3 e hn)];exact e
 ·by_cases hb:b=D
  ·subst hb
   rw[Zv] at e;cases e
   exact⟨hz,its,r,_,ho,rfl,_,rfl⟩
  ·rw[Zp hb] at e
   exact(I.hok b u e).stay (fun c v _ q=>q) (fun c q=>by rw[Zp (Z3 q hn)];exact q) fun c xs q=>by rw[Zp (Z3 q hn)];exact q
end
noncomputable def Ite(K:W.Frag)(a:Addr):It:=
 ⟨fun i H=>∃xs x,SqL K H a xs/\xs[i]?=some x,fun i H v H'=>∃t x,v=.ref t/\H t=none/\H'=upd H t (.tup [.int i,x])/\∀xs,SqL K H a xs->xs[i]?=some x,fun i H=>∃xs,SqL K H a xs/\xs.length<=i⟩
theorem ZdW{P:Program}{w:World}{K:W.Frag}{elts:List Expr}{x1:Nat}{tpos:Pos}(a e it:Addr)(hne:e≠it):Zjv P w K (.Tuple elts x1 tpos) (Ite K a) [e,it] e (fun i h=>∃old,IsEnum h e it i old/\h.IsListIter it a i) where
 mem:=by simp
 obj:=fun i h ⟨old,s1,s2⟩ b hb=>by
  rcases Zrt.mp hb with z|z
  ·subst z
   exact⟨_,s1,fun v z=>by
    have z':Data.fields _=Data.cell v:=z
    cases z'⟩
  ·have z:b=it:=by simpa using z
   subst z
   obtain⟨o,e,c,d⟩:=s2
   exact⟨o,e,fun v z=>by rw[d] at z;cases z⟩
 keep:=fun i h h' ⟨old,s1,s2⟩ k=>⟨old,k e (by simp) _ s1,s2.at fun o q=>k it (by simp) o q⟩
 item:=by
  intro X hP hw hK hc i pins s σ H E I hf ⟨old,s1,s2⟩ hg
  subst hP hw hK
  obtain⟨xs,x,hq,hx⟩:=hg
  obtain⟨its,rv,p,hz⟩:=I.list hq
  obtain⟨u,hu,ru⟩:=rv.get hx
  have fz:∀b,b=e\/b=it->H b=none/\b≠X.env.locals/\(b∈X.ex\/X.s₀.heap.objs.size<=b)/\(∀x c,X.env.cells.lookup x=some c->c≠b)/\∀p∈X.pn++pins,p.1≠b:=fun b hb=>by
   obtain⟨f0,f1,f2,f3,f4,f5⟩:=hf b (by simpa using hb)
   exact⟨f0,f1,f3,f4,f5⟩
  refine wpAny_pyNext_enum_item s1 s2 p.isList (x:=u) (by simpa using hu) hne fun h1 e1 i1 t1 z1 k1=>?_
  refine⟨_,rfl, ?_⟩
  refine wpAny_letOwnedTupleGo_enum e1 fun h2 e2 sb2=>?_
  have I2:Inv X pins σ H { s with heap:=h2,toks:=s.toks+1 }:=I.turned2 (fun b o n1 n2 q=>sb2.extBut b o n1 (k1 b o n1 n2 q)) fz
  have hfr:=I.hok.fresh (Zrl s.heap.objs.size)
  have het:s.heap.objs.size≠e:=ZsY (Heap.lt_size s1)
  have fsz:=I.fpOk (H':=H) (Zrl s.heap.objs.size) hfr
  obtain⟨g0,g1,g2,g3,g4,g5⟩:=fsz
  have I3:=I2.adoptT (D:=s.heap.objs.size) (ys:=[.int i,x]) (its:=[.int i s.toks,u]) hfr I.sz g1 g4 g5 (sb2.extBut _ _ het t1) (.cons ⟨_,rfl⟩ (.cons ru .nil)) (show 2<=sizeLine by decide)
  refine⟨.ref s.heap.objs.size,_,I3,rfl,⟨_,x,rfl,hfr,rfl,fun ys hy=>by rw[I.list_inj hy hq];exact hx⟩,⟨u,by
   have:((i+1:Nat):Int)=(i:Int)+1:=by omega
   rw[this];exact e2,i1.extBut sb2.extBut (Ne.symm hne)⟩,fun b hb=>?_⟩
  have hbn:b≠s.heap.objs.size:=by
   rcases Zrt.mp hb with z|z
   ·rw[z];exact het.symm
   ·have z:b=it:=by simpa using z
    obtain⟨o,q,_⟩:=s2
    rw[z];exact Zr8 (Heap.lt_size q)
  rw[Zp hbn]
  exact(hf b hb).1
 done:=by
  intro X hP hw hK hc i pins s σ H E I hf ⟨old,s1,s2⟩ hg
  subst hP hw hK
  obtain⟨xs,hq,hx⟩:=hg
  obtain⟨its,rv,p,hz⟩:=I.list hq
  obtain⟨f0,f1,f2,f3,f4,f5⟩:=hf it (by simp)
  have hl:=rv.length
  exact wpAny_pyNext_enum_end (I.ok.hd hc) s1 s2 p.isList (by simp;omega) fun h' eb=>⟨rfl,I.turned (t':=s.toks) (fun b o hb q=>eb b o hb q) f0 f1 f3 f4 f5⟩
 self:=fun _ _ _ _ _ ⟨old,st,_⟩ h=>wpAny_pyIter_enum st h
section
variable {X:Cx}{elts:List Expr}{x1:Nat}{tpos:Pos}
noncomputable def ZiU(K:W.Frag)(tl:TA):TI:=fun σ H R=>tl σ H fun vs H1=>∃a,vs=[.ref a]/\(∃xs,SqL K H1 a xs)/\R (Ite K a) H1
theorem Zbv:bootBuiltins "enumerate"=some (.type "enumerate"):=by decide +kernel
theorem Zi1{l:Expr}{tl:TA}{p pos:Pos}(hg:Gl X "enumerate")(hm:X.mg "enumerate"=none)(ha:PA X [l] tl)(hs:starEach [l] X.env=[(false,eval l X.env)]:=by rfl):PI X (.Tuple elts x1 tpos) (.Call (.Name "enumerate" p) [l] [] pos) (ZiU X.K tl):=by
 intro pins s σ H R I h
 refine Call_ (Qm I hg hm Zbv (PyProof.Rows.callWith_type1 (thn (ha pos pins s σ H _ I h) fun us s1 ⟨vs,H1,I1,r1,q1⟩=>?_) hs rfl))
 obtain⟨a,e,⟨xs,hq⟩,q⟩:=q1
 subst e
 cases r1 with
 |cons r rr =>
  cases rr
  cases r
  obtain⟨its,rv,pl,hz⟩:=I1.list hq
  refine call_enumerate_list pl.isList fun h' e1 i1 z1 k1=>?_
  refine wpAny_pyIter_enum e1 ?_
  have I2:Inv X pins σ H1 { s1 with heap:=h' }:=I1.kept (t':=s1.toks) k1
  refine⟨s1.heap.objs.size+1,[s1.heap.objs.size+1,s1.heap.objs.size],_,_,H1,rfl,I2,ZdW a _ _ (Nat.succ_ne_self _),⟨_,e1,i1⟩,fun b hb=>?_,q⟩
  have hb':s1.heap.objs.size<=b:=by
   rcases Zrt.mp hb with z|z
   ·rw[z];exact ZsI _
   ·have z:b=s1.heap.objs.size:=by simpa using z
    rw[z];exact Zrl _
  exact I1.fpOk hb' (I1.hok.fresh hb')
theorem Zgd{K:W.Frag}{l:Expr}{tl:TA}{p pos:Pos}(hg:Gl X "enumerate")(hm:X.mg "enumerate"=none)(ha:PA X [l] tl)(hs:starEach [l] X.env=[(false,eval l X.env)]:=by rfl)(e:X.K=K:=by rfl):PI X (.Tuple elts x1 tpos) (.Call (.Name "enumerate" p) [l] [] pos) (ZiU K tl):=by subst e;exact Zi1 hg hm ha hs
end
noncomputable def Q6(xs:List PV):List PV:=xs.mapIdx fun i x=>.tup [.int (i:Nat),x]
section
variable {K:W.Frag}{H:Hp}{EX:PX->Hp->Prop}{Γ Γ':List Md}
theorem ZgB{a:Addr}{xs:List PV}{S:Addr->Prop}(h:Rep K H S (.lst xs) (.ref a)):ItP K S (Ite K a) (Q6 xs) H:=by
 obtain⟨a',vs,e,hn,hr⟩:=h
 cases e
 intro i
 constructor
 ·intro x hx
  unfold Q6 at hx
  rw[Ztd] at hx
  cases hxi:xs[i]? with
  |none=>rw[hxi] at hx;cases hx
  |some y =>
   rw[hxi] at hx
   cases hx
   obtain⟨u,e1,e2⟩:=hr.get hxi
   refine⟨⟨vs,u,JG hn,e1⟩,fun v H' ⟨t,z,e3,e4,e5,e6⟩=>?_⟩
   have:=e6 vs (JG hn)
   rw[e1] at this;cases this
   subst e3 e5
   have sm:Z2 H (upd H t (.tup [.int i,u])):=Z2.upd (Z2.refl H) e4
   exact⟨sm,t,_,rfl,⟨Zv,trivial⟩,⟨_,_,rfl,rfl,_,_,rfl,e2.same sm,rfl⟩⟩
 ·intro hx
  unfold Q6 at hx
  rw[Ztd] at hx
  have:xs[i]?=none:=by cases hxi:xs[i]? with
   |none=>rfl
   |some y=>rw[hxi] at hx;cases hx
  exact⟨vs,JG hn,by rw[hr.length];exact ZrU.mp this⟩
noncomputable def ZiE(xs:List PV):Rr (List PV):=match xs with
 |[.lst ys]=>.ok (Q6 ys)
 |_=>.bad
theorem Zje{ta:TA}{fa:List PV->Rr (List PV)}(ha:DAZ K EX Γ Γ' ta fa):DI K EX Γ Γ' (ZiU K ta) (fun ρ=>(fa ρ).bind ZiE):=fun B H0 H σ ρ F R Q A d=>by
 refine ha B H0 H σ ρ F R _ A (d.bind.imp (fun xs _ d vs H1 F1 s1 f1 p1 A1=>?_) fun e q=>q)
 unfold ZiE at d
 split at d
 ·rename_i ys
  obtain⟨v,rfl,h1⟩:=VN p1
  obtain⟨a,us,rfl,hn,hr⟩:=id h1
  exact⟨a,rfl,⟨us,JG hn⟩,d _ H1 F1 s1 f1 A1 fun H2 F2 h=>ZgB (h1.frm h A1)⟩
 ·exact d.elim
theorem Zgp{ys:List PV}:ZiE [.lst ys]=.ok (Q6 ys):=rfl
theorem Zcd(xs:List PV):(Q6 xs).length=xs.length:=by simp[Q6]
variable {prog:Program}{w:World}{A:Around}{R:Result->Shared->Prop}{s:Shared}
theorem VU{elt target iter:Expr}{ifs:List Expr}{scope:Scope}{pos:Pos}{it acc:Value}{env:Env}(I:Nat->Shared->Prop)(turn:∀n s,I n s->wpAny (model prog w) A (pyNext it) (fun r s₁=>match r with
   |none=>R (.ok .next) s₁
   |some v=>wpAny (model prog w) A (letOwnedTupleGo target it v) (fun _ s₁'=>wpAny (model prog w) A (assign target env v) (fun _ s₂ =>
     wpAny (model prog w) A (forIn ifs true fun c r=>if r=true then do let ok <- isTrue c env (eval c env);pure (ForInStep.yield ok) else pure (ForInStep.yield r)) (fun ok s₃ =>
      if ok=true then wpAny (model prog w) A (eval elt env) (fun x s₄ =>
       wpAny (model prog w) A (call (.builtin "list.append") [acc,x]) (fun _ s₅=>∃m,m<n/\I m s₅) (notedBy (model prog w) A env fun e s'=>R (.error e) s') s₄) (notedBy (model prog w) A env fun e s'=>R (.error e) s') s₃
      else ∃m,m<n/\I m s₃) (notedBy (model prog w) A env fun e s'=>R (.error e) s') s₂) (notedBy (model prog w) A env fun e s'=>R (.error e) s') s₁') (notedBy (model prog w) A env fun e s'=>R (.error e) s') s₁) (notedBy (model prog w) A env fun e s'=>R (.error e) s') s)(n:Nat)(h:I n s) :
  codeAny (model prog w) A (.compLoop (.ListComp elt [⟨target,iter,ifs,0⟩] scope pos) 0 it acc env) R s:=by
 refine codeAny_loop rfl I (fun n s hI=>?_) n h
 show wpAny _ A ((compTurn (.ListComp elt [⟨target,iter,ifs,0⟩] scope pos) 0 it acc env).onRaise (fun x=>do noteFrame x env;theTreesLotGoes x)) _ _ s
 refine wpAny_noted ?_
 rw[compTurn_list]
 refine wpAny_bind (wpAny_standAt (wpAny_bind (wpAny_mono (turn n s hI) (fun r s₁ h₁=>?_) fun _ _ h'=>h')))
 cases r with
 |none=>exact wpAny_pure h₁
 |some v =>
  refine wpAny_bind (wpAny_mono h₁ (fun _ s₁' h₁'=>?_) fun _ _ h'=>h')
  refine wpAny_bind (wpAny_mono h₁' (fun _ s₂ h₂=>wpAny_bind (wpAny_mono h₂ (fun ok s₃ h₃=>?_) fun _ _ h'=>h')) fun _ _ h'=>h')
  cases ok with
  |false=>exact wpAny_pure ⟨rfl,h₃⟩
  |true =>
   exact wpAny_bind (wpAny_bind (wpAny_mono h₃ (fun x s₄ h₄=>wpAny_bind (wpAny_mono h₄ (fun _ s₅ h₅=>wpAny_pure (wpAny_pure ⟨rfl,h₅⟩)) fun _ _ h'=>h')) fun _ _ h'=>h'))
end
noncomputable def Zat(xs:List Str)(y:Str):Str:=if xs.contains y then "" else y
noncomputable def VJ(X:Cx)(scope:Scope)(xs:List Str)(C:Addr)(ex:List Addr)(s₂:Shared)(H₂:Hp):Cx:=
 { X with N:=X.N.map (Zat xs)++xs,s₀:=s₂,H₀:=H₂,env:=compEnvC scope (Q7 scope X.env) C X.env,outer:=X.stack,ex:=ex,fn:=fun _=>false,pn:=[],xe:=fun _ _=>False }
noncomputable abbrev TB:=V->Hp->List V->Prop
noncomputable def tB1:TB:=fun x _ vs=>vs=[x]
noncomputable def tB2(K:W.Frag):TB:=fun x H vs=>∃t a b,x=.ref t/\SqT K H t [a,b]/\vs=[a,b]
def PB(X:Cx)(scope:Scope)(xs:List Str)(tg:Expr)(Bd:TB):Prop:=∀C s₂ H₂ ex,∀(pins:List (Addr×Obj)) (s:Shared) (σ σx:St) (H:Hp) (x:V) (u:Value) (vs:List V) (E:Value->Shared->Prop),σ.length=X.N.length->σx.length=xs.length ->
 Inv (VJ X scope xs C ex s₂ H₂) pins (σ++σx) H s->Jf x u->Bd x H vs->wpAny (model X.prog X.w) X.A (assign tg (VJ X scope xs C ex s₂ H₂).env u) (fun _ s'=>Inv (VJ X scope xs C ex s₂ H₂) pins (σ++vs.map some) H s') E s
def PCi(X:Cx)(ifs:List Expr)(t:TT):Prop:=∀(pins:List (Addr×Obj)) (s:Shared) (σ:St) (H:Hp) (Q:Bool->Hp->Prop) (E:Value->Shared->Prop),Inv X pins σ H s->t σ H Q ->
 wpAny (model X.prog X.w) X.A (forIn ifs true fun c r=>if r=true then do let ok <- isTrue c X.env (eval c X.env);pure (ForInStep.yield ok) else pure (ForInStep.yield r)) (TP X pins σ Q) E s
noncomputable def ZjD:TT:=fun _ H Q=>Q true H
theorem Zey{X:Cx}:PCi X [] ZjD:=fun pins s σ H Q E I h=>wpAny_tests_nil ⟨_,I,h⟩
def Zec(σ:St)(Bd:TB)(tt:TT)(te:TE)(J:It)(H1:Hp)(Q:VK):Prop:=∃W:Nat->Nat->List V->Hp->Prop,(∃m,W 0 m [] H1)/\∀i m ys H2,W i m ys H2->ys.length<=sizeLine /\
 ((J.stop i H2/\∀p,H2 p=none->Q (.ref p) (upd H2 p (.lst ys))) \/
  (J.go i H2/\∃N:List V->Hp->Prop,(∀ys' H',N ys' H'->∃m',m'<m/\W (i+1) m' ys' H')/\∀x H3,J.yld i H2 x H3->∃vs,Bd x H3 vs/\tt (σ++vs.map some) H3 fun b H4=>if b=true then te (σ++vs.map some) H4 fun y H5=>N (ys++[y]) H5 else N ys H4))
noncomputable def Q9(wi:TI)(Bd:TB)(tt:TT)(te:TE):TE:=fun σ H Q=>wi σ H fun J H1=>Zec σ Bd tt te J H1 Q
noncomputable def J7(N:List Str)(sc scope:Scope)(xs:List Str):Bool:=xs.all (fun x=>Zch [] sc scope x)&&decide (N.map (Zat xs)++xs).Nodup&&!xs.isEmpty&&(N.all fun y=>xs.contains y || !(scope.names.lookup y==some .local))&&(scope.names.lookup (Str.ofString "")==none)
structure CkN(N:List Str)(sc scope:Scope)(xs:List Str):Prop where
 scs:∀x∈xs,Zaa [] sc scope x
 nd:(N.map (Zat xs)++xs).Nodup
 ex:∃x,x∈xs
 noN:∀y∈N,y ∉ xs->scope.names.lookup y≠some .local
 noE:scope.names.lookup (Str.ofString "")=none
theorem Vf{N:List Str}{sc scope:Scope}{xs:List Str}(h:J7 N sc scope xs=true):CkN N sc scope xs:=by
 unfold J7 at h
 simp only[Bool.and_eq_true,ZrR,decide_eq_true_eq,Bool.not_eq_true',Bool.or_eq_true,beq_iff_eq,beq_eq_false_iff_ne] at h
 obtain⟨⟨⟨⟨h1,h2⟩,h3⟩,h4⟩,h5⟩:=h
 refine⟨fun x hx=>Zaa.of (h1 x hx),h2, ?_,fun y hy hn=>?_,h5⟩
 ·cases xs with
  |nil=>simp at h3
  |cons a l=>exact⟨a,by simp⟩
 ·rcases h4 y hy with z|z
  ·exact absurd (Zs8.mp z) hn
  ·exact z
section
variable {X:Cx}{pins:List (Addr×Obj)}{σ:St}{s₂:Shared}{H₂:Hp}{scope:Scope}{x:Str}{xs:List Str}{tg elt iter:Expr}{ifs:List Expr}{pos:Pos}{Bd:TB}{tt:TT}{te:TE}{J:It}{fp:List Addr}{it:Addr}{tn:Nat->Heap->Prop}
theorem Jy{N0:List Str}(sc:Zaa N0 X.env.scope scope x)(ok:X.Ok){y:Str}{c:Addr}(h:(Q7 scope X.env).lookup y=some c):X.env.cells.lookup y=some c:=by
 have hm:=PySem.mem_of_lookup h
 unfold Q7 at hm
 obtain⟨p,hp,e⟩:=Zrz.mp hm
 have hp':=ZrS.mp (Zts.mp hp)
 obtain⟨e1,e2⟩:=Prod.mk.inj e
 have hk:=sc.fr p hp'.1 (beq_iff_eq.mp hp'.2)
 obtain⟨c',hc'⟩:=ok.has p.1 hk
 rw[hc'] at e2
 rw[<- e1,hc']
 exact congrArg some e2
theorem Zjq{N0:List Str}(I:Inv X pins σ H₂ s₂)(sc:Zaa N0 X.env.scope scope x){C:Addr}(hC:s₂.heap.objs.size<=C)(ff:∀b∈fp,ZfE X pins H₂ b)(fo:∀b∈fp,∃o,s₂.heap.get? b=some o):(VJ X scope xs C fp s₂ H₂).Ok where
 mod:=I.ok.mod
 kind:=sc.kind
 glob:=I.ok.glob
 blt:=I.ok.blt
 above:=hC
 inj:=fun y z c h1 h2=>I.ok.inj y z c (Jy sc I.ok h1) (Jy sc I.ok h2)
 has:=fun y hy=>by
  have hy':(relabel scope X.env).names.lookup y=some .cell\/(relabel scope X.env).names.lookup y=some .free:=hy
  have hf:scope.names.lookup y=some .free:=by
   rcases hy' with z|z
   ·exact(ZO sc.nc z).2 (.inl rfl)
   ·exact(ZO sc.nc z).2 (.inr rfl)
  exact UO hf
 cab:=fun y c h=>by cases h
 hd:=I.ok.hd
 frames:=I.ok.frames
 stk:=.inl rfl
 exf:=fun b hb=>by
  obtain⟨f0,f1,f2,f3,f4,f5⟩:=ff b hb
  obtain⟨o,ho⟩:=fo b hb
  exact⟨Zr8 (Zr0 (Heap.lt_size ho) hC),fun y c h=>f4 y c (Jy sc I.ok h)⟩
 bs:=I.bs
 bsz:=Zr7 I.ok.bsz I.sz
 noex:=fun b o e hb=>by
  obtain⟨f0,f1,f2,f3,f4,f5⟩:=ff b hb
  rcases f3 with z|z
  ·exact I.ok.noex b o e z
  ·exact absurd (Zr0 (Heap.lt_size e) (Zr7 I.ok.bsz z)) (Zsg _)
 exfs:=fun b hb z=>by
  obtain⟨f0,f1,f2,f3,f4,f5⟩:=ff b hb
  rcases Zrt.mp (I.stkSub b z) with e|e
  ·exact f1 e
  ·exact f2 e
 funs:=I.stack
 frf:=I.stkFree
 tab:=fun f c P h1=>I.base.tbls _ _ _ (I.ok.tab f c P h1)
theorem Zbs{E:Value->Shared->Prop}{Q:VK}{RR:Value->Addr->Result->Shared->Prop}(I:Inv X pins σ H₂ s₂)(ck:CkN X.N X.env.scope scope xs)(hx:x∈xs)(hNd:X.N.Nodup)(hc:X.calm=true)(T:Zjv X.prog X.w X.K tg J fp it tn)(st:tn 0 s₂.heap)(ff:∀b∈fp,ZfE X pins H₂ b)(hw:Zec σ Bd tt te J H₂ Q)(hb:PB X scope xs tg Bd)(ht:∀C s₂ H₂ ex,PCi (VJ X scope xs C ex s₂ H₂) ifs tt)(he:∀C s₂ H₂ ex,PE (VJ X scope xs C ex s₂ H₂) elt te)(hvs:∀x H vs,Bd x H vs->vs.length=xs.length)(hRR:∀D C s' H' m',s₂.heap.objs.size<=C->Inv X pins σ H' s'->s'.heap.Ns C m'->H' C=none->Q (.ref D) H'->RR (.ref D) C (.ok .next) s') :
  wpAny (model X.prog X.w) X.A (newList []) (fun acc s₃=>wpAny (model X.prog X.w) X.A (newFunctionEnv scope X.env.globals (Q7 scope X.env) [] X.env.qual none .none (some X.env)) (fun cenv s₄ =>
   codeAny (model X.prog X.w) X.A (.compStart (.ListComp elt [⟨tg,iter,ifs,0⟩] scope pos) 0 (.ref it) acc { cenv with scope:=relabel scope X.env }) (RR acc cenv.locals) s₄) E s₃) E s₂:=by
 have sc:=ck.scs x hx
 refine wpAny_newObj_type (wpAny_newFunctionEnv sc.nc (by intro y hy;simp at hy) (fun h₁ hns₁ hsb₁=>?_) sc.kind)
 dsimp only at hns₁ hsb₁ ⊢
 generalize hP2:s₂.heap.push { cls:=.type "list",dict:=none,data:=.seq ([]:List Value).toArray }=P2 at hns₁ hsb₁ ⊢
 have hCs:P2.objs.size=s₂.heap.objs.size+1:=by rw[<- hP2,Heap.size_push]
 have hCle:s₂.heap.objs.size<=P2.objs.size:=by rw[hCs];exact ZsI _
 have hDC:s₂.heap.objs.size≠P2.objs.size:=by rw[hCs];exact Zr8 (Zta _)
 generalize hCe:P2.objs.size=C at hns₁ hsb₁ hCs hCle hDC ⊢
 generalize hDe:s₂.heap.objs.size=D at hCs hCle hDC ⊢
 have fo:∀b∈fp,∃o,s₂.heap.get? b=some o:=fun b hb=>let ⟨o,e,_⟩:=T.obj _ _ st b hb;⟨o,e⟩
 have flt:∀b∈fp,b<D:=fun b hb=>by obtain⟨o,e⟩:=fo b hb;rw[<- hDe];exact Heap.lt_size e
 have old:∀b o,s₂.heap.get? b=some o->h₁.get? b=some o:=fun b o e=>by
  have hb:=Heap.lt_size e
  exact hsb₁.extBut b o (Zr8 (by rw[hCs];exact ZsV (hDe▸hb))) (Heap.get?_push_of_some _ (hP2▸Heap.get?_push_of_some _ e))
 have hacc:h₁.get? D=some { cls:=.type "list",data:=.seq ([]:List Value).toArray 0 }:=hsb₁.extBut _ _ hDC (Heap.get?_push_of_some _ (hP2▸hDe▸Heap.get?_push_size _ rfl))
 have okB:=Zjq (x:=x) (xs:=xs) (C:=C) I sc (by rw[hDe];exact hCle) ff fo
 have hfreshD:H₂ D=none:=I.hok.fresh (by rw[hDe];exact Zrl _)
 have hfreshC:H₂ C=none:=I.hok.fresh (by rw[hDe];exact hCle)
 have I0:Inv (VJ X scope xs C fp s₂ H₂) [(D,{ cls:=.type "list",data:=.seq ([]:List Value).toArray 0 })] (σ++List.replicate xs.length none) H₂ { s₂ with heap:=h₁,toks:=s₂.toks+([]:List (Str×Value)).length }:=by
  refine⟨okB,rfl,I.bare,Un.kept old,⟨_,hns₁,fun i y v e1 e2 e3=>?_⟩,fun y c e=>?_,hfreshC,fun y c e=>I.freeC y c (Jy sc I.ok e),fun p hp=>?_,I.hok.kept old,by simp[VJ,I.len]⟩
  ·have hi:i<σ.length:=by
    by_cases hi:i<σ.length
    ·exact hi
    ·rw[Zrs (by omega)] at e2
     rw[ZsM] at e2
     split at e2<;>cases e2
   rw[Zrw hi] at e2
   have e1':(X.N.map (Zat xs)++xs)[i]?=some y:=e1
   rw[Zrw (by rw[Zrj,<- I.len];exact hi),Zrn] at e1'
   have lk:scope.names.lookup y=some .local\/scope.names.lookup y=some .free:=by
    have e3':(relabel scope X.env).names.lookup y=some .local\/(relabel scope X.env).names.lookup y=some .cell\/(relabel scope X.env).names.lookup y=some .free:=e3
    rcases e3' with z|z|z
    ·exact .inl ((ZO sc.nc z).1 rfl)
    ·exact .inr ((ZO sc.nc z).2 (.inl rfl))
    ·exact .inr ((ZO sc.nc z).2 (.inr rfl))
   obtain⟨y0,ey0,ey⟩:∃y0,X.N[i]?=some y0/\Zat xs y0=y:=by
    cases q:X.N[i]? with
    |none=>rw[q] at e1';cases e1'
    |some y0=>rw[q] at e1';exact⟨y0,rfl,Option.some.inj e1'⟩
   have hy0:y0 ∉ xs:=fun z=>by
    have:y=Str.ofString "":=by rw[<- ey];unfold Zat;rw[if_pos (Zs8.mpr z)]
    rw[this,ck.noE] at lk
    rcases lk with z|z<;>cases z
   have ey2:y0=y:=by rw[<- ey];unfold Zat;rw[if_neg (fun z=>hy0 (Zs8.mp z))]
   rw[ey2] at ey0 hy0
   have e1':X.N[i]?=some y:=ey0
   have yN:y∈X.N:=Zrh e1'
   have e3':(relabel scope X.env).names.lookup y=some .local\/(relabel scope X.env).names.lookup y=some .cell\/(relabel scope X.env).names.lookup y=some .free:=e3
   have hcf:(relabel scope X.env).names.lookup y=some .cell\/(relabel scope X.env).names.lookup y=some .free:=by
    rcases e3' with z|z
    ·exact absurd ((ZO sc.nc z).1 rfl) (ck.noN y yN hy0)
    ·exact z
   have hfree:scope.names.lookup y=some .free:=by
    rcases hcf with z|z
    ·exact(ZO sc.nc z).2 (.inl rfl)
    ·exact(ZO sc.nc z).2 (.inr rfl)
   obtain⟨c,hcl⟩:=UO (X:=X) hfree
   have hcx:=Jy sc I.ok hcl
   have hvis:=sc.fr _ (PySem.mem_of_lookup hfree) rfl
   obtain⟨m,hn,hl⟩:=I.loc
   obtain⟨u,ru,hlook⟩:=hl i y v e1' e2 (.inr hvis)
   refine⟨u,ru,.inr ⟨hcf,c,hcl, ?_⟩⟩
   rcases hlook with ⟨k,_⟩|⟨k,c',ec,hcell⟩
   ·have k':X.env.scope.names.lookup y=some .local:=k
    have hv':X.env.scope.names.lookup y=some .cell\/X.env.scope.names.lookup y=some .free:=hvis
    rw[k'] at hv'
    rcases hv' with z|z<;>cases z
   ·rw[hcx] at ec;cases ec
    obtain⟨o,ho,hd⟩:=hcell
    exact⟨o,old _ _ ho,hd⟩
  ·obtain⟨v,o,ho,hd⟩:=I.cell y c (Jy sc I.ok e)
   exact⟨v,o,old _ _ ho,hd⟩
  ·have e:p=(D,{ cls:=.type "list",data:=.seq ([]:List Value).toArray 0 }):=by simpa[VJ] using hp
   subst e
   exact⟨hacc,hfreshD,hDC,(fun z=>by
    rcases Zrt.mp (I.stkSub D z) with e|e
    ·exact absurd I.lt (by rw[<- e,hDe];exact Zsg _)
    ·exact I.nofs (by rw[hDe];exact Zrl _) e),fun v z=>nomatch z⟩
 obtain⟨W,⟨m0,w0⟩,turn⟩:=hw
 have fpB:∀{H':Hp}{o:Obj},(∀b∈fp,H' b=none)->∀b∈fp,ZfE (VJ X scope xs C fp s₂ H₂) [(D,o)] H' b:=fun {H' o} hn b hb=>by
  obtain⟨f0,f1,f2,f3,f4,f5⟩:=ff b hb
  obtain⟨g1,g2⟩:=okB.exf b hb
  exact⟨hn b hb,g1,okB.exfs b hb,.inl hb,g2,fun p hp=>by
   have e:p=(D,o):=by simpa[VJ] using hp
   subst e
   exact(Zr8 (flt b hb)).symm⟩
 have hσ:σ.length=X.N.length:=I.len
 have loop:∀s₃:Shared,s₃={ s₂ with heap:=h₁,toks:=s₂.toks+([]:List (Str×Value)).length } ->
   codeAny (model X.prog X.w) X.A (.compLoop (.ListComp elt [⟨tg,iter,ifs,0⟩] scope pos) 0 (.ref it) (.ref D) (compEnvC scope (Q7 scope X.env) C X.env)) (RR (.ref D) C) s₃:=by
  rintro s₃ rfl
  refine VU
   (fun n s'=>∃i ys its k σx H',σx.length=xs.length/\Inv (VJ X scope xs C fp s₂ H₂) [(D,{ cls:=.type "list",data:=.seq (List.toArray its) k })] (σ++σx) H' s'/\tn i s'.heap/\(∀b∈fp,H' b=none)/\ZP ys its/\W i n ys H') ?_ m0
   ⟨0,[],[],0,List.replicate xs.length none,H₂,by simp,I0,T.keep _ _ _ st (fun b hb o e=>old b o e),fun b hb=>(ff b hb).1,.nil,w0⟩
  rintro n s' ⟨i,ys,its,k,σx,H',hσx,I',st',fr',rv,w'⟩
  obtain⟨hz,hcase⟩:=turn i n ys H' w'
  have hpinD:=I'.pin (D,{ cls:=.type "list",data:=.seq (List.toArray its) k }) (by simp[VJ])
  rcases hcase with ⟨stop,q⟩|⟨go,N,hN,step⟩
  ·refine thn (T.done (VJ X scope xs C fp s₂ H₂) rfl rfl rfl hc i _ s' _ H' _ I' (fpB fr') st' stop) fun r s4 ⟨hr,I4⟩=>?_
   subst hr
   have pD:=I4.pin (D,{ cls:=.type "list",data:=.seq (List.toArray its) k }) (by simp[VJ])
   obtain⟨m4,hn4,_⟩:=I4.loc
   have IX:Inv X pins σ H' s4:=I.call' I4.os I4.base I4.hok I4.bare fun b hb=>by
    obtain⟨f0,f1,f2,f3,f4,f5⟩:=ff b hb
    exact⟨f3,f1,f4,f5⟩
   have IX2:=IX.adopt (D:=D) (ys:=ys) (its:=its) (n:=k) hpinD.2.1 (by rw[<- hDe];exact I.sz) (by rw[<- hDe];exact ZsY I.lt)
    (fun y c e z=>by
     obtain⟨v,o,ho,hd⟩:=I.cell y c e
     have:=Heap.lt_size ho
     rw[hDe,z] at this
     exact Zsg _ this)
    (fun p hp z=>by
     have:=Heap.lt_size (I.pin p hp).1
     rw[hDe,z] at this
     exact Zsg _ this) pD.1 rv hz
   refine hRR D C s4 _ m4 (by rw[hDe];exact hCle) IX2 hn4 ?_ (q D hpinD.2.1)
   rw[Zp (Ne.symm hDC)]
   exact I4.free
  ·refine thn (T.item (VJ X scope xs C fp s₂ H₂) rfl rfl rfl hc i _ s' _ H' _ I' (fpB fr') st' go) fun r s4 ⟨u,hr,h4⟩=>?_
   subst hr
   refine thn h4 fun _ s5 ⟨y,H5,I5,r5,y5,st5,fr5⟩=>?_
   have I5':=I5.pinned (fpB fr5) (T.obj _ _ st5)
   obtain⟨vs,bd5,stp⟩:=step y H5 y5
   refine thn (hb C s₂ H₂ fp _ s5 σ σx H5 y u vs _ hσ hσx I5' r5 bd5) fun _ s6 I6=>?_
   refine thn (ht C s₂ H₂ fp _ s6 _ H5 _ _ I6 stp) fun ok s6' hok=>?_
   obtain⟨H6',I6',q6'⟩:=hok
   have hvl:=hvs _ _ _ bd5
   have stay:∀{s9:Shared}{H9:Hp}{ys':List V}{its':List Value}{k':Nat},True:=fun {_ _ _ _ _}=>trivial
   cases ok with
   |false =>
    rw[if_neg Bool.false_ne_true] at q6' ⊢
    have pD6:=I6'.pin (D,{ cls:=.type "list",data:=.seq (List.toArray its) k }) (by simp[VJ])
    obtain⟨m',hm,w8⟩:=hN _ _ q6'
    refine⟨m',hm,i+1,ys,its,k,vs.map some,H6',by simp[hvl],I6'.pins_of fun p hp=>?_, ?_,fun b hb'=>?_,rv,w8⟩
    ·have e:p=(D,{ cls:=.type "list",data:=.seq (List.toArray its) k }):=by simpa using hp
     subst e
     exact⟨pD6.1,pD6.2.1,pD6.2.2.1,pD6.2.2.2.1,fun v z=>nomatch z⟩
    ·refine T.keep _ _ _ st5 fun b hb' o e=>?_
     exact(I6'.pin (b,o) (Zrk _ (Zrk _ (J8 hb' e)))).1
    ·obtain⟨o,e,d⟩:=T.obj _ _ st5 b hb'
     exact(I6'.pin (b,o) (Zrk _ (Zrk _ (J8 hb' e)))).2.1
   |true =>
   rw[if_pos rfl] at q6' ⊢
   refine wpAny_mono (he C s₂ H₂ fp _ s6' _ H6' _ I6' q6') (fun u7 s7 h7=>?_) fun _ _ f=>f.elim
   obtain⟨v7,H7,I7,r7,n7⟩:=h7
   have pD7:=I7.pin (D,{ cls:=.type "list",data:=.seq (List.toArray its) k }) (by simp[VJ])
   have hlen:=rv.length
   refine append_at (hsz:=by show its.toArray.size<=sizeLine;rw[Zrq,<- hlen];exact hz) pD7.1 fun h8 hs8 hD8=>?_
   obtain⟨m',hm,w8⟩:=hN _ _ n7
   have hD8':h8.get? D=some { cls:=.type "list",data:=.seq (its++[u7]).toArray (k+1) }:=by rw[hD8,List.push_toArray]
   have I8:Inv (VJ X scope xs C fp s₂ H₂) [] (σ++vs.map some) H7 { s7 with heap:=h8 }:=by
    refine(I7.pins_of (pins':=[]) fun p hp=>absurd hp (by simp)).turned (t':=s7.toks) (it:=D) (fun b o hb e=>(hs8.2 b hb).trans e) pD7.2.1 pD7.2.2.1 (.inr (by show s₂.heap.objs.size<=D;rw[hDe];exact Zrl _)) (fun y' c' e' z=>?_) fun p hp=>absurd (show p∈([]:List (Addr×Obj)) from by simpa[VJ] using hp) (by simp)
    obtain⟨v,o,ho,hd⟩:=I.cell y' c' (Jy sc I.ok e')
    have:=Heap.lt_size ho
    rw[hDe,z] at this
    exact Zsg _ this
   refine⟨m',hm,i+1,ys++[v7],its++[u7],k+1,vs.map some,H7,by simp[hvl],I8.pins_of fun p hp=>?_, ?_,fun b hb'=>?_,rv.append (.cons r7 .nil),w8⟩
   ·have e:p=(D,{ cls:=.type "list",data:=.seq (its++[u7]).toArray (k+1) }):=by simpa using hp
    subst e
    exact⟨hD8',pD7.2.1,pD7.2.2.1,pD7.2.2.2.1,fun v z=>nomatch z⟩
   ·refine T.keep _ _ _ st5 fun b hb' o e=>?_
    have hpb:=I7.pin (b,o) (Zrk _ (Zrk _ (J8 hb' e)))
    exact(hs8.2 b (Zr8 (flt b hb'))).trans hpb.1
   ·obtain⟨o,e,d⟩:=T.obj _ _ st5 b hb'
    exact(I7.pin (b,o) (Zrk _ (Zrk _ (J8 hb' e)))).2.1
 exact codeAny_compStart_list (loop _ rfl) (T.self _ 0 _ _ _ (T.keep _ _ _ st fun b hb o e=>old b o e) (loop _ rfl))
theorem Qd{c:Expr}(hx:∀e s,X.xe e s->False)(h:PT X c tt):PCi X [c] tt:=fun pins s σ H Q E I q =>
 wpAny_tests_one (wpAny_mono (h pins s σ H Q I q) (fun _ _ z=>z) fun e s z=>(hx e s z).elim)
theorem Vb{px:Pos}(hNd:X.N.Nodup)(hchk:J7 X.N X.env.scope scope [x]=true:=by rfl):PB X scope [x] (.Name x px) tB1:=by
 intro C s₂ H₂ ex pins s σ σx H y u vs E hσ hσx I r hb
 have ck:=Vf hchk
 have sc:=ck.scs x (by simp)
 have hb:vs=[y]:=hb
 subst hb
 have ndB:=ck.nd
 refine wpAny_assign_Name ?_
 refine UG (X:=VJ X scope [x] C ex s₂ H₂) (i:=X.N.length) (x:=x) (v:=y) I ndB (by simp[VJ]) (.inl (lookup_relabel_local sc.var)) r (fun s6 I6=>?_) (.inr (lookup_relabel_local sc.var))
 obtain⟨o,rfl⟩:∃o,σx=[o]:=by
  cases σx with
  |nil=>simp at hσx
  |cons a l =>
   cases l with
   |nil=>exact⟨a,rfl⟩
   |cons b l=>simp at hσx
 have eσ:(σ++[o]).set X.N.length (some y)=σ++[some y]:=by
  rw[<- hσ];simp
 rw[eσ] at I6
 exact I6
theorem ZiP{α:Type}:∀{l:List α},l.length=2->∃a b,l=[a,b]
 |[a,b],_=>⟨a,b,rfl⟩
theorem Zi6{x y:Str}{px py tp:Pos}{k:Nat}(hNd:X.N.Nodup)(hc:X.calm=true)(hchk:J7 X.N X.env.scope scope [x,y]=true:=by rfl):PB X scope [x,y] (.Tuple [.Name x px,.Name y py] k tp) (tB2 X.K):=by
 intro C s₂ H₂ ex pins s σ σx H v u vs E hσ hσx I r hb
 have ck:=Vf hchk
 have sx:=ck.scs x (by simp)
 have sy:=ck.scs y (by simp)
 obtain⟨t,a,b,rfl,hq,rfl⟩:=hb
 have ndB:=ck.nd
 obtain⟨o1,o2,rfl⟩:=ZiP hσx
 have e1:(σ++[o1,o2]).set X.N.length (some a)=σ++[some a,o2]:=by
  rw[<- hσ];simp
 have e2:(σ++[some a,o2]).set (X.N.length+1) (some b)=σ++[some a,some b]:=by
  rw[<- hσ]
  show List.set (σ++([some a,o2]:St)) _ _=_
  rw[ZsZ _ _ (ZsI _)]
  simp
 have g1:PG (VJ X scope [x,y] C ex s₂ H₂) (.Name x px) (Qr X.N.length):=Ji ndB (by
  show (X.N.map (Zat [x,y])++[x,y])[X.N.length]?=some x
  rw[Zrs (by simp)];simp) (.inl (lookup_relabel_local sx.var)) (.inr (lookup_relabel_local sx.var))
 have g2:PG (VJ X scope [x,y] C ex s₂ H₂) (.Name y py) (Qr (X.N.length+1)):=Ji ndB (by
  show (X.N.map (Zat [x,y])++[x,y])[X.N.length+1]?=some y
  rw[Zrs (by simp)];simp) (.inl (lookup_relabel_local sy.var)) (.inr (lookup_relabel_local sy.var))
 have g:PG (VJ X scope [x,y] C ex s₂ H₂) (.Tuple [.Name x px,.Name y py] k tp) (ZlP X.K 2 (ZgP (Qr X.N.length) (ZgP (Qr (X.N.length+1)) ZlQ))):=ZhA (X:=VJ X scope [x,y] C ex s₂ H₂) hc (UI g1 (UI g2 Zeu))
 refine wpAny_mono (g pins s _ H _ _ (fun σ' H'=>σ'=σ++[some a,some b]/\H'=H) I r ⟨t,[a,b],rfl,hq,rfl,a,[b],rfl,b,[],rfl,rfl, ?_⟩) (fun _ s' hq'=>?_) fun _ _ z=>z.elim
 ·exact⟨by rw[e1,e2],rfl⟩
 ·obtain⟨σ',H',I',e3,e4⟩:=hq'
  subst e3 e4
  exact I'
theorem V2{wi:TI}(hi:PI X tg iter wi)(hb:PB X scope xs tg Bd)(ht:∀C s₂ H₂ ex,PCi (VJ X scope xs C ex s₂ H₂) ifs tt)(he:∀C s₂ H₂ ex,PE (VJ X scope xs C ex s₂ H₂) elt te)(hvs:∀x H vs,Bd x H vs->vs.length=xs.length)(hNd:X.N.Nodup)(hc:X.calm=true)(hclos:closureFor scope X.env=pure (Q7 scope X.env):=by rfl)(hchk:J7 X.N X.env.scope scope xs=true:=by rfl)(hs:∀x,foldedSetIterable iter X.env x=pure x:=by exact fun _=>rfl) :
  PE X (.ListComp elt [⟨tg,iter,ifs,0⟩] scope pos) (Q9 wi Bd tt te):=by
 intro pins s σ H Q I h
 have ck:=Vf hchk
 obtain⟨x,hx⟩:=ck.ex
 have sc:=ck.scs x hx
 rw[eval_ListComp]
 refine wpAny_comprehension_free (use:=none) rfl hs hclos sc.kind sc.locs (thn (hi pins s σ H _ I h) fun xv s₁ h₁=>thn h₁ fun itv s₂ h₂=>?_)
 obtain⟨it,fp,tn,J,H2,e,I2,T,st2,f2,q⟩:=h₂
 subst e
 refine Zbs (RR:=fun acc C=>compPost (model X.prog X.w) X.A X.xe none (EP X pins σ Q) acc C) I2 ck hx hNd hc T st2 f2 q hb ht he hvs ?_
 intro D C s' H' m' hC I' hn hC0 hq
 refine⟨m',hn,fun h'' hs''=>⟨.ref D,H', ?_,rfl,hq⟩⟩
 refine I'.turned (t':=s'.toks) (it:=C) (fun b o hb e=>(hs''.2 b hb).trans e) hC0 (ZsY (Zr0 I2.lt hC)) (.inr (Zr7 I2.sz hC)) (fun y c e z=>?_) fun p hp z=>?_
 ·obtain⟨v,o,ho,hd⟩:=I2.cell y c e
  exact absurd (Heap.lt_size ho) (Ztx.mpr (by rw[z];exact hC))
 ·exact absurd (Heap.lt_size (I2.pin p hp).1) (Ztx.mpr (by rw[z];exact hC))
noncomputable def UX(i:Nat)(wi:TI)(Bd:TB)(tt:TT)(te:TE):TS:=fun D σ H=>Q9 wi Bd tt te σ H fun v H'=>D.nx (σ.set i (some v)) H'
theorem Va{i:Nat}{y:Str}{py spos:Pos}{wi:TI}(hN:X.N.Nodup)(hi:X.N[i]?=some y)(hit:PI X tg iter wi)(hb:PB X scope xs tg Bd)(ht:∀C s₂ H₂ ex,PCi (VJ X scope xs C ex s₂ H₂) ifs tt)(he:∀C s₂ H₂ ex,PE (VJ X scope xs C ex s₂ H₂) elt te)(hvs:∀x H vs,Bd x H vs->vs.length=xs.length)(hc:X.calm=true)(hsw:swapsWith (.ListComp elt [⟨tg,iter,ifs,0⟩] scope pos) (some (.Name y py)) spos.line X.env=pure true:=by rfl)(hy:X.env.scope.names.lookup y=some .local:=by rfl)(hclos:closureFor scope X.env=pure (Q7 scope X.env):=by rfl)(hchk:J7 X.N X.env.scope scope xs=true:=by rfl)(hs:∀x,foldedSetIterable iter X.env x=pure x:=by exact fun _=>rfl) :
  PS X (.Assign [.Name y py] (.ListComp elt [⟨tg,iter,ifs,0⟩] scope pos) spos) (UX i wi Bd tt te):=by
 intro pins s σ H D0 I h
 have ck:=Vf hchk
 obtain⟨x,hx⟩:=ck.ex
 have sc:=ck.scs x hx
 rw[exec_Assign_Name_used _ _ _ _ hsw]
 refine wpAny_bind (wpAny_standAt (wpAny_bind ?_))
 show wpAny _ X.A (do let _ <- comprehension (.ListComp elt [⟨tg,iter,ifs,0⟩] scope pos) scope X.env _ (newList []) false (eval iter X.env) (some (assign (.Name y py) X.env))) _ _ s
 refine wpAny_bind (wpAny_mono (wpAny_comprehension_free (use:=some (assign (.Name y py) X.env)) (Q:=fun _ s'=>SP X pins D0 .next s') rfl hs hclos sc.kind sc.locs
  (thn (hit pins s σ H _ I h) fun xv s₁ h₁=>thn h₁ fun itv s₂ h₂=>?_)) (fun _ s' hq=>wpAny_pure (wpAny_pure hq)) fun _ _ e=>e)
 obtain⟨it,fp,tn,J,H2,e,I2,T,st2,f2,q⟩:=h₂
 subst e
 refine Zbs (RR:=fun acc C=>compPost (model X.prog X.w) X.A X.xe (some (assign (.Name y py) X.env)) (fun _ s'=>SP X pins D0 .next s') acc C) I2 ck hx hN hc T st2 f2 q hb ht he hvs ?_
 intro D C s' H' m' hC I' hn hC0 hq
 show wpAny _ X.A (assign (.Name y py) X.env (.ref D)) _ _ _
 have cellC:∀y c,X.env.cells.lookup y=some c->c≠C:=fun y c e z=>by
  obtain⟨v,o,ho,hd⟩:=I2.cell y c e
  exact absurd (Heap.lt_size ho) (Ztx.mpr (by rw[z];exact hC))
 have locC:C≠X.env.locals:=ZsY (Zr0 I2.lt hC)
 refine wpAny_assign_Name (ZaJ (i:=i) (v:=.ref D) I' hN hi (.inl hy) rfl (fun s'' I'' ⟨a,hsa,ha⟩=>?_) (.inr hy))
 have hCa:C≠a:=by
  rcases ha with z|z
  ·rw[z];exact locC
  ·exact(cellC _ _ z).symm
 refine⟨m',hn.sameBut hsa hCa,fun h'' hs''=>⟨σ.set i (some (.ref D)),H', ?_,hq⟩⟩
 refine I''.turned (t':=s''.toks) (it:=C) (fun b o hb e=>(hs''.2 b hb).trans e) hC0 locC (.inr (Zr7 I2.sz hC)) cellC fun p hp z=>?_
 exact absurd (Heap.lt_size (I2.pin p hp).1) (Ztx.mpr (by rw[z];exact hC))
end
noncomputable def Zcc{α β:Type}(f:α->Rr (Option β)):List α->Rr (List β)
 |[]=>.ok []
 |x::xs=>(f x).bind fun o=>(Zcc f xs).bind fun ys=>.ok (o.toList++ys)
def DB(K:W.Frag)(Bd:TB)(k:Nat)(hb:PV->Rr (List PV)):Prop:=(∀x e,hb x≠.exc e)/\∀(H:Hp) (S:Addr->Prop) (x:PV) (v:V) (xs:List PV),Rep K H S x v->hb x=.ok xs->xs.length=k/\∃vs,Bd v H vs/\Reps K H S xs vs
theorem ZhS{K:W.Frag}:DB K tB1 1 (fun x=>.ok [x]):=⟨fun x e h=>(by cases h),fun H S x v xs r h=>by
 cases h
 exact⟨rfl,[v],rfl,v,[],rfl,r,rfl⟩⟩
theorem ZmC{K:W.Frag}:DB K (tB2 K) 2 (asT 2):=by
 refine⟨fun x e h=>?_,fun H S x v xs r h=>?_⟩
 ·unfold asT at h
  split at h
  ·split at h<;>cases h
  ·cases h
 ·unfold asT at h
  split at h
  ·rename_i ys
   split at h
   ·rename_i hl
    cases h
    obtain⟨a,vs,rfl,hq,hr⟩:=r
    refine⟨hl,vs, ?_,hr⟩
    match xs,vs,hl,hr,hq with
    |[p,q],vs,_,hr,hq =>
     obtain⟨u,w,rfl,_,_⟩:=ZjU hr
     exact⟨a,u,w,rfl,hq.sqT,rfl⟩
   ·cases h
  ·cases h
section
variable {K:W.Frag}{B:Addr->Prop}{EX:PX->Hp->Prop}{H0 H H':Hp}{σ:St}{Γ Γ' Γ1 Γ2:List Md}{ρ:List PV}{F:Nat->List Addr}{R:List Addr}{k:Nat}{x:PV}{v:V}{te:TE}{tt:TT}{f fe:List PV->Rr PV}{c:List PV->Rr Bool}{Bd:TB}{hb:PV->Rr (List PV)}
theorem ZhP:DT K EX Γ Γ ZjD (fun _=>.ok true):=fun B H0 H σ ρ F R Q A d=>d H F (Z2.refl H) (fun _ _ h=>h) A
theorem Ag.pushN:∀{xs:List PV}{vs:List V}{σ:St}{Γ:List Md}{ρ:List PV},Reps K H (NO B F R) xs vs->Ag K B H0 H σ Γ ρ F R->Ag K B H0 H (σ++vs.map some) (Γ++List.replicate xs.length .S) (ρ++xs) F R
 |[],vs,σ,Γ,ρ,h,A=>by
  have h:vs=[]:=h
  subst h
  simpa using A
 |x::xs,vs,σ,Γ,ρ,h,A=>by
  obtain⟨v,r,rfl,h1,h2⟩:=h
  have:=Ag.pushN (xs:=xs) (vs:=r) h2 (A.push h1)
  simpa[Zsd] using this
theorem Ag.popN{n:Nat}{τ:St}{xs:List PV}(A:Ag K B H0 H (σ++τ) (Γ++List.replicate n .S) (ρ++xs) F R)(l1:σ.length=Γ.length)(l2:ρ.length=Γ.length):Ag K B H0 H σ Γ ρ F R:=by
 refine⟨A.same,A.own,A.young,A.youngR,A.live,A.liveR,A.disj,A.disjR,l1,l2,fun i=>?_⟩
 have:=A.slot i
 by_cases h1:i<Γ.length
 ·rw[Zrf,Zrf,Zrw h1,Zrw (by rw[l2];exact h1),Zrw (by rw[l1];exact h1),<- Zrf,<- Zrf] at this
  exact this
 ·rw[Zrf,Zr3 (by omega)]
  by_cases h2:i<Γ.length+n
  ·rw[Zrf,Zrs (by omega),ZsM,if_pos (by omega)] at this
   simp only[Zsk] at this
   exact this.1
  ·exact A.outF (by simp;omega)
theorem J6{wi:TI}{fi:List PV->Rr (List PV)}(hi:DIc K EX Γ Γ1 wi fi)(hB:DB K Bd k hb)(ht:DT K EX (Γ1++List.replicate k .S) (Γ1++List.replicate k .S) tt c)(he:DE K EX (Γ1++List.replicate k .S) (Γ1++List.replicate k .S) .F te fe) :
  DE K EX Γ Γ1 .F (Q9 wi Bd tt te) (fun ρ=>(fi ρ).bind fun xs=>(lenM xs).bind fun _=>(Zcc (fun x=>(hb x).bind fun as=>(c (ρ++as)).bind fun b=>if b=true then (fe (ρ++as)).bind fun y=>.ok (some y) else .ok none) xs).bind fun ys=>.ok (.lst ys)):=fun B H0 H σ ρ F R Q A d=>by
 refine hi B H0 H σ ρ F R _ A (d.bind.imp (fun xs _ d J H1 F1 s1 f1 A1 it=>?_) fun e q=>q)
 obtain⟨hlen,d⟩:=Dn.lenM d.bind
 generalize hgx:(fun x=>(hb x).bind fun as=>(c (ρ++as)).bind fun b=>if b=true then (fe (ρ++as)).bind fun y=>Rr.ok (some y) else .ok none)=gx at d
 have l1:=A1.lenS
 have l2:=A1.lenR
 refine⟨fun i m ys H2=>∃zs G F2,m=xs.length-i/\i<=xs.length/\ys.length<=i/\Z2 H1 H2/\Trees K H2 zs ys G/\(∀a∈G,a ∉ R/\(H1 a=none\/∃j,a∈F1 j))/\(∀i,∀a∈F2 i,a∈F1 i)/\Ag K B H0 H2 σ Γ1 ρ F2 (G++R) /\
  Dn ((Zcc gx (xs.drop i)).bind fun ys'=>.ok (.lst (zs++ys'))) (fun x=>∀v H',Z2 H H'->Res K B H0 H σ Γ1 ρ F R .F x v H'->Q v H') (fun e=>∀H',Z2 H0 H'->EX e H'),
  ⟨xs.length,[],[],F1,by simp,ZrI _,Zrl _,Z2.refl _,⟨rfl,rfl⟩,by simp,fun _ _ h=>h,A1,by simpa using d⟩, ?_⟩
 rintro i m ys H2 ⟨zs,G,F2,rfl,hi',hl,s2,tr,o2,f2,A2,dn⟩
 refine⟨Jk (by omega), ?_⟩
 have itp:=it H2 F2 s2 f2 i
 cases hx:xs[i]? with
 |none =>
  refine .inl ⟨itp.2 hx,fun p hp=>?_⟩
  have hd:xs.drop i=[]:=ZsU (ZrU.mp hx)
  rw[hd] at dn
  have dn':∀v H',Z2 H H'->Res K B H0 H σ Γ1 ρ F R .F (.lst (zs++[])) v H'->Q v H':=dn
  rw[ZsL] at dn'
  exact dn' _ _ ((s1.trans s2).trans (Z2.new hp)) (Res.newF (s1.trans s2) (fun i a h=>f1 i a (f2 i a h)) tr (fun a ha=>⟨(o2 a ha).1,(o2 a ha).2.elim (fun z=>.inl (s1.free z)) fun⟨j,z⟩=>.inr ⟨j,f1 j a z⟩⟩) A2 hp)
 |some x =>
  have hlt:i<xs.length:=(Zrg.mp hx).1
  obtain⟨go,yl⟩:=itp.1 x hx
  have hdx:xs.drop i=x::xs.drop (i+1):=by
   rw[ZrH hlt]
   rw[Zri hlt] at hx;cases hx;rfl
  rw[hdx] at dn
  simp only[Zcc,Rr.assoc] at dn
  rw[<- hgx] at dn
  simp only[Rr.assoc] at dn
  rw[hgx] at dn
  refine .inr ⟨go,fun ys' H'=>∃zs G F2,ys'.length<=i+1/\Z2 H1 H'/\Trees K H' zs ys' G/\(∀a∈G,a ∉ R/\(H1 a=none\/∃j,a∈F1 j))/\(∀i,∀a∈F2 i,a∈F1 i)/\Ag K B H0 H' σ Γ1 ρ F2 (G++R) /\
   Dn ((Zcc gx (xs.drop (i+1))).bind fun ys'=>.ok (.lst (zs++ys'))) (fun x=>∀v H',Z2 H H'->Res K B H0 H σ Γ1 ρ F R .F x v H'->Q v H') (fun e=>∀H',Z2 H0 H'->EX e H'),
   fun ys' H' ⟨zs,G,F2,a1,a2,a3,a4,a5,a6,a7⟩=>⟨xs.length-(i+1),by omega,zs,G,F2,rfl,hlt,a1,a2,a3,a4,a5,a6,a7⟩,fun v H3 y=>?_⟩
  obtain⟨s3,rx⟩:=yl v H3 y
  have rx':Rep K H3 (NO B F2 (G++R)) x v:=Rep.mono (fun a us s r=>⟨r,s.1.1,fun z=>by
   rcases Zro.mp z with z|z
   ·rcases (o2 a z).2 with q|⟨j,q⟩
    ·exact s.2.1 q
    ·exact s.2.2 j q
   ·exact s.1.2.1 z,s.1.2.2⟩) (fun a us r=>r) rx
  cases hbx:hb x with
  |exc e=>exact absurd hbx (hB.1 x e)
  |bad=>rw[hbx] at dn;exact dn.elim
  |ok as =>
   rw[hbx] at dn
   simp only[Rr.bind_ok] at dn
   obtain⟨hk,vs,bd,ra⟩:=hB.2 H3 _ x v as rx' hbx
   refine⟨vs,bd, ?_⟩
   have A3:=Ag.pushN ra (A2.grow s3)
   rw[hk] at A3
   refine ht B H0 H3 _ _ F2 (G++R) _ A3 (dn.bind.imp (fun b _ dn H4 F4 s4 f4 A4=>?_) fun e q=>q)
   cases b with
   |false =>
    rw[if_neg Bool.false_ne_true] at dn ⊢
    simp only[Rr.bind_ok,Ztr] at dn
    refine⟨zs,G,F4,by omega,(s2.trans s3).trans s4,(tr.same s3).same s4,o2,fun i a h=>f2 i a (f4 i a h),A4.popN l1 l2, ?_⟩
    simp only[Rr.assoc,Rr.bind_ok,Zsm] at dn
    exact dn
   |true =>
    rw[if_pos rfl] at dn ⊢
    simp only[Rr.assoc] at dn
    refine he B H0 H4 _ _ F4 (G++R) _ A4 (dn.bind.imp (fun z _ dn w H5 s5 r5=>?_) fun e q=>q)
    obtain⟨F5,f5,G5,t5,o5,A5⟩:=r5
    refine⟨zs++[z],G++G5,F5,by simp;omega,((s2.trans s3).trans s4).trans s5,Trees.append (((tr.same s3).same s4).same s5) (Trees.one t5) (fun a ha z=>(o5 a z).1 (Zrp _ ha)),fun a ha=>?_,fun i a h=>f2 i a (f4 i a (f5 i a h)),(A5.popN l1 l2).less fun a ha=>?_, ?_⟩
    ·rcases Zro.mp ha with z|z
     ·exact o2 a z
     ·refine⟨fun q=>(o5 a z).1 (Zrk _ q), ?_⟩
      rcases (o5 a z).2 with q|⟨j,q⟩
      ·exact .inl (((s2.trans s3).trans s4).free q)
      ·exact .inr ⟨j,f2 j a (f4 j a q)⟩
    ·simp only[Zro] at ha ⊢
     rcases ha with (z|z)|z
     ·exact .inr (.inl z)
     ·exact .inl z
     ·exact .inr (.inr z)
    ·simp only[Rr.assoc,Rr.bind_ok,Ztr,Zrr,Zs9] at dn ⊢
     exact dn
theorem Vd{EX:PX->Hp->Prop}{kd:Kd}{i:Nat}{wi:TI}(he:DE K EX Γ Γ' .F (Q9 wi Bd tt te) f)(hi:i<Γ'.length):DS K EX Γ ⟨Γ'.set i .O,Γ1,Γ2,kd⟩ (UX i wi Bd tt te) (fun ρ=>(f ρ).thenS fun x=>.next (ρ.set i x)):=ZG he hi
end
theorem hv1{n:Str}:∀(x:V) (H:Hp) (vs:List V),tB1 x H vs->vs.length=[n].length:=fun _ _ _ h=>congrArg List.length h
theorem hv2{K:W.Frag}{n m:Str}:∀(x:V) (H:Hp) (vs:List V),tB2 K x H vs->vs.length=[n,m].length:=fun _ _ _ ⟨_,_,_,_,_,h⟩=>congrArg List.length h
theorem Zgi{X:Cx}{K:W.Frag}{scope:Scope}{x y:Str}{px py tp:Pos}{k:Nat}(hNd:X.N.Nodup)(hc:X.calm=true)(hchk:J7 X.N X.env.scope scope [x,y]=true:=by rfl)(e:X.K=K:=by rfl):PB X scope [x,y] (.Tuple [.Name x px,.Name y py] k tp) (tB2 K):=by subst e;exact Zi6 hNd hc hchk
section
end
theorem Zgt{xs:List PV}{y:PV}(h:xs.length<1000000):pApp (.lst xs) y=.ok (.lst (xs++[y])):=if_pos h
theorem ZlX{a b:PV}:asT 2 (.tup [a,b])=.ok [a,b]:=rfl
noncomputable def Zm3:Nat:=4000000
def Zll(i j:Int):Prop:=i.natAbs<2^Zm3/\j.natAbs<2^Zm3
noncomputable instance (i j:Int):Decidable (Zll i j):=by unfold Zll;infer_instance
end L2
namespace Att
open PySem PySem.W PySem.Calls PyProof.Rows
end Att
namespace L2
open PySem PySem.Spec PyProof.Rows
section
end
noncomputable def okE(x:PV):Bool:=x.noX&&x.dat.canLay0&&decide (x.dat.depth<=60)
noncomputable def Zlo(K:W.Frag)(g:Bool->Bool):R2:=fun x y H Q=>∃p qs a vs,Rep K H (fun _=>True) p x/\y=.ref a/\(SqL K H a vs\/SqT K H a vs)/\Reps K H (fun _=>True) qs vs/\okE p=true/\(qs.all okE)=true/\Q (.bl (g (qs.any fun q=>PyData.eqv q.dat p.dat))) H
open Classical in
noncomputable def ZdE(h:Heap)(dx:PyData)(y:Value):Bool:=if hy:∃d as,Reads h y d as/\d.canLay0=true/\d.depth<=60 then PyData.eqv hy.choose dx else false
section
variable {X:Cx}{K:W.Frag}
theorem Zbm{H:Hp}{pins:List (Addr×Obj)}{σ:St}{s:Shared}{S:Addr->Prop}(I:Inv X pins σ H s)(dx:PyData):∀{qs:List PV}{vs:List V}{us:List Value},Reps X.K H S qs vs->ZP vs us->(qs.all okE)=true ->
  (us.any (ZdE s.heap dx)=qs.any fun q=>PyData.eqv q.dat dx)/\∀y∈us,∃d as,Reads s.heap y d as/\d.canLay0=true/\d.depth<=60
 |[],_,us,h,r,_=>by
  rw[h] at r;cases r
  exact⟨rfl,by simp⟩
 |q::qs,_,us,h,r,hk=>by
  obtain⟨v,vs,rfl,h1,h2⟩:=h
  simp only[List.all_cons,Bool.and_eq_true] at hk
  cases r with
  |cons r1 r2 =>
   rename_i u us
   obtain⟨e1,e2⟩:=Zbm I dx h2 r2 hk.2
   have h3:=hk.1
   simp only[okE,Bool.and_eq_true,decide_eq_true_eq] at h3
   obtain⟨as,ra⟩:=h1.reads I h3.1.1 r1
   have hx:∃d as,Reads s.heap u d as/\d.canLay0=true/\d.depth<=60:=⟨_,_,ra,h3.1.2,h3.2⟩
   refine⟨?_,fun y hy=>?_⟩
   ·have:ZdE s.heap dx u=PyData.eqv q.dat dx:=by
     unfold ZdE
     rw[dif_pos hx]
     obtain⟨as',ra',c1,c2⟩:=hx.choose_spec
     rw[SeqAt.Reads.unique _ _ _ _ _ c1 ra' ra]
    rw[Zsz,Zsz,e1,this]
   ·rcases Zrt.mp hy with rfl|hy
    ·exact hx
    ·exact e2 y hy
theorem ZhL{H:Hp}{pins:List (Addr×Obj)}{σ:St}{s:Shared}{g:Bool->Bool}{x y:V}{v u:Value}{Q:VK}(I:Inv X pins σ H s)(hu:X.A.units+64<cLine)(rx:Jf x v)(ry:Jf y u)(h:Zlo X.K g x y H Q) :
  ∃a items,u=.ref a/\(s.heap.IsList a items\/s.heap.IsTuple a items)/\∃e:Value->Bool,(∀y,y∈items->SeqAt.EqAt X.A.in1 s y v (e y))/\Q (.bl (g (items.any e))) H:=by
 obtain⟨p,qs,a,vs,h1,rfl,hq,hr,h3,h4,q⟩:=h
 cases ry
 simp only[okE,Bool.and_eq_true,decide_eq_true_eq] at h3
 obtain⟨as,ra⟩:=h1.reads I h3.1.1 rx
 have fin:∀its:List Value,ZP vs its->(∀y,y∈its.toArray->SeqAt.EqAt X.A.in1 s y v (ZdE s.heap p.dat y))/\Q (.bl (g (its.toArray.any (ZdE s.heap p.dat)))) H:=fun its rv=>by
  obtain⟨e1,e2⟩:=Zbm I p.dat hr rv h4
  refine⟨fun y hy=>?_, ?_⟩
  ·have hx:=e2 y (by simpa using hy)
   unfold ZdE
   rw[dif_pos hx]
   obtain⟨as',ra',c1,c2⟩:=hx.choose_spec
   refine SeqAt.eqAt_reads _ _ _ _ _ _ _ _ ra' ra c1 h3.1.2 ?_
   have:=Zth hx.choose.depth p.dat.depth
   have hin:X.A.in1.units<=X.A.units+1:=by simp[Around.in1]
   omega
  ·rw[List.any_toArray,e1];exact q
 rcases hq with hq|hq
 ·obtain⟨its,rv,pl,hz⟩:=I.list hq
  obtain⟨f1,f2⟩:=fin its rv
  exact⟨a,its.toArray,rfl,.inl pl.isList,_,f1,f2⟩
 ·obtain⟨its,rv,pl,hz⟩:=I.tuple hq
  obtain⟨f1,f2⟩:=fin its rv
  exact⟨a,its.toArray,rfl,.inr pl,_,f1,f2⟩
theorem Zkw(hu:X.A.units+64<cLine)(e:X.K=K:=by rfl):OpR X (compareOp .In) (Zlo K id):=by
 subst e
 intro pins s σ H x y v u Q I rx ry h
 obtain⟨a,items,rfl,hl,e,he,q⟩:=ZhL I hu rx ry h
 rcases hl with hl|hl
 ·exact SeqAt.in_listAt e hl he ⟨.bl _,H,I,rfl,q⟩
 ·exact SeqAt.in_tupleAt e hl he ⟨.bl _,H,I,rfl,q⟩
theorem Vr(hu:X.A.units+64<cLine)(e:X.K=K:=by rfl):OpR X (compareOp .NotIn) (Zlo K (!·)):=by
 subst e
 intro pins s σ H x y v u Q I rx ry h
 obtain⟨a,items,rfl,hl,e,he,q⟩:=ZhL I hu rx ry h
 rcases hl with hl|hl
 ·exact SeqAt.notIn_listAt e hl he ⟨.bl _,H,I,rfl,q⟩
 ·exact SeqAt.notIn_tupleAt e hl he ⟨.bl _,H,I,rfl,q⟩
end
noncomputable def ZhB(g:Bool->Bool)(x y:PV):Rr PV:=match y with
 |.lst ys=>if (okE x&&ys.all okE)=true then .ok (.bl (g (ys.any fun q=>PyData.eqv q.dat x.dat))) else .bad
 |.tup ys=>if (okE x&&ys.all okE)=true then .ok (.bl (g (ys.any fun q=>PyData.eqv q.dat x.dat))) else .bad
 |_=>.bad
section
variable {K:W.Frag}{EX:PX->Hp->Prop}{Γ Γ1 Γ2:List Md}{tb tc:TE}{fb fc:List PV->Rr PV}
theorem QX{g:Bool->Bool}(ha:DE K EX Γ Γ1 .A tb fb)(hb:DE K EX Γ1 Γ2 .A tc fc):DE K EX Γ Γ2 .P (tOp (Zlo K g) tb tc) (fun ρ=>(fb ρ).bind fun x=>(fc ρ).bind fun y=>ZhB g x y):=by
 refine Zhc (fun {H x y v w Q} rx ry ⟨z,e,q⟩=>?_) (fun x y z h=>?_) (fun x y e h=>?_) ha hb
 ·unfold ZhB at e
  split at e
  ·split at e
   ·rename_i ys hk
    cases e
    rw[Bool.and_eq_true] at hk
    obtain⟨a,vs,rfl,hn,hr⟩:=ry
    exact⟨x,_,a,vs,rx,rfl,.inl (JG (S:=fun _=>True) hn),hr,hk.1,hk.2,q rfl _ rfl⟩
   ·cases e
  ·split at e
   ·rename_i ys hk
    cases e
    rw[Bool.and_eq_true] at hk
    obtain⟨a,vs,rfl,hn,hr⟩:=ry
    exact⟨x,_,a,vs,rx,rfl,.inr hn.sqT,hr,hk.1,hk.2,q rfl _ rfl⟩
   ·cases e
  ·cases e
 ·unfold ZhB at h
  split at h
  ·split at h<;>cases h;rfl
  ·split at h<;>cases h;rfl
  ·cases h
 ·unfold ZhB at h
  split at h
  ·split at h<;>cases h
  ·split at h<;>cases h
  ·cases h
end
theorem Zfi{ns:List Int}{f:PV->Rr (Option PV)}{g:Nat->PV}(h:∀i,i<ns.length->f (.tup [.int i,.int (ns.getD i 0)])=.ok (some (g i))):Zcc f (Q6 (ns.map PV.int))=.ok ((List.range ns.length).map g):=by
 have e:Q6 (ns.map PV.int)=(List.range ns.length).map fun i=>PV.tup [.int (i:Nat),.int (ns.getD i 0)]:=by
  apply ZrX
  intro i
  unfold Q6
  rw[Ztd,Zrn,Zrn]
  by_cases hi:i<ns.length
  ·rw[Zri hi,ZrZ hi]
   simp[Zrf,Zri hi]
  ·rw[Zr3 (by omega),Zr3 (by simpa using hi)];rfl
 rw[e]
 have:∀l:List Nat,(∀i∈l,i<ns.length)->Zcc f (l.map fun i=>PV.tup [.int (i:Nat),.int (ns.getD i 0)])=.ok (l.map g):=by
  intro l
  induction l with
  |nil=>intro _;rfl
  |cons a l ih =>
   intro hl
   simp only[Zru,Zcc,h a (hl a (by simp)),Rr.bind_ok,ih fun i hi=>hl i (by simp[hi]),Ztr,Zs9]
 exact this _ fun i hi=>ZrB.mp hi
section
end
noncomputable def ZmF(x:PV):Rr (List PV):=match x with
 |.tup xs=>.ok xs
 |_=>.bad
section
variable {K:W.Frag}{H:Hp}{EX:PX->Hp->Prop}{Γ Γ':List Md}{te:TE}{f:List PV->Rr PV}
theorem ZiT{a:Addr}{xs:List PV}{S:Addr->Prop}(h:Rep K H S (.tup xs) (.ref a)):ItP K S (Itt K a) xs H:=by
 obtain⟨a',vs,e,hn,hr⟩:=h
 cases e
 intro i
 constructor
 ·intro x hx
  obtain⟨u,e1,e2⟩:=hr.get hx
  refine⟨⟨vs,u,hn.sqT,e1⟩,fun v H' ⟨e,y⟩=>?_⟩
  subst e
  have:=y vs hn.sqT
  rw[e1] at this;cases this
  exact⟨Z2.refl _,e2⟩
 ·intro hx
  exact⟨vs,hn.sqT,by rw[hr.length];exact ZrU.mp hx⟩
theorem ZkV(he:DE K EX Γ Γ' .Z te f):DI K EX Γ Γ' (Zlt K te) (fun ρ=>(f ρ).bind ZmF):=fun B H0 H σ ρ F R Q A d=>by
 refine he B H0 H σ ρ F R _ A (d.bind.imp (fun x _ d v H1 s1 r1=>?_) fun e q=>q)
 obtain⟨F1,f1,p1,A1⟩:=r1
 cases x with
 |tup xs =>
  obtain⟨a,vs,rfl,hn,hr⟩:=id p1
  exact⟨a,rfl,⟨vs,hn.sqT⟩,d _ H1 F1 s1 f1 A1 fun H2 F2 h=>ZiT (p1.frm h A1)⟩
 |_=>exact d.elim
end
structure Dat(n:Nat)(x:PV):Prop where
 nx:x.noX=true
 can:x.dat.canLay0=true
 dep:x.dat.depth<=n
theorem Zfu(i:Int):Dat 0 (.int i):=⟨rfl,by simp[PV.dat,PyData.canLay0],by simp[PV.dat,PyData.depth]⟩
theorem Zft{a:Str}(h:PyData.canLay0 (.str a)=true):Dat 0 (.str a):=⟨rfl,h,by simp[PV.dat,PyData.depth]⟩
theorem Zax{f:PV->Rr (Option PV)}{p:Nat->Bool}{g:Nat->PV}{lo:Int}{n:Nat}(h:∀i,i<n->f (.int (lo+(i:Nat)))=.ok (if p i=true then some (g i) else none)):Zcc f (ZcE lo n)=.ok (((List.range n).filter p).map g):=by
 have key:∀(l:List Nat),(∀i∈l,i<n)->Zcc f (l.map fun(i:Nat)=>PV.int (lo+i))=.ok ((l.filter p).map g):=by
  intro l
  induction l with
  |nil=>intro _;rfl
  |cons a l ih =>
   intro hl
   simp only[Zru,Zcc,h a (hl a (by simp)),Rr.bind_ok,ih fun i hi=>hl i (by simp[hi])]
   cases hp:p a<;>simp[hp,List.filter_cons]
 exact key _ fun i hi=>ZrB.mp hi
theorem Zg3{f:PV->Rr PV}{g:Nat->PV}{lo:Int}{n:Nat}(h:∀i,i<n->f (.int (lo+(i:Nat)))=.ok (g i)):Zb1 f (ZcE lo n)=.ok ((List.range n).map g):=by
 have key:∀(l:List Nat),(∀i∈l,i<n)->Zb1 f (l.map fun(i:Nat)=>PV.int (lo+i))=.ok (l.map g):=by
  intro l
  induction l with
  |nil=>intro _;rfl
  |cons a l ih =>
   intro hl
   simp only[Zru,Zb1,h a (hl a (by simp)),Rr.bind_ok,ih fun i hi=>hl i (by simp[hi])]
 exact key _ fun i hi=>ZrB.mp hi
section
end
theorem us1{α:Type}{us:List α}(h:us.length=1):∃a,us=[a]:=match us,h with | [a],_=>⟨a,rfl⟩
theorem us2{α:Type}{us:List α}(h:us.length=2):∃a b,us=[a,b]:=match us,h with | [a,b],_=>⟨a,b,rfl⟩
theorem us3{α:Type}{us:List α}(h:us.length=3):∃a b c,us=[a,b,c]:=match us,h with | [a,b,c],_=>⟨a,b,c,rfl⟩
theorem us4{α:Type}{us:List α}(h:us.length=4):∃a b c d,us=[a,b,c,d]:=match us,h with | [a,b,c,d],_=>⟨a,b,c,d,rfl⟩
section
end
theorem Dat.okE{n:Nat}{x:PV}(h:Dat n x)(hn:n<=60:=by decide):okE x=true:=by
 unfold L2.okE
 rw[h.nx,h.can,decide_eq_true (Zr7 h.dep hn)];rfl
theorem JA{g:Bool->Bool}{i:Int}{ns:List Int}:ZhB g (.int i) (.lst (ns.map PV.int))=.ok (.bl (g (decide (i∈ns)))):=by
 have hall:∀ns:List Int,(okE (.int i)&&(ns.map PV.int).all okE)=true:=fun ns=>by
  rw[(Zfu i).okE,Bool.true_and,ZrR]
  intro x hx
  obtain⟨q,_,rfl⟩:=Zrz.mp hx
  exact(Zfu q).okE
 simp only[ZhB]
 rw[if_pos (hall ns)]
 congr 3
 induction ns with
 |nil=>simp
 |cons q M ih =>
  rw[Zru,Zsz,ih]
  simp only[PV.dat,PyData.eqv]
  by_cases c:q=i
  ·simp[c]
  ·have:¬i=q:=fun z=>c z.symm
   simp[c,this]
section
end
noncomputable abbrev PL2:=Addr×List Int
section
end
noncomputable def Zj0(t:List Int):PV:=.lst (t.map PV.int)
section
end
theorem Zbl{α:Type}{f:PV->Rr (Option PV)}{q:α->PV}{p:α->Bool}{g:α->PV}{L:List α}(h:∀x∈L,f (q x)=.ok (if p x=true then some (g x) else none)):Zcc f (L.map q)=.ok ((L.filter p).map g):=by
 induction L with
 |nil=>rfl
 |cons a l ih =>
  simp only[Zru,Zcc,h a (by simp),Rr.bind_ok,ih fun z hz=>h z (by simp[hz])]
  cases hp:p a<;>simp[hp,List.filter_cons]
noncomputable def minus(H:Hp)(G:List Addr):Hp:=fun a=>if a∈G then none else H a
theorem Zdb{H:Hp}{G:List Addr}{a:Addr}(h:a∈G):minus H G a=none:=if_pos h
theorem ZR{H:Hp}{G:List Addr}{a:Addr}(h:a ∉ G):minus H G a=H a:=if_neg h
theorem Zd4{H:Hp}{G:List Addr}:Z2 (minus H G) H:=fun a o h=>by
 unfold minus at h
 split at h
 ·cases h
 ·exact h
theorem Rd.minus{H:Hp}{G:List Addr}{a:Addr}{u:HO}(h:Rd H a u)(n:a ∉ G):Rd (minus H G) a u:=by
 rcases h with h|⟨o,h⟩
 ·exact .inl (by rw[ZR n];exact h)
 ·exact .inr ⟨o,by rw[ZR n];exact h⟩
theorem Im.minus{K:W.Frag}{H:Hp}{G:List Addr}{a:Addr}{k:HO}(hG:∀b∈G,∃vs:LvO,H b=some vs.1)(h:Im K H a k):Im K (minus H G) a k:=by
 refine⟨?_,h.2⟩
 rw[ZR fun z=>?_]
 ·exact h.1
 ·obtain⟨vs,q⟩:=hG a z
  exact Zar vs.2 h.2 (by rw[h.1] at q;exact Option.some.inj q)
section
variable {K:W.Frag}{B:Addr->Prop}{H0 H H':Hp}{σ:St}{Γ:List Md}{ρ:List PV}{F:Nat->List Addr}
theorem Ag.lost{G:List Addr}(A:Ag K B H0 H σ Γ ρ F (G++[]))(s:Z2 (minus H G) H'):Ag K B H0 H' σ Γ ρ F []:=by
 have hG:∀b∈G,∃vs:LvO,H b=some vs.1:=fun b hb=>A.liveR b (by simp[hb])
 refine⟨fun a o h=>s a o ?_,A.own,A.young,by simp,fun i a ha=>?_,by simp,A.disj,by simp,A.lenS,A.lenR,fun i=>?_⟩
 ·rw[ZR (fun z=>by have:=A.youngR a (by simp[z]);rw[h] at this;cases this)]
  exact A.same a o h
 ·obtain⟨vs,q⟩:=A.live i a ha
  exact⟨vs,s _ _ (by rw[ZR (fun z=>A.disjR i a ha (by simp[z]))];exact q)⟩
 ·refine(A.slot i).mono (fun a vs n r=>⟨(r.minus (fun z=>n.2.1 (by simp[z]))).same s,n.1,by simp,n.2.2⟩) (fun a vs r=>s.im (r.minus hG)) fun a ha vs q=>s _ _ (by rw[ZR (fun z=>A.disjR i a ha (by simp[z]))];exact q)
end
noncomputable def frz(m:Md):Md:=if m=.O\/m=.T then .S else m
section
end
end L2
namespace HL
open PySem PyProof.Rows
section
open PySem.SeqAt
open PySem.AutoSeq1 (wpAny_loadPart')
open PySem.MeetsSeq PySem.MeetsSeq2 PySem.MeetsSeq3 SeqRoads2
end
section
end
end HL
namespace L2
open PySem PySem.Spec PyProof.Rows
section
end
def G0(K:W.Frag)(B:Addr->Prop)(H0 H:Hp)(σ:St)(Γb:List Md)(ρ:List PV)(L v:Nat)(a:Addr)(vs:List V)(xs:List PV)(G Gx:List Addr):Prop:=
 Ag K B H0 H σ Γb ρ (fun _=>[]) (a::(G++Gx))/\σ[L]?=some (some (.ref a))/\gv L ρ=.lst xs/\H a=some (.lst vs)/\Trees K H xs vs G/\a ∉ G/\∃w,σ[v]?=some (some w)/\vs[0]?=some w/\xs[0]?=some (gv v ρ)
section
end
theorem Zdf{α β:Type}{f:α->Rr β}:∀{xs:List α},Zcc (fun x=>(f x).bind fun y=>.ok (some y)) xs=Zb1 f xs
 |[]=>rfl
 |x::xs=>by
  simp only[Zcc,Zb1,Rr.assoc,Zdf (xs:=xs),Rr.bind_ok,Ztr,Zs9]
section
variable {K:W.Frag}{EX:PX->Hp->Prop}{Γ Γ1:List Md}{te:TE}{fe:List PV->Rr PV}
theorem J5{wi:TI}{fi:List PV->Rr (List PV)}(hi:DIc K EX Γ Γ1 wi fi)(he:DE K EX (Γ1++[.S]) (Γ1++[.S]) .F te fe) :
  DE K EX Γ Γ1 .F (Q9 wi tB1 ZjD te) (fun ρ=>(fi ρ).bind fun xs=>(lenM xs).bind fun _=>(Zb1 (fun x=>fe (ρ++[x])) xs).bind fun ys=>.ok (.lst ys)):=by
 have h:=J6 (k:=1) hi ZhS ZhP he
 simp only[Rr.bind_ok,if_true,Zdf] at h
 exact h
variable {X:Cx}{scope:Scope}{x y:Str}{elt iter:Expr}{pos px py spos:Pos}{wi:TI}{i:Nat}
theorem JL(hi:PI X (.Name x px) iter wi)(he:∀C s₂ H₂ ex,PE (VJ X scope [x] C ex s₂ H₂) elt te)(hNd:X.N.Nodup)(hc:X.calm=true)(hclos:closureFor scope X.env=pure (Q7 scope X.env):=by rfl)(hchk:J7 X.N X.env.scope scope [x]=true:=by rfl)(hs:∀x,foldedSetIterable iter X.env x=pure x:=by exact fun _=>rfl) :
  PE X (.ListComp elt [⟨.Name x px,iter,[],0⟩] scope pos) (Q9 wi tB1 ZjD te):=V2 hi (Vb hNd hchk) (fun _ _ _ _=>Zey) he hv1 hNd hc hclos hchk hs
theorem ZbH(hN:X.N.Nodup)(hi:X.N[i]?=some y)(hit:PI X (.Name x px) iter wi)(he:∀C s₂ H₂ ex,PE (VJ X scope [x] C ex s₂ H₂) elt te)(hc:X.calm=true)(hsw:swapsWith (.ListComp elt [⟨.Name x px,iter,[],0⟩] scope pos) (some (.Name y py)) spos.line X.env=pure true:=by rfl)(hy:X.env.scope.names.lookup y=some .local:=by rfl)(hclos:closureFor scope X.env=pure (Q7 scope X.env):=by rfl)(hchk:J7 X.N X.env.scope scope [x]=true:=by rfl)(hs:∀x,foldedSetIterable iter X.env x=pure x:=by exact fun _=>rfl) :
  PS X (.Assign [.Name y py] (.ListComp elt [⟨.Name x px,iter,[],0⟩] scope pos) spos) (UX i wi tB1 ZjD te):=Va hN hi hit (Vb hN hchk) (fun _ _ _ _=>Zey) he hv1 hc hsw hy hclos hchk hs
end
section
open Builtin Builtin.Str
end
section
end
section
variable {κ:Type} [DecidableEq κ]
noncomputable def ZdU(kvs:List (κ×V))(k:κ):Option V:=(kvs.find? fun kv=>decide (kv.1=k)).map (·.2)
noncomputable def ZdN(kvs:List (κ×V))(k:κ)(v:V):List (κ×V):=
 if (kvs.any fun kv=>decide (kv.1=k))=true then kvs.map (fun kv=>if kv.1=k then (kv.1,v) else kv) else kvs++[(k,v)]
theorem UA{p:κ×V}{r:List (κ×V)}{k:κ}(e:p.1=k):ZdU (p::r) k=some p.2:=by simp[ZdU,ZsA,e]
theorem UB{p:κ×V}{r:List (κ×V)}{k:κ}(e:¬p.1=k):ZdU (p::r) k=ZdU r k:=by simp[ZdU,ZsA,e]
theorem Zc0(k:κ):∀kvs:List (κ×V),(kvs.any fun kv=>decide (kv.1=k))=(ZdU kvs k).isSome
 |[]=>rfl
 |p::r=>by
  rw[Zsz]
  by_cases e:p.1=k
  ·simp only[UA e,decide_eq_true e,Bool.true_or,Option.isSome_some]
  ·rw[UB e,decide_eq_false e,Bool.false_or];exact Zc0 k r
theorem Qk(kvs:List (κ×V))(k:κ)(v:V):(ZdN kvs k v).length<=kvs.length+1:=by
 unfold ZdN
 split
 ·rw[Zrj];omega
 ·rw[ZrT,ZrF,Zti];omega
theorem ZfL.isSome_eq{o:Option V}{u:Option Value}(r:ZfL o u):o.isSome=u.isSome:=by
 cases o with
 |none=>cases u with
  |none=>rfl
  |some _=>exact(show False from r).elim
 |some _=>cases u with
  |none=>exact(show False from r).elim
  |some _=>rfl
theorem KV.val{kvs:List (κ×V)}{vs:List (κ×Value)}(r:KV kvs vs)(k:κ):ZfL (ZdU kvs k) (valueAt vs k):=by
 unfold KV at r
 induction r with
 |nil=>exact True.intro
 |@cons p q ps qs h t ih =>
  obtain⟨h1,h2⟩:=h
  by_cases e:p.1=k
  ·have e':q.1=k:=h1.symm.trans e
   have b:valueAt (q::qs) k=some q.2:=by simp[valueAt,ZsA,e']
   rw[UA e,b];exact h2
  ·have e':¬q.1=k:=fun z=>e (h1.trans z)
   have b:valueAt (q::qs) k=valueAt qs k:=by simp[valueAt,ZsA,e']
   rw[UB e,b];exact ih
theorem KV.any{kvs:List (κ×V)}{vs:List (κ×Value)}(r:KV kvs vs)(k:κ):(kvs.any fun kv=>decide (kv.1=k))=vs.any fun kv=>decide (kv.1=k):=by
 unfold KV at r
 induction r with
 |nil=>rfl
 |cons h t ih=>rw[Zsz,Zsz,ih,h.1]
theorem KV.repl{kvs:List (κ×V)}{vs:List (κ×Value)}(r:KV kvs vs)(k:κ){y:V}{u:Value}(ry:Jf y u) :
  KV (kvs.map fun kv=>if kv.1=k then (kv.1,y) else kv) (vs.map fun kv=>if kv.1=k then (kv.1,u) else kv):=by
 unfold KV at r ⊢
 induction r with
 |nil=>exact .nil
 |@cons p q ps qs h t ih =>
  rw[Zru,Zru]
  refine .cons ?_ ih
  obtain⟨h1,h2⟩:=h
  by_cases e:p.1=k
  ·rw[if_pos e,if_pos (h1.symm.trans e)];exact⟨h1,ry⟩
  ·rw[if_neg e,if_neg (fun z=>e (h1.trans z))];exact⟨h1,h2⟩
theorem KV.put{kvs:List (κ×V)}{vs:List (κ×Value)}(r:KV kvs vs)(k:κ){y:V}{u:Value}(ry:Jf y u):KV (ZdN kvs k y) (stored vs k u):=by
 unfold ZdN stored
 rw[r.any k]
 by_cases e:(vs.any fun kv=>decide (kv.1=k))=true
 ·rw[if_pos e,if_pos e];exact r.repl k ry
 ·rw[if_neg e,if_neg e];exact Paired.snoc r ⟨rfl,ry⟩
theorem KV.length{kvs:List (κ×V)}{vs:List (κ×Value)}(r:KV kvs vs):kvs.length=vs.length:=Paired.length r
end
theorem ZgA{P:Program}{w:World}{k:Key}{u:Value}(r:Jf (kV k) u):(Jj P w).is k u=true:=by
 cases k with
 |inl i=>obtain⟨t,e⟩:=(show ∃t,u=Value.int i t from r);subst e;exact ZbR P w i t
 |inr x=>obtain⟨t,e⟩:=(show ∃t,u=Value.str x t from r);subst e;exact ZbQ P w x t
theorem Zba{P:Program}{w:World}:∀{ks:List Key}{us:List Value},ZP (ks.map kV) us->ItemsAre (Jj P w) ks us
 |[],_,r=>by rw[ZsK] at r;cases r;exact .nil
 |k::ks,_,r=>by
  rw[Zru] at r
  cases r with
  |cons h t=>exact .cons (ZgA h) (Zba t)
noncomputable abbrev KT(H:Hp):List (List Key×V)->List (List Key×Addr×Value)->Prop:=Paired fun p q=>p.1=q.1/\H q.2.1=some (.tup (p.1.map kV))/\Jf p.2 q.2.2
theorem KT.val{H:Hp}{kvs:List (List Key×V)}{xs:List (List Key×Addr×Value)}(r:KT H kvs xs)(k:List Key):ZfL (ZdU kvs k) ((atKey xs k).map (·.2)):=by
 induction r with
 |nil=>exact True.intro
 |@cons p q ps qs h t ih =>
  obtain⟨h1,_,h2⟩:=h
  by_cases e:p.1=k
  ·have e':q.1=k:=h1.symm.trans e
   have b:atKey (q::qs) k=some q.2:=by simp[atKey,ZsA,e']
   rw[UA e,b];exact h2
  ·have e':¬q.1=k:=fun z=>e (h1.trans z)
   have b:atKey (q::qs) k=atKey qs k:=by simp[atKey,ZsA,e']
   rw[UB e,b];exact ih
theorem KT.repl{H:Hp}{kvs:List (List Key×V)}{xs:List (List Key×Addr×Value)}(r:KT H kvs xs)(k:List Key){y:V}{u:Value}(ry:Jf y u) :
  KT H (kvs.map fun kv=>if kv.1=k then (kv.1,y) else kv) (xs.map (putAt k u)):=by
 induction r with
 |nil=>exact .nil
 |@cons p q ps qs h t ih =>
  rw[Zru,Zru]
  refine .cons ?_ ih
  obtain⟨h1,h2,h3⟩:=h
  unfold putAt
  by_cases e:p.1=k
  ·rw[if_pos e,if_pos (h1.symm.trans e)];exact⟨h1,h2,ry⟩
  ·rw[if_neg e,if_neg (fun z=>e (h1.trans z))];exact⟨h1,h2,h3⟩
theorem KT.put{H:Hp}{kvs:List (List Key×V)}{xs:List (List Key×Addr×Value)}(r:KT H kvs xs)(k:List Key){b:Addr}{y:V}{u:Value}(hb:H b=some (.tup (k.map kV)))(ry:Jf y u) :
  KT H (ZdN kvs k y) (storedH xs k b u):=by
 have e:(kvs.any fun kv=>decide (kv.1=k))=(atKey xs k).isSome:=by
  rw[Zc0,(r.val k).isSome_eq,Option.isSome_map]
 unfold ZdN storedH
 rw[e]
 by_cases q:(atKey xs k).isSome=true
 ·rw[if_pos q,if_pos q];exact r.repl k ry
 ·rw[if_neg q,if_neg q];exact Paired.snoc r ⟨rfl,hb,ry⟩
theorem KT.keeps{H H':Hp}{kvs:List (List Key×V)}{xs:List (List Key×Addr×Value)}(r:KT H kvs xs)(ht:∀b ys,H b=some (.tup ys)->H' b=some (.tup ys)):KT H' kvs xs:=
 Paired.mapP r fun _ _ z=>⟨z.1,ht _ _ z.2.1,z.2.2⟩
section
variable {P:Program}{w:World}{H:Hp}{h:Heap}{a:Addr}
theorem Zga{u:HO}(ok:HOk P w H h)(e:Rd H a u):Jt P w H h a u:=e.ok ok
theorem ZgV{kvs:List (Key×V)}(ok:HOk P w H h)(e:Rd H a (.dK kvs)):kvs.length<=sizeLine/\(a==sysModules)=false/\∃vs,KV kvs vs/\h.DictOf (Jj P w) a vs:=
 show Jt P w H h a (.dK kvs) from Zga ok e
theorem ZlR{kvs:List (Key×V)}(ok:HOk P w H h)(e:H a=some (.dK kvs)):kvs.length<=sizeLine/\(a==sysModules)=false/\∃vs,KV kvs vs/\h.DictOf (Jj P w) a vs:=ZgV ok (.inl e)
theorem ZaZ{ks:List Key}(ok:HOk P w H h)(e:H a=some (.tup (ks.map kV))):(tupleKind (Jj P w)).is h ks a:=by
 obtain⟨_,its,r,o,h1,h2,n,h3⟩:=(show Jt P w H h a (.tup (ks.map kV)) from ok a _ e)
 exact⟨o,its.toArray,n,h1,h2,h3,by simpa using Zba r⟩
theorem ZgT{kvs:List (List Key×V)}(ok:HOk P w H h)(e:Rd H a (.dT kvs)):kvs.length<=sizeLine/\(a==sysModules)=false /\
  ∃xs,KT H kvs xs/\h.DictOfH (tupleKind (Jj P w)) a xs:=by
 obtain⟨z,y,xs,r,o,es,ep,h1,h2,h3,h4,h5⟩:=(show Jt P w H h a (.dT kvs) from Zga ok e)
 refine⟨z,y,xs,r,o,es,ep,h1,h2,h3,h4,fun x hx=>?_,h5⟩
 have all:∀{l:List (List Key×V)}{m:List (List Key×Addr×Value)},KT H l m->∀x∈m,(tupleKind (Jj P w)).is h x.1 x.2.1:=by
  intro l m q
  induction q with
  |nil=>intro x hx;exact nomatch hx
  |@cons p q ps qs hq t ih =>
   intro x hx
   rcases Zrt.mp hx with e|hx
   ·subst e
    exact ZaZ ok (by rw[<- hq.1];exact hq.2.1)
   ·exact ih x hx
 exact all r x hx
theorem ZkR{kvs:List (List Key×V)}(ok:HOk P w H h)(e:H a=some (.dT kvs)):kvs.length<=sizeLine/\(a==sysModules)=false /\
  ∃xs,KT H kvs xs/\h.DictOfH (tupleKind (Jj P w)) a xs:=ZgT ok (.inl e)
end
def Zj4(H:Hp)(a:Addr)(y:V)(r:Option V):Prop:=
 (∃kvs k,Rd H a (.dK kvs)/\y=kV k/\r=ZdU kvs k)\/∃kvs k b,Rd H a (.dT kvs)/\y=.ref b/\H b=some (.tup (k.map kV))/\r=ZdU kvs k
def Zm2(H:Hp)(a:Addr)(y v:V)(H':Hp):Prop:=
 (∃kvs k,H a=some (.dK kvs)/\y=kV k/\kvs.length<sizeLine/\H'=upd H a (.dK (ZdN kvs k v))) \/
 ∃kvs k b,H a=some (.dT kvs)/\y=.ref b/\H b=some (.tup (k.map kV))/\kvs.length<sizeLine/\H'=upd H a (.dT (ZdN kvs k v))
section
variable {X:Cx}{pins:List (Addr×Obj)}{σ:St}{H:Hp}{s:Shared}{a:Addr}{y v:V}{u r:Value}{o:Option V}{A:Around}{E:Value->Shared->Prop}
theorem Inv.big(I:Inv X pins σ H s):sysModules<s.heap.objs.size:=by
 have h:mainGlobals<s.heap.objs.size:=(I.mod.glob.keeps I.bk).lt
 exact Nat.lt_trans (by decide) h
theorem Zfw{Q:Value->Shared->Prop}(hu:A.units+1<cLine)(I:Inv X pins σ H s)(g:Zj4 H a y (some v))(ry:Jf y u)(h:∀w' s',Inv X pins σ H s'->Jf v w'->Q w' s') :
  wpAny (model X.prog X.w) A (getItem (.ref a) u) Q E s:=by
 rcases g with ⟨kvs,k,e,ey,l⟩|⟨kvs,k,b,e,ey,eb,l⟩
 ·subst ey
  obtain⟨z,hd,vs,rel,dd⟩:=ZgV I.hok e
  obtain⟨w',hw,rw'⟩:=ZfL.some_of (v:=v) (o:=valueAt vs k) (by rw[l];exact rel.val k)
  exact wpAny_getItem_of (ZgA ry) dd.mapOf hw (h w' _ (I.tok _) rw')
 ·subst ey
  cases (show u=Value.ref b from ry)
  obtain⟨z,hd,xs,rel,dd⟩:=ZgT I.hok e
  obtain⟨w',hw,rw'⟩:=ZfL.some_of (v:=v) (o:=(atKey xs k).map (·.2)) (by rw[l];exact rel.val k)
  obtain⟨p,hp,hp2⟩:=Zs3.mp hw
  refine wpAny_getItem_heap (tupleKind_room_in1 hu) (ZaZ I.hok eb) dd hp ?_
  rw[hp2]
  exact h w' _ (I.tok _) rw'
theorem Zjl{Q:Value->Shared->Prop}(hu:A.units+1<cLine)(I:Inv X pins σ H s)(g:Zj4 H a y o)(ry:Jf y u)(h:∀s',Inv X pins σ H s'->Q (.bool (!o.isSome)) s') :
  wpAny (model X.prog X.w) A (compareOp .NotIn u (.ref a)) Q E s:=by
 rcases g with ⟨kvs,k,e,ey,l⟩|⟨kvs,k,b,e,ey,eb,l⟩
 ·subst ey
  obtain⟨z,hd,vs,rel,dd⟩:=ZgV I.hok e
  refine wpAny_notIn_of (ZgA ry) hd dd.mapOf ?_
  rw[<- (rel.val k).isSome_eq,<- l]
  exact h _ (I.tok _)
 ·subst ey
  cases (show u=Value.ref b from ry)
  obtain⟨z,hd,xs,rel,dd⟩:=ZgT I.hok e
  refine wpAny_notIn_heap (tupleKind_room_in1 hu) (ZaZ I.hok eb) hd dd ?_
  have q:=(rel.val k).isSome_eq
  rw[Option.isSome_map] at q
  rw[<- q,<- l]
  exact h _ (I.tok _)
theorem Zcg{h':Heap}{t':Nat}{ob:HO}(I:Inv X pins σ H s)(mu:Mut (H a))(hs:Heap.SameBut a s.heap h')(he:∃q,h'.get? a=some q)(new:Jt X.prog X.w (upd H a ob) h' a ob) :
  Inv X pins σ (upd H a ob) { s with heap:=h',toks:=t' }:=
 I.write (x:=a) (e:=a) mu (.inl rfl) (fun b q hb z=>(hs.2 b hb).trans z) he new
theorem ZkT{P:Program}{w:World}{H':Hp}{h':Heap}{kvs:List (Key×V)}{vs:List (Key×Value)}(z:kvs.length<=sizeLine)(hd:(a==sysModules)=false)(rel:KV kvs vs)(dd:h'.DictOf (Jj P w) a vs) :
  Jt P w H' h' a (.dK kvs):=⟨z,hd,vs,rel,dd⟩
theorem Zfv{H':Hp}{Q:Unit->Shared->Prop}(hu:A.units+1<cLine)(I:Inv X pins σ H s)(g:Zm2 H a y v H')(ry:Jf y u)(rv:Jf v r)(h:∀s',Inv X pins σ H' s'->Q () s') :
  wpAny (model X.prog X.w) A (setItem (.ref a) u r) Q E s:=by
 rcases g with ⟨kvs,k,e,ey,l,eH⟩|⟨kvs,k,b,e,ey,eb,l,eH⟩
 ·subst ey eH
  obtain⟨z,hd,vs,rel,dd⟩:=ZlR I.hok e
  have hz:vs.length<=sizeLine:=by rw[<- rel.length];exact z
  have hl:(ZdN kvs k v).length<=sizeLine:=by have:=Qk kvs k v;omega
  refine wpAny_setItem_pairs (hsz:=hz) (ZgA ry) dd fun h' dd' hs=>h _ ?_
  have he:∃q,h'.get? a=some q:=let ⟨q,_,_,hq,_⟩:=dd';⟨q,hq⟩
  exact Zcg I (by rw[e];exact True.intro) hs he (ZkT hl hd (rel.put k rv) dd')
 ·subst ey eH
  cases (show u=Value.ref b from ry)
  obtain⟨z,hd,xs,rel,dd⟩:=ZkR I.hok e
  have hz:xs.length<=sizeLine:=by rw[<- Paired.length rel];exact z
  have hl:(ZdN kvs k v).length<=sizeLine:=by have:=Qk kvs k v;omega
  refine wpAny_setItem_heap (hsz:=hz) (tupleKind_room_in1 hu) (ZaZ I.hok eb) dd fun h' dd' hs=>h _ ?_
  obtain⟨q,es,ep,hq,h2,h3,h4,_,h5⟩:=dd'
  refine Zcg I (by rw[e];exact True.intro) hs ⟨q,hq⟩ ⟨hl,hd,_,(rel.put k eb rv).keeps fun c ys ec=>?_,q,es,ep,hq,h2,h3,h4,h5⟩
  rw[Zp (ZiN ec e (fun z=>nomatch z))]
  exact ec
end
def Zm1(i:Expr):Prop:=∀ov iv,subscripted i false ov iv=operate [ov,iv] (getItem ov iv)
theorem Zip{prog:Program}{w:World}{A:Around}{E:Value->Shared->Prop}{s:Shared}{env:Env}{value slice:Expr}{pos:Pos}{T id:String}{Q:Value->Shared->Prop}(hl:typeLookup (.type T) "__getitem__"=pure (some (.builtin id)))(hs:Zm1 slice)(h:wpAny (model prog w) A (eval value env) (fun o s₁=>wpAny (model prog w) A (eval slice env) (fun i s₂=>s₂.TypeIs o T/\wpAny (model prog w) A (getItem o i) Q E s₂) E s₁) E s) :
  wpAny (model prog w) A (eval (.Subscript value slice pos) env) Q E s:=by
 refine Subscript_ (wpAny_mono h (fun o s₁ h₁=>wpAny_mono h₁ (fun i s₂ h₂=>?_) fun _ _ x=>x) fun _ _ x=>x)
 obtain⟨hT,h₂⟩:=h₂
 unfold subscriptTail
 refine wpAny_bind ?_
 rw[getitemInPython_of_ne hT.not_modules]
 refine wpAny_bind (wpAny_specialOf hT hl ?_)
 have fin:wpAny (model prog w) A (subscripted slice false o i) (fun r s₃=>wpAny (model prog w) A (letTemporaryGo value o r >>= fun _=>pure r) Q E s₃) E s₂:=by
  rw[hs o i]
  exact wpAny_operating (wpAny_mono h₂ (fun r s₃ h₃=>wpAny_bind (wpAny_letTemporaryGo (wpAny_pure h₃))) fun _ _ x=>x)
 first
  |exact wpAny_pure (wpAny_bind fin)
  |exact wpAny_bind (wpAny_pure (wpAny_bind fin))
  |exact wpAny_bind fin
theorem Zcf{X:Cx}{pins:List (Addr×Obj)}{σ:St}{H:Hp}{s:Shared}{a:Addr}{y:V}{o:Option V}(I:Inv X pins σ H s)(g:Zj4 H a y o):s.TypeIs (.ref a) "dict":=by
 rcases g with ⟨kvs,k,e,_,_⟩|⟨kvs,k,b,e,_,_,_⟩
 ·obtain⟨_,_,vs,_,dd⟩:=ZgV I.hok e
  exact dd.typeIs
 ·obtain⟨_,_,xs,_,dd⟩:=ZgT I.hok e
  exact dd.typeIs
noncomputable def ZjJ(td ty:TE):TE:=fun σ H Q=>td σ H fun x H1=>ty σ H1 fun y H2=>∃a v,x=.ref a/\Zj4 H2 a y (some v)/\Q v H2
noncomputable def Zeb(ty td:TE):TE:=fun σ H Q=>ty σ H fun y H1=>td σ H1 fun x H2=>∃a o,x=.ref a/\Zj4 H2 a y o/\Q (.bl (!o.isSome)) H2
noncomputable def ZjS(td ty tv:TE):TS:=fun D σ H=>tv σ H fun v H1=>td σ H1 fun x H2=>ty σ H2 fun y H3=>∃a H4,x=.ref a/\Zm2 H3 a y v H4/\D.nx σ H4
section
variable {X:Cx}{o i value:Expr}{pos pos':Pos}{td ty tv:TE}
theorem VO(hu:X.A.units+1<cLine)(ho:PE X o td)(hi:PE X i ty)(hs:Zm1 i):PE X (.Subscript o i pos) (ZjJ td ty):=by
 intro pins s σ H Q I h
 refine Zip PySem.F.slot_dict_getitem.lookup hs (thn (ho pins s σ H _ I h) fun u s1 ⟨x,H1,I1,rx,q1⟩=>thn (hi pins s1 σ H1 _ I1 q1) fun iv s2 ⟨y,H2,I2,ry,a,v,ex,g,q2⟩=>?_)
 subst ex
 obtain rfl:u=Value.ref a:=rx
 exact⟨Zcf I2 g,Zfw hu I2 g ry fun w' s3 I3 rw'=>⟨v,H2,I3,rw',q2⟩⟩
theorem Zez(hu:X.A.units+1<cLine)(hi:PE X i ty)(ho:PE X o td):PC X .NotIn i o (Zeb ty td):=by
 intro pins s σ H Q I h
 refine thn (hi pins s σ H _ I h) fun iv s1 ⟨y,H1,I1,ry,q1⟩=>thn (ho pins s1 σ H1 _ I1 q1) fun u s2 ⟨x,H2,I2,rx,a,ov,ex,g,q2⟩=>?_
 subst ex
 obtain rfl:u=Value.ref a:=rx
 exact Zjl hu I2 g ry fun s3 I3=>⟨.bl (!ov.isSome),H2,I3,rfl,q2⟩
theorem Zeq(hu:X.A.units+1<cLine)(ho:PE X o td)(hi:PE X i ty)(hv:PE X value tv)(hs:swapsWith value (some (.Subscript o i pos')) pos.line X.env=pure false) :
  PS X (.Assign [.Subscript o i pos'] value pos) (ZjS td ty tv):=by
 intro pins s σ H D I h
 refine wpAny_Assign_Subscript (thn (hv pins s σ H _ I h) fun r s1 ⟨v,H1,I1,rv,q1⟩=>thn (ho pins s1 σ H1 _ I1 q1) fun u s2 ⟨x,H2,I2,rx,q2⟩=>thn (hi pins s2 σ H2 _ I2 q2) fun iv s3 ⟨y,H3,I3,ry,a,H4,ex,g,q3⟩=>?_) hs
 subst ex
 obtain rfl:u=Value.ref a:=rx
 exact Zfv hu I3 g ry rv fun s4 I4=>⟨σ,H4,I4,q3⟩
end
theorem Zdg{P:Program}{w:World}{H:Hp}(h:Heap)(hb:sysModules<h.objs.size):Jt P w H (h.push { cls:=.type "dict",data:=.dict #[] }) h.objs.size (.dT []):=
 ⟨ZrI _,beq_eq_false_iff_ne.mpr (Ne.symm (Zr8 hb)),[],.nil,_,#[],0,Heap.get?_push_size _ rfl,⟨rfl,rfl,rfl⟩,rfl,rfl,List.nodup_nil⟩
noncomputable def Zh0:TE:=fun _ H Q=>∀p,H p=none->Q (.ref p) (upd H p (.dT []))
section
variable {X:Cx}{pos:Pos}
theorem Zgg:PE X (.Dict [] [] pos) Zh0:=fun pins s σ H Q I h =>
 wpAny_Dict_empty ⟨.ref s.heap.objs.size,_,I.laid (a:=s.heap.objs.size) (o:=.dT []) (t':=s.toks) (fun _ _ q=>Heap.get?_push_of_some _ q) (Zrl _) (Zdg s.heap I.big),rfl,h _ (I.hok.fresh (Zrl _))⟩
end
noncomputable def Zc4:List (TE×TE)->St->Hp->(List (V×V)->Hp->Prop)->Prop
 |[],_,H,Q=>Q [] H
 |(tk,tv)::r,σ,H,Q=>tk σ H fun x H1=>tv σ H1 fun y H2=>Zc4 r σ H2 fun ps H3=>Q ((x,y)::ps) H3
noncomputable abbrev VV:List (V×V)->List (Value×Value)->Prop:=Paired fun p q=>Jf p.1 q.1/\Jf p.2 q.2
def PPs(X:Cx)(pos:Pos)(keys:List (Option Expr))(values:List Expr)(trs:List (TE×TE)):Prop:=
 ∀(pins:List (Addr×Obj)) (s:Shared) (σ:St) (H:Hp) (Q:List (V×V)->Hp->Prop),Inv X pins σ H s->Zc4 trs σ H Q ->
  wpAny (model X.prog X.w) X.A (evalPairs (pairTrees keys values X.env pos)) (fun vs s'=>∃ps H',Inv X pins σ H' s'/\VV ps vs/\Q ps H') X.xe s
theorem Ziz{X:Cx}{pos:Pos}:PPs X pos [] [] []:=fun pins s σ H Q I h=>pairTrees_nil_walk ⟨[],H,I,.nil,h⟩
theorem Zgc{X:Cx}{pos:Pos}{k v:Expr}{ks:List (Option Expr)}{vs:List Expr}{tk tv:TE}{trs:List (TE×TE)}(hk:PE X k tk)(hv:PE X v tv)(hr:PPs X pos ks vs trs) :
  PPs X pos (some k::ks) (v::vs) ((tk,tv)::trs):=fun pins s σ H Q I h =>
 pairTrees_cons_walk (thn (hk pins s σ H _ I h) fun u s1 ⟨x,H1,I1,rx,q1⟩=>thn (hv pins s1 σ H1 _ I1 q1) fun w2 s2 ⟨y,H2,I2,ry,q2⟩ =>
  thn (hr pins s2 σ H2 _ I2 q2) fun ws s3 ⟨ps,H3,I3,rel,q3⟩=>⟨(x,y)::ps,H3,I3,.cons ⟨rx,ry⟩ rel,q3⟩)
section
end
noncomputable def ZbY:Key->PV
 |.inl i=>.int i
 |.inr x=>.str x
noncomputable def Zd7:PV->Option Key
 |.int i=>some (.inl i)
 |.str x=>some (.inr x)
 |_=>none
noncomputable def Uj:List PV->Option (List Key)
 |[]=>some []
 |x::xs=>match Zd7 x,Uj xs with
  |some k,some ks=>some (k::ks)
  |_,_=>none
theorem Zas{x:PV}{k:Key}(h:Zd7 x=some k):x=ZbY k:=by
 cases x<;>first|(cases h;rfl)|cases h
theorem Ui:∀{xs:List PV}{ks:List Key},Uj xs=some ks->xs=ks.map ZbY
 |[],ks,h=>by cases h;rfl
 |x::xs,ks,h=>by
  unfold Uj at h
  split at h
  ·rename_i k ks' h1 h2
   cases h
   rw[Zas h1,Ui h2];rfl
  ·cases h
@[simp] theorem Zj1(k:Key):Zd7 (ZbY k)=some k:=by cases k<;>rfl
@[simp] theorem V5:∀ks:List Key,Uj (ks.map ZbY)=some ks
 |[]=>rfl
 |k::ks=>by simp[Uj,V5 ks]
section
variable {K:W.Frag}{H:Hp}{S:Addr->Prop}
theorem ZbE{k:Key}{v:V}(h:Rep K H S (ZbY k) v):v=kV k:=by cases k<;>exact h
theorem Ub:∀{ks:List Key}{vs:List V},Reps K H S (ks.map ZbY) vs->vs=ks.map kV
 |[],_,h=>h
 |k::ks,_,h=>by
  obtain⟨v,r,rfl,h1,h2⟩:=h
  rw[ZbE h1,Ub h2];rfl
end
section
variable {κ:Type} [DecidableEq κ] {α:Type}
noncomputable def atK:List κ->List α->κ->Option α
 |k'::ks,x::xs,k=>if k'=k then some x else atK ks xs k
 |_,_,_=>none
noncomputable def ZfX:List κ->List α->κ->α->List α
 |k'::ks,x::xs,k,y=>(if k'=k then y else x)::ZfX ks xs k y
 |_,_,_,_=>[]
noncomputable def ZlM(k:κ)(ks:List κ):Bool:=decide (k∈ks)
theorem ZeN{k:κ}{ks:List κ}(h:ZlM k ks=false):k ∉ ks:=of_decide_eq_false h
noncomputable def Q4(ks:List κ)(k:κ):List κ:=if k∈ks then ks else ks++[k]
noncomputable def U2(ks:List κ)(xs:List α)(k:κ)(y:α):List α:=if k∈ks then ZfX ks xs k y else xs++[y]
theorem ZcD:∀{ks:List κ}{xs:List α}{k:κ}{y:α},ks.length=xs.length->(ZfX ks xs k y).length=ks.length
 |[],[],_,_,_=>rfl
 |k'::ks,x::xs,k,y,h=>by simp[ZfX,ZcD (ks:=ks) (xs:=xs) (k:=k) (y:=y) (by simpa using h)]
 |[],_::_,_,_,h=>by simp at h
 |_::_,[],_,_,h=>by simp at h
theorem Zep{ks:List κ}{xs:List α}{k:κ}{y:α}(h:ks.length=xs.length):(Q4 ks k).length=(U2 ks xs k y).length:=by
 unfold Q4 U2
 split
 ·rw[ZcD h]
 ·simp[h]
theorem Zac:∀{ks:List κ}{vs:List V}{k:κ},ks.length=vs.length->ZdU (ks.zip vs) k=atK ks vs k
 |[],[],_,_=>rfl
 |k'::ks,v::vs,k,h=>by
  rw[ZsO]
  unfold atK
  by_cases e:k'=k
  ·rw[UA e,if_pos e]
  ·rw[UB e,if_neg e,Zac (by simpa using h)]
 |[],_::_,_,h=>by simp at h
 |_::_,[],_,h=>by simp at h
theorem Zcq:∀{ks:List κ}{vs:List V}{k:κ},ks.length=vs.length->(((ks.zip vs).any fun kv=>decide (kv.1=k))=true ↔ k∈ks)
 |[],[],_,_=>by simp
 |k'::ks,v::vs,k,h=>by
  rw[ZsO,Zsz,Bool.or_eq_true,Zcq (by simpa using h),Zrt,decide_eq_true_eq]
  exact⟨fun z=>z.imp Eq.symm id,fun z=>z.imp Eq.symm id⟩
 |[],_::_,_,h=>by simp at h
 |_::_,[],_,h=>by simp at h
theorem Zeg:∀{ks:List κ}{vs:List V}{k:κ}{y:V},ks.length=vs.length->((ks.zip vs).map fun kv=>if kv.1=k then (kv.1,y) else kv)=ks.zip (ZfX ks vs k y)
 |[],[],_,_,_=>rfl
 |k'::ks,v::vs,k,y,h=>by
  rw[ZsO,Zru,Zeg (by simpa using h)]
  show _=(k'::ks).zip ((if k'=k then y else v)::ZfX ks vs k y)
  by_cases e:k'=k
  ·rw[if_pos e,if_pos e];rfl
  ·rw[if_neg e,if_neg e];rfl
 |[],_::_,_,_,h=>by simp at h
 |_::_,[],_,_,h=>by simp at h
theorem ZcK{ks:List κ}{vs:List V}{k:κ}{y:V}(h:ks.length=vs.length):ZdN (ks.zip vs) k y=(Q4 ks k).zip (U2 ks vs k y):=by
 unfold ZdN Q4 U2
 by_cases c:k∈ks
 ·rw[if_pos ((Zcq h).mpr c),if_pos c,if_pos c,Zeg h]
 ·rw[if_neg (fun z=>c ((Zcq h).mp z)),if_neg c,if_neg c,List.zip_append h];rfl
end
section
variable {κ:Type} [DecidableEq κ] {K:W.Frag}{H:Hp}{S:Addr->Prop}
theorem ZcG:∀{ks:List κ}{xs:List PV}{vs:List V}{k:κ},Reps K H S xs vs->match atK ks xs k with
  |some y=>∃v,atK ks vs k=some v/\Rep K H S y v
  |none=>atK ks vs k=none
 |[],xs,vs,k,h=>by simp[atK]
 |k'::ks,[],vs,k,h=>by rw[h];simp[atK]
 |k'::ks,x::xs,vs,k,h=>by
  obtain⟨v,r,rfl,h1,h2⟩:=h
  unfold atK
  by_cases e:k'=k
  ·rw[if_pos e,if_pos e];exact⟨v,rfl,h1⟩
  ·rw[if_neg e,if_neg e];exact ZcG h2
theorem Q8:∀{ks:List κ}{xs:List PV}{vs:List V}{G:List Addr}{k:κ}{y:PV}{w:V},ks.length=xs.length->Trees K H xs vs G->Jg K H y w []->∃G',(∀a∈G',a∈G)/\Trees K H (ZfX ks xs k y) (ZfX ks vs k w) G'
 |[],[],vs,G,k,y,w,_,h,_=>⟨[],by simp,by rw[h.1];exact⟨rfl,rfl⟩⟩
 |k'::ks,x::xs,vs,G,k,y,w,hl,h,hy=>by
  obtain⟨v,r,G1,G2,rfl,h1,h2,h3,rfl⟩:=h
  obtain⟨G',g1,g2⟩:=Q8 (ks:=ks) (k:=k) (y:=y) (w:=w) (by simpa using hl) h2 hy
  unfold ZfX
  by_cases e:k'=k
  ·rw[if_pos e,if_pos e]
   exact⟨G',fun a ha=>Zrk _ (g1 a ha),w,_,[],G',rfl,hy,g2,by simp,rfl⟩
  ·rw[if_neg e,if_neg e]
   refine⟨G1++G',fun a ha=>?_,v,_,G1,G',rfl,h1,g2,fun a ha z=>h3 a ha (g1 a z),rfl⟩
   rcases Zro.mp ha with z|z
   ·exact Zrp _ z
   ·exact Zrk _ (g1 a z)
 |[],_::_,_,_,_,_,_,hl,_,_=>by simp at hl
 |_::_,[],_,_,_,_,_,hl,_,_=>by simp at hl
theorem Jg.flatG{x:PV}{v:V}{G:List Addr}(f:x.flat=true)(h:Jg K H x v G):Jg K H x v []:=Rep.tree f (h.rep (S:=fun _=>True) fun _ _=>trivial)
end
section
variable {K:W.Frag}{B:Addr->Prop}{EX:PX->Hp->Prop}{H0 H H':Hp}{σ:St}{Γ Γ' Γ1 Γ2 Γ3:List Md}{ρ:List PV}{F F':Nat->List Addr}{R:List Addr}{ta tb:TE}{f fa fb:List PV->Rr PV}{k:Kd}
theorem Res.newBox{H1:Hp}{F1:Nat->List Addr}{s:Sh}{xs:List PV}{vs:List V}{u:HO}{p:Addr}{S:Addr->Prop}(s1:Z2 H H1)(f1:∀i,∀a∈F1 i,a∈F i)(hb:Zj6 K s vs u)(p1:Reps K H1 S xs vs)(hx:PV.flats xs=true)(A1:Ag K B H0 H1 σ Γ' ρ F1 R)(hp:H1 p=none) :
  Res K B H0 H σ Γ' ρ F R .F (.box none s xs) (.ref p) (upd H1 p u):=by
 have e:Z2 H1 (upd H1 p u):=Z2.new hp
 refine⟨F1,f1,[p],⟨p,vs,u,[],rfl,Zv,⟨trivial,hb⟩,(Reps.trees hx p1).same e,by simp,rfl⟩,fun a ha=>?_,A1.newB hb.lv hp⟩
 rw[ZrD.mp ha]
 exact⟨(A1.fresh hp).1,.inl (s1.free hp)⟩
theorem Zhg:DE K EX Γ Γ .F Zh0 (fun _=>.ok (.box none (.dt []) [])):=fun B H0 H σ ρ F R Q A d p hp =>
 d _ _ (Z2.new hp) (Res.newBox (S:=fun _=>True) (vs:=[]) (Z2.refl _) (fun _ _ h=>h) ⟨rfl,rfl⟩ rfl rfl A hp)
noncomputable def dAt(x y:PV):Option (Option PV):=match x,y with
 |.box _ (.dk ks) xs,y=>(Zd7 y).map fun k=>atK ks xs k
 |.box _ (.dt ks) xs,.tup ys=>(Uj ys).map fun k=>atK ks xs k
 |_,_=>none
noncomputable def Zlq(g:Bool->Bool)(y x:PV):Rr PV:=match dAt x y with
 |some o=>.ok (.bl (g o.isSome))
 |none=>.bad
noncomputable def Zgs(x y:PV):Rr PV:=match dAt x y with
 |some (some z)=>.ok z
 |_=>.bad
theorem Zfx{x y:PV}{v w:V}{o:Option PV}{S:Addr->Prop}(hx:Rep K H S x v)(hy:Rep K H (fun _=>True) y w)(e:dAt x y=some o) :
  ∃a r,v=.ref a/\Zj4 H a w r/\r.isSome=o.isSome/\∀z,o=some z->∃u,r=some u/\Rep K H S z u:=by
 have fin:∀{κ:Type} [DecidableEq κ] {ks:List κ}{xs:List PV}{vs:List V}{k:κ},Reps K H S xs vs->o=atK ks xs k->(atK ks vs k).isSome=o.isSome/\∀z,o=some z->∃u,atK ks vs k=some u/\Rep K H S z u:=fun {κ} _ {ks xs vs k} h e=>by
  have:=ZcG (ks:=ks) (k:=k) h
  rw[<- e] at this
  cases o with
  |none=>exact⟨by rw[this];rfl,fun z q=>by cases q⟩
  |some z =>
   obtain⟨u,e1,e2⟩:=this
   exact⟨by rw[e1];rfl,fun z' q=>by cases q;exact⟨u,e1,e2⟩⟩
 unfold dAt at e
 split at e
 ·rename_i p ks xs
  obtain⟨a,vs,u,rfl,hr,⟨_,hl,rfl⟩,hxs⟩:=hx
  cases ek:Zd7 y with
  |none=>rw[ek] at e;cases e
  |some k =>
   rw[ek] at e
   cases e
   rw[Zas ek] at hy
   obtain⟨g1,g2⟩:=fin (ks:=ks) (k:=k) hxs rfl
   exact⟨a,atK ks vs k,rfl,.inl ⟨_,k,hr.1,ZbE hy,(Zac hl).symm⟩,g1,g2⟩
 ·rename_i p ks xs ys
  obtain⟨a,vs,u,rfl,hr,⟨_,hl,rfl⟩,hxs⟩:=hx
  cases ek:Uj ys with
  |none=>rw[ek] at e;cases e
  |some k =>
   rw[ek] at e
   cases e
   rw[Ui ek] at hy
   obtain⟨b,ws,rfl,hb,hws⟩:=hy
   rw[Ub hws] at hb
   obtain⟨g1,g2⟩:=fin (ks:=ks) (k:=k) hxs rfl
   exact⟨a,atK ks vs k,rfl,.inr ⟨_,k,b,hr.1,rfl,hb.1,(Zac hl).symm⟩,g1,g2⟩
 ·cases e
theorem Zfq(ha:DE K EX Γ Γ1 .A ta fa)(hb:DE K EX Γ1 Γ2 .A tb fb):DE K EX Γ Γ2 .P (Zeb ta tb) (fun ρ=>(fa ρ).bind fun y=>(fb ρ).bind fun x=>Zlq (!·) y x):=fun B H0 H σ ρ F R Q A d=>by
 refine two ha hb A d.bind2 fun y x w v H' F' d s f py px A'=>?_
 unfold Zlq at d
 cases e:dAt x y with
 |none=>rw[e] at d;exact d.elim
 |some o =>
  rw[e] at d
  obtain⟨a,r,rfl,g1,g2,_⟩:=Zfx px py e
  exact⟨a,r,rfl,g1,by rw[g2];exact d _ _ s ⟨F',f,rfl,rfl,A'⟩⟩
theorem VT(ha:DE K EX Γ Γ1 .A ta fa)(hb:DE K EX Γ1 Γ2 .A tb fb):DE K EX Γ Γ2 .A (ZjJ ta tb) (fun ρ=>(fa ρ).bind fun x=>(fb ρ).bind fun y=>Zgs x y):=fun B H0 H σ ρ F R Q A d=>by
 refine two ha hb A d.bind2 fun x y v w H' F' d s f px py A'=>?_
 unfold Zgs at d
 cases e:dAt x y with
 |none=>rw[e] at d;exact d.elim
 |some o =>
  rw[e] at d
  cases o with
  |none=>exact d.elim
  |some z =>
   obtain⟨a,r,rfl,g1,_,g3⟩:=Zfx px py e
   obtain⟨u,rfl,hu⟩:=g3 z rfl
   exact⟨a,u,rfl,g1,d _ _ s ⟨F',f,hu,A'⟩⟩
noncomputable def Zgr(x y z:PV):Rr PV:=match x,y with
 |.box p (.dk ks) xs,y=>match Zd7 y with
  |some k=>if xs.length<1000000/\(ZlM k ks=false\/z.flat=true) then .ok (.box p (.dk (Q4 ks k)) (U2 ks xs k z)) else .bad
  |none=>.bad
 |.box p (.dt ks) xs,.tup ys=>match Uj ys with
  |some k=>if xs.length<1000000/\(ZlM k ks=false\/z.flat=true) then .ok (.box p (.dt (Q4 ks k)) (U2 ks xs k z)) else .bad
  |none=>.bad
 |_,_=>.bad
theorem ZaG{κ:Type}[DecidableEq κ]{ks:List κ}{xs:List PV}{vs:List V}{k:κ}{y:PV}{w:V}{G G2:List Addr}(hl:ks.length=xs.length)(h:Trees K H xs vs G)(hy:Jg K H y w G2)(hd:∀a∈G,a ∉ G2)(hk:k∈ks->y.flat=true) :
  ∃G',(∀a∈G',a∈G\/a∈G2)/\Trees K H (U2 ks xs k y) (U2 ks vs k w) G':=by
 unfold U2
 by_cases c:k∈ks
 ·rw[if_pos c,if_pos c]
  obtain⟨G',g1,g2⟩:=Q8 (k:=k) hl h (hy.flatG (hk c))
  exact⟨G',fun a ha=>.inl (g1 a ha),g2⟩
 ·rw[if_neg c,if_neg c]
  exact⟨G++G2,fun a ha=>Zro.mp ha,Trees.append h (Trees.one hy) hd⟩
theorem Zdh{i:Nat}{tv:TE}{fv:List PV->Rr PV}(hm:Γ1[i]?=some .O)(hv:DE K EX Γ Γ1 .F tv fv)(hk:DE K EX Γ1 Γ1 .A tb fb) :
  DS K EX Γ ⟨Γ1,Γ2,Γ3,k⟩ (ZjS (ZaI i) tb tv) (fun ρ=>(fv ρ).thenS fun z=>(fb ρ).thenS fun y=>(Zgr (gv i ρ) y z).thenS fun x=>.next (ρ.set i x)):=fun B H0 H σ ρ F D A d=>by
 refine hv B H0 H σ ρ F [] _ A (d.thenS.imp (fun z _ d w H1 s1 r1=>?_) fun e q=>q)
 obtain⟨F1,f1,G2,t1,o1,A1⟩:=r1
 obtain⟨v,h1,h2⟩:=A1.getO hm
 refine⟨v,h1,hk B H0 H1 σ ρ F1 (G2++[]) _ A1 (d.thenS.imp (fun y _ d yv H2 s2 r2=>?_) fun e q=>q)⟩
 obtain⟨F2,f2,p2,A2⟩:=r2
 obtain⟨v',h1',h2'⟩:=A2.getO hm
 rw[h1] at h1';cases h1'
 have d:=d.thenS
 have t2:=t1.same s2
 have core:∀{p:Option Addr}{s s':Sh}{xs xs':List PV}{a:Addr}{vs vs':List V}{u u':HO}{G G':List Addr},ρ.getD i .non=.box p s xs->H2 a=some u->Zlw p a->Trees K H2 xs vs G->a ∉ G->F2 i=a::G->Zj6 K s' vs' u'->Trees K H2 xs' vs' G'->(∀b∈G',b∈G\/b∈G2) ->
   σ[i]?=some (some (.ref a))->DnS K B EX ⟨Γ1,Γ2,Γ3,k⟩ H0 H F D (.next (ρ.set i (.box p s' xs')))->D.nx σ (upd H2 a u'):=fun {p s s' xs xs' a vs vs' u u' G G'} er hH hpn ht hn hF hb ht' hsub hσ d=>by
  have haF:a∈F2 i:=by rw[hF];simp
  have na2:a ∉ G2:=fun z=>A2.disjR i a haF (Zrp _ z)
  have hna:a ∉ G':=fun z=>(hsub a z).elim hn na2
  have hsub2:∀b∈a::G',b∈F2 i\/b∈G2:=fun b hb=>by
   rcases Zrt.mp hb with rfl|hb
   ·exact .inl haF
   ·rcases hsub b hb with z|z
    ·exact .inl (by rw[hF];simp[z])
    ·exact .inr z
  obtain⟨lv,hlv⟩:=A2.live i a haF
  refine d σ _ (Ud F2 i (a::G')) (Zav (s1.trans s2) (fun j b hb=>f1 j b (f2 j b hb)) haF fun b hb=>?_) (Ag.chgB hb.lv (G:=G2) (R:=[]) A2 hm haF hsub2 (by simp) ?_)
  ·rcases hsub2 b hb with z|z
   ·exact .inr ⟨i,f1 i b (f2 i b z)⟩
   ·exact(o1 b z).2
  ·exact⟨_,hσ,a,vs',u',G',rfl,Zv,⟨hpn,hb⟩,Trees.putL hlv hna ht',hna,rfl⟩
 unfold Zgr at d
 split at d
 ·rename_i p ks xs er _ _
  rw[show ρ.getD i .non=.box p (.dk ks) xs from er] at h2'
  obtain⟨a,vs,u,G,rfl,hH,⟨hpn,hl,rfl⟩,ht,hn,hF⟩:=h2'
  split at d
  ·rename_i kk ek
   split at d
   ·rename_i hc
    rw[Zas ek] at p2
    have hl':ks.length=xs.length:=by rw[hl,ht.length]
    have dj:∀b∈G,b ∉ G2:=fun b hb z=>A2.disjR i b (by rw[hF];simp[hb]) (Zrp _ z)
    obtain⟨G',g1,g2⟩:=ZaG (k:=kk) hl' ht t2 dj (fun c=>hc.2.resolve_left (fun z=>ZeN z c))
    refine⟨a,_,rfl,.inl ⟨_,kk,hH,ZbE p2, ?_,rfl⟩,core er hH hpn ht hn hF (s':=.dk (Q4 ks kk)) (vs':=U2 ks vs kk w) ⟨Zep hl, ?_⟩ g2 g1 h1 d⟩
    ·rw[Zsw,hl,Ztv,ht.length];exact Zr0 hc.1 (by decide)
    ·rw[ZcK hl]
   ·exact d.elim
  ·exact d.elim
 ·rename_i p ks xs ys er _ _
  rw[show ρ.getD i .non=.box p (.dt ks) xs from er] at h2'
  obtain⟨a,vs,u,G,rfl,hH,⟨hpn,hl,rfl⟩,ht,hn,hF⟩:=h2'
  split at d
  ·rename_i kk ek
   split at d
   ·rename_i hc
    rw[Ui ek] at p2
    obtain⟨b,ws,rfl,hb,hws⟩:=p2
    rw[Ub hws] at hb
    have hl':ks.length=xs.length:=by rw[hl,ht.length]
    have dj:∀b∈G,b ∉ G2:=fun b hb z=>A2.disjR i b (by rw[hF];simp[hb]) (Zrp _ z)
    obtain⟨G',g1,g2⟩:=ZaG (k:=kk) hl' ht t2 dj (fun c=>hc.2.resolve_left (fun z=>ZeN z c))
    refine⟨a,_,rfl,.inr ⟨_,kk,b,hH,rfl,hb.1, ?_,rfl⟩,core er hH hpn ht hn hF (s':=.dt (Q4 ks kk)) (vs':=U2 ks vs kk w) ⟨Zep hl, ?_⟩ g2 g1 h1 d⟩
    ·rw[Zsw,hl,Ztv,ht.length];exact Zr0 hc.1 (by decide)
    ·rw[ZcK hl]
   ·exact d.elim
  ·exact d.elim
 ·exact d.elim
end
noncomputable def Zea(tk tv:TE):TE:=fun σ H Q=>∀p,H p=none->tk σ (upd H p (.dT [])) fun x H1=>tv σ H1 fun y H2=>∃b k,x=.ref b/\H2 b=some (.tup (k.map kV))/\H2 p=some (.dT [])/\Q (.ref p) (upd H2 p (.dT [(k,y)]))
theorem Zew{X:Cx}{pos:Pos}{e v:Expr}{tk tv:TE}(hu:X.A.units+1<cLine)(hk:PE X e tk)(hv:PE X v tv):PE X (.Dict [some e] [v] pos) (Zea tk tv):=by
 intro pins s σ H Q I q
 have hn:=I.hok.fresh (Zrl s.heap.objs.size)
 have I1:=I.laid (a:=s.heap.objs.size) (o:=.dT []) (h':=s.heap.push { cls:=.type "dict",data:=.dict #[] }) (t':=s.toks) (fun _ _ q=>Heap.get?_push_of_some _ q) (Zrl _) (Zdg s.heap I.big)
 have hp:=Zgc (pos:=pos) hk hv Ziz
 refine wpAny_Dict_any rfl rfl (by simp) (by simp) (thn (hp pins _ σ _ (fun ps H2=>∃x y,ps=[(x,y)]/\∃b k,x=.ref b/\H2 b=some (.tup (k.map kV))/\H2 s.heap.objs.size=some (.dT [])/\Q (.ref s.heap.objs.size) (upd H2 s.heap.objs.size (.dT [(k,y)]))) I1 ?_) fun ws s2 ⟨ps,H2,I2,rel,x,y,ep,b,kk,ex,eb,e,q2⟩=>?_)
 ·have:=q _ hn
  show Zc4 [(tk,tv)] σ _ _
  unfold Zc4
  refine cast (congrArg (fun f=>tk σ (upd H s.heap.objs.size (.dT [])) f) (funext fun x=>funext fun H1=>congrArg (fun f=>tv σ H1 f) (funext fun y=>funext fun H2=>propext ⟨fun z=>⟨x,y,rfl,z⟩,fun⟨x',y',e',z⟩=>by cases e';exact z⟩))) this
 subst ep ex
 rcases ws with _|⟨⟨uk,uv⟩,ws⟩
 ·cases rel
 cases rel with
 |cons r1 r2 =>
  cases r2
  obtain⟨rk,rv⟩:=r1
  have ek:uk=Value.ref b:=rk
  subst ek
  obtain⟨z,hd,xs,rl,dd⟩:=ZkR I2.hok e
  cases rl
  show wpAny _ _ (forIn [(Value.ref b,uv)] PUnit.unit _) _ _ s2
  rw[List.forIn_cons]
  refine wpAny_bind (wpAny_bind (wpAny_dictSet_heap (hsz:=ZrI _) (show X.A.units<cLine by omega) (ZaZ I2.hok eb) dd fun h' dd' hs=>wpAny_pure ?_))
  dsimp only
  rw[List.forIn_nil]
  refine wpAny_pure ⟨.ref s.heap.objs.size,_, ?_,rfl,q2⟩
  obtain⟨qo,es,ep,hq,h2,h3,h4,_,h5⟩:=dd'
  refine Zcg I2 (by rw[e];exact True.intro) hs ⟨qo,hq⟩ ⟨?_,hd,_, ?_,qo,es,ep,hq,h2,h3,h4,h5⟩
  ·show 1<=sizeLine
   decide
  ·refine .cons ⟨rfl, ?_,rv⟩ .nil
   show upd H2 s.heap.objs.size _ b=_
   rw[Zp (ZiN eb e (fun z=>nomatch z))]
   exact eb
section
variable {K:W.Frag}{B:Addr->Prop}{EX:PX->Hp->Prop}{H0 H:Hp}{σ:St}{Γ Γ1 Γ2:List Md}{ρ:List PV}{F:Nat->List Addr}{R:List Addr}{ta tb:TE}{fa fb:List PV->Rr PV}{k:Kd}
noncomputable def ZcT(y z:PV):Rr PV:=match y with
 |.tup ys=>match Uj ys with
  |some k=>.ok (.box none (.dt [k]) [z])
  |none=>.bad
 |_=>.bad
theorem Zfr(ha:DE K EX Γ Γ1 .A ta fa)(hb:DE K EX Γ1 Γ2 .P tb fb):DE K EX Γ Γ2 .F (Zea ta tb) (fun ρ=>(fa ρ).bind fun y=>(fb ρ).bind fun z=>ZcT y z):=fun B H0 H σ ρ F R Q A d p hp=>by
 have A0:=A.newB (u:=.dT []) trivial hp
 have s0:Z2 H (upd H p (.dT [])):=Z2.new hp
 refine ha B H0 _ σ ρ F (p::R) _ A0 (d.bind.imp (fun y _ d w H1 s1 r1=>?_) fun e q=>q)
 obtain⟨F1,f1,p1,A1⟩:=r1
 refine hb B H0 H1 σ ρ F1 (p::R) _ A1 (d.bind.imp (fun z _ d v H2 s2 r2=>?_) fun e q=>q)
 obtain⟨F2,f2,z1,z2,A2⟩:=r2
 have p1':=p1.same s2
 unfold ZcT at d
 split at d
 ·rename_i ys
  split at d
  ·rename_i kk ek
   rw[Ui ek] at p1'
   obtain⟨b,ws,rfl,hb,hws⟩:=p1'
   rw[Ub hws] at hb
   have hH:H2 p=some (.dT []):=s2 _ _ (s1 _ _ Zv)
   refine⟨b,kk,rfl,hb.1,hH, ?_⟩
   have hpR:p ∉ R:=fun q=>by obtain⟨u,e⟩:=A.liveR p q;rw[hp] at e;cases e
   have hpF:∀i,p ∉ F i:=fun i q=>by obtain⟨u,e⟩:=A.live i p q;rw[hp] at e;cases e
   have AR:Ag K B H0 (upd H2 p (.dT [(kk,v)])) σ Γ2 ρ F2 (p::R):=by
    refine⟨fun c o e=>?_,A2.own,A2.young,A2.youngR,fun i c hc=>?_,fun c hc=>?_,A2.disj,A2.disjR,A2.lenS,A2.lenR,fun i=>?_⟩
    ·rw[Zp (fun z=>by rw[z] at e;have:=A2.youngR p (by simp);rw[e] at this;cases this)];exact A2.same c o e
    ·rw[Zp (fun z=>by rw[z] at hc;exact A2.disjR i p hc (by simp))];exact A2.live i c hc
    ·by_cases q:c=p
     ·exact⟨⟨.dT [(kk,v)],trivial⟩,by rw[q,Zv]⟩
     ·rw[Zp q];exact A2.liveR c hc
    ·refine(A2.slot i).mono (fun c us s r=>⟨?_,s⟩) (fun c us r=>Im.putL (us:=⟨.dT [],trivial⟩) hH r) fun c hc us q=>?_
     ·have hne:c≠p:=fun z=>s.2.1 (by rw[z];simp)
      rcases r with r|⟨o',r⟩
      ·exact .inl (by rw[Zp hne];exact r)
      ·exact .inr ⟨o',by rw[Zp hne];exact r⟩
     ·have hne:c≠p:=fun z=>A2.disjR i c hc (by rw[z];simp)
      rw[Zp hne];exact q
   have sm:Z2 H (upd H2 p (.dT [(kk,v)])):=fun c o e=>by
    rw[Zp (Z3 e hp)];exact s2 _ _ (s1 _ _ (s0 _ _ e))
   refine d _ _ sm ⟨F2,fun i a h=>f1 i a (f2 i a h),[p],⟨p,[v],_,[],rfl,Zv,⟨trivial,rfl,rfl⟩, ?_,by simp,rfl⟩,fun a ha=>?_,AR⟩
   ·exact⟨v,[],[],[],rfl,Jg.mono (fun a ha=>by cases ha) (fun c us r=>Im.putL (us:=⟨.dT [],trivial⟩) hH r) (z2.tree z1),⟨rfl,rfl⟩,by simp,rfl⟩
   ·rw[ZrD.mp ha];exact⟨hpR,.inl hp⟩
  ·exact d.elim
 ·exact d.elim
end
section
variable {X:Cx}{K:W.Frag}
def Zh4(K:W.Frag):List V->Hp->VK->Prop:=fun xs H Q=>∃p ys,xs=[.ref p]/\((SqL K H p ys/\∀l,H l=none->Q (.ref l) (upd H l (.tup ys)))\/(SqT K H p ys/\Q (.ref p) H))
theorem Jz(e:X.K=K:=by rfl):Vg X (.type "tuple") (Zh4 K):=by subst e;exact Za3
theorem JZ:bootBuiltins "tuple"=some (.type "tuple"):=by decide +kernel
theorem Zi0{tg l:Expr}{tl:TE}(hl:PE X l tl)(e:X.K=K:=by rfl):PI X tg l (fun σ H R=>ZdB K tl σ H R\/Zlt K tl σ H R):=by
 subst e
 intro pins s σ H R I h
 rcases h with h|h
 ·exact Zet hl pins s σ H R I h
 ·exact ZjY hl pins s σ H R I h
noncomputable def Zmf(K:W.Frag)(ta:TE):TT:=fun σ H Q=>ta σ H fun x H'=>∃k,ZlZ K x H' k/\Q k H'
theorem Ziy{a:Expr}{ta:TE}(ha:PE X a ta)(e:X.K=K:=by rfl)(he:∀whole,isTrue a X.env whole=(do let v <- whole;standAt a.pos;holding [v] (truthy v)):=by exact fun _=>rfl):PT X a (Zmf K ta):=by subst e;exact Zgb ha he
variable {B:Addr->Prop}{EX:PX->Hp->Prop}{H0 H:Hp}{σ:St}{Γ Γ':List Md}{ρ:List PV}{F:Nat->List Addr}{R:List Addr}{te:TE}{ta:TA}{f:List PV->Rr PV}{fa:List PV->Rr (List PV)}
noncomputable def Qe(xs:List PV):Rr PV:=match xs with
 |[.lst ys]=>.ok (.tup ys)
 |[.tup ys]=>.ok (.tup ys)
 |_=>.bad
theorem V8(ha:DAA K EX Γ Γ' ta fa):DE K EX Γ Γ' .A (tCB (Zh4 K) ta) (fun ρ=>(fa ρ).bind Qe):=fun B H0 H σ ρ F R Q A d=>by
 refine ha B H0 H σ ρ F R _ A (d.bind.imp (fun xs _ d vs H1 F1 s1 f1 p1 A1=>?_) fun e q=>q)
 unfold Qe at d
 split at d
 ·obtain⟨v,rfl,a,ws,rfl,hn,hr⟩:=VN p1
  refine⟨a,ws,rfl,.inl ⟨JG (S:=fun _=>True) hn,fun l hl=>?_⟩⟩
  have e:=Z2.new (H:=H1) (o:=.tup ws) hl
  exact d _ _ (s1.trans e) ⟨F1,f1,⟨l,ws,rfl,⟨Zv,trivial⟩,hr.same e⟩,A1.grow e⟩
 ·obtain⟨v,rfl,a,ws,rfl,hn,hr⟩:=VN p1
  exact⟨a,ws,rfl,.inr ⟨hn.sqT,d _ _ s1 ⟨F1,f1,⟨a,ws,rfl,hn,hr⟩,A1⟩⟩⟩
 ·exact d.elim
noncomputable def Zmz(x:PV):Rr (List PV):=match x with
 |.lst xs=>.ok xs
 |.tup xs=>.ok xs
 |_=>.bad
theorem ZkW(he:DE K EX Γ Γ' .Z te f):DI K EX Γ Γ' (fun σ H R=>ZdB K te σ H R\/Zlt K te σ H R) (fun ρ=>(f ρ).bind Zmz):=fun B H0 H σ ρ F R Q A d=>by
 dsimp only at d
 cases e:f ρ with
 |ok x =>
  cases x with
  |tup xs =>
   refine .inr (ZkV he B H0 H σ ρ F R Q A ?_)
   dsimp only
   rw[e] at d ⊢
   exact d
  |lst xs =>
   refine .inl (Jn he B H0 H σ ρ F R Q A ?_)
   dsimp only
   rw[e] at d ⊢
   exact d
  |_=>rw[e] at d;exact d.elim
 |exc q =>
  refine .inl (Jn he B H0 H σ ρ F R Q A ?_)
  dsimp only
  rw[e] at d ⊢
  exact d
 |bad=>rw[e] at d;exact d.elim
noncomputable def Zm6(x:PV):Rr Bool:=match x with
 |.lst xs=>.ok (!xs.isEmpty)
 |.bl b=>.ok b
 |_=>.bad
theorem ZkQ(ha:DE K EX Γ Γ' .A te f):DT K EX Γ Γ' (Zmf K te) (fun ρ=>(f ρ).bind Zm6):=fun B H0 H σ ρ F R Q A d=>by
 refine ha B H0 H σ ρ F R _ A (d.bind.imp (fun x _ d v H1 s1 r1=>?_) fun e q=>q)
 obtain⟨F1,f1,p1,A1⟩:=r1
 cases x with
 |lst xs =>
  obtain⟨a,vs,rfl,hn,hr⟩:=p1
  refine⟨!xs.isEmpty,.inl ⟨vs,JG (S:=fun _=>True) hn, ?_⟩,d _ F1 s1 f1 A1⟩
  cases xs with
  |nil=>rw[show vs=[] from hr];rfl
  |cons x xs=>obtain⟨v,r,rfl,_⟩:=hr;rfl
 |bl b=>cases p1;exact⟨b,rfl,d _ F1 s1 f1 A1⟩
 |_=>exact d.elim
end
noncomputable def ins{α:Type}:Nat->α->List α->List α
 |0,v,us=>v::us
 |_+1,v,[]=>[v]
 |j+1,v,u::us=>u::ins j v us
theorem Vu{α:Type}:∀{j:Nat}{v:α}{us:List α},(ins j v us).length=us.length+1
 |0,_,_=>rfl
 |_+1,_,[]=>rfl
 |j+1,v,u::us=>by simp[ins,Vu (j:=j) (v:=v) (us:=us)]
theorem Uk{α:Type}:∀{j:Nat}{v:α}{us:List α} (i:Nat),j<=us.length->(ins j v us)[i]?=if i<j then us[i]? else if i=j then some v else us[i-1]?
 |0,v,us,0,_=>rfl
 |0,v,us,i+1,_=>by simp[ins]
 |j+1,v,[],_,h=>by simp at h
 |j+1,v,u::us,0,_=>rfl
 |j+1,v,u::us,i+1,h=>by
  have:=Uk (j:=j) (v:=v) (us:=us) i (by simpa using h)
  rw[ins,ZsP,this]
  by_cases c:i<j
  ·rw[if_pos c,if_pos (show i+1<j+1 by omega)];rfl
  ·by_cases e:i=j
   ·rw[if_neg c,if_pos e,if_neg (show ¬i+1<j+1 by omega),if_pos (show i+1=j+1 by omega)]
   ·rw[if_neg c,if_neg e,if_neg (show ¬i+1<j+1 by omega),if_neg (show ¬i+1=j+1 by omega)]
    obtain⟨m,rfl⟩:∃m,i=m+1:=⟨i-1,by omega⟩
    rfl
theorem Zbe{α β:Type}{f:α->β}:∀{j:Nat}{v:α}{us:List α},(ins j v us).map f=ins j (f v) (us.map f)
 |0,_,_=>rfl
 |_+1,_,[]=>rfl
 |j+1,v,u::us=>by simp[ins,Zbe (j:=j) (v:=v) (us:=us)]
theorem Zbf{α:Type}{r:List α}:∀{j:Nat}{v:α}{us:List α},j<=us.length->ins j v us++r=ins j v (us++r)
 |0,_,_,_=>rfl
 |_+1,_,[],h=>by simp at h
 |j+1,v,u::us,h=>by
  show u::(ins j v us++r)=u::ins j v (us++r)
  rw[Zbf (by simpa using h)]
section
variable {K:W.Frag}{H:Hp}
theorem Jg.pin{p:Option Addr}{s:Sh}{ys:List PV}{a:Addr}{G:List Addr}(h:Jg K H (.box p s ys) (.ref a) G):Jg K H (.box (some a) s ys) (.ref a) G:=by
 obtain⟨a',vs,u,G',e,h1,h2,h3⟩:=h
 cases e
 exact⟨a,vs,u,G',rfl,h1,⟨rfl,h2.2⟩,h3⟩
theorem Jg.unpin{p:Option Addr}{s:Sh}{ys:List PV}{v:V}{G:List Addr}(h:Jg K H (.box p s ys) v G):Jg K H (.box none s ys) v G:=by
 obtain⟨a',vs,u,G',e,h1,h2,h3⟩:=h
 exact⟨a',vs,u,G',e,h1,⟨trivial,h2.2⟩,h3⟩
theorem Jg.repin{p:Option Addr}{s:Sh}{ys:List PV}{a:Addr}{G:List Addr}(hp:Zlw p a)(h:Jg K H (.box none s ys) (.ref a) G):Jg K H (.box p s ys) (.ref a) G:=by
 obtain⟨a',vs,u,G',e,h1,h2,h3⟩:=h
 cases e
 exact⟨a,vs,u,G',rfl,h1,⟨hp,h2.2⟩,h3⟩
theorem Jg.pinned{b:Addr}{s:Sh}{ys:List PV}{v:V}{G:List Addr}(h:Jg K H (.box (some b) s ys) v G):v=.ref b:=by
 obtain⟨a',vs,u,G',e,h1,h2,h3⟩:=h
 rw[e,show a'=b from h2.1]
end
noncomputable def spM(K:W.Frag)(n j:Nat)(m:PV->List PV->Rr PV):Sp:=fun vs H Q E=>∃(B:Addr->Prop) (xs:List PV) (us:List V) (a:Addr) (s:Sh) (ys:List PV) (G:List Addr),
 vs=ins j (.ref a) us/\xs.length=n/\Reps K H B xs us/\Jg K H (.box none s ys) (.ref a) G/\(∀b,B b->b ∉ G) /\
 Dn (m (.box none s ys) xs) (fun r=>∃y s' ys',r=.tup [y,.box none s' ys']/\∀u H' G1 G2,Z2 (minus H G) H'->Jg K H' y u G1->Jg K H' (.box none s' ys') (.ref a) G2->(∀b∈G1,b ∉ G2)->(∀b∈G1,minus H G b=none)->(∀b∈G2,minus H G b=none)->Q u H') (fun _=>False)
noncomputable def ZlA(a:Addr)(b:PV):PV:=match b with
 |.box _ s ys=>.box (some a) s ys
 |x=>x
noncomputable def Zl9(a:Addr)(r:Rr PV):Rr PV:=match r with
 |.ok (.tup [y,.box _ s ys])=>.ok (.tup [y,.box (some a) s ys])
 |.ok _=>.bad
 |.exc e=>.exc e
 |.bad=>.bad
noncomputable def RS.outN(j:Nat)(r:RS):Rr PV:=match r with
 |.next ρ=>.ok (.tup [.non,gv j ρ])
 |.ret x=>.ok x
 |.exc e=>.exc e
 |_=>.bad
section
variable {K:W.Frag}{B:Addr->Prop}{EX:PX->Hp->Prop}{H0 H:Hp}{σ:St}{Γ Γ' Γ1 Γ2 Γ3:List Md}{ρ:List PV}{F:Nat->List Addr}
theorem Ag.initM{s:Sh}{ys:List PV}{a:Addr}{G:List Addr}{xs:List PV}{us:List V}{j l:Nat}(ht:Jg K H (.box none s ys) (.ref a) G)(h:Reps K H B xs us)(hB:∀b,B b->b ∉ G)(hj:j<=xs.length) :
  Ag K (fun b=>B b\/minus H G b=none) (minus H G) H (ins j (some (.ref a)) (us.map some++List.replicate l none)) (ins j .O (List.replicate xs.length .S++List.replicate l .U)) (ins j (.box (some a) s ys) (xs++List.replicate l .non)) (Ud (fun _=>[]) j G) []:=by
 have fin:∀i,∀b∈Ud (fun _=>[]) j G i,i=j/\b∈G:=fun i b hb=>by
  unfold Ud at hb
  split at hb
  ·exact⟨by assumption,hb⟩
  ·simp at hb
 have A:=Ag.init (n:=l) h
 refine⟨Zd4,fun b h=>.inr h,fun i b hb=>Zdb (fin i b hb).2,by simp,fun i b hb=>ht.alive b (fin i b hb).2,by simp,fun i k hik b hb z=>hik ((fin i b hb).1.trans (fin k b z).1.symm),by simp,by simp[Vu,h.length],by simp[Vu],fun i=>?_⟩
 have hjs:j<=(us.map some++List.replicate l (none:Option V)).length:=by simp[h.length];omega
 have hjg:j<=(List.replicate xs.length Md.S++List.replicate l Md.U).length:=by simp;omega
 have hjr:j<=(xs++List.replicate l PV.non).length:=by simp;omega
 rw[Zrf,Zrf,Uk i hjs,Uk i hjg,Uk i hjr]
 have go:∀q,q≠j\/True->Uv K H (NO (fun b=>B b\/minus H G b=none) (Ud (fun _=>[]) j G) []) ((List.replicate xs.length Md.S++List.replicate l Md.U)[q]?.getD .U) ((xs++List.replicate l PV.non)[q]?.getD .non) (us.map some++List.replicate l none)[q]? []:=fun q _=>by
  have sl:=A.slot q
  rw[Zrf,Zrf] at sl
  refine sl.mono (fun b u s r=>⟨r, ?_,by simp,fun k z=>?_⟩) (fun b u r=>r) (fun b hb=>by cases hb)
  ·rcases s.1 with s|s
   ·exact .inl s
   ·exact .inr (by
     by_cases q:b∈G
     ·exact Zdb q
     ·rw[ZR q];exact s)
  ·have z:=(fin k b z).2
   rcases s.1 with s|s
   ·exact hB b s z
   ·obtain⟨vs,q⟩:=ht.alive b z
    rw[s] at q;cases q
 by_cases c:i<j
 ·rw[if_pos c,if_pos c,if_pos c,Z0 (by omega)]
  exact go i (.inr trivial)
 ·rw[if_neg c,if_neg c,if_neg c]
  by_cases e:i=j
  ·rw[if_pos e,if_pos e,if_pos e]
   subst e
   rw[Zt]
   exact⟨_,rfl,ht.pin⟩
  ·rw[if_neg e,if_neg e,if_neg e,Z0 e]
   exact go (i-1) (.inr trivial)
noncomputable def Zl7(y x:PV):RS:=match x with
 |.box (some a) s xs=>.ret (.tup [y,.box (some a) s xs])
 |_=>.bad
theorem Zja{j:Nat}{te:TE}{f:List PV->Rr PV}(he:DE K EX Γ Γ' .F te f)(hm:Γ'[j]?=some .O):DS K EX Γ ⟨Γ3,Γ1,Γ2,.N⟩ (Zln te) (fun ρ=>(f ρ).thenS fun y=>Zl7 y (gv j ρ)):=fun B H0 H σ ρ F D A d=>by
 refine he B H0 H σ ρ F [] _ A (d.thenS.imp (fun y _ d v H1 s1 r1=>?_) fun e q=>q)
 obtain⟨F1,f1,G,h1,h2,A1⟩:=r1
 unfold Zl7 at d
 split at d
 ·rename_i a s xs ex
  obtain⟨w,w1,w2⟩:=A1.getO hm
  rw[show ρ.getD j .non=.box (some a) s xs from ex] at w2
  have:=w2.pinned
  subst this
  exact d v H1 A1.same ⟨y,a,s,xs,G,F1 j,rfl,h1,w2,fun b hb z=>A1.disjR j b z (Zrp _ hb),fun b hb=>A1.youngR b (Zrp _ hb),fun b hb=>A1.young j b hb⟩
 ·exact d.elim
end
section
variable {P:Program}{w:World}{K:W.Frag}{mg:Str->Option Value}{base:Heap}
theorem Fun.okM{x qual:Str}{st:Stmt}{f:Addr}{fd:FuncData}{N ps:List Str}{k n l j:Nat}{m:PV->List PV->Rr PV}(F:Fun K x qual st f fd)(S:Zy N ps (Zk st))(hn:ps.length=n+1)(hl:N.length-(n+1)=l)(hj:j<=n)(hbody:∀(cdv:Value) (A:Around) (outer:List Env) (s:Shared) (H:Hp) (E:XK),VW k (A.deeper (envOfC qual (Zk st) s.heap.objs.size f cdv)) ->
   ∃t g Y,Y.r=.N/\Y.n[j]?=some .O/\PSs (Zhm CX0 P w K mg base N qual (Zk st) f cdv A outer s H E).nox (JQ st) t/\DS K X0 (ins j .O (List.replicate n .S++List.replicate l .U)) Y t g /\
    ∀a b xs,Ref (Zl9 a (m b xs)) ((g (ins j (ZlA a b) (xs++List.replicate l .non))).outN j)) :
  JF P w K mg base CX0 (k+1) f fd ps (spM K n j m):=by
 refine F.ok S (fun vs H Q E h=>?_) (fun cdv A outer s H vs Q E hr h=>?_)
 ·obtain⟨B,xs,us,a,s,ys,G,rfl,h1,h2,_⟩:=h
  rw[Vu,h2.length,h1,hn]
 ·obtain⟨B,xs,us,a,s',ys,G,rfl,h1,h2,h3,h4,dn⟩:=h
  obtain⟨t,g,Y,hY,hYn,ht,hd,href⟩:=hbody cdv A outer s H E hr
  refine⟨t,ht, ?_⟩
  have A0:=Ag.initM (l:=l) h3 h2 h4 (show j<=xs.length by omega)
  have est:Ua N (ins j (.ref a) us)=ins j (some (.ref a)) (us.map some++List.replicate l none):=by
   unfold Ua
   rw[Vu,h2.length,h1,hl,Zbe,Zbf (by rw[Zrj,h2.length];omega)]
  rw[est]
  rw[h1] at A0
  refine hd _ (minus H G) H _ _ _ _ A0 ?_
  have hr:=href a (.box none s' ys) xs
  rw[show ZlA a (.box none s' ys)=.box (some a) s' ys from rfl] at hr
  cases em:m (.box none s' ys) xs with
  |bad=>rw[em] at dn;exact dn.elim
  |exc q=>rw[em] at dn;exact dn.elim
  |ok r =>
   rw[em] at dn hr
   obtain⟨y,s2,ys2,rfl,q⟩:=dn
   have ho:(g (ins j (.box (some a) s' ys) (xs++List.replicate l .non))).outN j=.ok (.tup [y,.box (some a) s2 ys2]):=by
    rcases hr with e|e
    ·cases e
    ·exact e.symm
   cases e:g (ins j (.box (some a) s' ys) (xs++List.replicate l .non)) with
   |next ρ =>
    rw[e] at ho
    have hy:PV.tup [.non,gv j ρ]=.tup [y,.box (some a) s2 ys2]:=by simpa[RS.outN] using ho
    simp only[PV.tup.injEq,List.cons.injEq,and_true] at hy
    obtain⟨rfl,hb⟩:=hy
    refine fun σ' H' F' fr A'=>?_
    obtain⟨v,w1,w2⟩:=A'.getO hYn
    rw[show ρ.getD j .non=.box (some a) s2 ys2 from hb] at w2
    have:=w2.pinned
    subst this
    exact q .non H' [] (F' j) A'.same ⟨rfl,rfl⟩ w2.unpin (by simp) (by simp) fun b hb=>A'.young j b hb
   |ret z =>
    rw[e] at ho
    have hy:z=.tup [y,.box (some a) s2 ys2]:=by simpa[RS.outN] using ho
    subst hy
    refine fun v H' s r=>?_
    rw[hY] at r
    obtain⟨y',a',s3,xs3,G1,G2,e1,r1,r2,r3,r4,r5⟩:=r
    simp only[PV.tup.injEq,List.cons.injEq,and_true,PV.box.injEq,Option.some.injEq] at e1
    obtain⟨rfl,rfl,rfl,rfl⟩:=e1
    exact q v H' G1 G2 s r1 r2.unpin r3 r4 r5
   |exc q=>rw[e] at ho;cases ho
   |brk ρ=>rw[e] at ho;cases ho
   |cont ρ=>rw[e] at ho;cases ho
   |bad=>rw[e] at ho;cases ho
end
def NoE{α:Type}(f:List PV->Rr α):Prop:=∀ρ e,f ρ≠.exc e
def DER(K:W.Frag)(Γ:List Md)(te:TE)(f:List PV->Rr PV):Prop:=NoE f /\
 ∀(B:Addr->Prop) (H0 H:Hp) (σ:St) (ρ:List PV) (F:Nat->List Addr) (R:List Addr) (Q:VK),Ag K B H0 H σ Γ ρ F R ->
  (∃x,f ρ=.ok x/\∀v,Rep K H (fun a=>a ∉ R) x v->Q v H)->te σ H Q
def DAR(K:W.Frag)(Γ:List Md)(ta:TA)(f:List PV->Rr (List PV)):Prop:=NoE f /\
 ∀(B:Addr->Prop) (H0 H:Hp) (σ:St) (ρ:List PV) (F:Nat->List Addr) (R:List Addr) (Q:List V->Hp->Prop),Ag K B H0 H σ Γ ρ F R ->
  (∃xs,f ρ=.ok xs/\∀vs,Reps K H (fun a=>a ∉ R) xs vs->Q vs H)->ta σ H Q
def DAM(K:W.Frag)(Γ:List Md)(i j:Nat)(ta:TA)(f:List PV->Rr (List PV)):Prop:=NoE f /\
 ∀(B:Addr->Prop) (H0 H:Hp) (σ:St) (ρ:List PV) (F:Nat->List Addr) (R:List Addr) (v:V) (Q:List V->Hp->Prop),Ag K B H0 H σ Γ ρ F R->σ[i]?=some (some v) ->
  (∃xs,f ρ=.ok xs/\∀vs,Reps K H (fun a=>a ∉ R) xs vs->Q (ins j v vs) H)->ta σ H Q
theorem bind_ok{α β:Type}{r:Rr α}{g:α->Rr β}{y:β}(h:r.bind g=.ok y):∃x,r=.ok x/\g x=.ok y:=by
 cases r with
 |ok x=>exact⟨x,rfl,h⟩
 |exc e=>cases h
 |bad=>cases h
theorem ZcZ{α β:Type}{f:List PV->Rr α}{g:List PV->α->Rr β}(h1:NoE f)(h2:∀ρ x e,g ρ x≠.exc e):NoE (fun ρ=>(f ρ).bind (g ρ)):=fun ρ e q=>by
 cases ef:f ρ with
 |ok x=>simp only[ef] at q;exact h2 ρ x e q
 |exc e'=>exact h1 ρ e' ef
 |bad=>simp only[ef] at q;cases q
section
variable {K:W.Frag}{B:Addr->Prop}{EX:PX->Hp->Prop}{H0 H H':Hp}{σ:St}{Γ Γ1 Γ2:List Md}{ρ:List PV}{F F':Nat->List Addr}{R:List Addr}{te:TE}{ta:TA}{f:List PV->Rr PV}{fa:List PV->Rr (List PV)}{i j n:Nat}{m:PV->List PV->Rr PV}
theorem Zfn{l:Nat}{md:Md}(h:Γ[l]?=some md)(hm:md≠.U):DER K Γ (ZaI l) (fun ρ=>.ok (gv l ρ)):=⟨fun ρ e q=>(by cases q),fun B H0 H σ ρ F R Q A d=>by
 obtain⟨x,e,d⟩:=d
 cases e
 cases md with
 |U=>exact absurd rfl hm
 |P=>obtain⟨v,h1,h2,h3⟩:=A.getP h;exact⟨v,h1,d v (h3.flatS h2)⟩
 |S=>obtain⟨v,h1,h2⟩:=A.getS h;exact⟨v,h1,d v (Rep.mono (fun a u s r=>⟨r,s.2.1⟩) (fun a u r=>r) h2)⟩
 |T =>
  obtain⟨a,vs,xs,h1,h2,h3,h4,h5⟩:=A.getT h
  refine⟨_,h1,d _ ?_⟩
  rw[show gv l ρ=.lst xs from h2]
  exact⟨a,vs,rfl,.inl ⟨.inl h3,A.disjR l a (by rw[h5];simp)⟩,Reps.mono (fun a u s r=>⟨r,s.2.1⟩) (fun a u r=>r) h4⟩
 |O=>obtain⟨v,h1,h2⟩:=A.getO h;exact⟨v,h1,d v (h2.rep fun a ha=>A.disjR l a ha)⟩⟩
theorem Zjk:DAR K Γ ZdY (fun _=>.ok []):=⟨fun ρ e q=>(by cases q),fun B H0 H σ ρ F R Q A d=>by
 obtain⟨x,e,d⟩:=d
 cases e
 exact d [] rfl⟩
theorem Zhl(ha:DAR K Γ ta fa):DAM K Γ i 0 (U0 (ZaI i) ta) fa:=⟨ha.1,fun B H0 H σ ρ F R v Q A hv d=>⟨v,hv,ha.2 B H0 H σ ρ F R _ A d⟩⟩
theorem Zdj(he:DER K Γ te f)(ha:DAM K Γ i j ta fa):DAM K Γ i (j+1) (U0 te ta) (fun ρ=>(f ρ).bind fun x=>(fa ρ).bind fun xs=>.ok (x::xs)):=⟨ZcZ he.1 fun ρ x e q=>(ZcZ (g:=fun _ xs=>.ok (x::xs)) ha.1 fun _ y e q=>by cases q) ρ e q,fun B H0 H σ ρ F R v Q A hv d=>by
 obtain⟨z,e,d⟩:=d
 obtain⟨x,e1,e⟩:=bind_ok e
 obtain⟨y,e2,e⟩:=bind_ok e
 cases e
 exact he.2 B H0 H σ ρ F R _ A ⟨x,e1,fun u hu=>ha.2 B H0 H σ ρ F R v _ A hv ⟨y,e2,fun vs hvs=>d (u::vs) ⟨u,vs,rfl,hu,hvs⟩⟩⟩⟩
def DM(K:W.Frag)(EX:PX->Hp->Prop)(Γ:List Md)(i:Nat)(te:TE)(fm:List PV->Rr (PV×PV)):Prop:=
 ∀(B:Addr->Prop) (H0 H:Hp) (σ:St) (ρ:List PV) (F:Nat->List Addr) (Q:VK),Ag K B H0 H σ Γ ρ F [] ->
  Dn (fm ρ) (fun r=>∀v H' F' G,Frm H F H' F'->Jg K H' r.1 v G->(∀b∈G,H b=none\/∃l,b∈F l)->Ag K B H0 H' σ Γ (ρ.set i r.2) F' (G++[])->Q v H') (fun e=>∀H',Z2 H0 H'->EX e H')->te σ H Q
noncomputable def Zf6(m:PV->List PV->Rr PV)(x:PV)(xs:List PV):Rr (PV×PV):=match x with
 |.box p s ys=>match m (.box none s ys) xs with
  |.ok (.tup [y,.box none s' ys'])=>.ok (y,.box p s' ys')
  |_=>.bad
 |_=>.bad
theorem ZjQ{α:Type}{l:List α}{i:Nat}{v:α}(h:l[i]?=some v):l.set i v=l:=by
 apply ZrX
 intro q
 by_cases e:i=q
 ·subst e;rw[ZrC (Zrg.mp h).1,h]
 ·rw[ZrJ e]
theorem Zjc(hm:Γ[i]?=some .O)(hn:Len fa n)(ha:DAM K (Γ.set i .U) i j ta fa):DM K EX Γ i (QA (spM K n j m) ta) (fun ρ=>(fa ρ).bind fun xs=>Zf6 m (gv i ρ) xs):=fun B H0 H σ ρ F Q A d=>by
 obtain⟨v,h1,h2⟩:=A.getO hm
 have hi:=A.lt hm
 cases ea:fa ρ with
 |bad=>dsimp only at d;rw[ea] at d;exact d.elim
 |exc q=>exact absurd ea (ha.1 ρ q)
 |ok xs =>
  refine ha.2 B H0 H σ ρ _ (F i++[]) v _ (A.move hm) h1 ⟨xs,ea,fun vs hvs=>?_⟩
  dsimp only at d
  rw[ea] at d
  have d:Dn (Zf6 m (gv i ρ) xs) _ _:=d
  unfold Zf6 at d
  split at d
  ·rename_i p s ys er
   rw[show ρ.getD i .non=.box p s ys from er] at h2
   split at d
   ·rename_i y s2 ys2 em
    obtain⟨a,ws,u0,G0,rfl,hH,hb,ht,hna,hF⟩:=id h2
    refine⟨fun b=>b ∉ F i,xs,vs,a,s,ys,F i,rfl,hn ρ xs ea,Reps.mono (fun b u s r=>⟨r,fun z=>s (by simp[z])⟩) (fun b u r=>r) hvs,h2.unpin,fun b hb z=>hb z, ?_⟩
    rw[em]
    refine⟨y,s2,ys2,rfl,fun u H' G1 G2 sm t1 t2 dj n1 n2=>?_⟩
    have AL:=(A.move hm).lost sm
    have hiU:(Γ.set i .U)[i]?=some .U:=by rw[ZrC hi]
    have nw:∀b,minus H (F i) b=none->(∀l,b ∉ Ud F i [] l)/\H0 b=none:=fun b hb=>by
     refine⟨fun l z=>?_, ?_⟩
     ·by_cases q:l=i
      ·subst q;rw[Zt] at z;simp at z
      ·rw[Z0 q] at z
       rw[ZR (fun w=>A.disj l i q b z w)] at hb
       obtain⟨o,e⟩:=A.live l b z
       rw[hb] at e;cases e
     ·by_cases q:b∈F i
      ·exact A.young i b q
      ·rw[ZR q] at hb
       exact A.same.free hb
    have AM:Ag K B H0 H' σ (Γ.set i .U) ρ (Ud F i []) (G2++(G1++[])):=by
     refine⟨AL.same,AL.own,AL.young,fun b hb=>?_,AL.live,fun b hb=>?_,AL.disj,fun l b hb z=>?_,AL.lenS,AL.lenR,fun l=>?_⟩
     ·rcases Zro.mp hb with z|z
      ·exact(nw b (n2 b z)).2
      ·exact(nw b (n1 b (by simpa using z))).2
     ·rcases Zro.mp hb with z|z
      ·exact t2.alive b z
      ·exact t1.alive b (by simpa using z)
     ·rcases Zro.mp z with z|z
      ·exact(nw b (n2 b z)).1 l hb
      ·exact(nw b (n1 b (by simpa using z))).1 l hb
     ·refine((A.move hm).slot l).mono (fun b o s r=>⟨(r.minus (fun z=>s.2.1 (by simp[z]))).same sm,s.1,fun z=>?_,s.2.2⟩) (fun b o r=>sm.im (r.minus fun c hc=>A.live i c hc)) fun b hb o q=>sm _ _ ?_
      ·have hb:minus H (F i) b≠none:=by
        rw[ZR (fun z=>s.2.1 (by simp[z]))]
        rcases r with r|⟨o',r⟩<;>(rw[r];simp)
       rcases Zro.mp z with z|z
       ·exact hb (n2 b z)
       ·exact hb (n1 b (by simpa using z))
      ·rw[ZR (fun z=>(A.move hm).disjR l b hb (by simp[z]))];exact q
    have AP:=Ag.put (i:=i) (m:=.O) (x:=.box p s2 ys2) (v:=.ref a) (G:=G2) (R:=G1++[]) AM (by rw[ZsN];exact hi) (fun b hb z=>dj b (by simpa using z) hb) ⟨.ref a,rfl,t2.repin hb.1⟩
    rw[ZjQ h1,List.set_set,ZfW hm] at AP
    refine d u H' _ G1 (fun b o h n=>?_) t1 (fun b hb=>?_) AP
    ·have e:minus H (F i) b=some o:=by rw[ZR (n i)];exact h
     refine⟨sm _ _ e,fun l z=>?_⟩
     by_cases q:l=i
     ·subst q
      rw[Zt] at z
      rw[n2 b z] at e;cases e
     ·rw[Z0 q,Z0 q] at z
      exact n l z
    ·have:=n1 b hb
     by_cases q:b∈F i
     ·exact .inr ⟨i,q⟩
     ·rw[ZR q] at this;exact .inl this
   ·exact d.elim
  ·exact d.elim
variable {fm:List PV->Rr (PV×PV)}{k:Kd}{l:Nat}
theorem Zau{F1:Nat->List Addr}{G:List Addr}(fr:Frm H F H' F1)(hG:∀a∈G,H a=none\/∃j,a∈F j):Frm H F H' (Ud F1 l G):=fun b o h n=>by
 obtain⟨h1,h2⟩:=fr b o h n
 refine⟨h1,fun q z=>?_⟩
 by_cases e:q=l
 ·subst e;rw[Zt] at z
  rcases hG b z with w|⟨c,w⟩
  ·rw[h] at w;cases w
  ·exact n c w
 ·rw[Z0 e] at z;exact h2 q z
theorem ZgU(he:DM K EX Γ i te fm)(hl:l<Γ.length):DS K EX Γ ⟨Γ.set l .O,Γ1,Γ2,k⟩ (Zin te (Qr l)) (fun ρ=>(fm ρ).thenS fun r=>.next ((ρ.set i r.2).set l r.1)):=fun B H0 H σ ρ F D A d=>by
 refine he B H0 H σ ρ F _ A (d.thenS.imp (fun r _ d v H1 F1 G fr t1 h1 A1=>?_) fun e q=>q)
 exact d _ H1 _ (Zau fr h1) (Ag.put (R:=[]) A1 hl (by simp) ⟨v,rfl,t1⟩)
end
noncomputable def Pm.fnM(m:Pm)(b:PV)(xs:List PV):Rr PV:=m.fn (b::xs)
theorem hu1{n c:Nat}(h:n+64<c):n+1<c:=by omega
theorem ZfY{y:PV}{a:Addr}{s:Sh}{xs:List PV}:Zl7 y (.box (some a) s xs)=.ret (.tup [y,.box (some a) s xs]):=rfl
theorem Zhr{m:PV->List PV->Rr PV}{p:Option Addr}{s s':Sh}{ys ys' xs:List PV}{y:PV}(h:m (.box none s ys) xs=.ok (.tup [y,.box none s' ys'])):Zf6 m (.box p s ys) xs=.ok (y,.box p s' ys'):=by
 unfold Zf6
 simp only[h]
section
variable {prog:Program}{w:World}{A:Around}{s:Shared}
theorem UM{fin:Bool}{Q:Bool->Shared->Prop}:∀{ns ms:List Int}{vs ws:List Value}{i:Nat},ZP (ns.map V.int) vs->ZP (ms.map V.int) ws->fin=decide (vs.length<ws.length)->Q (HT.ZA ns ms) s ->
  PySem.W.KatLex prog w A true fin Q (vs.zip ws) i s
 |[],[],_,_,i,.nil,.nil,e,q=>by subst e;exact q
 |[],m::ms,_,_,i,.nil,.cons r t,e,q=>by
  have:fin=true:=by rw[e];simp
  subst this
  exact q
 |n::ns,[],_,_,i,.cons r t,.nil,e,q=>by
  have:fin=false:=by rw[e];simp
  subst this
  exact q
 |n::ns,m::ms,_,_,i,.cons r t,.cons r' t',e,q=>by
  obtain⟨k,rfl⟩:=r
  obtain⟨k',rfl⟩:=r'
  rw[ZsO]
  refine PySem.W.kat_cons (wpAny_eqBool_int ?_)
  rw[HT.JW] at q
  by_cases h:n=m
  ·subst h
   rw[if_pos rfl] at q
   simp only[beq_self_eq_true]
   exact PySem.W.kat_yes (UM t t' (by rw[e];simp) q)
  ·rw[if_neg h] at q
   have hb:(n==m)=false:=by simpa using h
   rw[hb]
   refine PySem.W.kat_no ?_
   cases i with
   |zero=>exact oneLt_int q
   |succ i=>exact PySem.W.kat_one _ _ (PyProof.Rows.lt_int q)
end
noncomputable def ZK(t:List Int):PV:=.tup (t.map PV.int)
theorem Vn:∀{a b:List (List Int)},a.map ZK=b.map ZK->a=b
 |[],[],_=>rfl
 |[],y::b,h=>by simp at h
 |x::a,[],h=>by simp at h
 |x::a,y::b,h=>by
  simp only[Zru,List.cons.injEq,ZK,PV.tup.injEq] at h
  rw[ZD h.1,Vn h.2]
section
end
theorem Pm.refM2(m:Pm){r:Addr->PV->List PV->Rr PV}(h:∀i,m.pre i->∀a b xs,m.enc i=b::xs->r a b xs=Zl9 a (m.out i)):∀a b xs,Ref (Zl9 a (m.fnM b xs)) (r a b xs):=fun a b xs=>by
 unfold Pm.fnM Pm.fn
 by_cases hx:∃i,m.enc i=b::xs/\m.pre i
 ·rw[dif_pos hx]
  exact .inr (h _ hx.choose_spec.2 a b xs hx.choose_spec.1).symm
 ·rw[dif_neg hx];exact .inl rfl
theorem Q2:bootBuiltins "sorted"=some (.builtin "sorted"):=by decide +kernel
end L2
namespace My
open L2
noncomputable def tab(n:Nat)(f:Nat->Int):List Int:=(List.range n).map f
theorem ZZ(n:Nat)(f:Nat->Int):(tab n f).length=n:=by simp[tab]
theorem UV{n:Nat}{f:Nat->Int}{x:Nat}(h:x<n):(tab n f).getD x 0=f x:=by
 rw[Zrf,tab,Zrn,ZrZ h];rfl
theorem Zad{n:Nat}{f:Nat->Int}{l:List Int}(hl:l.length=n)(h:∀x,x<n->l.getD x 0=f x):l=tab n f:=by
 apply List.ext_getElem
 ·rw[hl,ZZ]
 ·intro i h1 h2
  have:=h i (by omega)
  rw[Zrf,Zri h1] at this
  simp only[tab,List.getElem_map,List.getElem_range]
  exact this
theorem getD_set{l:List Int}{j x:Nat}{v:Int}(h:j<l.length):(l.set j v).getD x 0=if x=j then v else l.getD x 0:=by
 rw[Zrf,Zrf]
 by_cases e:x=j
 ·subst e;rw[ZrC h,if_pos rfl];rfl
 ·rw[ZrJ (Ne.symm e),if_neg e]
theorem ZdX{n:Nat}{f:Nat->Int}{j:Nat}{v:Int}(h:j<n):(tab n f).set j v=tab n fun x=>if x=j then v else f x:=by
 refine Zad (by rw[ZsN,ZZ]) fun x hx=>?_
 rw[getD_set (by rw[ZZ];exact h)]
 by_cases e:x=j
 ·rw[if_pos e,if_pos e]
 ·rw[if_neg e,if_neg e,UV hx]
theorem UW{n:Nat}{f g:Nat->Int}(h:∀x,x<n->f x=g x):tab n f=tab n g:=Zad (ZZ _ _) fun x hx=>by rw[UV hx,h x hx]
theorem Vv{l:List Int}{x:Nat}(h:x<l.length):l.getD x 0∈l:=by
 rw[Zrf,Zri h];exact Zs1 h
theorem UF:∀{l:List Int}{j:Nat}{v:Int},j<l.length->(l.set j v).sum=l.sum-l.getD j 0+v
 |a::l,0,v,_=>by simp;omega
 |a::l,j+1,v,h=>by
  have:=UF (l:=l) (j:=j) (v:=v) (by simpa using h)
  simp only[List.set_cons_succ,ZsB,List.getD_cons_succ,this];omega
theorem UY:∀(ns:List Int) (c:Int),(ns.map fun v=>v+c).sum=ns.sum+ns.length*c
 |[],c=>by simp
 |a::l,c=>by
  simp only[Zru,ZsB,ZrF]
  rw[UY l c,Int.natCast_add,Int.add_mul];omega
theorem Zam{n a b:Int}(ha:0<=a)(ha':a<n)(hb:0<=b)(hb':b<n):(a-b)%n=if b<=a then a-b else a-b+n:=by
 by_cases h:b<=a
 ·rw[if_pos h,ZrK (by omega) (by omega)]
 ·rw[if_neg h,<- ZsQ,ZrK (by omega) (by omega)]
theorem Qh{n a b:Int}(ha:0<=a)(ha':a<n)(hb:0<=b)(hb':b<n):(a+b)%n=if a+b<n then a+b else a+b-n:=by
 by_cases h:a+b<n
 ·rw[if_pos h,ZrK (by omega) (by omega)]
 ·rw[if_neg h,<- Int.sub_emod_right,ZrK (by omega) (by omega)]
structure Zlm(ns:List Int):Prop where
 lo:2<=ns.length
 hi:ns.length<=24
 nn:∀x∈ns,0<=x
 sm:ns.sum<=10^60
theorem sum_nn:∀{l:List Int},(∀x∈l,0<=x)->0<=l.sum
 |[],_=>by simp
 |a::l,h=>by
  have:=sum_nn (l:=l) fun x hx=>h x (by simp[hx])
  have:=h a (by simp)
  simp only[ZsB];omega
theorem ZeR:∀{l:List Int}{v:Int},(∀x∈l,0<=x)->v∈l->v<=l.sum
 |a::l,v,h,hv=>by
  have h1:=sum_nn (l:=l) fun x hx=>h x (by simp[hx])
  have h2:=h a (by simp)
  simp only[ZsB]
  rcases Zrt.mp hv with rfl|hv
  ·omega
  ·have:=ZeR (l:=l) (fun x hx=>h x (by simp[hx])) hv
   omega
noncomputable def Zh2(ns:List Int)(p:Int)(x:Nat):Int:=(if (x:Int)=p then 0 else ns.getD x 0)+ns.getD p.toNat 0/ns.length
noncomputable def ZfT(n:Int)(p:Int)(i:Int)(x:Nat):Int:=if 1<=((x:Int)-p)%n/\((x:Int)-p)%n<=i then 1 else 0
noncomputable def Za9(ns:List Int)(p:Int)(i:Int)(x:Nat):Int:=Zh2 ns p x+ZfT ns.length p i x
theorem Zb8(n p i:Int)(x:Nat):0<=ZfT n p i x:=by unfold ZfT;split<;>omega
theorem V0{n p i:Int}{x:Nat}(h:1<=((x:Int)-p)%n/\((x:Int)-p)%n<=i):ZfT n p i x=1:=if_pos h
theorem Vo{n p i:Int}{x:Nat}(h:¬(1<=((x:Int)-p)%n/\((x:Int)-p)%n<=i)):ZfT n p i x=0:=if_neg h
theorem ZjP{ns:List Int}{p:Int}{x:Nat}(h:(x:Int)=p):Zh2 ns p x=ns.getD p.toNat 0/ns.length:=by unfold Zh2;rw[if_pos h];omega
theorem Ziv{ns:List Int}{p:Int}{x:Nat}(h:(x:Int)≠p):Zh2 ns p x=ns.getD x 0+ns.getD p.toNat 0/ns.length:=by unfold Zh2;rw[if_neg h]
noncomputable def Vi(ns:List Int)(p:Int):List Int:=tab ns.length (Za9 ns p (ns.getD p.toNat 0%ns.length))
noncomputable def Zmn(ns:List Int)(p:Int):Int:=(p+ns.getD p.toNat 0%ns.length)%ns.length
theorem Zb9(ns:List Int)(p:Int):(Vi ns p).length=ns.length:=ZZ _ _
section
variable {ns:List Int}{p:Int}
theorem Zai(h0:0<=p)(h1:p<ns.length):(ns.map fun v=>v+ns.getD p.toNat 0/ns.length).set p.toNat (ns.getD p.toNat 0/ns.length)=tab ns.length (Za9 ns p 0):=by
 refine Zad (by simp) fun x hx=>?_
 rw[getD_set (by simp;omega)]
 unfold Za9
 rw[Vo (by omega)]
 by_cases e:x=p.toNat
 ·rw[if_pos e,ZjP (by omega)];omega
 ·rw[if_neg e,Ziv (by omega)]
  simp[Zrf,Zri hx]
theorem ZcB(h0:0<=p)(h1:p<ns.length){i:Nat}(hi:(i:Int)+1<ns.length) :
  (tab ns.length (Za9 ns p i)).set ((p+(i+1))%ns.length).toNat (Za9 ns p i ((p+(i+1))%ns.length).toNat+1)=tab ns.length (Za9 ns p ((i+1:Nat):Int)):=by
 have m1:=Qh h0 h1 (show (0:Int)<=(i:Int)+1 by omega) hi
 have hlt:((p+((i:Int)+1))%ns.length).toNat<ns.length:=by
  rw[m1];split<;>omega
 rw[ZdX hlt]
 refine UW fun x hx=>?_
 have m2:=Zam (n:=ns.length) (show (0:Int)<=(x:Int) by omega) (by omega) h0 h1
 by_cases e:x=((p+((i:Int)+1))%ns.length).toNat
 ·rw[if_pos e,<- e]
  unfold Za9
  have hd:((x:Int)-p)%ns.length=i+1:=by
   rw[m2]
   rw[m1] at e
   split at e<;>split<;>omega
  rw[Vo (by omega),V0 (by omega)];omega
 ·rw[if_neg e]
  unfold Za9
  have hd:((x:Int)-p)%ns.length≠i+1:=by
   intro z
   apply e
   rw[m2] at z
   rw[m1]
   split at z<;>split<;>omega
  by_cases q:1<=((x:Int)-p)%ns.length/\((x:Int)-p)%ns.length<=i
  ·rw[V0 q,V0 (by omega)]
  ·rw[Vo q,Vo (by omega)]
theorem ZaL(h0:0<=p)(h1:p<ns.length):∀i:Nat,(i:Int)<ns.length->(tab ns.length (Za9 ns p i)).sum=ns.sum+ns.length*(ns.getD p.toNat 0/ns.length)-ns.getD p.toNat 0+i
 |0,_=>by
  have:=Zai h0 h1
  rw[Int.natCast_zero,<- this,UF (by simp;omega)]
  have e:=UY ns (ns.getD p.toNat 0/ns.length)
  rw[e]
  have e2:(ns.map fun v=>v+ns.getD p.toNat 0/ns.length).getD p.toNat 0=ns.getD p.toNat 0+ns.getD p.toNat 0/ns.length:=by
   have hx:p.toNat<ns.length:=by omega
   rw[Zrf,Zrn,Zri hx]
   simp[hx]
  rw[e2];omega
 |i+1,hi=>by
  have ih:=ZaL h0 h1 i (by omega)
  have m1:=Qh h0 h1 (show (0:Int)<=(i:Int)+1 by omega) (by omega)
  have hlt:((p+((i:Int)+1))%ns.length).toNat<ns.length:=by rw[m1];split<;>omega
  rw[<- ZcB h0 h1 (by omega),UF (by rw[ZZ];exact hlt),ih,UV hlt];omega
theorem ZfU(h0:0<=p)(h1:p<ns.length)(hs:0<=ns.getD p.toNat 0):(Vi ns p).sum=ns.sum:=by
 have b1:=Zr5 (ns.getD p.toNat 0) (show (ns.length:Int)≠0 by omega)
 have b2:=Zry (ns.getD p.toNat 0) (show (0:Int)<ns.length by omega)
 have:=ZaL h0 h1 (ns.getD p.toNat 0%ns.length).toNat (by omega)
 rw[ZrA b1] at this
 have e:=Zsp (ns.getD p.toNat 0) ns.length
 unfold Vi
 omega
theorem Zit(hn:∀x∈ns,0<=x)(i:Int)(x:Nat)(hx:x<ns.length):0<=Za9 ns p i x:=by
 have h1:=hn _ (Vv hx)
 have h2:0<=ns.getD p.toNat 0:=by
  by_cases hp:p.toNat<ns.length
  ·exact hn _ (Vv hp)
  ·rw[Zrf,Zr3 (by omega)];exact Ztj _
 have h3:=Int.ediv_nonneg h2 (show (0:Int)<=ns.length by omega)
 have h4:=Zb8 ns.length p i x
 unfold Za9 Zh2
 split<;>omega
end
noncomputable def run(f:Nat->Int):Nat->Nat->Nat
 |0,i=>i
 |k+1,i=>if 0<f i then run f k (i+1) else i
section
end
noncomputable def Zjz(a:List Int×Int):List Int×Int:=(Vi a.1 a.2,Zmn a.1 a.2)
noncomputable def its{α:Type}(f:α->α):Nat->α->α
 |0,a=>a
 |n+1,a=>f (its f n a)
section
end
end My
namespace My
open PySem L2
noncomputable abbrev Zi7(a:List Int×Int):PV:=.tup [.lst (a.1.map PV.int),.int a.2]
noncomputable def VI(ns:List Int):Bool:=decide (2<=ns.length/\ns.length<=24/\(∀x∈ns,0<=x)/\ns.sum<=10^60)
theorem V9{ns:List Int}:VI ns=true ↔ Zlm ns:=by
 unfold VI
 rw[decide_eq_true_iff]
 exact⟨fun⟨a,b,c,d⟩=>⟨a,b,c,d⟩,fun h=>⟨h.lo,h.hi,h.nn,h.sm⟩⟩
end My
namespace L2
noncomputable def ZkE(p s:Int):Int:=p*s%(p+1)
noncomputable def Zmy(p s:Int):Int:=p*s/(p+1)
noncomputable def Ziu(s:Int):Nat->Int
 |0=>s
 |k+1=>Zmy (k+1) (Ziu s k)
noncomputable def ZkL(s:Int)(n:Nat):List Int:=(List.range n).map fun(k:Nat)=>ZkE (k+1) (Ziu s k)
noncomputable def Zj7(s:Int):Nat->Nat->Nat
 |0,k=>k
 |n+1,k=>if 0<Ziu s k then Zj7 s n (k+1) else k
noncomputable def Zm4(s:Int):Nat:=Zj7 s s.toNat 0
noncomputable def Zl0(s:Int):List Int:=ZkL s (Zm4 s)
def ZfD(ns:List Int):Prop:=(∀x∈ns,0<=x)/\ns.length<=200/\ns.sum<=10000/\(ns=[]\/ns.getD (ns.length-1) 0≠0)
noncomputable instance (ns:List Int):Decidable (ZfD ns):=by unfold ZfD;infer_instance
def Zie(ns:List Int):Prop:=ZfD ns/\ns=Zl0 ns.sum
noncomputable instance (ns:List Int):Decidable (Zie ns):=by unfold Zie;infer_instance
noncomputable def s2(ns:List Int)(r:Nat):Nat->Int
 |0=>0
 |i+1=>s2 ns r i+if i%2=r then ns.getD i 0 else 0
theorem Zfh{ns:List Int}{i:Nat}(h:i<ns.length):ns.getD i 0∈ns:=by
 rw[Zrf,Zri h];exact Zs1 _
noncomputable def hs:Nat->Nat->Int->List Int
 |_,0,_=>[]
 |k,m+1,l=>ZkE (k+1) l::hs (k+1) m (Zmy (k+1) l)
noncomputable def s3(ns:List Int)(r:Nat):Nat->Int
 |0=>0
 |i+1=>s3 ns r i+if i%3=r then ns.getD i 0 else 0
def Zid(ns:List Int):Prop:=(∀x∈ns,0<=x)/\ns.length<=100/\ns.sum<=100/\(ns=[]\/(ns.getD 0 0≠0/\ns.getD (ns.length-1) 0≠0))
noncomputable instance (ns:List Int):Decidable (Zid ns):=by unfold Zid;infer_instance
theorem ZgO{ns:List Int}{i:Nat}(h:ns.length<=i):ns.getD i 0=0:=by
 rw[Zrf,Zr3 h];rfl
theorem Zfg{ns:List Int}(h:∀x∈ns,0<=x)(i:Nat):0<=ns.getD i 0:=by
 by_cases z:i<ns.length
 ·exact h _ (Zfh z)
 ·rw[ZgO (by omega)];omega
theorem sum_nn:∀{ns:List Int},(∀x∈ns,0<=x)->0<=ns.sum
 |[],_=>by simp
 |x::xs,h=>by
  have:=h x (by simp)
  have:=sum_nn (ns:=xs) (fun y hy=>h y (by simp[hy]))
  simp;omega
noncomputable def UZ(s:Int):Nat->Int
 |0=>s
 |k+1=>UZ s k*48271%2147483647
theorem ZcA{s:Int}(h:0<=s/\s<=2147483647):∀k,0<=UZ s k/\UZ s k<=2147483647
 |0=>h
 |k+1=>by rw[UZ];omega
noncomputable def ZdO(s:Int)(m:Nat):List Int:=(List.range m).map fun(k:Nat)=>UZ s (k+1)/16%1000000
theorem Zbh(s:Int)(m:Nat):ZdO s (m+1)=ZdO s m++[UZ s (m+1)/16%1000000]:=by simp[ZdO,Ztk]
@[simp] theorem VR(s:Int)(m:Nat):(ZdO s m).length=m:=by simp[ZdO]
noncomputable def Zbj(fs ns:List Int)(m:Nat):Nat->List Int
 |0=>fs
 |i+1=>(Zbj fs ns m i).set (i%m) (((Zbj fs ns m i).getD (i%m) 0+ns.getD i 0)%1000000)
@[simp] theorem U8(fs ns:List Int)(m:Nat):∀i,(Zbj fs ns m i).length=fs.length
 |0=>rfl
 |i+1=>by rw[Zbj,ZsN,U8]
noncomputable def JJ(ns:List Int):Int:=if 0<ns.length then 1+ns.getD 0 0%2147483646 else 1
theorem ZaK(ns:List Int):0<=JJ ns/\JJ ns<=2147483647:=by unfold JJ;split<;>omega
noncomputable def Zd3(ns:List Int)(m:Nat):List Int:=Zbj (ZdO (JJ ns) m) ns m ns.length
@[simp] theorem ZaW(ns:List Int)(m:Nat):(Zd3 ns m).length=m:=by simp[Zd3]
theorem getD_set{l:List Int}{i j:Nat}{v:Int}(h:i<l.length):(l.set i v).getD j 0=if i=j then v else l.getD j 0:=by
 simp only[Zrf,List.getElem?_set,if_pos h]
 split<;>rfl
noncomputable def stir(c j:Int):Int:=((c%2147483647+1009*j+7)*48271%2147483647)*((c%2147483647+1009*j+7)*48271%2147483647)%998244353/8
end L2
namespace My
open L2
noncomputable def Zl4(ns:List Int)(k:Int):List Int:=tab ns.length fun x=>ns.getD (((x:Int)-k)%ns.length).toNat 0
noncomputable def Zl3(a:List Int×Int)(s:Nat):Int:=((its Zjz s a).2-a.2)%a.1.length
def isT(a:List Int×Int)(s:Nat):Prop:=(its Zjz s a).1=Zl4 a.1 (Zl3 a s)
noncomputable instance (a:List Int×Int) (s:Nat):Decidable (isT a s):=by unfold isT;infer_instance
section
end
end My
namespace My
open PySem PySem.Spec PyProof.Rows L2
theorem Qg{ns:List Int}{k:Int}(h0:0<=k)(h1:k<ns.length):pIx (.tup (ns.map PV.int)) (.int k)=.ok (.int (ns.getD k.toNat 0)):=UK (ns:=ns) h0 h1
theorem Zdy{ns:List Int}:Ze6 [.tup (ns.map PV.int)]=.ok (.int ns.length):=by simp[Ze6]
theorem ZgR{xs:List PV}:PV.flat (.tup xs)=PV.flats xs:=by simp[PV.flat]
theorem QP{ns:List Int}:PV.flat (.tup (ns.map PV.int))=true:=by rw[ZgR];exact Uo
theorem Zbg{ns:List Int}:grd (.tup (ns.map PV.int))=.ok (.tup (ns.map PV.int)):=by unfold grd;rw[QP];rfl
noncomputable def tI(b:List Int):List Key:=b.map Sum.inl
theorem UC(b:List Int):ZK b=.tup ((tI b).map ZbY):=by unfold ZK tI;rw[Zr1];rfl
theorem Zbk{α:Type}{q:α->PV}(h:∀a,PV.flat (q a)=true):∀L:List α,PV.flats (L.map q)=true
 |[]=>by simp[PV.flats]
 |a::L=>by
  rw[Zru]
  simp only[PV.flats,h a,Zbk h L,Bool.and_self]
theorem ZiM{xs:List PV}(h:PV.flats xs=true)(hl:xs.length<=1000000):newF xs=.ok (.lst xs):=by
 unfold newF
 rw[h,decide_eq_true hl];rfl
theorem ZeL{α:Type}{q:α->PV}{L:List α}(h:∀a,PV.flat (q a)=true)(hl:L.length<=1000000):newF (L.map q)=.ok (.lst (L.map q)):=ZiM (Zbk h L) (by simpa using hl)
theorem JD(t:List Int):PV.flat (ZK t)=true:=QP
theorem Zc8{a b:List Int}(h:tI a=tI b):a=b:=by
 unfold tI at h
 exact(Zs6 fun x y h=>Sum.inl.inj h).mp h
section
variable {κ:Type} [DecidableEq κ] {α:Type}{k:κ}{ks:List κ}
theorem ZaP(h:k ∉ ks):Q4 ks k=ks++[k]:=if_neg h
theorem ZaO{xs:List α}{y:α}(h:k ∉ ks):U2 ks xs k y=xs++[y]:=if_neg h
end
section
variable {ks:List (List Key)}{xs:List PV}{p:Option PySem.Addr}{g:List Int}{v:PV}
theorem Zlb:dAt (.box p (.dt ks) xs) (ZK g)=some (atK ks xs (tI g)):=by
 rw[UC]
 simp only[dAt,V5,ZsR]
theorem VP(h:atK ks xs (tI g)=some v):Zgs (.box p (.dt ks) xs) (ZK g)=.ok v:=by
 unfold Zgs
 rw[Zlb,h]
theorem Zkr{f:Bool->Bool}:Zlq f (ZK g) (.box p (.dt ks) xs)=.ok (.bl (f (atK ks xs (tI g)).isSome)):=by
 unfold Zlq
 rw[Zlb]
theorem ZeD(hv:v.flat=true)(hl:xs.length<1000000):Zgr (.box p (.dt ks) xs) (ZK g) v=.ok (.box p (.dt (Q4 ks (tI g))) (U2 ks xs (tI g) v)):=by
 rw[UC]
 unfold Zgr
 simp only[V5]
 rw[if_pos ⟨hl,.inr hv⟩]
theorem Zdp:∀{ks:List (List Key)}{xs:List PV}{k:List Key},k ∉ ks->atK ks xs k=none
 |[],_,_,_=>by unfold atK;rfl
 |k'::ks,[],k,_=>by unfold atK;rfl
 |k'::ks,x::xs,k,h=>by
  unfold atK
  rw[if_neg (fun e=>h (by rw[e];exact ZrM ..)),Zdp fun z=>h (Zr6 _ z)]
theorem ZfA:∀{ks:List (List Key)}{xs:List PV}{k:List Key},ks.length=xs.length->k∈ks->∃x,atK ks xs k=some x
 |[],_,_,_,h=>by simp at h
 |k'::ks,[],k,h,_=>by simp at h
 |k'::ks,x::xs,k,h,hm=>by
  unfold atK
  by_cases e:k'=k
  ·rw[if_pos e];exact⟨x,rfl⟩
  ·rw[if_neg e]
   exact ZfA (by simpa using h) ((Zrt.mp hm).resolve_left fun z=>e z.symm)
end
noncomputable def Zag(x:Int×List Int):PV:=.tup [.int x.1,ZK x.2]
end My
namespace L2
noncomputable def cbI(s:Int):Nat->Int
 |0=>1
 |k+1=>cbI s k*(s+((k:Int)+1))/((k:Int)+1)
theorem Zf3{s:Int}(h:0<=s):∀k,0<=cbI s k
 |0=>by simp[cbI]
 |k+1=>by
  rw[cbI]
  exact Int.ediv_nonneg (Int.mul_nonneg (Zf3 h k) (by omega)) (by omega)
theorem ZhT{s:Int}(h:0<=s)(h1:s<=10^60):∀k:Nat,k<=1000->cbI s k<=(10^61)^k
 |0,_=>by simp[cbI]
 |k+1,hk=>by
  have ih:=ZhT h h1 k (by omega)
  have nn:=Zf3 h k
  rw[cbI]
  have e1:cbI s k*(s+((k:Int)+1))<=(10^61)^k*10^61:=Int.mul_le_mul ih (by omega) (by omega) (Int.pow_nonneg (by decide))
  have e2:cbI s k*(s+((k:Int)+1))/((k:Int)+1)<=cbI s k*(s+((k:Int)+1)):=Int.ediv_le_self _ (Int.mul_nonneg nn (by omega))
  rw[Int.pow_succ]
  omega
noncomputable def cbN(p s:Int):Int:=if s<0 then 0 else cbI s (p-1).toNat
theorem Zf2{s:Int}(h:0<=s)(h1:s<=10^60){k:Nat}(hk:k<=24):(cbI s k).natAbs<2^60000:=by
 have h2:=ZhT h h1 k (by omega)
 have h3:=Zf3 h k
 have h4:((10:Int)^61)^k<=(10^61)^24:=by
  have:((10:Nat)^61)^k<=(10^61)^24:=Ztc (by decide) hk
  exact_mod_cast this
 have h5:((10:Int)^61)^24=10^1464:=by rw[<- Int.pow_mul]
 have h6:(cbI s k).natAbs<=10^1464:=by
  have:cbI s k<=10^1464:=by rw[<- h5];exact Int.le_trans h2 h4
  have e:((cbI s k).natAbs:Int)=cbI s k:=Int.natAbs_of_nonneg h3
  have:((cbI s k).natAbs:Int)<=((10^1464:Nat):Int):=by rw[e];exact_mod_cast this
  exact_mod_cast this
 have h7:10^1464<2^60000:=by
  calc (10:Nat)^1464<=(2^4)^1464:=Ztl (by decide) _
   _=2^5856:=by rw[<- Nat.pow_mul]
   _<2^60000:=Zte (by decide) (by decide)
 omega
noncomputable def bN:Nat->Nat->Nat
 |0=>fun _=>1
 |s+1=>fun k=>Nat.rec 1 (fun k ih=>bN s (k+1)+ih) k
@[simp] theorem ZmE(s:Nat):bN s 0=1:=by cases s<;>rfl
@[simp] theorem ZmD(k:Nat):bN 0 k=1:=by exact id rfl
theorem Zco(s k:Nat):bN (s+1) (k+1)=bN s (k+1)+bN (s+1) k:=rfl
theorem Zle:∀n s k,s+k=n->(k+1)*bN s (k+1)=(s+k+1)*bN s k/\(s+1)*bN (s+1) k=(s+k+1)*bN s k:=by
 intro n
 induction n using Nat.strongRecOn with
 |ind n ih =>
  intro s k h
  constructor
  ·cases s with
   |zero=>simp
   |succ s =>
    have h1:=(ih (s+k) (by omega) s k rfl).1
    have h2:=(ih (s+k) (by omega) s k rfl).2
    rw[Zco,Nat.mul_add,h1,<- h2,<- Nat.add_mul]
    congr 1
  ·cases k with
   |zero=>simp
   |succ k =>
    have h1:=(ih (s+k) (by omega) s k rfl).1
    have h2:=(ih (s+k) (by omega) s k rfl).2
    rw[Zco,Nat.mul_add,h2,<- h1,<- Nat.add_mul]
    congr 1
    omega
theorem ZhU(s:Nat):∀k:Nat,cbI s k=(bN s k:Nat)
 |0=>by simp[cbI]
 |k+1=>by
  have h:=(Zle (s+k) s k rfl).1
  rw[cbI,ZhU s k]
  have e:((bN s k:Nat):Int)*((s:Int)+((k:Int)+1))=((k:Int)+1)*(bN s (k+1):Nat):=by
   have:(((k+1)*bN s (k+1):Nat):Int)=(((s+k+1)*bN s k:Nat):Int):=by rw[h]
   rw[Int.natCast_mul,Int.natCast_mul] at this
   rw[show ((k:Int)+1)=((k+1:Nat):Int) by omega,this,Int.mul_comm]
   congr 1
  rw[e,Int.mul_ediv_cancel_left _ (by omega)]
theorem QZ{p s:Int}(hs:0<=s):cbN p s=(bN s.toNat (p-1).toNat:Nat):=by
 unfold cbN
 rw[if_neg (by omega)]
 have:=ZhU s.toNat (p-1).toNat
 rwa [ZrA hs] at this
theorem Zck{p s:Int}(hs:s<0):cbN p s=0:=if_pos hs
theorem Zf1(p s:Int):0<=cbN p s:=by
 by_cases h:s<0
 ·rw[Zck h];exact Ztj _
 ·rw[QZ (by omega)];omega
theorem Zcj{s:Int}(hs:0<=s):cbN 1 s=1:=by rw[QZ hs];simp
theorem Zdl(p:Int):cbN p 0=1:=by rw[QZ (Ztj _)];simp
theorem Za2{p s:Int}(hp:2<=p)(hs:0<=s):cbN p s=cbN p (s-1)+cbN (p-1) s:=by
 by_cases h:s=0
 ·subst h
  rw[Zck (p:=p) (s:=0-1) (by omega),Zdl,Zdl];rfl
 ·rw[QZ hs,QZ (p:=p) (s:=s-1) (by omega),QZ (p:=p-1) hs]
  obtain⟨t,ht⟩:∃t:Nat,s=t+1:=⟨(s-1).toNat,by omega⟩
  obtain⟨q,hq⟩:∃q:Nat,p=q+2:=⟨(p-2).toNat,by omega⟩
  subst ht
  subst hq
  rw[show ((t:Int)+1).toNat=t+1 by omega,show ((q:Int)+2-1).toNat=q+1 by omega,show ((t:Int)+1-1).toNat=t by omega,show ((q:Int)+2-1-1).toNat=q by omega,Zco]
  omega
theorem Zdm{p s t:Int}(hp:1<=p)(h:s<=t):cbN p s<=cbN p t:=by
 by_cases hs:s<0
 ·rw[Zck hs];exact Zf1 p t
 ·obtain⟨d,rfl⟩:∃d:Nat,t=s+d:=⟨(t-s).toNat,by omega⟩
  induction d with
  |zero=>simp
  |succ d ih =>
   have ih:=ih (by omega)
   by_cases h1:p=1
   ·subst h1;rw[Zcj (by omega),Zcj (by omega)];omega
   ·have h2:=Za2 (p:=p) (s:=s+((d+1:Nat):Int)) (by omega) (by omega)
    rw[show s+((d+1:Nat):Int)-1=s+(d:Int) by omega] at h2
    have:=Zf1 (p-1) (s+((d+1:Nat):Int))
    omega
noncomputable def ZfK:List Int->Int
 |[]=>0
 |[_]=>0
 |_::y::r=>cbN (((y::r).length:Int)+1) ((y::r).sum-1)+ZfK (y::r)
theorem Za6:∀(l:List Int),l≠[]->(∀x∈l,0<=x)->0<=ZfK l/\ZfK l+1<=cbN l.length l.sum
 |[],h,_=>absurd rfl h
 |[x],_,hn=>by
  have hx:=hn x (by simp)
  simp only[ZfK,ZrF,Zti,ZsB,List.sum_nil]
  rw[show ((0+1:Nat):Int)=1 by rfl,Zcj (by omega)]
  omega
 |x::y::r,_,hn=>by
  have hx:=hn x (by simp)
  have hr:∀z∈y::r,0<=z:=fun z hz=>hn z (by simp only[Zrt] at hz ⊢;right;exact hz)
  have hs:=sum_nn hr
  obtain⟨h1,h2⟩:=Za6 (y::r) (by simp) hr
  rw[ZfK]
  have h3:=Zf1 (((y::r).length:Int)+1) ((y::r).sum-1)
  refine⟨by omega, ?_⟩
  have h4:=Za2 (p:=((y::r).length:Int)+1) (s:=(y::r).sum) (by simp only[ZrF];omega) hs
  rw[show ((y::r).length:Int)+1-1=(y::r).length by omega] at h4
  have h5:=Zdm (p:=((y::r).length:Int)+1) (s:=(y::r).sum) (t:=(x::y::r).sum) (by omega) (by simp only[ZsB];omega)
  rw[show (((x::y::r).length:Nat):Int)=((y::r).length:Int)+1 by simp only[ZrF];omega]
  omega
noncomputable def ZeK(l:List Int):Int:=cbN l.length l.sum-1-ZfK l
theorem ZiL{l:List Int}(h:l≠[])(hn:∀x∈l,0<=x):0<=ZeK l/\ZeK l<cbN l.length l.sum:=by
 have:=Za6 l h hn
 unfold ZeK
 omega
theorem ZeJ:∀{a b:List Int},a.length=b.length->a.sum=b.sum->(∀x∈a,0<=x)->(∀x∈b,0<=x)->a≠[] ->
  (∃i,i<a.length/\(∀j,j<i->a.getD j 0=b.getD j 0)/\a.getD i 0<b.getD i 0)->ZfK b<ZfK a
 |[],_,_,_,_,_,h,_=>absurd rfl h
 |[x],b,hl,hs,_,_,_,hd=>by
  obtain⟨i,hi,h1,h2⟩:=hd
  simp at hi
  subst hi
  match b,hl with
  |[z],_=>simp at hs h2;omega
 |x::y::r,b,hl,hs,hna,hnb,_,hd=>by
  match b,hl with
  |z::w::q,hl =>
   have hra:∀v∈y::r,0<=v:=fun v hv=>hna v (by simp only[Zrt] at hv ⊢;right;exact hv)
   have hrb:∀v∈w::q,0<=v:=fun v hv=>hnb v (by simp only[Zrt] at hv ⊢;right;exact hv)
   have hlen:(y::r).length=(w::q).length:=by simpa using hl
   have sa:=sum_nn hra
   have sb:=sum_nn hrb
   obtain⟨i,hi,h1,h2⟩:=hd
   rw[ZfK,ZfK]
   have hsum:x+(y::r).sum=z+(w::q).sum:=by simpa[ZsB] using hs
   cases i with
   |zero =>
    have h2:x<z:=by simpa using h2
    obtain⟨b1,b2⟩:=Za6 (w::q) (by simp) hrb
    have a1:=(Za6 (y::r) (by simp) hra).1
    have h4:=Za2 (p:=((w::q).length:Int)+1) (s:=(w::q).sum) (by simp only[ZrF];omega) sb
    rw[show ((w::q).length:Int)+1-1=(w::q).length by omega] at h4
    have h5:=Zdm (p:=((w::q).length:Int)+1) (s:=(w::q).sum) (t:=(y::r).sum-1) (by omega) (by omega)
    rw[hlen]
    omega
   |succ i =>
    have hxz:x=z:=by simpa using h1 0 (by omega)
    have ih:=ZeJ (a:=y::r) (b:=w::q) hlen (by omega) hra hrb (by simp) ⟨i,by simpa using hi,fun j hj=>by simpa using h1 (j+1) (by omega),by simpa using h2⟩
    rw[hlen,show (y::r).sum=(w::q).sum by omega]
    omega
end L2
namespace My
open L2
end My
namespace L2
end L2
namespace My
open L2
end My
namespace L2
noncomputable def tri:Nat->Int
 |0=>0
 |k+1=>tri k+(k+1)
noncomputable def kN(s:Int):Nat:=((List.range (s.toNat+1)).find? fun(k:Nat)=>decide (s<tri (k+1))).getD 0
noncomputable def adI(l:List Int)(k i:Nat):Int:=l.getD i 0-((k:Int)-i)
structure ZmK(l:List Int)(k:Nat):Prop where
 lo:tri k<=l.sum
 hi:l.sum<tri (k+1)
 ad:∀i,i<=k->0<=adI l k i/\adI l k i<=1
 z:∀i,k<i->l.getD i 0=0
noncomputable def ZmA:Bool:=(List.range 63).all fun n=>(List.range (n+1)).all fun m=>(List.range (n+1)).all fun a =>
 ((a*Nat.gcd (n+1) m%(n+1)==0)==(a%((n+1)/Nat.gcd (n+1) m)==0))&&(a*Nat.gcd (n+1) m/(n+1)==a/((n+1)/Nat.gcd (n+1) m))&&decide (a/((n+1)/Nat.gcd (n+1) m)<=Nat.gcd (n+1) m)&&decide (0<Nat.gcd (n+1) m)&&decide (0<(n+1)/Nat.gcd (n+1) m)&&decide (Nat.gcd (n+1) m<=n+1)
theorem ZkG:ZmA=true:=by decide +kernel
structure Gd(n m a:Nat):Prop where
 mod:a*Nat.gcd n m%n=0 ↔ a%(n/Nat.gcd n m)=0
 div:a*Nat.gcd n m/n=a/(n/Nat.gcd n m)
 le:a/(n/Nat.gcd n m)<=Nat.gcd n m
 p1:0<Nat.gcd n m
 p2:0<n/Nat.gcd n m
 le2:Nat.gcd n m<=n
theorem gd{n m a:Nat}(h1:n<=63)(hm:m<n)(ha:a<n):Gd n m a:=by
 have h:=ZrR.mp (ZrR.mp (ZrR.mp ZkG (n-1) (ZrB.mpr (by omega))) m (ZrB.mpr (by omega))) a (ZrB.mpr (by omega))
 rw[show n-1+1=n by omega] at h
 simp only[Bool.and_eq_true,beq_iff_eq,decide_eq_true_eq] at h
 obtain⟨⟨⟨⟨⟨h1,h2⟩,h3⟩,h4⟩,h5⟩,h6⟩:=h
 refine⟨?_,h2,h3,h4,h5,h6⟩
 rw[<- beq_iff_eq (a:=a*Nat.gcd n m%n),<- beq_iff_eq (a:=a%(n/Nat.gcd n m)),h1]
end L2
namespace L2
open PySem
end L2
namespace My
open PySem L2
theorem ZfV{b:List Int}{p:Int}{x:Nat}(hx:x<b.length):(Vi b p).getD x 0=Za9 b p (b.getD p.toNat 0%b.length) x:=by
 unfold Vi tab
 rw[Zrf,Zrn,ZrZ hx];rfl
end My
namespace L2
end L2
namespace My
open PySem L2
def Wide(ns:List Int):Prop:=∀x∈ns,0<=x/\x<=10^60
end My
namespace My
open L2
theorem Zmw:∀{x y:List Int},HT.ZA x y=true->∃i,i<y.length/\(∀j,j<i->x.getD j 0=y.getD j 0)/\(x.getD i 0<y.getD i 0\/x.length<=i)
 |[],[],h=>by simp[HT.ZA] at h
 |[],b::y,h=>⟨0,by simp,by simp,.inr (by simp)⟩
 |a::x,[],h=>by simp[HT.ZA] at h
 |a::x,b::y,h=>by
  rw[HT.JW] at h
  by_cases e:a=b
  ·rw[if_pos e] at h
   obtain⟨i,h1,h2,h3⟩:=Zmw h
   refine⟨i+1,by simp;exact h1,fun j hj=>?_, ?_⟩
   ·cases j with
    |zero=>simpa using e
    |succ j=>simpa using h2 j (by omega)
   ·rcases h3 with z|z
    ·exact .inl (by simpa using z)
    ·exact .inr (by simpa using z)
  ·rw[if_neg e] at h
   exact⟨0,by simp,by simp,.inl (by simpa using h)⟩
end My
namespace L2
open PySem PyProof.Rows
structure Vj(prog:Program)(w:World)(A:Around)(s:Shared)(κ:SortKind)(U:Keyed->Prop)(R:Keyed->Keyed->Bool)(Ok:Keyed->Keyed->Prop):Prop where
 ask:∀x y,U x->U y->Ok x y->∀(Q:Bool->Shared->Prop),Q (R x y) s->wpAny (model prog w) A (keyLt' κ x.1 y.1) Q (fun _ _=>False) s
 asy:∀x y,U x->U y->R x y=true->R y x=false
 tr:∀x y z,U x->U y->U z->R y x=false->R z y=false->R z x=false
section
variable {prog:Program}{w:World}{A:Around}{E:Value->Shared->Prop}{s:Shared}{κ:SortKind}{U:Keyed->Prop}{R:Keyed->Keyed->Bool}{Ok:Keyed->Keyed->Prop}
theorem UR(C:Vj prog w A s κ U R Ok){st:SortSt}{x y:Keyed}{Q:Option Bool->SortSt->Prop}(hk:kindOf st=κ)(ux:U x)(uy:U y)(ok:Ok x y)(h:Q (some (R x y)) st):wpS (model prog w) A E s (lt' x y) Q st:=by
 rw[lt'_eq]
 refine wpS_bind (wpS_get ?_)
 rw[hk]
 refine wpS_bind (wpS_lift (wpAny_attempt (wpAny_mono (C.ask x y ux uy ok (fun b s'=>s'=s/\b=R x y) ⟨rfl,rfl⟩) (fun b s' q=>?_) fun _ _ q=>q.elim)))
 obtain⟨rfl,rfl⟩:=q
 exact⟨rfl,wpS_pure h⟩
theorem Zo{st:SortSt}{arr:Array Keyed}{i:Nat}{x:Keyed}{Q:Keyed->SortSt->Prop}(hx:arr[i]?=some x)(h:Q x st):wpS (model prog w) A E s (elem' arr i) Q st:=by
 rw[elem'_eq,hx]
 exact wpS_pure h
end
noncomputable def Vw:Bool->Keyed->Array Keyed->Nat->Nat->Nat->StateT SortSt Sem (Option Nat):=sortPriv% PySem.Builtin.gallop
noncomputable def Zdw(left:Bool)(key:Keyed)(arr:Array Keyed)(base:Nat)(i:Nat):StateT SortSt Sem (Option Bool):=do
 let x <- elem' arr (base+i)
 if left then lt' x key else return (<- lt' key x).map (!·)
theorem ZdC(left:Bool)(key:Keyed)(arr:Array Keyed)(base n hint:Nat):Vw left key arr base n hint=(do
  let mut u:=0
  let mut v:=1
  let mut a:=0
  let mut b:=0
  let some r <- Zdw left key arr base hint|return none
  if r then
   let w:=n-hint
   for _ in [0:n] do
    if v ≥ w then break
    let some m <- Zdw left key arr base (hint+v)|return none
    if !m then break
    u:=v
    v:=2*v+1
   a:=hint+u+1
   b:=hint+min v w
  else
   let w:=hint+1
   for _ in [0:n] do
    if v ≥ w then break
    let some m <- Zdw left key arr base (hint-v)|return none
    if m then break
    u:=v
    v:=2*v+1
   a:=hint+1-min v w
   b:=hint-u
  for _ in [0:n] do
   if a ≥ b then break
   let c:=a+(b-a)/2
   let some m <- Zdw left key arr base c|return none
   if m then a:=c+1 else b:=c
  return some b):=rfl
section
variable {prog:Program}{w:World}{A:Around}{E:Value->Shared->Prop}{s:Shared}{κ:SortKind}{U:Keyed->Prop}{R:Keyed->Keyed->Bool}{Ok:Keyed->Keyed->Prop}
structure U9(U:Keyed->Prop)(R:Keyed->Keyed->Bool)(Ok:Keyed->Keyed->Prop)(left:Bool)(key:Keyed)(arr:Array Keyed)(base n:Nat)(P:Nat->Bool):Prop where
 uk:U key
 it:∀i,i<n->∃x,arr[base+i]?=some x/\U x/\(if left=true then Ok x key else Ok key x)/\P i=(if left=true then R x key else !R key x)
 mono:∀i j,i<=j->j<n->P j=true->P i=true
theorem VX(C:Vj prog w A s κ U R Ok){st:SortSt}{left:Bool}{key:Keyed}{arr:Array Keyed}{base n i:Nat}{P:Nat->Bool}{Q:Option Bool->SortSt->Prop}(hk:kindOf st=κ)(K:U9 U R Ok left key arr base n P)(hi:i<n)(h:Q (some (P i)) st) :
  wpS (model prog w) A E s (Zdw left key arr base i) Q st:=by
 obtain⟨x,hx,ux,ok,hp⟩:=K.it i hi
 unfold Zdw
 refine wpS_bind (Zo hx ?_)
 cases left with
 |true =>
  rw[if_pos rfl] at hp ok ⊢
  exact UR C hk ux K.uk ok (by rw[<- hp];exact h)
 |false =>
  rw[if_neg (by decide)] at hp ok ⊢
  exact wpS_bind (UR C hk K.uk ux ok (wpS_pure (by rw[ZsR,<- hp];exact h)))
theorem ZE(C:Vj prog w A s κ U R Ok){st:SortSt}{left:Bool}{key:Keyed}{arr:Array Keyed}{base n hint:Nat}{P:Nat->Bool}{Q:Option Nat->SortSt->Prop}(hk:kindOf st=κ)(K:U9 U R Ok left key arr base n P)(hh:hint<n)(h:∀k,k<=n->(∀i,i<k->P i=true)->(∀i,k<=i->i<n->P i=false)->Q (some k) st):wpS (model prog w) A E s (Vw left key arr base n hint) Q st:=by
 rw[ZdC]
 refine wpS_bind (VX C hk K hh ?_)
 dsimp only
 have down:∀{i j},i<=j->j<n->P i=false->P j=false:=fun {i j} h1 h2 h3=>by
  cases hj:P j with
  |false=>rfl
  |true=>rw[K.mono i j h1 h2 hj] at h3;cases h3
 cases hP:P hint with
 |true =>
  rw[if_pos rfl]
  refine wpS_bind (wpS_mono (wpS_forRange (I:=fun x (c:Option (Option Nat)×Nat×Nat) (st':SortSt)=>st'=st/\c.1=none/\P (hint+c.2.1)=true/\hint+c.2.1<n/\c.2.1<c.2.2/\x+1<=c.2.2)
   (Q:=fun(c:Option (Option Nat)×Nat×Nat) (st':SortSt)=>st'=st/\c.1=none/\P (hint+c.2.1)=true/\hint+c.2.1<n/\c.2.1<c.2.2/\(n-hint<=c.2.2\/(c.2.2<n-hint/\P (hint+c.2.2)=false))) ?_ ?_ ⟨rfl,rfl,by simpa using hP,by simpa using hh,Nat.zero_lt_one,Zrl _⟩) ?_)
  ·rintro x ⟨o,u,v⟩ st' _ hx ⟨rfl,rfl,q1,q2,q3,q4⟩
   dsimp only at q1 q2 q3 q4 ⊢
   by_cases hv:v ≥ n-hint
   ·rw[if_pos hv]
    exact wpS_pure ⟨rfl,rfl,q1,q2,q3,.inl hv⟩
   ·rw[if_neg hv]
    refine wpS_bind (VX C hk K (by omega) ?_)
    dsimp only
    cases hm:P (hint+v) with
    |true =>
     rw[if_neg (by decide)]
     exact wpS_pure ⟨rfl,rfl,hm,by dsimp only;omega,by dsimp only;omega,by dsimp only;omega⟩
    |false =>
     rw[if_pos (by decide)]
     exact wpS_pure ⟨rfl,rfl,q1,q2,q3,.inr ⟨by dsimp only;omega,hm⟩⟩
  ·rintro⟨o,u,v⟩ st' ⟨rfl,rfl,q1,q2,q3,q4⟩
   dsimp only at q1 q2 q3 q4 ⊢
   exact⟨rfl,rfl,q1,q2,q3,.inl (by omega)⟩
  rintro⟨o,u,v⟩ st' ⟨hst,rfl,q1,q2,q3,q4⟩
  have hst:=hst.symm
  subst hst
  dsimp only at q1 q2 q3 q4 ⊢
  have ab:hint+u+1<=hint+min v (n-hint):=by omega
  have bn:hint+min v (n-hint)<=n:=by omega
  have pa:∀i,i<hint+u+1->P i=true:=fun i hi=>K.mono i (hint+u) (by omega) (by omega) q1
  have pb:∀i,hint+min v (n-hint)<=i->i<n->P i=false:=fun i h1 h2=>by
   rcases q4 with q4|⟨q4,q5⟩
   ·omega
   ·exact down (by omega) h2 q5
  refine wpS_bind (wpS_mono (wpS_forRange (I:=fun x (c:Option (Option Nat)×Nat×Nat) (st':SortSt)=>st'=st/\c.1=none/\c.2.1<=c.2.2/\c.2.2<=n/\(∀i,i<c.2.1->P i=true)/\(∀i,c.2.2<=i->i<n->P i=false)/\c.2.2-c.2.1<=n-x)
   (Q:=fun(c:Option (Option Nat)×Nat×Nat) (st':SortSt)=>st'=st/\c.1=none/\c.2.1=c.2.2/\c.2.2<=n/\(∀i,i<c.2.1->P i=true)/\(∀i,c.2.2<=i->i<n->P i=false)) ?_ ?_ ⟨rfl,rfl,ab,bn,pa,pb,by dsimp only;omega⟩) ?_)
  ·rintro x ⟨o,a,b⟩ st' _ hx ⟨rfl,rfl,q1,q2,q3,q4,q5⟩
   dsimp only at q1 q2 q3 q4 q5 ⊢
   by_cases hab:a ≥ b
   ·rw[if_pos hab]
    exact wpS_pure ⟨rfl,rfl,by dsimp only;omega,q2,q3,q4⟩
   ·rw[if_neg hab]
    refine wpS_bind (VX C hk K (by omega) ?_)
    dsimp only
    cases hm:P (a+(b-a)/2) with
    |true =>
     rw[if_pos rfl]
     exact wpS_pure ⟨rfl,rfl,by dsimp only;omega,q2,fun i hi=>K.mono i (a+(b-a)/2) (by dsimp only at hi;omega) (by omega) hm,q4,by dsimp only;omega⟩
    |false =>
     rw[if_neg (by decide)]
     refine wpS_pure ⟨rfl,rfl,by dsimp only;omega,by dsimp only;omega,q3,fun i h1 h2=>?_,by dsimp only;omega⟩
     cases hi:P i with
     |false=>rfl
     |true=>rw[K.mono _ i h1 h2 hi] at hm;cases hm
  ·rintro⟨o,a,b⟩ st' ⟨rfl,rfl,q1,q2,q3,q4,q5⟩
   dsimp only at q1 q2 q3 q4 q5 ⊢
   exact⟨rfl,rfl,by omega,q2,q3,q4⟩
  ·rintro⟨o,a,b⟩ st' ⟨rfl,rfl,q1,q2,q3,q4⟩
   dsimp only at q1 q2 q3 q4 ⊢
   exact wpS_pure (h b q2 (by rw[<- q1];exact q3) q4)
 |false =>
  rw[if_neg (by decide)]
  refine wpS_bind (wpS_mono (wpS_forRange (I:=fun x (c:Option (Option Nat)×Nat×Nat) (st':SortSt)=>st'=st/\c.1=none/\P (hint-c.2.1)=false/\c.2.1<=hint/\c.2.1<c.2.2/\x+1<=c.2.2)
   (Q:=fun(c:Option (Option Nat)×Nat×Nat) (st':SortSt)=>st'=st/\c.1=none/\P (hint-c.2.1)=false/\c.2.1<=hint/\c.2.1<c.2.2/\(hint+1<=c.2.2\/(c.2.2<=hint/\P (hint-c.2.2)=true))) ?_ ?_ ⟨rfl,rfl,by simpa using hP,ZrI _,Nat.zero_lt_one,Zrl _⟩) ?_)
  ·rintro x ⟨o,u,v⟩ st' _ hx ⟨rfl,rfl,q1,q2,q3,q4⟩
   dsimp only at q1 q2 q3 q4 ⊢
   by_cases hv:v ≥ hint+1
   ·rw[if_pos hv]
    exact wpS_pure ⟨rfl,rfl,q1,q2,q3,.inl hv⟩
   ·rw[if_neg hv]
    refine wpS_bind (VX C hk K (by omega) ?_)
    dsimp only
    cases hm:P (hint-v) with
    |true =>
     rw[if_pos rfl]
     exact wpS_pure ⟨rfl,rfl,q1,q2,q3,.inr ⟨by dsimp only;omega,hm⟩⟩
    |false =>
     rw[if_neg (by decide)]
     exact wpS_pure ⟨rfl,rfl,hm,by dsimp only;omega,by dsimp only;omega,by dsimp only;omega⟩
  ·rintro⟨o,u,v⟩ st' ⟨rfl,rfl,q1,q2,q3,q4⟩
   dsimp only at q1 q2 q3 q4 ⊢
   exact⟨rfl,rfl,q1,q2,q3,.inl (by omega)⟩
  rintro⟨o,u,v⟩ st' ⟨hst,rfl,q1,q2,q3,q4⟩
  have hst:=hst.symm
  subst hst
  dsimp only at q1 q2 q3 q4 ⊢
  have ab:hint+1-min v (hint+1)<=hint-u:=by omega
  have bn:hint-u<=n:=by omega
  have pa:∀i,i<hint+1-min v (hint+1)->P i=true:=fun i hi=>by
   rcases q4 with q4|⟨q4,q5⟩
   ·omega
   ·exact K.mono i (hint-v) (by omega) (by omega) q5
  have pb:∀i,hint-u<=i->i<n->P i=false:=fun i h1 h2=>down h1 h2 q1
  refine wpS_bind (wpS_mono (wpS_forRange (I:=fun x (c:Option (Option Nat)×Nat×Nat) (st':SortSt)=>st'=st/\c.1=none/\c.2.1<=c.2.2/\c.2.2<=n/\(∀i,i<c.2.1->P i=true)/\(∀i,c.2.2<=i->i<n->P i=false)/\c.2.2-c.2.1<=n-x)
   (Q:=fun(c:Option (Option Nat)×Nat×Nat) (st':SortSt)=>st'=st/\c.1=none/\c.2.1=c.2.2/\c.2.2<=n/\(∀i,i<c.2.1->P i=true)/\(∀i,c.2.2<=i->i<n->P i=false)) ?_ ?_ ⟨rfl,rfl,ab,bn,pa,pb,by dsimp only;omega⟩) ?_)
  ·rintro x ⟨o,a,b⟩ st' _ hx ⟨rfl,rfl,q1,q2,q3,q4,q5⟩
   dsimp only at q1 q2 q3 q4 q5 ⊢
   by_cases hab:a ≥ b
   ·rw[if_pos hab]
    exact wpS_pure ⟨rfl,rfl,by dsimp only;omega,q2,q3,q4⟩
   ·rw[if_neg hab]
    refine wpS_bind (VX C hk K (by omega) ?_)
    dsimp only
    cases hm:P (a+(b-a)/2) with
    |true =>
     rw[if_pos rfl]
     exact wpS_pure ⟨rfl,rfl,by dsimp only;omega,q2,fun i hi=>K.mono i (a+(b-a)/2) (by dsimp only at hi;omega) (by omega) hm,q4,by dsimp only;omega⟩
    |false =>
     rw[if_neg (by decide)]
     refine wpS_pure ⟨rfl,rfl,by dsimp only;omega,by dsimp only;omega,q3,fun i h1 h2=>?_,by dsimp only;omega⟩
     cases hi:P i with
     |false=>rfl
     |true=>rw[K.mono _ i h1 h2 hi] at hm;cases hm
  ·rintro⟨o,a,b⟩ st' ⟨rfl,rfl,q1,q2,q3,q4,q5⟩
   dsimp only at q1 q2 q3 q4 q5 ⊢
   exact⟨rfl,rfl,by omega,q2,q3,q4⟩
  ·rintro⟨o,a,b⟩ st' ⟨rfl,rfl,q1,q2,q3,q4⟩
   dsimp only at q1 q2 q3 q4 ⊢
   exact wpS_pure (h b q2 (by rw[<- q1];exact q3) q4)
end
noncomputable def Zao:Array Keyed->Array Keyed->StateT SortSt Sem (Array Keyed):=sortPriv% PySem.Builtin.mergeLo
noncomputable def ZjR(g:Nat):StateT SortSt Sem Unit:=modify fun s=>SortSt.mk' (kindOf s) (arrOf s) (pendingOf s) g (failedOf s)
noncomputable def endA(a b o:Array Keyed)(i j:Nat):Array Keyed:=o++a.extract i a.size++b.extract j b.size
noncomputable def endB(a b o:Array Keyed)(i j:Nat):Array Keyed:=o++b.extract j b.size++a.extract i a.size
theorem ZbT(a b:Array Keyed):Zao a b=(do
  rule "list.sort.merge-lo"
  let n:=a.size+b.size
  let mut o:Array Keyed:=#[<- elem' b 0]
  let mut i:=0
  let mut j:=1
  if j==b.size then return endA a b o i j
  if i+1==a.size then return endB a b o i j
  let mut g:=gallopOf (<- get)
  for _ in [0:n] do
   let mut x:=0
   let mut y:=0
   for _ in [0:n] do
    let some t <- lt' (<- elem' b j) (<- elem' a i)|return endA a b o i j
    if t then
     o:=o.push (<- elem' b j);j:=j+1;y:=y+1;x:=0
     if j==b.size then return endA a b o i j
     if y ≥ g then break
    else
     o:=o.push (<- elem' a i);i:=i+1;x:=x+1;y:=0
     if i+1==a.size then return endB a b o i j
     if x ≥ g then break
   rule "list.sort.gallop"
   g:=g+1
   for _ in [0:n] do
    if g>1 then g:=g-1
    ZjR g
    let some k <- Vw false (<- elem' b j) a i (a.size-i) 0|return endA a b o i j
    x:=k
    if k>0 then
     o:=o++a.extract i (i+k);i:=i+k
     if i+1==a.size then return endB a b o i j
     if i==a.size then return endA a b o i j
    o:=o.push (<- elem' b j);j:=j+1
    if j==b.size then return endA a b o i j
    let some k <- Vw true (<- elem' a i) b j (b.size-j) 0|return endA a b o i j
    y:=k
    if k>0 then
     o:=o++b.extract j (j+k);j:=j+k
     if j==b.size then return endA a b o i j
    o:=o.push (<- elem' a i);i:=i+1
    if i+1==a.size then return endB a b o i j
    if x<7&&y<7 then break
   g:=g+1
   ZjR g
  unsupported "internal:list.sort.merge-bound"):=rfl
def Srt(R:Keyed->Keyed->Bool)(l:List Keyed):Prop:=l.Pairwise fun x y=>R y x=false
structure MI(R:Keyed->Keyed->Bool)(a b o:List Keyed)(i j:Nat):Prop where
 perm:o.Perm (a.take i++b.take j)
 srt:Srt R o
 ga:∀x∈o,∀y∈a.drop i,R y x=false
 gb:∀x∈o,∀y∈b.drop j,R y x=false
 hi:i<=a.length
 hj:j<=b.length
section
variable {R:Keyed->Keyed->Bool}{a b o:List Keyed}{i j:Nat}
theorem V7(l:List Keyed)(i k:Nat):(l.drop i).take k++l.drop (i+k)=l.drop i:=by
 rw[<- List.drop_drop];exact Zr2 k (l.drop i)
theorem Zc2(l:List Keyed)(i k:Nat):l.take i++(l.drop i).take k=l.take (i+k):=(List.take_add).symm
theorem Srt.drop{l:List Keyed}(h:Srt R l)(i:Nat):Srt R (l.drop i):=h.sublist (List.drop_sublist i l)
theorem MI.pushA(M:MI R a b o i j)(sa:Srt R a)(k:Nat)(hk:i+k<=a.length)(hle:∀x∈(a.drop i).take k,∀y∈b.drop j,R y x=false):MI R a b (o++(a.drop i).take k) (i+k) j:=by
 have sd:=sa.drop i
 rw[<- V7 a i k] at sd
 obtain⟨s1,s2,s3⟩:=Zrx.mp sd
 refine⟨?_, ?_, ?_, ?_,hk,M.hj⟩
 ·rw[<- Zc2]
  refine(M.perm.append_right _).trans ?_
  rw[Zrr,Zrr]
  exact List.Perm.append_left _ Zsi
 ·exact Zrx.mpr ⟨M.srt,s1,fun x hx y hy=>M.ga x hx y (ZrP hy)⟩
 ·intro x hx y hy
  rcases Zro.mp hx with hx|hx
  ·exact M.ga x hx y (by rw[<- V7 a i k];exact Zrk _ hy)
  ·exact s3 x hx y hy
 ·intro x hx y hy
  rcases Zro.mp hx with hx|hx
  ·exact M.gb x hx y hy
  ·exact hle x hx y hy
theorem MI.pushB(M:MI R a b o i j)(sb:Srt R b)(k:Nat)(hk:j+k<=b.length)(hle:∀x∈(b.drop j).take k,∀y∈a.drop i,R y x=false):MI R a b (o++(b.drop j).take k) i (j+k):=by
 have sd:=sb.drop j
 rw[<- V7 b j k] at sd
 obtain⟨s1,s2,s3⟩:=Zrx.mp sd
 refine⟨?_, ?_, ?_, ?_,M.hi,hk⟩
 ·rw[<- Zc2]
  refine(M.perm.append_right _).trans ?_
  rw[Zrr]
 ·exact Zrx.mpr ⟨M.srt,s1,fun x hx y hy=>M.gb x hx y (ZrP hy)⟩
 ·intro x hx y hy
  rcases Zro.mp hx with hx|hx
  ·exact M.ga x hx y hy
  ·exact hle x hx y hy
 ·intro x hx y hy
  rcases Zro.mp hx with hx|hx
  ·exact M.gb x hx y (by rw[<- V7 b j k];exact Zrk _ hy)
  ·exact s3 x hx y hy
theorem MI.all_perm(M:MI R a b o i j):(o++(a.drop i++b.drop j)).Perm (a++b):=by
 refine(M.perm.append_right _).trans ?_
 have e1:(a.take i++b.take j++(a.drop i++b.drop j))=a.take i++(b.take j++a.drop i)++b.drop j:=by simp[Zrr]
 rw[e1]
 have p1:(a.take i++(b.take j++a.drop i)++b.drop j).Perm (a.take i++(a.drop i++b.take j)++b.drop j):=(List.Perm.append_left _ Zsi).append_right _
 refine p1.trans ?_
 have e2:a.take i++(a.drop i++b.take j)++b.drop j=(a.take i++a.drop i)++(b.take j++b.drop j):=by rw[Zrr,Zrr,Zrr]
 rw[e2,Zr2,Zr2]
theorem MI.endA(M:MI R a b o i j)(sa:Srt R a)(sb:Srt R b)(h:i=a.length\/j=b.length):Srt R (o++(a.drop i++b.drop j))/\(o++(a.drop i++b.drop j)).Perm (a++b):=by
 refine⟨?_,M.all_perm⟩
 refine Zrx.mpr ⟨M.srt, ?_,fun x hx y hy=>?_⟩
 ·rcases h with h|h
  ·rw[h,List.drop_length,Zsm];exact sb.drop j
  ·rw[h,List.drop_length,ZsL];exact sa.drop i
 ·rcases Zro.mp hy with hy|hy
  ·exact M.ga x hx y hy
  ·exact M.gb x hx y hy
theorem MI.endB(M:MI R a b o i j)(sa:Srt R a)(sb:Srt R b)(h:∀x∈b.drop j,∀y∈a.drop i,R y x=false):Srt R (o++(b.drop j++a.drop i))/\(o++(b.drop j++a.drop i)).Perm (a++b):=by
 refine⟨?_,(List.Perm.append_left _ Zsi).trans M.all_perm⟩
 refine Zrx.mpr ⟨M.srt,Zrx.mpr ⟨sb.drop j,sa.drop i,h⟩,fun x hx y hy=>?_⟩
 rcases Zro.mp hy with hy|hy
 ·exact M.gb x hx y hy
 ·exact M.ga x hx y hy
end
section
variable {prog:Program}{w:World}{A:Around}{s:Shared}{κ:SortKind}{U:Keyed->Prop}{R:Keyed->Keyed->Bool}{Ok:Keyed->Keyed->Prop}
noncomputable abbrev Vk(st:SortSt)(g:Nat):SortSt:=SortSt.mk' (kindOf st) (arrOf st) (pendingOf st) g (failedOf st)
structure MLo(U:Keyed->Prop)(R:Keyed->Keyed->Bool)(Ok:Keyed->Keyed->Prop)(a b:Array Keyed):Prop where
 ua:∀x∈a.toList,U x
 ub:∀x∈b.toList,U x
 ok:∀x∈b.toList,∀y∈a.toList,Ok x y
 sa:Srt R a.toList
 sb:Srt R b.toList
 na:0<a.size
 nb:0<b.size
 fst:∀x y,b.toList[0]?=some x->a.toList[0]?=some y->R y x=false
 lst:∀x∈b.toList,∀y,a.toList[a.size-1]?=some y->R y x=false
theorem Vj.irr(C:Vj prog w A s κ U R Ok){x:Keyed}(ux:U x):R x x=false:=by
 cases h:R x x with
 |false=>rfl
 |true=>have:=C.asy x x ux ux h;rw[h] at this;cases this
theorem Vj.dropLe(C:Vj prog w A s κ U R Ok){l:List Keyed}{i:Nat}{x z:Keyed}(ul:∀y∈l,U y)(hs:Srt R l)(hz:l[i]?=some z)(ux:U x)(h:R z x=false):∀y∈l.drop i,R y x=false:=fun y hy=>by
 have hi:=(Zrg.mp hz).1
 have e:l.drop i=z::l.drop (i+1):=by
  rw[ZrH hi]
  rw[Zri hi] at hz
  cases hz;rfl
 have uz:U z:=ul z (Zrh hz)
 have sd:=hs.drop i
 rw[e] at sd hy
 rcases Zrt.mp hy with rfl|hy'
 ·exact h
 ·have h2:=(Zsq.mp sd).1 y hy'
  exact C.tr x z y ux uz (ul y (ZrQ hy')) h h2
theorem Srt.le(C:Vj prog w A s κ U R Ok){l:List Keyed}(ul:∀y∈l,U y)(hs:Srt R l){i j:Nat}{x y:Keyed}(hij:i<=j)(hx:l[i]?=some x)(hy:l[j]?=some y):R y x=false:=by
 by_cases e:i=j
 ·subst e
  rw[hx] at hy;cases hy
  exact C.irr (ul x (Zrh hx))
 ·have hi:=(Zrg.mp hx)
  have hj:=(Zrg.mp hy)
  have:=Zsh.mp hs i j hi.1 hj.1 (by omega)
  rw[hi.2,hj.2] at this
  exact this
theorem ZfP(a b o:Array Keyed)(i j:Nat):(endA a b o i j).toList=o.toList++(a.toList.drop i++b.toList.drop j):=by
 simp only[endA,Zs0,Zss,Zrr,ZrV]
 rw[ZrO (by simp),ZrO (by simp)]
theorem ZfO(a b o:Array Keyed)(i j:Nat):(endB a b o i j).toList=o.toList++(b.toList.drop j++a.toList.drop i):=by
 simp only[endB,Zs0,Zss,Zrr,ZrV]
 rw[ZrO (by simp),ZrO (by simp)]
theorem UD{l:List Keyed}{i:Nat}{x:Keyed}(h:l[i]?=some x):(l.drop i).take 1=[x]:=by
 have hi:=(Zrg.mp h)
 rw[ZrH hi.1,hi.2];rfl
theorem U3{l:List Keyed}{i k:Nat}{x:Keyed}(h:x∈(l.drop i).take k):∃t,t<k/\l[i+t]?=some x:=by
 obtain⟨t,ht⟩:=Zr4 h
 rw[ZrE] at ht
 split at ht
 ·rename_i hk
  rw[ZrG] at ht
  exact⟨t,hk,ht⟩
 ·cases ht
theorem J1{l:List Keyed}{i:Nat}{x:Keyed}(h:x∈l.drop i):∃t,l[i+t]?=some x:=by
 obtain⟨t,ht⟩:=Zr4 h
 rw[ZrG] at ht
 exact⟨t,ht⟩
theorem Zgj(C:Vj prog w A s κ U R Ok){l:Array Keyed}{key:Keyed}{i:Nat}(ul:∀y∈l.toList,U y)(hs:Srt R l.toList)(uk:U key)(okk:∀y∈l.toList,Ok key y)(hi:i<=l.size) :
  U9 U R Ok false key l i (l.size-i) (fun t=>!R key (l.getD (i+t) (.none,.none))):=by
 have get:∀t,t<l.size-i->l.toList[i+t]?=some (l.getD (i+t) (.none,.none))/\l[i+t]?=some (l.getD (i+t) (.none,.none)):=fun t ht=>by
  have hlt:i+t<l.size:=by omega
  have e:l.getD (i+t) (.none,.none)=l[i+t]:=by simp[Array.getD,hlt]
  rw[e]
  exact⟨by simp[hlt],by simp[hlt]⟩
 refine⟨uk,fun t ht=>⟨_,(get t ht).2,ul _ (Zrh (get t ht).1),by rw[if_neg (by decide)];exact okk _ (Zrh (get t ht).1),by rw[if_neg (by decide)]⟩,fun t u htu hu h=>?_⟩
 have hu':=get u hu
 have ht':=get t (by omega)
 have h1:R key (l.getD (i+u) (.none,.none))=false:=by simpa using h
 have h2:=Srt.le C ul hs (show i+t<=i+u by omega) ht'.1 hu'.1
 have:=C.tr _ _ key (ul _ (Zrh ht'.1)) (ul _ (Zrh hu'.1)) uk h2 h1
 show (!R key _)=true
 rw[this];rfl
theorem ZaT(C:Vj prog w A s κ U R Ok){l:Array Keyed}{key:Keyed}{i:Nat}(ul:∀y∈l.toList,U y)(hs:Srt R l.toList)(uk:U key)(okk:∀y∈l.toList,Ok y key)(hi:i<=l.size) :
  U9 U R Ok true key l i (l.size-i) (fun t=>R (l.getD (i+t) (.none,.none)) key):=by
 have get:∀t,t<l.size-i->l.toList[i+t]?=some (l.getD (i+t) (.none,.none))/\l[i+t]?=some (l.getD (i+t) (.none,.none)):=fun t ht=>by
  have hlt:i+t<l.size:=by omega
  have e:l.getD (i+t) (.none,.none)=l[i+t]:=by simp[Array.getD,hlt]
  rw[e]
  exact⟨by simp[hlt],by simp[hlt]⟩
 refine⟨uk,fun t ht=>⟨_,(get t ht).2,ul _ (Zrh (get t ht).1),by rw[if_pos rfl];exact okk _ (Zrh (get t ht).1),by rw[if_pos rfl]⟩,fun t u htu hu h=>?_⟩
 have hu':=get u hu
 have ht':=get t (by omega)
 cases hc:R (l.getD (i+t) (.none,.none)) key with
 |true=>rfl
 |false =>
  have h2:=Srt.le C ul hs (show i+t<=i+u by omega) ht'.1 hu'.1
  have:=C.tr key _ _ uk (ul _ (Zrh ht'.1)) (ul _ (Zrh hu'.1)) hc h2
  rw[this] at h;cases h
end
section
variable {prog:Program}{w:World}{A:Around}{E:Value->Shared->Prop}{s:Shared}{κ:SortKind}{U:Keyed->Prop}{R:Keyed->Keyed->Bool}{Ok:Keyed->Keyed->Prop}
def U6(R:Keyed->Keyed->Bool)(a b:Array Keyed)(st:SortSt)(r:Array Keyed)(st':SortSt):Prop:=Srt R r.toList/\r.toList.Perm (a.toList++b.toList)/\∃g,st'=Vk st g
def JLo(R:Keyed->Keyed->Bool)(a b:Array Keyed)(st:SortSt)(o:Array Keyed)(i j:Nat)(st':SortSt):Prop:=MI R a.toList b.toList o.toList i j/\i+1<a.size/\j<b.size/\∃g,st'=Vk st g
theorem Vy{st:SortSt}{g:Nat}{Q:Unit->SortSt->Prop}(h:Q () (Vk st g)):wpS (model prog w) A E s (ZjR g) Q st:=wpS_modify h
theorem Jw{l:Array Keyed}{i:Nat}(h:i<l.size):∃x,l[i]?=some x/\l.toList[i]?=some x/\x∈l.toList:=
 ⟨l[i],by simp[h],by simp[h],by simp⟩
section
variable {st st':SortSt}{a b o:Array Keyed}{i j:Nat}
theorem MLo.finA(M:MLo U R Ok a b)(m:MI R a.toList b.toList o.toList i j)(h:i=a.size\/j=b.size)(hg:∃g,st'=Vk st g):U6 R a b st (endA a b o i j) st':=by
 obtain⟨h1,h2⟩:=m.endA M.sa M.sb (by simpa using h)
 rw[<- ZfP] at h1 h2
 exact⟨h1,h2,hg⟩
theorem MLo.finB(M:MLo U R Ok a b)(m:MI R a.toList b.toList o.toList i j)(h:i+1=a.size)(hg:∃g,st'=Vk st g):U6 R a b st (endB a b o i j) st':=by
 obtain⟨h1,h2⟩:=m.endB M.sa M.sb fun x hx y hy=>M.lst x (ZrQ hx) y (by
  obtain⟨t,ht⟩:=J1 hy
  have hl:=(Zrg.mp ht).1
  rw[Zrm] at hl
  rw[show a.size-1=i+t by omega];exact ht)
 rw[<- ZfO] at h1 h2
 exact⟨h1,h2,hg⟩
theorem MLo.a1(C:Vj prog w A s κ U R Ok)(M:MLo U R Ok a b)(m:MI R a.toList b.toList o.toList i j){x:Keyed}(hx:a.toList[i]?=some x)(hle:∀y∈b.toList.drop j,R y x=false):MI R a.toList b.toList (o.push x).toList (i+1) j:=by
 have hi:=(Zrg.mp hx).1
 have:=m.pushA M.sa 1 (by omega) (by rw[UD hx];intro y hy;rw[ZrD.mp hy];exact hle)
 rw[UD hx] at this
 rw[ZsW];exact this
theorem MLo.b1(C:Vj prog w A s κ U R Ok)(M:MLo U R Ok a b)(m:MI R a.toList b.toList o.toList i j){x:Keyed}(hx:b.toList[j]?=some x)(hle:∀y∈a.toList.drop i,R y x=false):MI R a.toList b.toList (o.push x).toList i (j+1):=by
 have hj:=(Zrg.mp hx).1
 have:=m.pushB M.sb 1 (by omega) (by rw[UD hx];intro y hy;rw[ZrD.mp hy];exact hle)
 rw[UD hx] at this
 rw[ZsW];exact this
theorem Uz(l:Array Keyed)(i k:Nat):(o++l.extract i (i+k)).toList=o.toList++(l.toList.drop i).take k:=by
 simp only[Zs0,Zss,ZrV]
 rw[show i+k-i=k by omega]
end
theorem ZI{l:Array Keyed}{i:Nat}{x:Keyed}(h:l.toList[i]?=some x):l.getD i (.none,.none)=x:=by
 have hi:=Zrg.mp h
 have hs:i<l.size:=by simpa using hi.1
 simp only[Array.getD,hs,dif_pos]
 exact hi.2
theorem Zb4(C:Vj prog w A s κ U R Ok){st:SortSt}{a b:Array Keyed}{Q:Array Keyed->SortSt->Prop}(hk:kindOf st=κ)(M:MLo U R Ok a b)(h:∀o st',U6 R a b st o st'->Q o st'):wpS (model prog w) A E s (Zao a b) Q st:=by
 rw[ZbT]
 obtain⟨b0,hb0,hb0l,hb0m⟩:=Jw M.nb
 obtain⟨a0,ha0,ha0l,ha0m⟩:=Jw M.na
 refine wpS_bind (wpS_lift (wpAny_rule ⟨rfl, ?_⟩))
 refine wpS_bind (Zo hb0 ?_)
 dsimp only
 have m0:MI R a.toList b.toList (#[]:Array Keyed).toList 0 0:=⟨by simp,List.Pairwise.nil,fun x hx=>by simp at hx,fun x hx=>by simp at hx,ZrI _,ZrI _⟩
 have m1:MI R a.toList b.toList (#[b0]:Array Keyed).toList 0 1:=MLo.b1 C M m0 hb0l (C.dropLe M.ua M.sa ha0l (M.ub _ hb0m) (M.fst _ _ hb0l ha0l))
 have g0:∃g,st=Vk st g:=⟨gallopOf st,rfl⟩
 by_cases c1:1=b.size
 ·rw[if_pos (by simpa using c1)]
  exact wpS_pure (h _ _ (M.finA m1 (.inr c1) g0))
 rw[if_neg (by simpa using c1)]
 by_cases c2:0+1=a.size
 ·rw[if_pos (by simpa using c2)]
  exact wpS_pure (h _ _ (M.finB m1 c2 g0))
 rw[if_neg (by simpa using c2)]
 refine wpS_bind (wpS_get ?_)
 have na:=M.na
 have nb:=M.nb
 refine wpS_bind (wpS_mono (wpS_forRange
  (I:=fun x (c:Option (Array Keyed)×Array Keyed×Nat×Nat×Nat) (st':SortSt)=>c.1=none/\JLo R a b st c.2.1 c.2.2.1 c.2.2.2.1 st'/\x+1<=c.2.2.1+c.2.2.2.1)
  (Q:=fun(c:Option (Array Keyed)×Array Keyed×Nat×Nat×Nat) (st':SortSt)=>∃r,c.1=some r/\U6 R a b st r st') ?step ?fin ⟨rfl,⟨m1,by dsimp only;omega,by dsimp only;omega,g0⟩,Zrl _⟩) ?post)
 case fin =>
  rintro⟨o1,o,i,j,g⟩ st' ⟨h1,⟨h2,h3,h4,h5⟩,h6⟩
  dsimp only at h3 h4 h6
  omega
 case post =>
  rintro⟨o1,o,i,j,g⟩ st' ⟨r,h1,h2⟩
  dsimp only at h1
  subst h1
  exact wpS_pure (h _ _ h2)
 case step =>
  rintro x ⟨o1,o,i,j,g⟩ st1 _ hx ⟨rfl,J,hm⟩
  dsimp only at J hm ⊢
  refine wpS_bind (wpS_mono (wpS_forRange
   (I:=fun x' (c:Option (Array Keyed)×Array Keyed×Nat×Nat×Nat×Nat) (st':SortSt)=>c.1=none/\JLo R a b st c.2.1 c.2.2.1 c.2.2.2.1 st'/\i+j+x'<=c.2.2.1+c.2.2.2.1)
   (Q:=fun(c:Option (Array Keyed)×Array Keyed×Nat×Nat×Nat×Nat) (st':SortSt)=>(∃r,c.1=some r/\U6 R a b st r st')\/(c.1=none/\JLo R a b st c.2.1 c.2.2.1 c.2.2.2.1 st'/\i+j+1<=c.2.2.1+c.2.2.2.1)) ?step1 ?fin1 ⟨rfl,J,Zrl _⟩) ?post1)
  case fin1 =>
   rintro⟨o1,o',i',j',u,v⟩ st' ⟨h1,h2,h3⟩
   dsimp only at h1 h2 h3
   exact .inr ⟨h1,h2,by dsimp only;omega⟩
  case step1 =>
   rintro x' ⟨o1,o',i',j',u,v⟩ st' _ hx' ⟨rfl,⟨m,hi,hj,gs,rfl⟩,hp⟩
   dsimp only at m hi hj hp ⊢
   obtain⟨y,hy,hyl,hym⟩:=Jw hj
   obtain⟨z,hz,hzl,hzm⟩:=Jw (show i'<a.size by omega)
   refine wpS_bind (Zo hy (wpS_bind (Zo hz (wpS_bind (UR C hk (M.ub _ hym) (M.ua _ hzm) (M.ok _ hym _ hzm) ?_)))))
   dsimp only
   cases hR:R y z with
   |true =>
    rw[if_pos rfl]
    refine wpS_bind (Zo hy ?_)
    have m2:=MLo.b1 C M m hyl (C.dropLe M.ua M.sa hzl (M.ub _ hym) (C.asy _ _ (M.ub _ hym) (M.ua _ hzm) hR))
    by_cases e1:j'+1=b.size
    ·rw[if_pos (by simpa using e1)]
     exact wpS_pure (.inl ⟨_,rfl,M.finA m2 (.inr e1) ⟨gs,rfl⟩⟩)
    ·rw[if_neg (by simpa using e1)]
     have J2:JLo R a b st (o'.push y) i' (j'+1) (Vk st gs):=⟨m2,hi,by omega,gs,rfl⟩
     split
     ·exact wpS_pure (.inr ⟨rfl,J2,by dsimp only;omega⟩)
     ·exact wpS_pure ⟨rfl,J2,by dsimp only;omega⟩
   |false =>
    rw[if_neg (by decide)]
    refine wpS_bind (Zo hz ?_)
    have m2:=MLo.a1 C M m hzl (C.dropLe M.ub M.sb hyl (M.ua _ hzm) hR)
    by_cases e1:i'+1+1=a.size
    ·rw[if_pos (by simpa using e1)]
     exact wpS_pure (.inl ⟨_,rfl,M.finB m2 e1 ⟨gs,rfl⟩⟩)
    ·rw[if_neg (by simpa using e1)]
     have J2:JLo R a b st (o'.push z) (i'+1) j' (Vk st gs):=⟨m2,by omega,hj,gs,rfl⟩
     split
     ·exact wpS_pure (.inr ⟨rfl,J2,by dsimp only;omega⟩)
     ·exact wpS_pure ⟨rfl,J2,by dsimp only;omega⟩
  case post1 =>
   rintro⟨o1,o',i',j',u,v⟩ st' (⟨r,h1,h2⟩|⟨h1,h2,h3⟩)
   ·dsimp only at h1 h2 ⊢
    subst h1
    exact wpS_pure ⟨r,rfl,h2⟩
   ·dsimp only at h1 h2 h3 ⊢
    subst h1
    refine wpS_bind (wpS_lift (wpAny_rule ⟨rfl, ?_⟩))
    refine wpS_bind (wpS_mono (wpS_forRange
     (I:=fun _ (c:Option (Array Keyed)×Array Keyed×Nat×Nat×Nat×Nat×Nat) (st':SortSt)=>c.1=none/\JLo R a b st c.2.1 c.2.2.1 c.2.2.2.1 st'/\x+1+1<=c.2.2.1+c.2.2.2.1)
     (Q:=fun(c:Option (Array Keyed)×Array Keyed×Nat×Nat×Nat×Nat×Nat) (st':SortSt)=>(∃r,c.1=some r/\U6 R a b st r st')\/(c.1=none/\JLo R a b st c.2.1 c.2.2.1 c.2.2.2.1 st'/\x+1+1<=c.2.2.1+c.2.2.2.1)) ?step2 (fun c st' hc=>.inr hc) ⟨rfl,h2,by dsimp only;omega⟩) ?post2)
    case post2 =>
     rintro⟨o1,o',i',j',g',u,v⟩ st' (⟨r,h1,h2⟩|⟨h1,h2,h3⟩)
     ·dsimp only at h1 h2 ⊢
      subst h1
      exact wpS_pure ⟨r,rfl,h2⟩
     ·dsimp only at h1 h2 h3 ⊢
      subst h1
      obtain⟨m,hi,hj,gs,rfl⟩:=h2
      exact wpS_bind (Vy (wpS_pure ⟨rfl,⟨m,hi,hj,_,rfl⟩,by dsimp only;omega⟩))
    case step2 =>
     clear h2 h3 J hm m0 m1
     rintro x' ⟨o1,o,i,j,g,u,v⟩ st' _ hx' ⟨rfl,⟨m,hi,hj,gs,rfl⟩,hp⟩
     dsimp only at m hi hj hp ⊢
     obtain⟨y,hy,hyl,hym⟩:=Jw hj
     by_cases hg1:g>1
     ·rw[if_pos hg1]
      refine wpS_bind (Vy ?_)
      refine wpS_bind (Zo hy (wpS_bind (ZE C (show kindOf (Vk _ _)=κ from hk) (Zgj C M.ua M.sa (M.ub _ hym) (M.ok _ hym) (show i<=a.size by omega)) (by omega) fun k p1 p2 p3=>?_)))
      dsimp only
      have fb2:∀z∈a.toList.drop (i+k),R z y=false:=fun z hz=>by
       obtain⟨t,ht⟩:=J1 hz
       have hl:=(Zrg.mp ht).1
       rw[Zrm] at hl
       have:=p3 (k+t) (by omega) (by omega)
       rw[show i+(k+t)=i+k+t by omega,ZI ht] at this
       exact C.asy _ _ (M.ub _ hym) (M.ua _ (Zrh ht)) (by simpa using this)
      by_cases hk1:k>0
      ·rw[if_pos hk1]
       have m2:=m.pushA M.sa k (by rw[Zrm];omega) (fun x hx z hz=>by
        obtain⟨t,htk,ht⟩:=U3 hx
        have h1:=p2 t htk
        rw[ZI ht] at h1
        exact C.dropLe M.ub M.sb hyl (M.ua x (Zrh ht)) (by simpa using h1) z hz)
       rw[<- Uz] at m2
       by_cases e0:i+k+1=a.size
       ·rw[if_pos (by simpa using e0)]
        exact wpS_pure (.inl ⟨_,rfl,M.finB m2 e0 ⟨_,rfl⟩⟩)
       rw[if_neg (by simpa using e0)]
       by_cases e1:i+k=a.size
       ·rw[if_pos (by simpa using e1)]
        exact wpS_pure (.inl ⟨_,rfl,M.finA m2 (.inl e1) ⟨_,rfl⟩⟩)
       rw[if_neg (by simpa using e1)]
       have fb:=fb2
       refine wpS_bind (Zo hy ?_)
       have m2':=MLo.b1 C M m2 hyl fb
       by_cases e2:j+1=b.size
       ·rw[if_pos (by simpa using e2)]
        exact wpS_pure (.inl ⟨_,rfl,M.finA m2' (.inr e2) ⟨_,rfl⟩⟩)
       rw[if_neg (by simpa using e2)]
       obtain⟨z,hz,hzl,hzm⟩:=Jw (show i+k<a.size by omega)
       refine wpS_bind (Zo hz (wpS_bind (ZE C hk (ZaT C M.ub M.sb (M.ua _ hzm) (fun y hy=>M.ok y hy _ hzm) (show j+1<=b.size by omega)) (by omega) fun k2 q1 q2 q3=>?_)))
       dsimp only
       have fz2:∀y∈b.toList.drop (j+1+k2),R y z=false:=fun y hy=>by
        obtain⟨t,ht⟩:=J1 hy
        have hl:=(Zrg.mp ht).1
        rw[Zrm] at hl
        have:=q3 (k2+t) (by omega) (by omega)
        rw[show j+1+(k2+t)=j+1+k2+t by omega,ZI ht] at this
        exact this
       by_cases hk2:k2>0
       ·rw[if_pos hk2]
        have m3:=m2'.pushB M.sb k2 (by rw[Zrm];omega) (fun x hx y hy=>by
         obtain⟨t,htk,ht⟩:=U3 hx
         have h1:=q2 t htk
         rw[ZI ht] at h1
         have ux:=M.ub x (Zrh ht)
         have h2:=C.dropLe M.ua M.sa hzl ux (C.asy _ _ ux (M.ua _ hzm) h1)
         exact h2 y hy)
        rw[<- Uz] at m3
        by_cases e3:j+1+k2=b.size
        ·rw[if_pos (by simpa using e3)]
         exact wpS_pure (.inl ⟨_,rfl,M.finA m3 (.inr e3) ⟨_,rfl⟩⟩)
        rw[if_neg (by simpa using e3)]
        have hj3:j+1+k2<b.size:=by omega
        have fz:=fz2
        refine wpS_bind (Zo hz ?_)
        have m4:=MLo.a1 C M m3 hzl fz
        by_cases e4:i+k+1+1=a.size
        ·rw[if_pos (by simpa using e4)]
         exact wpS_pure (.inl ⟨_,rfl,M.finB m4 e4 ⟨_,rfl⟩⟩)
        ·rw[if_neg (by simpa using e4)]
         split
         ·exact wpS_pure (.inr ⟨rfl,⟨m4,by dsimp only;omega,hj3,_,rfl⟩,by dsimp only;omega⟩)
         ·exact wpS_pure ⟨rfl,⟨m4,by dsimp only;omega,hj3,_,rfl⟩,by dsimp only;omega⟩
       ·rw[if_neg hk2]
        obtain rfl:k2=0:=by omega
        have m3:=m2'
        have hj3:j+1<b.size:=by omega
        have fz:∀y∈b.toList.drop (j+1),R y z=false:=fz2
        refine wpS_bind (Zo hz ?_)
        have m4:=MLo.a1 C M m3 hzl fz
        by_cases e4:i+k+1+1=a.size
        ·rw[if_pos (by simpa using e4)]
         exact wpS_pure (.inl ⟨_,rfl,M.finB m4 e4 ⟨_,rfl⟩⟩)
        ·rw[if_neg (by simpa using e4)]
         split
         ·exact wpS_pure (.inr ⟨rfl,⟨m4,by dsimp only;omega,hj3,_,rfl⟩,by dsimp only;omega⟩)
         ·exact wpS_pure ⟨rfl,⟨m4,by dsimp only;omega,hj3,_,rfl⟩,by dsimp only;omega⟩
      ·rw[if_neg hk1]
       obtain rfl:k=0:=by omega
       have m2:=m
       have fb:∀z∈a.toList.drop i,R z y=false:=fb2
       refine wpS_bind (Zo hy ?_)
       have m2':=MLo.b1 C M m2 hyl fb
       by_cases e2:j+1=b.size
       ·rw[if_pos (by simpa using e2)]
        exact wpS_pure (.inl ⟨_,rfl,M.finA m2' (.inr e2) ⟨_,rfl⟩⟩)
       rw[if_neg (by simpa using e2)]
       obtain⟨z,hz,hzl,hzm⟩:=Jw (show i<a.size by omega)
       refine wpS_bind (Zo hz (wpS_bind (ZE C hk (ZaT C M.ub M.sb (M.ua _ hzm) (fun y hy=>M.ok y hy _ hzm) (show j+1<=b.size by omega)) (by omega) fun k2 q1 q2 q3=>?_)))
       dsimp only
       have fz2:∀y∈b.toList.drop (j+1+k2),R y z=false:=fun y hy=>by
        obtain⟨t,ht⟩:=J1 hy
        have hl:=(Zrg.mp ht).1
        rw[Zrm] at hl
        have:=q3 (k2+t) (by omega) (by omega)
        rw[show j+1+(k2+t)=j+1+k2+t by omega,ZI ht] at this
        exact this
       by_cases hk2:k2>0
       ·rw[if_pos hk2]
        have m3:=m2'.pushB M.sb k2 (by rw[Zrm];omega) (fun x hx y hy=>by
         obtain⟨t,htk,ht⟩:=U3 hx
         have h1:=q2 t htk
         rw[ZI ht] at h1
         have ux:=M.ub x (Zrh ht)
         have h2:=C.dropLe M.ua M.sa hzl ux (C.asy _ _ ux (M.ua _ hzm) h1)
         exact h2 y hy)
        rw[<- Uz] at m3
        by_cases e3:j+1+k2=b.size
        ·rw[if_pos (by simpa using e3)]
         exact wpS_pure (.inl ⟨_,rfl,M.finA m3 (.inr e3) ⟨_,rfl⟩⟩)
        rw[if_neg (by simpa using e3)]
        have hj3:j+1+k2<b.size:=by omega
        have fz:=fz2
        refine wpS_bind (Zo hz ?_)
        have m4:=MLo.a1 C M m3 hzl fz
        by_cases e4:i+1+1=a.size
        ·rw[if_pos (by simpa using e4)]
         exact wpS_pure (.inl ⟨_,rfl,M.finB m4 e4 ⟨_,rfl⟩⟩)
        ·rw[if_neg (by simpa using e4)]
         split
         ·exact wpS_pure (.inr ⟨rfl,⟨m4,by dsimp only;omega,hj3,_,rfl⟩,by dsimp only;omega⟩)
         ·exact wpS_pure ⟨rfl,⟨m4,by dsimp only;omega,hj3,_,rfl⟩,by dsimp only;omega⟩
       ·rw[if_neg hk2]
        obtain rfl:k2=0:=by omega
        have m3:=m2'
        have hj3:j+1<b.size:=by omega
        have fz:∀y∈b.toList.drop (j+1),R y z=false:=fz2
        refine wpS_bind (Zo hz ?_)
        have m4:=MLo.a1 C M m3 hzl fz
        by_cases e4:i+1+1=a.size
        ·rw[if_pos (by simpa using e4)]
         exact wpS_pure (.inl ⟨_,rfl,M.finB m4 e4 ⟨_,rfl⟩⟩)
        ·rw[if_neg (by simpa using e4)]
         split
         ·exact wpS_pure (.inr ⟨rfl,⟨m4,by dsimp only;omega,hj3,_,rfl⟩,by dsimp only;omega⟩)
         ·exact wpS_pure ⟨rfl,⟨m4,by dsimp only;omega,hj3,_,rfl⟩,by dsimp only;omega⟩
     ·rw[if_neg hg1]
      refine wpS_bind (Vy ?_)
      refine wpS_bind (Zo hy (wpS_bind (ZE C (show kindOf (Vk _ _)=κ from hk) (Zgj C M.ua M.sa (M.ub _ hym) (M.ok _ hym) (show i<=a.size by omega)) (by omega) fun k p1 p2 p3=>?_)))
      dsimp only
      have fb2:∀z∈a.toList.drop (i+k),R z y=false:=fun z hz=>by
       obtain⟨t,ht⟩:=J1 hz
       have hl:=(Zrg.mp ht).1
       rw[Zrm] at hl
       have:=p3 (k+t) (by omega) (by omega)
       rw[show i+(k+t)=i+k+t by omega,ZI ht] at this
       exact C.asy _ _ (M.ub _ hym) (M.ua _ (Zrh ht)) (by simpa using this)
      by_cases hk1:k>0
      ·rw[if_pos hk1]
       have m2:=m.pushA M.sa k (by rw[Zrm];omega) (fun x hx z hz=>by
        obtain⟨t,htk,ht⟩:=U3 hx
        have h1:=p2 t htk
        rw[ZI ht] at h1
        exact C.dropLe M.ub M.sb hyl (M.ua x (Zrh ht)) (by simpa using h1) z hz)
       rw[<- Uz] at m2
       by_cases e0:i+k+1=a.size
       ·rw[if_pos (by simpa using e0)]
        exact wpS_pure (.inl ⟨_,rfl,M.finB m2 e0 ⟨_,rfl⟩⟩)
       rw[if_neg (by simpa using e0)]
       by_cases e1:i+k=a.size
       ·rw[if_pos (by simpa using e1)]
        exact wpS_pure (.inl ⟨_,rfl,M.finA m2 (.inl e1) ⟨_,rfl⟩⟩)
       rw[if_neg (by simpa using e1)]
       have fb:=fb2
       refine wpS_bind (Zo hy ?_)
       have m2':=MLo.b1 C M m2 hyl fb
       by_cases e2:j+1=b.size
       ·rw[if_pos (by simpa using e2)]
        exact wpS_pure (.inl ⟨_,rfl,M.finA m2' (.inr e2) ⟨_,rfl⟩⟩)
       rw[if_neg (by simpa using e2)]
       obtain⟨z,hz,hzl,hzm⟩:=Jw (show i+k<a.size by omega)
       refine wpS_bind (Zo hz (wpS_bind (ZE C hk (ZaT C M.ub M.sb (M.ua _ hzm) (fun y hy=>M.ok y hy _ hzm) (show j+1<=b.size by omega)) (by omega) fun k2 q1 q2 q3=>?_)))
       dsimp only
       have fz2:∀y∈b.toList.drop (j+1+k2),R y z=false:=fun y hy=>by
        obtain⟨t,ht⟩:=J1 hy
        have hl:=(Zrg.mp ht).1
        rw[Zrm] at hl
        have:=q3 (k2+t) (by omega) (by omega)
        rw[show j+1+(k2+t)=j+1+k2+t by omega,ZI ht] at this
        exact this
       by_cases hk2:k2>0
       ·rw[if_pos hk2]
        have m3:=m2'.pushB M.sb k2 (by rw[Zrm];omega) (fun x hx y hy=>by
         obtain⟨t,htk,ht⟩:=U3 hx
         have h1:=q2 t htk
         rw[ZI ht] at h1
         have ux:=M.ub x (Zrh ht)
         have h2:=C.dropLe M.ua M.sa hzl ux (C.asy _ _ ux (M.ua _ hzm) h1)
         exact h2 y hy)
        rw[<- Uz] at m3
        by_cases e3:j+1+k2=b.size
        ·rw[if_pos (by simpa using e3)]
         exact wpS_pure (.inl ⟨_,rfl,M.finA m3 (.inr e3) ⟨_,rfl⟩⟩)
        rw[if_neg (by simpa using e3)]
        have hj3:j+1+k2<b.size:=by omega
        have fz:=fz2
        refine wpS_bind (Zo hz ?_)
        have m4:=MLo.a1 C M m3 hzl fz
        by_cases e4:i+k+1+1=a.size
        ·rw[if_pos (by simpa using e4)]
         exact wpS_pure (.inl ⟨_,rfl,M.finB m4 e4 ⟨_,rfl⟩⟩)
        ·rw[if_neg (by simpa using e4)]
         split
         ·exact wpS_pure (.inr ⟨rfl,⟨m4,by dsimp only;omega,hj3,_,rfl⟩,by dsimp only;omega⟩)
         ·exact wpS_pure ⟨rfl,⟨m4,by dsimp only;omega,hj3,_,rfl⟩,by dsimp only;omega⟩
       ·rw[if_neg hk2]
        obtain rfl:k2=0:=by omega
        have m3:=m2'
        have hj3:j+1<b.size:=by omega
        have fz:∀y∈b.toList.drop (j+1),R y z=false:=fz2
        refine wpS_bind (Zo hz ?_)
        have m4:=MLo.a1 C M m3 hzl fz
        by_cases e4:i+k+1+1=a.size
        ·rw[if_pos (by simpa using e4)]
         exact wpS_pure (.inl ⟨_,rfl,M.finB m4 e4 ⟨_,rfl⟩⟩)
        ·rw[if_neg (by simpa using e4)]
         split
         ·exact wpS_pure (.inr ⟨rfl,⟨m4,by dsimp only;omega,hj3,_,rfl⟩,by dsimp only;omega⟩)
         ·exact wpS_pure ⟨rfl,⟨m4,by dsimp only;omega,hj3,_,rfl⟩,by dsimp only;omega⟩
      ·rw[if_neg hk1]
       obtain rfl:k=0:=by omega
       have m2:=m
       have fb:∀z∈a.toList.drop i,R z y=false:=fb2
       refine wpS_bind (Zo hy ?_)
       have m2':=MLo.b1 C M m2 hyl fb
       by_cases e2:j+1=b.size
       ·rw[if_pos (by simpa using e2)]
        exact wpS_pure (.inl ⟨_,rfl,M.finA m2' (.inr e2) ⟨_,rfl⟩⟩)
       rw[if_neg (by simpa using e2)]
       obtain⟨z,hz,hzl,hzm⟩:=Jw (show i<a.size by omega)
       refine wpS_bind (Zo hz (wpS_bind (ZE C hk (ZaT C M.ub M.sb (M.ua _ hzm) (fun y hy=>M.ok y hy _ hzm) (show j+1<=b.size by omega)) (by omega) fun k2 q1 q2 q3=>?_)))
       dsimp only
       have fz2:∀y∈b.toList.drop (j+1+k2),R y z=false:=fun y hy=>by
        obtain⟨t,ht⟩:=J1 hy
        have hl:=(Zrg.mp ht).1
        rw[Zrm] at hl
        have:=q3 (k2+t) (by omega) (by omega)
        rw[show j+1+(k2+t)=j+1+k2+t by omega,ZI ht] at this
        exact this
       by_cases hk2:k2>0
       ·rw[if_pos hk2]
        have m3:=m2'.pushB M.sb k2 (by rw[Zrm];omega) (fun x hx y hy=>by
         obtain⟨t,htk,ht⟩:=U3 hx
         have h1:=q2 t htk
         rw[ZI ht] at h1
         have ux:=M.ub x (Zrh ht)
         have h2:=C.dropLe M.ua M.sa hzl ux (C.asy _ _ ux (M.ua _ hzm) h1)
         exact h2 y hy)
        rw[<- Uz] at m3
        by_cases e3:j+1+k2=b.size
        ·rw[if_pos (by simpa using e3)]
         exact wpS_pure (.inl ⟨_,rfl,M.finA m3 (.inr e3) ⟨_,rfl⟩⟩)
        rw[if_neg (by simpa using e3)]
        have hj3:j+1+k2<b.size:=by omega
        have fz:=fz2
        refine wpS_bind (Zo hz ?_)
        have m4:=MLo.a1 C M m3 hzl fz
        by_cases e4:i+1+1=a.size
        ·rw[if_pos (by simpa using e4)]
         exact wpS_pure (.inl ⟨_,rfl,M.finB m4 e4 ⟨_,rfl⟩⟩)
        ·rw[if_neg (by simpa using e4)]
         split
         ·exact wpS_pure (.inr ⟨rfl,⟨m4,by dsimp only;omega,hj3,_,rfl⟩,by dsimp only;omega⟩)
         ·exact wpS_pure ⟨rfl,⟨m4,by dsimp only;omega,hj3,_,rfl⟩,by dsimp only;omega⟩
       ·rw[if_neg hk2]
        obtain rfl:k2=0:=by omega
        have m3:=m2'
        have hj3:j+1<b.size:=by omega
        have fz:∀y∈b.toList.drop (j+1),R y z=false:=fz2
        refine wpS_bind (Zo hz ?_)
        have m4:=MLo.a1 C M m3 hzl fz
        by_cases e4:i+1+1=a.size
        ·rw[if_pos (by simpa using e4)]
         exact wpS_pure (.inl ⟨_,rfl,M.finB m4 e4 ⟨_,rfl⟩⟩)
        ·rw[if_neg (by simpa using e4)]
         split
         ·exact wpS_pure (.inr ⟨rfl,⟨m4,by dsimp only;omega,hj3,_,rfl⟩,by dsimp only;omega⟩)
         ·exact wpS_pure ⟨rfl,⟨m4,by dsimp only;omega,hj3,_,rfl⟩,by dsimp only;omega⟩
end
noncomputable def Zap:Array Keyed->Array Keyed->StateT SortSt Sem (Array Keyed):=sortPriv% PySem.Builtin.mergeHi
noncomputable def hiA(a b o:Array Keyed)(i j:Nat):Array Keyed:=a.extract 0 i++b.extract 0 j++o.reverse
noncomputable def hiB(a b o:Array Keyed)(i j:Nat):Array Keyed:=b.extract 0 j++a.extract 0 i++o.reverse
theorem ZbU(a b:Array Keyed):Zap a b=(do
  rule "list.sort.merge-hi"
  let n:=a.size+b.size
  let mut i:=a.size-1
  let mut j:=b.size
  let mut o:Array Keyed:=#[<- elem' a i]
  if i==0 then return hiA a b o i j
  if j==1 then return hiB a b o i j
  let mut g:=gallopOf (<- get)
  for _ in [0:n] do
   let mut x:=0
   let mut y:=0
   for _ in [0:n] do
    let some t <- lt' (<- elem' b (j-1)) (<- elem' a (i-1))|return hiA a b o i j
    if t then
     i:=i-1;o:=o.push (<- elem' a i);x:=x+1;y:=0
     if i==0 then return hiA a b o i j
     if x ≥ g then break
    else
     j:=j-1;o:=o.push (<- elem' b j);y:=y+1;x:=0
     if j==1 then return hiB a b o i j
     if y ≥ g then break
   rule "list.sort.gallop"
   g:=g+1
   for _ in [0:n] do
    if g>1 then g:=g-1
    ZjR g
    let some q <- Vw false (<- elem' b (j-1)) a 0 i (i-1)|return hiA a b o i j
    let k:=i-q
    x:=k
    if k>0 then
     o:=o++(a.extract q i).reverse;i:=q
     if i==0 then return hiA a b o i j
    j:=j-1;o:=o.push (<- elem' b j)
    if j==1 then return hiB a b o i j
    let some q <- Vw true (<- elem' a (i-1)) b 0 j (j-1)|return hiA a b o i j
    let k:=j-q
    y:=k
    if k>0 then
     o:=o++(b.extract q j).reverse;j:=q
     if j==1 then return hiB a b o i j
     if j==0 then return hiA a b o i j
    i:=i-1;o:=o.push (<- elem' a i)
    if i==0 then return hiA a b o i j
    if x<7&&y<7 then break
   g:=g+1
   ZjR g
  unsupported "internal:list.sort.merge-bound"):=rfl
structure MH(R:Keyed->Keyed->Bool)(a b q:List Keyed)(i j:Nat):Prop where
 perm:q.Perm (a.drop i++b.drop j)
 srt:Srt R q
 ga:∀x∈a.take i,∀y∈q,R y x=false
 gb:∀x∈b.take j,∀y∈q,R y x=false
 hi:i<=a.length
 hj:j<=b.length
section
variable {R:Keyed->Keyed->Bool}{a b q:List Keyed}{i j:Nat}
theorem JU(l:List Keyed){c i:Nat}(h:c<=i):l.take c++(l.take i).drop c=l.take i:=by
 rw[show l.take c=(l.take i).take c by rw[List.take_take,Nat.min_eq_left h]]
 exact Zr2 c (l.take i)
theorem QU(l:List Keyed){c i:Nat}(h:c<=i):(l.take i).drop c++l.drop i=l.drop c:=by
 have e:l.take c++((l.take i).drop c++l.drop i)=l.take c++l.drop c:=by
  rw[<- Zrr,JU l h,Zr2,Zr2]
 exact List.append_cancel_left e
theorem Srt.take{l:List Keyed}(h:Srt R l)(i:Nat):Srt R (l.take i):=h.sublist (Ztp i l)
theorem MH.pushA(M:MH R a b q i j)(sa:Srt R a){c:Nat}(hc:c<=i)(hle:∀x∈b.take j,∀y∈(a.take i).drop c,R y x=false):MH R a b ((a.take i).drop c++q) c j:=by
 have sd:=sa.take i
 rw[<- JU a hc] at sd
 obtain⟨s1,s2,s3⟩:=Zrx.mp sd
 refine⟨?_, ?_, ?_, ?_,Zr7 hc M.hi,M.hj⟩
 ·refine(List.Perm.append_left _ M.perm).trans ?_
  rw[<- Zrr,QU a hc]
 ·exact Zrx.mpr ⟨s2,M.srt,fun x hx y hy=>M.ga x (ZrQ hx) y hy⟩
 ·intro x hx y hy
  rcases Zro.mp hy with hy|hy
  ·exact s3 x hx y hy
  ·exact M.ga x (by rw[<- JU a hc];exact Zrp _ hx) y hy
 ·intro x hx y hy
  rcases Zro.mp hy with hy|hy
  ·exact hle x hx y hy
  ·exact M.gb x hx y hy
theorem MH.pushB(M:MH R a b q i j)(sb:Srt R b){c:Nat}(hc:c<=j)(hle:∀x∈a.take i,∀y∈(b.take j).drop c,R y x=false):MH R a b ((b.take j).drop c++q) i c:=by
 have sd:=sb.take j
 rw[<- JU b hc] at sd
 obtain⟨s1,s2,s3⟩:=Zrx.mp sd
 refine⟨?_, ?_, ?_, ?_,M.hi,Zr7 hc M.hj⟩
 ·refine(List.Perm.append_left _ M.perm).trans ?_
  rw[<- QU b hc]
  have:∀X Y Z:List Keyed,(X++(Y++Z)).Perm (Y++(X++Z)):=fun X Y Z=>by
   rw[<- Zrr,<- Zrr]
   exact List.Perm.append_right _ Zsi
  exact this _ _ _
 ·exact Zrx.mpr ⟨s2,M.srt,fun x hx y hy=>M.gb x (ZrQ hx) y hy⟩
 ·intro x hx y hy
  rcases Zro.mp hy with hy|hy
  ·exact hle x hx y hy
  ·exact M.ga x hx y hy
 ·intro x hx y hy
  rcases Zro.mp hy with hy|hy
  ·exact s3 x hx y hy
  ·exact M.gb x (by rw[<- JU b hc];exact Zrp _ hx) y hy
theorem MH.all_perm(M:MH R a b q i j):(a.take i++(b.take j++q)).Perm (a++b):=by
 refine(List.Perm.append_left _ (List.Perm.append_left _ M.perm)).trans ?_
 have p1:∀X Y Z W:List Keyed,(X++(Y++(Z++W))).Perm ((X++Z)++(Y++W)):=fun X Y Z W=>by
  rw[Zrr]
  refine List.Perm.append_left _ ?_
  rw[<- Zrr,<- Zrr]
  exact List.Perm.append_right _ Zsi
 refine(p1 _ _ _ _).trans ?_
 rw[Zr2,Zr2]
theorem MH.endA(M:MH R a b q i j)(sa:Srt R a)(sb:Srt R b)(h:i=0\/j=0):Srt R (a.take i++(b.take j++q))/\(a.take i++(b.take j++q)).Perm (a++b):=by
 refine⟨?_,M.all_perm⟩
 have sq:Srt R (b.take j++q):=Zrx.mpr ⟨sb.take j,M.srt,M.gb⟩
 refine Zrx.mpr ⟨sa.take i,sq,fun x hx y hy=>?_⟩
 rcases h with h|h
 ·rw[h,List.take_zero] at hx;simp at hx
 ·rw[h,List.take_zero,Zsm] at hy
  exact M.ga x hx y hy
theorem MH.endB(M:MH R a b q i j)(sa:Srt R a)(sb:Srt R b)(h:∀x∈b.take j,∀y∈a.take i,R y x=false):Srt R (b.take j++(a.take i++q))/\(b.take j++(a.take i++q)).Perm (a++b):=by
 refine⟨?_, ?_⟩
 ·refine Zrx.mpr ⟨sb.take j,Zrx.mpr ⟨sa.take i,M.srt,M.ga⟩,fun x hx y hy=>?_⟩
  rcases Zro.mp hy with hy|hy
  ·exact h x hx y hy
  ·exact M.gb x hx y hy
 ·refine List.Perm.trans ?_ M.all_perm
  rw[<- Zrr,<- Zrr]
  exact List.Perm.append_right _ Zsi
end
section
variable {prog:Program}{w:World}{A:Around}{E:Value->Shared->Prop}{s:Shared}{κ:SortKind}{U:Keyed->Prop}{R:Keyed->Keyed->Bool}{Ok:Keyed->Keyed->Prop}
theorem U9.le{left:Bool}{key:Keyed}{arr:Array Keyed}{base n m:Nat}{P:Nat->Bool}(K:U9 U R Ok left key arr base m P)(h:n<=m):U9 U R Ok left key arr base n P:=
 ⟨K.uk,fun i hi=>K.it i (by omega),fun i j h1 h2 h3=>K.mono i j h1 (by omega) h3⟩
theorem Vj.takeLe(C:Vj prog w A s κ U R Ok){l:List Keyed}{n:Nat}{v z:Keyed}(ul:∀y∈l,U y)(hs:Srt R l)(hn:0<n)(hz:l[n-1]?=some z)(uv:U v)(h:R v z=false):∀x∈l.take n,R v x=false:=fun x hx=>by
 obtain⟨t,ht⟩:=Zr4 hx
 rw[ZrE] at ht
 split at ht
 ·rename_i htn
  have h1:=Srt.le C ul hs (show t<=n-1 by omega) ht hz
  exact C.tr x z v (ul x (Zrh ht)) (ul z (Zrh hz)) uv h1 h
 ·cases ht
theorem Uf{l:List Keyed}{i:Nat}{x:Keyed}(h:x∈l.take i):∃t,t<i/\l[t]?=some x:=by
 obtain⟨t,ht⟩:=Zr4 h
 rw[ZrE] at ht
 split at ht
 ·rename_i hi;exact⟨t,hi,ht⟩
 ·cases ht
theorem V4{l:List Keyed}{i c:Nat}{x:Keyed}(h:x∈(l.take i).drop c):∃t,(c<=t/\t<i)/\l[t]?=some x:=by
 obtain⟨t,ht⟩:=Zr4 h
 rw[ZrG,ZrE] at ht
 split at ht
 ·rename_i hi;exact⟨c+t,by omega,ht⟩
 ·cases ht
theorem UE{l:List Keyed}{i:Nat}{x:Keyed}(hi:0<i)(h:l[i-1]?=some x):(l.take i).drop (i-1)=[x]:=by
 have hl:=Zrg.mp h
 have e:(l.take i)[i-1]?=some x:=by rw[ZrE,if_pos (by omega),h]
 have h2:=Zrg.mp e
 rw[ZrH h2.1,h2.2,Zs4 (by rw[Zr9];omega)]
theorem Zim(a b o:Array Keyed)(i j:Nat):(hiA a b o i j).toList=a.toList.take i++(b.toList.take j++o.toList.reverse):=by
 simp[hiA,Zrr,ZrV]
theorem Zil(a b o:Array Keyed)(i j:Nat):(hiB a b o i j).toList=b.toList.take j++(a.toList.take i++o.toList.reverse):=by
 simp[hiB,Zrr,ZrV]
theorem Uy(l o:Array Keyed)(q i:Nat):(o++(l.extract q i).reverse).toList.reverse=(l.toList.take i).drop q++o.toList.reverse:=by
 simp[ZrV,List.drop_take]
theorem Zc1(o:Array Keyed)(x:Keyed):(o.push x).toList.reverse=[x]++o.toList.reverse:=by simp
def JHi(R:Keyed->Keyed->Bool)(a b:Array Keyed)(st:SortSt)(o:Array Keyed)(i j:Nat)(st':SortSt):Prop:=MH R a.toList b.toList o.toList.reverse i j/\0<i/\1<j/\∃g,st'=Vk st g
section
variable {st st':SortSt}{a b o:Array Keyed}{i j:Nat}
theorem MLo.hfA(M:MLo U R Ok a b)(m:MH R a.toList b.toList o.toList.reverse i j)(h:i=0\/j=0)(hg:∃g,st'=Vk st g):U6 R a b st (hiA a b o i j) st':=by
 obtain⟨h1,h2⟩:=m.endA M.sa M.sb h
 rw[<- Zim] at h1 h2
 exact⟨h1,h2,hg⟩
theorem MLo.hfB(C:Vj prog w A s κ U R Ok)(M:MLo U R Ok a b)(m:MH R a.toList b.toList o.toList.reverse i j)(h:j=1)(hg:∃g,st'=Vk st g):U6 R a b st (hiB a b o i j) st':=by
 obtain⟨a0,ha0,ha0l,ha0m⟩:=Jw M.na
 obtain⟨h1,h2⟩:=m.endB M.sa M.sb fun x hx y hy=>by
  obtain⟨t,ht,hx⟩:=Uf hx
  have ht0:t=0:=by omega
  rw[ht0] at hx
  have:=C.dropLe M.ua M.sa ha0l (M.ub _ (Zrh hx)) (M.fst _ _ hx ha0l)
  rw[ZsE] at this
  exact this y (ZrP hy)
 rw[<- Zil] at h1 h2
 exact⟨h1,h2,hg⟩
theorem MLo.ha1(M:MLo U R Ok a b)(m:MH R a.toList b.toList o.toList.reverse i j){x:Keyed}(hi:0<i)(hx:a.toList[i-1]?=some x)(hle:∀y∈b.toList.take j,R x y=false):MH R a.toList b.toList (o.push x).toList.reverse (i-1) j:=by
 have:=m.pushA M.sa (c:=i-1) (by omega) (by rw[UE hi hx];intro y hy z hz;rw[ZrD.mp hz];exact hle y hy)
 rw[UE hi hx] at this
 rw[Zc1];exact this
theorem MLo.hb1(M:MLo U R Ok a b)(m:MH R a.toList b.toList o.toList.reverse i j){x:Keyed}(hj:0<j)(hx:b.toList[j-1]?=some x)(hle:∀y∈a.toList.take i,R x y=false):MH R a.toList b.toList (o.push x).toList.reverse i (j-1):=by
 have:=m.pushB M.sb (c:=j-1) (by omega) (by rw[UE hj hx];intro y hy z hz;rw[ZrD.mp hz];exact hle y hy)
 rw[UE hj hx] at this
 rw[Zc1];exact this
end
theorem Zb5(C:Vj prog w A s κ U R Ok){st:SortSt}{a b:Array Keyed}{Q:Array Keyed->SortSt->Prop}(hk:kindOf st=κ)(M:MLo U R Ok a b)(h:∀o st',U6 R a b st o st'->Q o st'):wpS (model prog w) A E s (Zap a b) Q st:=by
 rw[ZbU]
 have na:=M.na
 have nb:=M.nb
 obtain⟨al,hal,hall,halm⟩:=Jw (show a.size-1<a.size by omega)
 refine wpS_bind (wpS_lift (wpAny_rule ⟨rfl, ?_⟩))
 refine wpS_bind (Zo hal ?_)
 dsimp only
 have m0:MH R a.toList b.toList (#[]:Array Keyed).toList.reverse a.size b.size:=⟨by simp,List.Pairwise.nil,fun x _ y hy=>by simp at hy,fun x _ y hy=>by simp at hy,by simp,by simp⟩
 have m1:MH R a.toList b.toList (#[al]:Array Keyed).toList.reverse (a.size-1) b.size:=M.ha1 m0 na hall fun y hy=>M.lst y (ZrP hy) al hall
 have g0:∃g,st=Vk st g:=⟨gallopOf st,rfl⟩
 by_cases c1:a.size-1=0
 ·rw[if_pos (by simpa using c1)]
  exact wpS_pure (h _ _ (M.hfA m1 (.inl c1) g0))
 rw[if_neg (by simpa using c1)]
 by_cases c2:b.size=1
 ·rw[if_pos (by simpa using c2)]
  exact wpS_pure (h _ _ (MLo.hfB C M m1 c2 g0))
 rw[if_neg (by simpa using c2)]
 refine wpS_bind (wpS_get ?_)
 refine wpS_bind (wpS_mono (wpS_forRange
  (I:=fun x (c:Option (Array Keyed)×Nat×Nat×Array Keyed×Nat) (st':SortSt)=>c.1=none/\JHi R a b st c.2.2.2.1 c.2.1 c.2.2.1 st'/\c.2.1+c.2.2.1+x+1<=a.size+b.size)
  (Q:=fun(c:Option (Array Keyed)×Nat×Nat×Array Keyed×Nat) (st':SortSt)=>∃r,c.1=some r/\U6 R a b st r st') ?step ?fin ⟨rfl,⟨m1,by dsimp only;omega,by dsimp only;omega,g0⟩,by dsimp only;omega⟩) ?post)
 case fin =>
  rintro⟨o1,i,j,o,g⟩ st' ⟨h1,⟨h2,h3,h4,h5⟩,h6⟩
  dsimp only at h3 h4 h6
  omega
 case post =>
  rintro⟨o1,i,j,o,g⟩ st' ⟨r,h1,h2⟩
  dsimp only at h1
  subst h1
  exact wpS_pure (h _ _ h2)
 case step =>
  rintro x ⟨o1,i,j,o,g⟩ st1 _ hx ⟨rfl,J,hm⟩
  dsimp only at J hm ⊢
  refine wpS_bind (wpS_mono (wpS_forRange
   (I:=fun x' (c:Option (Array Keyed)×Nat×Nat×Array Keyed×Nat×Nat) (st':SortSt)=>c.1=none/\JHi R a b st c.2.2.2.1 c.2.1 c.2.2.1 st'/\c.2.1+c.2.2.1+x'<=i+j)
   (Q:=fun(c:Option (Array Keyed)×Nat×Nat×Array Keyed×Nat×Nat) (st':SortSt)=>(∃r,c.1=some r/\U6 R a b st r st')\/(c.1=none/\JHi R a b st c.2.2.2.1 c.2.1 c.2.2.1 st'/\c.2.1+c.2.2.1+1<=i+j)) ?step1 ?fin1 ⟨rfl,J,Zrl _⟩) ?post1)
  case fin1 =>
   rintro⟨o1,i',j',o',u,v⟩ st' ⟨h1,h2,h3⟩
   dsimp only at h1 h2 h3
   exact .inr ⟨h1,h2,by dsimp only;omega⟩
  case step1 =>
   rintro x' ⟨o1,i',j',o',u,v⟩ st' _ hx' ⟨rfl,⟨m,hi,hj,gs,rfl⟩,hp⟩
   dsimp only at m hi hj hp ⊢
   have lia:=m.hi
   have ljb:=m.hj
   rw[Zrm] at lia ljb
   obtain⟨y,hy,hyl,hym⟩:=Jw (show j'-1<b.size by omega)
   obtain⟨z,hz,hzl,hzm⟩:=Jw (show i'-1<a.size by omega)
   refine wpS_bind (Zo hy (wpS_bind (Zo hz (wpS_bind (UR C hk (M.ub _ hym) (M.ua _ hzm) (M.ok _ hym _ hzm) ?_)))))
   dsimp only
   cases hR:R y z with
   |true =>
    rw[if_pos rfl]
    refine wpS_bind (Zo hz ?_)
    have m2:=M.ha1 m hi hzl (C.takeLe M.ub M.sb (by omega) hyl (M.ua _ hzm) (C.asy _ _ (M.ub _ hym) (M.ua _ hzm) hR))
    by_cases e1:i'-1=0
    ·rw[if_pos (by simpa using e1)]
     exact wpS_pure (.inl ⟨_,rfl,M.hfA m2 (.inl e1) ⟨gs,rfl⟩⟩)
    ·rw[if_neg (by simpa using e1)]
     have J2:JHi R a b st (o'.push z) (i'-1) j' (Vk st gs):=⟨m2,by omega,hj,gs,rfl⟩
     split
     ·exact wpS_pure (.inr ⟨rfl,J2,by dsimp only;omega⟩)
     ·exact wpS_pure ⟨rfl,J2,by dsimp only;omega⟩
   |false =>
    rw[if_neg (by decide)]
    refine wpS_bind (Zo hy ?_)
    have m2:=M.hb1 m (by omega) hyl (C.takeLe M.ua M.sa hi hzl (M.ub _ hym) hR)
    by_cases e1:j'-1=1
    ·rw[if_pos (by simpa using e1)]
     exact wpS_pure (.inl ⟨_,rfl,MLo.hfB C M m2 e1 ⟨gs,rfl⟩⟩)
    ·rw[if_neg (by simpa using e1)]
     have J2:JHi R a b st (o'.push y) i' (j'-1) (Vk st gs):=⟨m2,hi,by omega,gs,rfl⟩
     split
     ·exact wpS_pure (.inr ⟨rfl,J2,by dsimp only;omega⟩)
     ·exact wpS_pure ⟨rfl,J2,by dsimp only;omega⟩
  case post1 =>
   rintro⟨o1,i',j',o',u,v⟩ st' (⟨r,h1,h2⟩|⟨h1,h2,h3⟩)
   ·dsimp only at h1 h2 ⊢
    subst h1
    exact wpS_pure ⟨r,rfl,h2⟩
   ·dsimp only at h1 h2 h3 ⊢
    subst h1
    refine wpS_bind (wpS_lift (wpAny_rule ⟨rfl, ?_⟩))
    refine wpS_bind (wpS_mono (wpS_forRange
     (I:=fun _ (c:Option (Array Keyed)×Nat×Nat×Array Keyed×Nat×Nat×Nat) (st':SortSt)=>c.1=none/\JHi R a b st c.2.2.2.1 c.2.1 c.2.2.1 st'/\c.2.1+c.2.2.1+(x+1)+1<=a.size+b.size)
     (Q:=fun(c:Option (Array Keyed)×Nat×Nat×Array Keyed×Nat×Nat×Nat) (st':SortSt)=>(∃r,c.1=some r/\U6 R a b st r st')\/(c.1=none/\JHi R a b st c.2.2.2.1 c.2.1 c.2.2.1 st'/\c.2.1+c.2.2.1+(x+1)+1<=a.size+b.size)) ?step2 (fun c st' hc=>.inr hc) ⟨rfl,h2,by dsimp only;omega⟩) ?post2)
    case post2 =>
     rintro⟨o1,i',j',o',g',u,v⟩ st' (⟨r,h1,h2⟩|⟨h1,h2,h3⟩)
     ·dsimp only at h1 h2 ⊢
      subst h1
      exact wpS_pure ⟨r,rfl,h2⟩
     ·dsimp only at h1 h2 h3 ⊢
      subst h1
      obtain⟨m,hi,hj,gs,rfl⟩:=h2
      exact wpS_bind (Vy (wpS_pure ⟨rfl,⟨m,hi,hj,_,rfl⟩,by dsimp only;omega⟩))
    case step2 =>
     clear h2 h3 J hm m0 m1
     rintro x' ⟨o1,i,j,o,g,u,v⟩ st' _ hx' ⟨rfl,⟨m,hi,hj,gs,rfl⟩,hp⟩
     dsimp only at m hi hj hp ⊢
     have lia:=m.hi
     have ljb:=m.hj
     rw[Zrm] at lia ljb
     obtain⟨y,hy,hyl,hym⟩:=Jw (show j-1<b.size by omega)
     by_cases hg1:g>1
     ·rw[if_pos hg1]
      refine wpS_bind (Vy ?_)
      refine wpS_bind (Zo hy (wpS_bind (ZE C (show kindOf (Vk _ _)=κ from hk) ((Zgj C M.ua M.sa (M.ub _ hym) (M.ok _ hym) (ZrI a.size)).le (show i<=a.size-0 by omega)) (by omega) fun q1 p1 p2 p3=>?_)))
      dsimp only
      have fb2:∀z∈a.toList.take q1,R y z=false:=fun z hz=>by
       obtain⟨t,htk,ht⟩:=Uf hz
       have h1:=p2 t htk
       rw[ZrW,ZI ht] at h1
       simpa using h1
      by_cases hk1:i-q1>0
      ·rw[if_pos hk1]
       have m2:=m.pushA M.sa (c:=q1) (by omega) (fun x hx z hz=>by
        obtain⟨t,htk,ht⟩:=V4 hz
        have h1:=p3 t htk.1 htk.2
        rw[ZrW,ZI ht] at h1
        have uz:=M.ua z (Zrh ht)
        exact C.takeLe M.ub M.sb (by omega) hyl uz (C.asy _ _ (M.ub _ hym) uz (by simpa using h1)) x hx)
       rw[<- Uy] at m2
       by_cases e0:q1=0
       ·rw[if_pos (by simpa using e0)]
        exact wpS_pure (.inl ⟨_,rfl,M.hfA m2 (.inl e0) ⟨_,rfl⟩⟩)
       rw[if_neg (by simpa using e0)]
       have hi2:0<q1:=by omega
       have fb:=fb2
       refine wpS_bind (Zo hy ?_)
       have m2':=M.hb1 m2 (by omega) hyl fb
       by_cases e2:j-1=1
       ·rw[if_pos (by simpa using e2)]
        exact wpS_pure (.inl ⟨_,rfl,MLo.hfB C M m2' e2 ⟨_,rfl⟩⟩)
       rw[if_neg (by simpa using e2)]
       obtain⟨z,hz,hzl,hzm⟩:=Jw (show q1-1<a.size by omega)
       refine wpS_bind (Zo hz (wpS_bind (ZE C hk ((ZaT C M.ub M.sb (M.ua _ hzm) (fun y hy=>M.ok y hy _ hzm) (ZrI b.size)).le (show j-1<=b.size-0 by omega)) (by omega) fun q2 r1 r2 r3=>?_)))
       dsimp only
       have fz2:∀y∈b.toList.take q2,R z y=false:=fun y hy=>by
        obtain⟨t,htk,ht⟩:=Uf hy
        have h1:=r2 t htk
        rw[ZrW,ZI ht] at h1
        exact C.asy _ _ (M.ub _ (Zrh ht)) (M.ua _ hzm) h1
       by_cases hk2:j-1-q2>0
       ·rw[if_pos hk2]
        have m3:=m2'.pushB M.sb (c:=q2) (by omega) (fun x hx y hy=>by
         obtain⟨t,htk,ht⟩:=V4 hy
         have h1:=r3 t htk.1 htk.2
         rw[ZrW,ZI ht] at h1
         exact C.takeLe M.ua M.sa hi2 hzl (M.ub _ (Zrh ht)) h1 x hx)
        rw[<- Uy] at m3
        by_cases e3:q2=1
        ·rw[if_pos (by simpa using e3)]
         exact wpS_pure (.inl ⟨_,rfl,MLo.hfB C M m3 e3 ⟨_,rfl⟩⟩)
        rw[if_neg (by simpa using e3)]
        by_cases e5:q2=0
        ·rw[if_pos (by simpa using e5)]
         exact wpS_pure (.inl ⟨_,rfl,M.hfA m3 (.inr e5) ⟨_,rfl⟩⟩)
        rw[if_neg (by simpa using e5)]
        have hj3:1<q2:=by omega
        have fz:=fz2
        refine wpS_bind (Zo hz ?_)
        have m4:=M.ha1 m3 hi2 hzl fz
        by_cases e4:q1-1=0
        ·rw[if_pos (by simpa using e4)]
         exact wpS_pure (.inl ⟨_,rfl,M.hfA m4 (.inl e4) ⟨_,rfl⟩⟩)
        ·rw[if_neg (by simpa using e4)]
         split
         ·exact wpS_pure (.inr ⟨rfl,⟨m4,by dsimp only;omega,hj3,_,rfl⟩,by dsimp only;omega⟩)
         ·exact wpS_pure ⟨rfl,⟨m4,by dsimp only;omega,hj3,_,rfl⟩,by dsimp only;omega⟩
       ·rw[if_neg hk2]
        have hq2:q2=j-1:=by omega
        subst hq2
        have m3:=m2'
        have hj3:1<j-1:=by omega
        have fz:=fz2
        refine wpS_bind (Zo hz ?_)
        have m4:=M.ha1 m3 hi2 hzl fz
        by_cases e4:q1-1=0
        ·rw[if_pos (by simpa using e4)]
         exact wpS_pure (.inl ⟨_,rfl,M.hfA m4 (.inl e4) ⟨_,rfl⟩⟩)
        ·rw[if_neg (by simpa using e4)]
         split
         ·exact wpS_pure (.inr ⟨rfl,⟨m4,by dsimp only;omega,hj3,_,rfl⟩,by dsimp only;omega⟩)
         ·exact wpS_pure ⟨rfl,⟨m4,by dsimp only;omega,hj3,_,rfl⟩,by dsimp only;omega⟩
      ·rw[if_neg hk1]
       have hq1:q1=i:=by omega
       subst hq1
       have m2:=m
       have hi2:0<q1:=hi
       have fb:=fb2
       refine wpS_bind (Zo hy ?_)
       have m2':=M.hb1 m2 (by omega) hyl fb
       by_cases e2:j-1=1
       ·rw[if_pos (by simpa using e2)]
        exact wpS_pure (.inl ⟨_,rfl,MLo.hfB C M m2' e2 ⟨_,rfl⟩⟩)
       rw[if_neg (by simpa using e2)]
       obtain⟨z,hz,hzl,hzm⟩:=Jw (show q1-1<a.size by omega)
       refine wpS_bind (Zo hz (wpS_bind (ZE C hk ((ZaT C M.ub M.sb (M.ua _ hzm) (fun y hy=>M.ok y hy _ hzm) (ZrI b.size)).le (show j-1<=b.size-0 by omega)) (by omega) fun q2 r1 r2 r3=>?_)))
       dsimp only
       have fz2:∀y∈b.toList.take q2,R z y=false:=fun y hy=>by
        obtain⟨t,htk,ht⟩:=Uf hy
        have h1:=r2 t htk
        rw[ZrW,ZI ht] at h1
        exact C.asy _ _ (M.ub _ (Zrh ht)) (M.ua _ hzm) h1
       by_cases hk2:j-1-q2>0
       ·rw[if_pos hk2]
        have m3:=m2'.pushB M.sb (c:=q2) (by omega) (fun x hx y hy=>by
         obtain⟨t,htk,ht⟩:=V4 hy
         have h1:=r3 t htk.1 htk.2
         rw[ZrW,ZI ht] at h1
         exact C.takeLe M.ua M.sa hi2 hzl (M.ub _ (Zrh ht)) h1 x hx)
        rw[<- Uy] at m3
        by_cases e3:q2=1
        ·rw[if_pos (by simpa using e3)]
         exact wpS_pure (.inl ⟨_,rfl,MLo.hfB C M m3 e3 ⟨_,rfl⟩⟩)
        rw[if_neg (by simpa using e3)]
        by_cases e5:q2=0
        ·rw[if_pos (by simpa using e5)]
         exact wpS_pure (.inl ⟨_,rfl,M.hfA m3 (.inr e5) ⟨_,rfl⟩⟩)
        rw[if_neg (by simpa using e5)]
        have hj3:1<q2:=by omega
        have fz:=fz2
        refine wpS_bind (Zo hz ?_)
        have m4:=M.ha1 m3 hi2 hzl fz
        by_cases e4:q1-1=0
        ·rw[if_pos (by simpa using e4)]
         exact wpS_pure (.inl ⟨_,rfl,M.hfA m4 (.inl e4) ⟨_,rfl⟩⟩)
        ·rw[if_neg (by simpa using e4)]
         split
         ·exact wpS_pure (.inr ⟨rfl,⟨m4,by dsimp only;omega,hj3,_,rfl⟩,by dsimp only;omega⟩)
         ·exact wpS_pure ⟨rfl,⟨m4,by dsimp only;omega,hj3,_,rfl⟩,by dsimp only;omega⟩
       ·rw[if_neg hk2]
        have hq2:q2=j-1:=by omega
        subst hq2
        have m3:=m2'
        have hj3:1<j-1:=by omega
        have fz:=fz2
        refine wpS_bind (Zo hz ?_)
        have m4:=M.ha1 m3 hi2 hzl fz
        by_cases e4:q1-1=0
        ·rw[if_pos (by simpa using e4)]
         exact wpS_pure (.inl ⟨_,rfl,M.hfA m4 (.inl e4) ⟨_,rfl⟩⟩)
        ·rw[if_neg (by simpa using e4)]
         split
         ·exact wpS_pure (.inr ⟨rfl,⟨m4,by dsimp only;omega,hj3,_,rfl⟩,by dsimp only;omega⟩)
         ·exact wpS_pure ⟨rfl,⟨m4,by dsimp only;omega,hj3,_,rfl⟩,by dsimp only;omega⟩
     ·rw[if_neg hg1]
      refine wpS_bind (Vy ?_)
      refine wpS_bind (Zo hy (wpS_bind (ZE C (show kindOf (Vk _ _)=κ from hk) ((Zgj C M.ua M.sa (M.ub _ hym) (M.ok _ hym) (ZrI a.size)).le (show i<=a.size-0 by omega)) (by omega) fun q1 p1 p2 p3=>?_)))
      dsimp only
      have fb2:∀z∈a.toList.take q1,R y z=false:=fun z hz=>by
       obtain⟨t,htk,ht⟩:=Uf hz
       have h1:=p2 t htk
       rw[ZrW,ZI ht] at h1
       simpa using h1
      by_cases hk1:i-q1>0
      ·rw[if_pos hk1]
       have m2:=m.pushA M.sa (c:=q1) (by omega) (fun x hx z hz=>by
        obtain⟨t,htk,ht⟩:=V4 hz
        have h1:=p3 t htk.1 htk.2
        rw[ZrW,ZI ht] at h1
        have uz:=M.ua z (Zrh ht)
        exact C.takeLe M.ub M.sb (by omega) hyl uz (C.asy _ _ (M.ub _ hym) uz (by simpa using h1)) x hx)
       rw[<- Uy] at m2
       by_cases e0:q1=0
       ·rw[if_pos (by simpa using e0)]
        exact wpS_pure (.inl ⟨_,rfl,M.hfA m2 (.inl e0) ⟨_,rfl⟩⟩)
       rw[if_neg (by simpa using e0)]
       have hi2:0<q1:=by omega
       have fb:=fb2
       refine wpS_bind (Zo hy ?_)
       have m2':=M.hb1 m2 (by omega) hyl fb
       by_cases e2:j-1=1
       ·rw[if_pos (by simpa using e2)]
        exact wpS_pure (.inl ⟨_,rfl,MLo.hfB C M m2' e2 ⟨_,rfl⟩⟩)
       rw[if_neg (by simpa using e2)]
       obtain⟨z,hz,hzl,hzm⟩:=Jw (show q1-1<a.size by omega)
       refine wpS_bind (Zo hz (wpS_bind (ZE C hk ((ZaT C M.ub M.sb (M.ua _ hzm) (fun y hy=>M.ok y hy _ hzm) (ZrI b.size)).le (show j-1<=b.size-0 by omega)) (by omega) fun q2 r1 r2 r3=>?_)))
       dsimp only
       have fz2:∀y∈b.toList.take q2,R z y=false:=fun y hy=>by
        obtain⟨t,htk,ht⟩:=Uf hy
        have h1:=r2 t htk
        rw[ZrW,ZI ht] at h1
        exact C.asy _ _ (M.ub _ (Zrh ht)) (M.ua _ hzm) h1
       by_cases hk2:j-1-q2>0
       ·rw[if_pos hk2]
        have m3:=m2'.pushB M.sb (c:=q2) (by omega) (fun x hx y hy=>by
         obtain⟨t,htk,ht⟩:=V4 hy
         have h1:=r3 t htk.1 htk.2
         rw[ZrW,ZI ht] at h1
         exact C.takeLe M.ua M.sa hi2 hzl (M.ub _ (Zrh ht)) h1 x hx)
        rw[<- Uy] at m3
        by_cases e3:q2=1
        ·rw[if_pos (by simpa using e3)]
         exact wpS_pure (.inl ⟨_,rfl,MLo.hfB C M m3 e3 ⟨_,rfl⟩⟩)
        rw[if_neg (by simpa using e3)]
        by_cases e5:q2=0
        ·rw[if_pos (by simpa using e5)]
         exact wpS_pure (.inl ⟨_,rfl,M.hfA m3 (.inr e5) ⟨_,rfl⟩⟩)
        rw[if_neg (by simpa using e5)]
        have hj3:1<q2:=by omega
        have fz:=fz2
        refine wpS_bind (Zo hz ?_)
        have m4:=M.ha1 m3 hi2 hzl fz
        by_cases e4:q1-1=0
        ·rw[if_pos (by simpa using e4)]
         exact wpS_pure (.inl ⟨_,rfl,M.hfA m4 (.inl e4) ⟨_,rfl⟩⟩)
        ·rw[if_neg (by simpa using e4)]
         split
         ·exact wpS_pure (.inr ⟨rfl,⟨m4,by dsimp only;omega,hj3,_,rfl⟩,by dsimp only;omega⟩)
         ·exact wpS_pure ⟨rfl,⟨m4,by dsimp only;omega,hj3,_,rfl⟩,by dsimp only;omega⟩
       ·rw[if_neg hk2]
        have hq2:q2=j-1:=by omega
        subst hq2
        have m3:=m2'
        have hj3:1<j-1:=by omega
        have fz:=fz2
        refine wpS_bind (Zo hz ?_)
        have m4:=M.ha1 m3 hi2 hzl fz
        by_cases e4:q1-1=0
        ·rw[if_pos (by simpa using e4)]
         exact wpS_pure (.inl ⟨_,rfl,M.hfA m4 (.inl e4) ⟨_,rfl⟩⟩)
        ·rw[if_neg (by simpa using e4)]
         split
         ·exact wpS_pure (.inr ⟨rfl,⟨m4,by dsimp only;omega,hj3,_,rfl⟩,by dsimp only;omega⟩)
         ·exact wpS_pure ⟨rfl,⟨m4,by dsimp only;omega,hj3,_,rfl⟩,by dsimp only;omega⟩
      ·rw[if_neg hk1]
       have hq1:q1=i:=by omega
       subst hq1
       have m2:=m
       have hi2:0<q1:=hi
       have fb:=fb2
       refine wpS_bind (Zo hy ?_)
       have m2':=M.hb1 m2 (by omega) hyl fb
       by_cases e2:j-1=1
       ·rw[if_pos (by simpa using e2)]
        exact wpS_pure (.inl ⟨_,rfl,MLo.hfB C M m2' e2 ⟨_,rfl⟩⟩)
       rw[if_neg (by simpa using e2)]
       obtain⟨z,hz,hzl,hzm⟩:=Jw (show q1-1<a.size by omega)
       refine wpS_bind (Zo hz (wpS_bind (ZE C hk ((ZaT C M.ub M.sb (M.ua _ hzm) (fun y hy=>M.ok y hy _ hzm) (ZrI b.size)).le (show j-1<=b.size-0 by omega)) (by omega) fun q2 r1 r2 r3=>?_)))
       dsimp only
       have fz2:∀y∈b.toList.take q2,R z y=false:=fun y hy=>by
        obtain⟨t,htk,ht⟩:=Uf hy
        have h1:=r2 t htk
        rw[ZrW,ZI ht] at h1
        exact C.asy _ _ (M.ub _ (Zrh ht)) (M.ua _ hzm) h1
       by_cases hk2:j-1-q2>0
       ·rw[if_pos hk2]
        have m3:=m2'.pushB M.sb (c:=q2) (by omega) (fun x hx y hy=>by
         obtain⟨t,htk,ht⟩:=V4 hy
         have h1:=r3 t htk.1 htk.2
         rw[ZrW,ZI ht] at h1
         exact C.takeLe M.ua M.sa hi2 hzl (M.ub _ (Zrh ht)) h1 x hx)
        rw[<- Uy] at m3
        by_cases e3:q2=1
        ·rw[if_pos (by simpa using e3)]
         exact wpS_pure (.inl ⟨_,rfl,MLo.hfB C M m3 e3 ⟨_,rfl⟩⟩)
        rw[if_neg (by simpa using e3)]
        by_cases e5:q2=0
        ·rw[if_pos (by simpa using e5)]
         exact wpS_pure (.inl ⟨_,rfl,M.hfA m3 (.inr e5) ⟨_,rfl⟩⟩)
        rw[if_neg (by simpa using e5)]
        have hj3:1<q2:=by omega
        have fz:=fz2
        refine wpS_bind (Zo hz ?_)
        have m4:=M.ha1 m3 hi2 hzl fz
        by_cases e4:q1-1=0
        ·rw[if_pos (by simpa using e4)]
         exact wpS_pure (.inl ⟨_,rfl,M.hfA m4 (.inl e4) ⟨_,rfl⟩⟩)
        ·rw[if_neg (by simpa using e4)]
         split
         ·exact wpS_pure (.inr ⟨rfl,⟨m4,by dsimp only;omega,hj3,_,rfl⟩,by dsimp only;omega⟩)
         ·exact wpS_pure ⟨rfl,⟨m4,by dsimp only;omega,hj3,_,rfl⟩,by dsimp only;omega⟩
       ·rw[if_neg hk2]
        have hq2:q2=j-1:=by omega
        subst hq2
        have m3:=m2'
        have hj3:1<j-1:=by omega
        have fz:=fz2
        refine wpS_bind (Zo hz ?_)
        have m4:=M.ha1 m3 hi2 hzl fz
        by_cases e4:q1-1=0
        ·rw[if_pos (by simpa using e4)]
         exact wpS_pure (.inl ⟨_,rfl,M.hfA m4 (.inl e4) ⟨_,rfl⟩⟩)
        ·rw[if_neg (by simpa using e4)]
         split
         ·exact wpS_pure (.inr ⟨rfl,⟨m4,by dsimp only;omega,hj3,_,rfl⟩,by dsimp only;omega⟩)
         ·exact wpS_pure ⟨rfl,⟨m4,by dsimp only;omega,hj3,_,rfl⟩,by dsimp only;omega⟩
end
theorem ZbV(i:Nat):mergeAt' i=(do
  let s <- get
  let (some (c,n,p),some (d,m,_)):=((pendingOf s)[i]?,(pendingOf s)[i+1]?)|unsupported "internal:list.sort.pending"
  set (setPending s (((pendingOf s).setIfInBounds i (c,n+m,p)).eraseIdxIfInBounds (i+1)))
  let some k <- Vw false (<- elem' (arrOf s) d) (arrOf s) c n 0|return false
  let (c,n):=(c+k,n-k)
  if n==0 then return true
  let some m <- Vw true (<- elem' (arrOf s) (c+n-1)) (arrOf s) d m (m-1)|return false
  if m==0 then return true
  let x:=(arrOf s).extract c d
  let y:=(arrOf s).extract d (d+m)
  let r <- if n<=m then Zao x y else Zap x y
  modify fun s=>setArr s (r.toList.zipIdx.foldl (fun a (p,j)=>a.setIfInBounds (c+j) p) (arrOf s))
  return (failedOf (<- get)).isNone):=rfl
section
variable {prog:Program}{w:World}{A:Around}{E:Value->Shared->Prop}{s:Shared}{κ:SortKind}{U:Keyed->Prop}{R:Keyed->Keyed->Bool}{Ok:Keyed->Keyed->Prop}
theorem Zcy:∀(r:List Keyed) (c:Nat) (X:Array Keyed) (n:Nat),c+n+r.length<=X.size->((r.zipIdx n).foldl (fun a (p:Keyed×Nat)=>a.setIfInBounds (c+p.2) p.1) X).toList=X.toList.take (c+n)++r++X.toList.drop (c+n+r.length)
 |[],c,X,n,h=>by simp
 |x::r,c,X,n,h=>by
  simp only[ZrF] at h
  rw[List.zipIdx_cons,Ztu]
  have ih:=Zcy r c (X.setIfInBounds (c+n) x) (n+1) (by rw[Array.size_setIfInBounds];omega)
  rw[ih,Ztm]
  have hl:c+n<X.toList.length:=by rw[Zrm];omega
  rw[show c+(n+1)=c+n+1 by omega]
  have e1:(X.toList.set (c+n) x).take (c+n+1)=X.toList.take (c+n)++[x]:=by
   rw[List.take_set,List.take_succ_eq_append_getElem hl,ZsZ _ _ (by rw[Zr9];omega)]
   rw[show c+n-(X.toList.take (c+n)).length=0 by rw[Zr9,Zrm];omega]
   rfl
  have e2:(X.toList.set (c+n) x).drop (c+n+1+r.length)=X.toList.drop (c+n+1+r.length):=List.drop_set_of_lt (by omega)
  rw[e1,e2]
  simp only[ZrF,Zrr,Zs9,ZsF,Zsm]
  rw[show c+n+(r.length+1)=c+n+1+r.length by omega]
theorem Ze0(C:Vj prog w A s κ U R Ok)(left:Bool){X:Array Keyed}{key:Keyed}{c n:Nat}{P:List Keyed}(hP:∀t,t<n->X[c+t]?=P[t]?)(hn:P.length=n)(ul:∀y∈P,U y)(hs:Srt R P)(uk:U key)(okk:∀y∈P,if left=true then Ok y key else Ok key y) :
  U9 U R Ok left key X c n (fun t=>if left=true then R (P.getD t (.none,.none)) key else !R key (P.getD t (.none,.none))):=by
 have get:∀t,t<n->P[t]?=some (P.getD t (.none,.none)):=fun t ht=>by
  rw[Zrf,Zri (by omega)];rfl
 refine⟨uk,fun t ht=>⟨_,by rw[hP t ht,get t ht],ul _ (Zrh (get t ht)),okk _ (Zrh (get t ht)),rfl⟩,fun t u htu hu h=>?_⟩
 have hu':=get u hu
 have ht':=get t (by omega)
 have h2:=Srt.le C ul hs htu ht' hu'
 have u1:=ul _ (Zrh ht')
 have u2:=ul _ (Zrh hu')
 cases left with
 |false =>
  have h:(!R key (P.getD u (.none,.none)))=true:=h
  show (!R key (P.getD t (.none,.none)))=true
  rw[C.tr _ _ key u1 u2 uk h2 (by simpa using h)];rfl
 |true =>
  have h:R (P.getD u (.none,.none)) key=true:=h
  show R (P.getD t (.none,.none)) key=true
  cases hc:R (P.getD t (.none,.none)) key with
  |true=>rfl
  |false=>rw[C.tr key _ _ uk u1 u2 hc h2] at h;cases h
theorem Zig{σ:Type}{M:Model}{v:σ}{Q:PUnit->σ->Prop}{st:σ}(h:Q ⟨⟩ v):wpS M A E s (set v:StateT σ Sem PUnit) Q st:=by
 unfold wpS;rw[StateT.run_set];exact wpAny_pure ⟨rfl,h⟩
theorem Zb6(C:Vj prog w A s κ U R Ok){st:SortSt}{i c n p d m p2:Nat}{pre P Y post:List Keyed}{Q:Bool->SortSt->Prop}(hk:kindOf st=κ)(hf:failedOf st=none)(h1:(pendingOf st)[i]?=some (c,n,p))(h2:(pendingOf st)[i+1]?=some (d,m,p2))(hX:(arrOf st).toList=pre++(P++(Y++post)))(lp:pre.length=c)(lP:P.length=n)(lY:Y.length=m)(hd:d=c+n)(n0:0<n)(m0:0<m)(uP:∀x∈P,U x)(uY:∀x∈Y,U x)(sP:Srt R P)(sY:Srt R Y)(oPY:∀y∈Y,∀x∈P,Ok y x)(h:∀st' W,kindOf st'=κ->failedOf st'=none->pendingOf st'=((pendingOf st).setIfInBounds i (c,n+m,p)).eraseIdxIfInBounds (i+1)->(arrOf st').toList=pre++(W++post)->Srt R W->W.Perm (P++Y)->Q true st') :
  wpS (model prog w) A E s (mergeAt' i) Q st:=by
 rw[ZbV]
 refine wpS_bind (wpS_get ?_)
 rw[h1,h2]
 dsimp only
 have size0:(arrOf st).size=c+(n+(m+post.length)):=by
  have:=congrArg List.length hX
  rw[Zrm] at this
  rw[this];simp[lp,lP,lY]
 have gP:∀t,t<n->(arrOf st)[c+t]?=P[t]?:=fun t ht=>by
  rw[<- Zrv,hX,Zrs (by omega),lp,show c+t-c=t by omega,Zrw (by omega)]
 have gY:∀t,t<m->(arrOf st)[d+t]?=Y[t]?:=fun t ht=>by
  rw[<- Zrv,hX,Zrs (by omega),lp,Zrs (by omega),lP,show d+t-c-n=t by omega,Zrw (by omega)]
 refine wpS_bind (Zig ?_)
 have y0l:Y[0]?=some (Y.getD 0 (.none,.none)):=by rw[Zrf,Zri (by omega)];rfl
 generalize Y.getD 0 (.none,.none)=y0 at y0l
 have uy0:=uY y0 (Zrh y0l)
 refine wpS_bind (Zo (x:=y0) (by have:=gY 0 m0;rw[Ztw] at this;rw[this,y0l]) (wpS_bind (ZE C (show kindOf (setPending st _)=κ from hk) (Ze0 C false gP lP uP sP uy0 (fun x hx=>by rw[if_neg (by decide)];exact oPY _ (Zrh y0l) x hx)) n0 fun k p1 p2 p3=>?_)))
 dsimp only at p2 p3 ⊢
 have gd:∀{l:List Keyed}{t:Nat}{x:Keyed},l[t]?=some x->l.getD t (.none,.none)=x:=fun {l t x} h=>by rw[Zrf,h];rfl
 have pk:∀x∈P.take k,R y0 x=false:=fun x hx=>by
  obtain⟨t,ht,hx⟩:=Uf hx
  have:=p2 t ht
  rw[gd hx] at this
  simpa using this
 have pk2:∀t x,k<=t->P[t]?=some x->R y0 x=true:=fun t x ht hx=>by
  have hl:=(Zrg.mp hx).1
  have:=p3 t ht (by omega)
  rw[gd hx] at this
  simpa using this
 by_cases e1:n-k=0
 ·rw[if_pos (by simpa using e1)]
  refine wpS_pure (h _ (P++Y) hk hf rfl (by rw[hX,Zrr]) (Zrx.mpr ⟨sP,sY,fun x hx y hy=>?_⟩) (List.Perm.refl _))
  have:=C.dropLe uY sY y0l (uP x hx) (pk x (by rw[ZrO (by omega)];exact hx))
  rw[ZsE] at this
  exact this y hy
 rw[if_neg (by simpa using e1)]
 have ll:P[n-1]?=some (P.getD (n-1) (.none,.none)):=by rw[Zrf,Zri (by omega)];rfl
 generalize P.getD (n-1) (.none,.none)=l at ll
 have ul:=uP l (Zrh ll)
 refine wpS_bind (Zo (x:=l) (by have:=gP (n-1) (by omega);rw[show c+k+(n-k)-1=c+(n-1) by omega,this,ll]) (wpS_bind (ZE C (show kindOf (setPending st _)=κ from hk) (Ze0 C true gY lY uY sY ul (fun x hx=>by rw[if_pos rfl];exact oPY x hx _ (Zrh ll))) (by omega) fun k2 r1 r2 r3=>?_)))
 dsimp only at r2 r3 ⊢
 have yk:∀x∈Y.take k2,R x l=true:=fun x hx=>by
  obtain⟨t,ht,hx⟩:=Uf hx
  have:=r2 t ht
  rw[gd hx] at this
  simpa using this
 have yk2:∀x∈Y.drop k2,R x l=false:=fun x hx=>by
  obtain⟨t,hx⟩:=J1 hx
  have hl:=(Zrg.mp hx).1
  have:=r3 (k2+t) (by omega) (by omega)
  rw[gd hx] at this
  simpa using this
 have pl:∀v,U v->R v l=false->∀x∈P,R v x=false:=fun v uv hv x hx=>C.takeLe uP sP n0 ll uv hv x (by rw[ZrO (by omega)];exact hx)
 by_cases e2:k2=0
 ·rw[if_pos (by simpa using e2)]
  subst e2
  rw[ZsE] at yk2
  exact wpS_pure (h _ (P++Y) hk hf rfl (by rw[hX,Zrr]) (Zrx.mpr ⟨sP,sY,fun x hx y hy=>pl y (uY y hy) (yk2 y hy) x hx⟩) (List.Perm.refl _))
 rw[if_neg (by simpa using e2)]
 have ex:((arrOf st).extract (c+k) d).toList=P.drop k:=by
  refine ZrX fun t=>?_
  rw[Zss,ZrV,ZrE,ZrG,ZrG,Zrv]
  by_cases ht:t<d-(c+k)
  ·rw[if_pos ht,show c+k+t=c+(k+t) by omega,gP (k+t) (by omega)]
  ·rw[if_neg ht,Zr3 (by omega)]
 have ey:((arrOf st).extract d (d+k2)).toList=Y.take k2:=by
  refine ZrX fun t=>?_
  rw[Zss,ZrV,ZrE,ZrG,ZrE,Zrv]
  by_cases ht:t<k2
  ·rw[if_pos (by omega),if_pos ht,gY t (by omega)]
  ·rw[if_neg (by omega),if_neg ht]
 have sx:((arrOf st).extract (c+k) d).size=n-k:=by
  have:=congrArg List.length ex
  rw[Zrm,Zso] at this
  omega
 have sy:((arrOf st).extract d (d+k2)).size=k2:=by
  have:=congrArg List.length ey
  rw[Zrm,Zr9] at this
  omega
 have MM:MLo U R Ok ((arrOf st).extract (c+k) d) ((arrOf st).extract d (d+k2)):=by
  refine⟨?_, ?_, ?_, ?_, ?_,by omega,by omega,fun x y hx hy=>?_,fun x hx y hy=>?_⟩
  ·rw[ex];exact fun x hx=>uP x (ZrQ hx)
  ·rw[ey];exact fun x hx=>uY x (ZrP hx)
  ·rw[ex,ey];exact fun x hx y hy=>oPY x (ZrP hx) y (ZrQ hy)
  ·rw[ex];exact sP.drop k
  ·rw[ey];exact sY.take k2
  ·rw[ey,ZrE,if_pos (by omega),y0l] at hx
   cases hx
   rw[ex,ZrG,Ztw] at hy
   exact C.asy _ _ uy0 (uP y (Zrh hy)) (pk2 k y (Zrl _) hy)
  ·rw[ey] at hx
   rw[ex,ZrG,sx,show k+(n-k-1)=n-1 by omega,ll] at hy
   cases hy
   exact C.asy _ _ (uY x (ZrP hx)) ul (yk x hx)
 have fin:∀r st2,U6 R ((arrOf st).extract (c+k) d) ((arrOf st).extract d (d+k2)) (setPending st (((pendingOf st).setIfInBounds i (c,n+m,p)).eraseIdxIfInBounds (i+1))) r st2 ->
   wpS (model prog w) A E s (do
    modify fun s=>setArr s (r.toList.zipIdx.foldl (fun a (p,j)=>a.setIfInBounds (c+k+j) p) (arrOf s))
    return (failedOf (<- get)).isNone) Q st2:=by
  rintro r st2 ⟨q1,q2,g,rfl⟩
  rw[ex,ey] at q2
  have lr:r.toList.length=n-k+k2:=by
   rw[q2.length_eq,ZrT,Zso,Zr9];omega
  refine wpS_bind (wpS_modify (wpS_bind (wpS_get (wpS_pure ?_))))
  show Q ((failedOf st).isNone) _
  rw[hf]
  have hw:=Zcy r.toList (c+k) (arrOf st) 0 (by omega)
  have memr:∀x∈r.toList,(x∈P.drop k\/x∈Y.take k2):=fun x hx=>Zro.mp (q2.mem_iff.mp hx)
  refine h _ (P.take k++(r.toList++Y.drop k2)) hk hf rfl ?_ ?_ ?_
  ·show (r.toList.zipIdx.foldl (fun a (p:Keyed×Nat)=>a.setIfInBounds (c+k+p.2) p.1) (arrOf st)).toList=_
   rw[hw,Ztw,hX,lr]
   have d1:(pre++(P++(Y++post))).take (c+k)=pre++P.take k:=by
    rw[List.take_append,ZrO (by omega),lp,show c+k-c=k by omega,List.take_append_of_le_length (by omega)]
   have d2:(pre++(P++(Y++post))).drop (c+k+(n-k+k2))=Y.drop k2++post:=by
    rw[List.drop_append,Zs4 (by omega),Zsm,lp,List.drop_append,Zs4 (by omega),Zsm,lP,List.drop_append_of_le_length (by omega)]
    congr 2
    omega
   rw[d1,d2]
   simp only[Zrr]
  ·refine Zrx.mpr ⟨sP.take k,Zrx.mpr ⟨q1,sY.drop k2,fun x hx y hy=>?_⟩,fun x hx y hy=>?_⟩
   ·rcases memr x hx with z|z
    ·exact pl y (uY y (ZrQ hy)) (yk2 y hy) x (ZrQ z)
    ·have sd:=sY
     rw[<- Zr2 k2 Y] at sd
     exact(Zrx.mp sd).2.2 x z y hy
   ·have ux:=uP x (ZrP hx)
    have hyY:∀y∈Y,R y x=false:=fun y hy=>by
     have:=C.dropLe uY sY y0l ux (pk x hx)
     rw[ZsE] at this
     exact this y hy
    rcases Zro.mp hy with z|z
    ·rcases memr y z with z|z
     ·have sd:=sP
      rw[<- Zr2 k P] at sd
      exact(Zrx.mp sd).2.2 x hx y z
     ·exact hyY y (ZrP z)
    ·exact hyY y (ZrQ z)
  ·have p1:(P.take k++(r.toList++Y.drop k2)).Perm (P.take k++((P.drop k++Y.take k2)++Y.drop k2)):=List.Perm.append_left _ (q2.append_right _)
   refine p1.trans ?_
   rw[Zrr,Zr2,<- Zrr,Zr2]
 by_cases e3:n-k<=k2
 ·rw[if_pos e3]
  exact wpS_bind (Zb4 C (show kindOf (setPending st _)=κ from hk) MM fin)
 ·rw[if_neg e3]
  exact wpS_bind (Zb5 C (show kindOf (setPending st _)=κ from hk) MM fin)
end
noncomputable def gA(X:Array Keyed)(i:Nat):Keyed:=X.getD i (.none,.none)
theorem VG{X:Array Keyed}{i:Nat}(h:i<X.size):X[i]?=some (gA X i):=by simp[gA,Array.getD,h]
theorem ZdD{X:Array Keyed}{i:Nat}{x:Keyed}(h:X[i]?=some x):gA X i=x:=by
 have hi:i<X.size:=by
  rcases Nat.lt_or_ge i X.size with z|z
  ·exact z
  ·rw[Zs5 z] at h;cases h
 rw[VG hi] at h;exact Option.some.inj h
theorem JN{X Y:Array Keyed}{i j:Nat}(h:X[i]?=Y[j]?):gA X i=gA Y j:=by
 simp only[gA,Array.getD_eq_getD_getElem?,h]
def Up(R:Keyed->Keyed->Bool)(X:Array Keyed)(lo m:Nat):Prop:=∀i j,i<j->j<m->R (gA X (lo+j)) (gA X (lo+i))=false
def Dn'(R:Keyed->Keyed->Bool)(X:Array Keyed)(lo m:Nat):Prop:=∀i j,i<j->j<m->R (gA X (lo+i)) (gA X (lo+j))=false
structure JS(X Y:Array Keyed)(lo m:Nat):Prop where
 perm:Y.Perm X
 out:∀k,k<lo\/lo+m<=k->Y[k]?=X[k]?
theorem JS.refl(X:Array Keyed)(lo m:Nat):JS X X lo m:=⟨Array.Perm.refl _,fun _ _=>rfl⟩
theorem JS.size{X Y:Array Keyed}{lo m:Nat}(h:JS X Y lo m):Y.size=X.size:=h.perm.size_eq
theorem JS.trans{X Y Z:Array Keyed}{lo m:Nat}(h:JS X Y lo m)(g:JS Y Z lo m):JS X Z lo m:=⟨g.perm.trans h.perm,fun k hk=>(g.out k hk).trans (h.out k hk)⟩
theorem JS.wide{X Y:Array Keyed}{lo lo' m m':Nat}(h:JS X Y lo' m')(h1:lo<=lo')(h2:lo'+m'<=lo+m):JS X Y lo m:=⟨h.perm,fun k hk=>h.out k (by omega)⟩
theorem JS.back{X Y:Array Keyed}{lo m q:Nat}(h:JS X Y lo m)(h1:lo<=q)(h2:q<lo+m)(hq:q<Y.size):∃q',lo<=q'/\q'<lo+m/\q'<X.size/\gA Y q=gA X q':=by
 have hs:=h.size
 have eX:X.toList=X.toList.take lo++((X.toList.drop lo).take m++(X.toList.drop lo).drop m):=by rw[Zr2,Zr2]
 have eY:Y.toList=Y.toList.take lo++((Y.toList.drop lo).take m++(Y.toList.drop lo).drop m):=by rw[Zr2,Zr2]
 have t1:Y.toList.take lo=X.toList.take lo:=by
  refine ZrX fun i=>?_
  rw[ZrE,ZrE]
  split
  ·rw[Zrv,Zrv];exact h.out i (.inl (by omega))
  ·rfl
 have t2:(Y.toList.drop lo).drop m=(X.toList.drop lo).drop m:=by
  refine ZrX fun i=>?_
  rw[List.drop_drop,List.drop_drop,ZrG,ZrG,Zrv,Zrv]
  exact h.out _ (.inr (by omega))
 have p:Y.toList.Perm X.toList:=h.perm.toList
 rw[eX,eY,t1,t2,List.perm_append_left_iff,List.perm_append_right_iff] at p
 have hm:gA Y q∈(Y.toList.drop lo).take m:=by
  refine Zrh (i:=q-lo) ?_
  rw[ZrE,if_pos (by omega),ZrG,show lo+(q-lo)=q by omega,Zrv]
  exact VG hq
 obtain⟨t,ht⟩:=Zr4 (p.mem_iff.mp hm)
 rw[ZrE] at ht
 split at ht
 ·rename_i c
  rw[ZrG,Zrv] at ht
  have hl:lo+t<X.size:=by
   rcases Nat.lt_or_ge (lo+t) X.size with z|z
   ·exact z
   ·rw[Zs5 z] at ht;cases ht
  exact⟨lo+t,by omega,by omega,hl,(ZdD ht).symm⟩
 ·cases ht
def Sep(Ok:Keyed->Keyed->Prop)(X:Array Keyed)(e:Nat):Prop:=∀p q,p<e->e<=q->q<X.size->Ok (gA X q) (gA X p)
theorem JS.place{X Y:Array Keyed}{lo m q:Nat}(h:JS X Y lo m)(hq:q<Y.size):∃q',q'<X.size/\gA Y q=gA X q'/\∀e,e<=lo\/lo+m<=e->(e<=q ↔ e<=q'):=by
 by_cases c:lo<=q/\q<lo+m
 ·obtain⟨q',a,b,d,e⟩:=h.back c.1 c.2 hq
  exact⟨q',d,e,fun e he=>by omega⟩
 ·exact⟨q,by rw[<- h.size];exact hq,JN (h.out q (by omega)),fun _ _=>Iff.rfl⟩
theorem JS.sep{Ok:Keyed->Keyed->Prop}{X Y:Array Keyed}{lo m e:Nat}(h:JS X Y lo m)(he:e<=lo\/lo+m<=e)(hX:Sep Ok X e):Sep Ok Y e:=fun p q hp hq hs=>by
 obtain⟨q',a1,a2,a3⟩:=h.place hs
 obtain⟨p',b1,b2,b3⟩:=h.place (q:=p) (by omega)
 rw[a2,b2]
 have:=b3 e he
 exact hX p' q' (by omega) ((a3 e he).mp hq) a1
section
variable {prog:Program}{w:World}{A:Around}{E:Value->Shared->Prop}{s:Shared}{κ:SortKind}{U:Keyed->Prop}{R:Keyed->Keyed->Bool}{Ok:Keyed->Keyed->Prop}
def Zcw(U:Keyed->Prop)(X:Array Keyed):Prop:=∀i,i<X.size->U (gA X i)
theorem Zcw.stir{X Y:Array Keyed}{lo m:Nat}(h:Zcw U X)(t:JS X Y lo m):Zcw U Y:=fun i hi=>by
 have hm:gA Y i∈Y:=by
  have:=VG hi
  exact Array.mem_of_getElem? this
 obtain⟨j,hj⟩:=Array.getElem?_of_mem ((Array.Perm.mem_iff t.perm).mp hm)
 have hjs:j<X.size:=by
  rcases Nat.lt_or_ge j X.size with z|z
  ·exact z
  ·rw[Zs5 z] at hj;cases hj
 rw[<- ZdD hj]
 exact h j hjs
theorem Ux(C:Vj prog w A s κ U R Ok){st:SortSt}{i j:Nat}{Q:Option Bool->SortSt->Prop}(hk:kindOf st=κ)(hU:Zcw U (arrOf st))(hi:i<(arrOf st).size)(hj:j<(arrOf st).size)(ok:Ok (gA (arrOf st) i) (gA (arrOf st) j))(h:Q (some (R (gA (arrOf st) i) (gA (arrOf st) j))) st) :
  wpS (model prog w) A E s (ltAt' i j) Q st:=by
 rw[ltAt'_eq]
 refine wpS_bind (wpS_get ?_)
 exact wpS_bind (Zo (VG hi) (wpS_bind (Zo (VG hj) (UR C hk (hU i hi) (hU j hj) ok h))))
theorem Up.more(C:Vj prog w A s κ U R Ok){X:Array Keyed}{lo n:Nat}(hU:Zcw U X)(hs:lo+n<X.size)(h:Up R X lo n)(hl:n=0\/R (gA X (lo+n)) (gA X (lo+n-1))=false):Up R X lo (n+1):=fun i j hij hj=>by
 by_cases e:j<n
 ·exact h i j hij e
 ·obtain rfl:j=n:=by omega
  rcases hl with hl|hl
  ·omega
  ·by_cases e2:i=j-1
   ·subst e2;rw[show lo+(j-1)=lo+j-1 by omega];exact hl
   ·have h2:=h i (j-1) (by omega) (by omega)
    rw[show lo+(j-1)=lo+j-1 by omega] at h2
    exact C.tr _ _ _ (hU _ (by omega)) (hU _ (by omega)) (hU _ (by omega)) h2 hl
theorem Zih(C:Vj prog w A s κ U R Ok){st:SortSt}{lo n ok:Nat}{Q:Bool->SortSt->Prop}(hk:kindOf st=κ)(hU:Zcw U (arrOf st))(hn:lo+n<=(arrOf st).size)(hok:ok<=n)(n1:1<=n)(hs:Up R (arrOf st) lo ok)(hO:∀e,lo+ok<=e->Sep Ok (arrOf st) e)(h:∀Y,JS (arrOf st) Y lo n->Up R Y lo n->Q true (setArr st Y)):wpS (model prog w) A E s (binarySort' lo n ok) Q st:=by
 rw[binarySort'_eq]
 refine wpS_bind (wpS_mono (wpS_forRange
  (I:=fun k (c:Option Bool×Unit) (st':SortSt)=>c.1=none/\∃Y,st'=setArr st Y/\JS (arrOf st) Y lo k/\Up R Y lo k)
  (Q:=fun(c:Option Bool×Unit) (st':SortSt)=>c.1=none/\∃Y,st'=setArr st Y/\JS (arrOf st) Y lo n/\Up R Y lo n) ?step ?fin ?ini) ?post)
 case ini =>
  refine⟨rfl,arrOf st,rfl,JS.refl _ _ _,fun i j hij hj=>?_⟩
  by_cases e:1<=ok
  ·exact hs i j hij (by omega)
  ·omega
 case fin =>
  rintro⟨o,u⟩ st' ⟨h1,Y,h2,h3,h4⟩
  exact⟨h1,Y,h2,h3.wide (Zrl _) (by omega),fun i j hij hj=>h4 i j hij (by omega)⟩
 case post =>
  rintro⟨o,u⟩ st' ⟨h1,Y,rfl,h3,h4⟩
  dsimp only at h1
  subst h1
  exact wpS_pure (h Y h3 h4)
 case step =>
  rintro k ⟨o,u⟩ st' hk1 hk2 ⟨h1,Y,rfl,h3,h4⟩
  dsimp only at h1
  subst h1
  have hYU:=hU.stir h3
  have hYs:=h3.size
  refine wpS_bind (wpS_mono (wpS_forRange
   (I:=fun x (c:Option Bool×Nat×Nat) (st':SortSt)=>c.1=none/\st'=setArr st Y/\c.2.1<=c.2.2/\c.2.2<=k/\(∀i,i<c.2.1->R (gA Y (lo+k)) (gA Y (lo+i))=false)/\(∀i,c.2.2<=i->i<k->R (gA Y (lo+k)) (gA Y (lo+i))=true)/\c.2.2-c.2.1<=k-x)
   (Q:=fun(c:Option Bool×Nat×Nat) (st':SortSt)=>c.1=none/\st'=setArr st Y/\c.2.1=c.2.2/\c.2.2<=k/\(∀i,i<c.2.1->R (gA Y (lo+k)) (gA Y (lo+i))=false)/\(∀i,c.2.2<=i->i<k->R (gA Y (lo+k)) (gA Y (lo+i))=true)) ?step1 ?fin1
   ⟨rfl,rfl,ZrI _,Zrl _,fun i hi=>absurd hi (Nat.not_lt_zero _),fun i h1 h2=>absurd h1 (by dsimp only;omega),by dsimp only;omega⟩) ?post1)
  case fin1 =>
   rintro⟨o,l,r⟩ st' ⟨rfl,q0,q1,q2,q3,q4,q5⟩
   dsimp only at q1 q2 q3 q4 q5 ⊢
   exact⟨rfl,q0,by omega,q2,q3,q4⟩
  case step1 =>
   rintro x ⟨o,l,r⟩ st' _ hx ⟨rfl,rfl,q1,q2,q3,q4,q5⟩
   dsimp only at q1 q2 q3 q4 q5 ⊢
   by_cases hlr:l ≥ r
   ·rw[if_pos hlr]
    exact wpS_pure ⟨rfl,rfl,by dsimp only;omega,q2,q3,q4⟩
   ·rw[if_neg hlr]
    refine wpS_bind (Ux C (show kindOf (setArr st Y)=κ from hk) hYU (show lo+k<Y.size by omega) (show lo+(l+r)/2<Y.size by omega) (h3.sep (.inr (Zrl _)) (hO (lo+k) (by omega)) _ _ (by omega) (Zrl _) (by omega)) ?_)
    dsimp only
    show wpS _ _ _ _ (if R (gA Y (lo+k)) (gA Y (lo+(l+r)/2))=true then _ else _) _ _
    cases hm:R (gA Y (lo+k)) (gA Y (lo+(l+r)/2)) with
    |true =>
     rw[if_pos rfl]
     refine wpS_pure ⟨rfl,rfl,by dsimp only;omega,by dsimp only;omega,q3,fun i i1 i2=>?_,by dsimp only;omega⟩
     dsimp only at i1
     by_cases e:i=(l+r)/2
     ·subst e;exact hm
     ·cases hc:R (gA Y (lo+k)) (gA Y (lo+i)) with
      |true=>rfl
      |false =>
       have:=h4 ((l+r)/2) i (by omega) i2
       rw[C.tr _ _ _ (hYU _ (by omega)) (hYU _ (by omega)) (hYU _ (by omega)) this hc] at hm
       cases hm
    |false =>
     rw[if_neg (by decide)]
     refine wpS_pure ⟨rfl,rfl,by dsimp only;omega,q2,fun i i1=>?_,q4,by dsimp only;omega⟩
     dsimp only at i1
     by_cases e:i=(l+r)/2
     ·subst e;exact hm
     ·have:=h4 i ((l+r)/2) (by omega) (by omega)
      exact C.tr _ _ _ (hYU _ (by omega)) (hYU _ (by omega)) (hYU _ (by omega)) this hm
  case post1 =>
   rintro⟨o,l,r⟩ st' ⟨rfl,rfl,q1,q2,q3,q4⟩
   dsimp only at q1 q2 q3 q4 ⊢
   subst q1
   rw[moveDown'_eq]
   refine wpS_bind (wpS_modify (wpS_pure ⟨rfl,bubble Y (lo+k) (lo+k-(lo+l)),rfl, ?_, ?_⟩))
   ·refine(h3.wide (Zrl _) (by omega)).trans ⟨bubble_perm _ _ _,fun t ht=>?_⟩
    rw[getElem?_bubble (show lo+k<Y.size by omega) _ (by omega),if_neg (by omega),if_neg (by omega)]
   ·have bg:∀t,t<=k->gA (bubble Y (lo+k) (lo+k-(lo+l))) (lo+t)=if t=l then gA Y (lo+k) else if l<t then gA Y (lo+t-1) else gA Y (lo+t):=fun t ht=>by
     have e:=getElem?_bubble (show lo+k<Y.size by omega) (lo+k-(lo+l)) (by omega) (lo+t)
     by_cases e1:t=l
     ·rw[if_pos e1];rw[if_pos (by omega)] at e;exact JN e
     ·rw[if_neg e1];rw[if_neg (by omega)] at e
      by_cases e2:l<t
      ·rw[if_pos e2];rw[if_pos (by omega)] at e;exact JN e
      ·rw[if_neg e2];rw[if_neg (by omega)] at e;exact JN e
    intro i j hij hj
    rw[bg i (by omega),bg j (by omega)]
    by_cases a1:j=l
    ·rw[if_pos a1,if_neg (by omega),if_neg (by omega)]
     exact q3 i (by omega)
    ·rw[if_neg a1]
     by_cases a2:l<j
     ·rw[if_pos a2]
      by_cases b1:i=l
      ·rw[if_pos b1,show lo+j-1=lo+(j-1) by omega]
       exact C.asy _ _ (hYU _ (by omega)) (hYU _ (by omega)) (q4 (j-1) (by omega) (by omega))
      ·rw[if_neg b1]
       by_cases b2:l<i
       ·rw[if_pos b2,show lo+j-1=lo+(j-1) by omega,show lo+i-1=lo+(i-1) by omega]
        exact h4 (i-1) (j-1) (by omega) (by omega)
       ·rw[if_neg b2,show lo+j-1=lo+(j-1) by omega]
        exact h4 i (j-1) (by omega) (by omega)
     ·rw[if_neg a2,if_neg (by omega),if_neg (by omega)]
      exact h4 i j hij (by omega)
variable {R0:Keyed->Keyed->Bool}
noncomputable abbrev mir(X:Array Keyed)(i j:Nat):Array Keyed:=mirror X i j ((j-i)/2)
theorem Zab{st:SortSt}{i j:Nat}{Q:Unit->SortSt->Prop}(h:Q () (setArr st (mir (arrOf st) i j))):wpS (model prog w) A E s (reverseSlice' i j) Q st:=by
 rw[reverseSlice'_eq];exact wpS_modify h
theorem Zan{X:Array Keyed}{i j:Nat}(hij:i<=j)(hj:j<=X.size):JS X (mir X i j) i (j-i):=
 ⟨mirror_perm _ _ _ _,fun k hk=>by rw[getElem?_mirror_all hj,if_neg (by omega)]⟩
theorem Ue{X:Array Keyed}{i j k:Nat}(hj:j<=X.size)(h1:i<=k)(h2:k<j):gA (mir X i j) k=gA X (i+j-1-k):=by
 refine JN ?_
 rw[getElem?_mirror_all hj,if_pos ⟨h1,h2⟩]
theorem Qi{X:Array Keyed}{i j k:Nat}(hj:j<=X.size)(h:k<i\/j<=k):gA (mir X i j) k=gA X k:=by
 refine JN ?_
 rw[getElem?_mirror_all hj,if_neg (by omega)]
def Eqv(R:Keyed->Keyed->Bool)(X:Array Keyed)(lo a b:Nat):Prop:=∀i j,a<=i->i<b->a<=j->j<b->R (gA X (lo+i)) (gA X (lo+j))=false
theorem Dn'.up{X:Array Keyed}{lo n:Nat}(hs:lo+n<=X.size)(h:Dn' R X lo n):Up R (mir X lo (lo+n)) lo n:=fun i j hij hj=>by
 rw[Ue hs (by omega) (by omega),Ue hs (by omega) (by omega),show lo+(lo+n)-1-(lo+j)=lo+(n-1-j) by omega,show lo+(lo+n)-1-(lo+i)=lo+(n-1-i) by omega]
 exact h _ _ (by omega) (by omega)
structure Zli(R0 R:Keyed->Keyed->Bool)(Ok:Keyed->Keyed->Prop):Prop where
 up:∀x y,R0 x y=true->R x y=true
 ok:∀x y,Ok x y->R x y=R0 x y
structure Fal(R0 R:Keyed->Keyed->Bool)(X Y:Array Keyed)(lo q k:Nat):Prop where
 t:JS X Y lo q
 d:Dn' R Y lo q
 e:Eqv R0 Y lo q k
 st:∀i j,i<q->q<=j->j<k->R0 (gA Y (lo+j)) (gA Y (lo+i))=true
 qk:q<k
theorem Fal.turn(C:Vj prog w A s κ U R Ok)(L:Zli R0 R Ok){X Y:Array Keyed}{lo q k n:Nat}(F:Fal R0 R X Y lo q k)(hU:Zcw U X)(hs:lo+k<=X.size)(hO:∀e,lo+n<=e->Sep Ok X e)(hq:n<=q) :
  JS X (mir Y (lo+q) (lo+k)) lo k/\Dn' R (mir Y (lo+q) (lo+k)) lo k:=by
 have sz:=F.t.size
 have uY:=hU.stir F.t
 have qk:=F.qk
 have hsY:lo+k<=Y.size:=by omega
 refine⟨(F.t.wide (Zrl _) (by omega)).trans ((Zan (by omega) hsY).wide (by omega) (by omega)),fun i j hij hj=>?_⟩
 by_cases a:i<q
 ·rw[Qi hsY (.inl (by omega))]
  by_cases b:j<q
  ·rw[Qi hsY (.inl (by omega))]
   exact F.d i j hij b
  ·rw[Ue hsY (by omega) (by omega),show lo+q+(lo+k)-1-(lo+j)=lo+(q+k-1-j) by omega]
   exact C.asy _ _ (uY _ (by omega)) (uY _ (by omega)) (L.up _ _ (F.st i (q+k-1-j) a (by omega) (by omega)))
 ·rw[Ue hsY (by omega) (by omega),Ue hsY (by omega) (by omega),show lo+q+(lo+k)-1-(lo+j)=lo+(q+k-1-j) by omega,show lo+q+(lo+k)-1-(lo+i)=lo+(q+k-1-i) by omega]
  have ok:=F.t.sep (e:=lo+(q+k-1-i)) (.inr (by omega)) (hO _ (by omega)) (lo+(q+k-1-j)) (lo+(q+k-1-i)) (by omega) (Zrl _) (by omega)
  rw[L.ok _ _ ok]
  exact F.e _ _ (by omega) (by omega) (by omega) (by omega)
theorem Fal.plain(C:Vj prog w A s κ U R Ok)(L:Zli R0 R Ok){X Y:Array Keyed}{lo q:Nat}(F:Fal R0 R X Y lo q (q+1))(hU:Zcw U X)(hs:lo+(q+1)<=X.size):JS X Y lo (q+1)/\Dn' R Y lo (q+1):=by
 have sz:=F.t.size
 have uY:=hU.stir F.t
 refine⟨F.t.wide (Zrl _) (by omega),fun i j hij hj=>?_⟩
 by_cases b:j<q
 ·exact F.d i j hij b
 ·exact C.asy _ _ (uY _ (by omega)) (uY _ (by omega)) (L.up _ _ (F.st i j (by omega) (by omega) hj))
theorem Fal.above(C0:Vj prog w A s κ U R0 (fun _ _=>True)){X Y:Array Keyed}{lo q k:Nat}(F:Fal R0 R X Y lo q k)(hU:Zcw U X)(hs:lo+k<=X.size)(i:Nat)(hi:i<k):R0 (gA Y (lo+i)) (gA Y (lo+(k-1)))=false:=by
 have sz:=F.t.size
 have uY:=hU.stir F.t
 have qk:=F.qk
 by_cases a:i<q
 ·exact C0.asy _ _ (uY _ (by omega)) (uY _ (by omega)) (F.st i (k-1) a (by omega) (by omega))
 ·exact F.e i (k-1) (by omega) hi (by omega) (by omega)
theorem ZhJ(C0:Vj prog w A s κ U R0 (fun _ _=>True)){x y z:Keyed}(ux:U x)(uy:U y)(uz:U z)(h1:R0 x y=true)(h2:R0 z y=false):R0 x z=true:=by
 cases h:R0 x z with
 |true=>rfl
 |false=>rw[C0.tr y z x uy uz ux h2 h] at h1;cases h1
theorem Zhv(C:Vj prog w A s κ U R Ok){st:SortSt}{X Z:Array Keyed}{lo n N:Nat}{Q:Option Nat->SortSt->Prop}(hk:kindOf st=κ)(hU:Zcw U X)(hn:lo+N<=X.size)(n1:1<=n)(nN:n<=N)(hO:∀e,lo+n<=e->Sep Ok X e)(t:JS X Z lo n)(d:Dn' R Z lo n)(h:∀m Y,n<=m->m<=N->JS X Y lo m->Up R Y lo m->Q (some m) (setArr st Y)) :
  wpS (model prog w) A E s (do
   let mut n:=n
   reverseSlice' lo (lo+n)
   for _ in [n:N] do
    let some smaller <- ltAt' (lo+n) (lo+n-1)|return none
    if smaller then break
    n:=n+1
   return some n:StateT SortSt Sem (Option Nat)) Q (setArr st Z):=by
 have sZ:=t.size
 refine wpS_bind (Zab ?_)
 have t3:JS X (mir Z lo (lo+n)) lo n:=t.trans ((Zan (by omega) (by omega)).wide (Zrl _) (by omega))
 have u3:Up R (mir Z lo (lo+n)) lo n:=d.up (by omega)
 show wpS _ _ _ _ _ _ (setArr st (mir Z lo (lo+n)))
 generalize mir Z lo (lo+n)=Y at t3 u3
 have sz3:=t3.size
 have uY:=hU.stir t3
 refine wpS_bind (wpS_mono (wpS_forRange
  (I:=fun x (c:Option (Option Nat)×Nat) (st':SortSt)=>c.1=none/\st'=setArr st Y/\c.2=x/\Up R Y lo x)
  (Q:=fun(c:Option (Option Nat)×Nat) (st':SortSt)=>c.1=none/\st'=setArr st Y/\(n<=c.2/\c.2<=N)/\Up R Y lo c.2) ?_ ?_ ⟨rfl,rfl,rfl,u3⟩) ?_)
 ·rintro x ⟨o,k⟩ st' hx1 hx2 ⟨rfl,rfl,h3,h4⟩
  dsimp only at h3 ⊢
  subst h3
  refine wpS_bind (Ux C (show kindOf (setArr st Y)=κ from hk) uY (show lo+k<Y.size by omega) (show lo+k-1<Y.size by omega) (t3.sep (e:=lo+k) (.inr (by omega)) (hO _ (by omega)) _ _ (by omega) (Zrl _) (by omega)) ?_)
  dsimp only
  show wpS _ _ _ _ (if R (gA Y (lo+k)) (gA Y (lo+k-1))=true then _ else _) _ _
  cases hR:R (gA Y (lo+k)) (gA Y (lo+k-1)) with
  |true =>
   rw[if_pos rfl]
   exact wpS_pure ⟨rfl,rfl,⟨hx1,by dsimp only;omega⟩,h4⟩
  |false =>
   rw[if_neg (by decide)]
   exact wpS_pure ⟨rfl,rfl,rfl,h4.more C uY (by omega) (.inr hR)⟩
 ·rintro⟨o,k⟩ st' ⟨h1,h2,h3,h4⟩
  dsimp only at h3 ⊢
  subst h3
  exact⟨h1,h2,by omega,h4⟩
 ·rintro⟨o,k⟩ st' ⟨rfl,rfl,h3,h4⟩
  dsimp only at h3 h4 ⊢
  exact wpS_pure (h k Y h3.1 h3.2 (t3.wide (Zrl _) (by omega)) h4)
theorem Zcz(C:Vj prog w A s κ U R Ok)(C0:Vj prog w A s κ U R0 (fun _ _=>True))(L:Zli R0 R Ok){st:SortSt}{X:Array Keyed}{lo n N:Nat}{Q:Option Nat->SortSt->Prop}(hk:kindOf st=κ)(hU:Zcw U X)(hn:lo+N<=X.size)(n1:1<=n)(nN:n<N)(hO:∀e,lo+n<=e->Sep Ok X e)(d1:Dn' R X lo n)(s1:∀i,i<n->R0 (gA X (lo+n)) (gA X (lo+i))=true)(h:∀m Y,n<=m->m<=N->JS X Y lo m->Up R Y lo m->Q (some m) (setArr st Y)) :
  wpS (model prog w) A E s (do
   rule "list.sort.descending-run"
   let mut n:=n+1
   let mut neq:=0
   for _ in [n:N] do
    let some smaller <- ltAt' (lo+n) (lo+n-1)|return none
    if smaller then
     if neq>0 then reverseSlice' (lo+n-(neq+1)) (lo+n)
     neq:=0
    else
     let some larger <- ltAt' (lo+n-1) (lo+n)|return none
     if larger then break
     neq:=neq+1
    n:=n+1
   if neq>0 then reverseSlice' (lo+n-(neq+1)) (lo+n)
   reverseSlice' lo (lo+n)
   for _ in [n:N] do
    let some smaller <- ltAt' (lo+n) (lo+n-1)|return none
    if smaller then break
    n:=n+1
   return some n:StateT SortSt Sem (Option Nat)) Q (setArr st X):=by
 refine wpS_bind (wpS_lift (wpAny_rule ⟨rfl, ?_⟩))
 have irr:∀{x:Keyed},U x->R0 x x=false:=fun {x} u=>by
  cases h:R0 x x with
  |false=>rfl
  |true=>have:=C0.asy x x u u h;rw[h] at this;cases this
 refine wpS_bind (wpS_mono (wpS_forRange
  (I:=fun x (c:Option (Option Nat)×Nat×Nat) (st':SortSt)=>c.1=none/\c.2.1=x/\c.2.2<x/\∃Y,st'=setArr st Y/\Fal R0 R X Y lo (x-1-c.2.2) x/\n<=x-1-c.2.2)
  (Q:=fun(c:Option (Option Nat)×Nat×Nat) (st':SortSt)=>c.1=none/\(n+1<=c.2.1/\c.2.1<=N)/\c.2.2<c.2.1/\∃Y,st'=setArr st Y/\Fal R0 R X Y lo (c.2.1-1-c.2.2) c.2.1/\n<=c.2.1-1-c.2.2) ?_ ?_
  ⟨rfl,rfl,Nat.succ_pos _,X,rfl,⟨(JS.refl _ _ _),d1,fun i j i1 i2 j1 j2=>?_,fun i j i1 j1 j2=>?_, ?_⟩, ?_⟩) ?_)
 ·rintro x ⟨o,k,e⟩ st' hx1 hx2 ⟨rfl,h3,he,Y,rfl,F,hq⟩
  dsimp only at h3 he F hq ⊢
  subst h3
  have szY:=F.t.size
  have uY:=hU.stir F.t
  have kN:k<N:=by omega
  have i1:lo+k<Y.size:=by omega
  have i2:lo+k-1<Y.size:=by omega
  have ek:lo+(k-1)=lo+k-1:=by omega
  refine wpS_bind (Ux C0 (show kindOf (setArr st Y)=κ from hk) uY i1 i2 trivial ?_)
  dsimp only
  show wpS _ _ _ _ (if R0 (gA Y (lo+k)) (gA Y (lo+k-1))=true then _ else _) _ _
  have nxt:∀Z,JS X Z lo k->Dn' R Z lo k->(∀i,i<k->R0 (gA Z (lo+k)) (gA Z (lo+i))=true)->Fal R0 R X Z lo (k+1-1-0) (k+1):=fun Z t d a=>by
   rw[show k+1-1-0=k by omega]
   have uZ:=hU.stir t
   have sZ:=t.size
   refine⟨t,d,fun i j a1 a2 b1 b2=>?_,fun i j a1 b1 b2=>?_,Zta _⟩
   ·obtain rfl:i=k:=by omega
    obtain rfl:j=i:=by omega
    exact irr (uZ _ (by omega))
   ·obtain rfl:j=k:=by omega
    exact a i a1
  cases hR:R0 (gA Y (lo+k)) (gA Y (lo+k-1)) with
  |true =>
   rw[if_pos rfl]
   have low:∀i,i<k->R0 (gA Y (lo+k)) (gA Y (lo+i))=true:=fun i hi=>by
    have:=F.above C0 hU (by omega) i hi
    rw[ek] at this
    exact ZhJ C0 (uY _ i1) (uY _ i2) (uY _ (by omega)) hR this
   by_cases he0:e>0
   ·rw[if_pos he0]
    obtain⟨t2,d2⟩:=F.turn C L hU (by omega) hO hq
    rw[show lo+(k-1-e)=lo+k-(e+1) by omega] at t2 d2
    refine wpS_bind (Zab (wpS_pure ⟨rfl,rfl,Nat.succ_pos _,mir Y (lo+k-(e+1)) (lo+k),rfl,nxt _ t2 d2 fun i hi=>?_, ?_⟩))
    ·have hsY:lo+k<=Y.size:=by omega
     rw[Qi hsY (.inr (Zrl _))]
     by_cases a:lo+i<lo+k-(e+1)
     ·rw[Qi hsY (.inl a)];exact low i hi
     ·rw[Ue hsY (by omega) (by omega),show lo+k-(e+1)+(lo+k)-1-(lo+i)=lo+(k-(e+1)+k-1-i) by omega]
      exact low _ (by omega)
    ·dsimp only;omega
   ·rw[if_neg he0]
    obtain rfl:e=0:=by omega
    have F':Fal R0 R X Y lo (k-1) (k-1+1):=by
     rw[show k-1+1=k by omega];exact F
    obtain⟨t2,d2⟩:=F'.plain C L hU (by omega)
    rw[show k-1+1=k by omega] at t2 d2
    exact wpS_pure ⟨rfl,rfl,Nat.succ_pos _,Y,rfl,nxt _ t2 d2 low,by dsimp only;omega⟩
  |false =>
   rw[if_neg (by decide)]
   refine wpS_bind (Ux C0 (show kindOf (setArr st Y)=κ from hk) uY i2 i1 trivial ?_)
   dsimp only
   show wpS _ _ _ _ (if R0 (gA Y (lo+k-1)) (gA Y (lo+k))=true then _ else _) _ _
   cases hL:R0 (gA Y (lo+k-1)) (gA Y (lo+k)) with
   |true =>
    rw[if_pos rfl]
    exact wpS_pure ⟨rfl,⟨by dsimp only;omega,by dsimp only;omega⟩,he,Y,rfl,F,hq⟩
   |false =>
    rw[if_neg (by decide)]
    refine wpS_pure ⟨rfl,rfl,Nat.succ_lt_succ he,Y,rfl, ?_, ?_⟩
    ·dsimp only
     rw[show k+1-1-(e+1)=k-1-e by omega]
     have qk:=F.qk
     have bd:∀q,q<k->U (gA Y (lo+q)):=fun q hq=>uY _ (by omega)
     have gr:∀q,k-1-e<=q->q<k->R0 (gA Y (lo+q)) (gA Y (lo+k))=false/\R0 (gA Y (lo+k)) (gA Y (lo+q))=false:=fun q q1 q2=>by
      have z1:=F.e q (k-1) q1 q2 (by omega) (by omega)
      have z2:=F.e (k-1) q (by omega) (by omega) q1 q2
      rw[ek] at z1 z2
      exact⟨C0.tr _ _ _ (uY _ i1) (uY _ i2) (bd q q2) hL z1,C0.tr _ _ _ (bd q q2) (uY _ i2) (uY _ i1) z2 hR⟩
     refine⟨F.t,F.d,fun i j a1 a2 b1 b2=>?_,fun i j a1 b1 b2=>?_,by omega⟩
     ·by_cases a:i<k
      ·by_cases b:j<k
       ·exact F.e i j a1 a b1 b
       ·obtain rfl:j=k:=by omega
        exact(gr i a1 a).1
      ·obtain rfl:i=k:=by omega
       by_cases b:j<i
       ·exact(gr j b1 b).2
       ·obtain rfl:j=i:=by omega
        exact irr (uY _ i1)
     ·by_cases b:j<k
      ·exact F.st i j a1 b1 b
      ·obtain rfl:j=k:=by omega
       have z:=F.st i (j-1) a1 (by omega) (by omega)
       rw[ek] at z
       cases hc:R0 (gA Y (lo+j)) (gA Y (lo+i)) with
       |true=>rfl
       |false=>rw[C0.tr _ _ _ (bd i (by omega)) (uY _ i1) (uY _ i2) hc hL] at z;cases z
    ·dsimp only;omega
 ·rintro⟨o,k,e⟩ st' ⟨h1,h3,he,Y,h4,F,hq⟩
  dsimp only at h3 he F hq ⊢
  subst h3
  rw[show max (n+1) N=N by omega] at *
  exact⟨h1,⟨by omega,Zrl _⟩,he,Y,h4,F,hq⟩
 ·dsimp only at i1 j1
  obtain rfl:i=n:=by omega
  obtain rfl:j=i:=by omega
  exact irr (hU _ (by omega))
 ·dsimp only at i1 j1
  obtain rfl:j=n:=by omega
  exact s1 i (by omega)
 ·dsimp only;omega
 ·dsimp only;omega
 ·rintro⟨o,n2,e⟩ st' ⟨rfl,hn2,he,Y,rfl,F,hq⟩
  dsimp only at hn2 he F hq ⊢
  have hO2:∀e,lo+n2<=e->Sep Ok X e:=fun e h=>hO e (by omega)
  by_cases he0:e>0
  ·rw[if_pos he0]
   refine wpS_bind (Zab ?_)
   obtain⟨t2,d2⟩:=F.turn C L hU (by omega) hO hq
   rw[show lo+(n2-1-e)=lo+n2-(e+1) by omega] at t2 d2
   exact Zhv C hk hU hn (by omega) hn2.2 hO2 t2 d2 fun m Y a b=>h m Y (by omega) b
  ·rw[if_neg he0]
   obtain rfl:e=0:=by omega
   have F':Fal R0 R X Y lo (n2-1) (n2-1+1):=by
    rw[show n2-1+1=n2 by omega];exact F
   obtain⟨t2,d2⟩:=F'.plain C L hU (by omega)
   rw[show n2-1+1=n2 by omega] at t2 d2
   exact Zhv C hk hU hn (by omega) hn2.2 hO2 t2 d2 fun m Y a b=>h m Y (by omega) b
theorem ZdS(C:Vj prog w A s κ U R Ok)(C0:Vj prog w A s κ U R0 (fun _ _=>True))(L:Zli R0 R Ok){st:SortSt}{lo N:Nat}{Q:Option Nat->SortSt->Prop}(hk:kindOf st=κ)(hU:Zcw U (arrOf st))(hn:lo+N<=(arrOf st).size)(n1:1<=N)(hO:∀e,lo<e->Sep Ok (arrOf st) e)(h:∀m Y,1<=m->m<=N->JS (arrOf st) Y lo m->Up R Y lo m->Q (some m) (setArr st Y)):wpS (model prog w) A E s (countRun' lo N) Q st:=by
 rw[countRun'_eq]
 refine wpS_bind (wpS_mono (wpS_forRange
  (I:=fun x (c:Option (Option Nat)×Nat) (st':SortSt)=>c.1=none/\st'=st/\c.2=x/\Up R (arrOf st) lo x)
  (Q:=fun(c:Option (Option Nat)×Nat) (st':SortSt)=>c.1=none/\st'=st/\(1<=c.2/\c.2<=N)/\Up R (arrOf st) lo c.2/\(c.2=N\/R (gA (arrOf st) (lo+c.2)) (gA (arrOf st) (lo+c.2-1))=true)) ?step ?fin ⟨rfl,rfl,rfl,fun i j hij hj=>by omega⟩) ?post)
 case fin =>
  rintro⟨o,n⟩ st' ⟨h1,h2,h3,h4⟩
  dsimp only at h1 h3 ⊢
  subst h3
  exact⟨h1,h2,by omega,h4,.inl (by omega)⟩
 case step =>
  rintro x ⟨o,n⟩ st' hx1 hx2 ⟨rfl,rfl,h3,h4⟩
  dsimp only at h3 ⊢
  subst h3
  refine wpS_bind (Ux C hk hU (show lo+n<_ by omega) (show lo+n-1<_ by omega) (hO (lo+n) (by omega) _ _ (by omega) (Zrl _) (by omega)) ?_)
  dsimp only
  cases hR:R (gA (arrOf st') (lo+n)) (gA (arrOf st') (lo+n-1)) with
  |true =>
   rw[if_pos rfl]
   exact wpS_pure ⟨rfl,rfl,by dsimp only;omega,h4,.inr hR⟩
  |false =>
   rw[if_neg (by decide)]
   exact wpS_pure ⟨rfl,rfl,rfl,h4.more C hU (by omega) (.inr hR)⟩
 case post =>
  rintro⟨o,n⟩ st' ⟨h1,h2,h3,h4,h5⟩
  have h2:=h2.symm
  subst h2
  dsimp only at h1 h3 h4 h5 ⊢
  subst h1
  dsimp only
  by_cases e1:n=N
  ·rw[if_pos (by simpa using e1)]
   exact wpS_pure (h n (arrOf st) h3.1 h3.2 (JS.refl _ _ _) h4)
  rw[if_neg (by simpa using e1)]
  have h5:=h5.resolve_left e1
  have bn:lo+n<(arrOf st).size:=by omega
  have bn1:lo+n-1<(arrOf st).size:=by omega
  have en:lo+(n-1)=lo+n-1:=by omega
  rw[L.ok _ _ (hO (lo+n) (by omega) (lo+n-1) _ (by omega) (Zrl _) bn)] at h5
  have u:∀q,q<n->U (gA (arrOf st) (lo+q)):=fun q hq=>hU _ (by omega)
  have un:=hU _ bn
  have un1:U (gA (arrOf st) (lo+n-1)):=hU _ bn1
  by_cases e2:n>1
  ·rw[if_pos e2]
   refine wpS_bind (Ux C0 hk hU (show lo<_ by omega) bn1 trivial ?_)
   dsimp only
   cases hR:R0 (gA (arrOf st) lo) (gA (arrOf st) (lo+n-1)) with
   |true =>
    rw[if_pos rfl]
    exact wpS_pure (h n (arrOf st) h3.1 h3.2 (JS.refl _ _ _) h4)
   |false =>
    rw[if_neg (by decide)]
    refine wpS_bind (Zab ?_)
    have u0:Up R0 (arrOf st) lo n:=fun i j hij hj=>by
     cases hc:R0 (gA (arrOf st) (lo+j)) (gA (arrOf st) (lo+i)) with
     |false=>rfl
     |true=>have:=L.up _ _ hc;rw[h4 i j hij hj] at this;cases this
    have irr:∀{x:Keyed},U x->R0 x x=false:=fun {x} u=>by
     cases h:R0 x x with
     |false=>rfl
     |true=>have:=C0.asy x x u u h;rw[h] at this;cases this
    have ul:U (gA (arrOf st) lo):=u 0 (by omega)
    have le1:∀q,q<n->R0 (gA (arrOf st) (lo+q)) (gA (arrOf st) lo)=false/\R0 (gA (arrOf st) (lo+n-1)) (gA (arrOf st) (lo+q))=false:=fun q hq=>by
     refine⟨?_, ?_⟩
     ·by_cases z:q=0
      ·subst z;exact irr ul
      ·exact u0 0 q (by omega) hq
     ·by_cases z:q=n-1
      ·subst z;rw[en];exact irr un1
      ·have:=u0 q (n-1) (by omega) (by omega);rw[en] at this;exact this
    have eq1:∀i j,i<n->j<n->R0 (gA (arrOf st) (lo+i)) (gA (arrOf st) (lo+j))=false:=fun i j hi hj=>C0.tr _ _ _ (u j hj) ul (u i hi) (C0.tr _ _ _ (u j hj) un1 ul (le1 j hj).2 hR) (le1 i hi).1
    have t0:JS (arrOf st) (mir (arrOf st) lo (lo+n)) lo n:=(Zan (by omega) (by omega)).wide (Zrl _) (by omega)
    have hs:lo+n<=(arrOf st).size:=by omega
    have d0:Dn' R (mir (arrOf st) lo (lo+n)) lo n:=fun i j hij hj=>by
     rw[Ue hs (by omega) (by omega),Ue hs (by omega) (by omega),show lo+(lo+n)-1-(lo+j)=lo+(n-1-j) by omega,show lo+(lo+n)-1-(lo+i)=lo+(n-1-i) by omega]
     rw[L.ok _ _ (hO (lo+(n-1-i)) (by omega) (lo+(n-1-j)) _ (by omega) (Zrl _) (by omega))]
     exact eq1 _ _ (by omega) (by omega)
    have s0:∀i,i<n->R0 (gA (mir (arrOf st) lo (lo+n)) (lo+n)) (gA (mir (arrOf st) lo (lo+n)) (lo+i))=true:=fun i hi=>by
     rw[Qi hs (.inr (Zrl _)),Ue hs (by omega) (by omega),show lo+(lo+n)-1-(lo+i)=lo+(n-1-i) by omega]
     refine ZhJ C0 un un1 (u _ (by omega)) h5 ?_
     rw[<- en]
     exact eq1 _ _ (by omega) (by omega)
    exact Zcz C C0 L hk (hU.stir t0) (by rw[t0.size];exact hn) h3.1 (by omega) (fun e he=>t0.sep (.inr he) (hO e (by omega))) d0 s0 fun m Y a b c d=>h m Y (by omega) b ((t0.wide (Zrl _) (by omega)).trans c) d
  ·rw[if_neg e2]
   obtain rfl:n=1:=by omega
   show wpS _ _ _ _ _ _ (setArr st (arrOf st))
   refine Zcz C C0 L hk hU hn (Zrl _) (by omega) (fun e he=>hO e (by omega)) (fun i j hij hj=>by omega) (fun i hi=>?_) fun m Y a b c d=>h m Y a b c d
   obtain rfl:i=0:=by omega
   rw[show lo+1-1=lo+0 by omega] at h5
   exact h5
end
noncomputable abbrev ZdQ:=Nat×Nat×Nat
def UpS(R:Keyed->Keyed->Bool)(Ok:Keyed->Keyed->Prop)(X:Array Keyed)(c n:Nat):Prop:=Up R X c n/\Sep Ok X c
noncomputable def Vm(R:Keyed->Keyed->Bool)(Ok:Keyed->Keyed->Prop)(X:Array Keyed):Nat->List ZdQ->Nat->Prop
 |s,[],e=>s=e
 |s,(c,n,_)::r,e=>c=s/\0<n/\UpS R Ok X c n/\Vm R Ok X (s+n) r e
section
variable {prog:Program}{w:World}{A:Around}{E:Value->Shared->Prop}{s:Shared}{κ:SortKind}{U:Keyed->Prop}{R:Keyed->Keyed->Bool}{Ok:Keyed->Keyed->Prop}
theorem Vm.le{X:Array Keyed}:∀{L:List ZdQ}{a e:Nat},Vm R Ok X a L e->a+L.length<=e
 |[],a,e,h=>by have h:a=e:=h;simp[h]
 |(c,n,p)::L,a,e,h=>by
  obtain⟨_,h1,_,h2⟩:=h
  have:=Vm.le h2
  simp only[ZrF];omega
theorem Vm.app{X:Array Keyed}:∀{L M:List ZdQ}{a e:Nat},Vm R Ok X a (L++M) e ↔ ∃q,Vm R Ok X a L q/\Vm R Ok X q M e
 |[],M,a,e=>⟨fun h=>⟨a,rfl,h⟩,fun⟨q,h1,h2⟩=>by have h1:a=q:=h1;subst h1;exact h2⟩
 |(c,n,p)::L,M,a,e=>by
  show (c=a/\0<n/\UpS R Ok X c n/\Vm R Ok X (a+n) (L++M) e) ↔ ∃q,(c=a/\0<n/\UpS R Ok X c n/\Vm R Ok X (a+n) L q)/\Vm R Ok X q M e
  constructor
  ·rintro⟨h1,h2,h3,h4⟩
   obtain⟨q,q1,q2⟩:=Vm.app.mp h4
   exact⟨q,⟨h1,h2,h3,q1⟩,q2⟩
  ·rintro⟨q,⟨h1,h2,h3,h4⟩,q2⟩
   exact⟨h1,h2,h3,Vm.app.mpr ⟨q,h4,q2⟩⟩
theorem Up.stir{X Y:Array Keyed}{lo m c n:Nat}(h:Up R X c n)(t:JS X Y lo m)(d:c+n<=lo\/lo+m<=c):Up R Y c n:=fun i j hij hj=>by
 rw[JN (t.out (c+j) (by omega)),JN (t.out (c+i) (by omega))]
 exact h i j hij hj
theorem UpS.stir{X Y:Array Keyed}{lo m c n:Nat}(h:UpS R Ok X c n)(t:JS X Y lo m)(d:c+n<=lo\/lo+m<=c):UpS R Ok Y c n:=⟨h.1.stir t d,t.sep (by omega) h.2⟩
theorem Vm.stir{X Y:Array Keyed}{lo m:Nat}(t:JS X Y lo m):∀{L:List ZdQ}{a e:Nat},Vm R Ok X a L e->(e<=lo\/lo+m<=a)->Vm R Ok Y a L e
 |[],a,e,h,_=>h
 |(c,n,p)::L,a,e,h,d=>by
  obtain⟨h1,h2,h3,h4⟩:=h
  have:=Vm.le h4
  exact⟨h1,h2,h3.stir t (by omega),Vm.stir t h4 (by omega)⟩
theorem Up.srt{X:Array Keyed}{c n:Nat}(h:Up R X c n)(hs:c+n<=X.size):Srt R ((X.toList.drop c).take n):=by
 refine Zsh.mpr fun i j hi hj hij=>?_
 have hi':i<n:=by rw[Zr9] at hi;omega
 have hj':j<n:=by rw[Zr9] at hj;omega
 have e:∀t,t<n->∀ht,((X.toList.drop c).take n)[t]'ht=gA X (c+t):=fun t htn ht=>by
  have h1:((X.toList.drop c).take n)[t]?=some (gA X (c+t)):=by
   rw[ZrE,if_pos htn,ZrG,Zrv,VG (by omega)]
  rw[Zri ht] at h1
  exact Option.some.inj h1
 rw[e i hi' hi,e j hj' hj]
 exact h i j hij hj'
theorem Srt.up{X:Array Keyed}{c n:Nat}{pre W post:List Keyed}(hX:X.toList=pre++(W++post))(lp:pre.length=c)(lW:W.length=n)(h:Srt R W):Up R X c n:=fun i j hij hj=>by
 have g:∀t (ht:t<n),gA X (c+t)=W[t]'(by omega):=fun t ht=>by
  refine ZdD ?_
  rw[<- Zrv,hX,Zrs (by omega),lp,show c+t-c=t by omega,Zrw (by omega),Zri (by omega)]
 rw[g i (by omega),g j hj]
 exact Zsh.mp h i j (by omega) (by omega) hij
theorem Zgf{L M:List ZdQ}{a b c:ZdQ}{P:Array ZdQ}(h:P.toList=L++a::b::M):(((P.setIfInBounds L.length c).eraseIdxIfInBounds (L.length+1))).toList=L++c::M:=by
 have hz:L.length+1<(P.setIfInBounds L.length c).size:=by
  have:=congrArg List.length h
  rw[Zrm] at this
  rw[Array.size_setIfInBounds,this];simp
 rw[Array.eraseIdxIfInBounds,dif_pos hz,Array.toList_eraseIdx,Ztm,h]
 rw[ZsZ _ _ (Zrl _),Nat.sub_self,List.set_cons_zero,List.eraseIdx_append_of_length_le (by omega),show L.length+1-L.length=1 by omega]
 rfl
theorem ZaB(C:Vj prog w A s κ U R Ok){st:SortSt}{L M:List ZdQ}{c n p d m p2 e:Nat}{Q:Bool->SortSt->Prop}(hk:kindOf st=κ)(hf:failedOf st=none)(hU:Zcw U (arrOf st))(hp:(pendingOf st).toList=L++(c,n,p)::(d,m,p2)::M)(hr:Vm R Ok (arrOf st) 0 (pendingOf st).toList e)(he:e<=(arrOf st).size)(h:∀st',kindOf st'=κ->failedOf st'=none->(pendingOf st').toList=L++(c,n+m,p)::M->JS (arrOf st) (arrOf st') c (n+m)->c+n+m<=e->Vm R Ok (arrOf st') 0 (pendingOf st').toList e->Q true st') :
  wpS (model prog w) A E s (mergeAt' L.length) Q st:=by
 rw[hp] at hr
 obtain⟨q,r1,r2⟩:=Vm.app.mp hr
 obtain⟨rfl,n0,u1,rfl,m0,u2,r3⟩:=r2
 have le3:=Vm.le r3
 have hsz:c+n+m<=(arrOf st).size:=by omega
 have sp:(arrOf st).toList=(arrOf st).toList.take c++(((arrOf st).toList.drop c).take n++(((arrOf st).toList.drop (c+n)).take m++(arrOf st).toList.drop (c+n+m))):=by
  rw[V7,V7,Zr2]
 have lt:(arrOf st).toList.length=(arrOf st).size:=Zrm
 have inU:∀x∈(arrOf st).toList,U x:=fun x hx=>by
  obtain⟨i,hi⟩:=Zr4 hx
  have hl:=(Zrg.mp hi).1
  rw[Zrv] at hi
  rw[<- ZdD hi]
  exact hU i (by omega)
 have i1:(pendingOf st)[L.length]?=some (c,n,p):=by
  rw[<- Zrv,hp,Zrs (Zrl _),Nat.sub_self];rfl
 have i2:(pendingOf st)[L.length+1]?=some (c+n,m,p2):=by
  rw[<- Zrv,hp,Zrs (by omega),show L.length+1-L.length=1 by omega];rfl
 refine Zb6 C hk hf i1 i2 sp (by rw[Zr9];omega) (by rw[Zr9,Zso];omega) (by rw[Zr9,Zso];omega) rfl n0 m0
  (fun x hx=>inU x (ZrQ (ZrP hx))) (fun x hx=>inU x (ZrQ (ZrP hx))) (u1.1.srt (by omega)) (u2.1.srt (by omega)) (fun y hy x hx=>?ok) fun st' W k1 k2 k3 k4 k5 k6=>?main
 case ok =>
  obtain⟨i,hi⟩:=Zr4 hy
  obtain⟨j,hj⟩:=Zr4 hx
  rw[ZrE] at hi hj
  split at hi
  ·split at hj
   ·rename_i ci cj
    rw[ZrG,Zrv] at hi hj
    rw[<- ZdD hi,<- ZdD hj]
    exact u2.2 _ _ (by omega) (by omega) (by omega)
   ·cases hj
  ·cases hi
 have lW:W.length=n+m:=by rw[k6.length_eq,ZrT,Zr9,Zr9,Zso,Zso];omega
 have lpre:((arrOf st).toList.take c).length=c:=by rw[Zr9];omega
 have hst:JS (arrOf st) (arrOf st') c (n+m):=by
  refine⟨?_,fun k hk'=>?_⟩
  ·refine ZsC.mpr ?_
   rw[k4]
   conv=>rhs;rw[sp]
   refine List.Perm.append_left _ ?_
   rw[<- Zrr]
   exact k6.append_right _
  ·rw[<- Zrv,<- Zrv,k4]
   rcases hk' with z|z
   ·rw[Zrw (by omega),ZrE,if_pos z]
   ·rw[Zrs (by omega),lpre,Zrs (by omega),lW,ZrG]
    congr 1;omega
 have kp:(pendingOf st').toList=L++(c,n+m,p)::M:=by rw[k3];exact Zgf hp
 refine h st' k1 k2 kp hst (by omega) ?_
 rw[kp]
 refine Vm.app.mpr ⟨c,r1.stir hst (.inl (Zrl _)),rfl,by omega,⟨Srt.up k4 lpre lW k5,hst.sep (.inl (Zrl _)) u1.2⟩, ?_⟩
 rw[<- Nat.add_assoc]
 exact r3.stir hst (.inr (by omega))
variable {R0:Keyed->Keyed->Bool}
structure RSt(κ:SortKind)(U:Keyed->Prop)(R:Keyed->Keyed->Bool)(Ok:Keyed->Keyed->Prop)(X:Array Keyed)(lo hi:Nat)(st':SortSt):Prop where
 kd:kindOf st'=κ
 fl:failedOf st'=none
 pm:(arrOf st').Perm X
 us:Zcw U (arrOf st')
 rn:Vm R Ok (arrOf st') 0 (pendingOf st').toList lo
 le:lo<=X.size
 lh:lo<=hi
 sp:∀e,e=lo\/hi<=e->Sep Ok (arrOf st') e
theorem RSt.sz{X:Array Keyed}{lo hi:Nat}{st':SortSt}(h:RSt κ U R Ok X lo hi st'):(arrOf st').size=X.size:=h.pm.size_eq
theorem Vm.mod{X:Array Keyed}{f:ZdQ->ZdQ}(hf:∀c n p,∃p',f (c,n,p)=(c,n,p')):∀{L:List ZdQ}{a e:Nat},Vm R Ok X a L e->∀i,Vm R Ok X a (L.modify i f) e
 |[],a,e,h,i=>by simpa using h
 |(c,n,p)::L,a,e,h,0=>by
  obtain⟨p',hp'⟩:=hf c n p
  rw[List.modify_zero_cons,hp']
  exact h
 |(c,n,p)::L,a,e,h,i+1=>by
  rw[List.modify_succ_cons]
  exact⟨h.1,h.2.1,h.2.2.1,Vm.mod hf h.2.2.2 i⟩
theorem ZjO{L:List ZdQ}{i:Nat}(h:i+1<L.length):∃A a b B,L=A++a::b::B/\A.length=i:=by
 refine⟨L.take i,L[i],L[i+1],L.drop (i+2), ?_,by rw[Zr9];omega⟩
 rw[<- ZrH h,<- ZrH (by omega),Zr2]
theorem Uw(C:Vj prog w A s κ U R Ok){X:Array Keyed}{st1:SortSt}{lo hi i:Nat}{Q:Bool->SortSt->Prop}(S1:RSt κ U R Ok X lo hi st1)(hi':i+1<(pendingOf st1).size)(h:∀st',RSt κ U R Ok X lo hi st'->(pendingOf st').size+1=(pendingOf st1).size->(∀n,Up R (arrOf st1) lo n->Up R (arrOf st') lo n)->Q true st'):wpS (model prog w) A E s (mergeAt' i) Q st1:=by
 obtain⟨L,⟨c,n,p⟩,⟨d,m,p2⟩,M,hL,rfl⟩:=ZjO (L:=(pendingOf st1).toList) (by rw[Zrm];exact hi')
 refine ZaB C S1.kd S1.fl S1.us hL S1.rn (by rw[S1.sz];exact S1.le) fun st' k1 k2 k3 k4 k5 k6=>h st' ⟨k1,k2,k4.perm.trans S1.pm,S1.us.stir k4,k6,S1.le,S1.lh,fun e he=>k4.sep (.inr (by have:=S1.lh;omega)) (S1.sp e he)⟩ ?_ fun q hq=>hq.stir k4 (.inr (by omega))
 have e1:=congrArg List.length hL
 have e2:=congrArg List.length k3
 rw[Zrm] at e1 e2
 simp only[ZrT,ZrF] at e1 e2
 omega
theorem UQ(C:Vj prog w A s κ U R Ok)(C0:Vj prog w A s κ U R0 (fun _ _=>True))(L:Zli R0 R Ok){st:SortSt}{Q:Unit->SortSt->Prop}(hk:kindOf st=κ)(hf:failedOf st=none)(hU:Zcw U (arrOf st))(hp:pendingOf st=#[])(hO:∀e,Sep Ok (arrOf st) e)(h:∀st',failedOf st'=none->(arrOf st').Perm (arrOf st)->Up R (arrOf st') 0 (arrOf st).size->Q () st'):wpS (model prog w) A E s sortRuns' Q st:=by
 rw[sortRuns'_eq]
 refine wpS_bind (wpS_get ?_)
 dsimp only
 have S0:RSt κ U R Ok (arrOf st) 0 0 st:=⟨hk,hf,Array.Perm.refl _,hU,by rw[hp];rfl,ZrI _,Zrl _,fun e _=>hO e⟩
 generalize hX:arrOf st=X at S0 h
 refine wpS_bind (wpS_mono (wpS_forRange
  (I:=fun x (c:Option Unit×Nat) (st':SortSt)=>c.1=none/\RSt κ U R Ok X c.2 c.2 st'/\(x<=c.2\/X.size<=c.2))
  (Q:=fun(c:Option Unit×Nat) (st':SortSt)=>c.1=none/\RSt κ U R Ok X X.size X.size st') ?step ?fin ⟨rfl,S0,.inl (Zrl _)⟩) ?post)
 case fin =>
  rintro⟨o,lo⟩ st' ⟨h1,h2,h3⟩
  dsimp only at h1 h2 h3 ⊢
  have:=h2.le
  obtain rfl:lo=X.size:=by omega
  exact⟨h1,h2⟩
 case step =>
  rintro x ⟨o,lo⟩ st1 _ hx ⟨rfl,S1,h3⟩
  dsimp only at S1 h3 ⊢
  have hle:=S1.le
  have hsz:=S1.sz
  by_cases e0:lo ≥ X.size
  ·rw[if_pos e0]
   obtain rfl:lo=X.size:=by omega
   exact wpS_pure ⟨rfl,S1⟩
  rw[if_neg e0]
  refine wpS_bind (ZdS C C0 L S1.kd S1.us (show lo+(X.size-lo)<=_ by omega) (by omega) (fun e he=>S1.sp e (.inr (by omega))) fun m Y m1 m2 t u=>?_)
  dsimp only
  have S1':RSt κ U R Ok X lo (lo+m) (setArr st1 Y):=⟨S1.kd,S1.fl,t.perm.trans S1.pm,S1.us.stir t,S1.rn.stir t (.inl (Zrl _)),S1.le,by omega,fun e he=>t.sep (by omega) (S1.sp e (by omega))⟩
  by_cases e1:m<minRun' X.size X.size 0
  ·rw[if_pos e1]
   have f1:m<=min (X.size-lo) (minRun' X.size X.size 0):=by omega
   have f2:min (X.size-lo) (minRun' X.size X.size 0)<=X.size-lo:=Zth _ _
   generalize min (X.size-lo) (minRun' X.size X.size 0)=N1 at f1 f2
   refine wpS_bind (wpS_lift (wpAny_rule ⟨rfl, ?_⟩))
   refine wpS_bind (Zih C (show kindOf (setArr st1 Y)=κ from S1.kd) S1'.us (show lo+N1<=(arrOf (setArr st1 Y)).size by rw[S1'.sz];omega) f1 (by omega) u (fun e he=>S1'.sp e (.inr he)) fun Y2 t2 u2=>?_)
   rw[if_neg (by decide)]
   have t2:JS Y Y2 lo N1:=t2
   have S2:RSt κ U R Ok X lo (lo+N1) (setArr st1 Y2):=⟨S1.kd,S1.fl,t2.perm.trans S1'.pm,S1'.us.stir t2,S1'.rn.stir t2 (.inl (Zrl _)),S1.le,by omega,fun e he=>t2.sep (by omega) (S1'.sp e (by omega))⟩
   show wpS _ _ _ _ _ _ (setArr st1 Y2)
   have PUSH:∀st3,RSt κ U R Ok X lo (lo+N1) st3->Up R (arrOf st3) lo (N1)->RSt κ U R Ok X (lo+(N1)) (lo+(N1)) (setPending st3 ((pendingOf st3).push (lo,N1,0))):=fun st3 S3 u3 =>
    ⟨S3.kd,S3.fl,S3.pm,S3.us,by
     show Vm R Ok (arrOf st3) 0 ((pendingOf st3).push (lo,N1,0)).toList (lo+(N1))
     rw[ZsW]
     exact Vm.app.mpr ⟨lo,S3.rn,rfl,by omega,⟨u3,S3.sp lo (.inl rfl)⟩,rfl⟩,by omega,Zrl _,fun e he=>S3.sp e (.inr (by omega))⟩
   refine wpS_bind (wpS_get ?_)
   cases hb:(pendingOf (setArr st1 Y2)).back? with
   |none =>
    dsimp only
    exact wpS_bind (wpS_modify (wpS_pure ⟨rfl,PUSH _ S2 u2,.inl (by dsimp only;omega)⟩))
   |some q =>
    obtain⟨s1,n1,p1⟩:=q
    dsimp only
    refine wpS_bind (wpS_mono (wpS_forRange
     (I:=fun _ (c:Option Unit×Unit) (st':SortSt)=>c.1=none/\RSt κ U R Ok X lo (lo+N1) st'/\Up R (arrOf st') lo (N1))
     (Q:=fun(c:Option Unit×Unit) (st':SortSt)=>c.1=none/\RSt κ U R Ok X lo (lo+N1) st'/\Up R (arrOf st') lo (N1)) ?_ (fun c st' hc=>hc) ⟨rfl,S2,u2⟩) ?_)
    ·rintro y ⟨o,_⟩ st3 _ hy ⟨rfl,S3,u3⟩
     refine wpS_bind (wpS_get ?_)
     by_cases hsz3:(pendingOf st3).size>1
     ·rw[if_pos hsz3]
      have hg:(pendingOf st3)[(pendingOf st3).size-2]?=some ((pendingOf st3)[(pendingOf st3).size-2]'(by omega)):=Zsr (by omega)
      rw[hg]
      generalize (pendingOf st3)[(pendingOf st3).size-2]'(by omega)=q3 at hg
      obtain⟨a3,b3,older⟩:=q3
      dsimp only
      split
      ·exact wpS_pure ⟨rfl,S3,u3⟩
      ·refine wpS_bind (Uw C S3 (by omega) fun st4 S4 _ up4=>?_)
       rw[if_neg (by decide)]
       exact wpS_pure ⟨rfl,S4,up4 _ u3⟩
     ·rw[if_neg hsz3]
      exact wpS_pure ⟨rfl,S3,u3⟩
    ·rintro⟨o,_⟩ st3 ⟨h1,S3,u3⟩
     dsimp only at h1
     subst h1
     dsimp only
     refine wpS_bind (wpS_modify (wpS_bind (wpS_modify (wpS_pure ⟨rfl, ?_,.inl (by dsimp only;omega)⟩))))
     refine PUSH (setPending st3 _) ⟨S3.kd,S3.fl,S3.pm,S3.us, ?_,S3.le,S3.lh,S3.sp⟩ u3
     show Vm R Ok (arrOf st3) 0 ((pendingOf st3).modify _ _).toList lo
     rw[Array.toList_modify]
     exact S3.rn.mod (fun _ _ _=>⟨_,rfl⟩) _
  ·rw[if_neg e1]
   have S2:=S1'
   have u2:=u
   have PUSH:∀st3,RSt κ U R Ok X lo (lo+m) st3->Up R (arrOf st3) lo (m)->RSt κ U R Ok X (lo+(m)) (lo+(m)) (setPending st3 ((pendingOf st3).push (lo,m,0))):=fun st3 S3 u3 =>
    ⟨S3.kd,S3.fl,S3.pm,S3.us,by
     show Vm R Ok (arrOf st3) 0 ((pendingOf st3).push (lo,m,0)).toList (lo+(m))
     rw[ZsW]
     exact Vm.app.mpr ⟨lo,S3.rn,rfl,by omega,⟨u3,S3.sp lo (.inl rfl)⟩,rfl⟩,by omega,Zrl _,fun e he=>S3.sp e (.inr (by omega))⟩
   refine wpS_bind (wpS_get ?_)
   cases hb:(pendingOf (setArr st1 Y)).back? with
   |none =>
    dsimp only
    exact wpS_bind (wpS_modify (wpS_pure ⟨rfl,PUSH _ S2 u2,.inl (by dsimp only;omega)⟩))
   |some q =>
    obtain⟨s1,n1,p1⟩:=q
    dsimp only
    refine wpS_bind (wpS_mono (wpS_forRange
     (I:=fun _ (c:Option Unit×Unit) (st':SortSt)=>c.1=none/\RSt κ U R Ok X lo (lo+m) st'/\Up R (arrOf st') lo (m))
     (Q:=fun(c:Option Unit×Unit) (st':SortSt)=>c.1=none/\RSt κ U R Ok X lo (lo+m) st'/\Up R (arrOf st') lo (m)) ?_ (fun c st' hc=>hc) ⟨rfl,S2,u2⟩) ?_)
    ·rintro y ⟨o,_⟩ st3 _ hy ⟨rfl,S3,u3⟩
     refine wpS_bind (wpS_get ?_)
     by_cases hsz3:(pendingOf st3).size>1
     ·rw[if_pos hsz3]
      have hg:(pendingOf st3)[(pendingOf st3).size-2]?=some ((pendingOf st3)[(pendingOf st3).size-2]'(by omega)):=Zsr (by omega)
      rw[hg]
      generalize (pendingOf st3)[(pendingOf st3).size-2]'(by omega)=q3 at hg
      obtain⟨a3,b3,older⟩:=q3
      dsimp only
      split
      ·exact wpS_pure ⟨rfl,S3,u3⟩
      ·refine wpS_bind (Uw C S3 (by omega) fun st4 S4 _ up4=>?_)
       rw[if_neg (by decide)]
       exact wpS_pure ⟨rfl,S4,up4 _ u3⟩
     ·rw[if_neg hsz3]
      exact wpS_pure ⟨rfl,S3,u3⟩
    ·rintro⟨o,_⟩ st3 ⟨h1,S3,u3⟩
     dsimp only at h1
     subst h1
     dsimp only
     refine wpS_bind (wpS_modify (wpS_bind (wpS_modify (wpS_pure ⟨rfl, ?_,.inl (by dsimp only;omega)⟩))))
     refine PUSH (setPending st3 _) ⟨S3.kd,S3.fl,S3.pm,S3.us, ?_,S3.le,S3.lh,S3.sp⟩ u3
     show Vm R Ok (arrOf st3) 0 ((pendingOf st3).modify _ _).toList lo
     rw[Array.toList_modify]
     exact S3.rn.mod (fun _ _ _=>⟨_,rfl⟩) _
 case post =>
  rintro⟨o,lo⟩ st1 ⟨h1,S1⟩
  dsimp only at h1
  subst h1
  dsimp only
  refine wpS_bind (wpS_mono (wpS_forRange
   (I:=fun x (c:Option Unit×Unit) (st':SortSt)=>c.1=none/\RSt κ U R Ok X X.size X.size st'/\((pendingOf st').size+x<=X.size\/(pendingOf st').size<=1))
   (Q:=fun(c:Option Unit×Unit) (st':SortSt)=>c.1=none/\RSt κ U R Ok X X.size X.size st'/\(pendingOf st').size<=1) ?_ ?_ ⟨rfl,S1,.inl ?_⟩) ?_)
  ·rintro x ⟨o,_⟩ st3 _ hx ⟨rfl,S3,h3⟩
   refine wpS_bind (wpS_get ?_)
   by_cases e1:(pendingOf st3).size<=1
   ·rw[if_pos e1]
    exact wpS_pure ⟨rfl,S3,e1⟩
   ·rw[if_neg e1]
    refine wpS_bind (Uw C S3 ?_ fun st4 S4 z4 _=>?_)
    ·have hp3:1<(pendingOf st3).size:=Nat.lt_of_not_le e1
     have both:∀(b:Prop) [Decidable b],(if b then (pendingOf st3).size-2-1 else (pendingOf st3).size-2)+1<(pendingOf st3).size:=fun b _=>by
      by_cases hb:b
      ·rw[if_pos hb];omega
      ·rw[if_neg hb];omega
     exact both _
    ·rw[if_neg (by decide)]
     exact wpS_pure ⟨rfl,S4,by omega⟩
  ·rintro⟨o,_⟩ st3 ⟨h1,S3,h3⟩
   have:=Vm.le S3.rn
   rw[Zrm] at this
   exact⟨h1,S3,by omega⟩
  ·have:=Vm.le S1.rn
   rw[Zrm] at this
   omega
  ·rintro⟨o,_⟩ st3 ⟨h1,S3,h3⟩
   dsimp only at h1
   subst h1
   refine wpS_pure (h st3 S3.fl S3.pm ?_)
   have rn:=S3.rn
   have hl:(pendingOf st3).toList.length<=1:=by rw[Zrm];exact h3
   match hL:(pendingOf st3).toList with
   |[] =>
    rw[hL] at rn
    have z:0=X.size:=rn
    intro i j _ hj
    omega
   |[(c,n,p)] =>
    rw[hL] at rn
    obtain⟨rfl,_,z1,z2⟩:=rn
    have z2:0+n=X.size:=z2
    rw[<- z2,ZrW];exact z1.1
   |_::_::_ =>
    rw[hL] at hl
    simp at hl
end
end L2
namespace L2
open PySem PySem.Spec PyProof.Rows
section
variable {prog:Program}{w:World}{A:Around}{E:Value->Shared->Prop}{s:Shared}
theorem Zh8{α:Type}{R:α->α->Prop}:∀{l:List α},l.length<2->l.Pairwise R
 |[],_=>List.Pairwise.nil
 |[_],_=>ZsS _ _
theorem QB{a:Addr}{vs:List Value}{n:Nat}{P:PySem.Fin->Shared->Prop}(κ:SortKind)(Rv:Value->Value->Bool)(ho:s.heap.get? a=some (seqObj "list" vs.toArray n))(hz:vs.length<=1000000)(hk:2<=vs.length->∀(s1:Shared) (Q:SortKind->Shared->Prop),(∀b o,b≠a->s.heap.get? b=some o->s1.heap.get? b=some o)->Q κ s1->wpAny (model prog w) A (keyKind' vs.toArray) Q E s1)(hc:∀(s1:Shared) x y,x∈vs->y∈vs->(∀b o,b≠a->s.heap.get? b=some o->s1.heap.get? b=some o)->∀C:Bool->Shared->Prop,C (Rv x y) s1->wpAny (model prog w) A (keyLt' κ x y) C (fun _ _=>False) s1)(asy:∀x y,x∈vs->y∈vs->Rv x y=true->Rv y x=false)(tr:∀x y z,x∈vs->y∈vs->z∈vs->Rv y x=false->Rv z y=false->Rv z x=false)(hq:∀h' c out,(∀b o,b≠a->s.heap.get? b=some o->h'.get? b=some o)->out.Perm vs->out.Pairwise (fun x y=>Rv y x=false)->h'.get? a=some (seqObj "list" (List.toArray out) c)->P (.done (.ret .none)) { s with heap:=h' }) :
  wpAny (model prog w) A (Builtin.«list.sort» ⟨[.ref a],[]⟩) P E s:=by
 have la:a<s.heap.objs.size:=Heap.lt_size ho
 have line:vs.length<=sizeLine:=Jk hz
 obtain⟨e1,ho1⟩:∃c,(s.heap.update a (Obj.mapSeq fun _=>(#[]:Array Value))).get? a=some (seqObj "list" #[] c):=⟨_,get?_update_seq ho _⟩
 rw[list_sort_plain]
 refine wpAny_bind (listItems_at ho rfl (wpAny_bind (listUpdate_at ho rfl (wpAny_bind (seqEpoch_at ho1 rfl (wpAny_bind (wpAny_newTuple (wpAny_bind (wpAny_newList (wpAny_holding ?_) (ZrI _))) ?_)))) ?_ (ZrI _))))
 rotate_left
 ·exact line
 ·rw[Zrq];exact line
 generalize eh:((s.heap.update a (Obj.mapSeq fun _=>(#[]:Array Value))).push (seqObj "tuple" vs.toArray 0)).push (seqObj "list" #[] 0)=h3
 have k3:∀b o,b≠a->s.heap.get? b=some o->h3.get? b=some o:=fun b o nb q=>by
  subst eh
  exact Heap.get?_push_of_some _ (Heap.get?_push_of_some _ ((Heap.get?_update_ne _ _ _ _ nb).trans q))
 have a3:h3.get? a=some (seqObj "list" #[] e1):=by subst eh;exact Heap.get?_push_of_some _ (Heap.get?_push_of_some _ ho1)
 show wpAny _ _ _ P E { s with heap:=h3 }
 have fin:∀(out:List Value) (st:SortSt),(arrOf st).map (·.2)=List.toArray out->failedOf st=none->out.Perm vs->out.Pairwise (fun x y=>Rv y x=false) ->
   wpAny (model prog w) A (do
    let sorted:=(arrOf st).map (·.2)
    let touched:=(<- seqEpoch a) != e1
    Builtin.List.listUpdate (.ref a) fun _=>sorted
    if let some e:=failedOf st then rule "list.sort.comparison-raised";throw e
    if touched then rule "list.sort.modified";raiseError "ValueError" "list modified during sort"
    ret .none) P E { s with heap:=h3 }:=fun out st ho hf hl hout=>by
  dsimp only
  rw[ho,hf]
  obtain⟨c2,hc2⟩:∃c,(h3.update a (Obj.mapSeq fun _=>List.toArray out)).get? a=some (seqObj "list" (List.toArray out) c):=⟨_,get?_update_seq a3 _⟩
  refine wpAny_bind (seqEpoch_at a3 rfl (wpAny_bind (listUpdate_at a3 rfl ?_ (ZrI _) ?_)))
  ·simp only[bne_self_eq_false,Bool.false_eq_true,if_false]
   exact wpAny_pure (hq _ c2 out (fun b o nb q=>(Heap.get?_update_ne _ _ _ _ nb).trans (k3 b o nb q)) hl hout hc2)
  ·show (List.toArray out).size<=_
   rw[Zrq,hl.length_eq];exact Zr7 line (ZsI _)
 dsimp only
 have zs:((vs.toArray.zip vs.toArray).map (·.2))=vs.toArray:=by
  apply ZsG.mp
  simp only[Zs2,Array.toList_zip]
  exact List.map_snd_zip (Zrl _)
 by_cases h2:vs.length<2
 ·have e2:vs.toArray.size<2:=by rw[Zrq];exact h2
  rw[if_pos e2,if_pos e2]
  refine wpAny_bind (wpAny_pure (wpAny_bind (wpAny_pure ?_)))
  refine fin vs _ zs rfl (List.Perm.refl _) ?_
  exact Zh8 h2
 ·have e2:¬vs.toArray.size<2:=by rw[Zrq];exact h2
  rw[if_neg e2,if_neg e2]
  refine wpAny_bind (hk (by omega) _ _ k3 ?_)
  have zmem:∀x∈vs.toArray.zip vs.toArray,x.1∈vs/\x.1=x.2:=fun x hx=>by
   have hx:x∈vs.zip vs:=by simpa using hx
   obtain⟨i,hi⟩:=Zr4 hx
   rw[ZrY] at hi
   have e:=hi.1.symm.trans hi.2
   exact⟨Zrh hi.1,Option.some.inj e⟩
  have C:Vj prog w A { s with heap:=h3 } κ (fun x=>x.1∈vs/\x.1=x.2) (fun x y=>Rv x.1 y.1) (fun _ _=>True):=
   ⟨fun x y hx hy _ Q q=>hc _ _ _ hx.1 hy.1 k3 Q q,fun x y hx hy q=>asy _ _ hx.1 hy.1 q,fun x y z hx hy hz q r=>tr _ _ _ hx.1 hy.1 hz.1 q r⟩
  have run:=UQ (E:=E) C C ⟨fun _ _ h=>h,fun _ _ _=>rfl⟩ (st:=SortSt.mk' κ (vs.toArray.zip vs.toArray) #[] 7 none) (Q:=fun _ st'=>failedOf st'=none/\(arrOf st').Perm (vs.toArray.zip vs.toArray)/\Up (fun x y=>Rv x.1 y.1) (arrOf st') 0 (vs.toArray.zip vs.toArray).size) rfl rfl
   (fun i hi=>zmem _ (Array.mem_of_getElem? (VG hi))) rfl (fun _ _ _ _ _ _=>trivial) (fun st' k1 k2 k3=>⟨k1,k2,k3⟩)
  refine wpAny_bind (wpAny_mono run ?_ fun _ _ e=>e)
  rintro⟨⟨⟩,st⟩ s' ⟨rfl,hf,hp,hu⟩
  dsimp only at hf hp hu
  have hsz:(arrOf st).size=(vs.toArray.zip vs.toArray).size:=hp.size_eq
  have same:∀x∈(arrOf st).toList,x.1=x.2:=fun x hx=>(zmem x ((Array.Perm.mem_iff hp).mp (by simpa using hx))).2
  refine fin ((arrOf st).toList.map (·.2)) st ?_ hf ?_ ?_
  ·apply ZsG.mp
   rw[Zs2]
  ·have p1:((arrOf st).toList.map (·.2)).Perm ((vs.toArray.zip vs.toArray).toList.map (·.2)):=(ZsC.mp hp).map _
   have p2:=congrArg Array.toList zs
   rw[Zs2] at p2
   rw[p2] at p1
   simpa using p1
  ·have sr:=hu.srt (Ztn (by rw[ZrW,hsz]))
   rw[ZsE,ZrO (Ztn (by rw[Zrm,hsz]))] at sr
   rw[Zsb]
   refine List.Pairwise.imp_of_mem ?_ sr
   intro x y hx hy q
   rw[<- same x hx,<- same y hy];exact q
theorem ZbB{l:Addr}{vs:List Value}{Q:Value->Shared->Prop}(κ:SortKind)(Rv:Value->Value->Bool)(hl:s.heap.IsList l vs.toArray)(hz:vs.length<=1000000)(hk:2<=vs.length->∀(s1:Shared) (Q:SortKind->Shared->Prop),(∀b o,s.heap.get? b=some o->s1.heap.get? b=some o)->Q κ s1->wpAny (model prog w) A.in1.in1 (keyKind' vs.toArray) Q E s1)(hc:∀(s1:Shared) x y,x∈vs->y∈vs->(∀b o,s.heap.get? b=some o->s1.heap.get? b=some o)->∀C:Bool->Shared->Prop,C (Rv x y) s1->wpAny (model prog w) A.in1.in1 (keyLt' κ x y) C (fun _ _=>False) s1)(asy:∀x y,x∈vs->y∈vs->Rv x y=true->Rv y x=false)(tr:∀x y z,x∈vs->y∈vs->z∈vs->Rv y x=false->Rv z y=false->Rv z x=false)(hq:∀D h' c out,(∀b o,s.heap.get? b=some o->h'.get? b=some o)->s.heap.objs.size<=D->out.Perm vs->out.Pairwise (fun x y=>Rv y x=false)->h'.get? D=some (seqObj "list" (List.toArray out) c)->Q (.ref D) { s with heap:=h' }) :
  wpAny (model prog w) A (call (.builtin "sorted") [.ref l]) Q E s:=by
 refine Calls.call_function_entry kind_sorted plain_sorted entry_sorted (args_sorted1 _) ?_
 unfold Builtin.«sorted»
 have line:vs.length<=sizeLine:=Jk hz
 refine wpAny_bind (m:=checkCount "sorted" 1 1 _) (wpAny_pure (wpAny_bind (collect_list hl (wpAny_bind (wpAny_newList ?_ line)) line)))
 generalize eg:(s.heap.push (seqObj "list" #[] 0)).update s.heap.objs.size (Obj.mapSeq (·++vs.toArray))=h1
 have z1:h1.objs.size=s.heap.objs.size+1:=by subst eg;rw[Heap.size_update,size_push']
 have k1:∀b o,s.heap.get? b=some o->h1.get? b=some o:=fun b o q=>by
  have lb:=Heap.lt_size q
  subst eg
  rw[Heap.get?_update_ne _ _ _ _ (Zr8 lb)]
  exact Heap.get?_push_of_some _ q
 have hD:(h1.push (seqObj "list" vs.toArray 0)).get? h1.objs.size=some (seqObj "list" vs.toArray 0):=Heap.get?_push_size _ rfl
 show wpAny _ _ _ _ _ { s with heap:=h1.push (seqObj "list" vs.toArray 0) }
 have up:∀(h2:Heap),(∀b o,b≠h1.objs.size->(h1.push (seqObj "list" vs.toArray 0)).get? b=some o->h2.get? b=some o)->∀b o,s.heap.get? b=some o->h2.get? b=some o:=fun h2 k b o q =>
  k b o (Zr8 (by rw[z1];exact ZsV (Heap.lt_size q))) (Heap.get?_push_of_some _ (k1 b o q))
 refine wpAny_bind (wpAny_holding (wpAny_call_entry slot_list_sort ⟨_,hD,rfl⟩ entry_list_sort (QB (s:={ s with heap:=h1.push (seqObj "list" vs.toArray 0) }) κ Rv hD hz (fun h2 s1 Q k q=>hk h2 s1 Q (up _ k) q) (fun s1 x y hx hy k C q=>hc s1 x y hx hy (up _ k) C q) asy tr fun h' c out k p1 p2 e=>?_) (args_list_sort _)))
 exact⟨_,rfl,wpAny_pure ⟨_,rfl,hq _ h' c out (up _ k) (by rw[z1];exact ZsI _) p1 p2 e⟩⟩
end
noncomputable def Zm5:Value->Int
 |.int i _=>i
 |_=>0
theorem JT:∀{ns:List Int}{us:List Value},ZP (ns.map V.int) us->us.map Zm5=ns/\∀u∈us,∃i t,u=Value.int i t
 |[],_,.nil=>⟨rfl,by simp⟩
 |n::ns,_,.cons (b:=u) r rr=>by
  obtain⟨t,rfl⟩:=r
  obtain⟨h1,h2⟩:=JT rr
  refine⟨by rw[Zru,h1];rfl,fun v hv=>?_⟩
  rcases Zrt.mp hv with rfl|hv
  ·exact⟨n,t,rfl⟩
  ·exact h2 v hv
section
end
theorem ZaM:∀{K:W.Frag}{H:Hp}{S:Addr->Prop} (ns:List Int),Reps K H S (ns.map PV.int) (ns.map V.int)
 |_,_,_,[]=>rfl
 |_,_,_,n::ns=>⟨_,_,rfl,rfl,ZaM ns⟩
section
end
noncomputable def Zj3(x:List Int):List (List Int)->List (List Int)
 |[]=>[x]
 |y::l=>if HT.ZA y x=true then y::Zj3 x l else x::y::l
noncomputable def Zah:List (List Int)->List (List Int)
 |[]=>[]
 |x::l=>Zj3 x (Zah l)
noncomputable abbrev UpU(l:List (List Int)):Prop:=l.Pairwise fun a b=>HT.ZA b a=false
theorem Qp(x:List Int):∀l,(Zj3 x l).Perm (x::l)
 |[]=>List.Perm.refl _
 |y::l=>by
  unfold Zj3
  split
  ·exact((Qp x l).cons y).trans (List.Perm.swap x y l)
  ·exact List.Perm.refl _
theorem ZH:∀l,(Zah l).Perm l
 |[]=>List.Perm.refl _
 |x::l=>(Qp x _).trans ((ZH l).cons x)
theorem JM{a b c:List Int}(h1:HT.ZA b a=false)(h2:HT.ZA c b=false):HT.ZA c a=false:=by
 cases h:HT.ZA c a with
 |false=>rfl
 |true =>
  exfalso
  cases h3:HT.ZA a b with
  |true=>rw[HL.VQ h h3] at h2;cases h2
  |false=>rw[HL.Vc h3 h1] at h;rw[h] at h2;cases h2
theorem Uh{a b:List Int}(h:HT.ZA a b=true):HT.ZA b a=false:=by
 cases h2:HT.ZA b a with
 |false=>rfl
 |true=>have:=HL.VQ h h2;rw[HL.Vt] at this;cases this
theorem Zfe{x:List Int}:∀{l:List (List Int)},UpU l->UpU (Zj3 x l)
 |[],_=>ZsS _ _
 |y::l,h=>by
  obtain⟨h1,h2⟩:=Zsq.mp h
  unfold Zj3
  split
  ·rename_i e
   refine Zsq.mpr ⟨fun z hz=>?_,Zfe h2⟩
   rcases Zrt.mp ((Qp x l).mem_iff.mp hz) with rfl|hz
   ·exact Uh e
   ·exact h1 z hz
  ·rename_i e
   have e:=Bool.eq_false_iff.mpr e
   refine Zsq.mpr ⟨fun z hz=>?_,h⟩
   rcases Zrt.mp hz with rfl|hz
   ·exact e
   ·exact JM e (h1 z hz)
theorem VM:∀l,UpU (Zah l)
 |[]=>List.Pairwise.nil
 |x::l=>Zfe (VM l)
theorem VY:∀{l m:List (List Int)},UpU l->UpU m->l.Perm m->l=m
 |[],m,_,_,p=>(List.nil_perm.mp p).symm
 |x::l,[],_,_,p=>absurd (List.perm_nil.mp p) (by simp)
 |x::l,y::m,h1,h2,p=>by
  obtain⟨a1,a2⟩:=Zsq.mp h1
  obtain⟨b1,b2⟩:=Zsq.mp h2
  have e:x=y:=by
   have hx:x∈y::m:=p.mem_iff.mp (by simp)
   have hy:y∈x::l:=p.mem_iff.mpr (by simp)
   rcases Zrt.mp hx with z|z
   ·exact z
   ·rcases Zrt.mp hy with z'|z'
    ·exact z'.symm
    ·exact HL.Vc (b1 x z) (a1 y z')
  subst e
  rw[VY a2 b2 (List.perm_cons _ |>.mp p)]
theorem Zir{l m:List (List Int)}(p:l.Perm m):Zah l=Zah m:=VY (VM l) (VM m) ((ZH l).trans (p.trans (ZH m).symm))
noncomputable def Ju(ts:List PL2)(a:Addr):List Int:=((ts.find? fun t=>decide (t.1=a)).map (·.2)).getD []
theorem Jq{ts:List PL2}(hu:∀t∈ts,∀t'∈ts,t.1=t'.1->t.2=t'.2){t:PL2}(ht:t∈ts):Ju ts t.1=t.2:=by
 unfold Ju
 cases hf:ts.find? fun q=>decide (q.1=t.1) with
 |none=>exact absurd (decide_eq_true rfl) (ZsT.mp hf t ht)
 |some q =>
  have h1:=List.find?_some hf
  have h2:=List.mem_of_find?_eq_some hf
  exact hu q h2 t ht (of_decide_eq_true h1)
noncomputable def J0:Value->Addr
 |.ref a=>a
 |_=>0
theorem US:∀{ts:List PL2}{us:List Value},ZP (ts.map fun t=>V.ref t.1) us->us=ts.map fun t=>Value.ref t.1
 |[],_,.nil=>rfl
 |t::ts,_,.cons r rr=>by
  have r:_=Value.ref t.1:=r
  rw[r,US rr];rfl
theorem Vq:∀(ts:List PL2),ZP (ts.map fun t=>V.ref t.1) (ts.map fun t=>Value.ref t.1)
 |[]=>.nil
 |t::ts=>.cons rfl (Vq ts)
section
variable {X:Cx}
def Zen(K:W.Frag):List V->Hp->VK->Prop:=fun xs H Q=>∃p,∃ts:List PL2,xs=[.ref p]/\SqL K H p (ts.map fun t=>V.ref t.1) /\
  (∀t∈ts,SqT K H t.1 (t.2.map V.int)/\t.2≠[])/\ts.length<=1000000/\∀l,H l=none->∀qs:List PL2,qs.Perm ts->UpU (qs.map (·.2))->Q (.ref l) (upd H l (.lst (qs.map fun t=>V.ref t.1)))
theorem ZdI:Vg X (.builtin "sorted") (Zen X.K):=by
 intro pins s σ H xs us Q I r h
 obtain⟨p,ts,rfl,hq,hall,hz0,q⟩:=h
 obtain⟨u,rfl,rx⟩:=UT r
 cases rx
 obtain⟨its,r',pl,hz⟩:=I.list hq
 have hits:=US r'
 subst hits
 have tup:∀(s1:Shared),(∀b o,s.heap.get? b=some o->s1.heap.get? b=some o)->∀t∈ts,∃vs:List Value,ZP (t.2.map V.int) vs/\IsTup s1.heap t.1 vs.toArray:=fun s1 k t ht=>by
  have I':Inv X pins σ H { s with heap:=s1.heap,toks:=s1.toks }:=I.kept k
  obtain⟨vs,rv,pt,_⟩:=I'.tuple (hall t ht).1
  exact⟨vs,rv,pt⟩
 have hu:∀t∈ts,∀t'∈ts,t.1=t'.1->t.2=t'.2:=fun t ht t' ht' e=>by
  obtain⟨vs,rv,ob,eo,oc,k1,od⟩:=tup s (fun _ _ h=>h) t ht
  obtain⟨vs',rv',ob',eo',oc',k1',od'⟩:=tup s (fun _ _ h=>h) t' ht'
  rw[e,eo'] at eo
  cases eo
  rw[od] at od'
  have e2:vs.toArray=vs'.toArray:=by injection od'
  have e3:vs=vs':=by simpa using e2
  subst e3
  rw[<- (JT rv).1,<- (JT rv').1]
 refine ZbB (tuples' true) (fun x y=>HT.ZA (Ju ts (J0 x)) (Ju ts (J0 y))) pl.isList (by simpa using hz0) (fun h2 s1 Q' k q'=>?_) (fun s1 x y hx hy k C q'=>?_) (fun x y _ _ h=>Uh h) (fun x y z _ _ _ h1 h2=>JM h1 h2) fun D h' c out k hD p1 p2 e=>?_
 ·have:∀(ts:List PL2) (its:List Value),(∀t∈ts,t.2≠[]/\∃vs:List Value,ZP (t.2.map V.int) vs/\IsTup s1.heap t.1 vs.toArray)->ZP (ts.map fun t=>V.ref t.1) its->∃fs:List Value,fs.length=ts.length/\PySem.W.KatTups s1.heap its fs/\∀v∈fs,∃n t,v=Value.int n t:=by
   intro ts
   induction ts with
   |nil =>
    intro its _ rv
    cases rv
    exact⟨[],rfl,trivial,by simp⟩
   |cons t ts ih =>
    intro its ht rv
    cases rv with
    |cons rv tv =>
     obtain⟨fs,e1,e2,e3⟩:=ih _ (fun t' h'=>ht t' (Zr6 _ h')) tv
     obtain⟨hne,vs,rvs,ob,eo,oc,k,od⟩:=ht t (ZrM ..)
     obtain⟨n,ns,en⟩:=Zsn hne
     rw[en] at rvs
     cases rvs with
     |cons rn tn =>
      obtain⟨tk,rfl⟩:=rn
      have rv':_=Value.ref t.1:=rv
      subst rv'
      exact⟨.int n tk::fs,by simp[e1],⟨⟨t.1,ob,_,k,rfl,eo,oc,od,rfl⟩,e2⟩,fun v hv=>(Zrt.mp hv).elim (fun z=>⟨n,tk,z⟩) (e3 v)⟩
  obtain⟨fs,e1,e2,e3⟩:=this ts _ (fun t ht=>⟨(hall t ht).2,tup s1 k t ht⟩) r'
  exact PySem.W.kat_kind (T:=.type "int") e2 (by rw[e1];simp at h2;omega) (fun v hv=>by obtain⟨n,t,rfl⟩:=e3 v hv;exact PySem.W.Looks.of_pure rfl) rfl q'
 ·obtain⟨t,ht,rfl⟩:=Zrz.mp hx
  obtain⟨t',ht',rfl⟩:=Zrz.mp hy
  obtain⟨vs,rv,ob,eo,oc,k1,od⟩:=tup s1 k t ht
  obtain⟨vs',rv',ob',eo',oc',k1',od'⟩:=tup s1 k t' ht'
  refine PySem.W.kat_lt eo od eo' od' (UM rv rv' ?_ ?_)
  ·simp
  ·rw[show J0 (.ref t.1)=t.1 from rfl,show J0 (.ref t'.1)=t'.1 from rfl,Jq hu ht,Jq hu ht'] at q'
   exact q'
 ·have ho:∀u∈out,∃t∈ts,u=Value.ref t.1:=fun u hu=>by
   obtain⟨t,ht,e⟩:=Zrz.mp (p1.mem_iff.mp hu)
   exact⟨t,ht,e.symm⟩
  have hp:(out.map fun v=>((J0 v,Ju ts (J0 v)):PL2)).Perm ts:=by
   have h1:=p1.map fun v=>((J0 v,Ju ts (J0 v)):PL2)
   rw[Zr1] at h1
   have h2:ts.map ((fun v=>((J0 v,Ju ts (J0 v)):PL2))∘fun t=>Value.ref t.1)=ts:=by
    have:ts.map ((fun v=>((J0 v,Ju ts (J0 v)):PL2))∘fun t=>Value.ref t.1)=ts.map id:=ZrN fun t ht=>by
     show ((t.1,Ju ts t.1):PL2)=t
     rw[Jq hu ht]
    rw[this,Zty]
   rw[h2] at h1
   exact h1
  have hup:UpU ((out.map fun v=>((J0 v,Ju ts (J0 v)):PL2)).map (·.2)):=by
   rw[Zr1]
   exact Zsb.mpr (p2.imp fun h=>h)
  have hout:out=(out.map fun v=>((J0 v,Ju ts (J0 v)):PL2)).map fun t=>Value.ref t.1:=by
   rw[Zr1]
   have:out.map ((fun(t:PL2)=>Value.ref t.1)∘fun v=>((J0 v,Ju ts (J0 v)):PL2))=out.map id:=ZrN fun u hu=>by
    obtain⟨t,ht,rfl⟩:=ho u hu
    rfl
   rw[this,Zty]
  generalize (out.map fun v=>((J0 v,Ju ts (J0 v)):PL2))=qs at hp hup hout
  have I1:Inv X pins σ (upd H D (.lst (qs.map fun t=>V.ref t.1))) { s with heap:=h' }:=by
   refine I.laid (t':=s.toks) k hD ⟨?_,_,c, ?_,e⟩
   ·rw[Zrj,hp.length_eq];exact Jk hz0
   ·rw[hout];exact Vq qs
  exact⟨.ref D,_,I1,rfl,q D (I.hok.fresh hD) qs hp hup⟩
theorem Zcm{K:W.Frag}(e:X.K=K:=by rfl):Vg X (.builtin "sorted") (Zen K):=by subst e;exact ZdI
end
def OkU(ts:List (List Int)):Prop:=(∀t∈ts,t≠[])/\ts.length<=1000000
open Classical in
noncomputable def ZcN(xs:List PV):Rr PV:=if h:∃ts:List (List Int),xs=[.lst (ts.map ZK)]/\OkU ts then newF ((Zah h.choose).map ZK) else .bad
theorem Ze2{ts:List (List Int)}(h:OkU ts):ZcN [.lst (ts.map ZK)]=newF ((Zah ts).map ZK):=by
 have hex:∃us:List (List Int),[PV.lst (ts.map ZK)]=[.lst (us.map ZK)]/\OkU us:=⟨ts,rfl,h⟩
 unfold ZcN
 rw[dif_pos hex]
 have hs:ts.map ZK=hex.choose.map ZK:=PV.lst.inj (List.cons.inj hex.choose_spec.1).1
 have e:hex.choose=ts:=(Vn hs).symm
 rw[e]
section
variable {K:W.Frag}{B:Addr->Prop}{EX:PX->Hp->Prop}{H0 H:Hp}{σ:St}{Γ Γ':List Md}{ρ:List PV}{F:Nat->List Addr}{R:List Addr}{ta:TA}{fa:List PV->Rr (List PV)}
theorem U1{S:Addr->Prop}:∀{ts:List (List Int)}{vs:List V},Reps K H S (ts.map ZK) vs->∃qs:List PL2,vs=(qs.map fun t=>V.ref t.1)/\(qs.map fun t=>t.2)=ts/\∀t∈qs,SqT K H t.1 (t.2.map V.int)/\Rep K H S (ZK t.2) (V.ref t.1)
 |[],vs,h=>⟨[],h,rfl,by simp⟩
 |ns::ts,vs,h=>by
  obtain⟨v,r,rfl,h1,h2⟩:=h
  obtain⟨qs,rfl,e2,e3⟩:=U1 h2
  have h1':=h1
  obtain⟨a,ws,rfl,hn,hr⟩:=h1
  have:=Vp hr
  subst this
  refine⟨(a,ns)::qs,rfl,by rw[Zru,e2],fun t ht=>?_⟩
  rcases Zrt.mp ht with rfl|ht
  ·exact⟨hn.sqT,h1'⟩
  ·exact e3 t ht
theorem ZbD{S:Addr->Prop}:∀{qs:List PL2},(∀t∈qs,Rep K H S (ZK t.2) (V.ref t.1))->Reps K H S ((qs.map (·.2)).map ZK) (qs.map fun t=>V.ref t.1)
 |[],_=>rfl
 |t::qs,h=>⟨_,_,rfl,h t (ZrM ..),ZbD fun q hq=>h q (Zr6 _ hq)⟩
theorem Zha(ha:DAA K EX Γ Γ' ta fa):DE K EX Γ Γ' .F (tCB (Zen K) ta) (fun ρ=>(fa ρ).bind ZcN):=fun B H0 H σ ρ F R Q A d=>by
 refine ha B H0 H σ ρ F R _ A (d.bind.imp (fun xs _ d vs H1 F1 s1 f1 p1 A1=>?_) fun e q=>q)
 unfold ZcN at d
 split at d
 ·rename_i hex
  have hs:=hex.choose_spec
  generalize hex.choose=ts at d hs
  obtain⟨rfl,hne,hl⟩:=hs
  obtain⟨h1,h2,d⟩:=Dn.newF d
  obtain⟨v,rfl,a,ws,rfl,hn,hr⟩:=VN p1
  obtain⟨qs,rfl,rfl,e3⟩:=U1 hr
  refine⟨a,qs,rfl,JG (S:=fun _=>True) hn,fun t ht=>⟨(e3 t ht).1,hne _ (ZsJ ht)⟩,by simpa using hl,fun l hz zs hp hup=>?_⟩
  have e:Zah (qs.map (·.2))=zs.map (·.2):=VY (VM _) hup ((ZH _).trans (hp.map (·.2)).symm)
  have pr:=ZbD (K:=K) (H:=H1) (S:=fun _=>True) (qs:=zs) fun t ht=>(e3 t (hp.mem_iff.mp ht)).2
  rw[<- e] at pr
  exact d _ _ (s1.trans (Z2.new hz)) (Res.newP s1 f1 pr h1 A1 hz)
 ·exact d.elim
end
end L2
namespace My
open L2
def Bs(n:Nat)(s:Int)(b:List Int):Prop:=b.length=n/\(∀x∈b,0<=x)/\b.sum=s
theorem Bs.sow{n:Nat}{s:Int}{b:List Int}(h:Bs n s b){p:Int}(h0:0<=p)(h1:p<n):Bs n s (Vi b p):=by
 obtain⟨l,nn,sm⟩:=h
 refine⟨by rw[Zb9];exact l,fun x hx=>?_,by rw[ZfU h0 (by omega) (Zfg nn _)];exact sm⟩
 unfold Vi tab at hx
 obtain⟨y,hy,rfl⟩:=Zrz.mp hx
 exact Zit nn _ y (ZrB.mp hy)
theorem Zg0:∀(n:Nat) (l:List Nat),l.Nodup->(∀x∈l,x<n)->l.length<=n:=by
 intro n
 induction n with
 |zero=>intro l _ h;cases l with
  |nil=>exact Zrl _
  |cons x l=>exact absurd (h x (by simp)) (by omega)
 |succ n ih =>
  intro l hd h
  have e:=ih (l.erase n) (hd.erase n) (fun x hx=>by
   have:=h x (List.mem_of_mem_erase hx)
   have:x≠n:=fun z=>by subst z;exact(List.Nodup.mem_erase_iff hd).mp hx |>.1 rfl
   omega)
  by_cases c:n∈l
  ·rw[List.length_erase_of_mem c] at e;omega
  ·rw[List.erase_of_not_mem c] at e;omega
theorem ZhF{a b:List Int}(hl:a.length=b.length)(hs:a.sum=b.sum)(ha:∀x∈a,0<=x)(hb:∀x∈b,0<=x)(h:HT.ZA a b=true):ZeK a≠ZeK b:=by
 obtain⟨i,i1,i2,i3⟩:=Zmw h
 have:=ZeJ hl hs ha hb (fun z=>by rw[z] at hl;simp at hl;omega) ⟨i,by omega,i2,by omega⟩
 unfold ZeK
 rw[hl,hs]
 omega
theorem ZiK{a b:List Int}(hl:a.length=b.length)(hs:a.sum=b.sum)(ha:∀x∈a,0<=x)(hb:∀x∈b,0<=x)(h:ZeK a=ZeK b):a=b:=by
 cases h1:HT.ZA a b with
 |true=>exact absurd h (ZhF hl hs ha hb h1)
 |false =>
  cases h2:HT.ZA b a with
  |true=>exact absurd h.symm (ZhF hl.symm hs.symm hb ha h2)
  |false=>exact HL.Vc h1 h2
theorem ZhW{n:Nat}{s:Int}(hn:1<=n){L:List (List Int)}(nd:L.Nodup)(hL:∀x∈L,Bs n s x):L.length<=(cbN n s).toNat:=by
 have hb:∀x∈L,0<=ZeK x/\ZeK x<cbN n s:=fun x hx=>by
  obtain⟨l,nn,sm⟩:=hL x hx
  have:=ZiL (l:=x) (fun z=>by rw[z] at l;simp at l;omega) nn
  rw[l,sm] at this
  exact this
 have h:=Zg0 (cbN n s).toNat (L.map fun x=>(ZeK x).toNat) (by
  rw[Zsc,Zsb]
  refine(Zsc.mp nd).imp_of_mem ?_
  intro a b ha hb' hab e
  obtain⟨l,nn,sm⟩:=hL a ha
  obtain⟨l',nn',sm'⟩:=hL b hb'
  have:=hb a ha
  have:=hb b hb'
  exact hab (ZiK (by omega) (by omega) nn nn' (by omega))) (fun z hz=>by
  obtain⟨x,hx,rfl⟩:=Zrz.mp hz
  have:=hb x hx
  omega)
 rw[Zrj] at h
 exact h
inductive Rch(P:List Int)(b:List Int):List Int->Prop
 |refl:Rch P b b
 |step {x:List Int}{p:Int}:Rch P b x->p∈P->0<x.getD p.toNat 0->Rch P b (Vi x p)
theorem Rch.bs{P b:List Int}{n:Nat}{s:Int}(hP:∀p∈P,0<=p/\p<n)(hb:Bs n s b){x:List Int}(h:Rch P b x):Bs n s x:=by
 induction h with
 |refl=>exact hb
 |step _ hp hx ih=>exact ih.sow (hP _ hp).1 (hP _ hp).2
noncomputable def J9(P:List Int)(x:List Int):List (Int×List Int):=(P.filter fun p=>decide (0<x.getD p.toNat 0)).map fun p=>(p,Vi x p)
theorem J3{P x:List Int}{y:Int×List Int}:y∈J9 P x ↔ y.1∈P/\0<x.getD y.1.toNat 0/\y.2=Vi x y.1:=by
 unfold J9
 constructor
 ·intro h
  obtain⟨p,hp,rfl⟩:=Zrz.mp h
  obtain⟨h1,h2⟩:=ZrS.mp hp
  exact⟨h1,of_decide_eq_true h2,rfl⟩
 ·rintro⟨h1,h2,h3⟩
  refine Zrz.mpr ⟨y.1,ZrS.mpr ⟨h1,decide_eq_true h2⟩, ?_⟩
  rw[<- h3]
noncomputable abbrev NB:=List (List Int)×List (List Int)×List PV
noncomputable def stB(x:List Int)(st:NB)(y:Int×List Int):NB:=if y.2∈st.2.1 then st else (st.1++[y.2],st.2.1++[y.2],st.2.2++[.tup [ZK x,.int y.1]])
noncomputable def bdB(P x:List Int)(st:NB):NB:=(J9 P x).foldl (stB x) st
noncomputable def lvB(P:List Int)(lv:List (List Int))(st:NB):NB:=lv.foldl (fun st x=>bdB P x st) st
structure Fo(R:List Int->Prop)(bs0:List (List Int))(st:NB):Prop where
 app:st.2.1=bs0++st.1
 nd:st.2.1.Nodup
 re:∀x∈st.2.1,R x
 ln:st.2.2.length=st.2.1.length
 fl:PV.flats st.2.2=true
theorem QO:∀(xs:List PV) (y:PV),PV.flats xs=true->PV.flat y=true->PV.flats (xs++[y])=true
 |[],y,_,h=>by simp[PV.flats,h]
 |x::xs,y,h1,h2=>by
  simp only[PV.flats,Bool.and_eq_true] at h1
  simp only[ZsF,PV.flats,Bool.and_eq_true]
  exact⟨h1.1,QO xs y h1.2 h2⟩
section
variable {R:List Int->Prop}{bs0:List (List Int)}{st:NB}
theorem Fo.one(h:Fo R bs0 st){x:List Int}{y:Int×List Int}(hy:R y.2):Fo R bs0 (stB x st y)/\(∀z∈st.2.1,z∈(stB x st y).2.1)/\y.2∈(stB x st y).2.1:=by
 unfold stB
 split
 ·rename_i c
  exact⟨h,fun z hz=>hz,c⟩
 ·rename_i c
  refine⟨⟨by simp[h.app], ?_,fun z hz=>?_,by simp[h.ln], ?_⟩,fun z hz=>by simp[hz],by simp⟩
  ·show (st.2.1++[y.2]).Nodup
   rw[List.nodup_append]
   refine⟨h.nd,by simp,fun a ha b hb e=>?_⟩
   rw[ZrD.mp hb] at e
   rw[e] at ha
   exact c ha
  ·rcases Zro.mp hz with hz|hz
   ·exact h.re z hz
   ·rw[ZrD.mp hz];exact hy
  ·exact QO _ _ h.fl (by simp only[PV.flat,PV.flats,JD,Bool.and_self])
theorem Fo.fold{x:List Int}:∀{L:List (Int×List Int)}{st:NB},Fo R bs0 st->(∀y∈L,R y.2)->Fo R bs0 (L.foldl (stB x) st)/\(∀z∈st.2.1,z∈(L.foldl (stB x) st).2.1)/\∀y∈L,y.2∈(L.foldl (stB x) st).2.1
 |[],st,h,_=>⟨h,fun z hz=>hz,by simp⟩
 |y::L,st,h,hL=>by
  obtain⟨a1,a2,a3⟩:=h.one (x:=x) (hL y (by simp))
  obtain⟨b1,b2,b3⟩:=Fo.fold (x:=x) (L:=L) a1 fun z hz=>hL z (by simp[hz])
  refine⟨b1,fun z hz=>b2 z (a2 z hz),fun z hz=>?_⟩
  rcases Zrt.mp hz with rfl|hz
  ·exact b2 _ a3
  ·exact b3 z hz
end
section
variable {P b:List Int}{bs0:List (List Int)}
theorem Fo.lv:∀{lv:List (List Int)}{st:NB},Fo (Rch P b) bs0 st->(∀x∈lv,Rch P b x)->Fo (Rch P b) bs0 (lvB P lv st)/\(∀z∈st.2.1,z∈(lvB P lv st).2.1)/\∀x∈lv,∀p∈P,0<x.getD p.toNat 0->Vi x p∈(lvB P lv st).2.1
 |[],st,h,_=>⟨h,fun z hz=>hz,by simp⟩
 |x::lv,st,h,hL=>by
  obtain⟨a1,a2,a3⟩:=Fo.fold (x:=x) (L:=J9 P x) h fun y hy=>by
   obtain⟨h1,h2,h3⟩:=J3.mp hy
   rw[h3]
   exact .step (hL x (by simp)) h1 h2
  obtain⟨b1,b2,b3⟩:=Fo.lv (lv:=lv) a1 fun z hz=>hL z (by simp[hz])
  refine⟨b1,fun z hz=>b2 z (a2 z hz),fun z hz p hp hx=>?_⟩
  rcases Zrt.mp hz with rfl|hz
  ·exact b2 _ (a3 (p,Vi z p) (J3.mpr ⟨hp,hx,rfl⟩))
  ·exact b3 z hz p hp hx
end
noncomputable def wk(P b:List Int):Nat->NB
 |0=>([b],[b],[.non])
 |i+1=>lvB P (wk P b i).1 ([],(wk P b i).2)
structure Wk(P b:List Int)(st:NB):Prop where
 nd:st.2.1.Nodup
 re:∀x∈st.2.1,Rch P b x
 sub:∀x∈st.1,x∈st.2.1
 cl:∀x∈st.2.1,x∈st.1\/∀p∈P,0<x.getD p.toNat 0->Vi x p∈st.2.1
 bg:b∈st.2.1
 ln:st.2.2.length=st.2.1.length
 fl:PV.flats st.2.2=true
theorem ZaC(P b:List Int):∀i,Wk P b (wk P b i)
 |0=>⟨by simp[wk],fun x hx=>by rw[ZrD.mp hx];exact .refl,fun x hx=>hx,fun x hx=>.inl hx,by simp[wk],rfl,rfl⟩
 |i+1=>by
  have h:=ZaC P b i
  have f0:Fo (Rch P b) (wk P b i).2.1 ([],(wk P b i).2):=⟨by simp,h.nd,h.re,h.ln,h.fl⟩
  obtain⟨a1,a2,a3⟩:=Fo.lv f0 fun x hx=>h.re x (h.sub x hx)
  show Wk P b (lvB P (wk P b i).1 ([],(wk P b i).2))
  refine⟨a1.nd,a1.re,fun x hx=>?_,fun x hx=>?_,a2 _ h.bg,a1.ln,a1.fl⟩
  ·rw[a1.app];exact Zro.mpr (.inr hx)
  ·rw[a1.app] at hx
   rcases Zro.mp hx with hx|hx
   ·right
    intro p hp hp0
    rcases h.cl x hx with c|c
    ·exact a3 x c p hp hp0
    ·exact a2 _ (c p hp hp0)
   ·exact .inl hx
theorem Zhx(P b:List Int)(i:Nat):(wk P b (i+1)).2.1=(wk P b i).2.1++(wk P b (i+1)).1:=by
 have h:=ZaC P b i
 have f0:Fo (Rch P b) (wk P b i).2.1 ([],(wk P b i).2):=⟨by simp,h.nd,h.re,h.ln,h.fl⟩
 exact(Fo.lv f0 fun x hx=>h.re x (h.sub x hx)).1.app
theorem Zhw(P b:List Int):∀i,(∀j,j<=i->(wk P b j).1≠[])->i+1<=(wk P b i).2.1.length
 |0,_=>by simp[wk]
 |i+1,h=>by
  have ih:=Zhw P b i fun j hj=>h j (by omega)
  rw[Zhx,ZrT]
  have:=List.length_pos_iff.mpr (h (i+1) (Zrl _))
  omega
noncomputable def wkN(P b:List Int):Nat:=((List.range 1001).find? fun i=>(wk P b i).1.isEmpty).getD 0
structure Zb3(n:Nat)(s:Int)(P b:List Int):Prop where
 n1:1<=n
 hP:∀p∈P,0<=p/\p<n
 hb:Bs n s b
 few:cbN n s<=1000
theorem Zb3.le{n:Nat}{s:Int}{P b:List Int}(h:Zb3 n s P b)(i:Nat):(wk P b i).2.1.length<=1000:=by
 have:=ZhW h.n1 (ZaC P b i).nd fun x hx=>((ZaC P b i).re x hx).bs h.hP h.hb
 have:=h.few
 omega
theorem Zb3.end{n:Nat}{s:Int}{P b:List Int}(h:Zb3 n s P b):wkN P b<=1000/\(wk P b (wkN P b)).1=[]/\∀j,j<wkN P b->(wk P b j).1≠[]:=by
 have hex:∃i,i<1001/\(wk P b i).1=[]:=by
  apply Classical.byContradiction
  intro c
  have:=Zhw P b 1000 fun j hj e=>c ⟨j,by omega,e⟩
  have:=h.le 1000
  omega
 obtain⟨t,t1,t2⟩:=hex
 unfold wkN
 cases hf:(List.range 1001).find? fun i=>(wk P b i).1.isEmpty with
 |none =>
  have:=ZsT.mp hf t (ZrB.mpr t1)
  rw[t2] at this
  exact absurd rfl this
 |some q =>
  obtain⟨q1,q2,q3⟩:=List.find?_range_eq_some.mp hf
  refine⟨by have:=ZrB.mp q2;simp only[Zsk];omega,List.isEmpty_iff.mp q1,fun j hj e=>?_⟩
  have:=q3 j hj
  simp[e] at this
noncomputable def QF(P b:List Int):List (List Int):=(wk P b (wkN P b)).2.1
theorem Zb3.mem{n:Nat}{s:Int}{P b:List Int}(h:Zb3 n s P b){x:List Int}:x∈QF P b ↔ Rch P b x:=by
 have W:=ZaC P b (wkN P b)
 have e:=h.end.2.1
 constructor
 ·exact fun hx=>W.re x hx
 ·intro hx
  induction hx with
  |refl=>exact W.bg
  |step _ hp h0 ih =>
   rcases W.cl _ ih with c|c
   ·rw[e] at c;cases c
   ·exact c _ hp h0
theorem ZbF(P b:List Int):(QF P b).Nodup:=(ZaC P b _).nd
noncomputable def ZdH(P b:List Int):List (List Int):=Zah (QF P b)
theorem Zjm(P b:List Int):(ZdH P b).Nodup:=(ZH _).nodup_iff.mpr (ZbF P b)
theorem Zb3.com{n:Nat}{s:Int}{P b:List Int}(h:Zb3 n s P b){x:List Int}:x∈ZdH P b ↔ Rch P b x:=by
 unfold ZdH
 rw[(ZH _).mem_iff,h.mem]
theorem Zb3.go{n:Nat}{s:Int}{P b:List Int}(h:Zb3 n s P b){x:List Int}(hx:Rch P b x):Zb3 n s P x:=⟨h.n1,h.hP,hx.bs h.hP h.hb,h.few⟩
noncomputable def endB(P x:List Int):Bool:=P.all fun p=>decide (x.getD p.toNat 0=0)
noncomputable def Zg(n:Nat)(l:List Int):List Int:=((List.range n).filter fun(i:Nat)=>decide ((i:Int) ∉ l)).map fun(i:Nat)=>(i:Int)
theorem JC{n:Nat}{l:List Int}{p:Int}:p∈Zg n l ↔ (0<=p/\p<n)/\p ∉ l:=by
 unfold Zg
 constructor
 ·intro h
  obtain⟨i,hi,rfl⟩:=Zrz.mp h
  obtain⟨h1,h2⟩:=ZrS.mp hi
  have:=ZrB.mp h1
  exact⟨by omega,of_decide_eq_true h2⟩
 ·rintro⟨h1,h2⟩
  exact Zrz.mpr ⟨p.toNat,ZrS.mpr ⟨ZrB.mpr (by omega),decide_eq_true (by rw[ZrA h1.1];exact h2)⟩,by omega⟩
theorem Um(n:Nat)(l:List Int):(Zg n l).length<=n:=by
 unfold Zg
 rw[Zrj]
 exact Zr7 (Zsj _ _) (by simp)
section
variable {n:Nat}{s:Int}{P b:List Int} (F:Zb3 n s P b)
include F
end
end My
namespace My
open PySem L2
end My
namespace My
open L2
theorem ZhZ:∀{ks:List (List Key)}{xs:List PV}{k:List Key}{v:PV}{j:Nat},ks.Nodup->ks[j]?=some k->xs[j]?=some v->atK ks xs k=some v
 |[],_,_,_,_,_,h,_=>by simp at h
 |k'::ks,[],_,_,_,_,_,h=>by simp at h
 |k'::ks,x::xs,k,v,0,_,h1,h2=>by
  simp at h1 h2
  subst h1 h2
  simp[atK]
 |k'::ks,x::xs,k,v,j+1,nd,h1,h2=>by
  simp only[ZsP] at h1 h2
  obtain⟨n1,n2⟩:=Zse.mp nd
  have:k'≠k:=fun e=>n1 (by rw[e];exact Zrh h1)
  have ih:=ZhZ n2 h1 h2
  simp only[atK]
  rw[if_neg this]
  exact ih
theorem ZjH{bs:List (List Int)}(h:bs.Nodup):(bs.map tI).Nodup:=by
 rw[Zsc,Zsb]
 exact(Zsc.mp h).imp fun hab e=>hab (Zc8 e)
structure ZmJ(ks:List (List Key))(vs:List PV)(N:Nat)(ys:Nat->List Int)(ps:Nat->Int):Prop where
 up:∀t,t<N->atK ks vs (tI (ys t))=some (.tup [ZK (ys (t+1)),.int (ps t)])
 last:atK ks vs (tI (ys N))=some .non
section
variable {n:Nat}{s:Int}{P b o:List Int} (F:Zb3 n s P b) (ho:Rch P b o)
include F ho
end
noncomputable abbrev DQ:=List (List Int)×List (List Int)
structure Dq(R:List Int->Prop)(M0:List (List Int))(st:DQ):Prop where
 app:st.2=M0++st.1
 nd:st.2.Nodup
 re:∀z∈st.1,R z
section
end
end My
namespace L2
open PySem PySem.Spec PyProof.Rows
noncomputable def ZdP(Rk:Value->Value->Bool)(tag:Value->Nat)(x y:Keyed):Bool:=Rk x.1 y.1 || (!(Rk y.1 x.1)&&decide (tag x.2<tag y.2))
theorem QS{Rk:Value->Value->Bool}{tag:Value->Nat}{x y:Keyed}:ZdP Rk tag x y=false ↔ Rk x.1 y.1=false/\(Rk y.1 x.1=true\/tag y.2<=tag x.2):=by
 unfold ZdP
 cases h1:Rk x.1 y.1<;>cases h2:Rk y.1 x.1<;>simp
section
variable {prog:Program}{w:World}{A:Around}{E:Value->Shared->Prop}{s:Shared}{a kS:Addr}{e1:Nat}{vs ks:List Value}{P:PySem.Fin->Shared->Prop}
theorem ZiR(κ:SortKind)(Rk:Value->Value->Bool)(tag:Value->Nat)(ho:s.heap.get? a=some (seqObj "list" #[] e1)){ne:Nat}(hk0:s.heap.get? kS=some (seqObj "list" ks.toArray ne))(hka:kS≠a)(hz:vs.length<=1000000)(hl:ks.length=vs.length)(hk:2<=vs.length->∀(Q:SortKind->Shared->Prop),Q κ s->wpAny (model prog w) A (keyKind' ks.toArray) Q E s)(hc:∀x y,x∈ks->y∈ks->∀C:Bool->Shared->Prop,C (Rk x y) s->wpAny (model prog w) A (keyLt' κ x y) C (fun _ _=>False) s)(asy:∀x y,x∈ks->y∈ks->Rk x y=true->Rk y x=false)(tr:∀x y z,x∈ks->y∈ks->z∈ks->Rk y x=false->Rk z y=false->Rk z x=false)(ht:∀i x,vs[i]?=some x->tag x=i)(hq:∀h' c (ps:List Keyed),(∀b o,b≠a->b≠kS->s.heap.get? b=some o->h'.get? b=some o)->ps.Perm (ks.zip vs)->ps.Pairwise (fun x y=>ZdP Rk tag y x=false)->h'.get? a=some (seqObj "list" (ps.map (·.2)).toArray c)->P (.done (.ret .none)) { s with heap:=h' }) :
  wpAny (model prog w) A (ksk_end a false vs.toArray e1 (.ref kS) ks.toArray) P E s:=by
 have line:vs.length<=sizeLine:=Jk hz
 have hzs:(ks.toArray.zip vs.toArray).size=vs.length:=by rw[Array.size_zip,Zrq,Zrq,hl,Ztv]
 have fin:∀st:SortSt,failedOf st=none->(arrOf st).Perm (ks.toArray.zip vs.toArray)->(arrOf st).toList.Pairwise (fun x y=>ZdP Rk tag y x=false)->wpAny (model prog w) A (ksk_tail a false e1 (.ref kS) st) P E s:=fun st hf hp hs=>by
  have hsz:(arrOf st).size=vs.length:=by rw[hp.size_eq,hzs]
  have b1:=Heap.SameBut.update s.heap kS (Obj.mapSeq fun _=>(#[]:Array Value))
  have a1:(s.heap.update kS (Obj.mapSeq fun _=>(#[]:Array Value))).get? a=some (seqObj "list" #[] e1):=(b1.2 a (Ne.symm hka)).trans ho
  have b2:=Heap.SameBut.update (s.heap.update kS (Obj.mapSeq fun _=>(#[]:Array Value))) a (Obj.mapSeq fun _=>(arrOf st).map (·.2))
  obtain⟨c2,hc2⟩:∃c2,((s.heap.update kS (Obj.mapSeq fun _=>(#[]:Array Value))).update a (Obj.mapSeq fun _=>(arrOf st).map (·.2))).get? a=some (seqObj "list" ((arrOf st).map (·.2)) c2):=⟨_,get?_update_seq a1 _⟩
  unfold ksk_tail
  dsimp only
  refine wpAny_bind (listUpdate_at hk0 rfl (wpAny_bind (wpAny_letGo (wpAny_bind (seqEpoch_at a1 rfl (wpAny_bind (listUpdate_at a1 rfl ?_ (ZrI _) ?_)))))) ?_ (ZrI _))
  ·rw[hf]
   simp only[bne_self_eq_false,Bool.false_eq_true,if_false]
   refine wpAny_pure (hq _ c2 (arrOf st).toList (fun b o nb nk q=>(b2.2 b nb).trans ((b1.2 b nk).trans q)) ?_ hs ?_)
   ·have:=ZsC.mp hp
    rwa [ksk_zip] at this
   ·rw[hc2]
    congr 1
    congr 1
    apply ZsG.mp
    rw[Zs2]
  ·simp only[Bool.false_eq_true,if_false]
   rw[Array.size_map,hsz];exact Zr7 line (ZsI _)
  ·rw[Zrq,hl];exact line
 unfold ksk_end
 dsimp only
 simp only[Bool.false_eq_true,if_false]
 by_cases h2:vs.length<2
 ·have e2:vs.toArray.size<2:=by rw[Zrq];exact h2
  rw[if_pos e2,if_pos e2]
  refine wpAny_bind (wpAny_pure (wpAny_bind (wpAny_pure (fin _ rfl (Array.Perm.refl _) ?_))))
  show (ks.toArray.zip vs.toArray).toList.Pairwise _
  have hlen:(ks.toArray.zip vs.toArray).toList.length<2:=by rw[Zrm,hzs];exact h2
  exact Zh8 hlen
 ·have e2:¬vs.toArray.size<2:=by rw[Zrq];exact h2
  rw[if_neg e2,if_neg e2]
  refine wpAny_bind (hk (by omega) _ ?_)
  have zget:∀(i:Nat) (x:Keyed),(ks.toArray.zip vs.toArray)[i]?=some x->x.1∈ks/\vs[i]?=some x.2:=fun i x hx=>by
   rw[<- Zrv,ksk_zip,ZrY] at hx
   exact⟨Zrh hx.1,hx.2⟩
  have C0:Vj prog w A s κ (fun x=>x.1∈ks) (fun x y=>Rk x.1 y.1) (fun _ _=>True):=
   ⟨fun x y hx hy _ Q q=>hc _ _ hx hy Q q,fun x y hx hy q=>asy _ _ hx hy q,fun x y z hx hy hz q r=>tr _ _ _ hx hy hz q r⟩
  have C:Vj prog w A s κ (fun x=>x.1∈ks) (ZdP Rk tag) (fun x y=>ZdP Rk tag x y=Rk x.1 y.1):=by
   refine⟨fun x y hx hy ok Q q=>hc _ _ hx hy Q (by rw[<- ok];exact q),fun x y hx hy q=>?_,fun x y z hx hy hz q r=>?_⟩
   ·rw[QS]
    unfold ZdP at q
    simp only[Bool.or_eq_true,Bool.and_eq_true,Bool.not_eq_true',decide_eq_true_eq] at q
    rcases q with q|⟨q1,q2⟩
    ·exact⟨asy _ _ hx hy q,.inl q⟩
    ·exact⟨q1,.inr (Zs7 q2)⟩
   ·rw[QS] at q r ⊢
    refine⟨tr _ _ _ hx hy hz q.1 r.1, ?_⟩
    cases h:Rk x.1 z.1 with
    |true=>exact .inl rfl
    |false =>
     have h1:=tr _ _ _ hz hx hy h q.1
     have h2:=tr _ _ _ hy hz hx r.1 h
     right
     have t1:=q.2.resolve_left (by rw[h2];simp)
     have t2:=r.2.resolve_left (by rw[h1];simp)
     exact Zr7 t1 t2
  have run:=UQ (E:=E) C C0 ⟨fun x y h=>by unfold ZdP;rw[h];rfl,fun _ _ h=>h⟩ (st:=SortSt.mk' κ (ks.toArray.zip vs.toArray) #[] 7 none)
   (Q:=fun _ st'=>failedOf st'=none/\(arrOf st').Perm (ks.toArray.zip vs.toArray)/\Up (ZdP Rk tag) (arrOf st') 0 (ks.toArray.zip vs.toArray).size) rfl rfl
   (fun i hi=>(zget i _ (VG hi)).1) rfl (fun e p q hp hq hs=>by
    have hs':q<(ks.toArray.zip vs.toArray).size:=hs
    have g1:=ht _ _ (zget q _ (VG hs')).2
    have g2:=ht _ _ (zget p _ (VG (Nat.lt_trans (Zr0 hp hq) hs'))).2
    show ZdP Rk tag (gA (ks.toArray.zip vs.toArray) q) (gA (ks.toArray.zip vs.toArray) p)=_
    unfold ZdP
    rw[g1,g2,decide_eq_false (by omega),Bool.and_false,Bool.or_false]) (fun st' k1 k2 k3=>⟨k1,k2,k3⟩)
  refine wpAny_bind (wpAny_mono run ?_ fun _ _ e=>e)
  rintro⟨⟨⟩,st⟩ s' ⟨rfl,hf,hp,hu⟩
  dsimp only at hf hp hu ⊢
  refine fin st hf hp ?_
  have sr:=hu.srt (Ztn (by rw[ZrW,hp.size_eq]))
  rw[ZsE,ZrO (Ztn (by rw[Zrm,hp.size_eq]))] at sr
  exact sr
theorem Zg9{f:Value}(J:List Value->Shared->Prop)(h0:J [] s)(hz:vs.length<=1000000)(turn:∀(kz:List Value) (x:Value) (s1:Shared),vs[kz.length]?=some x->J kz s1->wpAny (model prog w) A (call f [x]) (fun k s2=>∃n,s2.heap.get? kS=some (seqObj "list" kz.toArray n) /\
   ∀h' c,Heap.SameBut kS s2.heap h'->h'.get? kS=some (seqObj "list" (kz++[k]).toArray c)->J (kz++[k]) { s2 with heap:=h' }) (fun _ _=>False) s1)(fin:∀(kz:List Value) (s1:Shared),kz.length=vs.length->J kz s1->∃n,s1.heap.get? kS=some (seqObj "list" kz.toArray n)/\wpAny (model prog w) A (ksk_end a false vs.toArray e1 (.ref kS) kz.toArray) P E s1) :
  wpAny (model prog w) A (ksk_rest a f false vs.toArray e1 (.ref kS)) P E s:=by
 have line:vs.length<=sizeLine:=Jk hz
 unfold ksk_rest
 refine wpAny_bind (wpAny_rule ?_)
 rw[<- Array.forIn_toList]
 refine wpAny_bind (ksk_fold (fun i s'=>∃kz:List Value,kz.length=i/\J kz s') vs 0 s ⟨[],rfl,h0⟩ (fun j x s' hx hI=>?_) fun s' hI=>?_)
 ·obtain⟨kz,hkl,hJ⟩:=hI
  rw[ZrW] at hkl
  have hj:j<vs.length:=(Zrg.mp hx).1
  refine wpAny_bind (wpAny_attempt (wpAny_mono (turn kz x s' (by rw[hkl];exact hx) hJ) (fun k s2 hk=>?_) fun _ _ q=>q.elim))
  obtain⟨n,e,hn⟩:=hk
  dsimp only
  refine wpAny_bind (listUpdate_at e rfl ?_ (by rw[Zrq];omega) (by rw[Array.size_push,Zrq];omega))
  refine wpAny_pure ⟨rfl,kz++[k],by rw[ZrT,hkl];simp, ?_⟩
  have e2:=get?_update_seq e (fun v=>v.push k)
  have e3:kz.toArray.push k=(kz++[k]).toArray:=by simp
  rw[e3] at e2
  exact hn _ _ (Heap.SameBut.update s2.heap kS _) e2
 ·obtain⟨kz,hkl,hJ⟩:=hI
  rw[ZrW] at hkl
  obtain⟨n,e,hf⟩:=fin kz s' hkl hJ
  exact wpAny_bind (listItems_at e rfl hf)
theorem Zdu{l f:Addr}{Q:Value->Shared->Prop}(hl:s.heap.IsList l vs.toArray)(hz:vs.length<=1000000)(go:∀(D kS:Addr) (e1:Nat) (h3:Heap),(∀b o,s.heap.get? b=some o->h3.get? b=some o)->s.heap.objs.size<=D->D<kS->h3.get? D=some (seqObj "list" #[] e1)->h3.get? kS=some (seqObj "list" #[] 0) ->
   wpAny (model prog w) A.in1.in1 (ksk_rest D (.ref f) false vs.toArray e1 (.ref kS)) (fun r s'=>r=.done (.ret .none)/\Q (.ref D) s') E { s with heap:=h3 }) :
  wpAny (model prog w) A (call (.builtin "sorted") [.ref l] [("key",.ref f)]) Q E s:=by
 have line:vs.length<=sizeLine:=Jk hz
 refine call_function_entry_kw kind_sorted plain_sorted entry_sorted (ksk_s1 _ _) ?_
 unfold Builtin.«sorted»
 refine wpAny_bind (m:=checkCount "sorted" 1 1 _) (wpAny_pure (wpAny_bind (collect_list hl (wpAny_bind (wpAny_newList ?_ line)) line)))
 generalize eg:(s.heap.push (seqObj "list" #[] 0)).update s.heap.objs.size (Obj.mapSeq (·++vs.toArray))=h1
 have z1:h1.objs.size=s.heap.objs.size+1:=by subst eg;rw[Heap.size_update,size_push']
 have k1:∀b o,s.heap.get? b=some o->h1.get? b=some o:=fun b o q=>by
  have lb:=Heap.lt_size q
  subst eg
  rw[Heap.get?_update_ne _ _ _ _ (Zr8 lb)]
  exact Heap.get?_push_of_some _ q
 have hD:(h1.push (seqObj "list" vs.toArray 0)).get? h1.objs.size=some (seqObj "list" vs.toArray 0):=Heap.get?_push_size _ rfl
 show wpAny _ _ _ _ _ { s with heap:=h1.push (seqObj "list" vs.toArray 0) }
 obtain⟨e1,ho1⟩:∃c,((h1.push (seqObj "list" vs.toArray 0)).update h1.objs.size (Obj.mapSeq fun _=>(#[]:Array Value))).get? h1.objs.size=some (seqObj "list" #[] c):=⟨_,get?_update_seq hD _⟩
 refine wpAny_bind (wpAny_holding (wpAny_call_entry_kw slot_list_sort ⟨_,hD,rfl⟩ entry_list_sort ?body (ksk_l1 _ _)))
 rw[show Builtin.«list.sort» ⟨[.ref h1.objs.size],[("key",.ref f)]⟩=ksk_tree h1.objs.size (.ref f) false from ksk_t1 f _]
 unfold ksk_tree
 refine wpAny_bind (listItems_at hD rfl (wpAny_bind (listUpdate_at hD rfl (wpAny_bind (seqEpoch_at ho1 rfl (wpAny_bind (wpAny_newTuple (wpAny_bind (wpAny_newList (wpAny_holding ?_) (ZrI _))) ?_)))) ?_ (ZrI _))))
 rotate_left
 ·exact line
 ·rw[Zrq];exact line
 refine wpAny_mono (go h1.objs.size _ e1 _ (fun b o q=>?_) (by rw[z1];exact ZsI _) ?_ ?_ ?_) (fun r s' ⟨e,q⟩=>?_) fun _ _ e=>e
 ·have nb:b≠h1.objs.size:=Zr8 (by rw[z1];exact ZsV (Heap.lt_size q))
  exact Heap.get?_push_of_some _ (Heap.get?_push_of_some _ ((Heap.get?_update_ne _ _ _ _ nb).trans (Heap.get?_push_of_some _ (k1 b o q))))
 ·rw[size_push',Heap.size_update,size_push'];exact ZsV (Zta _)
 ·exact Heap.get?_push_of_some _ (Heap.get?_push_of_some _ ho1)
 ·exact Heap.get?_push_size _ rfl
 ·subst e
  exact⟨_,rfl,wpAny_pure ⟨_,rfl,q⟩⟩
end
noncomputable abbrev QL:Str := "ends_first.<locals>.<lambda>"
theorem UU{r:List Value}(hr:TriplesOk r):∀{l:List Value},TriplesOk l->TriplesOk (l++r)
 |[],_=>hr
 |.int _ _::.int _ _::c::l,h=>UU (l:=l) hr h
theorem Zb0{pos:Pos}{r:List Value}{c:Value}:∀{l:List Value},TriplesOk l->codeAmong pos (l++r)=some c->codeAmong pos l=some c\/codeAmong pos r=some c
 |[],_,e=>.inr e
 |.int a ta::.int b tb::d::l,h,e=>by
  have e:(if a==pos.line&&b==pos.col then some d else codeAmong pos (l++r))=some c:=e
  show (if a==pos.line&&b==pos.col then some d else codeAmong pos l)=some c\/_
  split at e
  ·rename_i z;rw[if_pos z];exact .inl e
  ·rename_i z;rw[if_neg z];exact Zb0 (l:=l) h e
theorem ZfB{pos p:Pos}{c d:Value}(e:codeAmong pos [rawInt p.line,rawInt p.col,c]=some d):d=c:=by
 have e:(if _ then some c else none)=some d:=e
 split at e
 ·exact(Option.some.inj e).symm
 ·cases e
noncomputable abbrev Zls(params:Arguments)(body:Expr)(scope:Scope)(cl:List (Str×Addr))(pm:Value)(c':Addr)(ctv:Value):Obj:=PySem.W.kla_obj "<lambda>" QL params body scope cl pm c' ctv
section
variable {X:Cx}{pins:List (Addr×Obj)}{σ:St}{H:Hp}{s:Shared}{params:Arguments}{body:Expr}{scope:Scope}{pos:Pos}{f0 c P:Addr}{E:Value->Shared->Prop}{Q:Value->Shared->Prop}
theorem ZiQ{H':Hp}{h':Heap}{tk:Nat}(I:Inv X pins σ H s)(hP:∃ps q,H P=some (.tbl ps q))(sm:Z2 H H')(fr:∀b,H b=none->H' b≠none->s.heap.objs.size<=b)(hx:∀b o,b≠P->s.heap.get? b=some o->h'.get? b=some o)(ht:∃o,h'.get? P=some o)(ok:HOk X.prog X.w H' h'):Inv X pins σ H' { s with heap:=h',toks:=tk }:=by
 obtain⟨ps,q,hP⟩:=hP
 have np:∀{b},H b=none->b≠P:=fun {b} e z=>by rw[z,hP] at e;cases e
 refine I.call (g':=s.gens) (d':=s.drawn) (ch:=[]) ⟨fun b o e n _ _=>hx b o (np n) e,fun b o e n _ _=>⟨o.slots,hx b o (np n) e⟩,fun b o e n _=>?_,fun b o e _=>?_,fun b xs e=>sm _ _ e,fun b o u e=>sm _ _ e,fun b p q e=>sm _ _ e⟩ ok I.bare (fun b z=>absurd z (by simp))
 ·cases q:H' b with
  |none=>rfl
  |some u=>exact absurd (Heap.lt_size e) (Ztx.mpr (fr b n (by rw[q];simp)))
 ·by_cases z:b=P
  ·rw[z];exact ht
  ·exact⟨o,hx b o z e⟩
theorem Zg6(I:Inv X pins σ H s)(hT:Zb2 X.K f0=some (c,P))(hcode:X.env.code=.ref c)(hqual:X.env.qual ++ "<lambda>"=QL)(hcl:closureFor scope X.env=pure (Q7 scope X.env))(hdef:defaultsOf params X.env=([],[]))(h:∀(f c':Addr) (oc:Obj) (pm ctv:Value) (H':Hp) (s':Shared),Z2 H H'->Inv X pins σ H' s'->Zjy QL oc->H' c'=some (.frz oc (.own c'))->H' f=some (.frz (Zls params body scope (Q7 scope X.env) pm c' ctv) (.own f))->Q (.ref f) s') :
  wpAny (model X.prog X.w) X.A (eval (.Lambda params body scope pos) X.env) Q E s:=by
 refine PySem.W.kla_eval hdef ?_
 rw[hqual]
 have hg:s.heap.Ns mainGlobals X.mg:=I.ok.mod.glob.keeps I.bk
 have hP:H P=some (.tbl #[] QL):=I.base.tbls _ _ _ (I.ok.tab f0 c P hT)
 obtain⟨more,e1,t1,cs⟩:=I.hok P _ hP
 have C:PySem.W.CodeHd s.heap c P:=PySem.W.codeHd_of_K I.kIn (ZeU hT)
 have hgP:mainGlobals≠P:=fun z=>by
  obtain⟨o,es,ep,e,d,_⟩:=hg
  rw[z,e1] at e;cases e;cases d
 have hb:s.heap.BuiltinsAt X.mg P:=by
  obtain⟨bm,o,b1,b2,b3,b4,b5,b6⟩:=I.ok.mod.bmod
  refine⟨bm,o,b1,b2,fun z=>?_,fun z=>?_,I.bk _ _ b3,b4,b5,b6⟩
  ·obtain⟨o',es,ep,e,d,_⟩:=I.ok.mod.glob
   rw[z,e] at b3;cases b3;rw[d] at b6;cases b6
  ·have:=I.bk _ _ b3
   rw[z,e1] at this;cases this;cases b6
 cases hcm:codeAmong pos ((#[]:Array Value)++more).toList with
 |some cv =>
  obtain⟨c',oc,rfl,hc',hCo⟩:=cs pos cv hcm
  refine PySem.W.kla_makeFunctionHit (mg:=X.mg) hcl I.ok.glob hg hcode C e1 t1 hcm hb fun ctv h' tk hk hsz=>?_
  have hf:H h'.objs.size=none:=I.hok.fresh hsz
  refine h h'.objs.size c' oc _ ctv (upd H h'.objs.size (.frz _ (.own h'.objs.size))) _ (Z2.new hf) (I.laid (t':=tk) (fun b u e=>Heap.get?_push_of_some _ (hk b u e)) hsz ⟨Heap.get?_push_size _ rfl,_,Heap.get?_push_size _ rfl⟩) hCo ?_ Zv
  rw[Zp (Z3 hc' hf)];exact hc'
 |none =>
  refine PySem.W.kla_makeFunction (mg:=X.mg) hcl I.ok.glob hg hcode C e1 t1 hcm hgP hb fun c' ctv h' tk hx hge hlt hrec htb=>?_
  obtain⟨c₂,oc,vs,t,e2,hoc,hd,hv⟩:=hrec
  cases e2
  have hc0:H c'=none:=I.hok.fresh hge
  have hf0:H h'.objs.size=none:=I.hok.fresh (Zr7 hge (Zs7 hlt))
  have hcf:c'≠h'.objs.size:=Zr8 hlt
  have hf1:upd H c' (.frz oc (.own c')) h'.objs.size=none:=by rw[Zp (Ne.symm hcf)];exact hf0
  have sm:∀u,Z2 H (upd (upd H c' (.frz oc (.own c'))) h'.objs.size u):=fun u=>(Z2.new hc0).trans (Z2.new hf1)
  refine h h'.objs.size c' oc ((X.mg "__name__").getD .none) ctv (upd (upd H c' (.frz oc (.own c'))) h'.objs.size (.frz (Zls params body scope (Q7 scope X.env) ((X.mg "__name__").getD .none) c' ctv) (.own h'.objs.size))) _ (sm _) ?_ ⟨vs,t,hd,hv⟩ ?_ Zv
  rotate_left
  ·rw[Zp hcf];exact Zv
  have push:∀{b o},h'.get? b=some o->(h'.push (Zls params body scope (Q7 scope X.env) ((X.mg "__name__").getD .none) c' ctv)).get? b=some o:=fun e=>Heap.get?_push_of_some _ e
  refine ZiQ (P:=P) (h':=h'.push _) I ⟨_,_,hP⟩ (sm _) (fun b hn hn'=>?_) (fun b o nb e=>push (hx b o nb e)) ⟨_,push htb⟩ (fun b u e=>?_)
  ·by_cases z:b=h'.objs.size
   ·rw[z];exact Zr7 hge (Zs7 hlt)
   ·by_cases z':b=c'
    ·rw[z'];exact hge
    ·rw[Zp z,Zp z'] at hn';exact absurd hn hn'
  ·by_cases z:b=h'.objs.size
   ·subst z;rw[Zv] at e;cases e
    exact⟨Heap.get?_push_size _ rfl,_,Heap.get?_push_size _ rfl⟩
   ·rw[Zp z] at e
    by_cases z':b=c'
    ·subst z';rw[Zv] at e;cases e
     exact⟨push hoc,_,push hoc⟩
    ·rw[Zp z'] at e
     by_cases zP:b=P
     ·subst zP
      rw[hP] at e;cases e
      refine⟨more++#[rawInt pos.line,rawInt pos.col,.ref c'], ?_, ?_,fun pos' cv q=>?_⟩
      ·rw[push htb,Zto]
      ·rw[<- Zto,Zs0]
       exact UU (by trivial) t1
      ·rw[<- Zto,Zs0] at q
       rcases Zb0 t1 q with q|q
       ·obtain⟨c1,o1,r1,r2,r3⟩:=cs pos' cv q
        exact⟨c1,o1,r1,sm _ _ _ r2,r3⟩
       ·have q:=ZfB q
        exact⟨c',oc,q,by rw[Zp hcf];exact Zv,vs,t,hd,hv⟩
     ·refine(I.hok b u e).stay (fun b' v hc q=>push (hx b' v (fun zz=>?_) q)) (fun b' q=>sm _ _ _ q) fun b' xs q=>sm _ _ _ q
      rcases hc with rfl|hc
      ·exact zP zz
      ·rw[zz,hP] at hc;cases hc
noncomputable abbrev ZlO(X:Cx)(scope:Scope)(f c' L:Addr):Env:=PySem.W.envX QL scope L f (.ref c') (Q7 scope X.env)
noncomputable def Zg8(X:Cx)(A:Around)(scope:Scope)(N:List Str)(f c':Addr)(s₂:Shared)(H₂:Hp):Cx where
 prog:=X.prog
 w:=X.w
 K:=X.K
 mg:=X.mg
 base:=X.base
 A:=A.deeper (ZlO X scope f c' s₂.heap.objs.size)
 N:=N
 s₀:=s₂
 H₀:=H₂
 env:=ZlO X scope f c' s₂.heap.objs.size
 outer:=X.stack
 stack:=ZlO X scope f c' s₂.heap.objs.size::X.stack
 ex:=[]
 fn:=fun _=>false
 calm:=true
 pn:=[]
 xe:=fun _ _=>False
structure Zcs(X:Cx)(scope:Scope)(x:Str)(FN:List Str)(js:List Nat):Prop where
 kind:scope.kind=.function
 co:scope.isCoroutine=false
 gen:scope.isGenerator=false
 cell:∀p∈scope.names,p.2≠.cell
 loc:scope.names.lookup x=some .local
 fr:∀p∈scope.names,p.2=.free->X.env.scope.names.lookup p.1=some .cell\/X.env.scope.names.lookup p.1=some .free
 fn:∀y∈FN,scope.names.lookup y=some .free
 at_:js.map (fun j=>X.N[j]?)=FN.map some
noncomputable def ZfF(js:List Nat)(σ:St):St:=js.map fun j=>(σ[j]?).join
theorem JY{x:Str}{FN:List Str}{js:List Nat}(sc:Zcs X scope x FN js)(ok:X.Ok){y:Str}{c:Addr}(h:(Q7 scope X.env).lookup y=some c):X.env.cells.lookup y=some c:=by
 have hm:=PySem.mem_of_lookup h
 unfold Q7 at hm
 obtain⟨p,hp,e⟩:=Zrz.mp hm
 have hp':=ZrS.mp (Zts.mp hp)
 obtain⟨e1,e2⟩:=Prod.mk.inj e
 have hk:=sc.fr p hp'.1 (beq_iff_eq.mp hp'.2)
 obtain⟨c',hc'⟩:=ok.has p.1 hk
 rw[hc'] at e2
 rw[<- e1,hc']
 exact congrArg some e2
theorem ZeT{A:Around}{x:Str}{FN:List Str}{js:List Nat}{f c':Addr}{h₁:Heap}{tk:Nat}{v:V}{u:Value}(I:Inv X pins σ H s)(sc:Zcs X scope x FN js)(hd:A.handled=none)(hA:A.frames=some X.stack)(r:Jf v u)(hns:h₁.Ns s.heap.objs.size (fun y=>[(x,u)].reverse.lookup y))(hk:∀b o,s.heap.get? b=some o->h₁.get? b=some o) :
  Inv (Zg8 X A scope (x::FN) f c' s H) [] (some v::ZfF js σ) H { s with heap:=h₁,toks:=tk }:=by
 have noA:∀b:Addr,b ∉ (Zg8 X A scope (x::FN) f c' s H).ex:=fun b z=>absurd (show b∈([]:List Addr) from z) (by simp)
 refine⟨⟨I.ok.mod,sc.kind,rfl,rfl,Zrl _,fun y z c h1 h2=>?_,fun y hy=>?_,fun y c hf _=>?_,fun _=>hd,Around.frames_deeper hA,.inr ⟨rfl,rfl⟩,fun b z=>absurd z (noA b),I.bs,Zr7 I.ok.bsz I.sz,fun b _ _=>noA b,fun b z=>absurd z (noA b),I.stack,I.stkFree,fun f c P h1=>I.base.tbls _ _ _ (I.ok.tab f c P h1)⟩,
  rfl,I.bare,Un.kept hk,⟨_,hns,fun i y w h1 h2 h3=>?_⟩,fun y c h=>?_,I.hok.fresh (Zrl _),fun y c h=>?_,fun p hp=>absurd (show p∈([]:List (Addr×Obj)) from hp) (by simp),I.hok.kept hk, ?_⟩
 ·exact I.ok.inj y z c (JY sc I.ok h1) (JY sc I.ok h2)
 ·have hy:scope.names.lookup y=some .cell\/scope.names.lookup y=some .free:=hy
  rcases hy with hy|hy
  ·exact absurd rfl (sc.cell _ (PySem.mem_of_lookup hy))
  ·exact UO (X:=X) hy
 ·have hf:false=true:=hf
  cases hf
 ·cases i with
  |zero =>
   have h1:x=y:=Option.some.inj h1
   subst h1
   have h2:v=w:=Option.some.inj (Option.some.inj h2)
   subst h2
   exact⟨u,r,.inl ⟨sc.loc,by simp⟩⟩
  |succ i =>
   have h1:FN[i]?=some y:=h1
   have h2:(ZfF js σ)[i]?=some (some w):=h2
   unfold ZfF at h2
   rw[Zrn] at h2
   have hj:(js.map fun j=>X.N[j]?)[i]?=some (some y):=by rw[sc.at_,Zrn,h1];rfl
   rw[Zrn] at hj
   cases e:js[i]? with
   |none=>rw[e] at h2;cases h2
   |some j =>
    rw[e] at h2 hj
    have hj:X.N[j]?=some y:=Option.some.inj hj
    have h2:(σ[j]?).join=some w:=Option.some.inj h2
    have h2:σ[j]?=some (some w):=by
     cases q:σ[j]? with
     |none=>rw[q] at h2;cases h2
     |some o=>rw[q] at h2;rw[show o=some w from h2]
    have hfree:=sc.fn y (Zrh h1)
    have hvis:=sc.fr _ (PySem.mem_of_lookup hfree) rfl
    obtain⟨m,hn,hl⟩:=I.loc
    obtain⟨u',ru,hlook⟩:=hl j y w hj h2 (.inr hvis)
    obtain⟨c,hcl⟩:=UO (X:=X) hfree
    have hcx:=JY sc I.ok hcl
    refine⟨u',ru,.inr ⟨.inr hfree,c,hcl, ?_⟩⟩
    rcases hlook with ⟨k,_⟩|⟨k,c2,ec,hcell⟩
    ·have k':X.env.scope.names.lookup y=some .local:=k
     have hv':X.env.scope.names.lookup y=some .cell\/X.env.scope.names.lookup y=some .free:=hvis
     rw[k'] at hv'
     rcases hv' with z|z<;>cases z
    ·rw[hcx] at ec;cases ec
     obtain⟨o,ho,hdd⟩:=hcell
     exact⟨o,hk _ _ ho,hdd⟩
 ·obtain⟨v,o,ho,hdd⟩:=I.cell y c (JY sc I.ok h)
  exact⟨v,o,hk _ _ ho,hdd⟩
 ·exact I.freeC y c (JY sc I.ok h)
 ·have:=congrArg List.length sc.at_
  rw[Zrj,Zrj] at this
  show (some v::ZfF js σ).length=(x::FN).length
  unfold ZfF
  simp[this]
theorem Zg7{A:Around}{x:Str}{FN:List Str}{js:List Nat}{f c':Addr}{oc:Obj}{pm ctv:Value}{v:V}{u:Value}{te:TE}{Q:VK}(I:Inv X pins σ H s)(sc:Zcs X scope x FN js)(hd:A.handled=none)(hroom:A.depth<recursionLimit)(hA:A.frames=some X.stack)(hCo:Zjy QL oc)(hc:H c'=some (.frz oc (.own c')))(hf:H f=some (.frz (Zls params body scope (Q7 scope X.env) pm c' ctv) (.own f)))(hb:∀u,bindArgs (PySem.W.kla_fn "<lambda>" QL params body scope (Q7 scope X.env) pm (.ref c') ctv) ⟨[u],[]⟩=pure [(x,u)])(hbody:PE (Zg8 X A scope (x::FN) f c' s H) body te)(r:Jf v u)(hq:te (some v::ZfF js σ) H Q) :
  wpAny (model X.prog X.w) A (call (.ref f) [u]) (EP X pins σ fun v H'=>Q v H'/\∀b o u,H b=some (.frz o u)->H' b=some (.frz o u)) (fun _ _=>False) s:=by
 have ho:=(I.hok f _ hf).1
 have hcd:s.heap.CodeRec (.ref c') QL:=let ⟨vs,t,h1,h2⟩:=hCo;⟨c',oc,vs,t,rfl,(I.hok c' _ hc).1,h1,h2⟩
 refine wpAny_call (PySem.W.kla_callFunE hroom ho rfl sc.co sc.gen rfl hcd ?_)
 rw[hb]
 refine wpAny_pure (wpAny_newFunctionEnv sc.cell (fun y hy=>?_) (fun h₁ hns hsb=>?_) sc.kind)
 ·have:y=(x,u):=by simpa using hy
  rw[this];exact sc.loc
 have hk:∀b o,s.heap.get? b=some o->h₁.get? b=some o:=fun b o e=>hsb.extBut b o (Zr8 (Heap.lt_size e)) (Heap.get?_push_of_some _ e)
 refine⟨I.nolimit.keeps hk, ?_⟩
 have I1:=ZeT (tk:=s.toks+[(x,u)].length) (f:=f) (c':=c') I sc hd hA r hns hk
 refine PySem.W.kla_codeExpr (wpAny_mono (hbody [] _ _ H Q I1 hq) (fun u' s' h'=>?_) fun _ _ z=>z.elim)
 obtain⟨v',H',J,r',q'⟩:=h'
 exact I.after ⟨v',H',J.os,J.bare,J.base,J.hok,r',q',J.base.frzs⟩
end
noncomputable def Zho(kz:List (List Int)):List (List Int):=kz.zipIdx.map fun p=>p.1++[((p.2:Nat):Int)]
noncomputable def stK(kz:List (List Int)):List Nat:=(Zah (Zho kz)).map fun l=>(l.getLastD 0).toNat
theorem Zdd:∀{l:List Addr}{i:Nat}{a:Addr},l.Nodup->l[i]?=some a->l.idxOf a=i
 |[],i,a,_,h=>by simp at h
 |b::l,0,a,_,h=>by
  have h:b=a:=by simpa using h
  subst h;simp
 |b::l,i+1,a,nd,h=>by
  have h:l[i]?=some a:=by simpa using h
  obtain⟨n1,n2⟩:=Zse.mp nd
  have hb:b≠a:=fun z=>n1 (by rw[z];exact Zrh h)
  rw[List.idxOf_cons,show (b==a)=false from beq_false_of_ne hb]
  simp only[cond_false]
  rw[Zdd n2 h]
theorem Zm8{a b c d:Int}{i j:Nat}:HT.ZA ([a,b]++[(i:Int)]) ([c,d]++[(j:Int)])=(HT.ZA [a,b] [c,d] || (!(HT.ZA [c,d] [a,b])&&decide (i<j))):=by
 have e:∀(x y z u v w:Int),HT.ZA [x,y,z] [u,v,w]=decide (x<u\/(x=u/\(y<v\/(y=v/\z<w)))):=fun x y z u v w=>by
  unfold HT.ZA HT.ZA HT.ZA HT.ZA
  by_cases h1:x=u<;>by_cases h2:y=v<;>by_cases h3:z=w<;>simp[h1,h2,h3]<;>omega
 have e2:∀(x y u v:Int),HT.ZA [x,y] [u,v]=decide (x<u\/(x=u/\y<v)):=fun x y u v=>by
  unfold HT.ZA HT.ZA HT.ZA
  by_cases h1:x=u<;>by_cases h2:y=v<;>simp[h1,h2]<;>omega
 rw[show ([a,b]++[(i:Int)])=[a,b,(i:Int)] from rfl,show ([c,d]++[(j:Int)])=[c,d,(j:Int)] from rfl,e,e2,e2]
 rw[Bool.eq_iff_iff]
 simp only[Bool.or_eq_true,Bool.and_eq_true,Bool.not_eq_true',decide_eq_true_eq,decide_eq_false_iff_not]
 omega
noncomputable def Zc5(te:TE)(ws:St):List V->Hp->(List V->Hp->Prop)->Prop
 |[],H,Q=>Q [] H
 |x::xs,H,Q=>te (some x::ws) H fun k H1=>Zc5 te ws xs H1 fun ks H2=>Q (k::ks) H2
noncomputable def Zc3(K:W.Frag)(te:TE)(js:List Nat)(ta:TA):TE:=fun σ H Q=>ta σ H fun xs H1=>∃p,∃as:List Addr,xs=[.ref p]/\SqL K H1 p (as.map V.ref)/\as.Nodup/\as.length<=1000000 /\
 ∀H2,Z2 H1 H2->Zc5 te (ZfF js σ) (as.map V.ref) H2 fun ks H3=>∃ys:List PL2,ks=(ys.map fun t=>V.ref t.1)/\(∀t∈ys,SqT K H3 t.1 (t.2.map V.int)/\t.2.length=2)/\ys.length=as.length /\
  ∀l,H3 l=none->Q (.ref l) (upd H3 l (.lst ((stK (ys.map (·.2))).map fun i=>V.ref (as.getD i 0))))
theorem ZaE:∀{as:List Addr}{us:List Value},ZP (as.map V.ref) us->us=as.map Value.ref
 |[],_,.nil=>rfl
 |a::as,_,.cons r rr=>by
  have r:_=Value.ref a:=r
  rw[r,ZaE rr];rfl
theorem ZaN:∀(as:List Addr),ZP (as.map V.ref) (as.map Value.ref)
 |[]=>.nil
 |a::as=>.cons rfl (ZaN as)
noncomputable def ZhK(N:List Str)(sc scope:Scope)(x:Str)(FN:List Str)(js:List Nat):Bool:=(scope.kind==.function)&&!scope.isCoroutine&&!scope.isGenerator&&(scope.names.all fun p=>!(p.2==.cell))&&(scope.names.lookup x==some .local)
 && (scope.names.all fun p=>!(p.2==.free) || sc.names.lookup p.1==some .cell || sc.names.lookup p.1==some .free)&&(FN.all fun y=>scope.names.lookup y==some .free)&&decide (js.map (fun j=>N[j]?)=FN.map some)
theorem Zcs.of{X:Cx}{N:List Str}{sc scope:Scope}{x:Str}{FN:List Str}{js:List Nat}(h:ZhK N sc scope x FN js=true)(hs:X.env.scope=sc:=by rfl)(hN:X.N=N:=by rfl):Zcs X scope x FN js:=by
 subst hs;subst hN
 unfold ZhK at h
 simp only[Bool.and_eq_true,ZrR,decide_eq_true_eq,Bool.not_eq_true',Bool.or_eq_true,beq_iff_eq,beq_eq_false_iff_ne] at h
 obtain⟨⟨⟨⟨⟨⟨⟨h1,h2⟩,h3⟩,h4⟩,h5⟩,h6⟩,h7⟩,h8⟩:=h
 refine⟨h1,h2,h3,fun p hp=>h4 p hp,h5,fun p hp e=>?_,h7,h8⟩
 rcases h6 p hp with (z|z)|z
 ·exact absurd e z
 ·exact .inl z
 ·exact .inr z
theorem VW.lam{j k:Nat}{A:Around}{env:Env}(r:VW k A)(h:j+3<=k):VW j (A.in1.in1.deeper env):=((r.mono h).in1.in1).deeper env
section
variable {X:Cx}{params:Arguments}{body e:Expr}{scope:Scope}{np lpos kp pos:Pos}{f0 c P:Addr}{x:Str}{FN:List Str}{js:List Nat}{te:TE}{ta:TA}
theorem Zdv{K:W.Frag}{k:Nat}(hg:Gl X "sorted")(hm:X.mg "sorted"=none)(hv:bootBuiltins "sorted"=some (.builtin "sorted"))(ha:PA X [e] ta)(hT:Zb2 K f0=some (c,P))(hcode:X.env.code=.ref c)(hqual:X.env.qual ++ "<lambda>"=QL)(sc:Zcs X scope x FN js)(hr:VW (k+2) X.A)(hbody:∀f c' s H,PE (Zg8 X X.A.in1.in1 scope (x::FN) f c' s H) body te)(hb:∀cl pm c' ctv u,bindArgs (PySem.W.kla_fn "<lambda>" QL params body scope cl pm (.ref c') ctv) ⟨[u],[]⟩=pure [(x,u)]:=by intros;rfl)(hcl:closureFor scope X.env=pure (Q7 scope X.env):=by rfl)(hdef:defaultsOf params X.env=([],[]):=by rfl)(he:backTo pos (starEach [e] X.env)=(false,eval e X.env)::backTo pos (starEach [] X.env):=by rfl)(hpl:(backTo pos (starEach [e] X.env)).any (·.1)=false:=by rfl)(eK:X.K=K:=by rfl) :
  PE X (.Call (.Name "sorted" np) [e] [⟨some "key",.Lambda params body scope lpos,kp⟩] pos) (Zc3 K te js ta):=by
 subst eK
 intro pins s σ H Q I h
 refine wpAny_Call_Name_kw (Qm I hg hm hv ?_ (by decide) (by decide))
 refine callWith_kw (thn (ha pos pins s σ H _ I h) fun us s1 ⟨vs,H1,I1,r1,q1⟩=>?_) he hpl
 obtain⟨p,as,rfl,hS,nd,hz,q⟩:=q1
 obtain⟨u,rfl,rx⟩:=UT r1
 cases rx
 refine kws_cons (Zg6 I1 hT hcode hqual hcl hdef fun f c' oc pm ctv H2 s2 sm I2 hCo hc hf=>kws_nil ?_)
 show wpAny _ _ (call (.builtin "sorted") [.ref p] [("key",.ref f)]) _ _ s2
 have q2:=q H2 sm
 obtain⟨its,r',pl,hz'⟩:=I2.list (show SqL X.K H2 p (as.map V.ref) from hS.imp (fun z=>z.same sm) id)
 have hits:=ZaE r'
 subst hits
 refine Zdu pl.isList (by simpa using hz) fun D kS e1 h3 kk hD hDk oD okS=>?_
 have I3:Inv X pins σ H2 { s2 with heap:=h3 }:=I2.kept (t':=s2.toks) kk
 have fpD:ZfE X pins H2 D:=I2.fpOk hD (I2.hok.fresh hD)
 have hK:s2.heap.objs.size<=kS:=Zr7 hD (Zs7 hDk)
 have fpK:ZfE X pins H2 kS:=I2.fpOk hK (I2.hok.fresh hK)
 have hne:kS≠D:=ZsY hDk
 have pinned:∀{H4:Hp}{s4:Shared}{o1 o2:Obj},Inv X pins σ H4 s4->H4 D=none->H4 kS=none->s4.heap.get? D=some o1->s4.heap.get? kS=some o2->(∀v,o1.data≠.cell v)->(∀v,o2.data≠.cell v)->Inv X (pins++[(D,o1),(kS,o2)]) σ H4 s4:=fun {H4 s4 o1 o2} J n1 n2 g1 g2 d1 d2=>by
  refine J.pins_of fun pp hp=>?_
  rcases Zro.mp hp with hp|hp
  ·exact J.pin pp (Zrk _ hp)
  ·rcases Zrt.mp hp with rfl|hp
   ·exact⟨g1,n1,fpD.2.1,fpD.2.2.1,d1⟩
   ·rw[ZrD.mp hp]
    exact⟨g2,n2,fpK.2.1,fpK.2.2.1,d2⟩
 have unpin:∀{H4:Hp}{s4:Shared}{o1 o2:Obj},Inv X (pins++[(D,o1),(kS,o2)]) σ H4 s4->Inv X pins σ H4 s4/\(s4.heap.get? D=some o1/\H4 D=none)/\s4.heap.get? kS=some o2/\H4 kS=none:=fun {H4 s4 o1 o2} J=>by
  have p1:=J.pin (D,o1) (by simp)
  have p2:=J.pin (kS,o2) (by simp)
  exact⟨J.pins_of fun pp hp=>J.pin pp (Zrk _ (Zrp _ hp)),⟨p1.1,p1.2.1⟩,p2.1,p2.2.1⟩
 refine Zg9 (J:=fun kz s4=>∃H4 vks n,Inv X (pins++[(D,seqObj "list" #[] e1),(kS,seqObj "list" kz.toArray n)]) σ H4 s4/\(∀b o u,H2 b=some (.frz o u)->H4 b=some (.frz o u))/\ZP vks kz /\
  Zc5 te (ZfF js σ) ((as.map V.ref).drop kz.length) H4 (fun ks H3=>∃ys:List PL2,vks++ks=(ys.map fun t=>V.ref t.1)/\(∀t∈ys,SqT X.K H3 t.1 (t.2.map V.int)/\t.2.length=2)/\ys.length=as.length /\
   ∀l,H3 l=none->Q (.ref l) (upd H3 l (.lst ((stK (ys.map (·.2))).map fun i=>V.ref (as.getD i 0)))))) ?_ (by simpa using hz) ?_ ?_
 ·exact⟨H2,[],0,pinned I3 fpD.1 fpK.1 oD okS (fun v z=>nomatch z) (fun v z=>nomatch z),fun _ _ _ z=>z,.nil,q2⟩
 ·rintro kz xv s4 hx ⟨H4,vks,n,I4,fz,rk,hq⟩
  obtain⟨a,ha',rfl⟩:∃a,as[kz.length]?=some a/\Value.ref a=xv:=by
   rw[Zrn] at hx
   cases z:as[kz.length]? with
   |none=>rw[z] at hx;cases hx
   |some a=>rw[z] at hx;exact⟨a,rfl,Option.some.inj hx⟩
  have hdrop:(as.map V.ref).drop kz.length=V.ref a::(as.map V.ref).drop (kz.length+1):=by
   have hlt:kz.length<(as.map V.ref).length:=by rw[Zrj];exact(Zrg.mp ha').1
   rw[ZrH hlt]
   congr 1
   rw[List.getElem_map]
   rw[Zrg] at ha'
   obtain⟨_,e⟩:=ha'
   rw[e]
  rw[hdrop] at hq
  have hr2:VW k X.A.in1.in1:=hr.in1.in1
  refine wpAny_mono (Zg7 I4 sc hr2.hd hr2.depth I4.ok.frames hCo (fz _ _ _ hc) (fz _ _ _ hf) (hb _ _ _ _) (hbody f c' s4 H4) (v:=V.ref a) rfl hq) (fun kv s5 h5=>?_) fun _ _ z=>z
  obtain⟨v5,H5,I5,r5,q5,fz5⟩:=h5
  obtain⟨I5',⟨gD,nD⟩,gK,nK⟩:=unpin I5
  refine⟨n,gK,fun h' cc sb g'=>⟨H5,vks++[v5],cc, ?_,fun b o u z=>fz5 _ _ _ (fz b o u z),rk.append (.cons r5 .nil), ?_⟩⟩
  ·have I6:Inv X pins σ H5 { s5 with heap:=h' }:=I5'.turned (t':=s5.toks) (it:=kS) (fun b o nb e=>(sb.2 b nb).trans e) nK fpK.2.1 fpK.2.2.2.1 fpK.2.2.2.2.1 fpK.2.2.2.2.2
   exact pinned I6 nD nK ((sb.2 D (Ne.symm hne)).trans gD) g' (fun v z=>nomatch z) (fun v z=>nomatch z)
  ·rw[show (kz++[kv]).length=kz.length+1 by simp]
   simpa[Zrr] using q5
 ·rintro kz s4 hkl ⟨H4,vks,n,I4,fz,rk,hq⟩
  obtain⟨I4',⟨gD,nD⟩,gK,nK⟩:=unpin I4
  refine⟨n,gK, ?_⟩
  rw[Zs4 (by rw[Zrj] at hkl ⊢;omega)] at hq
  obtain⟨ys,ey,hy,hyl,hQ⟩:=hq
  rw[ZsL] at ey
  subst ey
  have hkz:=US rk
  subst hkz
  have tup:∀t∈ys,∃vs:List Value,ZP (t.2.map V.int) vs/\IsTup s4.heap t.1 vs.toArray:=fun t ht=>by
   obtain⟨vs,rv,pt,_⟩:=I4'.tuple (hy t ht).1
   exact⟨vs,rv,pt⟩
  have hu:∀t∈ys,∀t'∈ys,t.1=t'.1->t.2=t'.2:=fun t ht t' ht' e=>by
   obtain⟨vs,rv,ob,eo,oc,k1,od⟩:=tup t ht
   obtain⟨vs',rv',ob',eo',oc',k1',od'⟩:=tup t' ht'
   rw[e,eo'] at eo
   cases eo
   rw[od] at od'
   have e2:vs.toArray=vs'.toArray:=by injection od'
   have e3:vs=vs':=by simpa using e2
   subst e3
   rw[<- (JT rv).1,<- (JT rv').1]
  refine ZiR (tuples' true) (fun x y=>HT.ZA (Ju ys (J0 x)) (Ju ys (J0 y))) (fun v=>as.idxOf (J0 v)) gD gK hne (by simpa using hz) (by simp[hyl]) (fun h2 Q' q'=>?_) (fun x y hx hy' C q'=>?_) (fun x y _ _ h=>Uh h) (fun x y z _ _ _ h1 h2=>JM h1 h2) (fun i x hx=>?_) fun h' cc ps k4 p1 p2 g'=>?_
  ·have:∀(ts:List PL2) (its:List Value),(∀t∈ts,t.2≠[]/\∃vs:List Value,ZP (t.2.map V.int) vs/\IsTup s4.heap t.1 vs.toArray)->ZP (ts.map fun t=>V.ref t.1) its->∃fs:List Value,fs.length=ts.length/\PySem.W.KatTups s4.heap its fs/\∀v∈fs,∃n t,v=Value.int n t:=by
    intro ts
    induction ts with
    |nil =>
     intro its _ rv
     cases rv
     exact⟨[],rfl,trivial,by simp⟩
    |cons t ts ih =>
     intro its ht rv
     cases rv with
     |cons rv tv =>
      obtain⟨fs,e1,e2,e3⟩:=ih _ (fun t' h'=>ht t' (Zr6 _ h')) tv
      obtain⟨hne,vs,rvs,ob,eo,oc,k,od⟩:=ht t (ZrM ..)
      obtain⟨n,ns,en⟩:=Zsn hne
      rw[en] at rvs
      cases rvs with
      |cons rn tn =>
       obtain⟨tk,rfl⟩:=rn
       have rv':_=Value.ref t.1:=rv
       subst rv'
       exact⟨.int n tk::fs,by simp[e1],⟨⟨t.1,ob,_,k,rfl,eo,oc,od,rfl⟩,e2⟩,fun v hv=>(Zrt.mp hv).elim (fun z=>⟨n,tk,z⟩) (e3 v)⟩
   obtain⟨fs,e1,e2,e3⟩:=this ys _ (fun t ht=>⟨(fun z=>by have h2:=(hy t ht).2;rw[z] at h2;cases h2),tup t ht⟩) (Vq ys)
   exact PySem.W.kat_kind (T:=.type "int") e2 (by rw[e1,hyl];rw[Zrj] at h2;omega) (fun v hv=>by obtain⟨n,t,rfl⟩:=e3 v hv;exact PySem.W.Looks.of_pure rfl) rfl q'
  ·obtain⟨t,ht,rfl⟩:=Zrz.mp hx
   obtain⟨t',ht',rfl⟩:=Zrz.mp hy'
   obtain⟨vs,rv,ob,eo,oc,k1,od⟩:=tup t ht
   obtain⟨vs',rv',ob',eo',oc',k1',od'⟩:=tup t' ht'
   refine PySem.W.kat_lt eo od eo' od' (UM rv rv' ?_ ?_)
   ·simp
   ·rw[show J0 (.ref t.1)=t.1 from rfl,show J0 (.ref t'.1)=t'.1 from rfl,Jq hu ht,Jq hu ht'] at q'
    exact q'
  ·rw[Zrn] at hx
   cases z:as[i]? with
   |none=>rw[z] at hx;cases hx
   |some a =>
    rw[z] at hx
    have hx:Value.ref a=x:=Option.some.inj hx
    subst hx
    exact Zdd nd z
  ·have mem:∀y∈ps,∃t∈ys,∃i a,as[i]?=some a/\y=(Value.ref t.1,Value.ref a):=fun y hy'=>by
    have hm:=p1.mem_iff.mp hy'
    obtain⟨i,hi⟩:=Zr4 hm
    rw[ZrY,Zrn,Zrn] at hi
    obtain⟨h1,h2⟩:=hi
    cases z1:ys[i]? with
    |none=>rw[z1] at h1;cases h1
    |some t =>
     cases z2:as[i]? with
     |none=>rw[z2] at h2;cases h2
     |some a =>
      rw[z1] at h1;rw[z2] at h2
      exact⟨t,Zrh z1,i,a,z2,Prod.ext (Option.some.inj h1).symm (Option.some.inj h2).symm⟩
   generalize hcmp:(fun y:Keyed=>Ju ys (J0 y.1)++[((as.idxOf (J0 y.2):Nat):Int)])=cmp
   have up:UpU (ps.map cmp):=by
    refine Zsb.mpr (p2.imp_of_mem fun {y z} hy' hz' h=>?_)
    obtain⟨t,ht,i,a,hi,rfl⟩:=mem y hy'
    obtain⟨t',ht',i',a',hi',rfl⟩:=mem z hz'
    subst hcmp
    unfold ZdP at h
    dsimp only at h ⊢
    rw[show J0 (.ref t.1)=t.1 from rfl,show J0 (.ref t'.1)=t'.1 from rfl,Jq hu ht,Jq hu ht'] at h ⊢
    obtain⟨p0,p1,ep⟩:∃p0 p1,t.2=[p0,p1]:=by
     have:=(hy t ht).2
     match t.2,this with
     |[p0,p1],_=>exact⟨p0,p1,rfl⟩
    obtain⟨p0',p1',ep'⟩:∃p0 p1,t'.2=[p0,p1]:=by
     have:=(hy t' ht').2
     match t'.2,this with
     |[p0,p1],_=>exact⟨p0,p1,rfl⟩
    rw[ep,ep'] at h ⊢
    rw[Zm8]
    exact h
   have hz0:(((ys.map fun t=>Value.ref t.1).zip (as.map Value.ref)).map cmp)=Zho (ys.map (·.2)):=by
    subst hcmp
    unfold Zho
    apply ZrX
    intro i
    rw[Zrn,Zrn,List.getElem?_zipIdx,Zrn]
    cases z1:ys[i]? with
    |none =>
     have hl1:=ZrU.mp z1
     rw[Zr3 (by rw[Zsw,Zrj,Zrj];omega)]
     rfl
    |some t =>
     have hi:i<as.length:=by rw[<- hyl];exact(Zrg.mp z1).1
     have z2:as[i]?=some as[i]:=Zri hi
     rw[show ((ys.map fun t=>Value.ref t.1).zip (as.map Value.ref))[i]?=some (Value.ref t.1,Value.ref as[i]) from by
      rw[ZrY,Zrn,Zrn,z1,z2];exact⟨rfl,rfl⟩]
     simp only[ZsR,Option.some.injEq]
     rw[show J0 (.ref t.1)=t.1 from rfl,Jq hu (Zrh z1),show J0 (.ref as[i])=as[i] from rfl,Zdd nd z2,ZrW]
   have hs:ps.map cmp=Zah (Zho (ys.map (·.2))):=by
    refine VY up (VM _) (((p1.map cmp).trans ?_).trans (ZH _).symm)
    rw[hz0]
   have hres:((stK (ys.map (·.2))).map fun i=>V.ref (as.getD i 0))=ps.map fun y=>V.ref (J0 y.2):=by
    unfold stK
    rw[<- hs,Zr1,Zr1]
    refine ZrN fun y hy'=>?_
    obtain⟨t,ht,i,a,hi,rfl⟩:=mem y hy'
    subst hcmp
    show V.ref (as.getD ((Ju ys t.1++[((as.idxOf a:Nat):Int)]).getLastD 0).toNat 0)=V.ref a
    rw[ZsD,ZrL,Zdd nd hi,Zrf,hi]
    rfl
   have hv:ZP ((stK (ys.map (·.2))).map fun i=>V.ref (as.getD i 0)) (ps.map (·.2)):=by
    rw[hres]
    have:=ZaN (ps.map fun y=>J0 y.2)
    rw[Zr1,Zr1] at this
    have e2:ps.map (Value.ref∘fun y=>J0 y.2)=ps.map (·.2):=ZrN fun y hy'=>by
     obtain⟨t,ht,i,a,hi,rfl⟩:=mem y hy'
     rfl
    rw[e2] at this
    exact this
   have I7:Inv X pins σ H4 { s4 with heap:=h' }:=I4'.turned2 (t':=s4.toks) (it:=kS) (e:=D) (fun b o n1 n2 q=>k4 b o n1 n2 q) fun b hb'=>by
    rcases hb' with rfl|rfl
    ·exact⟨nD,fpD.2.1,fpD.2.2.2.1,fpD.2.2.2.2.1,fpD.2.2.2.2.2⟩
    ·exact⟨nK,fpK.2.1,fpK.2.2.2.1,fpK.2.2.2.2.1,fpK.2.2.2.2.2⟩
   have hsD:X.s₀.heap.objs.size<=D:=Zr7 I2.sz hD
   have I8:=I7.adopt (D:=D) (ys:=(stK (ys.map (·.2))).map fun i=>V.ref (as.getD i 0)) (its:=ps.map (·.2)) (n:=cc) nD hsD fpD.2.1 fpD.2.2.2.2.1 fpD.2.2.2.2.2 g' hv (by
    rw[hv.length,Zrj,p1.length_eq,Zsw,Zrj,Zrj]
    exact Zr7 (Nat.min_le_right _ _) (Jk hz))
   exact⟨rfl,.ref D,_,I8,rfl,hQ D nD⟩
end
noncomputable def ZfH(m:List PV->Rr PV)(pa pb:PV)(t:List Int):List Int:=match m [ZK t,pa,pb] with
 |.ok (.tup [.int a,.int b])=>[a,b]
 |_=>[]
def OkK(m:List PV->Rr PV)(pa pb:PV)(ts:List (List Int)):Prop:=ts.Nodup/\ts.length<=1000000/\∀t∈ts,∃a b,m [ZK t,pa,pb]=.ok (.tup [.int a,.int b])
open Classical in
noncomputable def UJ(m:List PV->Rr PV)(pa pb:PV)(xs:List PV):Rr PV:=if h:∃ts:List (List Int),xs=[.lst (ts.map ZK)]/\OkK m pa pb ts then newF ((stK (h.choose.map (ZfH m pa pb))).map fun i=>ZK (h.choose.getD i [])) else .bad
theorem ZbJ{m:List PV->Rr PV}{pa pb:PV}{ts:List (List Int)}(h:OkK m pa pb ts):UJ m pa pb [.lst (ts.map ZK)]=newF ((stK (ts.map (ZfH m pa pb))).map fun i=>ZK (ts.getD i [])):=by
 have hex:∃us:List (List Int),[PV.lst (ts.map ZK)]=[.lst (us.map ZK)]/\OkK m pa pb us:=⟨ts,rfl,h⟩
 unfold UJ
 rw[dif_pos hex]
 have hs:ts.map ZK=hex.choose.map ZK:=PV.lst.inj (List.cons.inj hex.choose_spec.1).1
 have e:hex.choose=ts:=(Vn hs).symm
 rw[e]
theorem Za1{kz:List (List Int)}{l:List Int}(h:l∈Zho kz):∃i k,kz[i]?=some k/\l=k++[((i:Nat):Int)]:=by
 unfold Zho at h
 obtain⟨⟨k,i⟩,hp,rfl⟩:=Zrz.mp h
 have:=List.mem_zipIdx_iff_getElem?.mp hp
 exact⟨i,k,this,rfl⟩
theorem Zee{kz:List (List Int)}{i:Nat}(h:i∈stK kz):i<kz.length:=by
 unfold stK at h
 obtain⟨l,hl,rfl⟩:=Zrz.mp h
 obtain⟨j,k,hj,rfl⟩:=Za1 ((ZH _).mem_iff.mp hl)
 rw[ZsD,ZrL]
 exact(Zrg.mp hj).1
theorem ZhG:∀{qs:List PL2},(qs.map fun t=>t.2).Nodup->(∀t∈qs,∀t'∈qs,t.1=t'.1->t.2=t'.2)->(qs.map (·.1)).Nodup
 |[],_,_=>List.nodup_nil
 |t::qs,nd,hi=>by
  rw[Zru] at nd ⊢
  obtain⟨n1,n2⟩:=Zse.mp nd
  refine Zse.mpr ⟨fun z=>?_,ZhG n2 fun a ha b hb=>hi a (Zr6 _ ha) b (Zr6 _ hb)⟩
  obtain⟨t',ht',e⟩:=Zrz.mp z
  exact n1 (Zrz.mpr ⟨t',ht',hi t' (Zr6 _ ht') t (ZrM ..) e⟩)
section
variable {K:W.Frag}{EX:PX->Hp->Prop}{Γ Γ':List Md}{ta:TA}{fa:List PV->Rr (List PV)}{m:List PV->Rr PV}
noncomputable abbrev teL(K:W.Frag)(m:List PV->Rr PV):TE:=QA (spF K 3 .P W0 m) (U0 (ZaI 0) (U0 (ZaI 1) (U0 (ZaI 2) ZdY)))
theorem Zdc{pa pb:PV}{wa wb:V}:∀(qs:List PL2) (H2:Hp) (QQ:List V->Hp->Prop),Rep K H2 (fun _=>True) pa wa->Rep K H2 (fun _=>True) pb wb->(∀t∈qs,Rep K H2 (fun _=>True) (ZK t.2) (V.ref t.1)) ->
  (∀t∈qs,∃a b,m [ZK t.2,pa,pb]=.ok (.tup [.int a,.int b])) ->
  (∀H3 (ys:List PL2),Z2 H2 H3->ys.map (·.2)=qs.map (fun t=>ZfH m pa pb t.2)->(∀t∈ys,SqT K H3 t.1 (t.2.map V.int)/\t.2.length=2)->QQ (ys.map fun t=>V.ref t.1) H3) ->
  Zc5 (teL K m) [some wa,some wb] (qs.map fun t=>V.ref t.1) H2 QQ
 |[],H2,QQ,_,_,_,_,h=>h H2 [] (Z2.refl _) rfl (by simp)
 |t::qs,H2,QQ,ra,rb,rq,hm,h=>by
  obtain⟨a,b,e⟩:=hm t (by simp)
  show teL K m (some (V.ref t.1)::[some wa,some wb]) H2 _
  refine⟨_,rfl,_,rfl,_,rfl,fun _=>True,[ZK t.2,pa,pb],⟨_,_,rfl,rq t (by simp),_,_,rfl,ra,_,_,rfl,rb,rfl⟩,rfl, ?_⟩
  rw[e]
  intro v H1 s1 r1
  obtain⟨_,p,ws,rfl,hi,hr⟩:=r1
  obtain⟨v1,r',rfl,h1,h2⟩:=hr
  obtain⟨v2,r'',rfl,h3,h4⟩:=h2
  cases h1;cases h3;cases h4
  refine Zdc qs H1 _ (ra.same s1) (rb.same s1) (fun t' ht'=>(rq t' (by simp[ht'])).same s1) (fun t' ht'=>hm t' (by simp[ht'])) fun H3 ys s3 ey hy=>?_
  have hk:ZfH m pa pb t.2=[a,b]:=by unfold ZfH;rw[e]
  refine h H3 ((p,[a,b])::ys) (s1.trans s3) (by rw[Zru,Zru,ey,hk]) fun t' ht'=>?_
  rcases Zrt.mp ht' with rfl|ht'
  ·exact⟨(s3.im hi).sqT,rfl⟩
  ·exact hy t' ht'
theorem ZdF{ja jb:Nat}{ma mb:Md}(ha:DAA K EX Γ Γ' ta fa)(h1:Γ'[ja]?=some ma)(hm1:ma≠.U)(h2:Γ'[jb]?=some mb)(hm2:mb≠.U) :
  DE K EX Γ Γ' .F (Zc3 K (teL K m) [ja,jb] ta) (fun ρ=>(fa ρ).bind (UJ m (gv ja ρ) (gv jb ρ))):=fun B H0 H σ ρ F R Q A d=>by
 refine ha B H0 H σ ρ F R _ A (d.bind.imp (fun xs _ d vs H1 F1 s1 f1 p1 A1=>?_) fun e q=>q)
 obtain⟨wa,ea,ra⟩:=A1.getA h1 hm1
 obtain⟨wb,eb,rb⟩:=A1.getA h2 hm2
 unfold UJ at d
 split at d
 ·rename_i hex
  have hs:=hex.choose_spec
  generalize hex.choose=ts at d hs
  obtain⟨rfl,nd,hl,hk⟩:=hs
  obtain⟨g1,g2,d⟩:=Dn.newF d
  obtain⟨v,rfl,a,ws,rfl,hn,hr⟩:=VN p1
  obtain⟨qs,rfl,rfl,e3⟩:=U1 hr
  have hnd:(qs.map (·.1)).Nodup:=by
   have hinj:∀t∈qs,∀t'∈qs,t.1=t'.1->t.2=t'.2:=fun t ht t' ht' e=>by
    obtain⟨p,us,e1,i1,r1⟩:=(e3 t ht).2
    obtain⟨p',us',e1',i1',r1'⟩:=(e3 t' ht').2
    cases e1;cases e1'
    rw[e] at i1
    have h3:=i1.1.symm.trans i1'.1
    have h4:us=us':=by injection h3 with h3;injection h3
    subst h4
    have h5:=(Vp r1).symm.trans (Vp r1')
    exact Zs6 (fun x y h=>by injection h) |>.mp h5
   exact ZhG nd hinj
  refine⟨a,qs.map (·.1),rfl, ?_,hnd,by simpa using hl,fun H2 sm=>?_⟩
  ·rw[Zr1]
   exact JG (S:=fun _=>True) hn
  have hsel:ZfF [ja,jb] σ=[some wa,some wb]:=by
   unfold ZfF
   rw[Zru,Zru,ZsK,ea,eb];rfl
  rw[hsel,Zr1]
  refine Zdc (pa:=gv ja ρ) (pb:=gv jb ρ) qs H2 _ (ra.same sm) (rb.same sm) (fun t ht=>(e3 t ht).2.same sm) (fun t ht=>hk _ (ZsJ ht)) fun H3 ys s3 ey hy=>?_
  have eyl:ys.length=qs.length:=by
   have:=congrArg List.length ey
   rwa [Zrj,Zrj] at this
  refine⟨ys,rfl,hy,by rw[Zrj];exact eyl,fun l hz=>?_⟩
  have A3:=A1.grow (sm.trans s3)
  have hst:stK (ys.map (·.2))=stK ((qs.map fun t=>t.2).map (ZfH m (gv ja ρ) (gv jb ρ))):=by rw[ey,Zr1];rfl
  rw[hst]
  refine d _ _ ((s1.trans (sm.trans s3)).trans (Z2.new hz)) (Res.newP (S:=fun _=>True) (s1.trans (sm.trans s3)) f1 ?_ g1 A3 hz)
  have hlt:∀i∈stK ((qs.map fun t=>t.2).map (ZfH m (gv ja ρ) (gv jb ρ))),i<qs.length:=fun i hi=>by
   have:=Zee hi
   simpa using this
  generalize stK ((qs.map fun t=>t.2).map (ZfH m (gv ja ρ) (gv jb ρ)))=is at hlt
  clear d g1 g2
  induction is with
  |nil=>exact rfl
  |cons i is ih =>
   have hi:=hlt i (by simp)
   refine⟨_,_,rfl, ?_,ih fun j hj=>hlt j (by simp[hj])⟩
   have:=((e3 qs[i] (Zs1 hi)).2.same (sm.trans s3))
   dsimp only
   rw[Zrf,Zrf,Zrn,Zrn,Zri hi]
   exact this
 ·exact d.elim
end
def Zif(K:W.Frag)(f:Addr)(cdv:Value):Prop:=∃oc od fd osl,K.lookup f=some ⟨oc,od,.func fd,osl⟩/\fd.code=cdv/\fd.name = "ends_first"
noncomputable def Zk2(K:W.Frag)(ts:List Addr):Bool:=K.all fun p=>match p.2 with
 |⟨_,_,.func fd,_⟩=>if fd.name = "ends_first" then (match Zb2 K p.1 with
  |some (_,P)=>ts.contains P&&(K.lookup P).isNone
  |none=>false) else true
 |_=>true
theorem ZeW{K:W.Frag}{ts:List Addr}{h:Heap}(hc:Zk2 K ts=true)(ht:∀P∈ts,h.get? P=some (PySem.W.tabObj #[])):Zjx K h:=fun f c P e=>by
 have e0:=e
 unfold Zb2 at e
 split at e
 ·rename_i oc od fd osl hk
  have hm:=ZrR.mp hc _ (PySem.W.mem_of_lookupK hk)
  dsimp only at hm
  split at e
  ·rename_i hn
   rw[if_pos hn,e0] at hm
   simp only[Bool.and_eq_true,Zs8] at hm
   exact⟨ht _ hm.1,Option.isNone_iff_eq_none.mp hm.2⟩
  ·cases e
 ·cases e
noncomputable def Zk1(K:W.Frag):Bool:=K.all fun p=>match p.2 with
 |⟨_,_,.func fd,_⟩=>if fd.name = "ends_first" then (Zb2 K p.1).isSome else true
 |_=>true
theorem ZeV{K:W.Frag}{f:Addr}{cdv:Value}(hc:Zk1 K=true)(hf:Zif K f cdv):∃c P,Zb2 K f=some (c,P)/\cdv=.ref c:=by
 obtain⟨oc,od,fd,osl,hk,e1,e2⟩:=hf
 have hm:=ZrR.mp hc _ (PySem.W.mem_of_lookupK hk)
 dsimp only at hm
 rw[if_pos e2] at hm
 cases e:Zb2 K f with
 |none=>rw[e] at hm;cases hm
 |some cp =>
  obtain⟨c,P⟩:=cp
  refine⟨c,P,rfl, ?_⟩
  unfold Zb2 at e
  rw[hk] at e
  dsimp only at e
  rw[if_pos e2,e1] at e
  cases cdv with
  |ref c0 =>
   dsimp only at e
   split at e
   ·split at e
    ·split at e
     ·cases e;rfl
     ·cases e
    ·cases e
   ·cases e
  |_=>cases e
section
variable {P:Program}{w:World}{K:W.Frag}{mg:Str->Option Value}{base:Heap}
theorem Fun.okL{qual:Str}{st:Stmt}{f:Addr}{fd:FuncData}{N ps:List Str}{k n l:Nat}{kd:Kd}{m:List PV->Rr PV}(F:Fun K "ends_first" qual st f fd)(S:Zy N ps (Zk st))(hn:ps.length=n)(hl:N.length-n=l)(hbody:∀(cdv:Value) (A:Around) (outer:List Env) (s:Shared) (H:Hp) (E:XK),Zif K f cdv->VW k (A.deeper (envOfC qual (Zk st) s.heap.objs.size f cdv)) ->
   ∃t g Y,Y.r=kd/\PSs (Zhm CX0 P w K mg base N qual (Zk st) f cdv A outer s H E).nox (JQ st) t/\DS K X0 (List.replicate n .S++List.replicate l .U) Y t g/\∀xs,Ref (m xs) (g (xs++List.replicate l .non)).out)(hkN:kd≠.N:=by nofun)(hkM:kd≠.M:=by nofun) :
  JF P w K mg base CX0 (k+1) f fd ps (spF K n kd W0 m):=by
 obtain⟨oc,od,kV,doc,pm,an,cdv,ct,osl,rfl,lk,hcd⟩:=F.ex
 refine ZkK lk hcd S (fun vs H Q E h=>?_) (fun A outer s H vs Q E hr h=>?_)
 ·obtain⟨B,xs,h1,h2,_⟩:=h
  rw[h1.length,h2,hn]
 ·obtain⟨B,xs,h1,h2,dn⟩:=h
  obtain⟨t,g,Y,hY,ht,hd,href⟩:=hbody cdv A outer s H E ⟨_,_,_,_,lk,rfl,rfl⟩ hr
  refine⟨t,ht.nox, ?_⟩
  have A0:=Ag.init (n:=l) h1
  have est:Ua N vs=vs.map some++List.replicate l none:=by
   unfold Ua
   rw[h1.length,h2,hl]
  rw[est]
  rw[h2] at A0
  refine hd _ H H _ _ _ _ A0 ?_
  have hdn:Dn (g (xs++List.replicate l .non)).out (fun x=>∀v H',Z2 H H'->Zic K B H kd x v H'->Q v H') (fun e=>∀H',Z2 H H'->W0 e E H'):=by
   rcases href xs with e|e
   ·rw[e] at dn;exact dn.elim
   ·rw[<- e];exact dn
  have retK:∀{x v H'},Zic K (fun a=>B a\/H a=none) H kd x v H'->Zic K B H kd x v H':=fun {x v H'} h=>by
   cases kd with
   |P=>exact h
   |F=>exact h
   |T=>exact Rep.mono (fun a us s r=>⟨r,s.elim id .inr⟩) (fun a us r=>r) h
   |Z=>exact Rep.mono (fun a us s r=>⟨r,s.elim id .inr⟩) (fun a us r=>r) h
   |A=>exact Rep.mono (fun a us s r=>⟨r,s.elim id .inr⟩) (fun a us r=>r) h
   |N=>exact h
   |M=>exact h
  cases e:g (xs++List.replicate l .non) with
  |next ρ =>
   rw[e] at hdn
   refine fun σ' H' F' fr A'=>hdn .non H' A'.same ?_
   cases kd with
   |P=>exact⟨rfl,rfl⟩
   |F=>exact⟨[],⟨rfl,rfl⟩,by simp⟩
   |T=>exact rfl
   |Z=>exact rfl
   |A=>exact rfl
   |N=>exact absurd rfl hkN
   |M=>exact absurd rfl hkM
  |ret x=>rw[e] at hdn;exact fun v H' s r=>hdn v H' s (retK (hY▸r))
  |exc q=>rw[e] at hdn;exact fun H' s=>hdn H' s
  |brk ρ=>rw[e] at hdn;exact hdn.elim
  |cont ρ=>rw[e] at hdn;exact hdn.elim
  |bad=>rw[e] at hdn;exact hdn.elim
end
theorem Zfz(kz:List (List Int)):(stK kz).Perm (List.range kz.length):=by
 unfold stK
 refine((ZH (Zho kz)).map _).trans (List.Perm.of_eq ?_)
 unfold Zho
 rw[Zr1]
 apply ZrX
 intro i
 rw[Zrn,List.getElem?_zipIdx]
 by_cases hi:i<kz.length
 ·rw[Zri hi,ZrZ hi]
  simp only[ZsR,Function.comp,Option.some.injEq]
  rw[ZsD];omega
 ·rw[Zr3 (by omega),Zr3 (by simpa using hi)]
  rfl
theorem JO{α:Type}(ts:List α)(d:α):(List.range ts.length).map (fun i=>ts.getD i d)=ts:=by
 apply ZrX
 intro i
 rw[Zrn]
 by_cases hi:i<ts.length
 ·rw[ZrZ hi,Zri hi,ZsR,Zrf,Zri hi];rfl
 ·rw[Zr3 (by simpa using hi),Zr3 (by omega)];rfl
theorem ZfS{α:Type}{ts:List α}{d:α}{kz:List (List Int)}(h:kz.length=ts.length):((stK kz).map fun i=>ts.getD i d).Perm ts:=by
 refine((Zfz kz).map _).trans (List.Perm.of_eq ?_)
 rw[h,JO]
theorem ZiO{k k':List Int}{a b:Int}(hl:k.length=k'.length)(h:HT.ZA (k++[a]) (k'++[b])=false):HT.ZA k k'=false:=by
 induction k generalizing k' with
 |nil =>
  cases k' with
  |nil=>rfl
  |cons y k'=>simp at hl
 |cons x k ih =>
  cases k' with
  |nil=>simp at hl
  |cons y k' =>
   have hl:k.length=k'.length:=by simpa using hl
   rw[ZsF,ZsF] at h
   unfold HT.ZA at h ⊢
   by_cases hx:x=y
   ·simp only[hx,if_true] at h ⊢
    first|exact ih hl h|simp_all
   ·simp only[hx,if_false] at h ⊢
    first|exact h|simp_all
theorem ZjN{kz:List (List Int)}(h2:∀k∈kz,k.length=2):((stK kz).map fun i=>kz.getD i []).Pairwise fun x y=>HT.ZA y x=false:=by
 have hu:=VM (Zho kz)
 unfold stK
 rw[Zr1,Zsb]
 refine hu.imp_of_mem fun {x y} hx hy h=>?_
 obtain⟨i,k,hi,rfl⟩:=Za1 ((ZH _).mem_iff.mp hx)
 obtain⟨j,k',hj,rfl⟩:=Za1 ((ZH _).mem_iff.mp hy)
 simp only[Function.comp,ZsD,ZrL]
 rw[Zrf,Zrf,hi,hj]
 show HT.ZA k' k=false
 exact ZiO (by rw[h2 _ (Zrh hi),h2 _ (Zrh hj)]) h
section
end
end L2
namespace My
open PySem PySem.Spec PyProof.Rows L2
noncomputable def Q5(n:Nat)(l:List Int)(p:Int):Nat:=((List.range (n+1)).find? fun(k:Nat)=>decide (1<=k/\(p+(k:Int))%n∈l)).getD 0
structure Zme(n:Nat)(l:List Int)(p:Int)(d:Nat):Prop where
 d1:1<=d
 dn:d<n
 at_:(p+(d:Int))%n∈l
 min:∀k:Nat,1<=k->k<d->(p+(k:Int))%n ∉ l
theorem QR:∀{m:Nat}{f:Nat->Bool}{k:Nat},(List.range m).find? f=some k->f k=true/\k<m/\∀j,j<k->f j=false:=fun {m f k} h=>by
 have h1:=List.find?_some h
 have h2:=ZrB.mp (List.mem_of_find?_eq_some h)
 refine⟨h1,h2,fun j hj=>?_⟩
 rw[List.find?_eq_some_iff_append] at h
 obtain⟨_,as,bs,e,hn⟩:=h
 have hlen:as.length=k:=by
  have e1:(List.range m)[as.length]?=some k:=by rw[e,Zrs (Zrl _)];simp
  rw[ZrZ (by
   have:=congrArg List.length e
   rw[ZsX,ZrT,ZrF] at this
   omega)] at e1
  exact Option.some.inj e1
 have e2:as[j]?=some j:=by
  have:(List.range m)[j]?=some j:=ZrZ (by omega)
  rw[e,Zrw (by omega)] at this
  exact this
 have:=hn j (Zrh e2)
 simpa using this
theorem Zay{n:Nat}{l:List Int}{p:Int}(h0:0<=p)(h1:p<n)(hp:p ∉ l)(hl:∃q∈l,0<=q/\q<n):Zme n l p (Q5 n l p):=by
 unfold Q5
 cases hf:(List.range (n+1)).find? fun(k:Nat)=>decide (1<=k/\(p+(k:Int))%n∈l) with
 |none =>
  exfalso
  obtain⟨q,hq,q0,q1⟩:=hl
  have hn:=ZsT.mp hf
  have hne:q≠p:=fun z=>hp (by rw[<- z];exact hq)
  have m:=Zam (n:=n) q0 q1 h0 h1
  have:=hn ((q-p)%n).toNat (ZrB.mpr (by rw[m];split<;>omega))
  apply this
  refine decide_eq_true ⟨by rw[m];split<;>omega, ?_⟩
  have e:(p+(((q-p)%n).toNat:Int))%n=q:=by
   rw[m]
   split
   ·rw[show p+((q-p).toNat:Int)=q by omega];exact ZrK q0 q1
   ·rw[show p+((q-p+n).toNat:Int)=q+n by omega,ZsQ];exact ZrK q0 q1
  rw[e];exact hq
 |some k =>
  obtain⟨a,b,c⟩:=QR hf
  have a:=of_decide_eq_true a
  rw[Zsk]
  refine⟨a.1, ?_,a.2,fun j j1 j2 z=>?_⟩
  ·have:k≠n:=fun z=>by
    have a2:=a.2
    rw[z,ZsQ,ZrK h0 h1] at a2
    exact hp a2
   omega
  ·have:=c j j2
   rw[decide_eq_true ⟨j1,z⟩] at this
   cases this
noncomputable def VA(n:Nat)(f:Nat->Int):Int:=((List.range n).map f).sum
theorem ZX(n:Nat)(f:Nat->Int):VA (n+1) f=VA n f+f n:=by
 unfold VA
 rw[Ztk,Zsv,List.sum_append];simp
theorem Zae{n:Nat}{f g:Nat->Int}(h:∀i,i<n->f i<=g i):VA n f<=VA n g:=by
 induction n with
 |zero=>exact Ztj _
 |succ n ih =>
  rw[ZX,ZX]
  have:=ih fun i hi=>h i (by omega)
  have:=h n (by omega)
  omega
theorem Vz{n:Nat}{f g:Nat->Int}(h:∀i,i<n->f i=g i):VA n f=VA n g:=
 Int.le_antisymm (Zae fun i hi=>Int.le_of_eq (h i hi)) (Zae fun i hi=>Int.le_of_eq (h i hi).symm)
theorem Zio{n:Nat}{f g:Nat->Int}(h:∀i,i<n->f i<=g i){r:Nat}(hr:r<n)(hs:f r<g r):VA n f<VA n g:=by
 induction n with
 |zero=>omega
 |succ n ih =>
  rw[ZX,ZX]
  by_cases e:r=n
  ·subst e
   have:=Zae (n:=r) fun i hi=>h i (by omega)
   omega
  ·have:=ih (fun i hi=>h i (by omega)) (by omega)
   have:=h n (by omega)
   omega
theorem VZ(n:Nat)(f g:Nat->Int):VA n (fun i=>f i+g i)=VA n f+VA n g:=by
 induction n with
 |zero=>rfl
 |succ n ih=>rw[ZX,ZX,ZX,ih];omega
theorem ZfR(n:Nat)(c:Int)(f:Nat->Int):VA n (fun i=>f i*c)=VA n f*c:=by
 induction n with
 |zero=>simp[VA]
 |succ n ih=>rw[ZX,ZX,ih,Int.add_mul]
theorem Zc9{n:Nat}{p:Nat}(hp:p<n)(v:Int):VA n (fun i=>if i=p then v else 0)=v:=by
 induction n with
 |zero=>omega
 |succ n ih =>
  rw[ZX]
  by_cases e:p=n
  ·subst e
   rw[if_pos rfl]
   have:VA p (fun i=>if i=p then v else 0)=VA p (fun _=>0):=Vz fun i hi=>if_neg (by omega)
   rw[this]
   have z:∀m,VA m (fun _=>(0:Int))=0:=fun m=>by
    induction m with
    |zero=>rfl
    |succ m ih=>rw[ZX,ih];rfl
   rw[z];omega
  ·rw[ih (by omega),if_neg (fun z=>e z.symm)];omega
theorem Zaf:∀(x:List Int),VA x.length (fun i=>x.getD i 0)=x.sum:=fun x=>by
 unfold VA
 congr 1
 exact JO x 0
theorem Zaw(n:Nat)(l:List Int)(g:Int->Int):((Zg n l).map g).sum=VA n fun i=>if (i:Int)∈l then 0 else g i:=by
 unfold Zg
 rw[Zr1]
 induction n with
 |zero=>rfl
 |succ n ih =>
  rw[ZX,Ztk,List.filter_append,Zsv,List.sum_append,ih]
  by_cases e:(n:Int)∈l
  ·simp[e]
  ·simp[e]
noncomputable def ZfI(n:Nat)(l:List Int)(x:List Int):List Int:=[((Zg n l).map fun p=>x.getD p.toNat 0).sum,((Zg n l).map fun p=>x.getD p.toNat 0*(Q5 n l p:Int)).sum]
theorem Zis{n:Nat}{s:Int}{l x:List Int}(hB:Bs n s x)(hl:∃q∈l,0<=q/\q<n){p:Int}(hp:p∈Zg n l)(hx:0<x.getD p.toNat 0):HT.ZA (ZfI n l (Vi x p)) (ZfI n l x)=true:=by
 obtain⟨⟨p0,p1⟩,pl⟩:=JC.mp hp
 obtain⟨hn,nn,sm⟩:=hB
 have D:=Zay p0 p1 pl hl
 generalize hd:Q5 n l p=d at D
 have hB':=Bs.sow (b:=x) ⟨hn,nn,sm⟩ p0 p1
 have get:∀i,i<n->(Vi x p).getD i 0=(if (i:Int)=p then 0 else x.getD i 0)+x.getD p.toNat 0/n+ZfT n p (x.getD p.toNat 0%n) i:=fun i hi=>by
  rw[ZfV (by omega)]
  unfold Za9 Zh2
  rw[hn]
 have h0:=Int.ediv_nonneg (Int.le_of_lt hx) (show (0:Int)<=n by omega)
 have key2:∀a b c e:Int,(a<c\/(a=c/\b<e))->HT.ZA [a,b] [c,e]=true:=fun a b c e h=>by
  unfold HT.ZA HT.ZA HT.ZA
  by_cases h1:a=c
  ·have:b<e:=by omega
   by_cases h2:b=e
   ·omega
   ·simp[h1,h2,this]
  ·have:a<c:=by omega
   simp[h1,this]
 unfold ZfI
 apply key2
 have whole:∀y:List Int,y.length=n->VA n (fun i=>if (i:Int)∈l then y.getD i 0 else 0)+((Zg n l).map fun p=>y.getD p.toNat 0).sum=y.sum:=fun y hy=>by
  rw[Zaw n l fun p=>y.getD p.toNat 0,<- VZ,<- Zaf y,hy]
  refine Vz fun i hi=>?_
  by_cases e:(i:Int)∈l
  ·rw[if_pos e,if_pos e];omega
  ·rw[if_neg e,if_neg e,ZrL];omega
 have w1:=whole x hn
 have w2:=whole (Vi x p) hB'.1
 have hsum:(Vi x p).sum=x.sum:=by rw[hB'.2.2,sm]
 have grow:∀i,i<n->(if (i:Int)∈l then x.getD i 0 else 0)<=(if (i:Int)∈l then (Vi x p).getD i 0 else 0):=fun i hi=>by
  by_cases e:(i:Int)∈l
  ·rw[if_pos e,if_pos e,get i hi,if_neg (fun z=>pl (by rw[<- z];exact e))]
   have:=Zb8 n p (x.getD p.toNat 0%n) i
   omega
  ·rw[if_neg e,if_neg e];exact Ztj _
 by_cases c:(d:Int)<=x.getD p.toNat 0
 ·left
  have hr0:=Zr5 (p+(d:Int)) (show (n:Int)≠0 by omega)
  have hr1:=Zry (p+(d:Int)) (show (0:Int)<n by omega)
  have hrl:=D.at_
  have hmod:=Qh p0 p1 (show (0:Int)<=(d:Int) by omega) (show (d:Int)<n from by have:=D.dn;omega)
  generalize hr:(p+(d:Int))%n=r at hr0 hr1 hrl hmod
  have hrn:r.toNat<n:=by omega
  have strict:=Zio grow (r:=r.toNat) hrn (by
   rw[if_pos (by rw[ZrA hr0];exact hrl),if_pos (by rw[ZrA hr0];exact hrl),get _ hrn,ZrA hr0,if_neg (fun z=>pl (by rw[<- z];exact hrl))]
   by_cases big:(n:Int)<=x.getD p.toNat 0
   ·have:1<=x.getD p.toNat 0/n:=Int.le_ediv_of_mul_le (by omega) (by omega)
    have:=Zb8 n p (x.getD p.toNat 0%n) r.toNat
    omega
   ·rw[ZrK (by omega) (by omega),V0]
    ·omega
    ·rw[ZrA hr0]
     have m2:=Zam (n:=n) hr0 hr1 p0 p1
     have:=D.d1
     have:=D.dn
     rw[m2]
     split at hmod<;>split<;>omega)
  omega
 ·right
  have hq:x.getD p.toNat 0/n=0:=Int.ediv_eq_zero_of_lt (by omega) (by have:=D.dn;omega)
  have hm:x.getD p.toNat 0%n=x.getD p.toNat 0:=ZrK (by omega) (by have:=D.dn;omega)
  generalize hh:x.getD p.toNat 0=h at *
  have near:∀i:Nat,i<n->1<=((i:Int)-p)%n->((i:Int)-p)%n<=h->(i:Int) ∉ l/\(Q5 n l i:Int)<=(d:Int)-1:=fun i hi k1 k2=>by
   obtain⟨k,k1,k2,k3⟩:∃k:Nat,1<=k/\(k:Int)<=h/\(p+(k:Int))%n=i:=by
    refine⟨(((i:Int)-p)%n).toNat,by omega,by omega, ?_⟩
    have m2:=Zam (n:=n) (show (0:Int)<=(i:Int) by omega) (by omega) p0 p1
    rw[ZrA (by omega),m2]
    split
    ·rw[show p+((i:Int)-p)=i by omega];exact ZrK (by omega) (by omega)
    ·rw[show p+((i:Int)-p+n)=i+n by omega,ZsQ];exact ZrK (by omega) (by omega)
   have hil:(i:Int) ∉ l:=fun z=>by
    have:=D.min k k1 (by omega)
    rw[k3] at this
    exact this z
   refine⟨hil, ?_⟩
   have D':=Zay (l:=l) (show (0:Int)<=(i:Int) by omega) (by omega) hil hl
   apply Classical.byContradiction
   intro z
   have:=D'.min (d-k) (by omega) (by omega)
   apply this
   have e:((i:Int)+((d-k:Nat):Int))%n=(p+(d:Int))%n:=by
    rw[<- k3,Int.emod_add_emod]
    congr 1
    omega
   rw[e];exact D.at_
  have same:VA n (fun i=>if (i:Int)∈l then (Vi x p).getD i 0 else 0)=VA n (fun i=>if (i:Int)∈l then x.getD i 0 else 0):=Vz fun i hi=>by
   by_cases e:(i:Int)∈l
   ·rw[if_pos e,if_pos e,get i hi,if_neg (fun z=>pl (by rw[<- z];exact e)),hq,hm,Vo (fun z=>(near i hi z.1 z.2).1 e)]
    omega
   ·rw[if_neg e,if_neg e]
  refine⟨by omega, ?_⟩
  rw[Zaw n l fun q=>(Vi x p).getD q.toNat 0*(Q5 n l q:Int),Zaw n l fun q=>x.getD q.toNat 0*(Q5 n l q:Int)]
  have cnt:VA n (fun i=>ZfT n p h i)=h:=by
   have e1:VA n (fun i=>(Vi x p).getD i 0)=x.sum:=by rw[<- hsum,<- Zaf (Vi x p),hB'.1]
   have e2:VA n (fun i=>(Vi x p).getD i 0)+VA n (fun i=>if i=p.toNat then h else 0)=VA n (fun i=>x.getD i 0)+VA n (fun i=>ZfT n p h i):=by
    rw[<- VZ,<- VZ]
    refine Vz fun i hi=>?_
    rw[get i hi,hq,hm]
    by_cases e:(i:Int)=p
    ·rw[if_pos e,if_pos (by omega),show i=p.toNat by omega,hh];omega
    ·rw[if_neg e,if_neg (by omega)];omega
   rw[Zc9 (by omega),e1] at e2
   have e3:=Zaf x
   rw[hn] at e3
   omega
  have step:VA n (fun i=>(if (i:Int)∈l then 0 else (Vi x p).getD ((i:Int)).toNat 0*(Q5 n l i:Int))+(if i=p.toNat then h*(d:Int) else 0))<=VA n (fun i=>(if (i:Int)∈l then 0 else x.getD ((i:Int)).toNat 0*(Q5 n l i:Int))+ZfT n p h i*((d:Int)-1)):=by
   refine Zae fun i hi=>?_
   rw[ZrL,get i hi,hq,hm]
   by_cases e:(i:Int)=p
   ·have e':i=p.toNat:=by omega
    rw[if_neg (by rw[e];exact pl),if_pos e,if_pos e',if_neg (by rw[e];exact pl),e',hh,ZrA p0,hd,Vo (by rw[ZrA p0,Int.sub_self,Int.zero_emod];omega)]
    simp
   ·rw[if_neg e,if_neg (show ¬i=p.toNat by omega)]
    by_cases g:1<=((i:Int)-p)%n/\((i:Int)-p)%n<=h
    ·obtain⟨g1,g2⟩:=near i hi g.1 g.2
     rw[V0 g,if_neg g1,if_neg g1]
     have:(x.getD i 0+0+1)*(Q5 n l i:Int)=x.getD i 0*(Q5 n l i:Int)+(Q5 n l i:Int):=by
      rw[Int.add_zero,Int.add_mul,Int.one_mul]
     rw[this]
     omega
    ·rw[Vo g]
     by_cases e2:(i:Int)∈l
     ·rw[if_pos e2,if_pos e2];omega
     ·rw[if_neg e2,if_neg e2];simp
  rw[VZ,VZ,ZfR,cnt,Zc9 (show p.toNat<n by omega)] at step
  have:h*((d:Int)-1)=h*(d:Int)-h:=by rw[Int.mul_sub,Ztg]
  omega
noncomputable def enF(n:Nat)(l b:List Int):List (List Int):=(stK ((QF (Zg n l) b).map (ZfI n l))).map fun i=>(QF (Zg n l) b).getD i []
theorem UN(n:Nat)(l b:List Int):(enF n l b).Perm (QF (Zg n l) b):=ZfS (by simp)
theorem Qv(n:Nat)(l b:List Int):(enF n l b).Nodup:=(UN n l b).nodup_iff.mpr (ZbF _ _)
theorem ZkM(n:Nat)(l b:List Int):(enF n l b).Pairwise fun x y=>HT.ZA (ZfI n l y) (ZfI n l x)=false:=by
 have h:=ZjN (kz:=(QF (Zg n l) b).map (ZfI n l)) (fun k hk=>by obtain⟨x,_,rfl⟩:=Zrz.mp hk;rfl)
 unfold enF
 rw[Zsb] at h ⊢
 refine h.imp_of_mem fun {i j} hi hj q=>?_
 have li:=Zee hi
 have lj:=Zee hj
 rw[Zrj] at li lj
 rw[Zrf,Zrf,Zrn,Zrn,Zri li,Zri lj] at q
 rw[Zrf,Zrf,Zri li,Zri lj]
 exact q
structure UP(n:Nat)(s:Int)(l b:List Int):Prop where
 f:Zb3 n s (Zg n l) b
 bar:∃q∈l,0<=q/\q<n
theorem UP.len{n:Nat}{s:Int}{l b:List Int}(h:UP n s l b):(enF n l b).length<=1000:=by
 rw[(UN n l b).length_eq];exact h.f.le _
theorem UP.mem{n:Nat}{s:Int}{l b:List Int}(h:UP n s l b){x:List Int}:x∈enF n l b ↔ Rch (Zg n l) b x:=by
 rw[(UN n l b).mem_iff];exact h.f.mem
theorem UP.ahead{n:Nat}{s:Int}{l b:List Int}(h:UP n s l b){i:Nat}{x:List Int}(hi:(enF n l b)[i]?=some x){p:Int}(hp:p∈Zg n l)(hx:0<x.getD p.toNat 0):∃j,j<i/\(enF n l b)[j]?=some (Vi x p):=by
 have rx:=h.mem.mp (Zrh hi)
 have ry:Vi x p∈enF n l b:=h.mem.mpr (.step rx hp hx)
 have k:=Zis (rx.bs h.f.hP h.f.hb) h.bar hp hx
 obtain⟨j,hj⟩:=Zr4 ry
 refine⟨j, ?_,hj⟩
 obtain⟨li,ei⟩:=Zrg.mp hi
 obtain⟨lj,ej⟩:=Zrg.mp hj
 apply Classical.byContradiction
 intro c
 by_cases e:i=j
 ·subst e
  rw[ei] at ej
  rw[<- ej,HL.Vt] at k
  cases k
 ·have:=Zsh.mp (ZkM n l b) i j li lj (by omega)
  rw[ei,ej,k] at this
  cases this
noncomputable def vF(g:List Int->Int)(P:List Int):Nat->List Int->Int
 |0,_=>0
 |k+1,x=>g ((J9 P x).map fun y=>vF g P k y.2)
theorem Zb7(g:List Int->Int)(P:List Int)(k:Nat)(x:List Int):vF g P (k+1) x=g ((J9 P x).map fun y=>vF g P k y.2):=rfl
noncomputable def Zik(g:List Int->Int)(P:List Int)(x:List Int):Int:=vF g P (1001+P.length) x
theorem Zij(g:List Int->Int)(P:List Int)(x:List Int):Zik g P x=g ((J9 P x).map fun y=>vF g P (1000+P.length) y.2):=by
 unfold Zik
 rw[show 1001+P.length=(1000+P.length)+1 by omega,Zb7]
theorem UP.same{n:Nat}{s:Int}{l b:List Int}(h:UP n s l b)(g:List Int->Int):∀(i k k':Nat) (x:List Int),i<k->i<k'->(enF n l b)[i]?=some x->vF g (Zg n l) k x=vF g (Zg n l) k' x:=by
 intro i
 induction i using Nat.strongRecOn with
 |_ i ih =>
  intro k k' x hk hk' hx
  match k,k',hk,hk' with
  |k+1,k'+1,hk,hk' =>
   rw[Zb7,Zb7]
   congr 1
   refine ZrN fun y hy=>?_
   obtain⟨y1,y2,y3⟩:=J3.mp hy
   obtain⟨j,hj,ej⟩:=h.ahead hx y1 y2
   rw[<- y3] at ej
   exact ih j hj k k' y.2 (by omega) (by omega) ej
theorem UP.val{n:Nat}{s:Int}{l b:List Int}(h:UP n s l b)(g:List Int->Int){x:List Int}(hx:x∈enF n l b):Zik g (Zg n l) x=g ((J9 (Zg n l) x).map fun y=>Zik g (Zg n l) y.2):=by
 obtain⟨i,hi⟩:=Zr4 hx
 have hl:=h.len
 have li:=(Zrg.mp hi).1
 rw[Zij]
 congr 1
 refine ZrN fun y hy=>?_
 obtain⟨y1,y2,y3⟩:=J3.mp hy
 obtain⟨j,hj,ej⟩:=h.ahead hi y1 y2
 rw[<- y3] at ej
 unfold Zik
 exact h.same g j _ _ y.2 (by omega) (by omega) ej
theorem UP.go{n:Nat}{s:Int}{l b:List Int}(h:UP n s l b){x:List Int}(hx:Rch (Zg n l) b x):UP n s l x:=⟨h.f.go hx,h.bar⟩
theorem ZjA{g:List Int->Int}(hg:∀L:List Int,(∀v∈L,0<=v)->0<=g L)(P:List Int):∀k x,0<=vF g P k x
 |0,_=>Ztj _
 |k+1,x=>hg _ fun v hv=>by
  obtain⟨y,_,rfl⟩:=Zrz.mp hv
  exact ZjA hg P k y.2
theorem Za7{E:List (List Int)}{f:List Int->PV}{i j:Nat}{y:List Int}(nd:E.Nodup)(hj:j<i)(hy:E[j]?=some y):atK ((E.take i).map tI) ((E.take i).map f) (tI y)=some (f y):=by
 refine ZhZ (j:=j) (ZjH (nd.sublist (Ztp _ _))) ?_ ?_
 ·rw[Zrn,Zst hj,hy];rfl
 ·rw[Zrn,Zst hj,hy];rfl
theorem Zc6{E:List (List Int)}{i:Nat}{y:List Int}(nd:E.Nodup)(hy:E[i]?=some y):tI y ∉ (E.take i).map tI:=fun z=>by
 obtain⟨w,hw,e⟩:=Zrz.mp z
 have:=Zc8 e
 subst this
 obtain⟨j,hj⟩:=Zr4 hw
 have hji:j<i:=by
  have:=(Zrg.mp hj).1
  rw[Zr9] at this
  omega
 rw[Zst hji] at hj
 obtain⟨l1,e1⟩:=Zrg.mp hj
 obtain⟨l2,e2⟩:=Zrg.mp hy
 have:=(List.getElem_inj nd).mp (e1.trans e2.symm)
 omega
theorem ZaH{α β:Type}{E:List α}{f:α->β}{i:Nat}{y:α}(hy:E[i]?=some y):(E.take (i+1)).map f=(E.take i).map f++[f y]:=by
 rw[List.take_add_one,hy,Zsv];rfl
theorem ZeP{α:Type}{f:PV->Rr PV}{q g:α->PV}:∀{L:List α},(∀x∈L,f (q x)=.ok (g x))->Zb1 f (L.map q)=.ok (L.map g)
 |[],_=>rfl
 |x::L,h=>by
  rw[Zru,Zru]
  unfold Zb1
  rw[h x (ZrM ..),ZeP fun y hy=>h y (Zr6 _ hy)]
  rfl
end My
namespace L2
open PySem PySem.Spec PyProof.Rows
def Zcr(h:Heap)(d:Addr)(es:Array DictEntry)(ep:Nat):Prop:=∃o,h.get? d=some o/\o.ExactDict/\o.data=.dict es ep
theorem Zcr.at{h h':Heap}{d:Addr}{es:Array DictEntry}{ep:Nat}(x:Zcr h d es ep)(k:∀o,h.get? d=some o->h'.get? d=some o):Zcr h' d es ep:=by
 obtain⟨o,e,r⟩:=x
 exact⟨o,k o e,r⟩
section
variable {prog:Program}{w:World}{A:Around}{E:Value->Shared->Prop}{s:Shared}{d it:Addr}{es:Array DictEntry}{ep:Nat}
theorem Zcr.ty(x:Zcr s.heap d es ep):s.TypeIs (.ref d) "dict":=by
 obtain⟨o,e,r,_⟩:=x
 exact⟨o,e,r.1⟩
theorem ZcH{Q:Value->Shared->Prop}(nm:(d==sysModules)=false)(x:Zcr s.heap d es ep)(q:Q (.ref s.heap.objs.size) { s with heap:=s.heap.push { cls:=.type "dict_keyiterator",data:=.fields #[.ref d,.int 0 0,.int es.size 0,.int ep 0] } }):wpAny (model prog w) A (pyIter (.ref d)) Q E s:=by
 have ty:=x.ty
 obtain⟨o,e1,e2,e3⟩:=x
 refine wpAny_pyIter_slot ty F.slot_dict_iter (wpAny_call_entry F.slot_dict_iter ty F.entry_dict_iter (by
  unfold Builtin.«dict.__iter__»
  refine wpAny_bind (by
   unfold Builtin.Dict.dictSlotNone
   refine wpAny_bind (wpAny_notOrdered_dict ty (by
    show wpAny _ _ (pure (Value.ref d)) _ _ s
    refine wpAny_pure (by
     show wpAny _ _ (Builtin.Dict.showsAll d >>= _) _ _ s
     unfold Builtin.Dict.showsAll
     rw[if_neg (by rw[nm];exact Bool.false_ne_true)]
     refine wpAny_bind (wpAny_pure (wpAny_bind (wpAny_dictEntries e1 e3 (wpAny_bind (wpAny_dictEpoch e1 e3 (wpAny_bind (wpAny_newObj_type (wpAny_pure ⟨_,rfl, "dict_keyiterator",_,⟨_,Heap.get?_push_size _ rfl,rfl⟩,F.slot_dict_keyiterator_next.lookup, ?_⟩))))))))
     simpa[rawInt] using q))))) (F.args_dict_iter_1 _))
theorem ZcI{i:Nat}{Q:Option Value->Shared->Prop}(hi:s.heap.IsKeyIter it d i es.size ep)(x:Zcr s.heap d es ep)(hx:i<es.size)(q:∀h',h'.IsKeyIter it d (i+1) es.size ep->Heap.SameBut it s.heap h'->Q (some es[i].key) { s with heap:=h' }):wpAny (model prog w) A (pyNext (.ref it)) Q E s:=by
 have ty:=hi.typeIs
 obtain⟨o,e1,e2,e3⟩:=id hi
 obtain⟨u,u1,u2,u3⟩:=x
 unfold pyNext
 refine wpAny_bind (wpAny_attempt (wpAny_callSpecial?_slot (name:=Str.ofString "__next__") ty F.slot_dict_keyiterator_next (wpAny_call_entry F.slot_dict_keyiterator_next ty F.entry_dict_keyiterator_next (by
  refine wpAny_bind (wpAny_pure (wpAny_bind (wpAny_bind (by
   first
    |refine wpAny_bind (wpAny_typeNameOfWhole_keyiter ty (wpAny_pure (wpAny_bind (wpAny_fieldsOf e1 e3 ?_))))
    |refine wpAny_bind (wpAny_typeNameOf_keyiter ty (wpAny_pure (wpAny_bind (wpAny_fieldsOf e1 e3 ?_))))
   have n1:Builtin.Dict_items.ownsTuple "dict_keyiterator"=false:=by decide
   simp only[n1,Bool.false_eq_true,if_false]
   show wpAny _ _ (if (Value.ref d==Value.none)=true then _ else _) _ _ s
   rw[if_neg (show ¬((Value.ref d==Value.none)=true) from Bool.false_ne_true)]
   refine wpAny_bind (wpAny_pure (wpAny_bind (wpAny_dictEntries u1 u3 ?_)))
   rw[if_neg (by simp)]
   refine wpAny_bind (wpAny_pure (wpAny_bind (wpAny_dictEpoch u1 u3 ?_)))
   rw[if_neg (by simp)]
   refine wpAny_pure ?_
   simp only[show ¬((i:Int)<0) from by omega,if_false,ZrL,Zsr hx]
   have hit':(s.heap.update it (Obj.mapFields (·.setIfInBounds 1 (rawInt ((i:Int)+1))))).IsKeyIter it d (i+1) es.size ep:=⟨_,Heap.get?_update_self _ e1 (Obj.isFreed_of_fields (Obj.data_mapFields e3 _)),(Obj.cls_mapFields ..).trans e2,by rw[Obj.data_mapFields e3];simp[rawInt]⟩
   refine wpAny_bind (by
    first
     |refine wpAny_bind (wpAny_typeNameOfWhole_keyiter ty (wpAny_pure (wpAny_bind (wpAny_isOneOf_keyiter ty ?_))))
     |refine wpAny_bind (wpAny_typeNameOf_keyiter ty (wpAny_pure (wpAny_bind (wpAny_isOneOf_keyiter ty ?_))))
    show wpAny _ _ (setField (.ref it) 1 (rawInt ((i:Int)+1)) >>= _) _ _ s
    refine wpAny_bind (wpAny_setField e1 e3 (by simp) (wpAny_bind (wpAny_holding (wpAny_bind (wpAny_isOneOf_keyiter (s:={ s with heap:=s.heap.update it (Obj.mapFields (·.setIfInBounds 1 (rawInt ((i:Int)+1)))) }) hit'.typeIs (by
     show wpAny _ _ (pure es[i].key) _ _ _
     exact wpAny_pure (wpAny_pure ⟨_,rfl,wpAny_pure (q _ hit' (Heap.SameBut.update ..))⟩))))))))))))) (F.args_dict_keyiterator_next_1 _))))
theorem Zem{Q:Option Value->Shared->Prop}(hh:A.handled=none){i:Nat}(hge:es.size<=i)(hi:s.heap.IsKeyIter it d i es.size ep)(x:Zcr s.heap d es ep)(q:∀h',Heap.ExtBut it s.heap h'->Q none { s with heap:=h' }):wpAny (model prog w) A (pyNext (.ref it)) Q E s:=by
 have ty:=hi.typeIs
 obtain⟨o,e1,e2,e3⟩:=id hi
 obtain⟨u,u1,u2,u3⟩:=x
 unfold pyNext
 refine wpAny_bind (wpAny_attempt (wpAny_callSpecial?_slot (name:=Str.ofString "__next__") ty F.slot_dict_keyiterator_next (wpAny_call_entry F.slot_dict_keyiterator_next ty F.entry_dict_keyiterator_next (by
  refine wpAny_bind (wpAny_pure (wpAny_bind (wpAny_bind (by
   first
    |refine wpAny_bind (wpAny_typeNameOfWhole_keyiter ty (wpAny_pure (wpAny_bind (wpAny_fieldsOf e1 e3 ?_))))
    |refine wpAny_bind (wpAny_typeNameOf_keyiter ty (wpAny_pure (wpAny_bind (wpAny_fieldsOf e1 e3 ?_))))
   have n1:Builtin.Dict_items.ownsTuple "dict_keyiterator"=false:=by decide
   simp only[n1,Bool.false_eq_true,if_false]
   show wpAny _ _ (if (Value.ref d==Value.none)=true then _ else _) _ _ s
   rw[if_neg (show ¬((Value.ref d==Value.none)=true) from Bool.false_ne_true)]
   refine wpAny_bind (wpAny_pure (wpAny_bind (wpAny_dictEntries u1 u3 ?_)))
   rw[if_neg (by simp)]
   refine wpAny_bind (wpAny_pure (wpAny_bind (wpAny_dictEpoch u1 u3 ?_)))
   rw[if_neg (by simp)]
   refine wpAny_pure ?_
   simp only[show ¬((i:Int)<0) from by omega,if_false,ZrL,Zs5 hge]
   refine wpAny_bind (by
    first
     |refine wpAny_bind (wpAny_typeNameOfWhole_keyiter ty (wpAny_pure ?_))
     |refine wpAny_bind (wpAny_typeNameOf_keyiter ty (wpAny_pure ?_))
    show wpAny _ _ (setField (.ref it) 0 .none >>= _) _ _ s
    refine wpAny_bind (wpAny_setField e1 e3 (by simp) ?_)
    show wpAny _ _ (newExc (.type "StopIteration") [] >>= _) _ _ _
    refine wpAny_bind ?_
    simp only[newExc,newTuple]
    refine wpAny_bind (wpAny_newObj_type (wpAny_bind (m:=firstArgMember _ _) (wpAny_of_eq (a:=Value.none) (by first|rfl|(simp only[firstArgMember];rfl)) ?_)) (by size_fits))
    refine wpAny_newObj_type ?_ (by size_fits)
    simp only[raiseNew]
    refine wpAny_bind (wpAny_handled ?_)
    rw[show A.in1.handled=none from hh]
    refine wpAny_bind (wpAny_pure (wpAny_throw ?_));refine wpAny_bind (wpAny_isInstance (T := "StopIteration") (b:=true) ⟨_,Heap.get?_push_size _ rfl,rfl⟩ isSubtype_stop ?_);exact wpAny_pure (q _ (((Heap.SameBut.update ..).extBut.push _).push _)))))))) (F.args_dict_keyiterator_next_1 _))))
theorem ZdT(hh:A.handled=none)(I:Addr)(ne:d≠I):Walks prog w A I [I,d] [I] es.size (fun i v=>(es.map (·.key))[i]?=some v) (fun i h=>h.IsKeyIter I d i es.size ep/\Zcr h d es ep) where
 sub b hb:=by simp at hb;simp[hb]
 frame _ _ _ st k:=⟨st.1.at fun o e=>k I (by simp) o e,st.2.at fun o e=>k d (by simp) o e⟩
 item i s Q E hi st q:=ZcI st.1 st.2 hi fun h' st' sb=>q _ h' s.toks (by simp[hi]) ⟨st',st.2.at fun o e=>(sb.2 d ne).trans e⟩ fun b o hb e=>(sb.2 b (fun z=>hb (by simp[z]))).trans e
 done s Q E st q:=Zem hh (Zrl _) st.1 st.2 fun h' eb=>q h' s.toks fun b o hb e=>eb b o (fun z=>hb (by simp[z])) e
 self _ _ _ _ st q:=wpAny_pyIter_keyiter st.1 q
theorem ZgH{Q:Bool->Shared->Prop}(nm:(d==sysModules)=false)(x:Zcr s.heap d es ep)(hz:es.size<=1000000)(q:∀b tk,Q b { s with toks:=tk }):wpAny (model prog w) A (Builtin.List.listLengthHint (.ref d)) Q E s:=by
 have ty:=x.ty
 unfold Builtin.List.listLengthHint
 refine wpAny_bind (wpAny_specialOf ty F.slot_dict_len.lookup ?_)
 generalize hid:("dict.__len__":String)=nm0
 wp_delta
 rw[show splitId nm0=some ("dict", "__len__") from by subst hid;decide +kernel]
 subst hid
 exact wpAny_bind (wpAny_isInstance (T := "dict") (b:=true) ty (by rw[isSubtype_type];kernel_rfl) (wpAny_ite_split (fun z=>absurd z (by decide)) (fun _=>wpAny_ite_split (fun _=>wpAny_bind (wpAny_typeOf ty (wpAny_pure (q _ s.toks)))) (fun z=>absurd (by decide +kernel) z))))
theorem QT{R:Result->Shared->Prop}(hh:A.handled=none)(nm:(d==sysModules)=false)(x:Zcr s.heap d es ep)(hz:es.size<=1000000)(S:Addr)(res:Value)(c0:Nat)(hS:s.heap.get? S=some { cls:=.type "list",data:=.seq #[] c0 })(q:∀h' tk acc c',(∀b o,b≠S->s.heap.get? b=some o->h'.get? b=some o)->h'.get? S=some { cls:=.type "list",dict:=none,data:=.seq acc c',slots:=#[] } ->
   ItemsOf (fun i v=>(es.map (·.key))[i]?=some v) acc es.size->R (.ok (.ret res)) { s with heap:=h',toks:=tk }) :
  wpAny (model prog w) A.in1 (Builtin.List.listExtendWith (.ref S) (.ref d) res) (fun fin s'=>match fin with|.done f=>R (.ok f) s'|.again c'=>c'.quiet=true/\codeAny (model prog w) A c' R s') (fun e s'=>R (.error e) s') s:=by
 have ty:=x.ty
 have dne:S≠d:=fun e=>by
  obtain⟨o,e1,e2,e3⟩:=x
  rw[e,e1] at hS
  cases hS
  cases e3
 have sne:S≠s.heap.objs.size:=Zr8 (Heap.lt_size hS)
 have dI:d≠s.heap.objs.size:=by
  obtain⟨o,e1,_⟩:=x
  exact Zr8 (Heap.lt_size e1)
 have W:=(ZdT (prog:=prog) (w:=w) (A:=A.in1) (es:=es) (ep:=ep) hh s.heap.objs.size dI).toS
 have go:∀(h:Heap) (c1 tk:Nat),h.IsKeyIter s.heap.objs.size d 0 es.size ep->Zcr h d es ep->(∀b o,b≠S->s.heap.get? b=some o->h.get? b=some o) ->
   h.get? S=some { cls:=.type "list",data:=.seq #[] c1 }->codeAny (model prog w) A (.builtin "list.extend.loop" ⟨[.ref S,.ref s.heap.objs.size,res],[]⟩) R { s with heap:=h,toks:=tk }:=fun h c1 tk st st2 k hS1=>by
  refine codeAny_extend_loopS W (by rw[sizeLine_eq];omega) S (by simp[sne,dne]) res es.size 0 _ #[] c1 rfl (ZrI _) ⟨st,st2⟩ hS1 (ItemsOf.nil _) fun s' acc' c' hm hS' hacc=>?_
  rw[Moved.eq_with hm]
  refine q s'.heap s'.toks acc' c' (fun b o hb e=>hm.heap b o (fun z=>?_) (k b o hb e)) hS' hacc
  rcases Zrt.mp z with z|z
  ·exact hb z
  ·exact absurd (Heap.lt_size e) (by rw[ZrD.mp z];exact Zsg _)
 unfold Builtin.List.listExtendWith
 refine wpAny_bind (wpAny_typeOf ty ?_)
 simp only[show Builtin.List.listSameRef (.ref S) (.ref d)=false by simp[Builtin.List.listSameRef,dne],show (Value.type "dict" == Value.type "list")=false by decide,show (Value.type "dict" == Value.type "tuple")=false by decide,Bool.or_false,Bool.false_eq_true,if_false]
 have p1:∀(ob:Obj) b o,s.heap.get? b=some o->(s.heap.push ob).get? b=some o:=fun ob b o e=>Heap.get?_push_of_some _ e
 refine wpAny_bind (ZcH nm x (wpAny_bind (wpAny_holding (ZgH nm (x.at fun o e=>p1 _ _ _ e) hz fun bb tk=>?_))))
 have it0:(s.heap.push { cls:=.type "dict_keyiterator",data:=.fields #[.ref d,.int 0 0,.int es.size 0,.int ep 0] }).IsKeyIter s.heap.objs.size d 0 es.size ep:=⟨_,Heap.get?_push_size _ rfl,rfl,rfl⟩
 have S1:=p1 { cls:=.type "dict_keyiterator",data:=.fields #[.ref d,.int 0 0,.int es.size 0,.int ep 0] } S _ hS
 refine wpAny_ite_split (fun _=>wpAny_bind (wpAny_rule (wpAny_bind ?_))) (fun _=>wpAny_pure ⟨plainId_quiet F.plain_extend_loop _,go _ c0 _ it0 (x.at fun o e=>p1 _ _ _ e) (fun b o _ e=>p1 _ b o e) S1⟩)
 show wpAny _ _ (updateSeq S (·.push .none) >>= fun _=>updateSeq S (·.pop)) _ _ _
 have S2:=Heap.get?_update_self (Obj.mapSeq (·.push Value.none)) S1 rfl
 have S3:=Heap.get?_update_self (Obj.mapSeq (·.pop)) S2 rfl
 have oth:∀(h:Heap) f b o,b≠S->h.get? b=some o->(h.update S f).get? b=some o:=fun h f b o hb e=>(Heap.get?_update_other _ _ (Ne.symm hb)).trans e
 exact wpAny_bind (wpAny_updateSeq S1 rfl (wpAny_updateSeq (hz:=by seq_fits) S2 rfl (wpAny_pure ⟨plainId_quiet F.plain_extend_loop _,go _ _ _ (it0.at fun o e=>oth _ _ _ _ (Ne.symm sne) (oth _ _ _ _ (Ne.symm sne) e)) (x.at fun o e=>oth _ _ _ _ (Ne.symm dne) (oth _ _ _ _ (Ne.symm dne) (p1 _ _ _ e))) (fun b o hb e=>oth _ _ _ _ hb (oth _ _ _ _ hb (p1 _ _ _ e))) S3⟩)))
theorem Zg4{Q:Value->Shared->Prop}(hh:A.handled=none)(nm:(d==sysModules)=false)(x:Zcr s.heap d es ep)(hz:es.size<=1000000)(q:∀h' tk acc c',(∀b o,s.heap.get? b=some o->h'.get? b=some o)->h'.get? s.heap.objs.size=some { cls:=.type "list",dict:=none,data:=.seq acc c',slots:=#[] }->ItemsOf (fun i v=>(es.map (·.key))[i]?=some v) acc es.size->Q (.ref s.heap.objs.size) { s with heap:=h',toks:=tk }) :
  wpAny (model prog w) A (call (.type "list") [.ref d]) Q E s:=by
 have hS:(s.heap.push { cls:=.type "list",data:=.seq #[] }).get? s.heap.objs.size=some { cls:=.type "list",data:=.seq #[] }:=Heap.get?_push_size _ rfl
 have p1:∀b o,s.heap.get? b=some o->(s.heap.push { cls:=.type "list",data:=.seq #[] }).get? b=some o:=fun b o e=>Heap.get?_push_of_some _ e
 have dne:d≠s.heap.objs.size:=by
  obtain⟨o,e1,_⟩:=x
  exact Zr8 (Heap.lt_size e1)
 refine callType_codes (Q₁:=fun ob s1=>ob=.ref s.heap.objs.size/\s1={ s with heap:=s.heap.push { cls:=.type "list",data:=.seq #[] } }) F.called_list (F.typeCall_list_1 _) F.entry_list_init (code_list_new _ ⟨rfl,rfl⟩) fun ob s1 ⟨e1,e2⟩=>?_
 subst e1 e2
 refine⟨⟨_,hS,rfl⟩,F.args_list_init_2 _ _, ?_⟩
 show wpAny _ _ (do let old <- Builtin.List.listItems (.ref s.heap.objs.size);Builtin.List.listUpdate (.ref s.heap.objs.size) (fun _=>#[]);letGo old.toList.reverse;Builtin.List.listExtendWith (.ref s.heap.objs.size) (.ref d) .none) _ _ _
 refine wpAny_bind ?_
 unfold Builtin.List.listItems
 refine wpAny_bind (wpAny_seqItems hS rfl (wpAny_pure ?_))
 show wpAny _ _ (updateSeq s.heap.objs.size (fun _=>#[]) >>= fun _=>letGo (#[]:Array Value).toList.reverse >>= fun _=>Builtin.List.listExtendWith (.ref s.heap.objs.size) (.ref d) .none) _ _ _
 have S2:=Heap.get?_update_self (Obj.mapSeq (fun _=>(#[]:Array Value))) hS rfl
 have oth:∀b o,b≠s.heap.objs.size->s.heap.get? b=some o->((s.heap.push { cls:=.type "list",data:=.seq #[] }).update s.heap.objs.size (Obj.mapSeq (fun _=>(#[]:Array Value)))).get? b=some o:=fun b o hb e=>(Heap.get?_update_other _ _ (Ne.symm hb)).trans (p1 b o e)
 refine wpAny_bind (wpAny_updateSeq hS rfl (wpAny_bind (wpAny_letGo (QT (A:=A.in1) hh nm (x.at fun o e=>oth _ _ dne e) hz _ .none _ S2 fun h' tk acc c' k hS' hacc=>⟨rfl,q h' tk acc c' (fun b o e=>?_) hS' hacc⟩))))
 have hb:b≠s.heap.objs.size:=Zr8 (Heap.lt_size e)
 exact k b o hb (oth b o hb e)
end
section
variable {X:Cx}
theorem QK:∀{H:Hp}{kvs:List (List Key×V)}{xs:List (List Key×Addr×Value)},KT H kvs xs->kvs.length=xs.length/\∀(i:Nat) (k:List Key) (v:V),kvs[i]?=some (k,v)->∃b u,xs[i]?=some (k,b,u)/\H b=some (.tup (k.map kV))
 |_,_,_,.nil=>⟨rfl,fun i k v h=>by simp at h⟩
 |H,_,_,.cons (a:=p) (b:=q) r rr=>by
  obtain⟨e,f⟩:=QK rr
  refine⟨by simp[e],fun i k v h=>?_⟩
  cases i with
  |zero =>
   simp only[Zsy,Option.some.injEq] at h
   obtain⟨r1,r2,r3⟩:=r
   subst h
   exact⟨q.2.1,q.2.2,by rw[Zsy,show k=q.1 from r1],r2⟩
  |succ i =>
   rw[ZsP] at h ⊢
   exact f i k v h
def Zh7:List V->Hp->VK->Prop:=fun xs H Q=>∃p,∃kvs:List (List Key×V),xs=[.ref p]/\Rd H p (.dT kvs)/\kvs.length<=1000000 /\
  ∀l,H l=none->∀bs:List Addr,bs.length=kvs.length->(∀(i:Nat) (k:List Key) (v:V),kvs[i]?=some (k,v)->∃b,bs[i]?=some b/\H b=some (.tup (k.map kV)))->Q (.ref l) (upd H l (.lst (bs.map V.ref)))
theorem QM{ks:List Value}{acc:Array Value}(h:ItemsOf (fun i v=>(List.toArray ks)[i]?=some v) acc ks.length):acc.toList=ks:=by
 obtain⟨h1,h2⟩:=h
 refine List.ext_getElem (by simpa using h1) fun i i1 i2=>?_
 have:=h2 i (acc.toList[i]) (by simp at i1 ⊢)
 have this:(List.toArray ks)[i]?=some acc.toList[i]:=this
 rw[List.getElem?_toArray,Zri i2] at this
 exact(Option.some.inj this).symm
theorem QE:∀(bs:List Addr),ZP (bs.map V.ref) (bs.map Value.ref)
 |[]=>.nil
 |b::bs=>.cons rfl (QE bs)
theorem ZdK(hc:X.calm=true):Vg X (.type "list") Zh7:=by
 intro pins s σ H xs us Q I r h
 obtain⟨p,kvs,rfl,hp,hz0,q⟩:=h
 obtain⟨u,rfl,rx⟩:=UT r
 cases rx
 obtain⟨z,nm,xs,rv,o,es,ep,h1,h2,h3,h4,h5⟩:=(show Jt X.prog X.w H s.heap p (.dT kvs) from Zga I.hok hp)
 obtain⟨g1,g2⟩:=QK rv
 have hes:es.size=xs.length:=by rw[<- Zrm,h4,Zrj]
 refine Zg4 (I.ok.hd hc) nm ⟨o,h1,h2,h3⟩ (by omega) fun h' tk acc c' k e hacc=>?_
 have hk:es.map (·.key)=List.toArray (xs.map fun x=>Value.ref x.2.1):=by
  apply ZsG.mp
  rw[Zs2,h4,Zr1]
  rfl
 rw[hk,hes,show xs.length=(xs.map fun x=>Value.ref x.2.1).length by simp] at hacc
 have ha:=QM hacc
 have ea:acc=List.toArray ((xs.map (·.2.1)).map Value.ref):=by
  apply ZsG.mp
  rw[ha,Zr1]
  rfl
 have I1:Inv X pins σ (upd H s.heap.objs.size (.lst ((xs.map (·.2.1)).map V.ref))) { s with heap:=h',toks:=tk }:=by
  refine I.laid (t':=tk) k (Zrl _) ⟨?_,_,c',QE _,by rw[<- ea];exact e⟩
  rw[Zrj,Zrj,<- g1];exact z
 refine⟨.ref s.heap.objs.size,_,I1,rfl,q _ (I.hok.fresh (Zrl _)) (xs.map (·.2.1)) (by simp[g1]) fun i kk v hi=>?_⟩
 obtain⟨b,u,e1,e2⟩:=g2 i kk v hi
 exact⟨b,by rw[Zrn,e1];rfl,e2⟩
end
noncomputable def ZcQ(xs:List PV):Rr PV:=match xs with
 |[.box _ (.dt ks) ys]=>if ks.length=ys.length/\ks.length<=1000000 then .ok (.lst (ks.map fun k=>.tup (k.map ZbY))) else .bad
 |_=>.bad
theorem Ze5{p:Option Addr}{bs:List (List Int)}{ys:List PV}(h:ys.length=bs.length)(hz:bs.length<=1000000):ZcQ [.box p (.dt (bs.map fun b=>b.map Sum.inl)) ys]=.ok (.lst (bs.map ZK)):=by
 unfold ZcQ
 simp only
 rw[if_pos ⟨by rw[Zrj];omega,by rw[Zrj];exact hz⟩,Zr1]
 congr 2
 refine ZrN fun b _=>?_
 simp only[Function.comp_apply,ZK,Zr1]
 rfl
theorem UH{K:W.Frag}{H:Hp}{S:Addr->Prop}:∀(k:List Key),Reps K H S (k.map ZbY) (k.map kV)
 |[]=>rfl
 |.inl i::k=>⟨_,_,rfl,rfl,UH k⟩
 |.inr x::k=>⟨_,_,rfl,rfl,UH k⟩
theorem U4:∀(k:List Key),PV.flats (k.map ZbY)=true
 |[]=>rfl
 |.inl i::k=>by simp only[Zru,ZbY,PV.flats,PV.flat,U4 k,Bool.and_self]
 |.inr x::k=>by simp only[Zru,ZbY,PV.flats,PV.flat,U4 k,Bool.and_self]
theorem Qt:∀(ks:List (List Key)),PV.flats (ks.map fun k=>.tup (k.map ZbY))=true
 |[]=>rfl
 |k::ks=>by simp only[Zru,PV.flats,PV.flat,U4 k,Qt ks,Bool.and_self]
theorem QC{K:W.Frag}{H:Hp}{S:Addr->Prop}:∀(ks:List (List Key)) (bs:List Addr),bs.length=ks.length->(∀(i:Nat) (k:List Key),ks[i]?=some k->∃b,bs[i]?=some b/\H b=some (.tup (k.map kV)))->Reps K H S (ks.map fun k=>.tup (k.map ZbY)) (bs.map V.ref)
 |[],[],_,_=>rfl
 |[],b::bs,h,_=>by simp at h
 |k::ks,[],h,_=>by simp at h
 |k::ks,b::bs,h,f=>by
  obtain⟨b',e1,e2⟩:=f 0 k rfl
  have e1:b=b':=by simpa using e1
  subst e1
  exact⟨_,_,rfl,⟨b,_,rfl,⟨e2,trivial⟩,UH k⟩,QC ks bs (by simpa using h) fun i kk hi=>f (i+1) kk hi⟩
section
variable {K:W.Frag}{EX:PX->Hp->Prop}{Γ Γ':List Md}{ta:TA}{fa:List PV->Rr (List PV)}
theorem Zhf(ha:DAA K EX Γ Γ' ta fa):DE K EX Γ Γ' .F (tCB Zh7 ta) (fun ρ=>(fa ρ).bind ZcQ):=fun B H0 H σ ρ F R Q A d=>by
 refine ha B H0 H σ ρ F R _ A (d.bind.imp (fun xs _ d vs H1 F1 s1 f1 p1 A1=>?_) fun e q=>q)
 unfold ZcQ at d
 split at d
 ·rename_i p ks ys _
  split at d
  ·rename_i hc
   obtain⟨v,rfl,a,ws,u,rfl,⟨hr,_⟩,⟨_,hl,rfl⟩,_⟩:=VN p1
   refine⟨a,_,rfl,hr,by rw[Zsw];omega,fun l hz bs hb f=>?_⟩
   have hlz:(ks.zip ws).length=ks.length:=by rw[Zsw];omega
   have pr:=QC (K:=K) (H:=H1) (S:=fun _=>True) ks bs (by omega) fun i k hi=>by
    have hi':i<ks.length:=(Zrg.mp hi).1
    have hw:i<ws.length:=by omega
    exact f i k ws[i] (by rw[ZrY];exact⟨hi,Zri hw⟩)
   exact d _ _ (s1.trans (Z2.new hz)) (Res.newP s1 f1 pr (Qt ks) A1 hz)
  ·exact d.elim
 ·exact d.elim
end
noncomputable def Zlc(v:Value):Sem (List Value):=match v with|.ref a=>(load a >>= fun o=>match o.data with|.seq ys _=>pure ys.toList|_=>unsupported "internal:collect")|_=>unsupported "internal:collect"
section
variable {prog:Program}{w:World}{A:Around}{E:Value->Shared->Prop}{s:Shared}{d:Addr}{es:Array DictEntry}{ep:Nat}
theorem Zci{Q:List Value->Shared->Prop}(hh:A.handled=none)(nm:(d==sysModules)=false)(x:Zcr s.heap d es ep)(hz:es.size<=1000000)(q:∀h' tk,(∀b o,s.heap.get? b=some o->h'.get? b=some o)->s.heap.objs.size<=h'.objs.size->Q (es.map (·.key)).toList { s with heap:=h',toks:=tk }):wpAny (model prog w) A (collect (.ref d)) Q E s:=by
 have hS:(s.heap.push (seqObj "list" #[] 0)).get? s.heap.objs.size=some (seqObj "list" #[] 0):=Heap.get?_push_size _ rfl
 unfold collect
 refine wpAny_bind (wpAny_runValue (codeAny_builtin entry_proto_collect' (by
  refine wpAny_bind (m:=newList []) (wpAny_newList (wpAny_pure ⟨Code.quiet_builtin _ (by decide +kernel),codeAny_builtin entry_list_iadd' ?_⟩))
  rw[Around.under_plainId (show plainId "list.__iadd__"=true by decide +kernel) _]
  refine QT (A:=A) (R:=fun r s2=>match r with|.ok (.ret v)=>wpAny (model prog w) A (Zlc v) Q E s2|.ok _=>False|.error x=>E x s2) (s:={ s with heap:=s.heap.push (seqObj "list" #[] 0) }) hh nm (x.at fun o e=>Heap.get?_push_of_some _ e) hz s.heap.objs.size (.ref s.heap.objs.size) 0 hS fun h' tk acc c' k e hacc=>?_
  have hes:es.size=(es.map (·.key)).toList.length:=by simp
  have hacc':acc.toList=(es.map (·.key)).toList:=QM (by rw[Array.toArray_toList,<- hes];exact hacc)
  refine wpAny_bind (m:=load s.heap.objs.size) (wpAny_load e ?_)
  show wpAny _ _ (pure acc.toList) Q E _
  rw[hacc']
  exact wpAny_pure (q h' tk (fun b o eb=>k b o (Zr8 (Heap.lt_size eb)) (Heap.get?_push_of_some _ eb)) (Zs7 (Heap.lt_size e))))))
theorem ZbA{vs:List Value}{Q:Value->Shared->Prop}(κ:SortKind)(Rv:Value->Value->Bool)(hh:A.handled=none)(nm:(d==sysModules)=false)(x:Zcr s.heap d es ep)(hv:(es.map (·.key)).toList=vs)(hz:vs.length<=1000000)(hk:2<=vs.length->∀(s1:Shared) (Q:SortKind->Shared->Prop),(∀b o,s.heap.get? b=some o->s1.heap.get? b=some o)->Q κ s1->wpAny (model prog w) A.in1.in1 (keyKind' vs.toArray) Q E s1)(hc:∀(s1:Shared) x y,x∈vs->y∈vs->(∀b o,s.heap.get? b=some o->s1.heap.get? b=some o)->∀C:Bool->Shared->Prop,C (Rv x y) s1->wpAny (model prog w) A.in1.in1 (keyLt' κ x y) C (fun _ _=>False) s1)(asy:∀x y,x∈vs->y∈vs->Rv x y=true->Rv y x=false)(tr:∀x y z,x∈vs->y∈vs->z∈vs->Rv y x=false->Rv z y=false->Rv z x=false)(hq:∀D h' tk c out,(∀b o,s.heap.get? b=some o->h'.get? b=some o)->s.heap.objs.size<=D->out.Perm vs->out.Pairwise (fun x y=>Rv y x=false)->h'.get? D=some (seqObj "list" (List.toArray out) c)->Q (.ref D) { s with heap:=h',toks:=tk }) :
  wpAny (model prog w) A (call (.builtin "sorted") [.ref d]) Q E s:=by
 have line:vs.length<=sizeLine:=Jk hz
 have hes:es.size<=1000000:=by
  have:=congrArg List.length hv
  rw[Zrm,Array.size_map] at this
  omega
 refine Calls.call_function_entry kind_sorted plain_sorted entry_sorted (args_sorted1 _) ?_
 unfold Builtin.«sorted»
 refine wpAny_bind (m:=checkCount "sorted" 1 1 _) (wpAny_pure (wpAny_bind (Zci (A:=A.in1) hh nm x hes fun h1 tk k1 hsz=>?_)))
 rw[hv]
 refine wpAny_bind (wpAny_newList ?_ line)
 have hD:(h1.push (seqObj "list" vs.toArray 0)).get? h1.objs.size=some (seqObj "list" vs.toArray 0):=Heap.get?_push_size _ rfl
 show wpAny _ _ _ _ _ { s with heap:=h1.push (seqObj "list" vs.toArray 0),toks:=tk }
 have up:∀(h2:Heap),(∀b o,b≠h1.objs.size->(h1.push (seqObj "list" vs.toArray 0)).get? b=some o->h2.get? b=some o)->∀b o,s.heap.get? b=some o->h2.get? b=some o:=fun h2 k b o q =>
  k b o (Zr8 (Heap.lt_size (k1 b o q))) (Heap.get?_push_of_some _ (k1 b o q))
 refine wpAny_bind (wpAny_holding (wpAny_call_entry slot_list_sort ⟨_,hD,rfl⟩ entry_list_sort (QB (s:={ s with heap:=h1.push (seqObj "list" vs.toArray 0),toks:=tk }) κ Rv hD hz (fun h2 s1 Q k q=>hk h2 s1 Q (up _ k) q) (fun s1 x y hx hy k C q=>hc s1 x y hx hy (up _ k) C q) asy tr fun h' c out k p1 p2 e=>?_) (args_list_sort _)))
 exact⟨_,rfl,wpAny_pure ⟨_,rfl,hq _ h' tk c out (up _ k) hsz p1 p2 e⟩⟩
end
section
variable {X:Cx}
def Zh5:List V->Hp->VK->Prop:=fun xs H Q=>∃p,∃kvs:List (List Key×V),∃ts:List (List Int),xs=[.ref p]/\Rd H p (.dT kvs)/\kvs.map (·.1)=ts.map (fun t=>t.map Sum.inl)/\(∀t∈ts,t≠[])/\ts.length<=1000000 /\
  ∀l,H l=none->∀qs:List PL2,(∀t∈qs,H t.1=some (.tup (t.2.map V.int)))->(qs.map (·.2)).Perm ts->UpU (qs.map (·.2))->Q (.ref l) (upd H l (.lst (qs.map fun t=>V.ref t.1)))
theorem ZdJ(hc:X.calm=true):Vg X (.builtin "sorted") Zh5:=by
 intro pins s σ H xs us Q I r h
 obtain⟨p,kvs,ts,rfl,hp,hks,hne,hz0,q⟩:=h
 obtain⟨u,rfl,rx⟩:=UT r
 cases rx
 obtain⟨z,nm,xs,rv,o,es,ep,h1,h2,h3,h4,h5⟩:=(show Jt X.prog X.w H s.heap p (.dT kvs) from Zga I.hok hp)
 obtain⟨g1,g2⟩:=QK rv
 have hlen:kvs.length=ts.length:=by
  have:=congrArg List.length hks
  rwa [Zrj,Zrj] at this
 obtain⟨qs,hq1,hq2,hq3⟩:∃qs:List PL2,qs.map (·.1)=xs.map (·.2.1)/\qs.map (·.2)=ts/\∀t∈qs,H t.1=some (.tup (t.2.map V.int)):=by
  refine⟨(xs.map (·.2.1)).zip ts,List.map_fst_zip (by rw[Zrj];omega),List.map_snd_zip (by rw[Zrj];omega),fun t ht=>?_⟩
  obtain⟨i,hi⟩:=Zr4 ht
  rw[ZrY,Zrn] at hi
  obtain⟨i1,i2⟩:=hi
  have ki:(kvs.map (·.1))[i]?=some (t.2.map Sum.inl):=by rw[hks,Zrn,i2];rfl
  rw[Zrn] at ki
  cases e:kvs[i]? with
  |none=>rw[e] at ki;cases ki
  |some kv =>
   rw[e] at ki
   have ki:kv.1=t.2.map Sum.inl:=Option.some.inj ki
   obtain⟨b,u,e1,e2⟩:=g2 i kv.1 kv.2 e
   rw[e1] at i1
   have i1:b=t.1:=Option.some.inj i1
   rw[<- i1,e2,ki,Zr1];rfl
 have hk:(es.map (·.key)).toList=qs.map fun t=>Value.ref t.1:=by
  rw[Zs2,h4,Zr1]
  have:=congrArg (List.map Value.ref) hq1
  rw[Zr1,Zr1] at this
  exact this.symm
 have hql:qs.length=ts.length:=by rw[<- hq2,Zrj]
 have tup:∀(s1:Shared),(∀b o,s.heap.get? b=some o->s1.heap.get? b=some o)->∀t∈qs,∃vs:List Value,ZP (t.2.map V.int) vs/\IsTup s1.heap t.1 vs.toArray:=fun s1 k t ht=>by
  have I':Inv X pins σ H { s with heap:=s1.heap,toks:=s1.toks }:=I.kept k
  obtain⟨vs,rv,pt,_⟩:=I'.tuple (show SqT X.K H t.1 (t.2.map V.int) from .inl (.inl (hq3 t ht)))
  exact⟨vs,rv,pt⟩
 have hu:∀t∈qs,∀t'∈qs,t.1=t'.1->t.2=t'.2:=fun t ht t' ht' e=>by
  have a1:=hq3 t ht
  rw[e,hq3 t' ht'] at a1
  have a1:t'.2.map V.int=t.2.map V.int:=by injection a1 with a1;injection a1
  exact((Zs6 fun x y h=>by injection h).mp a1).symm
 refine ZbA (vs:=qs.map fun t=>Value.ref t.1) (tuples' true) (fun x y=>HT.ZA (Ju qs (J0 x)) (Ju qs (J0 y))) (I.ok.hd hc) nm ⟨o,h1,h2,h3⟩ hk (by rw[Zrj];omega) (fun h2 s1 Q' k q'=>?_) (fun s1 x y hx hy k C q'=>?_) (fun x y _ _ h=>Uh h) (fun x y z _ _ _ h1 h2=>JM h1 h2) fun D h' tk c out k hD p1 p2 e=>?_
 ·have:∀(ts:List PL2) (its:List Value),(∀t∈ts,t.2≠[]/\∃vs:List Value,ZP (t.2.map V.int) vs/\IsTup s1.heap t.1 vs.toArray)->ZP (ts.map fun t=>V.ref t.1) its->∃fs:List Value,fs.length=ts.length/\PySem.W.KatTups s1.heap its fs/\∀v∈fs,∃n t,v=Value.int n t:=by
   intro ts
   induction ts with
   |nil =>
    intro its _ rv
    cases rv
    exact⟨[],rfl,trivial,by simp⟩
   |cons t ts ih =>
    intro its ht rv
    cases rv with
    |cons rv tv =>
     obtain⟨fs,e1,e2,e3⟩:=ih _ (fun t' h'=>ht t' (Zr6 _ h')) tv
     obtain⟨hne,vs,rvs,ob,eo,oc,k,od⟩:=ht t (ZrM ..)
     obtain⟨n,ns,en⟩:=Zsn hne
     rw[en] at rvs
     cases rvs with
     |cons rn tn =>
      obtain⟨tk,rfl⟩:=rn
      have rv':_=Value.ref t.1:=rv
      subst rv'
      exact⟨.int n tk::fs,by simp[e1],⟨⟨t.1,ob,_,k,rfl,eo,oc,od,rfl⟩,e2⟩,fun v hv=>(Zrt.mp hv).elim (fun z=>⟨n,tk,z⟩) (e3 v)⟩
  obtain⟨fs,e1,e2,e3⟩:=this qs _ (fun t ht=>⟨hne _ (by rw[<- hq2];exact ZsJ ht),tup s1 k t ht⟩) (Vq qs)
  exact PySem.W.kat_kind (T:=.type "int") e2 (by rw[e1];rw[Zrj] at h2;omega) (fun v hv=>by obtain⟨n,t,rfl⟩:=e3 v hv;exact PySem.W.Looks.of_pure rfl) rfl q'
 ·obtain⟨t,ht,rfl⟩:=Zrz.mp hx
  obtain⟨t',ht',rfl⟩:=Zrz.mp hy
  obtain⟨vs,rv,ob,eo,oc,k1,od⟩:=tup s1 k t ht
  obtain⟨vs',rv',ob',eo',oc',k1',od'⟩:=tup s1 k t' ht'
  refine PySem.W.kat_lt eo od eo' od' (UM rv rv' ?_ ?_)
  ·simp
  ·rw[show J0 (.ref t.1)=t.1 from rfl,show J0 (.ref t'.1)=t'.1 from rfl,Jq hu ht,Jq hu ht'] at q'
   exact q'
 ·have ho:∀u∈out,∃t∈qs,u=Value.ref t.1:=fun u hu=>by
   obtain⟨t,ht,e⟩:=Zrz.mp (p1.mem_iff.mp hu)
   exact⟨t,ht,e.symm⟩
  have hp':(out.map fun v=>((J0 v,Ju qs (J0 v)):PL2)).Perm qs:=by
   have a1:=p1.map fun v=>((J0 v,Ju qs (J0 v)):PL2)
   rw[Zr1] at a1
   have a2:qs.map ((fun v=>((J0 v,Ju qs (J0 v)):PL2))∘fun t=>Value.ref t.1)=qs:=by
    have:qs.map ((fun v=>((J0 v,Ju qs (J0 v)):PL2))∘fun t=>Value.ref t.1)=qs.map id:=ZrN fun t ht=>by
     show ((t.1,Ju qs t.1):PL2)=t
     rw[Jq hu ht]
    rw[this,Zty]
   rw[a2] at a1
   exact a1
  have hup:UpU ((out.map fun v=>((J0 v,Ju qs (J0 v)):PL2)).map (·.2)):=by
   rw[Zr1]
   exact Zsb.mpr (p2.imp fun h=>h)
  have hout:out=(out.map fun v=>((J0 v,Ju qs (J0 v)):PL2)).map fun t=>Value.ref t.1:=by
   rw[Zr1]
   have:out.map ((fun(t:PL2)=>Value.ref t.1)∘fun v=>((J0 v,Ju qs (J0 v)):PL2))=out.map id:=ZrN fun u hu=>by
    obtain⟨t,ht,rfl⟩:=ho u hu
    rfl
   rw[this,Zty]
  generalize (out.map fun v=>((J0 v,Ju qs (J0 v)):PL2))=zs at hp' hup hout
  have I1:Inv X pins σ (upd H D (.lst (zs.map fun t=>V.ref t.1))) { s with heap:=h',toks:=tk }:=by
   refine I.laid (t':=tk) k hD ⟨?_,_,c, ?_,e⟩
   ·rw[Zrj,hp'.length_eq,hql];exact Jk hz0
   ·rw[hout];exact Vq zs
  exact⟨.ref D,_,I1,rfl,q D (I.hok.fresh hD) zs (fun t ht=>hq3 t (hp'.mem_iff.mp ht)) (by rw[<- hq2];exact hp'.map _) hup⟩
end
open Classical in
noncomputable def ZcO(xs:List PV):Rr PV:=if h:∃(ts:List (List Int)) (p:Option Addr) (ys:List PV),xs=[.box p (.dt (ts.map fun t=>t.map Sum.inl)) ys]/\ys.length=ts.length/\OkU ts then newF ((Zah h.choose).map ZK) else .bad
theorem Ze3{ts:List (List Int)}{p:Option Addr}{ys:List PV}(hl:ys.length=ts.length)(h:OkU ts):ZcO [.box p (.dt (ts.map fun t=>t.map Sum.inl)) ys]=newF ((Zah ts).map ZK):=by
 have hex:∃(us:List (List Int)) (p':Option Addr) (ys':List PV),[PV.box p (.dt (ts.map fun t=>t.map Sum.inl)) ys]=[.box p' (.dt (us.map fun t=>t.map Sum.inl)) ys']/\ys'.length=us.length/\OkU us:=⟨ts,p,ys,rfl,hl,h⟩
 unfold ZcO
 rw[dif_pos hex]
 obtain⟨p',ys',e,_⟩:=hex.choose_spec
 have e2:ts.map (fun t=>t.map (Sum.inl:Int->Key))=hex.choose.map fun t=>t.map Sum.inl:=by
  have:=(List.cons.inj e).1
  injection this with _ a2 _
  injection a2
 have:∀{a b:List (List Int)},(a.map fun t=>t.map (Sum.inl:Int->Key))=(b.map fun t=>t.map Sum.inl)->a=b:=fun {a b} h=>(Zs6 fun x y h=>(Zs6 fun x y h=>Sum.inl.inj h).mp h).mp h
 rw[<- this e2]
section
variable {K:W.Frag}{EX:PX->Hp->Prop}{Γ Γ':List Md}{ta:TA}{fa:List PV->Rr (List PV)}
theorem Zhb(ha:DAA K EX Γ Γ' ta fa):DE K EX Γ Γ' .F (tCB Zh5 ta) (fun ρ=>(fa ρ).bind ZcO):=fun B H0 H σ ρ F R Q A d=>by
 refine ha B H0 H σ ρ F R _ A (d.bind.imp (fun xs _ d vs H1 F1 s1 f1 p1 A1=>?_) fun e q=>q)
 unfold ZcO at d
 split at d
 ·rename_i hex
  have hs:=hex.choose_spec
  generalize hex.choose=ts at d hs
  obtain⟨p,ys,rfl,hl,hne,hz⟩:=hs
  obtain⟨g1,g2,d⟩:=Dn.newF d
  obtain⟨v,rfl,a,ws,u,rfl,⟨hr,_⟩,⟨_,hlz,rfl⟩,_⟩:=VN p1
  refine⟨a,_,ts,rfl,hr,List.map_fst_zip (by omega),hne,hz,fun l hz' zs hq hp hup=>?_⟩
  have e:Zah ts=zs.map (·.2):=VY (VM _) hup ((ZH _).trans hp.symm)
  have pr:=ZbD (K:=K) (H:=H1) (S:=fun _=>True) (qs:=zs) fun t ht=>⟨t.1,_,rfl,⟨hq t ht,trivial⟩,ZaM t.2⟩
  rw[<- e] at pr
  exact d _ _ (s1.trans (Z2.new hz')) (Res.newP s1 f1 pr g1 A1 hz')
 ·exact d.elim
end
end L2
namespace My
open PySem PySem.Spec PyProof.Rows L2
noncomputable def rkQ(y:List Int×Int):PV:=.tup [Zj0 y.1,.int y.2]
end My
namespace L2
open PySem PySem.Spec PyProof.Rows
theorem Ziq{u:HO}(hu:Zm0 u)(a:∀xs,u≠.tup xs)(b:∀o c,u≠.frz o (.own c)):False:=by
 cases u with
 |tup xs=>exact a _ rfl
 |frz o v =>
  cases v with
  |own c=>exact b _ _ rfl
  |_=>exact hu
 |_=>exact hu
section
variable {X:Cx}{pins:List (Addr×Obj)}{σ:St}{H:Hp}{s:Shared}
theorem Inv.swapO{a:Addr}{u u':HO}(I:Inv X pins σ H s)(ha:H a=some u)(n1:∀b,u≠.own b)(n2:∀xs,u≠.tup xs)(m1:∀xs,X.H₀ a≠some (.tup xs))(m2:∀o v,X.H₀ a≠some (.frz o v))(m3:∀ps w',X.H₀ a≠some (.tbl ps w'))(h0:∀o,X.s₀.heap.get? a=some o->X.H₀ a=none->a∈X.ex)(ok:Jt X.prog X.w (upd H a u') s.heap a u')(n3:∀o b,u≠.frz o (.own b):=by intro _ _ z;cases z):Inv X pins σ (upd H a u') s:=by
 have nn:∀{b},H b=none->b≠a:=fun {b} e z=>by rw[z,ha] at e;cases e
 refine⟨I.ok,I.os,I.bare,⟨I.base.keep,I.base.slot,fun b o q n hx=>?_,I.base.there,fun b xs q=>?_,fun b o v q=>?_,fun b ps w' q=>?_⟩,I.loc,I.cell, ?_,fun x c q=>?_,fun p hq=>?_,fun b v q=>?_,I.len⟩
 ·have e:=I.base.free b o q n hx
  rw[Zp (nn e)];exact e
 ·rw[Zp (fun z=>m1 xs (by rw[<- z];exact q))];exact I.base.tups b xs q
 ·rw[Zp (fun z=>m2 o v (by rw[<- z];exact q))];exact I.base.frzs b o v q
 ·rw[Zp (fun z=>m3 ps w' (by rw[<- z];exact q))];exact I.base.tbls b ps w' q
 ·rw[Zp (nn I.free)];exact I.free
 ·rw[Zp (nn (I.freeC x c q))];exact I.freeC x c q
 ·obtain⟨a1,b1,c1⟩:=I.pin p hq
  exact⟨a1,by rw[Zp (nn b1)];exact b1,c1⟩
 ·by_cases hb:b=a
  ·subst hb
   rw[Zv] at q;cases q
   exact ok
  ·rw[Zp hb] at q
   refine(I.hok b v q).stay (fun c w' _ z=>z) (fun c z=>?_) fun c xs z=>?_
   ·rw[Zp (fun y=>by rw[y,ha] at z;cases z;exact n1 _ rfl)];exact z
   ·obtain⟨w',hw⟩:=xs
    rw[Zp (fun y=>by
     rw[y,ha] at z
     have z:u=w':=Option.some.inj z
     subst z
     exact Ziq hw n2 n3)]
    exact z
end
section
variable {K:W.Frag}{H:Hp}
mutual
theorem Jg.flat_nil:∀{x:PV}{v:V}{G:List Addr},x.flat=true->Jg K H x v G->G=[]
 |.non,_,_,_,h=>h.2
 |.bl _,_,_,_,h=>h.2
 |.int _,_,_,_,h=>h.2
 |.str _,_,_,_,h=>h.2
 |.exc _,_,_,_,h=>h.2
 |.exa _ _,_,_,_,h=>h.2
 |.box _ _ _,_,_,f,_=>by simp[PV.flat] at f
 |.lst _,_,_,f,_=>by simp[PV.flat] at f
 |.tup xs,_,_,f,h=>by
  obtain⟨a,vs,rfl,ha,ht⟩:=h
  exact Trees.flat_nil (by simpa[PV.flat] using f) ht
 |.fz xs,_,_,f,h=>by
  obtain⟨a,vs,rfl,ha,ht⟩:=h
  exact Trees.flat_nil (by simpa[PV.flat] using f) ht
theorem Trees.flat_nil:∀{xs:List PV}{vs:List V}{G:List Addr},PV.flats xs=true->Trees K H xs vs G->G=[]
 |[],_,_,_,h=>h.2
 |x::xs,_,_,f,h=>by
  obtain⟨v,r,G1,G2,rfl,h3,h4,hd,rfl⟩:=h
  simp only[PV.flats,Bool.and_eq_true] at f
  rw[Jg.flat_nil f.1 h3,Trees.flat_nil f.2 h4];rfl
end
end
theorem Zgv{F:Nat->List Addr}{i:Nat}:Ud F i (F i)=F:=by
 funext j
 by_cases q:j=i
 ·subst q;exact Zt
 ·exact Z0 q
section
variable {H:Hp}{F:Nat->List Addr}{n:Str}{i:Nat}
theorem ZiY{q:Addr}{o:HO}(hq:q∈F i):Frm H F (upd H q o) F:=fun b u h n=>⟨by rw[Zp (fun z=>n i (by rw[z];exact hq))];exact h,n⟩
end
noncomputable def F3(a0 a1 a2:Addr):Nat->List Addr
 |0=>[a0]
 |1=>[a1]
 |2=>[a2]
 |_=>[]
section
end
section
variable {K:W.Frag}{Γ Γ1 Γ3:List Md}{k:Kd}
noncomputable def pPopAt(x y:PV):Rr PV:=match x,y with
 |.lst xs,.int c=>if PV.flats xs=true/\0<=c/\c<xs.length/\xs.length<=1000000 then .ok (.lst (xs.eraseIdx c.toNat)) else .bad
 |_,_=>.bad
theorem Dn.pPopAt{x y:PV}{ok:PV->Prop}{ex:PX->Prop}(d:Dn (pPopAt x y) ok ex):∃xs c,x=.lst xs/\y=.int c/\(PV.flats xs=true/\0<=c/\c<xs.length/\xs.length<=1000000)/\ok (.lst (xs.eraseIdx c.toNat)):=by
 unfold L2.pPopAt at d
 split at d
 ·split at d
  ·rename_i hc
   exact⟨_,_,rfl,rfl,hc,d⟩
  ·exact d.elim
 ·exact d.elim
theorem Zcb{xs:List PV}(h:PV.flats xs=true)(n:Nat):PV.flats (xs.eraseIdx n)=true:=PV.flats_all.mpr fun x hx=>PV.flats_all.mp h x (List.mem_of_mem_eraseIdx hx)
theorem QD{H:Hp}{S:Addr->Prop}:∀{xs:List PV}{vs:List V} (n:Nat),Reps K H S xs vs->Reps K H S (xs.eraseIdx n) (vs.eraseIdx n)
 |[],_,n,h=>by cases h;exact rfl
 |x::xs,_,0,⟨v,r,rfl,h1,h2⟩=>h2
 |x::xs,_,n+1,⟨v,r,rfl,h1,h2⟩=>⟨v,_,rfl,h1,QD n h2⟩
variable {EX:PX->Hp->Prop}
theorem Zfk{i:Nat}{te:TE}{f:List PV->Rr PV}(hm:Γ[i]?=some .O)(he:DE K EX Γ Γ .P te f) :
  DS K EX Γ ⟨Γ,Γ1,Γ3,k⟩ (ZfQ (tBM K "list" Zh6 (ZaI i) (U0 te ZdY))) (fun ρ=>(asL (gv i ρ)).thenS fun xs=>(f ρ).thenS fun y=>(pPopAt (.lst xs) y).thenS fun z=>.next (ρ.set i z)):=fun B H0 H σ ρ F D A d=>by
 obtain⟨v,h1,h2⟩:=A.getO hm
 refine⟨v,h1, ?_⟩
 obtain⟨xs,e1,d⟩:=Dn.asL d.thenS
 rw[show ρ.getD i .non=.lst xs from e1] at h2
 obtain⟨a,vs,G,rfl,hH,ht,hn,hF⟩:=h2
 refine⟨.inl ⟨rfl,_,SqL.of hH⟩,he B H0 H σ ρ F [] _ A (d.thenS.imp (fun y _ d w H2 s2 r2=>?_) fun e q=>q)⟩
 obtain⟨F2,f2,yf,y1,A2⟩:=r2
 obtain⟨xs',c,ex,ey,⟨c1,c2,c3,c4⟩,d2⟩:=Dn.pPopAt d.thenS
 cases ex
 subst ey
 cases y1
 obtain⟨v',h1',h2'⟩:=A2.getO hm
 rw[h1] at h1';cases h1'
 rw[show ρ.getD i .non=.lst xs from e1] at h2'
 obtain⟨a',vs',G',e,hH',ht',hn',hF'⟩:=h2'
 cases e
 have hG:=Trees.flat_nil c1 ht'
 subst hG
 have hr:Reps K H2 (fun _=>True) xs vs':=ht'.reps fun _ _=>trivial
 have hl:=hr.length
 have hk:c.toNat<vs'.length:=by omega
 refine⟨a,vs',c,c.toNat,_,rfl,rfl,hH',by omega,by omega, ?_,Zri hk, ?_⟩
 ·exact(ZbZ (by unfold ixN;rw[if_pos c2,if_pos (by omega)])).1
 ·have haF:a∈F2 i:=by rw[hF'];simp
  have AC:=Ag.chg (G:=[]) (G':=F2 i) (R:=[]) (x':=.lst (xs.eraseIdx c.toNat)) (vs':=vs'.eraseIdx c.toNat) A2 hm haF (fun b hb=>.inl hb) (by simp) ⟨_,h1,a,_,[],rfl,Zv,((QD c.toNat hr).trees (Zcb c1 _)).put hH' (by simp),by simp,hF'⟩
  rw[Zgv] at AC
  exact d2 σ _ F2 ((Frm.of s2 f2).trans (ZiY haF)) AC
end
end L2
namespace My
open PySem PySem.Spec PyProof.Rows L2
noncomputable def ZeM(L:List Int):Nat:=((List.range (L.length+1)).find? fun(k:Nat)=>decide ((k:Int) ∉ L)).getD 0
theorem Zed:∀(A L:List Int),A.Nodup->(∀x∈A,x∈L)->A.length<=L.length
 |[],_,_,_=>ZrI _
 |a::A,L,nd,h=>by
  obtain⟨n1,n2⟩:=Zse.mp nd
  have ih:=Zed A (L.erase a) n2 fun x hx=>(List.mem_erase_of_ne (fun z=>n1 (by rw[<- z];exact hx))).mpr (h x (Zr6 _ hx))
  have h1:=List.length_erase_of_mem (h a (ZrM ..))
  have h2:=List.length_pos_of_mem (h a (ZrM ..))
  rw[ZrF];omega
theorem ZbS(L:List Int):((ZeM L:Nat):Int) ∉ L/\ZeM L<=L.length/\∀k:Nat,k<ZeM L->(k:Int)∈L:=by
 unfold ZeM
 cases hf:(List.range (L.length+1)).find? fun(k:Nat)=>decide ((k:Int) ∉ L) with
 |none =>
  exfalso
  have hn:=ZsT.mp hf
  have hall:∀k:Nat,k<L.length+1->(k:Int)∈L:=fun k hk=>by
   have:=hn k (ZrB.mpr hk)
   apply Classical.byContradiction
   intro z
   exact this (decide_eq_true z)
  have h1:((List.range (L.length+1)).map fun(k:Nat)=>(k:Int)).length<=L.length:=by
   refine Zed _ _ ?_ ?_
   ·rw[Zsc,Zsb]
    exact(Zsc.mp List.nodup_range).imp fun h z=>h (by omega)
   ·intro x hx
    obtain⟨k,hk,rfl⟩:=Zrz.mp hx
    exact hall k (ZrB.mp hk)
  rw[Zrj,ZsX] at h1
  omega
 |some k =>
  obtain⟨a,b,c⟩:=QR hf
  rw[Zsk]
  refine⟨of_decide_eq_true a,by omega,fun j hj=>?_⟩
  have:=c j hj
  apply Classical.byContradiction
  intro z
  rw[decide_eq_true z] at this
  cases this
noncomputable def gM(L:List Int):Int:=ZeM L
noncomputable def wtB(P x:List Int):Int:=Zik gM P x
theorem ZdR(P x:List Int):0<=wtB P x:=by
 unfold wtB Zik
 exact ZjA (fun L _=>by unfold gM;omega) P _ x
theorem UP.wt{n:Nat}{s:Int}{l b:List Int}(h:UP n s l b):wtB (Zg n l) b=gM ((J9 (Zg n l) b).map fun y=>wtB (Zg n l) y.2):=h.val gM (h.mem.mpr .refl)
noncomputable def Zii(P x:List Int):PV:=rkQ (x,wtB P x)
theorem ZgW{a n:Int}(hn:0<n):(a+1)/n=a/n+if (a+1)%n=0 then 1 else 0:=by
 have e:=Zsp a n
 have r0:=Zr5 a (show n≠0 by omega)
 have r1:=Zry a hn
 by_cases c:a%n=n-1
 ·have u:=(Zsl hn (a:=a+1) (q:=a/n+1) (r:=0)).mpr ⟨by rw[Int.mul_add,Ztg];omega,by omega,hn⟩
  rw[u.1,u.2,if_pos rfl]
 ·have u:=(Zsl hn (a:=a+1) (q:=a/n) (r:=a%n+1)).mpr ⟨by omega,by omega,by omega⟩
  rw[u.1,u.2,if_neg (by omega)];omega
noncomputable def Zjn(n p k:Int)(x:Nat):Int:=(k+(n-1-((x:Int)-p-1)%n))/n
noncomputable def ZfG(b:List Int)(p:Int)(k:Nat):List Int:=tab b.length fun x=>(if (x:Int)=p then 0 else b.getD x 0)+Zjn b.length p k x
theorem Zhn{n p k:Int}{x:Nat}(hn:0<n)(hx:(x:Int)<n):Zjn n p (k+1) x=Zjn n p k x+if (p+1+k)%n=x then 1 else 0:=by
 unfold Zjn
 rw[show k+1+(n-1-((x:Int)-p-1)%n)=(k+(n-1-((x:Int)-p-1)%n))+1 by omega,ZgW hn]
 congr 1
 have hiff:(k+(n-1-((x:Int)-p-1)%n)+1)%n=0 ↔ (p+1+k)%n=x:=by
  have e:=Zsp ((x:Int)-p-1) n
  have e2:k+(n-1-((x:Int)-p-1)%n)+1=(p+1+k-x)+n*(1+((x:Int)-p-1)/n):=by
   rw[Int.mul_add,Ztg];omega
  rw[e2,Int.add_mul_emod_self_left]
  have hxn:(x:Int)%n=x:=ZrK (by omega) hx
  rw[<- Int.emod_eq_emod_iff_emod_sub_eq_zero,hxn]
 by_cases c:(p+1+k)%n=x
 ·rw[if_pos c,if_pos (hiff.mpr c)]
 ·rw[if_neg c,if_neg (fun z=>c (hiff.mp z))]
theorem Zgx{b:List Int}{p:Int}(h0:0<=p)(h1:p<b.length):ZfG b p 0=b.set p.toNat 0:=by
 unfold ZfG
 symm
 refine Zad (by simp) fun x hx=>?_
 have hx:x<b.length:=by simpa using hx
 have hc:Zjn b.length p ((0:Nat):Int) x=0:=by
  unfold Zjn
  have r0:=Zr5 ((x:Int)-p-1) (show (b.length:Int)≠0 by omega)
  have r1:=Zry ((x:Int)-p-1) (show (0:Int)<b.length by omega)
  exact Int.ediv_eq_zero_of_lt (by omega) (by omega)
 rw[getD_set (by omega),hc]
 by_cases e:x=p.toNat
 ·rw[if_pos e,if_pos (by omega)];omega
 ·rw[if_neg e,if_neg (by omega)];omega
theorem Zgy{b:List Int}{p:Int}(h0:0<=p)(h1:p<b.length)(k:Nat):(ZfG b p k).set ((p+1+k)%b.length).toNat ((ZfG b p k).getD ((p+1+k)%b.length).toNat 0+1)=ZfG b p (k+1):=by
 have r0:=Zr5 (p+1+k) (show (b.length:Int)≠0 by omega)
 have r1:=Zry (p+1+k) (show (0:Int)<b.length by omega)
 have hc:=fun(x:Nat) (hx:(x:Int)<b.length)=>Zhn (n:=b.length) (p:=p) (k:=k) (x:=x) (by omega) hx
 unfold ZfG
 generalize (p+1+(k:Int))%(b.length:Int)=r at *
 rw[UV (by omega),ZdX (by omega)]
 refine UW fun x hx=>?_
 rw[show ((k+1:Nat):Int)=(k:Int)+1 by omega,hc x (by omega)]
 by_cases e:x=r.toNat
 ·rw[if_pos e,if_pos (show r=x by omega),<- e];omega
 ·rw[if_neg e,if_neg (show ¬r=x by omega)];omega
theorem ZiH(b:List Int)(p:Int)(k:Nat):(ZfG b p k).length=b.length:=ZZ _ _
theorem ZiI{b:List Int}{p:Int}(h0:0<=p)(h1:p<b.length)(hs:0<=b.getD p.toNat 0):ZfG b p (b.getD p.toNat 0).toNat=Vi b p:=by
 unfold ZfG Vi
 refine UW fun x hx=>?_
 unfold Za9 Zh2
 rw[ZrA hs,Int.add_assoc]
 congr 1
 generalize b.getD p.toNat 0=h at hs
 generalize hn:(b.length:Int)=n at *
 have n0:0<n:=by omega
 unfold Zjn
 have e1:=Zsp h n
 have a0:=Zr5 h (show n≠0 by omega)
 have a1:=Zry h n0
 have r0:=Zr5 ((x:Int)-p-1) (show n≠0 by omega)
 have r1:=Zry ((x:Int)-p-1) n0
 have e2:=Zsp ((x:Int)-p-1) n
 have hd:((x:Int)-p)%n=if ((x:Int)-p-1)%n=n-1 then 0 else ((x:Int)-p-1)%n+1:=by
  split
  ·rename_i c
   exact((Zsl n0 (a:=(x:Int)-p) (q:=((x:Int)-p-1)/n+1) (r:=0)).mpr ⟨by rw[Int.mul_add,Ztg];omega,by omega,n0⟩).2
  ·exact((Zsl n0 (a:=(x:Int)-p) (q:=((x:Int)-p-1)/n) (r:=((x:Int)-p-1)%n+1)).mpr ⟨by omega,by omega,by omega⟩).2
 generalize ((x:Int)-p-1)%n=d at r0 r1 hd
 by_cases c:d+1<=h%n
 ·have u:=(Zsl n0 (a:=h+(n-1-d)) (q:=h/n+1) (r:=h%n-1-d)).mpr ⟨by rw[Int.mul_add,Ztg];omega,by omega,by omega⟩
  rw[u.1,V0 (by rw[hd,if_neg (by omega)];omega)]
 ·have u:=(Zsl n0 (a:=h+(n-1-d)) (q:=h/n) (r:=h%n+(n-1-d))).mpr ⟨by omega,by omega,by omega⟩
  rw[u.1,Vo (by rw[hd];split<;>omega)];omega
structure Stk(P b:List Int)(M S:List (List Int)):Prop where
 nd:M.Nodup
 re:∀x∈M,Rch P b x
 b0:b∈M
 ns:S.Nodup
 sub:∀x∈S,x∈M
 cl:∀x∈M,x ∉ S->∀y∈J9 P x,y.2∈M
structure Stj(P b x:List Int)(L:List (Int×List Int))(M S:List (List Int)):Prop where
 nd:M.Nodup
 re:∀z∈M,Rch P b z
 b0:b∈M
 xM:x∈M
 ns:S.Nodup
 sub:∀z∈S,z∈M/\z≠x
 cl:∀z∈M,z ∉ S->z≠x->∀y∈J9 P z,y.2∈M
 got:∀y∈L,y.2∈M
end My
namespace L2
theorem ZhX:(10:Nat)^61<2^60000:=by
 calc (10:Nat)^61<=(2^4)^61:=Ztl (by decide) _
  _=2^244:=by rw[<- Nat.pow_mul]
  _<2^60000:=Zte (by decide) (by decide)
end L2
namespace L2
open PySem PySem.Spec PyProof.Rows
noncomputable def Zmd(a:Addr)(o:Obj)(kvs:List (List Key×V)):It:=
 ⟨fun i H=>H a=some (.frz o (.dT kvs))/\i<kvs.length,fun i H x H'=>H'=H/\∃k v b,kvs[i]?=some (k,v)/\x=.ref b/\H b=some (.tup (k.map kV)),fun i H=>H a=some (.frz o (.dT kvs))/\kvs.length<=i⟩
theorem Zdt{P:Program}{w:World}{K:W.Frag}{tg:Expr}(a it:Addr)(o:Obj)(kvs:List (List Key×V)){es:Array DictEntry}{ep:Nat}(hd:o.data=.dict es ep):Zjv P w K tg (Zmd a o kvs) [it] it (fun i h=>h.IsKeyIter it a i kvs.length ep) where
 mem:=by simp
 obj:=fun i h st b hb=>by
  have e:b=it:=by simpa using hb
  subst e
  obtain⟨o,e,c,d⟩:=st
  exact⟨o,e,fun v z=>by rw[d] at z;cases z⟩
 keep:=fun i h h' st k=>st.at fun o e=>k it (by simp) o e
 item:=by
  intro X hP hw hK hc i pins s σ H E I hf st hg
  subst hP hw hK
  obtain⟨hH,hi⟩:=hg
  obtain⟨ho,hz,hs,xs,rv,o',es',ep',e1,e2,e3,e4,e5⟩:=I.hok a _ hH
  rw[ho] at e1;cases e1
  rw[hd] at e3;cases e3
  obtain⟨g1,g2⟩:=QK rv
  have hes:es.size=kvs.length:=by rw[<- Zrm,e4,Zrj,g1]
  obtain⟨b,u,hb,hHb⟩:=g2 i kvs[i].1 kvs[i].2 (Zri hi)
  have hkey:es[i].key=.ref b:=by
   have h1:es.toList[i]?=some es[i]:=by rw[Zrv,Zsr (by omega)]
   rw[e4,Zrn,hb] at h1
   rw[<- Option.some.inj h1];rfl
  obtain⟨f0,f1,f2,f3,f4,f5⟩:=hf it (by simp)
  rw[<- hes] at st
  refine ZcI st ⟨o,ho,e2,hd⟩ (by omega) fun h' st' sb=>?_
  have I1:Inv X pins σ H { s with heap:=h' }:=I.turned (t':=s.toks) (fun b o hb e=>(sb.2 b hb).trans e) f0 f1 f3 f4 f5
  obtain⟨o2,q2,c2,d2⟩:=id st'
  rw[hes] at st'
  exact⟨es[i].key,rfl,ZgM (s:={ s with heap:=h' }) q2 c2 d2 (by decide) ⟨.ref b,H,I1,by rw[hkey];rfl,⟨rfl,_,_,b,Zri hi,rfl,hHb⟩,st',fun b hb=>(hf b hb).1⟩⟩
 done:=by
  intro X hP hw hK hc i pins s σ H E I hf st hg
  subst hP hw hK
  obtain⟨hH,hi⟩:=hg
  obtain⟨ho,hz,hs,xs,rv,o',es',ep',e1,e2,e3,e4,e5⟩:=I.hok a _ hH
  rw[ho] at e1;cases e1
  rw[hd] at e3;cases e3
  obtain⟨g1,g2⟩:=QK rv
  have hes:es.size=kvs.length:=by rw[<- Zrm,e4,Zrj,g1]
  obtain⟨f0,f1,f2,f3,f4,f5⟩:=hf it (by simp)
  rw[<- hes] at st
  exact Zem (I.ok.hd hc) (by omega) st ⟨o,ho,e2,hd⟩ fun h' eb=>⟨rfl,I.turned (t':=s.toks) (fun b o hb e=>eb b o hb e) f0 f1 f3 f4 f5⟩
 self:=fun _ _ _ _ _ st h=>wpAny_pyIter_keyiter st h
noncomputable def ZkD(tl:TE):TI:=fun σ H R=>tl σ H fun x H1=>∃a o kvs,x=.ref a/\H1 a=some (.frz o (.dT kvs))/\R (Zmd a o kvs) H1
section
variable {X:Cx}{tg:Expr}
theorem Zge{l:Expr}{tl:TE}(hl:PE X l tl):PI X tg l (ZkD tl):=by
 intro pins s σ H R I h
 refine thn (hl pins s σ H _ I h) fun v s1 ⟨x,H1,I1,r1,a,o,kvs,e,hH,q⟩=>?_
 subst e
 cases r1
 obtain⟨ho,hz,hs,xs,rv,o',es,ep,e1,e2,e3,e4,e5⟩:=I1.hok a _ hH
 rw[ho] at e1;cases e1
 obtain⟨g1,g2⟩:=QK rv
 have hes:es.size=kvs.length:=by rw[<- Zrm,e4,Zrj,g1]
 refine ZcH hs ⟨o,ho,e2,e3⟩ ?_
 refine⟨s1.heap.objs.size,[s1.heap.objs.size],_,_,H1,rfl,I1.kept (t':=s1.toks) fun b o e=>Heap.get?_push_of_some _ e,Zdt a _ o kvs e3,⟨_,Heap.get?_push_size _ rfl,rfl,by rw[<- hes];rfl⟩,fun b hb=>?_,q⟩
 have e:b=s1.heap.objs.size:=by simpa using hb
 subst e
 exact I1.fpOk (Zrl _) (I1.hok.fresh (Zrl _))
theorem ZhD{P:Program}{w:World}{H:Hp}{h:Heap}{a:Addr}{u v:HO}(x:Jt P w H h a v)(n1:∀c,H a=some (.own c)->False)(n2:∀(c:Addr) (w':TF),H a=some w'.1->False):Jt P w (upd H a u) h a v:=
 x.stay (fun c w' _ z=>z) (fun c z=>by
  rw[Zp (fun y=>by rw[y] at z;exact n1 _ z)];exact z) fun c xs z=>by
  rw[Zp (fun y=>by rw[y] at z;exact n2 c xs z)];exact z
noncomputable def ZjI(i:Nat)(te:TE):TE:=fun σ H Q=>∃a kvs,σ[i]?=some (some (.ref a))/\H a=some (.dT kvs)/\∀o,te σ (upd H a (.frz o (.dT kvs))) fun v H2=>H2 a=some (.frz o (.dT kvs))/\Q v (upd H2 a (.dT kvs))
theorem Zi3{i:Nat}{e:Expr}{te:TE}(he:PE X e te):PE X e (ZjI i te):=by
 intro pins s σ H Q I ⟨a,kvs,hσ,ha,h⟩
 have ok0:Jt X.prog X.w H s.heap a (.dT kvs):=I.hok a _ ha
 obtain⟨o,ho⟩:=ok0.there
 have m1:∀xs,X.H₀ a≠some (.tup xs):=fun xs z=>by have:=I.base.tups a xs z;rw[ha] at this;cases this
 have m2:∀o v,X.H₀ a≠some (.frz o v):=fun o v z=>by have:=I.base.frzs a o v z;rw[ha] at this;cases this
 have m3:∀ps w',X.H₀ a≠some (.tbl ps w'):=fun ps w' z=>by have this:=I.base.tbls a ps w' z;rw[ha] at this;cases this
 have h0:∀o,X.s₀.heap.get? a=some o->X.H₀ a=none->a∈X.ex:=fun o q n=>by
  by_cases hx:a∈X.ex
  ·exact hx
  ·have:=I.base.free a o q n hx;rw[ha] at this;cases this
 have I1:=I.swapO (u':=.frz o (.dT kvs)) ha (fun _ z=>by cases z) (fun _ z=>by cases z) m1 m2 m3 h0 ⟨ho,ZhD ok0 (fun c z=>by rw[z] at ha;cases ha) (fun c xs z=>by have h:=xs.2;rw[Option.some.inj (z.symm.trans ha)] at h;exact h)⟩
 refine thn (he pins s σ _ _ I1 (h o)) fun v s1 ⟨x,H2,I2,r,hH,q⟩=>⟨x,_, ?_,r,q⟩
 have ok2:=(I2.hok a _ hH).2
 exact I2.swapO hH (fun _ z=>by cases z) (fun _ z=>by cases z) m1 m2 m3 h0 (ZhD ok2 (fun c z=>by rw[z] at hH;cases hH) (fun c xs z=>by have h:=xs.2;rw[Option.some.inj (z.symm.trans hH)] at h;exact h))
end
section
variable {K:W.Frag}{H H':Hp}
mutual
theorem Jg.monoN:∀{x:PV}{v:V}{F:List Addr},(∀a∈F,∀o,H a=some o->H' a=some o)->(∀a vs,(∀o kvs,vs≠.frz o (.dT kvs))->Im K H a vs->Im K H' a vs)->Jg K H x v F->Jg K H' x v F
 |.non,_,_,_,_,h=>h
 |.bl _,_,_,_,_,h=>h
 |.int _,_,_,_,_,h=>h
 |.str _,_,_,_,_,h=>h
 |.exc n,_,_,_,h2,h=>let ⟨⟨a,o,C,e1,e2,e3⟩,e4⟩:=h;⟨⟨a,o,C,e1,h2 a _ (fun _ _ z=>by cases z) e2,e3⟩,e4⟩
 |.exa n i,_,_,_,h2,h=>let ⟨⟨a,o,C,d,fs,e1,e2,e2',e3⟩,e4⟩:=h;⟨⟨a,o,C,d,fs,e1,h2 a _ (fun _ _ z=>by cases z) e2,h2 d _ (fun _ _ z=>by cases z) e2',e3⟩,e4⟩
 |.box p s xs,_,_,h1,h2,h=>by
  obtain⟨a,vs,u,G,rfl,ha,hb,ht,hn,rfl⟩:=h
  exact⟨a,vs,u,G,rfl,h1 a (by simp) _ ha,hb,Trees.monoN (fun b hb o e=>h1 b (by simp[hb]) o e) h2 ht,hn,rfl⟩
 |.lst xs,_,_,h1,h2,h=>by
  obtain⟨a,vs,G,rfl,ha,ht,hn,rfl⟩:=h
  exact⟨a,vs,G,rfl,h1 a (by simp) _ ha,Trees.monoN (fun b hb o e=>h1 b (by simp[hb]) o e) h2 ht,hn,rfl⟩
 |.tup xs,_,_,h1,h2,h=>by
  obtain⟨a,vs,rfl,ha,ht⟩:=h
  exact⟨a,vs,rfl,h2 a _ (fun _ _ z=>by cases z) ha,Trees.monoN h1 h2 ht⟩
 |.fz xs,_,_,h1,h2,h=>by
  obtain⟨a,vs,rfl,⟨o,ha⟩,ht⟩:=h
  exact⟨a,vs,rfl,⟨o,h2 a _ (fun _ _ z=>by cases z) ha⟩,Trees.monoN h1 h2 ht⟩
theorem Trees.monoN:∀{xs:List PV}{vs:List V}{F:List Addr},(∀a∈F,∀o,H a=some o->H' a=some o)->(∀a vs,(∀o kvs,vs≠.frz o (.dT kvs))->Im K H a vs->Im K H' a vs)->Trees K H xs vs F->Trees K H' xs vs F
 |[],_,_,_,_,h=>h
 |x::xs,_,_,h1,h2,h=>by
  obtain⟨v,r,G1,G2,rfl,h3,h4,hd,rfl⟩:=h
  exact⟨v,r,G1,G2,rfl,Jg.monoN (fun b hb o e=>h1 b (by simp[hb]) o e) h2 h3,Trees.monoN (fun b hb o e=>h1 b (by simp[hb]) o e) h2 h4,hd,rfl⟩
end
end
noncomputable def Zia(x:PV):Rr (List PV):=match x with
 |.box _ (.dt ks) xs=>if ks.length=xs.length then .ok (ks.map fun k=>.tup (k.map ZbY)) else .bad
 |_=>.bad
noncomputable def wiT(i:Nat)(a:Addr)(o:Obj)(kvs:List (List Key×V)):TI:=fun σ H R=>σ[i]?=some (some (.ref a))->H a=some (.frz o (.dT kvs))->R (Zmd a o kvs) H
section
variable {K:W.Frag}{EX:PX->Hp->Prop}{Γ:List Md}
theorem ZkU{i:Nat}{a:Addr}{o:Obj}{kvs:List (List Key×V)}(hm:Γ[i]?=some .S):DIc K EX Γ Γ (wiT i a o kvs) (fun ρ=>Zia (gv i ρ)):=fun B H0 H σ ρ F R Q A d hσ hH=>by
 have sl:=A.slot i
 rw[Zrf,hm] at sl
 obtain⟨_,v,hv,rp⟩:=(show F i=[]/\∃v,σ[i]?=some (some v)/\Rep K H (NO B F R) (ρ.getD i .non) v from sl)
 rw[hσ] at hv;cases hv
 have d:Dn (Zia (ρ.getD i .non)) _ _:=d
 unfold Zia at d
 split at d
 ·rename_i p ks xs hx
  rw[hx] at rp
  split at d
  ·rename_i hl
   obtain⟨a',vs,u,ea,⟨rd,_⟩,⟨_,hz,hu⟩,rr⟩:=rp
   cases ea
   subst hu
   have ek:kvs=ks.zip vs:=by
    rcases rd with z|⟨o',z⟩
    ·rw[hH] at z;cases z
    ·rw[hH] at z;cases z;rfl
   subst ek
   refine d _ H F (Z2.refl _) (fun _ _ h=>h) A fun H2 F2 s2 f2=>?_
   have hH2:=s2 _ _ hH
   have hln:(ks.zip vs).length=ks.length:=by rw[Zsw,hz,Ztv]
   intro j
   refine⟨fun x hx=>?_,fun hx=>⟨hH2, ?_⟩⟩
   ·rw[Zrn] at hx
    obtain⟨k,hk,rfl⟩:=Zs3.mp hx
    have hj:=(Zrg.mp hk).1
    refine⟨⟨hH2,by omega⟩,fun v H' ⟨e1,k',v',b',e2,e3,e5⟩=>?_⟩
    subst e1 e3
    refine⟨Z2.refl _, ?_⟩
    have e4:k'=k:=by
     rw[ZrY] at e2
     rw[hk] at e2
     exact(Option.some.inj e2.1).symm
    subst e4
    exact⟨b',_,rfl,⟨e5,trivial⟩,UH k'⟩
   ·rw[Zrn,Option.map_eq_none_iff,ZrU] at hx
    omega
  ·exact d.elim
 ·exact d.elim
theorem Zji{i:Nat}{te:TE}{te':Addr->Obj->List (List Key×V)->TE}{f:List PV->Rr PV}(hm:Γ[i]?=some .O)(hno:ZlL (Γ.set i .S)=true)(he:∀a o kvs,DE K EX (Γ.set i .S) (Γ.set i .S) .F (te' a o kvs) f)(hmono:∀a o kvs (σ:St) (H:Hp) (Q:VK),σ[i]?=some (some (.ref a))->H a=some (.frz o (.dT kvs))->te' a o kvs σ H Q->te σ H Q) :
  DE K EX Γ Γ .F (ZjI i te) (fun ρ=>(Zia (gv i ρ)).bind fun _=>f ρ):=fun B H0 H σ ρ F R Q A d=>by
 obtain⟨v,hσ,tr⟩:=A.getO hm
 have d1:=d.bind
 have d1:Dn (Zia (ρ.getD i .non)) _ _:=d1
 unfold Zia at d1
 split at d1
 ·rename_i p ks xs hx
  split at d1
  ·rename_i hl
   have tr0:=tr
   rw[hx] at tr
   obtain⟨a,vs,u,G,rfl,hH,⟨hp,hz,rfl⟩,ht,hn,hF⟩:=tr
   refine⟨a,_,hσ,hH,fun o=>hmono a o _ σ _ _ hσ Zv ?_⟩
   have haF:a∈F i:=by rw[hF];simp
   have hi:i<Γ.length:=(Zrg.mp hm).1
   have gen:∀j,(Γ.set i .S).getD j .U=if j=i then .S else Γ.getD j .U:=fun j=>by
    by_cases hj:j=i
    ·subst hj;rw[if_pos rfl,Zrf,ZrC hi];rfl
    ·rw[if_neg hj,Zrf,ZrJ (Ne.symm hj),<- Zrf]
   have hFj:∀j,j≠i->F j=[]:=fun j hj=>by
    have sl:=A.slot j
    by_cases hjl:j<Γ.length
    ·have hmm:=ZrR.mp hno ((Γ.set i .S)[j]'(by simpa using hjl)) (Zs1 _)
     rw[List.getElem_set_ne (Ne.symm hj)] at hmm
     have e2:Γ.getD j .U=Γ[j]:=by rw[Zrf,Zri hjl];rfl
     rw[e2] at sl
     simp only[Bool.or_eq_true,beq_iff_eq] at hmm
     rcases hmm with (z|z)|z
     ·rw[z] at sl;exact sl
     ·rw[z] at sl;exact sl.1
     ·rw[z] at sl;exact sl.1
    ·have e2:Γ.getD j .U=.U:=by rw[Zrf,Zr3 (by omega)];rfl
     rw[e2] at sl;exact sl
   have ha0:H0 a=none:=A.young i a haF
   have hRa:a ∉ R:=A.disjR i a haF
   have s0:Z2 H0 (upd H a (.frz o (.dT (ks.zip vs)))):=fun b w' hb=>by
    rw[Zp (fun z=>by rw[z,ha0] at hb;cases hb)];exact A.same b w' hb
   have imne:∀b u,Im K H b u->Im K (upd H a (.frz o (.dT (ks.zip vs)))) b u:=fun b u ⟨h1,h2⟩=>by
    have nb:b≠a:=fun z=>by rw[z,hH] at h1;cases h1;exact h2
    exact⟨by rw[Zp nb];exact h1,h2⟩
   have gne:∀b∈G,b∈F i:=fun b hb=>by rw[hF];simp[hb]
   have rp0:Rep K H (fun b=>b∈F i) (ρ.getD i .non) (.ref a):=tr0.rep fun b hb=>hb
   have A2:Ag K B H0 (upd H a (.frz o (.dT (ks.zip vs)))) σ (Γ.set i .S) ρ (fun _=>[]) R:=by
    refine⟨s0,A.own,fun j b hb=>by simp at hb,A.youngR,fun j b hb=>by simp at hb,fun b hb=>?_,fun j k _ b hb=>by simp at hb,fun j b hb=>by simp at hb,by simpa using A.lenS,by simpa using A.lenR,fun j=>?_⟩
    ·obtain⟨w',z⟩:=A.liveR b hb
     exact⟨w',by rw[Zp (fun y=>hRa (by rw[<- y];exact hb))];exact z⟩
    ·rw[gen j]
     by_cases hj:j=i
     ·subst hj
      rw[if_pos rfl]
      refine⟨rfl,_,hσ,Rep.mono (fun b w' hb r=>?_) imne rp0⟩
      have bR:b ∉ R:=A.disjR j b hb
      refine⟨?_,A.own b (A.young j b hb),bR,fun k z=>by simp at z⟩
      by_cases hb2:b=a
      ·subst hb2
       rcases r with z|⟨o',z⟩
       ·rw[hH] at z;cases z
        exact .inr ⟨o,Zv⟩
       ·rw[hH] at z;cases z
      ·rcases r with z|⟨o',z⟩
       ·exact .inl (by rw[Zp hb2];exact z)
       ·exact .inr ⟨o',by rw[Zp hb2];exact z⟩
     ·rw[if_neg hj]
      have sl:=A.slot j
      rw[hFj j hj] at sl
      refine sl.mono (fun b w' hb r=>?_) imne (fun b hb=>by simp at hb)
      have nb:b≠a:=fun z=>hb.2.2 i (by rw[z];exact haF)
      refine⟨?_,hb.1,hb.2.1,fun k z=>by simp at z⟩
      rcases r with z|⟨o',z⟩
      ·exact .inl (by rw[Zp nb];exact z)
      ·exact .inr ⟨o',by rw[Zp nb];exact z⟩
   refine he a o _ B H0 _ σ ρ _ R _ A2 ((show Dn (f ρ) _ _ from d1).imp (fun x _ dx y H2 s2 r2=>?_) fun e q=>q)
   have hH2:=s2 _ _ (Zv (H:=H) (a:=a))
   refine⟨hH2, ?_⟩
   obtain⟨F1,f1,G2,t2,o2,A1⟩:=r2
   have fr0:∀b∈G2,b≠a/\H b=none:=fun b hb=>by
    rcases (o2 b hb).2 with q|⟨j,q⟩
    ·have nb:b≠a:=fun z=>by rw[z,Zv] at q;cases q
     rw[Zp nb] at q
     exact⟨nb,q⟩
    ·simp at q
   have s3:Z2 H (upd H2 a (.dT (ks.zip vs))):=fun b w' hb=>by
    by_cases hb2:b=a
    ·subst hb2;rw[hH] at hb;cases hb;exact Zv
    ·rw[Zp hb2];exact s2 b w' (by rw[Zp hb2];exact hb)
   have t3:Jg K (upd H2 a (.dT (ks.zip vs))) x y G2:=t2.monoN (fun b hb o' ho=>by rw[Zp (fr0 b hb).1];exact ho) fun b u nf ⟨h1,h2⟩=>by
    have nb:b≠a:=fun z=>by rw[z,hH2] at h1;cases h1;exact nf _ _ rfl
    exact⟨by rw[Zp nb];exact h1,h2⟩
   exact dx _ _ s3 ⟨F,fun _ _ h=>h,G2,t3,fun b hb=>⟨(o2 b hb).1,.inl (fr0 b hb).2⟩,A.more s3 (fun b hb=>(fr0 b hb).2) t3.alive⟩
  ·exact d1.elim
 ·exact d1.elim
end
end L2
namespace My
open PySem L2
seal PE PT PA PS PSs DE DT DAA DAF DS
theorem Zh{K:W.Frag}{EX:_}{Γ:List Md}{i:Nat}(h:Γ[i]?=some .S):DE K EX Γ Γ .A (ZaI i) (fun ρ=>.ok (gv i ρ)):=Zr h (by decide)
noncomputable def top(i:Nat):Stmt:=PySem.Challenge.pw_sowring_k33_whole_the_last_sowing.main.body.getD i (.Pass ⟨0,0,0,0⟩)
noncomputable abbrev ZnC:Stmt:=top 44
theorem ZmP:Zy ["script", "many", "found", "step", "k"] ["script", "many"] (Zk ZnC):=⟨rfl,rfl,rfl,by decide +kernel,rfl,by decide +kernel,by decide +kernel⟩
theorem Zp5:Zu "_law_numbers" ZnC ["script", "many"]:=fun _ _ _ _ _ _ us hl=>by obtain⟨_,_,rfl⟩:=us2 hl;rfl
noncomputable abbrev Zoe:Stmt:=top 45
theorem Zna:Zy ["numbers", "pits", "board", "k", "barred"] ["numbers"] (Zk Zoe):=⟨rfl,rfl,rfl,by decide +kernel,rfl,by decide +kernel,by decide +kernel⟩
theorem Zqa:Zu "_law_drawn" Zoe ["numbers"]:=fun _ _ _ _ _ _ us hl=>by obtain⟨_,rfl⟩:=us1 hl;rfl
noncomputable abbrev ZoK:Stmt:=top 10
theorem Zqz:Zy ["value"] ["value"] (Zk ZoK):=⟨rfl,rfl,rfl,by decide +kernel,rfl,by decide +kernel,by decide +kernel⟩
theorem ZqA:Zu "is_whole" ZoK ["value"]:=fun _ _ _ _ _ _ us hl=>by obtain⟨_,rfl⟩:=us1 hl;rfl
noncomputable abbrev Zn0:Stmt:=top 11
theorem Zpj:Zy ["value", "least"] ["value", "least"] (Zk Zn0):=⟨rfl,rfl,rfl,by decide +kernel,rfl,by decide +kernel,by decide +kernel⟩
theorem Zo2:Zu "is_whole_from" Zn0 ["value", "least"]:=fun _ _ _ _ _ _ us hl=>by obtain⟨_,_,rfl⟩:=us2 hl;rfl
noncomputable abbrev ZmU:Stmt:=top 12
theorem Zn4:Zy ["values"] ["values"] (Zk ZmU):=⟨rfl,rfl,rfl,by decide +kernel,rfl,by decide +kernel,by decide +kernel⟩
theorem Zo4:Zu "is_list_from_nought" ZmU ["values"]:=fun _ _ _ _ _ _ us hl=>by obtain⟨_,rfl⟩:=us1 hl;rfl
noncomputable abbrev Zob:Stmt:=top 9
theorem ZpN:Zy [] [] (Zk Zob):=⟨rfl,rfl,rfl,by decide +kernel,rfl,by decide +kernel,by decide +kernel⟩
theorem ZpX:Zu "most_seeds" Zob []:=fun _ _ _ _ _ _ us hl=>match us,hl with | [],_=>rfl
noncomputable abbrev ZoL:Stmt:=top 13
theorem Zq0:Zy ["board"] ["board"] (Zk ZoL):=⟨rfl,rfl,rfl,by decide +kernel,rfl,by decide +kernel,by decide +kernel⟩
theorem ZqB:Zu "is_board" ZoL ["board"]:=fun _ _ _ _ _ _ us hl=>by obtain⟨_,rfl⟩:=us1 hl;rfl
noncomputable abbrev ZnM:Stmt:=top 14
theorem Zp8:Zy ["board"] ["board"] (Zk ZnM):=⟨rfl,rfl,rfl,by decide +kernel,rfl,by decide +kernel,by decide +kernel⟩
theorem ZoR:Zu "check_board" ZnM ["board"]:=fun _ _ _ _ _ _ us hl=>by obtain⟨_,rfl⟩:=us1 hl;rfl
noncomputable abbrev Zoq:Stmt:=top 16
theorem Zpf:Zy ["numbers"] ["numbers"] (Zk Zoq):=⟨rfl,rfl,rfl,by decide +kernel,rfl,by decide +kernel,by decide +kernel⟩
theorem Zqr:Zu "is_rising" Zoq ["numbers"]:=fun _ _ _ _ _ _ us hl=>by obtain⟨_,rfl⟩:=us1 hl;rfl
noncomputable abbrev Zpp:Stmt:=top 15
theorem ZqO:Zy ["board", "pit"] ["board", "pit"] (Zk Zpp):=⟨rfl,rfl,rfl,by decide +kernel,rfl,by decide +kernel,by decide +kernel⟩
theorem ZqT:Zu "is_pit" Zpp ["board", "pit"]:=fun _ _ _ _ _ _ us hl=>by obtain⟨_,_,rfl⟩:=us2 hl;rfl
noncomputable abbrev ZnB:Stmt:=top 17
theorem Zo6:Zy ["board", "barred"] ["board", "barred"] (Zk ZnB):=⟨rfl,rfl,rfl,by decide +kernel,rfl,by decide +kernel,by decide +kernel⟩
theorem ZoG:Zu "check_barred" ZnB ["board", "barred"]:=fun _ _ _ _ _ _ us hl=>by obtain⟨_,_,rfl⟩:=us2 hl;rfl
noncomputable abbrev ZnA:Stmt:=top 19
theorem Znx:Zy ["pits", "seeds", "count", "k"] ["pits", "seeds"] (Zk ZnA):=⟨rfl,rfl,rfl,by decide +kernel,rfl,by decide +kernel,by decide +kernel⟩
theorem Zp4:Zu "count_boards" ZnA ["pits", "seeds"]:=fun _ _ _ _ _ _ us hl=>by obtain⟨_,_,rfl⟩:=us2 hl;rfl
noncomputable abbrev Znd:Stmt:=top 24
theorem ZoT:Zy ["board"] ["board"] (Zk Znd):=⟨rfl,rfl,rfl,by decide +kernel,rfl,by decide +kernel,by decide +kernel⟩
theorem ZnW:Zu "check_few_boards" Znd ["board"]:=fun _ _ _ _ _ _ us hl=>by obtain⟨_,rfl⟩:=us1 hl;rfl
noncomputable abbrev Zod:Stmt:=top 29
theorem ZpO:Zy ["board", "barred"] ["board", "barred"] (Zk Zod):=⟨rfl,rfl,rfl,by decide +kernel,rfl,by decide +kernel,by decide +kernel⟩
theorem Zpa:Zu "check_play" Zod ["board", "barred"]:=fun _ _ _ _ _ _ us hl=>by obtain⟨_,_,rfl⟩:=us2 hl;rfl
noncomputable abbrev Zor:Stmt:=top 31
theorem Zo5:Zy ["board", "barred"] ["board", "barred"] (Zk Zor):=⟨rfl,rfl,rfl,by decide +kernel,rfl,by decide +kernel,by decide +kernel⟩
theorem Zoh:Zu "free_pits" Zor ["board", "barred"]:=fun _ _ _ _ _ _ us hl=>by obtain⟨_,_,rfl⟩:=us2 hl;rfl
noncomputable abbrev Zn7:Stmt:=top 35
theorem ZnS:Zy ["board", "barred", "pit", "steps"] ["board", "barred", "pit"] (Zk Zn7):=⟨rfl,rfl,rfl,by decide +kernel,rfl,by decide +kernel,by decide +kernel⟩
theorem Zp2:Zu "steps_to_bar" Zn7 ["board", "barred", "pit"]:=fun _ _ _ _ _ _ us hl=>by obtain⟨_,_,_,rfl⟩:=us3 hl;rfl
noncomputable abbrev ZoV:Stmt:=top 21
theorem Znq:Zy ["board", "pit", "pits", "rounds", "over", "other", "last", "step"] ["board", "pit"] (Zk ZoV):=⟨rfl,rfl,rfl,by decide +kernel,rfl,by decide +kernel,by decide +kernel⟩
theorem ZqL:Zu "sow_pit" ZoV ["board", "pit"]:=fun _ _ _ _ _ _ us hl=>by obtain⟨_,_,rfl⟩:=us2 hl;rfl
noncomputable abbrev ZnZ:Stmt:=top 26
theorem Zoo:Zy ["board", "pits"] ["board", "pits"] (Zk ZnZ):=⟨rfl,rfl,rfl,by decide +kernel,rfl,by decide +kernel,by decide +kernel⟩
theorem Zoz:Zu "sowings_of" ZnZ ["board", "pits"]:=fun _ _ _ _ _ _ us hl=>by obtain⟨_,_,rfl⟩:=us2 hl;rfl
noncomputable abbrev Zoa:Stmt:=top 25
theorem ZnJ:Zy ["level", "pits", "came_from", "found", "board", "step"] ["level", "pits", "came_from"] (Zk Zoa):=⟨rfl,rfl,rfl,by decide +kernel,rfl,by decide +kernel,by decide +kernel⟩
theorem ZpW:Zu "next_level" Zoa ["level", "pits", "came_from"]:=fun _ _ _ _ _ _ us hl=>by obtain⟨_,_,_,rfl⟩:=us3 hl;rfl
noncomputable abbrev Zop:Stmt:=top 30
theorem ZnF:Zy ["board", "barred", "pits", "came_from", "level"] ["board", "barred"] (Zk Zop):=⟨rfl,rfl,rfl,by decide +kernel,rfl,by decide +kernel,by decide +kernel⟩
theorem Zqq:Zu "walk_from" Zop ["board", "barred"]:=fun _ _ _ _ _ _ us hl=>by obtain⟨_,_,rfl⟩:=us2 hl;rfl
noncomputable abbrev Zoc:Stmt:=top 32
theorem ZoU:Zy ["board", "pits"] ["board", "pits"] (Zk Zoc):=⟨rfl,rfl,rfl,by decide +kernel,rfl,by decide +kernel,by decide +kernel⟩
theorem ZpY:Zu "free_seeds" Zoc ["board", "pits"]:=fun _ _ _ _ _ _ us hl=>by obtain⟨_,_,rfl⟩:=us2 hl;rfl
noncomputable abbrev Znh:Stmt:=top 34
theorem Znw:Zy ["board", "pits", "steps"] ["board", "pits", "steps"] (Zk Znh):=⟨rfl,rfl,rfl,by decide +kernel,rfl,by decide +kernel,by decide +kernel⟩
theorem ZoZ:Zu "seeds_and_steps" Znh ["board", "pits", "steps"]:=fun _ _ _ _ _ _ us hl=>by obtain⟨_,_,_,rfl⟩:=us3 hl;rfl
noncomputable abbrev ZnG:Stmt:=top 33
theorem ZnK:Zy ["board", "barred", "pits", "steps"] ["board", "barred"] (Zk ZnG):=⟨rfl,rfl,rfl,by decide +kernel,rfl,by decide +kernel,by decide +kernel⟩
theorem ZpZ:Zu "ends_first" ZnG ["board", "barred"]:=fun _ _ _ _ _ _ us hl=>by obtain⟨_,_,rfl⟩:=us2 hl;rfl
noncomputable abbrev Znz:Stmt:=top 40
theorem ZnI:Zy ["numbers", "least"] ["numbers"] (Zk Znz):=⟨rfl,rfl,rfl,by decide +kernel,rfl,by decide +kernel,by decide +kernel⟩
theorem Zpn:Zu "least_missing" Znz ["numbers"]:=fun _ _ _ _ _ _ us hl=>by obtain⟨_,rfl⟩:=us1 hl;rfl
noncomputable abbrev ZnL:Stmt:=top 39
theorem Znm:Zy ["board", "barred", "pits", "found", "other"] ["board", "barred"] (Zk ZnL):=⟨rfl,rfl,rfl,by decide +kernel,rfl,by decide +kernel,by decide +kernel⟩
theorem Zol:Zu "worths_from" ZnL ["board", "barred"]:=fun _ _ _ _ _ _ us hl=>by obtain⟨_,_,rfl⟩:=us2 hl;rfl
noncomputable abbrev Zny:Stmt:=top 27
theorem Zo0:Zy ["boards"] ["boards"] (Zk Zny):=⟨rfl,rfl,rfl,by decide +kernel,rfl,by decide +kernel,by decide +kernel⟩
theorem Zpm:Zu "rising_boards" Zny ["boards"]:=fun _ _ _ _ _ _ us hl=>by obtain⟨_,rfl⟩:=us1 hl;rfl
noncomputable abbrev Zn9:Stmt:=top 41
theorem ZnT:Zy ["board", "barred", "found", "worth", "pits"] ["board", "barred", "found", "worth"] (Zk Zn9):=⟨rfl,rfl,rfl,by decide +kernel,rfl,by decide +kernel,by decide +kernel⟩
theorem ZoF:Zu "pit_to_worth" Zn9 ["board", "barred", "found", "worth"]:=fun _ _ _ _ _ _ us hl=>by obtain⟨_,_,_,_,rfl⟩:=us4 hl;rfl
noncomputable abbrev ZoJ:Stmt:=top 37
theorem ZnR:Zy ["board", "barred", "found", "lost"] ["board", "barred"] (Zk ZoJ):=⟨rfl,rfl,rfl,by decide +kernel,rfl,by decide +kernel,by decide +kernel⟩
theorem Zp1:Zu "who_wins" ZoJ ["board", "barred"]:=fun _ _ _ _ _ _ us hl=>by obtain⟨_,_,rfl⟩:=us2 hl;rfl
noncomputable abbrev Zn8:Stmt:=top 42
theorem Znf:Zy ["board", "barred", "other", "other_barred", "found", "worth", "other_found", "other_worth"] ["board", "barred", "other", "other_barred"] (Zk Zn8):=⟨rfl,rfl,rfl,by decide +kernel,rfl,by decide +kernel,by decide +kernel⟩
theorem Zp3:Zu "side_by_side" Zn8 ["board", "barred", "other", "other_barred"]:=fun _ _ _ _ _ _ us hl=>by obtain⟨_,_,_,_,rfl⟩:=us4 hl;rfl
noncomputable abbrev Zot:Stmt:=top 47
theorem Zo7:Zy ["board", "barred"] ["board", "barred"] (Zk Zot):=⟨rfl,rfl,rfl,by decide +kernel,rfl,by decide +kernel,by decide +kernel⟩
theorem Zqt:Zu "_law_open" Zot ["board", "barred"]:=fun _ _ _ _ _ _ us hl=>by obtain⟨_,_,rfl⟩:=us2 hl;rfl
noncomputable abbrev Zos:Stmt:=top 46
theorem ZnY:Zy ["board", "pit", "rest", "hand", "k"] ["board", "pit"] (Zk Zos):=⟨rfl,rfl,rfl,by decide +kernel,rfl,by decide +kernel,by decide +kernel⟩
theorem Zqs:Zu "_law_sown" Zos ["board", "pit"]:=fun _ _ _ _ _ _ us hl=>by obtain⟨_,_,rfl⟩:=us2 hl;rfl
noncomputable abbrev ZnN:Stmt:=top 48
theorem ZmO:Zy ["board", "barred", "winner", "numbers", "here", "turn", "pits", "pit", "told"] ["board", "barred", "winner", "numbers"] (Zk ZnN):=⟨rfl,rfl,rfl,by decide +kernel,rfl,by decide +kernel,by decide +kernel⟩
theorem ZpH:Zu "_law_played" ZnN ["board", "barred", "winner", "numbers"]:=fun _ _ _ _ _ _ us hl=>by obtain⟨_,_,_,_,rfl⟩:=us4 hl;rfl
noncomputable abbrev Zpo:Stmt:=top 38
theorem Zpq:Zy ["board", "barred", "found"] ["board", "barred"] (Zk Zpo):=⟨rfl,rfl,rfl,by decide +kernel,rfl,by decide +kernel,by decide +kernel⟩
theorem ZqS:Zu "worths" Zpo ["board", "barred"]:=fun _ _ _ _ _ _ us hl=>by obtain⟨_,_,rfl⟩:=us2 hl;rfl
noncomputable abbrev ZqV:Stmt:=top 49
theorem ZoM:Zy ["script", "numbers", "board", "barred", "told", "winner", "alone", "ended", "beside"] ["script"] (Zk ZqV):=⟨rfl,rfl,rfl,by decide +kernel,rfl,by decide +kernel,by decide +kernel⟩
theorem Zrd:Zu "law" ZqV ["script"]:=fun _ _ _ _ _ _ us hl=>by obtain⟨_,rfl⟩:=us1 hl;rfl
structure Txt(K:PySem.W.Frag)(mg:Str->Option Value):Prop where
 ZpD:Dfn K mg "_law_numbers" ZnC
 Zql:Dfn K mg "_law_drawn" Zoe
 ZqH:Dfn K mg "is_whole" ZoK
 ZoB:Dfn K mg "is_whole_from" Zn0
 ZoC:Dfn K mg "is_list_from_nought" ZmU
 Zqi:Dfn K mg "most_seeds" Zob
 ZqI:Dfn K mg "is_board" ZoL
 ZoY:Dfn K mg "check_board" ZnM
 Zq4:Dfn K mg "is_rising" Zoq
 ZqX:Dfn K mg "is_pit" Zpp
 ZoP:Dfn K mg "check_barred" ZnB
 ZpC:Dfn K mg "count_boards" ZnA
 Zog:Dfn K mg "check_few_boards" Znd
 Zpg:Dfn K mg "check_play" Zod
 Zow:Dfn K mg "free_pits" Zor
 ZpA:Dfn K mg "steps_to_bar" Zn7
 ZqR:Dfn K mg "sow_pit" ZoV
 ZoA:Dfn K mg "sowings_of" ZnZ
 Zqh:Dfn K mg "next_level" Zoa
 Zq3:Dfn K mg "walk_from" Zop
 Zqj:Dfn K mg "free_seeds" Zoc
 Zpb:Dfn K mg "seeds_and_steps" Znh
 Zqk:Dfn K mg "ends_first" ZnG
 Zpx:Dfn K mg "least_missing" Znz
 Zov:Dfn K mg "worths_from" ZnL
 Zpw:Dfn K mg "rising_boards" Zny
 ZoO:Dfn K mg "pit_to_worth" Zn9
 ZpL:Dfn K mg "who_wins" ZoJ
 ZpB:Dfn K mg "side_by_side" Zn8
 Zq6:Dfn K mg "_law_open" Zot
 Zq5:Dfn K mg "_law_sown" Zos
 ZpU:Dfn K mg "_law_played" ZnN
 ZqW:Dfn K mg "worths" Zpo
 Zre:Dfn K mg "law" ZqV
 c_FEWEST_PITS:∃t,mg "FEWEST_PITS"=some (.int 2 t)
 c_MOST_BOARDS:∃t,mg "MOST_BOARDS"=some (.int 1000 t)
 c_MOST_PITS:∃t,mg "MOST_PITS"=some (.int 24 t)
 z_all:mg "all"=none
 z_bool:mg "bool"=none
 z_enumerate:mg "enumerate"=none
 z_int:mg "int"=none
 z_isinstance:mg "isinstance"=none
 z_len:mg "len"=none
 z_list:mg "list"=none
 z_range:mg "range"=none
 z_sorted:mg "sorted"=none
 z_sum:mg "sum"=none
 z_tuple:mg "tuple"=none
 l_lam:Zk1 K=true
section
variable {P:Program}{w:World}{K:W.Frag}{mg:Str->Option Value}{base:Heap}
set_option hygiene false
local macro_rules | `(tactic| walk_at "pd")=>`(tactic| try simp -implicitDefEqProofs (disch:=first|omega|(simp only[Zrj,ZrT,ZsN,List.length_replicate,ZrF,Zti,Zr9,Zso,ZsX,ZU];omega)|decide) only[ZiV,ZiW,List.set_cons_zero,List.set_cons_succ,ZsF,Zsm,Zel,Zek,Zsy,Rr.bind_ok,Rr.bind_exc,Rr.bind_bad,Rr.thenS_ok,RS.seq_next,RS.seq_ret,RS.out_next,RS.out_ret,   ZiF,Zi8,Zke,Zkf,Zkn,Zko,ZiX,ZgL,Zlg,Zjt,Zht,Zkk,Zkj,Zki,Zgo,Zkh,Zkg,ZgE,ZgF,ZgD,ZgC,ZiD,ZcR,ZiC,ZaU,ZiA,Ze1,ZrF,Zti,Bool.not_true,Bool.not_false,Bool.false_eq_true,if_true,if_false,Nat.reduceAdd,Nat.reduceSub,id,Zru,ZsK,Int.reduceToNat,Zd1,ZbL,ZlH,Zky,Zkx,Zgp,ZlX,ZgK,Zg1,Nat.reduceLeDiff,Zrl,Int.reduceLT,Int.reduceLE,Int.reduceEq,decide_true,decide_false,
 UK,Qf,ZeE,ZcP,Zgk,Ql,Zdx,Vs,Zgn,Zgu,beq_self_eq_true,Bool.and_true,Bool.true_and,Bool.and_false,Bool.false_and,Zkd,])
local macro_rules | `(tactic| walk_at "in")=>`(tactic| (simp only[List.cons.injEq,PV.lst.injEq,PV.int.injEq,PV.str.injEq,PV.bl.injEq,PV.tup.injEq,ZgG,and_true] at e ⊢;first|(simp only[e];done)|(subst e;rfl)|(rw[e])))
local macro_rules | `(tactic| walk_at "lo")=>`(tactic| first|exact Or.inl rfl|exact Or.inr rfl)
set_option hygiene true
noncomputable def ZmZ:Pm:=⟨List Int×Int,fun a=>[.lst (a.1.map PV.int),.int a.2],fun a=>a.1.length<=1000/\0<a.2/\a.2<=1000,fun a=>.ok (.lst ((Zd3 a.1 a.2.toNat).map PV.int))⟩
theorem Zpv(T:Txt K mg){f:Addr}{fd:FuncData}(F:Fun K "_law_numbers" "_law_numbers" ZnC f fd):JF P w K mg base CX0 1 f fd ["script", "many"] (spF K 2 .F W0 ZmZ.fn):=by
 refine F.okP ZmP rfl rfl (fun cdv A outer s H E hr=>?_)
 have hu:=hr.units
 refine⟨_,_,⟨[],[],[],.F⟩,rfl,(Ze (Z1 (i:=2) ZmP.nd rfl (by walk_at "lo") (VF Zf))
   (Ze (Z1 (i:=3) ZmP.nd rfl (by walk_at "lo") Zm)
   (Ze (JH (Z6 Zd2 (Zw (Z8 (K:=K)) rfl T.z_len Jr (Zb (pv 0) Zf)) Zm (ZB _)) (Zi (Z1 (i:=3) ZmP.nd rfl (by walk_at "lo") (ZL JV Zm (ZL Jd (ZT (Zx (K:=K)) (pv 0) Zm (fun _ _=>rfl)) Zm)))) ZM)
   (Ze (VD PassesOwn.never rfl (Jc rfl T.z_range (Zb (pv 1) Zf)) (Ji (i:=4) ZmP.nd rfl (by walk_at "lo")) (Ze (Z1 (i:=3) ZmP.nd rfl (by walk_at "lo") (ZL Jd (ZL ZbO (pv 3) Zm) Zm))
   (Zi (Jh (Zi5 PySem.F.plainAttrs_list PySem.F.slot_list_append PySem.F.type_list_append ZaX (pv 2) (Zb (ZL Jd (ZL V3 (pv 3) Zm) Zm) Zf))))))
   (Ze (VD PassesOwn.never rfl (Jc rfl T.z_range (Zb (Zw (Z8 (K:=K)) rfl T.z_len Jr (Zb (pv 0) Zf)) Zf)) (Ji (i:=4) ZmP.nd rfl (by walk_at "lo")) (Zi (ZcL (ZL Jd (ZL JV (ZT (Zx (K:=K)) (pv 2) (ZL Jd (pv 4) (pv 1)) (fun _ _=>rfl)) (ZT (Zx (K:=K)) (pv 0) (pv 4) (fun _ _=>rfl))) Zm) (Zev (pv 2) (ZL Jd (pv 4) (pv 1)) V1))))
   (Zi (Z5 (pv 2)))))))),
   (Zn (Γm:=[.S,.S,.O,.U,.U]) (ZG (i:=2) (Ve Jp) (by decide))
   (Zn (Γm:=[.S,.S,.O,.P,.U]) (ZS (i:=3) Zj (by decide))
   (Zn (Γm:=[.S,.S,.O,.P,.U]) (JI (Z4 (DE.toA (ZdG (DE.toA (Jo (Za (Zh (i:=0) rfl) Zd))) (DE.toA Zj))))
   (ZS (i:=3) (JX (DE.toA Zj) (DE.toA (Je (Z7 (te:=tC .non) (Zh (i:=0) rfl) (DE.toA Zj)) (DE.toA Zj)))) (by decide))
   ZN)
   (Zn (Γm:=[.S,.S,.O,.P,.U]) (VH (Γl:=[.S,.S,.O,.P,.U]) (JP (Za (Zh (i:=1) rfl) Zd)) rfl (ZfJ (i:=4) (by decide))
   (DS.out (Y:=⟨[.S,.S,.O,.P,.P],[.S,.S,.O,.P,.U],[.S,.S,.O,.P,.U],.F⟩) (Y':=⟨[.S,.S,.O,.P,.U],[.S,.S,.O,.P,.U],[.S,.S,.O,.P,.U],.F⟩) (Zn (Γm:=[.S,.S,.O,.P,.P]) (ZS (i:=3) (Je (DE.toA (Zfp (DE.toA (Zq (i:=3) rfl)) (DE.toA Zj))) (DE.toA Zj)) (by decide))
   (Zfm (i:=2) rfl rfl (DE.PF (Je (DE.toA (QY (DE.toA (Zq (i:=3) rfl)) (DE.toA Zj))) (DE.toA Zj))))) rfl rfl rfl rfl))
   (Zn (Γm:=[.S,.S,.O,.P,.U]) (VH (Γl:=[.S,.S,.O,.P,.U]) (JP (Za (DE.toA (Jo (Za (Zh (i:=0) rfl) Zd))) Zd)) rfl (ZfJ (i:=4) (by decide))
   (DS.out (Y:=⟨[.S,.S,.O,.P,.P],[.S,.S,.O,.P,.U],[.S,.S,.O,.P,.U],.F⟩) (Y':=⟨[.S,.S,.O,.P,.U],[.S,.S,.O,.P,.U],[.S,.S,.O,.P,.U],.F⟩) (Qx (i:=2) rfl (Je (DE.toA (JX (Z7 (te:=tC .non) (Zr (i:=2) (m:=.O) rfl (by decide)) (DE.toA (Je (DE.toA (Zq (i:=4) rfl)) (Zh (i:=1) rfl)))) (Z7 (te:=tC .non) (Zh (i:=0) rfl) (DE.toA (Zq (i:=4) rfl))))) (DE.toA Zj)) (DE.toA (Je (DE.toA (Zq (i:=4) rfl)) (Zh (i:=1) rfl)))) rfl rfl rfl rfl))
   (Jm (JR (i:=2) rfl))))))), ?_⟩
 refine Pm.ref ZmZ (g:=fun xs=>_) ?_
 rintro⟨ns,m⟩ ⟨hn,h0,h1⟩
 simp only at hn h0 h1
 simp only[ZmZ]
 have hst:JJ ns=if 0<ns.length then 1+ns.getD 0 0%2147483646 else 1:=rfl
 walk_at "pd"
 by_cases hz:0<ns.length
 ·rw[if_pos hz] at hst
  rw[decide_eq_true (by omega)]
  walk_at "pd"
  rw[<- hst]
  clear hst
  generalize hw:Qs _ _ _=W
  obtain⟨ρ',rfl,v,rfl⟩:=Jl hw (fun i ρ=>∃v,ρ=[.lst (ns.map PV.int),.int m,.lst ((ZdO (JJ ns) i).map PV.int),.int (UZ (JJ ns) i),v]) ⟨_,rfl⟩ (by
   rintro i x ρ hx ⟨v,rfl⟩
   obtain⟨hi,rfl⟩:=JK hx
   have hb:=ZcA (ZaK ns) i
   have hl:(ZdO (JJ ns) i).length=i:=VR _ _
   walk_at "pd"
   exact VB ⟨_,by rw[Zbh,L2.UZ]⟩)
  walk_at "pd"
  rw[ZU]
  generalize hw:Qs _ _ _=W
  obtain⟨ρ',rfl,v,rfl⟩:=Jl hw (fun i ρ=>∃v,ρ=[.lst (ns.map PV.int),.int m,.lst ((Zbj (ZdO (JJ ns) m.toNat) ns m.toNat i).map PV.int),.int (UZ (JJ ns) m.toNat),v]) ⟨_,rfl⟩ (by
   rintro i x ρ hx ⟨v,rfl⟩
   obtain⟨hi,rfl⟩:=JK hx
   have hl:(Zbj (ZdO (JJ ns) m.toNat) ns m.toNat i).length=m.toNat:=by rw[U8,VR]
   have m0:=Zr5 (0+(i:Int)) (show m≠0 by omega)
   have m1:=Zry (0+(i:Int)) h0
   have e:((0+(i:Int))%m).toNat=i%m.toNat:=by
    have:((i%m.toNat:Nat):Int)=(0+(i:Int))%m:=by rw[Int.natCast_emod,ZrA (by omega),Zsx]
    omega
   walk_at "pd"
   exact VB ⟨_,by rw[Zbj,e,show (0+(i:Int)).toNat=i by omega]⟩)
  walk_at "pd"
  rw[ZU,show (ns.length:Int).toNat=ns.length by omega]
  rfl
 ·rw[if_neg hz] at hst
  rw[decide_eq_false (by omega)]
  walk_at "pd"
  have hz2:ns=[]:=List.eq_nil_of_length_eq_zero (by omega)
  subst hz2
  generalize hw:Qs _ _ _=W
  obtain⟨ρ',rfl,v,rfl⟩:=Jl hw (fun i ρ=>∃v,ρ=[.lst [],.int m,.lst ((ZdO (JJ []) i).map PV.int),.int (UZ (JJ []) i),v]) ⟨_,by rw[hst];rfl⟩ (by
   rintro i x ρ hx ⟨v,rfl⟩
   obtain⟨hi,rfl⟩:=JK hx
   have hb:=ZcA (ZaK []) i
   have hl:(ZdO (JJ []) i).length=i:=VR _ _
   walk_at "pd"
   exact VB ⟨_,by rw[Zbh,L2.UZ]⟩)
  walk_at "pd"
  rw[ZU]
  rfl
theorem ZpG{ns:List Int}{m:Int}(h:ns.length<=1000/\0<m/\m<=1000):ZmZ.fn [.lst (ns.map PV.int),.int m]=.ok (.lst ((Zd3 ns m.toNat).map PV.int)):=Pm.fn_eq ZmZ (ns,m) h fun(a:List Int×Int) e=>by simp only[ZmZ] at e ⊢;walk_at "in"
noncomputable def lyI(n:Nat)(L:List Int):List Int:=L.foldl (fun b a=>b.set a.toNat (b.getD a.toNat 0+1)) (List.replicate n 0)
theorem ZhI{n:Nat}:∀(L:List Int) (b:List Int) (s:Int),Bs n s b->(∀a∈L,0<=a/\a<n)->Bs n (s+L.length) (L.foldl (fun b a=>b.set a.toNat (b.getD a.toNat 0+1)) b)
 |[],b,s,h,_=>by simpa using h
 |a::L,b,s,h,hL=>by
  obtain⟨l,nn,sm⟩:=h
  have ha:=hL a (by simp)
  have:=ZhI L (b.set a.toNat (b.getD a.toNat 0+1)) (s+1) ⟨by simp[l],fun x hx=>?_, ?_⟩ fun z hz=>hL z (by simp[hz])
  ·rw[Ztu,ZrF,show s+((L.length+1:Nat):Int)=s+1+L.length by omega]
   exact this
  ·rcases List.mem_or_eq_of_mem_set hx with z|z
   ·exact nn x z
   ·have:=Zfg nn a.toNat
    omega
  ·rw[UF (by omega)];omega
theorem Zkz{n:Nat}{L:List Int}(h:∀a∈L,0<=a/\a<n):Bs n L.length (lyI n L):=by
 have:=ZhI L (List.replicate n 0) 0 ⟨by simp,fun x hx=>by rw[List.eq_of_mem_replicate hx];omega,by simp⟩ h
 rw[Zsx] at this
 exact this
theorem ZhO{α β:Type}(f:α->β):∀(l:List α) (n:Nat),(l.map f).eraseIdx n=(l.eraseIdx n).map f
 |[],_=>rfl
 |_::_,0=>rfl
 |a::l,n+1=>by
  show f a::(l.map f).eraseIdx n=f a::(l.eraseIdx n).map f
  rw[ZhO f l n]
noncomputable def nAt(N:List Int)(k:Int):Int:=N.getD k.toNat 0
noncomputable def dwP(N:List Int):Int:=2+nAt N 0%3
noncomputable def dwB(N:List Int):List Int:=lyI (dwP N).toNat ((List.range (nAt N 1%8).toNat).map fun(k:Nat)=>nAt N (8+k)/5%dwP N)
noncomputable def dwI(N:List Int):List Int:=((List.range (dwP N).toNat).filter fun(p:Nat)=>decide (nAt N (16+p)/3%3=0)).map fun(p:Nat)=>(p:Int)
noncomputable def dwJ(N:List Int):List Int:=if dwI N=[] then [nAt N 2%dwP N] else dwI N
noncomputable def dwL(N:List Int):List Int:=if ((dwJ N).length:Int)=dwP N then (dwJ N).eraseIdx (nAt N 3%dwP N).toNat else dwJ N
noncomputable def Znk:Pm:=⟨List Int,fun N=>[.lst (N.map PV.int)],fun N=>N.length=63,fun N=>.ok (.tup [.lst ((dwB N).map PV.int),.lst ((dwL N).map PV.int)])⟩
theorem ZpT(T:Txt K mg){f:Addr}{fd:FuncData}(F:Fun K "_law_drawn" "_law_drawn" Zoe f fd):JF P w K mg base CX0 1 f fd ["numbers"] (spF K 1 .F W0 Znk.fn):=by
 refine F.okP Zna rfl rfl (fun cdv A outer s H E hr=>?_)
 have hu:=hr.units
 refine⟨_,_,⟨[],[],[],.F⟩,rfl,(Ze (Z1 (i:=1) Zna.nd rfl (by walk_at "lo") (ZL JV Zm (ZL Jd (ZT (Zx (K:=K)) (pv 0) Zm (fun _ _=>rfl)) Zm)))
   (Ze (Z1 (i:=2) Zna.nd rfl (by walk_at "lo") (ZL Zku (VF (Zb Zm Zf)) (pv 1)))
   (Ze (VD PassesOwn.never rfl (Jc rfl T.z_range (Zb (ZL Jd (ZT (Zx (K:=K)) (pv 0) Zm (fun _ _=>rfl)) Zm) Zf)) (Ji (i:=3) Zna.nd rfl (by walk_at "lo")) (Zi (ZbI (pv 2) (ZL Jd (ZL V3 (ZT (Zx (K:=K)) (pv 0) (ZL JV Zm (pv 3)) (fun _ _=>rfl)) Zm) (pv 1)) (Qq (K:=K)) Zm Zbb V1)))
   (Ze (Va (i:=4) Zna.nd rfl (Jc rfl T.z_range (Zb (pv 1) Zf)) (Vb Zna.nd) (fun _ _ _ _=>(Qd (fun _ _ h=>h) (Z6 (Jv (K:=K) hu) (ZL Jd (ZL V3 (ZT (Zx (K:=K)) (pv 0) (ZL JV Zm (pv 5)) (fun _ _=>rfl)) Zm) Zm) Zm (ZB _)))) (fun _ _ _ _=>(pv 5)) hv1 rfl)
   (Ze (JH (Z6 (Jv (K:=K) hu) (pv 4) (VF Zf) (ZB _)) (Zi (Z1 (i:=4) Zna.nd rfl (by walk_at "lo") (VF (Zb (ZL Jd (ZT (Zx (K:=K)) (pv 0) Zm (fun _ _=>rfl)) (pv 1)) Zf)))) ZM)
   (Ze (JH (Z6 (Jv (K:=K) hu) (Zw (Z8 (K:=K)) rfl T.z_len Jr (Zb (pv 4) Zf)) (pv 1) (ZB _)) (Zi (Jh (Zi5 PySem.F.plainAttrs_list PySem.F.slot_list_pop PySem.F.type_list_pop Zg2 (pv 4) (Zb (ZL Jd (ZT (Zx (K:=K)) (pv 0) Zm (fun _ _=>rfl)) (pv 1)) Zf)))) ZM)
   (Zi (Z5 (VE (Zb (pv 2) (Zb (pv 4) Zf))))))))))),
   (Zn (Γm:=[.S,.P,.U,.U,.U]) (ZS (i:=1) (JX (DE.toA Zj) (DE.toA (Je (Z7 (te:=tC .non) (Zh (i:=0) rfl) (DE.toA Zj)) (DE.toA Zj)))) (by decide))
   (Zn (Γm:=[.S,.P,.O,.U,.U]) (ZG (i:=2) (Zjg (Za (DE.toA Zj) Zd) (DE.toA (Zq (i:=1) rfl))) (by decide))
   (Zn (Γm:=[.S,.P,.O,.U,.U]) (VH (Γl:=[.S,.P,.O,.U,.U]) (JP (Za (DE.toA (Je (Z7 (te:=tC .non) (Zh (i:=0) rfl) (DE.toA Zj)) (DE.toA Zj))) Zd)) rfl (ZfJ (i:=3) (by decide))
   (DS.out (Y:=⟨[.S,.P,.O,.P,.U],[.S,.P,.O,.U,.U],[.S,.P,.O,.U,.U],.F⟩) (Y':=⟨[.S,.P,.O,.U,.U],[.S,.P,.O,.U,.U],[.S,.P,.O,.U,.U],.F⟩) (Za0 (i:=2) rfl rfl (DE.toA (Je (DE.toA (QY (Z7 (te:=tC .non) (Zh (i:=0) rfl) (DE.toA (JX (DE.toA Zj) (DE.toA (Zq (i:=3) rfl))))) (DE.toA Zj))) (DE.toA (Zq (i:=1) rfl)))) (DE.toA Zj)) rfl rfl rfl rfl))
   (Zn (Γm:=[.S,.P,.O,.U,.O]) (Vd (i:=4) (J6 (k:=1) (DI.c (JP (Za (DE.toA (Zq (i:=1) rfl)) Zd))) ZhS (Z4 (DE.toA (ZY (g:=id) (DE.toA (Je (DE.toA (QY (Z7 (te:=tC .non) (Zh (i:=0) rfl) (DE.toA (JX (DE.toA Zj) (Zh (i:=5) rfl)))) (DE.toA Zj))) (DE.toA Zj))) (DE.toA Zj)))) (DE.PF (DE.grd (Zh (i:=5) rfl)))) (by decide))
   (Zn (Γm:=[.S,.P,.O,.U,.O]) (JI (Z4 (DE.toA (ZY (g:=id) (Zr (i:=4) (m:=.O) rfl (by decide)) (DE.toA (Ve Jp)))))
   (ZG (i:=4) (Ve (ZJ (DE.PF (Je (Z7 (te:=tC .non) (Zh (i:=0) rfl) (DE.toA Zj)) (DE.toA (Zq (i:=1) rfl)))) Jp)) (by decide))
   ZN)
   (Zn (Γm:=[.S,.P,.O,.U,.O]) (JI (Z4 (DE.toA (ZY (g:=id) (DE.toA (Jo (Za (Zr (i:=4) (m:=.O) rfl (by decide)) Zd))) (DE.toA (Zq (i:=1) rfl)))))
   (Zfk (i:=4) rfl (Je (Z7 (te:=tC .non) (Zh (i:=0) rfl) (DE.toA Zj)) (DE.toA (Zq (i:=1) rfl))))
   ZN)
   (Jm (Qy (ZJ (JR (i:=2) rfl) (ZJ (JR (i:=4) rfl) Jp)))))))))), ?_⟩
 refine Pm.ref Znk (g:=fun xs=>_) ?_
 rintro(N:List Int) (hN:N.length=63)
 simp only[Znk]
 have e0:N.getD 0 0=nAt N 0:=rfl
 have e1:N.getD 1 0=nAt N 1:=rfl
 have e2:N.getD 2 0=nAt N 2:=rfl
 have e3:N.getD 3 0=nAt N 3:=rfl
 have r0:=Zr5 (nAt N 0) (show (3:Int)≠0 by omega)
 have r1:=Zry (nAt N 0) (show (0:Int)<3 by omega)
 have q0:=Zr5 (nAt N 1) (show (8:Int)≠0 by omega)
 have q1:=Zry (nAt N 1) (show (0:Int)<8 by omega)
 have hp:2+nAt N 0%3=dwP N:=rfl
 have hp2:2<=dwP N/\dwP N<=4:=by unfold dwP;omega
 walk_at "pd"
 rw[e0,hp,e1]
 unfold dwB
 unfold dwL dwJ dwI
 generalize dwP N=p at hp2
 walk_at "pd"
 rw[show List.replicate p.toNat (0:Int)=lyI p.toNat ((List.range 0).map fun(k:Nat)=>nAt N (8+k)/5%p) from rfl]
 generalize hm:(nAt N 1%8).toNat=m
 generalize hw:Qs _ _ _=W
 obtain⟨ρ',rfl,v,rfl⟩:=Jl hw (fun i ρ=>∃v,ρ=[.lst (N.map PV.int),.int p,.lst ((lyI p.toNat ((List.range i).map fun(k:Nat)=>nAt N (8+k)/5%p)).map PV.int),v,.non]) ⟨_,rfl⟩ (by
  rintro i x ρ hx ⟨v,rfl⟩
  obtain⟨hi,rfl⟩:=JK hx
  rw[Zsx]
  have a0:=Zr5 (nAt N (8+i)/5) (show p≠0 by omega)
  have a1:=Zry (nAt N (8+i)/5) (show (0:Int)<p by omega)
  have hl:=(Zkz (n:=p.toNat) (L:=(List.range i).map fun(k:Nat)=>nAt N (8+k)/5%p) fun z hz=>by
   obtain⟨k,hk,rfl⟩:=Zrz.mp hz
   have:=Zr5 (nAt N (8+k)/5) (show p≠0 by omega)
   have:=Zry (nAt N (8+k)/5) (show (0:Int)<p by omega)
   omega).1
  have hs:lyI p.toNat ((List.range (i+1)).map fun(k:Nat)=>nAt N (8+k)/5%p)=(lyI p.toNat ((List.range i).map fun(k:Nat)=>nAt N (8+k)/5%p)).set (nAt N (8+i)/5%p).toNat ((lyI p.toNat ((List.range i).map fun(k:Nat)=>nAt N (8+k)/5%p)).getD (nAt N (8+i)/5%p).toNat 0+1):=by
   unfold lyI
   rw[Ztk,Zsv,Ztq];rfl
  rw[hs]
  generalize lyI p.toNat ((List.range i).map fun(k:Nat)=>nAt N (8+k)/5%p)=bb at hl
  walk_at "pd"
  rw[show N.getD (8+(i:Int)).toNat 0=nAt N (8+i) from rfl]
  walk_at "pd"
  exact VB ⟨_,rfl⟩)
 walk_at "pd"
 rw[ZU]
 generalize lyI p.toNat ((List.range m).map fun(k:Nat)=>nAt N (8+k)/5%p)=bb
 rw[Zax (p:=fun(i:Nat)=>decide (nAt N (16+i)/3%3=0)) (g:=fun(i:Nat)=>.int i) (fun i hi=>by
  rw[Zsx]
  walk_at "pd"
  rw[show N.getD (16+(i:Int)).toNat 0=nAt N (16+i) from rfl]
  by_cases c:nAt N (16+i)/3%3=0
  ·rw[decide_eq_true c]
   walk_at "pd"
  ·rw[decide_eq_false c]
   walk_at "pd")]
 walk_at "pd"
 rw[show ((List.range p.toNat).filter fun(i:Nat)=>decide (nAt N (16+i)/3%3=0)).map (fun(i:Nat)=>PV.int i)=(((List.range p.toNat).filter fun(i:Nat)=>decide (nAt N (16+i)/3%3=0)).map fun(i:Nat)=>(i:Int)).map PV.int by rw[Zr1];rfl]
 generalize ((List.range p.toNat).filter fun(i:Nat)=>decide (nAt N (16+i)/3%3=0)).map (fun(i:Nat)=>(i:Int))=I
 walk_at "pd"
 have hJ:(if decide (I=[])=true then RS.next [PV.lst (N.map PV.int),.int p,.lst (bb.map PV.int),v,.lst [.int (N.getD 2 0%p)]] else RS.next [PV.lst (N.map PV.int),.int p,.lst (bb.map PV.int),v,.lst (I.map PV.int)])=RS.next [PV.lst (N.map PV.int),.int p,.lst (bb.map PV.int),v,.lst ((if I=[] then [nAt N 2%p] else I).map PV.int)]:=by
  by_cases c:I=[]
  ·rw[decide_eq_true c,if_pos rfl,if_pos c];rfl
  ·rw[decide_eq_false c,if_neg (by simp),if_neg c]
 rw[hJ]
 have y0:=Zr5 (nAt N 3) (show p≠0 by omega)
 have y1:=Zry (nAt N 3) (show (0:Int)<p by omega)
 generalize (if I=[] then [nAt N 2%p] else I)=J
 walk_at "pd"
 by_cases c:(J.length:Int)=p
 ·rw[decide_eq_true c,if_pos c]
  walk_at "pd"
  have hpp:pPopAt (.lst (J.map PV.int)) (.int (N.getD 3 0%p))=.ok (.lst ((J.eraseIdx (nAt N 3%p).toNat).map PV.int)):=by
   rw[e3]
   unfold pPopAt
   simp only
   rw[if_pos ⟨Uo,y0,by rw[Zrj];omega,by rw[Zrj];omega⟩,ZhO]
  rw[hpp]
  walk_at "pd"
 ·rw[decide_eq_false c,if_neg c]
  walk_at "pd"
theorem Zqp{N:List Int}(h:N.length=63):Znk.fn [.lst (N.map PV.int)]=.ok (.tup [.lst ((dwB N).map PV.int),.lst ((dwL N).map PV.int)]):=Pm.fn_eq Znk N h fun(a:List Int) e=>by simp only[Znk] at e ⊢;walk_at "in"
noncomputable def ZnU:Pm:=⟨Int,fun i=>[.int i],fun _=>True,fun _=>.ok (.bl true)⟩
theorem Zq1(T:Txt K mg){f:Addr}{fd:FuncData}(F:Fun K "is_whole" "is_whole" ZoK f fd):JF P w K mg base CX0 1 f fd ["value"] (spF K 1 .P W0 ZnU.fn):=by
 refine F.okP Zqz rfl rfl (fun cdv A outer s H E hr=>?_)
 have hu:=hr.units
 refine⟨_,_,⟨[],[],[],.P⟩,rfl,(Zi (Z5 (ZaS (Zw (Vx (K:=K) (n := "int") rfl) rfl T.z_isinstance Js (Zb (pv 0) (Zb (Qc (v:=.ty "int") rfl T.z_int ZhV rfl) Zf))) (QI (Zka (Zw (Vx (K:=K) (n := "bool") rfl) rfl T.z_isinstance Js (Zb (pv 0) (Zb (Qc (v:=.ty "bool") rfl T.z_bool Zjp rfl) Zf)))))))),
   (ZC (Zbq (DE.toA (Zbo (Zh (i:=0) rfl))) (Zla (DE.toA (Zbo (Zh (i:=0) rfl)))))), ?_⟩
 refine Pm.ref ZnU (g:=fun xs=>_) ?_
 intro (i:Int) _
 simp only[ZnU]
 walk_at "pd"
theorem ZqJ{i:Int}:ZnU.fn [.int i]=.ok (.bl true):=Pm.fn_eq ZnU i trivial fun _ _=>rfl
noncomputable def ZmT:Pm:=⟨Int×Int,fun a=>[.int a.1,.int a.2],fun _=>True,fun a=>.ok (.bl (decide (a.2<=a.1)))⟩
theorem Zo1(T:Txt K mg){f:Addr}{fd:FuncData}(F:Fun K "is_whole_from" "is_whole_from" Zn0 f fd):JF P w K mg base CX0 2 f fd ["value", "least"] (spF K 2 .P W0 ZmT.fn):=by
 have ZqM:=JB (P:=P) (w:=w) (base:=base) T.ZqH ZqA (fun F=>Zq1 T F)
 refine F.okP Zpj rfl rfl (fun cdv A outer s H E hr=>?_)
 have hu:=hr.units
 refine⟨_,_,⟨[],[],[],.P⟩,rfl,(Zi (Z5 (ZaS (Zl ZqM (hr.mono (by decide)) rfl (Zb (pv 0) Zf)) (QI (Jx ZlJ (pv 0) (pv 1) (ZB _)))))),
   (ZC (Zbq (DE.toA (Ur (Zc Zs) (Za (Zh (i:=0) rfl) Zd))) (ZlU (Zh (i:=0) rfl) (Zh (i:=1) rfl)))), ?_⟩
 refine Pm.ref ZmT (g:=fun xs=>_) ?_
 rintro⟨i,j⟩ _
 simp only[ZmT]
 walk_at "pd"
 rw[ZqJ]
 walk_at "pd"
theorem ZoD{i j:Int}:ZmT.fn [.int i,.int j]=.ok (.bl (decide (j<=i))):=Pm.fn_eq ZmT (i,j) trivial fun(a:Int×Int) e=>by simp only[ZmT] at e ⊢;walk_at "in"
noncomputable def ZmM:Pm:=⟨List Int,fun ns=>[.lst (ns.map PV.int)],fun ns=>ns.length<=1000000,fun ns=>.ok (.bl (decide (∀x∈ns,0<=x)))⟩
theorem Zo3(T:Txt K mg){f:Addr}{fd:FuncData}(F:Fun K "is_list_from_nought" "is_list_from_nought" ZmU f fd):JF P w K mg base CX0 3 f fd ["values"] (spF K 1 .P W0 ZmM.fn):=by
 have ZnX:=JB (P:=P) (w:=w) (base:=base) T.ZoB Zo2 (fun F=>Zo1 T F)
 refine F.okP Zn4 rfl rfl (fun cdv A outer s H E hr=>?_)
 have hu:=hr.units
 refine⟨_,_,⟨[],[],[],.P⟩,rfl,(Zi (Z5 (ZaS (Zw (Vx (K:=K) (n := "list") rfl) rfl T.z_isinstance Js (Zb (pv 0) (Zb (Qc (v:=.ty "list") rfl T.z_list ZW rfl) Zf))) (QI (Zw (Q0 (K:=K) rfl) rfl T.z_all Zf9 (Zb (JL (Ja (K:=K) (pv 0)) (fun _ _ _ _=>(Zl ZnX (hr.mono (by decide)) rfl (Zb (pv 1) (Zb Zm Zf)))) Zn4.nd rfl) Zf)))))),
   (ZC (Zbq (DE.toA (Zbo (Zh (i:=0) rfl))) (Zfs (Za (DE.toA (J5 (DI.c (Jn (VS (i:=0) rfl))) (DE.PF (Ur (Zc (Zc Zs)) (Za (Zh (i:=1) rfl) (Za (DE.toA Zj) Zd)))))) Zd)))), ?_⟩
 refine Pm.ref ZmM (g:=fun xs=>_) ?_
 intro (ns:List Int) (hn:ns.length<=1000000)
 simp only[ZmM]
 walk_at "pd"
 rw[ZeO (g:=fun z=>decide (0<=z)) (fun z _=>ZoD)]
 walk_at "pd"
 rw[ZfC]
theorem ZoE{ns:List Int}(h:ns.length<=1000000):ZmM.fn [.lst (ns.map PV.int)]=.ok (.bl (decide (∀x∈ns,0<=x))):=Pm.fn_eq ZmM ns h fun(a:List Int) e=>by simp only[ZmM] at e ⊢;walk_at "in"
noncomputable def Zn1:Pm:=⟨Unit,fun _=>[],fun _=>True,fun _=>.ok (.int (10^60))⟩
theorem ZpQ(T:Txt K mg){f:Addr}{fd:FuncData}(F:Fun K "most_seeds" "most_seeds" Zob f fd):JF P w K mg base CX0 1 f fd [] (spF K 0 .P W0 Zn1.fn):=by
 refine F.okP ZpN rfl rfl (fun cdv A outer s H E hr=>?_)
 have hu:=hr.units
 refine⟨_,_,⟨[],[],[],.P⟩,rfl,(Zi (Z5 (ZL Zkv Zm Zm))),
   (ZC (ZkZ (DE.toA Zj) (DE.toA Zj))), ?_⟩
 refine Pm.ref Zn1 (g:=fun xs=>_) ?_
 rintro _ _
 simp only[Zn1]
 walk_at "pd"
theorem Zqn:Zn1.fn []=.ok (.int (10^60)):=Pm.fn_eq Zn1 () trivial fun _ _=>rfl
noncomputable def Zn6:Pm:=⟨List Int,fun ns=>[.lst (ns.map PV.int)],fun ns=>ns.length<=1000,fun ns=>.ok (.bl (VI ns))⟩
theorem Zq2(T:Txt K mg){f:Addr}{fd:FuncData}(F:Fun K "is_board" "is_board" ZoL f fd):JF P w K mg base CX0 4 f fd ["board"] (spF K 1 .P W0 Zn6.fn):=by
 have ZoH:=JB (P:=P) (w:=w) (base:=base) T.ZoC Zo4 (fun F=>Zo3 T F)
 have Zqv:=JB (P:=P) (w:=w) (base:=base) T.Zqi ZpX (fun F=>ZpQ T F)
 refine F.okP Zq0 rfl rfl (fun cdv A outer s H E hr=>?_)
 have hu:=hr.units
 refine⟨_,_,⟨[],[],[],.P⟩,rfl,(Ze (JH (Qb (Qa (Zl ZoH (hr.mono (by decide)) rfl (Zb (pv 0) Zf)))) (Zi (Z5 ZaR)) ZM)
   (Ze (JH (PW.pt (ZbG (Z6 Zgw (Zw (Z8 (K:=K)) rfl T.z_len Jr (Zb (pv 0) Zf)) (Zak T.c_FEWEST_PITS rfl) (ZB _)) (QG (Z6 Zd2 (Zw (Z8 (K:=K)) rfl T.z_len Jr (Zb (pv 0) Zf)) (Zak T.c_MOST_PITS rfl) (ZB _))))) (Zi (Z5 ZaR)) ZM)
   (Zi (Z5 (Jx ZlI (Zw (Us (K:=K) rfl) rfl T.z_sum Zdo (Zb (pv 0) Zf)) (Zex Zqv (hr.mono (by decide)) rfl) (ZB _)))))),
   (Zn (Γm:=[.S]) (JI (Qw (ZhQ (DE.toA (Ur (Zc Zs) (Za (Zh (i:=0) rfl) Zd)))))
   (ZC Zbp)
   ZN)
   (Zn (Γm:=[.S]) (JI (Zce (Z4 (DE.toA (Zhe (DE.toA (Jo (Za (Zh (i:=0) rfl) Zd))) (DE.toA Zj)))) (Z4 (DE.toA (ZdG (DE.toA (Jo (Za (Zh (i:=0) rfl) Zd))) (DE.toA Zj)))))
   (ZC Zbp)
   ZN)
   (ZC (ZlT (DE.toA (Zdi (Za (Zh (i:=0) rfl) Zd))) (DE.toA (Ur Zs Zd)))))), ?_⟩
 refine Pm.ref Zn6 (g:=fun xs=>_) ?_
 intro (ns:List Int) (hn:ns.length<=1000)
 simp only[Zn6]
 walk_at "pd"
 rw[ZoE (by omega)]
 walk_at "pd"
 by_cases h3:∀x∈ns,0<=x
 ·rw[decide_eq_true h3]
  walk_at "pd"
  by_cases h1:(ns.length:Int)<2
  ·rw[decide_eq_true h1]
   walk_at "pd"
   rw[show VI ns=false from decide_eq_false (by omega)]
  rw[decide_eq_false h1]
  walk_at "pd"
  by_cases h2:(24:Int)<ns.length
  ·rw[decide_eq_true h2]
   walk_at "pd"
   rw[show VI ns=false from decide_eq_false (by omega)]
  rw[decide_eq_false h2]
  walk_at "pd"
  rw[Zqn]
  walk_at "pd"
  by_cases h4:ns.sum<=10^60
  ·rw[decide_eq_true h4,V9.mpr ⟨by omega,by omega,h3,h4⟩]
  ·rw[decide_eq_false h4,show VI ns=false from decide_eq_false (fun z=>h4 z.2.2.2)]
 ·rw[decide_eq_false h3]
  walk_at "pd"
  rw[show VI ns=false from decide_eq_false (fun z=>h3 z.2.2.1)]
theorem ZqK{ns:List Int}(h:ns.length<=1000):Zn6.fn [.lst (ns.map PV.int)]=.ok (.bl (VI ns)):=Pm.fn_eq Zn6 ns h fun(a:List Int) e=>by simp only[Zn6] at e ⊢;walk_at "in"
noncomputable def Znn:Pm:=⟨List Int,fun ns=>[.lst (ns.map PV.int)],fun ns=>ns.length<=1000/\VI ns=true,fun _=>.ok .non⟩
theorem ZoN(T:Txt K mg){f:Addr}{fd:FuncData}(F:Fun K "check_board" "check_board" ZnM f fd):JF P w K mg base CX0 5 f fd ["board"] (spF K 1 .P W0 Znn.fn):=by
 have ZqN:=JB (P:=P) (w:=w) (base:=base) T.ZqI ZqB (fun F=>Zq2 T F)
 refine F.okP Zp8 rfl rfl (fun cdv A outer s H E hr=>?_)
 have hu:=hr.units
 refine⟨_,_,⟨[.S],[],[],.P⟩,rfl,(Zi (JH (Qb (Qa (Zl ZqN (hr.mono (by decide)) rfl (Zb (pv 0) Zf)))) (Zi Uc) ZM)),
   (JI (Qw (ZhQ (DE.toA (Ur (Zc Zs) (Za (Zh (i:=0) rfl) Zd)))))
   Uq
   ZN), ?_⟩
 refine Pm.ref Znn (g:=fun xs=>_) ?_
 rintro(ns:List Int) ⟨hn,h⟩
 simp only[Znn]
 walk_at "pd"
 rw[ZqK hn,h]
 walk_at "pd"
theorem Zoy{ns:List Int}(h:ns.length<=1000/\VI ns=true):Znn.fn [.lst (ns.map PV.int)]=.ok .non:=Pm.fn_eq Znn ns h fun _ _=>rfl
noncomputable def riB(l:List Int):Bool:=(List.range (l.length-1)).all fun i=>decide (l.getD i 0<l.getD (i+1) 0)
noncomputable def Zns:Pm:=⟨List Int,fun a=>[.lst (a.map PV.int)],fun a=>a.length<=100000,fun a=>.ok (.bl (riB a))⟩
theorem Zqe(T:Txt K mg){f:Addr}{fd:FuncData}(F:Fun K "is_rising" "is_rising" Zoq f fd):JF P w K mg base CX0 1 f fd ["numbers"] (spF K 1 .P W0 Zns.fn):=by
 refine F.okP Zpf rfl rfl (fun cdv A outer s H E hr=>?_)
 have hu:=hr.units
 refine⟨_,_,⟨[],[],[],.P⟩,rfl,(Zi (Z5 (Zw (Q0 (K:=K) rfl) rfl T.z_all Zf9 (Zb (JL (Jc rfl T.z_range (Zb (ZL Zkt (Zw (Z8 (K:=K)) rfl T.z_len Jr (Zb (pv 0) Zf)) Zm) Zf)) (fun _ _ _ _=>(Jx Zgw (ZT (Zx (K:=K)) (pv 0) (pv 1) (fun _ _=>rfl)) (ZT (Zx (K:=K)) (pv 0) (ZL JV (pv 1) Zm) (fun _ _=>rfl)) (ZB _))) Zpf.nd rfl) Zf)))),
   (ZC (Zfs (Za (DE.toA (J5 (DI.c (JP (Za (DE.toA (ZkY (DE.toA (Jo (Za (Zh (i:=0) rfl) Zd))) (DE.toA Zj))) Zd))) (DE.PF (Zhe (Z7 (te:=tC .non) (Zh (i:=0) rfl) (Zh (i:=1) rfl)) (Z7 (te:=tC .non) (Zh (i:=0) rfl) (DE.toA (JX (Zh (i:=1) rfl) (DE.toA Zj)))))))) Zd))), ?_⟩
 refine Pm.ref Zns (g:=fun xs=>_) ?_
 rintro(l:List Int) (hl:l.length<=100000)
 simp only[Zns]
 walk_at "pd"
 rw[Zg3 (g:=fun(i:Nat)=>PV.bl (decide (l.getD i 0<l.getD (i+1) 0))) (fun i hi=>by
  rw[Zsx]
  walk_at "pd"
  rw[ZrL,show ((i:Int)+1).toNat=i+1 by omega])]
 rw[show (List.range ((l.length:Int)-1).toNat).map (fun(i:Nat)=>PV.bl (decide (l.getD i 0<l.getD (i+1) 0)))=((List.range (l.length-1)).map fun(i:Nat)=>decide (l.getD i 0<l.getD (i+1) 0)).map PV.bl by rw[Zr1,show ((l.length:Int)-1).toNat=l.length-1 by omega];rfl]
 walk_at "pd"
 unfold riB
 rw[List.all_map];rfl
theorem Zq8{l:List Int}(h:l.length<=100000):Zns.fn [.lst (l.map PV.int)]=.ok (.bl (riB l)):=Pm.fn_eq Zns l h fun(a:List Int) e=>by simp only[Zns] at e ⊢;walk_at "in"
noncomputable def Zon:Pm:=⟨List Int×Int,fun a=>[.lst (a.1.map PV.int),.int a.2],fun _=>True,fun a=>.ok (.bl (decide (0<=a.2/\a.2<a.1.length)))⟩
theorem ZqQ(T:Txt K mg){f:Addr}{fd:FuncData}(F:Fun K "is_pit" "is_pit" Zpp f fd):JF P w K mg base CX0 3 f fd ["board", "pit"] (spF K 2 .P W0 Zon.fn):=by
 have ZnX:=JB (P:=P) (w:=w) (base:=base) T.ZoB Zo2 (fun F=>Zo1 T F)
 refine F.okP ZqO rfl rfl (fun cdv A outer s H E hr=>?_)
 have hu:=hr.units
 refine⟨_,_,⟨[],[],[],.P⟩,rfl,(Zi (Z5 (ZaS (Zl ZnX (hr.mono (by decide)) rfl (Zb (pv 1) (Zb Zm Zf))) (QI (Jx Zgw (pv 1) (Zw (Z8 (K:=K)) rfl T.z_len Jr (Zb (pv 0) Zf)) (ZB _)))))),
   (ZC (Zbq (DE.toA (Ur (Zc (Zc Zs)) (Za (Zh (i:=1) rfl) (Za (DE.toA Zj) Zd)))) (Zhe (Zh (i:=1) rfl) (DE.toA (Jo (Za (Zh (i:=0) rfl) Zd)))))), ?_⟩
 refine Pm.ref Zon (g:=fun xs=>_) ?_
 rintro⟨ns,p⟩ -
 simp only[Zon]
 walk_at "pd"
 rw[ZoD]
 walk_at "pd"
 by_cases h0:0<=p
 ·rw[decide_eq_true h0]
  walk_at "pd"
  by_cases h1:p<ns.length
  ·rw[decide_eq_true h1,show decide (0<=p/\p<(ns.length:Int))=true from decide_eq_true ⟨h0,h1⟩]
  ·rw[decide_eq_false h1,show decide (0<=p/\p<(ns.length:Int))=false from decide_eq_false (fun z=>h1 z.2)]
 ·rw[decide_eq_false h0,show decide (0<=p/\p<(ns.length:Int))=false from decide_eq_false (fun z=>h0 z.1)]
  walk_at "pd"
theorem ZqZ{ns:List Int}{p:Int}:Zon.fn [.lst (ns.map PV.int),.int p]=.ok (.bl (decide (0<=p/\p<ns.length))):=Pm.fn_eq Zon (ns,p) trivial fun(a:List Int×Int) e=>by simp only[Zon] at e ⊢;walk_at "in"
def Zlz(n:Nat)(l:List Int):Prop:=(∀p∈l,0<=p/\p<n)/\riB l=true/\l.length≠0/\l.length≠n
noncomputable def Zng:Pm:=⟨List Int×List Int,fun a=>[.lst (a.1.map PV.int),.lst (a.2.map PV.int)],fun a=>(a.1.length<=1000/\a.2.length<=1000)/\Zlz a.1.length a.2,fun _=>.ok .non⟩
theorem Zo9(T:Txt K mg){f:Addr}{fd:FuncData}(F:Fun K "check_barred" "check_barred" ZnB f fd):JF P w K mg base CX0 4 f fd ["board", "barred"] (spF K 2 .P W0 Zng.fn):=by
 have ZqD:=JB (P:=P) (w:=w) (base:=base) T.Zq4 Zqr (fun F=>Zqe T F)
 have Zrb:=JB (P:=P) (w:=w) (base:=base) T.ZqX ZqT (fun F=>ZqQ T F)
 refine F.okP Zo6 rfl rfl (fun cdv A outer s H E hr=>?_)
 have hu:=hr.units
 refine⟨_,_,⟨[.S,.S],[],[],.P⟩,rfl,(Ze (JH (PW.pt (ZbG (Qb (Qa (Zw (Vx (K:=K) (n := "list") rfl) rfl T.z_isinstance Js (Zb (pv 1) (Zb (Qc (v:=.ty "list") rfl T.z_list ZW rfl) Zf))))) (QG (Qb (Qa (Zw (Q0 (K:=K) rfl) rfl T.z_all Zf9 (Zb (JL (Ja (K:=K) (pv 1)) (fun _ _ _ _=>(Zl Zrb (hr.mono (by decide)) rfl (Zb (pv 0) (Zb (pv 2) Zf)))) Zo6.nd rfl) Zf))))))) (Zi Uc) ZM)
   (Ze (JH (Qb (Qa (Zl ZqD (hr.mono (by decide)) rfl (Zb (pv 1) Zf)))) (Zi Uc) ZM)
   (Zi (JH (PW.pt (ZbG (Z6 (Jv (K:=K) hu) (Zw (Z8 (K:=K)) rfl T.z_len Jr (Zb (pv 1) Zf)) Zm (ZB _)) (QG (Z6 (Jv (K:=K) hu) (Zw (Z8 (K:=K)) rfl T.z_len Jr (Zb (pv 1) Zf)) (Zw (Z8 (K:=K)) rfl T.z_len Jr (Zb (pv 0) Zf)) (ZB _))))) (Zi Uc) ZM)))),
   (Zn (Γm:=[.S,.S]) (JI (Zce (Qw (ZhQ (DE.toA (Zbo (Zh (i:=1) rfl))))) (Qw (ZhQ (DE.toA (Zfs (Za (DE.toA (J5 (DI.c (Jn (VS (i:=1) rfl))) (DE.PF (Ur (Zc (Zc Zs)) (Za (Zh (i:=0) rfl) (Za (Zh (i:=2) rfl) Zd)))))) Zd))))))
   Uq
   ZN)
   (Zn (Γm:=[.S,.S]) (JI (Qw (ZhQ (DE.toA (Ur (Zc Zs) (Za (Zh (i:=1) rfl) Zd)))))
   Uq
   ZN)
   (JI (Zce (Z4 (DE.toA (ZY (g:=id) (DE.toA (Jo (Za (Zh (i:=1) rfl) Zd))) (DE.toA Zj)))) (Z4 (DE.toA (ZY (g:=id) (DE.toA (Jo (Za (Zh (i:=1) rfl) Zd))) (DE.toA (Jo (Za (Zh (i:=0) rfl) Zd)))))))
   Uq
   ZN))), ?_⟩
 refine Pm.ref Zng (g:=fun xs=>_) ?_
 rintro⟨b,l⟩ ⟨⟨hb,hl⟩,h1,h2,h3,h4⟩
 simp only at hb hl h1 h2 h3 h4
 simp only[Zng]
 walk_at "pd"
 rw[ZeO (g:=fun z=>decide (0<=z/\z<(b.length:Int))) (fun z _=>ZqZ)]
 walk_at "pd"
 rw[ZfC,decide_eq_true h1]
 walk_at "pd"
 rw[Zq8 (by omega),h2]
 walk_at "pd"
 rw[decide_eq_false (show ¬(l.length:Int)=0 by omega)]
 walk_at "pd"
 rw[decide_eq_false (show ¬(l.length:Int)=b.length by omega)]
 walk_at "pd"
theorem Zok{b l:List Int}(h:(b.length<=1000/\l.length<=1000)/\Zlz b.length l):Zng.fn [.lst (b.map PV.int),.lst (l.map PV.int)]=.ok .non:=Pm.fn_eq Zng (b,l) h fun _ _=>rfl
theorem ZlW:(10:Nat)^61<2^60000:=by
 calc (10:Nat)^61<=(2^4)^61:=Ztl (by decide) _
  _=2^244:=by rw[<- Nat.pow_mul]
  _<2^60000:=Zte (by decide) (by decide)
noncomputable def ZmY:Pm:=⟨Int×Int,fun a=>[.int a.1,.int a.2],fun a=>(1<=a.1/\a.1<=24)/\a.2<=10^60,fun a=>.ok (.int (cbN a.1 a.2))⟩
theorem Zpu(T:Txt K mg){f:Addr}{fd:FuncData}(F:Fun K "count_boards" "count_boards" ZnA f fd):JF P w K mg base CX0 1 f fd ["pits", "seeds"] (spF K 2 .P W0 ZmY.fn):=by
 refine F.okP Znx rfl rfl (fun cdv A outer s H E hr=>?_)
 have hu:=hr.units
 refine⟨_,_,⟨[],[],[],.P⟩,rfl,(Ze (JH (Z6 Zgw (pv 1) Zm (ZB _)) (Zi (Z5 Zm)) ZM)
   (Ze (Z1 (i:=2) Znx.nd rfl (by walk_at "lo") Zm)
   (Ze (VD PassesOwn.never rfl (Zes rfl T.z_range (Zb Zm (Zb (pv 0) Zf))) (Ji (i:=3) Znx.nd rfl (by walk_at "lo")) (Zi (Z1 (i:=2) Znx.nd rfl (by walk_at "lo") (ZL V3 (ZL ZbO (pv 2) (ZL JV (pv 1) (pv 3))) (pv 3)))))
   (Zi (Z5 (pv 2)))))),
   (Zn (Γm:=[.S,.S,.U,.U]) (JI (Z4 (DE.toA (Zhe (Zh (i:=1) rfl) (DE.toA Zj))))
   (ZC Zj)
   ZN)
   (Zn (Γm:=[.S,.S,.P,.U]) (ZS (i:=2) Zj (by decide))
   (Zn (Γm:=[.S,.S,.P,.U]) (VH (Γl:=[.S,.S,.P,.U]) (Zjd (Za (DE.toA Zj) (Za (Zh (i:=0) rfl) Zd))) rfl (ZfJ (i:=3) (by decide))
   (DS.out (Y:=⟨[.S,.S,.P,.P],[.S,.S,.P,.U],[.S,.S,.P,.U],.P⟩) (Y':=⟨[.S,.S,.P,.U],[.S,.S,.P,.U],[.S,.S,.P,.U],.P⟩) (ZS (i:=2) (QY (DE.toA (Zfp (DE.toA (Zq (i:=2) rfl)) (DE.toA (JX (Zh (i:=1) rfl) (DE.toA (Zq (i:=3) rfl)))))) (DE.toA (Zq (i:=3) rfl))) (by decide)) rfl rfl rfl rfl))
   (ZC (Zq (i:=2) rfl))))), ?_⟩
 refine Pm.ref ZmY (g:=fun xs=>_) ?_
 rintro⟨p,s⟩ ⟨⟨hp0,hp⟩,hs⟩
 simp only at hp0 hp hs
 simp only[ZmY]
 unfold cbN
 walk_at "pd"
 by_cases h:s<0
 ·rw[decide_eq_true h,if_pos h]
  walk_at "pd"
 ·rw[decide_eq_false h,if_neg h]
  walk_at "pd"
  generalize hw:Qs _ _ _=W
  obtain⟨ρ',rfl,v,rfl⟩:=Jl hw (fun i ρ=>∃v,ρ=[.int p,.int s,.int (cbI s i),v]) ⟨_,rfl⟩ (by
   rintro i x ρ hx ⟨v,rfl⟩
   obtain⟨hi,rfl⟩:=JK hx
   walk_at "pd"
   rw[ZbK ⟨Zf2 (by omega) hs (by omega),Zsf (show (s+(1+(i:Int))).natAbs<=10^61 by omega) ZlW⟩]
   walk_at "pd"
   exact VB ⟨.int (1+(i:Int)),by rw[cbI,Int.add_comm 1 (i:Int)]⟩)
  walk_at "pd"
  rw[ZU]
theorem ZpF{p s:Int}(h:(1<=p/\p<=24)/\s<=10^60):ZmY.fn [.int p,.int s]=.ok (.int (cbN p s)):=Pm.fn_eq ZmY (p,s) h fun(a:Int×Int) e=>by simp only[ZmY] at e ⊢;walk_at "in"
noncomputable def ZmQ:Pm:=⟨List Int,fun a=>[.lst (a.map PV.int)],fun a=>((1<=a.length/\a.length<=24)/\a.sum<=10^60)/\¬1000<cbN a.length a.sum,fun _=>.ok .non⟩
theorem ZnV(T:Txt K mg){f:Addr}{fd:FuncData}(F:Fun K "check_few_boards" "check_few_boards" Znd f fd):JF P w K mg base CX0 2 f fd ["board"] (spF K 1 .P W0 ZmQ.fn):=by
 have ZpJ:=JB (P:=P) (w:=w) (base:=base) T.ZpC Zp4 (fun F=>Zpu T F)
 refine F.okP ZoT rfl rfl (fun cdv A outer s H E hr=>?_)
 have hu:=hr.units
 refine⟨_,_,⟨[.S],[],[],.P⟩,rfl,(Zi (JH (Z6 Zd2 (Zl ZpJ (hr.mono (by decide)) rfl (Zb (Zw (Z8 (K:=K)) rfl T.z_len Jr (Zb (pv 0) Zf)) (Zb (Zw (Us (K:=K) rfl) rfl T.z_sum Zdo (Zb (pv 0) Zf)) Zf))) (Zak T.c_MOST_BOARDS rfl) (ZB _)) (Zi Uc) ZM)),
   (JI (Z4 (DE.toA (ZdG (DE.toA (Ur (Zc (Zc Zs)) (Za (DE.toA (Jo (Za (Zh (i:=0) rfl) Zd))) (Za (DE.toA (Zdi (Za (Zh (i:=0) rfl) Zd))) Zd)))) (DE.toA Zj))))
   Uq
   ZN), ?_⟩
 refine Pm.ref ZmQ (g:=fun xs=>_) ?_
 rintro(b:List Int) ⟨⟨⟨h0,h1⟩,h2⟩,c⟩
 simp only[ZmQ]
 walk_at "pd"
 rw[ZpF ⟨⟨by omega,by omega⟩,h2⟩]
 walk_at "pd"
 rw[decide_eq_false c]
 walk_at "pd"
theorem Zn3{b:List Int}(h:((1<=b.length/\b.length<=24)/\b.sum<=10^60)/\¬1000<cbN b.length b.sum):ZmQ.fn [.lst (b.map PV.int)]=.ok .non:=Pm.fn_eq ZmQ b h fun _ _=>rfl
def Jb(b l:List Int):Prop:=Zlm b/\Zlz b.length l/\cbN b.length b.sum<=1000/\l.length<=1000
noncomputable def Zn2:Pm:=⟨List Int×List Int,fun a=>[.lst (a.1.map PV.int),.lst (a.2.map PV.int)],fun a=>Jb a.1 a.2,fun _=>.ok .non⟩
theorem ZoX(T:Txt K mg){f:Addr}{fd:FuncData}(F:Fun K "check_play" "check_play" Zod f fd):JF P w K mg base CX0 6 f fd ["board", "barred"] (spF K 2 .P W0 Zn2.fn):=by
 have ZnP:=JB (P:=P) (w:=w) (base:=base) T.ZoY ZoR (fun F=>ZoN T F)
 have ZnE:=JB (P:=P) (w:=w) (base:=base) T.ZoP ZoG (fun F=>Zo9 T F)
 have Zne:=JB (P:=P) (w:=w) (base:=base) T.Zog ZnW (fun F=>ZnV T F)
 refine F.okP ZpO rfl rfl (fun cdv A outer s H E hr=>?_)
 have hu:=hr.units
 refine⟨_,_,⟨[.S,.S],[],[],.P⟩,rfl,(Ze (Jh (Zl ZnP (hr.mono (by decide)) rfl (Zb (pv 0) Zf)))
   (Ze (Jh (Zl ZnE (hr.mono (by decide)) rfl (Zb (pv 0) (Zb (pv 1) Zf))))
   (Zi (Jh (Zl Zne (hr.mono (by decide)) rfl (Zb (pv 0) Zf)))))),
   (Zn (Γm:=[.S,.S]) (JE (DE.toA (Ur (Zc Zs) (Za (Zh (i:=0) rfl) Zd))))
   (Zn (Γm:=[.S,.S]) (JE (DE.toA (Ur (Zc (Zc Zs)) (Za (Zh (i:=0) rfl) (Za (Zh (i:=1) rfl) Zd)))))
   (JE (DE.toA (Ur (Zc Zs) (Za (Zh (i:=0) rfl) Zd)))))), ?_⟩
 refine Pm.ref Zn2 (g:=fun xs=>_) ?_
 rintro⟨b,l⟩ ⟨B,h2,h3,h4⟩
 simp only at B h2 h3 h4
 simp only[Zn2]
 have l1:=B.lo
 have l2:=B.hi
 have l3:=B.sm
 walk_at "pd"
 rw[Zoy ⟨by omega,V9.mpr B⟩]
 walk_at "pd"
 rw[Zok ⟨⟨by omega,h4⟩,h2⟩]
 walk_at "pd"
 rw[Zn3 ⟨⟨⟨by omega,by omega⟩,l3⟩,by omega⟩]
 walk_at "pd"
theorem Zpi{b l:List Int}(h:Jb b l):Zn2.fn [.lst (b.map PV.int),.lst (l.map PV.int)]=.ok .non:=Pm.fn_eq Zn2 (b,l) h fun _ _=>rfl
theorem J4{b l:List Int}(h:Jb b l):b.length<=24/\2<=b.length/\(b.sum<=10^60/\UP b.length b.sum l b):=by
 obtain⟨B,h2,h3,h4⟩:=h
 have l1:=B.lo
 obtain⟨q,hq⟩:=List.exists_mem_of_ne_nil l (fun z=>h2.2.2.1 (by rw[z];rfl))
 exact⟨B.hi,B.lo,B.sm,⟨by omega,fun p hp=>(JC.mp hp).1,⟨rfl,B.nn,rfl⟩,by omega⟩,q,hq,h2.1 q hq⟩
noncomputable def Znt:Pm:=⟨List Int×List Int,fun a=>[.lst (a.1.map PV.int),.lst (a.2.map PV.int)],fun a=>a.1.length<=1000,fun a=>.ok (.lst ((Zg a.1.length a.2).map PV.int))⟩
theorem Zof(T:Txt K mg){f:Addr}{fd:FuncData}(F:Fun K "free_pits" "free_pits" Zor f fd):JF P w K mg base CX0 1 f fd ["board", "barred"] (spF K 2 .F W0 Znt.fn):=by
 refine F.okP Zo5 rfl rfl (fun cdv A outer s H E hr=>?_)
 have hu:=hr.units
 refine⟨_,_,⟨[],[],[],.F⟩,rfl,(Zi (Z5 (V2 (Jc rfl T.z_range (Zb (Zw (Z8 (K:=K)) rfl T.z_len Jr (Zb (pv 0) Zf)) Zf)) (Vb Zo5.nd) (fun _ _ _ _=>(Qd (fun _ _ h=>h) (Z6 (Vr (K:=K) hu) (pv 2) (pv 1) rfl))) (fun _ _ _ _=>(pv 2)) hv1 Zo5.nd rfl))),
   (Jm (J6 (k:=1) (DI.c (JP (Za (DE.toA (Jo (Za (Zh (i:=0) rfl) Zd))) Zd))) ZhS (Z4 (DE.toA (QX (g:=(!·)) (Zh (i:=2) rfl) (Zh (i:=1) rfl)))) (DE.PF (DE.grd (Zh (i:=2) rfl))))), ?_⟩
 refine Pm.ref Znt (g:=fun xs=>_) ?_
 rintro⟨b,l⟩ (hb:b.length<=1000)
 simp only[Znt]
 walk_at "pd"
 rw[Zax (p:=fun i=>decide ((i:Int) ∉ l)) (g:=fun(i:Nat)=>.int (i:Int)) (fun i hi=>by
  rw[Zsx]
  walk_at "pd"
  rw[JA]
  walk_at "pd"
  by_cases e:(i:Int)∈l
  ·rw[decide_eq_true e,decide_eq_false (fun z=>z e)]
   walk_at "pd"
  ·rw[decide_eq_false e,decide_eq_true e]
   walk_at "pd")]
 walk_at "pd"
 unfold Zg
 rw[Zr1,ZrL];rfl
theorem Zox{b l:List Int}(h:b.length<=1000):Znt.fn [.lst (b.map PV.int),.lst (l.map PV.int)]=.ok (.lst ((Zg b.length l).map PV.int)):=Pm.fn_eq Znt (b,l) h fun(a:List Int×List Int) e=>by simp only[Znt] at e ⊢;walk_at "in"
noncomputable def ZmW:Pm:=⟨List Int×List Int×Int,fun a=>[.lst (a.1.map PV.int),.lst (a.2.1.map PV.int),.int a.2.2],fun a=>a.1.length<=24/\(0<=a.2.2/\a.2.2<a.1.length)/\a.2.2 ∉ a.2.1/\∃q∈a.2.1,0<=q/\q<a.1.length,fun a=>.ok (.int (Q5 a.1.length a.2.1 a.2.2))⟩
theorem Zps(T:Txt K mg){f:Addr}{fd:FuncData}(F:Fun K "steps_to_bar" "steps_to_bar" Zn7 f fd):JF P w K mg base CX0 1 f fd ["board", "barred", "pit"] (spF K 3 .P W0 ZmW.fn):=by
 refine F.okP ZnS rfl rfl (fun cdv A outer s H E hr=>?_)
 have hu:=hr.units
 refine⟨_,_,⟨[],[],[],.P⟩,rfl,(Ze (Z1 (i:=3) ZnS.nd rfl (by walk_at "lo") Zm)
   (Ze (Zaj PassesOwn.never (Z6 (Vr (K:=K) hu) (ZL Jd (ZL JV (pv 2) (pv 3)) (Zw (Z8 (K:=K)) rfl T.z_len Jr (Zb (pv 0) Zf))) (pv 1) rfl) (Zi (Zh9 (i:=3) ZnS.nd rfl (by walk_at "lo") Zm Zbb)))
   (Zi (Z5 (pv 3))))),
   (Zn (Γm:=[.S,.S,.S,.P]) (ZS (i:=3) Zj (by decide))
   (Zn (Γm:=[.S,.S,.S,.P]) (Zaz (Γ:=[.S,.S,.S,.P]) (Z4 (DE.toA (QX (g:=(!·)) (DE.toA (Je (DE.toA (JX (Zh (i:=2) rfl) (DE.toA (Zq (i:=3) rfl)))) (DE.toA (Jo (Za (Zh (i:=0) rfl) Zd))))) (Zh (i:=1) rfl))))
   (Zfl (i:=3) rfl (DE.toA Zj)))
   (ZC (Zq (i:=3) rfl)))), ?_⟩
 refine Pm.ref ZmW (g:=fun xs=>_) ?_
 rintro⟨b,l,p⟩ ⟨hl,⟨p0,p1⟩,hp,hq⟩
 simp only at hl p0 p1 hp hq
 simp only[ZmW]
 have D:=Zay p0 p1 hp hq
 generalize Q5 b.length l p=d at D
 have d1:=D.d1
 have dn:=D.dn
 walk_at "pd"
 generalize hw:VC _ _ _=W
 obtain⟨ρ',rfl,rfl⟩:=VL hw (d-1) (fun i ρ=>ρ=[.lst (b.map PV.int),.lst (l.map PV.int),.int p,.int ((i:Int)+1)]) rfl (by
  rintro i ρ hi rfl
  have m:=D.min (i+1) (by omega) (by omega)
  constructor
  ·walk_at "pd"
   rw[JA]
   walk_at "pd"
   rw[show p+((i:Int)+1)=p+((i+1:Nat):Int) by omega,decide_eq_false m]
   walk_at "pd"
  ·walk_at "pd"
   exact VB (by simp)) (by
  rintro ρ rfl
  walk_at "pd"
  rw[JA]
  walk_at "pd"
  rw[show p+(((d-1:Nat):Int)+1)=p+(d:Int) by omega,decide_eq_true D.at_]
  walk_at "pd")
 walk_at "pd"
 rw[show ((d-1:Nat):Int)+1=(d:Int) by omega]
theorem ZpE{b l:List Int}{p:Int}(h:b.length<=24/\(0<=p/\p<b.length)/\p ∉ l/\∃q∈l,0<=q/\q<b.length):ZmW.fn [.lst (b.map PV.int),.lst (l.map PV.int),.int p]=.ok (.int (Q5 b.length l p)):=Pm.fn_eq ZmW (b,l,p) h fun(a:List Int×List Int×Int) e=>by simp only[ZmW] at e ⊢;walk_at "in"
noncomputable def bQ(t:Bool)(ns:List Int):PV:=if t=true then .tup (ns.map PV.int) else .lst (ns.map PV.int)
theorem ZiB{t:Bool}{ns:List Int}:Ze6 [bQ t ns]=.ok (.int ns.length):=by
 cases t
 ·exact ZaU ns
 ·exact Zdy
theorem Ze8{t:Bool}{ns:List Int}{k:Int}(h0:0<=k)(h1:k<ns.length):pIx (bQ t ns) (.int k)=.ok (.int (ns.getD k.toNat 0)):=by
 cases t
 ·exact UK h0 h1
 ·exact Qg h0 h1
theorem Zjs{t:Bool}{ns:List Int}:Zmz (bQ t ns)=.ok (ns.map PV.int):=by
 cases t<;>rfl
theorem ZhY{t t':Bool}{ns ns':List Int}(h:bQ t ns=bQ t' ns'):ns=ns':=by
 cases t<;>cases t'<;>simp only[bQ,Bool.false_eq_true,if_true,if_false,PV.tup.injEq,PV.lst.injEq,reduceCtorEq] at h
 ·exact ZD h
 ·exact ZD h
noncomputable def ZnQ:Pm:=⟨Bool×List Int×Int,fun a=>[bQ a.1 a.2.1,.int a.2.2],fun a=>0<=a.2.2/\a.2.2<a.2.1.length/\a.2.1.length<=1000,fun a=>.ok (Zi7 (Zjz a.2))⟩
theorem ZqG(T:Txt K mg){f:Addr}{fd:FuncData}(F:Fun K "sow_pit" "sow_pit" ZoV f fd):JF P w K mg base CX0 1 f fd ["board", "pit"] (spF K 2 .F W0 ZnQ.fn):=by
 refine F.okP Znq rfl rfl (fun cdv A outer s H E hr=>?_)
 have hu:=hr.units
 refine⟨_,_,⟨[],[],[],.F⟩,rfl,(Ze (Z1 (i:=2) Znq.nd rfl (by walk_at "lo") (Zw (Z8 (K:=K)) rfl T.z_len Jr (Zb (pv 0) Zf)))
   (Ze (Z1 (i:=3) Znq.nd rfl (by walk_at "lo") (ZL V3 (ZT (Zx (K:=K)) (pv 0) (pv 1) (fun _ _=>rfl)) (pv 2)))
   (Ze (Z1 (i:=4) Znq.nd rfl (by walk_at "lo") (ZL Jd (ZT (Zx (K:=K)) (pv 0) (pv 1) (fun _ _=>rfl)) (pv 2)))
   (Ze (ZbH (i:=5) Znq.nd rfl (Zi0 (K:=K) (pv 0)) (fun _ _ _ _=>(ZL JV (pv 8) (pv 3))) rfl)
   (Ze (ZcL (pv 3) (Zev (pv 5) (pv 1) V1))
   (Ze (Z1 (i:=6) Znq.nd rfl (by walk_at "lo") (pv 1))
   (Ze (VD PassesOwn.never rfl (Jc rfl T.z_range (Zb (pv 4) Zf)) (Ji (i:=7) Znq.nd rfl (by walk_at "lo")) (Ze (Z1 (i:=6) Znq.nd rfl (by walk_at "lo") (ZL Jd (ZL JV (pv 6) Zm) (pv 2)))
   (Zi (ZbI (pv 5) (pv 6) (Qq (K:=K)) Zm Zbb V1))))
   (Zi (Z5 (VE (Zb (pv 5) (Zb (pv 6) Zf)))))))))))),
   (Zn (Γm:=[.S,.S,.P,.U,.U,.U,.U,.U]) (ZS (i:=2) (Jo (Za (Zh (i:=0) rfl) Zd)) (by decide))
   (Zn (Γm:=[.S,.S,.P,.P,.U,.U,.U,.U]) (ZS (i:=3) (QY (Z7 (te:=tC .non) (Zh (i:=0) rfl) (Zh (i:=1) rfl)) (DE.toA (Zq (i:=2) rfl))) (by decide))
   (Zn (Γm:=[.S,.S,.P,.P,.P,.U,.U,.U]) (ZS (i:=4) (Je (Z7 (te:=tC .non) (Zh (i:=0) rfl) (Zh (i:=1) rfl)) (DE.toA (Zq (i:=2) rfl))) (by decide))
   (Zn (Γm:=[.S,.S,.P,.P,.P,.O,.U,.U]) (Vd (i:=5) (J5 (DI.c (ZkW (VS (i:=0) rfl))) (DE.PF (JX (Zh (i:=8) rfl) (DE.toA (Zq (i:=3) rfl))))) (by decide))
   (Zn (Γm:=[.S,.S,.P,.P,.P,.O,.U,.U]) (Qx (i:=5) rfl (Zq (i:=3) rfl) (Zh (i:=1) rfl))
   (Zn (Γm:=[.S,.S,.P,.P,.P,.O,.P,.U]) (ZS (i:=6) (DE.grd (Zh (i:=1) rfl)) (by decide))
   (Zn (Γm:=[.S,.S,.P,.P,.P,.O,.P,.U]) (VH (Γl:=[.S,.S,.P,.P,.P,.O,.P,.U]) (JP (Za (DE.toA (Zq (i:=4) rfl)) Zd)) rfl (ZfJ (i:=7) (by decide))
   (DS.out (Y:=⟨[.S,.S,.P,.P,.P,.O,.P,.P],[.S,.S,.P,.P,.P,.O,.P,.U],[.S,.S,.P,.P,.P,.O,.P,.U],.F⟩) (Y':=⟨[.S,.S,.P,.P,.P,.O,.P,.U],[.S,.S,.P,.P,.P,.O,.P,.U],[.S,.S,.P,.P,.P,.O,.P,.U],.F⟩) (Zn (Γm:=[.S,.S,.P,.P,.P,.O,.P,.P]) (ZS (i:=6) (Je (DE.toA (JX (DE.toA (Zq (i:=6) rfl)) (DE.toA Zj))) (DE.toA (Zq (i:=2) rfl))) (by decide))
   (Za0 (i:=5) rfl rfl (DE.toA (Zq (i:=6) rfl)) (DE.toA Zj))) rfl rfl rfl rfl))
   (Jm (Qy (ZJ (JR (i:=5) rfl) (ZJ (DE.PF (Zq (i:=6) rfl)) Jp))))))))))), ?_⟩
 refine Pm.ref ZnQ (g:=fun xs=>_) ?_
 rintro⟨t,ns,p⟩ ⟨h0,h1,h2⟩
 simp only at h0 h1 h2
 simp only[ZnQ]
 walk_at "pd"
 try rw[ZiB]
 walk_at "pd"
 try rw[Ze8 h0 h1]
 walk_at "pd"
 try rw[ZeC (Zf0 3 (by omega) (by omega))]
 walk_at "pd"
 try rw[Ze8 h0 h1]
 walk_at "pd"
 try rw[ZbL (show (0:Int)<ns.length by omega)]
 walk_at "pd"
 try rw[Zbg]
 walk_at "pd"
 try rw[Zjs]
 walk_at "pd"
 try rw[Ql (by simp;omega)]
 walk_at "pd"
 have hc:Zb1 (fun x=>ZlG x (.int (ns.getD p.toNat 0/ns.length))) (ns.map PV.int)=.ok ((ns.map fun z=>z+ns.getD p.toNat 0/ns.length).map PV.int):=by
  rw[ZbW (g:=fun x=>match x with|.int z=>PV.int (z+ns.getD p.toNat 0/ns.length)|_=>.non)]
  ·simp[Function.comp_def]
  ·intro x hx
   obtain⟨z,_,rfl⟩:=Zrz.mp hx
   rfl
 rw[hc]
 walk_at "pd"
 first|rw[Qf h0 (by simp;omega),Zai h0 h1]|rw[Zai h0 h1]
 walk_at "pd"
 have o0:=Zr5 (ns.getD p.toNat 0) (show (ns.length:Int)≠0 by omega)
 have o1:=Zry (ns.getD p.toNat 0) (show (0:Int)<ns.length by omega)
 try rw[ZcP (by omega)]
 walk_at "pd"
 generalize hs:ns.getD p.toNat 0/ns.length=rounds
 generalize ho:ns.getD p.toNat 0%ns.length=over at o0 o1
 generalize hb:(fun(x:PV) (ρ:List PV)=>_)=body
 obtain⟨ρ',e1,e2⟩:=Zde (b:=body) (xs:=ZcE 0 over.toNat) (ρ:=[bQ t ns,.int p,.int ns.length,.int rounds,.int over,.lst ((tab ns.length (Za9 ns p 0)).map PV.int),.int p,.non])
  (fun i ρ=>∃v,ρ=[bQ t ns,.int p,.int ns.length,.int rounds,.int over,.lst ((tab ns.length (Za9 ns p i)).map PV.int),.int ((p+i)%ns.length),v]) ⟨_,by rw[Int.natCast_zero,Int.add_zero,ZrK h0 h1]⟩ (by
  rintro i x ρ hx ⟨v,rfl⟩
  obtain⟨hi,rfl⟩:=JK hx
  subst hb
  have m1:=Qh h0 h1 (show (0:Int)<=i by omega) (by omega)
  have m2:=Qh h0 h1 (show (0:Int)<=(i:Int)+1 by omega) (by omega)
  have e:((p+(i:Int))%ns.length+1)%ns.length=(p+((i:Int)+1))%ns.length:=by
   rw[m1,m2]
   split
   ·rw[show p+(i:Int)+1=p+((i:Int)+1) by omega,m2]
   ·rw[ZrK (by omega) (by omega)];split<;>omega
  have b:0<=(p+((i:Int)+1))%ns.length/\(p+((i:Int)+1))%ns.length<ns.length:=by rw[m2];split<;>omega
  walk_at "pd"
  try rw[ZbL (by omega)]
  walk_at "pd"
  first|rw[e,UK b.1 (by rw[ZZ];exact b.2)]|rw[e]
  walk_at "pd"
  rw[UV (by omega)]
  have hst:=ZcB h0 h1 (i:=i) (by omega)
  have hset:=Qf (ns:=tab ns.length (Za9 ns p i)) (k:=(p+((i:Int)+1))%ns.length) (y:=Za9 ns p i ((p+((i:Int)+1))%ns.length).toNat+1) b.1 (by rw[ZZ];exact b.2)
  rw[hst] at hset
  rw[hset]
  walk_at "pd"
  exact VB ⟨_,by rw[show ((i+1:Nat):Int)=(i:Int)+1 by omega]⟩)
 obtain⟨v,rfl⟩:=e2
 rw[e1]
 walk_at "pd"
 rw[ZU,ZrA o0]
 show Rr.ok (PV.tup _)=Rr.ok (PV.tup _)
 unfold Zjz Vi Zmn
 rw[ho]
theorem ZdL{t:Bool}{ns:List Int}{p:Int}(h:0<=p/\p<ns.length/\ns.length<=1000):ZnQ.fn [bQ t ns,.int p]=.ok (Zi7 (Zjz (ns,p))):=
 Pm.fn_eq ZnQ (t,ns,p) h fun⟨t',ns',k'⟩ e=>by
  simp only[ZnQ,List.cons.injEq,PV.int.injEq,and_true] at e ⊢
  rw[ZhY e.1,e.2]
noncomputable def Znb:Pm:=⟨Bool×List Int×List Int,fun a=>[bQ a.1 a.2.1,.lst (a.2.2.map PV.int)],fun a=>(∀p∈a.2.2,0<=p/\p<a.2.1.length)/\a.2.1.length<=1000/\a.2.2.length<=1000,fun a=>.ok (.lst ((J9 a.2.2 a.2.1).map Zag))⟩
theorem ZhM{i:Int}{b:List Int}:grd (.tup [.int i,ZK b])=.ok (.tup [.int i,ZK b]):=by
 unfold grd
 simp only[PV.flat,PV.flats,JD,Bool.and_self,if_true]
theorem Zou(T:Txt K mg){f:Addr}{fd:FuncData}(F:Fun K "sowings_of" "sowings_of" ZnZ f fd):JF P w K mg base CX0 2 f fd ["board", "pits"] (spF K 2 .F W0 Znb.fn):=by
 have ZqU:=JB (P:=P) (w:=w) (base:=base) T.ZqR ZqL (fun F=>ZqG T F)
 refine F.okP Zoo rfl rfl (fun cdv A outer s H E hr=>?_)
 have hu:=hr.units
 refine⟨_,_,⟨[],[],[],.F⟩,rfl,(Zi (Z5 (V2 (Ja (K:=K) (pv 1)) (Vb Zoo.nd) (fun _ _ _ _=>(Qd (fun _ _ h=>h) (Z6 Zd2 (ZT (Zx (K:=K)) (pv 0) (pv 2) (fun _ _=>rfl)) Zm (ZB _)))) (fun _ _ _ _=>(VE (Zb (pv 2) (Zb (Zz (Jz (K:=K)) rfl T.z_tuple JZ (Zb (ZT (Zx (K:=K)) (Zl ZqU (hr.mono (by decide)) rfl (Zb (pv 0) (Zb (pv 2) Zf))) Zm (fun _ _=>rfl)) Zf)) Zf)))) hv1 Zoo.nd rfl))),
   (Jm (J6 (k:=1) (DI.c (Jn (VS (i:=1) rfl))) ZhS (Z4 (DE.toA (ZdG (Z7 (te:=tC .non) (Zh (i:=0) rfl) (Zh (i:=2) rfl)) (DE.toA Zj)))) (DE.PF (DE.grd (Qz (Za (Zh (i:=2) rfl) (Za (V8 (Za (Z7 (te:=tC .non) (DE.toA (Q3 (Zc (Zc Zs)) (Za (Zh (i:=0) rfl) (Za (Zh (i:=2) rfl) Zd)))) (DE.toA Zj)) Zd)) Zd))))))), ?_⟩
 refine Pm.ref Znb (g:=fun xs=>_) ?_
 rintro⟨t,b,Q⟩ ⟨h0,h1,h2⟩
 simp only at h0 h1 h2
 simp only[Znb]
 walk_at "pd"
 rw[Zbl (q:=PV.int) (p:=fun p=>decide (0<b.getD p.toNat 0)) (g:=fun p=>Zag (p,Vi b p)) (fun p hp=>by
  have hp':=h0 p hp
  walk_at "pd"
  rw[Ze8 (by omega) (by omega)]
  walk_at "pd"
  by_cases c:0<b.getD p.toNat 0
  ·rw[decide_eq_true c]
   walk_at "pd"
   rw[ZdL ⟨by omega,by omega,h1⟩]
   simp only[Zi7,Zjz]
   walk_at "pd"
   rw[show Qe [PV.lst ((Vi b p).map PV.int)]=.ok (ZK (Vi b p)) from rfl]
   walk_at "pd"
   rw[ZhM]
   walk_at "pd"
   rfl
  ·rw[decide_eq_false c]
   walk_at "pd")]
 walk_at "pd"
 unfold J9
 rw[Zr1];rfl
theorem Ut{t:Bool}{b Q:List Int}(h:(∀p∈Q,0<=p/\p<b.length)/\b.length<=1000/\Q.length<=1000):Znb.fn [bQ t b,.lst (Q.map PV.int)]=.ok (.lst ((J9 Q b).map Zag)):=Pm.fn_eq Znb (t,b,Q) h (fun⟨t',b',Q'⟩ e=>by
 simp only[Znb,List.cons.injEq,PV.lst.injEq,and_true] at e ⊢
 rw[ZhY e.1,ZD e.2])
theorem Zph{b Q:List Int}(h:(∀p∈Q,0<=p/\p<b.length)/\b.length<=1000/\Q.length<=1000):Znb.fn [ZK b,.lst (Q.map PV.int)]=.ok (.lst ((J9 Q b).map Zag)):=Ut (t:=true) h
theorem ZkF{b:List Int}{i:Int}:grd (.tup [ZK b,.int i])=.ok (.tup [ZK b,.int i]):=by
 unfold grd
 simp only[PV.flat,PV.flats,JD,Bool.and_self,if_true]
theorem Ul{t:List Int}:grd (ZK t)=.ok (ZK t):=Zbg
theorem ZdZ:∀{a b:List (List Int)},a.map tI=b.map tI->a=b
 |[],[],_=>rfl
 |[],y::b,h=>by simp at h
 |x::a,[],h=>by simp at h
 |x::a,y::b,h=>by
  simp only[Zru,List.cons.injEq] at h
  rw[Zc8 h.1,ZdZ h.2]
theorem Zc7{x:List Int}{bs:List (List Int)}:tI x∈bs.map tI ↔ x∈bs:=by
 constructor
 ·intro h
  obtain⟨y,hy,e⟩:=Zrz.mp h
  rw[<- Zc8 e];exact hy
 ·exact fun h=>ZsJ h
structure NlP(lv:List (List Int))(Q:List Int)(bs:List (List Int))(vs:List PV):Prop where
 hl:∀x∈lv,(∀p∈Q,0<=p/\p<x.length)/\x.length<=1000
 hq:Q.length<=1000
 ln:vs.length=bs.length
 sz:bs.length+lv.length*Q.length<=900000
 fl:PV.flats vs=true
theorem ZcC(Q x:List Int):(J9 Q x).length<=Q.length:=by
 unfold J9
 rw[Zrj]
 exact Zsj _ _
structure NlI(n:Nat)(st:NB):Prop where
 ln:st.2.2.length=st.2.1.length
 sz:st.2.1.length<=n
 fz:st.1.length<=n
theorem NlI.step{n:Nat}{st:NB}(h:NlI n st)(x:List Int)(y:Int×List Int):NlI (n+1) (stB x st y):=by
 have h1:=h.ln
 have h2:=h.sz
 have h3:=h.fz
 unfold stB
 split
 ·exact⟨h1,by omega,by omega⟩
 ·exact⟨by simp[h1],by simp;omega,by simp;omega⟩
theorem NlI.fold{x:List Int}:∀{L:List (Int×List Int)}{n:Nat}{st:NB},NlI n st->NlI (n+L.length) (L.foldl (stB x) st)
 |[],n,st,h=>h
 |y::L,n,st,h=>by
  have:=NlI.fold (x:=x) (L:=L) (h.step x y)
  rw[ZrF,show n+(L.length+1)=n+1+L.length by omega]
  exact this
theorem NlI.up{n m:Nat}{st:NB}(h:NlI n st)(hm:n<=m):NlI m st:=⟨h.ln,Zr7 h.sz hm,Zr7 h.fz hm⟩
theorem NlI.lv{Q:List Int}:∀{lv:List (List Int)}{n:Nat}{st:NB},NlI n st->NlI (n+lv.length*Q.length) (lvB Q lv st)
 |[],n,st,h=>by simpa[lvB] using h
 |x::lv,n,st,h=>by
  have h1:NlI (n+Q.length) (bdB Q x st):=(NlI.fold (x:=x) (L:=J9 Q x) h).up (by have:=ZcC Q x;omega)
  have:=NlI.lv (Q:=Q) (lv:=lv) h1
  rw[ZrF,Nat.add_mul,show n+(lv.length*Q.length+1*Q.length)=n+Q.length+lv.length*Q.length by omega]
  exact this
noncomputable def Zni:Pm:=⟨List (List Int)×List Int×List (List Int)×List PV,fun a=>[.box none (.dt (a.2.2.1.map tI)) a.2.2.2,.lst (a.1.map ZK),.lst (a.2.1.map PV.int)],fun a=>NlP a.1 a.2.1 a.2.2.1 a.2.2.2,fun a=>.ok (.tup [.lst ((lvB a.2.1 a.1 ([],a.2.2)).1.map ZK),.box none (.dt ((lvB a.2.1 a.1 ([],a.2.2)).2.1.map tI)) (lvB a.2.1 a.1 ([],a.2.2)).2.2])⟩
theorem ZpP(T:Txt K mg){f:Addr}{fd:FuncData}(F:Fun K "next_level" "next_level" Zoa f fd):JF P w K mg base CX0 3 f fd ["level", "pits", "came_from"] (spM K 2 2 Zni.fnM):=by
 have ZnH:=JB (P:=P) (w:=w) (base:=base) T.ZoA Zoz (fun F=>Zou T F)
 refine F.okM (n:=2) (j:=2) ZnJ rfl rfl (by decide) (fun cdv A outer s H E hr=>?_)
 have hu:=hr.units
 refine⟨_,_,⟨[.S,.S,.O,.U,.U,.U],[],[],.N⟩,rfl,rfl,(Ze (Z1 (i:=3) ZnJ.nd rfl (by walk_at "lo") (VF Zf))
   (Ze (VD PassesOwn.never rfl (Ja (K:=K) (pv 0)) (Ji (i:=4) ZnJ.nd rfl (by walk_at "lo")) (Zi (VD PassesOwn.never rfl (Ja (K:=K) (Zl ZnH (hr.mono (by decide)) rfl (Zb (pv 4) (Zb (pv 1) Zf)))) (Ji (i:=5) ZnJ.nd rfl (by walk_at "lo")) (Zi (JH (ZjX (Zez (hu1 hu) (ZT (Zx (K:=K)) (pv 5) Zm (fun _ _=>rfl)) (pv 2))) (Ze (Zeq (hu1 hu) (pv 2) (ZT (Zx (K:=K)) (pv 5) Zm (fun _ _=>rfl)) (VE (Zb (pv 4) (Zb (ZT (Zx (K:=K)) (pv 5) Zm (fun _ _=>rfl)) Zf))) rfl)
   (Zi (Jh (Zi5 PySem.F.plainAttrs_list PySem.F.slot_list_append PySem.F.type_list_append ZaX (pv 3) (Zb (ZT (Zx (K:=K)) (pv 5) Zm (fun _ _=>rfl)) Zf))))) ZM)))))
   (Zi (Z5 (pv 3))))),
   (Zn (Γm:=[.S,.S,.O,.O,.U,.U]) (ZG (i:=3) (Ve Jp) (by decide))
   (Zn (Γm:=[.S,.S,.O,.O,.U,.U]) (VH (Γl:=[.S,.S,.O,.O,.U,.U]) (Jn (VS (i:=0) rfl)) rfl (ZfJ (i:=4) (by decide))
   (DS.out (Y:=⟨[.S,.S,.O,.O,.P,.U],[.S,.S,.O,.O,.U,.U],[.S,.S,.O,.O,.U,.U],.N⟩) (Y':=⟨[.S,.S,.O,.O,.U,.U],[.S,.S,.O,.O,.U,.U],[.S,.S,.O,.O,.U,.U],.N⟩) (VH (Γl:=[.S,.S,.O,.O,.P,.U]) (Jn (DE.FZ (Q3 (Zc (Zc Zs)) (Za (DE.toA (Zq (i:=4) rfl)) (Za (Zh (i:=1) rfl) Zd))))) rfl (ZfJ (i:=5) (by decide))
   (DS.out (Y:=⟨[.S,.S,.O,.O,.P,.P],[.S,.S,.O,.O,.P,.U],[.S,.S,.O,.O,.P,.U],.N⟩) (Y':=⟨[.S,.S,.O,.O,.P,.U],[.S,.S,.O,.O,.P,.U],[.S,.S,.O,.O,.P,.U],.N⟩) (JI (ZhQ (DE.toA (Zfq (Z7 (te:=tC .non) (DE.toA (Zq (i:=5) rfl)) (DE.toA Zj)) (Zr (i:=2) (m:=.O) rfl (by decide)))))
   (Zn (Γm:=[.S,.S,.O,.O,.P,.P]) (Zdh (i:=2) rfl (DE.PF (DE.grd (Qz (Za (DE.toA (Zq (i:=4) rfl)) (Za (Z7 (te:=tC .non) (DE.toA (Zq (i:=5) rfl)) (DE.toA Zj)) Zd))))) (Z7 (te:=tC .non) (DE.toA (Zq (i:=5) rfl)) (DE.toA Zj)))
   (Zfm (i:=3) rfl rfl (DE.PF (DE.grd (Z7 (te:=tC .non) (DE.toA (Zq (i:=5) rfl)) (DE.toA Zj))))))
   ZN) rfl rfl rfl rfl)) rfl rfl rfl rfl))
   (Zja (j:=2) (JR (i:=3) rfl) rfl))), ?_⟩
 refine Pm.refM2 Zni ?_
 rintro⟨lv,Q,bs,vs⟩ (hp:NlP lv Q bs vs) a b' xs e
 cases e
 simp only[Zni]
 have hq:=hp.hq
 have hz:=hp.sz
 walk_at "pd"
 simp only[ins,ZlA]
 walk_at "pd"
 generalize hw:Qs _ _ _=W
 obtain⟨ρ',rfl,v,w,rfl⟩:=Jl hw (fun i ρ=>∃v w,ρ=[.lst (lv.map ZK),.lst (Q.map PV.int),.box (some a) (.dt ((lvB Q (lv.take i) ([],bs,vs)).2.1.map tI)) (lvB Q (lv.take i) ([],bs,vs)).2.2,.lst ((lvB Q (lv.take i) ([],bs,vs)).1.map ZK),v,w]) ⟨_,_,rfl⟩ (by
  rintro i x ρ hx ⟨v,w,rfl⟩
  rw[Zrn] at hx
  obtain⟨b,hb,rfl⟩:=Zs3.mp hx
  have hi:i<lv.length:=(Zrg.mp hb).1
  obtain⟨b1,b2⟩:=hp.hl b (Zrh hb)
  have hs:lvB Q (lv.take (i+1)) ([],bs,vs)=(J9 Q b).foldl (stB b) (lvB Q (lv.take i) ([],bs,vs)):=by
   unfold lvB
   rw[List.take_succ,hb,Ztq];rfl
  rw[hs]
  have I0:NlI (bs.length+(lv.take i).length*Q.length) (lvB Q (lv.take i) ([],bs,vs)):=NlI.lv ⟨hp.ln,Zrl _,ZrI _⟩
  have hsz:bs.length+(lv.take i).length*Q.length+Q.length<=900000:=by
   have h1:(lv.take i).length=i:=by rw[Zr9];omega
   rw[h1]
   have h2:(i+1)*Q.length<=lv.length*Q.length:=Nat.mul_le_mul_right _ hi
   rw[Nat.add_mul] at h2
   omega
  generalize lvB Q (lv.take i) ([],bs,vs)=st0 at I0
  walk_at "pd"
  rw[Ul]
  walk_at "pd"
  rw[Zph ⟨b1,b2,hq⟩]
  walk_at "pd"
  have hsl:=ZcC Q b
  generalize J9 Q b=SL at hsl
  generalize hw2:Qs _ _ _=W2
  obtain⟨ρ2,rfl,v2,rfl⟩:=Jl hw2 (fun n ρ=>∃v,ρ=[.lst (lv.map ZK),.lst (Q.map PV.int),.box (some a) (.dt (((SL.take n).foldl (stB b) st0).2.1.map tI)) ((SL.take n).foldl (stB b) st0).2.2,.lst (((SL.take n).foldl (stB b) st0).1.map ZK),ZK b,v]) ⟨_,rfl⟩ (by
   rintro n x ρ hx ⟨v,rfl⟩
   rw[Zrn] at hx
   obtain⟨y,hy,rfl⟩:=Zs3.mp hx
   have hn:n<SL.length:=(Zrg.mp hy).1
   have hs2:(SL.take (n+1)).foldl (stB b) st0=stB b ((SL.take n).foldl (stB b) st0) y:=by
    rw[List.take_succ,hy,Ztq];rfl
   rw[hs2]
   have I:=NlI.fold (x:=b) (L:=SL.take n) I0
   have htl:(SL.take n).length<=Q.length:=by rw[Zr9];omega
   generalize (SL.take n).foldl (stB b) st0=st at I
   obtain⟨i1,i2,i3⟩:=I
   unfold Zag
   rw[ZhM]
   walk_at "pd"
   rw[Zkr]
   walk_at "pd"
   unfold stB
   by_cases c:y.2∈st.2.1
   ·obtain⟨z,hz⟩:=ZfA (ks:=st.2.1.map tI) (xs:=st.2.2) (by rw[Zrj];omega) (Zc7.mpr c)
    rw[hz,if_pos c]
    walk_at "pd"
    exact VB ⟨_,rfl⟩
   ·rw[Zdp (fun z=>c (Zc7.mp z)),if_neg c]
    walk_at "pd"
    rw[ZkF]
    walk_at "pd"
    rw[ZeD (by simp only[PV.flat,PV.flats,JD,Bool.and_self]) (by omega),ZaP (fun z=>c (Zc7.mp z)),ZaO (fun z=>c (Zc7.mp z))]
    walk_at "pd"
    rw[Ul]
    walk_at "pd"
    rw[Zgt (by rw[Zrj];omega)]
    walk_at "pd"
    refine VB ⟨.tup [.int y.1,ZK y.2], ?_⟩
    rw[Zsv,Zsv]
    rfl)
  walk_at "pd"
  refine VB ⟨ZK b,v2, ?_⟩
  rw[Zrj,ZsH])
 walk_at "pd"
 rw[Zrj,ZsH]
 rw[ZfY]
 rfl
theorem Zqm{lv:List (List Int)}{Q:List Int}{bs:List (List Int)}{vs:List PV}(h:NlP lv Q bs vs):Zni.fnM (.box none (.dt (bs.map tI)) vs) [.lst (lv.map ZK),.lst (Q.map PV.int)]=.ok (.tup [.lst ((lvB Q lv ([],bs,vs)).1.map ZK),.box none (.dt ((lvB Q lv ([],bs,vs)).2.1.map tI)) (lvB Q lv ([],bs,vs)).2.2]):=Pm.fn_eq Zni (lv,Q,bs,vs) h (fun(a:List (List Int)×List Int×List (List Int)×List PV) e=>by
 have e':a=(lv,Q,bs,vs):=by
  simp only[Zni,List.cons.injEq,PV.lst.injEq,PV.box.injEq,and_true] at e
  obtain⟨e1,e2,e3⟩:=e
  refine Prod.ext (Vn e2) (Prod.ext (ZD e3) (Prod.ext (ZdZ ?_) e1.2.2))
  have:=e1.2.1
  injection this
 rw[e'])
theorem Zgq{b:List Int}:ZcT (ZK b) .non=.ok (.box none (.dt [tI b]) [.non]):=by
 rw[UC]
 unfold ZcT
 simp only[V5]
noncomputable def Znr:Pm:=⟨List Int×List Int,fun a=>[.lst (a.1.map PV.int),.lst (a.2.map PV.int)],fun a=>a.1.length<=24/\∃s,Zb3 a.1.length s (Zg a.1.length a.2) a.1,fun a=>.ok (.box none (.dt ((QF (Zg a.1.length a.2) a.1).map tI)) (wk (Zg a.1.length a.2) a.1 (wkN (Zg a.1.length a.2) a.1)).2.2)⟩
theorem Zqd(T:Txt K mg){f:Addr}{fd:FuncData}(F:Fun K "walk_from" "walk_from" Zop f fd):JF P w K mg base CX0 4 f fd ["board", "barred"] (spF K 2 .F W0 Znr.fn):=by
 have Znp:=JB (P:=P) (w:=w) (base:=base) T.Zow Zoh (fun F=>Zof T F)
 have Zqu:=JB (P:=P) (w:=w) (base:=base) T.Zqh ZpW (fun F=>ZpP T F)
 refine F.okP ZnF rfl rfl (fun cdv A outer s H E hr=>?_)
 have hu:=hr.units
 refine⟨_,_,⟨[],[],[],.F⟩,rfl,(Ze (Z1 (i:=2) ZnF.nd rfl (by walk_at "lo") (Zl Znp (hr.mono (by decide)) rfl (Zb (pv 0) (Zb (pv 1) Zf))))
   (Ze (Z1 (i:=3) ZnF.nd rfl (by walk_at "lo") (Zew (hu1 hu) (Zz (Jz (K:=K)) rfl T.z_tuple JZ (Zb (pv 0) Zf)) QJ))
   (Ze (Z1 (i:=4) ZnF.nd rfl (by walk_at "lo") (VF (Zb (Zz (Jz (K:=K)) rfl T.z_tuple JZ (Zb (pv 0) Zf)) Zf)))
   (Ze (Zaj PassesOwn.never (Ziy (K:=K) (pv 4)) (Zi (Z1 (i:=4) ZnF.nd rfl (by walk_at "lo") (Zl Zqu (hr.mono (by decide)) rfl (Zb (pv 4) (Zb (pv 2) (Zb (pv 3) Zf)))))))
   (Zi (Z5 (pv 3))))))),
   (Zn (Γm:=[.S,.S,.O,.U,.U]) (ZG (i:=2) (Q3 (Zc (Zc Zs)) (Za (Zh (i:=0) rfl) (Za (Zh (i:=1) rfl) Zd))) (by decide))
   (Zn (Γm:=[.S,.S,.O,.O,.U]) (ZG (i:=3) (Zfr (V8 (Za (Zh (i:=0) rfl) Zd)) Zfo) (by decide))
   (Zn (Γm:=[.S,.S,.O,.O,.O]) (ZG (i:=4) (Ve (ZJ (DE.PF (DE.grd (V8 (Za (Zh (i:=0) rfl) Zd)))) Jp)) (by decide))
   (Zn (Γm:=[.S,.S,.O,.O,.O]) (Zaz (Γ:=[.S,.S,.O,.O,.O]) (ZkQ (Zr (i:=4) (m:=.O) rfl (by decide)))
   (ZgU (l:=4) (Zjc (i:=3) rfl (Zc (Zc Zs)) (Zdj (Zfn (l:=4) (md:=.O) rfl (by decide)) (Zdj (Zfn (l:=2) (md:=.O) rfl (by decide)) (Zhl Zjk)))) (by decide)))
   (Jm (JR (i:=3) rfl)))))), ?_⟩
 refine Pm.ref Znr (g:=fun xs=>_) ?_
 rintro⟨b,l⟩ ⟨hl,s,F⟩
 simp only at hl F
 simp only[Znr]
 walk_at "pd"
 rw[Zox (by omega)]
 have hpl:=Um b.length l
 unfold QF
 generalize Zg b.length l=Q at F hpl
 walk_at "pd"
 obtain⟨w1,w2,w3⟩:=F.end
 have hT:Qe [PV.lst (b.map PV.int)]=.ok (ZK b):=rfl
 rw[hT]
 walk_at "pd"
 rw[Zgq]
 walk_at "pd"
 rw[hT]
 walk_at "pd"
 rw[Ul]
 walk_at "pd"
 generalize hw:VC _ _ _=W
 obtain⟨ρ',rfl,rfl⟩:=VL hw (wkN Q b) (fun i ρ=>ρ=[.lst (b.map PV.int),.lst (l.map PV.int),.lst (Q.map PV.int),.box none (.dt ((wk Q b i).2.1.map tI)) (wk Q b i).2.2,.lst ((wk Q b i).1.map ZK)]) rfl (by
  rintro i ρ hi rfl
  have W:=ZaC Q b i
  have hle:=F.le i
  have hsub:(wk Q b i).1.length<=1000:=by
   cases i with
   |zero=>simp[wk]
   |succ i =>
    have:=Zhx Q b i
    rw[this,ZrT] at hle
    omega
  constructor
  ·walk_at "pd"
   obtain⟨y,ys,e⟩:=Zsn (w3 i hi)
   rw[e];rfl
  ·walk_at "pd"
   rw[Zhr (Zqm (lv:=(wk Q b i).1) (Q:=Q) (bs:=(wk Q b i).2.1) (vs:=(wk Q b i).2.2) ⟨fun x hx=>by
    have B:=(W.re x (W.sub x hx)).bs F.hP F.hb
    exact⟨fun p hp=>by have:=F.hP p hp;have:=B.1;omega,by have:=B.1;omega⟩,by omega,W.ln,by
    have:(wk Q b i).1.length*Q.length<=1000*24:=Nat.mul_le_mul hsub (by omega)
    omega,W.fl⟩)]
   walk_at "pd"
   exact VB rfl) (by
  rintro ρ rfl
  rw[w2]
  walk_at "pd"
  rfl)
 walk_at "pd"
theorem Zq7{b l:List Int}(h:b.length<=24/\∃s,Zb3 b.length s (Zg b.length l) b):Znr.fn [.lst (b.map PV.int),.lst (l.map PV.int)]=.ok (.box none (.dt ((QF (Zg b.length l) b).map tI)) (wk (Zg b.length l) b (wkN (Zg b.length l) b)).2.2):=Pm.fn_eq Znr (b,l) h fun(a:List Int×List Int) e=>by simp only[Znr] at e ⊢;walk_at "in"
noncomputable def ZmV:Pm:=⟨Bool×List Int×List Int,fun a=>[if a.1=true then ZK a.2.1 else .lst (a.2.1.map PV.int),.lst (a.2.2.map PV.int)],fun a=>(∀p∈a.2.2,0<=p/\p<a.2.1.length)/\a.2.2.length<=1000,fun a=>.ok (.int ((a.2.2.map fun p=>a.2.1.getD p.toNat 0).sum))⟩
theorem ZpR(T:Txt K mg){f:Addr}{fd:FuncData}(F:Fun K "free_seeds" "free_seeds" Zoc f fd):JF P w K mg base CX0 1 f fd ["board", "pits"] (spF K 2 .P W0 ZmV.fn):=by
 refine F.okP ZoU rfl rfl (fun cdv A outer s H E hr=>?_)
 have hu:=hr.units
 refine⟨_,_,⟨[],[],[],.P⟩,rfl,(Zi (Z5 (Zw (Us (K:=K) rfl) rfl T.z_sum Zdo (Zb (JL (Ja (K:=K) (pv 1)) (fun _ _ _ _=>(ZT (Zx (K:=K)) (pv 0) (pv 2) (fun _ _=>rfl))) ZoU.nd rfl) Zf)))),
   (ZC (Zdi (Za (DE.toA (J5 (DI.c (Jn (VS (i:=1) rfl))) (DE.PF (DE.grd (Z7 (te:=tC .non) (Zh (i:=0) rfl) (Zh (i:=2) rfl)))))) Zd))), ?_⟩
 refine Pm.ref ZmV (g:=fun xs=>_) ?_
 rintro⟨t,b,Q⟩ ⟨h0,h1⟩
 simp only at h0 h1
 simp only[ZmV]
 cases t with
 |false =>
  rw[if_neg (by simp)]
  walk_at "pd"
  rw[Zaq (g:=fun p=>b.getD p.toNat 0) (fun p hp=>by
   have:=h0 p hp
   walk_at "pd")]
  walk_at "pd"
 |true =>
  rw[if_pos rfl]
  walk_at "pd"
  rw[Zaq (g:=fun p=>b.getD p.toNat 0) (fun p hp=>by
   have:=h0 p hp
   unfold ZK
   walk_at "pd"
   rw[Qg (by omega) (by omega)]
   walk_at "pd")]
  walk_at "pd"
theorem Za4{t:Bool}{b Q:List Int}(h:(∀p∈Q,0<=p/\p<b.length)/\Q.length<=1000):ZmV.fn (ZmV.enc (t,b,Q))=.ok (.int ((Q.map fun p=>b.getD p.toNat 0).sum)):=Pm.fn_eq ZmV (t,b,Q) h (fun(a:Bool×List Int×List Int) e=>by
 obtain⟨t',b',Q'⟩:=a
 simp only[ZmV,List.cons.injEq,PV.lst.injEq,and_true] at e
 have e2:=ZD e.2
 have e1:b'=b:=by
  have e1:=e.1
  unfold ZK at e1
  cases t<;>cases t'<;>simp at e1<;>exact ZD e1
 show Rr.ok (PV.int ((Q'.map fun p=>b'.getD p.toNat 0).sum))=_
 rw[e1,e2];rfl)
theorem Za5{b Q:List Int}(h:(∀p∈Q,0<=p/\p<b.length)/\Q.length<=1000):ZmV.fn [ZK b,.lst (Q.map PV.int)]=.ok (.int ((Q.map fun p=>b.getD p.toNat 0).sum)):=Za4 (t:=true) h
noncomputable def ZmL:Pm:=⟨List Int×List Int×List Int,fun a=>[ZK a.1,.lst (a.2.1.map PV.int),.lst (a.2.2.map PV.int)],fun a=>(∀p∈a.2.1,0<=p/\p<a.1.length)/\a.2.1.length<=1000/\a.2.2.length=a.2.1.length/\(∀x∈a.1,0<=x/\x<=10^60)/\(∀x∈a.2.2,0<=x/\x<=100),
 fun a=>.ok (ZK [(a.2.1.map fun p=>a.1.getD p.toNat 0).sum,((List.range a.2.1.length).map fun i=>a.1.getD (a.2.1.getD i 0).toNat 0*a.2.2.getD i 0).sum])⟩
theorem ZoW(T:Txt K mg){f:Addr}{fd:FuncData}(F:Fun K "seeds_and_steps" "seeds_and_steps" Znh f fd):JF P w K mg base CX0 2 f fd ["board", "pits", "steps"] (spF K 3 .P W0 ZmL.fn):=by
 have Zqw:=JB (P:=P) (w:=w) (base:=base) T.Zqj ZpY (fun F=>ZpR T F)
 refine F.okP Znw rfl rfl (fun cdv A outer s H E hr=>?_)
 have hu:=hr.units
 refine⟨_,_,⟨[],[],[],.P⟩,rfl,(Zi (Z5 (VE (Zb (Zl Zqw (hr.mono (by decide)) rfl (Zb (pv 0) (Zb (pv 1) Zf))) (Zb (Zw (Us (K:=K) rfl) rfl T.z_sum Zdo (Zb (V2 (Zgd (K:=K) rfl T.z_enumerate (Zb (pv 1) Zf)) (Zgi (K:=K) Znw.nd rfl) (fun _ _ _ _=>Zey) (fun _ _ _ _=>(ZL ZbO (ZT (Zx (K:=K)) (pv 0) (pv 4) (fun _ _=>rfl)) (ZT (Zx (K:=K)) (pv 2) (pv 3) (fun _ _=>rfl)))) hv2 Znw.nd rfl) Zf)) Zf))))),
   (ZC (DE.grd (Qz (Za (DE.toA (Ur (Zc (Zc Zs)) (Za (Zh (i:=0) rfl) (Za (Zh (i:=1) rfl) Zd)))) (Za (DE.toA (Zdi (Za (DE.toA (J6 (k:=2) (DI.c (Zje (Zhk (VS (i:=1) rfl) Zjj))) ZmC ZhP (DE.PF (Zfp (Z7 (te:=tC .non) (Zh (i:=0) rfl) (Zh (i:=4) rfl)) (Z7 (te:=tC .non) (Zh (i:=2) rfl) (Zh (i:=3) rfl)))))) Zd))) Zd))))), ?_⟩
 refine Pm.ref ZmL (g:=fun xs=>_) ?_
 rintro⟨b,Q,S⟩ ⟨h0,h1,h2,h3,h4⟩
 simp only at h0 h1 h2 h3 h4
 simp only[ZmL]
 walk_at "pd"
 rw[Za5 ⟨h0,by omega⟩]
 walk_at "pd"
 rw[Ql (by rw[Zcd];simp;omega)]
 walk_at "pd"
 rw[Zfi (g:=fun(i:Nat)=>PV.int (b.getD (Q.getD i 0).toNat 0*S.getD i 0)) (fun i hi=>by
  have hq:=h0 (Q.getD i 0) (Vv hi)
  have e1:=h3 _ (Vv (x:=(Q.getD i 0).toNat) (by omega:(Q.getD i 0).toNat<b.length))
  have e2:=h4 _ (Vv (by omega:i<S.length))
  unfold ZK
  walk_at "pd"
  rw[Qg (by omega) (by omega)]
  walk_at "pd"
  rw[ZbK ⟨Zsf (show (b.getD (Q.getD i 0).toNat 0).natAbs<=10^61 by omega) ZhX,Zsf (show (S.getD (i:Int).toNat 0).natAbs<=10^61 by rw[ZrL];omega) ZhX⟩,ZrL]
  walk_at "pd")]
 walk_at "pd"
 rw[show (List.range Q.length).map (fun(i:Nat)=>PV.int (b.getD (Q.getD i 0).toNat 0*S.getD i 0))=((List.range Q.length).map fun(i:Nat)=>b.getD (Q.getD i 0).toNat 0*S.getD i 0).map PV.int by rw[Zr1];rfl]
 walk_at "pd"
 rfl
theorem Zpc{b Q S:List Int}(h:(∀p∈Q,0<=p/\p<b.length)/\Q.length<=1000/\S.length=Q.length/\(∀x∈b,0<=x/\x<=10^60)/\(∀x∈S,0<=x/\x<=100)):ZmL.fn [ZK b,.lst (Q.map PV.int),.lst (S.map PV.int)]=.ok (ZK [(Q.map fun p=>b.getD p.toNat 0).sum,((List.range Q.length).map fun i=>b.getD (Q.getD i 0).toNat 0*S.getD i 0).sum]):=Pm.fn_eq ZmL (b,Q,S) h (fun(a:List Int×List Int×List Int) e=>by
 have e':a=(b,Q,S):=by
  simp only[ZmL,ZK,List.cons.injEq,PV.tup.injEq,PV.lst.injEq,and_true] at e
  exact Prod.ext (ZD e.1) (Prod.ext (ZD e.2.1) (ZD e.2.2))
 rw[e'])
noncomputable def Znj:Pm:=⟨List Int×List Int,fun a=>[.lst (a.1.map PV.int),.lst (a.2.map PV.int)],fun a=>a.1.length<=24/\∃s,s<=10^60/\UP a.1.length s a.2 a.1,fun a=>.ok (.lst ((enF a.1.length a.2 a.1).map ZK))⟩
theorem ZpS(T:Txt K mg){f:Addr}{fd:FuncData}(F:Fun K "ends_first" "ends_first" ZnG f fd):JF P w K mg base CX0 6 f fd ["board", "barred"] (spF K 2 .F W0 Znj.fn):=by
 have Znp:=JB (P:=P) (w:=w) (base:=base) T.Zow Zoh (fun F=>Zof T F)
 have ZpI:=JB (P:=P) (w:=w) (base:=base) T.ZpA Zp2 (fun F=>Zps T F)
 have ZqC:=JB (P:=P) (w:=w) (base:=base) T.Zq3 Zqq (fun F=>Zqd T F)
 have Zpe:=JB (P:=P) (w:=w) (base:=base) T.Zpb ZoZ (fun F=>ZoW T F)
 refine F.okL ZnK rfl rfl (fun cdv A outer s H E hcd hr=>?_)
 obtain⟨c0,P0,hT0,rfl⟩:=ZeV T.l_lam hcd
 have hu:=hr.units
 refine⟨_,_,⟨[],[],[],.F⟩,rfl,(Ze (Z1 (i:=2) ZnK.nd rfl (by walk_at "lo") (Zl Znp (hr.mono (by decide)) rfl (Zb (pv 0) (Zb (pv 1) Zf))))
   (Ze (Z1 (i:=3) ZnK.nd rfl (by walk_at "lo") (JL (Ja (K:=K) (pv 2)) (fun _ _ _ _=>(Zl ZpI (hr.mono (by decide)) rfl (Zb (pv 0) (Zb (pv 1) (Zb (pv 4) Zf))))) ZnK.nd rfl))
   (Zi (Z5 (Zdv (K:=K) (x := "found") (FN:=["pits", "steps"]) (js:=[2,3]) (k:=3) rfl T.z_sorted Q2 (Zb (Zz (ZdK rfl) rfl T.z_list ZW (Zb (Zl ZqC (hr.mono (by decide)) rfl (Zb (pv 0) (Zb (pv 1) Zf))) Zf)) Zf) hT0 rfl rfl (Zcs.of (N:=["board", "barred", "pits", "steps"]) (sc:=Zk ZnG) (by decide +kernel)) (hr.mono (by decide)) (fun f c s H=>Zl Zpe (hr.lam (by decide)) rfl (Zb (pv 0) (Zb (pv 1) (Zb (pv 2) Zf))))))))),
   (Zn (Γm:=[.S,.S,.O,.U]) (ZG (i:=2) (Q3 (Zc (Zc Zs)) (Za (Zh (i:=0) rfl) (Za (Zh (i:=1) rfl) Zd))) (by decide))
   (Zn (Γm:=[.S,.S,.O,.O]) (ZG (i:=3) (J5 (ZgX (Zr (i:=2) (m:=.O) rfl (by decide))) (DE.PF (Ur (Zc (Zc (Zc Zs))) (Za (Zh (i:=0) rfl) (Za (Zh (i:=1) rfl) (Za (Zh (i:=4) rfl) Zd)))))) (by decide))
   (Jm (ZdF (m:=ZmL.fn) (ja:=2) (jb:=3) (Za (DE.toA (Zhf (Za (DE.toA (Q3 (Zc (Zc Zs)) (Za (Zh (i:=0) rfl) (Za (Zh (i:=1) rfl) Zd)))) Zd))) Zd) rfl (by decide) rfl (by decide))))), ?_⟩
 refine Pm.ref Znj (g:=fun xs=>_) ?_
 rintro⟨b,l⟩ ⟨hl,s,hs,F⟩
 simp only at hl F
 simp only[Znj]
 walk_at "pd"
 rw[Zox (by omega)]
 have hpl:=Um b.length l
 walk_at "pd"
 rw[Zaq (g:=fun p=>(Q5 b.length l p:Int)) (fun p hp=>by
  obtain⟨q1,q2⟩:=JC.mp hp
  walk_at "pd"
  rw[ZpE ⟨hl,q1,q2,F.bar⟩]
  walk_at "pd")]
 walk_at "pd"
 rw[Zq7 ⟨hl,_,F.f⟩]
 have W:=ZaC (Zg b.length l) b (wkN (Zg b.length l) b)
 have hle:=F.f.le (wkN (Zg b.length l) b)
 walk_at "pd"
 rw[show List.map tI (QF (Zg b.length l) b)=(QF (Zg b.length l) b).map (fun b=>b.map Sum.inl) from rfl,Ze5 (bs:=QF (Zg b.length l) b) W.ln (by unfold QF;omega)]
 walk_at "pd"
 have hk:∀x∈QF (Zg b.length l) b,ZmL.fn [ZK x,.lst ((Zg b.length l).map PV.int),.lst (((Zg b.length l).map fun p=>(Q5 b.length l p:Int)).map PV.int)]=.ok (ZK (ZfI b.length l x)):=fun x hx=>by
  have B:=(F.f.mem.mp hx).bs F.f.hP F.f.hb
  rw[Zpc ⟨fun p hp=>by have:=F.f.hP p hp;have:=B.1;omega,by omega,by simp,fun y hy=>⟨B.2.1 y hy,by have:=ZeR B.2.1 hy;have:=B.2.2;omega⟩,fun y hy=>by
   obtain⟨p,hp,rfl⟩:=Zrz.mp hy
   obtain⟨q1,q2⟩:=JC.mp hp
   have:=(Zay q1.1 q1.2 q2 F.bar).dn
   omega⟩]
  have hB:((List.range (Zg b.length l).length).map fun i=>x.getD ((Zg b.length l).getD i 0).toNat 0*((Zg b.length l).map fun p=>(Q5 b.length l p:Int)).getD i 0)=((Zg b.length l).map fun p=>x.getD p.toNat 0*(Q5 b.length l p:Int)):=by
   have:=congrArg (List.map fun p=>x.getD p.toNat 0*(Q5 b.length l p:Int)) (JO (Zg b.length l) 0)
   rw[<- this,Zr1]
   refine ZrN fun i hi=>?_
   have hi:=ZrB.mp hi
   simp only[Function.comp]
   congr 1
   rw[Zrf,Zrn,Zri hi,Zrf,Zri hi]
   rfl
  rw[hB]
  rfl
 rw[ZbJ ⟨ZbF _ _,by unfold QF;omega,fun x hx=>⟨_,_,hk x hx⟩⟩]
 have hkz:(QF (Zg b.length l) b).map (ZfH ZmL.fn (.lst ((Zg b.length l).map PV.int)) (.lst (((Zg b.length l).map fun p=>(Q5 b.length l p:Int)).map PV.int)))=(QF (Zg b.length l) b).map (ZfI b.length l):=ZrN fun x hx=>by
  unfold ZfH
  rw[hk x hx]
  rfl
 rw[hkz]
 have hfin:((stK ((QF (Zg b.length l) b).map (ZfI b.length l))).map fun i=>ZK ((QF (Zg b.length l) b).getD i []))=(enF b.length l b).map ZK:=by unfold enF;rw[Zr1];rfl
 rw[hfin,ZeL JD (by have:=F.len;omega)]
 walk_at "pd"
theorem Zqo{b l:List Int}(h:b.length<=24/\∃s,s<=10^60/\UP b.length s l b):Znj.fn [.lst (b.map PV.int),.lst (l.map PV.int)]=.ok (.lst ((enF b.length l b).map ZK)):=Pm.fn_eq Znj (b,l) h fun(a:List Int×List Int) e=>by simp only[Znj] at e ⊢;walk_at "in"
noncomputable def ZmS:Pm:=⟨List Int,fun L=>[.lst (L.map PV.int)],fun L=>L.length<=1000,fun L=>.ok (.int (ZeM L:Nat))⟩
theorem Zpl(T:Txt K mg){f:Addr}{fd:FuncData}(F:Fun K "least_missing" "least_missing" Znz f fd):JF P w K mg base CX0 1 f fd ["numbers"] (spF K 1 .P W0 ZmS.fn):=by
 refine F.okP ZnI rfl rfl (fun cdv A outer s H E hr=>?_)
 have hu:=hr.units
 refine⟨_,_,⟨[],[],[],.P⟩,rfl,(Ze (Z1 (i:=1) ZnI.nd rfl (by walk_at "lo") Zm)
   (Ze (Zaj PassesOwn.never (Z6 (Zkw (K:=K) hu) (pv 1) (pv 0) rfl) (Zi (Zh9 (i:=1) ZnI.nd rfl (by walk_at "lo") Zm Zbb)))
   (Zi (Z5 (pv 1))))),
   (Zn (Γm:=[.S,.P]) (ZS (i:=1) Zj (by decide))
   (Zn (Γm:=[.S,.P]) (Zaz (Γ:=[.S,.P]) (Z4 (DE.toA (QX (g:=id) (DE.toA (Zq (i:=1) rfl)) (Zh (i:=0) rfl))))
   (Zfl (i:=1) rfl (DE.toA Zj)))
   (ZC (Zq (i:=1) rfl)))), ?_⟩
 refine Pm.ref ZmS (g:=fun xs=>_) ?_
 intro (L:List Int) (hL:L.length<=1000)
 simp only[ZmS]
 obtain⟨m1,m2,m3⟩:=ZbS L
 generalize ZeM L=m at m1 m2 m3
 walk_at "pd"
 generalize hw:VC _ _ _=W
 obtain⟨ρ',rfl,rfl⟩:=VL hw m (fun i ρ=>ρ=[.lst (L.map PV.int),.int (i:Nat)]) rfl (by
  rintro i ρ hi rfl
  constructor
  ·walk_at "pd"
   rw[JA,decide_eq_true (m3 i hi)]
   walk_at "pd"
  ·walk_at "pd"
   exact VB rfl) (by
  rintro ρ rfl
  walk_at "pd"
  rw[JA,decide_eq_false m1]
  walk_at "pd")
 walk_at "pd"
theorem Zpz{L:List Int}(h:L.length<=1000):ZmS.fn [.lst (L.map PV.int)]=.ok (.int (ZeM L:Nat)):=Pm.fn_eq ZmS L h fun(a:List Int) e=>by simp only[ZmS] at e ⊢;walk_at "in"
noncomputable def Znc:Pm:=⟨List Int×List Int,fun a=>[.lst (a.1.map PV.int),.lst (a.2.map PV.int)],fun a=>a.1.length<=24/\∃s,s<=10^60/\UP a.1.length s a.2 a.1,fun a=>.ok (.box none (.dt ((enF a.1.length a.2 a.1).map tI)) ((enF a.1.length a.2 a.1).map fun x=>.int (wtB (Zg a.1.length a.2) x)))⟩
theorem Zoi(T:Txt K mg){f:Addr}{fd:FuncData}(F:Fun K "worths_from" "worths_from" ZnL f fd):JF P w K mg base CX0 7 f fd ["board", "barred"] (spF K 2 .F W0 Znc.fn):=by
 have Znp:=JB (P:=P) (w:=w) (base:=base) T.Zow Zoh (fun F=>Zof T F)
 have Zqx:=JB (P:=P) (w:=w) (base:=base) T.Zqk ZpZ (fun F=>ZpS T F)
 have Zp7:=JB (P:=P) (w:=w) (base:=base) T.Zpx Zpn (fun F=>Zpl T F)
 have ZnH:=JB (P:=P) (w:=w) (base:=base) T.ZoA Zoz (fun F=>Zou T F)
 refine F.okP Znm rfl rfl (fun cdv A outer s H E hr=>?_)
 have hu:=hr.units
 refine⟨_,_,⟨[],[],[],.F⟩,rfl,(Ze (Z1 (i:=2) Znm.nd rfl (by walk_at "lo") (Zl Znp (hr.mono (by decide)) rfl (Zb (pv 0) (Zb (pv 1) Zf))))
   (Ze (Z1 (i:=3) Znm.nd rfl (by walk_at "lo") Zgg)
   (Ze (VD PassesOwn.never rfl (Ja (K:=K) (Zl Zqx (hr.mono (by decide)) rfl (Zb (pv 0) (Zb (pv 1) Zf)))) (Ji (i:=4) Znm.nd rfl (by walk_at "lo")) (Zi (Zeq (hu1 hu) (pv 3) (pv 4) (Zl Zp7 (hr.mono (by decide)) rfl (Zb (JL (Ja (K:=K) (Zl ZnH (hr.mono (by decide)) rfl (Zb (pv 4) (Zb (pv 2) Zf)))) (fun _ _ _ _=>(VO (hu1 hu) (pv 3) (ZT (Zx (K:=K)) (pv 5) Zm (fun _ _=>rfl)) (fun _ _=>rfl))) Znm.nd rfl) Zf)) rfl)))
   (Zi (Z5 (pv 3)))))),
   (Zn (Γm:=[.S,.S,.O,.U,.U]) (ZG (i:=2) (Q3 (Zc (Zc Zs)) (Za (Zh (i:=0) rfl) (Za (Zh (i:=1) rfl) Zd))) (by decide))
   (Zn (Γm:=[.S,.S,.O,.O,.U]) (ZG (i:=3) Zhg (by decide))
   (Zn (Γm:=[.S,.S,.O,.O,.U]) (VH (Γl:=[.S,.S,.O,.O,.U]) (Jn (DE.FZ (Q3 (Zc (Zc Zs)) (Za (Zh (i:=0) rfl) (Za (Zh (i:=1) rfl) Zd))))) rfl (ZfJ (i:=4) (by decide))
   (DS.out (Y:=⟨[.S,.S,.O,.O,.P],[.S,.S,.O,.O,.U],[.S,.S,.O,.O,.U],.F⟩) (Y':=⟨[.S,.S,.O,.O,.U],[.S,.S,.O,.O,.U],[.S,.S,.O,.O,.U],.F⟩) (Zdh (i:=3) rfl (DE.PF (Ur (Zc Zs) (Za (DE.toA (J5 (DI.c (Jn (DE.FZ (Q3 (Zc (Zc Zs)) (Za (DE.toA (Zq (i:=4) rfl)) (Za (Zr (i:=2) (m:=.O) rfl (by decide)) Zd)))))) (DE.PF (DE.grd (VT (Zr (i:=3) (m:=.O) rfl (by decide)) (Z7 (te:=tC .non) (Zh (i:=5) rfl) (DE.toA Zj))))))) Zd))) (DE.toA (Zq (i:=4) rfl))) rfl rfl rfl rfl))
   (Jm (JR (i:=3) rfl))))), ?_⟩
 refine Pm.ref Znc (g:=fun xs=>_) ?_
 rintro⟨b,l⟩ ⟨hl,s,hs,F⟩
 simp only at hl F
 simp only[Znc]
 walk_at "pd"
 rw[Zox (by omega)]
 walk_at "pd"
 rw[Zqo ⟨hl,s,hs,F⟩]
 walk_at "pd"
 have hlen:=F.len
 have nd:=Qv b.length l b
 have hpl:=Um b.length l
 generalize hw:Qs _ _ _=W
 obtain⟨ρ',rfl,v,rfl⟩:=Jl hw (fun i ρ=>∃v,ρ=[.lst (b.map PV.int),.lst (l.map PV.int),.lst ((Zg b.length l).map PV.int),.box none (.dt (((enF b.length l b).take i).map tI)) (((enF b.length l b).take i).map fun x=>.int (wtB (Zg b.length l) x)),v]) ⟨_,rfl⟩ (by
  rintro i x ρ hx ⟨v,rfl⟩
  rw[Zrn] at hx
  cases hy:(enF b.length l b)[i]? with
  |none=>rw[hy] at hx;cases hx
  |some y =>
   rw[hy] at hx
   have hx:x=ZK y:=by simpa using hx.symm
   subst hx
   have hi:=(Zrg.mp hy).1
   have ry:=F.mem.mp (Zrh hy)
   have B:=ry.bs F.f.hP F.f.hb
   rw[Ul]
   walk_at "pd"
   rw[Zph ⟨fun p hp=>by have:=F.f.hP p hp;have:=B.1;omega,by have:=B.1;omega,by omega⟩]
   walk_at "pd"
   have hsl:(J9 (Zg b.length l) y).length<=24:=by
    unfold J9
    rw[Zrj]
    exact Zr7 (Zsj _ _) (by omega)
   rw[Ql (by rw[Zrj];omega)]
   walk_at "pd"
   rw[ZeP (q:=Zag) (g:=fun z=>.int (wtB (Zg b.length l) z.2)) (fun z hz=>by
    obtain⟨z1,z2,z3⟩:=J3.mp hz
    obtain⟨j,hj,ej⟩:=F.ahead hy z1 z2
    rw[<- z3] at ej
    unfold Zag
    walk_at "pd"
    rw[VP (Za7 (f:=fun x=>PV.int (wtB (Zg b.length l) x)) nd hj ej)]
    walk_at "pd")]
   walk_at "pd"
   rw[show ((J9 (Zg b.length l) y).map fun z=>PV.int (wtB (Zg b.length l) z.2))=((J9 (Zg b.length l) y).map fun z=>wtB (Zg b.length l) z.2).map PV.int by rw[Zr1];rfl,Zpz (by rw[Zrj];omega)]
   walk_at "pd"
   have hv:((ZeM ((J9 (Zg b.length l) y).map fun z=>wtB (Zg b.length l) z.2):Nat):Int)=wtB (Zg b.length l) y:=(F.go ry).wt.symm
   rw[hv,ZeD rfl (by rw[Zrj,Zr9];omega),ZaP (Zc6 nd hy),ZaO (Zc6 nd hy)]
   walk_at "pd"
   exact VB ⟨_,by rw[ZaH (f:=tI) hy,ZaH (f:=fun x=>PV.int (wtB (Zg b.length l) x)) hy]⟩)
 walk_at "pd"
 rw[Zrj,ZsH]
theorem ZnO{b l:List Int}(h:b.length<=24/\∃s,s<=10^60/\UP b.length s l b):Znc.fn [.lst (b.map PV.int),.lst (l.map PV.int)]=.ok (.box none (.dt ((enF b.length l b).map tI)) ((enF b.length l b).map fun x=>.int (wtB (Zg b.length l) x))):=Pm.fn_eq Znc (b,l) h fun(a:List Int×List Int) e=>by simp only[Znc] at e ⊢;walk_at "in"
noncomputable def ZmR:Pm:=⟨List (List Int),fun ts=>[.lst (ts.map ZK)],fun ts=>(∀t∈ts,t≠[]/\t.length<=1000)/\ts.length<=100000,fun ts=>.ok (.lst ((Zah ts).map Zj0))⟩
theorem Zpk(T:Txt K mg){f:Addr}{fd:FuncData}(F:Fun K "rising_boards" "rising_boards" Zny f fd):JF P w K mg base CX0 1 f fd ["boards"] (spF K 1 .F W0 ZmR.fn):=by
 refine F.okP Zo0 rfl rfl (fun cdv A outer s H E hr=>?_)
 have hu:=hr.units
 refine⟨_,_,⟨[],[],[],.F⟩,rfl,(Zi (Z5 (JL (Ja (K:=K) (Zw (Zcm (K:=K)) rfl T.z_sorted Q2 (Zb (pv 0) Zf))) (fun _ _ _ _=>(Zz (Z9 (K:=K)) rfl T.z_list ZW (Zb (pv 1) Zf))) Zo0.nd rfl))),
   (Jm (J5 (DI.c (Jn (DE.FZ (Zha (Za (Zh (i:=0) rfl) Zd))))) (ZQ (Za (Zh (i:=1) rfl) Zd)))), ?_⟩
 refine Pm.ref ZmR (g:=fun xs=>_) ?_
 rintro(ts:List (List Int)) ⟨h1,h2⟩
 simp only[ZmR]
 walk_at "pd"
 have hl:(Zah ts).length=ts.length:=(ZH ts).length_eq
 rw[Ze2 ⟨fun t ht=>(h1 t ht).1,by omega⟩,ZeL JD (by omega)]
 walk_at "pd"
 rw[ZbW (g:=fun x=>match x with|.tup ys=>.lst ys|_=>.non) (fun x hx=>by
  obtain⟨t,ht,rfl⟩:=Zrz.mp hx
  have:=(h1 t ((ZH ts).mem_iff.mp ht)).2
  unfold ZK
  show Zal [.tup (t.map PV.int)]=_
  simp only[Zal]
  rw[Vs (by omega)])]
 walk_at "pd"
 rw[Zr1];rfl
theorem Zpy{ts:List (List Int)}(h:(∀t∈ts,t≠[]/\t.length<=1000)/\ts.length<=100000):ZmR.fn [.lst (ts.map ZK)]=.ok (.lst ((Zah ts).map Zj0)):=Pm.fn_eq ZmR ts h (fun(a:List (List Int)) e=>by
 have e':a=ts:=by
  simp only[ZmR,List.cons.injEq,PV.lst.injEq,and_true] at e
  exact Vn e
 rw[e'])
noncomputable def stW(P x:List Int)(w:Int):Int×List Int:=((J9 P x).filter fun y=>decide (wtB P y.2=w)).headD (0,[])
theorem Zh1{P x:List Int}{w:Int}(h:∃y∈J9 P x,wtB P y.2=w):stW P x w∈J9 P x/\wtB P (stW P x w).2=w/\∃ys,((J9 P x).filter fun y=>decide (wtB P y.2=w))=stW P x w::ys:=by
 obtain⟨y,hy,e⟩:=h
 unfold stW
 have hm:y∈(J9 P x).filter fun y=>decide (wtB P y.2=w):=ZrS.mpr ⟨hy,decide_eq_true e⟩
 cases hf:(J9 P x).filter fun y=>decide (wtB P y.2=w) with
 |nil=>rw[hf] at hm;simp at hm
 |cons z zs =>
  have hz:z∈(J9 P x).filter fun y=>decide (wtB P y.2=w):=by rw[hf];simp
  obtain⟨z1,z2⟩:=ZrS.mp hz
  exact⟨z1,of_decide_eq_true z2,zs,rfl⟩
theorem Zcx{n:Nat}{s:Int}{l b:List Int}(F:UP n s l b){k:Nat}(h:(k:Int)<wtB (Zg n l) b):∃y∈J9 (Zg n l) b,wtB (Zg n l) y.2=k:=by
 have e:wtB (Zg n l) b=(ZeM ((J9 (Zg n l) b).map fun y=>wtB (Zg n l) y.2):Nat):=F.wt
 obtain⟨_,_,m3⟩:=ZbS ((J9 (Zg n l) b).map fun y=>wtB (Zg n l) y.2)
 obtain⟨y,hy,e2⟩:=Zrz.mp (m3 k (by omega))
 exact⟨y,hy,e2⟩
theorem Uu{E:List (List Int)}{f:List Int->PV}{y:List Int}(nd:E.Nodup)(hy:y∈E):atK (E.map tI) (E.map f) (tI y)=some (f y):=by
 obtain⟨j,hj⟩:=Zr4 hy
 have:=Za7 (f:=f) nd (Zrg.mp hj).1 hj
 rwa [ZsH] at this
noncomputable def ZmX:Pm:=⟨List Int×List Int×Int,fun a=>[.lst (a.1.map PV.int),.lst (a.2.1.map PV.int),.box none (.dt ((enF a.1.length a.2.1 a.1).map tI)) ((enF a.1.length a.2.1 a.1).map fun x=>.int (wtB (Zg a.1.length a.2.1) x)),.int a.2.2],fun a=>a.1.length<=24/\(∃s,UP a.1.length s a.2.1 a.1)/\∃y∈J9 (Zg a.1.length a.2.1) a.1,wtB (Zg a.1.length a.2.1) y.2=a.2.2,fun a=>.ok (.int (stW (Zg a.1.length a.2.1) a.1 a.2.2).1)⟩
theorem Zo8(T:Txt K mg){f:Addr}{fd:FuncData}(F:Fun K "pit_to_worth" "pit_to_worth" Zn9 f fd):JF P w K mg base CX0 3 f fd ["board", "barred", "found", "worth"] (spF K 4 .P W0 ZmX.fn):=by
 have ZnH:=JB (P:=P) (w:=w) (base:=base) T.ZoA Zoz (fun F=>Zou T F)
 have Znp:=JB (P:=P) (w:=w) (base:=base) T.Zow Zoh (fun F=>Zof T F)
 refine F.okP ZnT rfl rfl (fun cdv A outer s H E hr=>?_)
 have hu:=hr.units
 refine⟨_,_,⟨[],[],[],.P⟩,rfl,(Ze (Va (i:=4) ZnT.nd rfl (Ja (K:=K) (Zl ZnH (hr.mono (by decide)) rfl (Zb (pv 0) (Zb (Zl Znp (hr.mono (by decide)) rfl (Zb (pv 0) (Zb (pv 1) Zf))) Zf)))) (Vb ZnT.nd) (fun _ _ _ _=>(Qd (fun _ _ h=>h) (Z6 (Jv (K:=K) hu) (VO (hu1 hu) (pv 2) (ZT (Zx (K:=K)) (pv 5) Zm (fun _ _=>rfl)) (fun _ _=>rfl)) (pv 3) (ZB _)))) (fun _ _ _ _=>(ZT (Zx (K:=K)) (pv 5) Zm (fun _ _=>rfl))) hv1 rfl)
   (Zi (Z5 (ZT (Zx (K:=K)) (pv 4) Zm (fun _ _=>rfl))))),
   (Zn (Γm:=[.S,.S,.S,.S,.O]) (Vd (i:=4) (J6 (k:=1) (DI.c (Jn (DE.FZ (Q3 (Zc (Zc Zs)) (Za (Zh (i:=0) rfl) (Za (DE.toA (Q3 (Zc (Zc Zs)) (Za (Zh (i:=0) rfl) (Za (Zh (i:=1) rfl) Zd)))) Zd)))))) ZhS (Z4 (DE.toA (ZY (g:=id) (VT (Zh (i:=2) rfl) (Z7 (te:=tC .non) (Zh (i:=5) rfl) (DE.toA Zj))) (Zh (i:=3) rfl)))) (DE.PF (DE.grd (Z7 (te:=tC .non) (Zh (i:=5) rfl) (DE.toA Zj))))) (by decide))
   (ZC (DE.grd (Z7 (te:=tC .non) (Zr (i:=4) (m:=.O) rfl (by decide)) (DE.toA Zj))))), ?_⟩
 refine Pm.ref ZmX (g:=fun xs=>_) ?_
 rintro⟨b,l,w⟩ ⟨hl,⟨s,F⟩,hex⟩
 simp only at hl F hex
 simp only[ZmX]
 have hpl:=Um b.length l
 have nd:=Qv b.length l b
 walk_at "pd"
 rw[Zox (by omega)]
 walk_at "pd"
 rw[show PV.lst (b.map PV.int)=bQ false b from rfl,Ut ⟨fun p hp=>by have:=F.f.hP p hp;omega,by omega,by omega⟩,show bQ false b=PV.lst (b.map PV.int) from rfl]
 walk_at "pd"
 have hsl:(J9 (Zg b.length l) b).length<=24:=by
  unfold J9
  rw[Zrj]
  exact Zr7 (Zsj _ _) (by omega)
 rw[Ql (by rw[Zrj];omega)]
 walk_at "pd"
 rw[Zbl (q:=Zag) (p:=fun y=>decide (wtB (Zg b.length l) y.2=w)) (g:=fun y=>.int y.1) (fun z hz=>by
  obtain⟨z1,z2,z3⟩:=J3.mp hz
  have rz:z.2∈enF b.length l b:=F.mem.mpr (by rw[z3];exact .step .refl z1 z2)
  unfold Zag
  walk_at "pd"
  rw[VP (Uu (f:=fun x=>PV.int (wtB (Zg b.length l) x)) nd rz)]
  walk_at "pd"
  by_cases c:wtB (Zg b.length l) z.2=w
  ·rw[decide_eq_true c]
   walk_at "pd"
  ·rw[decide_eq_false c]
   walk_at "pd")]
 walk_at "pd"
 obtain⟨_,_,ys,hf⟩:=Zh1 hex
 rw[hf]
 rw[Zru,show ∀(x:PV) (xs:List PV),pIx (PV.lst (x::xs)) (.int 0)=.ok x from fun x xs=>by simp[pIx,atI,ixN]]
 walk_at "pd"
theorem Zoj{b l:List Int}{w:Int}(h:b.length<=24/\(∃s,UP b.length s l b)/\∃y∈J9 (Zg b.length l) b,wtB (Zg b.length l) y.2=w):ZmX.fn [.lst (b.map PV.int),.lst (l.map PV.int),.box none (.dt ((enF b.length l b).map tI)) ((enF b.length l b).map fun x=>.int (wtB (Zg b.length l) x)),.int w]=.ok (.int (stW (Zg b.length l) b w).1):=Pm.fn_eq ZmX (b,l,w) h (fun(a:List Int×List Int×Int) e=>by
 obtain⟨b',l',w'⟩:=a
 simp only[ZmX,List.cons.injEq,PV.lst.injEq,PV.int.injEq,and_true] at e
 have e1:=ZD e.1
 have e2:=ZD e.2.1
 show Rr.ok (PV.int (stW (Zg b'.length l') b' w').1)=_
 rw[e1,e2,e.2.2.2];rfl)
noncomputable def ZlN(P:List Int)(E:List (List Int)):List (List Int):=Zah (E.filter fun x=>decide (wtB P x=0))
noncomputable def Zj9(b l:List Int):PV:=if wtB (Zg b.length l) b=0 then .tup [.str "second",.non,.lst ((ZlN (Zg b.length l) (enF b.length l b)).map Zj0)] else .tup [.str "first",.int (stW (Zg b.length l) b 0).1,.lst ((ZlN (Zg b.length l) (enF b.length l b)).map Zj0)]
noncomputable def Zn5:Pm:=⟨List Int×List Int,fun a=>[.lst (a.1.map PV.int),.lst (a.2.map PV.int)],fun a=>Jb a.1 a.2,fun a=>.ok (Zj9 a.1 a.2)⟩
theorem Zlf{p:Option Addr}{E:List (List Int)}{ys:List PV}(h:E.length=ys.length):Zia (.box p (.dt (E.map tI)) ys)=.ok (E.map ZK):=by
 unfold Zia
 simp only
 rw[if_pos (by rw[Zrj];exact h),Zr1]
 congr 1
 exact ZrN fun x _=>(UC x).symm
theorem Zpr(T:Txt K mg){f:Addr}{fd:FuncData}(F:Fun K "who_wins" "who_wins" ZoJ f fd):JF P w K mg base CX0 8 f fd ["board", "barred"] (spF K 2 .F W0 Zn5.fn):=by
 have ZoI:=JB (P:=P) (w:=w) (base:=base) T.Zpg Zpa (fun F=>ZoX T F)
 have Znl:=JB (P:=P) (w:=w) (base:=base) T.Zov Zol (fun F=>Zoi T F)
 have Zp6:=JB (P:=P) (w:=w) (base:=base) T.Zpw Zpm (fun F=>Zpk T F)
 have ZnD:=JB (P:=P) (w:=w) (base:=base) T.ZoO ZoF (fun F=>Zo8 T F)
 refine F.okP ZnR rfl rfl (fun cdv A outer s H E hr=>?_)
 have hu:=hr.units
 refine⟨_,_,⟨[],[],[],.F⟩,rfl,(Ze (Jh (Zl ZoI (hr.mono (by decide)) rfl (Zb (pv 0) (Zb (pv 1) Zf))))
   (Ze (Z1 (i:=2) ZnR.nd rfl (by walk_at "lo") (Zl Znl (hr.mono (by decide)) rfl (Zb (pv 0) (Zb (pv 1) Zf))))
   (Ze (Z1 (i:=3) ZnR.nd rfl (by walk_at "lo") (Zl Zp6 (hr.mono (by decide)) rfl (Zb (Zi3 (i:=2) (V2 (Zge (pv 2)) (Vb ZnR.nd) (fun _ _ _ _=>(Qd (fun _ _ h=>h) (Z6 (Jv (K:=K) hu) (VO (hu1 hu) (pv 2) (pv 4) (fun _ _=>rfl)) Zm (ZB _)))) (fun _ _ _ _=>(pv 4)) hv1 ZnR.nd rfl)) Zf)))
   (Ze (JH (Z6 (Jv (K:=K) hu) (VO (hu1 hu) (pv 2) (Zz (Jz (K:=K)) rfl T.z_tuple JZ (Zb (pv 0) Zf)) (fun _ _=>rfl)) Zm (ZB _)) (Zi (Z5 (VE (Zb QH (Zb QJ (Zb (pv 3) Zf)))))) ZM)
   (Zi (Z5 (VE (Zb QH (Zb (Zl ZnD (hr.mono (by decide)) rfl (Zb (pv 0) (Zb (pv 1) (Zb (pv 2) (Zb Zm Zf))))) (Zb (pv 3) Zf)))))))))),
   (Zn (Γm:=[.S,.S,.U,.U]) (JE (DE.toA (Ur (Zc (Zc Zs)) (Za (Zh (i:=0) rfl) (Za (Zh (i:=1) rfl) Zd)))))
   (Zn (Γm:=[.S,.S,.O,.U]) (ZG (i:=2) (Q3 (Zc (Zc Zs)) (Za (Zh (i:=0) rfl) (Za (Zh (i:=1) rfl) Zd))) (by decide))
   (Zn (Γm:=[.S,.S,.O,.O]) (ZG (i:=3) (Q3 (Zc Zs) (Za (DE.toA (Zji (i:=2) rfl rfl (fun a o kvs=>J6 (k:=1) (ZkU (i:=2) rfl) ZhS (Z4 (DE.toA (ZY (g:=id) (VT (Zh (i:=2) rfl) (Zh (i:=4) rfl)) (DE.toA Zj)))) (DE.PF (DE.grd (Zh (i:=4) rfl)))) (fun a o kvs σ H Q h1 h2 h=>⟨.ref a,h1,a,o,kvs,rfl,h2,h h1 h2⟩))) Zd)) (by decide))
   (Zn (Γm:=[.S,.S,.O,.O]) (JI (Z4 (DE.toA (ZY (g:=id) (VT (Zr (i:=2) (m:=.O) rfl (by decide)) (V8 (Za (Zh (i:=0) rfl) Zd))) (DE.toA Zj))))
   (Jm (Qy (ZJ (DE.PF QV) (ZJ (DE.PF Zfo) (ZJ (JR (i:=3) rfl) Jp)))))
   ZN)
   (Jm (Qy (ZJ (DE.PF QV) (ZJ (DE.PF (Ur (Zc (Zc (Zc (Zc Zs)))) (Za (Zh (i:=0) rfl) (Za (Zh (i:=1) rfl) (Za (Zr (i:=2) (m:=.O) rfl (by decide)) (Za (DE.toA Zj) Zd)))))) (ZJ (JR (i:=3) rfl) Jp))))))))), ?_⟩
 refine Pm.ref Zn5 (g:=fun xs=>_) ?_
 rintro⟨b,l⟩ (hX:Jb b l)
 simp only[Zn5]
 walk_at "pd"
 rw[Zpi hX]
 obtain⟨p1,p2,hs,F⟩:=J4 hX
 have nd:=Qv b.length l b
 have hlen:=F.len
 walk_at "pd"
 rw[ZnO ⟨p1,_,hs,F⟩]
 walk_at "pd"
 rw[Zlf (by simp)]
 walk_at "pd"
 rw[Zbl (q:=ZK) (p:=fun x=>decide (wtB (Zg b.length l) x=0)) (g:=ZK) (fun z hz=>by
  rw[VP (Uu (f:=fun x=>PV.int (wtB (Zg b.length l) x)) nd hz)]
  walk_at "pd"
  by_cases c:wtB (Zg b.length l) z=0
  ·rw[decide_eq_true c]
   walk_at "pd"
   rw[Ul]
   walk_at "pd"
  ·rw[decide_eq_false c]
   walk_at "pd")]
 walk_at "pd"
 have hfl:((enF b.length l b).filter fun x=>decide (wtB (Zg b.length l) x=0)).length<=(enF b.length l b).length:=Zsj _ _
 rw[Zpy ⟨fun t ht=>by
  have B:=(F.mem.mp (ZrS.mp ht).1).bs F.f.hP F.f.hb
  have:=B.1
  exact⟨fun z=>by rw[z] at this;simp at this;omega,by omega⟩,by omega⟩]
 walk_at "pd"
 rw[show Qe [PV.lst (b.map PV.int)]=.ok (ZK b) from rfl]
 walk_at "pd"
 rw[VP (Uu (f:=fun x=>PV.int (wtB (Zg b.length l) x)) nd (F.mem.mpr .refl))]
 walk_at "pd"
 unfold Zj9 ZlN
 by_cases c:wtB (Zg b.length l) b=0
 ·rw[decide_eq_true c,if_pos c]
  walk_at "pd"
 ·rw[decide_eq_false c,if_neg c]
  walk_at "pd"
  have:=ZdR (Zg b.length l) b
  rw[Zoj (w:=0) ⟨p1,⟨_,F⟩,Zcx F (k:=0) (by omega)⟩]
  walk_at "pd"
theorem ZpM{b l:List Int}(h:Jb b l):Zn5.fn [.lst (b.map PV.int),.lst (l.map PV.int)]=.ok (Zj9 b l):=Pm.fn_eq Zn5 (b,l) h fun(a:List Int×List Int) e=>by simp only[Zn5] at e ⊢;walk_at "in"
noncomputable def ZbC(b l o m:List Int):PV:=if wtB (Zg b.length l) b=wtB (Zg o.length m) o then .non else if wtB (Zg o.length m) o<wtB (Zg b.length l) b then .tup [.int 0,.int (stW (Zg b.length l) b (wtB (Zg o.length m) o)).1] else .tup [.int 1,.int (stW (Zg o.length m) o (wtB (Zg b.length l) b)).1]
noncomputable def ZmN:Pm:=⟨List Int×List Int×List Int×List Int,fun a=>[.lst (a.1.map PV.int),.lst (a.2.1.map PV.int),.lst (a.2.2.1.map PV.int),.lst (a.2.2.2.map PV.int)],fun a=>Jb a.1 a.2.1/\Jb a.2.2.1 a.2.2.2,fun a=>.ok (ZbC a.1 a.2.1 a.2.2.1 a.2.2.2)⟩
theorem Zpt(T:Txt K mg){f:Addr}{fd:FuncData}(F:Fun K "side_by_side" "side_by_side" Zn8 f fd):JF P w K mg base CX0 8 f fd ["board", "barred", "other", "other_barred"] (spF K 4 .P W0 ZmN.fn):=by
 have ZnP:=JB (P:=P) (w:=w) (base:=base) T.ZoY ZoR (fun F=>ZoN T F)
 have ZnE:=JB (P:=P) (w:=w) (base:=base) T.ZoP ZoG (fun F=>Zo9 T F)
 have Zne:=JB (P:=P) (w:=w) (base:=base) T.Zog ZnW (fun F=>ZnV T F)
 have Znl:=JB (P:=P) (w:=w) (base:=base) T.Zov Zol (fun F=>Zoi T F)
 have ZnD:=JB (P:=P) (w:=w) (base:=base) T.ZoO ZoF (fun F=>Zo8 T F)
 refine F.okP Znf rfl rfl (fun cdv A outer s H E hr=>?_)
 have hu:=hr.units
 refine⟨_,_,⟨[],[],[],.P⟩,rfl,(Ze (Jh (Zl ZnP (hr.mono (by decide)) rfl (Zb (pv 0) Zf)))
   (Ze (Jh (Zl ZnP (hr.mono (by decide)) rfl (Zb (pv 2) Zf)))
   (Ze (Jh (Zl ZnE (hr.mono (by decide)) rfl (Zb (pv 0) (Zb (pv 1) Zf))))
   (Ze (Jh (Zl ZnE (hr.mono (by decide)) rfl (Zb (pv 2) (Zb (pv 3) Zf))))
   (Ze (Jh (Zl Zne (hr.mono (by decide)) rfl (Zb (pv 0) Zf)))
   (Ze (Jh (Zl Zne (hr.mono (by decide)) rfl (Zb (pv 2) Zf)))
   (Ze (Z1 (i:=4) Znf.nd rfl (by walk_at "lo") (Zl Znl (hr.mono (by decide)) rfl (Zb (pv 0) (Zb (pv 1) Zf))))
   (Ze (Z1 (i:=5) Znf.nd rfl (by walk_at "lo") (VO (hu1 hu) (pv 4) (Zz (Jz (K:=K)) rfl T.z_tuple JZ (Zb (pv 0) Zf)) (fun _ _=>rfl)))
   (Ze (Z1 (i:=6) Znf.nd rfl (by walk_at "lo") (Zl Znl (hr.mono (by decide)) rfl (Zb (pv 2) (Zb (pv 3) Zf))))
   (Ze (Z1 (i:=7) Znf.nd rfl (by walk_at "lo") (VO (hu1 hu) (pv 6) (Zz (Jz (K:=K)) rfl T.z_tuple JZ (Zb (pv 2) Zf)) (fun _ _=>rfl)))
   (Ze (JH (Z6 (Jv (K:=K) hu) (pv 5) (pv 7) (ZB _)) (Zi (Z5 QJ)) ZM)
   (Ze (JH (Z6 Zd2 (pv 5) (pv 7) (ZB _)) (Zi (Z5 (VE (Zb Zm (Zb (Zl ZnD (hr.mono (by decide)) rfl (Zb (pv 0) (Zb (pv 1) (Zb (pv 4) (Zb (pv 7) Zf))))) Zf))))) ZM)
   (Zi (Z5 (VE (Zb Zm (Zb (Zl ZnD (hr.mono (by decide)) rfl (Zb (pv 2) (Zb (pv 3) (Zb (pv 6) (Zb (pv 5) Zf))))) Zf))))))))))))))))),
   (Zn (Γm:=[.S,.S,.S,.S,.U,.U,.U,.U]) (JE (DE.toA (Ur (Zc Zs) (Za (Zh (i:=0) rfl) Zd))))
   (Zn (Γm:=[.S,.S,.S,.S,.U,.U,.U,.U]) (JE (DE.toA (Ur (Zc Zs) (Za (Zh (i:=2) rfl) Zd))))
   (Zn (Γm:=[.S,.S,.S,.S,.U,.U,.U,.U]) (JE (DE.toA (Ur (Zc (Zc Zs)) (Za (Zh (i:=0) rfl) (Za (Zh (i:=1) rfl) Zd)))))
   (Zn (Γm:=[.S,.S,.S,.S,.U,.U,.U,.U]) (JE (DE.toA (Ur (Zc (Zc Zs)) (Za (Zh (i:=2) rfl) (Za (Zh (i:=3) rfl) Zd)))))
   (Zn (Γm:=[.S,.S,.S,.S,.U,.U,.U,.U]) (JE (DE.toA (Ur (Zc Zs) (Za (Zh (i:=0) rfl) Zd))))
   (Zn (Γm:=[.S,.S,.S,.S,.U,.U,.U,.U]) (JE (DE.toA (Ur (Zc Zs) (Za (Zh (i:=2) rfl) Zd))))
   (Zn (Γm:=[.S,.S,.S,.S,.O,.U,.U,.U]) (ZG (i:=4) (Q3 (Zc (Zc Zs)) (Za (Zh (i:=0) rfl) (Za (Zh (i:=1) rfl) Zd))) (by decide))
   (Zn (Γm:=[.S,.S,.S,.S,.O,.P,.U,.U]) (ZS (i:=5) (DE.grd (VT (Zr (i:=4) (m:=.O) rfl (by decide)) (V8 (Za (Zh (i:=0) rfl) Zd)))) (by decide))
   (Zn (Γm:=[.S,.S,.S,.S,.O,.P,.O,.U]) (ZG (i:=6) (Q3 (Zc (Zc Zs)) (Za (Zh (i:=2) rfl) (Za (Zh (i:=3) rfl) Zd))) (by decide))
   (Zn (Γm:=[.S,.S,.S,.S,.O,.P,.O,.P]) (ZS (i:=7) (DE.grd (VT (Zr (i:=6) (m:=.O) rfl (by decide)) (V8 (Za (Zh (i:=2) rfl) Zd)))) (by decide))
   (Zn (Γm:=[.S,.S,.S,.S,.O,.P,.O,.P]) (JI (Z4 (DE.toA (ZY (g:=id) (DE.toA (Zq (i:=5) rfl)) (DE.toA (Zq (i:=7) rfl)))))
   (ZC Zfo)
   ZN)
   (Zn (Γm:=[.S,.S,.S,.S,.O,.P,.O,.P]) (JI (Z4 (DE.toA (ZdG (DE.toA (Zq (i:=5) rfl)) (DE.toA (Zq (i:=7) rfl)))))
   (ZC (DE.grd (Qz (Za (DE.toA Zj) (Za (DE.toA (Ur (Zc (Zc (Zc (Zc Zs)))) (Za (Zh (i:=0) rfl) (Za (Zh (i:=1) rfl) (Za (Zr (i:=4) (m:=.O) rfl (by decide)) (Za (DE.toA (Zq (i:=7) rfl)) Zd)))))) Zd)))))
   ZN)
   (ZC (DE.grd (Qz (Za (DE.toA Zj) (Za (DE.toA (Ur (Zc (Zc (Zc (Zc Zs)))) (Za (Zh (i:=2) rfl) (Za (Zh (i:=3) rfl) (Za (Zr (i:=6) (m:=.O) rfl (by decide)) (Za (DE.toA (Zq (i:=5) rfl)) Zd)))))) Zd))))))))))))))))), ?_⟩
 refine Pm.ref ZmN (g:=fun xs=>_) ?_
 rintro⟨b,l,o,m⟩ ⟨hX,hY⟩
 simp only at hX hY
 simp only[ZmN]
 obtain⟨p1,p2,hs,F⟩:=J4 hX
 obtain⟨q1,q2,ht,G⟩:=J4 hY
 obtain⟨B,h2,h3,h4⟩:=hX
 obtain⟨D,g2,g3,g4⟩:=hY
 have l1:=B.lo
 have l2:=B.hi
 have l3:=B.sm
 have k1:=D.lo
 have k2:=D.hi
 have k3:=D.sm
 have nd:=Qv b.length l b
 have ne:=Qv o.length m o
 walk_at "pd"
 rw[Zoy ⟨by omega,V9.mpr B⟩]
 walk_at "pd"
 rw[Zoy ⟨by omega,V9.mpr D⟩]
 walk_at "pd"
 rw[Zok ⟨⟨by omega,h4⟩,h2⟩]
 walk_at "pd"
 rw[Zok ⟨⟨by omega,g4⟩,g2⟩]
 walk_at "pd"
 rw[Zn3 ⟨⟨⟨by omega,by omega⟩,l3⟩,by omega⟩]
 walk_at "pd"
 rw[Zn3 ⟨⟨⟨by omega,by omega⟩,k3⟩,by omega⟩]
 walk_at "pd"
 rw[ZnO ⟨p1,_,hs,F⟩]
 walk_at "pd"
 rw[show Qe [PV.lst (b.map PV.int)]=.ok (ZK b) from rfl]
 walk_at "pd"
 rw[VP (Uu (f:=fun x=>PV.int (wtB (Zg b.length l) x)) nd (F.mem.mpr .refl))]
 walk_at "pd"
 rw[ZnO ⟨q1,_,ht,G⟩]
 walk_at "pd"
 rw[show Qe [PV.lst (o.map PV.int)]=.ok (ZK o) from rfl]
 walk_at "pd"
 rw[VP (Uu (f:=fun x=>PV.int (wtB (Zg o.length m) x)) ne (G.mem.mpr .refl))]
 walk_at "pd"
 have w0:=ZdR (Zg b.length l) b
 have w1:=ZdR (Zg o.length m) o
 unfold ZbC
 by_cases c:wtB (Zg b.length l) b=wtB (Zg o.length m) o
 ·rw[decide_eq_true c,if_pos c]
  walk_at "pd"
 ·rw[decide_eq_false c,if_neg c]
  walk_at "pd"
  by_cases d:wtB (Zg o.length m) o<wtB (Zg b.length l) b
  ·rw[decide_eq_true d,if_pos d]
   obtain⟨y,hy,ey⟩:=Zcx F (k:=(wtB (Zg o.length m) o).toNat) (by omega)
   walk_at "pd"
   rw[Zoj ⟨p1,⟨_,F⟩,y,hy,by omega⟩]
   walk_at "pd"
  ·rw[decide_eq_false d,if_neg d]
   obtain⟨y,hy,ey⟩:=Zcx G (k:=(wtB (Zg b.length l) b).toNat) (by omega)
   walk_at "pd"
   rw[Zoj ⟨q1,⟨_,G⟩,y,hy,by omega⟩]
   walk_at "pd"
theorem ZoQ{b l o m:List Int}(h:Jb b l/\Jb o m):ZmN.fn [.lst (b.map PV.int),.lst (l.map PV.int),.lst (o.map PV.int),.lst (m.map PV.int)]=.ok (ZbC b l o m):=Pm.fn_eq ZmN (b,l,o,m) h (fun(a:List Int×List Int×List Int×List Int) e=>by
 obtain⟨b',l',o',m'⟩:=a
 simp only[ZmN,List.cons.injEq,PV.lst.injEq,and_true] at e ⊢
 rw[ZD e.1,ZD e.2.1,ZD e.2.2.1,ZD e.2.2.2])
noncomputable def opL(b l:List Int):List Int:=((List.range b.length).filter fun(i:Nat)=>decide (0<b.getD i 0)&&decide ((i:Int) ∉ l)).map fun(i:Nat)=>(i:Int)
theorem ZbP{b l:List Int}{p:Int}:p∈opL b l ↔ (p∈Zg b.length l/\0<b.getD p.toNat 0):=by
 unfold opL
 constructor
 ·intro h
  obtain⟨i,hi,rfl⟩:=Zrz.mp h
  obtain⟨h1,h2⟩:=ZrS.mp hi
  rw[Bool.and_eq_true] at h2
  have h1:=ZrB.mp h1
  exact⟨JC.mpr ⟨⟨by omega,by omega⟩,of_decide_eq_true h2.2⟩,by rw[ZrL];exact of_decide_eq_true h2.1⟩
 ·rintro⟨h1,h2⟩
  obtain⟨⟨a0,a1⟩,a2⟩:=JC.mp h1
  refine Zrz.mpr ⟨p.toNat,ZrS.mpr ⟨ZrB.mpr (by omega), ?_⟩,by omega⟩
  rw[Bool.and_eq_true,ZrA a0]
  exact⟨decide_eq_true h2,decide_eq_true a2⟩
noncomputable def Znv:Pm:=⟨List Int×List Int,fun a=>[.lst (a.1.map PV.int),.lst (a.2.map PV.int)],fun a=>a.1.length<=1000,fun a=>.ok (.lst ((opL a.1 a.2).map PV.int))⟩
theorem Zqg(T:Txt K mg){f:Addr}{fd:FuncData}(F:Fun K "_law_open" "_law_open" Zot f fd):JF P w K mg base CX0 1 f fd ["board", "barred"] (spF K 2 .F W0 Znv.fn):=by
 refine F.okP Zo7 rfl rfl (fun cdv A outer s H E hr=>?_)
 have hu:=hr.units
 refine⟨_,_,⟨[],[],[],.F⟩,rfl,(Zi (Z5 (V2 (Jc rfl T.z_range (Zb (Zw (Z8 (K:=K)) rfl T.z_len Jr (Zb (pv 0) Zf)) Zf)) (Vb Zo7.nd) (fun _ _ _ _=>(Qd (fun _ _ h=>h) (PW.pt (ZjW (Z6 Zd2 (ZT (Zx (K:=K)) (pv 0) (pv 2) (fun _ _=>rfl)) Zm (ZB _)) (Zix (Z6 (Vr (K:=K) hu) (pv 2) (pv 1) rfl)))))) (fun _ _ _ _=>(pv 2)) hv1 Zo7.nd rfl))),
   (Jm (J6 (k:=1) (DI.c (JP (Za (DE.toA (Jo (Za (Zh (i:=0) rfl) Zd))) Zd))) ZhS (ZkS (Z4 (DE.toA (ZdG (Z7 (te:=tC .non) (Zh (i:=0) rfl) (Zh (i:=2) rfl)) (DE.toA Zj)))) (Z4 (DE.toA (QX (g:=(!·)) (Zh (i:=2) rfl) (Zh (i:=1) rfl))))) (DE.PF (DE.grd (Zh (i:=2) rfl))))), ?_⟩
 refine Pm.ref Znv (g:=fun xs=>_) ?_
 rintro⟨b,l⟩ (hb:b.length<=1000)
 simp only[Znv]
 walk_at "pd"
 rw[Zax (p:=fun(i:Nat)=>decide (0<b.getD i 0)&&decide ((i:Int) ∉ l)) (g:=fun(i:Nat)=>.int i) (fun i hi=>by
  rw[Zsx]
  walk_at "pd"
  rw[ZrL]
  by_cases c:0<b.getD i 0
  ·rw[decide_eq_true c]
   walk_at "pd"
   rw[JA]
   by_cases e:(i:Int)∈l
   ·rw[decide_eq_true e,decide_eq_false (fun z=>z e)]
    walk_at "pd"
   ·rw[decide_eq_false e,decide_eq_true e]
    walk_at "pd"
  ·rw[decide_eq_false c]
   walk_at "pd")]
 walk_at "pd"
 unfold opL
 rw[Zr1,ZrL];rfl
theorem Zq9{b l:List Int}(h:b.length<=1000):Znv.fn [.lst (b.map PV.int),.lst (l.map PV.int)]=.ok (.lst ((opL b l).map PV.int)):=Pm.fn_eq Znv (b,l) h fun(a:List Int×List Int) e=>by simp only[Znv] at e ⊢;walk_at "in"
noncomputable def Znu:Pm:=⟨List Int×Int,fun a=>[.lst (a.1.map PV.int),.int a.2],fun a=>0<=a.2/\a.2<a.1.length/\a.1.length<=1000/\0<=a.1.getD a.2.toNat 0/\a.1.getD a.2.toNat 0<=100000,fun a=>.ok (.lst ((Vi a.1 a.2).map PV.int))⟩
theorem Zqf(T:Txt K mg){f:Addr}{fd:FuncData}(F:Fun K "_law_sown" "_law_sown" Zos f fd):JF P w K mg base CX0 1 f fd ["board", "pit"] (spF K 2 .F W0 Znu.fn):=by
 refine F.okP ZnY rfl rfl (fun cdv A outer s H E hr=>?_)
 have hu:=hr.units
 refine⟨_,_,⟨[],[],[],.F⟩,rfl,(Ze (Z1 (i:=2) ZnY.nd rfl (by walk_at "lo") (Zz (Z9 (K:=K)) rfl T.z_list ZW (Zb (pv 0) Zf)))
   (Ze (Z1 (i:=3) ZnY.nd rfl (by walk_at "lo") (ZT (Zx (K:=K)) (pv 2) (pv 1) (fun _ _=>rfl)))
   (Ze (ZcL Zm (Zev (pv 2) (pv 1) V1))
   (Ze (VD PassesOwn.never rfl (Jc rfl T.z_range (Zb (pv 3) Zf)) (Ji (i:=4) ZnY.nd rfl (by walk_at "lo")) (Zi (ZbI (pv 2) (ZL Jd (ZL JV (ZL JV (pv 1) Zm) (pv 4)) (Zw (Z8 (K:=K)) rfl T.z_len Jr (Zb (pv 2) Zf))) (Qq (K:=K)) Zm Zbb V1)))
   (Zi (Z5 (pv 2))))))),
   (Zn (Γm:=[.S,.S,.O,.U,.U]) (ZG (i:=2) (ZQ (Za (Zh (i:=0) rfl) Zd)) (by decide))
   (Zn (Γm:=[.S,.S,.O,.P,.U]) (ZS (i:=3) (DE.grd (Z7 (te:=tC .non) (Zr (i:=2) (m:=.O) rfl (by decide)) (Zh (i:=1) rfl))) (by decide))
   (Zn (Γm:=[.S,.S,.O,.P,.U]) (Qx (i:=2) rfl Zj (Zh (i:=1) rfl))
   (Zn (Γm:=[.S,.S,.O,.P,.U]) (VH (Γl:=[.S,.S,.O,.P,.U]) (JP (Za (DE.toA (Zq (i:=3) rfl)) Zd)) rfl (ZfJ (i:=4) (by decide))
   (DS.out (Y:=⟨[.S,.S,.O,.P,.P],[.S,.S,.O,.P,.U],[.S,.S,.O,.P,.U],.F⟩) (Y':=⟨[.S,.S,.O,.P,.U],[.S,.S,.O,.P,.U],[.S,.S,.O,.P,.U],.F⟩) (Za0 (i:=2) rfl rfl (DE.toA (Je (DE.toA (JX (DE.toA (JX (Zh (i:=1) rfl) (DE.toA Zj))) (DE.toA (Zq (i:=4) rfl)))) (DE.toA (Jo (Za (Zr (i:=2) (m:=.O) rfl (by decide)) Zd))))) (DE.toA Zj)) rfl rfl rfl rfl))
   (Jm (JR (i:=2) rfl)))))), ?_⟩
 refine Pm.ref Znu (g:=fun xs=>_) ?_
 rintro⟨b,p⟩ ⟨h0,h1,h2,h3,h4⟩
 simp only at h0 h1 h2 h3 h4
 simp only[Znu]
 walk_at "pd"
 rw[<- Zgx h0 h1]
 generalize hw:Qs _ _ _=W
 obtain⟨ρ',rfl,v,rfl⟩:=Jl hw (fun i ρ=>∃v,ρ=[.lst (b.map PV.int),.int p,.lst ((ZfG b p i).map PV.int),.int (b.getD p.toNat 0),v]) ⟨_,rfl⟩ (by
  rintro i x ρ hx ⟨v,rfl⟩
  obtain⟨hi,rfl⟩:=JK hx
  rw[Zsx]
  have hlen:=ZiH b p i
  have y0:=Zr5 (p+1+i) (show (b.length:Int)≠0 by omega)
  have y1:=Zry (p+1+i) (show (0:Int)<b.length by omega)
  have hst:=Zgy h0 h1 i
  walk_at "pd"
  rw[hlen]
  walk_at "pd"
  rw[hst]
  exact VB ⟨_,rfl⟩)
 walk_at "pd"
 rw[ZU,ZiI h0 h1 h3]
theorem Zp0{b:List Int}{p:Int}(h:0<=p/\p<b.length/\b.length<=1000/\0<=b.getD p.toNat 0/\b.getD p.toNat 0<=100000):Znu.fn [.lst (b.map PV.int),.int p]=.ok (.lst ((Vi b p).map PV.int)):=Pm.fn_eq Znu (b,p) h fun(a:List Int×Int) e=>by simp only[Znu] at e ⊢;walk_at "in"
theorem ZgQ{b:PV->List PV->RS}{xs:List PV}{ρ:List PV}{W:RS}(hw:Qs b xs ρ=W)(I:Nat->List PV->Prop)(h0:I 0 ρ){v:PV}(h:∀i x ρ,xs[i]?=some x->I i ρ->(b x ρ).good (I (i+1))\/b x ρ=.ret v)(hl:∀ρ,¬I xs.length ρ):W=.ret v:=by
 subst hw
 have key:∀m i ρ,xs.length=i+m->I i ρ->Qs b (xs.drop i) ρ=.ret v:=by
  intro m
  induction m with
  |zero =>
   intro i ρ e hI
   rw[Ztw] at e
   rw[<- e] at hI
   exact absurd hI (hl ρ)
  |succ m ih =>
   intro i ρ e hI
   have hi:i<xs.length:=by omega
   rw[ZrH hi]
   rcases h i _ ρ (Zri hi) hI with g|g
   ·obtain⟨ρ',h1,h2⟩:=RS.good_ex g
    simp only[Qs]
    rcases h1 with h1|h1<;>(rw[h1];exact ih (i+1) ρ' (by omega) h2)
   ·simp only[Qs,g]
    rfl
 exact key xs.length 0 ρ (by omega) h0
theorem Jb.go{b l x:List Int}(h:Jb b l)(hx:Rch (Zg b.length l) b x):Jb x l/\x.length=b.length/\x.sum=b.sum/\∀z∈x,0<=z:=by
 obtain⟨p1,p2,hs,F⟩:=J4 h
 obtain⟨e1,e2,e3⟩:=hx.bs F.f.hP F.f.hb
 obtain⟨B,h2,h3,h4⟩:=h
 exact⟨⟨⟨by omega,by omega,e2,by omega⟩,by rw[e1];exact h2,by rw[e1,e3];exact h3,h4⟩,e1,e3,e2⟩
theorem Zj8{x:List Int}{n:Nat}{s:Int}{l:List Int}(F:UP n s l x)(h:wtB (Zg n l) x=0){y:Int×List Int}(hy:y∈J9 (Zg n l) x):wtB (Zg n l) y.2≠0:=fun z=>by
 have e:wtB (Zg n l) x=(ZeM ((J9 (Zg n l) x).map fun y=>wtB (Zg n l) y.2):Nat):=F.wt
 obtain⟨m1,_,_⟩:=ZbS ((J9 (Zg n l) x).map fun y=>wtB (Zg n l) y.2)
 rw[<- e,h] at m1
 exact m1 (Zrz.mpr ⟨y,hy,z⟩)
theorem ZeA{g:Bool->Bool}:ZaA g (.str "first") (.str "first")=.ok (.bl (g true)):=ZbN (by rw[PyData.canLay0];decide +kernel) (by rw[PyData.canLay0];decide +kernel)
noncomputable def Zno:Pm:=⟨List Int×List Int×List Int,fun a=>[.lst (a.1.map PV.int),.lst (a.2.1.map PV.int),.int (if wtB (Zg a.1.length a.2.1) a.1=0 then 1 else 0),.lst (a.2.2.map PV.int)],fun a=>Jb a.1 a.2.1/\a.1.sum<=100000/\(enF a.1.length a.2.1 a.1).length<=399/\a.2.2.length=63,fun _=>.ok (.bl true)⟩
theorem Zp9(T:Txt K mg){f:Addr}{fd:FuncData}(F:Fun K "_law_played" "_law_played" ZnN f fd):JF P w K mg base CX0 9 f fd ["board", "barred", "winner", "numbers"] (spF K 4 .P W0 Zno.fn):=by
 have ZqF:=JB (P:=P) (w:=w) (base:=base) T.Zq6 Zqt (fun F=>Zqg T F)
 have ZqE:=JB (P:=P) (w:=w) (base:=base) T.Zq5 Zqs (fun F=>Zqf T F)
 have Zpd:=JB (P:=P) (w:=w) (base:=base) T.ZpL Zp1 (fun F=>Zpr T F)
 refine F.okP ZmO rfl rfl (fun cdv A outer s H E hr=>?_)
 have hu:=hr.units
 refine⟨_,_,⟨[],[],[],.P⟩,rfl,(Ze (Z1 (i:=4) ZmO.nd rfl (by walk_at "lo") (Zz (Z9 (K:=K)) rfl T.z_list ZW (Zb (pv 0) Zf)))
   (Ze (VD PassesOwn.never rfl (Jc rfl T.z_range (Zb Zm Zf)) (Ji (i:=5) ZmO.nd rfl (by walk_at "lo")) (Ze (Z1 (i:=6) ZmO.nd rfl (by walk_at "lo") (Zl ZqF (hr.mono (by decide)) rfl (Zb (pv 4) (Zb (pv 1) Zf))))
   (Ze (JH (Z6 (Jv (K:=K) hu) (pv 6) (VF Zf) (ZB _)) (Zi (Z5 (Jx (ZaV (K:=K) hu) (ZL Jd (pv 5) Zm) (pv 2) (ZB _)))) ZM)
   (Ze (Z1 (i:=7) ZmO.nd rfl (by walk_at "lo") (ZT (Zx (K:=K)) (pv 6) (ZL Jd (ZL V3 (ZT (Zx (K:=K)) (pv 3) (ZL JV Zm (ZL Jd (pv 5) Zm)) (fun _ _=>rfl)) Zm) (Zw (Z8 (K:=K)) rfl T.z_len Jr (Zb (pv 6) Zf))) (fun _ _=>rfl)))
   (Ze (JH (Z6 (Jv (K:=K) hu) (ZL Jd (pv 5) Zm) (pv 2) (ZB _)) (Ze (Z1 (i:=8) ZmO.nd rfl (by walk_at "lo") (Zl Zpd (hr.mono (by decide)) rfl (Zb (Zz (Z9 (K:=K)) rfl T.z_list ZW (Zb (pv 4) Zf)) (Zb (Zz (Z9 (K:=K)) rfl T.z_list ZW (Zb (pv 1) Zf)) Zf))))
   (Ze (JH (PW.pt (ZbG (Z6 (ZaV (K:=K) hu) (ZT (Zx (K:=K)) (pv 8) Zm (fun _ _=>rfl)) QH (ZB _)) (QG (Z6 (Vr (K:=K) hu) (ZT (Zx (K:=K)) (pv 8) Zm (fun _ _=>rfl)) (pv 6) rfl)))) (Zi (Z5 ZaR)) ZM)
   (Zi (Z1 (i:=7) ZmO.nd rfl (by walk_at "lo") (ZT (Zx (K:=K)) (pv 8) Zm (fun _ _=>rfl)))))) ZM)
   (Zi (Z1 (i:=4) ZmO.nd rfl (by walk_at "lo") (Zl ZqE (hr.mono (by decide)) rfl (Zb (pv 4) (Zb (pv 7) Zf))))))))))
   (Zi (Z5 ZaR)))),
   (Zn (Γm:=[.S,.S,.S,.S,.O,.U,.U,.U,.U]) (ZG (i:=4) (ZQ (Za (Zh (i:=0) rfl) Zd)) (by decide))
   (Zn (Γm:=[.S,.S,.S,.S,.O,.U,.U,.U,.U]) (VH (Γl:=[.S,.S,.S,.S,.O,.U,.U,.U,.U]) (JP (Za (DE.toA Zj) Zd)) rfl (ZfJ (i:=5) (by decide))
   (DS.out (Y:=⟨[.S,.S,.S,.S,.O,.P,.O,.P,.U],[.S,.S,.S,.S,.O,.U,.U,.U,.U],[.S,.S,.S,.S,.O,.U,.U,.U,.U],.P⟩) (Y':=⟨[.S,.S,.S,.S,.O,.U,.U,.U,.U],[.S,.S,.S,.S,.O,.U,.U,.U,.U],[.S,.S,.S,.S,.O,.U,.U,.U,.U],.P⟩) (Zn (Γm:=[.S,.S,.S,.S,.O,.P,.O,.U,.U]) (ZG (i:=6) (Q3 (Zc (Zc Zs)) (Za (Zr (i:=4) (m:=.O) rfl (by decide)) (Za (Zh (i:=1) rfl) Zd))) (by decide))
   (Zn (Γm:=[.S,.S,.S,.S,.O,.P,.O,.U,.U]) (JI (Z4 (DE.toA (ZY (g:=id) (Zr (i:=6) (m:=.O) rfl (by decide)) (DE.toA (Ve Jp)))))
   (ZC (ZY (g:=(!·)) (DE.toA (Je (DE.toA (Zq (i:=5) rfl)) (DE.toA Zj))) (Zh (i:=2) rfl)))
   ZN)
   (Zn (Γm:=[.S,.S,.S,.S,.O,.P,.O,.P,.U]) (ZS (i:=7) (DE.grd (Z7 (te:=tC .non) (Zr (i:=6) (m:=.O) rfl (by decide)) (DE.toA (Je (DE.toA (QY (Z7 (te:=tC .non) (Zh (i:=3) rfl) (DE.toA (JX (DE.toA Zj) (DE.toA (Je (DE.toA (Zq (i:=5) rfl)) (DE.toA Zj)))))) (DE.toA Zj))) (DE.toA (Jo (Za (Zr (i:=6) (m:=.O) rfl (by decide)) Zd))))))) (by decide))
   (Zn (Γm:=[.S,.S,.S,.S,.O,.P,.O,.P,.U]) (JI (Z4 (DE.toA (ZY (g:=id) (DE.toA (Je (DE.toA (Zq (i:=5) rfl)) (DE.toA Zj))) (Zh (i:=2) rfl))))
   (DS.out (Y:=⟨[.S,.S,.S,.S,.O,.P,.O,.P,.O],[.S,.S,.S,.S,.O,.U,.U,.U,.U],[.S,.S,.S,.S,.O,.U,.U,.U,.U],.P⟩) (Y':=⟨[.S,.S,.S,.S,.O,.P,.O,.P,.U],[.S,.S,.S,.S,.O,.U,.U,.U,.U],[.S,.S,.S,.S,.O,.U,.U,.U,.U],.P⟩) (Zn (Γm:=[.S,.S,.S,.S,.O,.P,.O,.P,.O]) (ZG (i:=8) (Q3 (Zc (Zc Zs)) (Za (DE.toA (ZQ (Za (Zr (i:=4) (m:=.O) rfl (by decide)) Zd))) (Za (DE.toA (ZQ (Za (Zh (i:=1) rfl) Zd))) Zd))) (by decide))
   (Zn (Γm:=[.S,.S,.S,.S,.O,.P,.O,.P,.O]) (JI (Zce (Z4 (DE.toA (ZY (g:=(!·)) (Z7 (te:=tC .non) (Zr (i:=8) (m:=.O) rfl (by decide)) (DE.toA Zj)) (DE.toA QV)))) (Z4 (DE.toA (QX (g:=(!·)) (Z7 (te:=tC .non) (Zr (i:=8) (m:=.O) rfl (by decide)) (DE.toA Zj)) (Zr (i:=6) (m:=.O) rfl (by decide))))))
   (ZC Zbp)
   ZN)
   (ZS (i:=7) (DE.grd (Z7 (te:=tC .non) (Zr (i:=8) (m:=.O) rfl (by decide)) (DE.toA Zj))) (by decide)))) rfl rfl rfl rfl)
   ZN)
   (ZG (i:=4) (Q3 (Zc (Zc Zs)) (Za (Zr (i:=4) (m:=.O) rfl (by decide)) (Za (DE.toA (Zq (i:=7) rfl)) Zd))) (by decide)))))) rfl rfl rfl rfl))
   (ZC Zbp))), ?_⟩
 refine Pm.ref Zno (g:=fun xs=>_) ?_
 rintro⟨b,l,N⟩ ⟨hX,hs,he,hN⟩
 simp only at hX hs he hN
 simp only[Zno]
 obtain⟨p1,p2,hs',F⟩:=J4 hX
 have hl4:=hX.2.2.2
 obtain⟨wn,hwn,w01⟩:∃wn:Int,(if wtB (Zg b.length l) b=0 then (1:Int) else 0)=wn/\((0=wn/\wtB (Zg b.length l) b≠0)\/(1=wn/\wtB (Zg b.length l) b=0)):=by
  by_cases c:wtB (Zg b.length l) b=0
  ·exact⟨1,if_pos c,.inr ⟨rfl,c⟩⟩
  ·exact⟨0,if_neg c,.inl ⟨rfl,c⟩⟩
 rw[hwn]
 have hb1:b.length<=1000:=by omega
 walk_at "pd"
 generalize hw:Qs _ _ _=W
 obtain rfl:=ZgQ (v:=.bl true) hw (fun t ρ=>∃x v5 v6 v7 v8,ρ=[.lst (b.map PV.int),.lst (l.map PV.int),.int wn,.lst (N.map PV.int),.lst (x.map PV.int),v5,v6,v7,v8]/\Rch (Zg b.length l) b x/\(∃j,(enF b.length l b)[j]?=some x/\j+t<=398)/\(((t:Int)%2=wn/\wtB (Zg b.length l) x≠0)\/((t:Int)%2≠wn/\wtB (Zg b.length l) x=0))) (by
   obtain⟨j,hj⟩:=Zr4 (F.mem.mpr .refl)
   have hjl:=(Zrg.mp hj).1
   exact⟨b,_,_,_,_,rfl,.refl,⟨j,hj,by omega⟩,by
    rcases w01 with ⟨a,c⟩|⟨a,c⟩
    ·exact .inl ⟨by simpa using a,c⟩
    ·exact .inr ⟨by omega,c⟩⟩) (by
  rintro t y ρ hy ⟨x,v5,v6,v7,v8,rfl,rx,⟨j,hj,hjt⟩,hpar⟩
  obtain⟨ht,rfl⟩:=JK hy
  rw[Zsx]
  obtain⟨hPx,xl,xs,xn⟩:=hX.go rx
  have Fx:=F.go rx
  have hx1:x.length<=1000:=by omega
  walk_at "pd"
  rw[Zq9 (by omega)]
  walk_at "pd"
  by_cases c:opL x l=[]
  ·right
   have hw0:wtB (Zg b.length l) x=0:=by
    have hn:J9 (Zg b.length l) x=[]:=by
     cases hq:J9 (Zg b.length l) x with
     |nil=>rfl
     |cons z zs =>
      have hz:z∈J9 (Zg b.length l) x:=by rw[hq];simp
      obtain⟨z1,z2,_⟩:=J3.mp hz
      have:z.1∈opL x l:=ZbP.mpr ⟨by rw[xl];exact z1,z2⟩
      rw[c] at this
      simp at this
    rw[Fx.wt,hn];rfl
   have hne:(t:Int)%2≠wn:=by
    rcases hpar with ⟨_,q⟩|⟨q,_⟩
    ·exact absurd hw0 q
    ·exact q
   rw[decide_eq_true c,decide_eq_false hne]
   walk_at "pd"
  ·left
   rw[decide_eq_false c]
   walk_at "pd"
   have hol:0<(opL x l).length:=List.length_pos_iff.mpr c
   have r0:=Zr5 (t:Int) (show (43:Int)≠0 by omega)
   have r1:=Zry (t:Int) (show (0:Int)<43 by omega)
   generalize hq:N.getD (20+(t:Int)%43).toNat 0/7=qq
   have q0:=Zr5 qq (show ((opL x l).length:Int)≠0 by omega)
   have q1:=Zry qq (show (0:Int)<(opL x l).length by omega)
   walk_at "pd"
   have hsow:∀p∈opL x l,(0<=p/\p<x.length/\x.length<=1000/\0<=x.getD p.toNat 0/\x.getD p.toNat 0<=100000)/\Rch (Zg b.length l) b (Vi x p)/\(∃j',(enF b.length l b)[j']?=some (Vi x p)/\j'+(t+1)<=398)/\(p,Vi x p)∈J9 (Zg b.length l) x:=fun p hp=>by
    obtain⟨a1,a2⟩:=ZbP.mp hp
    rw[xl] at a1
    obtain⟨a3,_⟩:=JC.mp a1
    obtain⟨j',j1,j2⟩:=F.ahead hj a1 a2
    refine⟨⟨a3.1,by omega,hx1,by omega, ?_⟩,.step rx a1 a2,⟨j',j2,by omega⟩,J3.mpr ⟨a1,a2,rfl⟩⟩
    have hm:x.getD p.toNat 0∈x:=by
     rw[Zrf,Zri (by omega),Zsk];exact Zs1 _
    have:=ZeR xn hm
    omega
   by_cases d:(t:Int)%2=wn
   ·have hw1:wtB (Zg b.length l) x≠0:=by
     rcases hpar with ⟨_,q⟩|⟨q,_⟩
     ·exact q
     ·exact absurd d q
    have hnn:=ZdR (Zg b.length l) x
    obtain⟨s1,s2,_⟩:=Zh1 (Zcx Fx (k:=0) (by omega))
    have s2:wtB (Zg b.length l) (stW (Zg b.length l) x 0).2=0:=s2
    have s1:stW (Zg b.length l) x 0∈J9 (Zg b.length l) x:=s1
    obtain⟨z1,z2,z3⟩:=J3.mp s1
    have hin:(stW (Zg b.length l) x 0).1∈opL x l:=ZbP.mpr ⟨by rw[xl];exact z1,z2⟩
    obtain⟨g1,g2,g3,g4⟩:=hsow _ hin
    rw[decide_eq_true d]
    walk_at "pd"
    rw[ZpM hPx]
    unfold Zj9
    rw[xl,if_neg hw1]
    walk_at "pd"
    rw[ZeA]
    walk_at "pd"
    rw[JA,decide_eq_true hin]
    walk_at "pd"
    rw[Zp0 g1]
    walk_at "pd"
    exact VB ⟨_,_,_,_,_,rfl,g2,g3,.inr ⟨by omega,by rw[<- z3];exact s2⟩⟩
   ·have hw0:wtB (Zg b.length l) x=0:=by
     rcases hpar with ⟨q,_⟩|⟨_,q⟩
     ·exact absurd q d
     ·exact q
    have hin:(opL x l).getD (qq%(opL x l).length).toNat 0∈opL x l:=by
     rw[Zrf,Zri (by omega),Zsk];exact Zs1 _
    obtain⟨g1,g2,g3,g4⟩:=hsow _ hin
    generalize (opL x l).getD (qq%(opL x l).length).toNat 0=pp at hin g1 g2 g3 g4
    rw[decide_eq_false d]
    walk_at "pd"
    rw[Zp0 g1]
    walk_at "pd"
    exact VB ⟨_,_,_,_,_,rfl,g2,g3,.inl ⟨by rcases w01 with ⟨a,_⟩|⟨a,_⟩<;>omega,Zj8 Fx hw0 g4⟩⟩) (by
  rintro ρ ⟨x,v5,v6,v7,v8,_,_,⟨j,_,hjt⟩,_⟩
  rw[ZU] at hjt
  omega)
 walk_at "pd"
theorem ZpV{b l N:List Int}(h:Jb b l/\b.sum<=100000/\(enF b.length l b).length<=399/\N.length=63):Zno.fn [.lst (b.map PV.int),.lst (l.map PV.int),.int (if wtB (Zg b.length l) b=0 then 1 else 0),.lst (N.map PV.int)]=.ok (.bl true):=Pm.fn_eq Zno (b,l,N) h fun _ _=>rfl
noncomputable def Zom:Pm:=⟨List Int×List Int,fun a=>[.lst (a.1.map PV.int),.lst (a.2.map PV.int)],fun a=>Jb a.1 a.2,fun a=>.ok (.lst ((ZdH (Zg a.1.length a.2) a.1).map (Zii (Zg a.1.length a.2))))⟩
theorem Zjr{E:List (List Int)}{f:List Int->PV}{y:List Int}(nd:E.Nodup)(hy:y∈E):atK (E.map tI) (E.map f) (tI y)=some (f y):=by
 obtain⟨j,hj⟩:=Zr4 hy
 have:=Za7 (f:=f) nd (Zrg.mp hj).1 hj
 rwa [ZsH] at this
theorem ZqP(T:Txt K mg){f:Addr}{fd:FuncData}(F:Fun K "worths" "worths" Zpo f fd):JF P w K mg base CX0 8 f fd ["board", "barred"] (spF K 2 .F W0 Zom.fn):=by
 have ZoI:=JB (P:=P) (w:=w) (base:=base) T.Zpg Zpa (fun F=>ZoX T F)
 have Znl:=JB (P:=P) (w:=w) (base:=base) T.Zov Zol (fun F=>Zoi T F)
 refine F.okP Zpq rfl rfl (fun cdv A outer s H E hr=>?_)
 have hu:=hr.units
 refine⟨_,_,⟨[],[],[],.F⟩,rfl,(Ze (Jh (Zl ZoI (hr.mono (by decide)) rfl (Zb (pv 0) (Zb (pv 1) Zf))))
   (Ze (Z1 (i:=2) Zpq.nd rfl (by walk_at "lo") (Zl Znl (hr.mono (by decide)) rfl (Zb (pv 0) (Zb (pv 1) Zf))))
   (Zi (Z5 (JL (Ja (K:=K) (Zw (ZdJ rfl) rfl T.z_sorted Q2 (Zb (pv 2) Zf))) (fun _ _ _ _=>(VE (Zb (Zz (Z9 (K:=K)) rfl T.z_list ZW (Zb (pv 3) Zf)) (Zb (VO (hu1 hu) (pv 2) (pv 3) (fun _ _=>rfl)) Zf)))) Zpq.nd rfl))))),
   (Zn (Γm:=[.S,.S,.U]) (JE (DE.toA (Ur (Zc (Zc Zs)) (Za (Zh (i:=0) rfl) (Za (Zh (i:=1) rfl) Zd)))))
   (Zn (Γm:=[.S,.S,.O]) (ZG (i:=2) (Q3 (Zc (Zc Zs)) (Za (Zh (i:=0) rfl) (Za (Zh (i:=1) rfl) Zd))) (by decide))
   (Jm (J5 (DI.c (Jn (DE.FZ (Zhb (Za (Zr (i:=2) (m:=.O) rfl (by decide)) Zd))))) (Qy (ZJ (ZQ (Za (Zh (i:=3) rfl) Zd)) (ZJ (DE.PF (DE.grd (VT (Zr (i:=2) (m:=.O) rfl (by decide)) (Zh (i:=3) rfl)))) Jp))))))), ?_⟩
 refine Pm.ref Zom (g:=fun xs=>_) ?_
 rintro⟨b,l⟩ (hX:Jb b l)
 simp only[Zom]
 walk_at "pd"
 rw[Zpi hX]
 obtain⟨p1,p2,hs,F⟩:=J4 hX
 have nd:=Qv b.length l b
 have hlen:=F.len
 walk_at "pd"
 rw[ZnO ⟨p1,_,hs,F⟩]
 walk_at "pd"
 have hle:(ZdH (Zg b.length l) b).length<=1000:=by
  unfold ZdH
  rw[(ZH _).length_eq]
  exact F.f.le _
 have hcm:Zah (enF b.length l b)=ZdH (Zg b.length l) b:=Zir (UN _ _ _)
 rw[show List.map tI (enF b.length l b)=(enF b.length l b).map (fun t=>t.map Sum.inl) from rfl,Ze3 (by simp) ⟨fun t ht=>by
  have B:=(F.mem.mp ht).bs F.f.hP F.f.hb
  intro z
  have:=B.1
  rw[z] at this
  simp at this
  omega,by omega⟩,hcm,ZeL JD (by omega)]
 walk_at "pd"
 rw[ZeP (q:=ZK) (g:=Zii (Zg b.length l)) (fun x hx=>by
  have rx:=F.f.com.mp hx
  have B:=rx.bs F.f.hP F.f.hb
  have hL:Zal [ZK x]=.ok (Zj0 x):=by
   unfold ZK
   show Zal [.tup (x.map PV.int)]=_
   simp only[Zal]
   rw[Vs (by have:=B.1;omega)];rfl
  rw[hL]
  walk_at "pd"
  rw[show (enF b.length l b).map (fun t=>t.map (Sum.inl:Int->Key))=(enF b.length l b).map tI from rfl,VP (Zjr (f:=fun x=>PV.int (wtB (Zg b.length l) x)) nd (F.mem.mpr rx))]
  walk_at "pd"
  rfl)]
 walk_at "pd"
theorem ZqY{b l:List Int}(h:Jb b l):Zom.fn [.lst (b.map PV.int),.lst (l.map PV.int)]=.ok (.lst ((ZdH (Zg b.length l) b).map (Zii (Zg b.length l)))):=Pm.fn_eq Zom (b,l) h fun(a:List Int×List Int) e=>by simp only[Zom] at e ⊢;walk_at "in"
structure Bar(n:Nat)(l:List Int):Prop where
 al:∀p∈l,0<=p/\p<n
 up:l.Pairwise (·<·)
 ne:l≠[]
 nn:l.length≠n
theorem Bar.barB{n:Nat}{l:List Int}(h:Bar n l):Zlz n l:=by
 refine⟨h.al, ?_,fun z=>h.ne (List.length_eq_zero_iff.mp z),h.nn⟩
 unfold riB
 refine ZrR.mpr fun i hi=>decide_eq_true ?_
 have hi:=ZrB.mp hi
 have:=Zsh.mp h.up i (i+1) (by omega) (by omega) (by omega)
 rw[Zrf,Zrf,Zri (show i<l.length by omega),Zri (show i+1<l.length by omega)]
 exact this
theorem ZaQ{n:Nat}{s:Int}{b l:List Int}(h2:2<=n)(h24:n<=24)(hs:s<=10^60)(hB:Bs n s b)(hl:Bar n l)(hc:cbN n s<=1000)(hll:l.length<=1000):Jb b l:=by
 obtain⟨e1,e2,e3⟩:=hB
 exact⟨⟨by omega,by omega,e2,by omega⟩,by rw[e1];exact hl.barB,by rw[e1,e3];exact hc,hll⟩
theorem ZkO(N:List Int):(dwI N).Pairwise (·<·)/\(∀p∈dwI N,0<=p/\p<(dwP N).toNat)/\(dwI N).length<=(dwP N).toNat:=by
 unfold dwI
 refine⟨?_,fun p hp=>?_, ?_⟩
 ·rw[Zsb]
  exact(List.pairwise_lt_range.filter _).imp fun h=>by omega
 ·obtain⟨k,hk,rfl⟩:=Zrz.mp hp
  have:=ZrB.mp (ZrS.mp hk).1
  omega
 ·rw[Zrj]
  exact Zr7 (Zsj _ _) (by simp)
theorem Zfj(N:List Int):2<=dwP N/\dwP N<=4:=by
 have r0:=Zr5 (nAt N 0) (show (3:Int)≠0 by omega)
 have r1:=Zry (nAt N 0) (show (0:Int)<3 by omega)
 unfold dwP;omega
theorem ZkN(N:List Int):Bar (dwP N).toNat (dwL N)/\(dwL N).length<=4:=by
 obtain⟨i1,i2,i3⟩:=ZkO N
 have hb:=Zfj N
 have y0:=Zr5 (nAt N 3) (show dwP N≠0 by omega)
 have y1:=Zry (nAt N 3) (show (0:Int)<dwP N by omega)
 have hJ:(∀p∈dwJ N,0<=p/\p<(dwP N).toNat)/\(dwJ N).Pairwise (·<·)/\dwJ N≠[]/\(dwJ N).length<=(dwP N).toNat:=by
  unfold dwJ
  by_cases c:dwI N=[]
  ·rw[if_pos c]
   have z0:=Zr5 (nAt N 2) (show dwP N≠0 by omega)
   have z1:=Zry (nAt N 2) (show (0:Int)<dwP N by omega)
   exact⟨fun p hp=>by rw[ZrD.mp hp];omega,ZsS _ _,by simp,by simp;omega⟩
  ·rw[if_neg c]
   exact⟨i2,i1,c,i3⟩
 obtain⟨j1,j2,j3,j4⟩:=hJ
 unfold dwL
 generalize dwJ N=J at j1 j2 j3 j4
 by_cases c:(J.length:Int)=dwP N
 ·rw[if_pos c]
  have hl:(J.eraseIdx (nAt N 3%dwP N).toNat).length=(dwP N).toNat-1:=by
   rw[List.length_eraseIdx,if_pos (by omega)];omega
  exact⟨⟨fun p hp=>j1 p (List.mem_of_mem_eraseIdx hp),j2.sublist (List.eraseIdx_sublist _ _),fun z=>by rw[z] at hl;simp at hl;omega,by omega⟩,by omega⟩
 ·rw[if_neg c]
  exact⟨⟨j1,j2,j3,by omega⟩,by omega⟩
noncomputable def ZmB:Bool:=(List.range 5).all fun(p:Nat)=>(List.range 9).all fun(s:Nat)=>decide (cbN p s<=399)
theorem ZkI:ZmB=true:=by decide +kernel
theorem ZkH{n:Nat}{s:Int}(h:n<=4)(h0:0<=s)(h1:s<=8):cbN n s<=399:=by
 have h:=ZrR.mp (ZrR.mp ZkI n (ZrB.mpr (by omega))) s.toNat (ZrB.mpr (by omega))
 have:=of_decide_eq_true h
 rwa [ZrA h0] at this
theorem ZkP(N:List Int):Bs (dwP N).toNat (nAt N 1%8) (dwB N):=by
 have q0:=Zr5 (nAt N 1) (show (8:Int)≠0 by omega)
 have hb:=Zfj N
 have B:=Zkz (n:=(dwP N).toNat) (L:=(List.range (nAt N 1%8).toNat).map fun(k:Nat)=>nAt N (8+k)/5%dwP N) fun a ha=>by
  obtain⟨k,_,rfl⟩:=Zrz.mp ha
  have:=Zr5 (nAt N (8+k)/5) (show dwP N≠0 by omega)
  have:=Zry (nAt N (8+k)/5) (show (0:Int)<dwP N by omega)
  omega
 rw[Zrj,ZsX,ZrA q0] at B
 exact B
theorem ZiZ(N:List Int):Jb (dwB N) (dwL N)/\(dwB N).sum<=7/\(dwB N).length<=4/\(enF (dwB N).length (dwL N) (dwB N)).length<=399:=by
 have q0:=Zr5 (nAt N 1) (show (8:Int)≠0 by omega)
 have q1:=Zry (nAt N 1) (show (0:Int)<8 by omega)
 have hb:=Zfj N
 have B:=ZkP N
 obtain⟨L,hL⟩:=ZkN N
 have hc:=ZkH (n:=(dwP N).toNat) (s:=nAt N 1%8) (by omega) q0 (by omega)
 have hP:=ZaQ (by omega) (by omega) (by omega) B L (by omega) (by omega)
 obtain⟨b1,b2,b3⟩:=B
 refine⟨hP,by omega,by omega, ?_⟩
 obtain⟨p1,p2,hs,F⟩:=J4 hP
 have:=ZhW F.f.n1 (Qv _ _ _) fun x hx=>(F.mem.mp hx).bs F.f.hP F.f.hb
 rw[b1,b3] at this
 rw[b1]
 omega
theorem ZgS{e:Int}(h0:0<=e)(h1:e<=8):Jb [0,e] [1]/\wtB (Zg ([0,e]:List Int).length [1]) [0,e]=0:=by
 have hc:=ZkH (n:=2) (s:=e) (by omega) h0 h1
 have hP:Jb [0,e] [1]:=ZaQ (n:=2) (s:=e) (by omega) (by omega) (by omega) ⟨rfl,by simp;omega,by simp⟩ ⟨by simp,by simp,by simp,by simp⟩ (by omega) (by simp)
 refine⟨hP, ?_⟩
 obtain⟨_,_,_,F⟩:=J4 hP
 rw[F.wt]
 rfl
theorem ZcS{g:Bool->Bool}{a b:Bool}:ZaA g (.bl a) (.bl b)=.ok (.bl (g (a==b))):=by
 unfold ZaA
 rw[ZhE,ZhE]
 cases a<;>cases b<;>rfl
theorem Zkp{g:Bool->Bool}:ZaA g (.str "second") (.str "second")=.ok (.bl (g true)):=ZbN (by rw[PyData.canLay0];decide +kernel) (by rw[PyData.canLay0];decide +kernel)
theorem Zkq{g:Bool->Bool}:ZaA g (.str "first") (.str "second")=.ok (.bl (g false)):=ZbN (by rw[PyData.canLay0];decide +kernel) (by rw[PyData.canLay0];decide +kernel)
theorem Ze9{x:Str}(h:x = "first"\/x = "second"):ZhB (fun x=>!x) (PV.str x) (PV.lst [PV.str "first",PV.str "second"])=.ok (.bl false):=by
 have h1:PyData.canLay0 (.str "first")=true:=by rw[PyData.canLay0];decide +kernel
 have h2:PyData.canLay0 (.str "second")=true:=by rw[PyData.canLay0];decide +kernel
 have o1:=(Zft h1).okE
 have o2:=(Zft h2).okE
 have hx:okE (.str x)=true:=by rcases h with rfl|rfl<;>assumption
 have ha:(okE (.str x)&&([PV.str "first",PV.str "second"]:List PV).all okE)=true:=by simp[o1,o2,hx]
 simp only[ZhB]
 rw[if_pos ha]
 simp only[Zsz,List.any_nil,PV.dat,PyData.eqv,Bool.or_false]
 rcases h with rfl|rfl<;>simp
noncomputable def Zqc:Pm:=⟨List Int,fun ns=>[.lst (ns.map PV.int)],fun ns=>ns.length<=63,fun _=>.ok (.bl true)⟩
theorem Zrc(T:Txt K mg){f:Addr}{fd:FuncData}(F:Fun K "law" "law" ZqV f fd):JF P w K mg base CX0 10 f fd ["script"] (spF K 1 .P W0 Zqc.fn):=by
 have ZpK:=JB (P:=P) (w:=w) (base:=base) T.ZpD Zp5 (fun F=>Zpv T F)
 have Zqy:=JB (P:=P) (w:=w) (base:=base) T.Zql Zqa (fun F=>ZpT T F)
 have Zpd:=JB (P:=P) (w:=w) (base:=base) T.ZpL Zp1 (fun F=>Zpr T F)
 have ZoS:=JB (P:=P) (w:=w) (base:=base) T.ZpB Zp3 (fun F=>Zpt T F)
 have Zqb:=JB (P:=P) (w:=w) (base:=base) T.ZpU ZpH (fun F=>Zp9 T F)
 have Zra:=JB (P:=P) (w:=w) (base:=base) T.ZqW ZqS (fun F=>ZqP T F)
 refine F.okP ZoM rfl rfl (fun cdv A outer s H E hr=>?_)
 have hu:=hr.units
 refine⟨_,_,⟨[],[],[],.P⟩,rfl,(Ze (Z1 (i:=1) ZoM.nd rfl (by walk_at "lo") (Zl ZpK (hr.mono (by decide)) rfl (Zb (pv 0) (Zb Zm Zf))))
   (Ze (ZcL (Zl Zqy (hr.mono (by decide)) rfl (Zb (pv 1) Zf)) (ZhA rfl (UI (Ji (i:=2) ZoM.nd rfl (by walk_at "lo")) (UI (Ji (i:=3) ZoM.nd rfl (by walk_at "lo")) Zeu))))
   (Ze (Z1 (i:=4) ZoM.nd rfl (by walk_at "lo") (Zl Zpd (hr.mono (by decide)) rfl (Zb (Zz (Z9 (K:=K)) rfl T.z_list ZW (Zb (pv 2) Zf)) (Zb (Zz (Z9 (K:=K)) rfl T.z_list ZW (Zb (pv 3) Zf)) Zf))))
   (Ze (JH (PW.pt (ZbG (Qb (Qa (Zw (Vx (K:=K) (n := "tuple") rfl) rfl T.z_isinstance Js (Zb (pv 4) (Zb (Qc (v:=.ty "tuple") rfl T.z_tuple Zhs rfl) Zf))))) (ZbG (Z6 (ZaV (K:=K) hu) (Zw (Z8 (K:=K)) rfl T.z_len Jr (Zb (pv 4) Zf)) Zm (ZB _)) (QG (Z6 (Vr (K:=K) hu) (ZT (Zx (K:=K)) (pv 4) Zm (fun _ _=>rfl)) (VF (Zb QH (Zb QH Zf))) rfl))))) (Zi (Z5 ZaR)) ZM)
   (Ze (Z1 (i:=5) ZoM.nd rfl (by walk_at "lo") (Zz Zf5 rfl T.z_int ZhV (Zb (Jx (Jv (K:=K) hu) (ZT (Zx (K:=K)) (pv 4) Zm (fun _ _=>rfl)) QH (ZB _)) Zf)))
   (Ze (JH (Qb (Qa (Zl Zqb (hr.mono (by decide)) rfl (Zb (pv 2) (Zb (pv 3) (Zb (pv 5) (Zb (pv 1) Zf))))))) (Zi (Z5 ZaR)) ZM)
   (Ze (Va (i:=6) ZoM.nd rfl (Ja (K:=K) (Zl Zra (hr.mono (by decide)) rfl (Zb (Zz (Z9 (K:=K)) rfl T.z_list ZW (Zb (pv 2) Zf)) (Zb (Zz (Z9 (K:=K)) rfl T.z_list ZW (Zb (pv 3) Zf)) Zf)))) (Vb ZoM.nd) (fun _ _ _ _=>(Qd (fun _ _ h=>h) (Z6 (Jv (K:=K) hu) (ZT (Zx (K:=K)) (pv 9) Zm (fun _ _=>rfl)) (pv 2) (ZB _)))) (fun _ _ _ _=>(ZT (Zx (K:=K)) (pv 9) Zm (fun _ _=>rfl))) hv1 rfl)
   (Ze (JH (PW.pt (ZbG (Z6 (ZaV (K:=K) hu) (Zw (Z8 (K:=K)) rfl T.z_len Jr (Zb (pv 6) Zf)) Zm (ZB _)) (QG (Z6 (ZaV (K:=K) hu) (Jx (Jv (K:=K) hu) (ZT (Zx (K:=K)) (pv 6) Zm (fun _ _=>rfl)) Zm (ZB _)) (Jx (Jv (K:=K) hu) (pv 5) Zm (ZB _)) (ZB _))))) (Zi (Z5 ZaR)) ZM)
   (Ze (JH (Z6 ZiG (Zl ZoS (hr.mono (by decide)) rfl (Zb (Zz (Z9 (K:=K)) rfl T.z_list ZW (Zb (pv 2) Zf)) (Zb (Zz (Z9 (K:=K)) rfl T.z_list ZW (Zb (pv 3) Zf)) (Zb (Zz (Z9 (K:=K)) rfl T.z_list ZW (Zb (pv 2) Zf)) (Zb (Zz (Z9 (K:=K)) rfl T.z_list ZW (Zb (pv 3) Zf)) Zf))))) QJ (ZB _)) (Zi (Z5 ZaR)) ZM)
   (Ze (Z1 (i:=7) ZoM.nd rfl (by walk_at "lo") (VF (Zb Zm (Zb (ZL Jd (ZT (Zx (K:=K)) (pv 1) Zm (fun _ _=>rfl)) Zm) Zf))))
   (Ze (Z1 (i:=8) ZoM.nd rfl (by walk_at "lo") (Zl ZoS (hr.mono (by decide)) rfl (Zb (Zz (Z9 (K:=K)) rfl T.z_list ZW (Zb (pv 2) Zf)) (Zb (Zz (Z9 (K:=K)) rfl T.z_list ZW (Zb (pv 3) Zf)) (Zb (pv 7) (Zb (VF (Zb Zm Zf)) Zf))))))
   (Zi (Z5 (ZaS (Jx (Jv (K:=K) hu) (Jx ZhC (pv 8) QJ (ZB _)) (Jx (Jv (K:=K) hu) (pv 5) Zm (ZB _)) (ZB _)) (QI (ZlB (Jx ZhC (pv 8) QJ (ZB _)) (QI (Jx (Jv (K:=K) hu) (ZT (Zx (K:=K)) (pv 8) Zm (fun _ _=>rfl)) Zm (ZB _))))))))))))))))))),
   (Zn (Γm:=[.S,.O,.U,.U,.U,.U,.U,.U,.U]) (ZG (i:=1) (Q3 (Zc (Zc Zs)) (Za (Zh (i:=0) rfl) (Za (DE.toA Zj) Zd))) (by decide))
   (Zn (Γm:=[.S,.O,.O,.O,.U,.U,.U,.U,.U]) (Zjb (Q3 (Zc Zs) (Za (Zr (i:=1) (m:=.O) rfl (by decide)) Zd)) (Zjf (n:=2) (Zbn (ZkX (i:=2) (by decide)) (Zbn (ZkX (i:=3) (by decide)) ZgY))))
   (Zn (Γm:=[.S,.O,.O,.O,.O,.U,.U,.U,.U]) (ZG (i:=4) (Q3 (Zc (Zc Zs)) (Za (DE.toA (ZQ (Za (Zr (i:=2) (m:=.O) rfl (by decide)) Zd))) (Za (DE.toA (ZQ (Za (Zr (i:=3) (m:=.O) rfl (by decide)) Zd))) Zd))) (by decide))
   (Zn (Γm:=[.S,.O,.O,.O,.O,.U,.U,.U,.U]) (JI (Zce (Qw (ZhQ (DE.toA (Zbo (Zr (i:=4) (m:=.O) rfl (by decide)))))) (Zce (Z4 (DE.toA (ZY (g:=(!·)) (DE.toA (Jo (Za (Zr (i:=4) (m:=.O) rfl (by decide)) Zd))) (DE.toA Zj)))) (Z4 (DE.toA (QX (g:=(!·)) (Z7 (te:=tC .non) (Zr (i:=4) (m:=.O) rfl (by decide)) (DE.toA Zj)) (DE.toA (Ve (ZJ (DE.PF QV) (ZJ (DE.PF QV) Jp)))))))))
   (ZC Zbp)
   ZN)
   (Zn (Γm:=[.S,.O,.O,.O,.O,.P,.U,.U,.U]) (ZS (i:=5) (ZgZ (Za (DE.toA (ZY (g:=id) (Z7 (te:=tC .non) (Zr (i:=4) (m:=.O) rfl (by decide)) (DE.toA Zj)) (DE.toA QV))) Zd)) (by decide))
   (Zn (Γm:=[.S,.O,.O,.O,.O,.P,.U,.U,.U]) (JI (Qw (ZhQ (DE.toA (Ur (Zc (Zc (Zc (Zc Zs)))) (Za (Zr (i:=2) (m:=.O) rfl (by decide)) (Za (Zr (i:=3) (m:=.O) rfl (by decide)) (Za (DE.toA (Zq (i:=5) rfl)) (Za (Zr (i:=1) (m:=.O) rfl (by decide)) Zd))))))))
   (ZC Zbp)
   ZN)
   (Zn (Γm:=[.S,.O,.O,.O,.O,.P,.O,.U,.U]) (Vd (i:=6) (J6 (k:=1) (DI.c (Jn (DE.FZ (Q3 (Zc (Zc Zs)) (Za (DE.toA (ZQ (Za (Zr (i:=2) (m:=.O) rfl (by decide)) Zd))) (Za (DE.toA (ZQ (Za (Zr (i:=3) (m:=.O) rfl (by decide)) Zd))) Zd)))))) ZhS (Z4 (DE.toA (ZY (g:=id) (Z7 (te:=tC .non) (Zh (i:=9) rfl) (DE.toA Zj)) (Zr (i:=2) (m:=.O) rfl (by decide))))) (DE.PF (DE.grd (Z7 (te:=tC .non) (Zh (i:=9) rfl) (DE.toA Zj))))) (by decide))
   (Zn (Γm:=[.S,.O,.O,.O,.O,.P,.O,.U,.U]) (JI (Zce (Z4 (DE.toA (ZY (g:=(!·)) (DE.toA (Jo (Za (Zr (i:=6) (m:=.O) rfl (by decide)) Zd))) (DE.toA Zj)))) (Z4 (DE.toA (ZY (g:=(!·)) (DE.toA (ZY (g:=id) (Z7 (te:=tC .non) (Zr (i:=6) (m:=.O) rfl (by decide)) (DE.toA Zj)) (DE.toA Zj))) (DE.toA (ZY (g:=id) (DE.toA (Zq (i:=5) rfl)) (DE.toA Zj)))))))
   (ZC Zbp)
   ZN)
   (Zn (Γm:=[.S,.O,.O,.O,.O,.P,.O,.U,.U]) (JI (Z4 (DE.toA (Zjh (DE.toA (Ur (Zc (Zc (Zc (Zc Zs)))) (Za (DE.toA (ZQ (Za (Zr (i:=2) (m:=.O) rfl (by decide)) Zd))) (Za (DE.toA (ZQ (Za (Zr (i:=3) (m:=.O) rfl (by decide)) Zd))) (Za (DE.toA (ZQ (Za (Zr (i:=2) (m:=.O) rfl (by decide)) Zd))) (Za (DE.toA (ZQ (Za (Zr (i:=3) (m:=.O) rfl (by decide)) Zd))) Zd)))))))))
   (ZC Zbp)
   ZN)
   (Zn (Γm:=[.S,.O,.O,.O,.O,.P,.O,.O,.U]) (ZG (i:=7) (Ve (ZJ (DE.PF Zj) (ZJ (DE.PF (Je (Z7 (te:=tC .non) (Zr (i:=1) (m:=.O) rfl (by decide)) (DE.toA Zj)) (DE.toA Zj))) Jp))) (by decide))
   (Zn (Γm:=[.S,.O,.O,.O,.O,.P,.O,.O,.P]) (ZS (i:=8) (Ur (Zc (Zc (Zc (Zc Zs)))) (Za (DE.toA (ZQ (Za (Zr (i:=2) (m:=.O) rfl (by decide)) Zd))) (Za (DE.toA (ZQ (Za (Zr (i:=3) (m:=.O) rfl (by decide)) Zd))) (Za (Zr (i:=7) (m:=.O) rfl (by decide)) (Za (DE.toA (Ve (ZJ (DE.PF Zj) Jp))) Zd))))) (by decide))
   (ZC (Zbq (DE.toA (ZY (g:=id) (DE.toA (ZhR (DE.toA (Zq (i:=8) rfl)))) (DE.toA (ZY (g:=id) (DE.toA (Zq (i:=5) rfl)) (DE.toA Zj))))) (ZlS (DE.toA (ZhR (DE.toA (Zq (i:=8) rfl)))) (ZY (g:=id) (Z7 (te:=tC .non) (DE.toA (Zq (i:=8) rfl)) (DE.toA Zj)) (DE.toA Zj)))))))))))))))), ?_⟩
 refine Pm.ref Zqc (g:=fun xs=>_) ?_
 intro (ns:List Int) (hn:ns.length<=63)
 simp only[Zqc]
 walk_at "pd"
 rw[ZpG ⟨by omega,by omega,by omega⟩]
 have hN:(Zd3 ns (63:Int).toNat).length=63:=ZaW ..
 generalize Zd3 ns (63:Int).toNat=N at hN
 walk_at "pd"
 rw[Zqp hN]
 obtain⟨hP,hs,hb,he⟩:=ZiZ N
 generalize dwB N=b at hP hs hb he
 generalize dwL N=l at hP he
 have hl:=hP.2.2.2
 obtain⟨p1,p2,hs',F⟩:=J4 hP
 walk_at "pd"
 rw[ZpM hP]
 unfold Zj9
 have hpl:=ZpV (b:=b) (l:=l) (N:=N) ⟨hP,by omega,he,hN⟩
 have hwo:=ZqY hP
 have hsd:=ZoQ (b:=b) (l:=l) (o:=b) (m:=l) ⟨hP,hP⟩
 have e0:=Zr5 (N.getD 4 0) (show (9:Int)≠0 by omega)
 have e1:=Zry (N.getD 4 0) (show (0:Int)<9 by omega)
 obtain⟨hE,wE⟩:=ZgS e0 (show N.getD 4 0%9<=8 by omega)
 have hse:=ZoQ (b:=b) (l:=l) (o:=[0,N.getD 4 0%9]) (m:=[1]) ⟨hP,hE⟩
 have hsame:ZbC b l b l=.non:=by unfold ZbC;rw[if_pos rfl]
 have hend:ZbC b l [0,N.getD 4 0%9] [1]=if wtB (Zg b.length l) b=0 then .non else .tup [.int 0,.int (stW (Zg b.length l) b 0).1]:=by
  unfold ZbC
  rw[wE]
  have:=ZdR (Zg b.length l) b
  by_cases c:wtB (Zg b.length l) b=0
  ·rw[if_pos c,if_pos c]
  ·rw[if_neg c,if_neg c,if_pos (by omega)]
 rw[hsame] at hsd
 rw[hend] at hse
 have hbm:b∈ZdH (Zg b.length l) b:=F.f.com.mpr .refl
 have hal:(ZdH (Zg b.length l) b).filter (fun x=>decide (x=b))=[b]:=by
  have nd:=Zjm (Zg b.length l) b
  generalize ZdH (Zg b.length l) b=C at hbm nd
  clear hpl hwo hsd hse
  induction C with
  |nil=>simp at hbm
  |cons z C ih =>
   obtain⟨n1,n2⟩:=Zse.mp nd
   by_cases e:z=b
   ·subst e
    rw[List.filter_cons_of_pos (by simp),List.filter_eq_nil_iff.mpr fun y hy=>by simpa using fun q:y=z=>n1 (by rw[<- q];exact hy)]
   ·rw[List.filter_cons_of_neg (by simpa using e)]
    exact ih ((Zrt.mp hbm).resolve_left fun q=>e q.symm) n2
 have hle:(ZdH (Zg b.length l) b).length<=1000:=by
  unfold ZdH
  rw[(ZH _).length_eq]
  exact F.f.le _
 by_cases c:wtB (Zg b.length l) b=0
 ·rw[if_pos c] at hpl hse ⊢
  walk_at "pd"
  rw[Ze9 (.inr rfl)]
  walk_at "pd"
  rw[Zkp]
  walk_at "pd"
  rw[show ∀t:Bool,Zkm [PV.bl t]=.ok (.int (if t=true then 1 else 0)) from fun t=>by cases t<;>rfl]
  walk_at "pd"
  rw[hpl]
  walk_at "pd"
  rw[hwo]
  walk_at "pd"
  rw[Zbl (q:=Zii (Zg b.length l)) (p:=fun x=>decide (x=b)) (g:=fun x=>.int (wtB (Zg b.length l) x)) (fun x hx=>by
   rw[show Zii (Zg b.length l) x=.tup [.lst (x.map PV.int),.int (wtB (Zg b.length l) x)] from rfl]
   walk_at "pd"
   by_cases e:x=b
   ·rw[decide_eq_true e]
    walk_at "pd"
   ·rw[decide_eq_false e]
    walk_at "pd"),hal]
  walk_at "pd"
  rw[show Ze6 [PV.lst [PV.int (wtB (Zg b.length l) b)]]=.ok (.int 1) from rfl]
  walk_at "pd"
  rw[show ∀z:PV,pIx (PV.lst [z]) (.int 0)=.ok z from fun z=>by simp[pIx,atI,ixN]]
  walk_at "pd"
  rw[decide_eq_true c,ZcS]
  simp only[beq_self_eq_true,Bool.not_true]
  walk_at "pd"
  rw[hsd]
  walk_at "pd"
  rw[show ZmN.fn [.lst (b.map PV.int),.lst (l.map PV.int),.lst [.int 0,.int (N.getD 4 0%9)],.lst [.int 1]]=_ from hse]
  walk_at "pd"
  rw[ZcS]
  walk_at "pd"
 ·rw[if_neg c] at hpl hse ⊢
  walk_at "pd"
  rw[Ze9 (.inl rfl)]
  walk_at "pd"
  rw[Zkq]
  walk_at "pd"
  rw[show ∀t:Bool,Zkm [PV.bl t]=.ok (.int (if t=true then 1 else 0)) from fun t=>by cases t<;>rfl]
  walk_at "pd"
  rw[hpl]
  walk_at "pd"
  rw[hwo]
  walk_at "pd"
  rw[Zbl (q:=Zii (Zg b.length l)) (p:=fun x=>decide (x=b)) (g:=fun x=>.int (wtB (Zg b.length l) x)) (fun x hx=>by
   rw[show Zii (Zg b.length l) x=.tup [.lst (x.map PV.int),.int (wtB (Zg b.length l) x)] from rfl]
   walk_at "pd"
   by_cases e:x=b
   ·rw[decide_eq_true e]
    walk_at "pd"
   ·rw[decide_eq_false e]
    walk_at "pd"),hal]
  walk_at "pd"
  rw[show Ze6 [PV.lst [PV.int (wtB (Zg b.length l) b)]]=.ok (.int 1) from rfl]
  walk_at "pd"
  rw[show ∀z:PV,pIx (PV.lst [z]) (.int 0)=.ok z from fun z=>by simp[pIx,atI,ixN]]
  walk_at "pd"
  rw[decide_eq_false c,ZcS]
  simp only[beq_self_eq_true,Bool.not_true]
  walk_at "pd"
  rw[hsd]
  walk_at "pd"
  rw[show ZmN.fn [.lst (b.map PV.int),.lst (l.map PV.int),.lst [.int 0,.int (N.getD 4 0%9)],.lst [.int 1]]=_ from hse]
  walk_at "pd"
  rw[show ∀xs,Zlp id (PV.tup xs)=.ok (.bl false) from fun _=>rfl]
  walk_at "pd"
  rw[ZcS]
  walk_at "pd"
noncomputable def Zef(K:W.Frag):Sp:=spF K 1 .P W0 Zqc.fn
theorem Zk0{l:PySem.W.OpenLaw}(T:Txt K mg){fa:Addr}(hmg:mg "law"=some (.ref fa)):∃fd:FuncData,(∀(s:Shared) (u:Value),BindsTo s fd ⟨[u],[]⟩ [("script",u)]) /\
  ∀base:Heap,K.In base->base.Ns mainGlobals mg->JF l.prog w K mg base CX0 10 fa fd ["script"] (Zef K):=by
 obtain⟨f,fd,F,hm⟩:=T.Zre
 rw[hmg] at hm
 cases hm
 refine⟨fd,fun s u=>?_,fun base _ _=>Zrc T F⟩
 obtain⟨oc,od,kV,doc,pm,an,cdv,ct,osl,rfl,lk,hcd⟩:=F.ex
 exact .of_eq (Zrd kV doc pm an cdv ct [u] rfl)
theorem ZeS{H:Hp}{a:Addr}{ns:List Int}(hl:ns.length<=63)(hS:SqL K H a (ns.map V.int)):Zef K [.ref a] H (fun v _=>v=.bl true) fun _ _ _=>False:=
 Zd6 (Pm.fn_eq Zqc ns hl fun _ _=>rfl) hS
end
theorem ZF{K:W.Frag}{h:Heap}{mg:Str->Option Value}{x:Str}{st:Stmt}{f:Addr}{od an:Option Addr}{sl:Array (Option Value)}{oc kV dc pm cd ct:Value}(X:K.In h)(G:h.Ns mainGlobals mg)(a:PySem.W.nsIn K mainGlobals x=some (some (.ref f)))(l:K.lookup f=some ⟨oc,od,.func (PySem.W.fnOf x x (U5 st) (JQ st) (Zk st) .none kV dc pm an cd ct),sl⟩)(c:PySem.W.codeIn K cd x=true)(k:PySem.W.keepIn K (.ref f)=true):Dfn K mg x st:=⟨_,_,ZkJ (st:=st) l c k,PySem.W.mg_of X G a⟩
theorem Zfy{K:W.Frag}{h:Heap}{mg:Str->Option Value}{x:Str}{v:Tok->Value}{t:Tok}(X:K.In h)(G:h.Ns mainGlobals mg)(a:PySem.W.nsIn K mainGlobals x=some (some (v t))):∃t,mg x=some (v t):=⟨t,PySem.W.mg_of X G a⟩
end My
namespace PySem.W.Fast
noncomputable def tw9143912204384442368:=()
noncomputable def tw1286923123249498240:=()
noncomputable def tw198669309971214496:=()
noncomputable def tw9846105014426546368:=()
noncomputable def tw2349150985539880224:=()
noncomputable def tw14054497439602876736:=()
noncomputable def tw2126563057092572000:=()
noncomputable def tw11766745072442238816:=()
noncomputable def tw3215164650506465281:=()
noncomputable def tw10809043897470965825:=()
noncomputable def tw13465766481853209697:=()
noncomputable def tw3693696713815649377:=()
noncomputable def tw14824824336379499841:=()
noncomputable def tw17180058927507175809:=()
noncomputable def tw8359078590395097697:=()
noncomputable def tw17495493986265533409:=()
noncomputable def tw11051999638196304898:=()
noncomputable def tw4214173538387464354:=()
noncomputable def tw15258019527329080610:=()
noncomputable def tw3420408547689564706:=()
noncomputable def tw16039414185070631554:=()
noncomputable def tw5818557221174033122:=()
noncomputable def tw14520093126404544482:=()
noncomputable def tw13540472617247862979:=()
noncomputable def tw14441703346933371203:=()
noncomputable def tw2384894497135977123:=()
noncomputable def tw18301558121767098179:=()
noncomputable def tw10163443514248934371:=()
noncomputable def tw14686349864825373700:=()
noncomputable def tw10902594577100841316:=()
noncomputable def tw8685342000555799940:=()
noncomputable def tw16534896142002903428:=()
noncomputable def tw13947732231077245604:=()
noncomputable def tw13143210556474614724:=()
noncomputable def tw460084520691228741:=()
noncomputable def tw4107079252249594149:=()
noncomputable def tw6684497719829554501:=()
noncomputable def tw820521640486721957:=()
noncomputable def tw14734095588318589413:=()
noncomputable def tw7562677291046877893:=()
noncomputable def tw17846158706116548389:=()
noncomputable def tw7960906726692558757:=()
noncomputable def tw6536599644589474886:=()
noncomputable def tw144410778836210854:=()
noncomputable def tw5909557308823034342:=()
noncomputable def tw2855442875912021606:=()
noncomputable def tw6415511855228436198:=()
noncomputable def tw11310059438436962343:=()
noncomputable def tw11174859652564757831:=()
noncomputable def tw445249986419464551:=()
noncomputable def tw12642817142260361607:=()
noncomputable def tw15855783744013720039:=()
noncomputable def tw4661800560398831079:=()
noncomputable def tw5847574620061507175:=()
noncomputable def tw2611553174821502599:=()
noncomputable def tw12406535429126259367:=()
noncomputable def tw14366979853090298695:=()
noncomputable def tw5394032755975040871:=()
noncomputable def tw16696032124567286888:=()
noncomputable def tw15892703798360004776:=()
noncomputable def tw17650353891960117480:=()
noncomputable def tw890199494072749384:=()
noncomputable def tw1595958525001166248:=()
noncomputable def tw11504782315051876904:=()
noncomputable def tw5663023883811502632:=()
noncomputable def tw17145120076920020616:=()
noncomputable def tw16602065134205532904:=()
noncomputable def tw4932984812949245704:=()
noncomputable def tw11158908769967603528:=()
noncomputable def tw2982796071497194408:=()
noncomputable def tw4951115706763326408:=()
noncomputable def tw2161329270546755593:=()
noncomputable def tw15512205758491935753:=()
noncomputable def tw1028009790378042505:=()
noncomputable def tw17248057862830473513:=()
noncomputable def tw1493669995576393001:=()
noncomputable def tw17282175193256213961:=()
noncomputable def tw3422600217444368297:=()
noncomputable def tw12795497672723375274:=()
noncomputable def tw11737368934566600938:=()
noncomputable def tw15258171696224675146:=()
noncomputable def tw5718853168188934538:=()
noncomputable def tw17032128054497761706:=()
noncomputable def tw1876314955811493354:=()
noncomputable def tw7404893625807824394:=()
noncomputable def tw376200619332313706:=()
noncomputable def tw3341592708298016426:=()
noncomputable def tw15206507613632420939:=()
noncomputable def tw8231355419307151915:=()
noncomputable def tw9474250439455890155:=()
noncomputable def tw16688988388761439404:=()
noncomputable def tw8740689135770140012:=()
noncomputable def tw3098813024097638860:=()
noncomputable def tw11395721537482169100:=()
noncomputable def tw17665259909327720236:=()
noncomputable def tw1841842693464825676:=()
noncomputable def tw9029794210767419405:=()
noncomputable def tw14117144472356276269:=()
noncomputable def tw4967594389365035149:=()
noncomputable def tw17516729046161472717:=()
noncomputable def tw9363237470474726669:=()
noncomputable def tw16861700736401584429:=()
noncomputable def tw5592615726983379405:=()
noncomputable def tw10033986671917724173:=()
noncomputable def tw11187652594562729613:=()
noncomputable def tw2794713553043545773:=()
noncomputable def tw13545784845139612557:=()
noncomputable def tw9238723148741166126:=()
noncomputable def tw11248680896285644078:=()
noncomputable def tw14763854548260883790:=()
noncomputable def tw7053309169119072910:=()
noncomputable def tw2396976986698639246:=()
noncomputable def tw10755749024668540943:=()
noncomputable def tw8646319088097090639:=()
noncomputable def tw1321346718052944975:=()
noncomputable def tw11519369137457176975:=()
noncomputable def tw688410863590341007:=()
noncomputable def tw12963867666103000559:=()
noncomputable def tw14242306479570400975:=()
noncomputable def tw7599347573241671952:=()
noncomputable def tw15659650512693123376:=()
noncomputable def tw13909809535812156752:=()
noncomputable def tw4706354015558738416:=()
noncomputable def tw2282527218761829264:=()
noncomputable def tw9087823377452385361:=()
noncomputable def tw2663971203468977393:=()
noncomputable def tw16462928263673663185:=()
noncomputable def tw2233370451813022513:=()
noncomputable def tw15044363610831490865:=()
noncomputable def tw5923805452709879826:=()
noncomputable def tw15613632219144716338:=()
noncomputable def tw6434932075126325362:=()
noncomputable def tw757153295206300818:=()
noncomputable def tw9468595284206038258:=()
noncomputable def tw3350620965281032498:=()
noncomputable def tw12529122557361227090:=()
noncomputable def tw4940628326692854130:=()
noncomputable def tw11088642684966143378:=()
noncomputable def tw13048884811877628658:=()
noncomputable def tw451984714129620786:=()
noncomputable def tw16644748759755600882:=()
noncomputable def tw1287354127165703443:=()
noncomputable def tw14821076496499026483:=()
noncomputable def tw12715112540674320051:=()
noncomputable def tw11305648025564262099:=()
noncomputable def tw9699310181205918419:=()
noncomputable def tw6980166309691380627:=()
noncomputable def tw7647055865498502035:=()
noncomputable def tw3673605374677464148:=()
noncomputable def tw9399883767171345652:=()
noncomputable def tw15340743041211928052:=()
noncomputable def tw2782438863905605492:=()
noncomputable def tw2307542646684227637:=()
noncomputable def tw1716492945277320341:=()
noncomputable def tw14908888122902016181:=()
noncomputable def tw17662973013673772501:=()
noncomputable def tw3823636574216226325:=()
noncomputable def tw18267225636612207509:=()
noncomputable def tw979084565599057974:=()
noncomputable def tw18275192833343971478:=()
noncomputable def tw11287175963122059478:=()
noncomputable def tw2056476464101358102:=()
noncomputable def tw1394588835416070774:=()
noncomputable def tw9257895983175435958:=()
noncomputable def tw4217634591597783766:=()
noncomputable def tw224316300648244022:=()
noncomputable def tw1235800365434914646:=()
noncomputable def tw1931201317591687030:=()
noncomputable def tw8046133223218787511:=()
noncomputable def tw12358938276620055959:=()
noncomputable def tw14116844370975512055:=()
noncomputable def tw1475309312459827959:=()
noncomputable def tw79270195513135640:=()
noncomputable def tw14928503090260815448:=()
noncomputable def tw373867788075803256:=()
noncomputable def tw4413724800048471992:=()
noncomputable def tw4284073060324888633:=()
noncomputable def tw13910288372056607833:=()
noncomputable def tw10367073978478709881:=()
noncomputable def tw3514461033927146649:=()
noncomputable def tw535634541430669465:=()
noncomputable def tw5533048000999836857:=()
noncomputable def tw5630216313956905177:=()
noncomputable def tw8655264338490105145:=()
noncomputable def tw4651948654362316089:=()
noncomputable def tw16498891636274309561:=()
noncomputable def tw8306964498044246617:=()
noncomputable def tw9864015854769025753:=()
noncomputable def tw6107254099504835577:=()
noncomputable def tw17798392587437628474:=()
noncomputable def tw4311453317992427610:=()
noncomputable def tw5971842660675211450:=()
noncomputable def tw2043941377723205082:=()
noncomputable def tw16859304734512833114:=()
noncomputable def tw13527947849640508026:=()
noncomputable def tw3497113172276735610:=()
noncomputable def tw8830835111565121274:=()
noncomputable def tw17564895407749245786:=()
noncomputable def tw3402019857934060506:=()
noncomputable def tw13554270639479476186:=()
noncomputable def tw15369970303608366171:=()
noncomputable def tw1571344498218249339:=()
noncomputable def tw3365879454915772539:=()
noncomputable def tw14142487496057997563:=()
noncomputable def tw6154236665643917563:=()
noncomputable def tw2424779363918352667:=()
noncomputable def tw6432608228459070811:=()
noncomputable def tw5232458273175305563:=()
noncomputable def tw2634960896337209691:=()
noncomputable def tw16143835425137015195:=()
noncomputable def tw2485459809627572667:=()
noncomputable def tw6097020970684612059:=()
noncomputable def tw12237294002340791963:=()
noncomputable def tw3454017171576120987:=()
noncomputable def tw11827525127190901499:=()
noncomputable def tw13055557793153298267:=()
noncomputable def tw538167755777989627:=()
noncomputable def tw9386163383826390364:=()
noncomputable def tw9272287671600430460:=()
noncomputable def tw3470671287897359964:=()
noncomputable def tw18102449783390694140:=()
noncomputable def tw16643739479121604637:=()
noncomputable def tw2761675898363810845:=()
noncomputable def tw12672698377801734429:=()
noncomputable def tw6689828880546052509:=()
noncomputable def tw674816326000667613:=()
noncomputable def tw15889978514219268093:=()
noncomputable def tw9950859748331634782:=()
noncomputable def tw15129436516507508830:=()
noncomputable def tw15956589497796798654:=()
noncomputable def tw17403792079155011966:=()
noncomputable def tw5985744247431373406:=()
noncomputable def tw6553906020827340510:=()
noncomputable def tw8362053479062318078:=()
noncomputable def tw615125645626374655:=()
noncomputable def tw8744989730512814655:=()
noncomputable def tw7817185267915699335:=()
noncomputable def tw5673423191491520426:=()
noncomputable def tw12663307579455847704:=()
noncomputable def tw9681232544057478618:=()
noncomputable def tw17323971927055583911:=()
noncomputable def tw11641472397515078730:=()
noncomputable def tw13152907911556787426:=()
noncomputable def tw5198605715920309091:=()
noncomputable def tw1734498072428734259:=()
noncomputable def tw2663286787224917325:=()
noncomputable def tw1832152426008093380:=()
noncomputable def tw16013717530052753139:=()
noncomputable def tw77918897368963274:=()
noncomputable def tw8217203855859927183:=()
noncomputable def tw803181061446488615:=()
noncomputable def tw17585599798625738725:=()
noncomputable def tw18051393053046966561:=()
noncomputable def tw5815355613414277250:=()
noncomputable def tw7067056374097502310:=()
noncomputable def tw9347306377379340011:=()
noncomputable def tw5971326244169729411:=()
noncomputable def tw9146677066904052431:=()
noncomputable def tw7762475854265936188:=()
noncomputable def tw18390849389760394027:=()
noncomputable def tw10056636383578313789:=()
noncomputable def tw2045208260051678221:=()
noncomputable def tw14457317407254186953:=()
noncomputable def tw14961685366053785850:=()
noncomputable def tw15575091913461007134:=()
noncomputable def tw2836898557862153812:=()
noncomputable def tw10492813761708266116:=()
noncomputable def tw6049144168092380947:=()
noncomputable def tw10488106453274928358:=()
end PySem.W.Fast
open PySem PySem.W PyProof.Rows
set_option maxRecDepth 100000 in
set_option maxHeartbeats 0 in
theorem PySem.Challenge.cw_sowring_k33_whole_the_last_sowing_holds : PySem.Challenge.rw_sowring_k33_whole_the_last_sowing.Holds := by
 w_on;o_law;k_head;(case hw=>w_witness2)
 k_fill
 refine L2.ZfM (l:=PySem.Challenge.rw_sowring_k33_whole_the_last_sowing) (n:=63) (k:=10) (x := "script") (CX:=L2.CX0) (sp:=My.Zef) rfl (by decide) rfl ⟨rfl,by decide,by decide⟩ (fun w h Y=>⟨PySem.W.km_in_of Y,L2.ZeW (by kernel_rfl) (PySem.W.km_tabs_of Y)⟩) ?F ?S ?C
 case F =>
  intro w mg fa h KX G hmg
  have T:My.Txt (L2.KOf KX) mg:=by
   dsimp only[L2.KOf]
   refine' ⟨My.ZF KX G ?a0 ?l0 ?c0 ?k0,My.ZF KX G ?a1 ?l1 ?c1 ?k1,My.ZF KX G ?a2 ?l2 ?c2 ?k2,My.ZF KX G ?a3 ?l3 ?c3 ?k3,My.ZF KX G ?a4 ?l4 ?c4 ?k4,My.ZF KX G ?a5 ?l5 ?c5 ?k5,My.ZF KX G ?a6 ?l6 ?c6 ?k6,My.ZF KX G ?a7 ?l7 ?c7 ?k7,My.ZF KX G ?a8 ?l8 ?c8 ?k8,My.ZF KX G ?a9 ?l9 ?c9 ?k9,My.ZF KX G ?a10 ?l10 ?c10 ?k10,My.ZF KX G ?a11 ?l11 ?c11 ?k11,My.ZF KX G ?a12 ?l12 ?c12 ?k12,My.ZF KX G ?a13 ?l13 ?c13 ?k13,My.ZF KX G ?a14 ?l14 ?c14 ?k14,My.ZF KX G ?a15 ?l15 ?c15 ?k15,My.ZF KX G ?a16 ?l16 ?c16 ?k16,My.ZF KX G ?a17 ?l17 ?c17 ?k17,My.ZF KX G ?a18 ?l18 ?c18 ?k18,My.ZF KX G ?a19 ?l19 ?c19 ?k19,My.ZF KX G ?a20 ?l20 ?c20 ?k20,My.ZF KX G ?a21 ?l21 ?c21 ?k21,My.ZF KX G ?a22 ?l22 ?c22 ?k22,My.ZF KX G ?a23 ?l23 ?c23 ?k23,My.ZF KX G ?a24 ?l24 ?c24 ?k24,My.ZF KX G ?a25 ?l25 ?c25 ?k25,My.ZF KX G ?a26 ?l26 ?c26 ?k26,My.ZF KX G ?a27 ?l27 ?c27 ?k27,My.ZF KX G ?a28 ?l28 ?c28 ?k28,My.ZF KX G ?a29 ?l29 ?c29 ?k29,My.ZF KX G ?a30 ?l30 ?c30 ?k30,My.ZF KX G ?a31 ?l31 ?c31 ?k31,My.ZF KX G ?a32 ?l32 ?c32 ?k32,My.ZF KX G ?a33 ?l33 ?c33 ?k33,My.Zfy KX G ?b0,My.Zfy KX G ?b1,My.Zfy KX G ?b2,PySem.W.mg_none_of KX G ?z0,PySem.W.mg_none_of KX G ?z1,PySem.W.mg_none_of KX G ?z2,PySem.W.mg_none_of KX G ?z3,PySem.W.mg_none_of KX G ?z4,PySem.W.mg_none_of KX G ?z5,PySem.W.mg_none_of KX G ?z6,PySem.W.mg_none_of KX G ?z7,PySem.W.mg_none_of KX G ?z8,PySem.W.mg_none_of KX G ?z9,PySem.W.mg_none_of KX G ?z10, ?l_lam⟩
   (case a0=>k_is)
   (case l0=>k_is)
   (case c0=>k_is)
   (case k0=>k_is)
   (case a1=>k_is)
   (case l1=>k_is)
   (case c1=>k_is)
   (case k1=>k_is)
   (case a2=>k_is)
   (case l2=>k_is)
   (case c2=>k_is)
   (case k2=>k_is)
   (case a3=>k_is)
   (case l3=>k_is)
   (case c3=>k_is)
   (case k3=>k_is)
   (case a4=>k_is)
   (case l4=>k_is)
   (case c4=>k_is)
   (case k4=>k_is)
   (case a5=>k_is)
   (case l5=>k_is)
   (case c5=>k_is)
   (case k5=>k_is)
   (case a6=>k_is)
   (case l6=>k_is)
   (case c6=>k_is)
   (case k6=>k_is)
   (case a7=>k_is)
   (case l7=>k_is)
   (case c7=>k_is)
   (case k7=>k_is)
   (case a8=>k_is)
   (case l8=>k_is)
   (case c8=>k_is)
   (case k8=>k_is)
   (case a9=>k_is)
   (case l9=>k_is)
   (case c9=>k_is)
   (case k9=>k_is)
   (case a10=>k_is)
   (case l10=>k_is)
   (case c10=>k_is)
   (case k10=>k_is)
   (case a11=>k_is)
   (case l11=>k_is)
   (case c11=>k_is)
   (case k11=>k_is)
   (case a12=>k_is)
   (case l12=>k_is)
   (case c12=>k_is)
   (case k12=>k_is)
   (case a13=>k_is)
   (case l13=>k_is)
   (case c13=>k_is)
   (case k13=>k_is)
   (case a14=>k_is)
   (case l14=>k_is)
   (case c14=>k_is)
   (case k14=>k_is)
   (case a15=>k_is)
   (case l15=>k_is)
   (case c15=>k_is)
   (case k15=>k_is)
   (case a16=>k_is)
   (case l16=>k_is)
   (case c16=>k_is)
   (case k16=>k_is)
   (case a17=>k_is)
   (case l17=>k_is)
   (case c17=>k_is)
   (case k17=>k_is)
   (case a18=>k_is)
   (case l18=>k_is)
   (case c18=>k_is)
   (case k18=>k_is)
   (case a19=>k_is)
   (case l19=>k_is)
   (case c19=>k_is)
   (case k19=>k_is)
   (case a20=>k_is)
   (case l20=>k_is)
   (case c20=>k_is)
   (case k20=>k_is)
   (case a21=>k_is)
   (case l21=>k_is)
   (case c21=>k_is)
   (case k21=>k_is)
   (case a22=>k_is)
   (case l22=>k_is)
   (case c22=>k_is)
   (case k22=>k_is)
   (case a23=>k_is)
   (case l23=>k_is)
   (case c23=>k_is)
   (case k23=>k_is)
   (case a24=>k_is)
   (case l24=>k_is)
   (case c24=>k_is)
   (case k24=>k_is)
   (case a25=>k_is)
   (case l25=>k_is)
   (case c25=>k_is)
   (case k25=>k_is)
   (case a26=>k_is)
   (case l26=>k_is)
   (case c26=>k_is)
   (case k26=>k_is)
   (case a27=>k_is)
   (case l27=>k_is)
   (case c27=>k_is)
   (case k27=>k_is)
   (case a28=>k_is)
   (case l28=>k_is)
   (case c28=>k_is)
   (case k28=>k_is)
   (case a29=>k_is)
   (case l29=>k_is)
   (case c29=>k_is)
   (case k29=>k_is)
   (case a30=>k_is)
   (case l30=>k_is)
   (case c30=>k_is)
   (case k30=>k_is)
   (case a31=>k_is)
   (case l31=>k_is)
   (case c31=>k_is)
   (case k31=>k_is)
   (case a32=>k_is)
   (case l32=>k_is)
   (case c32=>k_is)
   (case k32=>k_is)
   (case a33=>k_is)
   (case l33=>k_is)
   (case c33=>k_is)
   (case k33=>k_is)
   (case b0=>k_is)
   (case b1=>k_is)
   (case b2=>k_is)
   (case z0=>k_is)
   (case z1=>k_is)
   (case z2=>k_is)
   (case z3=>k_is)
   (case z4=>k_is)
   (case z5=>k_is)
   (case z6=>k_is)
   (case z7=>k_is)
   (case z8=>k_is)
   (case z9=>k_is)
   (case z10=>k_is)
   (case l_lam=>kernel_rfl)
  exact My.Zk0 T hmg
 case S=>exact fun K H a ns hl hS=>My.ZeS hl hS
 case C=>exact fun _ _ _ _ z=>z
