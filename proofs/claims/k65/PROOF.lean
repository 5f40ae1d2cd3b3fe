import PyProof.Rows.All
import Wide.All
import OpenK.AllK
import Wide.FinOn
import Lean
import PyProof.EqAt
import PyProof.EqKinds
import PyProof.TupleCall
import KE.KTryMore
import PyProof.NsDelKeeps
import PyProof.EnumStmt
import KE.KRevIter
import PyProof.ListNew
import KE.KIntText
import PyProof.ListRange
import PyProof.Rows.Range3
import PyProof.Rows.TupDisplay
import PyProof.DictWalks
import KE.KSortTup
import PyProof.StrLawsTight
import PyProof.StrBlock2
import PyProof.Rows.SortRuns
import PyProof.DictTruth
import PySem.Challenge.RW_sowring_k65_questions_refused
open List renaming getD_eq_getElem?_getD->Z3n,mem_append_right->Z3o,mem_append->Z3q,getElem?_eq_getElem->Z3r,mem_append_left->Z3s,length_cons->Z3t,mem_cons->Z3v,length_map->Z3w,getElem?_append_left->Z3x,length_append->Z3y,getElem?_eq_none->Z30,map_cons->Z31,size_toArray->Z32,getElem?_append_right->Z34,append_assoc->Z35,all_eq_true->Z36,getElem?_eq_some_iff->Z37,mem_singleton->Z38,mem_cons_of_mem->Z39,getElem?_map->Z3A,getElem?_set_self->Z3C,take_append_drop->Z3D,pairwise_append->Z3E,length_nil->Z3F,mem_map->Z3G,getElem?_set_ne->Z3H,lookup_cons->Z3K,contains_iff_mem->Z3L,getElem?_eq_none_iff->Z3N,length_singleton->Z3O,map_append->Z3P,replicate_succ->Z3Q,append_nil->Z3R,perm_append_comm->Z3S,mem_of_getElem?->Z3T,getElem?_range->Z3U,drop_eq_nil_of_le->Z3V,length_take->Z3X,sum_cons->Z4a,mem_range->Z4b,drop_eq_getElem_cons->Z4c,mem_filter->Z4d,map_nil->Z4f,getElem?_replicate->Z4g,getElem?_cons_zero->Z4h,length_pos_iff->Z4i,getElem_mem->Z4j,cons_append->Z4k,getElem?_take->Z4n,getElem?_drop->Z4o,find?_cons->Z4q,flatten_cons->Z4r,pairwise_iff_getElem->Z4u,map_map->Z4x,mem_cons_self->Z4z,mem_filterMap->Z40,nil_append->Z41,any_cons->Z42,length_set->Z43,take_of_length_le->Z44,length_range->Z47,length_drop->Z4A,getElem?_replicate_of_lt->Z4B,not_mem_nil->Z4C,filterMap_cons->Z4G,nodup_cons->Z4H,of_mem_zip->Z4I,map_congr_left->Z4N,zip_cons_cons->Z4O,set_cons_succ->Z4P,ext_getElem?->Z4Q,all_cons->Z4R,filter_cons->Z4T,all_map->Z4U
open Nat renaming le_refl->Z3u,lt_of_lt_of_le->Z3z,le_trans->Z33,ne_of_lt->Z3B,lt_irrefl->Z3M,mod_eq_of_lt->Z3Y,lt_of_le_of_lt->Z3Z,zero_le->Z4p,pow_le_pow_right->Z4t,ne_of_gt->Z49,mul_le_mul_right->Z4E,not_lt->Z4F,pow_le_pow_left->Z4L,lt_succ_self->Z4S
open Int renaming mul_le_mul_of_nonneg_right->Z3J,toNat_natCast->Z4e,mul_le_mul_of_nonneg_left->Z4l,mul_ediv_cancel_left->Z4w,emod_eq_of_lt->Z48,toNat_of_nonneg->Z4J,ediv_nonneg->Z4K,le_refl->Z4M,pow_succ->Z4W
open Array renaming getElem?_toList->Z3I,getElem?_eq_some_iff->Z3W,all_toList->Z4m,append_assoc->Z4y,getElem?_eq_none->Z46,toList_inj->Z4D
open Option renaming ne_none_iff_exists'->Z3p,isSome_map->Z4s,getD_some->Z4v,map_eq_some_iff->Z45,map_some->Z4V
set_option Elab.async false
set_option genSizeOf false
set_option genSizeOfSpec false
set_option linter.all false
set_option maxRecDepth 100000
namespace L2
open PySem PySem.Spec PyProof.Rows
noncomputable abbrev Key:=Sum Int Str
noncomputable def Zjg:Key->Value->Bool
 |.inl k,v=>Value.isInt k v
 |.inr x,v=>Value.isStrOf x v
noncomputable def ZuA(w:World):Key->Int
 |.inl k=>hashInt k
 |.inr x=>hashStr w x
theorem J3:∀{k:Key}{v:Value},Zjg k v=true->(∃i t,k=Sum.inl i/\v=Value.int i t)\/(∃x t,k=Sum.inr x/\v=Value.str x t)
 |.inl i,v,h=>by
  obtain⟨t,e⟩:=Value.isInt_shape (k:=i) (v:=v) h
  exact .inl ⟨i,t,rfl,e⟩
 |.inr x,v,h=>by
  obtain⟨t,e⟩:=Value.isStrOf_shape (x:=x) (v:=v) h
  exact .inr ⟨x,t,rfl,e⟩
theorem ZkS(i:Int)(t:Tok):Zjg (.inl i) (.int i t)=true:=by simp[Zjg,Value.isInt]
theorem ZkR(x:Str)(t:Tok):Zjg (.inr x) (.str x t)=true:=by simp[Zjg,Value.isStrOf]
theorem Zrv(a b:Int):decide ((Sum.inl a:Key)=Sum.inl b)=(a==b):=by
 by_cases e:a=b
 ·subst e;simp
 ·have h:¬(Sum.inl a:Key)=Sum.inl b:=fun q=>e (Sum.inl.inj q)
  rw[decide_eq_false h]
  exact(beq_eq_false_iff_ne.mpr e).symm
theorem Zrs(a b:Str):decide ((Sum.inr a:Key)=Sum.inr b)=decide (a=b):=by
 by_cases e:a=b
 ·subst e;simp
 ·have h:¬(Sum.inr a:Key)=Sum.inr b:=fun q=>e (Sum.inr.inj q)
  rw[decide_eq_false h,decide_eq_false e]
theorem Zru(a:Int)(b:Str):decide ((Sum.inl a:Key)=Sum.inr b)=false:=decide_eq_false (fun q=>nomatch q)
theorem Zrt(a:Str)(b:Int):decide ((Sum.inr a:Key)=Sum.inl b)=false:=decide_eq_false (fun q=>nomatch q)
noncomputable def Vg(prog:Program)(w:World):PySem.KeyKind prog w Key where
 is:=Zjg
 hash:=ZuA w
 inj:=fun v a b ha hb=>by
  rcases J3 ha with ⟨i,t,rfl,rfl⟩|⟨x,t,rfl,rfl⟩
  ·rcases J3 hb with ⟨j,u,rfl,e⟩|⟨y,u,rfl,e⟩
   ·injection e with e1 _;rw[e1]
   ·exact nomatch e
  ·rcases J3 hb with ⟨j,u,rfl,e⟩|⟨y,u,rfl,e⟩
   ·exact nomatch e
   ·injection e with e1 _;rw[e1]
 byValue:=fun k v h=>by
  rcases J3 h with ⟨i,t,rfl,rfl⟩|⟨x,t,rfl,rfl⟩<;>rfl
 pyHash:=fun hv h=>by
  rcases J3 hv with ⟨i,t,rfl,rfl⟩|⟨x,t,rfl,rfl⟩
  ·exact wpAny_pyHash_int h
  ·exact wpAny_pyHash_str h
 eqBool:=fun hu hv h=>by
  rcases J3 hu with ⟨i,t,rfl,rfl⟩|⟨x,t,rfl,rfl⟩
  ·rcases J3 hv with ⟨j,u,rfl,rfl⟩|⟨y,u,rfl,rfl⟩
   ·rw[Zrv] at h;exact wpAny_eqBool_int h
   ·rw[Zru] at h;exact SeqAt.EqAt.int_str i t y u _ _ _ _ h
  ·rcases J3 hv with ⟨j,u,rfl,rfl⟩|⟨y,u,rfl,rfl⟩
   ·rw[Zrt] at h;exact SeqAt.EqAt.str_int x t j u _ _ _ _ h
   ·rw[Zrs] at h;exact wpAny_eqBool_str h
 «strs»:=fun k x t v h=>by
  rcases J3 h with ⟨i,u,rfl,e⟩|⟨y,u,rfl,e⟩
  ·exact nomatch e
  ·injection e with e1 _
   subst e1
   cases v<;>rfl
theorem ZgD(prog:Program)(w:World)(i:Int)(t:Tok):(Vg prog w).is (.inl i) (.int i t)=true:=ZkS i t
theorem ZgC(prog:Program)(w:World)(x:Str)(t:Tok):(Vg prog w).is (.inr x) (.str x t)=true:=ZkR x t
inductive V where
 |non|bl (b:Bool)|int (i:Int)|str (x:Str)|byt (b:Array UInt8)|flt (b:UInt64)|ref (a:Addr)|ty (n:String)
 deriving DecidableEq
noncomputable def JY:V->Value->Prop
 |.non,u=>u=Value.none
 |.bl b,u=>u=Value.bool b
 |.int i,u=>∃t,u=Value.int i t
 |.str x,u=>∃t,u=Value.str x t
 |.byt b,u=>∃t,u=Value.bytes b t
 |.flt b,u=>∃t,u=Value.float b t
 |.ref a,u=>u=Value.ref a
 |.ty n,u=>u=Value.type n
noncomputable abbrev Jk:List V->List Value->Prop:=Paired JY
theorem Jk.length{xs:List V}{us:List Value}(r:Jk xs us):xs.length=us.length:=Paired.length r
theorem Jk.get:∀{xs:List V}{us:List Value}{i:Nat}{x:V},Jk xs us->xs[i]?=some x->∃u,us[i]?=some u/\JY x u
 |_,_,_,_,.nil,e=>by simp at e
 |_,_,0,_,.cons r _,e=>by simp at e;subst e;exact⟨_,rfl,r⟩
 |_,_,i+1,x,.cons _ t,e=>by
  obtain⟨u,h1,h2⟩:=Jk.get (i:=i) (x:=x) t (by simpa using e)
  exact⟨u,by simpa using h1,h2⟩
theorem Jk.set{x:V}{u:Value}(r:JY x u):∀{xs:List V}{us:List Value} (i:Nat),Jk xs us->Jk (xs.set i x) (us.set i u)
 |_,_,_,.nil=>.nil
 |_,_,0,.cons _ t=>.cons r t
 |_,_,i+1,.cons q t=>.cons q (Jk.set r i t)
theorem Jk.append:∀{xs ys:List V}{us ws:List Value},Jk xs us->Jk ys ws->Jk (xs++ys) (us++ws)
 |_,_,_,_,.nil,s=>s
 |_,_,_,_,.cons r t,s=>.cons r (Jk.append t s)
theorem Jk.take:∀{xs:List V}{us:List Value} (n:Nat),Jk xs us->Jk (xs.take n) (us.take n)
 |_,_,0,_=>.nil
 |_,_,_+1,.nil=>.nil
 |_,_,n+1,.cons r t=>.cons r (Jk.take n t)
theorem Jk.drop:∀{xs:List V}{us:List Value} (n:Nat),Jk xs us->Jk (xs.drop n) (us.drop n)
 |_,_,0,r=>r
 |_,_,_+1,.nil=>.nil
 |_,_,n+1,.cons _ t=>Jk.drop n t
noncomputable def Zj6:Option V->Option Value->Prop
 |some v,some u=>JY v u
 |none,none=>True
 |_,_=>False
def KV{κ:Type}:List (κ×V)->List (κ×Value)->Prop:=Paired fun(p:κ×V) (q:κ×Value)=>p.1=q.1/\JY p.2 q.2
noncomputable def kV:Key->V
 |.inl i=>.int i
 |.inr x=>.str x
inductive HO where
  |lst (xs:List V)
  |tup (xs:List V)
  |dK (kvs:List (Key×V))|dT (kvs:List (List Key×V))
  |set (S:Int->Bool) (n:Nat)
  |ins (C dx:Addr) (fs:List (Str×V))
  |own (x:Addr)
  |xd (fs:List (Str×V))
  |met (f x:Addr)
  |rng (lo hi:Int)
  |frz (o:Obj) (u:HO)
  |tbl (ps:Array Value)
  |ext (φ:Heap->Prop)
noncomputable abbrev Hp:=Addr->Option HO
noncomputable def upd(H:Hp)(a:Addr)(o:HO):Hp:=fun b=>if b=a then some o else H b
theorem ZX{H:Hp}{a:Addr}{o:HO}:upd H a o a=some o:=by unfold upd;rw[if_pos rfl]
theorem Z4{H:Hp}{a b:Addr}{o:HO}(h:b≠a):upd H a o b=H b:=by unfold upd;rw[if_neg h]
theorem Zpp{H:Hp}{a b:Addr}{o u:HO}(h:H a=some o)(h':H b=some u)(d:o≠u):a≠b:=by
 intro e;subst e;rw[h] at h';exact d (Option.some.inj h')
theorem ZS{H:Hp}{a b:Addr}{o:HO}(h:H a=some o)(h':H b=none):a≠b:=by
 intro e;subst e;rw[h] at h';cases h'
section
variable (P:Program) (w:World)
noncomputable def Vk(H:Hp)(h:Heap)(a:Addr):HO->Prop
 |.lst xs=>xs.length<=sizeLine/\∃(its:List Value) (n:Nat),Jk xs its/\h.get? a=some { cls:=.type "list",data:=.seq its.toArray n }
 |.tup xs=>xs.length<=sizeLine/\∃its:List Value,Jk xs its/\IsTup h a its.toArray
 |.dK kvs=>kvs.length<=sizeLine/\(a==sysModules)=false/\∃vs,KV kvs vs/\h.DictOf (Vg P w) a vs
 |.dT kvs=>kvs.length<=sizeLine/\(a==sysModules)=false/\∃xs:List (List Key×Addr×Value),
   Paired (fun(p:List Key×V) (q:List Key×Addr×Value)=>p.1=q.1/\H q.2.1=some (.tup (p.1.map kV))/\JY p.2 q.2.2) kvs xs /\
   ∃o es ep,h.get? a=some o/\o.ExactDict/\o.data=.dict es ep/\es.toList=xs.map (entryOfKey (tupleKind (Vg P w)))/\(xs.map (·.1)).Nodup
 |.set S n=>h.SetOf (intKind P w) a S n
 |.ins C dx fs=>H dx=some (.own a)/\fs.length<=1000/\dx≠a/\h.get? a=some (PySem.W.instObj C dx) /\
   ∃mA,h.Ns1 dx mA/\(∀f,Zj6 (fs.lookup f) (mA f))/\PySem.Within mA (fs.map (·.1))
 |.own _=>∃o,h.get? a=some o
 |.xd fs=>∃mA,h.Ns1 a mA/\∀f,Zj6 (fs.lookup f) (mA f)
 |.rng lo hi=>∃t u v,h.get? a=some { cls:=.type "range",data:=.fields #[.int lo t,.int hi u,.int 1 v] }
 |.frz o u=>h.get? a=some o/\Vk H h a u
 |.tbl ps=>h.get? a=some { cls:=.none,data:=.fields ps }
 |.met f x=>h.get? a=some (PySem.W.methodObj (.ref f) (.ref x))
 |.ext φ=>φ h/\(∃o,h.get? a=some o)/\∀h1 h2:Heap,φ h1->(∀o,h1.get? a=some o->h2.get? a=some o)->φ h2
def HOk(H:Hp)(h:Heap):Prop:=∀a o,H a=some o->Vk P w H h a o
end
section
variable {P:Program}{w:World}{H H':Hp}{h h':Heap}{a:Addr}{o:HO}
theorem Vk.lt(x:Vk P w H h a o):a<h.objs.size:=by
 cases o with
 |lst xs=>obtain⟨_,_,_,_,e⟩:=x;exact Heap.lt_size e
 |tup xs=>obtain⟨_,_,_,p⟩:=x;exact p.lt
 |dK kvs=>obtain⟨_,_,_,_,o,_,_,e,_⟩:=x;exact Heap.lt_size e
 |dT kvs=>obtain⟨_,_,_,_,o,_,_,e,_⟩:=x;exact Heap.lt_size e
 |set S n=>obtain⟨o,_,_,_,e,_⟩:=x;exact Heap.lt_size e
 |ins C dx fs=>obtain⟨_,_,_,e,_⟩:=x;exact Heap.lt_size e
 |own y=>obtain⟨_,e⟩:=x;exact Heap.lt_size e
 |xd fs=>obtain⟨_,⟨_,_,_,e,_⟩,_⟩:=x;exact Heap.lt_size e
 |rng lo hi=>obtain⟨_,_,_,e⟩:=x;exact Heap.lt_size e
 |frz ob u=>obtain⟨e,_⟩:=x;exact Heap.lt_size e
 |tbl ps=>exact Heap.lt_size (show h.get? a=some _ from x)
 |met f y=>exact Heap.lt_size (show h.get? a=some _ from x)
 |ext φ=>obtain⟨_,⟨_,e⟩,_⟩:=x;exact Heap.lt_size e
theorem Paired.mapP{α β:Type}{F G:α->β->Prop}:∀{l₁:List α}{l₂:List β},Paired F l₁ l₂->(∀a b,F a b->G a b)->Paired G l₁ l₂
 |_,_,.nil,_=>.nil
 |_,_,.cons r t,f=>.cons (f _ _ r) (Paired.mapP t f)
theorem Vk.stay(x:Vk P w H h a o)(k:∀b u,(b=a\/H b=some (.own a))->h.get? b=some u->h'.get? b=some u)(ho:∀b,H b=some (.own a)->H' b=some (.own a))(ht:∀b xs,H b=some (.tup xs)->H' b=some (.tup xs)):Vk P w H' h' a o:=by
 induction o with
 |lst xs=>obtain⟨z,its,n,r,e⟩:=x;exact⟨z,its,n,r,k _ _ (.inl rfl) e⟩
 |tup xs=>obtain⟨z,its,r,ob,e,c⟩:=x;exact⟨z,its,r,ob,k _ _ (.inl rfl) e,c⟩
 |dK kvs=>obtain⟨z,y,vs,r,ob,es,ep,e,c⟩:=x;exact⟨z,y,vs,r,ob,es,ep,k _ _ (.inl rfl) e,c⟩
 |dT kvs =>
  obtain⟨z,y,xs,r,ob,es,ep,e,c⟩:=x
  exact⟨z,y,xs,Paired.mapP r fun p q z=>⟨z.1,ht _ _ z.2.1,z.2.2⟩,ob,es,ep,k _ _ (.inl rfl) e,c⟩
 |set S n=>obtain⟨ob,es,ep,t,e,c⟩:=x;exact⟨ob,es,ep,t,k _ _ (.inl rfl) e,c⟩
 |ins C dx fs =>
  obtain⟨d,z,ne,e,mA,⟨od,es,ep,e2,c⟩,r⟩:=x
  exact⟨ho _ d,z,ne,k _ _ (.inl rfl) e,mA,⟨od,es,ep,k _ _ (.inr d) e2,c⟩,r⟩
 |own y=>obtain⟨ob,e⟩:=x;exact⟨ob,k _ _ (.inl rfl) e⟩
 |xd fs=>obtain⟨mA,⟨od,es,ep,e,c⟩,r⟩:=x;exact⟨mA,⟨od,es,ep,k _ _ (.inl rfl) e,c⟩,r⟩
 |rng lo hi=>obtain⟨t,u,v,e⟩:=x;exact⟨t,u,v,k _ _ (.inl rfl) e⟩
 |frz ob u ih=>obtain⟨e,q⟩:=x;exact⟨k _ _ (.inl rfl) e,ih q⟩
 |tbl ps =>
  have e:h.get? a=some { cls:=.none,data:=.fields ps }:=x
  show h'.get? a=some { cls:=.none,data:=.fields ps }
  exact k a _ (.inl rfl) e
 |met f y =>
  have e:h.get? a=some (PySem.W.methodObj (.ref f) (.ref y)):=x
  show h'.get? a=some (PySem.W.methodObj (.ref f) (.ref y))
  exact k a _ (.inl rfl) e
 |ext φ=>obtain⟨p,⟨o,e⟩,st⟩:=x;exact⟨st _ _ p fun o q=>k _ _ (.inl rfl) q,⟨o,k _ _ (.inl rfl) e⟩,st⟩
theorem HOk.lt(x:HOk P w H h)(e:H a=some o):a<h.objs.size:=(x a o e).lt
theorem HOk.fresh(x:HOk P w H h)(e:h.objs.size<=a):H a=none:=by
 cases q:H a with
 |none=>rfl
 |some u=>exact absurd (Z3z (x.lt q) e) (Z3M _)
theorem HOk.kept(x:HOk P w H h)(k:∀b u,h.get? b=some u->h'.get? b=some u):HOk P w H h':=fun a o e =>
 (x a o e).stay (fun b u _ q=>k b u q) (fun _ q=>q) fun _ _ q=>q
theorem HOk.laid(x:HOk P w H h)(k:∀b u,h.get? b=some u->h'.get? b=some u)(hp:h.objs.size<=a)(new:Vk P w (upd H a o) h' a o):HOk P w (upd H a o) h':=fun b u e=>by
 have hn:=x.fresh hp
 by_cases hb:b=a
 ·subst hb;rw[ZX] at e;cases e;exact new
 ·rw[Z4 hb] at e
  exact(x b u e).stay (fun c v _ q=>k c v q) (fun c q=>by rw[Z4 (ZS q hn)];exact q) fun c xs q=>by rw[Z4 (ZS q hn)];exact q
end
def Rd(H:Hp)(a:Addr)(u:HO):Prop:=H a=some u\/∃o,H a=some (.frz o u)
theorem Rd.of{H:Hp}{a:Addr}{u:HO}(h:H a=some u):Rd H a u:=.inl h
theorem Rd.ok{P:Program}{w:World}{H:Hp}{h:Heap}{a:Addr}{u:HO}(r:Rd H a u)(x:HOk P w H h):Vk P w H h a u:=by
 rcases r with r|⟨o,r⟩
 ·exact x a u r
 ·obtain⟨_,q⟩:=x a _ r
  exact q
noncomputable def Mut:Option HO->Prop
 |some (.lst _)=>True
 |some (.dK _)=>True
 |some (.dT _)=>True
 |some (.set _ _)=>True
 |some (.ins _ _ _)=>True
 |some (.ext _)=>True
 |_=>False
section
variable {P:Program}{w:World}{H:Hp}{h h':Heap}{x e:Addr}{o':HO}
theorem HOk.write(ok:HOk P w H h)(mu:Mut (H x))(he:e=x\/H e=some (.own x))(k:∀b u,b≠e->h.get? b=some u->h'.get? b=some u)(heo:∃u,h'.get? e=some u)(new:Vk P w (upd H x o') h' x o'):HOk P w (upd H x o') h':=fun b u q=>by
 have nown:∀c y,H c=some (.own y)->c≠x:=fun c y r z=>by subst z;rw[r] at mu;exact mu
 have ntup:∀c xs,H c=some (.tup xs)->c≠x:=fun c xs r z=>by subst z;rw[r] at mu;exact mu
 by_cases hb:b=x
 ·subst hb;rw[ZX] at q;cases q;exact new
 ·rw[Z4 hb] at q
  by_cases hbe:b=e
  ·have q':H b=some (.own x):=by
    rcases he with z|z
    ·exact absurd (hbe.trans z) hb
    ·rw[hbe];exact z
   rw[q] at q';cases q'
   obtain⟨v,hv⟩:=heo
   exact⟨v,by rw[hbe];exact hv⟩
  ·refine(ok b u q).stay (fun c v hc r=>k c v ?_ r) (fun c r=>by rw[Z4 (nown c b r)];exact r) fun c xs r=>by rw[Z4 (ntup c xs r)];exact r
   rcases hc with rfl|hc
   ·exact hbe
   ·rintro rfl
    rcases he with z|z
    ·exact nown c b hc z
    ·rw[hc] at z;cases z;exact hb rfl
end
structure Un(fs ex:List Addr)(H H':Hp)(h h':Heap):Prop where
 keep:∀b o,h.get? b=some o->H b=none->b ∉ fs->b ∉ ex->h'.get? b=some o
 slot:∀b o,h.get? b=some o->H b=none->b∈fs->b ∉ ex->∃sl,h'.get? b=some { o with slots:=sl }
 free:∀b o,h.get? b=some o->H b=none->b ∉ ex->H' b=none
 there:∀b o,h.get? b=some o->b ∉ ex->∃o',h'.get? b=some o'
 tups:∀b xs,H b=some (.tup xs)->H' b=some (.tup xs)
 frzs:∀b o u,H b=some (.frz o u)->H' b=some (.frz o u)
 tbls:∀b ps,H b=some (.tbl ps)->∃more,H' b=some (.tbl (ps++more))
section
variable {fs fs' ex ex':List Addr}{H H1 H2:Hp}{h h1 h2 h':Heap}{a x e:Addr}{o:HO}
theorem Un.any(u:Un fs ex H H1 h h1){b:Addr}{ob:Obj}(q:h.get? b=some ob)(n:H b=none)(hx:b ∉ ex):∃sl,h1.get? b=some { ob with slots:=sl }:=by
 by_cases hb:b∈fs
 ·exact u.slot b ob q n hb hx
 ·exact⟨ob.slots,u.keep b ob q n hb hx⟩
theorem Un.trans(a:Un fs ex H H1 h h1)(b:Un fs ex H1 H2 h1 h2):Un fs ex H H2 h h2 where
 keep:=fun c ob q n hc hx=>b.keep c ob (a.keep c ob q n hc hx) (a.free c ob q n hx) hc hx
 slot:=fun c ob q n hc hx=>by
  obtain⟨sl,e1⟩:=a.slot c ob q n hc hx
  obtain⟨sl',e2⟩:=b.slot c _ e1 (a.free c ob q n hx) hc hx
  exact⟨sl',e2⟩
 free:=fun c ob q n hx=>by
  obtain⟨o',e1⟩:=a.there c ob q hx
  exact b.free c o' e1 (a.free c ob q n hx) hx
 there:=fun c ob q hx=>by
  obtain⟨o',e1⟩:=a.there c ob q hx
  exact b.there c o' e1 hx
 tups:=fun c xs q=>b.tups c xs (a.tups c xs q)
 frzs:=fun c ob xs q=>b.frzs c ob xs (a.frzs c ob xs q)
 tbls:=fun c ps q=>by
  obtain⟨m1,e1⟩:=a.tbls c ps q
  obtain⟨m2,e2⟩:=b.tbls c _ e1
  exact⟨m1++m2,by rw[e2,Z4y]⟩
theorem Un.kept(k:∀b u,h.get? b=some u->h'.get? b=some u):Un fs ex H H h h':=
 ⟨fun b ob q _ _ _=>k b ob q,fun b ob q _ _ _=>⟨ob.slots,k b ob q⟩,fun _ _ _ n _=>n,fun b ob q _=>⟨ob,k b ob q⟩,fun _ _ q=>q,fun _ _ _ q=>q,fun _ ps q=>⟨#[],by rw[q];simp⟩⟩
theorem Un.refl:Un fs ex H H h h:=Un.kept fun _ _ q=>q
theorem Un.laid(k:∀b u,h.get? b=some u->h'.get? b=some u)(hp:h.objs.size<=a)(hn:H a=none):Un fs ex H (upd H a o) h h' where
 keep:=fun b u q _ _ _=>k b u q
 slot:=fun b u q _ _ _=>⟨u.slots,k b u q⟩
 free:=fun b u q n _=>by rw[Z4 (Z3B (Z3z (Heap.lt_size q) hp))];exact n
 there:=fun b u q _=>⟨u,k b u q⟩
 tups:=fun b xs q=>by rw[Z4 (ZS q hn)];exact q
 frzs:=fun b u xs q=>by rw[Z4 (ZS q hn)];exact q
 tbls:=fun b ps q=>⟨#[],by rw[Z4 (ZS q hn),q];simp⟩
theorem Un.write(mu:Mut (H x))(he:e=x\/H e=some (.own x))(k:∀b u,b≠e->h.get? b=some u->h'.get? b=some u)(heo:∃u,h'.get? e=some u):Un fs ex H (upd H x o) h h':=by
 have hx:∀b,H b=none->b≠x:=fun b n z=>by subst z;rw[n] at mu;exact mu
 have hb:∀b,H b=none->b≠e:=fun b n z=>by
  subst z
  rcases he with r|r
  ·exact hx b n r
  ·rw[n] at r;cases r
 have hm:∀b u,H b=some u->¬Mut (some u)->b≠x:=fun b u q nm z=>by subst z;rw[q] at mu;exact nm mu
 refine⟨fun b u q n _ _=>k b u (hb b n) q,fun b u q n _ _=>⟨u.slots,k b u (hb b n) q⟩,fun b u q n _=>by rw[Z4 (hx b n)];exact n,fun b u q _=>?_,
  fun b xs q=>by rw[Z4 (hm b _ q fun z=>z)];exact q,fun b u xs q=>by rw[Z4 (hm b _ q fun z=>z)];exact q,fun b ps q=>⟨#[],by rw[Z4 (hm b _ q fun z=>z),q];simp⟩⟩
 by_cases hbe:b=e
 ·subst hbe;exact heo
 ·exact⟨u,k b u hbe q⟩
theorem Un.mono(u:Un fs ex H H1 h h1)(hs:∀b∈fs,b∈fs')(hx:∀b∈ex,b∈ex'):Un fs' ex' H H1 h h1:=
 ⟨fun b ob q n hb he=>u.keep b ob q n (fun z=>hb (hs b z)) fun z=>he (hx b z),fun _ _ q n _ he=>u.any q n fun z=>he (hx _ z),fun b ob q n he=>u.free b ob q n fun z=>he (hx b z),fun b ob q he=>u.there b ob q fun z=>he (hx b z),u.tups,u.frzs,u.tbls⟩
end
noncomputable def trk(h:Heap)(H:Hp):List Addr:=(List.range h.objs.size).filter fun a=>(H a).isSome
noncomputable def ZmW(h:Heap)(H:Hp):Heap:=PySem.W.hideAll h (trk h H)
theorem Zla(h:Heap)(H:Hp):(ZmW h H).objs.size=h.objs.size:=PySem.W.hideAll_size _ _
theorem ZmV{h:Heap}{H:Hp}{b:Addr}{o:Obj}(e:h.get? b=some o)(n:H b=none):(ZmW h H).get? b=some o:=
 PySem.W.hideAll_get _ e fun hm=>by
  have q:(H b).isSome=true:=(Z4d.mp hm).2
  rw[n] at q;simp at q
theorem Zpj{h:Heap}{H:Hp}{b:Addr}{o:Obj}(e:(ZmW h H).get? b=some o):h.get? b=some o/\H b=none:=by
 have e':h.get? b=some o:=PySem.W.of_hideAll (trk h H) e
 refine⟨e', ?_⟩
 cases q:H b with
 |none=>rfl
 |some x =>
  have hm:b∈trk h H:=Z4d.mpr ⟨Z4b.mpr (Heap.lt_size e'),by simp[q]⟩
  have z:(ZmW h H).get? b=none:=PySem.W.hideAll_none (trk h H) hm
  rw[z] at e;cases e
noncomputable def ZpR(g h:Heap)(L:Addr):List (Addr×Obj):=(List.range h.objs.size).filterMap fun a=>if a=L\/(g.get? a).isSome=true then none else (h.get? a).map fun o=>(a,o)
noncomputable def Zgi(g h:Heap)(L d:Addr):List (Addr×Obj):=(ZpR g h L).filter fun p=>decide (p.1≠d)
structure Mod(K:PySem.W.Frag)(mg:Str->Option Value)(base:Heap):Prop where
 kin:K.In base
 glob:base.Ns mainGlobals mg
 blt:∃mb,base.Ns builtinsNs mb/\∀x:Str,x ≠ "__name__"->mb x=bootBuiltins x
 nolimit:base.NoLimit
structure Cx where
 prog:Program
 w:World
 K:PySem.W.Frag
 mg:Str->Option Value
 base:Heap
 A:Around
 N:List Str
 s₀:Shared
 H₀:Hp
 env:Env
 outer:List Env
 stack:List Env
 ex:List Addr
 fn:Str->Bool
 calm:Bool
 pn:List (Addr×Obj)
 xe:Value->Shared->Prop
noncomputable def frs(l:List Env):List Addr:=l.filterMap (·.frame)
noncomputable abbrev Cx.fs(X:Cx):List Addr:=frs X.outer
def Vis(sc:Scope)(x:Str):Prop:=sc.names.lookup x=some .local\/sc.names.lookup x=some .cell\/sc.names.lookup x=some .free
def Loc(sc:Scope)(x:Str):Prop:=sc.names.lookup x=some .local\/sc.names.lookup x=some .cell
def Zu3(env:Env)(h:Heap)(m:Str->Option Value)(x:Str)(u:Value):Prop:=
 (env.kindOf x=some .local/\m x=some u)\/((env.kindOf x=some .cell\/env.kindOf x=some .free)/\∃c,env.cells.lookup x=some c/\h.IsCell c (some u))
structure Cx.Ok(X:Cx):Prop where
 mod:Mod X.K X.mg X.base
 kind:X.env.scope.kind=.function
 glob:X.env.globals=mainGlobals
 blt:X.env.builtins=builtinsNs
 above:X.s₀.heap.objs.size<=X.env.locals
 inj:∀x y c,X.env.cells.lookup x=some c->X.env.cells.lookup y=some c->x=y
 has:∀x,(X.env.kindOf x=some .cell\/X.env.kindOf x=some .free)->∃c,X.env.cells.lookup x=some c
 cab:∀x c,X.fn x=true->X.env.cells.lookup x=some c->X.s₀.heap.objs.size<=c
 hd:X.calm=true->X.A.handled=none
 frames:X.A.frames=some X.stack
 stk:X.stack=X.outer\/(X.stack=X.env::X.outer/\X.env.frame=some X.env.locals)
 exf:∀b∈X.ex,b≠X.env.locals/\∀x c,X.env.cells.lookup x=some c->c≠b
 bs:∀b o,X.base.get? b=some o->X.s₀.heap.get? b=some o/\X.H₀ b=none
 bsz:X.base.objs.size<=X.s₀.heap.objs.size
 noex:∀b o,X.base.get? b=some o->b ∉ X.ex
 exfs:∀b∈X.ex,b ∉ X.fs
 funs:X.s₀.heap.FunFrames X.base X.outer
 frf:∀b∈X.fs,X.H₀ b=none
structure Inv(X:Cx)(pins:List (Addr×Obj))(σ:List (Option V))(H:Hp)(s:Shared):Prop where
 ok:X.Ok
 os:s.os=X.s₀.os
 bare:AllBare s.gens
 base:Un X.fs X.ex X.H₀ H X.s₀.heap s.heap
 loc:∃m,s.heap.Ns X.env.locals m/\∀(i:Nat) (x:Str) (v:V),X.N[i]?=some x->σ[i]?=some (some v)->Vis X.env.scope x->∃u,JY v u/\Zu3 X.env s.heap m x u
 cell:∀x c,X.env.cells.lookup x=some c->∃v,s.heap.IsCell c v
 free:H X.env.locals=none
 freeC:∀x c,X.env.cells.lookup x=some c->H c=none
 pin:∀p∈X.pn++pins,s.heap.get? p.1=some p.2/\H p.1=none/\p.1≠X.env.locals/\p.1 ∉ X.fs/\∀v,p.2.data≠.cell v
 hok:HOk X.prog X.w H s.heap
 len:σ.length=X.N.length
section
variable {X:Cx}{pins:List (Addr×Obj)}{σ:List (Option V)}{H H':Hp}{s:Shared}{h':Heap}
theorem Cx.Ok.nofr(ok:X.Ok){b:Addr}{o:Obj}(e:X.base.get? b=some o):b ∉ X.fs:=fun hb=>by
 have:=(ok.funs.mem hb).1
 rw[e] at this;cases this
theorem Inv.bs(I:Inv X pins σ H s):∀b o,X.base.get? b=some o->s.heap.get? b=some o/\H b=none:=fun b o e =>
 ⟨I.base.keep b o (I.ok.bs b o e).1 (I.ok.bs b o e).2 (I.ok.nofr e) (I.ok.noex b o e),I.base.free b o (I.ok.bs b o e).1 (I.ok.bs b o e).2 (I.ok.noex b o e)⟩
theorem Inv.bk(I:Inv X pins σ H s):∀b o,X.base.get? b=some o->s.heap.get? b=some o:=fun b o e=>(I.bs b o e).1
theorem Inv.mod(I:Inv X pins σ H s):Mod X.K X.mg X.base:=I.ok.mod
theorem Inv.kIn(I:Inv X pins σ H s):X.K.In s.heap:=I.ok.mod.kin.keeps I.bk
theorem Inv.nolimit(I:Inv X pins σ H s):s.heap.NoLimit:=I.ok.mod.nolimit.keeps I.bk
theorem Inv.fr(I:Inv X pins σ H s):∃m,Fr X.base X.env.locals s.heap m:=
 let ⟨m,hn,_⟩:=I.loc
 ⟨m,hn,I.bk,Z33 I.ok.bsz I.ok.above⟩
theorem Inv.lt(I:Inv X pins σ H s):X.env.locals<s.heap.objs.size:=let ⟨_,hn,_⟩:=I.loc;hn.lt
theorem Inv.sz(I:Inv X pins σ H s):X.s₀.heap.objs.size<=s.heap.objs.size:=Z33 I.ok.above (Nat.le_of_lt I.lt)
theorem Inv.nofs(I:Inv X pins σ H s){a:Addr}(h:s.heap.objs.size<=a):a ∉ X.fs:=fun hb=>by
 obtain⟨_,o,ho,_⟩:=I.ok.funs.mem hb
 exact absurd (Z3z (Heap.lt_size ho) (Z33 I.sz h)) (Z3M _)
theorem Inv.cne(I:Inv X pins σ H s):∀x c,X.env.cells.lookup x=some c->c≠X.env.locals:=fun x c e z=>by
 obtain⟨v,o,ho,hd⟩:=I.cell x c e
 obtain⟨m,⟨o',es,ep,ho',hd',_⟩,_⟩:=I.loc
 rw[z,ho'] at ho;cases ho;rw[hd'] at hd;cases hd
theorem Inv.funs(I:Inv X pins σ H s):s.heap.FunFrames X.base X.outer:=by
 have all:∀(l:List Env),(∀b∈frs l,b∈X.fs)->X.s₀.heap.FunFrames X.base l->s.heap.FunFrames X.base l:=by
  intro l
  induction l with
  |nil=>intro _ _;trivial
  |cons env r ih =>
   intro hs hl
   obtain⟨hk,⟨L,o,hf,hn,ho,hd⟩,hr⟩:=hl
   have hL:L∈X.fs:=hs L (by unfold frs;rw[Z4G,hf];exact Z4z)
   obtain⟨sl,e⟩:=I.base.slot L o ho (I.ok.frf L hL) hL fun z=>I.ok.exfs L z hL
   exact⟨hk,⟨L,_,hf,hn,e,hd⟩,ih (fun b hb=>hs b (by unfold frs;rw[Z4G,hf];exact Z39 _ hb)) hr⟩
 exact all X.outer (fun _ hb=>hb) I.ok.funs
theorem Inv.stack(I:Inv X pins σ H s):s.heap.FunFrames X.base X.stack:=by
 rcases I.ok.stk with e|⟨e,hf⟩
 ·rw[e];exact I.funs
 ·rw[e]
  obtain⟨m,hn,_⟩:=I.loc
  refine .cons (by rw[I.ok.kind];decide) hf hn ?_ I.funs
  exact Heap.get?_none_of_le (Z33 I.ok.bsz I.ok.above)
theorem Inv.stkSub(I:Inv X pins σ H s):∀b∈frs X.stack,b∈X.env.locals::X.fs:=fun b hb=>by
 rcases I.ok.stk with e|⟨e,hf⟩
 ·rw[e] at hb;exact Z39 _ hb
 ·rw[e] at hb
  unfold frs at hb
  rw[Z4G,hf] at hb
  exact hb
theorem Inv.stkFree(I:Inv X pins σ H s):∀b∈frs X.stack,H b=none:=fun b hb=>by
 rcases Z3v.mp (I.stkSub b hb) with e|hb
 ·rw[e];exact I.free
 ·obtain⟨_,o,ho,_⟩:=I.ok.funs.mem hb
  exact I.base.free b o ho (I.ok.frf b hb) fun z=>I.ok.exfs b z hb
theorem Inv.step{g':Array GenState}{t':Nat}{d':Drawn}{ch:List Addr}(I:Inv X pins σ H s)(hch:∀b∈ch,(b∈X.ex\/X.s₀.heap.objs.size<=b)/\b≠X.env.locals/\(∀x c,X.env.cells.lookup x=some c->c≠b)/\∀p∈X.pn++pins,p.1≠b)(keep:∀b o,b≠X.env.locals->b ∉ X.fs->b ∉ ch->s.heap.get? b=some o->H b=none->h'.get? b=some o)(slot:∀b o,b≠X.env.locals->b∈X.fs->b ∉ ch->s.heap.get? b=some o->H b=none->∃sl,h'.get? b=some { o with slots:=sl })(free:∀b o,b ∉ ch->s.heap.get? b=some o->H b=none->H' b=none)(there:∀b o,b ∉ ch->s.heap.get? b=some o->∃o',h'.get? b=some o')(tups:∀b xs,H b=some (.tup xs)->H' b=some (.tup xs))(frzs:∀b o u,H b=some (.frz o u)->H' b=some (.frz o u))(tbls:∀b ps,H b=some (.tbl ps)->∃more,H' b=some (.tbl (ps++more)))(ns:∀m,s.heap.Ns X.env.locals m->h'.Ns X.env.locals m)(hok:HOk X.prog X.w H' h')(hg:AllBare g') :
  Inv X pins σ H' { s with heap:=h',gens:=g',drawn:=d',toks:=t' }:=by
 have neL:∀b o,X.s₀.heap.get? b=some o->b≠X.env.locals:=fun b o e=>Z3B (Z3z (Heap.lt_size e) I.ok.above)
 have neC:∀b o,X.s₀.heap.get? b=some o->b ∉ X.ex->b ∉ ch:=fun b o e hx hb=>by
  rcases (hch b hb).1 with z|z
  ·exact hx z
  ·exact absurd (Z3z (Heap.lt_size e) z) (Z3M _)
 have cellK:∀x c,X.env.cells.lookup x=some c->∀v,s.heap.IsCell c v->h'.IsCell c v:=fun x c e v ⟨o,ho,hd⟩=>by
  have nch:c ∉ ch:=fun z=>(hch c z).2.2.1 x c e rfl
  by_cases hc:c∈X.fs
  ·obtain⟨sl,q⟩:=slot c o (I.cne x c e) hc nch ho (I.freeC x c e)
   exact⟨_,q,hd⟩
  ·exact⟨o,keep c o (I.cne x c e) hc nch ho (I.freeC x c e),hd⟩
 refine⟨I.ok,I.os,hg,⟨fun b o e n hb hx=>?_,fun b o e n hb hx=>?_,fun b o e n hx=>?_,fun b o e hx=>?_,fun b xs e=>tups b xs (I.base.tups b xs e),fun b o xs e=>frzs b o xs (I.base.frzs b o xs e),fun b ps e=>?_⟩, ?_,fun x c e=>?_, ?_,fun x c e=>?_,fun p hp=>?_,hok,I.len⟩
 ·exact keep b o (neL b o e) hb (neC b o e hx) (I.base.keep b o e n hb hx) (I.base.free b o e n hx)
 ·obtain⟨sl,e1⟩:=I.base.slot b o e n hb hx
  obtain⟨sl',e2⟩:=slot b _ (neL b o e) hb (neC b o e hx) e1 (I.base.free b o e n hx)
  exact⟨sl',e2⟩
 ·obtain⟨o',e1⟩:=I.base.there b o e hx
  exact free b o' (neC b o e hx) e1 (I.base.free b o e n hx)
 ·obtain⟨o',e1⟩:=I.base.there b o e hx
  exact there b o' (neC b o e hx) e1
 ·obtain⟨m1,e1⟩:=I.base.tbls b ps e
  obtain⟨m2,e2⟩:=tbls b _ e1
  exact⟨m1++m2,by rw[e2,Z4y]⟩
 ·obtain⟨m,hn,hl⟩:=I.loc
  refine⟨m,ns m hn,fun i x v e1 e2 e3=>?_⟩
  obtain⟨u,r,l⟩:=hl i x v e1 e2 e3
  refine⟨u,r, ?_⟩
  rcases l with l|⟨k,c,e,z⟩
  ·exact .inl l
  ·exact .inr ⟨k,c,e,cellK x c e _ z⟩
 ·obtain⟨v,z⟩:=I.cell x c e
  exact⟨v,cellK x c e v z⟩
 ·obtain⟨m,⟨o,_,_,ho,_⟩,_⟩:=I.loc
  exact free _ o (fun z=>(hch _ z).2.1 rfl) ho I.free
 ·obtain⟨v,o,ho,hd⟩:=I.cell x c e
  exact free c o (fun z=>(hch c z).2.2.1 x c e rfl) ho (I.freeC x c e)
 ·obtain⟨e,n,ne,nf,d⟩:=I.pin p hp
  have nch:p.1 ∉ ch:=fun z=>(hch p.1 z).2.2.2 p hp rfl
  exact⟨keep p.1 p.2 ne nf nch e n,free p.1 p.2 nch e n,ne,nf,d⟩
theorem Inv.un{t':Nat}(I:Inv X pins σ H s)(u:Un X.fs [] H H' s.heap h')(hok:HOk X.prog X.w H' h'):Inv X pins σ H' { s with heap:=h',toks:=t' }:=by
 obtain⟨m,⟨o,es,ep,ho,r⟩,_⟩:=id I.loc
 obtain⟨sl,hL⟩:=u.any ho I.free (by simp)
 exact I.step (g':=s.gens) (d':=s.drawn) (ch:=[]) (fun _ z=>nomatch z) (fun b o _ hb _ e n=>u.keep b o e n hb (by simp)) (fun b o _ hb _ e n=>u.slot b o e n hb (by simp)) (fun b o _ e n=>u.free b o e n (by simp)) (fun b o _ e=>u.there b o e (by simp)) u.tups u.frzs u.tbls (fun m' hm=>by
  obtain⟨o',es',ep',ho',r'⟩:=hm
  rw[ho] at ho';cases ho'
  exact⟨_,es',ep',hL,r'⟩) hok I.bare
theorem Inv.call{g':Array GenState}{t':Nat}{d':Drawn}{ch:List Addr}(I:Inv X pins σ H s)(u:Un (frs X.stack) ch H H' s.heap h')(hok:HOk X.prog X.w H' h')(hg:AllBare g')(hch:∀b∈ch,(b∈X.ex\/X.s₀.heap.objs.size<=b)/\b≠X.env.locals/\(∀x c,X.env.cells.lookup x=some c->c≠b)/\∀p∈X.pn++pins,p.1≠b) :
  Inv X pins σ H' { s with heap:=h',gens:=g',drawn:=d',toks:=t' }:=by
 obtain⟨m,⟨o,es,ep,ho,r⟩,_⟩:=id I.loc
 obtain⟨sl,hL⟩:=u.any ho I.free fun z=>(hch _ z).2.1 rfl
 exact I.step (ch:=ch) hch (fun b o hL hb hc e n=>u.keep b o e n (fun z=>(Z3v.mp (I.stkSub b z)).elim hL hb) hc) (fun b o _ _ hc e n=>u.any e n hc) (fun b o hc e n=>u.free b o e n hc) (fun b o hc e=>u.there b o e hc) u.tups u.frzs u.tbls (fun m' hm=>by
  obtain⟨o',es',ep',ho',r'⟩:=hm
  rw[ho] at ho';cases ho'
  exact⟨_,es',ep',hL,r'⟩) hok hg
theorem Inv.turned{t':Nat}{it:Addr}(I:Inv X pins σ H s)(k:∀b o,b≠it->s.heap.get? b=some o->h'.get? b=some o)(hn:H it=none)(hL:it≠X.env.locals)(h1:it∈X.ex\/X.s₀.heap.objs.size<=it)(h2:∀x c,X.env.cells.lookup x=some c->c≠it)(h3:∀p∈X.pn++pins,p.1≠it):Inv X pins σ H { s with heap:=h',toks:=t' }:=by
 have nit:∀b u,H b=some u->b≠it:=fun b u e z=>by rw[z,hn] at e;cases e
 refine I.step (g':=s.gens) (d':=s.drawn) (ch:=[it]) (fun b hb=>?_) (fun b o _ _ hc e _=>k b o (fun z=>hc (by simp[z])) e) (fun b o _ _ hc e _=>⟨o.slots,k b o (fun z=>hc (by simp[z])) e⟩) (fun _ _ _ _ n=>n)
  (fun b o hc e=>⟨o,k b o (fun z=>hc (by simp[z])) e⟩) (fun _ _ e=>e) (fun _ _ _ e=>e) (fun b ps e=>⟨#[],by rw[e];simp⟩) (fun m hm=>?_) (fun b u e=>?_) I.bare
 ·have e:b=it:=by simpa using hb
  subst e
  exact⟨h1,hL,h2,h3⟩
 ·obtain⟨o,es,ep,ho,r⟩:=hm
  exact⟨o,es,ep,k _ o (Ne.symm hL) ho,r⟩
 ·refine(I.hok b u e).stay (fun c v hc q=>k c v ?_ q) (fun _ q=>q) fun _ _ q=>q
  rcases hc with z|z
  ·rw[z];exact nit b u e
  ·exact nit c _ z
theorem Inv.tok(I:Inv X pins σ H s)(t:Nat):Inv X pins σ H { s with toks:=t }:=I.un (h':=s.heap) (t':=t) Un.refl I.hok
theorem Inv.kept{t':Nat}(I:Inv X pins σ H s)(k:∀b u,s.heap.get? b=some u->h'.get? b=some u):Inv X pins σ H { s with heap:=h',toks:=t' }:=I.un (Un.kept k) (I.hok.kept k)
theorem Inv.laid{a:Addr}{o:HO}{t':Nat}(I:Inv X pins σ H s)(k:∀b u,s.heap.get? b=some u->h'.get? b=some u)(hp:s.heap.objs.size<=a)(new:Vk X.prog X.w (upd H a o) h' a o) :
  Inv X pins σ (upd H a o) { s with heap:=h',toks:=t' }:=I.un (Un.laid k hp (I.hok.fresh hp)) (I.hok.laid k hp new)
theorem Inv.write{x e:Addr}{o:HO}{t':Nat}(I:Inv X pins σ H s)(mu:Mut (H x))(he:e=x\/H e=some (.own x))(k:∀b u,b≠e->s.heap.get? b=some u->h'.get? b=some u)(heo:∃u,h'.get? e=some u)(new:Vk X.prog X.w (upd H x o) h' x o):Inv X pins σ (upd H x o) { s with heap:=h',toks:=t' }:=I.un (Un.write mu he k heo) (I.hok.write mu he k heo new)
theorem Inv.weak{σ':List (Option V)}(I:Inv X pins σ H s)(hl:σ'.length=σ.length)(w:∀(i:Nat) v,σ'[i]?=some (some v)->σ[i]?=some (some v)):Inv X pins σ' H s:=
 ⟨I.ok,I.os,I.bare,I.base,let ⟨m,hn,hl'⟩:=I.loc;⟨m,hn,fun i x v e1 e2 e3=>hl' i x v e1 (w i v e2) e3⟩,I.cell,I.free,I.freeC,I.pin,I.hok,hl.trans I.len⟩
theorem Inv.pins_of{pins':List (Addr×Obj)}(I:Inv X pins σ H s)(h:∀p∈pins',s.heap.get? p.1=some p.2/\H p.1=none/\p.1≠X.env.locals/\p.1 ∉ X.fs/\∀v,p.2.data≠.cell v):Inv X pins' σ H s:=
 ⟨I.ok,I.os,I.bare,I.base,I.loc,I.cell,I.free,I.freeC,fun p hp=>(Z3q.mp hp).elim (fun z=>I.pin p (Z3s _ z)) (h p),I.hok,I.len⟩
theorem Ze9{N:List Str}(hN:N.Nodup){i j:Nat}{x:Str}(a:N[i]?=some x)(b:N[j]?=some x):i=j:=by
 obtain⟨h1,e1⟩:=Z37.mp a
 obtain⟨h2,e2⟩:=Z37.mp b
 exact(List.getElem_inj hN).mp (e1.trans e2.symm)
theorem Zdu{M:Model}{A:Around}{E:Value->Shared->Prop}{i:Nat}{x:Str}{v:V}{u:Value}{Q:Unit->Shared->Prop}(I:Inv X pins σ H s)(hN:X.N.Nodup)(hi:X.N[i]?=some x)(hx:Loc X.env.scope x)(r:JY v u)(h:∀s',Inv X pins (σ.set i (some v)) H s'->(∃a,Heap.SameBut a s.heap s'.heap/\(a=X.env.locals\/X.env.cells.lookup x=some a))->Q () s')(hf:X.fn x=true\/X.env.scope.names.lookup x=some .local):wpAny M A (storeName X.env x u) Q E s:=by
 obtain⟨m,hn,hl⟩:=id I.loc
 have hcls:(X.env.scope.kind==.class || (X.env.scope.kind==.module&&X.env.locals != X.env.globals))=false:=by rw[I.ok.kind];rfl
 have hiσ:i<σ.length:=by rw[I.len];exact(Z37.mp hi).1
 have cne:=I.cne
 have tracked:∀{a:Addr}{h':Heap},(∃o,s.heap.get? a=some o/\H a=none)->Heap.SameBut a s.heap h'->HOk X.prog X.w H h':=fun {a h'} ha hs b ob e=>by
  obtain⟨_,_,hfree⟩:=ha
  refine(I.hok b ob e).stay (fun c w' hc q=>(hs.2 c ?_).trans q) (fun _ q=>q) fun _ _ q=>q
  rintro rfl
  rcases hc with rfl|hc
  ·rw[hfree] at e;cases e
  ·rw[hfree] at hc;cases hc
 rcases hx with hk|hk
 ·refine wpAny_storeName_local hk hn (fun h' hn' hs=>?_) hcls
  obtain⟨oL,_,_,hoL,_⟩:=id hn
  refine h _ ⟨I.ok,I.os,I.bare,⟨fun b o e n hb hx=>?_,fun b o e n hb hx=>?_,I.base.free,fun b o e hx=>?_,I.base.tups,I.base.frzs,I.base.tbls⟩,⟨_,hn',fun j y v' e1 e2 e3=>?_⟩,fun y c e=>?_,I.free,I.freeC,fun p hp=>?_,tracked ⟨oL,hoL,I.free⟩ hs,by simpa using I.len⟩ ⟨_,hs,.inl rfl⟩
  ·exact(hs.2 b (Z3B (Z3z (Heap.lt_size e) I.ok.above))).trans (I.base.keep b o e n hb hx)
  ·obtain⟨sl,e1⟩:=I.base.slot b o e n hb hx
   exact⟨sl,(hs.2 b (Z3B (Z3z (Heap.lt_size e) I.ok.above))).trans e1⟩
  ·obtain⟨o',e1⟩:=I.base.there b o e hx
   exact⟨o',(hs.2 b (Z3B (Z3z (Heap.lt_size e) I.ok.above))).trans e1⟩
  ·by_cases hj:j=i
   ·subst hj
    rw[hi] at e1;cases e1
    rw[Z3C hiσ] at e2
    cases e2
    exact⟨u,r,.inl ⟨hk,by simp⟩⟩
   ·rw[Z3H (Ne.symm hj)] at e2
    obtain⟨u',r',q⟩:=hl j y v' e1 e2 e3
    refine⟨u',r', ?_⟩
    rcases q with ⟨k,e⟩|⟨k,c,e,z⟩
    ·refine .inl ⟨k, ?_⟩
     have:y≠x:=fun e=>hj (Ze9 hN e1 (e▸hi))
     simp[this,e]
    ·exact .inr ⟨k,c,e,z.sameBut hs (cne y c e)⟩
  ·obtain⟨w',z⟩:=I.cell y c e
   exact⟨w',z.sameBut hs (cne y c e)⟩
  ·obtain⟨e,n,ne,nf,d⟩:=I.pin p hp
   exact⟨(hs.2 p.1 ne).trans e,n,ne,nf,d⟩
 ·have hfn:X.fn x=true:=by
   rcases hf with z|z
   ·exact z
   ·rw[z] at hk;cases hk
  obtain⟨c,hc⟩:=I.ok.has x (.inl hk)
  obtain⟨w',z⟩:=I.cell x c hc
  refine wpAny_storeName_cell I.ok.kind hk hc z (fun h' hc' hs=>?_)
  obtain⟨oc,hoc,hocd⟩:=id z
  refine h { s with heap:=h' } ⟨I.ok,I.os,I.bare,⟨fun b o e n hb hx=>?_,fun b o e n hb hx=>?_,I.base.free,fun b o e hx=>?_,I.base.tups,I.base.frzs,I.base.tbls⟩,⟨m,hn.sameBut hs (Ne.symm (cne x c hc)),fun j y v' e1 e2 e3=>?_⟩,fun y c' e=>?_,I.free,I.freeC,fun p hp=>?_,tracked ⟨oc,hoc,I.freeC x c hc⟩ hs,by simpa using I.len⟩ ⟨c,hs,.inr hc⟩
  ·exact(hs.2 b (Z3B (Z3z (Heap.lt_size e) (I.ok.cab x c hfn hc)))).trans (I.base.keep b o e n hb hx)
  ·obtain⟨sl,e1⟩:=I.base.slot b o e n hb hx
   exact⟨sl,(hs.2 b (Z3B (Z3z (Heap.lt_size e) (I.ok.cab x c hfn hc)))).trans e1⟩
  ·obtain⟨o',e1⟩:=I.base.there b o e hx
   exact⟨o',(hs.2 b (Z3B (Z3z (Heap.lt_size e) (I.ok.cab x c hfn hc)))).trans e1⟩
  ·by_cases hj:j=i
   ·subst hj
    rw[hi] at e1;cases e1
    rw[Z3C hiσ] at e2
    cases e2
    exact⟨u,r,.inr ⟨.inl hk,c,hc,hc'⟩⟩
   ·rw[Z3H (Ne.symm hj)] at e2
    obtain⟨u',r',q⟩:=hl j y v' e1 e2 e3
    refine⟨u',r', ?_⟩
    rcases q with q|⟨k,c',e,z'⟩
    ·exact .inl q
    ·refine .inr ⟨k,c',e,z'.sameBut hs ?_⟩
     rintro rfl
     exact hj (Ze9 hN e1 (I.ok.inj _ _ _ e hc▸hi))
  ·by_cases hcc:c'=c
   ·subst hcc;exact⟨_,hc'⟩
   ·obtain⟨w2,z2⟩:=I.cell y c' e
    exact⟨w2,z2.sameBut hs hcc⟩
  ·obtain⟨e,n,ne,nf,d⟩:=I.pin p hp
   refine⟨(hs.2 p.1 ?_).trans e,n,ne,nf,d⟩
   intro q
   rw[q,hoc] at e
   have q':oc=p.2:=Option.some.inj e
   exact d w' (by rw[<- q'];exact hocd)
theorem QJ{M:Model}{A:Around}{E:Value->Shared->Prop}{i:Nat}{x:Str}{v:V}{u:Value}{Q:Unit->Shared->Prop}(I:Inv X pins σ H s)(hN:X.N.Nodup)(hi:X.N[i]?=some x)(hx:Loc X.env.scope x)(r:JY v u)(h:∀s',Inv X pins (σ.set i (some v)) H s'->Q () s')(hf:X.fn x=true\/X.env.scope.names.lookup x=some .local):wpAny M A (storeName X.env x u) Q E s:=
 Zdu I hN hi hx r (fun s' I' _=>h s' I') hf
theorem Inv.call'{s':Shared}{ch:List Addr}(I:Inv X pins σ H s)(ho:s'.os=s.os)(u:Un (frs X.stack) ch H H' s.heap s'.heap)(hok:HOk X.prog X.w H' s'.heap)(hg:AllBare s'.gens)(hch:∀b∈ch,(b∈X.ex\/X.s₀.heap.objs.size<=b)/\b≠X.env.locals/\(∀x c,X.env.cells.lookup x=some c->c≠b)/\∀p∈X.pn++pins,p.1≠b):Inv X pins σ H' s':=by
 obtain⟨h',g',d',t',o'⟩:=s'
 have e:o'=s.os:=ho
 subst e
 exact I.call (g':=g') (t':=t') (d':=d') u hok hg hch
end
noncomputable abbrev XK:=Value->Option Addr->Hp->Prop
noncomputable abbrev St:=List (Option V)
noncomputable abbrev VK:=V->Hp->Prop
noncomputable abbrev TE:=St->Hp->VK->Prop
noncomputable abbrev TT:=St->Hp->(Bool->Hp->Prop)->Prop
noncomputable abbrev TA:=St->Hp->(List V->Hp->Prop)->Prop
structure Zj7 where
 nx:St->Hp->Prop
 rt:VK
 bk:St->Hp->Prop:=fun _ _=>False
 ct:St->Hp->Prop:=fun _ _=>False
noncomputable abbrev TS:=Zj7->St->Hp->Prop
def EP(X:Cx)(pins:List (Addr×Obj))(σ:St)(Q:VK)(u:Value)(s':Shared):Prop:=∃v H',Inv X pins σ H' s'/\JY v u/\Q v H'
def TP(X:Cx)(pins:List (Addr×Obj))(σ:St)(Q:Bool->Hp->Prop)(b:Bool)(s':Shared):Prop:=∃H',Inv X pins σ H' s'/\Q b H'
def AP(X:Cx)(pins:List (Addr×Obj))(σ:St)(Q:List V->Hp->Prop)(us:List Value)(s':Shared):Prop:=∃vs H',Inv X pins σ H' s'/\Jk vs us/\Q vs H'
def SP(X:Cx)(pins:List (Addr×Obj))(D:Zj7)(f:Flow)(s':Shared):Prop:=
 match f with
 |.next=>∃σ' H',Inv X pins σ' H' s'/\D.nx σ' H'
 |.brk=>∃σ' H',Inv X pins σ' H' s'/\D.bk σ' H'
 |.cont=>∃σ' H',Inv X pins σ' H' s'/\D.ct σ' H'
 |.ret u=>∃v σ' H',Inv X pins σ' H' s'/\JY v u/\D.rt v H'
def PE(X:Cx)(e:Expr)(t:TE):Prop:=
 ∀(pins:List (Addr×Obj)) (s:Shared) (σ:St) (H:Hp) (Q:VK),Inv X pins σ H s->t σ H Q->wpAny (model X.prog X.w) X.A (eval e X.env) (EP X pins σ Q) X.xe s
def PT(X:Cx)(e:Expr)(t:TT):Prop:=
 ∀(pins:List (Addr×Obj)) (s:Shared) (σ:St) (H:Hp) (Q:Bool->Hp->Prop),Inv X pins σ H s->t σ H Q->wpAny (model X.prog X.w) X.A (isTrue e X.env (eval e X.env)) (TP X pins σ Q) X.xe s
def PW(X:Cx)(e:Expr)(t:TT):Prop:=
 ∀(whole:Sem Value) (pins:List (Addr×Obj)) (s:Shared) (σ:St) (H:Hp) (Q:Bool->Hp->Prop),Inv X pins σ H s->t σ H Q->wpAny (model X.prog X.w) X.A (isTrue e X.env whole) (TP X pins σ Q) X.xe s
theorem PW.pt{X:Cx}{e:Expr}{t:TT}(h:PW X e t):PT X e t:=h _
def PA(X:Cx)(es:List Expr)(t:TA):Prop:=
 ∀(pos:Pos) (pins:List (Addr×Obj)) (s:Shared) (σ:St) (H:Hp) (Q:List V->Hp->Prop),Inv X pins σ H s->t σ H Q->wpAny (model X.prog X.w) X.A (spliced (backTo pos (starEach es X.env))) (AP X pins σ Q) X.xe s
def PS(X:Cx)(st:Stmt)(t:TS):Prop:=
 ∀(pins:List (Addr×Obj)) (s:Shared) (σ:St) (H:Hp) (D:Zj7),Inv X pins σ H s->t D σ H->wpAny (model X.prog X.w) X.A (exec st X.env) (SP X pins D) X.xe s
def PSs(X:Cx)(st:List Stmt)(t:TS):Prop:=
 ∀(pins:List (Addr×Obj)) (s:Shared) (σ:St) (H:Hp) (D:Zj7),Inv X pins σ H s->t D σ H->wpAny (model X.prog X.w) X.A (execs st X.env) (SP X pins D) X.xe s
theorem thn{α:Type}{t:Sem α}{Q Q':α->Shared->Prop}{M:Model}{A:Around}{E:Value->Shared->Prop}{s:Shared}(h:wpAny M A t Q E s)(hQ:∀a s,Q a s->Q' a s):wpAny M A t Q' E s:=wpAny_mono h hQ fun _ _ x=>x
section
variable {X:Cx}
noncomputable def Zj2(i:Nat):TE:=fun σ H Q=>∃v,σ[i]?=some (some v)/\Q v H
noncomputable def tC(v:V):TE:=fun _ H Q=>Q v H
theorem ZqP{i:Nat}{x:Str}{pos:Pos}(hN:X.N[i]?=some x)(hv:Vis X.env.scope x)(hd:(x==("__debug__":Str))=false:=by decide)(hcd:(x==("__classdict__":Str))=false:=by decide):PE X (.Name x pos) (Zj2 i):=by
 intro pins s σ H Q I h
 obtain⟨v,e,h⟩:=h
 obtain⟨m,hn,hl⟩:=I.loc
 obtain⟨u,r,l⟩:=hl i x v hN e hv
 have fin:EP X pins σ Q u s:=⟨v,H,I,r,h⟩
 rcases l with ⟨hk,hm⟩|⟨hk,c,hc,hcell⟩
 ·exact wpAny_Name (wpAny_loadName_local I.ok.kind hk hn hm fin) hd
 ·rcases hk with hk|hk
  ·exact wpAny_Name (wpAny_loadName_cell I.ok.kind hk hc hcell fin) hd
  ·exact wpAny_Name (wpAny_loadName_free I.ok.kind hk hc hcell fin hcd) hd
theorem Zt{i j pos}:PE X (.Constant (.int i) j pos) (tC (.int i)):=fun _ _ _ H _ I h=>wpAny_Constant_int ⟨.int i,H,I.tok _,⟨_,rfl⟩,h⟩
theorem Zkl{b j pos}:PE X (.Constant (.bool b) j pos) (tC (.bl b)):=fun _ _ _ H _ I h=>Constant_bool ⟨.bl b,H,I,rfl,h⟩
theorem ZqS{j pos}:PE X (.Constant .none j pos) (tC .non):=fun _ _ _ H _ I h=>Constant_none ⟨.non,H,I,rfl,h⟩
theorem Zj{x j pos}:PE X (.Constant (.str x) j pos) (tC (.str x)):=fun _ _ _ H _ I h=>Calls.Constant_str ⟨.str x,H,I.tok _,⟨_,rfl⟩,h⟩
def Gl(X:Cx)(x:Str):Prop:=X.env.kindOf x=some .globalImplicit
theorem Uc{E:Value->Shared->Prop}{pins:List (Addr×Obj)}{s:Shared}{σ:St}{H:Hp}{x:Str}{u:Value}{pos:Pos}{Q:Value->Shared->Prop}(I:Inv X pins σ H s)(hg:Gl X x)(hm:X.mg x=some u)(h:Q u s)(hd:(x==("__debug__":Str))=false:=by decide):wpAny (model X.prog X.w) X.A (eval (.Name x pos) X.env) Q E s:=
 Calls.Name_function_global I.ok.kind hg (Calls.loadGlobal_global (by rw[I.ok.glob];exact I.mod.glob.keeps I.bk) hm h) hd
theorem ZfF{E:Value->Shared->Prop}{pins:List (Addr×Obj)}{s:Shared}{σ:St}{H:Hp}{x:Str}{u:Value}{pos:Pos}{Q:Value->Shared->Prop}(I:Inv X pins σ H s)(hg:Gl X x)(hm:X.mg x=none)(hv:bootBuiltins x=some u)(h:Q u s)(hn:x ≠ "__name__":=by decide)(hd:(x==("__debug__":Str))=false:=by decide):wpAny (model X.prog X.w) X.A (eval (.Name x pos) X.env) Q E s:=by
 obtain⟨mb,h1,h2⟩:=I.mod.blt
 exact Calls.Name_function_global I.ok.kind hg (Calls.loadGlobal_builtin (by rw[I.ok.glob];exact I.mod.glob.keeps I.bk) hm (by rw[I.ok.blt];exact h1.keeps I.bk) ((h2 x hn).trans hv) h) hd
theorem Zd1{x:Str}{v:V}{u:Value}{pos:Pos}(hg:Gl X x)(hm:X.mg x=some u)(r:JY v u)(hd:(x==("__debug__":Str))=false:=by decide):PE X (.Name x pos) (tC v):=
 fun _ _ _ H _ I h=>Uc I hg hm ⟨v,H,I,r,h⟩ hd
theorem VA{x:Str}{v:V}{u:Value}{pos:Pos}(hg:Gl X x)(hm:X.mg x=none)(hv:bootBuiltins x=some u)(r:JY v u)(hn:x ≠ "__name__":=by decide)(hd:(x==("__debug__":Str))=false:=by decide):PE X (.Name x pos) (tC v):=
 fun _ _ _ H _ I h=>ZfF I hg hm hv ⟨v,H,I,r,h⟩ hn hd
variable {a b:Expr}{ta tb:TE}{pos:Pos}
def PC(X:Cx)(op:CmpOp)(a b:Expr)(t:TE):Prop:=
 ∀(pins:List (Addr×Obj)) (s:Shared) (σ:St) (H:Hp) (Q:VK),Inv X pins σ H s->t σ H Q ->
  wpAny (model X.prog X.w) X.A (eval a X.env) (fun v s₁=>wpAny (model X.prog X.w) X.A (eval b X.env) (fun u s₂=>wpAny (model X.prog X.w) X.A (compareOp op v u) (EP X pins σ Q) X.xe s₂) X.xe s₁) X.xe s
theorem Zs2(b:Expr){op:CmpOp}(h:op≠.In)(h2:op≠.NotIn):behindInMarks op b=false:=by
 have e1:(op==CmpOp.In)=false:=by cases op<;>first|rfl|exact absurd rfl h
 have e2:(op==CmpOp.NotIn)=false:=by cases op<;>first|rfl|exact absurd rfl h2
 cases b<;>simp[behindInMarks,e1,e2]
noncomputable def tB(t:TE):TT:=fun σ H Q=>t σ H fun x H1=>∃c,x=.bl c/\Q c H1
theorem Zkd{op:CmpOp}{t:TE}(h:PC X op a b t)(h1:behindInMarks op b=false:=by rfl):PT X (.Compare a [op] [b] pos) (tB t):=by
 intro pins s σ H Q I hw
 refine wpAny_isTrue_Compare1 (thn (h pins s σ H _ I hw) fun v s1 h1=>thn h1 fun u s2 h2=>thn h2 fun c s3 ⟨x,H1,I1,r1,q1⟩=>?_) h1
 obtain⟨d,rfl,q⟩:=q1
 cases r1
 exact wpAny_truthy_bool ⟨H1,I1,q⟩
theorem JJ{e:Expr}{t:TE}(h:PE X e t)(he:∀whole,isTrue e X.env whole=(do let v <- whole;standAt e.pos;holding [v] (truthy v)):=by exact fun _=>rfl):PT X e (tB t):=by
 intro pins s σ H Q I hw
 refine isTrue_plain (thn (h pins s σ H _ I hw) fun v s1 ⟨x,H1,I1,r1,q1⟩=>?_) (he _)
 obtain⟨d,rfl,q⟩:=q1
 cases r1
 exact wpAny_truthy_bool ⟨H1,I1,q⟩
variable {tA tB':TT}{Zgi:List Expr}
noncomputable def Zub(t u:TT):TT:=fun σ H Q=>t σ H fun c H1=>if c=true then u σ H1 Q else Q false H1
noncomputable def tOr(t u:TT):TT:=fun σ H Q=>t σ H fun c H1=>if c=true then Q true H1 else u σ H1 Q
noncomputable def ZtW(t:TT):TT:=fun σ H Q=>t σ H fun c H1=>Q (!c) H1
theorem VO(ha:PT X a tA):PW X (.BoolOp .And [a] pos) tA:=by
 intro wh pins s σ H Q I h
 refine isTrue_and (thn (ha pins s σ H Q I h) fun c s1 e=>?_)
 cases c with
 |true=>exact isTrue_and_nil e
 |false=>exact e
theorem V6(ha:PT X a tA):PW X (.BoolOp .Or [a] pos) tA:=by
 intro wh pins s σ H Q I h
 refine isTrue_or (thn (ha pins s σ H Q I h) fun c s1 e=>?_)
 cases c with
 |false=>exact isTrue_or_nil e
 |true=>exact e
theorem U8(ha:PT X a tA)(hb:PW X (.BoolOp .And (b::Zgi) pos) tB'):PW X (.BoolOp .And (a::b::Zgi) pos) (Zub tA tB'):=by
 intro wh pins s σ H Q I h
 refine isTrue_and (thn (ha pins s σ H _ I h) fun c s1 ⟨H1,I1,q1⟩=>?_)
 cases c with
 |true=>exact hb wh pins s1 σ H1 Q I1 q1
 |false=>exact⟨H1,I1,q1⟩
theorem UC(ha:PT X a tA)(hb:PW X (.BoolOp .Or (b::Zgi) pos) tB'):PW X (.BoolOp .Or (a::b::Zgi) pos) (tOr tA tB'):=by
 intro wh pins s σ H Q I h
 refine isTrue_or (thn (ha pins s σ H _ I h) fun c s1 ⟨H1,I1,q1⟩=>?_)
 cases c with
 |true=>exact⟨H1,I1,q1⟩
 |false=>exact hb wh pins s1 σ H1 Q I1 q1
theorem Vy(ha:PT X a tA):PT X (.UnaryOp .Not a pos) (ZtW tA):=by
 intro pins s σ H Q I h
 exact isTrue_not (ha pins s σ H (fun c H1=>Q (!c) H1) I h)
noncomputable def ZqC(ta tb:TE):TE:=fun σ H Q=>ta σ H fun x H1=>∃c,x=.bl c/\if c=true then tb σ H1 Q else Q (.bl false) H1
noncomputable def ZtV(ta tb:TE):TE:=fun σ H Q=>ta σ H fun x H1=>∃c,x=.bl c/\if c=true then Q (.bl true) H1 else tb σ H1 Q
noncomputable def Zq7(ta:TE):TE:=fun σ H Q=>ta σ H fun x H1=>∃c,x=.bl c/\Q (.bl (!c)) H1
theorem Zd0{op}{t:TE}(h:PE X a t):PE X (.BoolOp op [a] pos) t:=fun pins s σ H Q I hw=>BoolOp_one (h pins s σ H Q I hw)
theorem Zeg(ha:PE X a ta)(hb:PE X (.BoolOp .And (b::Zgi) pos) tb):PE X (.BoolOp .And (a::b::Zgi) pos) (ZqC ta tb):=by
 intro pins s σ H Q I h
 refine BoolOp_and (thn (ha pins s σ H _ I h) fun v s1 ⟨x,H1,I1,r1,q1⟩=>?_)
 obtain⟨c,rfl,q1⟩:=q1
 cases r1
 refine wpAny_truthy_bool ?_
 cases c with
 |true=>exact hb pins s1 σ H1 Q I1 q1
 |false=>exact⟨.bl false,H1,I1,rfl,q1⟩
theorem ZsR(ha:PE X a ta)(hb:PE X (.BoolOp .Or (b::Zgi) pos) tb):PE X (.BoolOp .Or (a::b::Zgi) pos) (ZtV ta tb):=by
 intro pins s σ H Q I h
 refine BoolOp_or (thn (ha pins s σ H _ I h) fun v s1 ⟨x,H1,I1,r1,q1⟩=>?_)
 obtain⟨c,rfl,q1⟩:=q1
 cases r1
 refine wpAny_truthy_bool ?_
 cases c with
 |false=>exact hb pins s1 σ H1 Q I1 q1
 |true=>exact⟨.bl true,H1,I1,rfl,q1⟩
theorem ZqR(ha:PE X a ta):PE X (.UnaryOp .Not a pos) (Zq7 ta):=by
 intro pins s σ H Q I h
 refine UnaryOp_ (thn (ha pins s σ H _ I h) fun v s1 ⟨x,H1,I1,r1,q1⟩=>?_)
 obtain⟨c,rfl,q1⟩:=q1
 cases r1
 exact not_of (wpAny_truthy_bool ⟨.bl (!c),H1,I1,rfl,q1⟩)
noncomputable def tIf(t:TT)(ta tb:TE):TE:=fun σ H Q=>t σ H fun c H1=>if c=true then ta σ H1 Q else tb σ H1 Q
theorem Zmq{c:Expr}(hc:PT X c tA)(ha:PE X a ta)(hb:PE X b tb):PE X (.IfExp c a b pos) (tIf tA ta tb):=by
 intro pins s σ H Q I h
 refine wpAny_IfExp (thn (hc pins s σ H _ I h) fun d s1 ⟨H1,I1,q1⟩=>?_)
 cases d with
 |true=>exact ha pins s1 σ H1 Q I1 q1
 |false=>exact hb pins s1 σ H1 Q I1 q1
end
def SqL(K:W.Frag)(H:Hp)(a:Addr)(xs:List V):Prop:=
 Rd H a (.lst xs) \/
  ∃(o:Obj) (its:Array Value) (n:Nat),K.lookup a=some o/\o.cls=.type "list"/\o.dict=none/\o.data=.seq its n/\its.size<=sizeLine/\Jk xs its.toList
def SqT(K:W.Frag)(H:Hp)(a:Addr)(xs:List V):Prop:=
 Rd H a (.tup xs) \/
  ∃(o:Obj) (its:Array Value) (n:Nat),K.lookup a=some o/\o.cls=.type "tuple"/\o.data=.seq its n/\its.size<=sizeLine/\Jk xs its.toList
noncomputable def ZuG:Value->Option V
 |.none=>some .non
 |.bool b=>some (.bl b)
 |.int i _=>some (.int i)
 |.str x _=>some (.str x)
 |.bytes b _=>some (.byt b)
 |.float b _=>some (.flt b)
 |.ref a=>some (.ref a)
 |.type n=>some (.ty n)
 |_=>none
theorem JY.abs{x:V}{u:Value}(r:JY x u):ZuG u=some x:=by
 cases x with
 |non=>cases r;rfl
 |bl _=>cases r;rfl
 |int _=>obtain⟨t,rfl⟩:=r;rfl
 |str _=>obtain⟨t,rfl⟩:=r;rfl
 |byt _=>obtain⟨t,rfl⟩:=r;rfl
 |flt _=>obtain⟨t,rfl⟩:=r;rfl
 |ref _=>cases r;rfl
 |ty _=>cases r;rfl
theorem JY.inj{x y:V}{u:Value}(r:JY x u)(q:JY y u):x=y:=Option.some.inj (r.abs.symm.trans q.abs)
theorem Jk.inj:∀{xs ys:List V}{us:List Value},Jk xs us->Jk ys us->xs=ys
 |_,_,_,.nil,.nil=>rfl
 |_,_,_,.cons r t,.cons r' t'=>by rw[r.inj r',Jk.inj t t']
section
variable {X:Cx}{pins:List (Addr×Obj)}{σ:St}{H:Hp}{s:Shared}{a:Addr}{xs ys:List V}
theorem SqL.of{K:W.Frag}(h:H a=some (.lst xs)):SqL K H a xs:=.inl (.inl h)
theorem SqT.of{K:W.Frag}(h:H a=some (.tup xs)):SqT K H a xs:=.inl (.inl h)
theorem Inv.list(I:Inv X pins σ H s)(h:SqL X.K H a xs):∃its:List Value,Jk xs its/\PlainL s.heap a its.toArray/\xs.length<=sizeLine:=by
 rcases h with h|⟨o,its,n,hk,hc,hd,hs,hz,r⟩
 ·obtain⟨z,its,n,r,e⟩:=h.ok I.hok
  exact⟨its,r,⟨_,n,e,rfl,rfl,rfl⟩,z⟩
 ·refine⟨its.toList,r,⟨o,n,I.kIn a o hk,hc,hd,by simpa using hs⟩, ?_⟩
  have e:=r.length
  simp only[Array.length_toList] at e
  omega
theorem Inv.tuple(I:Inv X pins σ H s)(h:SqT X.K H a xs):∃its:List Value,Jk xs its/\IsTup s.heap a its.toArray/\xs.length<=sizeLine:=by
 rcases h with h|⟨o,its,n,hk,hc,hs,hz,r⟩
 ·obtain⟨z,its,r,p⟩:=h.ok I.hok
  exact⟨its,r,p,z⟩
 ·refine⟨its.toList,r,⟨o,I.kIn a o hk,hc,n,by simpa using hs⟩, ?_⟩
  have e:=r.length
  simp only[Array.length_toList] at e
  omega
theorem Inv.list_inj(I:Inv X pins σ H s)(h:SqL X.K H a xs)(h':SqL X.K H a ys):xs=ys:=by
 obtain⟨its,r,⟨o,n,e,_,_,d⟩,_⟩:=I.list h
 obtain⟨its',r',⟨o',n',e',_,_,d'⟩,_⟩:=I.list h'
 rw[e] at e';cases e'
 rw[d] at d'
 injection d' with d1 _
 have:its=its':=by simpa using congrArg Array.toList d1
 subst this
 exact r.inj r'
theorem Inv.tuple_inj(I:Inv X pins σ H s)(h:SqT X.K H a xs)(h':SqT X.K H a ys):xs=ys:=by
 obtain⟨its,r,⟨o,e,_,n,d⟩,_⟩:=I.tuple h
 obtain⟨its',r',⟨o',e',_,n',d'⟩,_⟩:=I.tuple h'
 rw[e] at e';cases e'
 rw[d] at d'
 injection d' with d1 _
 have:its=its':=by simpa using congrArg Array.toList d1
 subst this
 exact r.inj r'
end
noncomputable abbrev Cx.wish(X:Cx)(E:Value->Shared->Prop):Cx:={ X with xe:=E }
noncomputable abbrev Cx.nox(X:Cx):Cx:=X.wish fun _ _=>False
theorem Cx.Ok.wish{X:Cx}(ok:X.Ok)(E:Value->Shared->Prop):(X.wish E).Ok:=
 ⟨ok.mod,ok.kind,ok.glob,ok.blt,ok.above,ok.inj,ok.has,ok.cab,ok.hd,ok.frames,ok.stk,ok.exf,ok.bs,ok.bsz,ok.noex,ok.exfs,ok.funs,ok.frf⟩
theorem Cx.Ok.unwish{X:Cx}{E:Value->Shared->Prop}(ok:(X.wish E).Ok):X.Ok:=
 ⟨ok.mod,ok.kind,ok.glob,ok.blt,ok.above,ok.inj,ok.has,ok.cab,ok.hd,ok.frames,ok.stk,ok.exf,ok.bs,ok.bsz,ok.noex,ok.exfs,ok.funs,ok.frf⟩
section
variable {X:Cx}{pins:List (Addr×Obj)}{σ:St}{H:Hp}{s:Shared}{E:Value->Shared->Prop}
theorem Inv.wish(I:Inv X pins σ H s)(E:Value->Shared->Prop):Inv (X.wish E) pins σ H s:=⟨I.ok.wish E,I.os,I.bare,I.base,I.loc,I.cell,I.free,I.freeC,I.pin,I.hok,I.len⟩
theorem Inv.unwish(I:Inv (X.wish E) pins σ H s):Inv X pins σ H s:=⟨I.ok.unwish,I.os,I.bare,I.base,I.loc,I.cell,I.free,I.freeC,I.pin,I.hok,I.len⟩
theorem SP.unwish{D:Zj7}{f:Flow}{s':Shared}(h:SP (X.wish E) pins D f s'):SP X pins D f s':=by
 cases f with
 |next=>obtain⟨σ',H',I,q⟩:=h;exact⟨σ',H',I.unwish,q⟩
 |brk=>obtain⟨σ',H',I,q⟩:=h;exact⟨σ',H',I.unwish,q⟩
 |cont=>obtain⟨σ',H',I,q⟩:=h;exact⟨σ',H',I.unwish,q⟩
 |ret u=>obtain⟨v,σ',H',I,r,q⟩:=h;exact⟨v,σ',H',I.unwish,r,q⟩
theorem PE.nox{e:Expr}{t:TE}(h:PE X.nox e t):PE X e t:=fun pins s σ H Q I hw =>
 wpAny_mono (h pins s σ H Q (I.wish _) hw) (fun _ _ ⟨v,H',I',r,q⟩=>⟨v,H',I'.unwish,r,q⟩) fun _ _ z=>False.elim z
theorem PT.nox{e:Expr}{t:TT}(h:PT X.nox e t):PT X e t:=fun pins s σ H Q I hw =>
 wpAny_mono (h pins s σ H Q (I.wish _) hw) (fun _ _ ⟨H',I',q⟩=>⟨H',I'.unwish,q⟩) fun _ _ z=>False.elim z
theorem PSs.nox{st:List Stmt}{t:TS}(h:PSs X.nox st t):PSs X st t:=fun pins s σ H D I hw =>
 wpAny_mono (h pins s σ H D (I.wish _) hw) (fun _ _ q=>q.unwish) fun _ _ z=>False.elim z
end
section
variable {X:Cx}{st:Stmt}{Zgi:List Stmt}{t u:TS}{e:Expr}{te:TE}{pos:Pos}
noncomputable def Zq8:TS:=fun D σ H=>D.nx σ H
noncomputable def ZtU(t u:TS):TS:=fun D σ H=>t { D with nx:=u D } σ H
theorem ZH:PSs X [] Zq8:=fun _ _ σ H _ I h=>wpAny_execs_nil ⟨σ,H,I,h⟩
theorem Zh(h1:PS X st t)(h2:PSs X Zgi u):PSs X (st::Zgi) (ZtU t u):=by
 intro pins s σ H D I h
 refine wpAny_execs_cons (thn (h1 pins s σ H { D with nx:=u D } I h) fun f s1 q=>?_)
 cases f with
 |next =>
  obtain⟨σ',H',I',q⟩:=q
  exact h2 pins s1 σ' H' D I' q
 |ret v=>exact q
 |brk=>exact q
 |cont=>exact q
theorem Zo(h1:PS X st t):PSs X [st] t:=by
 intro pins s σ H D I h
 refine wpAny_execs_cons (thn (h1 pins s σ H D I h) fun f s1 q=>?_)
 cases f with
 |next=>exact wpAny_execs_nil q
 |ret v=>exact q
 |brk=>exact q
 |cont=>exact q
theorem Inv.quiet{pins:List (Addr×Obj)}{σ:St}{H:Hp}{s:Shared}(I:Inv X pins σ H s):interactive X.env=false:=by simp[interactive,I.ok.kind]
noncomputable def Zme(te:TE):TS:=fun D σ H=>te σ H fun _ H1=>D.nx σ H1
theorem ZJ(he:PE X e te)(hs:swapsWith e none pos.line X.env=pure false:=by rfl):PS X (.Expr e pos) (Zme te):=by
 intro pins s σ H D I h
 exact wpAny_Expr_any (thn (he pins s σ H _ I h) fun v s1 ⟨x,H1,I1,r1,q1⟩=>⟨σ,H1,I1,q1⟩) I.quiet hs
noncomputable def ZsF(te:TE):TS:=fun D σ H=>te σ H D.rt
theorem Z8(he:PE X e te):PS X (.Return (some e) pos) (ZsF te):=by
 intro pins s σ H D I h
 exact wpAny_Return_some (thn (he pins s σ H _ I h) fun v s1 ⟨x,H1,I1,r1,q1⟩=>⟨x,σ,H1,I1,r1,q1⟩)
noncomputable def ZtX(c:TT)(t u:TS):TS:=fun D σ H=>c σ H fun b H1=>if b=true then t D σ H1 else u D σ H1
theorem Jz{c:Expr}{a b:List Stmt}{tc:TT}(hc:PT X c tc)(ha:PSs X a t)(hb:PSs X b u):PS X (.If c a b pos) (ZtX tc t u):=by
 intro pins s σ H D I h
 refine wpAny_If (thn (hc pins s σ H _ I h) fun d s1 ⟨H1,I1,q1⟩=>?_)
 cases d with
 |true=>exact ha pins s1 σ H1 D I1 q1
 |false=>exact hb pins s1 σ H1 D I1 q1
noncomputable def ZnE:TS:=fun _ _ _=>False
theorem ZN{sts:List Stmt}:PSs X sts ZnE:=fun _ _ _ _ _ _ h=>h.elim
end
noncomputable abbrev TG:=V->St->Hp->(St->Hp->Prop)->Prop
noncomputable abbrev TGs:=List V->St->Hp->(St->Hp->Prop)->Prop
def PG(X:Cx)(target:Expr)(t:TG):Prop:=
 ∀(pins:List (Addr×Obj)) (s:Shared) (σ:St) (H:Hp) (v:V) (u:Value) (Q:St->Hp->Prop),Inv X pins σ H s->JY v u->t v σ H Q ->
  wpAny (model X.prog X.w) X.A (assign target X.env u) (fun _ s'=>∃σ' H',Inv X pins σ' H' s'/\Q σ' H') X.xe s
def PGs(X:Cx)(ts:List Expr)(t:TGs):Prop:=
 ∀(pins:List (Addr×Obj)) (s:Shared) (σ:St) (H:Hp) (vs:List V) (us:List Value) (Q:St->Hp->Prop),Inv X pins σ H s->Jk vs us->t vs σ H Q ->
  wpAny (model X.prog X.w) X.A (assignInOrder ((assignEach ts X.env).map (·.2)) us) (fun _ s'=>∃σ' H',Inv X pins σ' H' s'/\Q σ' H') X.xe s
noncomputable abbrev TIp:=V->V->Hp->VK->Prop
def PIp(X:Cx)(op:Operator)(t:TIp):Prop:=
 ∀(pins:List (Addr×Obj)) (s:Shared) (σ:St) (H:Hp) (x y:V) (v u:Value) (Q:VK),Inv X pins σ H s->JY x v->JY y u->t x y H Q ->
  wpAny (model X.prog X.w) X.A (inplaceOp op v u) (EP X pins σ Q) X.xe s
section
variable {X:Cx}{pos:Pos}
noncomputable def Zhd(i:Nat):TG:=fun v σ H Q=>Q (σ.set i (some v)) H
theorem VP{i:Nat}{x:Str}(hN:X.N.Nodup)(hi:X.N[i]?=some x)(hx:Loc X.env.scope x)(hf:X.fn x=true\/X.env.scope.names.lookup x=some .local:=by first|exact .inl rfl|exact .inr rfl|assumption):PG X (.Name x pos) (Zhd i):=by
 intro pins s σ H v u Q I r h
 exact wpAny_assign_Name (QJ I hN hi hx r (fun s' I'=>⟨_,H,I',h⟩) hf)
noncomputable def Zuu:TGs:=fun vs σ H Q=>vs=[]/\Q σ H
noncomputable def Zr5(t:TG)(u:TGs):TGs:=fun vs σ H Q=>∃v r,vs=v::r/\t v σ H fun σ' H'=>u r σ' H' Q
theorem Zki:PGs X [] Zuu:=by
 intro pins s σ H vs us Q I r h
 obtain⟨e,h⟩:=h
 subst e
 cases r
 exact assignInOrder_nil ⟨σ,H,I,h⟩
theorem Zdc{e:Expr}{es:List Expr}{t:TG}{u:TGs}(h1:PG X e t)(h2:PGs X es u)(hs:(assignEach (e::es) X.env).map (·.2)=assign e X.env::(assignEach es X.env).map (·.2):=by rfl):PGs X (e::es) (Zr5 t u):=by
 intro pins s σ H vs us Q I r h
 obtain⟨v,vr,e1,h⟩:=h
 subst e1
 cases r with
 |cons r rr =>
  rw[hs]
  refine assignInOrder_cons (thn (h1 pins s σ H _ _ _ I r h) fun _ s1 ⟨σ1,H1,I1,q1⟩=>?_)
  exact h2 pins s1 σ1 H1 _ _ Q I1 rr q1
noncomputable def Zut(K:W.Frag)(n:Nat)(t:TGs):TG:=fun v σ H Q=>∃a xs,v=.ref a/\SqT K H a xs/\xs.length=n/\t xs σ H Q
theorem ZnO{es:List Expr}{k:Nat}{t:TGs}{n:Nat}(hc:X.calm=true)(h:PGs X es t)(hn:(assignEach es X.env).length=n:=by rfl)(hst:(assignEach es X.env).findIdx? (·.1)=none:=by rfl):PG X (.Tuple es k pos) (Zut X.K n t):=by
 intro pins s σ H v u Q I r hw
 obtain⟨a,xs,e1,hq,hl,hw⟩:=hw
 subst e1
 cases r
 obtain⟨its,rv,ht,hz⟩:=I.tuple hq
 refine assign_Tuple_tuple (I.ok.hd hc) ht (by simp[hn,<- hl,rv.length]) hst fun h' hx=>?_
 have I1:Inv X pins σ H { s with heap:=h' }:=I.kept (t':=s.toks) fun b o e=>hx b o (Z3B (Heap.lt_size e)) e
 exact h pins _ σ H xs _ Q I1 (by simpa using rv) hw
noncomputable def Zqb(te:TE)(g:TG):TS:=fun D σ H=>te σ H fun x H1=>g x σ H1 D.nx
theorem ZnN{tg e:Expr}{te:TE}{g:TG}(he:PE X e te)(hg:PG X tg g)(hs:swapsWithSole [tg] e pos.line X.env=pure false:=by rfl)(hw:swappedStores [tg] e X.env=pure none:=by rfl)(h1:(assignEach [tg] X.env).map (·.2)=[assign tg X.env]:=by rfl):PS X (.Assign [tg] e pos) (Zqb te g):=by
 intro pins s σ H D I h
 refine wpAny_Assign_stores (thn (he pins s σ H _ I h) fun v s1 ⟨x,H1,I1,r1,q1⟩=>?_) hs hw
 rw[h1]
 exact thn (hg pins s1 σ H1 x v _ I1 r1 q1) fun _ s2 q=>q
theorem Z7{i:Nat}{x:Str}{e:Expr}{te:TE}{pos':Pos}(hN:X.N.Nodup)(hi:X.N[i]?=some x)(hx:Loc X.env.scope x)(he:PE X e te)(hs:swapsWith e (some (.Name x pos')) pos.line X.env=pure false:=by rfl)(hf:X.fn x=true\/X.env.scope.names.lookup x=some .local:=by first|exact .inl rfl|exact .inr rfl|assumption) :
  PS X (.Assign [.Name x pos'] e pos) (Zqb te (Zhd i)):=by
 intro pins s σ H D I h
 refine wpAny_Assign_Name (thn (he pins s σ H _ I h) fun v s1 ⟨y,H1,I1,r1,q1⟩=>?_) hs
 exact QJ I1 hN hi hx r1 (fun s2 I2=>⟨_,H1,I2,q1⟩) hf
noncomputable def Zua(i:Nat)(te:TE)(ti:TIp):TS:=fun D σ H=>∃x,σ[i]?=some (some x)/\te σ H fun y H1=>ti x y H1 fun z H2=>D.nx (σ.set i (some z)) H2
theorem ZnM{i:Nat}{x:Str}{e:Expr}{te:TE}{op:Operator}{ti:TIp}{pos':Pos}(hN:X.N.Nodup)(hi:X.N[i]?=some x)(hx:Loc X.env.scope x)(he:PE X e te)(ho:PIp X op ti)(hf:X.fn x=true\/X.env.scope.names.lookup x=some .local:=by first|exact .inl rfl|exact .inr rfl|assumption) :
  PS X (.AugAssign (.Name x pos') op e pos) (Zua i te ti):=by
 intro pins s σ H D I h
 obtain⟨v,e1,h⟩:=h
 obtain⟨m,hn,hl⟩:=I.loc
 have vis:Vis X.env.scope x:=by rcases hx with k|k;exact .inl k;exact .inr (.inl k)
 obtain⟨u,r,l⟩:=hl i x v hi e1 vis
 refine wpAny_AugAssign_Name ?_
 have go:wpAny (model X.prog X.w) X.A (eval e X.env) (fun w s₂=>wpAny (model X.prog X.w) X.A (inplaceOp op u w) (fun r s₃=>wpAny (model X.prog X.w) X.A (storeName X.env x r) (fun _=>SP X pins D .next) X.xe s₃) X.xe s₂) X.xe s:=by
  refine thn (he pins s σ H _ I h) fun w s1 ⟨y,H1,I1,r1,q1⟩=>?_
  refine thn (ho pins s1 σ H1 v y u w _ I1 r r1 q1) fun z s2 ⟨zv,H2,I2,r2,q2⟩=>?_
  exact QJ I2 hN hi hx r2 (fun s3 I3=>⟨_,H2,I3,q2⟩) hf
 rcases l with ⟨hk,hm⟩|⟨hk,c,hc,hcell⟩
 ·exact wpAny_loadName_local I.ok.kind hk hn hm go
 ·rcases hk with hk|hk
  ·exact wpAny_loadName_cell I.ok.kind hk hc hcell go
  ·rcases hx with k|k
   ·have:X.env.scope.names.lookup x=some .free:=hk
    rw[k] at this;cases this
   ·have:X.env.scope.names.lookup x=some .free:=hk
    rw[k] at this;cases this
noncomputable def ipI(f:Int->Int->Int):TIp:=fun x y H Q=>∃i j,x=.int i/\y=.int j/\Q (.int (f i j)) H
theorem Zr0:PIp X .Add (ipI fun i j=>i+j):=by
 intro pins s σ H x y v u Q I r1 r2 h
 obtain⟨i,j,e1,e2,q⟩:=h
 subst e1;subst e2
 obtain⟨t,rfl⟩:=r1
 obtain⟨t',rfl⟩:=r2
 exact iadd_int ⟨.int _,H,I.tok _,⟨_,rfl⟩,q⟩
theorem Zrz:PIp X .Sub (ipI fun i j=>i-j):=by
 intro pins s σ H x y v u Q I r1 r2 h
 obtain⟨i,j,e1,e2,q⟩:=h
 subst e1;subst e2
 obtain⟨t,rfl⟩:=r1
 obtain⟨t',rfl⟩:=r2
 exact isub_int ⟨.int _,H,I.tok _,⟨_,rfl⟩,q⟩
noncomputable def ZnB(c:TT)(tb:TS):TS:=fun D σ H=>∃W:Nat->St->Hp->Prop,(∃m,W m σ H)/\∀m σ H,W m σ H ->
 c σ H fun b H1=>if b=true then ∃N:St->Hp->Prop,(∀σ' H',N σ' H'->∃m',m'<m/\W m' σ' H')/\tb { D with nx:=N,ct:=N,bk:=D.nx } σ H1 else D.nx σ H1
theorem Ze4{c:Expr}{body:List Stmt}{tc:TT}{tb:TS}(hp:PassesOwn (model X.prog X.w) X.A X.env X.xe)(hc:PT X c tc)(hb:PSs X body tb):PS X (.While c body [] pos) (ZnB tc tb):=by
 intro pins s σ H D I h
 obtain⟨W,⟨m0,w0⟩,turn⟩:=h
 refine wpAny_While (codeAny_whileLoop (fun n s'=>∃σ' H',Inv X pins σ' H' s'/\W n σ' H') ?_ m0 ⟨σ,H,I,w0⟩)
 rintro n s1 ⟨σ1,H1,I1,w1⟩
 refine wpAny_passesOwn hp (thn (hc pins s1 σ1 H1 _ I1 (turn n σ1 H1 w1)) fun b s2 ⟨H2,I2,q2⟩=>?_)
 cases b with
 |true =>
  obtain⟨N,hN,q2⟩:=q2
  rw[if_pos rfl]
  refine wpAny_passesOwn hp (thn (hb pins s2 σ1 H2 _ I2 q2) fun f s3 q3=>?_)
  cases f with
  |next =>
   obtain⟨σ3,H3,I3,n3⟩:=q3
   obtain⟨m',hm,w3⟩:=hN σ3 H3 n3
   exact⟨m',hm,σ3,H3,I3,w3⟩
  |cont =>
   obtain⟨σ3,H3,I3,n3⟩:=q3
   obtain⟨m',hm,w3⟩:=hN σ3 H3 n3
   exact⟨m',hm,σ3,H3,I3,w3⟩
  |brk=>exact q3
  |ret v=>exact q3
 |false =>
  rw[if_neg Bool.false_ne_true]
  exact wpAny_execs_nil ⟨σ1,H2,I2,q2⟩
end
structure It where
 go:Nat->Hp->Prop
 yld:Nat->Hp->V->Hp->Prop
 stop:Nat->Hp->Prop
def Zj1(X:Cx)(pins:List (Addr×Obj))(H:Hp)(b:Addr):Prop:=
 H b=none/\b≠X.env.locals/\b ∉ X.fs/\(b∈X.ex\/X.s₀.heap.objs.size<=b)/\(∀x c,X.env.cells.lookup x=some c->c≠b)/\∀p∈X.pn++pins,p.1≠b
theorem Inv.fpOk{X:Cx}{pins:List (Addr×Obj)}{σ:St}{H H':Hp}{s:Shared}{b:Addr}(I:Inv X pins σ H s)(hb:s.heap.objs.size<=b)(hn:H' b=none):Zj1 X pins H' b:=by
 refine⟨hn,Z49 (Z3z I.lt hb),I.nofs hb,.inr (Z33 I.sz hb),fun x c e z=>?_,fun p hp z=>?_⟩
 ·obtain⟨v,q⟩:=I.cell x c e
  exact absurd (Z3z q.lt (by rw[z];exact hb)) (Z3M _)
 ·exact absurd (Z3z (Heap.lt_size (I.pin p hp).1) (by rw[z];exact hb)) (Z3M _)
structure Zo4(P:Program)(w:World)(K:PySem.W.Frag)(tg:Expr)(J:It)(fp:List Addr)(it:Addr)(tn:Nat->Heap->Prop):Prop where
 mem:it∈fp
 obj:∀i h,tn i h->∀b∈fp,∃o,h.get? b=some o/\∀v,o.data≠.cell v
 keep:∀i h h',tn i h->(∀b∈fp,∀o,h.get? b=some o->h'.get? b=some o)->tn i h'
 item:∀(X:Cx),X.prog=P->X.w=w->X.K=K->X.calm=true->∀(i:Nat) (pins:List (Addr×Obj)) (s:Shared) (σ:St) (H:Hp) (E:Value->Shared->Prop),Inv X pins σ H s->(∀b∈fp,Zj1 X pins H b)->tn i s.heap->J.go i H ->
  wpAny (model P w) X.A (pyNext (.ref it)) (fun r s1=>∃u,r=some u /\
   wpAny (model P w) X.A (letOwnedTupleGo tg (.ref it) u) (fun _ s2=>∃x H',Inv X pins σ H' s2/\JY x u/\J.yld i H x H'/\tn (i+1) s2.heap/\∀b∈fp,H' b=none) E s1) E s
 done:∀(X:Cx),X.prog=P->X.w=w->X.K=K->X.calm=true->∀(i:Nat) (pins:List (Addr×Obj)) (s:Shared) (σ:St) (H:Hp) (E:Value->Shared->Prop),Inv X pins σ H s->(∀b∈fp,Zj1 X pins H b)->tn i s.heap->J.stop i H ->
  wpAny (model P w) X.A (pyNext (.ref it)) (fun r s1=>r=none/\Inv X pins σ H s1) E s
 self:∀(A:Around) (i:Nat) (s:Shared) (Q:Value->Shared->Prop) (E:Value->Shared->Prop),tn i s.heap->Q (.ref it) s->wpAny (model P w) A (pyIter (.ref it)) Q E s
noncomputable abbrev TI:=St->Hp->(It->Hp->Prop)->Prop
def PIE(X:Cx)(pins:List (Addr×Obj))(σ:St)(tg:Expr)(R:It->Hp->Prop)(itv:Value)(s2:Shared):Prop:=
 ∃(it:Addr) (fp:List Addr) (tn:Nat->Heap->Prop) (J:It) (H':Hp),itv=.ref it/\Inv X pins σ H' s2/\Zo4 X.prog X.w X.K tg J fp it tn/\tn 0 s2.heap/\(∀b∈fp,Zj1 X pins H' b)/\R J H'
def PI(X:Cx)(tg iter:Expr)(wi:TI):Prop:=
 ∀(pins:List (Addr×Obj)) (s:Shared) (σ:St) (H:Hp) (R:It->Hp->Prop),Inv X pins σ H s->wi σ H R ->
  wpAny (model X.prog X.w) X.A (eval iter X.env) (fun v s1=>wpAny (model X.prog X.w) X.A (pyIter v) (PIE X pins σ tg R) X.xe s1) X.xe s
theorem Zlh{M:Model}{A:Around}{E:Value->Shared->Prop}{s:Shared}{tg:Expr}{it:Addr}{u:Value}{o:Obj}{n:String}{vs:Array Value}{Q:Unit->Shared->Prop}(ho:s.heap.get? it=some o)(hc:o.cls=.type n)(hd:o.data=.fields vs)(hn:["enumerate", "zip", "dict_itemiterator", "dict_reverseitemiterator", "odict_iterator", "itertools.zip_longest", "itertools.pairwise"].contains n=false)(hQ:Q () s):wpAny M A (letOwnedTupleGo tg (.ref it) u) Q E s:=by
 unfold letOwnedTupleGo
 cases tg<;>first
  |exact wpAny_pure hQ
  |(cases u<;>first
    |exact wpAny_pure hQ
    |(refine wpAny_bind (wpAny_load ho ?_)
      rw[hc,hd]
      show wpAny M A (if (["enumerate", "zip", "dict_itemiterator", "dict_reverseitemiterator", "odict_iterator", "itertools.zip_longest", "itertools.pairwise"].contains n&&vs[0]?==some (rawInt _))=true then _ else _) Q E s
      rw[if_neg (by intro h;rw[hn,Bool.false_and] at h;cases h)]
      exact wpAny_pure hQ))
noncomputable def Itl(K:W.Frag)(a:Addr):It:=
 ⟨fun i H=>∃xs x,SqL K H a xs/\xs[i]?=some x,fun i H x H'=>H'=H/\∀xs,SqL K H a xs->xs[i]?=some x,fun i H=>∃xs,SqL K H a xs/\xs.length<=i⟩
noncomputable def Itt(K:W.Frag)(a:Addr):It:=
 ⟨fun i H=>∃xs x,SqT K H a xs/\xs[i]?=some x,fun i H x H'=>H'=H/\∀xs,SqT K H a xs->xs[i]?=some x,fun i H=>∃xs,SqT K H a xs/\xs.length<=i⟩
noncomputable def Itr(lo:Int)(n:Nat):It:=⟨fun i _=>i<n,fun i H x H'=>H'=H/\x=.int (lo+i),fun i _=>n<=i⟩
theorem ZjC{P:Program}{w:World}{K:W.Frag}{tg:Expr}(a it:Addr):Zo4 P w K tg (Itl K a) [it] it (fun i h=>h.IsListIter it a i) where
 mem:=by simp
 obj:=fun i h st b hb=>by
  have e:b=it:=by simpa using hb
  subst e
  obtain⟨o,e,c,d⟩:=st
  exact⟨o,e,fun v z=>by rw[d] at z;cases z⟩
 keep:=fun i h h' st k=>st.at fun o e=>k it (by simp) o e
 item:=by
  intro X hP hw hK hc i pins s σ H E I hf st hg
  subst hP hw hK
  obtain⟨xs,x,hq,hx⟩:=hg
  obtain⟨its,rv,p,hz⟩:=I.list hq
  obtain⟨u,hu,ru⟩:=rv.get hx
  obtain⟨f0,f1,f2,f3,f4,f5⟩:=hf it (by simp)
  refine wpAny_pyNext_list_item st p.isList (x:=u) (by simpa using hu) fun h' st' sb=>?_
  have I1:Inv X pins σ H { s with heap:=h' }:=I.turned (t':=s.toks) (fun b o hb e=>(sb.2 b hb).trans e) f0 f1 f3 f4 f5
  obtain⟨o,e,c,d⟩:=id st'
  exact⟨u,rfl,Zlh (s:={ s with heap:=h' }) e c d (by decide) ⟨x,H,I1,ru,⟨rfl,fun ys hy=>by rw[I.list_inj hy hq];exact hx⟩,st',fun b hb=>(hf b hb).1⟩⟩
 done:=by
  intro X hP hw hK hc i pins s σ H E I hf st hg
  subst hP hw hK
  obtain⟨xs,hq,hx⟩:=hg
  obtain⟨its,rv,p,hz⟩:=I.list hq
  obtain⟨f0,f1,f2,f3,f4,f5⟩:=hf it (by simp)
  have hl:=rv.length
  exact wpAny_pyNext_list_end (I.ok.hd hc) st p.isList (by simp;omega) fun h' eb=>⟨rfl,I.turned (t':=s.toks) (fun b o hb e=>eb b o hb e) f0 f1 f3 f4 f5⟩
 self:=fun _ _ _ _ _ st h=>wpAny_pyIter_listiter st h
theorem Zi5{P:Program}{w:World}{K:W.Frag}{tg:Expr}(a it:Addr):Zo4 P w K tg (Itt K a) [it] it (fun i h=>h.IsTupleIter it a i) where
 mem:=by simp
 obj:=fun i h st b hb=>by
  have e:b=it:=by simpa using hb
  subst e
  obtain⟨o,e,c,d⟩:=st
  exact⟨o,e,fun v z=>by rw[d] at z;cases z⟩
 keep:=fun i h h' st k=>st.at fun o e=>k it (by simp) o e
 item:=by
  intro X hP hw hK hc i pins s σ H E I hf st hg
  subst hP hw hK
  obtain⟨xs,x,hq,hx⟩:=hg
  obtain⟨its,rv,p,hz⟩:=I.tuple hq
  obtain⟨u,hu,ru⟩:=rv.get hx
  obtain⟨f0,f1,f2,f3,f4,f5⟩:=hf it (by simp)
  refine wpAny_pyNext_tuple_item st (show s.heap.IsTuple a its.toArray from p) (x:=u) (by simpa using hu) fun h' st' sb=>?_
  have I1:Inv X pins σ H { s with heap:=h' }:=I.turned (t':=s.toks) (fun b o hb e=>(sb.2 b hb).trans e) f0 f1 f3 f4 f5
  obtain⟨o,e,c,d⟩:=id st'
  exact⟨u,rfl,Zlh (s:={ s with heap:=h' }) e c d (by decide) ⟨x,H,I1,ru,⟨rfl,fun ys hy=>by rw[I.tuple_inj hy hq];exact hx⟩,st',fun b hb=>(hf b hb).1⟩⟩
 done:=by
  intro X hP hw hK hc i pins s σ H E I hf st hg
  subst hP hw hK
  obtain⟨xs,hq,hx⟩:=hg
  obtain⟨its,rv,p,hz⟩:=I.tuple hq
  obtain⟨f0,f1,f2,f3,f4,f5⟩:=hf it (by simp)
  have hl:=rv.length
  exact wpAny_pyNext_tuple_end (I.ok.hd hc) st (show s.heap.IsTuple a its.toArray from p) (by simp;omega) fun h' eb=>⟨rfl,I.turned (t':=s.toks) (fun b o hb e=>eb b o hb e) f0 f1 f3 f4 f5⟩
 self:=fun _ _ _ _ _ st h=>wpAny_pyIter_tupleiter st h
theorem Zi6{P:Program}{w:World}{K:W.Frag}{tg:Expr}(it:Addr)(lo:Int)(n:Nat):Zo4 P w K tg (Itr lo n) [it] it (fun i h=>IsRangeIter h it (lo+(i:Nat)*1) ((n:Int)-(i:Nat)) 1) where
 mem:=by simp
 obj:=fun i h st b hb=>by
  have e:b=it:=by simpa using hb
  subst e
  exact⟨_,st,fun v z=>by
   have z':Data.fields _=Data.cell v:=z
   cases z'⟩
 keep:=fun i h h' st k=>k it (by simp) _ st
 item:=by
  intro X hP hw hK hc i pins s σ H E I hf st hg
  subst hP hw hK
  obtain⟨f0,f1,f2,f3,f4,f5⟩:=hf it (by simp)
  have W:=Walks.range (prog:=X.prog) (w:=X.w) (I.ok.hd hc) it lo 1 n
  refine W.item i s _ _ hg st fun v h' tk hv st' kk=>?_
  obtain⟨t,rfl⟩:=hv
  have I1:Inv X pins σ H { s with heap:=h',toks:=tk }:=I.turned (fun b o hb e=>kk b o (by simpa using hb) e) f0 f1 f3 f4 f5
  refine⟨_,rfl,Zlh (s:={ s with heap:=h',toks:=tk }) (n := "range_iterator") st' rfl rfl (by decide) ⟨.int (lo+i),H,I1,⟨t, ?_⟩,⟨rfl,rfl⟩,st',fun b hb=>(hf b hb).1⟩⟩
  rw[Int.mul_one]
 done:=by
  intro X hP hw hK hc i pins s σ H E I hf st hg
  subst hP hw hK
  obtain⟨f0,f1,f2,f3,f4,f5⟩:=hf it (by simp)
  exact wpAny_pyNext_range_end (I.ok.hd hc) st (by have:n<=i:=hg;omega) fun h' eb=>⟨rfl,I.turned (t':=s.toks) (fun b o hb e=>eb b o hb e) f0 f1 f3 f4 f5⟩
 self:=fun _ _ _ _ _ st h=>wpAny_pyIter_rangeiter st h
section
variable {X:Cx}{tg:Expr}
noncomputable def ZmU(K:W.Frag)(tl:TE):TI:=fun σ H R=>tl σ H fun x H1=>∃a,x=.ref a/\(∃xs,SqL K H1 a xs)/\R (Itl K a) H1
noncomputable def Zts(K:W.Frag)(tl:TE):TI:=fun σ H R=>tl σ H fun x H1=>∃a,x=.ref a/\(∃xs,SqT K H1 a xs)/\R (Itt K a) H1
theorem ZoU{l:Expr}{tl:TE}(hl:PE X l tl):PI X tg l (ZmU X.K tl):=by
 intro pins s σ H R I h
 refine thn (hl pins s σ H _ I h) fun v s1 ⟨x,H1,I1,r1,q1⟩=>?_
 obtain⟨a,e,⟨xs,hq⟩,q⟩:=q1
 subst e
 cases r1
 obtain⟨its,rv,p,hz⟩:=I1.list hq
 refine wpAny_pyIter_list p.isList ?_
 refine⟨s1.heap.objs.size,[s1.heap.objs.size],_,_,H1,rfl,I1.kept (t':=s1.toks) fun b o e=>Heap.get?_push_of_some _ e,ZjC a _,⟨_,Heap.get?_push_size _ rfl,rfl,rfl⟩,fun b hb=>?_,q⟩
 have e:b=s1.heap.objs.size:=by simpa using hb
 subst e
 exact I1.fpOk (Z3u _) (I1.hok.fresh (Z3u _))
theorem ZqO{l:Expr}{tl:TE}(hl:PE X l tl):PI X tg l (Zts X.K tl):=by
 intro pins s σ H R I h
 refine thn (hl pins s σ H _ I h) fun v s1 ⟨x,H1,I1,r1,q1⟩=>?_
 obtain⟨a,e,⟨xs,hq⟩,q⟩:=q1
 subst e
 cases r1
 obtain⟨its,rv,p,hz⟩:=I1.tuple hq
 refine wpAny_pyIter_tuple (show s1.heap.IsTuple a its.toArray from p) ?_
 refine⟨s1.heap.objs.size,[s1.heap.objs.size],_,_,H1,rfl,I1.kept (t':=s1.toks) fun b o e=>Heap.get?_push_of_some _ e,Zi5 a _,⟨_,Heap.get?_push_size _ rfl,rfl,rfl⟩,fun b hb=>?_,q⟩
 have e:b=s1.heap.objs.size:=by simpa using hb
 subst e
 exact I1.fpOk (Z3u _) (I1.hok.fresh (Z3u _))
theorem ZhD{pins:List (Addr×Obj)}{σ:St}{H:Hp}{s:Shared}{R:It->Hp->Prop}{E:Value->Shared->Prop}{lo hi:Int}{t u v:Tok}{tk:Nat}(I:Inv X pins σ H s)(h1:-(2^62)<=lo)(h2:lo<2^62)(h3:-(2^62)<=hi)(h4:hi<2^62)(q:R (Itr lo (hi-lo).toNat) H):wpAny (model X.prog X.w) X.A (pyIter (.ref s.heap.objs.size)) (PIE X pins σ tg R) E { s with heap:=s.heap.push { cls:=.type "range",data:=.fields #[.int lo t,.int hi u,.int 1 v] },toks:=tk }:=by
 refine wpAny_pyIter_range (IsRange.new ..) (small_one h1 h2 h3 h4) ?_
 have I1:Inv X pins σ H { s with heap:=s.heap.push { cls:=.type "range",data:=.fields #[.int lo t,.int hi u,.int 1 v] },toks:=tk }:=I.kept fun b o e=>Heap.get?_push_of_some _ e
 refine⟨(s.heap.push { cls:=.type "range",data:=.fields #[.int lo t,.int hi u,.int 1 v] }).objs.size,[(s.heap.push { cls:=.type "range",data:=.fields #[.int lo t,.int hi u,.int 1 v] }).objs.size],_,_,H,rfl,
  I1.kept (t':=tk) fun b o e=>Heap.get?_push_of_some _ e,Zi6 _ lo (hi-lo).toNat, ?_,fun b hb=>?_,q⟩
 ·have e1:lo+((0:Nat):Int)*1=lo:=by simp
  have e2:(((hi-lo).toNat:Nat):Int)-((0:Nat):Int)=Builtin.Range.rangeSize lo hi 1:=by rw[rangeSize_one];split<;>omega
  show IsRangeIter _ _ (lo+((0:Nat):Int)*1) ((((hi-lo).toNat:Nat):Int)-((0:Nat):Int)) 1
  rw[e1,e2]
  exact Heap.get?_push_size _ rfl
 ·have e:b=(s.heap.push { cls:=.type "range",data:=.fields #[.int lo t,.int hi u,.int 1 v] }).objs.size:=by simpa using hb
  subst e
  exact I1.fpOk (Z3u _) (I1.hok.fresh (Z3u _))
noncomputable def Zr3(ta:TA):TI:=fun σ H R=>ta σ H fun vs H1=>∃j:Int,vs=[.int j]/\-(2^62)<=j/\j<2^62/\R (Itr 0 j.toNat) H1
noncomputable def Zr2(ta:TA):TI:=fun σ H R=>ta σ H fun vs H1=>∃i j:Int,vs=[.int i,.int j]/\(-(2^62)<=i/\i<2^62/\-(2^62)<=j/\j<2^62)/\R (Itr i (j-i).toNat) H1
theorem QM{a:Expr}{ta:TA}{p pos:Pos}(hg:Gl X "range")(hm:X.mg "range"=none)(ha:PA X [a] ta)(hs:starEach [a] X.env=[(false,eval a X.env)]:=by rfl):PI X tg (.Call (.Name "range" p) [a] [] pos) (Zr3 ta):=by
 intro pins s σ H R I h
 refine Call_ (ZfF I hg hm boot_range (PyProof.Rows.callWith_type1 (thn (ha pos pins s σ H _ I h) fun us s1 ⟨vs,H1,I1,r1,q1⟩=>?_) hs rfl))
 obtain⟨j,e,q1,q2,q⟩:=q1
 subst e
 cases r1 with
 |cons r rr =>
  cases rr
  obtain⟨t,rfl⟩:=r
  exact call_range_1 (ZhD I1 (by omega) (by omega) q1 q2 (by simpa using q))
theorem Zkh{a b:Expr}{ta:TA}{p pos:Pos}(hg:Gl X "range")(hm:X.mg "range"=none)(ha:PA X [a,b] ta)(hs:starEach [a,b] X.env=[(false,eval a X.env),(false,eval b X.env)]:=by rfl)(hs2:starEach [b] X.env=[(false,eval b X.env)]:=by rfl) :
  PI X tg (.Call (.Name "range" p) [a,b] [] pos) (Zr2 ta):=by
 intro pins s σ H R I h
 refine Call_ (ZfF I hg hm boot_range (PyProof.Rows.callWith_type1 (thn (ha pos pins s σ H _ I h) fun us s1 ⟨vs,H1,I1,r1,q1⟩=>?_) (by rw[hs,hs2]) (by rw[hs2];rfl)))
 obtain⟨i,j,e,⟨q1,q2,q3,q4⟩,q⟩:=q1
 subst e
 cases r1 with
 |cons r rr =>
  cases rr with
  |cons r' rr =>
   cases rr
   obtain⟨t,rfl⟩:=r
   obtain⟨t',rfl⟩:=r'
   exact call_range_2 (ZhD I1 q1 q2 q3 q4 q)
noncomputable def ZtY(wi:TI)(g:TG)(tb:TS):TS:=fun D σ H=>wi σ H fun J H1=>∃W:Nat->Nat->St->Hp->Prop,(∃m,W 0 m σ H1)/\∀i m σ H,W i m σ H ->
 (J.stop i H/\D.nx σ H)\/(J.go i H/\∃N:St->Hp->Prop,(∀σ' H',N σ' H'->∃m',m'<m/\W (i+1) m' σ' H')/\∀x H',J.yld i H x H'->g x σ H' fun σ2 H2=>tb { D with nx:=N,ct:=N,bk:=D.nx } σ2 H2)
noncomputable def ZhJ(fp:List Addr)(h:Heap):List (Addr×Obj):=fp.filterMap fun b=>(h.get? b).map fun o=>(b,o)
theorem J8{fp:List Addr}{h:Heap}{b:Addr}{o:Obj}(hb:b∈fp)(e:h.get? b=some o):(b,o)∈ZhJ fp h:=Z40.mpr ⟨b,hb,by rw[e];rfl⟩
theorem ZkA{fp:List Addr}{h:Heap}{p:Addr×Obj}(hp:p∈ZhJ fp h):p.1∈fp/\h.get? p.1=some p.2:=by
 obtain⟨b,hb,e⟩:=Z40.mp hp
 cases q:h.get? b with
 |none=>rw[q] at e;cases e
 |some o =>
  rw[q] at e
  have e':(b,o)=p:=Option.some.inj e
  subst e'
  exact⟨hb,q⟩
theorem Inv.pinned{pins:List (Addr×Obj)}{σ:St}{H:Hp}{s:Shared}{fp:List Addr}(I:Inv X pins σ H s)(hf:∀b∈fp,Zj1 X pins H b)(ho:∀b∈fp,∃o,s.heap.get? b=some o/\∀v,o.data≠.cell v):Inv X (pins++ZhJ fp s.heap) σ H s:=
 I.pins_of fun p hp=>(Z3q.mp hp).elim (fun z=>I.pin p (Z3o _ z)) fun z=>by
  obtain⟨hb,e⟩:=ZkA z
  obtain⟨f0,f1,f2,_⟩:=hf p.1 hb
  obtain⟨o,e',d⟩:=ho p.1 hb
  rw[e] at e';cases e'
  exact⟨e,f0,f1,f2,d⟩
theorem Inv.unpinned{pins pl:List (Addr×Obj)}{σ:St}{H:Hp}{s:Shared}(I:Inv X (pins++pl) σ H s):Inv X pins σ H s:=I.pins_of fun p hp=>I.pin p (Z3o _ (Z3s _ hp))
theorem ZhH{iter:Expr}{body:List Stmt}{wi:TI}{g:TG}{tb:TS}{pos:Pos}(hp:PassesOwn (model X.prog X.w) X.A X.env X.xe)(hc:X.calm=true)(hi:PI X tg iter wi)(hg:PG X tg g)(hb:PSs X body tb)(hs:∀x,foldedSetIterable iter X.env x=pure x:=by exact fun _=>rfl):PS X (.For tg iter body [] pos) (ZtY wi g tb):=by
 intro pins s σ H D I h
 refine wpAny_For (thn (hi pins s σ H _ I h) fun v s1 h1=>thn h1 fun itv s2 h2=>?_) hs
 obtain⟨it,fp,tn,J,H2,e,I2,T,st2,f2,W,⟨m0,w0⟩,turn⟩:=h2
 subst e
 have stat:∀{H':Hp},(∀b∈fp,H' b=none)->∀b∈fp,Zj1 X pins H' b:=fun hn b hb=>⟨hn b hb,(f2 b hb).2⟩
 refine codeAny_forLoop_any (fun n s'=>∃i σ' H',Inv X pins σ' H' s'/\tn i s'.heap/\(∀b∈fp,H' b=none)/\W i n σ' H') ?_ m0 ⟨0,σ,H2,I2,st2,fun b hb=>(f2 b hb).1,w0⟩
 rintro n s3 ⟨i,σ3,H3,I3,st3,fr3,w3⟩
 rcases turn i n σ3 H3 w3 with ⟨stop,qn⟩|⟨go,N,hN,step⟩
 ·refine wpAny_passesOwn hp (thn (T.done X rfl rfl rfl hc i pins s3 σ3 H3 X.xe I3 (stat fr3) st3 stop) fun r s4 ⟨hr,I4⟩=>?_)
  subst hr
  exact wpAny_execs_nil ⟨σ3,H3,I4,qn⟩
 ·refine wpAny_passesOwn hp (thn (T.item X rfl rfl rfl hc i pins s3 σ3 H3 X.xe I3 (stat fr3) st3 go) fun r s4 ⟨u,hr,h4⟩=>?_)
  subst hr
  refine wpAny_passesOwn hp (thn h4 fun _ s5 ⟨x,H5,I5,r5,y5,st5,fr5⟩=>?_)
  have I5':=I5.pinned (stat fr5) (T.obj _ _ st5)
  refine wpAny_passesOwn hp (thn (hg _ s5 σ3 H5 x u _ I5' r5 (step x H5 y5)) fun _ s6 ⟨σ6,H6,I6,q6⟩=>?_)
  refine wpAny_passesOwn hp (thn (hb _ s6 σ6 H6 _ I6 q6) fun f s7 q7=>?_)
  have again:∀{σ7:St}{H7:Hp},Inv X (pins++ZhJ fp s5.heap) σ7 H7 s7->N σ7 H7->∃m,m<n/\∃i σ' H',Inv X pins σ' H' s7/\tn i s7.heap/\(∀b∈fp,H' b=none)/\W i m σ' H':=fun {σ7 H7} I7 n7=>by
   obtain⟨m',hm,w7⟩:=hN σ7 H7 n7
   refine⟨m',hm,i+1,σ7,H7,I7.unpinned,T.keep _ _ _ st5 fun b hb o e=>(I7.pin (b,o) (Z3o _ (Z3o _ (J8 hb e)))).1,fun b hb=>?_,w7⟩
   obtain⟨o,e,d⟩:=T.obj _ _ st5 b hb
   exact(I7.pin (b,o) (Z3o _ (Z3o _ (J8 hb e)))).2.1
  cases f with
  |next=>obtain⟨σ7,H7,I7,n7⟩:=q7;exact again I7 n7
  |cont=>obtain⟨σ7,H7,I7,n7⟩:=q7;exact again I7 n7
  |brk=>obtain⟨σ7,H7,I7,q7⟩:=q7;exact⟨σ7,H7,I7.unpinned,q7⟩
  |ret v=>obtain⟨x7,σ7,H7,I7,r7,q7⟩:=q7;exact⟨x7,σ7,H7,I7.unpinned,r7,q7⟩
end
noncomputable abbrev R2:=V->V->Hp->VK->Prop
def OpR(X:Cx)(f:Value->Value->Sem Value)(r:R2):Prop:=
 ∀(pins:List (Addr×Obj)) (s:Shared) (σ:St) (H:Hp) (x y:V) (v u:Value) (Q:VK),Inv X pins σ H s->JY x v->JY y u->r x y H Q ->
  wpAny (model X.prog X.w) X.A (f v u) (EP X pins σ Q) X.xe s
def UnR(X:Cx)(f:Value->Sem Value)(r:V->Hp->VK->Prop):Prop:=
 ∀(pins:List (Addr×Obj)) (s:Shared) (σ:St) (H:Hp) (x:V) (v:Value) (Q:VK),Inv X pins σ H s->JY x v->r x H Q ->
  wpAny (model X.prog X.w) X.A (f v) (EP X pins σ Q) X.xe s
def Vu(X:Cx)(f:Value)(r:List V->Hp->VK->Prop):Prop:=
 ∀(pins:List (Addr×Obj)) (s:Shared) (σ:St) (H:Hp) (xs:List V) (us:List Value) (Q:VK),Inv X pins σ H s->Jk xs us->r xs H Q ->
  wpAny (model X.prog X.w) X.A (call f us) (EP X pins σ Q) X.xe s
noncomputable def tOp(r:R2)(ta tb:TE):TE:=fun σ H Q=>ta σ H fun x H1=>tb σ H1 fun y H2=>r x y H2 Q
noncomputable def tUn(r:V->Hp->VK->Prop)(ta:TE):TE:=fun σ H Q=>ta σ H fun x H1=>r x H1 Q
noncomputable def rI(C:Int->Int->Prop)(g:Int->Int->V):R2:=fun x y H Q=>∃i j,x=.int i/\y=.int j/\C i j/\Q (g i j) H
noncomputable def rI0(g:Int->Int->V):R2:=fun x y H Q=>∃i j,x=.int i/\y=.int j/\Q (g i j) H
def rU(g:Int->V):V->Hp->VK->Prop:=fun x H Q=>∃i,x=.int i/\Q (g i) H
section
variable {X:Cx}{a b:Expr}{ta tb:TE}{pos:Pos}
theorem Zt6(ha:PE X a ta)(hb:PE X b tb){pins:List (Addr×Obj)}{s:Shared}{σ:St}{H:Hp}{R:V->V->Hp->Prop}(I:Inv X pins σ H s)(h:ta σ H fun x H1=>tb σ H1 fun y H2=>R x y H2){Q:Value->Shared->Prop}{f:Value->Value->Sem Value}(hf:∀v u s2 x y H2,Inv X pins σ H2 s2->JY x v->JY y u->R x y H2->wpAny (model X.prog X.w) X.A (f v u) Q X.xe s2) :
  wpAny (model X.prog X.w) X.A (eval a X.env) (fun v s₁=>wpAny (model X.prog X.w) X.A (eval b X.env) (fun u s₂=>wpAny (model X.prog X.w) X.A (f v u) Q X.xe s₂) X.xe s₁) X.xe s:=by
 refine thn (ha pins s σ H _ I h) fun v s1 ⟨x,H1,I1,r1,q1⟩=>?_
 refine thn (hb pins s1 σ H1 _ I1 q1) fun u s2 ⟨y,H2,I2,r2,q2⟩=>?_
 exact hf v u s2 x y H2 I2 r1 r2 q2
theorem Jc{op:Operator}{r:R2}(ho:OpR X (binaryOp op) r)(ha:PE X a ta)(hb:PE X b tb):PE X (.BinOp a op b pos) (tOp r ta tb):=by
 intro pins s σ H Q I h
 exact wpAny_BinOp (Zt6 ha hb I h fun v u s2 x y H2 I2 rx ry q=>ho pins s2 σ H2 x y v u Q I2 rx ry q)
theorem ZiD{op:UnaryOp}{r:V->Hp->VK->Prop}(ho:UnR X (unaryOp op) r)(ha:PE X a ta):PE X (.UnaryOp op a pos) (tUn r ta):=by
 intro pins s σ H Q I h
 exact UnaryOp_ (thn (ha pins s σ H _ I h) fun v s1 ⟨x,H1,I1,r1,q1⟩=>ho pins s1 σ H1 x v Q I1 r1 q1)
theorem opI{f:Value->Value->Sem Value}{C:Int->Int->Prop}{g:Int->Int->Int}(rule:∀(i j:Int) (t u:Tok) (s:Shared) (Q:Value->Shared->Prop) (E:Value->Shared->Prop),C i j->Q (.int (g i j) s.toks) { s with toks:=s.toks+1 }->wpAny (model X.prog X.w) X.A (f (.int i t) (.int j u)) Q E s) :
  OpR X f (rI C fun i j=>.int (g i j)):=by
 intro pins s σ H x y v u Q I rx ry h
 obtain⟨i,j,rfl,rfl,hc,q⟩:=h
 obtain⟨t,rfl⟩:=rx
 obtain⟨t',rfl⟩:=ry
 exact rule i j t t' s _ _ hc ⟨.int (g i j),H,I.tok _,⟨_,rfl⟩,q⟩
theorem Zuo{f:Value->Value->Sem Value}{g:Int->Int->Int}(rule:∀(i j:Int) (t u:Tok) (s:Shared) (Q:Value->Shared->Prop) (E:Value->Shared->Prop),Q (.int (g i j) s.toks) { s with toks:=s.toks+1 }->wpAny (model X.prog X.w) X.A (f (.int i t) (.int j u)) Q E s) :
  OpR X f (rI0 fun i j=>.int (g i j)):=by
 intro pins s σ H x y v u Q I rx ry h
 obtain⟨i,j,rfl,rfl,q⟩:=h
 obtain⟨t,rfl⟩:=rx
 obtain⟨t',rfl⟩:=ry
 exact rule i j t t' s _ _ ⟨.int (g i j),H,I.tok _,⟨_,rfl⟩,q⟩
theorem Zs1{f:Value->Value->Sem Value}{g:Int->Int->Bool}(rule:∀(i j:Int) (t u:Tok) (s:Shared) (Q:Value->Shared->Prop) (E:Value->Shared->Prop),Q (.bool (g i j)) s->wpAny (model X.prog X.w) X.A (f (.int i t) (.int j u)) Q E s) :
  OpR X f (rI0 fun i j=>.bl (g i j)):=by
 intro pins s σ H x y v u Q I rx ry h
 obtain⟨i,j,rfl,rfl,q⟩:=h
 obtain⟨t,rfl⟩:=rx
 obtain⟨t',rfl⟩:=ry
 exact rule i j t t' s _ _ ⟨.bl (g i j),H,I,rfl,q⟩
def Zqs(i j:Int):Prop:=0<=j/\j<=1000000/\i.natAbs<2^64
def Zu4(i j:Int):Prop:=(-(2^64)<i/\i<2^64)\/(-(2^64)<j/\j<2^64)
theorem Zu4.ok{i j:Int}(h:Zu4 i j):IntMulOk i j:=by
 rcases h with ⟨h1,h2⟩|⟨h1,h2⟩
 ·exact .of_left (intBits_le_64 h1 h2)
 ·exact .of_right (intBits_le_64 h1 h2)
theorem ZhQ:OpR X (binaryOp .Add) (rI0 fun i j=>.int (i+j)):=Zuo fun _ _ _ _ _ _ _ q=>add_int q
theorem Zof:OpR X (binaryOp .Sub) (rI0 fun i j=>.int (i-j)):=Zuo fun _ _ _ _ _ _ _ q=>sub_int q
theorem VS:OpR X (binaryOp .Mod) (rI (fun _ j=>0<j) fun i j=>.int (i%j)):=opI fun i j _ _ _ _ _ hc q=>by
 have h1:(0:Int)<j:=hc
 exact mod_int' (by omega) (by rw[Int.fmod_eq_emod_of_nonneg i (by omega)];exact q)
theorem Zk5:OpR X (binaryOp .Pow) (rI Zqs fun i j=>.int (i^j.toNat)):=opI fun _ _ _ _ _ _ _ hc q=>pow_int_small hc.1 hc.2.1 hc.2.2 q
theorem unI{f:Value->Sem Value}{g:Int->Int}(rule:∀(i:Int) (t:Tok) (s:Shared) (Q:Value->Shared->Prop) (E:Value->Shared->Prop),Q (.int (g i) s.toks) { s with toks:=s.toks+1 }->wpAny (model X.prog X.w) X.A (f (.int i t)) Q E s) :
  UnR X f (rU fun i=>.int (g i)):=by
 intro pins s σ H x v Q I rx h
 obtain⟨i,rfl,q⟩:=h
 obtain⟨t,rfl⟩:=rx
 exact rule i t s _ _ ⟨.int (g i),H,I.tok _,⟨_,rfl⟩,q⟩
theorem ZdR:UnR X (unaryOp .USub) (rU fun i=>.int (-i)):=unI fun _ _ _ _ _ q=>neg_int q
variable {c:Expr}
theorem Zr8{pins:List (Addr×Obj)}{σ:St}{H:Hp}{s:Shared}{Q:VK}{k k':Bool}(I:Inv X pins σ H s)(q:Q (.bl k) H)(e:k=k'):EP X pins σ Q (.bool k') s:=by
 subst e
 exact⟨.bl k,H,I,rfl,q⟩
theorem ZiK:OpR X (compareOp .Lt) (rI0 fun i j=>.bl (decide (i<j))):=Zs1 fun _ _ _ _ _ _ _ q=>lt_int q
theorem Zti:OpR X (compareOp .LtE) (rI0 fun i j=>.bl (decide (i<=j))):=Zs1 fun _ _ _ _ _ _ _ q=>le_int q
theorem Uu:OpR X (compareOp .Gt) (rI0 fun i j=>.bl (decide (j<i))):=Zs1 fun _ _ _ _ _ _ _ q=>gt_int q
theorem Ztj:OpR X (compareOp .GtE) (rI0 fun i j=>.bl (decide (j<=i))):=Zs1 fun _ _ _ _ _ _ _ q=>ge_int q
theorem Zk6:OpR X (compareOp .In) (fun x y H Q=>∃i j,x=.str i/\y=.str j/\Q (.bl (!(Builtin.Str.occurrences j i 0 j.length 1).isEmpty)) H):=by
 intro pins s σ H x y v u Q I rx ry h
 obtain⟨i,j,rfl,rfl,q⟩:=h
 obtain⟨t,rfl⟩:=rx
 obtain⟨t',rfl⟩:=ry
 exact in_str (Zr8 I q rfl)
theorem OpR.or{f:Value->Value->Sem Value}{r r':R2}(h:OpR X f r)(h':OpR X f r'):OpR X f (fun x y H Q=>r x y H Q\/r' x y H Q):=by
 intro pins s σ H x y v u Q I rx ry q
 rcases q with q|q
 ·exact h pins s σ H x y v u Q I rx ry q
 ·exact h' pins s σ H x y v u Q I rx ry q
theorem Z9(b:Expr){op:CmpOp}(h:op≠.In:=by decide)(h2:op≠.NotIn:=by decide):behindInMarks op b=false:=by
 have e1:(op==CmpOp.In)=false:=by cases op<;>first|rfl|exact absurd rfl h
 have e2:(op==CmpOp.NotIn)=false:=by cases op<;>first|rfl|exact absurd rfl h2
 cases b<;>simp[behindInMarks,e1,e2]
theorem JZ{op:CmpOp}{r:R2}(ho:OpR X (compareOp op) r)(ha:PE X a ta)(hb:PE X b tb)(hm:behindInMarks op b=false):PE X (.Compare a [op] [b] pos) (tOp r ta tb):=by
 intro pins s σ H Q I h
 exact wpAny_Compare1 (Zt6 ha hb I h fun v u s2 x y H2 I2 rx ry q=>ho pins s2 σ H2 x y v u Q I2 rx ry q) hm
noncomputable def Zq5(t:TE):TT:=fun σ H Q=>t σ H fun x H'=>∃k,x=.bl k/\Q k H'
theorem Z3{op:CmpOp}{r:R2}(ho:OpR X (compareOp op) r)(ha:PE X a ta)(hb:PE X b tb)(hm:behindInMarks op b=false):PT X (.Compare a [op] [b] pos) (Zq5 (tOp r ta tb)):=by
 intro pins s σ H Q I h
 refine wpAny_isTrue_Compare1 (thn (ha pins s σ H _ I h) fun v s1 ⟨x,H1,I1,r1,q1⟩=>thn (hb pins s1 σ H1 _ I1 q1) fun u s2 ⟨y,H2,I2,r2,q2⟩ =>
  thn (ho pins s2 σ H2 x y v u _ I2 r1 r2 q2) fun c s3 ⟨z,H3,I3,r3,k,e,q3⟩=>?_) hm
 subst e
 cases r3
 exact wpAny_truthy_bool ⟨H3,I3,q3⟩
theorem ZfA:(sizeLine:Nat)<2^63:=by rw[sizeLine_eq];decide
theorem JL:OpR X (binaryOp .Add) (fun x y H Q=>∃i j,x=.str i/\y=.str j/\i.length+j.length<=sizeLine/\Q (.str (i++j)) H):=by
 intro pins s σ H x y v u Q I rx ry h
 obtain⟨i,j,rfl,rfl,hz,q⟩:=h
 obtain⟨t,rfl⟩:=rx
 obtain⟨t',rfl⟩:=ry
 exact add_str (fun t' tk=>⟨.str (i++j),H,I.tok _,⟨_,rfl⟩,q⟩) hz
theorem Zdq{x:V}{us:List Value}(r:Jk [x] us):∃u,us=[u]/\JY x u:=by
 cases r with
 |cons r1 r2=>cases r2;exact⟨_,rfl,r1⟩
theorem ZsB{x y:V}{us:List Value}(r:Jk [x,y] us):∃u w',us=[u,w']/\JY x u/\JY y w':=by
 cases r with
 |cons r1 r2 =>
  cases r2 with
  |cons r3 r4=>cases r4;exact⟨_,_,rfl,r1,r3⟩
theorem Znv:Vu X (.builtin "abs") (fun xs H Q=>∃i,xs=[.int i]/\Q (.int (if i<0 then -i else i)) H):=by
 intro pins s σ H xs us Q I r h
 obtain⟨i,rfl,q⟩:=h
 obtain⟨u,rfl,t,rfl⟩:=Zdq r
 exact call_abs_int fun u tk=>⟨.int (if i<0 then -i else i),H,I.tok _,⟨_,rfl⟩,q⟩
end
structure Zu2(h:Heap)(x dx C:Addr)(mA:Str->Option Value):Prop where
 obj:h.get? x=some (PySem.W.instObj C dx)
 ns:h.Ns1 dx mA
 ne:dx≠x
theorem Zf9{h:Heap}{dx:Addr}{mA:Str->Option Value}(n:h.Ns1 dx mA):∃od,h.get? dx=some od/\∀name,PySem.W.lookIn name od=some (mA name):=by
 obtain⟨o,es,ep,ho,hd,hk,_,hm⟩:=n
 refine⟨o,ho,fun name=>?_⟩
 have e:=hm name
 unfold nsFind findBy at e
 rw[<- Array.find?_toList] at e
 unfold PySem.W.lookIn
 rw[hd]
 dsimp only
 split
 ·rename_i y q
  rw[q] at e
  exact congrArg some e
 ·rename_i q
  rw[q] at e
  have a:es.toList.any (·.refKey)=false:=by
   rw[List.any_eq_false]
   intro y hy
   obtain⟨z,t,hkey⟩:=hk y (Array.mem_toList_iff.mp hy)
   simp[DictEntry.refKey,hkey]
  have a':¬es.toList.any (·.refKey)=true:=by rw[a];exact Bool.false_ne_true
  rw[if_neg a']
  exact congrArg some e
theorem Zu2.look{h:Heap}{x dx C:Addr}{mA:Str->Option Value}(I:Zu2 h x dx C mA):∃od,PySem.W.InstAt h x (PySem.W.instObj C dx) C (some od)/\∀name,PySem.W.lookIn name od=some (mA name):=
 let ⟨od,ho,hl⟩:=Zf9 I.ns
 ⟨od,⟨I.obj,rfl,rfl,ho⟩,hl⟩
section
end
theorem Zj6.some_of{v:V}{o:Option Value}(r:Zj6 (some v) o):∃u,o=some u/\JY v u:=by
 cases o with
 |none=>exact(show False from r).elim
 |some u=>exact⟨u,rfl,r⟩
section
end
structure Cls(K:PySem.W.Frag)(C:Addr):Prop where
 pg:PySem.W.plainGet K C Str.empty=true
 hd:PySem.W.hasDictIn K C=true
 po:PySem.W.plainOver K C=true
 sa:PySem.W.findIn K (.ref C) "__setattr__"=some (some (.builtin "object.__setattr__"))
theorem Cls.get{K:W.Frag}{C:Addr}(c:Cls K C)(f:Str):PySem.W.plainGet K C f=true:=c.pg
section
end
structure ZbC(k:Nat)(A:Around):Prop where
 hd:A.handled=none
 dp:A.depth+3*k+5<recursionLimit
 un:A.units+16*k+200<cLine
theorem ZbC.mono{j k:Nat}{A:Around}(r:ZbC k A)(h:j<=k):ZbC j A:=⟨r.hd,by have:=r.dp;omega,by have:=r.un;omega⟩
theorem ZbC.deeper{k:Nat}{A:Around}(r:ZbC (k+1) A)(env:Env):ZbC k (A.deeper env):=
 ⟨r.hd,by have:=r.dp;show A.depth+1+3*k+5<_;omega,by have:=r.un;show A.units+3+16*k+200<_;omega⟩
theorem ZbC.in1{k:Nat}{A:Around}(r:ZbC (k+1) A):ZbC k A.in1:=
 ⟨r.hd,by have:=r.dp;show A.depth+3*k+5<_;omega,by have:=r.un;show A.units+1+16*k+200<_;omega⟩
theorem ZbC.depth{k:Nat}{A:Around}(r:ZbC k A):A.depth<recursionLimit:=by have:=r.dp;omega
theorem ZbC.units{k:Nat}{A:Around}(r:ZbC k A):A.units+64<cLine:=by have:=r.un;omega
noncomputable def Zj3:TA:=fun _ H Q=>Q [] H
noncomputable def Zds(ta:TE)(tr:TA):TA:=fun σ H Q=>ta σ H fun x H1=>tr σ H1 fun xs H2=>Q (x::xs) H2
section
variable {X:Cx}{e:Expr}{es:List Expr}{te:TE}{t:TA}{pos:Pos}
theorem Ze:PA X [] Zj3:=fun _ _ _ _ H Q I h=>Calls.spliced_nil ⟨[],H,I,.nil,h⟩
theorem Za(ha:PE X e te)(hr:PA X es t)(hs:starEach (e::es) X.env=(false,eval e X.env)::starEach es X.env:=by rfl):PA X (e::es) (Zds te t):=by
 intro pos pins s σ H Q I h
 rw[hs]
 show wpAny _ _ (spliced ((false,eval e X.env)::backTo pos (starEach es X.env))) _ _ s
 refine Calls.spliced_cons (thn (ha pins s σ H _ I h) fun u s1 ⟨x,H1,I1,r1,q1⟩=>?_)
 exact thn (hr pos pins s1 σ H1 _ I1 q1) fun us s2 ⟨xs,H2,I2,r2,q2⟩=>⟨x::xs,H2,I2,.cons r1 r2,q2⟩
noncomputable def ZsE(t:TA):TE:=fun σ H Q=>t σ H fun xs H1=>xs.length<=sizeLine/\∀p,H1 p=none->Q (.ref p) (upd H1 p (.tup xs))
noncomputable def ZsG(t:TA):TE:=fun σ H Q=>t σ H fun xs H1=>xs.length<=sizeLine/\∀p,H1 p=none->Q (.ref p) (upd H1 p (.lst xs))
theorem Z2{x1}(h:PA X es t):PE X (.Tuple es x1 pos) (ZsE t):=by
 intro pins s σ H Q I hq
 refine wpAny_Tuple_spliced (thn (h pos pins s σ H _ I hq) fun us s1 ⟨xs,H1,I1,r,z,q⟩=>⟨by rw[<- r.length];exact z, ?_⟩)
 have hf:H1 s1.heap.objs.size=none:=I1.hok.fresh (Z3u _)
 refine⟨.ref s1.heap.objs.size,upd H1 s1.heap.objs.size (.tup xs),I1.laid (t':=s1.toks) (fun b u e=>Heap.get?_push_of_some _ e) (Z3u _) ?_,rfl,q _ hf⟩
 exact⟨z,us,r,⟨_,Heap.get?_push_size _ rfl,rfl,_,rfl⟩⟩
theorem J6(h:PA X es t):PE X (.List es pos) (ZsG t):=by
 intro pins s σ H Q I hq
 refine wpAny_List_spliced (thn (h pos pins s σ H _ I hq) fun us s1 ⟨xs,H1,I1,r,z,q⟩=>⟨by rw[<- r.length];exact z, ?_⟩)
 have hf:H1 s1.heap.objs.size=none:=I1.hok.fresh (Z3u _)
 refine⟨.ref s1.heap.objs.size,upd H1 s1.heap.objs.size (.lst xs),I1.laid (t':=s1.toks) (fun b u e=>Heap.get?_push_of_some _ e) (Z3u _) ?_,rfl,q _ hf⟩
 exact⟨z,us,0,r,Heap.get?_push_size _ rfl⟩
end
noncomputable abbrev Sp:=List V->Hp->VK->XK->Prop
noncomputable abbrev CXT:=List Env->Hp->Shared->XK->Value->Shared->Prop
structure ZoB(P:Program)(w:World)(K:PySem.W.Frag)(mg:Str->Option Value)(base:Heap)(A:Around)(outer:List Env)(s:Shared)(H:Hp):Prop where
 frames:A.frames=some outer
 mod:Mod K mg base
 bs:∀b o,base.get? b=some o->s.heap.get? b=some o/\H b=none
 bsz:base.objs.size<=s.heap.objs.size
 funs:s.heap.FunFrames base outer
 frf:∀b∈frs outer,H b=none
 hok:HOk P w H s.heap
 bare:AllBare s.gens
def CE(outer:List Env)(P:Program)(w:World)(H:Hp)(s:Shared)(Q:VK)(u:Value)(s':Shared):Prop:=
 ∃v H',s'.os=s.os/\AllBare s'.gens/\Un (frs outer) [] H H' s.heap s'.heap/\HOk P w H' s'.heap/\JY v u/\Q v H'
def CR(CX:CXT)(outer:List Env)(P:Program)(w:World)(H:Hp)(s:Shared)(Q:VK)(E:XK)(r:Result)(s':Shared):Prop:=
 match r with
 |.ok (.ret u)=>CE outer P w H s Q u s'
 |.ok _=>False
 |.error e=>CX outer H s E e s'
structure Jp(P:Program)(w:World)(K:PySem.W.Frag)(mg:Str->Option Value)(base:Heap)(CX:CXT)(k:Nat)(f:Addr)(fd:FuncData)(ps:List Str)(sp:Sp):Prop where
 len:∀vs H Q E,sp vs H Q E->vs.length=ps.length
 run:∀(A:Around) (outer:List Env) (s:Shared) (H:Hp) (args:Args) (us:List Value) (vs:List V) (Q:VK) (E:XK),ZbC k A->ZoB P w K mg base A outer s H->BindsTo s fd args (ps.zip us)->Jk vs us->sp vs H Q E ->
  codeAny (model P w) A (.call (.ref f) args) (CR CX outer P w H s Q E) s
theorem Jp.mono{P:Program}{w:World}{K:W.Frag}{mg:Str->Option Value}{base:Heap}{CX:CXT}{j k:Nat}{f:Addr}{fd:FuncData}{ps:List Str}{sp:Sp}(F:Jp P w K mg base CX j f fd ps sp)(h:j<=k) :
  Jp P w K mg base CX k f fd ps sp:=⟨F.len,fun A outer s H args us vs Q E hr=>F.run A outer s H args us vs Q E (hr.mono h)⟩
theorem Jp.imp{P:Program}{w:World}{K:W.Frag}{mg:Str->Option Value}{base:Heap}{CX:CXT}{k:Nat}{f:Addr}{fd:FuncData}{ps:List Str}{sp sp':Sp}(F:Jp P w K mg base CX k f fd ps sp)(h:∀vs H Q E,sp' vs H Q E->sp vs H Q E):Jp P w K mg base CX k f fd ps sp':=
 ⟨fun vs H Q E q=>F.len vs H Q E (h _ _ _ _ q),fun A outer s H args us vs Q E hr he hb hv hs=>F.run A outer s H args us vs Q E hr he hb hv (h _ _ _ _ hs)⟩
theorem ZoB.in1{P:Program}{w:World}{K:W.Frag}{mg:Str->Option Value}{base:Heap}{A:Around}{outer:List Env}{s:Shared}{H:Hp}(e:ZoB P w K mg base A outer s H) :
  ZoB P w K mg base A.in1 outer s H:=⟨e.frames,e.mod,e.bs,e.bsz,e.funs,e.frf,e.hok,e.bare⟩
section
variable {X:Cx}{pins:List (Addr×Obj)}{σ:St}{H:Hp}{s s':Shared}
theorem Inv.env0(I:Inv X pins σ H s):ZoB X.prog X.w X.K X.mg X.base X.A X.stack s H:=
 ⟨I.ok.frames,I.ok.mod,I.bs,Z33 I.ok.bsz I.sz,I.stack,I.stkFree,I.hok,I.bare⟩
theorem Inv.after{Q:VK}{u:Value}(I:Inv X pins σ H s)(h:CE X.stack X.prog X.w H s Q u s'):EP X pins σ Q u s':=by
 obtain⟨v,H',os,bare,un,hok,r,q⟩:=h
 obtain⟨hh,g,d,t,os'⟩:=s'
 obtain rfl:os'=s.os:=os
 exact⟨v,H',I.call (h':=hh) (g':=g) (d':=d) (t':=t) (ch:=[]) un hok bare (fun b z=>absurd z (by simp)),r,q⟩
end
noncomputable def ZqB(sp:Sp)(dvs:List V)(E:XK)(t:TA):TE:=fun σ H Q=>t σ H fun vs H1=>sp (vs++dvs) H1 Q E
def ZeY(K:W.Frag)(fd:FuncData)(ps:List Str)(ds:List Value):Prop:=
 ∀(s:Shared) (us:List Value),K.In s.heap->(us++ds).length=ps.length->BindsTo s fd ⟨us,[]⟩ (ps.zip (us++ds))
theorem ZeY.all{K:W.Frag}{fd:FuncData}{ps:List Str}(h:∀us:List Value,us.length=ps.length->bindArgs fd ⟨us,[]⟩=pure (ps.zip us)):ZeY K fd ps []:=fun s us _ hl=>by
 rw[Z3R] at hl ⊢
 exact .of_eq (h us hl)
def Zi1(CX:CXT)(X:Cx)(E:XK):Prop:=∀(pins:List (Addr×Obj)) (σ:St) (H:Hp) (s:Shared) (e:Value) (s':Shared),Inv X pins σ H s->CX X.stack H s E e s'->X.xe e s'
section
variable {X:Cx}{CX:CXT}{k:Nat}{f:Addr}{fd:FuncData}{ps:List Str}{sp:Sp}{dvs:List V}{ds:List Value}{E:XK}{x:Str}{p pos:Pos}{e:Expr}{es:List Expr}{t:TA}
theorem ZnK{pins:List (Addr×Obj)}{σ:St}{H:Hp}{s:Shared}{Q:VK}{us:List Value}{vs:List V}(F:Jp X.prog X.w X.K X.mg X.base CX k f fd ps sp)(hr:ZbC k X.A)(hb:ZeY X.K fd ps ds)(hd:Jk dvs ds)(hx:Zi1 CX X E)(I:Inv X pins σ H s)(r:Jk vs us)(h:sp (vs++dvs) H Q E):wpAny (model X.prog X.w) X.A (call (.ref f) us) (EP X pins σ Q) X.xe s:=by
 have r2:Jk (vs++dvs) (us++ds):=r.append hd
 have hl:(us++ds).length=ps.length:=by rw[<- r2.length];exact F.len _ _ _ _ h
 refine wpAny_call (codeAny_mono (F.run X.A X.stack s H ⟨us,[]⟩ (us++ds) (vs++dvs) Q E hr I.env0 (hb s us I.kIn hl) r2 h) fun r s' hq=>?_)
 cases r with
 |error e=>exact hx pins σ H s e s' I hq
 |ok fl =>
  cases fl with
  |ret u=>exact I.after hq
  |next=>exact False.elim hq
  |brk=>exact False.elim hq
  |cont=>exact False.elim hq
theorem ZoW(F:Jp X.prog X.w X.K X.mg X.base CX k f fd ps sp)(hr:ZbC k X.A)(hg:Gl X x)(hm:X.mg x=some (.ref f))(hk:PySem.W.keepIn X.K (.ref f)=true)(hb:ZeY X.K fd ps ds)(hd:Jk dvs ds)(hx:Zi1 CX X E)(ha:PA X (e::es) t)(hdb:(x==("__debug__":Str))=false:=by decide)(he:starEach (e::es) X.env=(false,eval e X.env)::starEach es X.env:=by rfl)(hpl:(backTo pos (starEach es X.env)).any (·.1)=false:=by rfl) :
  PE X (.Call (.Name x p) (e::es) [] pos) (ZqB sp dvs E t):=by
 intro pins s σ H Q I h
 refine wpAny_Call_Name_kw (Uc I hg hm ?_ hdb)
 refine PySem.W.callWith_K (h₀:=X.base) I.ok.mod.kin hk (thn (ha pos pins s σ H _ I h) fun us s1 ⟨vs,H1,I1,r,q⟩=>⟨I1.kIn, ?_⟩) he hpl
 exact ZnK F hr hb hd hx I1 r q
theorem Zmt(F:Jp X.prog X.w X.K X.mg X.base CX k f fd ps sp)(hr:ZbC k X.A)(hg:Gl X x)(hm:X.mg x=some (.ref f))(hk:PySem.W.keepIn X.K (.ref f)=true)(hb:ZeY X.K fd ps ds)(hd:Jk dvs ds)(hx:Zi1 CX X E)(hdb:(x==("__debug__":Str))=false:=by decide):PE X (.Call (.Name x p) [] [] pos) (ZqB sp dvs E Zj3):=by
 intro pins s σ H Q I h
 refine wpAny_Call_Name_kw (Uc I hg hm ?_ hdb)
 exact PySem.W.callWith_K0 I.kIn hk (ZnK (us:=[]) F hr hb hd hx I .nil h)
end
structure Zr(N P:List Str)(sc:Scope):Prop where
 kind:sc.kind=.function
 co:sc.isCoroutine=false
 gen:sc.isGenerator=false
 nd:N.Nodup
 pre:N.take P.length=P
 par:∀x∈P,sc.names.lookup x=some .local\/sc.names.lookup x=some .cell
 nofree:∀y∈sc.names,y.2≠.free
theorem Zgb{kindOf:Str->Option NameKind}{x:Str}:∀{binds:List (Str×Value)}{m:Str->Option Value},(∀v,(x,v) ∉ binds)->bindL kindOf binds m x=m x
 |[],_,_=>rfl
 |(n,v)::r,m,h=>by
  unfold bindL
  rw[Zgb fun w hw=>h w (Z39 _ hw)]
  split
  ·have:x≠n:=by rintro rfl;exact h v Z4z
   simp[this]
  ·rfl
theorem Zgd{kindOf:Str->Option NameKind}{x:Str}:∀{binds:List (Str×Value)}{m:Str->Option Value},(∀v,(x,v) ∉ binds)->bindC kindOf binds m x=m x
 |[],_,_=>rfl
 |(n,v)::r,m,h=>by
  unfold bindC
  rw[Zgd fun w hw=>h w (Z39 _ hw)]
  split
  ·rfl
  ·have:x≠n:=by rintro rfl;exact h v Z4z
   simp[this]
theorem Zgc{kindOf:Str->Option NameKind}{x:Str}{v:Value}:∀{P:List Str}{vs:List Value}{i:Nat}{m:Str->Option Value},P.Nodup->P[i]?=some x->vs[i]?=some v->kindOf x=some .local ->
  bindL kindOf (P.zip vs) m x=some v
 |[],_,_,_,_,h,_,_=>by simp at h
 |_::_,[],_,_,_,_,h,_=>by simp at h
 |p::P,w::vs,0,m,nd,h1,h2,hk=>by
  simp at h1 h2;subst h1;subst h2
  show bindL kindOf ((p,w)::P.zip vs) m p=_
  unfold bindL
  rw[Zgb fun v hv=>(Z4H.mp nd).1 (Z4I hv).1,if_pos hk]
  simp
 |p::P,w::vs,i+1,m,nd,h1,h2,hk=>by
  show bindL kindOf ((p,w)::P.zip vs) m x=_
  unfold bindL
  exact Zgc (i:=i) (Z4H.mp nd).2 (by simpa using h1) (by simpa using h2) hk
theorem Zge{kindOf:Str->Option NameKind}{x:Str}{v:Value}:∀{P:List Str}{vs:List Value}{i:Nat}{m:Str->Option Value},P.Nodup->P[i]?=some x->vs[i]?=some v->kindOf x≠some .local ->
  bindC kindOf (P.zip vs) m x=some v
 |[],_,_,_,_,h,_,_=>by simp at h
 |_::_,[],_,_,_,_,h,_=>by simp at h
 |p::P,w::vs,0,m,nd,h1,h2,hk=>by
  simp at h1 h2;subst h1;subst h2
  show bindC kindOf ((p,w)::P.zip vs) m p=_
  unfold bindC
  rw[Zgd fun v hv=>(Z4H.mp nd).1 (Z4I hv).1,if_neg hk]
  simp
 |p::P,w::vs,i+1,m,nd,h1,h2,hk=>by
  show bindC kindOf ((p,w)::P.zip vs) m x=_
  unfold bindC
  exact Zge (i:=i) (Z4H.mp nd).2 (by simpa using h1) (by simpa using h2) hk
noncomputable def ZcK(N:List Str)(vs:List V):St:=vs.map some++List.replicate (N.length-vs.length) none
noncomputable def ZdP(CX:CXT)(P:Program)(w:World)(K:W.Frag)(mg:Str->Option Value)(base:Heap)(N:List Str)(qual:Str)(scope:Scope)(f:Addr)(cd:Value)(A:Around)(outer:List Env)(s:Shared)(H:Hp)(E:XK):Cx where
 prog:=P
 w:=w
 K:=K
 mg:=mg
 base:=base
 A:=A.deeper (envOfC qual scope s.heap.objs.size f cd)
 N:=N
 s₀:=s
 H₀:=H
 env:=envOfC qual scope s.heap.objs.size f cd
 outer:=outer
 stack:=envOfC qual scope s.heap.objs.size f cd::outer
 ex:=[]
 calm:=true
 fn:=fun _=>true
 pn:=[]
 xe:=fun e s'=>wpAny (model P w) (A.deeper (envOfC qual scope s.heap.objs.size f cd)) (leaving (envOfC qual scope s.heap.objs.size f cd) e) (fun _ s''=>CX outer H s E e s'') (fun e' s''=>CX outer H s E e' s'') s'
theorem Zis{sc:Scope}{n:Nat}{x:Str}(h:sc.names.lookup x=some .cell):∃c,(cellsFrom n sc.names []).lookup x=some c:=by
 have q:=PySem.W.cellsFrom_some sc.names n [] (.inl h)
 exact Option.isSome_iff_exists.mp q
theorem ZkZ{CX:CXT}{P:Program}{w:World}{K:W.Frag}{mg:Str->Option Value}{base:Heap}{N ps:List Str}{qual:Str}{scope:Scope}{f:Addr}{cd:Value}{A:Around}{outer:List Env}{s s1:Shared}{H:Hp}{E:XK}{us:List Value}{vs:List V}(S:Zr N ps scope)(hd:A.handled=none)(e0:ZoB P w K mg base A outer s H)(hl:vs.length=ps.length)(r:Jk vs us)(x:InCallC s s.heap.objs.size (bindL (envOfC qual scope s.heap.objs.size f cd).kindOf (ps.zip us) fun _=>none) (cellsFrom (s.heap.objs.size+1) scope.names []) (bindC (envOfC qual scope s.heap.objs.size f cd).kindOf (ps.zip us) fun _=>none) s1) :
  Inv (ZdP CX P w K mg base N qual scope f cd A outer s H E) [] (ZcK N vs) H s1:=by
 have hpl:ps.length<=N.length:=by have:=congrArg List.length S.pre;rw[Z3X] at this;omega
 obtain⟨h1,tk,rfl,hk⟩:=x.done
 have noA:∀b:Addr,b ∉ (ZdP CX P w K mg base N qual scope f cd A outer s H E).ex:=fun b z=>absurd (show b∈([]:List Addr) from z) (by simp)
 refine⟨⟨e0.mod,S.kind,rfl,rfl,Z3u _,fun y z c h1 h2=>?_,fun y hy=>?_,fun y c _ h=>?_,fun _=>hd,Around.frames_deeper e0.frames,.inr ⟨rfl,rfl⟩,fun b z=>absurd z (noA b),e0.bs,e0.bsz,fun b _ _=>noA b,fun b z=>absurd z (noA b),e0.funs,e0.frf⟩,
  rfl,e0.bare,Un.kept hk,⟨_,x.toInCall.ns,fun i y v h1 h2 h3=>?_⟩,fun y c h=>⟨_,x.cell y c h⟩,e0.hok.fresh (Z3u _),fun y c h=>?_,fun p hp=>absurd (show p∈([]:List (Addr×Obj)) from hp) (by simp),e0.hok.kept hk, ?_⟩
 ·exact name_of_addr x.apart (PySem.mem_of_lookup h1) (PySem.mem_of_lookup h2)
 ·have hy:scope.names.lookup y=some .cell\/scope.names.lookup y=some .free:=hy
  rcases hy with hy|hy
  ·exact Zis hy
  ·exact absurd rfl (S.nofree _ (PySem.mem_of_lookup hy))
 ·exact Nat.le_of_lt (x.above y c (PySem.mem_of_lookup h))
 ·have hi:i<vs.length:=by
   unfold ZcK at h2
   by_cases hi:i<vs.length
   ·exact hi
   ·rw[Z34 (by simpa using hi)] at h2
    rw[Z4g] at h2
    split at h2<;>cases h2
  have ha:vs[i]?=some v:=by
   unfold ZcK at h2
   rw[Z3x (by simpa using hi),Z3A] at h2
   cases e:vs[i]? with
   |none=>rw[e] at h2;cases h2
   |some a=>rw[e] at h2;cases h2;rfl
  obtain⟨u,hu,rv⟩:=r.get ha
  have hp:ps[i]?=some y:=by
   rw[<- S.pre,List.getElem?_take_of_lt (by omega)];exact h1
  have ndP:ps.Nodup:=by rw[<- S.pre];exact S.nd.sublist (List.take_sublist _ _)
  refine⟨u,rv, ?_⟩
  rcases S.par y (Z3T hp) with k|k
  ·exact .inl ⟨k,Zgc ndP hp hu k⟩
  ·obtain⟨c,e⟩:=Zis (n:=s.heap.objs.size+1) k
   refine .inr ⟨.inl k,c,e, ?_⟩
   have q:=x.cell y c e
   rw[Zge ndP hp hu (by show scope.names.lookup y≠_;rw[k];decide)] at q
   exact q
 ·exact e0.hok.fresh (Nat.le_of_lt (x.above y c (PySem.mem_of_lookup h)))
 ·unfold ZcK
  show _=N.length
  rw[Z3y,Z3w,List.length_replicate]
  omega
theorem Zr6{CX:CXT}{P:Program}{w:World}{K:W.Frag}{mg:Str->Option Value}{base:Heap}{k:Nat}{f:Addr}{name qual:Str}{params:Arguments}{body:List Stmt}{scope:Scope}{dV kV doc pm cdv ct oc:Value}{an od:Option Addr}{osl:Array (Option Value)}{N ps:List Str}{sp:Sp}(lk:K.lookup f=some ⟨oc,od,.func (PySem.W.fnOf name qual params body scope dV kV doc pm an cdv ct),osl⟩)(hcd:PySem.W.codeIn K cdv qual=true)(S:Zr N ps scope)(len:∀vs H Q E,sp vs H Q E->vs.length=ps.length)(hbody:∀(A:Around) (outer:List Env) (s:Shared) (H:Hp) (vs:List V) (Q:VK) (E:XK),ZbC k (A.deeper (envOfC qual scope s.heap.objs.size f cdv))->sp vs H Q E ->
   ∃t,PSs (ZdP CX P w K mg base N qual scope f cdv A outer s H E) body t/\t { nx:=fun _ H'=>Q .non H',rt:=Q } (ZcK N vs) H) :
  Jp P w K mg base CX (k+1) f (PySem.W.fnOf name qual params body scope dV kV doc pm an cdv ct) ps sp:=by
 refine⟨len,fun A outer s H args us vs Q E hr e0 hb r hsp=>?_⟩
 have hl:=len _ _ _ _ hsp
 have KX:K.In s.heap:=e0.mod.kin.keeps fun b o e=>(e0.bs b o e).1
 have lim:s.heap.NoLimit:=e0.mod.nolimit.keeps fun b o e=>(e0.bs b o e).1
 have hkind:∀y∈ps.zip us,scope.names.lookup y.1=some .local\/(scope.names.lookup y.1=some .cell/\((cellsFrom (s.heap.objs.size+1) scope.names []).lookup y.1).isSome=true):=fun⟨n,v⟩ hy=>by
  rcases S.par n (Z4I hy).1 with q|q
  ·exact .inl q
  ·exact .inr ⟨q,PySem.W.cellsFrom_some _ _ _ (.inl q)⟩
 refine codeAny_call_function hr.depth (KX _ _ lk) rfl S.co S.gen rfl (PySem.W.codeRec_of KX hcd) (hb _ _ _ _ ?_)
 refine wpAny_newFunctionEnv_cells S.kind hkind fun env he s1 x=>?_
 subst he
 refine⟨lim.keeps x.toInCall.keep,codeAny_func ?_⟩
 obtain⟨t,ht,hq⟩:=hbody A outer s H vs Q E (hr.deeper _) hsp
 have I:Inv (ZdP CX P w K mg base N qual scope f cdv A outer s H E) [] (ZcK N vs) H s1:=ZkZ S hr.hd e0 hl r x
 refine wpAny_mono (ht [] s1 (ZcK N vs) H _ I hq) (fun fl s' hs=>?_) fun e s' hs=>hs
 have fin:∀{σ':St}{H':Hp}{v:V}{u:Value},Inv (ZdP CX P w K mg base N qual scope f cdv A outer s H E) [] σ' H' s'->JY v u->Q v H'->CE outer P w H s Q u s':=
  fun {σ' H' v u} J rv q=>⟨v,H',J.os,J.bare,J.base,J.hok,rv,q⟩
 cases fl with
 |ret u =>
  obtain⟨v,σ',H',J,rv,q⟩:=hs
  exact fin J rv q
 |next =>
  obtain⟨σ',H',J,q⟩:=hs
  exact fin (v:=V.non) (u:=Value.none) J rfl q
 |brk =>
  obtain⟨_,_,_,q⟩:=hs
  exact False.elim q
 |cont =>
  obtain⟨_,_,_,q⟩:=hs
  exact False.elim q
section
variable {X:Cx}{x:Str}{p pos:Pos}{e:Expr}{es:List Expr}{t:TA}{id T:String}{r:List V->Hp->VK->Prop}
noncomputable def tCB(r:List V->Hp->VK->Prop)(t:TA):TE:=fun σ H Q=>t σ H fun vs H1=>r vs H1 Q
theorem Zv(hc:Vu X (.builtin id) r)(hg:Gl X x)(hm:X.mg x=none)(hv:bootBuiltins x=some (.builtin id))(ha:PA X (e::es) t)(hn:x ≠ "__name__":=by decide)(hdb:(x==("__debug__":Str))=false:=by decide)(he:starEach (e::es) X.env=(false,eval e X.env)::starEach es X.env:=by rfl)(hpl:(backTo pos (starEach es X.env)).any (·.1)=false:=by rfl):PE X (.Call (.Name x p) (e::es) [] pos) (tCB r t):=by
 intro pins s σ H Q I h
 refine wpAny_Call_Name_kw (ZfF I hg hm hv ?_ hn hdb)
 exact PyProof.Rows.callWith_builtin1 (thn (ha pos pins s σ H _ I h) fun us s1 ⟨vs,H1,I1,r1,q1⟩=>hc pins s1 σ H1 vs us Q I1 r1 q1) he hpl
theorem Jm(hc:Vu X (.type T) r)(hg:Gl X x)(hm:X.mg x=none)(hv:bootBuiltins x=some (.type T))(ha:PA X (e::es) t)(hn:x ≠ "__name__":=by decide)(hdb:(x==("__debug__":Str))=false:=by decide)(he:starEach (e::es) X.env=(false,eval e X.env)::starEach es X.env:=by rfl)(hpl:(backTo pos (starEach es X.env)).any (·.1)=false:=by rfl):PE X (.Call (.Name x p) (e::es) [] pos) (tCB r t):=by
 intro pins s σ H Q I h
 refine wpAny_Call_Name_kw (ZfF I hg hm hv ?_ hn hdb)
 exact PyProof.Rows.callWith_type1 (thn (ha pos pins s σ H _ I h) fun us s1 ⟨vs,H1,I1,r1,q1⟩=>hc pins s1 σ H1 vs us Q I1 r1 q1) he hpl
end
end L2
namespace HT
open PySem PyProof.Rows
noncomputable def Vh:List Int->List Int->Bool
 |[],[]=>false
 |[],_::_=>true
 |_::_,[]=>false
 |x::xs,y::ys=>if x=y then Vh xs ys else decide (x<y)
theorem Vp(x y:Int)(xs ys:List Int):Vh (x::xs) (y::ys)=if x=y then Vh xs ys else decide (x<y):=rfl
section
open PySem.SeqAt
open PySem.AutoSeq1 (wpAny_loadPart')
open PySem.MeetsSeq PySem.MeetsSeq2 PySem.MeetsSeq3
end
section
noncomputable def sIx(n d:Nat):Option Int->Nat
 |none=>d
 |some v=>if v<0 then (v+(n:Int)).toNat else min v.toNat n
end
end HT
namespace L2
open PySem PySem.Spec PyProof.Rows
noncomputable abbrev TO:=St->Hp->(Option Int->Hp->Prop)->Prop
def PO(X:Cx)(e:Option Expr)(t:TO):Prop:=
 ∀(pins:List (Addr×Obj)) (s:Shared) (σ:St) (H:Hp) (Q:Option Int->Hp->Prop),Inv X pins σ H s->t σ H Q ->
  wpAny (model X.prog X.w) X.A (evalPart e X.env) (fun u s'=>∃o H',Inv X pins σ H' s'/\IsPart u o/\Q o H') X.xe s
noncomputable def ZjJ:TO:=fun _ H Q=>Q none H
noncomputable def Zq6(t:TE):TO:=fun σ H Q=>t σ H fun x H1=>∃i,x=.int i/\Q (some i) H1
theorem Zji{ns:List Int}:∀{us:List Value},Jk (ns.map V.int) us->IntsAre us ns:=by
 induction ns with
 |nil=>intro us r;rw[Z4f] at r;cases r;exact .nil
 |cons n ns ih =>
  intro us r
  rw[Z31] at r
  cases r with
  |cons r1 r2 =>
   obtain⟨t,e⟩:=r1
   subst e
   exact .cons n t (ih r2)
section
variable {X:Cx}{e:Expr}{te:TE}{lo hi:Option Expr}{tl th:TO}{pos p2:Pos}
theorem ZbG:PO X none ZjJ:=by
 intro pins s σ H Q I h
 rw[evalPart_none]
 exact wpAny_pure ⟨none,H,I,.none,h⟩
theorem ZbF(h:PE X e te):PO X (some e) (Zq6 te):=by
 intro pins s σ H Q I hw
 rw[evalPart_some]
 refine thn (h pins s σ H _ I hw) fun u s1 ⟨x,H1,I1,r1,q1⟩=>?_
 obtain⟨i,rfl,q⟩:=q1
 obtain⟨t,rfl⟩:=r1
 exact⟨some i,H1,I1,.int i t,q⟩
def SlR(X:Cx)(r:V->Option Int->Option Int->Hp->VK->Prop):Prop:=
 ∀(pins:List (Addr×Obj)) (s:Shared) (σ:St) (H:Hp) (x:V) (v vl vu:Value) (lo hi:Option Int) (sl:Addr) (Q:VK),Inv X pins σ H s->JY x v->s.heap.IsSliceOf sl vl vu .none->IsPart vl lo->IsPart vu hi->r x lo hi H Q ->
  ∃T id,typeLookup (.type T) "__getitem__"=pure (some (.builtin id))/\s.TypeIs v T/\wpAny (model X.prog X.w) X.A (getItem v (.ref sl)) (EP X pins σ Q) X.xe s
theorem SlR.or{r r':V->Option Int->Option Int->Hp->VK->Prop}(h:SlR X r)(h':SlR X r'):SlR X (fun x lo hi H Q=>r x lo hi H Q\/r' x lo hi H Q):=by
 intro pins s σ H x v vl vu lo hi sl Q I rx hs pl pu q
 rcases q with q|q
 ·exact h pins s σ H x v vl vu lo hi sl Q I rx hs pl pu q
 ·exact h' pins s σ H x v vl vu lo hi sl Q I rx hs pl pu q
noncomputable def tSl(r:V->Option Int->Option Int->Hp->VK->Prop)(te:TE)(tl th:TO):TE:=fun σ H Q=>te σ H fun x H1=>tl σ H1 fun l H2=>th σ H2 fun u H3=>r x l u H3 Q
theorem Ul{r:V->Option Int->Option Int->Hp->VK->Prop}(hr:SlR X r)(he:PE X e te)(hl:PO X lo tl)(hu:PO X hi th):PE X (.Subscript e (.Slice lo hi none p2) pos) (tSl r te tl th):=by
 intro pins s σ H Q I h
 refine Subscript_ (thn (he pins s σ H _ I h) fun v s1 ⟨x,H1,I1,r1,q1⟩=>?_)
 refine wpAny_Slice (thn (hl pins s1 σ H1 _ I1 q1) fun vl s2 ⟨l,H2,I2,pl,q2⟩=>thn (hu pins s2 σ H2 _ I2 q2) fun vu s3 ⟨u,H3,I3,pu,q3⟩=>?_)
 rw[evalPart_none]
 refine wpAny_pure ?_
 have I4:Inv X pins σ H3 { s3 with heap:=s3.heap.push { cls:=.type "slice",data:=.fields #[vl,vu,.none] } }:=I3.kept (t':=s3.toks) fun b ob q=>Heap.get?_push_of_some _ q
 obtain⟨T,id,hT,ht,hg⟩:=hr pins { s3 with heap:=s3.heap.push { cls:=.type "slice",data:=.fields #[vl,vu,.none] } } σ H3 x v vl vu l u s3.heap.objs.size Q I4 r1 (Heap.IsSliceOf.new ..) pl pu q3
 show wpAny (model X.prog X.w) X.A (subscriptTail e (.Slice lo hi none p2) v (.ref s3.heap.objs.size)) (EP X pins σ Q) X.xe { s3 with heap:=s3.heap.push { cls:=.type "slice",data:=.fields #[vl,vu,.none] } }
 exact tail_any (ops:=[.ref s3.heap.objs.size,v]) ht hT hg (by with_unfolding_all rfl)
noncomputable def Zqn(xs:List V)(lo hi:Option Int):List V:=(xs.drop (HT.sIx xs.length 0 lo)).take (HT.sIx xs.length xs.length hi-HT.sIx xs.length 0 lo)
theorem Zhm(xs:List V)(lo hi:Option Int):(Zqn xs lo hi).length<=xs.length:=by
 unfold Zqn
 rw[Z3X,Z4A]
 omega
end
noncomputable def ixN(n:Nat)(i:Int):Option Nat:=if 0<=i then (if i<n then some i.toNat else none) else if -(n:Int)<=i then some (i+n).toNat else none
noncomputable def atI{α:Type}(xs:List α)(i:Int):Option α:=(ixN xs.length i).bind fun j=>xs[j]?
theorem Zpx{n:Nat}{i:Int}{j:Nat}(h:ixN n i=some j):seqIndex? i n=some j/\j<n/\-(n:Int)<=i/\i<n:=by
 unfold ixN at h
 by_cases h0:0<=i
 ·rw[if_pos h0] at h
  by_cases h1:i<n
  ·rw[if_pos h1] at h
   have e:i.toNat=j:=Option.some.inj h
   exact⟨by rw[seqIndex_of h0 h1,e],by omega,by omega,h1⟩
  ·rw[if_neg h1] at h;cases h
 ·rw[if_neg h0] at h
  by_cases h1:-(n:Int)<=i
  ·rw[if_pos h1] at h
   have e:(i+n).toNat=j:=Option.some.inj h
   exact⟨by rw[seqIndex_neg (by omega) h1,e],by omega,h1,by omega⟩
  ·rw[if_neg h1] at h;cases h
theorem Zhu{α:Type}{xs:List α}{i:Int}{v:α}(h:atI xs i=some v):∃j,seqIndex? i xs.length=some j/\xs[j]?=some v/\j<xs.length/\-(xs.length:Int)<=i/\i<xs.length:=by
 unfold atI at h
 cases e:ixN xs.length i with
 |none=>rw[e] at h;cases h
 |some j =>
  rw[e] at h
  obtain⟨h1,h2,h3,h4⟩:=Zpx e
  exact⟨j,h1,h,h2,h3,h4⟩
def ZpS(b:Expr):Prop:=∀o i,subscripted b false o i=operate [o,i] (getItem o i)
def IxR(X:Cx)(r:R2):Prop:=
 ∀(value slice:Expr) (pins:List (Addr×Obj)) (s:Shared) (σ:St) (H:Hp) (x y:V) (v u:Value) (Q:VK),Inv X pins σ H s->JY x v->JY y u->r x y H Q ->
  subscripted slice false v u=operate [v,u] (getItem v u)->wpAny (model X.prog X.w) X.A (subscriptTail value slice v u) (EP X pins σ Q) X.xe s
def MtR(X:Cx)(id:String)(r:V->List V->Hp->VK->Prop):Prop:=
 ∀(pins:List (Addr×Obj)) (s:Shared) (σ:St) (H:Hp) (x:V) (xs:List V) (v:Value) (us:List Value) (Q:VK),Inv X pins σ H s->JY x v->Jk xs us->r x xs H Q ->
  wpAny (model X.prog X.w) X.A (call (.builtin id) (v::us)) (EP X pins σ Q) X.xe s
section
variable {X:Cx}{a b:Expr}{ta tb:TE}{pos:Pos}
theorem IxR.or{r r':R2}(h:IxR X r)(h':IxR X r'):IxR X (fun x y H Q=>r x y H Q\/r' x y H Q):=by
 intro value slice pins s σ H x y v u Q I rx ry q hs
 rcases q with q|q
 ·exact h value slice pins s σ H x y v u Q I rx ry q hs
 ·exact h' value slice pins s σ H x y v u Q I rx ry q hs
theorem MtR.or{id:String}{r r':V->List V->Hp->VK->Prop}(h:MtR X id r)(h':MtR X id r'):MtR X id (fun x xs H Q=>r x xs H Q\/r' x xs H Q):=by
 intro pins s σ H x xs v us Q I rx rs q
 rcases q with q|q
 ·exact h pins s σ H x xs v us Q I rx rs q
 ·exact h' pins s σ H x xs v us Q I rx rs q
theorem JM{r:R2}(hr:IxR X r)(ha:PE X a ta)(hb:PE X b tb)(hs:ZpS b):PE X (.Subscript a b pos) (tOp r ta tb):=by
 intro pins s σ H Q I h
 exact Subscript_ (Zt6 ha hb I h fun v u s2 x y H2 I2 rx ry q=>hr a b pins s2 σ H2 x y v u Q I2 rx ry q (hs _ _))
noncomputable def Zuh(K:W.Frag):R2:=fun x y H Q=>∃p xs i v,x=.ref p/\y=.int i/\SqL K H p xs/\atI xs i=some v/\Q v H
noncomputable def Zug(K:W.Frag):R2:=fun x y H Q=>∃p xs i v,x=.ref p/\y=.int i/\SqT K H p xs/\atI xs i=some v/\Q v H
noncomputable def ZsM:R2:=fun x y H Q=>∃z i c,x=.str z/\y=.int i/\z.length<=sizeLine/\atI z.cps.toList i=some c/\Q (.str ⟨#[c]⟩) H
theorem Zpw:IxR X (Zuh X.K):=by
 intro value slice pins s σ H x y v u Q I rx ry h hs
 obtain⟨p,xs,i,z,rfl,rfl,hq,he,q⟩:=h
 cases rx
 obtain⟨t,rfl⟩:=ry
 obtain⟨its,r,pl,hz⟩:=I.list hq
 obtain⟨j,h1,h2,h3,h4,h5⟩:=Zhu he
 obtain⟨w,ew,rw'⟩:=r.get h2
 have hl:=r.length
 have hn:=ZfA
 have fin:EP X pins σ Q w s:=⟨z,H,I,rw',q⟩
 by_cases h0:0<=i
 ·have hj:i.toNat=j:=by
   rw[seqIndex_of h0 h5] at h1
   exact Option.some.inj h1
  exact item_listR pl.isList h0 (by omega) (by rw[hj];simpa using ew) fin hs
 ·have hj:(i+(its.toArray.size:Int)).toNat=j:=by
   rw[seqIndex_neg (by omega) h4] at h1
   rw[Z32,<- hl]
   exact Option.some.inj h1
  exact subscriptTail_builtinR (x:=w) pl.isList.typeIs slot_list_getitem.lookup
   (wpAny_getItem_list_neg (Q:=fun r s'=>r=w/\EP X pins σ Q r s') pl.isList (by omega) (by rw[Z32]<;>omega) (by omega) (by rw[hj];simpa using ew) ⟨rfl,fin⟩) hs
theorem Zrx:IxR X (Zug X.K):=by
 intro value slice pins s σ H x y v u Q I rx ry h hs
 obtain⟨p,xs,i,z,rfl,rfl,hq,he,q⟩:=h
 cases rx
 obtain⟨t,rfl⟩:=ry
 obtain⟨its,r,pl,hz⟩:=I.tuple hq
 obtain⟨j,h1,h2,h3,h4,h5⟩:=Zhu he
 obtain⟨w,ew,rw'⟩:=r.get h2
 have hl:=r.length
 have hn:=ZfA
 have fin:EP X pins σ Q w s:=⟨z,H,I,rw',q⟩
 exact subscriptTail_builtinR (x:=w) pl.typeIs slot_tuple_getitem.lookup
  (getItem_tuple (j:=j) (Q:=fun r s'=>r=w/\EP X pins σ Q r s') pl (by omega) (by omega) (by rw[Z32,<- hl];exact h1) (by simpa using ew) ⟨rfl,fin⟩) hs
theorem Zoq:IxR X ZsM:=by
 intro value slice pins s σ H x y v u Q I rx ry h hs
 obtain⟨z,i,c,rfl,rfl,hz,he,q⟩:=h
 obtain⟨t,rfl⟩:=rx
 obtain⟨t',rfl⟩:=ry
 obtain⟨j,h1,h2,h3,h4,h5⟩:=Zhu he
 have hl:z.cps.toList.length=z.length:=by simp[Str.length]
 rw[hl] at h1 h4 h5
 have hn:=ZfA
 exact tail_any (typeIs_str s z t) slot_str_getitem.lookup (getItem_str (c:=c) (by
  have e1:decide (i < -(2^63:Int))=false:=decide_eq_false (by omega)
  have e2:decide (i ≥ 2^63)=false:=decide_eq_false (by omega)
  rw[e1,e2,Bool.or_false]) (by rw[h1];simpa using h2) ⟨.str ⟨#[c]⟩,H,I.tok _,⟨_,rfl⟩,q⟩) hs
noncomputable def rIx(K:W.Frag):R2:=fun x y H Q=>Zuh K x y H Q\/Zug K x y H Q\/ZsM x y H Q
theorem Zry:IxR X (rIx X.K):=Zpw.or (Zrx.or Zoq)
theorem Inv.lst{pins:List (Addr×Obj)}{σ:St}{H:Hp}{s:Shared}{p:Addr}{xs:List V}(I:Inv X pins σ H s)(h:H p=some (.lst xs)) :
  ∃(its:List Value) (n:Nat),Jk xs its/\s.heap.get? p=some { cls:=.type "list",data:=.seq its.toArray n }/\xs.length<=sizeLine:=by
 obtain⟨z,its,n,r,e⟩:=I.hok p _ h
 exact⟨its,n,r,e,z⟩
theorem Zfm(lo hi:Option Int)(n:Nat):(sliceBounds lo hi none n).1=((HT.sIx n 0 lo:Nat):Int)/\(sliceBounds lo hi none n).2.1=((HT.sIx n n hi:Nat):Int)/\(sliceBounds lo hi none n).2.2=1:=by
 refine⟨?_, ?_,rfl⟩
 ·cases lo with
  |none=>simp[sliceBounds,HT.sIx]
  |some i =>
   simp only[sliceBounds,HT.sIx,Option.getD_none,show (1:Int)>0 by decide,if_true]
   by_cases h:i<0
   ·simp only[h,if_true]<;>omega
   ·simp only[h,if_false]<;>omega
 ·cases hi with
  |none=>simp[sliceBounds,HT.sIx]
  |some i =>
   simp only[sliceBounds,HT.sIx,Option.getD_none,show (1:Int)>0 by decide,if_true]
   by_cases h:i<0
   ·simp only[h,if_true]<;>omega
   ·simp only[h,if_false]<;>omega
theorem Zez(its:List Value)(lo hi:Option Int):slicePick its.toArray lo hi none=((its.drop (HT.sIx its.length 0 lo)).take (HT.sIx its.length its.length hi-HT.sIx its.length 0 lo)).toArray:=by
 obtain⟨h1,h2,h3⟩:=Zfm lo hi its.toArray.size
 unfold slicePick
 rw[h1,h2,h3]
 simp only[sliceRange_one,pick_run,Z32]<;>rfl
def ZsK(K:W.Frag):V->Option Int->Option Int->Hp->VK->Prop:=fun x lo hi H Q=>∃a xs,x=.ref a/\SqL K H a xs/\∀p,H p=none->Q (.ref p) (upd H p (.lst (Zqn xs lo hi)))
theorem ZoO:SlR X (ZsK X.K):=by
 intro pins s σ H x v vl vu lo hi sl Q I rx hs pl pu h
 obtain⟨a,xs,rfl,hx,q⟩:=h
 cases rx
 obtain⟨its,r,ht,hz⟩:=I.list hx
 have hlen:=r.length
 refine⟨"list",_,slot_list_getitem.lookup,ht.isList.typeIs, ?_⟩
 refine wpAny_getItem_list_slice ht.isList hs pl pu .none (by simp) ?_ (by rw[Z32]<;>omega)
 rw[Zez,<- hlen]
 refine⟨.ref s.heap.objs.size,_,I.laid (t':=s.toks) (o:=.lst (Zqn xs lo hi)) (fun b ob q=>Heap.get?_push_of_some _ q) (Z3u _) ?_,rfl,q _ (I.hok.fresh (Z3u _))⟩
 exact⟨Z33 (Zhm xs lo hi) hz,_,0,(r.drop (HT.sIx xs.length 0 lo)).take (HT.sIx xs.length xs.length hi-HT.sIx xs.length 0 lo),Heap.get?_push_size _ rfl⟩
theorem ZfZ:Vu X (.builtin "len") (fun xs H Q=>∃p ys,xs=[.ref p]/\(SqL X.K H p ys\/SqT X.K H p ys)/\Q (.int ys.length) H):=by
 intro pins s σ H xs us Q I r h
 obtain⟨p,ys,rfl,hq,q⟩:=h
 obtain⟨u,rfl,rx⟩:=Zdq r
 cases rx
 have hn:=ZfA
 rcases hq with hq|hq
 ·obtain⟨its,r',pl,hz⟩:=I.list hq
  have hlen:=r'.length
  exact Calls.call_len_list pl.isList (by simp only[Z32]<;>omega) ⟨.int ys.length,H,I.tok _,⟨s.toks+1,by rw[Z32,hlen]⟩,q⟩
 ·obtain⟨its,r',pl,hz⟩:=I.tuple hq
  have hlen:=r'.length
  exact len_tuple pl (by simp only[Z32]<;>omega) ⟨.int ys.length,H,I.tok _,⟨s.toks+1,by rw[Z32,hlen]⟩,q⟩
theorem Ug:Vu X (.builtin "len") (fun xs H Q=>∃z,xs=[.str z]/\z.length<=sizeLine/\Q (.int z.length) H):=by
 intro pins s σ H xs us Q I r h
 obtain⟨z,rfl,hz,q⟩:=h
 obtain⟨u,rfl,t,rfl⟩:=Zdq r
 have hn:=ZfA
 exact len_str (by omega) ⟨.int z.length,H,I.tok _,⟨_,rfl⟩,q⟩
theorem Vu.or{f:Value}{r r':List V->Hp->VK->Prop}(h:Vu X f r)(h':Vu X f r'):Vu X f (fun xs H Q=>r xs H Q\/r' xs H Q):=by
 intro pins s σ H xs us Q I rs q
 rcases q with q|q
 ·exact h pins s σ H xs us Q I rs q
 ·exact h' pins s σ H xs us Q I rs q
theorem ZfX:Vu X (.type "list") (fun xs H Q=>∃p ys,xs=[.ref p]/\(SqL X.K H p ys\/SqT X.K H p ys)/\∀l,H l=none->Q (.ref l) (upd H l (.lst ys))):=by
 intro pins s σ H xs us Q I r h
 obtain⟨p,ys,rfl,hq,q⟩:=h
 obtain⟨u,rfl,rx⟩:=Zdq r
 cases rx
 have fin:∀(its:List Value),Jk ys its->ys.length<=sizeLine->∀(h':Heap) (c':Nat),(∀b o',s.heap.get? b=some o'->h'.get? b=some o') ->
   h'.get? s.heap.objs.size=some { cls:=.type "list",dict:=none,data:=.seq its.toArray c',slots:=#[] }->EP X pins σ Q (.ref s.heap.objs.size) { s with heap:=h' }:=fun its r' hz h' c' kp e =>
  ⟨.ref s.heap.objs.size,_,I.laid (t':=s.toks) kp (Z3u _) (show Vk X.prog X.w _ h' _ (.lst ys) from ⟨hz,its,c',r',e⟩),rfl,q _ (I.hok.fresh (Z3u _))⟩
 rcases hq with hq|hq
 ·obtain⟨its,r',pl,hz⟩:=I.list hq
  have hlen:=r'.length
  obtain⟨o,ho,hc,n,hd⟩:=pl.isList
  exact call_list_seq p (.inl rfl) ho hc hd (fun h' c' kp e=>fin its r' hz h' c' kp e) (by simp only[Z32]<;>omega)
 ·obtain⟨its,r',pl,hz⟩:=I.tuple hq
  have hlen:=r'.length
  obtain⟨o,ho,hc,n,hd⟩:=pl
  exact call_list_seq p (.inr rfl) ho hc hd (fun h' c' kp e=>fin its r' hz h' c' kp e) (by simp only[Z32]<;>omega)
theorem ZeU:Vu X (.type "tuple") (fun xs H Q=>∃p ys,xs=[.ref p]/\((SqL X.K H p ys/\∀l,H l=none->Q (.ref l) (upd H l (.tup ys)))\/(SqT X.K H p ys/\Q (.ref p) H))):=by
 intro pins s σ H xs us Q I r h
 obtain⟨p,ys,rfl,h⟩:=h
 obtain⟨u,rfl,rx⟩:=Zdq r
 cases rx
 rcases h with ⟨hq,q⟩|⟨hq,q⟩
 ·obtain⟨its,r',pl,hz⟩:=I.list hq
  have hlen:=r'.length
  refine call_tuple_list pl.isList (fun h' kp=>?_) (by simp only[Z32]<;>omega)
  have I1:Inv X pins σ H { s with heap:=h' }:=I.kept (t':=s.toks) kp
  have I2:Inv X pins σ (upd H h'.objs.size (.tup ys)) { s with heap:=h'.push { cls:=.type "tuple",data:=.seq its.toArray } }:=
   I1.laid (t':=s.toks) (fun b o e=>Heap.get?_push_of_some _ e) (Z3u _) (show Vk X.prog X.w _ _ _ (.tup ys) from ⟨hz,its,r',IsTup.new _ _⟩)
  exact⟨.ref h'.objs.size,_,I2,rfl,q _ (I1.hok.fresh (Z3u _))⟩
 ·obtain⟨its,r',pl,hz⟩:=I.tuple hq
  exact call_tuple_same pl ⟨.ref p,H,I,rfl,q⟩
def tyV(K:W.Frag)(T:String)(x:V)(H:Hp):Prop:=match x with
 |.str _=>T = "str"
 |.int _=>T = "int"
 |.ref p=>(T = "list"/\∃xs,SqL K H p xs)\/(T = "tuple"/\∃o,K.lookup p=some o/\o.cls=.type "tuple"/\o.dict=none) \/
   (T = "dict"/\((∃kvs,H p=some (.dK kvs))\/∃kvs,H p=some (.dT kvs)))\/(T = "set"/\∃S n,H p=some (.set S n))
 |_=>False
theorem Zn9{pins:List (Addr×Obj)}{σ:St}{H:Hp}{s:Shared}{T:String}{x:V}{v:Value}(I:Inv X pins σ H s)(r:JY x v)(ty:tyV X.K T x H) :
  s.TypeIs v T/\∀a,v=.ref a->∃ob,s.heap.get? a=some ob/\ob.dict=none:=by
 cases x with
 |str z =>
  obtain⟨t,rfl⟩:=r
  cases (show T = "str" from ty)
  exact⟨typeIs_str s z t,fun _ e=>nomatch e⟩
 |int i =>
  obtain⟨t,rfl⟩:=r
  cases (show T = "int" from ty)
  exact⟨typeIs_int s i t,fun _ e=>nomatch e⟩
 |ref p =>
  cases r
  rcases ty with ⟨rfl,xs,hq⟩|⟨rfl,o,hk,hc,hd⟩|⟨rfl,hk⟩|⟨rfl,S,n,hk⟩
  ·obtain⟨its,_,pl,_⟩:=I.list hq
   refine⟨pl.isList.typeIs,fun a e=>?_⟩
   cases e
   obtain⟨o,n,e,c,hd,_⟩:=pl
   exact⟨o,e,hd⟩
  ·refine⟨⟨o,I.kIn p o hk,hc⟩,fun a e=>?_⟩
   cases e
   exact⟨o,I.kIn _ o hk,hd⟩
  ·have z:∃o,s.heap.get? p=some o/\o.ExactDict:=by
    rcases hk with ⟨kvs,hk⟩|⟨kvs,hk⟩
    ·obtain⟨_,_,_,_,o,_,_,e,ex,_⟩:=I.hok p _ hk
     exact⟨o,e,ex⟩
    ·obtain⟨_,_,_,_,o,_,_,e,ex,_⟩:=I.hok p _ hk
     exact⟨o,e,ex⟩
   obtain⟨o,e,ex⟩:=z
   refine⟨⟨o,e,ex.1⟩,fun a e2=>?_⟩
   cases e2
   exact⟨o,e,ex.2.1⟩
  ·obtain⟨o,_,_,_,e,ex,_⟩:=I.hok p _ hk
   refine⟨⟨o,e,ex.1⟩,fun a e2=>?_⟩
   cases e2
   exact⟨o,e,ex.2.1⟩
 |_=>exact False.elim ty
noncomputable def ZtZ(K:W.Frag)(T:String)(r:V->List V->Hp->VK->Prop)(to:TE):TE:=fun σ H Q=>to σ H fun x H1=>tyV K T x H1/\r x [] H1 Q
noncomputable def tBM(K:W.Frag)(T:String)(r:V->List V->Hp->VK->Prop)(to:TE)(t:TA):TE:=fun σ H Q=>to σ H fun x H1=>tyV K T x H1/\t σ H1 fun xs H2=>r x xs H2 Q
variable {o e:Expr}{es:List Expr}{to:TE}{t:TA}{name:Str}{apos cpos:Pos}{T id:String}{r:V->List V->Hp->VK->Prop}
theorem ZqT(pa:PlainAttrs T)(slot:Slot T name id)(hty:typeOf (.builtin id)=pure (.type "method_descriptor"))(hm:MtR X id r)(ho:PE X o to)(hbase:attributeBase o name X.env (eval o X.env)=eval o X.env:=by rfl)(hline:(apos.endLine==cpos.line)=true:=by rfl):PE X (.Call (.Attribute o name apos) [] [] cpos) (ZtZ X.K T r to):=by
 intro pins s σ H Q I h
 refine wpAny_Call_method0_late hbase hline (thn (ho pins s σ H _ I h) fun v s1 ⟨x,H1,I1,r1,ty,q1⟩=>?_)
 obtain⟨h1,h2⟩:=Zn9 I1 r1 ty
 exact⟨T,id,pa,slot,hty,h1,h2,Calls.callWith_builtin rfl (PySem.evalArgs_none (hm pins s1 σ H1 x [] v [] Q I1 r1 .nil q1))⟩
theorem Ze5(pa:PlainAttrs T)(slot:Slot T name id)(hty:typeOf (.builtin id)=pure (.type "method_descriptor"))(hm:MtR X id r)(ho:PE X o to)(ha:PA X (e::es) t)(hbase:attributeBase o name X.env (eval o X.env)=eval o X.env:=by rfl)(hfew:((backTo cpos (starEach (e::es) X.env)).all (fun x=>!x.1)&&(backToKw cpos (keywordEach [] X.env)).all (fun x=>x.1.isSome)
   && decide ((e::es).length+([]:List Keyword).length+(if ([]:List Keyword).isEmpty then 0 else 1)<30))=true:=by rfl)(hline:(apos.endLine==cpos.line)=true:=by rfl)(hs:starEach (e::es) X.env=(false,eval e X.env)::starEach es X.env:=by rfl)(hplain:(backTo cpos (starEach es X.env)).any (·.1)=false:=by rfl) :
  PE X (.Call (.Attribute o name apos) (e::es) [] cpos) (tBM X.K T r to t):=by
 intro pins s σ H Q I h
 refine wpAny_Call_method_late hbase hfew hline rfl (thn (ho pins s σ H _ I h) fun v s1 ⟨x,H1,I1,r1,ty,q1⟩=>?_)
 obtain⟨h1,h2⟩:=Zn9 I1 r1 ty
 refine⟨T,id,pa,slot,hty,h1,h2, ?_⟩
 have hA:=ha cpos pins s1 σ H1 _ I1 q1
 rw[hs] at hA ⊢
 refine Calls.callWith_builtin (by show (false || (backTo cpos (starEach es X.env)).any (·.1))=false;rw[hplain]<;>rfl) (Calls.evalArgs_plain ?_)
 exact thn hA fun us s2 ⟨vs,H2,I2,r2,q2⟩=>hm pins s2 σ H2 x vs v us Q I2 r1 r2 q2
end
def MtM(X:Cx)(id:String)(r:V->List V->Hp->VK->Prop):Prop:=
 ∀(pins:List (Addr×Obj)) (s:Shared) (σ:St) (H:Hp) (x:V) (xs:List V) (v:Value) (us:List Value) (Q:VK),Inv X pins σ H s->JY x v->Jk xs us->r x xs H Q ->
  wpAny (model X.prog X.w) X.A (call (.builtin id) (v::us)) (EP X pins σ Q) X.xe s
theorem Jk.one:∀{x:V}{us:List Value},Jk [x] us->∃u,us=[u]/\JY x u
 |_,_,.cons r .nil=>⟨_,rfl,r⟩
theorem Jk.two:∀{x y:V}{us:List Value},Jk [x,y] us->∃u v,us=[u,v]/\JY x u/\JY y v
 |_,_,_,.cons r (.cons q .nil)=>⟨_,_,rfl,r,q⟩
theorem Jk.zero:∀{us:List Value},Jk [] us->us=[]
 |_,.nil=>rfl
theorem Jk.dropLast{xs:List V}{us:List Value}(h:Jk xs us):Jk xs.dropLast us.dropLast:=by
 induction h with
 |nil=>exact .nil
 |cons r t ih =>
  cases t with
  |nil=>exact .nil
  |cons q t'=>exact .cons r ih
theorem Jk.eraseIdx:∀{xs:List V}{us:List Value} (i:Nat),Jk xs us->Jk (xs.eraseIdx i) (us.eraseIdx i)
 |_,_,_,.nil=>.nil
 |_,_,0,.cons _ t=>t
 |_,_,i+1,.cons r t=>.cons r (Jk.eraseIdx i t)
theorem Jk.reverse{xs:List V}{us:List Value}(h:Jk xs us):Jk xs.reverse us.reverse:=by
 induction h with
 |nil=>exact .nil
 |cons r t ih=>rw[List.reverse_cons,List.reverse_cons];exact Jk.append ih (.cons r .nil)
theorem Jk.rep{xs:List V}{us:List Value}(h:Jk xs us):∀k:Nat,Jk (List.replicate k xs).flatten (List.replicate k us).flatten
 |0=>.nil
 |k+1=>by
  rw[Z3Q,Z3Q,Z4r,Z4r]
  exact Jk.append h (Jk.rep h k)
theorem Zjk{α:Type}(l:List α):l.eraseIdx (l.length-1)=l.dropLast:=by
 induction l with
 |nil=>rfl
 |cons a r ih =>
  cases r with
  |nil=>rfl
  |cons b r =>
   have e:(a::b::r).length-1=((b::r).length-1)+1:=by
    have h1:(a::b::r).length=r.length+2:=rfl
    have h2:(b::r).length=r.length+1:=rfl
    omega
   rw[e,List.eraseIdx_cons_succ,ih]
   all_goals rfl
section
variable {X:Cx}{pins:List (Addr×Obj)}{σ:St}{H:Hp}{s:Shared}{l:Addr}{xs ys:List V}
theorem Inv.lset{its its':List Value}{n:Nat}{f:Array Value->Array Value}{t':Nat}(I:Inv X pins σ H s)(hH:H l=some (.lst xs))(e:s.heap.get? l=some { cls:=.type "list",data:=.seq its.toArray n })(hf:f its.toArray=its'.toArray)(hv:Jk ys its')(hz:ys.length<=sizeLine) :
  Inv X pins σ (upd H l (.lst ys)) { s with heap:=s.heap.update l (Obj.mapSeq f),toks:=t' }:=by
 have q:=PySem.IsL.update e f
 rw[hf] at q
 refine I.write (x:=l) (e:=l) (by rw[hH];exact trivial) (.inl rfl) (fun b' u hb hu=>(Heap.get?_update_other s.heap (Obj.mapSeq f) (Ne.symm hb)).trans hu) ⟨_,q⟩ ?_
 exact⟨hz,its',_,hv,q⟩
theorem Inv.lnew{its:List Value}{t':Nat}(I:Inv X pins σ H s)(hv:Jk ys its)(hz:ys.length<=sizeLine) :
  Inv X pins σ (upd H s.heap.objs.size (.lst ys)) { s with heap:=s.heap.push { cls:=.type "list",data:=.seq its.toArray },toks:=t' }:=
 I.laid (fun _ _ q=>Heap.get?_push_of_some _ q) (Z3u _) ⟨hz,its,0,hv,Heap.get?_push_size _ rfl⟩
theorem Inv.fresh(I:Inv X pins σ H s):H s.heap.objs.size=none:=I.hok.fresh (Z3u _)
theorem Inv.lstM(I:Inv X pins σ H s)(hH:H l=some (.lst xs)):xs.length<=sizeLine/\∃(its:List Value) (n:Nat),Jk xs its/\xs.length=its.length/\s.heap.get? l=some { cls:=.type "list",data:=.seq its.toArray n }:=by
 obtain⟨z,its,n,r,e⟩:=I.hok l _ hH
 exact⟨z,its,n,r,r.length,e⟩
end
section
variable {X:Cx}
def Zkb:V->List V->Hp->VK->Prop:=fun x vs H Q=>∃l xs y,x=.ref l/\vs=[y]/\H l=some (.lst xs)/\xs.length<sizeLine/\Q .non (upd H l (.lst (xs++[y])))
theorem Zd5:MtM X "list.append" Zkb:=by
 intro pins s σ H x vs v us Q I rx rv h
 obtain⟨l,xs,y,rfl,rfl,hH,hz,q⟩:=h
 cases rx
 obtain⟨u,rfl,ru⟩:=rv.one
 obtain⟨z,its,n,r,hl,e⟩:=I.lstM hH
 refine call_meets F.slot_list_append ⟨_,e,rfl⟩ F.entry_list_append (F.args_list_append_2 _ _) (PySem.list_append l its.toArray n u (by rw[Z32];omega)) ⟨e, ?_⟩
 refine⟨.non,_,I.lset (its':=its++[u]) hH e (by simp) (r.append (.cons ru .nil)) ?_,rfl,q⟩
 rw[Z3y,Z3O]
 omega
def Zuf:V->List V->Hp->VK->Prop:=fun x vs H Q=>∃l xs y,x=.ref l/\vs=[]/\H l=some (.lst xs)/\xs[xs.length-1]?=some y/\Q y (upd H l (.lst xs.dropLast))
theorem Zri:MtM X "list.pop" Zuf:=by
 intro pins s σ H x vs v us Q I rx rv h
 obtain⟨l,xs,y,rfl,rfl,hH,hy,q⟩:=h
 cases rx
 have hus:=rv.zero
 subst hus
 obtain⟨z,its,n,r,hl,e⟩:=I.lstM hH
 obtain⟨u,hu,ru⟩:=r.get hy
 have hy':its.toArray[its.toArray.size-1]?=some u:=by
  show its.toArray[its.length-1]?=some u
  rw[<- Z3I,<- hl]
  exact hu
 refine call_meets F.slot_list_pop ⟨_,e,rfl⟩ F.entry_list_pop (F.args_list_pop_1 _) (MeetsSeq.list_pop_last l its.toArray n u hy' (by rw[Z32];omega)) ⟨e, ?_⟩
 refine⟨y,_,I.lset (its':=its.dropLast) hH e ?_ r.dropLast ?_,ru,q⟩
 ·show its.toArray.eraseIdxIfInBounds (its.toArray.size-1)=its.dropLast.toArray
  rw[Z32,List.eraseIdxIfInBounds_toArray,Zjk]
 ·rw[List.length_dropLast]
  omega
theorem Zpt{α:Type}(xs:List α)(k:Nat):(List.replicate k xs).flatten.length=k*xs.length:=by
 induction k with
 |zero=>simp
 |succ k ih=>rw[Z3Q,Z4r,Z3y,ih,Nat.succ_mul,Nat.add_comm]
end
section
set_option maxRecDepth 100000 in
end
section
end
end L2
namespace Att
open PySem PySem.W PySem.Calls PyProof.Rows
theorem Zd8{P:Params}{h:Heap}:∀(ns:List Int) (vs:List Value),WellAll P h vs (ns.map WData.int)->IntsAre vs ns:=by
 intro ns
 induction ns with
 |nil =>
  intro vs w
  rw[Z4f] at w
  cases w
  exact .nil
 |cons n ns ih =>
  intro vs w
  rw[Z31] at w
  cases w with
  |cons a b =>
   cases a
   exact .cons _ _ (ih _ b)
theorem ZjT{l:OpenLaw}{n:Nat}(hn:l.most=some n){P:Params}{h:Heap}{args:List WData}{vals:List Value}(hpre:l.row.toRowW.claim.pre args=true)(hwl:WellAll P h vals args) :
  ∃a vs ns,vals=[Value.ref a]/\args=[WData.list (ns.map WData.int)]/\h.get? a=some { cls:=.type "list",data:=.seq vs.toArray }/\IntsAre vs ns/\ns.length<=n:=by
 have hsh:WShape.hasAll [] args [.list .int]=true:=(pre_splitW hpre).1
 have hc:l.pre.holds [] { args:=args }=true:=(pre_splitW hpre).2
 obtain⟨d,r,rfl,h1,h2⟩:=hasAllW_cons hsh
 obtain rfl:=hasAllW_nil h2
 obtain⟨xs,rfl,h3⟩:=hasW_list h1
 obtain⟨ns,rfl⟩:=items_int h3
 have hlen:ns.length<=n:=by
  unfold OpenLaw.pre at hc
  have h4:(WTm.not (.lt (.lit (.int (n:Int))) (.len (.arg 0)))).holds [] { args:=[.list (ns.map .int)] }=true:=by
   have h4:=(holds_andW hc).1
   rw[hn] at h4
   exact h4
  have h5:=condW_of h4 (w_not (w_lt w_lit (w_len_list (w_arg rfl))))
  rw[Z3w] at h5
  refine Nat.le_of_not_lt fun q=>?_
  have q':(n:Int)<((ns.length:Nat):Int):=by omega
  first
   |(rw[decide_eq_true q'] at h5;exact absurd h5 (by decide))
   |(simp at h5;omega)
 cases hwl with
 |cons w1 w2 =>
  cases w2
  cases w1 with
  |list ho hall=>exact⟨_,_,ns,rfl,rfl,ho,Zd8 ns _ hall,hlen⟩
theorem Zke(l:OpenLaw)(args:List WData):l.row.toRowW.claim.post args (.bool true) args=true:=
 postW_of (r:=l.row.toRowW) (X:=(true==true))
  (show WShape.has [] (.bool true) .bool=true by first|rfl|decide|simp[WShape.has,WShape.arms,WShape.armsAll])
  (show (WTm.eq .res (.lit (.bool true))).value [] { args:=args,res:=some (.bool true),after:=args }=some (.bool (true==true)) from w_eq_bool (w_res rfl) w_lit) rfl
theorem Zht{l:OpenLaw}{n:Nat}{q:Program}{loose:List Str}{XP:(Str->Option Value)->Heap->Prop}{YP:World->Heap->Prop}{d:DefRec}(hn:l.most=some n)(hdf:d.params.defaults=[])(call:∀(w:World) (s₀ s₁:Shared) (mg mb:Str->Option Value) (fa:Addr) (o:Obj) (pm cd doc:Value) (a:Addr) (vs:List Value) (ns:List Int),
   Ground q loose [] XP w s₀ mg mb s₁.heap->YP w s₁.heap ->
   s₁.heap.get? fa=some o->o.data=.func (docDef d.name d.params d.body d.scope pm cd doc)->s₁.heap.CodeRec cd d.name->mg d.name=some (.ref fa) ->
   s₁.heap.get? a=some { cls:=.type "list",data:=.seq vs.toArray }->IntsAre vs ns->ns.length<=n->s₁.gens=#[] ->
   codeAny (model l.prog w) callerA (.call (.ref fa) ⟨[.ref a],[]⟩) (fun r s'=>r=.ok (.ret (.bool true))/\OldK s₁.heap s'.heap/\s'.os=s₁.os/\AllBare s'.gens) s₁) :
  WalkO q loose XP YP l.row.toRowW d [] (fun f vs=>PySem.call f vs):=by
 intro w s₀ s₁ mg mb G Y fa o pm cd doc dV kV ho hd hcd hD hmg hg args vals as hpre hlay hrd hwl hlo
 obtain rfl:dV=.none:=Dflts.none hD hdf
 obtain rfl:kV=.none:=Dflts.noKw hD
 obtain⟨a,vs,ns,rfl,rfl,hobj,hints,hlen⟩:=ZjT hn hpre hwl
 refine enter_call (codeAny_mono (call w s₀ s₁ mg mb fa o pm cd doc a vs ns G Y ho (fd_plain hd) hcd hmg hobj hints hlen hg) fun r s' hq=>?_)
 obtain⟨rfl,h2,h3,h4⟩:=hq
 exact⟨.inl ⟨.bool true,.bool true,[],rfl,fun _=>rfl,.bool true,Zke l _,fun _=>⟨List.Pairwise.nil,fun _ hm=>(nomatch hm)⟩⟩,h2,h3,h4⟩
section
end
end Att
namespace L2
open PySem PySem.Spec PyProof.Rows
theorem Zff:∀{vs:List Value}{ns:List Int},IntsAre vs ns->Jk (ns.map V.int) vs
 |_,_,.nil=>.nil
 |_,_,.cons n t h=>.cons ⟨t,rfl⟩ (Zff h)
def Zsd(H:Hp):Prop:=∀b,H b=none\/∃o xs,H b=some (.frz o (.lst xs))
theorem ZmP{P:Program}{w:World}{K:W.Frag}{mg mb:Str->Option Value}{CX:CXT}{k:Nat}{fa a:Addr}{fd:FuncData}{x:Str}{sp:Sp}{s₁:Shared}{vs:List Value}{ns:List Int}(KX:K.In s₁.heap)(hns:s₁.heap.Ns mainGlobals mg)(hb:s₁.heap.Ns builtinsNs mb)(hbb:∀x:Str,x ≠ "__name__"->mb x=bootBuiltins x)(hlim:s₁.heap.NoLimit)(hg:s₁.gens=#[])(ha:s₁.heap.get? a=some { cls:=.type "list",data:=.seq vs.toArray })(hi:IntsAre vs ns)(hl:ns.length<=sizeLine)(hr:ZbC k callerA)(F:∀base:Heap,K.In base->base.Ns mainGlobals mg->Jp P w K mg base CX k fa fd [x] sp)(hbind:∀(s:Shared) (u:Value),BindsTo s fd ⟨[u],[]⟩ [(x,u)])(hsp:∀H:Hp,Zsd H->SqL K H a (ns.map V.int)->sp [.ref a] H (fun v _=>v=.bl true) fun _ _ _=>False)(hCX:∀H e s',CX [] H s₁ (fun _ _ _=>False) e s'->False) :
  codeAny (model P w) callerA (.call (.ref fa) ⟨[.ref a],[]⟩) (fun r s'=>r=.ok (.ret (.bool true))/\OldK s₁.heap s'.heap/\s'.os=s₁.os/\AllBare s'.gens) s₁:=by
 have rv:=Zff hi
 have lenV:=hi.length
 have core:∀H:Hp,Zsd H->SqL K H a (ns.map V.int)->HOk P w H s₁.heap->(∀b,H b≠none->b=a)->(H a≠none->K.lookup a=none) ->
   codeAny (model P w) callerA (.call (.ref fa) ⟨[.ref a],[]⟩) (fun r s'=>r=.ok (.ret (.bool true))/\OldK s₁.heap s'.heap/\s'.os=s₁.os/\AllBare s'.gens) s₁:=by
  intro H hO hS hok hA hK
  have base_of:∀{b:Addr}{o:Obj},s₁.heap.get? b=some o->H b=none->(ZmW s₁.heap H).get? b=some o:=fun e n=>ZmV e n
  have noA:∀{b:Addr}{o:Obj}{es:Array DictEntry}{ep:Nat},s₁.heap.get? b=some o->o.data=.dict es ep->H b=none:=fun {b o es ep} e d=>by
   cases q:H b with
   |none=>rfl
   |some u =>
    have e':b=a:=hA b (by rw[q];simp)
    subst e'
    rw[ha] at e;cases e
    have d':Data.seq vs.toArray _=Data.dict es ep:=d
    cases d'
  have nsK:∀{b:Addr}{m:Str->Option Value},s₁.heap.Ns b m->(ZmW s₁.heap H).Ns b m:=fun {b m} ⟨o,es,ep,e,d,r⟩=>⟨o,es,ep,base_of e (noA e d),d,r⟩
  have hKb:K.In (ZmW s₁.heap H):=fun b o e=>base_of (KX b o e) (by
   cases q:H b with
   |none=>rfl
   |some u =>
    have e':b=a:=hA b (by rw[q];simp)
    subst e'
    rw[hK (by rw[q];simp)] at e;cases e)
  have hM:Mod K mg (ZmW s₁.heap H):=⟨hKb,nsK hns,⟨mb,nsK hb,hbb⟩,let ⟨mc,h1,h2⟩:=hlim;⟨mc,nsK h1,h2⟩⟩
  have e0:ZoB P w K mg (ZmW s₁.heap H) callerA [] s₁ H:=⟨rfl,hM,fun b o e=>Zpj e,Nat.le_of_eq (Zla _ _),trivial,fun b hb=>absurd (show b∈([]:List Addr) from hb) (by simp),hok,.of_eq hg⟩
  refine codeAny_mono ((F _ hKb (nsK hns)).run callerA [] s₁ H ⟨[.ref a],[]⟩ [.ref a] [.ref a] _ _ hr e0 (hbind s₁ (.ref a)) (.cons rfl .nil) (hsp H hO hS)) fun r s' h=>?_
  cases r with
  |error e=>exact(hCX H e s' h).elim
  |ok fl =>
   cases fl with
   |next=>exact False.elim h
   |brk=>exact False.elim h
   |cont=>exact False.elim h
   |ret u =>
    obtain⟨v,H',os,bare,un,hok',r',q⟩:=h
    have q':v=.bl true:=q
    subst q'
    obtain rfl:u=Value.bool true:=r'
    refine⟨rfl,OldK.of_keep fun b o e=>?_,os,bare⟩
    cases q:H b with
    |none=>exact un.keep b o e q (by intro z;exact absurd (show b∈([]:List Addr) from z) (by simp)) (by simp)
    |some u =>
     rcases hO b with z|⟨ob,xs,z⟩
     ·rw[q] at z;cases z
     ·have z2:=un.frzs b ob _ z
      obtain⟨e1,_⟩:=hok b _ z
      obtain⟨e2,_⟩:=hok' b _ z2
      rw[e] at e1;cases e1
      exact e2
 cases hk:K.lookup a with
 |some o =>
  have e:=KX a o hk
  rw[ha] at e
  cases e
  refine core (fun _=>none) (fun _=>.inl rfl) (.inr ⟨_,vs.toArray,_,hk,rfl,rfl,rfl,by rw[Z32,lenV];exact hl,by simpa using rv⟩) (fun b u z=>by have z':(none:Option HO)=some u:=z;cases z') (fun b z=>absurd rfl z) fun z=>absurd rfl z
 |none =>
  refine core (fun b=>if b=a then some (.frz { cls:=.type "list",data:=.seq vs.toArray } (.lst (ns.map V.int))) else none) (fun b=>?_) (.inl (.inr ⟨{ cls:=.type "list",data:=.seq vs.toArray },if_pos rfl⟩)) (fun b u z=>?_) (fun b z=>?_) fun _=>hk
  ·by_cases hb:b=a
   ·exact .inr ⟨_,_,if_pos hb⟩
   ·exact .inl (if_neg hb)
  ·by_cases hb:b=a
   ·have z':=(if_pos hb).symm.trans z
    cases z'
    subst hb
    exact⟨ha,by rw[Z3w];exact hl,vs,_,rv,ha⟩
   ·have z':=(if_neg hb).symm.trans z
    cases z'
  ·by_cases hb:b=a
   ·exact hb
   ·exact absurd (if_neg hb) z
noncomputable abbrev KOf{K:W.Frag}{h:Heap}(_:K.In h):W.Frag:=K
theorem ZoC{l:PySem.W.OpenLaw}{n k:Nat}{q:Program}{loose:List Str}{XP:(Str->Option Value)->Heap->Prop}{YP:World->Heap->Prop}{d:DefRec}{K:Params->W.Frag}{CX:World->CXT}{sp:World->Sp}{x:Str}(hn:l.most=some n)(hn2:n<=sizeLine)(hdf:d.params.defaults=[])(hr:ZbC k callerA)(hY:∀(w:World) (h:Heap),YP w h->(K w.params).In h)(F:∀(w:World) (mg:Str->Option Value) (fa:Addr) (h:Heap),(K w.params).In h->h.Ns mainGlobals mg->mg d.name=some (.ref fa) ->
   ∃fd:FuncData,(∀(s:Shared) (u:Value),BindsTo s fd ⟨[u],[]⟩ [(x,u)]) /\
    ∀base:Heap,(K w.params).In base->base.Ns mainGlobals mg->Jp l.prog w (K w.params) mg base (CX w) k fa fd [x] (sp w))(hsp:∀(w:World) (H:Hp) (a:Addr) (ns:List Int),ns.length<=n->Zsd H->SqL (K w.params) H a (ns.map V.int)->sp w [.ref a] H (fun v _=>v=.bl true) fun _ _ _=>False)(hCX:∀(w:World) (H:Hp) (s:Shared) (e:Value) (s':Shared),CX w [] H s (fun _ _ _=>False) e s'->False) :
  PySem.W.WalkO q loose XP YP l.row.toRowW d [] (fun f vs=>PySem.call f vs):=by
 refine Att.Zht hn hdf fun w s₀ s₁ mg mb fa o pm cd doc a vs ns G Y ho hd hcd hmg hobj hints hlen hg=>?_
 have KX:=hY w _ Y
 obtain⟨fd,hb,hF⟩:=F w mg fa _ KX G.T.g hmg
 exact ZmP KX G.T.g G.T.b G.T.builtins G.T.nolimit hg hobj hints (Z33 hlen hn2) hr hF hb (fun H hO hS=>hsp w H a ns hlen hO hS) fun H e s'=>hCX w H s₁ e s'
theorem ZlZ{l:PySem.W.OpenLaw}{n k:Nat}{q:Program}{loose:List Str}{XP:(Str->Option Value)->Heap->Prop}{YP:World->Heap->Prop}{d:DefRec}{K:Params->W.Frag}{CX:CXT}{sp:W.Frag->Sp}{x:Str}(hn:l.most=some n)(hn2:n<=sizeLine)(hdf:d.params.defaults=[])(hr:ZbC k callerA)(hY:∀(w:World) (h:Heap),YP w h->(K w.params).In h)(F:∀(w:World) (mg:Str->Option Value) (fa:Addr) (h:Heap),(K w.params).In h->h.Ns mainGlobals mg->mg d.name=some (.ref fa) ->
   ∃fd:FuncData,(∀(s:Shared) (u:Value),BindsTo s fd ⟨[u],[]⟩ [(x,u)]) /\
    ∀base:Heap,(K w.params).In base->base.Ns mainGlobals mg->Jp l.prog w (K w.params) mg base CX k fa fd [x] (sp (K w.params)))(hsp:∀(K:PySem.W.Frag) (H:Hp) (a:Addr) (ns:List Int),ns.length<=n->Zsd H->SqL K H a (ns.map V.int)->sp K [.ref a] H (fun v _=>v=.bl true) fun _ _ _=>False)(hCX:∀(H:Hp) (s:Shared) (e:Value) (s':Shared),CX [] H s (fun _ _ _=>False) e s'->False) :
  PySem.W.WalkO q loose XP YP l.row.toRowW d [] (fun f vs=>PySem.call f vs):=
 ZoC (K:=K) (CX:=fun _=>CX) (sp:=fun w=>sp (K w.params)) hn hn2 hdf hr hY F (fun w H a ns h1 h2 h3=>hsp (K w.params) H a ns h1 h2 h3) fun _ H s e s'=>hCX H s e s'
noncomputable def Vl(s:Stmt)(j:Nat):Stmt:=match s with
 |.ClassDef _ _ _ body _ _ _ _ _ _ _=>body.getD j (.Pass ⟨0,0,0,0⟩)
 |_=>.Pass ⟨0,0,0,0⟩
noncomputable def QF(s:Stmt):Arguments:=match s with
 |.FunctionDef _ a _ _ _ _ _ _ _ _=>a
 |_=>{ posonlyargs:=[],args:=[],vararg:=none,kwonlyargs:=[],kw_defaults:=[],kwarg:=none,defaults:=[] }
noncomputable def Vr(s:Stmt):List Stmt:=match s with
 |.FunctionDef _ _ b _ _ _ _ _ _ _=>b
 |_=>[]
noncomputable def Zm(s:Stmt):Scope:=match s with
 |.FunctionDef _ _ _ _ _ _ sc _ _ _=>sc
 |_=>{ kind:=.function,names:=[],isGenerator:=false,isCoroutine:=false }
noncomputable abbrev CX0:CXT:=fun _ _ _ _ _ _=>False
noncomputable abbrev E0:XK:=fun _ _ _=>False
theorem ZqU{X:Cx}:Zi1 CX0 X E0:=fun _ _ _ _ _ _ _ h=>h.elim
structure Fun(K:PySem.W.Frag)(x qual:Str)(st:Stmt)(f:Addr)(fd:FuncData):Prop where
 ex:∃(oc:Value) (od:Option Addr) (kV doc pm:Value) (an:Option Addr) (cdv ct:Value) (osl:Array (Option Value)),
  fd=PySem.W.fnOf x qual (QF st) (Vr st) (Zm st) .none kV doc pm an cdv ct/\K.lookup f=some ⟨oc,od,.func fd,osl⟩/\PySem.W.codeIn K cdv qual=true
 kp:PySem.W.keepIn K (.ref f)=true
section
variable {P:Program}{w:World}{K:W.Frag}{mg:Str->Option Value}{base:Heap}
theorem Fun.ok{x qual:Str}{st:Stmt}{f:Addr}{fd:FuncData}{N ps:List Str}{k:Nat}{sp:Sp}(F:Fun K x qual st f fd)(S:Zr N ps (Zm st))(len:∀vs H Q E,sp vs H Q E->vs.length=ps.length)(hbody:∀(cdv:Value) (A:Around) (outer:List Env) (s:Shared) (H:Hp) (vs:List V) (Q:VK) (E:XK),ZbC k (A.deeper (envOfC qual (Zm st) s.heap.objs.size f cdv))->sp vs H Q E ->
   ∃t,PSs (ZdP CX0 P w K mg base N qual (Zm st) f cdv A outer s H E).nox (Vr st) t/\t { nx:=fun _ H'=>Q .non H',rt:=Q } (ZcK N vs) H):Jp P w K mg base CX0 (k+1) f fd ps sp:=by
 obtain⟨oc,od,kV,doc,pm,an,cdv,ct,osl,rfl,lk,hcd⟩:=F.ex
 refine Zr6 lk hcd S len fun A outer s H vs Q E hr hsp=>?_
 obtain⟨t,h,q⟩:=hbody cdv A outer s H vs Q E hr hsp
 exact⟨t,h.nox,q⟩
theorem Fun.binds{x qual:Str}{st:Stmt}{f:Addr}{fd:FuncData}{ps:List Str}(F:Fun K x qual st f fd)(h:∀(kV doc pm:Value) (an:Option Addr) (cdv ct:Value) (us:List Value),us.length=ps.length->bindArgs (PySem.W.fnOf x qual (QF st) (Vr st) (Zm st) .none kV doc pm an cdv ct) ⟨us,[]⟩=pure (ps.zip us)):ZeY K fd ps []:=by
 obtain⟨oc,od,kV,doc,pm,an,cdv,ct,osl,rfl,lk,hcd⟩:=F.ex
 exact .all (h kV doc pm an cdv ct)
theorem Zou{x qual:Str}{st:Stmt}{f:Addr}{oc:Value}{od an:Option Addr}{osl:Array (Option Value)}{kV doc pm cdv ct:Value}(l:K.lookup f=some ⟨oc,od,.func (PySem.W.fnOf x qual (QF st) (Vr st) (Zm st) .none kV doc pm an cdv ct),osl⟩)(c:PySem.W.codeIn K cdv qual=true)(k:PySem.W.keepIn K (.ref f)=true):Fun K x qual st f (PySem.W.fnOf x qual (QF st) (Vr st) (Zm st) .none kV doc pm an cdv ct):=⟨⟨oc,od,kV,doc,pm,an,cdv,ct,osl,rfl,l,c⟩,k⟩
variable {X:Cx}
theorem pv(i:Nat){x:Str}{pos:Pos}(hN:X.N[i]?=some x:=by rfl)(hv:Vis X.env.scope x:=by first|exact Or.inl rfl|exact Or.inr (Or.inl rfl)|exact Or.inr (Or.inr rfl))(hd:(x==("__debug__":Str))=false:=by decide)(hcd:(x==("__classdict__":Str))=false:=by decide):PE X (.Name x pos) (Zj2 i):=ZqP hN hv hd hcd
end
def ZL(H H':Hp):Prop:=∀b o,H b=some o->H' b=some o
theorem ZL.refl(H:Hp):ZL H H:=fun _ _ h=>h
theorem ZL.trans{H H1 H2:Hp}(a:ZL H H1)(b:ZL H1 H2):ZL H H2:=fun c o h=>b c o (a c o h)
theorem ZL.free{H H':Hp}(e:ZL H H'){l:Addr}(h:H' l=Option.none):H l=Option.none:=by
 cases q:H l with
 |none=>rfl
 |some o =>
  rw[e l o q] at h
  cases h
theorem ZL.seq{K:W.Frag}{H H':Hp}{a:Addr}{xs:List V}(e:ZL H H')(h:SqL K H a xs):SqL K H' a xs:=by
 rcases h with (h|⟨o,h⟩)|h
 ·exact .inl (.inl (e _ _ h))
 ·exact .inl (.inr ⟨o,e _ _ h⟩)
 ·exact .inr h
end L2
set_option maxHeartbeats 4000000
namespace L2
open PySem PySem.Spec PyProof.Rows
noncomputable def Zfb(scope:Scope)(env:Env):List (Str×Addr):=
 ((scope.names.filter fun p=>p.2==.free).reverse).map fun p=>(p.1,(env.cells.lookup p.1).getD 0)
theorem ZaF{β:Type}:∀{l:List (Str×β)}{a:Str}{b:β},(a,b)∈l->∃c,l.lookup a=some c
 |[],_,_,h=>absurd h (by simp)
 |(n,v)::r,a,b,h=>by
  cases e:a==n with
  |true=>exact⟨v,by simp[Z3K,e]⟩
  |false =>
   rcases Z3v.mp h with z|z
   ·cases z;simp at e
   ·obtain⟨c,hc⟩:=ZaF z
    exact⟨c,by simp[Z3K,e,hc]⟩
theorem ZM{env:Env}:∀{names:List (Str×NameKind)}{y:Str}{k:NameKind},(∀p∈names,p.2≠.cell) ->
  (names.map fun(n,k)=>if (k==NameKind.free&&env.scope.kind==.function&&env.kindOf n==some .cell) then (n,NameKind.cell) else (n,k)).lookup y=some k ->
  (k=.local->names.lookup y=some .local)/\(k=.cell\/k=.free->names.lookup y=some .free)
 |[],_,_,_,h=>by simp at h
 |(n,k0)::r,y,k,nc,h=>by
  have ih:=@ZM env r y k (fun p hp=>nc p (Z39 _ hp))
  have nc0:=nc (n,k0) Z4z
  have h':List.lookup y ((if (k0==NameKind.free&&env.scope.kind==.function&&env.kindOf n==some .cell)=true then (n,NameKind.cell) else (n,k0))::(r.map fun(n,k)=>if (k==NameKind.free&&env.scope.kind==.function&&env.kindOf n==some .cell) then (n,NameKind.cell) else (n,k)))=some k:=h
  cases hx:y==n with
  |true =>
   by_cases hc:(k0==NameKind.free&&env.scope.kind==.function&&env.kindOf n==some .cell)=true
   ·rw[if_pos hc] at h'
    simp only[Z3K,hx] at h'
    have hk:NameKind.cell=k:=Option.some.inj h'
    subst hk
    have hf:k0=.free:=by
     simp only[Bool.and_eq_true] at hc
     exact beq_iff_eq.mp hc.1.1
    subst hf
    exact⟨(fun z=>nomatch z),fun _=>by simp[Z3K,hx]⟩
   ·rw[if_neg hc] at h'
    simp only[Z3K,hx] at h'
    have hk:k0=k:=Option.some.inj h'
    subst hk
    refine⟨fun z=>by subst z;simp[Z3K,hx],fun z=>?_⟩
    rcases z with z|z
    ·exact absurd z nc0
    ·subst z;simp[Z3K,hx]
  |false =>
   by_cases hc:(k0==NameKind.free&&env.scope.kind==.function&&env.kindOf n==some .cell)=true
   ·rw[if_pos hc] at h'
    simp only[Z3K,hx] at h'
    have:=ih h'
    simpa[Z3K,hx] using this
   ·rw[if_neg hc] at h'
    simp only[Z3K,hx] at h'
    have:=ih h'
    simpa[Z3K,hx] using this
noncomputable def Zho(N:List Str)(sc scope:Scope)(x:Str):Bool:=
 (scope.names.all fun p=>!(p.2==.cell))&&(scope.kind==.function)&&(scope.names.all fun p=>!(p.2==.local) || scope.names.lookup p.1==some .local)&&(scope.names.lookup x==some .local)
  && (N.all fun y=>!(scope.names.lookup y==some .local))&&(scope.names.all fun p=>!(p.2==.free) || sc.names.lookup p.1==some .cell || sc.names.lookup p.1==some .free)
structure Zeu(N:List Str)(sc scope:Scope)(x:Str):Prop where
 nc:∀p∈scope.names,p.2≠.cell
 kind:scope.kind=.function
 locs:∀p∈scope.names,p.2=.local->scope.names.lookup p.1=some .local
 var:scope.names.lookup x=some .local
 noN:∀y∈N,scope.names.lookup y≠some .local
 fr:∀p∈scope.names,p.2=.free->sc.names.lookup p.1=some .cell\/sc.names.lookup p.1=some .free
theorem Zeu.of{N:List Str}{sc scope:Scope}{x:Str}(h:Zho N sc scope x=true):Zeu N sc scope x:=by
 unfold Zho at h
 simp only[Bool.and_eq_true,Z36,Bool.or_eq_true,Bool.not_eq_true',beq_iff_eq,beq_eq_false_iff_ne] at h
 obtain⟨⟨⟨⟨⟨h1,h2⟩,h3⟩,h4⟩,h5⟩,h6⟩:=h
 refine⟨h1,h2,fun p hp e=>?_,h4,h5,fun p hp e=>?_⟩
 ·rcases h3 p hp with z|z
  ·exact absurd e z
  ·exact z
 ·rcases h6 p hp with (z|z)|z
  ·exact absurd e z
  ·exact .inl z
  ·exact .inr z
section
variable {X:Cx}{pins:List (Addr×Obj)}{σ:St}{H:Hp}{s:Shared}
theorem Inv.adopt{D:Addr}{ys:List V}{its:List Value}{n:Nat}(I:Inv X pins σ H s)(hn:H D=none)(h1:X.s₀.heap.objs.size<=D)(hL:D≠X.env.locals)(hc:∀x c,X.env.cells.lookup x=some c->c≠D)(hp:∀p∈X.pn++pins,p.1≠D)(ho:s.heap.get? D=some { cls:=.type "list",data:=.seq its.toArray n })(r:Jk ys its)(hz:ys.length<=sizeLine):Inv X pins σ (upd H D (.lst ys)) s:=by
 refine I.step (h':=s.heap) (g':=s.gens) (d':=s.drawn) (t':=s.toks) (ch:=[D]) (fun b hb=>?_) (fun b o _ _ _ e _=>e) (fun b o _ _ _ e _=>⟨o.slots,e⟩) (fun b o hb _ e=>?_) (fun b o _ e=>⟨o,e⟩)
  (fun b xs e=>?_) (fun b o u e=>?_) (fun b ps e=>⟨#[], ?_⟩) (fun m hm=>hm) (fun b u e=>?_) I.bare
 ·have e:b=D:=by simpa using hb
  subst e
  exact⟨.inr h1,hL,hc,hp⟩
 ·rw[Z4 (by simpa using hb)];exact e
 ·rw[Z4 (ZS e hn)];exact e
 ·rw[Z4 (ZS e hn)];exact e
 ·rw[Z4 (ZS e hn),e];simp
 ·by_cases hb:b=D
  ·subst hb
   rw[ZX] at e;cases e
   exact⟨hz,its,n,r,ho⟩
  ·rw[Z4 hb] at e
   exact(I.hok b u e).stay (fun c v _ q=>q) (fun c q=>by rw[Z4 (ZS q hn)];exact q) fun c xs q=>by rw[Z4 (ZS q hn)];exact q
variable {scope:Scope}
theorem ZeS{y:Str}(h:scope.names.lookup y=some .free):∃c,(Zfb scope X.env).lookup y=some c:=by
 have hm:=PySem.mem_of_lookup h
 refine ZaF (b:=(X.env.cells.lookup y).getD 0) ?_
 unfold Zfb
 exact Z3G.mpr ⟨(y,.free),List.mem_reverse.mpr (Z4d.mpr ⟨hm,rfl⟩),rfl⟩
end
end L2
namespace HL
open PySem PyProof.Rows
section
open PySem.SeqAt
open PySem.AutoSeq1 (wpAny_loadPart')
open PySem.MeetsSeq PySem.MeetsSeq2 PySem.MeetsSeq3 SeqRoads2
end
section
end
end HL
namespace L2
open PySem PySem.Spec PyProof.Rows
section
variable {X:Cx}
theorem Znt(hc:X.calm=true):Vu X (.builtin "sum") (fun xs H Q=>∃p,∃ns:List Int,xs=[.ref p]/\SqL X.K H p (ns.map V.int)/\Q (.int ns.sum) H):=by
 intro pins s σ H xs us Q I r h
 obtain⟨p,ns,rfl,hq,q⟩:=h
 obtain⟨u,rfl,rx⟩:=Zdq r
 cases rx
 obtain⟨its,r',pl,hz⟩:=I.list hq
 have hi:IntsAre its ns:=Zji r'
 obtain⟨xs,hx⟩:=hi.allInts.items
 have hl':s.heap.IsList p (intItems xs):=hx▸pl.isList
 refine sum_intListG (I.ok.hd hc) hl' fun h' tk t' hk=>?_
 have e1:ns=xs.toList.map (·.1):=by
  rw[<- nums_intItems,<- hx]
  exact(show numsOf its.toArray.toList=ns from hi.numsOf).symm
 have e2:preSum (numAt xs) xs.size=ns.sum:=by
  rw[preSum_eq,Z44 (by simp),e1]
 rw[e2]
 exact⟨.int ns.sum,H,I.kept hk,⟨_,rfl⟩,q⟩
theorem ZdH:∀{bs:List Bool}{us:List Value},Jk (bs.map V.bl) us->LSm.BoolsAre us bs
 |[],_,.nil=>.nil
 |b::bs,_,.cons r t=>by
  cases r
  exact .cons b (ZdH t)
theorem Znu(hc:X.calm=true):Vu X (.builtin "all") (fun xs H Q=>∃p,∃bs:List Bool,xs=[.ref p]/\SqL X.K H p (bs.map V.bl)/\Q (.bl (bs.all id)) H):=by
 intro pins s σ H xs us Q I r h
 obtain⟨p,bs,rfl,hq,q⟩:=h
 obtain⟨u,rfl,rx⟩:=Zdq r
 cases rx
 obtain⟨its,r',pl,hz⟩:=I.list hq
 have hb:=ZdH r'
 have hlt:p<s.heap.objs.size:=by obtain⟨_,e,_⟩:=pl.isList;exact Heap.lt_size e
 refine call_all_walk (wpAny_pyIter_list pl.isList ?_)
 refine⟨s.heap.objs.size,[s.heap.objs.size,p],[s.heap.objs.size],its.toArray.size,_,_,fun i=>(bs[i]?).getD true,rfl,Walks.list (A:=X.A.in1) (I.ok.hd hc) _ p (Z3B hlt) its.toArray,
  ⟨⟨_,Heap.get?_push_size _ rfl,rfl,rfl⟩,pl.isList.push _⟩,fun i v s' Q' E' hP hQ=>?_,fun h' tk hk=>?_⟩
 ·obtain⟨b,e,rfl⟩:=hb.get i v (by simpa using hP)
  dsimp only at hQ
  rw[e,Z4v] at hQ
  exact wpAny_truthy_bool hQ
 ·rw[Z32,hb.length,LSm.range_all]
  exact⟨.bl (bs.all id),H,I.kept (LSm.kept_iter hk),rfl,q⟩
end
end L2
namespace HL
open PySem PyProof.Rows
section
end
section
open PySem.SeqAt
open PySem.AutoSeq1 (wpAny_loadPart')
open PySem.MeetsSeq PySem.MeetsSeq2 PySem.MeetsSeq3
end
end HL
namespace HL
open PySem
theorem Vz:∀a:List Int,HT.Vh a a=false
 |[]=>rfl
 |x::xs=>by rw[HT.Vp,if_pos rfl];exact Vz xs
theorem Ql:∀{a b c:List Int},HT.Vh a b=true->HT.Vh b c=true->HT.Vh a c=true
 |[],[],_,h,_=>by simp[HT.Vh] at h
 |[],_::_,[],_,h=>by simp[HT.Vh] at h
 |[],_::_,_::_,_,_=>rfl
 |_::_,[],_,h,_=>by simp[HT.Vh] at h
 |_::_,_::_,[],_,h=>by simp[HT.Vh] at h
 |x::xs,y::ys,z::zs,h1,h2=>by
  rw[HT.Vp] at h1 h2 ⊢
  by_cases e1:x=y
  ·rw[if_pos e1] at h1
   subst e1
   by_cases e2:x=z
   ·rw[if_pos e2] at h2 ⊢
    exact Ql h1 h2
   ·rw[if_neg e2] at h2 ⊢
    exact h2
  ·rw[if_neg e1] at h1
   have h1':=of_decide_eq_true h1
   by_cases e2:y=z
   ·subst e2
    rw[if_neg e1]
    exact h1
   ·rw[if_neg e2] at h2
    have h2':=of_decide_eq_true h2
    rw[if_neg (by omega)]
    exact decide_eq_true (by omega)
theorem Qm:∀{a b:List Int},HT.Vh a b=false->HT.Vh b a=false->a=b
 |[],[],_,_=>rfl
 |[],_::_,h,_=>by simp[HT.Vh] at h
 |_::_,[],_,h=>by simp[HT.Vh] at h
 |x::xs,y::ys,h1,h2=>by
  rw[HT.Vp] at h1 h2
  by_cases e:x=y
  ·subst e
   rw[if_pos rfl] at h1 h2
   rw[Qm h1 h2]
  ·rw[if_neg e] at h1
   rw[if_neg (Ne.symm e)] at h2
   have:=of_decide_eq_false h1
   have:=of_decide_eq_false h2
   omega
noncomputable def Vq(a b:List Int×Int):Bool:=if a.1=b.1 then decide (a.2<b.2) else HT.Vh a.1 b.1
theorem VC(a:List Int×Int):Vq a a=false:=by unfold Vq;rw[if_pos rfl];exact decide_eq_false (by omega)
theorem ZcD{a b c:List Int×Int}(h1:Vq a b=true)(h2:Vq b c=true):Vq a c=true:=by
 unfold Vq at *
 by_cases e1:a.1=b.1
 ·rw[if_pos e1] at h1
  rw[e1]
  by_cases e2:b.1=c.1
  ·rw[if_pos e2] at h2 ⊢
   have:=of_decide_eq_true h1
   have:=of_decide_eq_true h2
   exact decide_eq_true (by omega)
  ·rw[if_neg e2] at h2 ⊢
   exact h2
 ·rw[if_neg e1] at h1
  by_cases e2:b.1=c.1
  ·rw[if_pos e2] at h2
   rw[<- e2,if_neg e1]
   exact h1
  ·rw[if_neg e2] at h2
   have h3:=Ql h1 h2
   by_cases e3:a.1=c.1
   ·rw[e3,Vz] at h3;cases h3
   ·rw[if_neg e3];exact h3
end HL
namespace L2
open PySem PySem.Spec PyProof.Rows
section
end
def Dfn(K:W.Frag)(mg:Str->Option Value)(x:Str)(st:Stmt):Prop:=∃f fd,Fun K x x st f fd/\mg x=some (.ref f)
noncomputable abbrev Zq(x:Str)(st:Stmt)(ps:List Str):Prop:=∀(kV doc pm:Value) (an:Option Addr) (cdv ct:Value) (us:List Value),us.length=ps.length ->
 bindArgs (PySem.W.fnOf x x (QF st) (Vr st) (Zm st) .none kV doc pm an cdv ct) ⟨us,[]⟩=pure (ps.zip us)
def Ok(P:Program)(w:World)(K:W.Frag)(mg:Str->Option Value)(base:Heap)(k:Nat)(x:Str)(ps:List Str)(sp:Sp):Prop:=
 ∃f fd,Jp P w K mg base CX0 k f fd ps sp/\mg x=some (.ref f)/\PySem.W.keepIn K (.ref f)=true/\ZeY K fd ps []
theorem UE{P:Program}{w:World}{K:W.Frag}{mg:Str->Option Value}{base:Heap}{k:Nat}{x:Str}{st:Stmt}{ps:List Str}{sp:Sp}(d:Dfn K mg x st)(b:Zq x st ps)(h:∀{f fd},Fun K x x st f fd->Jp P w K mg base CX0 k f fd ps sp):Ok P w K mg base k x ps sp:=by
 obtain⟨f,fd,F,hm⟩:=d
 exact⟨f,fd,h F,hm,F.kp,F.binds b⟩
section
variable {X:Cx}{k:Nat}{x:Str}{ps:List Str}{sp:Sp}{p pos:Pos}{e:Expr}{es:List Expr}{t:TA}
noncomputable def ZdW(sp:Sp)(t:TA):TE:=fun σ H Q=>t σ H fun vs H1=>sp vs H1 Q E0
theorem ZK(G:Ok X.prog X.w X.K X.mg X.base k x ps sp)(hr:ZbC k X.A)(hg:Gl X x)(ha:PA X (e::es) t)(hdb:(x==("__debug__":Str))=false:=by decide)(he:starEach (e::es) X.env=(false,eval e X.env)::starEach es X.env:=by rfl)(hpl:(backTo pos (starEach es X.env)).any (·.1)=false:=by rfl):PE X (.Call (.Name x p) (e::es) [] pos) (ZdW sp t):=by
 obtain⟨f,fd,F,hm,hk,hb⟩:=G
 intro pins s σ H Q I h
 refine ZoW (CX:=CX0) (E:=E0) (dvs:=[]) F hr hg hm hk hb .nil ZqU ha hdb he hpl pins s σ H Q I ?_
 have e:(fun vs H1=>sp (vs++[]) H1 Q E0)=fun vs H1=>sp vs H1 Q E0:=by funext vs H1;rw[Z3R]
 show t σ H (fun vs H1=>sp (vs++[]) H1 Q E0)
 rw[e]
 exact h
theorem QN(G:Ok X.prog X.w X.K X.mg X.base k x ps sp)(hr:ZbC k X.A)(hg:Gl X x)(hdb:(x==("__debug__":Str))=false:=by decide):PE X (.Call (.Name x p) [] [] pos) (ZdW sp Zj3):=by
 obtain⟨f,fd,F,hm,hk,hb⟩:=G
 exact Zmt (CX:=CX0) (E:=E0) (dvs:=[]) F hr hg hm hk hb .nil ZqU hdb
theorem Jw{i:Int}(hm:∃t,X.mg x=some (.int i t))(hg:Gl X x)(hd:(x==("__debug__":Str))=false:=by decide):PE X (.Name x pos) (tC (.int i)):=by
 obtain⟨t,hm⟩:=hm
 exact Zd1 (v:=.int i) hg hm ⟨t,rfl⟩ hd
end
theorem ZlG{X:Cx}:Vu X (.builtin "len") (fun xs H Q=>∃p ys,xs=[.ref p]/\(SqL X.K H p ys\/SqT X.K H p ys)/\Q (.int ys.length) H):=ZfZ
theorem Jo:bootBuiltins "len"=some (.builtin "len"):=by decide +kernel
theorem Jg:bootBuiltins "isinstance"=some (.builtin "isinstance"):=by decide +kernel
theorem ZcH:bootBuiltins "sum"=some (.builtin "sum"):=by decide +kernel
theorem Zgf:bootBuiltins "all"=some (.builtin "all"):=by decide +kernel
theorem ZrR:bootBuiltins "abs"=some (.builtin "abs"):=by decide +kernel
theorem V2:bootBuiltins "list"=some (.type "list"):=by decide +kernel
theorem Zix:bootBuiltins "int"=some (.type "int"):=by decide +kernel
theorem ZpL:bootBuiltins "bool"=some (.type "bool"):=by decide +kernel
theorem Ziw:bootBuiltins "tuple"=some (.type "tuple"):=by decide +kernel
section
variable {X:Cx}{K:W.Frag}
theorem ZW(e:X.K=K:=by rfl):IxR X (rIx K):=by subst e;exact Zry
theorem ZA(e:X.K=K:=by rfl):Vu X (.builtin "len") (fun xs H Q=>∃p ys,xs=[.ref p]/\(SqL K H p ys\/SqT K H p ys)/\Q (.int ys.length) H):=by subst e;exact ZlG
theorem Vj(hc:X.calm=true)(e:X.K=K:=by rfl):Vu X (.builtin "sum") (fun xs H Q=>∃p,∃ns:List Int,xs=[.ref p]/\SqL K H p (ns.map V.int)/\Q (.int ns.sum) H):=by subst e;exact Znt hc
theorem Uh(hc:X.calm=true)(e:X.K=K:=by rfl):Vu X (.builtin "all") (fun xs H Q=>∃p,∃bs:List Bool,xs=[.ref p]/\SqL K H p (bs.map V.bl)/\Q (.bl (bs.all id)) H):=by subst e;exact Znu hc
theorem Us(e:X.K=K:=by rfl):Vu X (.type "list") (fun xs H Q=>∃p ys,xs=[.ref p]/\(SqL K H p ys\/SqT K H p ys)/\∀l,H l=none->Q (.ref l) (upd H l (.lst ys))):=by subst e;exact ZfX
theorem QK(e:X.K=K:=by rfl):SlR X (ZsK K):=by subst e;exact ZoO
theorem Uk{tg l:Expr}{tl:TE}(hl:PE X l tl)(e:X.K=K:=by rfl):PI X tg l (ZmU K tl):=by subst e;exact ZoU hl
variable {u:TS}{H:Hp}{b:TA}
theorem ZfJ{n:Nat}{k:Int}(h0:0<=k)(h1:k<n):ixN n k=some k.toNat:=by unfold ixN;rw[if_pos h0,if_pos h1]
theorem ZL.upd{H H':Hp}{p:Addr}{o:HO}(h:ZL H H')(hp:H p=none):ZL H (upd H' p o):=fun b u e=>by
 rw[Z4 (ZS e hp)]
 exact h b u e
theorem ZL.new{H:Hp}{p:Addr}{o:HO}(hp:H p=none):ZL H (L2.upd H p o):=ZL.upd (ZL.refl H) hp
theorem Zdg{n:Nat}(h:n<=1000):n<=sizeLine:=Z33 h (by decide)
end
inductive Sh where
 |dk (ks:List Key)|dt (ks:List (List Key))|ob (n:Str) (fs:List Str)
  |jk
  |ls
inductive PV where
 |non|bl (b:Bool)|int (i:Int)|str (x:Str)|lst (xs:List PV)|tup (xs:List PV)
  |exc (n:Str)
  |exa (n:Str) (i:Int)
  |box (p:Option Addr) (s:Sh) (xs:List PV)
  |fz (xs:List PV)
mutual
noncomputable def PV.flat:PV->Bool
 |.lst _=>false
 |.tup xs=>PV.flats xs
 |.non=>true
 |.bl _=>true
 |.int _=>true
 |.str _=>true
 |.exc _=>true
 |.exa _ _=>true
 |.box _ _ _=>false
 |.fz xs=>PV.flats xs
noncomputable def PV.flats:List PV->Bool
 |[]=>true
 |x::xs=>x.flat&&PV.flats xs
end
def KL(K:W.Frag)(a:Addr)(xs:List V):Prop:=
 ∃(o:Obj) (its:Array Value) (n:Nat),K.lookup a=some o/\o.cls=.type "list"/\o.dict=none/\o.data=.seq its n/\its.size<=sizeLine/\Jk xs its.toList
noncomputable def ImO:HO->Prop
 |.tup _=>True
 |.frz _ _=>True
 |.xd _=>True
 |_=>False
def Im(K:W.Frag)(H:Hp)(a:Addr)(u:HO):Prop:=H a=some u/\ImO u
noncomputable def Lvo:HO->Prop
 |.lst _=>True
 |.dK _=>True
 |.dT _=>True
 |.ins _ _ _=>True
 |_=>False
noncomputable abbrev LvO:={ u:HO // Lvo u }
def ZdQ(K:W.Frag)(n:Str)(C:Addr):Prop:=PySem.W.nsIn K mainGlobals n=some (some (.ref C))
def ZpW(K:W.Frag)(H:Hp)(n:Str)(v:V):Prop:=∃a o C,v=.ref a/\Im K H a (.frz o (.own a))/\o.cls=.ref C/\o.dict=none/\PySem.W.notCls o=true/\ZdQ K n C
def ZpX(K:W.Frag)(H:Hp)(n:Str)(i:Int)(v:V):Prop:=∃a o C d fs,v=.ref a/\Im K H a (.frz o (.own a))/\Im K H d (.xd fs)/\o.cls=.ref C/\o.dict=some d/\PySem.W.notCls o=true/\ZdQ K n C/\fs=[(("at":Str),V.int i)]
noncomputable def Zqt(K:W.Frag):Sh->List V->HO->Prop
 |.dk ks,vs,u=>ks.length=vs.length/\u=.dK (ks.zip vs)
 |.dt ks,vs,u=>ks.length=vs.length/\u=.dT (ks.zip vs)
 |.ob n fs,vs,u=>fs.length=vs.length/\∃C dx,u=.ins C dx (fs.zip vs)/\ZdQ K n C
 |.jk,vs,u=>vs=[]/\∃ws,u=.lst ws
 |.ls,vs,u=>u=.lst vs
def ZtD(p:Option Addr)(a:Addr):Prop:=match p with
 |none=>True
 |some b=>a=b
theorem Zqt.lv{K:W.Frag}{s:Sh}{vs:List V}{u:HO}(h:Zqt K s vs u):Lvo u:=by
 cases s with
 |dk ks=>obtain⟨_,rfl⟩:=h;trivial
 |dt ks=>obtain⟨_,rfl⟩:=h;trivial
 |ob n fs=>obtain⟨_,C,dx,rfl,_⟩:=h;trivial
 |jk=>obtain⟨_,ws,rfl⟩:=h;trivial
 |ls=>cases h;trivial
theorem ZeE{u o:HO}(h:Lvo u)(h':ImO o):o≠u:=by
 intro e;subst e
 cases o<;>first|exact h|exact h'
def FzL(K:W.Frag)(H:Hp)(a:Addr)(vs:List V):Prop:=∃o,Im K H a (.frz o (.lst vs))
mutual
noncomputable def Rep(K:W.Frag)(H:Hp)(S:Addr->Prop):PV->V->Prop
 |.non,v=>v=.non
 |.bl b,v=>v=.bl b
 |.int i,v=>v=.int i
 |.str x,v=>v=.str x
 |.exc n,v=>ZpW K H n v
 |.exa n i,v=>ZpX K H n i v
 |.box p s xs,v=>∃a vs u,v=.ref a/\(Rd H a u/\S a)/\(ZtD p a/\Zqt K s vs u)/\Reps K H S xs vs
 |.lst xs,v=>∃a vs,v=.ref a/\((Rd H a (.lst vs)/\S a)\/KL K a vs)/\Reps K H S xs vs
 |.tup xs,v=>∃a vs,v=.ref a/\Im K H a (.tup vs)/\Reps K H S xs vs
 |.fz xs,v=>∃a vs,v=.ref a/\FzL K H a vs/\Reps K H S xs vs
noncomputable def Reps(K:W.Frag)(H:Hp)(S:Addr->Prop):List PV->List V->Prop
 |[],vs=>vs=[]
 |x::xs,vs=>∃v r,vs=v::r/\Rep K H S x v/\Reps K H S xs r
end
mutual
noncomputable def Vd(K:W.Frag)(H:Hp):PV->V->List Addr->Prop
 |.non,v,F=>v=.non/\F=[]
 |.bl b,v,F=>v=.bl b/\F=[]
 |.int i,v,F=>v=.int i/\F=[]
 |.str x,v,F=>v=.str x/\F=[]
 |.exc n,v,F=>ZpW K H n v/\F=[]
 |.exa n i,v,F=>ZpX K H n i v/\F=[]
 |.box p s xs,v,F=>∃a vs u G,v=.ref a/\H a=some u/\(ZtD p a/\Zqt K s vs u)/\Trees K H xs vs G/\a ∉ G/\F=a::G
 |.lst xs,v,F=>∃a vs G,v=.ref a/\H a=some (.lst vs)/\Trees K H xs vs G/\a ∉ G/\F=a::G
 |.tup xs,v,F=>∃a vs,v=.ref a/\Im K H a (.tup vs)/\Trees K H xs vs F
 |.fz xs,v,F=>∃a vs,v=.ref a/\FzL K H a vs/\Trees K H xs vs F
noncomputable def Trees(K:W.Frag)(H:Hp):List PV->List V->List Addr->Prop
 |[],vs,F=>vs=[]/\F=[]
 |x::xs,vs,F=>∃v r G1 G2,vs=v::r/\Vd K H x v G1/\Trees K H xs r G2/\(∀a∈G1,a ∉ G2)/\F=G1++G2
end
section
variable {K:W.Frag}{H H':Hp}{S S':Addr->Prop}
mutual
theorem Rep.mono(h1:∀a u,S a->Rd H a u->Rd H' a u/\S' a)(h2:∀a u,Im K H a u->Im K H' a u):∀{x:PV}{v:V},Rep K H S x v->Rep K H' S' x v
 |.non,_,h=>h
 |.bl _,_,h=>h
 |.int _,_,h=>h
 |.str _,_,h=>h
 |.exc n,_,h=>let ⟨a,o,C,e1,e2,e3⟩:=h;⟨a,o,C,e1,h2 a _ e2,e3⟩
 |.exa n i,_,h=>let ⟨a,o,C,d,fs,e1,e2,e2',e3⟩:=h;⟨a,o,C,d,fs,e1,h2 a _ e2,h2 d _ e2',e3⟩
 |.box p s xs,_,h=>by
  obtain⟨a,vs,u,rfl,⟨n1,n2⟩,hb,hr⟩:=h
  exact⟨a,vs,u,rfl,h1 a u n2 n1,hb,Reps.mono h1 h2 hr⟩
 |.lst xs,_,h=>by
  obtain⟨a,vs,rfl,hn,hr⟩:=h
  refine⟨a,vs,rfl, ?_,Reps.mono h1 h2 hr⟩
  rcases hn with ⟨n1,n2⟩|n
  ·exact .inl (h1 a _ n2 n1)
  ·exact .inr n
 |.tup xs,_,h=>by
  obtain⟨a,vs,rfl,hn,hr⟩:=h
  exact⟨a,vs,rfl,h2 a _ hn,Reps.mono h1 h2 hr⟩
 |.fz xs,_,h=>by
  obtain⟨a,vs,rfl,⟨o,hn⟩,hr⟩:=h
  exact⟨a,vs,rfl,⟨o,h2 a _ hn⟩,Reps.mono h1 h2 hr⟩
theorem Reps.mono(h1:∀a u,S a->Rd H a u->Rd H' a u/\S' a)(h2:∀a u,Im K H a u->Im K H' a u):∀{xs:List PV}{vs:List V},Reps K H S xs vs->Reps K H' S' xs vs
 |[],_,h=>h
 |x::xs,_,h=>by
  obtain⟨v,r,rfl,h3,h4⟩:=h
  exact⟨v,r,rfl,Rep.mono h1 h2 h3,Reps.mono h1 h2 h4⟩
end
mutual
theorem Vd.mono:∀{x:PV}{v:V}{F:List Addr},(∀a∈F,∀o,H a=some o->H' a=some o)->(∀a vs,Im K H a vs->Im K H' a vs)->Vd K H x v F->Vd K H' x v F
 |.non,_,_,_,_,h=>h
 |.bl _,_,_,_,_,h=>h
 |.int _,_,_,_,_,h=>h
 |.str _,_,_,_,_,h=>h
 |.exc n,_,_,_,h2,h=>let ⟨⟨a,o,C,e1,e2,e3⟩,e4⟩:=h;⟨⟨a,o,C,e1,h2 a _ e2,e3⟩,e4⟩
 |.exa n i,_,_,_,h2,h=>let ⟨⟨a,o,C,d,fs,e1,e2,e2',e3⟩,e4⟩:=h;⟨⟨a,o,C,d,fs,e1,h2 a _ e2,h2 d _ e2',e3⟩,e4⟩
 |.box p s xs,_,_,h1,h2,h=>by
  obtain⟨a,vs,u,G,rfl,ha,hb,ht,hn,rfl⟩:=h
  exact⟨a,vs,u,G,rfl,h1 a (by simp) _ ha,hb,Trees.mono (fun b hb o e=>h1 b (by simp[hb]) o e) h2 ht,hn,rfl⟩
 |.lst xs,_,_,h1,h2,h=>by
  obtain⟨a,vs,G,rfl,ha,ht,hn,rfl⟩:=h
  exact⟨a,vs,G,rfl,h1 a (by simp) _ ha,Trees.mono (fun b hb o e=>h1 b (by simp[hb]) o e) h2 ht,hn,rfl⟩
 |.tup xs,_,_,h1,h2,h=>by
  obtain⟨a,vs,rfl,ha,ht⟩:=h
  exact⟨a,vs,rfl,h2 a _ ha,Trees.mono h1 h2 ht⟩
 |.fz xs,_,_,h1,h2,h=>by
  obtain⟨a,vs,rfl,⟨o,ha⟩,ht⟩:=h
  exact⟨a,vs,rfl,⟨o,h2 a _ ha⟩,Trees.mono h1 h2 ht⟩
theorem Trees.mono:∀{xs:List PV}{vs:List V}{F:List Addr},(∀a∈F,∀o,H a=some o->H' a=some o)->(∀a vs,Im K H a vs->Im K H' a vs)->Trees K H xs vs F->Trees K H' xs vs F
 |[],_,_,_,_,h=>h
 |x::xs,_,_,h1,h2,h=>by
  obtain⟨v,r,G1,G2,rfl,h3,h4,hd,rfl⟩:=h
  exact⟨v,r,G1,G2,rfl,Vd.mono (fun b hb o e=>h1 b (by simp[hb]) o e) h2 h3,Trees.mono (fun b hb o e=>h1 b (by simp[hb]) o e) h2 h4,hd,rfl⟩
end
mutual
theorem Vd.rep:∀{x:PV}{v:V}{F:List Addr},(∀a∈F,S a)->Vd K H x v F->Rep K H S x v
 |.non,_,_,_,h=>h.1
 |.bl _,_,_,_,h=>h.1
 |.int _,_,_,_,h=>h.1
 |.str _,_,_,_,h=>h.1
 |.exc _,_,_,_,h=>h.1
 |.exa _ _,_,_,_,h=>h.1
 |.box p s xs,_,_,h1,h=>by
  obtain⟨a,vs,u,G,rfl,ha,hb,ht,hn,rfl⟩:=h
  exact⟨a,vs,u,rfl,⟨.inl ha,h1 a (by simp)⟩,hb,Trees.reps (fun b hb=>h1 b (by simp[hb])) ht⟩
 |.lst xs,_,_,h1,h=>by
  obtain⟨a,vs,G,rfl,ha,ht,hn,rfl⟩:=h
  exact⟨a,vs,rfl,.inl ⟨.inl ha,h1 a (by simp)⟩,Trees.reps (fun b hb=>h1 b (by simp[hb])) ht⟩
 |.tup xs,_,_,h1,h=>by
  obtain⟨a,vs,rfl,ha,ht⟩:=h
  exact⟨a,vs,rfl,ha,Trees.reps h1 ht⟩
 |.fz xs,_,_,h1,h=>by
  obtain⟨a,vs,rfl,ha,ht⟩:=h
  exact⟨a,vs,rfl,ha,Trees.reps h1 ht⟩
theorem Trees.reps:∀{xs:List PV}{vs:List V}{F:List Addr},(∀a∈F,S a)->Trees K H xs vs F->Reps K H S xs vs
 |[],_,_,_,h=>h.1
 |x::xs,_,_,h1,h=>by
  obtain⟨v,r,G1,G2,rfl,h3,h4,hd,rfl⟩:=h
  exact⟨v,r,rfl,Vd.rep (fun b hb=>h1 b (by simp[hb])) h3,Trees.reps (fun b hb=>h1 b (by simp[hb])) h4⟩
end
mutual
theorem Vd.alive:∀{x:PV}{v:V}{F:List Addr},Vd K H x v F->∀a∈F,∃vs:LvO,H a=some vs.1
 |.non,_,_,h=>by rw[h.2];simp
 |.bl _,_,_,h=>by rw[h.2];simp
 |.int _,_,_,h=>by rw[h.2];simp
 |.str _,_,_,h=>by rw[h.2];simp
 |.exc _,_,_,h=>by rw[h.2];simp
 |.exa _ _,_,_,h=>by rw[h.2];simp
 |.box p s xs,_,_,h=>by
  obtain⟨a,vs,u,G,rfl,ha,hb,ht,hn,rfl⟩:=h
  intro b hb'
  rcases Z3v.mp hb' with rfl|hb'
  ·exact⟨⟨u,hb.2.lv⟩,ha⟩
  ·exact Trees.alive ht b hb'
 |.lst xs,_,_,h=>by
  obtain⟨a,vs,G,rfl,ha,ht,hn,rfl⟩:=h
  intro b hb
  rcases Z3v.mp hb with rfl|hb
  ·exact⟨⟨.lst vs,trivial⟩,ha⟩
  ·exact Trees.alive ht b hb
 |.tup xs,_,_,h=>by
  obtain⟨a,vs,rfl,ha,ht⟩:=h
  exact Trees.alive ht
 |.fz xs,_,_,h=>by
  obtain⟨a,vs,rfl,ha,ht⟩:=h
  exact Trees.alive ht
theorem Trees.alive:∀{xs:List PV}{vs:List V}{F:List Addr},Trees K H xs vs F->∀a∈F,∃vs:LvO,H a=some vs.1
 |[],_,_,h=>by rw[h.2];simp
 |x::xs,_,_,h=>by
  obtain⟨v,r,G1,G2,rfl,h3,h4,hd,rfl⟩:=h
  intro b hb
  rcases Z3q.mp hb with hb|hb
  ·exact Vd.alive h3 b hb
  ·exact Trees.alive h4 b hb
end
mutual
theorem Rep.tree:∀{x:PV}{v:V},x.flat=true->Rep K H S x v->Vd K H x v []
 |.non,_,_,h=>⟨h,rfl⟩
 |.bl _,_,_,h=>⟨h,rfl⟩
 |.int _,_,_,h=>⟨h,rfl⟩
 |.str _,_,_,h=>⟨h,rfl⟩
 |.exc _,_,_,h=>⟨h,rfl⟩
 |.exa _ _,_,_,h=>⟨h,rfl⟩
 |.box p s xs,_,f,_=>by simp[PV.flat] at f
 |.lst xs,_,f,_=>by simp[PV.flat] at f
 |.tup xs,_,f,h=>by
  obtain⟨a,vs,rfl,ha,ht⟩:=h
  exact⟨a,vs,rfl,ha,Reps.trees (by simpa[PV.flat] using f) ht⟩
 |.fz xs,_,f,h=>by
  obtain⟨a,vs,rfl,ha,ht⟩:=h
  exact⟨a,vs,rfl,ha,Reps.trees (by simpa[PV.flat] using f) ht⟩
theorem Reps.trees:∀{xs:List PV}{vs:List V},PV.flats xs=true->Reps K H S xs vs->Trees K H xs vs []
 |[],_,_,h=>⟨h,rfl⟩
 |x::xs,_,f,h=>by
  obtain⟨v,r,rfl,h3,h4⟩:=h
  simp only[PV.flats,Bool.and_eq_true] at f
  exact⟨v,r,[],[],rfl,Rep.tree f.1 h3,Reps.trees f.2 h4,by simp,rfl⟩
end
theorem Rep.any(h:Rep K H S x v):Rep K H (fun _=>True) x v:=Rep.mono (fun a vs _ r=>⟨r,trivial⟩) (fun a vs r=>r) h
theorem Reps.any(h:Reps K H S xs vs):Reps K H (fun _=>True) xs vs:=Reps.mono (fun a vs _ r=>⟨r,trivial⟩) (fun a vs r=>r) h
theorem Rep.flatS{x:PV}{v:V}(f:x.flat=true)(h:Rep K H S x v):Rep K H S' x v:=Vd.rep (F:=[]) (by simp) (Rep.tree f h)
theorem Reps.flatS{xs:List PV}{vs:List V}(f:PV.flats xs=true)(h:Reps K H S xs vs):Reps K H S' xs vs:=Trees.reps (F:=[]) (by simp) (Reps.trees f h)
theorem Reps.length:∀{xs:List PV}{vs:List V},Reps K H S xs vs->vs.length=xs.length
 |[],_,h=>by rw[h];rfl
 |x::xs,_,h=>by
  obtain⟨v,r,rfl,h3,h4⟩:=h
  simp[Reps.length h4]
theorem Trees.length{xs:List PV}{vs:List V}{F:List Addr}(h:Trees K H xs vs F):vs.length=xs.length:=(Trees.reps (S:=fun _=>True) (fun _ _=>trivial) h).length
theorem Reps.get:∀{xs:List PV}{vs:List V}{i:Nat}{x:PV},Reps K H S xs vs->xs[i]?=some x->∃v,vs[i]?=some v/\Rep K H S x v
 |[],_,_,_,_,e=>by simp at e
 |y::xs,_,0,x,h,e=>by
  obtain⟨v,r,rfl,h3,h4⟩:=h
  simp at e;subst e
  exact⟨v,rfl,h3⟩
 |y::xs,_,i+1,x,h,e=>by
  obtain⟨v,r,rfl,h3,h4⟩:=h
  obtain⟨w,e1,e2⟩:=Reps.get (i:=i) h4 (by simpa using e)
  exact⟨w,by simpa using e1,e2⟩
theorem Reps.append:∀{xs ys:List PV}{vs ws:List V},Reps K H S xs vs->Reps K H S ys ws->Reps K H S (xs++ys) (vs++ws)
 |[],_,_,_,h,h'=>by rw[h];exact h'
 |x::xs,_,_,_,h,h'=>by
  obtain⟨v,r,rfl,h3,h4⟩:=h
  exact⟨v,r++_,rfl,h3,Reps.append h4 h'⟩
theorem Reps.one{x:PV}{v:V}(h:Rep K H S x v):Reps K H S [x] [v]:=⟨v,[],rfl,h,rfl⟩
theorem Reps.set:∀{xs:List PV}{vs:List V}{i:Nat}{x:PV}{v:V},Reps K H S xs vs->Rep K H S x v->Reps K H S (xs.set i x) (vs.set i v)
 |[],_,_,_,_,h,_=>by rw[h];rfl
 |y::xs,_,0,x,v,h,h'=>by
  obtain⟨w,r,rfl,h3,h4⟩:=h
  exact⟨v,r,rfl,h',h4⟩
 |y::xs,_,i+1,x,v,h,h'=>by
  obtain⟨w,r,rfl,h3,h4⟩:=h
  exact⟨w,r.set i v,rfl,h3,Reps.set h4 h'⟩
theorem Reps.take:∀{xs:List PV}{vs:List V} (n:Nat),Reps K H S xs vs->Reps K H S (xs.take n) (vs.take n)
 |_,_,0,_=>by simp[Reps]
 |[],_,n+1,h=>by rw[h];rfl
 |y::xs,_,n+1,h=>by
  obtain⟨w,r,rfl,h3,h4⟩:=h
  exact⟨w,r.take n,rfl,h3,Reps.take n h4⟩
theorem Reps.drop:∀{xs:List PV}{vs:List V} (n:Nat),Reps K H S xs vs->Reps K H S (xs.drop n) (vs.drop n)
 |_,_,0,h=>h
 |[],_,n+1,h=>by rw[h];rfl
 |y::xs,_,n+1,h=>by
  obtain⟨w,r,rfl,h3,h4⟩:=h
  exact Reps.drop n h4
theorem Trees.append:∀{xs ys:List PV}{vs ws:List V}{F G:List Addr},Trees K H xs vs F->Trees K H ys ws G->(∀a∈F,a ∉ G)->Trees K H (xs++ys) (vs++ws) (F++G)
 |[],_,_,_,_,_,h,h',_=>by rw[h.1,h.2];exact h'
 |x::xs,_,_,_,_,_,h,h',hd=>by
  obtain⟨v,r,G1,G2,rfl,h3,h4,hd',rfl⟩:=h
  refine⟨v,r++_,G1,G2++_,rfl,h3,Trees.append h4 h' (fun a ha=>hd a (by simp[ha])),fun a ha z=>?_,by simp⟩
  rcases Z3q.mp z with z|z
  ·exact hd' a ha z
  ·exact hd a (by simp[ha]) z
theorem Trees.one{x:PV}{v:V}{F:List Addr}(h:Vd K H x v F):Trees K H [x] [v] F:=⟨v,[],F,[],rfl,h,⟨rfl,rfl⟩,by simp,by simp⟩
theorem PV.flats_all:∀{xs:List PV},PV.flats xs=true ↔ ∀x∈xs,x.flat=true
 |[]=>by simp[PV.flats]
 |x::xs=>by simp[PV.flats,PV.flats_all (xs:=xs)]
theorem PV.flats_ints(ns:List Int):PV.flats (ns.map PV.int)=true:=PV.flats_all.mpr (by simp[PV.flat])
theorem Rd.same(e:ZL H H')(h:Rd H a u):Rd H' a u:=by
 rcases h with h|⟨o,h⟩
 ·exact .inl (e _ _ h)
 ·exact .inr ⟨o,e _ _ h⟩
theorem ZL.im(e:ZL H H'){k:HO}(h:Im K H a k):Im K H' a k:=⟨e _ _ h.1,h.2⟩
theorem Im.sqT{vs:List V}(h:Im K H a (.tup vs)):SqT K H a vs:=.inl (.inl h.1)
theorem Rep.same(e:ZL H H')(h:Rep K H S x v):Rep K H' S x v:=Rep.mono (fun a vs s r=>⟨r.same e,s⟩) (fun a vs r=>e.im r) h
theorem Reps.same(e:ZL H H')(h:Reps K H S xs vs):Reps K H' S xs vs:=Reps.mono (fun a vs s r=>⟨r.same e,s⟩) (fun a vs r=>e.im r) h
theorem Vd.same(e:ZL H H')(h:Vd K H x v F):Vd K H' x v F:=Vd.mono (fun a _ o q=>e a o q) (fun a vs r=>e.im r) h
theorem Trees.same(e:ZL H H')(h:Trees K H xs vs F):Trees K H' xs vs F:=Trees.mono (fun a _ o q=>e a o q) (fun a vs r=>e.im r) h
theorem Im.putL{p:Addr}{us:LvO}{o:HO}{k:HO}(hp:H p=some us.1)(h:Im K H a k):Im K (upd H p o) a k:=
 ⟨by rw[Z4 (Zpp h.1 hp (ZeE us.2 h.2))];exact h.1,h.2⟩
theorem Im.put{p:Addr}{us:List V}{o:HO}{k:HO}(hp:H p=some (.lst us))(h:Im K H a k):Im K (upd H p o) a k:=Im.putL (us:=⟨.lst us,trivial⟩) hp h
theorem SqT.put{p:Addr}{us:List V}{o:HO}(hp:H p=some (.lst us))(h:Im K H a (.tup vs)):Im K (upd H p o) a (.tup vs):=Im.put hp h
theorem Rep.putL{p:Addr}{us:LvO}{o:HO}(hp:H p=some us.1)(hS:¬S p)(h:Rep K H S x v):Rep K (upd H p o) S x v:=
 Rep.mono (fun a vs s r=>⟨by
  have hne:a≠p:=fun z=>hS (z▸s)
  rcases r with r|⟨o',r⟩
  ·exact .inl (by rw[Z4 hne];exact r)
  ·exact .inr ⟨o',by rw[Z4 hne];exact r⟩,s⟩) (fun a vs r=>Im.putL hp r) h
theorem Reps.putL{p:Addr}{us:LvO}{o:HO}(hp:H p=some us.1)(hS:¬S p)(h:Reps K H S xs vs):Reps K (upd H p o) S xs vs:=
 Reps.mono (fun a vs s r=>⟨by
  have hne:a≠p:=fun z=>hS (z▸s)
  rcases r with r|⟨o',r⟩
  ·exact .inl (by rw[Z4 hne];exact r)
  ·exact .inr ⟨o',by rw[Z4 hne];exact r⟩,s⟩) (fun a vs r=>Im.putL hp r) h
theorem Vd.putL{p:Addr}{us:LvO}{o:HO}(hp:H p=some us.1)(hS:p ∉ F)(h:Vd K H x v F):Vd K (upd H p o) x v F:=
 Vd.mono (fun a ha o q=>by
  have hne:a≠p:=fun z=>hS (z▸ha)
  rw[Z4 hne];exact q) (fun a vs r=>Im.putL hp r) h
theorem Trees.putL{p:Addr}{us:LvO}{o:HO}(hp:H p=some us.1)(hS:p ∉ F)(h:Trees K H xs vs F):Trees K (upd H p o) xs vs F:=
 Trees.mono (fun a ha o q=>by
  have hne:a≠p:=fun z=>hS (z▸ha)
  rw[Z4 hne];exact q) (fun a vs r=>Im.putL hp r) h
theorem Rep.put{p:Addr}{us:List V}{o:HO}(hp:H p=some (.lst us))(hS:¬S p)(h:Rep K H S x v):Rep K (upd H p o) S x v:=Rep.putL (us:=⟨.lst us,trivial⟩) hp hS h
theorem Reps.put{p:Addr}{us:List V}{o:HO}(hp:H p=some (.lst us))(hS:¬S p)(h:Reps K H S xs vs):Reps K (upd H p o) S xs vs:=Reps.putL (us:=⟨.lst us,trivial⟩) hp hS h
theorem Vd.put{p:Addr}{us:List V}{o:HO}(hp:H p=some (.lst us))(hS:p ∉ F)(h:Vd K H x v F):Vd K (upd H p o) x v F:=Vd.putL (us:=⟨.lst us,trivial⟩) hp hS h
theorem Trees.put{p:Addr}{us:List V}{o:HO}(hp:H p=some (.lst us))(hS:p ∉ F)(h:Trees K H xs vs F):Trees K (upd H p o) xs vs F:=Trees.putL (us:=⟨.lst us,trivial⟩) hp hS h
end
inductive Md|U|P|S|T|O
 deriving DecidableEq
def NO(B:Addr->Prop)(F:Nat->List Addr)(R:List Addr)(a:Addr):Prop:=B a/\a ∉ R/\∀i,a ∉ F i
def ZbB(K:W.Frag)(H:Hp)(S:Addr->Prop)(m:Md)(x:PV)(o:Option (Option V))(G:List Addr):Prop:=match m with
 |.U=>G=[]
 |.P=>G=[]/\∃v,o=some (some v)/\x.flat=true/\Rep K H (fun _=>True) x v
 |.S=>G=[]/\∃v,o=some (some v)/\Rep K H S x v
 |.T=>∃a vs xs,o=some (some (.ref a))/\x=.lst xs/\H a=some (.lst vs)/\Reps K H S xs vs/\G=[a]
 |.O=>∃v,o=some (some v)/\Vd K H x v G
structure Ag(K:PySem.W.Frag)(B:Addr->Prop)(H0 H:Hp)(σ:St)(Γ:List Md)(ρ:List PV)(F:Nat->List Addr)(R:List Addr):Prop where
 same:ZL H0 H
 own:∀a,H0 a=none->B a
 young:∀i,∀a∈F i,H0 a=none
 youngR:∀a∈R,H0 a=none
 live:∀i,∀a∈F i,∃vs:LvO,H a=some vs.1
 liveR:∀a∈R,∃vs:LvO,H a=some vs.1
 disj:∀i j,i≠j->∀a∈F i,a ∉ F j
 disjR:∀i,∀a∈F i,a ∉ R
 lenS:σ.length=Γ.length
 lenR:ρ.length=Γ.length
 slot:∀i,ZbB K H (NO B F R) (Γ.getD i .U) (ρ.getD i .non) σ[i]? (F i)
theorem ZbB.mono{K:W.Frag}{H H':Hp}{S S':Addr->Prop}{m:Md}{x:PV}{o:Option (Option V)}{G:List Addr}(h:ZbB K H S m x o G)(h1:∀a u,S a->Rd H a u->Rd H' a u/\S' a)(h2:∀a u,Im K H a u->Im K H' a u)(h3:∀a∈G,∀u,H a=some u->H' a=some u):ZbB K H' S' m x o G:=by
 cases m with
 |U=>exact h
 |P =>
  obtain⟨e,v,h4,h5,h6⟩:=h
  exact⟨e,v,h4,h5,Vd.rep (F:=[]) (by simp) (Vd.mono (by simp) h2 (Rep.tree h5 h6))⟩
 |S =>
  obtain⟨e,v,h4,h5⟩:=h
  exact⟨e,v,h4,Rep.mono h1 h2 h5⟩
 |T =>
  obtain⟨a,vs,xs,h4,h5,h6,h7,rfl⟩:=h
  exact⟨a,vs,xs,h4,h5,h3 a (by simp) _ h6,Reps.mono h1 h2 h7,rfl⟩
 |O =>
  obtain⟨v,h4,h5⟩:=h
  exact⟨v,h4,Vd.mono (fun a ha o q=>h3 a ha o q) h2 h5⟩
section
variable {K:W.Frag}{B:Addr->Prop}{H0 H H':Hp}{σ:St}{Γ:List Md}{ρ:List PV}{F:Nat->List Addr}{R R':List Addr}
theorem Ag.grow(A:Ag K B H0 H σ Γ ρ F R)(e:ZL H H'):Ag K B H0 H' σ Γ ρ F R:=
 ⟨A.same.trans e,A.own,A.young,A.youngR,fun i a ha=>let ⟨vs,q⟩:=A.live i a ha;⟨vs,e _ _ q⟩,fun a ha=>let ⟨vs,q⟩:=A.liveR a ha;⟨vs,e _ _ q⟩,A.disj,A.disjR,A.lenS,A.lenR,
  fun i=>(A.slot i).mono (fun a vs s r=>⟨r.same e,s⟩) (fun a vs r=>e.im r) fun a ha vs q=>e _ _ q⟩
theorem Ag.less(A:Ag K B H0 H σ Γ ρ F R)(h:∀a∈R',a∈R):Ag K B H0 H σ Γ ρ F R':=
 ⟨A.same,A.own,A.young,fun a ha=>A.youngR a (h a ha),A.live,fun a ha=>A.liveR a (h a ha),A.disj,fun i a ha z=>A.disjR i a ha (h a z),A.lenS,A.lenR,
  fun i=>(A.slot i).mono (fun a vs s r=>⟨r,s.1,fun z=>s.2.1 (h a z),s.2.2⟩) (fun a vs r=>r) fun a ha vs q=>q⟩
theorem Ag.more{G:List Addr}(A:Ag K B H0 H σ Γ ρ F R)(e:ZL H H')(hf:∀a∈G,H a=none)(hl:∀a∈G,∃vs:LvO,H' a=some vs.1):Ag K B H0 H' σ Γ ρ F (G++R):=by
 refine⟨A.same.trans e,A.own,A.young,fun a ha=>?_,fun i a ha=>let ⟨vs,q⟩:=A.live i a ha;⟨vs,e _ _ q⟩,fun a ha=>?_,A.disj,fun i a ha z=>?_,A.lenS,A.lenR,fun i=>?_⟩
 ·rcases Z3q.mp ha with z|z
  ·exact A.same.free (hf a z)
  ·exact A.youngR a z
 ·rcases Z3q.mp ha with z|z
  ·exact hl a z
  ·obtain⟨vs,q⟩:=A.liveR a z
   exact⟨vs,e _ _ q⟩
 ·rcases Z3q.mp z with z|z
  ·obtain⟨vs,q⟩:=A.live i a ha
   rw[hf a z] at q;cases q
  ·exact A.disjR i a ha z
 ·refine(A.slot i).mono (fun a vs s r=>⟨r.same e,s.1,fun z=>?_,s.2.2⟩) (fun a vs r=>e.im r) fun a ha vs q=>e _ _ q
  rcases Z3q.mp z with z|z
  ·have:=hf a z
   rcases r with r|⟨o,r⟩<;>(rw[this] at r;cases r)
  ·exact s.2.1 z
theorem Ag.fresh(A:Ag K B H0 H σ Γ ρ F R){p:Addr}(hp:H p=none):p ∉ R/\(∀i,p ∉ F i)/\H0 p=none/\B p:=by
 refine⟨fun z=>?_,fun i z=>?_,A.same.free hp,A.own p (A.same.free hp)⟩
 ·obtain⟨vs,q⟩:=A.liveR p z
  rw[hp] at q;cases q
 ·obtain⟨vs,q⟩:=A.live i p z
  rw[hp] at q;cases q
theorem Ag.new{p:Addr}{xs:List V}(A:Ag K B H0 H σ Γ ρ F R)(hp:H p=none):Ag K B H0 (upd H p (.lst xs)) σ Γ ρ F (p::R):=
 A.more (G:=[p]) (ZL.new hp) (fun a ha=>by rw[Z38.mp ha];exact hp) fun a ha=>⟨⟨.lst xs,trivial⟩,by rw[Z38.mp ha,ZX]⟩
theorem Ag.newB{p:Addr}{u:HO}(hu:Lvo u)(A:Ag K B H0 H σ Γ ρ F R)(hp:H p=none):Ag K B H0 (upd H p u) σ Γ ρ F (p::R):=
 A.more (G:=[p]) (ZL.new hp) (fun a ha=>by rw[Z38.mp ha];exact hp) fun a ha=>⟨⟨u,hu⟩,by rw[Z38.mp ha,ZX]⟩
theorem Ag.getO{i:Nat}(A:Ag K B H0 H σ Γ ρ F R)(h:Γ[i]?=some .O):∃v,σ[i]?=some (some v)/\Vd K H (ρ.getD i .non) v (F i):=by
 have:=A.slot i
 rw[Z3n,h] at this
 exact this
theorem Ag.getT{i:Nat}(A:Ag K B H0 H σ Γ ρ F R)(h:Γ[i]?=some .T):∃a vs xs,σ[i]?=some (some (.ref a))/\ρ.getD i .non=.lst xs/\H a=some (.lst vs)/\Reps K H (NO B F R) xs vs/\F i=[a]:=by
 have:=A.slot i
 rw[Z3n (l:=Γ),h] at this
 exact this
theorem Ag.getS{i:Nat}(A:Ag K B H0 H σ Γ ρ F R)(h:Γ[i]?=some .S):∃v,σ[i]?=some (some v)/\Rep K H (NO B F R) (ρ.getD i .non) v:=by
 have:=A.slot i
 rw[Z3n (l:=Γ),h] at this
 exact this.2
theorem Ag.getP{i:Nat}(A:Ag K B H0 H σ Γ ρ F R)(h:Γ[i]?=some .P):∃v,σ[i]?=some (some v)/\(ρ.getD i .non).flat=true/\Rep K H (fun _=>True) (ρ.getD i .non) v:=by
 have:=A.slot i
 rw[Z3n (l:=Γ),h] at this
 exact this.2
theorem Ag.getA{i:Nat}{m:Md}(A:Ag K B H0 H σ Γ ρ F R)(h:Γ[i]?=some m)(hm:m≠.U):∃v,σ[i]?=some (some v)/\Rep K H (fun _=>True) (ρ.getD i .non) v:=by
 cases m with
 |U=>exact absurd rfl hm
 |P=>obtain⟨v,h1,h2,h3⟩:=A.getP h;exact⟨v,h1,h3⟩
 |S=>obtain⟨v,h1,h2⟩:=A.getS h;exact⟨v,h1,h2.any⟩
 |T =>
  obtain⟨a,vs,xs,h1,h2,h3,h4,h5⟩:=A.getT h
  exact⟨_,h1,by rw[h2];exact⟨a,vs,rfl,.inl ⟨.inl h3,trivial⟩,h4.any⟩⟩
 |O=>obtain⟨v,h1,h2⟩:=A.getO h;exact⟨v,h1,h2.rep (fun _ _=>trivial)⟩
theorem Ag.lt{i:Nat}{m:Md}(A:Ag K B H0 H σ Γ ρ F R)(h:Γ[i]?=some m):i<Γ.length:=(Z37.mp h).1
noncomputable def ZbI(F:Nat->List Addr)(i:Nat)(G:List Addr):Nat->List Addr:=fun j=>if j=i then G else F j
theorem Z5{i:Nat}{G:List Addr}:ZbI F i G i=G:=if_pos rfl
theorem ZY{i j:Nat}{G:List Addr}(h:j≠i):ZbI F i G j=F j:=if_neg h
theorem Ag.put{i:Nat}{m:Md}{x:PV}{v:V}{G:List Addr}(A:Ag K B H0 H σ Γ ρ F (G++R))(hi:i<Γ.length)(hG:∀a∈G,a ∉ R)(hs:ZbB K H (NO B (ZbI F i G) R) m x (some (some v)) G) :
  Ag K B H0 H (σ.set i (some v)) (Γ.set i m) (ρ.set i x) (ZbI F i G) R:=by
 refine⟨A.same,A.own,fun j a ha=>?_,fun a ha=>A.youngR a (Z3o _ ha),fun j a ha=>?_,fun a ha=>A.liveR a (Z3o _ ha),fun j k hjk a ha z=>?_,fun j a ha z=>?_,by simp[A.lenS],by simp[A.lenR],fun j=>?_⟩
 ·by_cases h:j=i
  ·subst h;rw[Z5] at ha;exact A.youngR a (Z3s _ ha)
  ·rw[ZY h] at ha;exact A.young j a ha
 ·by_cases h:j=i
  ·subst h;rw[Z5] at ha;exact A.liveR a (Z3s _ ha)
  ·rw[ZY h] at ha;exact A.live j a ha
 ·by_cases h:j=i
  ·subst h
   rw[Z5] at ha
   rw[ZY (Ne.symm hjk)] at z
   exact A.disjR k a z (Z3s _ ha)
  ·rw[ZY h] at ha
   by_cases h':k=i
   ·subst h'
    rw[Z5] at z
    exact A.disjR j a ha (Z3s _ z)
   ·rw[ZY h'] at z
    exact A.disj j k hjk a ha z
 ·by_cases h:j=i
  ·subst h;rw[Z5] at ha;exact hG a ha z
  ·rw[ZY h] at ha;exact A.disjR j a ha (Z3o _ z)
 ·by_cases h:j=i
  ·subst h
   rw[Z5,Z3n,Z3n,Z3C hi,Z3C (by rw[A.lenR];exact hi),Z3C (by rw[A.lenS];exact hi)]
   exact hs
  ·rw[ZY h,Z3n,Z3n,Z3H (Ne.symm h),Z3H (Ne.symm h),Z3H (Ne.symm h),<- Z3n,<- Z3n]
   refine(A.slot j).mono (fun a vs s r=>⟨r,s.1,fun z=>s.2.1 (Z3o _ z),fun k z=>?_⟩) (fun a vs r=>r) fun a ha vs q=>q
   by_cases h':k=i
   ·subst h';rw[Z5] at z;exact s.2.1 (Z3s _ z)
   ·rw[ZY h'] at z;exact s.2.2 k z
theorem Ag.turn{i:Nat}{m m':Md}{G:List Addr}(A:Ag K B H0 H σ Γ ρ F R)(h:Γ[i]?=some m)(hG:∀a∈G,a∈F i)(hs:ZbB K H (NO B (ZbI F i []) (G++R)) m' (ρ.getD i .non) σ[i]? []) :
  Ag K B H0 H σ (Γ.set i m') ρ (ZbI F i []) (G++R):=by
 have hi:=A.lt h
 refine⟨A.same,A.own,fun j a ha=>?_,fun a ha=>?_,fun j a ha=>?_,fun a ha=>?_,fun j k hjk a ha z=>?_,fun j a ha z=>?_,by simp[A.lenS],by simp[A.lenR],fun j=>?_⟩
 ·by_cases h:j=i
  ·subst h;rw[Z5] at ha;simp at ha
  ·rw[ZY h] at ha;exact A.young j a ha
 ·rcases Z3q.mp ha with z|z
  ·exact A.young i a (hG a z)
  ·exact A.youngR a z
 ·by_cases h:j=i
  ·subst h;rw[Z5] at ha;simp at ha
  ·rw[ZY h] at ha;exact A.live j a ha
 ·rcases Z3q.mp ha with z|z
  ·exact A.live i a (hG a z)
  ·exact A.liveR a z
 ·by_cases h:j=i
  ·subst h;rw[Z5] at ha;simp at ha
  ·by_cases h':k=i
   ·subst h';rw[Z5] at z;simp at z
   ·rw[ZY h] at ha;rw[ZY h'] at z;exact A.disj j k hjk a ha z
 ·by_cases h:j=i
  ·subst h;rw[Z5] at ha;simp at ha
  ·rw[ZY h] at ha
   rcases Z3q.mp z with z|z
   ·exact A.disj j i h a ha (hG a z)
   ·exact A.disjR j a ha z
 ·by_cases h:j=i
  ·subst h
   rw[Z5,Z3n (l:=Γ.set _ _),Z3C hi]
   exact hs
  ·rw[ZY h,Z3n (l:=Γ.set _ _),Z3H (Ne.symm h),<- Z3n]
   refine(A.slot j).mono (fun a vs s r=>⟨r,s.1,fun z=>?_,fun k z=>?_⟩) (fun a vs r=>r) fun a ha vs q=>q
   ·rcases Z3q.mp z with z|z
    ·exact s.2.2 i (hG a z)
    ·exact s.2.1 z
   ·by_cases h':k=i
    ·subst h';rw[Z5] at z;simp at z
    ·rw[ZY h'] at z;exact s.2.2 k z
theorem Ag.noF(A:Ag K B H0 H σ Γ ρ F R){i:Nat}{a:Addr}(ha:a∈F i):NO B (ZbI F i []) R a:=⟨A.own a (A.young i a ha),A.disjR i a ha,fun j z=>by
 by_cases h:j=i
 ·subst h;rw[Z5] at z;simp at z
 ·rw[ZY h] at z;exact A.disj j i h a z ha⟩
theorem Ag.freeze{i:Nat}{m:Md}(A:Ag K B H0 H σ Γ ρ F R)(h:Γ[i]?=some m)(hm:m≠.U):Ag K B H0 H σ (Γ.set i .S) ρ (ZbI F i []) R:=by
 refine A.turn (G:=[]) h (by simp) ?_
 show ZbB K H (NO B (ZbI F i []) R) .S (ρ.getD i .non) σ[i]? []
 have up:∀{a vs},NO B F R a->Rd H a vs->Rd H a vs/\NO B (ZbI F i []) R a:=fun {a vs} s r=>⟨r,s.1,s.2.1,fun j z=>by
  by_cases h:j=i
  ·subst h;rw[Z5] at z;simp at z
  ·rw[ZY h] at z;exact s.2.2 j z⟩
 cases m with
 |U=>exact absurd rfl hm
 |P=>obtain⟨v,h1,h2,h3⟩:=A.getP h;exact⟨rfl,v,h1,h3.flatS h2⟩
 |S=>obtain⟨v,h1,h2⟩:=A.getS h;exact⟨rfl,v,h1,Rep.mono (fun a vs s r=>up s r) (fun a vs r=>r) h2⟩
 |T =>
  obtain⟨a,vs,xs,h1,h2,h3,h4,h5⟩:=A.getT h
  refine⟨rfl,_,h1, ?_⟩
  rw[h2]
  exact⟨a,vs,rfl,.inl ⟨.inl h3,A.noF (by rw[h5];simp)⟩,Reps.mono (fun a vs s r=>up s r) (fun a vs r=>r) h4⟩
 |O =>
  obtain⟨v,h1,h2⟩:=A.getO h
  exact⟨rfl,v,h1,h2.rep fun a ha=>A.noF ha⟩
theorem Ag.move{i:Nat}(A:Ag K B H0 H σ Γ ρ F R)(h:Γ[i]?=some .O):Ag K B H0 H σ (Γ.set i .U) ρ (ZbI F i []) (F i++R):=A.turn (G:=F i) h (fun a ha=>ha) rfl
end
noncomputable abbrev PX:=Str×PV
inductive Rr(α:Type) where
 |ok (a:α)|exc (e:PX)|bad
noncomputable def Rr.bind{α β:Type}:Rr α->(α->Rr β)->Rr β
 |.ok a,f=>f a
 |.exc e,_=>.exc e
 |.bad,_=>.bad
def Dn{α:Type}(r:Rr α)(ok:α->Prop)(ex:PX->Prop):Prop:=match r with
 |.ok a=>ok a
 |.exc e=>ex e
 |.bad=>False
theorem Dn.bind{α β:Type}{r:Rr α}{f:α->Rr β}{ok:β->Prop}{ex:PX->Prop}(h:Dn (r.bind f) ok ex):Dn r (fun a=>Dn (f a) ok ex) ex:=by
 cases r with
 |ok a=>exact h
 |exc e=>exact h
 |bad=>exact h
theorem Dn.imp{α:Type}{r:Rr α}{ok ok':α->Prop}{ex ex':PX->Prop}(h:Dn r ok ex)(h1:∀a,r=.ok a->ok a->ok' a)(h2:∀e,ex e->ex' e):Dn r ok' ex':=by
 cases r with
 |ok a=>exact h1 a rfl h
 |exc e=>exact h2 e h
 |bad=>exact h
@[simp] theorem Rr.bind_ok{α β:Type}{a:α}{f:α->Rr β}:(Rr.ok a).bind f=f a:=rfl
@[simp] theorem Rr.bind_exc{α β:Type}{e:PX}{f:α->Rr β}:(Rr.exc e:Rr α).bind f=.exc e:=rfl
@[simp] theorem Rr.bind_bad{α β:Type}{f:α->Rr β}:(Rr.bad:Rr α).bind f=.bad:=rfl
inductive Kd|P|F|T|Z|A|N|M
def Res(K:W.Frag)(B:Addr->Prop)(H0 H:Hp)(σ:St)(Γ':List Md)(ρ:List PV)(F:Nat->List Addr)(R:List Addr)(k:Kd)(x:PV)(v:V)(H':Hp):Prop:=
 ∃F',(∀i,∀a∈F' i,a∈F i)/\match k with
 |.P=>x.flat=true/\Rep K H' (fun _=>True) x v/\Ag K B H0 H' σ Γ' ρ F' R
 |.F=>∃G,Vd K H' x v G/\(∀a∈G,a ∉ R/\(H a=none\/∃i,a∈F i))/\Ag K B H0 H' σ Γ' ρ F' (G++R)
 |.T=>∃a vs xs,x=.lst xs/\v=.ref a/\H' a=some (.lst vs)/\Reps K H' (NO B F' (a::R)) xs vs/\a ∉ R/\(H a=none\/∃i,a∈F i)/\Ag K B H0 H' σ Γ' ρ F' (a::R)
 |.Z=>Rep K H' (NO B F' R) x v/\Ag K B H0 H' σ Γ' ρ F' R
 |.A=>Rep K H' (fun _=>True) x v/\Ag K B H0 H' σ Γ' ρ F' R
 |.N=>False
 |.M=>False
def DE(K:W.Frag)(EX:PX->Hp->Prop)(Γ Γ':List Md)(k:Kd)(te:TE)(f:List PV->Rr PV):Prop:=
 ∀(B:Addr->Prop) (H0 H:Hp) (σ:St) (ρ:List PV) (F:Nat->List Addr) (R:List Addr) (Q:VK),Ag K B H0 H σ Γ ρ F R ->
  Dn (f ρ) (fun x=>∀v H',ZL H H'->Res K B H0 H σ Γ' ρ F R k x v H'->Q v H') (fun e=>∀H',ZL H0 H'->EX e H')->te σ H Q
def DT(K:W.Frag)(EX:PX->Hp->Prop)(Γ Γ':List Md)(tt:TT)(f:List PV->Rr Bool):Prop:=
 ∀(B:Addr->Prop) (H0 H:Hp) (σ:St) (ρ:List PV) (F:Nat->List Addr) (R:List Addr) (Q:Bool->Hp->Prop),Ag K B H0 H σ Γ ρ F R ->
  Dn (f ρ) (fun b=>∀H' F',ZL H H'->(∀i,∀a∈F' i,a∈F i)->Ag K B H0 H' σ Γ' ρ F' R->Q b H') (fun e=>∀H',ZL H0 H'->EX e H')->tt σ H Q
section
variable {K:W.Frag}{B:Addr->Prop}{EX:PX->Hp->Prop}{H0 H H':Hp}{σ:St}{Γ Γ' Γ1 Γ2:List Md}{ρ:List PV}{F F':Nat->List Addr}{R:List Addr}{k:Kd}{x:PV}{v:V}{te ta tb:TE}{f fa fb:List PV->Rr PV}
theorem Res.ag(h:Res K B H0 H σ Γ' ρ F R k x v H'):∃F',(∀i,∀a∈F' i,a∈F i)/\Rep K H' (fun _=>True) x v/\Ag K B H0 H' σ Γ' ρ F' R:=by
 obtain⟨F',hF,h⟩:=h
 refine⟨F',hF, ?_⟩
 cases k with
 |P=>exact⟨h.2.1,h.2.2⟩
 |F=>obtain⟨G,h1,h2,h3⟩:=h;exact⟨h1.rep fun _ _=>trivial,h3.less fun a ha=>Z3o _ ha⟩
 |T=>obtain⟨a,vs,xs,rfl,rfl,h1,h2,h3,h4,h5⟩:=h;exact⟨⟨a,vs,rfl,.inl ⟨.inl h1,trivial⟩,h2.any⟩,h5.less fun a ha=>Z39 _ ha⟩
 |Z=>exact⟨h.1.any,h.2⟩
 |A=>exact h
 |N=>exact h.elim
 |M=>exact h.elim
theorem Res.toA(h:Res K B H0 H σ Γ' ρ F R k x v H'):Res K B H0 H σ Γ' ρ F R .A x v H':=let ⟨F',a,b,c⟩:=h.ag;⟨F',a,b,c⟩
theorem Res.PF(h:Res K B H0 H σ Γ' ρ F R .P x v H'):Res K B H0 H σ Γ' ρ F R .F x v H':=by
 obtain⟨F',hF,h1,h2,h3⟩:=h
 exact⟨F',hF,[],h2.tree h1,by simp,h3⟩
theorem Res.PZ(h:Res K B H0 H σ Γ' ρ F R .P x v H'):Res K B H0 H σ Γ' ρ F R .Z x v H':=by
 obtain⟨F',hF,h1,h2,h3⟩:=h
 exact⟨F',hF,h2.flatS h1,h3⟩
theorem Res.FZ(h:Res K B H0 H σ Γ' ρ F R .F x v H'):Res K B H0 H σ Γ' ρ F R .Z x v H':=by
 obtain⟨F',hF,G,h1,h2,h3⟩:=h
 exact⟨F',hF,h1.rep fun a ha=>⟨h3.own a (h3.youngR a (Z3s _ ha)),(h2 a ha).1,fun i z=>h3.disjR i a z (Z3s _ ha)⟩,h3.less fun a ha=>Z3o _ ha⟩
theorem DE.imp{k':Kd}(h:DE K EX Γ Γ' k te f)(hr:∀{B:Addr->Prop}{H0 H H':Hp}{σ:St}{ρ:List PV}{F:Nat->List Addr}{R:List Addr}{x:PV}{v:V},Res K B H0 H σ Γ' ρ F R k x v H'->Res K B H0 H σ Γ' ρ F R k' x v H'):DE K EX Γ Γ' k' te f:=
 fun B H0 H σ ρ F R Q A d=>h B H0 H σ ρ F R Q A (d.imp (fun x _ q v H' s r=>q v H' s (hr r)) fun e q=>q)
theorem DE.toA(h:DE K EX Γ Γ' k te f):DE K EX Γ Γ' .A te f:=h.imp Res.toA
theorem DE.PF(h:DE K EX Γ Γ' .P te f):DE K EX Γ Γ' .F te f:=h.imp Res.PF
theorem DE.PZ(h:DE K EX Γ Γ' .P te f):DE K EX Γ Γ' .Z te f:=h.imp Res.PZ
theorem DE.FZ(h:DE K EX Γ Γ' .F te f):DE K EX Γ Γ' .Z te f:=h.imp Res.FZ
noncomputable def grd(x:PV):Rr PV:=if x.flat=true then .ok x else .bad
theorem DE.grd(h:DE K EX Γ Γ' .A te f):DE K EX Γ Γ' .P te (fun ρ=>(f ρ).bind grd):=fun B H0 H σ ρ F R Q A d=>by
 refine h B H0 H σ ρ F R Q A (d.bind.imp (fun x _ q v H' s r=>?_) fun e q=>q)
 unfold L2.grd at q
 by_cases hx:x.flat=true
 ·rw[if_pos hx] at q
  obtain⟨F',h1,h2,h3⟩:=r
  exact q v H' s ⟨F',h1,hx,h2,h3⟩
 ·rw[if_neg hx] at q;exact q.elim
noncomputable def isL(x:PV):Rr PV:=match x with
 |.lst xs=>.ok (.lst xs)
 |_=>.bad
theorem Zs6{v:V}(hf:x.flat=true)(hr:∀H,Rep K H (fun _=>True) x v):DE K EX Γ Γ .P (tC v) (fun _=>.ok x):=fun B H0 H σ ρ F R Q A d =>
 d v H (ZL.refl H) ⟨F,fun _ _ h=>h,hf,hr H,A⟩
theorem Zs{i:Int}:DE K EX Γ Γ .P (tC (.int i)) (fun _=>.ok (.int i)):=Zs6 rfl fun _=>rfl
theorem Zl1{b:Bool}:DE K EX Γ Γ .P (tC (.bl b)) (fun _=>.ok (.bl b)):=Zs6 rfl fun _=>rfl
theorem ZrJ:DE K EX Γ Γ .P (tC .non) (fun _=>.ok .non):=Zs6 rfl fun _=>rfl
theorem Zi{x:Str}:DE K EX Γ Γ .P (tC (.str x)) (fun _=>.ok (.str x)):=Zs6 rfl fun _=>rfl
noncomputable def gv(i:Nat)(ρ:List PV):PV:=ρ.getD i .non
theorem Zc{i:Nat}{m:Md}(h:Γ[i]?=some m)(hm:m≠.U):DE K EX Γ Γ .A (Zj2 i) (fun ρ=>.ok (gv i ρ)):=fun B H0 H σ ρ F R Q A d=>by
 obtain⟨v,h1,h2⟩:=A.getA h hm
 exact⟨v,h1,d v H (ZL.refl H) ⟨F,fun _ _ h=>h,h2,A⟩⟩
theorem Jb{i:Nat}(h:Γ[i]?=some .P):DE K EX Γ Γ .P (Zj2 i) (fun ρ=>.ok (gv i ρ)):=fun B H0 H σ ρ F R Q A d=>by
 obtain⟨v,h1,h2,h3⟩:=A.getP h
 exact⟨v,h1,d v H (ZL.refl H) ⟨F,fun _ _ h=>h,h2,h3,A⟩⟩
theorem Zhi{i:Nat}(h:Γ[i]?=some .S):DE K EX Γ Γ .Z (Zj2 i) (fun ρ=>.ok (gv i ρ)):=fun B H0 H σ ρ F R Q A d=>by
 obtain⟨v,h1,h2⟩:=A.getS h
 exact⟨v,h1,d v H (ZL.refl H) ⟨F,fun _ _ h=>h,h2,A⟩⟩
theorem QO{i:Nat}{F:Nat->List Addr}:∀j,∀a∈ZbI F i [] j,a∈F j:=fun j a ha=>by
 by_cases h:j=i
 ·subst h;rw[Z5] at ha;simp at ha
 ·rw[ZY h] at ha;exact ha
theorem Zlu{i:Nat}(h:Γ[i]?=some .O):DE K EX Γ (Γ.set i .U) .F (Zj2 i) (fun ρ=>.ok (gv i ρ)):=fun B H0 H σ ρ F R Q A d=>by
 obtain⟨v,h1,h2⟩:=A.getO h
 exact⟨v,h1,d v H (ZL.refl H) ⟨ZbI F i [],QO,F i,h2,fun a ha=>⟨A.disjR i a ha,.inr ⟨i,ha⟩⟩,A.move h⟩⟩
theorem Zlt{i:Nat}{m:Md}(h:Γ[i]?=some m)(hm:m≠.U):DE K EX Γ (Γ.set i .S) .Z (Zj2 i) (fun ρ=>.ok (gv i ρ)):=fun B H0 H σ ρ F R Q A d=>by
 have A':=A.freeze h hm
 obtain⟨v,h1,h2⟩:=A'.getS (Z3C (A.lt h))
 exact⟨v,h1,d v H (ZL.refl H) ⟨ZbI F i [],QO,h2,A'⟩⟩
def OpP(K:W.Frag)(r:R2)(o:PV->PV->Rr PV):Prop:=∀{H:Hp}{x y:PV}{v w:V}{Q:VK},Rep K H (fun _=>True) x v->Rep K H (fun _=>True) y w ->
 (∃z,o x y=.ok z/\(z.flat=true->∀u,Rep K H (fun _=>True) z u->Q u H))->r v w H Q
theorem Dn.bind2{α β γ:Type}{r:Rr α}{q:Rr β}{f:α->β->Rr γ}{ok:γ->Prop}{ex:PX->Prop}(h:Dn (r.bind fun a=>q.bind fun b=>f a b) ok ex):Dn r (fun a=>Dn q (fun b=>Dn (f a b) ok ex) ex) ex:=
 h.bind.imp (fun a _ h=>h.bind) fun e h=>h
theorem two{Q:V->V->Hp->Prop}{ok:PV->PV->Prop}(ha:DE K EX Γ Γ1 .A ta fa)(hb:DE K EX Γ1 Γ2 .A tb fb)(A:Ag K B H0 H σ Γ ρ F R)(d:Dn (fa ρ) (fun x=>Dn (fb ρ) (fun y=>ok x y) (fun e=>∀H',ZL H0 H'->EX e H')) (fun e=>∀H',ZL H0 H'->EX e H'))(hq:∀x y v w H' F',ok x y->ZL H H'->(∀i,∀a∈F' i,a∈F i)->Rep K H' (fun _=>True) x v->Rep K H' (fun _=>True) y w->Ag K B H0 H' σ Γ2 ρ F' R->Q v w H') :
  ta σ H fun v H1=>tb σ H1 fun w H2=>Q v w H2:=by
 refine ha B H0 H σ ρ F R _ A (d.imp (fun x _ d v H1 s1 r1=>?_) fun e q=>q)
 obtain⟨F1,f1,p1,A1⟩:=r1
 refine hb B H0 H1 σ ρ F1 R _ A1 (d.imp (fun y _ q w H2 s2 r2=>?_) fun e q=>q)
 obtain⟨F2,f2,p2,A2⟩:=r2
 exact hq x y v w H2 F2 q (s1.trans s2) (fun i a h=>f1 i a (f2 i a h)) (p1.same s2) p2 A2
theorem ZpC{r:R2}{o:PV->PV->Rr PV}(hr:OpP K r o)(ho:∀x y z,o x y=.ok z->z.flat=true)(hx:∀x y e,o x y≠.exc e)(ha:DE K EX Γ Γ1 .A ta fa)(hb:DE K EX Γ1 Γ2 .A tb fb) :
  DE K EX Γ Γ2 .P (tOp r ta tb) (fun ρ=>(fa ρ).bind fun x=>(fb ρ).bind fun y=>o x y):=fun B H0 H σ ρ F R Q A d=>by
 refine two ha hb A d.bind2 fun x y v w H' F' d s hF p1 p2 A'=>?_
 cases e:o x y with
 |ok z=>rw[e] at d;exact hr p1 p2 ⟨z,e,fun hf u hu=>d u H' s ⟨F',hF,hf,hu,A'⟩⟩
 |exc q=>exact absurd e (hx x y q)
 |bad=>rw[e] at d;exact d.elim
def UnP(K:W.Frag)(r:V->Hp->VK->Prop)(o:PV->Rr PV):Prop:=∀{H:Hp}{x:PV}{v:V}{Q:VK},Rep K H (fun _=>True) x v->(∃z,o x=.ok z/\(z.flat=true->∀u,Rep K H (fun _=>True) z u->Q u H))->r v H Q
theorem Zt0{r:V->Hp->VK->Prop}{o:PV->Rr PV}(hr:UnP K r o)(hx:∀x e,o x≠.exc e)(ha:DE K EX Γ Γ1 .A ta fa):DE K EX Γ Γ1 .P (tUn r ta) (fun ρ=>(fa ρ).bind o):=fun B H0 H σ ρ F R Q A d=>by
 refine ha B H0 H σ ρ F R _ A (d.bind.imp (fun x _ d v H1 s1 r1=>?_) fun e q=>q)
 obtain⟨F1,f1,p1,A1⟩:=r1
 cases e:o x with
 |ok z=>rw[e] at d;exact hr p1 ⟨z,e,fun hf u hu=>d u H1 s1 ⟨F1,f1,hf,hu,A1⟩⟩
 |exc q=>exact absurd e (hx x q)
 |bad=>rw[e] at d;exact d.elim
noncomputable def oI(C:Int->Int->Bool)(g:Int->Int->PV)(x y:PV):Rr PV:=match x,y with
 |.int i,.int j=>if C i j=true then .ok (g i j) else .bad
 |_,_=>.bad
theorem ZhU{C:Int->Int->Bool}{g:Int->Int->PV}{i j:Int}(h:C i j=true):oI C g (.int i) (.int j)=.ok (g i j):=if_pos h
theorem Zu8{C:Int->Int->Bool}{D:Int->Int->Prop}{g:Int->Int->PV}{g':Int->Int->V}(hC:∀i j,C i j=true->D i j)(hg:∀H i j,Rep K H (fun _=>True) (g i j) (g' i j))(hf:∀i j,(g i j).flat=true):OpP K (rI D g') (oI C g):=by
 intro H x y v w Q rx ry ⟨z,e,q⟩
 cases x<;>cases y<;>first|(simp only[oI] at e;cases e;done)|skip
 rename_i i j
 simp only[oI] at e
 by_cases h:C i j=true
 ·rw[if_pos h] at e;cases e
  cases rx;cases ry
  exact⟨i,j,rfl,rfl,hC i j h,q (hf i j) _ (hg H i j)⟩
 ·rw[if_neg h] at e;cases e
theorem Ztk{g:Int->Int->PV}{g':Int->Int->V}(hg:∀H i j,Rep K H (fun _=>True) (g i j) (g' i j))(hf:∀i j,(g i j).flat=true):OpP K (rI0 g') (oI (fun _ _=>true) g):=by
 intro H x y v w Q rx ry ⟨z,e,q⟩
 cases x<;>cases y<;>first|(simp only[oI] at e;cases e;done)|skip
 rename_i i j
 simp only[oI,if_true] at e
 cases e;cases rx;cases ry
 exact⟨i,j,rfl,rfl,q (hf i j) _ (hg H i j)⟩
theorem ZhT{C:Int->Int->Bool}{g:Int->Int->PV}(x y:PV)(e:PX):oI C g x y≠.exc e:=by
 cases x<;>cases y<;>first|(intro h;simp only[oI] at h;cases h;done)|skip
 intro h
 simp only[oI] at h
 split at h<;>cases h
theorem ZkB{C:Int->Int->Bool}{g:Int->Int->PV}(hf:∀i j,(g i j).flat=true)(x y z:PV)(h:oI C g x y=.ok z):z.flat=true:=by
 cases x<;>cases y<;>first|(simp only[oI] at h;cases h;done)|skip
 simp only[oI] at h
 split at h
 ·cases h;exact hf _ _
 ·cases h
end
mutual
noncomputable def PV.noX:PV->Bool
 |.exc _=>false
 |.exa _ _=>false
 |.box _ _ _=>false
 |.fz xs=>PV.noXs xs
 |.lst xs=>PV.noXs xs
 |.tup xs=>PV.noXs xs
 |.non=>true
 |.bl _=>true
 |.int _=>true
 |.str _=>true
noncomputable def PV.noXs:List PV->Bool
 |[]=>true
 |x::xs=>x.noX&&PV.noXs xs
end
theorem PV.noXs_ints:∀(ns:List Int),PV.noXs (ns.map PV.int)=true
 |[]=>rfl
 |n::ns=>by simp[PV.noXs,PV.noX,PV.noXs_ints ns]
mutual
noncomputable def PV.dat:PV->PyData
 |.non=>.none
 |.bl b=>.bool b
 |.int i=>.int i
 |.str x=>.str x
 |.exc _=>.none
 |.exa _ _=>.none
 |.box _ _ _=>.none
 |.fz xs=>.list (PV.dats xs)
 |.lst xs=>.list (PV.dats xs)
 |.tup xs=>.tuple (PV.dats xs)
noncomputable def PV.dats:List PV->List PyData
 |[]=>[]
 |x::xs=>x.dat::PV.dats xs
end
section
variable {X:Cx}{pins:List (Addr×Obj)}{σ:St}{H:Hp}{s:Shared}{S:Addr->Prop}
theorem Ut{K:W.Frag}{a:Addr}{vs:List V}(h:(Rd H a (.lst vs)/\S a)\/KL K a vs):SqL K H a vs:=by
 rcases h with h|h
 ·exact .inl h.1
 ·exact .inr h
mutual
theorem Rep.reads(I:Inv X pins σ H s):∀{x:PV}{v:V}{u:Value},x.noX=true->Rep X.K H S x v->JY v u->∃as,Reads s.heap u x.dat as
 |.non,_,_,_,h,r=>by cases h;cases r;exact⟨_,.none⟩
 |.bl _,_,_,_,h,r=>by cases h;cases r;exact⟨_,.bool _⟩
 |.int _,_,_,_,h,r=>by cases h;obtain⟨t,rfl⟩:=r;exact⟨_,.int _ _⟩
 |.str _,_,_,_,h,r=>by cases h;obtain⟨t,rfl⟩:=r;exact⟨_,.str _ _⟩
 |.exc _,_,_,z,_,_=>by simp[PV.noX] at z
 |.exa _ _,_,_,z,_,_=>by simp[PV.noX] at z
 |.box _ _ _,_,_,z,_,_=>by simp[PV.noX] at z
 |.fz xs,_,_,z,h,r=>by
  obtain⟨a,vs,rfl,⟨o,hn⟩,hr⟩:=h
  cases r
  obtain⟨its,rv,pl,_⟩:=I.list (Ut (S:=fun _=>True) (.inl ⟨.inr ⟨o,hn.1⟩,trivial⟩))
  obtain⟨as,ra⟩:=Reps.reads I (by simpa[PV.noX] using z) hr rv
  obtain⟨o,ho,hc,n,hd⟩:=pl.isList
  exact⟨_,.list ho hc hd (by simpa using ra)⟩
 |.lst xs,_,_,z,h,r=>by
  obtain⟨a,vs,rfl,hn,hr⟩:=h
  cases r
  obtain⟨its,rv,pl,_⟩:=I.list (Ut hn)
  obtain⟨as,ra⟩:=Reps.reads I (by simpa[PV.noX] using z) hr rv
  obtain⟨o,ho,hc,n,hd⟩:=pl.isList
  exact⟨_,.list ho hc hd (by simpa using ra)⟩
 |.tup xs,_,_,z,h,r=>by
  obtain⟨a,vs,rfl,hn,hr⟩:=h
  cases r
  obtain⟨its,rv,⟨o,ho,hc,n,hd⟩,_⟩:=I.tuple hn.sqT
  obtain⟨as,ra⟩:=Reps.reads I (by simpa[PV.noX] using z) hr rv
  exact⟨_,.tuple ho hc hd (by simpa using ra)⟩
theorem Reps.reads(I:Inv X pins σ H s):∀{xs:List PV}{vs:List V}{us:List Value},PV.noXs xs=true->Reps X.K H S xs vs->Jk vs us->∃as,ReadsAll s.heap us (PV.dats xs) as
 |[],_,_,_,h,r=>by rw[h] at r;cases r;exact⟨_,.nil⟩
 |x::xs,_,_,z,h,r=>by
  simp only[PV.noXs,Bool.and_eq_true] at z
  obtain⟨v,vs,rfl,h1,h2⟩:=h
  cases r with
  |cons r1 r2 =>
   obtain⟨as,a1⟩:=Rep.reads I z.1 h1 r1
   obtain⟨bs,b1⟩:=Reps.reads I z.2 h2 r2
   exact⟨_,.cons a1 b1⟩
end
noncomputable def okD(x:PV):Bool:=x.noX&&x.dat.canLay0&&decide (x.dat.depth<=64)
noncomputable def ZsO(K:W.Frag)(g:Bool->Bool):R2:=fun x y H Q=>∃p q,Rep K H (fun _=>True) p x/\Rep K H (fun _=>True) q y/\okD p=true/\okD q=true/\Q (.bl (g (PyData.eqv p.dat q.dat))) H
theorem JI{K:W.Frag}(hu:X.A.units+64<cLine)(e:X.K=K:=by rfl):OpR X (compareOp .Eq) (ZsO K id):=by
 subst e
 intro pins s σ H x y v u Q I rx ry h
 obtain⟨p,q,h1,h2,h3,h4,hq⟩:=h
 simp only[okD,Bool.and_eq_true,decide_eq_true_eq] at h3 h4
 obtain⟨as,ra⟩:=h1.reads I h3.1.1 rx
 obtain⟨bs,rb⟩:=h2.reads I h4.1.1 ry
 exact SeqAt.rcAt_reads ra rb h3.1.2 h4.1.2 (by have:=Nat.min_le_left p.dat.depth q.dat.depth;omega) _ _ _ _ ⟨.bl (PyData.eqv p.dat q.dat),H,I,rfl,hq⟩
theorem Zf3{K:W.Frag}(hu:X.A.units+64<cLine)(e:X.K=K:=by rfl):OpR X (compareOp .NotEq) (ZsO K (!·)):=by
 subst e
 intro pins s σ H x y v u Q I rx ry h
 obtain⟨p,q,h1,h2,h3,h4,hq⟩:=h
 simp only[okD,Bool.and_eq_true,decide_eq_true_eq] at h3 h4
 obtain⟨as,ra⟩:=h1.reads I h3.1.1 rx
 obtain⟨bs,rb⟩:=h2.reads I h4.1.1 ry
 exact SeqAt.rcNeAt_reads ra rb h3.1.2 h4.1.2 (by have:=Nat.min_le_left p.dat.depth q.dat.depth;omega) _ _ _ _ ⟨.bl (!PyData.eqv p.dat q.dat),H,I,rfl,hq⟩
end
noncomputable def ZO(g:Bool->Bool)(x y:PV):Rr PV:=if (okD x&&okD y)=true then .ok (.bl (g (PyData.eqv x.dat y.dat))) else .bad
def Zh0(i j:Int):Prop:=i.natAbs<2^60000/\j.natAbs<2^60000
def Zh1(i j:Int):Prop:=0<j/\j.natAbs<2^9000
noncomputable instance (i j:Int):Decidable (Zh0 i j):=by unfold Zh0;infer_instance
noncomputable instance (i j:Int):Decidable (Zh1 i j):=by unfold Zh1;infer_instance
noncomputable instance (i j:Int):Decidable (Zqs i j):=by unfold Zqs;infer_instance
theorem ZlI{i:Int}{n:Nat}(h:i.natAbs<2^n):Builtin.Int.intBits i<=n:=by
 unfold Builtin.Int.intBits
 split
 ·exact Z4p _
 ·rename_i h0
  have:i.natAbs≠0:=by simpa using h0
  exact Nat.succ_le_of_lt ((Nat.log2_lt this).mpr h)
section
variable {X:Cx}
theorem Zpi:OpR X (binaryOp .Mult) (rI Zh0 fun i j=>.int (i*j)):=opI fun _ _ _ _ _ _ _ hc q=>mul_int q (PyProof.Rows.mulOk_of_bits (ZlI hc.1) (ZlI hc.2) (by decide))
theorem Um:OpR X (binaryOp .FloorDiv) (rI Zh1 fun i j=>.int (i/j)):=opI fun i j _ _ _ _ _ hc q=>by
 refine floordiv_int (by have:=hc.1;omega) ?_ (.inl (PyProof.noPylong_of_log2 ?_))
 ·rw[Int.fdiv_eq_ediv_of_nonneg _ (by have:=hc.1;omega)];exact q
 ·have h0:j.natAbs≠0:=by have:=hc.1;omega
  exact(Nat.log2_lt h0).mpr hc.2
variable {K:W.Frag}{B:Addr->Prop}{EX:PX->Hp->Prop}{H0 H:Hp}{σ:St}{Γ Γ' Γ1 Γ2:List Md}{ρ:List PV}{F:Nat->List Addr}{R:List Addr}{k:Kd}{x:PV}{v:V}{ta tb:TE}{fa fb fc:List PV->Rr PV}
noncomputable abbrev Zun:PV->PV->Rr PV:=oI (fun _ _=>true) fun i j=>.int (i+j)
noncomputable abbrev Zuj:PV->PV->Rr PV:=oI (fun _ _=>true) fun i j=>.int (i-j)
noncomputable abbrev ZsX:PV->PV->Rr PV:=oI (fun i j=>decide (Zh0 i j)) fun i j=>.int (i*j)
noncomputable abbrev Ztd:PV->PV->Rr PV:=oI (fun i j=>decide (Zh1 i j)) fun i j=>.int (i/j)
noncomputable abbrev Zqf:PV->PV->Rr PV:=oI (fun _ j=>decide (0<j)) fun i j=>.int (i%j)
noncomputable abbrev Zqe:PV->PV->Rr PV:=oI (fun i j=>decide (Zqs i j)) fun i j=>.int (i^j.toNat)
noncomputable abbrev pLt:PV->PV->Rr PV:=oI (fun _ _=>true) fun i j=>.bl (decide (i<j))
noncomputable abbrev pLe:PV->PV->Rr PV:=oI (fun _ _=>true) fun i j=>.bl (decide (i<=j))
noncomputable abbrev pGt:PV->PV->Rr PV:=oI (fun _ _=>true) fun i j=>.bl (decide (j<i))
noncomputable abbrev pGe:PV->PV->Rr PV:=oI (fun _ _=>true) fun i j=>.bl (decide (j<=i))
theorem Znp{D:Int->Int->Prop}{C:Int->Int->Bool}{g:Int->Int->PV}{g':Int->Int->V}(hC:∀i j,C i j=true->D i j)(hg:∀H i j,Rep K H (fun _=>True) (g i j) (g' i j))(hf:∀i j,(g i j).flat=true)(ha:DE K EX Γ Γ1 .A ta fa)(hb:DE K EX Γ1 Γ2 .A tb fb):DE K EX Γ Γ2 .P (tOp (rI D g') ta tb) (fun ρ=>(fa ρ).bind fun x=>(fb ρ).bind fun y=>oI C g x y):=
 ZpC (Zu8 hC hg hf) (ZkB hf) ZhT ha hb
theorem Zeo{g:Int->Int->PV}{g':Int->Int->V}(hg:∀H i j,Rep K H (fun _=>True) (g i j) (g' i j))(hf:∀i j,(g i j).flat=true)(ha:DE K EX Γ Γ1 .A ta fa)(hb:DE K EX Γ1 Γ2 .A tb fb):DE K EX Γ Γ2 .P (tOp (rI0 g') ta tb) (fun ρ=>(fa ρ).bind fun x=>(fb ρ).bind fun y=>oI (fun _ _=>true) g x y):=
 ZpC (Ztk hg hf) (ZkB hf) ZhT ha hb
theorem Ziq(ha:DE K EX Γ Γ1 .A ta fa)(hb:DE K EX Γ1 Γ2 .A tb fb):DE K EX Γ Γ2 .P (tOp (rI0 fun i j=>.int (i+j)) ta tb) (fun ρ=>(fa ρ).bind fun x=>(fb ρ).bind fun y=>Zun x y):=Zeo (fun _ _ _=>rfl) (fun _ _=>rfl) ha hb
theorem Zox(ha:DE K EX Γ Γ1 .A ta fa)(hb:DE K EX Γ1 Γ2 .A tb fb):DE K EX Γ Γ2 .P (tOp (rI0 fun i j=>.int (i-j)) ta tb) (fun ρ=>(fa ρ).bind fun x=>(fb ρ).bind fun y=>Zuj x y):=Zeo (fun _ _ _=>rfl) (fun _ _=>rfl) ha hb
theorem Zjm(ha:DE K EX Γ Γ1 .A ta fa)(hb:DE K EX Γ1 Γ2 .A tb fb):DE K EX Γ Γ2 .P (tOp (rI0 fun i j=>.bl (decide (i<j))) ta tb) (fun ρ=>(fa ρ).bind fun x=>(fb ρ).bind fun y=>pLt x y):=Zeo (fun _ _ _=>rfl) (fun _ _=>rfl) ha hb
theorem Zt2(ha:DE K EX Γ Γ1 .A ta fa)(hb:DE K EX Γ1 Γ2 .A tb fb):DE K EX Γ Γ2 .P (tOp (rI0 fun i j=>.bl (decide (i<=j))) ta tb) (fun ρ=>(fa ρ).bind fun x=>(fb ρ).bind fun y=>pLe x y):=Zeo (fun _ _ _=>rfl) (fun _ _=>rfl) ha hb
theorem U7(ha:DE K EX Γ Γ1 .A ta fa)(hb:DE K EX Γ1 Γ2 .A tb fb):DE K EX Γ Γ2 .P (tOp (rI0 fun i j=>.bl (decide (j<i))) ta tb) (fun ρ=>(fa ρ).bind fun x=>(fb ρ).bind fun y=>pGt x y):=Zeo (fun _ _ _=>rfl) (fun _ _=>rfl) ha hb
theorem Zt4(ha:DE K EX Γ Γ1 .A ta fa)(hb:DE K EX Γ1 Γ2 .A tb fb):DE K EX Γ Γ2 .P (tOp (rI0 fun i j=>.bl (decide (j<=i))) ta tb) (fun ρ=>(fa ρ).bind fun x=>(fb ρ).bind fun y=>pGe x y):=Zeo (fun _ _ _=>rfl) (fun _ _=>rfl) ha hb
theorem ZrK(ha:DE K EX Γ Γ1 .A ta fa)(hb:DE K EX Γ1 Γ2 .A tb fb):DE K EX Γ Γ2 .P (tOp (rI Zh0 fun i j=>.int (i*j)) ta tb) (fun ρ=>(fa ρ).bind fun x=>(fb ρ).bind fun y=>ZsX x y):=Znp (fun _ _ h=>of_decide_eq_true h) (fun _ _ _=>rfl) (fun _ _=>rfl) ha hb
theorem Zeq(ha:DE K EX Γ Γ1 .A ta fa)(hb:DE K EX Γ1 Γ2 .A tb fb):DE K EX Γ Γ2 .P (tOp (rI Zh1 fun i j=>.int (i/j)) ta tb) (fun ρ=>(fa ρ).bind fun x=>(fb ρ).bind fun y=>Ztd x y):=Znp (fun _ _ h=>of_decide_eq_true h) (fun _ _ _=>rfl) (fun _ _=>rfl) ha hb
theorem Uf(ha:DE K EX Γ Γ1 .A ta fa)(hb:DE K EX Γ1 Γ2 .A tb fb):DE K EX Γ Γ2 .P (tOp (rI (fun _ j=>0<j) fun i j=>.int (i%j)) ta tb) (fun ρ=>(fa ρ).bind fun x=>(fb ρ).bind fun y=>Zqf x y):=Znp (fun _ _ h=>of_decide_eq_true h) (fun _ _ _=>rfl) (fun _ _=>rfl) ha hb
theorem Zlv(ha:DE K EX Γ Γ1 .A ta fa)(hb:DE K EX Γ1 Γ2 .A tb fb):DE K EX Γ Γ2 .P (tOp (rI Zqs fun i j=>.int (i^j.toNat)) ta tb) (fun ρ=>(fa ρ).bind fun x=>(fb ρ).bind fun y=>Zqe x y):=Znp (fun _ _ h=>of_decide_eq_true h) (fun _ _ _=>rfl) (fun _ _=>rfl) ha hb
noncomputable def Zsx(x:PV):Rr PV:=match x with
 |.int i=>.ok (.int (-i))
 |_=>.bad
theorem Zep(ha:DE K EX Γ Γ1 .A ta fa):DE K EX Γ Γ1 .P (tUn (rU fun i=>.int (-i)) ta) (fun ρ=>(fa ρ).bind Zsx):=by
 refine Zt0 (fun {H x v Q} rx ⟨z,e,q⟩=>?_) (fun x e h=>?_) ha
 ·cases x<;>first|(simp only[Zsx] at e;cases e;done)|skip
  cases e;cases rx
  exact⟨_,rfl,q rfl _ rfl⟩
 ·cases x<;>(simp only[Zsx] at h;cases h)
theorem ZiI{g:Bool->Bool}(x y:PV)(e:PX):ZO g x y≠.exc e:=by
 unfold ZO
 intro h
 split at h<;>cases h
theorem Zk1{g:Bool->Bool}(x y z:PV)(h:ZO g x y=.ok z):z.flat=true:=by
 unfold ZO at h
 split at h
 ·cases h;rfl
 ·cases h
theorem Jn{g:Bool->Bool}(ha:DE K EX Γ Γ1 .A ta fa)(hb:DE K EX Γ1 Γ2 .A tb fb):DE K EX Γ Γ2 .P (tOp (ZsO K g) ta tb) (fun ρ=>(fa ρ).bind fun x=>(fb ρ).bind fun y=>ZO g x y):=by
 refine ZpC (fun {H x y v w Q} rx ry ⟨z,e,q⟩=>?_) Zk1 ZiI ha hb
 unfold ZO at e
 by_cases h:(okD x&&okD y)=true
 ·rw[if_pos h] at e;cases e
  rw[Bool.and_eq_true] at h
  exact⟨x,y,rx,ry,h.1,h.2,q rfl _ rfl⟩
 ·rw[if_neg h] at e;cases e
noncomputable def Zrb(g:Bool->Bool)(x:PV):Rr PV:=match x with
 |.non=>.ok (.bl (g true))
 |_=>.ok (.bl (g false))
noncomputable def asB(x:PV):Rr Bool:=match x with
 |.bl b=>.ok b
 |_=>.bad
theorem Dn.asB{x:PV}{ok:Bool->Prop}{ex:PX->Prop}(d:Dn (asB x) ok ex):∃b,x=.bl b/\ok b:=by
 cases x with
 |bl b=>exact⟨b,rfl,d⟩
 |_=>exact d.elim
theorem ZrI(ha:DE K EX Γ Γ1 .A ta fa):DE K EX Γ Γ1 .P (Zq7 ta) (fun ρ=>(fa ρ).bind fun x=>(asB x).bind fun b=>.ok (.bl (!b))):=fun B H0 H σ ρ F R Q A d=>by
 refine ha B H0 H σ ρ F R _ A (d.bind.imp (fun x _ d v H1 s1 r1=>?_) fun e q=>q)
 obtain⟨b,rfl,d⟩:=d.bind.asB
 obtain⟨F1,f1,p1,A1⟩:=r1
 cases p1
 exact⟨b,rfl,d _ H1 s1 ⟨F1,f1,rfl,rfl,A1⟩⟩
theorem Res.shift{H1:Hp}{F1:Nat->List Addr}{k:Kd}{Γ2:List Md}{y:PV}{w:V}{H2:Hp}(s1:ZL H H1)(f1:∀i,∀a∈F1 i,a∈F i)(h:Res K B H0 H1 σ Γ2 ρ F1 R k y w H2):Res K B H0 H σ Γ2 ρ F R k y w H2:=by
 obtain⟨F2,f2,h⟩:=h
 refine⟨F2,fun i a ha=>f1 i a (f2 i a ha), ?_⟩
 have org:∀a,(H1 a=none\/∃i,a∈F1 i)->(H a=none\/∃i,a∈F i):=fun a h=>h.elim (fun z=>.inl (s1.free z)) fun⟨i,z⟩=>.inr ⟨i,f1 i a z⟩
 cases k with
 |P=>exact h
 |F=>obtain⟨G,h1,h2,h3⟩:=h;exact⟨G,h1,fun a ha=>⟨(h2 a ha).1,org a (h2 a ha).2⟩,h3⟩
 |T=>obtain⟨a,vs,xs,h1,h2,h3,h4,h5,h6,h7⟩:=h;exact⟨a,vs,xs,h1,h2,h3,h4,h5,org a h6,h7⟩
 |Z=>exact h
 |A=>exact h
 |N=>exact h.elim
 |M=>exact h.elim
theorem Zer(ha:DE K EX Γ Γ .A ta fa)(hb:DE K EX Γ Γ .P tb fb):DE K EX Γ Γ .P (ZqC ta tb) (fun ρ=>(fa ρ).bind fun x=>(asB x).bind fun b=>if b=true then fb ρ else .ok (.bl false)):=fun B H0 H σ ρ F R Q A d=>by
 refine ha B H0 H σ ρ F R _ A (d.bind.imp (fun x _ d v H1 s1 r1=>?_) fun e q=>q)
 obtain⟨b,rfl,d⟩:=d.bind.asB
 obtain⟨F1,f1,p1,A1⟩:=r1
 cases p1
 refine⟨b,rfl, ?_⟩
 cases b with
 |true=>exact hb B H0 H1 σ ρ F1 R _ A1 (d.imp (fun y _ q w H2 s2 r2=>q w H2 (s1.trans s2) (r2.shift s1 f1)) fun e q=>q)
 |false=>exact d _ H1 s1 ⟨F1,f1,rfl,rfl,A1⟩
theorem Zt1(ha:DE K EX Γ Γ .A ta fa)(hb:DE K EX Γ Γ .P tb fb):DE K EX Γ Γ .P (ZtV ta tb) (fun ρ=>(fa ρ).bind fun x=>(asB x).bind fun b=>if b=true then .ok (.bl true) else fb ρ):=fun B H0 H σ ρ F R Q A d=>by
 refine ha B H0 H σ ρ F R _ A (d.bind.imp (fun x _ d v H1 s1 r1=>?_) fun e q=>q)
 obtain⟨b,rfl,d⟩:=d.bind.asB
 obtain⟨F1,f1,p1,A1⟩:=r1
 cases p1
 refine⟨b,rfl, ?_⟩
 cases b with
 |false=>exact hb B H0 H1 σ ρ F1 R _ A1 (d.imp (fun y _ q w H2 s2 r2=>q w H2 (s1.trans s2) (r2.shift s1 f1)) fun e q=>q)
 |true=>exact d _ H1 s1 ⟨F1,f1,rfl,rfl,A1⟩
theorem Z1(ha:DE K EX Γ Γ' .A ta fa):DT K EX Γ Γ' (Zq5 ta) (fun ρ=>(fa ρ).bind asB):=fun B H0 H σ ρ F R Q A d=>by
 refine ha B H0 H σ ρ F R _ A (d.bind.imp (fun x _ d v H1 s1 r1=>?_) fun e q=>q)
 obtain⟨b,rfl,d⟩:=d.asB
 obtain⟨F1,f1,p1,A1⟩:=r1
 cases p1
 exact⟨b,rfl,d H1 F1 s1 f1 A1⟩
theorem ZcF(ha:DE K EX Γ Γ' .A ta fa):DT K EX Γ Γ' (tB ta) (fun ρ=>(fa ρ).bind asB):=Z1 ha
theorem U9{c d:TT}{fc fd:List PV->Rr Bool}(hc:DT K EX Γ Γ c fc)(hd:DT K EX Γ Γ d fd):DT K EX Γ Γ (Zub c d) (fun ρ=>(fc ρ).bind fun b=>if b=true then fd ρ else .ok false):=fun B H0 H σ ρ F R Q A dn=>by
 refine hc B H0 H σ ρ F R _ A (dn.bind.imp (fun b _ dn H1 F1 s1 f1 A1=>?_) fun e q=>q)
 cases b with
 |true=>exact hd B H0 H1 σ ρ F1 R _ A1 (dn.imp (fun y _ q H2 F2 s2 f2 A2=>q H2 F2 (s1.trans s2) (fun i a h=>f1 i a (f2 i a h)) A2) fun e q=>q)
 |false=>exact dn H1 F1 s1 f1 A1
theorem QE{c d:TT}{fc fd:List PV->Rr Bool}(hc:DT K EX Γ Γ c fc)(hd:DT K EX Γ Γ d fd):DT K EX Γ Γ (tOr c d) (fun ρ=>(fc ρ).bind fun b=>if b=true then .ok true else fd ρ):=fun B H0 H σ ρ F R Q A dn=>by
 refine hc B H0 H σ ρ F R _ A (dn.bind.imp (fun b _ dn H1 F1 s1 f1 A1=>?_) fun e q=>q)
 cases b with
 |false=>exact hd B H0 H1 σ ρ F1 R _ A1 (dn.imp (fun y _ q H2 F2 s2 f2 A2=>q H2 F2 (s1.trans s2) (fun i a h=>f1 i a (f2 i a h)) A2) fun e q=>q)
 |true=>exact dn H1 F1 s1 f1 A1
theorem V0{c:TT}{fc:List PV->Rr Bool}(hc:DT K EX Γ Γ' c fc):DT K EX Γ Γ' (ZtW c) (fun ρ=>(fc ρ).bind fun b=>.ok (!b)):=fun B H0 H σ ρ F R Q A dn =>
 hc B H0 H σ ρ F R _ A (dn.bind.imp (fun b _ dn H1 F1 s1 f1 A1=>dn H1 F1 s1 f1 A1) fun e q=>q)
theorem Zt3{c:TT}{fc:List PV->Rr Bool}(hc:DT K EX Γ Γ c fc)(ha:DE K EX Γ Γ' k ta fa)(hb:DE K EX Γ Γ' k tb fb):DE K EX Γ Γ' k (tIf c ta tb) (fun ρ=>(fc ρ).bind fun b=>if b=true then fa ρ else fb ρ):=fun B H0 H σ ρ F R Q A dn=>by
 refine hc B H0 H σ ρ F R _ A (dn.bind.imp (fun b _ dn H1 F1 s1 f1 A1=>?_) fun e q=>q)
 cases b with
 |true=>exact ha B H0 H1 σ ρ F1 R _ A1 (dn.imp (fun y _ q w H2 s2 r2=>q w H2 (s1.trans s2) (r2.shift s1 f1)) fun e q=>q)
 |false=>exact hb B H0 H1 σ ρ F1 R _ A1 (dn.imp (fun y _ q w H2 s2 r2=>q w H2 (s1.trans s2) (r2.shift s1 f1)) fun e q=>q)
end
def DAA(K:W.Frag)(EX:PX->Hp->Prop)(Γ Γ':List Md)(ta:TA)(f:List PV->Rr (List PV)):Prop:=
 ∀(B:Addr->Prop) (H0 H:Hp) (σ:St) (ρ:List PV) (F:Nat->List Addr) (R:List Addr) (Q:List V->Hp->Prop),Ag K B H0 H σ Γ ρ F R ->
  Dn (f ρ) (fun xs=>∀vs H' F',ZL H H'->(∀i,∀a∈F' i,a∈F i)->Reps K H' (fun _=>True) xs vs->Ag K B H0 H' σ Γ' ρ F' R->Q vs H') (fun e=>∀H',ZL H0 H'->EX e H')->ta σ H Q
def DAF(K:W.Frag)(EX:PX->Hp->Prop)(Γ Γ':List Md)(ta:TA)(f:List PV->Rr (List PV)):Prop:=
 ∀(B:Addr->Prop) (H0 H:Hp) (σ:St) (ρ:List PV) (F:Nat->List Addr) (R:List Addr) (Q:List V->Hp->Prop),Ag K B H0 H σ Γ ρ F R ->
  Dn (f ρ) (fun xs=>∀vs H' F' G,ZL H H'->(∀i,∀a∈F' i,a∈F i)->Trees K H' xs vs G->(∀a∈G,a ∉ R/\(H a=none\/∃i,a∈F i))->Ag K B H0 H' σ Γ' ρ F' (G++R)->Q vs H') (fun e=>∀H',ZL H0 H'->EX e H')->ta σ H Q
def DAZ(K:W.Frag)(EX:PX->Hp->Prop)(Γ Γ':List Md)(ta:TA)(f:List PV->Rr (List PV)):Prop:=
 ∀(B:Addr->Prop) (H0 H:Hp) (σ:St) (ρ:List PV) (F:Nat->List Addr) (R:List Addr) (Q:List V->Hp->Prop),Ag K B H0 H σ Γ ρ F R ->
  Dn (f ρ) (fun xs=>∀vs H' F',ZL H H'->(∀i,∀a∈F' i,a∈F i)->Reps K H' (NO B F' R) xs vs->Ag K B H0 H' σ Γ' ρ F' R->Q vs H') (fun e=>∀H',ZL H0 H'->EX e H')->ta σ H Q
section
variable {K:W.Frag}{B:Addr->Prop}{EX:PX->Hp->Prop}{H0 H H':Hp}{σ:St}{Γ Γ' Γ1 Γ2:List Md}{ρ:List PV}{F F':Nat->List Addr}{R:List Addr}{x:PV}{v:V}{te tb:TE}{ta:TA}{f fb:List PV->Rr PV}{fa:List PV->Rr (List PV)}
theorem Zd:DAA K EX Γ Γ Zj3 (fun _=>.ok []):=fun B H0 H σ ρ F R Q A d=>d [] H F (ZL.refl H) (fun _ _ h=>h) rfl A
theorem Zb(he:DE K EX Γ Γ1 .A te f)(ha:DAA K EX Γ1 Γ2 ta fa):DAA K EX Γ Γ2 (Zds te ta) (fun ρ=>(f ρ).bind fun x=>(fa ρ).bind fun xs=>.ok (x::xs)):=fun B H0 H σ ρ F R Q A d=>by
 refine he B H0 H σ ρ F R _ A (d.bind.imp (fun x _ d v H1 s1 r1=>?_) fun e q=>q)
 obtain⟨F1,f1,p1,A1⟩:=r1
 refine ha B H0 H1 σ ρ F1 R _ A1 (d.bind.imp (fun xs _ d vs H2 F2 s2 f2 p2 A2=>?_) fun e q=>q)
 exact d (v::vs) H2 F2 (s1.trans s2) (fun i a h=>f1 i a (f2 i a h)) ⟨v,vs,rfl,p1.same s2,p2⟩ A2
theorem ZU:DAF K EX Γ Γ Zj3 (fun _=>.ok []):=fun B H0 H σ ρ F R Q A d=>d [] H F [] (ZL.refl H) (fun _ _ h=>h) ⟨rfl,rfl⟩ (by simp) A
theorem Zk(he:DE K EX Γ Γ1 .F te f)(ha:DAF K EX Γ1 Γ2 ta fa):DAF K EX Γ Γ2 (Zds te ta) (fun ρ=>(f ρ).bind fun x=>(fa ρ).bind fun xs=>.ok (x::xs)):=fun B H0 H σ ρ F R Q A d=>by
 refine he B H0 H σ ρ F R _ A (d.bind.imp (fun x _ d v H1 s1 r1=>?_) fun e q=>q)
 obtain⟨F1,f1,G1,p1,o1,A1⟩:=r1
 refine ha B H0 H1 σ ρ F1 (G1++R) _ A1 (d.bind.imp (fun xs _ d vs H2 F2 G2 s2 f2 p2 o2 A2=>?_) fun e q=>q)
 refine d (v::vs) H2 F2 (G1++G2) (s1.trans s2) (fun i a h=>f1 i a (f2 i a h)) ⟨v,vs,G1,G2,rfl,p1.same s2,p2,fun a ha z=>(o2 a z).1 (Z3s _ ha),rfl⟩ (fun a ha=>?_) (A2.less fun a ha=>?_)
 ·rcases Z3q.mp ha with z|z
  ·exact o1 a z
  ·obtain⟨o3,o4⟩:=o2 a z
   exact⟨fun q=>o3 (Z3o _ q),o4.elim (fun q=>.inl (s1.free q)) fun⟨i,q⟩=>.inr ⟨i,f1 i a q⟩⟩
 ·simp only[Z3q] at ha ⊢
  rcases ha with (z|z)|z
  ·exact .inr (.inl z)
  ·exact .inl z
  ·exact .inr (.inr z)
theorem Zl2:DAZ K EX Γ Γ Zj3 (fun _=>.ok []):=fun B H0 H σ ρ F R Q A d=>d [] H F (ZL.refl H) (fun _ _ h=>h) rfl A
theorem Zir(he:DE K EX Γ Γ1 .Z te f)(ha:DAZ K EX Γ1 Γ2 ta fa):DAZ K EX Γ Γ2 (Zds te ta) (fun ρ=>(f ρ).bind fun x=>(fa ρ).bind fun xs=>.ok (x::xs)):=fun B H0 H σ ρ F R Q A d=>by
 refine he B H0 H σ ρ F R _ A (d.bind.imp (fun x _ d v H1 s1 r1=>?_) fun e q=>q)
 obtain⟨F1,f1,p1,A1⟩:=r1
 refine ha B H0 H1 σ ρ F1 R _ A1 (d.bind.imp (fun xs _ d vs H2 F2 s2 f2 p2 A2=>?_) fun e q=>q)
 refine d (v::vs) H2 F2 (s1.trans s2) (fun i a h=>f1 i a (f2 i a h)) ⟨v,vs,rfl, ?_,p2⟩ A2
 exact Rep.mono (fun a us s r=>⟨r.same s2,s.1,s.2.1,fun i z=>s.2.2 i (f2 i a z)⟩) (fun a us r=>s2.im r) p1
noncomputable def mkT(xs:List PV):Rr PV:=if xs.length<=1000 then .ok (.tup xs) else .bad
noncomputable def mkL(xs:List PV):Rr PV:=if xs.length<=1000 then .ok (.lst xs) else .bad
theorem Dn.mkT{xs:List PV}{ok:PV->Prop}{ex:PX->Prop}(d:Dn (mkT xs) ok ex):xs.length<=1000/\ok (.tup xs):=by
 unfold L2.mkT at d
 by_cases h:xs.length<=1000
 ·rw[if_pos h] at d;exact⟨h,d⟩
 ·rw[if_neg h] at d;exact d.elim
theorem Dn.mkL{xs:List PV}{ok:PV->Prop}{ex:PX->Prop}(d:Dn (mkL xs) ok ex):xs.length<=1000/\ok (.lst xs):=by
 unfold L2.mkL at d
 by_cases h:xs.length<=1000
 ·rw[if_pos h] at d;exact⟨h,d⟩
 ·rw[if_neg h] at d;exact d.elim
theorem V1(ha:DAF K EX Γ Γ' ta fa):DE K EX Γ Γ' .F (ZsE ta) (fun ρ=>(fa ρ).bind mkT):=fun B H0 H σ ρ F R Q A d=>by
 refine ha B H0 H σ ρ F R _ A (d.bind.imp (fun xs _ d vs H1 F1 G s1 f1 p1 o1 A1=>?_) fun e q=>q)
 obtain⟨hl,d⟩:=d.mkT
 refine⟨by rw[p1.length];exact Zdg hl,fun p hp=>?_⟩
 have e:ZL H1 (upd H1 p (.tup vs)):=ZL.new hp
 exact d _ _ (s1.trans e) ⟨F1,f1,G,⟨p,vs,rfl,⟨ZX,trivial⟩,p1.same e⟩,o1,A1.grow e⟩
theorem Zy(ha:DAA K EX Γ Γ' ta fa):DE K EX Γ Γ' .A (ZsE ta) (fun ρ=>(fa ρ).bind mkT):=fun B H0 H σ ρ F R Q A d=>by
 refine ha B H0 H σ ρ F R _ A (d.bind.imp (fun xs _ d vs H1 F1 s1 f1 p1 A1=>?_) fun e q=>q)
 obtain⟨hl,d⟩:=d.mkT
 refine⟨by rw[p1.length];exact Zdg hl,fun p hp=>?_⟩
 have e:ZL H1 (upd H1 p (.tup vs)):=ZL.new hp
 exact d _ _ (s1.trans e) ⟨F1,f1,⟨p,vs,rfl,⟨ZX,trivial⟩,p1.same e⟩,A1.grow e⟩
theorem Res.newF{H1:Hp}{F1:Nat->List Addr}{G:List Addr}{xs:List PV}{vs:List V}{p:Addr}(s1:ZL H H1)(f1:∀i,∀a∈F1 i,a∈F i)(p1:Trees K H1 xs vs G)(o1:∀a∈G,a ∉ R/\(H a=none\/∃i,a∈F i))(A1:Ag K B H0 H1 σ Γ' ρ F1 (G++R))(hp:H1 p=none) :
  Res K B H0 H σ Γ' ρ F R .F (.lst xs) (.ref p) (upd H1 p (.lst vs)):=by
 have e:ZL H1 (upd H1 p (.lst vs)):=ZL.new hp
 have hf:=A1.fresh hp
 refine⟨F1,f1,p::G,⟨p,vs,G,rfl,ZX,p1.same e,fun z=>hf.1 (Z3s _ z),rfl⟩,fun a ha=>?_,A1.new hp⟩
 rcases Z3v.mp ha with rfl|z
 ·exact⟨fun z=>hf.1 (Z3o _ z),.inl (s1.free hp)⟩
 ·exact o1 a z
theorem Res.newP{H1:Hp}{F1:Nat->List Addr}{xs:List PV}{vs:List V}{p:Addr}{S:Addr->Prop}(s1:ZL H H1)(f1:∀i,∀a∈F1 i,a∈F i)(p1:Reps K H1 S xs vs)(hx:PV.flats xs=true)(A1:Ag K B H0 H1 σ Γ' ρ F1 R)(hp:H1 p=none) :
  Res K B H0 H σ Γ' ρ F R .F (.lst xs) (.ref p) (upd H1 p (.lst vs)):=Res.newF (G:=[]) s1 f1 (p1.trees hx) (by simp) A1 hp
theorem Res.newT{H1:Hp}{F1:Nat->List Addr}{xs:List PV}{vs:List V}{p:Addr}(s1:ZL H H1)(f1:∀i,∀a∈F1 i,a∈F i)(p1:Reps K H1 (NO B F1 R) xs vs)(A1:Ag K B H0 H1 σ Γ' ρ F1 R)(hp:H1 p=none) :
  Res K B H0 H σ Γ' ρ F R .T (.lst xs) (.ref p) (upd H1 p (.lst vs)):=by
 have e:ZL H1 (upd H1 p (.lst vs)):=ZL.new hp
 have hf:=A1.fresh hp
 refine⟨F1,f1,p,vs,xs,rfl,rfl,ZX, ?_,hf.1,.inl (s1.free hp),A1.new hp⟩
 refine Reps.mono (fun a us s r=>⟨r.same e,s.1,fun z=>?_,s.2.2⟩) (fun a us r=>e.im r) p1
 rcases Z3v.mp z with rfl|z
 ·rcases r with r|⟨o,r⟩<;>(rw[hp] at r;cases r)
 ·exact s.2.1 z
theorem Jh(ha:DAF K EX Γ Γ' ta fa):DE K EX Γ Γ' .F (ZsG ta) (fun ρ=>(fa ρ).bind mkL):=fun B H0 H σ ρ F R Q A d=>by
 refine ha B H0 H σ ρ F R _ A (d.bind.imp (fun xs _ d vs H1 F1 G s1 f1 p1 o1 A1=>?_) fun e q=>q)
 obtain⟨hl,d⟩:=d.mkL
 refine⟨by rw[p1.length];exact Zdg hl,fun p hp=>d _ _ (s1.trans (ZL.new hp)) (Res.newF s1 f1 p1 o1 A1 hp)⟩
theorem Zlx(ha:DAZ K EX Γ Γ' ta fa):DE K EX Γ Γ' .T (ZsG ta) (fun ρ=>(fa ρ).bind mkL):=fun B H0 H σ ρ F R Q A d=>by
 refine ha B H0 H σ ρ F R _ A (d.bind.imp (fun xs _ d vs H1 F1 s1 f1 p1 A1=>?_) fun e q=>q)
 obtain⟨hl,d⟩:=d.mkL
 refine⟨by rw[p1.length];exact Zdg hl,fun p hp=>d _ _ (s1.trans (ZL.new hp)) (Res.newT s1 f1 p1 A1 hp)⟩
noncomputable def pIx(x y:PV):Rr PV:=match x,y with
 |.lst xs,.int i=>match atI xs i with
  |some z=>.ok z
  |none=>.bad
 |.tup xs,.int i=>match atI xs i with
  |some z=>.ok z
  |none=>.bad
 |_,_=>.bad
theorem ZjW{S:Addr->Prop}{xs:List PV}{vs:List V}{i:Int}{z:PV}(h:Reps K H S xs vs)(e:atI xs i=some z):∃u,atI vs i=some u/\Rep K H S z u:=by
 unfold atI at e ⊢
 rw[h.length]
 cases q:ixN xs.length i with
 |none=>rw[q] at e;cases e
 |some j =>
  rw[q] at e
  obtain⟨u,e1,e2⟩:=h.get e
  exact⟨u,e1,e2⟩
theorem ZqG{S:Addr->Prop}{x y z:PV}{v w:V}{Q:VK}(hx:Rep K H S x v)(hy:Rep K H (fun _=>True) y w)(e:pIx x y=.ok z)(q:∀u,Rep K H S z u->Q u H):rIx K v w H Q:=by
 cases x<;>cases y<;>first|(simp only[pIx] at e;cases e;done)|skip
 ·rename_i xs i
  obtain⟨a,vs,rfl,hn,hr⟩:=hx
  cases hy
  simp only[pIx] at e
  cases e1:atI xs i with
  |none=>rw[e1] at e;cases e
  |some z' =>
   rw[e1] at e;cases e
   obtain⟨u,e2,e3⟩:=ZjW hr e1
   exact .inl ⟨a,vs,i,u,rfl,rfl,Ut hn,e2,q u e3⟩
 ·rename_i xs i
  obtain⟨a,vs,rfl,hn,hr⟩:=hx
  cases hy
  simp only[pIx] at e
  cases e1:atI xs i with
  |none=>rw[e1] at e;cases e
  |some z' =>
   rw[e1] at e;cases e
   obtain⟨u,e2,e3⟩:=ZjW hr e1
   exact .inr (.inl ⟨a,vs,i,u,rfl,rfl,hn.sqT,e2,q u e3⟩)
theorem Zkx(x y:PV)(e:PX):pIx x y≠.exc e:=by
 cases x<;>cases y<;>first|(intro h;simp only[pIx] at h;cases h;done)|skip
 all_goals
  intro h
  simp only[pIx] at h
  split at h<;>cases h
theorem Dn.pIx{x y:PV}{ok:PV->Prop}{ex:PX->Prop}(d:Dn (pIx x y) ok ex):∃z,pIx x y=.ok z/\ok z:=by
 cases e:L2.pIx x y with
 |ok z=>rw[e] at d;exact⟨z,rfl,d⟩
 |exc q=>exact absurd e (Zkx x y q)
 |bad=>rw[e] at d;exact d.elim
theorem Jx{te ta':TE}{fa':List PV->Rr PV}(ha:DE K EX Γ Γ1 .A ta' fa')(hb:DE K EX Γ1 Γ2 .A tb fb):DE K EX Γ Γ2 .A (tOp (rIx K) ta' tb) (fun ρ=>(fa' ρ).bind fun x=>(fb ρ).bind fun y=>pIx x y):=fun B H0 H σ ρ F R Q A d=>by
 refine two ha hb A d.bind2 fun x y v w H' F' d s hF p1 p2 A'=>?_
 obtain⟨z,e,d⟩:=d.pIx
 exact ZqG p1 p2 e fun u hu=>d u H' s ⟨F',hF,hu,A'⟩
def CbP(K:W.Frag)(r:List V->Hp->VK->Prop)(o:List PV->Rr PV):Prop:=∀{H:Hp}{xs:List PV}{vs:List V}{Q:VK},Reps K H (fun _=>True) xs vs->∀z,o xs=.ok z->z.flat=true/\((∀u,Rep K H (fun _=>True) z u->Q u H)->r vs H Q)
theorem Zjo{r:List V->Hp->VK->Prop}{o:List PV->Rr PV}(hr:CbP K r o)(hx:∀xs e,o xs≠.exc e)(ha:DAA K EX Γ Γ' ta fa):DE K EX Γ Γ' .P (tCB r ta) (fun ρ=>(fa ρ).bind o):=fun B H0 H σ ρ F R Q A d=>by
 refine ha B H0 H σ ρ F R _ A (d.bind.imp (fun xs _ d vs H1 F1 s1 f1 p1 A1=>?_) fun e q=>q)
 cases e:o xs with
 |ok z =>
  rw[e] at d
  obtain⟨hf,h⟩:=hr (Q:=Q) p1 z e
  exact h fun u hu=>d u H1 s1 ⟨F1,f1,hf,hu,A1⟩
 |exc q=>exact absurd e (hx xs q)
 |bad=>rw[e] at d;exact d.elim
noncomputable def Zg6(xs:List PV):Rr PV:=match xs with
 |[.lst ys]=>.ok (.int ys.length)
 |[.tup ys]=>.ok (.int ys.length)
 |_=>.bad
theorem UB{S:Addr->Prop}{x:PV}{vs:List V}(h:Reps K H S [x] vs):∃v,vs=[v]/\Rep K H S x v:=by
 obtain⟨v,r,rfl,h1,h2⟩:=h
 cases h2
 exact⟨v,rfl,h1⟩
theorem ZsJ{S:Addr->Prop}{x y:PV}{vs:List V}(h:Reps K H S [x,y] vs):∃v w,vs=[v,w]/\Rep K H S x v/\Rep K H S y w:=by
 obtain⟨v,r,rfl,h1,w,r',rfl,h2,h3⟩:=h
 cases h3
 exact⟨v,w,rfl,h1,h2⟩
theorem J1(ha:DAA K EX Γ Γ' ta fa):DE K EX Γ Γ' .P (tCB (fun xs H Q=>∃p ys,xs=[.ref p]/\(SqL K H p ys\/SqT K H p ys)/\Q (.int ys.length) H) ta) (fun ρ=>(fa ρ).bind Zg6):=by
 refine Zjo (fun {H xs vs Q} h z e=>?_) (fun xs e h=>?_) ha
 ·unfold Zg6 at e
  split at e<;>first|(cases e;done)|skip
  all_goals
   cases e
   refine⟨rfl,fun q=>?_⟩
   obtain⟨v,rfl,a,ws,rfl,hn,hr⟩:=UB h
   refine⟨a,ws,rfl, ?_,by rw[hr.length];exact q _ rfl⟩
   first|exact .inl (Ut (S:=fun _=>True) hn)|exact .inr hn.sqT
 ·unfold Zg6 at h;split at h<;>cases h
noncomputable def ZcE:List PV->Option (List Int)
 |[]=>some []
 |.int i::xs=>(ZcE xs).map (i::·)
 |_::_=>none
@[simp] theorem Zqj(ns:List Int):ZcE (ns.map PV.int)=some ns:=by
 induction ns with
 |nil=>rfl
 |cons n ns ih=>simp[ZcE,ih]
theorem ZfM:∀{xs:List PV}{ns:List Int},ZcE xs=some ns->xs=ns.map PV.int
 |[],_,h=>by cases h;rfl
 |.int i::xs,ns,h=>by
  simp only[ZcE] at h
  cases e:ZcE xs with
  |none=>rw[e] at h;cases h
  |some ms=>rw[e] at h;cases h;rw[ZfM e];rfl
 |.non::_,_,h=>by cases h
 |.bl _::_,_,h=>by cases h
 |.str _::_,_,h=>by cases h
 |.exc _::_,_,h=>by cases h
 |.exa _ _::_,_,h=>by cases h
 |.box _ _ _::_,_,h=>by cases h
 |.fz _::_,_,h=>by cases h
 |.lst _::_,_,h=>by cases h
 |.tup _::_,_,h=>by cases h
theorem Zfr{S:Addr->Prop}:∀{ns:List Int}{vs:List V},Reps K H S (ns.map PV.int) vs->vs=ns.map V.int
 |[],_,h=>h
 |n::ns,_,h=>by
  obtain⟨v,r,rfl,h1,h2⟩:=h
  cases h1
  rw[Zfr h2];rfl
theorem ZfL{S:Addr->Prop}:∀(ns:List Int),Reps K H S (ns.map PV.int) (ns.map V.int)
 |[]=>rfl
 |n::ns=>⟨_,_,rfl,rfl,ZfL ns⟩
theorem Zmn{S:Addr->Prop}{ns:List Int}{v:V}(h:Rep K H S (.lst (ns.map PV.int)) v):∃a,v=.ref a/\SqL K H a (ns.map V.int):=by
 obtain⟨a,vs,rfl,hn,hr⟩:=h
 rw[Zfr hr] at hn
 exact⟨a,rfl,Ut hn⟩
noncomputable def ZiH(g:List Int->Rr PV)(xs:List PV):Rr PV:=match xs with
 |[.lst ys]=>match ZcE ys with
  |some ns=>g ns
  |none=>.bad
 |_=>.bad
theorem Rr.ints{g:List Int->Rr PV}{xs:List PV}{z:PV}(e:ZiH g xs=.ok z):∃ns,xs=[.lst (ns.map PV.int)]/\g ns=.ok z:=by
 unfold ZiH at e
 split at e
 ·split at e
  ·rename_i ns h
   exact⟨ns,by rw[ZfM h],e⟩
  ·cases e
 ·cases e
theorem Zg8{g:List Int->Rr PV}(hg:∀ns e,g ns≠.exc e)(xs:List PV)(e:PX):ZiH g xs≠.exc e:=by
 intro h
 unfold ZiH at h
 split at h
 ·split at h
  ·exact hg _ _ h
  ·cases h
 ·cases h
noncomputable abbrev ZsU:=ZiH fun ns=>.ok (.int ns.sum)
theorem ZcG(ha:DAA K EX Γ Γ' ta fa):DE K EX Γ Γ' .P (tCB (fun xs H Q=>∃p,∃ns:List Int,xs=[.ref p]/\SqL K H p (ns.map V.int)/\Q (.int ns.sum) H) ta) (fun ρ=>(fa ρ).bind ZsU):=by
 refine Zjo (fun {H xs vs Q} h z e=>?_) (Zg8 fun ns e h=>by cases h) ha
 obtain⟨ns,rfl,e'⟩:=Rr.ints e
 cases e'
 obtain⟨v,rfl,h1⟩:=UB h
 obtain⟨a,rfl,h2⟩:=Zmn h1
 exact⟨rfl,fun q=>⟨a,ns,rfl,h2,q _ rfl⟩⟩
noncomputable def ZeV:List PV->Option (List Bool)
 |[]=>some []
 |.bl i::xs=>(ZeV xs).map (i::·)
 |_::_=>none
@[simp] theorem Zga(ns:List Bool):ZeV (ns.map PV.bl)=some ns:=by
 induction ns with
 |nil=>rfl
 |cons n ns ih=>simp[ZeV,ih]
theorem Ziy:∀{xs:List PV}{ns:List Bool},ZeV xs=some ns->xs=ns.map PV.bl
 |[],_,h=>by cases h;rfl
 |.bl i::xs,ns,h=>by
  simp only[ZeV] at h
  cases e:ZeV xs with
  |none=>rw[e] at h;cases h
  |some ms=>rw[e] at h;cases h;rw[Ziy e];rfl
 |.non::_,_,h=>by cases h
 |.int _::_,_,h=>by cases h
 |.str _::_,_,h=>by cases h
 |.exc _::_,_,h=>by cases h
 |.exa _ _::_,_,h=>by cases h
 |.box _ _ _::_,_,h=>by cases h
 |.fz _::_,_,h=>by cases h
 |.lst _::_,_,h=>by cases h
 |.tup _::_,_,h=>by cases h
theorem ZhB{S:Addr->Prop}:∀{ns:List Bool}{vs:List V},Reps K H S (ns.map PV.bl) vs->vs=ns.map V.bl
 |[],_,h=>h
 |n::ns,_,h=>by
  obtain⟨v,r,rfl,h1,h2⟩:=h
  cases h1
  rw[ZhB h2];rfl
noncomputable def Zrd(xs:List PV):Rr PV:=match xs with
 |[.lst ys]=>match ZeV ys with
  |some bs=>.ok (.bl (bs.all id))
  |none=>.bad
 |_=>.bad
theorem ZfV(ha:DAA K EX Γ Γ' ta fa):DE K EX Γ Γ' .P (tCB (fun xs H Q=>∃p,∃bs:List Bool,xs=[.ref p]/\SqL K H p (bs.map V.bl)/\Q (.bl (bs.all id)) H) ta) (fun ρ=>(fa ρ).bind Zrd):=by
 refine Zjo (fun {H xs vs Q} h z e=>?_) (fun xs e h=>?_) ha
 ·unfold Zrd at e
  split at e
  ·split at e
   ·rename_i bs hb
    cases e
    rw[Ziy hb] at h
    obtain⟨v,rfl,a,ws,rfl,hn,hr⟩:=UB h
    rw[ZhB hr] at hn
    exact⟨rfl,fun q=>⟨a,bs,rfl,Ut (S:=fun _=>True) hn,q _ rfl⟩⟩
   ·cases e
  ·cases e
 ·unfold Zrd at h
  split at h
  ·split at h<;>cases h
  ·cases h
noncomputable def Zte(xs:List PV):Rr PV:=match xs with
 |[.int i]=>.ok (.int (if i<0 then -i else i))
 |_=>.bad
theorem ZrN(ha:DAA K EX Γ Γ' ta fa):DE K EX Γ Γ' .P (tCB (fun xs H Q=>∃i,xs=[.int i]/\Q (.int (if i<0 then -i else i)) H) ta) (fun ρ=>(fa ρ).bind Zte):=by
 refine Zjo (fun {H xs vs Q} h z e=>?_) (fun xs e h=>?_) ha
 ·unfold Zte at e
  split at e<;>first|(cases e;done)|skip
  cases e
  obtain⟨v,rfl,h1⟩:=UB h
  cases h1
  exact⟨rfl,fun q=>⟨_,rfl,q _ rfl⟩⟩
 ·unfold Zte at h;split at h<;>cases h
end
theorem ZaG{n:Nat}(h:n<=1000000):n<=sizeLine:=Z33 h (by decide)
def LX(K:W.Frag)(H:Hp)(a:Addr)(vs:List V):Prop:=Rd H a (.lst vs)\/KL K a vs
noncomputable def ZqM(K:W.Frag):R2:=fun x y H Q=>∃l b xs zs,x=.ref l/\y=.ref b/\LX K H l xs/\LX K H b zs/\xs.length+zs.length<=sizeLine/\∀p,H p=none->Q (.ref p) (upd H p (.lst (xs++zs)))
section
variable {X:Cx}{K:W.Frag}
theorem Zrl{H:Hp}{S:Addr->Prop}{a:Addr}{vs:List V}(h:(Rd H a (.lst vs)/\S a)\/KL K a vs):LX K H a vs:=h.elim (fun z=>.inl z.1) .inr
theorem JU(e:X.K=K:=by rfl):OpR X (binaryOp .Add) (ZqM K):=by
 subst e
 intro pins s σ H x y v u Q I rx ry h
 obtain⟨l,b,xs,zs,rfl,rfl,hH,hB,hz,q⟩:=h
 cases rx
 cases ry
 obtain⟨its,r,pl,_⟩:=I.list (show SqL X.K H l xs from hH)
 obtain⟨its2,r2,pl2,_⟩:=I.list (show SqL X.K H b zs from hB)
 have hl:=r.length
 have hl2:=r2.length
 obtain⟨⟨cls,dd,data,sl⟩,ho,hc,n,hd⟩:=pl.isList
 obtain⟨⟨cls2,dd2,data2,sl2⟩,ho2,hc2,n2,hd2⟩:=pl2.isList
 simp only at hc hd hc2 hd2
 subst hc hd hc2 hd2
 have ea:its.toArray++its2.toArray=(its++its2).toArray:=by simp
 refine concat_meets ⟨_,ho,rfl⟩ ⟨_,ho2,rfl⟩ noFill_list_add seq_list_add PySem.F.slot_list_add PySem.F.entry_list_add (PySem.F.args_list_add_2 _ _) (list_addW l b its.toArray its2.toArray n n2 dd dd2 sl sl2 (by rw[Z32,Z32];omega)) ⟨ho,ho2, ?_⟩
 rw[ea]
 exact⟨.ref _,_,I.lnew (t':=s.toks) (r.append r2) (by rw[Z3y];omega),rfl,q _ I.fresh⟩
end
def Frm(H:Hp)(F:Nat->List Addr)(H':Hp)(F':Nat->List Addr):Prop:=∀a o,H a=some o->(∀i,a ∉ F i)->H' a=some o/\∀i,a ∉ F' i
theorem Frm.refl{H:Hp}{F:Nat->List Addr}:Frm H F H F:=fun a o h n=>⟨h,n⟩
theorem Frm.trans{H H1 H2:Hp}{F F1 F2:Nat->List Addr}(h1:Frm H F H1 F1)(h2:Frm H1 F1 H2 F2):Frm H F H2 F2:=fun a o h n=>let ⟨h3,n3⟩:=h1 a o h n;h2 a o h3 n3
theorem Frm.of{H H':Hp}{F F':Nat->List Addr}(s:ZL H H')(f:∀i,∀a∈F' i,a∈F i):Frm H F H' F':=fun a o h n=>⟨s a o h,fun i z=>n i (f i a z)⟩
def ItP(K:W.Frag)(S:Addr->Prop)(J:It)(xs:List PV)(H:Hp):Prop:=
 ∀i,(∀x,xs[i]?=some x->J.go i H/\∀v H',J.yld i H v H'->ZL H H'/\Rep K H' S x v)/\(xs[i]?=none->J.stop i H)
def DI(K:W.Frag)(EX:PX->Hp->Prop)(Γ Γ':List Md)(wi:TI)(f:List PV->Rr (List PV)):Prop:=
 ∀(B:Addr->Prop) (H0 H:Hp) (σ:St) (ρ:List PV) (F:Nat->List Addr) (R:List Addr) (Q:It->Hp->Prop),Ag K B H0 H σ Γ ρ F R ->
  Dn (f ρ) (fun xs=>∀J H' F',ZL H H'->(∀i,∀a∈F' i,a∈F i)->Ag K B H0 H' σ Γ' ρ F' R->(∀H2 F2,Frm H' F' H2 F2->ItP K (fun a=>NO B F2 R a/\H' a≠none/\∀i,a ∉ F' i) J xs H2)->Q J H') (fun e=>∀H',ZL H0 H'->EX e H')->wi σ H Q
def DIc(K:W.Frag)(EX:PX->Hp->Prop)(Γ Γ':List Md)(wi:TI)(f:List PV->Rr (List PV)):Prop:=
 ∀(B:Addr->Prop) (H0 H:Hp) (σ:St) (ρ:List PV) (F:Nat->List Addr) (R:List Addr) (Q:It->Hp->Prop),Ag K B H0 H σ Γ ρ F R ->
  Dn (f ρ) (fun xs=>∀J H' F',ZL H H'->(∀i,∀a∈F' i,a∈F i)->Ag K B H0 H' σ Γ' ρ F' R->(∀H2 F2,ZL H' H2->(∀i,∀a∈F2 i,a∈F' i)->ItP K (fun a=>NO B F2 R a/\H' a≠none/\∀i,a ∉ F' i) J xs H2)->Q J H') (fun e=>∀H',ZL H0 H'->EX e H')->wi σ H Q
theorem DI.c{K:W.Frag}{EX:PX->Hp->Prop}{Γ Γ':List Md}{wi:TI}{f:List PV->Rr (List PV)}(h:DI K EX Γ Γ' wi f):DIc K EX Γ Γ' wi f:=fun B H0 H σ ρ F R Q A d =>
 h B H0 H σ ρ F R Q A (d.imp (fun xs _ d J H' F' s1 f1 A1 it=>d J H' F' s1 f1 A1 fun H2 F2 s2 f2=>it H2 F2 (Frm.of s2 f2)) fun e q=>q)
theorem ItP.flat{K:W.Frag}{S S':Addr->Prop}{J:It}{xs:List PV}{H:Hp}(f:PV.flats xs=true)(h:ItP K S J xs H):ItP K S' J xs H:=fun i=>by
 refine⟨fun x hx=>?_,(h i).2⟩
 obtain⟨h1,h2⟩:=(h i).1 x hx
 have fx:∀(xs:List PV) (i:Nat),PV.flats xs=true->xs[i]?=some x->x.flat=true:=by
  intro xs
  induction xs with
  |nil=>intro i _ h;simp at h
  |cons y ys ih =>
   intro i hf hx
   simp only[PV.flats,Bool.and_eq_true] at hf
   cases i with
   |zero=>simp at hx;rw[<- hx];exact hf.1
   |succ i=>exact ih i hf.2 (by simpa using hx)
 exact⟨h1,fun v H' y=>⟨(h2 v H' y).1,(h2 v H' y).2.flatS (fx xs i f hx)⟩⟩
section
variable {K:W.Frag}{B:Addr->Prop}{EX:PX->Hp->Prop}{H0 H H':Hp}{σ:St}{Γ Γ' Γ1 Γ2 Γ3:List Md}{ρ:List PV}{F F':Nat->List Addr}{R:List Addr}{k:Kd}{x:PV}{v:V}{te:TE}{ta:TA}{f:List PV->Rr PV}{fa:List PV->Rr (List PV)}
theorem Rep.frm{F2:Nat->List Addr}{H2:Hp}(h:Frm H F H2 F2)(A:Ag K B H0 H σ Γ ρ F R)(r:Rep K H (NO B F R) x v):Rep K H2 (fun a=>NO B F2 R a/\H a≠none/\∀i,a ∉ F i) x v:=by
 refine Rep.mono (fun a us s r=>?_) (fun a us r=>?_) r
 ·rcases r with r|⟨o,r⟩
  ·obtain⟨h1,h2⟩:=h a _ r s.2.2;exact⟨.inl h1,⟨s.1,s.2.1,h2⟩,by rw[r];simp,s.2.2⟩
  ·obtain⟨h1,h2⟩:=h a _ r s.2.2;exact⟨.inr ⟨o,h1⟩,⟨s.1,s.2.1,h2⟩,by rw[r];simp,s.2.2⟩
 ·refine⟨(h a _ r.1 fun i z=>?_).1,r.2⟩
  obtain⟨vs,q⟩:=A.live i a z
  exact ZeE vs.2 r.2 (by rw[r.1] at q;exact Option.some.inj q)
noncomputable def Ze0(lo:Int)(n:Nat):List PV:=(List.range n).map fun(k:Nat)=>PV.int (lo+(k:Int))
theorem ZkV{lo:Int}{n:Nat}{S:Addr->Prop}:ItP K S (Itr lo n) (Ze0 lo n) H:=by
 intro i
 constructor
 ·intro x hx
  unfold Ze0 at hx
  rw[Z3A] at hx
  by_cases h:i<n
  ·rw[Z3U h] at hx
   cases hx
   exact⟨h,fun v H' ⟨e1,e2⟩=>by subst e1 e2;exact⟨ZL.refl _,rfl⟩⟩
  ·rw[Z30 (by simpa using h)] at hx;cases hx
 ·intro hx
  unfold Ze0 at hx
  have:=Z3N.mp hx
  show n<=i
  simpa using this
noncomputable def okR(j:Int):Bool:=decide (-(2^62)<=j/\j<2^62)
noncomputable def Zm0(xs:List PV):Rr (List PV):=match xs with
 |[.int j]=>if okR j=true then .ok (Ze0 0 j.toNat) else .bad
 |_=>.bad
noncomputable def Zmy(xs:List PV):Rr (List PV):=match xs with
 |[.int i,.int j]=>if (okR i&&okR j)=true then .ok (Ze0 i (j-i).toNat) else .bad
 |_=>.bad
theorem ZeM(ha:DAA K EX Γ Γ' ta fa):DI K EX Γ Γ' (Zr3 ta) (fun ρ=>(fa ρ).bind Zm0):=fun B H0 H σ ρ F R Q A d=>by
 refine ha B H0 H σ ρ F R _ A (d.bind.imp (fun xs _ d vs H1 F1 s1 f1 p1 A1=>?_) fun e q=>q)
 unfold Zm0 at d
 split at d
 ·rename_i j _
  obtain⟨v,rfl,h1⟩:=UB p1
  cases h1
  by_cases h:okR j=true
  ·rw[if_pos h] at d
   have h':=of_decide_eq_true h
   exact⟨j,rfl,h'.1,h'.2,d _ H1 F1 s1 f1 A1 fun H2 F2 _=>ZkV⟩
  ·rw[if_neg h] at d;exact d.elim
 ·exact d.elim
theorem ZpA(ha:DAA K EX Γ Γ' ta fa):DI K EX Γ Γ' (Zr2 ta) (fun ρ=>(fa ρ).bind Zmy):=fun B H0 H σ ρ F R Q A d=>by
 refine ha B H0 H σ ρ F R _ A (d.bind.imp (fun xs _ d vs H1 F1 s1 f1 p1 A1=>?_) fun e q=>q)
 unfold Zmy at d
 split at d
 ·rename_i i j _
  obtain⟨v,w,rfl,h1,h2⟩:=ZsJ p1
  cases h1;cases h2
  by_cases h:(okR i&&okR j)=true
  ·rw[if_pos h] at d
   rw[Bool.and_eq_true] at h
   have h':=of_decide_eq_true h.1
   have h'':=of_decide_eq_true h.2
   exact⟨i,j,rfl,⟨h'.1,h'.2,h''.1,h''.2⟩,d _ H1 F1 s1 f1 A1 fun H2 F2 _=>ZkV⟩
  ·rw[if_neg h] at d;exact d.elim
 ·exact d.elim
noncomputable def asL(x:PV):Rr (List PV):=match x with
 |.lst xs=>.ok xs
 |_=>.bad
theorem ZkW{a:Addr}{xs:List PV}{S:Addr->Prop}(h:Rep K H S (.lst xs) (.ref a)):ItP K S (Itl K a) xs H:=by
 obtain⟨a',vs,e,hn,hr⟩:=h
 cases e
 intro i
 constructor
 ·intro x hx
  obtain⟨u,e1,e2⟩:=hr.get hx
  refine⟨⟨vs,u,Ut hn,e1⟩,fun v H' ⟨e,y⟩=>?_⟩
  subst e
  have:=y vs (Ut hn)
  rw[e1] at this;cases this
  exact⟨ZL.refl _,e2⟩
 ·intro hx
  exact⟨vs,Ut hn,by rw[hr.length];exact Z3N.mp hx⟩
theorem ZeN(he:DE K EX Γ Γ' .Z te f):DI K EX Γ Γ' (ZmU K te) (fun ρ=>(f ρ).bind asL):=fun B H0 H σ ρ F R Q A d=>by
 refine he B H0 H σ ρ F R _ A (d.bind.imp (fun x _ d v H1 s1 r1=>?_) fun e q=>q)
 obtain⟨F1,f1,p1,A1⟩:=r1
 cases x with
 |lst xs =>
  obtain⟨a,vs,rfl,hn,hr⟩:=id p1
  exact⟨a,rfl,⟨vs,Ut hn⟩,d _ H1 F1 s1 f1 A1 fun H2 F2 h=>ZkW (p1.frm h A1)⟩
 |_=>exact d.elim
noncomputable def Zqo(x:PV):Rr (List PV):=match x with
 |.lst xs=>if PV.flats xs=true then .ok xs else .bad
 |_=>.bad
theorem Zim(he:DE K EX Γ Γ' .A te f):DIc K EX Γ Γ' (ZmU K te) (fun ρ=>(f ρ).bind Zqo):=fun B H0 H σ ρ F R Q A d=>by
 refine he B H0 H σ ρ F R _ A (d.bind.imp (fun x _ d v H1 s1 r1=>?_) fun e q=>q)
 obtain⟨F1,f1,p1,A1⟩:=r1
 cases x with
 |lst xs =>
  unfold Zqo at d
  by_cases hf:PV.flats xs=true
  ·simp only[hf,if_true] at d
   obtain⟨a,vs,rfl,hn,hr⟩:=id p1
   exact⟨a,rfl,⟨vs,Ut (S:=fun _=>True) hn⟩,d _ H1 F1 s1 f1 A1 fun H2 F2 s2 _=>ItP.flat hf (ZkW (p1.same s2))⟩
  ·simp only[hf] at d;exact d.elim
 |_=>exact d.elim
theorem Zb6:∀{ns:List Int},PV.flats (ns.map PV.int)=true
 |[]=>rfl
 |n::ns=>by simp only[Z31,PV.flats,PV.flat,Zb6,Bool.and_self]
theorem Zn0{ns:List Int}:Zqo (.lst (ns.map PV.int))=.ok (ns.map PV.int):=by unfold Zqo;simp only[Zb6,if_true]
def DO(K:W.Frag)(EX:PX->Hp->Prop)(Γ Γ':List Md)(t:TO)(f:List PV->Rr (Option Int)):Prop:=
 ∀(B:Addr->Prop) (H0 H:Hp) (σ:St) (ρ:List PV) (F:Nat->List Addr) (R:List Addr) (Q:Option Int->Hp->Prop),Ag K B H0 H σ Γ ρ F R ->
  Dn (f ρ) (fun o=>∀H' F',ZL H H'->(∀i,∀a∈F' i,a∈F i)->Ag K B H0 H' σ Γ' ρ F' R->Q o H') (fun e=>∀H',ZL H0 H'->EX e H')->t σ H Q
theorem ZcA:DO K EX Γ Γ ZjJ (fun _=>.ok none):=fun B H0 H σ ρ F R Q A d=>d H F (ZL.refl H) (fun _ _ h=>h) A
noncomputable def asI(x:PV):Rr Int:=match x with
 |.int i=>.ok i
 |_=>.bad
theorem Dn.asI{x:PV}{ok:Int->Prop}{ex:PX->Prop}(d:Dn (asI x) ok ex):∃b,x=.int b/\ok b:=by
 cases x with
 |int b=>exact⟨b,rfl,d⟩
 |_=>exact d.elim
theorem Zc9(he:DE K EX Γ Γ' .A te f):DO K EX Γ Γ' (Zq6 te) (fun ρ=>(f ρ).bind fun x=>(asI x).bind fun i=>.ok (some i)):=fun B H0 H σ ρ F R Q A d=>by
 refine he B H0 H σ ρ F R _ A (d.bind.imp (fun x _ d v H1 s1 r1=>?_) fun e q=>q)
 obtain⟨i,rfl,d⟩:=d.bind.asI
 obtain⟨F1,f1,p1,A1⟩:=r1
 cases p1
 exact⟨i,rfl,d H1 F1 s1 f1 A1⟩
noncomputable def ZlU{α:Type}(xs:List α)(lo hi:Option Int):List α:=(xs.drop (HT.sIx xs.length 0 lo)).take (HT.sIx xs.length xs.length hi-HT.sIx xs.length 0 lo)
theorem Reps.cut{S:Addr->Prop}{xs:List PV}{vs:List V}(h:Reps K H S xs vs)(lo hi:Option Int):Reps K H S (ZlU xs lo hi) (Zqn vs lo hi):=by
 unfold ZlU Zqn
 rw[h.length]
 exact(h.drop _).take _
noncomputable def newF(xs:List PV):Rr PV:=if (PV.flats xs&&decide (xs.length<=1000000))=true then .ok (.lst xs) else .bad
theorem Dn.newF{xs:List PV}{ok:PV->Prop}{ex:PX->Prop}(d:Dn (newF xs) ok ex):PV.flats xs=true/\xs.length<=1000000/\ok (.lst xs):=by
 unfold L2.newF at d
 by_cases h:(PV.flats xs&&decide (xs.length<=1000000))=true
 ·rw[if_pos h] at d
  rw[Bool.and_eq_true] at h
  exact⟨h.1,of_decide_eq_true h.2,d⟩
 ·rw[if_neg h] at d;exact d.elim
theorem ZfT{tl th:TO}{fl fh:List PV->Rr (Option Int)}(he:DE K EX Γ Γ1 .A te f)(hl:DO K EX Γ1 Γ2 tl fl)(hh:DO K EX Γ2 Γ3 th fh) :
  DE K EX Γ Γ3 .F (tSl (ZsK K) te tl th) (fun ρ=>(f ρ).bind fun x=>(fl ρ).bind fun lo=>(fh ρ).bind fun hi=>(asL x).bind fun xs=>newF (ZlU xs lo hi)):=fun B H0 H σ ρ F R Q A d=>by
 refine he B H0 H σ ρ F R _ A (d.bind.imp (fun x _ d v H1 s1 r1=>?_) fun e q=>q)
 obtain⟨F1,f1,p1,A1⟩:=r1
 refine hl B H0 H1 σ ρ F1 R _ A1 (d.bind.imp (fun lo _ d H2 F2 s2 f2 A2=>?_) fun e q=>q)
 refine hh B H0 H2 σ ρ F2 R _ A2 (d.bind.imp (fun hi _ d H3 F3 s3 f3 A3=>?_) fun e q=>q)
 cases x with
 |lst xs =>
  obtain⟨h1,h2,d⟩:=Dn.newF d
  obtain⟨a,vs,rfl,hn,hr⟩:=(p1.same s2).same s3
  refine⟨a,vs,rfl,Ut (S:=fun _=>True) hn,fun p hp=>?_⟩
  exact d _ _ (((s1.trans s2).trans s3).trans (ZL.new hp)) (Res.newP ((s1.trans s2).trans s3) (fun i a h=>f1 i a (f2 i a (f3 i a h))) (hr.cut lo hi) h1 A3 hp)
 |_=>exact d.elim
theorem JV{tb':TE}{fb':List PV->Rr PV}(ha:DE K EX Γ Γ1 .A te f)(hb:DE K EX Γ1 Γ2 .A tb' fb') :
  DE K EX Γ Γ2 .F (tOp (ZqM K) te tb') (fun ρ=>(f ρ).bind fun x=>(fb' ρ).bind fun y=>(asL x).bind fun xs=>(asL y).bind fun ys=>newF (xs++ys)):=fun B H0 H σ ρ F R Q A d=>by
 refine two ha hb A d.bind2 fun x y v w H' F' d s hF p1 p2 A'=>?_
 cases x with
 |lst xs =>
  cases y with
  |lst ys =>
   obtain⟨h1,h2,d⟩:=Dn.newF d
   obtain⟨a,vs,rfl,hn,hr⟩:=p1
   obtain⟨b,ws,rfl,hn',hr'⟩:=p2
   refine⟨a,b,vs,ws,rfl,rfl,Zrl (S:=fun _=>True) hn,Zrl (S:=fun _=>True) hn', ?_,fun p hp=>?_⟩
   ·rw[hr.length,hr'.length,<- Z3y];exact ZaG h2
   ·exact d _ _ (s.trans (ZL.new hp)) (Res.newP s hF (hr.append hr') h1 A' hp)
  |_=>exact d.elim
 |_=>exact d.elim
noncomputable def ZsW(xs:List PV)(y:PV):Rr PV:=match y with
 |.int k=>if xs.length*k.toNat<=1000000/\-(2^63)<=k/\k<2^63 then newF (List.replicate k.toNat xs).flatten else .bad
 |_=>.bad
theorem Reps.rep{S:Addr->Prop}{xs:List PV}{vs:List V}(h:Reps K H S xs vs):∀n:Nat,Reps K H S (List.replicate n xs).flatten (List.replicate n vs).flatten
 |0=>rfl
 |n+1=>by
  rw[Z3Q,Z3Q,Z4r,Z4r]
  exact h.append (Reps.rep h n)
noncomputable def Zm4(xs:List PV):Rr PV:=match xs with
 |[.lst ys]=>newF ys
 |[.tup ys]=>newF ys
 |_=>.bad
theorem Zdn(ha:DAA K EX Γ Γ' ta fa):DE K EX Γ Γ' .F (tCB (fun xs H Q=>∃p ys,xs=[.ref p]/\(SqL K H p ys\/SqT K H p ys)/\∀l,H l=none->Q (.ref l) (upd H l (.lst ys))) ta) (fun ρ=>(fa ρ).bind Zm4):=fun B H0 H σ ρ F R Q A d=>by
 refine ha B H0 H σ ρ F R _ A (d.bind.imp (fun xs _ d vs H1 F1 s1 f1 p1 A1=>?_) fun e q=>q)
 unfold Zm4 at d
 split at d
 ·obtain⟨h1,h2,d⟩:=Dn.newF d
  obtain⟨v,rfl,a,ws,rfl,hn,hr⟩:=UB p1
  exact⟨a,ws,rfl,.inl (Ut (S:=fun _=>True) hn),fun l hl=>d _ _ (s1.trans (ZL.new hl)) (Res.newP s1 f1 hr h1 A1 hl)⟩
 ·obtain⟨h1,h2,d⟩:=Dn.newF d
  obtain⟨v,rfl,a,ws,rfl,hn,hr⟩:=UB p1
  exact⟨a,ws,rfl,.inr hn.sqT,fun l hl=>d _ _ (s1.trans (ZL.new hl)) (Res.newP s1 f1 hr h1 A1 hl)⟩
 ·exact d.elim
noncomputable def Vx:PV->String
 |.non => "NoneType"
 |.bl _ => "bool"
 |.int _ => "int"
 |.str _ => "str"
 |.lst _ => "list"
 |.tup _ => "tuple"
 |.exc _ => "?"
 |.exa _ _ => "?"
 |.box _ (.dk _) _ => "dict"
 |.box _ (.dt _) _ => "dict"
 |.box _ (.ob _ _) _ => "?"
 |.box _ .jk _ => "?"
 |.box _ .ls _ => "?"
 |.fz _ => "?"
noncomputable def PV.isX:PV->Bool
 |.exc _=>true
 |.exa _ _=>true
 |.box _ _ _=>true
 |.fz _=>true
 |_=>false
noncomputable def Zb3(t n:String):Bool:=t==n || (t == "bool" && n == "int")
noncomputable def ZsC(n:String):Bool:=n == "int" || n == "bool" || n == "str" || n == "list" || n == "tuple"
theorem Zrr(K:W.Frag){n:String}(h:ZsC n=true)(x:PV)(hx:x.isX=false):PySem.W.kitOne K (.type (Vx x)) (.type n)=some (Zb3 (Vx x) n):=by
 simp only[ZsC,Bool.or_eq_true,beq_iff_eq] at h
 rcases h with (((rfl|rfl)|rfl)|rfl)|rfl<;>cases x<;>first|rfl|cases hx
def Zui(K:W.Frag)(n:String):List V->Hp->VK->Prop:=fun xs H Q=>∃x p,xs=[x,.ty n]/\Rep K H (fun _=>True) p x/\p.isX=false/\Q (.bl (Zb3 (Vx p) n)) H
theorem Vb{X:Cx}{n:String}(hn:ZsC n=true)(e:X.K=K:=by rfl):Vu X (.builtin "isinstance") (Zui K n):=by
 subst e
 intro pins s σ H xs us Q I r h
 obtain⟨x,p,rfl,hp,hx,q⟩:=h
 obtain⟨u,w',rfl,rx,rn⟩:=ZsB r
 cases rn
 have e:=Zrr X.K hn p hx
 have fin:∀tk,EP X pins σ Q (.bool (Zb3 (Vx p) n)) { s with toks:=tk }:=fun tk=>⟨.bl _,H,I.tok _,rfl,q⟩
 cases p with
 |non=>cases hp;cases rx;exact PySem.W.kia_one PySem.W.kitx_none I.kIn True.intro e (fun z=>nomatch z) fin
 |bl y=>cases hp;cases rx;exact PySem.W.kia_one PySem.W.kitx_bool I.kIn True.intro e (fun z=>nomatch z) fin
 |int i=>cases hp;obtain⟨t,rfl⟩:=rx;exact PySem.W.kia_one PySem.W.kitx_int I.kIn True.intro e (fun z=>nomatch z) fin
 |str y=>cases hp;obtain⟨t,rfl⟩:=rx;exact PySem.W.kia_one PySem.W.kitx_str I.kIn True.intro e (fun z=>nomatch z) fin
 |exc y=>cases hx
 |exa y i=>cases hx
 |box p s ps=>cases hx
 |fz ps=>cases hx
 |lst ps =>
  obtain⟨a,vs,rfl,hn',hr⟩:=hp
  cases rx
  obtain⟨its,_,pl,_⟩:=I.list (Ut (S:=fun _=>True) hn')
  obtain⟨o,h1,h2,_⟩:=pl.isList
  exact PySem.W.kia_one PySem.W.kitx_list I.kIn ⟨o,h1,h2⟩ e (fun z=>nomatch z) fin
 |tup ps =>
  obtain⟨a,vs,rfl,hn',hr⟩:=hp
  cases rx
  obtain⟨its,_,⟨o,h1,h2,_⟩,_⟩:=I.tuple hn'.sqT
  exact PySem.W.kia_one PySem.W.kitx_tuple I.kIn ⟨o,h1,h2⟩ e (fun z=>nomatch z) fin
noncomputable def Zm6(n:String)(x:PV):Rr PV:=if x.isX=true then .bad else .ok (.bl (Zb3 (Vx x) n))
theorem Zb8{n:String}(he:DE K EX Γ Γ' .A te f):DE K EX Γ Γ' .P (tCB (Zui K n) (Zds te (Zds (tC (.ty n)) Zj3))) (fun ρ=>(f ρ).bind (Zm6 n)):=fun B H0 H σ ρ F R Q A d=>by
 refine he B H0 H σ ρ F R _ A (d.bind.imp (fun x _ d v H1 s1 r1=>?_) fun e q=>q)
 obtain⟨F1,f1,p1,A1⟩:=r1
 unfold Zm6 at d
 cases hx:x.isX with
 |true=>rw[hx] at d;exact d.elim
 |false=>rw[hx] at d;exact⟨v,x,rfl,p1,hx,d _ H1 s1 ⟨F1,f1,rfl,rfl,A1⟩⟩
def Len(fa:List PV->Rr (List PV))(n:Nat):Prop:=∀ρ xs,fa ρ=.ok xs->xs.length=n
theorem Zn:Len (fun _=>.ok []) 0:=fun ρ xs h=>by cases h;rfl
theorem Zf{f:List PV->Rr PV}{fa:List PV->Rr (List PV)}{n:Nat}(h:Len fa n):Len (fun ρ=>(f ρ).bind fun x=>(fa ρ).bind fun xs=>.ok (x::xs)) (n+1):=fun ρ xs e=>by
 dsimp only at e
 cases h1:f ρ with
 |ok x =>
  rw[h1] at e
  cases h2:fa ρ with
  |ok ys=>simp only[Rr.bind_ok,h2] at e;cases e;simp[h ρ ys h2]
  |exc q=>simp only[Rr.bind_ok,h2,Rr.bind_exc] at e;cases e
  |bad=>simp only[Rr.bind_ok,h2,Rr.bind_bad] at e;cases e
 |exc q=>rw[h1] at e;cases e
 |bad=>rw[h1] at e;cases e
def ZtF(K:W.Frag)(H:Hp)(a:Addr)(xs:List PV):Prop:=PV.flats xs=true/\∃vs,H a=some (.lst vs)/\Reps K H (fun _=>True) xs vs
def LsR(K:W.Frag)(H:Hp)(x:PV)(v:V)(H':Hp):Prop:=∃y a0 x0 a1 x1 a2 x2,x=.tup [y,.box (some a0) .ls x0,.box (some a1) .ls x1,.box (some a2) .ls x2]/\y.flat=true/\Rep K H' (fun _=>True) y v /\
 ZtF K H' a0 x0/\ZtF K H' a1 x1/\ZtF K H' a2 x2/\H a0=none/\H a1=none/\H a2=none
def Zo7(K:W.Frag)(B:Addr->Prop)(H:Hp)(k:Kd)(x:PV)(v:V)(H':Hp):Prop:=match k with
 |.P=>x.flat=true/\Rep K H' (fun _=>True) x v
 |.F=>∃G,Vd K H' x v G/\∀a∈G,H a=none
 |.N=>∃y a s xs G1 G2,x=.tup [y,.box (some a) s xs]/\Vd K H' y v G1/\Vd K H' (.box (some a) s xs) (.ref a) G2/\(∀b∈G1,b ∉ G2)/\(∀b∈G1,H b=none)/\∀b∈G2,H b=none
 |.M=>LsR K H x v H'
 |_=>Rep K H' (fun a=>B a\/H a=none) x v
noncomputable def spF(K:PySem.W.Frag)(n:Nat)(k:Kd)(W:PX->XK->Hp->Prop)(m:List PV->Rr PV):Sp:=fun vs H Q E=>∃B xs,Reps K H B xs vs/\xs.length=n /\
 Dn (m xs) (fun x=>∀v H',ZL H H'->Zo7 K B H k x v H'->Q v H') (fun e=>∀H',ZL H H'->W e E H')
def W0:PX->XK->Hp->Prop:=fun _ _ _=>False
def X0:PX->Hp->Prop:=fun _ _=>False
section
variable {n:Nat}{W:PX->XK->Hp->Prop}{m:List PV->Rr PV}{E:XK}
theorem Zip{t:TE}(ht:∀σ H Q,(ta σ H fun vs H1=>spF K n .P W m vs H1 Q E)->t σ H Q)(hW:∀e H',EX e H'->W e E H')(hn:Len fa n)(ha:DAA K EX Γ Γ' ta fa):DE K EX Γ Γ' .P t (fun ρ=>(fa ρ).bind m):=fun B H0 H σ ρ F R Q A d=>by
 refine ht _ _ _ (ha B H0 H σ ρ F R _ A (d.bind.imp (fun xs hx d vs H1 F1 s1 f1 p1 A1=>?_) fun e q=>q))
 exact⟨fun _=>True,xs,p1,hn ρ xs hx,d.imp (fun x _ d v H2 s2 r=>d v H2 (s1.trans s2) ⟨F1,f1,r.1,r.2,A1.grow s2⟩) fun e q H2 s2=>hW e H2 (q H2 (A1.same.trans s2))⟩
theorem ZeQ{t:TE}(ht:∀σ H Q,(ta σ H fun vs H1=>spF K n .F W m vs H1 Q E)->t σ H Q)(hW:∀e H',EX e H'->W e E H')(hn:Len fa n)(ha:DAA K EX Γ Γ' ta fa):DE K EX Γ Γ' .F t (fun ρ=>(fa ρ).bind m):=fun B H0 H σ ρ F R Q A d=>by
 refine ht _ _ _ (ha B H0 H σ ρ F R _ A (d.bind.imp (fun xs hx d vs H1 F1 s1 f1 p1 A1=>?_) fun e q=>q))
 refine⟨fun _=>True,xs,p1,hn ρ xs hx,d.imp (fun x _ d v H2 s2 r=>?_) fun e q H2 s2=>hW e H2 (q H2 (A1.same.trans s2))⟩
 obtain⟨G,r1,r2⟩:=r
 exact d v H2 (s1.trans s2) ⟨F1,f1,G,r1,fun a ha=>⟨(A1.fresh (r2 a ha)).1,.inl (s1.free (r2 a ha))⟩,A1.more s2 r2 r1.alive⟩
end
end
noncomputable def Zf8{α β:Type}(f:α->Rr β):List α->Rr (List β)
 |[]=>.ok []
 |x::xs=>(f x).bind fun y=>(Zf8 f xs).bind fun ys=>.ok (y::ys)
noncomputable def lenM(xs:List PV):Rr Unit:=if xs.length<=1000000 then .ok () else .bad
theorem Dn.lenM{xs:List PV}{ok:Unit->Prop}{ex:PX->Prop}(d:Dn (lenM xs) ok ex):xs.length<=1000000/\ok ():=by
 unfold L2.lenM at d
 by_cases h:xs.length<=1000000
 ·rw[if_pos h] at d;exact⟨h,d⟩
 ·rw[if_neg h] at d;exact d.elim
theorem Rr.assoc{α β γ:Type}{r:Rr α}{f:α->Rr β}{g:β->Rr γ}:(r.bind f).bind g=r.bind fun a=>(f a).bind g:=by cases r<;>rfl
section
variable {K:W.Frag}{B:Addr->Prop}{H0 H:Hp}{σ:St}{Γ:List Md}{ρ:List PV}{F:Nat->List Addr}{R:List Addr}{x:PV}{v:V}
theorem Ag.outF(A:Ag K B H0 H σ Γ ρ F R){i:Nat}(h:Γ.length<=i):F i=[]:=by
 have:=A.slot i
 rw[Z3n,Z30 h] at this
 exact this
theorem Ag.push(A:Ag K B H0 H σ Γ ρ F R)(h:Rep K H (NO B F R) x v):Ag K B H0 H (σ++[some v]) (Γ++[.S]) (ρ++[x]) F R:=by
 refine⟨A.same,A.own,A.young,A.youngR,A.live,A.liveR,A.disj,A.disjR,by simp[A.lenS],by simp[A.lenR],fun i=>?_⟩
 by_cases h1:i<Γ.length
 ·have:=A.slot i
  rw[Z3n,Z3n,Z3x h1,Z3x (by rw[A.lenR];exact h1),Z3x (by rw[A.lenS];exact h1),<- Z3n,<- Z3n]
  exact this
 ·by_cases h2:i=Γ.length
  ·subst h2
   rw[Z3n,Z3n,Z34 (Z3u _),Z34 (by rw[A.lenR];exact Z3u _),Z34 (by rw[A.lenS];exact Z3u _),A.lenR,A.lenS]
   simp only[Nat.sub_self,Z4h,Z4v]
   exact⟨A.outF (Z3u _),v,rfl,h⟩
  ·rw[Z3n,Z30 (by simp;omega)]
   exact A.outF (by omega)
theorem Ag.pop{o:Option V}(A:Ag K B H0 H (σ++[o]) (Γ++[.S]) (ρ++[x]) F R):Ag K B H0 H σ Γ ρ F R:=by
 have l1:σ.length=Γ.length:=by have:=A.lenS;simpa using this
 have l2:ρ.length=Γ.length:=by have:=A.lenR;simpa using this
 refine⟨A.same,A.own,A.young,A.youngR,A.live,A.liveR,A.disj,A.disjR,l1,l2,fun i=>?_⟩
 have:=A.slot i
 by_cases h1:i<Γ.length
 ·rw[Z3n,Z3n,Z3x h1,Z3x (by rw[l2];exact h1),Z3x (by rw[l1];exact h1),<- Z3n,<- Z3n] at this
  exact this
 ·rw[Z3n,Z30 (by omega)]
  by_cases h2:i=Γ.length
  ·subst h2
   rw[Z3n,Z34 (Z3u _)] at this
   simp only[Nat.sub_self,Z4h,Z4v] at this
   exact this.1
  ·exact A.outF (by simp;omega)
end
inductive RS where
 |next (ρ:List PV)|ret (x:PV)|brk (ρ:List PV)|cont (ρ:List PV)|exc (e:PX)|bad
noncomputable def Rr.thenS{α:Type}:Rr α->(α->RS)->RS
 |.ok a,f=>f a
 |.exc e,_=>.exc e
 |.bad,_=>.bad
noncomputable def RS.seq:RS->(List PV->RS)->RS
 |.next ρ,f=>f ρ
 |r,_=>r
@[simp] theorem Rr.thenS_ok{α:Type}{a:α}{f:α->RS}:(Rr.ok a).thenS f=f a:=rfl
@[simp] theorem Rr.thenS_exc{α:Type}{e:PX}{f:α->RS}:(Rr.exc e:Rr α).thenS f=.exc e:=rfl
@[simp] theorem Rr.thenS_bad{α:Type}{f:α->RS}:(Rr.bad:Rr α).thenS f=.bad:=rfl
@[simp] theorem RS.seq_next{ρ:List PV}{f:List PV->RS}:(RS.next ρ).seq f=f ρ:=rfl
@[simp] theorem RS.seq_ret{x:PV}{f:List PV->RS}:(RS.ret x).seq f=.ret x:=rfl
@[simp] theorem RS.seq_brk{ρ:List PV}{f:List PV->RS}:(RS.brk ρ).seq f=.brk ρ:=rfl
@[simp] theorem RS.seq_cont{ρ:List PV}{f:List PV->RS}:(RS.cont ρ).seq f=.cont ρ:=rfl
@[simp] theorem RS.seq_exc{e:PX}{f:List PV->RS}:(RS.exc e).seq f=.exc e:=rfl
@[simp] theorem RS.seq_bad{f:List PV->RS}:(RS.bad).seq f=.bad:=rfl
structure Tys where
 n:List Md
 b:List Md
 c:List Md
 r:Kd
def DnS(K:W.Frag)(B:Addr->Prop)(EX:PX->Hp->Prop)(Y:Tys)(H0 H:Hp)(F:Nat->List Addr)(D:Zj7)(r:RS):Prop:=match r with
 |.next ρ=>∀σ' H' F',Frm H F H' F'->Ag K B H0 H' σ' Y.n ρ F' []->D.nx σ' H'
 |.brk ρ=>∀σ' H' F',Frm H F H' F'->Ag K B H0 H' σ' Y.b ρ F' []->D.bk σ' H'
 |.cont ρ=>∀σ' H' F',Frm H F H' F'->Ag K B H0 H' σ' Y.c ρ F' []->D.ct σ' H'
 |.ret x=>∀v H',ZL H0 H'->Zo7 K B H0 Y.r x v H'->D.rt v H'
 |.exc e=>∀H',ZL H0 H'->EX e H'
 |.bad=>False
def DS(K:W.Frag)(EX:PX->Hp->Prop)(Γ:List Md)(Y:Tys)(t:TS)(g:List PV->RS):Prop:=
 ∀(B:Addr->Prop) (H0 H:Hp) (σ:St) (ρ:List PV) (F:Nat->List Addr) (D:Zj7),Ag K B H0 H σ Γ ρ F []->DnS K B EX Y H0 H F D (g ρ)->t D σ H
section
variable {K:W.Frag}{B:Addr->Prop}{EX:PX->Hp->Prop}{H0 H H':Hp}{σ:St}{Γ Γ' Γ1 Γ2 Γ3:List Md}{ρ:List PV}{F F':Nat->List Addr}{R:List Addr}{k:Kd}{x:PV}{v:V}{te:TE}{f fc:List PV->Rr PV}{t u:TS}{g g':List PV->RS}{Y:Tys}{D:Zj7}
theorem DnS.shift{H1:Hp}{F1:Nat->List Addr}{r:RS}(fr:Frm H F H1 F1)(h:DnS K B EX Y H0 H F D r):DnS K B EX Y H0 H1 F1 D r:=by
 cases r with
 |next ρ=>exact fun σ' H' F' fr' A=>h σ' H' F' (fr.trans fr') A
 |brk ρ=>exact fun σ' H' F' fr' A=>h σ' H' F' (fr.trans fr') A
 |cont ρ=>exact fun σ' H' F' fr' A=>h σ' H' F' (fr.trans fr') A
 |ret x=>exact h
 |exc e=>exact h
 |bad=>exact h
theorem DnS.thenS{α:Type}{r:Rr α}{f:α->RS}(h:DnS K B EX Y H0 H F D (r.thenS f)):Dn r (fun a=>DnS K B EX Y H0 H F D (f a)) (fun e=>∀H',ZL H0 H'->EX e H'):=by
 cases r with
 |ok a=>exact h
 |exc e=>exact h
 |bad=>exact h
theorem ZI:DS K EX Γ ⟨Γ,Γ1,Γ2,k⟩ Zq8 (fun ρ=>.next ρ):=fun B H0 H σ ρ F D A d=>d σ H F Frm.refl A
theorem Zp{Γm:List Md}(h1:DS K EX Γ ⟨Γm,Y.b,Y.c,Y.r⟩ t g)(h2:DS K EX Γm Y u g'):DS K EX Γ Y (ZtU t u) (fun ρ=>(g ρ).seq g'):=fun B H0 H σ ρ F D A d=>by
 refine h1 B H0 H σ ρ F _ A ?_
 dsimp only at d
 cases e:g ρ with
 |next ρ1 =>
  rw[e] at d
  exact fun σ' H' F' fr A'=>h2 B H0 H' σ' ρ1 F' D A' (DnS.shift fr d)
 |brk ρ1=>rw[e] at d;exact d
 |cont ρ1=>rw[e] at d;exact d
 |ret x=>rw[e] at d;exact d
 |exc q=>rw[e] at d;exact d
 |bad=>rw[e] at d;exact d
noncomputable def mle(m m':Md):Bool:=m==m' || m'==.U || (m'==.S&&m != .U) || (m'==.O&&m==.P)
noncomputable def ZeC:List Md->List Md->Bool
 |[],[]=>true
 |m::ms,m'::ms'=>mle m m'&&ZeC ms ms'
 |_,_=>false
theorem ZhX:∀{Γ Γ':List Md},ZeC Γ Γ'=true->Γ.length=Γ'.length/\∀i,mle (Γ.getD i .U) (Γ'.getD i .U)=true
 |[],[],_=>⟨rfl,fun i=>by simp[mle]⟩
 |m::ms,m'::ms',h=>by
  simp only[ZeC,Bool.and_eq_true] at h
  obtain⟨h1,h2⟩:=ZhX h.2
  refine⟨by simp[h1],fun i=>?_⟩
  cases i with
  |zero=>simpa using h.1
  |succ i=>simpa using h2 i
 |[],_::_,h=>by cases h
 |_::_,[],h=>by cases h
theorem Ag.weak(A:Ag K B H0 H σ Γ ρ F R)(h:ZeC Γ Γ'=true):∃F',(∀i,∀a∈F' i,a∈F i)/\Ag K B H0 H σ Γ' ρ F' R:=by
 obtain⟨hl,hm⟩:=ZhX h
 let F':Nat->List Addr:=fun i=>if Γ.getD i .U=Γ'.getD i .U then F i else []
 have hF:∀i,∀a∈F' i,a∈F i:=fun i a ha=>by
  by_cases q:Γ.getD i .U=Γ'.getD i .U
  ·simp only[F',if_pos q] at ha;exact ha
  ·simp only[F',if_neg q] at ha;simp at ha
 have up:∀{a},NO B F R a->NO B F' R a:=fun {a} s=>⟨s.1,s.2.1,fun j z=>s.2.2 j (hF j a z)⟩
 refine⟨F',hF,A.same,A.own,fun i a ha=>A.young i a (hF i a ha),A.youngR,fun i a ha=>A.live i a (hF i a ha),A.liveR,fun i j hij a ha z=>A.disj i j hij a (hF i a ha) (hF j a z),fun i a ha=>A.disjR i a (hF i a ha),by rw[A.lenS,hl],by rw[A.lenR,hl],fun i=>?_⟩
 have sl:=A.slot i
 have hmi:=hm i
 by_cases q:Γ.getD i .U=Γ'.getD i .U
 ·simp only[F',if_pos q]
  rw[<- q]
  exact sl.mono (fun a vs s r=>⟨r,up s⟩) (fun a vs r=>r) fun a ha vs r=>r
 ·simp only[F',if_neg q]
  simp only[mle,Bool.or_eq_true,beq_iff_eq,Bool.and_eq_true,bne_iff_ne] at hmi
  rcases hmi with ((z|z)|z)|z
  ·exact absurd z q
  ·rw[z];exact rfl
  rotate_left
  ·rw[z.1]
   rw[z.2] at sl
   obtain⟨e,v,h1,h2,h3⟩:=sl
   exact⟨v,h1,h3.tree h2⟩
  ·rw[z.1]
   have own:∀a∈F i,NO B F' R a:=fun a ha=>⟨A.own a (A.young i a ha),A.disjR i a ha,fun j w=>by
    by_cases hj:j=i
    ·subst hj;simp only[F',if_neg q] at w;simp at w
    ·exact A.disj j i hj a (hF j a w) ha⟩
   cases hmm:Γ.getD i .U with
   |U=>exact absurd hmm z.2
   |P=>rw[hmm] at sl;obtain⟨e,v,h1,h2,h3⟩:=sl;exact⟨rfl,v,h1,h3.flatS h2⟩
   |S=>rw[hmm] at sl;obtain⟨e,v,h1,h2⟩:=sl;exact⟨rfl,v,h1,Rep.mono (fun a vs s r=>⟨r,up s⟩) (fun a vs r=>r) h2⟩
   |T =>
    rw[hmm] at sl
    obtain⟨a,vs,xs,h1,h2,h3,h4,h5⟩:=sl
    refine⟨rfl,_,h1, ?_⟩
    rw[h2]
    exact⟨a,vs,rfl,.inl ⟨.inl h3,own a (by rw[h5];simp)⟩,Reps.mono (fun a vs s r=>⟨r,up s⟩) (fun a vs r=>r) h4⟩
   |O=>rw[hmm] at sl;obtain⟨v,h1,h2⟩:=sl;exact⟨rfl,v,h1,h2.rep own⟩
theorem DS.out{Y':Tys}(h:DS K EX Γ Y t g)(hn:ZeC Y.n Y'.n=true)(hb:ZeC Y.b Y'.b=true)(hc:ZeC Y.c Y'.c=true)(hr:Y.r=Y'.r):DS K EX Γ Y' t g:=fun B H0 H σ ρ F D A d=>by
 refine h B H0 H σ ρ F D A ?_
 cases e:g ρ with
 |next ρ1=>rw[e] at d;exact fun σ' H' F' fr A'=>let ⟨F2,f2,A2⟩:=A'.weak hn;d σ' H' F2 (fr.trans (Frm.of (ZL.refl _) f2)) A2
 |brk ρ1=>rw[e] at d;exact fun σ' H' F' fr A'=>let ⟨F2,f2,A2⟩:=A'.weak hb;d σ' H' F2 (fr.trans (Frm.of (ZL.refl _) f2)) A2
 |cont ρ1=>rw[e] at d;exact fun σ' H' F' fr A'=>let ⟨F2,f2,A2⟩:=A'.weak hc;d σ' H' F2 (fr.trans (Frm.of (ZL.refl _) f2)) A2
 |ret x=>rw[e] at d;exact fun v H' s r=>d v H' s (hr▸r)
 |exc q=>rw[e] at d;exact d
 |bad=>rw[e] at d;exact d
theorem ZdB{H1:Hp}{F1:Nat->List Addr}{i:Nat}{G:List Addr}(s1:ZL H H1)(f1:∀i,∀a∈F1 i,a∈F i)(o:∀a∈G,H a=none\/∃i,a∈F i):Frm H F H1 (ZbI F1 i G):=fun a u h n=>by
 refine⟨s1 a u h,fun j z=>?_⟩
 by_cases q:j=i
 ·subst q
  rw[Z5] at z
  rcases o a z with w|⟨l,w⟩
  ·rw[h] at w;cases w
  ·exact n l w
 ·rw[ZY q] at z;exact n j (f1 j a z)
theorem Vm{i:Nat}(he:DE K EX Γ Γ' .P te f)(hi:i<Γ'.length):DS K EX Γ ⟨Γ'.set i .P,Γ1,Γ2,k⟩ (Zqb te (Zhd i)) (fun ρ=>(f ρ).thenS fun x=>.next (ρ.set i x)):=fun B H0 H σ ρ F D A d=>by
 refine he B H0 H σ ρ F [] _ A (d.thenS.imp (fun x _ d v H1 s1 r1=>?_) fun e q=>q)
 obtain⟨F1,f1,h1,h2,A1⟩:=r1
 exact d _ H1 _ (ZdB (G:=[]) s1 f1 (by simp)) (Ag.put (G:=[]) (R:=[]) A1 hi (by simp) ⟨rfl,v,rfl,h1,h2⟩)
theorem Z6{i:Nat}(he:DE K EX Γ Γ' .F te f)(hi:i<Γ'.length):DS K EX Γ ⟨Γ'.set i .O,Γ1,Γ2,k⟩ (Zqb te (Zhd i)) (fun ρ=>(f ρ).thenS fun x=>.next (ρ.set i x)):=fun B H0 H σ ρ F D A d=>by
 refine he B H0 H σ ρ F [] _ A (d.thenS.imp (fun x _ d v H1 s1 r1=>?_) fun e q=>q)
 obtain⟨F1,f1,G,h1,h2,A1⟩:=r1
 exact d _ H1 _ (ZdB s1 f1 fun a ha=>(h2 a ha).2) (Ag.put (R:=[]) A1 hi (by simp) ⟨v,rfl,h1⟩)
theorem Zlo{i:Nat}(he:DE K EX Γ Γ' .T te f)(hi:i<Γ'.length):DS K EX Γ ⟨Γ'.set i .T,Γ1,Γ2,k⟩ (Zqb te (Zhd i)) (fun ρ=>(f ρ).thenS fun x=>.next (ρ.set i x)):=fun B H0 H σ ρ F D A d=>by
 refine he B H0 H σ ρ F [] _ A (d.thenS.imp (fun x _ d v H1 s1 r1=>?_) fun e q=>q)
 obtain⟨F1,f1,a,vs,xs,rfl,rfl,h1,h2,h3,h4,A1⟩:=r1
 refine d _ H1 _ (ZdB (G:=[a]) s1 f1 fun b hb=>by rw[Z38.mp hb];exact h4) (Ag.put (G:=[a]) (R:=[]) A1 hi (by simp) ⟨a,vs,xs,rfl,rfl,h1, ?_,rfl⟩)
 refine Reps.mono (fun b us s r=>⟨r,s.1,by simp,fun j z=>?_⟩) (fun b us r=>r) h2
 by_cases q:j=i
 ·subst q;rw[Z5] at z;exact s.2.1 z
 ·rw[ZY q] at z;exact s.2.2 j z
theorem ZT(he:DE K EX Γ Γ' .A te f):DS K EX Γ ⟨Γ',Γ1,Γ2,k⟩ (Zme te) (fun ρ=>(f ρ).thenS fun _=>.next ρ):=fun B H0 H σ ρ F D A d=>by
 refine he B H0 H σ ρ F [] _ A (d.thenS.imp (fun x _ d v H1 s1 r1=>?_) fun e q=>q)
 obtain⟨F1,f1,h1,A1⟩:=r1
 exact d σ H1 F1 (Frm.of s1 f1) A1
theorem ZZ(he:DE K EX Γ Γ' .P te f):DS K EX Γ ⟨Γ3,Γ1,Γ2,.P⟩ (ZsF te) (fun ρ=>(f ρ).thenS fun x=>.ret x):=fun B H0 H σ ρ F D A d=>by
 refine he B H0 H σ ρ F [] _ A (d.thenS.imp (fun x _ d v H1 s1 r1=>?_) fun e q=>q)
 obtain⟨F1,f1,h1,h2,A1⟩:=r1
 exact d v H1 A1.same ⟨h1,h2⟩
theorem Jf(he:DE K EX Γ Γ' .F te f):DS K EX Γ ⟨Γ3,Γ1,Γ2,.F⟩ (ZsF te) (fun ρ=>(f ρ).thenS fun x=>.ret x):=fun B H0 H σ ρ F D A d=>by
 refine he B H0 H σ ρ F [] _ A (d.thenS.imp (fun x _ d v H1 s1 r1=>?_) fun e q=>q)
 obtain⟨F1,f1,G,h1,h2,A1⟩:=r1
 exact d v H1 A1.same ⟨G,h1,fun a ha=>A1.youngR a (by simpa using ha)⟩
theorem J0{c:TT}{fc:List PV->Rr Bool}(hc:DT K EX Γ Γ' c fc)(h1:DS K EX Γ' Y t g)(h2:DS K EX Γ' Y u g'):DS K EX Γ Y (ZtX c t u) (fun ρ=>(fc ρ).thenS fun b=>if b=true then g ρ else g' ρ):=fun B H0 H σ ρ F D A d=>by
 refine hc B H0 H σ ρ F [] _ A (d.thenS.imp (fun b _ d H1 F1 s1 f1 A1=>?_) fun e q=>q)
 cases b with
 |true=>exact h1 B H0 H1 σ ρ F1 D A1 (DnS.shift (Frm.of s1 f1) d)
 |false=>exact h2 B H0 H1 σ ρ F1 D A1 (DnS.shift (Frm.of s1 f1) d)
theorem Ja:DS K EX Γ Y ZnE (fun _=>.bad):=fun B H0 H σ ρ F D A d=>d
theorem Zlp{i:Nat}{h:Int->Int->Int}(hm:Γ[i]?=some .P)(he:DE K EX Γ Γ .A te f):DS K EX Γ ⟨Γ,Γ1,Γ2,k⟩ (Zua i te (ipI h)) (fun ρ=>(f ρ).thenS fun y=>(oI (fun _ _=>true) (fun i j=>.int (h i j)) (gv i ρ) y).thenS fun z=>.next (ρ.set i z)):=fun B H0 H σ ρ F D A d=>by
 obtain⟨v,h1,h2,h3⟩:=A.getP hm
 refine⟨v,h1,he B H0 H σ ρ F [] _ A (d.thenS.imp (fun y _ d w H1 s1 r1=>?_) fun e q=>q)⟩
 obtain⟨F1,f1,p1,A1⟩:=r1
 have h3':=h3.same s1
 change Rep K H1 _ (gv i ρ) v at h3'
 generalize gv i ρ=gx at h3' d
 cases gx<;>cases y<;>first|(exact d.elim;done)|skip
 rename_i p q _
 cases h3';cases p1
 refine⟨p,q,rfl,rfl,d _ H1 _ (ZdB (i:=i) (G:=[]) s1 f1 (by simp)) ?_⟩
 have:=Ag.put (i:=i) (m:=.P) (x:=.int (h p q)) (v:=.int (h p q)) (G:=[]) (R:=[]) A1 (A.lt hm) (by simp) ⟨rfl,_,rfl,rfl,rfl⟩
 have e:Γ.set i .P=Γ:=by
  apply Z4Q
  intro j
  by_cases q:i=j
  ·subst q;rw[Z3C (A.lt hm),hm]
  ·rw[Z3H q]
 rw[e] at this
 exact this
theorem Ag.chgB{i:Nat}{m:Md}{a:Addr}{o':HO}(ho:Lvo o'){x':PV}{G G':List Addr}(A:Ag K B H0 H σ Γ ρ F (G++R))(hm:Γ[i]?=some m)(ha:a∈F i)(hG:∀b∈G',b∈F i\/b∈G)(hGR:∀b∈G,b ∉ R)(hs:ZbB K (upd H a o') (NO B (ZbI F i G') R) m x' σ[i]? G'):Ag K B H0 (upd H a o') σ Γ (ρ.set i x') (ZbI F i G') R:=by
 obtain⟨us,hH⟩:=A.live i a ha
 have hi:=A.lt hm
 have liveU:∀b,(∃us:LvO,H b=some us.1)->∃us:LvO,upd H a o' b=some us.1:=fun b ⟨us,q⟩=>by
  by_cases e:b=a
  ·exact⟨⟨o',ho⟩,by rw[e,ZX]⟩
  ·exact⟨us,by rw[Z4 e];exact q⟩
 refine⟨A.same.upd (A.young i a ha),A.own,fun j b hb=>?_,fun b hb=>A.youngR b (Z3o _ hb),fun j b hb=>liveU b ?_,fun b hb=>liveU b (A.liveR b (Z3o _ hb)),fun j l hjl b hb z=>?_,fun j b hb z=>?_,A.lenS,by simp[A.lenR],fun j=>?_⟩
 ·by_cases q:j=i
  ·subst q;rw[Z5] at hb
   rcases hG b hb with z|z
   ·exact A.young j b z
   ·exact A.youngR b (Z3s _ z)
  ·rw[ZY q] at hb;exact A.young j b hb
 ·by_cases q:j=i
  ·subst q;rw[Z5] at hb
   rcases hG b hb with z|z
   ·exact A.live j b z
   ·exact A.liveR b (Z3s _ z)
  ·rw[ZY q] at hb;exact A.live j b hb
 ·by_cases q:j=i
  ·subst q
   rw[Z5] at hb
   rw[ZY (Ne.symm hjl)] at z
   rcases hG b hb with w|w
   ·exact A.disj j l hjl b w z
   ·exact A.disjR l b z (Z3s _ w)
  ·rw[ZY q] at hb
   by_cases q':l=i
   ·subst q'
    rw[Z5] at z
    rcases hG b z with w|w
    ·exact A.disj j l hjl b hb w
    ·exact A.disjR j b hb (Z3s _ w)
   ·rw[ZY q'] at z;exact A.disj j l hjl b hb z
 ·by_cases q:j=i
  ·subst q;rw[Z5] at hb
   rcases hG b hb with w|w
   ·exact A.disjR j b w (Z3o _ z)
   ·exact hGR b w z
  ·rw[ZY q] at hb;exact A.disjR j b hb (Z3o _ z)
 ·by_cases q:j=i
  ·subst q
   rw[Z5,Z3n,Z3n,hm,Z3C (by rw[A.lenR];exact hi)]
   exact hs
  ·rw[ZY q,Z3n (l:=ρ.set _ _),Z3H (Ne.symm q),<- Z3n]
   refine(A.slot j).mono (fun b us s r=>?_) (fun b us r=>Im.putL hH r) fun b hb us r=>?_
   ·have hne:b≠a:=fun z=>s.2.2 i (z▸ha)
    refine⟨?_,s.1,fun z=>s.2.1 (Z3o _ z),fun l z=>?_⟩
    ·rcases r with r|⟨o,r⟩
     ·exact .inl (by rw[Z4 hne];exact r)
     ·exact .inr ⟨o,by rw[Z4 hne];exact r⟩
    ·by_cases q':l=i
     ·subst q';rw[Z5] at z
      rcases hG b z with w|w
      ·exact s.2.2 l w
      ·exact s.2.1 (Z3s _ w)
     ·rw[ZY q'] at z;exact s.2.2 l z
   ·have hne:b≠a:=fun z=>A.disj j i q b hb (z▸ha)
    rw[Z4 hne];exact r
theorem Ag.chg{i:Nat}{m:Md}{a:Addr}{vs':List V}{x':PV}{G G':List Addr}(A:Ag K B H0 H σ Γ ρ F (G++R))(hm:Γ[i]?=some m)(ha:a∈F i)(hG:∀b∈G',b∈F i\/b∈G)(hGR:∀b∈G,b ∉ R)(hs:ZbB K (upd H a (.lst vs')) (NO B (ZbI F i G') R) m x' σ[i]? G'):Ag K B H0 (upd H a (.lst vs')) σ Γ (ρ.set i x') (ZbI F i G') R:=Ag.chgB (o':=.lst vs') trivial A hm ha hG hGR hs
theorem Zhe{H1:Hp}{F1:Nat->List Addr}{i:Nat}{a:Addr}{o:HO}{G':List Addr}(s1:ZL H H1)(f1:∀i,∀b∈F1 i,b∈F i)(ha:a∈F1 i)(hG:∀b∈G',H b=none\/∃j,b∈F j):Frm H F (upd H1 a o) (ZbI F1 i G'):=fun b u h n=>by
 have hne:b≠a:=fun z=>n i (f1 i b (z▸ha))
 refine⟨by rw[Z4 hne];exact s1 b u h,fun j z=>?_⟩
 by_cases q:j=i
 ·subst q;rw[Z5] at z
  rcases hG b z with w|⟨l,w⟩
  ·rw[h] at w;cases w
  ·exact n l w
 ·rw[ZY q] at z;exact n j (f1 j b z)
noncomputable def pSet(x i y:PV):Rr PV:=match x,i with
 |.lst xs,.int j=>match ixN xs.length j with
  |some n=>.ok (.lst (xs.set n y))
  |none=>.bad
 |_,_=>.bad
theorem Dn.pSet{x i y:PV}{ok:PV->Prop}{ex:PX->Prop}(d:Dn (pSet x i y) ok ex):∃xs j n,x=.lst xs/\i=.int j/\ixN xs.length j=some n/\ok (.lst (xs.set n y)):=by
 unfold L2.pSet at d
 split at d
 ·rename_i xs j
  cases e:ixN xs.length j with
  |none=>rw[e] at d;exact d.elim
  |some n=>rw[e] at d;exact⟨xs,j,n,rfl,rfl,e,d⟩
 ·exact d.elim
noncomputable def pApp(x y:PV):Rr PV:=match x with
 |.lst xs=>if xs.length<1000000 then .ok (.lst (xs++[y])) else .bad
 |_=>.bad
theorem Dn.pApp{x y:PV}{ok:PV->Prop}{ex:PX->Prop}(d:Dn (pApp x y) ok ex):∃xs,x=.lst xs/\xs.length<1000000/\ok (.lst (xs++[y])):=by
 unfold L2.pApp at d
 split at d
 ·rename_i xs
  by_cases h:xs.length<1000000
  ·rw[if_pos h] at d;exact⟨xs,rfl,h,d⟩
  ·rw[if_neg h] at d;exact d.elim
 ·exact d.elim
theorem Dn.asL{x:PV}{ok:List PV->Prop}{ex:PX->Prop}(d:Dn (asL x) ok ex):∃xs,x=.lst xs/\ok xs:=by
 cases x with
 |lst xs=>exact⟨xs,rfl,d⟩
 |_=>exact d.elim
theorem Zhg{i:Nat}(hm:Γ[i]?=some .O)(hm2:Γ2[i]?=some .O)(he:DE K EX Γ Γ2 .F te f) :
  DS K EX Γ ⟨Γ2,Γ1,Γ3,k⟩ (Zme (tBM K "list" Zkb (Zj2 i) (Zds te Zj3))) (fun ρ=>(asL (gv i ρ)).thenS fun xs=>(f ρ).thenS fun y=>(pApp (.lst xs) y).thenS fun z=>.next (ρ.set i z)):=fun B H0 H σ ρ F D A d=>by
 obtain⟨v,h1,h2⟩:=A.getO hm
 refine⟨v,h1, ?_⟩
 obtain⟨xs,e1,d⟩:=Dn.asL d.thenS
 rw[show ρ.getD i .non=.lst xs from e1] at h2
 obtain⟨a,vs,G,rfl,hH,ht,hn,hF⟩:=h2
 refine⟨.inl ⟨rfl,_,SqL.of hH⟩,he B H0 H σ ρ F [] _ A (d.thenS.imp (fun y _ d w H2 s2 r2=>?_) fun e q=>q)⟩
 obtain⟨F2,f2,G2,y1,y2,A2⟩:=r2
 obtain⟨xs',e2,hlen,d⟩:=Dn.pApp d.thenS
 cases e2
 obtain⟨v',h1',h2'⟩:=A2.getO hm2
 rw[h1] at h1';cases h1'
 rw[show ρ.getD i .non=.lst xs from e1] at h2'
 obtain⟨a',vs',G',e,hH',ht',hn',hF'⟩:=h2'
 cases e
 refine⟨a,vs',w,rfl,rfl,hH',by rw[ht'.length];exact Z3z hlen (by decide), ?_⟩
 have haF:a∈F2 i:=by rw[hF'];simp
 have dj:∀b∈G',b ∉ G2:=fun b hb z=>A2.disjR i b (by rw[hF'];simp[hb]) (Z3s _ z)
 have na:a ∉ G2:=fun z=>A2.disjR i a haF (Z3s _ z)
 have hsub:∀b∈a::(G'++G2),b∈F2 i\/b∈G2:=fun b hb=>by
  rw[hF']
  rcases Z3v.mp hb with rfl|hb
  ·simp
  ·rcases Z3q.mp hb with z|z
   ·simp[z]
   ·exact .inr z
 have hna:a ∉ G'++G2:=fun z=>(Z3q.mp z).elim hn' na
 refine d σ _ (ZbI F2 i (a::(G'++G2))) (Zhe s2 f2 haF fun b hb=>?_) (Ag.chg (G:=G2) (R:=[]) A2 hm2 haF hsub (by simp) ?_)
 ·rcases hsub b hb with z|z
  ·exact .inr ⟨i,f2 i b z⟩
  ·exact(y2 b z).2
 ·exact⟨_,h1,a,_,G'++G2,rfl,ZX,(Trees.append ht' (Trees.one y1) dj).put hH' hna,hna,rfl⟩
def DG(K:W.Frag)(EX:PX->Hp->Prop)(Γ Γ':List Md)(g:TG)(h:PV->List PV->Rr (List PV)):Prop:=
 ∀(B:Addr->Prop) (H0 H:Hp) (σ:St) (ρ:List PV) (F:Nat->List Addr) (v:V) (x:PV) (N:St->Hp->Prop),Ag K B H0 H σ Γ ρ F []->Rep K H (NO B F []) x v ->
  Dn (h x ρ) (fun ρ'=>∀σ' F',(∀i,∀a∈F' i,a∈F i)->Ag K B H0 H σ' Γ' ρ' F' []->N σ' H) (fun e=>∀H',ZL H0 H'->EX e H')->g v σ H N
theorem Zs5{i:Nat}(hi:i<Γ.length):DG K EX Γ (Γ.set i .P) (Zhd i) (fun x ρ=>(grd x).bind fun x=>.ok (ρ.set i x)):=fun B H0 H σ ρ F v x N A r d=>by
 unfold grd at d;dsimp only at d
 by_cases h:x.flat=true
 ·rw[if_pos h] at d
  exact d _ (ZbI F i []) QO (Ag.put (G:=[]) (R:=[]) A hi (by simp) ⟨rfl,v,rfl,h,r.any⟩)
 ·rw[if_neg h] at d;exact d.elim
noncomputable def Zup(xs ρ:List PV):Rr (List PV):=match xs with
 |[]=>.ok ρ
 |_=>.bad
noncomputable def hdR(h:PV->List PV->Rr (List PV))(hs:List PV->List PV->Rr (List PV))(xs:List PV)(ρ:List PV):Rr (List PV):=match xs with
 |x::r=>(h x ρ).bind fun ρ'=>hs r ρ'
 |[]=>.bad
noncomputable def asT(n:Nat)(x:PV):Rr (List PV):=match x with
 |.tup xs=>if xs.length=n then .ok xs else .bad
 |_=>.bad
theorem Dn.asT{n:Nat}{x:PV}{ok:List PV->Prop}{ex:PX->Prop}(d:Dn (asT n x) ok ex):∃xs,x=.tup xs/\xs.length=n/\ok xs:=by
 cases x with
 |tup xs =>
  unfold L2.asT at d
  by_cases h:xs.length=n
  ·simp only[if_pos h] at d;exact⟨xs,rfl,h,d⟩
  ·simp only[if_neg h] at d;exact d.elim
 |_=>exact d.elim
def DGF(K:W.Frag)(EX:PX->Hp->Prop)(Γ Γ':List Md)(g:TG)(h:PV->List PV->Rr (List PV)):Prop:=
 ∀(B:Addr->Prop) (H0 H:Hp) (σ:St) (ρ:List PV) (F:Nat->List Addr) (G R:List Addr) (v:V) (x:PV) (N:St->Hp->Prop),Ag K B H0 H σ Γ ρ F (G++R)->(∀a∈G,a ∉ R)->Vd K H x v G ->
  Dn (h x ρ) (fun ρ'=>∀σ' F',(∀i,∀a∈F' i,a∈F i\/a∈G)->Ag K B H0 H σ' Γ' ρ' F' R->N σ' H) (fun e=>∀H',ZL H0 H'->EX e H')->g v σ H N
def ZsA(K:W.Frag)(EX:PX->Hp->Prop)(Γ Γ':List Md)(g:TGs)(h:List PV->List PV->Rr (List PV)):Prop:=
 ∀(B:Addr->Prop) (H0 H:Hp) (σ:St) (ρ:List PV) (F:Nat->List Addr) (G R:List Addr) (vs:List V) (xs:List PV) (N:St->Hp->Prop),Ag K B H0 H σ Γ ρ F (G++R)->(∀a∈G,a ∉ R)->Trees K H xs vs G ->
  Dn (h xs ρ) (fun ρ'=>∀σ' F',(∀i,∀a∈F' i,a∈F i\/a∈G)->Ag K B H0 H σ' Γ' ρ' F' R->N σ' H) (fun e=>∀H',ZL H0 H'->EX e H')->g vs σ H N
theorem Znn{i:Nat}(hi:i<Γ.length):DGF K EX Γ (Γ.set i .P) (Zhd i) (fun x ρ=>(grd x).bind fun x=>.ok (ρ.set i x)):=fun B H0 H σ ρ F G R v x N A hG r d=>by
 unfold grd at d;dsimp only at d
 by_cases h:x.flat=true
 ·rw[if_pos h] at d
  exact d _ (ZbI F i []) (fun j a ha=>.inl (QO j a ha)) (Ag.put (G:=[]) (A.less fun a ha=>Z3o _ ha) hi (by simp) ⟨rfl,v,rfl,h,r.rep fun _ _=>trivial⟩)
 ·rw[if_neg h] at d;exact d.elim
theorem Zin:ZsA K EX Γ Γ Zuu Zup:=fun B H0 H σ ρ F G R vs xs N A hG r d=>by
 cases xs with
 |nil=>exact⟨r.1,d σ F (fun _ _ h=>.inl h) (A.less fun a ha=>Z3o _ ha)⟩
 |cons x xs=>exact d.elim
theorem Zb7{g:TG}{gs:TGs}{h:PV->List PV->Rr (List PV)}{hs:List PV->List PV->Rr (List PV)}(h1:DGF K EX Γ Γ1 g h)(h2:ZsA K EX Γ1 Γ2 gs hs):ZsA K EX Γ Γ2 (Zr5 g gs) (hdR h hs):=fun B H0 H σ ρ F G R vs xs N A hG r d=>by
 cases xs with
 |nil=>exact d.elim
 |cons x xs =>
  obtain⟨v,r',G1,G2,rfl,r1,r2,dj,rfl⟩:=r
  refine⟨v,r',rfl,h1 B H0 H σ ρ F G1 (G2++R) v x _ (by rw[<- Z35];exact A) (fun a ha z=>?_) r1 ((show Dn ((h x ρ).bind fun ρ'=>hs xs ρ') _ _ from d).bind.imp (fun ρ' _ d σ' F' f' A'=>?_) fun e q=>q)⟩
  ·rcases Z3q.mp z with z|z
   ·exact dj a ha z
   ·exact hG a (Z3s _ ha) z
  ·refine h2 B H0 H σ' ρ' F' G2 R r' xs _ A' (fun a ha=>hG a (Z3o _ ha)) r2 (d.imp (fun ρ2 _ d σ2 F2 f2 A2=>d σ2 F2 (fun j a ha=>?_) A2) fun e q=>q)
   rcases f2 j a ha with z|z
   ·rcases f' j a z with w|w
    ·exact .inl w
    ·exact .inr (Z3s _ w)
   ·exact .inr (Z3o _ z)
theorem Zls{n:Nat}{gs:TGs}{hs:List PV->List PV->Rr (List PV)}(h2:ZsA K EX Γ Γ2 gs hs):DGF K EX Γ Γ2 (Zut K n gs) (fun x ρ=>(asT n x).bind fun xs=>hs xs ρ):=fun B H0 H σ ρ F G R v x N A hG r d=>by
 obtain⟨xs,rfl,hl,d⟩:=Dn.asT d.bind
 obtain⟨a,vs,rfl,hn,hr⟩:=r
 exact⟨a,vs,rfl,hn.sqT,by rw[hr.length];exact hl,h2 B H0 H σ ρ F G R vs xs N A hG hr d⟩
theorem Zlq{gt:TG}{h:PV->List PV->Rr (List PV)}(he:DE K EX Γ Γ1 .F te f)(hg:DGF K EX Γ1 Γ2 gt h):DS K EX Γ ⟨Γ2,Γ3,Γ',k⟩ (Zqb te gt) (fun ρ=>(f ρ).thenS fun x=>(h x ρ).thenS fun ρ'=>.next ρ'):=fun B H0 H σ ρ F D A d=>by
 refine he B H0 H σ ρ F [] _ A (d.thenS.imp (fun x _ d v H1 s1 r1=>?_) fun e q=>q)
 obtain⟨F1,f1,G,h1,h2,A1⟩:=r1
 refine hg B H0 H1 σ ρ F1 G [] v x _ A1 (by simp) h1 (d.thenS.imp (fun ρ' _ d σ' F' f' A'=>d σ' H1 F' (fun a o ho n=>⟨s1 a o ho,fun j z=>?_⟩) A') fun e q=>q)
 rcases f' j a z with w|w
 ·exact n j (f1 j a w)
 ·rcases (h2 a w).2 with q|⟨l,q⟩
  ·rw[ho] at q;cases q
  ·exact n l q
end
noncomputable def RS.turn:RS->(List PV->RS)->RS
 |.next ρ,f=>f ρ
 |.cont ρ,f=>f ρ
 |.brk ρ,_=>.next ρ
 |r,_=>r
@[simp] theorem RS.turn_next{ρ:List PV}{f:List PV->RS}:(RS.next ρ).turn f=f ρ:=rfl
@[simp] theorem RS.turn_cont{ρ:List PV}{f:List PV->RS}:(RS.cont ρ).turn f=f ρ:=rfl
@[simp] theorem RS.turn_brk{ρ:List PV}{f:List PV->RS}:(RS.brk ρ).turn f=.next ρ:=rfl
@[simp] theorem RS.turn_ret{x:PV}{f:List PV->RS}:(RS.ret x).turn f=.ret x:=rfl
@[simp] theorem RS.turn_exc{e:PX}{f:List PV->RS}:(RS.exc e).turn f=.exc e:=rfl
@[simp] theorem RS.turn_bad{f:List PV->RS}:(RS.bad).turn f=.bad:=rfl
noncomputable def Zj5(b:PV->List PV->RS):List PV->List PV->RS
 |[],ρ=>.next ρ
 |x::xs,ρ=>(b x ρ).turn (Zj5 b xs)
noncomputable def VM(c:List PV->Rr Bool)(b:List PV->RS):Nat->List PV->Option RS
 |0,_=>none
 |n+1,ρ=>match c ρ with
  |.ok true=>match b ρ with
   |.next ρ'=>VM c b n ρ'
   |.cont ρ'=>VM c b n ρ'
   |.brk ρ'=>some (.next ρ')
   |r=>some r
  |.ok false=>some (.next ρ)
  |.exc e=>some (.exc e)
  |.bad=>some .bad
open Classical in
noncomputable def QH(c:List PV->Rr Bool)(b:List PV->RS)(ρ:List PV):RS:=if h:∃n r,VM c b n ρ=some r then h.choose_spec.choose else .bad
theorem Uq{c:List PV->Rr Bool}{b:List PV->RS}:∀{n m:Nat}{ρ:List PV}{r:RS},n<=m->VM c b n ρ=some r->VM c b m ρ=some r
 |0,_,_,_,_,h=>by cases h
 |n+1,0,_,_,hl,_=>by omega
 |n+1,m+1,ρ,r,hl,h=>by
  unfold VM at h ⊢
  cases hc:c ρ with
  |ok b' =>
   cases b' with
   |true =>
    rw[hc] at h
    cases hb:b ρ with
    |next ρ'=>rw[hb] at h;exact Uq (by omega) h
    |cont ρ'=>rw[hb] at h;exact Uq (by omega) h
    |brk ρ'=>rw[hb] at h;exact h
    |ret x=>rw[hb] at h;exact h
    |exc e=>rw[hb] at h;exact h
    |bad=>rw[hb] at h;exact h
   |false=>rw[hc] at h;exact h
  |exc e=>rw[hc] at h;exact h
  |bad=>rw[hc] at h;exact h
theorem ZkX{c:List PV->Rr Bool}{b:List PV->RS}{n m:Nat}{ρ:List PV}{r r':RS}(h:VM c b n ρ=some r)(h':VM c b m ρ=some r'):r=r':=by
 rcases Nat.le_total n m with q|q
 ·have:=Uq q h;rw[h'] at this;exact(Option.some.inj this).symm
 ·have:=Uq q h';rw[h] at this;exact Option.some.inj this
theorem Zfd{c:List PV->Rr Bool}{b:List PV->RS}{n:Nat}{ρ:List PV}{r:RS}(h:VM c b n ρ=some r):QH c b ρ=r:=by
 unfold QH
 have hx:∃n r,VM c b n ρ=some r:=⟨n,r,h⟩
 rw[dif_pos hx]
 exact ZkX hx.choose_spec.choose_spec h
section
variable {K:W.Frag}{B:Addr->Prop}{EX:PX->Hp->Prop}{H0 H H':Hp}{σ:St}{Γ Γ1 Γ2 Γ3 Γl Γt:List Md}{ρ:List PV}{F F':Nat->List Addr}{k:Kd}{x:PV}{v:V}{fc:List PV->Rr PV}{t:TS}{g:List PV->RS}{D:Zj7}
theorem Zil{wi:TI}{gt:TG}{fi:List PV->Rr (List PV)}{h:PV->List PV->Rr (List PV)}(hi:DI K EX Γ Γ1 wi fi)(hw:ZeC Γ1 Γl=true)(hg:DG K EX Γl Γt gt h)(hb:DS K EX Γt ⟨Γl,Γl,Γl,k⟩ t g) :
  DS K EX Γ ⟨Γl,Γ2,Γ3,k⟩ (ZtY wi gt t) (fun ρ=>(fi ρ).thenS fun xs=>Zj5 (fun x ρ=>(h x ρ).thenS g) xs ρ):=fun B H0 H σ ρ F D A d=>by
 refine hi B H0 H σ ρ F [] _ A (d.thenS.imp (fun xs _ d J H1 F1 s1 f1 A1 it=>?_) fun e q=>q)
 obtain⟨Fl,fl,Al⟩:=A1.weak hw
 have fr0:Frm H F H1 Fl:=Frm.of s1 fun j a ha=>f1 j a (fl j a ha)
 have fr1:Frm H1 F1 H1 Fl:=Frm.of (ZL.refl _) fl
 refine⟨fun i m σ' H'=>∃ρ' F',m=xs.length-i/\i<=xs.length/\Frm H1 F1 H' F'/\Ag K B H0 H' σ' Γl ρ' F' []/\DnS K B EX ⟨Γl,Γ2,Γ3,k⟩ H0 H' F' D (Zj5 (fun x ρ=>(h x ρ).thenS g) (xs.drop i) ρ'),
  ⟨xs.length,ρ,Fl,by simp,Z4p _,fr1,Al,by simpa using DnS.shift fr0 d⟩, ?_⟩
 rintro i m σ' H' ⟨ρ',F',rfl,hi',fr,A',dn⟩
 have itp:=it H' F' fr i
 cases hx:xs[i]? with
 |none =>
  refine .inl ⟨itp.2 hx, ?_⟩
  have hd:xs.drop i=[]:=Z3V (Z3N.mp hx)
  rw[hd] at dn
  exact dn σ' H' F' Frm.refl A'
 |some x =>
  have hlt:i<xs.length:=(Z37.mp hx).1
  obtain⟨go,yl⟩:=itp.1 x hx
  have hdx:xs.drop i=x::xs.drop (i+1):=by
   rw[Z4c hlt]
   rw[Z3r hlt] at hx;cases hx;rfl
  rw[hdx] at dn
  simp only[Zj5] at dn
  refine .inr ⟨go,fun σ2 H2=>∃ρ2 F2,Frm H1 F1 H2 F2/\Ag K B H0 H2 σ2 Γl ρ2 F2 []/\DnS K B EX ⟨Γl,Γ2,Γ3,k⟩ H0 H2 F2 D (Zj5 (fun x ρ=>(h x ρ).thenS g) (xs.drop (i+1)) ρ2),
   fun σ2 H2 ⟨ρ2,F2,a1,a2,a3⟩=>⟨xs.length-(i+1),by omega,ρ2,F2,rfl,hlt,a1,a2,a3⟩,fun v H3 y=>?_⟩
  obtain⟨s3,rx⟩:=yl v H3 y
  have fr3:Frm H' F' H3 F':=Frm.of s3 fun _ _ h=>h
  refine hg B H0 H3 σ' ρ' F' v x _ (A'.grow s3) (Rep.mono (fun a us s r=>⟨r,s.1⟩) (fun a us r=>r) rx) ?_
  cases e:h x ρ' with
  |ok ρt =>
   rw[e] at dn
   refine fun σt Ft ft At=>hb B H0 H3 σt ρt Ft _ At ?_
   have frt:Frm H' F' H3 Ft:=Frm.of s3 ft
   simp only[Rr.thenS_ok] at dn
   cases e2:g ρt with
   |next ρ2=>rw[e2] at dn;exact fun σ2 H2 F2 fr2 A2=>⟨ρ2,F2,fr.trans (frt.trans fr2),A2,DnS.shift (frt.trans fr2) dn⟩
   |cont ρ2=>rw[e2] at dn;exact fun σ2 H2 F2 fr2 A2=>⟨ρ2,F2,fr.trans (frt.trans fr2),A2,DnS.shift (frt.trans fr2) dn⟩
   |brk ρ2=>rw[e2] at dn;exact fun σ2 H2 F2 fr2 A2=>dn σ2 H2 F2 (frt.trans fr2) A2
   |ret y=>rw[e2] at dn;exact dn
   |exc q=>rw[e2] at dn;exact dn
   |bad=>rw[e2] at dn;exact dn
  |exc q=>rw[e] at dn;exact dn
  |bad=>rw[e] at dn;exact dn
theorem ZeL{c:TT}{fc:List PV->Rr Bool}(hc:DT K EX Γ Γ c fc)(hb:DS K EX Γ ⟨Γ,Γ,Γ,k⟩ t g):DS K EX Γ ⟨Γ,Γ2,Γ3,k⟩ (ZnB c t) (fun ρ=>QH fc g ρ):=fun B H0 H σ ρ F D A d=>by
 dsimp only at d
 have ex:∃n,VM fc g n ρ=some (QH fc g ρ):=by
  by_cases hx:∃n r,VM fc g n ρ=some r
  ·obtain⟨n,r,e⟩:=hx
   exact⟨n,by rw[Zfd e];exact e⟩
  ·unfold QH at d
   rw[dif_neg hx] at d
   exact d.elim
 obtain⟨n0,e0⟩:=ex
 generalize hr:QH fc g ρ=r at e0 d
 refine⟨fun m σ' H'=>∃ρ' F',Frm H F H' F'/\Ag K B H0 H' σ' Γ ρ' F' []/\VM fc g m ρ'=some r,⟨n0,ρ,F,Frm.refl,A,e0⟩, ?_⟩
 rintro m σ' H' ⟨ρ',F',fr,A',e⟩
 cases m with
 |zero=>cases e
 |succ m =>
  unfold VM at e
  refine hc B H0 H' σ' ρ' F' [] _ A' ?_
  cases e1:fc ρ' with
  |ok b =>
   rw[e1] at e
   refine fun H2 F2 s2 f2 A2=>?_
   have fr2:Frm H' F' H2 F2:=Frm.of s2 f2
   cases b with
   |true =>
    refine⟨fun σ3 H3=>∃ρ3 F3,Frm H F H3 F3/\Ag K B H0 H3 σ3 Γ ρ3 F3 []/\VM fc g m ρ3=some r,fun σ3 H3 h=>⟨m,Z4S _,h⟩, ?_⟩
    refine hb B H0 H2 σ' ρ' F2 _ A2 ?_
    cases e2:g ρ' with
    |next ρ2=>rw[e2] at e;exact fun σ3 H3 F3 fr3 A3=>⟨ρ2,F3,fr.trans (fr2.trans fr3),A3,e⟩
    |cont ρ2=>rw[e2] at e;exact fun σ3 H3 F3 fr3 A3=>⟨ρ2,F3,fr.trans (fr2.trans fr3),A3,e⟩
    |brk ρ2 =>
     rw[e2] at e
     have e':RS.next ρ2=r:=Option.some.inj e
     rw[<- e'] at d
     exact fun σ3 H3 F3 fr3 A3=>d σ3 H3 F3 (fr.trans (fr2.trans fr3)) A3
    |ret y =>
     rw[e2] at e
     have e':RS.ret y=r:=Option.some.inj e
     rw[<- e'] at d
     exact d
    |exc q =>
     rw[e2] at e
     have e':RS.exc q=r:=Option.some.inj e
     rw[<- e'] at d
     exact d
    |bad =>
     rw[e2] at e
     have e':RS.bad=r:=Option.some.inj e
     rw[<- e'] at d
     exact d
   |false =>
    have e':RS.next ρ'=r:=Option.some.inj e
    rw[<- e'] at d
    exact d σ' H2 F2 (fr.trans fr2) A2
  |exc q =>
   rw[e1] at e
   have e':RS.exc q=r:=Option.some.inj e
   rw[<- e'] at d
   exact d
  |bad =>
   rw[e1] at e
   have e':RS.bad=r:=Option.some.inj e
   rw[<- e'] at d
   exact d
theorem Trees.get:∀{xs:List PV}{vs:List V}{G:List Addr}{j:Nat}{x:PV},Trees K H xs vs G->xs[j]?=some x->∃v G',vs[j]?=some v/\Vd K H x v G'/\∀a∈G',a∈G
 |[],_,_,_,_,_,e=>by simp at e
 |y::xs,_,_,0,x,h,e=>by
  obtain⟨v,r,G1,G2,rfl,h1,h2,h3,rfl⟩:=h
  simp at e;subst e
  exact⟨v,G1,rfl,h1,fun a ha=>by simp[ha]⟩
 |y::xs,_,_,j+1,x,h,e=>by
  obtain⟨v,r,G1,G2,rfl,h1,h2,h3,rfl⟩:=h
  obtain⟨w,G',e1,e2,e3⟩:=Trees.get (j:=j) h2 (by simpa using e)
  exact⟨w,G',by simpa using e1,e2,fun a ha=>by simp[e3 a ha]⟩
end
noncomputable def RS.out:RS->Rr PV
 |.next _=>.ok .non
 |.ret x=>.ok x
 |.exc e=>.exc e
 |.brk _=>.bad
 |.cont _=>.bad
 |.bad=>.bad
@[simp] theorem RS.out_next{ρ:List PV}:(RS.next ρ).out=.ok .non:=rfl
@[simp] theorem RS.out_ret{x:PV}:(RS.ret x).out=.ok x:=rfl
@[simp] theorem RS.out_exc{e:PX}:(RS.exc e).out=.exc e:=rfl
def Ref(r r':Rr PV):Prop:=r=.bad\/r=r'
structure Pm where
 α:Type
 enc:α->List PV
 pre:α->Prop
 out:α->Rr PV
open Classical in
noncomputable def Pm.fn(m:Pm)(xs:List PV):Rr PV:=if h:∃a,m.enc a=xs/\m.pre a then m.out h.choose else .bad
theorem Pm.fn_eq(m:Pm)(a:m.α)(h:m.pre a)(inj:∀b,m.enc b=m.enc a->m.out b=m.out a):m.fn (m.enc a)=m.out a:=by
 unfold Pm.fn
 have hx:∃b,m.enc b=m.enc a/\m.pre b:=⟨a,rfl,h⟩
 rw[dif_pos hx]
 exact inj _ hx.choose_spec.1
theorem Pm.ref(m:Pm){g:List PV->Rr PV}(h:∀a,m.pre a->g (m.enc a)=m.out a)(xs:List PV):Ref (m.fn xs) (g xs):=by
 unfold Pm.fn
 by_cases hx:∃a,m.enc a=xs/\m.pre a
 ·rw[dif_pos hx]
  have h2:=hx.choose_spec
  right
  have:=h _ h2.2
  rw[h2.1] at this
  exact this.symm
 ·rw[dif_neg hx];exact .inl rfl
section
variable {K:W.Frag}{B:Addr->Prop}{H:Hp}
theorem Ag.init{xs:List PV}{vs:List V}{n:Nat}(h:Reps K H B xs vs):Ag K (fun a=>B a\/H a=none) H H (vs.map some++List.replicate n none) (List.replicate xs.length .S++List.replicate n .U) (xs++List.replicate n .non) (fun _=>[]) []:=by
 refine⟨ZL.refl _,fun a h=>.inr h,by simp,by simp,by simp,by simp,by simp,by simp,by simp[h.length],by simp,fun i=>?_⟩
 by_cases hi:i<xs.length
 ·have e1:(List.replicate xs.length Md.S++List.replicate n Md.U).getD i .U=.S:=by
   rw[Z3n,Z3x (by simpa using hi),Z4B hi];rfl
  have e2:(xs++List.replicate n PV.non).getD i .non=xs[i]:=by
   rw[Z3n,Z3x hi,Z3r hi];rfl
  rw[e1,e2]
  obtain⟨v,h1,h2⟩:=h.get (Z3r hi)
  refine⟨rfl,v, ?_,Rep.mono (fun a us s r=>⟨r,.inl s,by simp,by simp⟩) (fun a us r=>r) h2⟩
  rw[Z3x (by rw[Z3w,h.length];exact hi),Z3A,h1];rfl
 ·have e1:(List.replicate xs.length Md.S++List.replicate n Md.U).getD i .U=.U:=by
   rw[Z3n,Z34 (by simpa using hi)]
   by_cases q:i-(List.replicate xs.length Md.S).length<n
   ·rw[Z4B q];rfl
   ·rw[Z30 (by simpa using q)];rfl
  rw[e1]
  exact rfl
end
section
variable {P:Program}{w:World}{K:W.Frag}{mg:Str->Option Value}{base:Heap}
theorem Fun.okP{x qual:Str}{st:Stmt}{f:Addr}{fd:FuncData}{N ps:List Str}{k n l:Nat}{kd:Kd}{m:List PV->Rr PV}(F:Fun K x qual st f fd)(S:Zr N ps (Zm st))(hn:ps.length=n)(hl:N.length-n=l)(hbody:∀(cdv:Value) (A:Around) (outer:List Env) (s:Shared) (H:Hp) (E:XK),ZbC k (A.deeper (envOfC qual (Zm st) s.heap.objs.size f cdv)) ->
   ∃t g Y,Y.r=kd/\PSs (ZdP CX0 P w K mg base N qual (Zm st) f cdv A outer s H E).nox (Vr st) t/\DS K X0 (List.replicate n .S++List.replicate l .U) Y t g/\∀xs,Ref (m xs) (g (xs++List.replicate l .non)).out)(hkN:kd≠.N:=by nofun)(hkM:kd≠.M:=by nofun) :
  Jp P w K mg base CX0 (k+1) f fd ps (spF K n kd W0 m):=by
 refine F.ok S (fun vs H Q E h=>?_) (fun cdv A outer s H vs Q E hr h=>?_)
 ·obtain⟨B,xs,h1,h2,_⟩:=h
  rw[h1.length,h2,hn]
 ·obtain⟨B,xs,h1,h2,dn⟩:=h
  obtain⟨t,g,Y,hY,ht,hd,href⟩:=hbody cdv A outer s H E hr
  refine⟨t,ht, ?_⟩
  have A0:=Ag.init (n:=l) h1
  have est:ZcK N vs=vs.map some++List.replicate l none:=by
   unfold ZcK
   rw[h1.length,h2,hl]
  rw[est]
  rw[h2] at A0
  refine hd _ H H _ _ _ _ A0 ?_
  have hdn:Dn (g (xs++List.replicate l .non)).out (fun x=>∀v H',ZL H H'->Zo7 K B H kd x v H'->Q v H') (fun e=>∀H',ZL H H'->W0 e E H'):=by
   rcases href xs with e|e
   ·rw[e] at dn;exact dn.elim
   ·rw[<- e];exact dn
  have retK:∀{x v H'},Zo7 K (fun a=>B a\/H a=none) H kd x v H'->Zo7 K B H kd x v H':=fun {x v H'} h=>by
   cases kd with
   |P=>exact h
   |F=>exact h
   |T=>exact Rep.mono (fun a us s r=>⟨r,s.elim id .inr⟩) (fun a us r=>r) h
   |Z=>exact Rep.mono (fun a us s r=>⟨r,s.elim id .inr⟩) (fun a us r=>r) h
   |A=>exact Rep.mono (fun a us s r=>⟨r,s.elim id .inr⟩) (fun a us r=>r) h
   |N=>exact h
   |M=>exact h
  cases e:g (xs++List.replicate l .non) with
  |next ρ =>
   rw[e] at hdn
   refine fun σ' H' F' fr A'=>hdn .non H' A'.same ?_
   cases kd with
   |P=>exact⟨rfl,rfl⟩
   |F=>exact⟨[],⟨rfl,rfl⟩,by simp⟩
   |T=>exact rfl
   |Z=>exact rfl
   |A=>exact rfl
   |N=>exact absurd rfl hkN
   |M=>exact absurd rfl hkM
  |ret x=>rw[e] at hdn;exact fun v H' s r=>hdn v H' s (retK (hY▸r))
  |exc q=>rw[e] at hdn;exact fun H' s=>hdn H' s
  |brk ρ=>rw[e] at hdn;exact hdn.elim
  |cont ρ=>rw[e] at hdn;exact hdn.elim
  |bad=>rw[e] at hdn;exact hdn.elim
end
section
variable {K:W.Frag}{n:Nat}{m:List PV->Rr PV}{e:Expr}{ta:TA}{Γ Γ':List Md}{fa:List PV->Rr (List PV)}
theorem Zs7(hn:Len fa n)(ha:DAA K X0 Γ Γ' ta fa):DE K X0 Γ Γ' .F (ZdW (spF K n .F W0 m) ta) (fun ρ=>(fa ρ).bind m):=ZeQ (E:=E0) (W:=W0) (fun σ H Q h=>h) (fun e H' h=>h) hn ha
theorem Znr(hn:Len fa n)(ha:DAA K X0 Γ Γ' ta fa):DE K X0 Γ Γ' .P (ZdW (spF K n .P W0 m) ta) (fun ρ=>(fa ρ).bind m):=Zip (E:=E0) (W:=W0) (fun σ H Q h=>h) (fun e H' h=>h) hn ha
end
theorem Zje{K:W.Frag}{H:Hp}{a:Addr}{ns:List Int}{m:List PV->Rr PV}(hm:m [.lst (ns.map PV.int)]=.ok (.bl true))(hS:SqL K H a (ns.map V.int)):spF K 1 .P W0 m [.ref a] H (fun v _=>v=.bl true) fun _ _ _=>False:=by
 refine⟨fun _=>True,[.lst (ns.map PV.int)],Reps.one ⟨a,_,rfl,hS.elim (fun h=>.inl ⟨h,trivial⟩) .inr,ZfL ns⟩,rfl, ?_⟩
 rw[hm]
 exact fun v H' _ r=>r.2
section
noncomputable def ZsZ(xs:List PV):Rr PV:=match xs with
 |[.int i,.int j]=>.ok (.int (if j>i then j else i))
 |_=>.bad
end
def RS.good(r:RS)(I:List PV->Prop):Prop:=match r with
 |.next ρ=>I ρ
 |.cont ρ=>I ρ
 |_=>False
theorem RS.good_ex{r:RS}{I:List PV->Prop}(h:r.good I):∃ρ',(r=.next ρ'\/r=.cont ρ')/\I ρ':=by
 cases r with
 |next ρ=>exact⟨ρ,.inl rfl,h⟩
 |cont ρ=>exact⟨ρ,.inr rfl,h⟩
 |ret x=>exact h.elim
 |brk ρ=>exact h.elim
 |exc e=>exact h.elim
 |bad=>exact h.elim
theorem Znc{b:PV->List PV->RS}{xs:List PV}{ρ:List PV}(I:Nat->List PV->Prop)(h0:I 0 ρ)(h:∀i x ρ,xs[i]?=some x->I i ρ->(b x ρ).good (I (i+1))) :
  ∃ρ',Zj5 b xs ρ=.next ρ'/\I xs.length ρ':=by
 have key:∀n i ρ,xs.length=i+n->I i ρ->∃ρ',Zj5 b (xs.drop i) ρ=.next ρ'/\I xs.length ρ':=by
  intro n
  induction n with
  |zero =>
   intro i ρ hl hI
   rw[Z3V (by omega)]
   exact⟨ρ,rfl,by rw[hl];exact hI⟩
  |succ n ih =>
   intro i ρ hl hI
   have hi:i<xs.length:=by omega
   rw[Z4c hi]
   obtain⟨ρ',h1,h2⟩:=RS.good_ex (h i _ ρ (Z3r hi) hI)
   obtain⟨ρ2,h3,h4⟩:=ih (i+1) ρ' (by omega) h2
   refine⟨ρ2, ?_,h4⟩
   simp only[Zj5]
   rcases h1 with h1|h1<;>(rw[h1];exact h3)
 exact key xs.length 0 ρ (by omega) h0
theorem Zmm{lo:Int}{n i:Nat}{x:PV}(h:(Ze0 lo n)[i]?=some x):i<n/\x=.int (lo+i):=by
 unfold Ze0 at h
 rw[Z3A] at h
 by_cases hi:i<n
 ·rw[Z3U hi] at h;cases h;exact⟨hi,rfl⟩
 ·rw[Z30 (by simpa using hi)] at h;cases h
@[simp] theorem Zdy{lo:Int}{n:Nat}:(Ze0 lo n).length=n:=by simp[Ze0]
theorem ZgH{α β:Type}{f:α->Rr β}{g:α->β}:∀{xs:List α},(∀x∈xs,f x=.ok (g x))->Zf8 f xs=.ok (xs.map g)
 |[],_=>rfl
 |x::xs,h=>by
  simp only[Zf8,h x (by simp),Rr.bind_ok,ZgH (xs:=xs) fun y hy=>h y (by simp[hy]),Z31]
@[simp] theorem Zlb{x:PV}{ρ:List PV}:gv 0 (x::ρ)=x:=rfl
@[simp] theorem Zlc{x:PV}{ρ:List PV}{i:Nat}:gv (i+1) (x::ρ)=gv i ρ:=rfl
theorem Zde{ns:List Int}{k:Int}(h0:0<=k)(h1:k<ns.length):pIx (.lst (ns.map PV.int)) (.int k)=.ok (.int (ns.getD k.toNat 0)):=by
 have:atI (ns.map PV.int) k=some (.int (ns.getD k.toNat 0)):=by
  unfold atI
  rw[Z3w,ZfJ h0 h1]
  show (ns.map PV.int)[k.toNat]?=_
  rw[Z3A,Z3r (by omega),Z3n,Z3r (by omega)]
  rfl
 simp only[pIx,this]
theorem Zko{ns:List Int}{k y:Int}(h0:0<=k)(h1:k<ns.length):pSet (.lst (ns.map PV.int)) (.int k) (.int y)=.ok (.lst ((ns.set k.toNat y).map PV.int)):=by
 simp only[pSet,Z3w,ZfJ h0 h1,List.map_set]
theorem Zk3{ns:List Int}{y:Int}(h:ns.length<1000000):pApp (.lst (ns.map PV.int)) (.int y)=.ok (.lst ((ns++[y]).map PV.int)):=by
 simp only[pApp,Z3w,if_pos h,Z3P,Z31,Z4f]
theorem VT{ns:List Int}(h:ns.length<=1000000):newF (ns.map PV.int)=.ok (.lst (ns.map PV.int)):=by
 unfold newF
 rw[PV.flats_ints,Z3w,decide_eq_true h];rfl
theorem Zb9(ns:List Int):PV.dats (ns.map PV.int)=ns.map PyData.int:=by
 induction ns with
 |nil=>rfl
 |cons n ns ih=>simp[PV.dats,PV.dat,ih]
theorem ZdE(ns:List Int):PyData.canLayAll0 (ns.map PyData.int)=true:=by
 induction ns with
 |nil=>rfl
 |cons n ns ih=>simp[PyData.canLayAll0,PyData.canLay0,ih]
theorem Zk9(i:Int):okD (.int i)=true:=by simp[okD,PV.noX,PV.dat,PyData.canLay0,PyData.depth]
theorem ZhS(ns:List Int):okD (.lst (ns.map PV.int))=true:=by
 have hd:PyData.depthAll (ns.map PyData.int)=0:=by
  induction ns with
  |nil=>rfl
  |cons n ns ih=>simp[PyData.depthAll,PyData.depth,ih]
 simp[okD,PV.noX,PV.noXs_ints,PV.dat,Zb9,PyData.canLay0,ZdE,PyData.depth,hd]
theorem QD:∀(ns ms:List Int),PyData.eqvAll (ns.map PyData.int) (ms.map PyData.int)=decide (ns=ms)
 |[],[]=>by simp[PyData.eqvAll]
 |[],m::ms=>by simp[PyData.eqvAll]
 |n::ns,[]=>by simp[PyData.eqvAll]
 |n::ns,m::ms=>by
  simp only[Z31,PyData.eqvAll,PyData.eqv,QD ns ms,List.cons.injEq,Bool.decide_and]
  rw[Bool.beq_eq_decide_eq]
theorem Zdf{g:Bool->Bool}(ns ms:List Int):ZO g (.lst (ns.map PV.int)) (.lst (ms.map PV.int))=.ok (.bl (g (decide (ns=ms)))):=by
 unfold ZO
 rw[ZhS,ZhS]
 simp only[Bool.and_self,if_true,PV.dat,Zb9,PyData.eqv,QD]
theorem Zk0{g:Bool->Bool}(i j:Int):ZO g (.int i) (.int j)=.ok (.bl (g (decide (i=j)))):=by
 unfold ZO
 rw[Zk9,Zk9]
 simp only[Bool.and_self,if_true,PV.dat,PyData.eqv]
 rw[Bool.beq_eq_decide_eq]
theorem ZhR(ns:List Int)(i:Int):okD (.tup [.lst (ns.map PV.int),.int i])=true:=by
 have hd:PyData.depthAll (ns.map PyData.int)=0:=by
  induction ns with
  |nil=>rfl
  |cons n ns ih=>simp[PyData.depthAll,PyData.depth,ih]
 simp[okD,PV.noX,PV.noXs,PV.noXs_ints,PV.dat,PV.dats,Zb9,PyData.canLay0,PyData.canLayAll0,ZdE,PyData.depth,PyData.depthAll,hd]
theorem ZhP{g:Bool->Bool}(ns ms:List Int)(i j:Int):ZO g (.tup [.lst (ns.map PV.int),.int i]) (.tup [.lst (ms.map PV.int),.int j])=.ok (.bl (g (decide (ns=ms)&&decide (i=j)))):=by
 unfold ZO
 rw[ZhR,ZhR]
 simp only[Bool.and_self,if_true,PV.dat,PV.dats,Zb9,PyData.eqv,PyData.eqvAll,QD,Bool.and_true]
 rw[Bool.beq_eq_decide_eq]
theorem Zf1(ns:List Int):Zg6 [.lst (ns.map PV.int)]=.ok (.int ns.length):=by simp[Zg6]
theorem Zf0(ns:List Int):ZsU [.lst (ns.map PV.int)]=.ok (.int ns.sum):=by simp[ZsU,ZiH]
theorem ZiG{ns:List Int}(h:ns.length<=1000000):Zm4 [.lst (ns.map PV.int)]=.ok (.lst (ns.map PV.int)):=by
 simp only[Zm4];exact VT h
theorem VD{ns ms:List Int}(h:ns.length+ms.length<=1000000):newF (ns.map PV.int++ms.map PV.int)=.ok (.lst ((ns++ms).map PV.int)):=by
 rw[<- Z3P];exact VT (by simpa using h)
theorem Zkq{ns:List Int}{k:Int}(h0:ns.length*k.toNat<=1000000)(h1:-(2^63)<=k)(h2:k<2^63):ZsW (ns.map PV.int) (.int k)=.ok (.lst ((List.replicate k.toNat ns).flatten.map PV.int)):=by
 simp only[ZsW,Z3w]
 rw[if_pos ⟨h0,h1,h2⟩]
 have e:(List.replicate k.toNat (ns.map PV.int)).flatten=(List.replicate k.toNat ns).flatten.map PV.int:=by
  rw[List.map_flatten,List.map_replicate]
 rw[e]
 refine VT ?_
 rw[Zpt,Nat.mul_comm];exact h0
theorem ZpI{i j:Int}(a b:Nat)(h1:i.natAbs<=10^a)(h2:j.natAbs<=10^b)(ha:a<=4000:=by decide)(hb:b<=4000:=by decide):Zh0 i j:=by
 have t:∀c:Nat,c<=4000->(10:Nat)^c<2^60000:=fun c hc=>Z3Z (Z4t (by decide) hc) (by decide +kernel)
 exact⟨Z3Z h1 (t a ha),Z3Z h2 (t b hb)⟩
theorem ZpJ{i j:Int}(b:Nat)(h1:0<j)(h2:j.natAbs<=10^b)(hb:b<=2000:=by decide):Zh1 i j:=by
 have t:∀c:Nat,c<=2000->(10:Nat)^c<2^9000:=fun c hc=>Z3Z (Z4t (by decide) hc) (by decide +kernel)
 exact⟨h1,Z3Z h2 (t b hb)⟩
theorem Zpe{i j:Int}(h:Zh1 i j):Ztd (.int i) (.int j)=.ok (.int (i/j)):=ZhU (decide_eq_true h)
theorem Zkt{i j:Int}(h:Zh0 i j):ZsX (.int i) (.int j)=.ok (.int (i*j)):=ZhU (decide_eq_true h)
theorem Zku{i j:Int}(h:0<j):Zqf (.int i) (.int j)=.ok (.int (i%j)):=ZhU (decide_eq_true h)
theorem Ze7{i j:Int}(h:Zqs i j):Zqe (.int i) (.int j)=.ok (.int (i^j.toNat)):=ZhU (decide_eq_true h)
@[simp] theorem Zk4{i j:Int}:Zun (.int i) (.int j)=.ok (.int (i+j)):=rfl
@[simp] theorem Zkn{i j:Int}:Zuj (.int i) (.int j)=.ok (.int (i-j)):=rfl
@[simp] theorem ZnS{i j:Int}:pLt (.int i) (.int j)=.ok (.bl (decide (i<j))):=rfl
@[simp] theorem ZnT{i j:Int}:pLe (.int i) (.int j)=.ok (.bl (decide (i<=j))):=rfl
@[simp] theorem Zoa{i j:Int}:pGt (.int i) (.int j)=.ok (.bl (decide (j<i))):=rfl
@[simp] theorem Zob{i j:Int}:pGe (.int i) (.int j)=.ok (.bl (decide (j<=i))):=rfl
@[simp] theorem Zlg{i:Int}:grd (.int i)=.ok (.int i):=rfl
@[simp] theorem Zot{i:Bool}:grd (.bl i)=.ok (.bl i):=rfl
@[simp] theorem Zle{i:Str}:grd (.str i)=.ok (.str i):=rfl
@[simp] theorem Zlf:grd .non=.ok .non:=rfl
@[simp] theorem Zo2{b:Bool}:asB (.bl b)=.ok b:=rfl
@[simp] theorem ZlK{xs:List PV}:asL (.lst xs)=.ok xs:=rfl
@[simp] theorem ZlL{i:Int}:asI (.int i)=.ok i:=rfl
@[simp] theorem ZkY{xs:List PV}:isL (.lst xs)=.ok (.lst xs):=rfl
@[simp] theorem ZnY{n:String}{x:Int}:Zm6 n (.int x)=.ok (.bl (Zb3 (Vx (.int x)) n)):=rfl
@[simp] theorem ZnZ{n:String}{x:Bool}:Zm6 n (.bl x)=.ok (.bl (Zb3 (Vx (.bl x)) n)):=rfl
@[simp] theorem ZnX{n:String}{x:List PV}:Zm6 n (.lst x)=.ok (.bl (Zb3 (Vx (.lst x)) n)):=rfl
@[simp] theorem ZnV{n:String}{x:List PV}:Zm6 n (.tup x)=.ok (.bl (Zb3 (Vx (.tup x)) n)):=rfl
@[simp] theorem ZnW{n:String}:Zm6 n .non=.ok (.bl (Zb3 "NoneType" n)):=rfl
@[simp] theorem Zks{i:Int}:Zsx (.int i)=.ok (.int (-i)):=rfl
theorem ZrU{n:Nat}{xs:List PV}(h:xs.length=n):asT n (.tup xs)=.ok xs:=by simp[asT,h]
@[simp] theorem ZnU{x:PV}{xs:List PV}:pIx (.tup (x::xs)) (.int 0)=.ok x:=by simp[pIx,atI,ixN]
@[simp] theorem Zkw{x y:PV}{xs:List PV}:pIx (.tup (x::y::xs)) (.int 1)=.ok y:=by
 have:atI (x::y::xs) 1=some y:=by unfold atI;rw[ZfJ (by omega) (by simp only[Z3t];omega)];rfl
 simp only[pIx,this]
theorem Zmz{j:Int}(h:-(2^62)<=j/\j<2^62):Zm0 [.int j]=.ok (Ze0 0 j.toNat):=by simp only[Zm0,okR,decide_eq_true h,if_true]
theorem Zmx{i j:Int}(h:-(2^62)<=i/\i<2^62)(h':-(2^62)<=j/\j<2^62):Zmy [.int i,.int j]=.ok (Ze0 i (j-i).toNat):=by simp only[Zmy,okR,decide_eq_true h,decide_eq_true h',Bool.and_self,if_true]
theorem Zpu{xs:List PV}(h:xs.length<=1000000):lenM xs=.ok ():=by simp only[lenM,if_pos h]
@[simp] theorem Zif:Zb3 (Vx (.int i)) "int"=true:=rfl
@[simp] theorem Zig:Zb3 (Vx (.int i)) "bool"=false:=rfl
@[simp] theorem Zie:Zb3 (Vx (.lst xs)) "list"=true:=rfl
@[simp] theorem Zid:Zb3 (Vx (.tup xs)) "tuple"=true:=rfl
theorem Zf4{I:List PV->Prop}{ρ:List PV}(h:I ρ):(RS.next ρ).good I:=h
theorem Zih{h:PV->List PV->Rr (List PV)}{hs:List PV->List PV->Rr (List PV)}{x:PV}{xs ρ:List PV}:hdR h hs (x::xs) ρ=(h x ρ).bind fun ρ'=>hs xs ρ':=rfl
theorem ZhW{ρ:List PV}:Zup [] ρ=.ok ρ:=rfl
theorem Zd9{ns ms:List Int}(e:ns.map PV.int=ms.map PV.int):ns=ms:=by
 have:=congrArg ZcE e
 simpa using this
theorem Zej{i j:Int}(h0:0<j)(h1:j<1000000000000):Ztd (.int i) (.int j)=.ok (.int (i/j)):=Zpe (ZpJ 12 h0 (by omega))
theorem Zrf:Zqe (.int 10) (.int 60)=.ok (.int (10^60)):=by rw[Ze7 (by decide)];rfl
theorem Zoi{xs:List PV}(h:xs.length<=1000):mkT xs=.ok (.tup xs):=if_pos h
theorem Zoj{xs:List PV}(h:xs.length<=1000):mkL xs=.ok (.lst xs):=if_pos h
noncomputable def KD{α:Type}:Sem α->Prop
 |.pure _=>True
 |.raise _=>True
 |.unsupported _=>True
 |.finish _=>True
 |.rule _ k=>KD (k ())
 |.at _ k=>KD (k ())
 |.load _ _ k=>∀o,KD (k o)
 |.update _ _ f k=>(∀o:Obj,(f o).dict=o.dict/\(o.isFreed=false->(f o).isFreed=false))/\KD (k ())
 |.alloc _ k=>∀a,KD (k a)
 |.loadIfAlive _ k=>∀o,KD (k o)
 |.point _ k=>KD (k ())
 |.register _ _=>True
 |.fresh k=>∀t,KD (k t)
 |.ask k=>∀x,KD (k x)
 |.choose _ _ k=>∀n,KD (k n)
 |.os _ _ k=>∀r,KD (k r)
 |.call _ _ _ _ _=>False
 |.handled _ k=>∀x,KD (k x)
 |.newGen _ k=>∀g,KD (k g)
 |.genState _ k=>∀x,KD (k x)
 |.resume _ _ _ _=>False
 |.yield _ _ _ _=>True
 |.stack k=>∀x,KD (k x)
 |.fork _ _=>True
 |.thread k=>∀x,KD (k x)
 |.await _ _ _ _ _=>True
def DK(h h':Heap):Prop:=∀b o,h.get? b=some o->∃o',h'.get? b=some o'/\o'.dict=o.dict
theorem DK.refl(h:Heap):DK h h:=fun b o e=>⟨o,e,rfl⟩
theorem DK.trans{h1 h2 h3:Heap}(a:DK h1 h2)(b:DK h2 h3):DK h1 h3:=fun x o e=>by
 obtain⟨o1,e1,d1⟩:=a x o e
 obtain⟨o2,e2,d2⟩:=b x o1 e1
 exact⟨o2,e2,d2.trans d1⟩
theorem Ztq{M:Model}{Γ:PySem.Ctx}{α:Type}{Q:α->Pos->Shared->Prop}{E:Value->Pos->Shared->Prop}{h0:Heap}:∀(t:Sem α) (p:Pos) (s:Shared),KD t->DK h0 s.heap->Sem.wp M Γ t Q E p s ->
  Sem.wp M Γ t (fun a p' s'=>Q a p' s'/\DK h0 s'.heap) (fun e p' s'=>E e p' s'/\DK h0 s'.heap) p s:=by
 intro t
 induction t with
 |pure a=>intro p s _ d h;exact⟨h,d⟩
 |raise e=>intro p s _ d h;exact⟨h,d⟩
 |unsupported w=>intro p s _ _ h;exact h
 |finish e=>intro p s _ _ h;exact h
 |rule t k ih=>intro p s k d h;exact ih () p s k d h
 |«at» q k ih=>intro p s k d h;exact ih () q s k d h
 |load a q k ih=>intro p s k d h;obtain⟨o,e,h⟩:=h;exact⟨o,e,ih o p s (k o) d h⟩
 |update a q f k ih =>
  intro p s k d h
  refine⟨h.1,ih () p _ k.2 (d.trans fun b o e=>?_) h.2⟩
  by_cases hb:a=b
  ·subst hb
   exact⟨_,Heap.get?_update_self f e ((k.1 o).2 (Heap.get?_some_iff.mp e).2),(k.1 o).1⟩
  ·exact⟨o,(Heap.get?_update_other _ f hb).trans e,rfl⟩
 |alloc o k ih=>intro p s k d h;exact ih _ p _ (k _) (d.trans fun b o' e=>⟨o',Heap.get?_push_of_some _ e,rfl⟩) h
 |loadIfAlive a k ih=>intro p s k d h;exact ih _ p s (k _) d h
 |point l k ih=>intro p s k d h;exact ih () p s k d h
 |register a k ih=>intro p s _ _ h;exact h
 |fresh k ih=>intro p s k d h;exact ih _ p _ (k _) d h
 |ask k ih=>intro p s k d h;exact ih _ p _ (k _) d h
 |choose a n k ih=>intro p s k d h;exact⟨h.1,ih _ p _ (k _) d h.2⟩
 |os q l k ih=>intro p s k d h;exact ih _ p _ (k _) d h
 |call c h g l k ih=>intro p s k d h;exact k.elim
 |handled o k ih=>intro p s k d h;exact ih _ p _ (k _) d h
 |newGen c k ih=>intro p s k d h;exact ih _ p _ (k _) d h
 |genState g k ih=>intro p s k d h;obtain⟨st,e,h⟩:=h;exact⟨st,e,ih _ p s (k _) d h⟩
 |resume g r l k ih=>intro p s k d h;exact k.elim
 |yield v g l k ih=>intro p s _ _ h;exact h
 |stack k ih=>intro p s k d h;exact ih _ p _ (k _) d h
 |fork c k ih=>intro p s _ _ h;exact h
 |thread k ih=>intro p s k d h;exact ih _ p _ (k _) d h
 |await a t d l k ih=>intro p s _ _ h;exact h
theorem Zd7{M:Model}{A:Around}{α:Type}{t:Sem α}{Q:α->Shared->Prop}{E:Value->Shared->Prop}{s:Shared}(k:KD t)(h:wpAny M A t Q E s):wpAny M A t (fun a s'=>Q a s'/\DK s.heap s'.heap) (fun e s'=>E e s'/\DK s.heap s'.heap) s:=
 fun Γ p hΓ=>Ztq t p s k (DK.refl _) (h Γ p hΓ)
theorem Je{α β:Type}:∀(m:Sem α) {f:α->Sem β},KD m->(∀a,KD (f a))->KD (m >>= f):=by
 intro m f
 show KD m->_->KD (m.bind f)
 induction m with
 |pure a=>intro _ h;exact h a
 |raise e=>intro _ _;trivial
 |unsupported w=>intro _ _;trivial
 |finish e=>intro _ _;trivial
 |rule t k ih=>intro k h;exact ih () k h
 |«at» q k ih=>intro k h;exact ih () k h
 |load a q k ih=>intro k h o;exact ih o (k o) h
 |update a q g k ih=>intro k h;exact⟨k.1,ih () k.2 h⟩
 |alloc o k ih=>intro k h a;exact ih a (k a) h
 |loadIfAlive a k ih=>intro k h o;exact ih o (k o) h
 |point l k ih=>intro k h;exact ih () k h
 |register a k ih=>intro _ _;trivial
 |fresh k ih=>intro k h a;exact ih a (k a) h
 |ask k ih=>intro k h a;exact ih a (k a) h
 |choose a n k ih=>intro k h a;exact ih a (k a) h
 |os q l k ih=>intro k h a;exact ih a (k a) h
 |call c h g l k ih=>intro k h;exact k.elim
 |handled o k ih=>intro k h a;exact ih a (k a) h
 |newGen c k ih=>intro k h a;exact ih a (k a) h
 |genState g k ih=>intro k h a;exact ih a (k a) h
 |resume g r l k ih=>intro k h;exact k.elim
 |yield v g l k ih=>intro _ _;trivial
 |stack k ih=>intro k h a;exact ih a (k a) h
 |fork c k ih=>intro _ _;trivial
 |thread k ih=>intro k h a;exact ih a (k a) h
 |await a t d l k ih=>intro _ _;trivial
theorem J4{α:Type}{a:α}:KD (pure a:Sem α):=trivial
theorem ZdO{α:Type}{w:String}:KD (unsupported w:Sem α):=trivial
theorem ZgZ{a:Addr}:KD (load a):=fun _=>trivial
theorem Zrw(g:Array Value->Array Value)(o:Obj):(Obj.mapFields g o).dict=o.dict/\(o.isFreed=false->(Obj.mapFields g o).isFreed=false):=by
 obtain⟨c,d,dt,sl⟩:=o
 cases dt<;>exact⟨rfl,fun h=>h⟩
theorem Zhb(v:Value):KD (fieldsOf v):=by
 unfold fieldsOf
 cases v<;>try exact ZdO
 refine Je _ ZgZ fun o=>?_
 cases o.data<;>first|exact J4|exact ZdO
theorem Zdh(v:Value)(i:Nat):KD (field v i):=by
 unfold field
 refine Je _ (Zhb v) fun vs=>?_
 cases vs[i]?<;>first|exact J4|exact ZdO
theorem QC(v:Value)(i:Nat)(x:Value):KD (setField v i x):=by
 unfold setField
 cases v<;>try exact ZdO
 unfold updateField
 refine Je _ ZgZ fun o=>?_
 cases o.data<;>try exact ZdO
 dsimp only
 split
 ·exact⟨fun o=>Zrw _ o,trivial⟩
 ·exact ZdO
theorem Ud(e:Value)(f:Option Addr):KD (setFlight e f):=by
 unfold setFlight
 refine Je _ (Zdh e 1) fun tb=>?_
 split
 ·exact QC _ _ _
 ·exact J4
theorem ZfH(ty:String)(vs:List Value):KD (newFields ty vs):=by
 unfold newFields newObj newObjAsIs
 dsimp only
 have al:∀(o:Obj),KD (alloc o):=fun _ _=>trivial
 split
 ·exact Je _ ZdO fun _=>Je _ (al _) fun _=>J4
 ·exact Je _ (al _) fun _=>J4
theorem ZkT(env:Env)(outer:List Env):KD (behindIsImport env outer):=by
 unfold behindIsImport
 split
 ·exact J4
 ·split
  ·exact J4
  ·exact Je _ (Zdh _ _) fun _=>J4
theorem Zha(env:Env)(i:Bool)(outer:List Env):KD (keptBack env i outer):=by
 cases outer with
 |nil =>
  have u:KD underTheClaimsCaller:=by
   unfold underTheClaimsCaller
   exact Je _ (show KD stack from fun _=>trivial) fun _=>J4
  rw[keptBack]
  split
  ·exact J4
  ·exact Je _ u fun _=>J4
 |cons c r=>unfold keptBack;exact J4
theorem ZmR{o:Obj}{sl:Array (Option Value)}:({ o with slots:=sl }:Obj).dict=o.dict/\(o.isFreed=false->({ o with slots:=sl }:Obj).isFreed=false):=by
 obtain⟨c,d,dt,s⟩:=o
 cases dt<;>exact⟨rfl,fun h=>h⟩
theorem Zib:∀(l:List Env),KD (readyFrames l)
 |[]=>trivial
 |env::outer=>by
  unfold readyFrames
  cases env.frame with
  |none=>exact ZdO
  |some f =>
   dsimp only
   refine Je _ ZgZ fun o=>?_
   split
   ·exact J4
   ·refine Je _ (ZkT _ _) fun _=>Je _ (Zha _ _ _) fun _=>Je _ ⟨fun o=>ZmR,trivial⟩ fun _=>Zib outer
theorem Zjh(env:Env):KD (PySem.frameOf env):=by
 unfold PySem.frameOf
 refine Je _ ?_ fun l=>Je _ ?_ fun r=>?_
 ·unfold frameEnvs
  exact Je _ (fun _=>trivial) fun _=>J4
 ·cases (List.dropWhile (fun x=>x.frame != env.frame) l) with
  |nil=>exact J4
  |cons a r=>exact Je _ (Zib _) fun _=>J4
 ·cases r<;>first|exact J4|exact ZdO
theorem ZmS(f:Addr)(b:Bool):KD (entryPlaceOf f b):=by
 unfold entryPlaceOf
 refine Je _ (show KD stack from fun _=>trivial) fun acts=>?_
 split<;>exact J4
theorem ZgY(e:Value)(env:Env):KD (noteFrame e env):=by
 unfold noteFrame
 cases env.frame with
 |none=>exact ZdO
 |some f =>
  dsimp only
  refine Je _ (Zdh _ _) fun head=>?_
  have tail:∀(hd:Bool),KD (do setField e 1 (<- EntryCells.newEntry head (<- PySem.frameOf env) .none (rawInt f) .none (<- entryPlaceOf f hd))):=fun hd =>
   Je _ (Zjh env) fun _=>Je _ (ZmS _ _) fun _=>Je _ (ZfH _ _) fun _=>QC _ _ _
  split
  ·refine Je _ (Zdh _ _) fun x=>?_
   split
   ·exact J4
   ·exact Je _ (QC _ _ _) fun _=>tail _
  ·exact tail _
theorem Zc7(env:Env)(e:Value):KD (leaving env e):=Je _ (ZgY e env) fun _=>Ud e none
theorem Vk.there{P:Program}{w:World}{H:Hp}{h:Heap}{a:Addr}{o:HO}(x:Vk P w H h a o):∃u,h.get? a=some u:=by
 cases o with
 |lst xs=>obtain⟨_,_,_,_,e⟩:=x;exact⟨_,e⟩
 |tup xs=>obtain⟨_,_,_,_,e,_⟩:=x;exact⟨_,e⟩
 |dK kvs=>obtain⟨_,_,_,_,o,_,_,e,_⟩:=x;exact⟨_,e⟩
 |dT kvs=>obtain⟨_,_,_,_,o,_,_,e,_⟩:=x;exact⟨_,e⟩
 |set S n=>obtain⟨o,_,_,_,e,_⟩:=x;exact⟨_,e⟩
 |ins C dx fs=>obtain⟨_,_,_,e,_⟩:=x;exact⟨_,e⟩
 |own y=>obtain⟨_,e⟩:=x;exact⟨_,e⟩
 |xd fs=>obtain⟨_,⟨_,_,_,e,_⟩,_⟩:=x;exact⟨_,e⟩
 |rng lo hi=>obtain⟨_,_,_,e⟩:=x;exact⟨_,e⟩
 |frz ob u=>exact⟨_,x.1⟩
 |tbl ps=>exact⟨_,x⟩
 |met f y=>exact⟨_,x⟩
 |ext φ=>exact x.2.1
def Zn4(H:Hp)(ea k:Addr)(o:Obj):Prop:=(o.dict=none/\k=ea)\/(o.dict=some k/\∃fs,H k=some (.xd fs))
structure Fly(P:Program)(w:World)(outer:List Env)(H:Hp)(s:Shared)(ea k:Addr)(cls:Value)(H':Hp)(s':Shared):Prop where
 os:s'.os=s.os
 bare:AllBare s'.gens
 un:Un (frs outer) [] H H' s.heap s'.heap
 hok:HOk P w H' s'.heap
 new:H' ea=none
 dict:∃o,s'.heap.get? ea=some o/\Zn4 H' ea k o
 fly:∃(Bh:Heap) (t:Addr),Heap.FlyingW Bh outer ea cls (.ref t) s'.heap/\(∀b u,H' b=some u->∀o,s'.heap.get? b=some o->Bh.get? b=some o)/\∀b o,s.heap.get? b=some o->b ∉ frs outer->∃o',Bh.get? b=some o'
noncomputable def CX1(P:Program)(w:World):CXT:=fun outer H s E e s'=>∃ea k cls H',e=.ref ea/\Fly P w outer H s ea k cls H' s'/\E cls (some k) H'
section
variable {P:Program}{w:World}{K:W.Frag}{mg:Str->Option Value}{base:Heap}{N:List Str}{qual:Str}{scope:Scope}{f:Addr}{cd:Value}{A:Around}{outer:List Env}{s:Shared}{H:Hp}{E:XK}{pins:List (Addr×Obj)}{σ:St}{H1 H':Hp}{s1 s':Shared}{g h'' Bh:Heap}{ea k t:Addr}{cls:Value}
theorem Zll(I:Inv (ZdP (CX1 P w) P w K mg base N qual scope f cd A outer s H E) pins σ H1 s1)(os:s'.os=s1.os)(bare:AllBare s'.gens)(un:Un (s.heap.objs.size::frs outer) [] H1 H' s1.heap g)(hok:HOk P w H' g)(up:g.UpToSlots h'')(fl:Heap.FlyingW Bh outer ea cls (.ref t) h'')(st:Bh.StaysIn g)(c1:∀b u,H' b=some u->∀o,g.get? b=some o->Bh.get? b=some o)(c2:∀b o,s.heap.get? b=some o->b ∉ s.heap.objs.size::frs outer->∃o',Bh.get? b=some o')(new:H' ea=none)(dn:∃o,g.get? ea=some o/\Zn4 H' ea k o)(dk:DK g h''):Fly P w outer H s ea k cls H' { s' with heap:=h'' }:=by
 have neL:∀b o,s.heap.get? b=some o->b≠s.heap.objs.size:=fun b o e=>Z3B (Heap.lt_size e)
 have nin:∀b o,s.heap.get? b=some o->b ∉ frs outer->b ∉ s.heap.objs.size::frs outer:=fun b o e n z=>(Z3v.mp z).elim (neL b o e) n
 have b0:Un (frs outer) [] H H1 s.heap s1.heap:=I.base
 have fr0:∀b∈frs outer,H b=none:=I.ok.frf
 have slot:∀b o,s.heap.get? b=some o->H b=none->b∈frs outer->∃sl,h''.get? b=some { o with slots:=sl }:=fun b o q n hb=>by
  obtain⟨s2,e1⟩:=b0.slot b o q n hb (by simp)
  obtain⟨s3,e2⟩:=un.slot b _ e1 (b0.free b o q n (by simp)) (Z39 _ hb) (by simp)
  obtain⟨_,o',ho',hnf⟩:=Heap.FunFrames.mem (show s.heap.FunFrames base outer from I.ok.funs) hb
  rw[q] at ho';cases ho'
  obtain⟨s4,e3⟩:=up b _ e2 hnf
  exact⟨s4,e3⟩
 have keepB:∀b o,s.heap.get? b=some o->H b=none->b ∉ frs outer->Bh.get? b=some o:=fun b o q n hb=>by
  have e1:=b0.keep b o q n hb (by simp)
  have e2:=un.keep b o e1 (b0.free b o q n (by simp)) (nin b o q hb) (by simp)
  obtain⟨o',e3⟩:=c2 b o q (nin b o q hb)
  have e4:=st b o' e3
  rw[e2] at e4;cases e4
  exact e3
 have thereB:∀b o,s.heap.get? b=some o->b ∉ frs outer->∃o',Bh.get? b=some o':=fun b o q hb=>by
  exact c2 b o q (nin b o q hb)
 refine⟨os.trans I.os,bare,⟨fun b o q n hb _=>fl.1 b o (keepB b o q n hb),fun b o q n hb _=>slot b o q n hb,fun b o q n _=>?_,fun b o q _=>?_,fun b xs q=>un.tups b xs (b0.tups b xs q),fun b o xs q=>un.frzs b o xs (b0.frzs b o xs q),fun b ps q=>?_⟩,fun b u e=>?_,new,(let ⟨o,e,d⟩:=dn;let ⟨o',e',d'⟩:=dk ea o e;⟨o',e',by unfold Zn4 at d ⊢;rw[d'];exact d⟩),Bh,t,fl,fun b u e o q=>?_,thereB⟩
 ·obtain⟨o1,e1⟩:=b0.there b o q (by simp)
  exact un.free b o1 e1 (b0.free b o q n (by simp)) (by simp)
 ·by_cases hb:b∈frs outer
  ·obtain⟨sl,e⟩:=slot b o q (fr0 b hb) hb
   exact⟨_,e⟩
  ·obtain⟨o',e⟩:=thereB b o q hb
   exact⟨o',fl.1 b o' e⟩
 ·obtain⟨m1,e1⟩:=b0.tbls b ps q
  obtain⟨m2,e2⟩:=un.tbls b _ e1
  exact⟨m1++m2,by rw[e2,Z4y]⟩
 ·refine(hok b u e).stay (fun c v hc q=>?_) (fun _ q=>q) fun _ _ q=>q
  rcases hc with rfl|hc
  ·exact fl.1 c v (c1 c u e v q)
  ·exact fl.1 c v (c1 c _ hc v q)
 ·obtain⟨o1,e1⟩:=(hok b u e).there
  have e2:=c1 b u e o1 e1
  have e3:=fl.1 b o1 e2
  rw[e3] at q;cases q
  exact e2
def Zjz(X:Cx)(E:St->XK):Prop:=∀(pins:List (Addr×Obj)) (σ:St) (H:Hp) (s:Shared) (e:Value) (s':Shared),Inv X pins σ H s->CX1 X.prog X.w X.stack H s (E σ) e s'->X.xe e s'
def Zsj(X:Cx)(E:St->XK):Prop:=∀(pins:List (Addr×Obj)) (σ:St) (H:Hp) (s:Shared) (h':Heap) (ea:Addr) (cls:Value) (args:List Value),Inv X pins σ H s->Heap.MadeExcOf s.heap h' ea cls args->E σ cls (some ea) H->X.xe (.ref ea) { s with heap:=h' }
theorem Zw:Zjz (ZdP (CX1 P w) P w K mg base N qual scope f cd A outer s H E) (fun _=>E):=fun pins σ H1 s1 e s' I hq=>by
 obtain⟨ea,k,cls,H',rfl,F,hE⟩:=hq
 obtain⟨Bh,t,fl,c1,c2⟩:=F.fly
 refine wpAny_mono (Zd7 (Zc7 _ _) (wpAny_leaves_onW (Q:=fun _ s''=>∃h'',s''={ s' with heap:=h'' }/\Heap.FlyingW Bh outer ea cls (.ref t) h''/\s'.heap.UpToSlots h'') I.ok.frames rfl fl fun h'' fl'' up=>⟨h'',rfl,fl'',up⟩)) (fun _ s'' q=>?_) fun _ _ q=>q.1
 obtain⟨⟨h'',rfl,fl'',up⟩,dk⟩:=q
 exact⟨ea,k,cls,H',rfl,Zll I F.os F.bare F.un F.hok up fl'' fl.1 c1 (fun b o e n=>let ⟨o1,e1⟩:=(show Un (frs outer) [] H H1 s.heap s1.heap from I.base).there b o e (by simp);c2 b o1 e1 n) F.new F.dict dk,hE⟩
theorem JG:Zsj (ZdP (CX1 P w) P w K mg base N qual scope f cd A outer s H E) (fun _=>E):=fun pins σ H1 s1 h' ea cls args I hx hE=>by
 have hin:∀env∈(ZdP (CX1 P w) P w K mg base N qual scope f cd A outer s H E).stack,∀b,env.frame=some b->b∈frs (ZdP (CX1 P w) P w K mg base N qual scope f cd A outer s H E).stack:=fun env he b hb=>Z40.mpr ⟨env,he,hb⟩
 have trk:∀b u,H1 b=some u->b ∉ frs (ZdP (CX1 P w) P w K mg base N qual scope f cd A outer s H E).stack:=fun b u e z=>by rw[I.stkFree b z] at e;cases e
 have new:H1 ea=none:=by
  cases q:H1 ea with
  |none=>rfl
  |some u=>obtain⟨o,e⟩:=(I.hok ea u q).there;rw[hx.new] at e;cases e
 refine wpAny_mono (Zd7 (Zc7 _ _) (wpAny_leaves_madeW (Q:=fun _ s''=>∃h'' t,s''={ s1 with heap:=h'' }/\Heap.FlyingW (PySem.W.hideAll s1.heap (frs (ZdP (CX1 P w) P w K mg base N qual scope f cd A outer s H E).stack)) outer ea cls (.ref t) h''/\h'.UpToSlots h'')
  (base:=PySem.W.hideAll s1.heap (frs (ZdP (CX1 P w) P w K mg base N qual scope f cd A outer s H E).stack)) (h:=s1.heap) I.ok.frames rfl (fun b o q=>PySem.W.of_hideAll _ q) (PySem.W.funFrames_hide I.stack hin) hx fun h'' t fl _ _ up=>⟨h'',t,rfl,fl,up⟩)) (fun _ s'' q=>?_) fun _ _ q=>q.1
 obtain⟨⟨h'',t,rfl,fl,up⟩,dk⟩:=q
 have dn:∃o,h'.get? ea=some o/\Zn4 H1 ea ea o:=by obtain⟨t,e,_⟩:=hx.there;exact⟨_,e,.inl ⟨rfl,rfl⟩⟩
 refine⟨ea,ea,cls,H1,rfl,Zll (g:=h') (t:=t) (s':={ s1 with heap:=h' }) I rfl I.bare (Un.kept hx.keeps) (I.hok.kept hx.keeps) up fl (fun b o q=>hx.keeps b o (PySem.W.of_hideAll _ q)) (fun b u e o q=>?_) (fun b o q n=>let ⟨o1,e1⟩:=(show Un (frs outer) [] H H1 s.heap s1.heap from I.base).there b o q (by simp);⟨o1,PySem.W.hideAll_get _ e1 n⟩) new dn dk,hE⟩
 obtain⟨o1,e1⟩:=(I.hok b u e).there
 have e2:=hx.keeps b o1 e1
 rw[q] at e2;cases e2
 exact PySem.W.hideAll_get _ e1 (trk b u e)
end
noncomputable def Zt5:List Value:=[.type "ValueError",.type "Exception",.type "BaseException",.type "object"]
noncomputable def ZnD(C:Addr)(E:St->XK)(ta:TA):TS:=fun D σ H=>ta σ H fun vs H1=>vs.length<=1000/\∀ea,H1 ea=none->E σ (.ref C) (some ea) H1
theorem Zp7{K:W.Frag}{h₀:Heap}{C:Addr}{bmB:List Value}{newId:String}(X:K.In h₀)(q:PySem.W.excIn K C bmB newId=true) :
  ∃tl N nm qn bs hdct sn sub ab col dd k0 k1 k2 k3 k5 mN,h₀.get? C=some (excClassObj nm qn C N bs tl hdct sn sub ab col dd k0 k1 k2 k3 k5 newId)/\h₀.Ns N mN/\mN "__init__"=none/\OwnTail h₀ bmB tl:=by
 unfold PySem.W.excIn at q
 split at q
 ·rename_i dd cd sl ho
  split at q
  ·rename_i C' bm k0 k1 k2 k3 n k5 hm hs
   simp only[Bool.and_eq_true,beq_iff_eq,Bool.not_eq_true'] at q
   obtain⟨⟨⟨⟨⟨rfl,rfl⟩,hdel⟩,ht⟩,hok⟩,hni⟩:=q
   obtain⟨nm,bs,mro,ns,qn,hd,sn,sub,ab,col,del⟩:=cd
   dsimp only at hm hdel hok hni
   subst hm hdel
   have hsl:sl=#[k0,k1,k2,k3,some (.builtin n),k5]:=by
    obtain⟨l⟩:=sl
    simp only at hs
    rw[hs]
   subst hsl
   exact⟨bm,ns,nm,qn,bs,hd,sn,sub,ab,col,dd,k0,k1,k2,k3,k5,_,X _ _ ho,.of_isNs (PySem.W.isNs_of_in X hok),PySem.W.nsMap_none_of_in X hok hni,PySem.W.tail_of_in X ht⟩
  ·cases q
 ·cases q
section
variable {X:Cx}{E:St->XK}{x:Str}{C:Addr}{np cpos pos:Pos}{e:Expr}{es:List Expr}{ta:TA}
theorem Ji(hM:Zsj X E)(hq:PySem.W.excIn X.K C Zt5 "ValueError.__new__"=true)(hg:Gl X x)(hm:X.mg x=some (.ref C))(hc:X.calm=true)(ha:PA X (e::es) ta)(hdb:(x==("__debug__":Str))=false:=by decide)(he:starEach (e::es) X.env=(false,eval e X.env)::starEach es X.env:=by rfl)(hpl:(backTo cpos (starEach es X.env)).any (·.1)=false:=by rfl) :
  PS X (.Raise (some (.Call (.Name x np) (e::es) [] cpos)) none pos) (ZnD C E ta):=by
 intro pins s σ H D I h
 obtain⟨tl,N,nm,q,bs,hdct,sn,sub,ab,col,dd,k0,k1,k2,k3,k5,mN,hC,hN,hni,T⟩:=Zp7 I.ok.mod.kin hq
 refine wpAny_Raise_call_subT (C:=C) (nm:=nm) (q:=q) (N:=N) (bs:=bs) (bm:=tl) (hdct:=hdct) (sn:=sn) (sub:=sub) (ab:=ab) (col:=col) (dd:=dd) (k0:=k0) (k1:=k1) (k2:=k2) (k3:=k3) (k5:=k5)
  PySem.F.excBase_ValueError (mN:=mN) (T.hasType PySem.F.excBase_ValueError.hasBase) (I.ok.hd hc) (by rw[he];show (false || (backTo cpos (starEach es X.env)).any (·.1))=false;rw[hpl];rfl) hni (Uc I hg hm ⟨rfl, ?_⟩ hdb)
 have h2:=ha cpos pins s σ H _ I h
 rw[he] at h2 ⊢
 refine Calls.evalArgs_plain (wpAny_mono h2 (fun us s₂ z=>?_) fun _ _ y=>y)
 obtain⟨vs,H1,I1,r,hl,hE⟩:=z
 have hnew:∀{h':Heap}{ea:Addr}{args:List Value},Heap.MadeExcOf s₂.heap h' ea (.ref C) args->H1 ea=none:=fun {h' ea args} hx=>by
  cases q:H1 ea with
  |none=>rfl
  |some u=>obtain⟨o,e⟩:=(I1.hok ea u q).there;rw[hx.new] at e;cases e
 exact⟨rfl,Z33 (by rw[<- r.length];exact hl) (by decide),I1.bk _ _ hC,hN.keeps I1.bk,T.keeps I1.bk,fun h' ea hx=>hM pins σ H1 s₂ h' ea _ _ I1 hx (hE ea (hnew hx))⟩
end
theorem Zr7{P:Program}{w:World}{outer:List Env}{H H':Hp}{s s':Shared}{ea k t:Addr}{cls:Value}{Bh h'':Heap}(F:Fly P w outer H s ea k cls H' s')(fl:Heap.FlyingW Bh outer ea cls (.ref t) s'.heap)(c1:∀b u,H' b=some u->∀o,s'.heap.get? b=some o->Bh.get? b=some o)(c2:∀b o,s.heap.get? b=some o->b ∉ frs outer->∃o',Bh.get? b=some o')(st:Bh.StaysIn h'')(up:s'.heap.UpToSlots h'') :
  Un (frs outer) [] H H' s.heap h''/\HOk P w H' h'':=by
 refine⟨⟨fun b o q n hb _=>?_,fun b o q n hb _=>?_,fun b o q n hx=>F.un.free b o q n hx,fun b o q _=>?_,F.un.tups,F.un.frzs,F.un.tbls⟩,fun b u e=>?_⟩
 ·have e2:=F.un.keep b o q n hb (by simp)
  obtain⟨o',e3⟩:=c2 b o q hb
  have e4:=fl.1 b o' e3
  rw[e2] at e4;cases e4
  exact st b o e3
 ·obtain⟨s2,e2⟩:=F.un.slot b o q n hb (by simp)
  obtain⟨_,o',ho',hnf⟩:=Heap.FunFrames.mem fl.2.2.1 hb
  rw[e2] at ho';cases ho'
  obtain⟨s3,e3⟩:=up b _ e2 hnf
  exact⟨s3,e3⟩
 ·by_cases hb:b∈frs outer
  ·obtain⟨_,o',ho',hnf⟩:=Heap.FunFrames.mem fl.2.2.1 hb
   obtain⟨sl,e⟩:=up b _ ho' hnf
   exact⟨_,e⟩
  ·obtain⟨o',e⟩:=c2 b o q hb
   exact⟨o',st b o' e⟩
 ·refine(F.hok b u e).stay (fun c v hc q=>?_) (fun _ q=>q) fun _ _ q=>q
  rcases hc with rfl|hc
  ·exact st c v (c1 c u e v q)
  ·exact st c v (c1 c _ hc v q)
section
variable {X:Cx}{pins:List (Addr×Obj)}{σ:St}{H:Hp}{s:Shared}
theorem Inv.track{ea:Addr}{oe:Obj}(I:Inv X pins σ H s)(e:s.heap.get? ea=some oe)(hn:H ea=none)(hL:ea≠X.env.locals)(hC:∀x c,X.env.cells.lookup x=some c->c≠ea)(hp:∀p∈X.pn++pins,p.1≠ea)(h0:X.s₀.heap.get? ea=none) :
  Inv X pins σ (upd H ea (.frz oe (.own ea))) s:=by
 refine⟨I.ok,I.os,I.bare,⟨I.base.keep,I.base.slot,fun b o q n hx=>?_,I.base.there,fun b xs q=>?_,fun b o u q=>?_,fun b ps q=>?_⟩,I.loc,I.cell, ?_,fun x c q=>?_,fun p hq=>?_,fun b u q=>?_,I.len⟩
 ·rw[Z4 (fun z=>by rw[z,h0] at q;cases q)];exact I.base.free b o q n hx
 ·have:=I.base.tups b xs q
  rw[Z4 (ZS this hn)];exact this
 ·have:=I.base.frzs b o u q
  rw[Z4 (ZS this hn)];exact this
 ·obtain⟨m,this⟩:=I.base.tbls b ps q
  exact⟨m,by rw[Z4 (ZS this hn)];exact this⟩
 ·rw[Z4 (Ne.symm hL)];exact I.free
 ·rw[Z4 (hC x c q)];exact I.freeC x c q
 ·obtain⟨a,b,c,d,e⟩:=I.pin p hq
  exact⟨a,by rw[Z4 (hp p hq)];exact b,c,d,e⟩
 ·by_cases hb:b=ea
  ·subst hb
   rw[ZX] at q;cases q
   exact⟨e,oe,e⟩
  ·rw[Z4 hb] at q
   exact(I.hok b u q).stay (fun c v _ z=>z) (fun c z=>by rw[Z4 (ZS z hn)];exact z) fun c xs z=>by rw[Z4 (ZS z hn)];exact z
theorem Inv.gone{i:Nat}{n:Str}{m:Str->Option Value}{v:Option Value}{h':Heap}{t':Nat}(I:Inv X pins σ H s)(hN:X.N.Nodup)(hi:X.N[i]?=some n)(hm:∀(j:Nat) (x:Str) (v:V),X.N[j]?=some x->σ[j]?=some (some v)->Vis X.env.scope x->∃u,JY v u/\Zu3 X.env s.heap m x u)(hn:h'.Ns X.env.locals (fun x=>if x=n then v else m x))(hs:Heap.SameBut X.env.locals s.heap h')(hoL:∃o,s.heap.get? X.env.locals=some o):Inv X pins (σ.set i none) H { s with heap:=h',toks:=t' }:=by
 have tracked:HOk X.prog X.w H h':=fun b ob e=>by
  refine(I.hok b ob e).stay (fun c w' hc q=>(hs.2 c ?_).trans q) (fun _ q=>q) fun _ _ q=>q
  intro z
  rw[z] at hc
  rcases hc with hc|hc
  ·rw[<- hc,I.free] at e;cases e
  ·rw[I.free] at hc;cases hc
 have neL:∀b o,X.s₀.heap.get? b=some o->b≠X.env.locals:=fun b o e=>Z3B (Z3z (Heap.lt_size e) I.ok.above)
 refine⟨I.ok,I.os,I.bare,⟨fun b o e n hb hx=>?_,fun b o e n hb hx=>?_,I.base.free,fun b o e hx=>?_,I.base.tups,I.base.frzs,I.base.tbls⟩,⟨_,hn,fun j y v' e1 e2 e3=>?_⟩,fun y c e=>?_,I.free,I.freeC,fun p hp=>?_,tracked,by simpa using I.len⟩
 ·exact(hs.2 b (neL b o e)).trans (I.base.keep b o e n hb hx)
 ·obtain⟨sl,e1⟩:=I.base.slot b o e n hb hx
  exact⟨sl,(hs.2 b (neL b o e)).trans e1⟩
 ·obtain⟨o',e1⟩:=I.base.there b o e hx
  exact⟨o',(hs.2 b (neL b o e)).trans e1⟩
 ·by_cases hj:j=i
  ·subst hj
   rw[List.getElem?_set] at e2
   simp only[if_true] at e2
   split at e2<;>cases e2
  ·rw[Z3H (Ne.symm hj)] at e2
   obtain⟨u',r',q⟩:=hm j y v' e1 e2 e3
   refine⟨u',r', ?_⟩
   rcases q with ⟨k,e⟩|⟨k,c,e,z⟩
   ·refine .inl ⟨k, ?_⟩
    have:y≠n:=fun e=>hj (Ze9 hN e1 (e▸hi))
    simp[this,e]
   ·exact .inr ⟨k,c,e,z.sameBut hs (I.cne y c e)⟩
 ·obtain⟨w',z⟩:=I.cell y c e
  exact⟨w',z.sameBut hs (I.cne y c e)⟩
 ·obtain⟨e,n,ne,nf,d⟩:=I.pin p hp
  exact⟨(hs.2 p.1 ne).trans e,n,ne,nf,d⟩
end
noncomputable def unE(D:Zj7)(i:Nat):Zj7:=⟨fun σ H=>D.nx (σ.set i none) H,D.rt,fun σ H=>D.bk (σ.set i none) H,fun σ H=>D.ct (σ.set i none) H⟩
noncomputable def Zs4(K:W.Frag)(C:Addr)(i:Nat)(th:TS)(D:Zj7):St->XK:=fun σ1 cls ea H1=>PySem.W.exmOne K cls (.ref C)=some true/\∃k,ea=some k/\∀(a:Addr) (oe:Obj),H1 a=none->oe.cls=cls->Zn4 H1 a k oe->PySem.W.notCls oe=true->th (unE D i) (σ1.set i (some (.ref a))) (upd H1 a (.frz oe (.own a)))
noncomputable def ZtS(K:W.Frag)(C:Addr)(i:Nat)(tb:(St->XK)->TS)(th:TS):TS:=fun D σ H=>tb (Zs4 K C i th D) D σ H
noncomputable abbrev Cx.inTry(X:Cx)(xe:Value->Shared->Prop)(pn:List (Addr×Obj)):Cx:={ X with xe:=xe,pn:=pn }
noncomputable abbrev Cx.inExc(X:Cx)(A:Around):Cx:={ X with A:=A,calm:=false,xe:=fun _ _=>False }
section
variable {X:Cx}{pins:List (Addr×Obj)}{σ:St}{H:Hp}{s:Shared}
theorem Inv.tryIn{xe:Value->Shared->Prop}(I:Inv X pins σ H s):Inv (X.inTry xe (X.pn++pins)) [] σ H s:=
 ⟨⟨I.ok.mod,I.ok.kind,I.ok.glob,I.ok.blt,I.ok.above,I.ok.inj,I.ok.has,I.ok.cab,I.ok.hd,I.ok.frames,I.ok.stk,I.ok.exf,I.ok.bs,I.ok.bsz,I.ok.noex,I.ok.exfs,I.ok.funs,I.ok.frf⟩,I.os,I.bare,I.base,I.loc,I.cell,I.free,I.freeC,fun p hp=>I.pin p (by simpa using hp),I.hok,I.len⟩
theorem Inv.tryOut{xe:Value->Shared->Prop}{pins':List (Addr×Obj)}(I:Inv (X.inTry xe (X.pn++pins)) pins' σ H s):Inv X pins σ H s:=
 ⟨⟨I.ok.mod,I.ok.kind,I.ok.glob,I.ok.blt,I.ok.above,I.ok.inj,I.ok.has,I.ok.cab,I.ok.hd,I.ok.frames,I.ok.stk,I.ok.exf,I.ok.bs,I.ok.bsz,I.ok.noex,I.ok.exfs,I.ok.funs,I.ok.frf⟩,I.os,I.bare,I.base,I.loc,I.cell,I.free,I.freeC,fun p hp=>I.pin p (Z3s _ hp),I.hok,I.len⟩
theorem Inv.excIn{e:Value}(I:Inv X pins σ H s):Inv (X.inExc (X.A.mark (some e))) pins σ H s:=
 ⟨⟨I.ok.mod,I.ok.kind,I.ok.glob,I.ok.blt,I.ok.above,I.ok.inj,I.ok.has,I.ok.cab,fun z=>(by cases z),I.ok.frames,I.ok.stk,I.ok.exf,I.ok.bs,I.ok.bsz,I.ok.noex,I.ok.exfs,I.ok.funs,I.ok.frf⟩,I.os,I.bare,I.base,I.loc,I.cell,I.free,I.freeC,I.pin,I.hok,I.len⟩
theorem Inv.excOut{e:Value}(h:X.Ok)(I:Inv (X.inExc (X.A.mark (some e))) pins σ H s):Inv X pins σ H s:=⟨h,I.os,I.bare,I.base,I.loc,I.cell,I.free,I.freeC,I.pin,I.hok,I.len⟩
end
section
variable {X:Cx}{C:Addr}{i:Nat}{tb:(St->XK)->TS}{th:TS}{c n:Str}{np hpos pos:Pos}{body suite:List Stmt}{b₀:Stmt}
theorem ZqN(hb:∀(xe:Value->Shared->Prop) (pn:List (Addr×Obj)) (E:St->XK),Zjz (X.inTry xe pn) E->PSs (X.inTry xe pn) body (tb E))(hh:∀v:Value,PSs (X.inExc (X.A.mark (some v))) (b₀::suite) th)(hN:X.N.Nodup)(hi:X.N[i]?=some n)(hl:X.env.scope.names.lookup n=some .local)(hg:Gl X c)(hm:X.mg c=some (.ref C))(hst:X.stack=X.env::X.outer)(hf:X.env.frame=some X.env.locals)(hex:X.ex=[])(hdb:(c==("__debug__":Str))=false:=by decide) :
  PS X (.Try body [.ExceptHandler (some (.Name c np)) (some n) (b₀::suite) hpos] [] [] pos) (ZtS X.K C i tb th):=by
 intro pins s σ H D I h
 refine wpAny_Try_except ?_
 refine wpAny_mono (hb (fun e s'=>∃σ1 H1 s1,Inv X pins σ1 H1 s1/\CX1 X.prog X.w X.stack H1 s1 (Zs4 X.K C i th D σ1) e s') (X.pn++pins) (Zs4 X.K C i th D) (fun pins' σ1 H1 s1 e s' I' hq=>⟨σ1,H1,s1,I'.tryOut,hq⟩) [] s σ H D I.tryIn h) (fun f s1 q=>?_) (fun e s1 q=>?_)
 ·cases f with
  |next=>obtain⟨σ',H',I',q⟩:=q;exact wpAny_execs_nil ⟨σ',H',I'.tryOut,q⟩
  |brk=>obtain⟨σ',H',I',q⟩:=q;exact⟨σ',H',I'.tryOut,q⟩
  |cont=>obtain⟨σ',H',I',q⟩:=q;exact⟨σ',H',I'.tryOut,q⟩
  |ret u=>obtain⟨v,σ',H',I',r,q⟩:=q;exact⟨v,σ',H',I'.tryOut,r,q⟩
 ·obtain⟨σ1,H1,s0,I1,ea,kk,cls,H',rfl,F,hx,a,ha,hth⟩:=q
  cases ha
  obtain⟨Bh,t,fl,c1,c2⟩:=F.fly
  have hfr:X.A.frames=some (X.env::X.outer):=by rw[<- hst];exact I.ok.frames
  have fl0:=fl
  rw[hst] at fl
  have new0:s0.heap.get? ea=none:=by
   cases q:s0.heap.get? ea with
   |none=>rfl
   |some o =>
    exfalso
    by_cases hb:ea∈frs X.stack
    ·obtain⟨_,o',ho',hnf⟩:=Heap.FunFrames.mem fl0.2.2.1 hb
     obtain⟨oe,vs,hoe,_,hd,_⟩:=fl0.first
     rw[hoe] at ho';cases ho'
     exact hnf vs hd
    ·obtain⟨o',e⟩:=c2 ea o q hb
     rw[fl0.2.1] at e;cases e
  have neL:ea≠X.env.locals:=fun z=>by
   obtain⟨m,⟨o,_,_,ho,_⟩,_⟩:=I1.loc
   rw[<- z,new0] at ho;cases ho
  have neC:∀x c,X.env.cells.lookup x=some c->c≠ea:=fun x c e z=>by
   obtain⟨v,o,ho,_⟩:=I1.cell x c e
   rw[z,new0] at ho;cases ho
  have neP:∀p∈X.pn++pins,p.1≠ea:=fun p hp z=>by
   have:=(I1.pin p hp).1
   rw[z,new0] at this;cases this
  have new1:X.s₀.heap.get? ea=none:=by
   cases q:X.s₀.heap.get? ea with
   |none=>rfl
   |some o=>obtain⟨o',e⟩:=I1.base.there ea o q (by rw[hex];simp);rw[new0] at e;cases e
  have land:∀{h'':Heap},Bh.StaysIn h''->s1.heap.UpToSlots h''->Inv X pins σ1 H' { s1 with heap:=h'' }:=fun {h''} st up=>by
   obtain⟨u,hok⟩:=Zr7 F fl0 c1 c2 st up
   exact I1.call' (s':={ s1 with heap:=h'' }) (ch:=[]) F.os u hok F.bare (fun b z=>absurd z (by simp))
  refine wpAny_mono (Zd7 (ZgY _ _) (wpAny_looks_onW (Q:=fun _ s''=>∃h4,s''={ s1 with heap:=h4 }/\Heap.HeldW Bh (X.env::X.outer) ea cls (.ref t) X.env.locals h4/\s1.heap.UpToSlots h4) hfr hf fl fun h4 held4 up4=>⟨h4,rfl,held4,up4⟩)) (fun _ s'' q=>?_) fun _ _ q=>q.1
  obtain⟨⟨h4,rfl,held4,up4⟩,dk4⟩:=q
  refine wpAny_mono (Zd7 (Ud _ _) (wpAny_landsW (Q:=fun _ s''=>∃h5,s''={ s1 with heap:=h5 }/\Heap.FlyingW Bh (X.env::X.outer) ea cls (.ref t) h5/\h4.UpToSlots h5) held4 fun h5 fl5 up5=>⟨h5,rfl,fl5,up5⟩)) (fun _ s'' q=>?_) fun _ _ q=>q.1
  obtain⟨⟨h5,rfl,fl5,up5⟩,dk5⟩:=q
  have up5':s1.heap.UpToSlots h5:=up4.trans up5
  have I5:=land fl5.1 up5'
  refine wpAny_handleBy_cons (codeAny_handlers_test ?_) (by intro q;cases q)
  refine Uc (X:=X.inExc (X.A.mark (some (.ref ea)))) I5.excIn hg hm ?_ hdb
  obtain⟨oe5,hoe5,hc5⟩:=fl5.there
  have LT:PySem.W.Looks (model X.prog X.w) h5 (typeOf (.ref ea)) cls:=by
   subst hc5
   exact(PySem.W.Looks.ld hoe5).andThen .now
  refine PySem.W.Looks.here (s:={ s1 with heap:=h5 }) (PySem.W.exm_one I5.kIn LT hx) ?_
  refine codeAny_handlers_suite_as ?_
  refine wpAny_mono (Zd7 (Ud _ _) (lands_againW (Q:=fun _ s''=>∃h6,s''={ s1 with heap:=h6 }/\Heap.FlyingW Bh (X.env::X.outer) ea cls (.ref t) h6/\h5.UpToSlots h6) fl5 fun h6 fl6 up6=>⟨h6,rfl,fl6,up6⟩)) (fun _ s'' q=>?_) fun _ _ q=>q.1
  obtain⟨⟨h6,rfl,fl6,up6⟩,dk6⟩:=q
  have I6:=land fl6.1 (up5'.trans up6)
  obtain⟨oe,ws,hoe,hc,hfd,_⟩:=fl6.first
  have hdn:Zn4 H' ea kk oe:=by
   obtain⟨o1,e1,d1⟩:=F.dict
   obtain⟨o2,e2,d2⟩:=dk4 ea o1 e1
   obtain⟨o3,e3,d3⟩:=dk5 ea o2 e2
   obtain⟨o4,e4,d4⟩:=dk6 ea o3 e3
   have e4':h6.get? ea=some o4:=e4
   rw[hoe] at e4';cases e4'
   unfold Zn4 at d1 ⊢
   rw[d4,d3,d2];exact d1
  have hnc:PySem.W.notCls oe=true:=by unfold PySem.W.notCls;rw[hfd]
  have I7:=I6.track (ea:=ea) (oe:=oe) hoe F.new neL neC neP new1
  refine QJ (X:=X) I7 hN hi (.inl hl) (v:=.ref ea) rfl (fun s8 I8=>?_) (.inr hl)
  refine wpAny_mono (hh (.ref ea) pins s8 _ _ (unE D i) I8.excIn (hth ea oe F.new hc hdn hnc)) (fun f s9 q=>?_) (fun _ _ z=>False.elim z)
  have hcls:(X.env.scope.kind==.class || (X.env.scope.kind==.module&&X.env.locals != X.env.globals))=false:=by rw[I.ok.kind];rfl
  have go:∀{σ9:St}{H9:Hp},Inv (X.inExc (X.A.mark (some (.ref ea)))) pins σ9 H9 s9->∀{Q:Unit->Shared->Prop},(∀s',Inv X pins (σ9.set i none) H9 s'->Q () s') ->
    wpAny (model X.prog X.w) X.A (do bindName X.env n .none;unbindBehindTheSuite X.env n hpos) Q X.xe s9:=fun {σ9 H9} J {Q} hQ=>by
   have J':=Inv.excOut I.ok J
   obtain⟨m,hn,hlook⟩:=id J'.loc
   obtain⟨o,_,_,ho,_⟩:=id hn
   exact wpAny_nameGoes_keeps hl hn hcls fun h' v hn' hs'=>hQ _ (J'.gone hN hi hlook hn' hs' ⟨o,ho⟩)
  cases f with
  |next=>obtain⟨σ',H',I',q⟩:=q;exact go I' fun s' J=>⟨_,_,J,q⟩
  |brk=>obtain⟨σ',H',I',q⟩:=q;exact go I' fun s' J=>⟨_,_,J,q⟩
  |cont=>obtain⟨σ',H',I',q⟩:=q;exact go I' fun s' J=>⟨_,_,J,q⟩
  |ret u=>obtain⟨v,σ',H',I',r,q⟩:=q;exact go I' fun s' J=>⟨v,_,_,J,r,q⟩
end
end L2
namespace PySem.W
open PySem PySem.Spec PySem.Calls PyProof.Rows
section
variable {prog:Program}{w:World}{A:Around}{E:Value->Shared->Prop}{s:Shared}{K:Frag}{x D:Addr}{ox:Obj}{od:Option Obj}
theorem Zjq:Manifest.canonical "BaseException.__getattribute__" = "object.__getattribute__":=by decide +kernel
theorem method_exc{name:Str}{f:Addr}{pl:Sem Bool}{Q:Value×List Value->Shared->Prop}(X:K.In s.heap)(I:InstAt s.heap x ox D od)(hga:findIn K (.ref D) "__getattribute__"=some (some (.builtin "BaseException.__getattribute__")))(hk:findIn K (.ref D) "__getattr__"=some none)(hown:∀o,od=some o->lookIn name o=some none)(hf:findIn K (.ref D) name=some (some (.ref f)))(ht:typeIn K (.ref f)=some (.type "function"))(h:Q (.ref f,[.ref x]) s):wpAny (model prog w) A (getMethod (.ref x) name pl) Q E s:=by
 have hcan:=Zjq
 unfold getMethod specialOf
 refine wpAny_bind (wpAny_bind (I.type.here ((looks_findIn X hga).here ?_)))
 dsimp only
 rw[hcan,if_neg (by decide)]
 refine wpAny_bind (wpAny_bind (I.type.here ((looks_findIn X hk).here ?_)))
 refine wpAny_bind (wpAny_bind (I.type.here ((looks_findIn X hf).here (wpAny_bind ((looks_typeIn X ht).here ?_)))))
 rw[if_neg (by decide +kernel)]
 refine wpAny_bind (wpAny_loadPart I.at_ ?_)
 have hd:=I.dict
 cases e:ox.dict with
 |none=>exact wpAny_bind (wpAny_rule (wpAny_pure h))
 |some dx =>
  rw[e] at hd
  cases od with
  |none=>exact hd.elim
  |some o =>
   dsimp only
   refine wpAny_bind (wpAny_bind (wpAny_loadPart hd ?_))
   rw[nsLook_of (hown o rfl)]
   exact wpAny_pure (wpAny_bind (wpAny_rule (wpAny_pure h)))
noncomputable def exOk(K:Frag)(D:Addr):Bool:=(findIn K (.ref D) "__getattribute__" == some (some (.builtin "BaseException.__getattribute__")))&&(findIn K (.ref D) "__getattr__" == some none)&&(mroIn K D (.type "BaseException")==some true)&&(mroIn K D (.type "object")==some true) &&
 (findIn K (.ref D) "__class__" == some (some (.builtin "object.__class__")))&&(specialIn K (.builtin "object.__class__") "__get__" == some (some (.builtin "getset_descriptor.__get__")))&&(takesIn K (.builtin "object.__class__")==some true)&&(clsIn K D).isSome
end
end PySem.W
namespace L2
open PySem PySem.Spec PyProof.Rows
def OkX(P:Program)(w:World)(K:W.Frag)(mg:Str->Option Value)(base:Heap)(k:Nat)(x:Str)(ps:List Str)(sp:Sp):Prop:=
 ∃f fd,Jp P w K mg base (CX1 P w) k f fd ps sp/\mg x=some (.ref f)/\PySem.W.keepIn K (.ref f)=true/\ZeY K fd ps []
theorem ZV{P:Program}{w:World}{K:W.Frag}{mg:Str->Option Value}{base:Heap}{k:Nat}{x:Str}{st:Stmt}{ps:List Str}{sp:Sp}(d:Dfn K mg x st)(b:Zq x st ps)(h:∀{f fd},Fun K x x st f fd->Jp P w K mg base (CX1 P w) k f fd ps sp):OkX P w K mg base k x ps sp:=by
 obtain⟨f,fd,F,hm⟩:=d
 exact⟨f,fd,h F,hm,F.kp,F.binds b⟩
section
variable {X:Cx}{k:Nat}{x:Str}{ps:List Str}{sp:Sp}{p pos:Pos}{e:Expr}{es:List Expr}{t:TA}{E:St->XK}
noncomputable def Zh7(sp:Sp)(E:St->XK)(t:TA):TE:=fun σ H Q=>t σ H fun vs H1=>sp vs H1 Q (E σ)
theorem Zu(G:OkX X.prog X.w X.K X.mg X.base k x ps sp)(hr:ZbC k X.A)(hg:Gl X x)(hx:Zjz X E)(ha:PA X (e::es) t)(hdb:(x==("__debug__":Str))=false:=by decide)(he:starEach (e::es) X.env=(false,eval e X.env)::starEach es X.env:=by rfl)(hpl:(backTo pos (starEach es X.env)).any (·.1)=false:=by rfl):PE X (.Call (.Name x p) (e::es) [] pos) (Zh7 sp E t):=by
 obtain⟨f,fd,F,hm,hk,hb⟩:=G
 intro pins s σ H Q I h
 refine wpAny_Call_Name_kw (Uc I hg hm ?_ hdb)
 refine PySem.W.callWith_K (h₀:=X.base) I.ok.mod.kin hk (thn (ha pos pins s σ H _ I h) fun us s1 ⟨vs,H1,I1,r,q⟩=>⟨I1.kIn, ?_⟩) he hpl
 have hl:(us++[]).length=ps.length:=by rw[Z3R,<- r.length];exact F.len _ _ _ _ q
 have hb':=hb s1 us I1.kIn hl
 rw[Z3R] at hb'
 refine wpAny_call (codeAny_mono (F.run X.A X.stack s1 H1 ⟨us,[]⟩ us vs Q (E σ) hr I1.env0 hb' r q) fun r s' hq=>?_)
 cases r with
 |error e=>exact hx pins σ H1 s1 e s' I1 hq
 |ok fl =>
  cases fl with
  |ret u=>exact I1.after hq
  |next=>exact False.elim hq
  |brk=>exact False.elim hq
  |cont=>exact False.elim hq
end
noncomputable def ZuH:PV->Hp->Addr->Prop
 |.non,H,k=>H k=none
 |.int i,H,k=>∃fs,H k=some (.xd fs)/\fs=[(("at":Str),V.int i)]
 |_,_,_=>False
def W1(K:W.Frag):PX->XK->Hp->Prop:=fun e E H'=>∀C k,ZdQ K e.1 C->ZuH e.2 H' k->E (.ref C) (some k) H'
section
variable {P:Program}{w:World}{K:W.Frag}{mg:Str->Option Value}{base:Heap}
theorem Fun.okX{x qual:Str}{st:Stmt}{f:Addr}{fd:FuncData}{N ps:List Str}{k n l:Nat}{kd:Kd}{m:List PV->Rr PV}(F:Fun K x qual st f fd)(S:Zr N ps (Zm st))(hn:ps.length=n)(hl:N.length-n=l)(hbody:∀(cdv:Value) (A:Around) (outer:List Env) (s:Shared) (H:Hp) (E:XK),ZbC k (A.deeper (envOfC qual (Zm st) s.heap.objs.size f cdv)) ->
   ∃t g Y,Y.r=kd/\PSs (ZdP (CX1 P w) P w K mg base N qual (Zm st) f cdv A outer s H E) (Vr st) t/\DS K (fun e H'=>W1 K e E H') (List.replicate n .S++List.replicate l .U) Y t g/\∀xs,Ref (m xs) (g (xs++List.replicate l .non)).out)(hkN:kd≠.N:=by nofun)(hkM:kd≠.M:=by nofun) :
  Jp P w K mg base (CX1 P w) (k+1) f fd ps (spF K n kd (W1 K) m):=by
 obtain⟨oc,od,kV,doc,pm,an,cdv,ct,osl,rfl,lk,hcd⟩:=F.ex
 refine Zr6 lk hcd S (fun vs H Q E h=>?_) fun A outer s H vs Q E hr h=>?_
 ·obtain⟨B,xs,h1,h2,_⟩:=h
  rw[h1.length,h2,hn]
 ·obtain⟨B,xs,h1,h2,dn⟩:=h
  obtain⟨t,g,Y,hY,ht,hd,href⟩:=hbody cdv A outer s H E hr
  refine⟨t,ht, ?_⟩
  have A0:=Ag.init (n:=l) h1
  have est:ZcK N vs=vs.map some++List.replicate l none:=by
   unfold ZcK
   rw[h1.length,h2,hl]
  rw[est]
  rw[h2] at A0
  refine hd _ H H _ _ _ _ A0 ?_
  have hdn:Dn (g (xs++List.replicate l .non)).out (fun x=>∀v H',ZL H H'->Zo7 K B H kd x v H'->Q v H') (fun e=>∀H',ZL H H'->W1 K e E H'):=by
   rcases href xs with e|e
   ·rw[e] at dn;exact dn.elim
   ·rw[<- e];exact dn
  have retK:∀{x v H'},Zo7 K (fun a=>B a\/H a=none) H kd x v H'->Zo7 K B H kd x v H':=fun {x v H'} h=>by
   cases kd with
   |P=>exact h
   |F=>exact h
   |T=>exact Rep.mono (fun a us s r=>⟨r,s.elim id .inr⟩) (fun a us r=>r) h
   |Z=>exact Rep.mono (fun a us s r=>⟨r,s.elim id .inr⟩) (fun a us r=>r) h
   |A=>exact Rep.mono (fun a us s r=>⟨r,s.elim id .inr⟩) (fun a us r=>r) h
   |N=>exact h
   |M=>exact h
  cases e:g (xs++List.replicate l .non) with
  |next ρ =>
   rw[e] at hdn
   refine fun σ' H' F' fr A'=>hdn .non H' A'.same ?_
   cases kd with
   |P=>exact⟨rfl,rfl⟩
   |F=>exact⟨[],⟨rfl,rfl⟩,by simp⟩
   |T=>exact rfl
   |Z=>exact rfl
   |A=>exact rfl
   |N=>exact absurd rfl hkN
   |M=>exact absurd rfl hkM
  |ret x=>rw[e] at hdn;exact fun v H' s r=>hdn v H' s (retK (hY▸r))
  |exc q=>rw[e] at hdn;exact fun H' s=>hdn H' s
  |brk ρ=>rw[e] at hdn;exact hdn.elim
  |cont ρ=>rw[e] at hdn;exact hdn.elim
  |bad=>rw[e] at hdn;exact hdn.elim
end
section
variable {K:W.Frag}{n:Nat}{m:List PV->Rr PV}{ta:TA}{Γ Γ':List Md}{fa:List PV->Rr (List PV)}{E:XK}
noncomputable abbrev EX1(K:W.Frag)(E:XK):PX->Hp->Prop:=fun e H'=>W1 K e E H'
theorem Zfa(hn:Len fa n)(ha:DAA K (EX1 K E) Γ Γ' ta fa):DE K (EX1 K E) Γ Γ' .F (Zh7 (spF K n .F (W1 K) m) (fun _=>E) ta) (fun ρ=>(fa ρ).bind m):=ZeQ (E:=E) (W:=W1 K) (fun σ H Q h=>h) (fun e H' h=>h) hn ha
theorem Ur(hn:Len fa n)(ha:DAA K (EX1 K E) Γ Γ' ta fa):DE K (EX1 K E) Γ Γ' .P (Zh7 (spF K n .P (W1 K) m) (fun _=>E) ta) (fun ρ=>(fa ρ).bind m):=Zip (E:=E) (W:=W1 K) (fun σ H Q h=>h) (fun e H' h=>h) hn ha
theorem ZrC{EX:PX->Hp->Prop}(hn:Len fa n)(hm:∀xs q,m xs≠.exc q)(ha:DAA K EX Γ Γ' ta fa):DE K EX Γ Γ' .F (ZdW (spF K n .F W0 m) ta) (fun ρ=>(fa ρ).bind m):=fun B H0 H σ ρ F R Q A d=>by
 refine ha B H0 H σ ρ F R _ A (d.bind.imp (fun xs hx d vs H1 F1 s1 f1 p1 A1=>?_) fun e q=>q)
 refine⟨fun _=>True,xs,p1,hn ρ xs hx, ?_⟩
 cases e:m xs with
 |ok x =>
  rw[e] at d
  intro v H2 s2 r
  obtain⟨G,r1,r2⟩:=r
  exact d v H2 (s1.trans s2) ⟨F1,f1,G,r1,fun a ha=>⟨(A1.fresh (r2 a ha)).1,.inl (s1.free (r2 a ha))⟩,A1.more s2 r2 r1.alive⟩
 |exc q=>exact(hm xs q e).elim
 |bad=>rw[e] at d;exact d.elim
theorem Zik{EX:PX->Hp->Prop}(hn:Len fa n)(hm:∀xs q,m xs≠.exc q)(ha:DAA K EX Γ Γ' ta fa):DE K EX Γ Γ' .P (ZdW (spF K n .P W0 m) ta) (fun ρ=>(fa ρ).bind m):=fun B H0 H σ ρ F R Q A d=>by
 refine ha B H0 H σ ρ F R _ A (d.bind.imp (fun xs hx d vs H1 F1 s1 f1 p1 A1=>?_) fun e q=>q)
 refine⟨fun _=>True,xs,p1,hn ρ xs hx, ?_⟩
 cases e:m xs with
 |ok x=>rw[e] at d;exact fun v H2 s2 r=>d v H2 (s1.trans s2) ⟨F1,f1,r.1,r.2,A1.grow s2⟩
 |exc q=>exact(hm xs q e).elim
 |bad=>rw[e] at d;exact d.elim
def Pm.calm(m:Pm):Prop:=∀a q,m.out a≠.exc q
theorem Pm.calm_fn{m:Pm}(h:m.calm)(xs:List PV)(q:PX):m.fn xs≠.exc q:=by
 unfold Pm.fn
 by_cases hx:∃a,m.enc a=xs/\m.pre a
 ·rw[dif_pos hx];exact h _ q
 ·rw[dif_neg hx];exact fun z=>by cases z
theorem Jj{C:Addr}{x:Str}{Y:Tys}(hC:ZdQ K x C)(hn:Len fa n)(hl:n<=1000)(ha:DAA K (EX1 K E) Γ Γ' ta fa):DS K (EX1 K E) Γ Y (ZnD C (fun _=>E) ta) (fun ρ=>(fa ρ).thenS fun _=>.exc (x,.non)):=fun B H0 H σ ρ F D A d=>by
 refine ha B H0 H σ ρ F [] _ A (d.thenS.imp (fun xs hx d vs H1 F1 s1 f1 p1 A1=>?_) fun e q=>q)
 exact⟨by rw[p1.length,hn ρ xs hx];exact hl,fun ea hea=>d H1 A1.same C ea hC hea⟩
end
theorem PS.nox{X:Cx}{st:Stmt}{t:TS}(h:PS X.nox st t):PS X st t:=fun pins s σ H D I hw =>
 wpAny_mono (h pins s σ H D (I.wish _) hw) (fun _ _ q=>q.unwish) fun _ _ z=>False.elim z
def ZpV(K:W.Frag)(H:Hp)(n:Str)(v:V):Prop:=ZpW K H n v\/∃i,ZpX K H n i v
theorem ZpV.inst{X:Cx}{pins:List (Addr×Obj)}{σ:St}{H:Hp}{s:Shared}{n:Str}{v:V}(I:Inv X pins σ H s)(h:ZpV X.K H n v):∃a o C od,v=.ref a/\ZdQ X.K n C/\PySem.W.InstAt s.heap a o C od/\∀u,od=some u->PySem.W.lookIn ("called":Str) u=some none:=by
 rcases h with ⟨a,o,C,rfl,h1,h2,h3,h4,h5⟩|⟨i,a,o,C,d,fs,rfl,h1,h1d,h2,h3,h4,h5,rfl⟩
 ·exact⟨a,o,C,none,rfl,h5,⟨(I.hok a _ h1.1).1,h2,h4,by rw[h3];trivial⟩,fun u z=>by cases z⟩
 ·obtain⟨m,n1,n2⟩:=I.hok d _ h1d.1
  obtain⟨ou,hu,hl⟩:=Zf9 n1
  refine⟨a,o,C,some ou,rfl,h5,⟨(I.hok a _ h1.1).1,h2,h4,by rw[h3];exact hu⟩,fun u z=>?_⟩
  cases z
  rw[hl]
  have z:=n2 ("called":Str)
  cases q:m ("called":Str) with
  |none=>rfl
  |some y=>rw[q] at z;exact z.elim
noncomputable def ZR(L:List (Str×Bool))(x:PV):Rr PV:=match x with
 |.non=>.ok (.bl false)
 |.exc n=>(match L.lookup n with|some b=>.ok (.bl b)|none=>.bad)
 |.exa n _=>(match L.lookup n with|some b=>.ok (.bl b)|none=>.bad)
 |_=>.bad
section
end
noncomputable def ZjM(K:W.Frag)(L:List Str)(ta:TE):TE:=fun σ H Q=>ta σ H fun v H1=>∃n,n∈L/\ZpV K H1 n v/\∀H2,ZL H1 H2->Q (.str n) H2
noncomputable def JT(L:List Str)(x:PV):Rr PV:=match x with
 |.exc n=>if n∈L then .ok (.str n) else .bad
 |.exa n _=>if n∈L then .ok (.str n) else .bad
 |_=>.bad
section
variable {K:W.Frag}{EX:PX->Hp->Prop}{Γ Γ':List Md}{te:TE}{f:List PV->Rr PV}
theorem Zl0{L:List Str}(he:DE K EX Γ Γ' .A te f):DE K EX Γ Γ' .P (ZjM K L te) (fun ρ=>(f ρ).bind (JT L)):=fun B H0 H σ ρ F R Q A d=>by
 refine he B H0 H σ ρ F R _ A (d.bind.imp (fun x _ d v H1 s1 r1=>?_) fun e q=>q)
 obtain⟨F1,f1,p1,A1⟩:=r1
 cases x with
 |exc n =>
  simp only[JT] at d
  by_cases hn:n∈L
  ·rw[if_pos hn] at d;exact⟨n,hn,.inl p1,fun H2 s2=>d _ H2 (s1.trans s2) ⟨F1,f1,rfl,rfl,A1.grow s2⟩⟩
  ·rw[if_neg hn] at d;exact d.elim
 |exa n i =>
  simp only[JT] at d
  by_cases hn:n∈L
  ·rw[if_pos hn] at d;exact⟨n,hn,.inr ⟨i,p1⟩,fun H2 s2=>d _ H2 (s1.trans s2) ⟨F1,f1,rfl,rfl,A1.grow s2⟩⟩
  ·rw[if_neg hn] at d;exact d.elim
 |_=>exact d.elim
end
noncomputable def Zrh(Γ:List Md):Bool:=Γ.all fun m=>m==.U || m==.P || m==.S
theorem Zpm{K:W.Frag}{B:Addr->Prop}{H0 H:Hp}{σ:St}{Γ:List Md}{ρ:List PV}{F:Nat->List Addr}{R:List Addr}(h:Zrh Γ=true)(A:Ag K B H0 H σ Γ ρ F R):∀i,F i=[]:=fun i=>by
 have sl:=A.slot i
 by_cases hi:i<Γ.length
 ·have hm:=Z36.mp h Γ[i] (Z4j hi)
  have e:Γ.getD i .U=Γ[i]:=by rw[Z3n,Z3r hi];rfl
  rw[e] at sl
  simp only[Bool.or_eq_true,beq_iff_eq] at hm
  rcases hm with (hm|hm)|hm
  ·rw[hm] at sl;exact sl
  ·rw[hm] at sl;exact sl.1
  ·rw[hm] at sl;exact sl.1
 ·have e:Γ.getD i .U=.U:=by rw[Z3n,Z30 (by omega)];rfl
  rw[e] at sl
  exact sl
theorem Ag.near{K:W.Frag}{B:Addr->Prop}{H0 H:Hp}{σ:St}{Γ:List Md}{ρ:List PV}{F:Nat->List Addr}(A:Ag K B H0 H σ Γ ρ F [])(h:∀i,F i=[]):Ag K B H H σ Γ ρ F []:=
 ⟨ZL.refl _,fun a q=>A.own a (A.same.free q),fun i a ha=>by rw[h i] at ha;simp at ha,by simp,A.live,A.liveR,A.disj,A.disjR,A.lenS,A.lenR,A.slot⟩
theorem Ag.far{K:W.Frag}{B:Addr->Prop}{H0 H1 H:Hp}{σ:St}{Γ:List Md}{ρ:List PV}{F:Nat->List Addr}(A:Ag K B H1 H σ Γ ρ F [])(s:ZL H0 H1)(own:∀a,H0 a=none->B a):Ag K B H0 H σ Γ ρ F []:=
 ⟨s.trans A.same,own,fun i a ha=>s.free (A.young i a ha),by simp,A.live,A.liveR,A.disj,A.disjR,A.lenS,A.lenR,A.slot⟩
theorem ZL.newO{H:Hp}{p:Addr}{o:HO}(hp:H p=none):ZL H (L2.upd H p o):=fun b u h=>by rw[L2.Z4 (ZS h hp)];exact h
theorem Ag.unset{K:W.Frag}{B:Addr->Prop}{H0 H:Hp}{σ:St}{Γ Γ':List Md}{ρ:List PV}{F:Nat->List Addr}(i:Nat)(A:Ag K B H0 H σ Γ ρ F [])(h:ZeC (Γ.set i .U) Γ'=true) :
  ∃F',(∀i,∀a∈F' i,a∈F i)/\Ag K B H0 H (σ.set i none) Γ' ρ F' []:=by
 have h0:ZeC Γ (Γ.set i .U)=true:=by
  have:∀(Γ:List Md) (i:Nat),ZeC Γ (Γ.set i .U)=true:=fun Γ=>by
   induction Γ with
   |nil=>intro i;rfl
   |cons m ms ih =>
    intro i
    have refl:∀l:List Md,ZeC l l=true:=fun l=>by induction l with|nil=>rfl|cons a l ih=>simp[ZeC,mle,ih]
    cases i with
    |zero=>simp[ZeC,mle,refl]
    |succ i=>simp[ZeC,mle,ih i]
  exact this Γ i
 obtain⟨F1,f1,A1⟩:=A.weak h0
 have hFi:F1 i=[]:=by
  have sl:=A1.slot i
  by_cases hi:i<Γ.length
  ·have e:(Γ.set i .U).getD i .U=.U:=by rw[Z3n,Z3C hi];rfl
   rw[e] at sl;exact sl
  ·have e:(Γ.set i .U).getD i .U=.U:=by rw[Z3n,Z30 (by simp;omega)];rfl
   rw[e] at sl;exact sl
 have A2:Ag K B H0 H (σ.set i none) (Γ.set i .U) ρ F1 []:=⟨A1.same,A1.own,A1.young,A1.youngR,A1.live,A1.liveR,A1.disj,A1.disjR,by simpa using A1.lenS,A1.lenR,fun j=>by
  by_cases hj:j=i
  ·subst hj
   have e:(Γ.set j .U).getD j .U=.U:=by
    by_cases hi:j<Γ.length
    ·rw[Z3n,Z3C hi];rfl
    ·rw[Z3n,Z30 (by simp;omega)];rfl
   rw[e];exact hFi
  ·have sl:=A1.slot j
   rw[Z3H (Ne.symm hj)];exact sl⟩
 obtain⟨F3,f3,A3⟩:=A2.weak h
 exact⟨F3,fun j a ha=>f1 j a (f3 j a ha),A3⟩
noncomputable def Zqm(e:PX):PV:=match e.2 with
 |.int i=>.exa e.1 i
 |_=>.exc e.1
noncomputable def Zst(L:List Str)(i:Nat)(gb gh:List PV->RS)(ρ:List PV):RS:=match gb ρ with
 |.exc e=>if e.1∈L then gh (ρ.set i (Zqm e)) else .bad
 |r=>r
section
variable {K:W.Frag}{EX:PX->Hp->Prop}{Γ Γs:List Md}{Y Yh:Tys}{tb:(St->XK)->TS}{th:TS}{gb gh:List PV->RS}{C:Addr}{i:Nat}{L:List Str}
theorem ZrE(hL:∀n∈L,∀D,ZdQ K n D->PySem.W.exmOne K (.ref D) (.ref C)=some true)(hb:∀E:XK,DS K (EX1 K E) Γs Y (tb fun _=>E) gb)(hloc:∀(E:St->XK) D σ H,tb (fun _=>E σ) D σ H->tb E D σ H)(hh:DS K EX (Γs.set i .P) Yh th gh)(hs:ZeC Γ Γs=true)(ho:Zrh Γs=true)(hi:i<Γs.length)(hn:ZeC (Yh.n.set i .U) Y.n=true)(hbk:ZeC (Yh.b.set i .U) Y.b=true)(hct:ZeC (Yh.c.set i .U) Y.c=true)(hr:Yh.r=Y.r) :
  DS K EX Γ Y (ZtS K C i tb th) (Zst L i gb gh):=fun B H0 H σ ρ F D A d=>by
 obtain⟨F1,f1,A1⟩:=A.weak hs
 have hF:=Zpm ho A1
 have AN:=A1.near hF
 refine hloc _ D σ H (hb (Zs4 K C i th D σ) B H H σ ρ F1 D AN ?_)
 have frm0:∀{H' F'},Frm H F1 H' F'->Frm H F H' F':=fun {H' F'} fr=>(Frm.of (ZL.refl _) f1).trans fr
 unfold Zst at d
 cases e:gb ρ with
 |next ρ1=>rw[e] at d;exact fun σ' H' F' fr A'=>d σ' H' F' (frm0 fr) (A'.far A.same A.own)
 |brk ρ1=>rw[e] at d;exact fun σ' H' F' fr A'=>d σ' H' F' (frm0 fr) (A'.far A.same A.own)
 |cont ρ1=>rw[e] at d;exact fun σ' H' F' fr A'=>d σ' H' F' (frm0 fr) (A'.far A.same A.own)
 |ret x =>
  rw[e] at d
  refine fun v H' s r=>d v H' (A.same.trans s) ?_
  cases hk:Y.r with
  |P=>rw[hk] at r;exact r
  |F=>rw[hk] at r;obtain⟨G,r1,r2⟩:=r;exact⟨G,r1,fun a ha=>A.same.free (r2 a ha)⟩
  |T=>rw[hk] at r;exact Rep.mono (fun a us s r=>⟨r,s.elim .inl fun z=>.inr (A.same.free z)⟩) (fun a us r=>r) r
  |Z=>rw[hk] at r;exact Rep.mono (fun a us s r=>⟨r,s.elim .inl fun z=>.inr (A.same.free z)⟩) (fun a us r=>r) r
  |A=>rw[hk] at r;exact Rep.mono (fun a us s r=>⟨r,s.elim .inl fun z=>.inr (A.same.free z)⟩) (fun a us r=>r) r
  |N=>rw[hk] at r;obtain⟨y,a,s,xs,G1,G2,r1,r2,r3,r4,r5,r6⟩:=r;exact⟨y,a,s,xs,G1,G2,r1,r2,r3,r4,fun b hb=>A.same.free (r5 b hb),fun b hb=>A.same.free (r6 b hb)⟩
  |M=>rw[hk] at r;obtain⟨y,a0,x0,a1,x1,a2,x2,r1,r2,r3,r4,r5,r6,r7,r8,r9⟩:=r;exact⟨y,a0,x0,a1,x1,a2,x2,r1,r2,r3,r4,r5,r6,A.same.free r7,A.same.free r8,A.same.free r9⟩
 |bad=>rw[e] at d;exact d
 |exc q =>
  rw[e] at d
  dsimp only at d
  by_cases hq:q.1∈L
  ·rw[if_pos hq] at d
   intro H' sm C' k hC' hk
   refine⟨hL q.1 hq C' hC',k,rfl,fun ea oe hea hc hdn hnc=>?_⟩
   have s1:ZL H' (upd H' ea (.frz oe (.own ea))):=ZL.newO hea
   have s2:ZL H (upd H' ea (.frz oe (.own ea))):=sm.trans s1
   have A2:Ag K B H0 (upd H' ea (.frz oe (.own ea))) σ Γs ρ F1 []:=A1.grow s2
   have key:∀S:Addr->Prop,PV.flat (Zqm q)=true/\Rep K (upd H' ea (.frz oe (.own ea))) S (Zqm q) (.ref ea):=fun S=>by
    obtain⟨qn,qv⟩:=q
    cases qv with
    |non =>
     have hk:H' k=none:=hk
     rcases hdn with ⟨z,_⟩|⟨_,fs,z⟩
     ·exact⟨rfl,ea,oe,C',rfl,⟨ZX,trivial⟩,hc,z,hnc,hC'⟩
     ·rw[hk] at z;cases z
    |int i =>
     obtain⟨fs,z1,z2⟩:=(show ∃fs,H' k=some (.xd fs)/\fs=[(("at":Str),V.int i)] from hk)
     rcases hdn with ⟨_,z⟩|⟨z,_⟩
     ·rw[z,hea] at z1;cases z1
     ·exact⟨rfl,ea,oe,C',k,fs,rfl,⟨ZX,trivial⟩,⟨s1 _ _ z1,trivial⟩,hc,z,hnc,hC',z2⟩
    |_=>exact hk.elim
   have A3:=Ag.put (i:=i) (m:=.P) (x:=Zqm q) (v:=.ref ea) (G:=[]) (R:=[]) A2 hi (by simp) ⟨rfl,_,rfl,(key fun _=>True).1,(key _).2⟩
   refine hh B H0 _ _ _ _ (unE D i) A3 ?_
   have fr3:Frm H F (upd H' ea (.frz oe (.own ea))) (ZbI F1 i []):=frm0 (ZdB (G:=[]) s2 (fun _ _ h=>h) (by simp))
   cases e2:gh (ρ.set i (Zqm q)) with
   |next ρ1 =>
    rw[e2] at d
    intro σ' H2 F2 fr A'
    obtain⟨F4,f4,A4⟩:=A'.unset i hn
    exact d _ H2 F4 (fr3.trans (fr.trans (Frm.of (ZL.refl _) f4))) A4
   |brk ρ1 =>
    rw[e2] at d
    intro σ' H2 F2 fr A'
    obtain⟨F4,f4,A4⟩:=A'.unset i hbk
    exact d _ H2 F4 (fr3.trans (fr.trans (Frm.of (ZL.refl _) f4))) A4
   |cont ρ1 =>
    rw[e2] at d
    intro σ' H2 F2 fr A'
    obtain⟨F4,f4,A4⟩:=A'.unset i hct
    exact d _ H2 F4 (fr3.trans (fr.trans (Frm.of (ZL.refl _) f4))) A4
   |ret x=>rw[e2] at d;exact fun v H2 s r=>d v H2 s (hr▸r)
   |exc q2=>rw[e2] at d;exact d
   |bad=>rw[e2] at d;exact d
  ·rw[if_neg hq] at d;exact d.elim
end
noncomputable def ZtK(K:W.Frag)(n:Str):Bool:=match PySem.W.nsIn K mainGlobals n with
 |some (some (.ref C))=>PySem.W.exOk K C&&(PySem.W.kitOne K (.type "NoneType") (.ref C)==some false)&&(PySem.W.kitOne K (.ref C) (.type "ValueError")==some true)
 |_=>false
noncomputable def ZtJ(K:W.Frag)(q:Str×Str×Bool):Bool:=match PySem.W.nsIn K mainGlobals q.1,PySem.W.nsIn K mainGlobals q.2.1 with
 |some (some (.ref D)),some (some (.ref C))=>(PySem.W.kitOne K (.ref D) (.ref C)==some q.2.2)&&(PySem.W.exmOne K (.ref D) (.ref C)==some q.2.2)
 |_,_=>false
noncomputable def ZpZ(K:W.Frag)(ns:List Str)(ss:List (Str×Str×Bool)):Bool:=(PySem.W.kitOne K (.type "NoneType") (.type "ValueError")==some false)&&(ns.all (ZtK K)&&ss.all (ZtJ K))
section
variable {K:W.Frag}{ns:List Str}{ss:List (Str×Str×Bool)}{n c:Str}
theorem JR(h:ZpZ K ns ss=true)(hn:n∈ns):∃C,ZdQ K n C/\True/\PySem.W.exOk K C=true/\PySem.W.kitOne K (.type "NoneType") (.ref C)=some false/\PySem.W.kitOne K (.ref C) (.type "ValueError")=some true:=by
 simp only[ZpZ,Bool.and_eq_true] at h
 have:=Z36.mp h.2.1 n hn
 unfold ZtK at this
 split at this
 ·rename_i C e
  simp only[Bool.and_eq_true,beq_iff_eq] at this
  exact⟨C,e,trivial,this.1.1,this.1.2,this.2⟩
 ·cases this
noncomputable def Zqx(K:W.Frag)(ns:List Str):Bool:=ns.all fun n=>match PySem.W.nsIn K mainGlobals n with
 |some (some (.ref C))=>PySem.W.excIn K C Zt5 "ValueError.__new__"
 |_=>false
theorem J2(h:Zqx K ns=true)(hn:n∈ns):∃C,ZdQ K n C/\PySem.W.excIn K C Zt5 "ValueError.__new__"=true:=by
 have:=Z36.mp h n hn
 split at this
 ·rename_i C e
  exact⟨C,e,this⟩
 ·cases this
theorem ZdQ.inj{C D:Addr}(a:ZdQ K n C)(b:ZdQ K n D):C=D:=by have z:=a.symm.trans b;simpa using z
theorem ZlX(h:ZpZ K ns ss=true){b:Bool}(hm:(n,c,b)∈ss){D C:Addr}(hD:ZdQ K n D)(hC:ZdQ K c C):PySem.W.kitOne K (.ref D) (.ref C)=some b/\PySem.W.exmOne K (.ref D) (.ref C)=some b:=by
 simp only[ZpZ,Bool.and_eq_true] at h
 have:=Z36.mp h.2.2 _ hm
 unfold ZtJ at this
 have hD':PySem.W.nsIn K mainGlobals n=some (some (.ref D)):=hD
 have hC':PySem.W.nsIn K mainGlobals c=some (some (.ref C)):=hC
 simp only[hD',hC',Bool.and_eq_true,beq_iff_eq] at this
 exact this
theorem ZlY{L:List Str}{C:Addr}(h:ZpZ K ns ss=true)(hC:ZdQ K c C)(hL:(L.all fun n=>ss.contains (n,c,true))=true):∀n∈L,∀D,ZdQ K n D->PySem.W.exmOne K (.ref D) (.ref C)=some true:=fun n hn D hD=>by
 have:=Z36.mp hL n hn
 exact(ZlX h (Z3L.mp this) hD hC).2
end
def Zj0(K:W.Frag)(n m qual:Str)(st:Stmt):Prop:=∃C f fd,ZdQ K n C/\PySem.W.findIn K (.ref C) m=some (some (.ref f))/\PySem.W.typeIn K (.ref f)=some (.type "function")/\Fun K m qual st f fd
theorem ZoX{X:Cx}:Zjz X (fun _=>E0):=fun _ _ _ _ _ _ _ h=>by obtain⟨_,_,_,_,_,_,q⟩:=h;exact q.elim
section
variable {K:W.Frag}{n:Nat}{m:List PV->Rr PV}{ta:TA}{Γ Γ':List Md}{fa:List PV->Rr (List PV)}
theorem ZuB(hn:Len fa n)(ha:DAA K X0 Γ Γ' ta fa):DE K X0 Γ Γ' .F (Zh7 (spF K n .F (W1 K) m) (fun _=>E0) ta) (fun ρ=>(fa ρ).bind m):=ZeQ (E:=E0) (W:=W1 K) (fun σ H Q h=>h) (fun e H' h=>h.elim) hn ha
end
noncomputable def ZoF(L:List Str)(i:Nat)(gh:List PV->RS)(ρ:List PV)(r:RS):RS:=match r with
 |.exc e=>if e.1∈L then gh (ρ.set i (Zqm e)) else .bad
 |r=>r
@[simp] theorem ZoG{L:List Str}{i:Nat}{gb gh:List PV->RS}{ρ:List PV}:Zst L i gb gh ρ=ZoF L i gh ρ (gb ρ):=by
 unfold Zst ZoF
 cases gb ρ<;>rfl
@[simp] theorem ZjE{L:List Str}{i:Nat}{gh:List PV->RS}{ρ ρ':List PV}:ZoF L i gh ρ (.next ρ')=.next ρ':=rfl
@[simp] theorem Zmb{L:List Str}{i:Nat}{gh:List PV->RS}{ρ:List PV}{x:PV}:ZoF L i gh ρ (.ret x)=.ret x:=rfl
@[simp] theorem Zmc{L:List Str}{i:Nat}{gh:List PV->RS}{ρ:List PV}{n:Str}:ZoF L i gh ρ (.exc (n,.non))=if n∈L then gh (ρ.set i (.exc n)) else .bad:=rfl
@[simp] theorem Zss{L:List Str}{i:Nat}{gh:List PV->RS}{ρ:List PV}{n:Str}{j:Int}:ZoF L i gh ρ (.exc (n,.int j))=if n∈L then gh (ρ.set i (.exa n j)) else .bad:=rfl
@[simp] theorem Zm7{L:List (Str×Bool)}:ZR L .non=.ok (.bl false):=rfl
theorem Zg{L:List (Str×Bool)}{n:Str}{b:Bool}(h:L.lookup n=some b):ZR L (.exc n)=.ok (.bl b):=by unfold ZR;simp only[h]
@[simp] theorem Ztt{n:Str}{i:Int}:grd (.exa n i)=.ok (.exa n i):=rfl
@[simp] theorem Zsz{n:Str}{i:Int}{g:Bool->Bool}:Zrb g (.exa n i)=.ok (.bl (g false)):=rfl
theorem Js{L:List Str}{n:Str}(h:n∈L):JT L (.exc n)=.ok (.str n):=by unfold JT;simp only[if_pos h]
@[simp] theorem Zp0{n:Str}:grd (.exc n)=.ok (.exc n):=rfl
@[simp] theorem ZmB{n:Str}{g:Bool->Bool}:Zrb g (.exc n)=.ok (.bl (g false)):=rfl
section
variable {K:W.Frag}{H:Hp}
theorem Trees.chg{p:Addr}{us us':List V}{y y':PV}(hp:H p=some (.lst us)):∀{xs:List PV}{vs:List V}{G:List Addr}{j:Nat}{v:V},Trees K H xs vs G->xs[j]?=some y->vs[j]?=some v ->
  (∀G2,Vd K H y v G2->p∈G2/\∃G3,(∀a∈G3,a∈G2)/\Vd K (upd H p (.lst us')) y' v G3)->p∈G/\∃G',(∀a∈G',a∈G)/\Trees K (upd H p (.lst us')) (xs.set j y') vs G'
 |[],_,_,_,_,_,e,_,_=>by simp at e
 |x::xs,_,_,0,v,h,e1,e2,hc=>by
  obtain⟨w,r,G1,G2,rfl,h1,h2,h3,rfl⟩:=h
  simp at e1 e2;subst e1 e2
  obtain⟨c1,G3,c2,c3⟩:=hc G1 h1
  refine⟨by simp[c1],G3++G2,fun a ha=>?_,w,r,G3,G2,rfl,c3,Trees.put hp (h3 p c1) h2,fun a ha=>h3 a (c2 a ha),rfl⟩
  rcases Z3q.mp ha with z|z
  ·simp[c2 a z]
  ·simp[z]
 |x::xs,_,_,j+1,v,h,e1,e2,hc=>by
  obtain⟨w,r,G1,G2,rfl,h1,h2,h3,rfl⟩:=h
  obtain⟨c1,G',c2,c3⟩:=Trees.chg hp (j:=j) (v:=v) h2 (by simpa using e1) (by simpa using e2) hc
  refine⟨by simp[c1],G1++G',fun a ha=>?_,w,r,G1,G',rfl,Vd.put hp (fun z=>h3 p z c1) h1,c3,fun a ha z=>h3 a ha (c2 a z),rfl⟩
  rcases Z3q.mp ha with z|z
  ·simp[z]
  ·simp[c2 a z]
noncomputable def pPut(x:PV)(c:Int)(z:PV):Rr PV:=match x with
 |.tup xs=>match ixN xs.length c with
  |some n=>.ok (.tup (xs.set n z))
  |none=>.bad
 |_=>.bad
theorem Dn.pPut{x z:PV}{c:Int}{ok:PV->Prop}{ex:PX->Prop}(d:Dn (pPut x c z) ok ex):∃xs n,x=.tup xs/\ixN xs.length c=some n/\ok (.tup (xs.set n z)):=by
 unfold L2.pPut at d
 cases x with
 |tup xs =>
  dsimp only at d
  cases e:ixN xs.length c with
  |none=>rw[e] at d;exact d.elim
  |some n=>rw[e] at d;exact⟨xs,n,rfl,e,d⟩
 |_=>exact d.elim
end
theorem Zk8{x:Str}(h:PyData.canLay0 (.str x)=true):okD (.str x)=true:=by simp[okD,PV.noX,PV.dat,PyData.depth,h]
theorem Zl{g:Bool->Bool}{a b:Str}(ha:PyData.canLay0 (.str a)=true)(hb:PyData.canLay0 (.str b)=true):ZO g (.str a) (.str b)=.ok (.bl (g (a==b))):=by
 unfold ZO
 rw[Zk8 ha,Zk8 hb]
 simp only[Bool.and_self,if_true,PV.dat,PyData.eqv]
theorem Zpd{g:Bool->Bool}{a b c d:Bool}:ZO g (.lst [.bl a,.bl b]) (.lst [.bl c,.bl d])=.ok (.bl (g (a==c&&b==d))):=by
 unfold ZO
 have h:∀a b:Bool,okD (.lst [.bl a,.bl b])=true:=fun a b=>by simp[okD,PV.noX,PV.noXs,PV.dat,PV.dats,PyData.canLay0,PyData.canLayAll0,PyData.depth,PyData.depthAll]
 rw[h,h]
 cases a<;>cases b<;>cases c<;>cases d<;>simp[PV.dat,PV.dats,PyData.eqv,PyData.eqvAll]
theorem Znw:bootBuiltins "range"=some (.type "range"):=by decide +kernel
section
end
noncomputable def Zsw(lo:Int)(n:Nat):List PV:=(List.range n).map fun(k:Nat)=>PV.int (lo-(k:Int))
noncomputable def ZqV(xs:List PV):Rr (List PV):=match xs with
 |[.int i,.int j,.int (-1)]=>if (okR i&&okR j)=true then .ok (Zsw i (i-j).toNat) else .bad
 |_=>.bad
theorem Zmw{i j:Int}(h:-(2^62)<=i/\i<2^62)(h':-(2^62)<=j/\j<2^62):ZqV [.int i,.int j,.int (-1)]=.ok (Zsw i (i-j).toNat):=by simp only[ZqV,okR,decide_eq_true h,decide_eq_true h',Bool.and_self,if_true]
@[simp] theorem Zgw{lo:Int}{n:Nat}:(Zsw lo n).length=n:=by simp[Zsw]
theorem ZeJ{ns ms:List Int}:ns.map PV.int=ms.map PV.int ↔ ns=ms:=⟨Zd9,fun h=>by rw[h]⟩
noncomputable def orX(o:Option Str)(x:PV):Rr PV:=match o with
 |none=>.ok x
 |some n=>.exc (n,.non)
theorem ZdC{b:PV->List PV->RS}{xs:List PV}{ρ:List PV}{W:RS}(hw:Zj5 b xs ρ=W)(I:Nat->List PV->Prop)(h0:I 0 ρ)(h:∀i x ρ,xs[i]?=some x->I i ρ->(b x ρ).good (I (i+1))) :
  ∃ρ',W=.next ρ'/\I xs.length ρ':=by
 obtain⟨ρ',h1,h2⟩:=Znc I h0 h
 exact⟨ρ',hw.symm.trans h1,h2⟩
theorem Zdp{c:List PV->Rr Bool}{b:List PV->RS}{ρ:List PV}{W:RS}(hw:QH c b ρ=W)(N:Nat)(I:Nat->List PV->Prop)(h0:I 0 ρ)(hs:∀i ρ,i<N->I i ρ->c ρ=.ok true/\(b ρ).good (I (i+1)))(he:∀ρ,I N ρ->c ρ=.ok false) :
  ∃ρ',W=.next ρ'/\I N ρ':=by
 subst hw
 have key:∀m i ρ,N=i+m->I i ρ->∃ρ',VM c b (m+1) ρ=some (.next ρ')/\I N ρ':=by
  intro m
  induction m with
  |zero =>
   intro i ρ hl hI
   obtain rfl:N=i:=by omega
   refine⟨ρ, ?_,hI⟩
   unfold VM
   rw[he ρ hI]
  |succ m ih =>
   intro i ρ hl hI
   obtain⟨h1,h2⟩:=hs i ρ (by omega) hI
   obtain⟨ρ',h3,h4⟩:=RS.good_ex h2
   obtain⟨ρ2,h5,h6⟩:=ih (i+1) ρ' (by omega) h4
   refine⟨ρ2, ?_,h6⟩
   unfold VM
   rw[h1]
   rcases h3 with h3|h3<;>(rw[h3];exact h5)
 obtain⟨ρ',h1,h2⟩:=key N 0 ρ (by omega) h0
 exact⟨ρ',Zfd h1,h2⟩
theorem ZkL{f:PV->Rr PV}{g:Int->Bool}{ns:List Int}(h:∀z∈ns,f (.int z)=.ok (.bl (g z))):Zf8 f (ns.map PV.int)=.ok ((ns.map g).map PV.bl):=by
 induction ns with
 |nil=>rfl
 |cons n ns ih =>
  simp only[Z31,Zf8,h n (by simp),Rr.bind_ok,ih fun z hz=>h z (by simp[hz])]
theorem ZmG(bs:List Bool):Zrd [.lst (bs.map PV.bl)]=.ok (.bl (bs.all id)):=by simp only[Zrd,Zga]
theorem ZlN{ns:List Int}{p:Int->Prop}[DecidablePred p]:(ns.map fun z=>decide (p z)).all id=decide (∀x∈ns,p x):=by
 rw[Bool.eq_iff_iff,Z36,decide_eq_true_iff]
 simp
theorem ZrO{ns:List Int}{h:Int}(h0:0<=h):ZlU (ns.map PV.int) none (some h)=(ns.take h.toNat).map PV.int:=by
 unfold ZlU HT.sIx
 simp only[Z3w,List.drop_zero,Nat.sub_zero]
 rw[if_neg (by omega),<- List.map_take]
 congr 1
 rw[List.take_eq_take_iff];omega
theorem Zns{ns:List Int}{l:Int}(h0:0<=l):ZlU (ns.map PV.int) (some l) none=(ns.drop l.toNat).map PV.int:=by
 unfold ZlU HT.sIx
 simp only[Z3w]
 rw[if_neg (by omega),<- List.map_drop,<- List.map_take]
 congr 1
 rw[Z44 (by simp)]
 by_cases h:l.toNat<=ns.length
 ·rw[Nat.min_eq_left h]
 ·rw[Z3V (by omega),Z3V (by omega)]
theorem ZqW{i j:Int}(h1:-(10^80)<=i)(h2:i<=10^80)(h3:-(10^80)<=j)(h4:j<=10^80):ZsX (.int i) (.int j)=.ok (.int (i*j)):=Zkt (ZpI 80 80 (by omega) (by omega))
theorem Zm1{k:Int}{z:Int}(h1:-(2^63)<=k)(h2:k<=1000000):ZsW [.int z] (.int k)=.ok (.lst ((List.replicate k.toNat z).map PV.int)):=by
 have:=Zkq (ns:=[z]) (k:=k) (by simp;omega) h1 (by omega)
 simp only[Z31,Z4f] at this
 rw[this,List.flatten_replicate_singleton]
theorem ZhO{ns:List Int}(h:ns≠[]):pIx (.lst (ns.map PV.int)) (.int (-1))=.ok (.int (ns.getD (ns.length-1) 0)):=by
 have hl:0<ns.length:=Z4i.mpr h
 have:atI (ns.map PV.int) (-1)=some (.int (ns.getD (ns.length-1) 0)):=by
  unfold atI ixN
  rw[if_neg (by omega),Z3w,if_pos (by omega)]
  show (ns.map PV.int)[(-1+(ns.length:Int)).toNat]?=_
  rw[show (-1+(ns.length:Int)).toNat=ns.length-1 by omega,Z3A,Z3r (by omega),Z3n,Z3r (by omega)]
  rfl
 simp only[pIx,this]
theorem Zpc{g:Bool->Bool}{a b c a' b' c':Bool}:ZO g (.lst [.bl a,.bl b,.bl c]) (.lst [.bl a',.bl b',.bl c'])=.ok (.bl (g (a==a'&&(b==b'&&c==c')))):=by
 unfold ZO
 have h:∀a b c:Bool,okD (.lst [.bl a,.bl b,.bl c])=true:=fun a b c=>by simp[okD,PV.noX,PV.noXs,PV.dat,PV.dats,PyData.canLay0,PyData.canLayAll0,PyData.depth,PyData.depthAll]
 rw[h,h]
 cases a<;>cases b<;>cases c<;>cases a'<;>cases b'<;>cases c'<;>rfl
theorem ZmI{x:PV}:orX none x=.ok x:=rfl
theorem ZmH{x:PV}{n:Str}:orX (some n) x=.exc (n,.non):=rfl
theorem ZkE{ns:List Int}{z:Int}(h:ns.length<1000000):newF (ns.map PV.int++[.int z])=.ok (.lst ((ns++[z]).map PV.int)):=VD (ms:=[z]) (by simp only[Z3t,Z3F,Z3y];omega)
theorem ZiL{ns:List Int}{y z:Int}(h:ns.length<999990):newF (ns.map PV.int++[.int y,.int z])=.ok (.lst ((ns++[y,z]).map PV.int)):=VD (ms:=[y,z]) (by simp only[Z3t,Z3F,Z3y];omega)
theorem ZkF{ns:List Int}{z:Int}(h:ns.length<1000000):newF (.int z::ns.map PV.int)=.ok (.lst ((z::ns).map PV.int)):=VD (ns:=[z]) (by simp only[Z3t,Z3F,Z3y];omega)
theorem ZiM{ns:List Int}{y z:Int}(h:ns.length<999990):newF (.int y::.int z::ns.map PV.int)=.ok (.lst ((y::z::ns).map PV.int)):=VD (ns:=[y,z]) (by simp only[Z3t,Z3F,Z3y];omega)
theorem ZgB{ns:List Int}{y z u:Int}(h:ns.length<999990):newF (.int y::.int z::(ns.map PV.int++[.int u]))=.ok (.lst ((y::z::(ns++[u])).map PV.int)):=by
 have:=VD (ns:=[y,z]) (ms:=ns++[u]) (by simp only[Z3t,Z3F,Z3y];omega)
 simp only[Z3P,Z31,Z4f,Z4k,Z41] at this ⊢
 exact this
theorem Zpo{ns:List Int}{z u:Int}(h:ns.length<999990):newF (.int z::(ns.map PV.int++[.int u]))=.ok (.lst ((z::(ns++[u])).map PV.int)):=by
 have:=VD (ns:=[z]) (ms:=ns++[u]) (by simp only[Z3t,Z3F,Z3y];omega)
 simp only[Z3P,Z31,Z4f,Z4k,Z41] at this ⊢
 exact this
theorem ZoE{L:List Str}{i:Nat}{gh:List PV->RS}{ρ:List PV}{n:Str}(h:n∈L):ZoF L i gh ρ (.exc (n,.non))=gh (ρ.set i (.exc n)):=by rw[Zmc,if_pos h]
theorem ZjY{n:Nat}:List.replicate (n+1) PV.non=PV.non::List.replicate n PV.non:=rfl
theorem ZjX:List.replicate 0 PV.non=[]:=rfl
theorem Zpa{a b:PV}:Zg6 [.tup [a,b]]=.ok (.int 2):=rfl
theorem ZoZ{a b c:PV}:Zg6 [.tup [a,b,c]]=.ok (.int 3):=rfl
theorem ZoY{x y z:PV}:pPut (.tup [x,y]) 0 z=.ok (.tup [z,y]):=rfl
section
noncomputable def asLn(n:Nat)(x:PV):Rr (List PV):=match x with
 |.lst xs=>if xs.length=n then .ok xs else .bad
 |_=>.bad
theorem Dn.asLn{n:Nat}{x:PV}{ok:List PV->Prop}{ex:PX->Prop}(d:Dn (asLn n x) ok ex):∃xs,x=.lst xs/\xs.length=n/\ok xs:=by
 cases x with
 |lst xs =>
  unfold L2.asLn at d
  by_cases h:xs.length=n
  ·simp only[if_pos h] at d;exact⟨xs,rfl,h,d⟩
  ·simp only[if_neg h] at d;exact d.elim
 |_=>exact d.elim
theorem ZrX{a b:PV}:asLn 2 (.lst [a,b])=.ok [a,b]:=rfl
theorem ZrW{a b c:PV}:asLn 3 (.lst [a,b,c])=.ok [a,b,c]:=rfl
end
theorem Zld{a:Str}{b c:Int}:grd (.tup [.str a,.int b,.int c])=.ok (.tup [.str a,.int b,.int c]):=rfl
theorem ZmX{a:Str}{b:Int}:grd (.tup [.str a,.int b])=.ok (.tup [.str a,.int b]):=rfl
theorem ZmY{a b:Int}:grd (.tup [.int a,.int b])=.ok (.tup [.int a,.int b]):=rfl
theorem ZmA{g:Bool->Bool}{i:Int}:Zrb g (.int i)=.ok (.bl (g false)):=rfl
theorem Zm8{g:Bool->Bool}:Zrb g .non=.ok (.bl (g true)):=rfl
theorem Zm9{g:Bool->Bool}{xs:List PV}:Zrb g (.lst xs)=.ok (.bl (g false)):=rfl
theorem Zpb{g:Bool->Bool}{ns:List Int}:ZO g (.lst (ns.map PV.int)) (.lst [])=.ok (.bl (g (decide (ns=[])))):=Zdf ns []
theorem Zrc{g:Bool->Bool}:ZO g (.lst []) (.lst [])=.ok (.bl (g true)):=Zdf [] []
section
end
noncomputable def Zng(xs:List PV):List PV:=xs.mapIdx fun i x=>.tup [.int (i:Nat),x]
section
noncomputable def Ztc(xs:List PV):Rr (List PV):=match xs with
 |[.lst ys]=>.ok (Zng ys)
 |_=>.bad
noncomputable def Zoc(xs:List PV):Rr (List PV):=match xs with
 |[.lst ys]=>if PV.flats ys=true then .ok (Zng ys) else .bad
 |_=>.bad
theorem ZiJ{ns:List Int}:Zoc [.lst (ns.map PV.int)]=.ok (Zng (ns.map PV.int)):=by unfold Zoc;simp only[Zb6,if_true]
theorem ZmC{ys:List PV}:Ztc [.lst ys]=.ok (Zng ys):=rfl
variable {prog:Program}{w:World}{A:Around}{R:Result->Shared->Prop}{s:Shared}
theorem Vs{elt target iter:Expr}{ifs:List Expr}{scope:Scope}{pos:Pos}{it acc:Value}{env:Env}(I:Nat->Shared->Prop)(turn:∀n s,I n s->wpAny (model prog w) A (pyNext it) (fun r s₁=>match r with
   |none=>R (.ok .next) s₁
   |some v=>wpAny (model prog w) A (letOwnedTupleGo target it v) (fun _ s₁'=>wpAny (model prog w) A (assign target env v) (fun _ s₂ =>
     wpAny (model prog w) A (forIn ifs true fun c r=>if r=true then do let ok <- isTrue c env (eval c env);pure (ForInStep.yield ok) else pure (ForInStep.yield r)) (fun ok s₃ =>
      if ok=true then wpAny (model prog w) A (eval elt env) (fun x s₄ =>
       wpAny (model prog w) A (call (.builtin "list.append") [acc,x]) (fun _ s₅=>∃m,m<n/\I m s₅) (notedBy (model prog w) A env fun e s'=>R (.error e) s') s₄) (notedBy (model prog w) A env fun e s'=>R (.error e) s') s₃
      else ∃m,m<n/\I m s₃) (notedBy (model prog w) A env fun e s'=>R (.error e) s') s₂) (notedBy (model prog w) A env fun e s'=>R (.error e) s') s₁') (notedBy (model prog w) A env fun e s'=>R (.error e) s') s₁) (notedBy (model prog w) A env fun e s'=>R (.error e) s') s)(n:Nat)(h:I n s) :
  codeAny (model prog w) A (.compLoop (.ListComp elt [⟨target,iter,ifs,0⟩] scope pos) 0 it acc env) R s:=by
 refine codeAny_loop rfl I (fun n s hI=>?_) n h
 show wpAny _ A ((compTurn (.ListComp elt [⟨target,iter,ifs,0⟩] scope pos) 0 it acc env).onRaise (fun x=>do noteFrame x env;theTreesLotGoes x)) _ _ s
 refine wpAny_noted ?_
 rw[compTurn_list]
 refine wpAny_bind (wpAny_standAt (wpAny_bind (wpAny_mono (turn n s hI) (fun r s₁ h₁=>?_) fun _ _ h'=>h')))
 cases r with
 |none=>exact wpAny_pure h₁
 |some v =>
  refine wpAny_bind (wpAny_mono h₁ (fun _ s₁' h₁'=>?_) fun _ _ h'=>h')
  refine wpAny_bind (wpAny_mono h₁' (fun _ s₂ h₂=>wpAny_bind (wpAny_mono h₂ (fun ok s₃ h₃=>?_) fun _ _ h'=>h')) fun _ _ h'=>h')
  cases ok with
  |false=>exact wpAny_pure ⟨rfl,h₃⟩
  |true =>
   exact wpAny_bind (wpAny_bind (wpAny_mono h₃ (fun x s₄ h₄=>wpAny_bind (wpAny_mono h₄ (fun _ s₅ h₅=>wpAny_pure (wpAny_pure ⟨rfl,h₅⟩)) fun _ _ h'=>h')) fun _ _ h'=>h'))
end
noncomputable def ZcW(xs:List Str)(y:Str):Str:=if xs.contains y then "" else y
noncomputable def Vv(X:Cx)(scope:Scope)(xs:List Str)(C:Addr)(ex:List Addr)(s₂:Shared)(H₂:Hp):Cx:=
 { X with N:=X.N.map (ZcW xs)++xs,s₀:=s₂,H₀:=H₂,env:=compEnvC scope (Zfb scope X.env) C X.env,outer:=X.stack,ex:=ex,fn:=fun _=>false,pn:=[],xe:=fun _ _=>False }
noncomputable abbrev TB:=V->Hp->List V->Prop
noncomputable def tB1:TB:=fun x _ vs=>vs=[x]
def PB(X:Cx)(scope:Scope)(xs:List Str)(tg:Expr)(Bd:TB):Prop:=∀C s₂ H₂ ex,∀(pins:List (Addr×Obj)) (s:Shared) (σ σx:St) (H:Hp) (x:V) (u:Value) (vs:List V) (E:Value->Shared->Prop),σ.length=X.N.length->σx.length=xs.length ->
 Inv (Vv X scope xs C ex s₂ H₂) pins (σ++σx) H s->JY x u->Bd x H vs->wpAny (model X.prog X.w) X.A (assign tg (Vv X scope xs C ex s₂ H₂).env u) (fun _ s'=>Inv (Vv X scope xs C ex s₂ H₂) pins (σ++vs.map some) H s') E s
def PCi(X:Cx)(ifs:List Expr)(t:TT):Prop:=∀(pins:List (Addr×Obj)) (s:Shared) (σ:St) (H:Hp) (Q:Bool->Hp->Prop) (E:Value->Shared->Prop),Inv X pins σ H s->t σ H Q ->
 wpAny (model X.prog X.w) X.A (forIn ifs true fun c r=>if r=true then do let ok <- isTrue c X.env (eval c X.env);pure (ForInStep.yield ok) else pure (ForInStep.yield r)) (TP X pins σ Q) E s
noncomputable def Zqa:TT:=fun _ H Q=>Q true H
theorem ZhL{X:Cx}:PCi X [] Zqa:=fun pins s σ H Q E I h=>wpAny_tests_nil ⟨_,I,h⟩
def Zgm(σ:St)(Bd:TB)(tt:TT)(te:TE)(J:It)(H1:Hp)(Q:VK):Prop:=∃W:Nat->Nat->List V->Hp->Prop,(∃m,W 0 m [] H1)/\∀i m ys H2,W i m ys H2->ys.length<=sizeLine /\
 ((J.stop i H2/\∀p,H2 p=none->Q (.ref p) (upd H2 p (.lst ys))) \/
  (J.go i H2/\∃N:List V->Hp->Prop,(∀ys' H',N ys' H'->∃m',m'<m/\W (i+1) m' ys' H')/\∀x H3,J.yld i H2 x H3->∃vs,Bd x H3 vs/\tt (σ++vs.map some) H3 fun b H4=>if b=true then te (σ++vs.map some) H4 fun y H5=>N (ys++[y]) H5 else N ys H4))
noncomputable def ZdV(wi:TI)(Bd:TB)(tt:TT)(te:TE):TE:=fun σ H Q=>wi σ H fun J H1=>Zgm σ Bd tt te J H1 Q
noncomputable def Vo(N:List Str)(sc scope:Scope)(xs:List Str):Bool:=xs.all (fun x=>Zho [] sc scope x)&&decide (N.map (ZcW xs)++xs).Nodup&&!xs.isEmpty&&(N.all fun y=>xs.contains y || !(scope.names.lookup y==some .local))&&(scope.names.lookup (Str.ofString "")==none)
structure CkN(N:List Str)(sc scope:Scope)(xs:List Str):Prop where
 scs:∀x∈xs,Zeu [] sc scope x
 nd:(N.map (ZcW xs)++xs).Nodup
 ex:∃x,x∈xs
 noN:∀y∈N,y ∉ xs->scope.names.lookup y≠some .local
 noE:scope.names.lookup (Str.ofString "")=none
theorem VF{N:List Str}{sc scope:Scope}{xs:List Str}(h:Vo N sc scope xs=true):CkN N sc scope xs:=by
 unfold Vo at h
 simp only[Bool.and_eq_true,Z36,decide_eq_true_eq,Bool.not_eq_true',Bool.or_eq_true,beq_iff_eq,beq_eq_false_iff_ne] at h
 obtain⟨⟨⟨⟨h1,h2⟩,h3⟩,h4⟩,h5⟩:=h
 refine⟨fun x hx=>Zeu.of (h1 x hx),h2, ?_,fun y hy hn=>?_,h5⟩
 ·cases xs with
  |nil=>simp at h3
  |cons a l=>exact⟨a,by simp⟩
 ·rcases h4 y hy with z|z
  ·exact absurd (Z3L.mp z) hn
  ·exact z
section
variable {X:Cx}{pins:List (Addr×Obj)}{σ:St}{s₂:Shared}{H₂:Hp}{scope:Scope}{x:Str}{xs:List Str}{tg elt iter:Expr}{ifs:List Expr}{pos:Pos}{Bd:TB}{tt:TT}{te:TE}{J:It}{fp:List Addr}{it:Addr}{tn:Nat->Heap->Prop}
theorem Jy{N0:List Str}(sc:Zeu N0 X.env.scope scope x)(ok:X.Ok){y:Str}{c:Addr}(h:(Zfb scope X.env).lookup y=some c):X.env.cells.lookup y=some c:=by
 have hm:=PySem.mem_of_lookup h
 unfold Zfb at hm
 obtain⟨p,hp,e⟩:=Z3G.mp hm
 have hp':=Z4d.mp (List.mem_reverse.mp hp)
 obtain⟨e1,e2⟩:=Prod.mk.inj e
 have hk:=sc.fr p hp'.1 (beq_iff_eq.mp hp'.2)
 obtain⟨c',hc'⟩:=ok.has p.1 hk
 rw[hc'] at e2
 rw[<- e1,hc']
 exact congrArg some e2
theorem ZlH{N0:List Str}(I:Inv X pins σ H₂ s₂)(sc:Zeu N0 X.env.scope scope x){C:Addr}(hC:s₂.heap.objs.size<=C)(ff:∀b∈fp,Zj1 X pins H₂ b)(fo:∀b∈fp,∃o,s₂.heap.get? b=some o):(Vv X scope xs C fp s₂ H₂).Ok where
 mod:=I.ok.mod
 kind:=sc.kind
 glob:=I.ok.glob
 blt:=I.ok.blt
 above:=hC
 inj:=fun y z c h1 h2=>I.ok.inj y z c (Jy sc I.ok h1) (Jy sc I.ok h2)
 has:=fun y hy=>by
  have hy':(relabel scope X.env).names.lookup y=some .cell\/(relabel scope X.env).names.lookup y=some .free:=hy
  have hf:scope.names.lookup y=some .free:=by
   rcases hy' with z|z
   ·exact(ZM sc.nc z).2 (.inl rfl)
   ·exact(ZM sc.nc z).2 (.inr rfl)
  exact ZeS hf
 cab:=fun y c h=>by cases h
 hd:=I.ok.hd
 frames:=I.ok.frames
 stk:=.inl rfl
 exf:=fun b hb=>by
  obtain⟨f0,f1,f2,f3,f4,f5⟩:=ff b hb
  obtain⟨o,ho⟩:=fo b hb
  exact⟨Z3B (Z3z (Heap.lt_size ho) hC),fun y c h=>f4 y c (Jy sc I.ok h)⟩
 bs:=I.bs
 bsz:=Z33 I.ok.bsz I.sz
 noex:=fun b o e hb=>by
  obtain⟨f0,f1,f2,f3,f4,f5⟩:=ff b hb
  rcases f3 with z|z
  ·exact I.ok.noex b o e z
  ·exact absurd (Z3z (Heap.lt_size e) (Z33 I.ok.bsz z)) (Z3M _)
 exfs:=fun b hb z=>by
  obtain⟨f0,f1,f2,f3,f4,f5⟩:=ff b hb
  rcases Z3v.mp (I.stkSub b z) with e|e
  ·exact f1 e
  ·exact f2 e
 funs:=I.stack
 frf:=I.stkFree
theorem ZfW{E:Value->Shared->Prop}{Q:VK}{RR:Value->Addr->Result->Shared->Prop}(I:Inv X pins σ H₂ s₂)(ck:CkN X.N X.env.scope scope xs)(hx:x∈xs)(hNd:X.N.Nodup)(hc:X.calm=true)(T:Zo4 X.prog X.w X.K tg J fp it tn)(st:tn 0 s₂.heap)(ff:∀b∈fp,Zj1 X pins H₂ b)(hw:Zgm σ Bd tt te J H₂ Q)(hb:PB X scope xs tg Bd)(ht:∀C s₂ H₂ ex,PCi (Vv X scope xs C ex s₂ H₂) ifs tt)(he:∀C s₂ H₂ ex,PE (Vv X scope xs C ex s₂ H₂) elt te)(hvs:∀x H vs,Bd x H vs->vs.length=xs.length)(hRR:∀D C s' H' m',s₂.heap.objs.size<=C->Inv X pins σ H' s'->s'.heap.Ns C m'->H' C=none->Q (.ref D) H'->RR (.ref D) C (.ok .next) s') :
  wpAny (model X.prog X.w) X.A (newList []) (fun acc s₃=>wpAny (model X.prog X.w) X.A (newFunctionEnv scope X.env.globals (Zfb scope X.env) [] X.env.qual none .none (some X.env)) (fun cenv s₄ =>
   codeAny (model X.prog X.w) X.A (.compStart (.ListComp elt [⟨tg,iter,ifs,0⟩] scope pos) 0 (.ref it) acc { cenv with scope:=relabel scope X.env }) (RR acc cenv.locals) s₄) E s₃) E s₂:=by
 have sc:=ck.scs x hx
 refine wpAny_newObj_type (wpAny_newFunctionEnv sc.nc (by intro y hy;simp at hy) (fun h₁ hns₁ hsb₁=>?_) sc.kind)
 dsimp only at hns₁ hsb₁ ⊢
 generalize hP2:s₂.heap.push { cls:=.type "list",dict:=none,data:=.seq ([]:List Value).toArray }=P2 at hns₁ hsb₁ ⊢
 have hCs:P2.objs.size=s₂.heap.objs.size+1:=by rw[<- hP2,Heap.size_push]
 have hCle:s₂.heap.objs.size<=P2.objs.size:=by rw[hCs];exact Nat.le_succ _
 have hDC:s₂.heap.objs.size≠P2.objs.size:=by rw[hCs];exact Z3B (Z4S _)
 generalize hCe:P2.objs.size=C at hns₁ hsb₁ hCs hCle hDC ⊢
 generalize hDe:s₂.heap.objs.size=D at hCs hCle hDC ⊢
 have fo:∀b∈fp,∃o,s₂.heap.get? b=some o:=fun b hb=>let ⟨o,e,_⟩:=T.obj _ _ st b hb;⟨o,e⟩
 have flt:∀b∈fp,b<D:=fun b hb=>by obtain⟨o,e⟩:=fo b hb;rw[<- hDe];exact Heap.lt_size e
 have old:∀b o,s₂.heap.get? b=some o->h₁.get? b=some o:=fun b o e=>by
  have hb:=Heap.lt_size e
  exact hsb₁.extBut b o (Z3B (by rw[hCs];exact Nat.lt_succ_of_lt (hDe▸hb))) (Heap.get?_push_of_some _ (hP2▸Heap.get?_push_of_some _ e))
 have hacc:h₁.get? D=some { cls:=.type "list",data:=.seq ([]:List Value).toArray 0 }:=hsb₁.extBut _ _ hDC (Heap.get?_push_of_some _ (hP2▸hDe▸Heap.get?_push_size _ rfl))
 have okB:=ZlH (x:=x) (xs:=xs) (C:=C) I sc (by rw[hDe];exact hCle) ff fo
 have hfreshD:H₂ D=none:=I.hok.fresh (by rw[hDe];exact Z3u _)
 have hfreshC:H₂ C=none:=I.hok.fresh (by rw[hDe];exact hCle)
 have I0:Inv (Vv X scope xs C fp s₂ H₂) [(D,{ cls:=.type "list",data:=.seq ([]:List Value).toArray 0 })] (σ++List.replicate xs.length none) H₂ { s₂ with heap:=h₁,toks:=s₂.toks+([]:List (Str×Value)).length }:=by
  refine⟨okB,rfl,I.bare,Un.kept old,⟨_,hns₁,fun i y v e1 e2 e3=>?_⟩,fun y c e=>?_,hfreshC,fun y c e=>I.freeC y c (Jy sc I.ok e),fun p hp=>?_,I.hok.kept old,by simp[Vv,I.len]⟩
  ·have hi:i<σ.length:=by
    by_cases hi:i<σ.length
    ·exact hi
    ·rw[Z34 (by omega)] at e2
     rw[Z4g] at e2
     split at e2<;>cases e2
   rw[Z3x hi] at e2
   have e1':(X.N.map (ZcW xs)++xs)[i]?=some y:=e1
   rw[Z3x (by rw[Z3w,<- I.len];exact hi),Z3A] at e1'
   have lk:scope.names.lookup y=some .local\/scope.names.lookup y=some .free:=by
    have e3':(relabel scope X.env).names.lookup y=some .local\/(relabel scope X.env).names.lookup y=some .cell\/(relabel scope X.env).names.lookup y=some .free:=e3
    rcases e3' with z|z|z
    ·exact .inl ((ZM sc.nc z).1 rfl)
    ·exact .inr ((ZM sc.nc z).2 (.inl rfl))
    ·exact .inr ((ZM sc.nc z).2 (.inr rfl))
   obtain⟨y0,ey0,ey⟩:∃y0,X.N[i]?=some y0/\ZcW xs y0=y:=by
    cases q:X.N[i]? with
    |none=>rw[q] at e1';cases e1'
    |some y0=>rw[q] at e1';exact⟨y0,rfl,Option.some.inj e1'⟩
   have hy0:y0 ∉ xs:=fun z=>by
    have:y=Str.ofString "":=by rw[<- ey];unfold ZcW;rw[if_pos (Z3L.mpr z)]
    rw[this,ck.noE] at lk
    rcases lk with z|z<;>cases z
   have ey2:y0=y:=by rw[<- ey];unfold ZcW;rw[if_neg (fun z=>hy0 (Z3L.mp z))]
   rw[ey2] at ey0 hy0
   have e1':X.N[i]?=some y:=ey0
   have yN:y∈X.N:=Z3T e1'
   have e3':(relabel scope X.env).names.lookup y=some .local\/(relabel scope X.env).names.lookup y=some .cell\/(relabel scope X.env).names.lookup y=some .free:=e3
   have hcf:(relabel scope X.env).names.lookup y=some .cell\/(relabel scope X.env).names.lookup y=some .free:=by
    rcases e3' with z|z
    ·exact absurd ((ZM sc.nc z).1 rfl) (ck.noN y yN hy0)
    ·exact z
   have hfree:scope.names.lookup y=some .free:=by
    rcases hcf with z|z
    ·exact(ZM sc.nc z).2 (.inl rfl)
    ·exact(ZM sc.nc z).2 (.inr rfl)
   obtain⟨c,hcl⟩:=ZeS (X:=X) hfree
   have hcx:=Jy sc I.ok hcl
   have hvis:=sc.fr _ (PySem.mem_of_lookup hfree) rfl
   obtain⟨m,hn,hl⟩:=I.loc
   obtain⟨u,ru,hlook⟩:=hl i y v e1' e2 (.inr hvis)
   refine⟨u,ru,.inr ⟨hcf,c,hcl, ?_⟩⟩
   rcases hlook with ⟨k,_⟩|⟨k,c',ec,hcell⟩
   ·have k':X.env.scope.names.lookup y=some .local:=k
    have hv':X.env.scope.names.lookup y=some .cell\/X.env.scope.names.lookup y=some .free:=hvis
    rw[k'] at hv'
    rcases hv' with z|z<;>cases z
   ·rw[hcx] at ec;cases ec
    obtain⟨o,ho,hd⟩:=hcell
    exact⟨o,old _ _ ho,hd⟩
  ·obtain⟨v,o,ho,hd⟩:=I.cell y c (Jy sc I.ok e)
   exact⟨v,o,old _ _ ho,hd⟩
  ·have e:p=(D,{ cls:=.type "list",data:=.seq ([]:List Value).toArray 0 }):=by simpa[Vv] using hp
   subst e
   exact⟨hacc,hfreshD,hDC,(fun z=>by
    rcases Z3v.mp (I.stkSub D z) with e|e
    ·exact absurd I.lt (by rw[<- e,hDe];exact Z3M _)
    ·exact I.nofs (by rw[hDe];exact Z3u _) e),fun v z=>nomatch z⟩
 obtain⟨W,⟨m0,w0⟩,turn⟩:=hw
 have fpB:∀{H':Hp}{o:Obj},(∀b∈fp,H' b=none)->∀b∈fp,Zj1 (Vv X scope xs C fp s₂ H₂) [(D,o)] H' b:=fun {H' o} hn b hb=>by
  obtain⟨f0,f1,f2,f3,f4,f5⟩:=ff b hb
  obtain⟨g1,g2⟩:=okB.exf b hb
  exact⟨hn b hb,g1,okB.exfs b hb,.inl hb,g2,fun p hp=>by
   have e:p=(D,o):=by simpa[Vv] using hp
   subst e
   exact(Z3B (flt b hb)).symm⟩
 have hσ:σ.length=X.N.length:=I.len
 have loop:∀s₃:Shared,s₃={ s₂ with heap:=h₁,toks:=s₂.toks+([]:List (Str×Value)).length } ->
   codeAny (model X.prog X.w) X.A (.compLoop (.ListComp elt [⟨tg,iter,ifs,0⟩] scope pos) 0 (.ref it) (.ref D) (compEnvC scope (Zfb scope X.env) C X.env)) (RR (.ref D) C) s₃:=by
  rintro s₃ rfl
  refine Vs
   (fun n s'=>∃i ys its k σx H',σx.length=xs.length/\Inv (Vv X scope xs C fp s₂ H₂) [(D,{ cls:=.type "list",data:=.seq (List.toArray its) k })] (σ++σx) H' s'/\tn i s'.heap/\(∀b∈fp,H' b=none)/\Jk ys its/\W i n ys H') ?_ m0
   ⟨0,[],[],0,List.replicate xs.length none,H₂,by simp,I0,T.keep _ _ _ st (fun b hb o e=>old b o e),fun b hb=>(ff b hb).1,.nil,w0⟩
  rintro n s' ⟨i,ys,its,k,σx,H',hσx,I',st',fr',rv,w'⟩
  obtain⟨hz,hcase⟩:=turn i n ys H' w'
  have hpinD:=I'.pin (D,{ cls:=.type "list",data:=.seq (List.toArray its) k }) (by simp[Vv])
  rcases hcase with ⟨stop,q⟩|⟨go,N,hN,step⟩
  ·refine thn (T.done (Vv X scope xs C fp s₂ H₂) rfl rfl rfl hc i _ s' _ H' _ I' (fpB fr') st' stop) fun r s4 ⟨hr,I4⟩=>?_
   subst hr
   have pD:=I4.pin (D,{ cls:=.type "list",data:=.seq (List.toArray its) k }) (by simp[Vv])
   obtain⟨m4,hn4,_⟩:=I4.loc
   have IX:Inv X pins σ H' s4:=I.call' I4.os I4.base I4.hok I4.bare fun b hb=>by
    obtain⟨f0,f1,f2,f3,f4,f5⟩:=ff b hb
    exact⟨f3,f1,f4,f5⟩
   have IX2:=IX.adopt (D:=D) (ys:=ys) (its:=its) (n:=k) hpinD.2.1 (by rw[<- hDe];exact I.sz) (by rw[<- hDe];exact Z49 I.lt)
    (fun y c e z=>by
     obtain⟨v,o,ho,hd⟩:=I.cell y c e
     have:=Heap.lt_size ho
     rw[hDe,z] at this
     exact Z3M _ this)
    (fun p hp z=>by
     have:=Heap.lt_size (I.pin p hp).1
     rw[hDe,z] at this
     exact Z3M _ this) pD.1 rv hz
   refine hRR D C s4 _ m4 (by rw[hDe];exact hCle) IX2 hn4 ?_ (q D hpinD.2.1)
   rw[Z4 (Ne.symm hDC)]
   exact I4.free
  ·refine thn (T.item (Vv X scope xs C fp s₂ H₂) rfl rfl rfl hc i _ s' _ H' _ I' (fpB fr') st' go) fun r s4 ⟨u,hr,h4⟩=>?_
   subst hr
   refine thn h4 fun _ s5 ⟨y,H5,I5,r5,y5,st5,fr5⟩=>?_
   have I5':=I5.pinned (fpB fr5) (T.obj _ _ st5)
   obtain⟨vs,bd5,stp⟩:=step y H5 y5
   refine thn (hb C s₂ H₂ fp _ s5 σ σx H5 y u vs _ hσ hσx I5' r5 bd5) fun _ s6 I6=>?_
   refine thn (ht C s₂ H₂ fp _ s6 _ H5 _ _ I6 stp) fun ok s6' hok=>?_
   obtain⟨H6',I6',q6'⟩:=hok
   have hvl:=hvs _ _ _ bd5
   have stay:∀{s9:Shared}{H9:Hp}{ys':List V}{its':List Value}{k':Nat},True:=fun {_ _ _ _ _}=>trivial
   cases ok with
   |false =>
    rw[if_neg Bool.false_ne_true] at q6' ⊢
    have pD6:=I6'.pin (D,{ cls:=.type "list",data:=.seq (List.toArray its) k }) (by simp[Vv])
    obtain⟨m',hm,w8⟩:=hN _ _ q6'
    refine⟨m',hm,i+1,ys,its,k,vs.map some,H6',by simp[hvl],I6'.pins_of fun p hp=>?_, ?_,fun b hb'=>?_,rv,w8⟩
    ·have e:p=(D,{ cls:=.type "list",data:=.seq (List.toArray its) k }):=by simpa using hp
     subst e
     exact⟨pD6.1,pD6.2.1,pD6.2.2.1,pD6.2.2.2.1,fun v z=>nomatch z⟩
    ·refine T.keep _ _ _ st5 fun b hb' o e=>?_
     exact(I6'.pin (b,o) (Z3o _ (Z3o _ (J8 hb' e)))).1
    ·obtain⟨o,e,d⟩:=T.obj _ _ st5 b hb'
     exact(I6'.pin (b,o) (Z3o _ (Z3o _ (J8 hb' e)))).2.1
   |true =>
   rw[if_pos rfl] at q6' ⊢
   refine wpAny_mono (he C s₂ H₂ fp _ s6' _ H6' _ I6' q6') (fun u7 s7 h7=>?_) fun _ _ f=>f.elim
   obtain⟨v7,H7,I7,r7,n7⟩:=h7
   have pD7:=I7.pin (D,{ cls:=.type "list",data:=.seq (List.toArray its) k }) (by simp[Vv])
   have hlen:=rv.length
   refine append_at (hsz:=by show its.toArray.size<=sizeLine;rw[Z32,<- hlen];exact hz) pD7.1 fun h8 hs8 hD8=>?_
   obtain⟨m',hm,w8⟩:=hN _ _ n7
   have hD8':h8.get? D=some { cls:=.type "list",data:=.seq (its++[u7]).toArray (k+1) }:=by rw[hD8,List.push_toArray]
   have I8:Inv (Vv X scope xs C fp s₂ H₂) [] (σ++vs.map some) H7 { s7 with heap:=h8 }:=by
    refine(I7.pins_of (pins':=[]) fun p hp=>absurd hp (by simp)).turned (t':=s7.toks) (it:=D) (fun b o hb e=>(hs8.2 b hb).trans e) pD7.2.1 pD7.2.2.1 (.inr (by show s₂.heap.objs.size<=D;rw[hDe];exact Z3u _)) (fun y' c' e' z=>?_) fun p hp=>absurd (show p∈([]:List (Addr×Obj)) from by simpa[Vv] using hp) (by simp)
    obtain⟨v,o,ho,hd⟩:=I.cell y' c' (Jy sc I.ok e')
    have:=Heap.lt_size ho
    rw[hDe,z] at this
    exact Z3M _ this
   refine⟨m',hm,i+1,ys++[v7],its++[u7],k+1,vs.map some,H7,by simp[hvl],I8.pins_of fun p hp=>?_, ?_,fun b hb'=>?_,rv.append (.cons r7 .nil),w8⟩
   ·have e:p=(D,{ cls:=.type "list",data:=.seq (its++[u7]).toArray (k+1) }):=by simpa using hp
    subst e
    exact⟨hD8',pD7.2.1,pD7.2.2.1,pD7.2.2.2.1,fun v z=>nomatch z⟩
   ·refine T.keep _ _ _ st5 fun b hb' o e=>?_
    have hpb:=I7.pin (b,o) (Z3o _ (Z3o _ (J8 hb' e)))
    exact(hs8.2 b (Z3B (flt b hb'))).trans hpb.1
   ·obtain⟨o,e,d⟩:=T.obj _ _ st5 b hb'
    exact(I7.pin (b,o) (Z3o _ (Z3o _ (J8 hb' e)))).2.1
 exact codeAny_compStart_list (loop _ rfl) (T.self _ 0 _ _ _ (T.keep _ _ _ st fun b hb o e=>old b o e) (loop _ rfl))
theorem Ze6{px:Pos}(hNd:X.N.Nodup)(hchk:Vo X.N X.env.scope scope [x]=true:=by rfl):PB X scope [x] (.Name x px) tB1:=by
 intro C s₂ H₂ ex pins s σ σx H y u vs E hσ hσx I r hb
 have ck:=VF hchk
 have sc:=ck.scs x (by simp)
 have hb:vs=[y]:=hb
 subst hb
 have ndB:=ck.nd
 refine wpAny_assign_Name ?_
 refine QJ (X:=Vv X scope [x] C ex s₂ H₂) (i:=X.N.length) (x:=x) (v:=y) I ndB (by simp[Vv]) (.inl (lookup_relabel_local sc.var)) r (fun s6 I6=>?_) (.inr (lookup_relabel_local sc.var))
 obtain⟨o,rfl⟩:∃o,σx=[o]:=by
  cases σx with
  |nil=>simp at hσx
  |cons a l =>
   cases l with
   |nil=>exact⟨a,rfl⟩
   |cons b l=>simp at hσx
 have eσ:(σ++[o]).set X.N.length (some y)=σ++[some y]:=by
  rw[<- hσ];simp
 rw[eσ] at I6
 exact I6
theorem ZhK{wi:TI}(hi:PI X tg iter wi)(hb:PB X scope xs tg Bd)(ht:∀C s₂ H₂ ex,PCi (Vv X scope xs C ex s₂ H₂) ifs tt)(he:∀C s₂ H₂ ex,PE (Vv X scope xs C ex s₂ H₂) elt te)(hvs:∀x H vs,Bd x H vs->vs.length=xs.length)(hNd:X.N.Nodup)(hc:X.calm=true)(hclos:closureFor scope X.env=pure (Zfb scope X.env):=by rfl)(hchk:Vo X.N X.env.scope scope xs=true:=by rfl)(hs:∀x,foldedSetIterable iter X.env x=pure x:=by exact fun _=>rfl) :
  PE X (.ListComp elt [⟨tg,iter,ifs,0⟩] scope pos) (ZdV wi Bd tt te):=by
 intro pins s σ H Q I h
 have ck:=VF hchk
 obtain⟨x,hx⟩:=ck.ex
 have sc:=ck.scs x hx
 rw[eval_ListComp]
 refine wpAny_comprehension_free (use:=none) rfl hs hclos sc.kind sc.locs (thn (hi pins s σ H _ I h) fun xv s₁ h₁=>thn h₁ fun itv s₂ h₂=>?_)
 obtain⟨it,fp,tn,J,H2,e,I2,T,st2,f2,q⟩:=h₂
 subst e
 refine ZfW (RR:=fun acc C=>compPost (model X.prog X.w) X.A X.xe none (EP X pins σ Q) acc C) I2 ck hx hNd hc T st2 f2 q hb ht he hvs ?_
 intro D C s' H' m' hC I' hn hC0 hq
 refine⟨m',hn,fun h'' hs''=>⟨.ref D,H', ?_,rfl,hq⟩⟩
 refine I'.turned (t':=s'.toks) (it:=C) (fun b o hb e=>(hs''.2 b hb).trans e) hC0 (Z49 (Z3z I2.lt hC)) (.inr (Z33 I2.sz hC)) (fun y c e z=>?_) fun p hp z=>?_
 ·obtain⟨v,o,ho,hd⟩:=I2.cell y c e
  exact absurd (Heap.lt_size ho) (Z4F.mpr (by rw[z];exact hC))
 ·exact absurd (Heap.lt_size (I2.pin p hp).1) (Z4F.mpr (by rw[z];exact hC))
noncomputable def VN(i:Nat)(wi:TI)(Bd:TB)(tt:TT)(te:TE):TS:=fun D σ H=>ZdV wi Bd tt te σ H fun v H'=>D.nx (σ.set i (some v)) H'
theorem Zg0{i:Nat}{y:Str}{py spos:Pos}{wi:TI}(hN:X.N.Nodup)(hi:X.N[i]?=some y)(hit:PI X tg iter wi)(hb:PB X scope xs tg Bd)(ht:∀C s₂ H₂ ex,PCi (Vv X scope xs C ex s₂ H₂) ifs tt)(he:∀C s₂ H₂ ex,PE (Vv X scope xs C ex s₂ H₂) elt te)(hvs:∀x H vs,Bd x H vs->vs.length=xs.length)(hc:X.calm=true)(hsw:swapsWith (.ListComp elt [⟨tg,iter,ifs,0⟩] scope pos) (some (.Name y py)) spos.line X.env=pure true:=by rfl)(hy:X.env.scope.names.lookup y=some .local:=by rfl)(hclos:closureFor scope X.env=pure (Zfb scope X.env):=by rfl)(hchk:Vo X.N X.env.scope scope xs=true:=by rfl)(hs:∀x,foldedSetIterable iter X.env x=pure x:=by exact fun _=>rfl) :
  PS X (.Assign [.Name y py] (.ListComp elt [⟨tg,iter,ifs,0⟩] scope pos) spos) (VN i wi Bd tt te):=by
 intro pins s σ H D0 I h
 have ck:=VF hchk
 obtain⟨x,hx⟩:=ck.ex
 have sc:=ck.scs x hx
 rw[exec_Assign_Name_used _ _ _ _ hsw]
 refine wpAny_bind (wpAny_standAt (wpAny_bind ?_))
 show wpAny _ X.A (do let _ <- comprehension (.ListComp elt [⟨tg,iter,ifs,0⟩] scope pos) scope X.env _ (newList []) false (eval iter X.env) (some (assign (.Name y py) X.env))) _ _ s
 refine wpAny_bind (wpAny_mono (wpAny_comprehension_free (use:=some (assign (.Name y py) X.env)) (Q:=fun _ s'=>SP X pins D0 .next s') rfl hs hclos sc.kind sc.locs
  (thn (hit pins s σ H _ I h) fun xv s₁ h₁=>thn h₁ fun itv s₂ h₂=>?_)) (fun _ s' hq=>wpAny_pure (wpAny_pure hq)) fun _ _ e=>e)
 obtain⟨it,fp,tn,J,H2,e,I2,T,st2,f2,q⟩:=h₂
 subst e
 refine ZfW (RR:=fun acc C=>compPost (model X.prog X.w) X.A X.xe (some (assign (.Name y py) X.env)) (fun _ s'=>SP X pins D0 .next s') acc C) I2 ck hx hN hc T st2 f2 q hb ht he hvs ?_
 intro D C s' H' m' hC I' hn hC0 hq
 show wpAny _ X.A (assign (.Name y py) X.env (.ref D)) _ _ _
 have cellC:∀y c,X.env.cells.lookup y=some c->c≠C:=fun y c e z=>by
  obtain⟨v,o,ho,hd⟩:=I2.cell y c e
  exact absurd (Heap.lt_size ho) (Z4F.mpr (by rw[z];exact hC))
 have locC:C≠X.env.locals:=Z49 (Z3z I2.lt hC)
 refine wpAny_assign_Name (Zdu (i:=i) (v:=.ref D) I' hN hi (.inl hy) rfl (fun s'' I'' ⟨a,hsa,ha⟩=>?_) (.inr hy))
 have hCa:C≠a:=by
  rcases ha with z|z
  ·rw[z];exact locC
  ·exact(cellC _ _ z).symm
 refine⟨m',hn.sameBut hsa hCa,fun h'' hs''=>⟨σ.set i (some (.ref D)),H', ?_,hq⟩⟩
 refine I''.turned (t':=s''.toks) (it:=C) (fun b o hb e=>(hs''.2 b hb).trans e) hC0 locC (.inr (Z33 I2.sz hC)) cellC fun p hp z=>?_
 exact absurd (Heap.lt_size (I2.pin p hp).1) (Z4F.mpr (by rw[z];exact hC))
end
noncomputable def Znf{α β:Type}(f:α->Rr (Option β)):List α->Rr (List β)
 |[]=>.ok []
 |x::xs=>(f x).bind fun o=>(Znf f xs).bind fun ys=>.ok (o.toList++ys)
def DB(K:W.Frag)(Bd:TB)(k:Nat)(hb:PV->Rr (List PV)):Prop:=(∀x e,hb x≠.exc e)/\∀(H:Hp) (S:Addr->Prop) (x:PV) (v:V) (xs:List PV),Rep K H S x v->hb x=.ok xs->xs.length=k/\∃vs,Bd v H vs/\Reps K H S xs vs
theorem Zuw{K:W.Frag}:DB K tB1 1 (fun x=>.ok [x]):=⟨fun x e h=>(by cases h),fun H S x v xs r h=>by
 cases h
 exact⟨rfl,[v],rfl,v,[],rfl,r,rfl⟩⟩
section
variable {K:W.Frag}{B:Addr->Prop}{EX:PX->Hp->Prop}{H0 H H':Hp}{σ:St}{Γ Γ' Γ1 Γ2:List Md}{ρ:List PV}{F:Nat->List Addr}{R:List Addr}{k:Nat}{x:PV}{v:V}{te:TE}{tt:TT}{f fe:List PV->Rr PV}{c:List PV->Rr Bool}{Bd:TB}{hb:PV->Rr (List PV)}
theorem Zov:DT K EX Γ Γ Zqa (fun _=>.ok true):=fun B H0 H σ ρ F R Q A d=>d H F (ZL.refl H) (fun _ _ h=>h) A
theorem Ag.pushN:∀{xs:List PV}{vs:List V}{σ:St}{Γ:List Md}{ρ:List PV},Reps K H (NO B F R) xs vs->Ag K B H0 H σ Γ ρ F R->Ag K B H0 H (σ++vs.map some) (Γ++List.replicate xs.length .S) (ρ++xs) F R
 |[],vs,σ,Γ,ρ,h,A=>by
  have h:vs=[]:=h
  subst h
  simpa using A
 |x::xs,vs,σ,Γ,ρ,h,A=>by
  obtain⟨v,r,rfl,h1,h2⟩:=h
  have:=Ag.pushN (xs:=xs) (vs:=r) h2 (A.push h1)
  simpa[Z3Q] using this
theorem Ag.popN{n:Nat}{τ:St}{xs:List PV}(A:Ag K B H0 H (σ++τ) (Γ++List.replicate n .S) (ρ++xs) F R)(l1:σ.length=Γ.length)(l2:ρ.length=Γ.length):Ag K B H0 H σ Γ ρ F R:=by
 refine⟨A.same,A.own,A.young,A.youngR,A.live,A.liveR,A.disj,A.disjR,l1,l2,fun i=>?_⟩
 have:=A.slot i
 by_cases h1:i<Γ.length
 ·rw[Z3n,Z3n,Z3x h1,Z3x (by rw[l2];exact h1),Z3x (by rw[l1];exact h1),<- Z3n,<- Z3n] at this
  exact this
 ·rw[Z3n,Z30 (by omega)]
  by_cases h2:i<Γ.length+n
  ·rw[Z3n,Z34 (by omega),Z4g,if_pos (by omega)] at this
   simp only[Z4v] at this
   exact this.1
  ·exact A.outF (by simp;omega)
theorem Zio{wi:TI}{fi:List PV->Rr (List PV)}(hi:DIc K EX Γ Γ1 wi fi)(hB:DB K Bd k hb)(ht:DT K EX (Γ1++List.replicate k .S) (Γ1++List.replicate k .S) tt c)(he:DE K EX (Γ1++List.replicate k .S) (Γ1++List.replicate k .S) .F te fe) :
  DE K EX Γ Γ1 .F (ZdV wi Bd tt te) (fun ρ=>(fi ρ).bind fun xs=>(lenM xs).bind fun _=>(Znf (fun x=>(hb x).bind fun as=>(c (ρ++as)).bind fun b=>if b=true then (fe (ρ++as)).bind fun y=>.ok (some y) else .ok none) xs).bind fun ys=>.ok (.lst ys)):=fun B H0 H σ ρ F R Q A d=>by
 refine hi B H0 H σ ρ F R _ A (d.bind.imp (fun xs _ d J H1 F1 s1 f1 A1 it=>?_) fun e q=>q)
 obtain⟨hlen,d⟩:=Dn.lenM d.bind
 generalize hgx:(fun x=>(hb x).bind fun as=>(c (ρ++as)).bind fun b=>if b=true then (fe (ρ++as)).bind fun y=>Rr.ok (some y) else .ok none)=gx at d
 have l1:=A1.lenS
 have l2:=A1.lenR
 refine⟨fun i m ys H2=>∃zs G F2,m=xs.length-i/\i<=xs.length/\ys.length<=i/\ZL H1 H2/\Trees K H2 zs ys G/\(∀a∈G,a ∉ R/\(H1 a=none\/∃j,a∈F1 j))/\(∀i,∀a∈F2 i,a∈F1 i)/\Ag K B H0 H2 σ Γ1 ρ F2 (G++R) /\
  Dn ((Znf gx (xs.drop i)).bind fun ys'=>.ok (.lst (zs++ys'))) (fun x=>∀v H',ZL H H'->Res K B H0 H σ Γ1 ρ F R .F x v H'->Q v H') (fun e=>∀H',ZL H0 H'->EX e H'),
  ⟨xs.length,[],[],F1,by simp,Z4p _,Z3u _,ZL.refl _,⟨rfl,rfl⟩,by simp,fun _ _ h=>h,A1,by simpa using d⟩, ?_⟩
 rintro i m ys H2 ⟨zs,G,F2,rfl,hi',hl,s2,tr,o2,f2,A2,dn⟩
 refine⟨ZaG (by omega), ?_⟩
 have itp:=it H2 F2 s2 f2 i
 cases hx:xs[i]? with
 |none =>
  refine .inl ⟨itp.2 hx,fun p hp=>?_⟩
  have hd:xs.drop i=[]:=Z3V (Z3N.mp hx)
  rw[hd] at dn
  have dn':∀v H',ZL H H'->Res K B H0 H σ Γ1 ρ F R .F (.lst (zs++[])) v H'->Q v H':=dn
  rw[Z3R] at dn'
  exact dn' _ _ ((s1.trans s2).trans (ZL.new hp)) (Res.newF (s1.trans s2) (fun i a h=>f1 i a (f2 i a h)) tr (fun a ha=>⟨(o2 a ha).1,(o2 a ha).2.elim (fun z=>.inl (s1.free z)) fun⟨j,z⟩=>.inr ⟨j,f1 j a z⟩⟩) A2 hp)
 |some x =>
  have hlt:i<xs.length:=(Z37.mp hx).1
  obtain⟨go,yl⟩:=itp.1 x hx
  have hdx:xs.drop i=x::xs.drop (i+1):=by
   rw[Z4c hlt]
   rw[Z3r hlt] at hx;cases hx;rfl
  rw[hdx] at dn
  simp only[Znf,Rr.assoc] at dn
  rw[<- hgx] at dn
  simp only[Rr.assoc] at dn
  rw[hgx] at dn
  refine .inr ⟨go,fun ys' H'=>∃zs G F2,ys'.length<=i+1/\ZL H1 H'/\Trees K H' zs ys' G/\(∀a∈G,a ∉ R/\(H1 a=none\/∃j,a∈F1 j))/\(∀i,∀a∈F2 i,a∈F1 i)/\Ag K B H0 H' σ Γ1 ρ F2 (G++R) /\
   Dn ((Znf gx (xs.drop (i+1))).bind fun ys'=>.ok (.lst (zs++ys'))) (fun x=>∀v H',ZL H H'->Res K B H0 H σ Γ1 ρ F R .F x v H'->Q v H') (fun e=>∀H',ZL H0 H'->EX e H'),
   fun ys' H' ⟨zs,G,F2,a1,a2,a3,a4,a5,a6,a7⟩=>⟨xs.length-(i+1),by omega,zs,G,F2,rfl,hlt,a1,a2,a3,a4,a5,a6,a7⟩,fun v H3 y=>?_⟩
  obtain⟨s3,rx⟩:=yl v H3 y
  have rx':Rep K H3 (NO B F2 (G++R)) x v:=Rep.mono (fun a us s r=>⟨r,s.1.1,fun z=>by
   rcases Z3q.mp z with z|z
   ·rcases (o2 a z).2 with q|⟨j,q⟩
    ·exact s.2.1 q
    ·exact s.2.2 j q
   ·exact s.1.2.1 z,s.1.2.2⟩) (fun a us r=>r) rx
  cases hbx:hb x with
  |exc e=>exact absurd hbx (hB.1 x e)
  |bad=>rw[hbx] at dn;exact dn.elim
  |ok as =>
   rw[hbx] at dn
   simp only[Rr.bind_ok] at dn
   obtain⟨hk,vs,bd,ra⟩:=hB.2 H3 _ x v as rx' hbx
   refine⟨vs,bd, ?_⟩
   have A3:=Ag.pushN ra (A2.grow s3)
   rw[hk] at A3
   refine ht B H0 H3 _ _ F2 (G++R) _ A3 (dn.bind.imp (fun b _ dn H4 F4 s4 f4 A4=>?_) fun e q=>q)
   cases b with
   |false =>
    rw[if_neg Bool.false_ne_true] at dn ⊢
    simp only[Rr.bind_ok,Option.toList] at dn
    refine⟨zs,G,F4,by omega,(s2.trans s3).trans s4,(tr.same s3).same s4,o2,fun i a h=>f2 i a (f4 i a h),A4.popN l1 l2, ?_⟩
    simp only[Rr.assoc,Rr.bind_ok,Z41] at dn
    exact dn
   |true =>
    rw[if_pos rfl] at dn ⊢
    simp only[Rr.assoc] at dn
    refine he B H0 H4 _ _ F4 (G++R) _ A4 (dn.bind.imp (fun z _ dn w H5 s5 r5=>?_) fun e q=>q)
    obtain⟨F5,f5,G5,t5,o5,A5⟩:=r5
    refine⟨zs++[z],G++G5,F5,by simp;omega,((s2.trans s3).trans s4).trans s5,Trees.append (((tr.same s3).same s4).same s5) (Trees.one t5) (fun a ha z=>(o5 a z).1 (Z3s _ ha)),fun a ha=>?_,fun i a h=>f2 i a (f4 i a (f5 i a h)),(A5.popN l1 l2).less fun a ha=>?_, ?_⟩
    ·rcases Z3q.mp ha with z|z
     ·exact o2 a z
     ·refine⟨fun q=>(o5 a z).1 (Z3o _ q), ?_⟩
      rcases (o5 a z).2 with q|⟨j,q⟩
      ·exact .inl (((s2.trans s3).trans s4).free q)
      ·exact .inr ⟨j,f2 j a (f4 j a q)⟩
    ·simp only[Z3q] at ha ⊢
     rcases ha with (z|z)|z
     ·exact .inr (.inl z)
     ·exact .inl z
     ·exact .inr (.inr z)
    ·simp only[Rr.assoc,Rr.bind_ok,Option.toList,Z35,List.singleton_append] at dn ⊢
     exact dn
theorem ZdD{EX:PX->Hp->Prop}{kd:Kd}{i:Nat}{wi:TI}(he:DE K EX Γ Γ' .F (ZdV wi Bd tt te) f)(hi:i<Γ'.length):DS K EX Γ ⟨Γ'.set i .O,Γ1,Γ2,kd⟩ (VN i wi Bd tt te) (fun ρ=>(f ρ).thenS fun x=>.next (ρ.set i x)):=Z6 he hi
end
theorem hv1{n:Str}:∀(x:V) (H:Hp) (vs:List V),tB1 x H vs->vs.length=[n].length:=fun _ _ _ h=>congrArg List.length h
section
end
noncomputable def Zpf(ys as:List PV):Rr PV:=match as with
 |[.bl b]=>match ZeV ys with
  |some bs=>.ok (.int (bs.count b:Nat))
  |none=>.bad
 |_=>.bad
section
end
theorem Zpg{a b c e x:Bool}:Zpf [.bl a,.bl b,.bl c,.bl e] [.bl x]=.ok (.int (([a,b,c,e].count x:Nat))):=rfl
theorem Ztf:Zqe (.int 10) (.int 62)=.ok (.int (10^62)):=by rw[Ze7 (by decide)];rfl
theorem Zth:Zqe (.int 10) (.int 59)=.ok (.int (10^59)):=by rw[Ze7 (by decide)];rfl
theorem Ztg:Zqe (.int 10) (.int 61)=.ok (.int (10^61)):=by rw[Ze7 (by decide)];rfl
theorem Zm3{i j:Int}:ZsZ [.int i,.int j]=.ok (.int (if j>i then j else i)):=rfl
theorem Zt9{a b:PV}:asT 2 (.tup [a,b])=.ok [a,b]:=rfl
theorem Zt8{a b c:PV}:asT 3 (.tup [a,b,c])=.ok [a,b,c]:=rfl
theorem Zph{a b c d:Bool}:pApp (.lst [.bl a,.bl b,.bl c]) (.bl d)=.ok (.lst [.bl a,.bl b,.bl c,.bl d]):=rfl
noncomputable def Zu5:Nat:=4000000
def Zsq(i j:Int):Prop:=i.natAbs<2^Zu5/\j.natAbs<2^Zu5
noncomputable instance (i j:Int):Decidable (Zsq i j):=by unfold Zsq;infer_instance
end L2
namespace Att
open PySem PySem.W PySem.Calls PyProof.Rows
end Att
namespace L2
open PySem PySem.Spec PyProof.Rows
section
end
noncomputable def Zum(xs:List PV):Rr PV:=match xs with
 |[.lst ys]=>match ZeV ys with
  |some bs=>.ok (.bl (bs.any id))
  |none=>.bad
 |_=>.bad
theorem ZmF(bs:List Bool):Zum [.lst (bs.map PV.bl)]=.ok (.bl (bs.any id)):=by simp only[Zum,Zga]
noncomputable def okE(x:PV):Bool:=x.noX&&x.dat.canLay0&&decide (x.dat.depth<=60)
noncomputable def ZsN(K:W.Frag)(g:Bool->Bool):R2:=fun x y H Q=>∃p qs a vs,Rep K H (fun _=>True) p x/\y=.ref a/\(SqL K H a vs\/SqT K H a vs)/\Reps K H (fun _=>True) qs vs/\okE p=true/\(qs.all okE)=true/\Q (.bl (g (qs.any fun q=>PyData.eqv q.dat p.dat))) H
open Classical in
noncomputable def Zjl(h:Heap)(dx:PyData)(y:Value):Bool:=if hy:∃d as,Reads h y d as/\d.canLay0=true/\d.depth<=60 then PyData.eqv hy.choose dx else false
section
variable {X:Cx}{K:W.Frag}
theorem ZfQ{H:Hp}{pins:List (Addr×Obj)}{σ:St}{s:Shared}{S:Addr->Prop}(I:Inv X pins σ H s)(dx:PyData):∀{qs:List PV}{vs:List V}{us:List Value},Reps X.K H S qs vs->Jk vs us->(qs.all okE)=true ->
  (us.any (Zjl s.heap dx)=qs.any fun q=>PyData.eqv q.dat dx)/\∀y∈us,∃d as,Reads s.heap y d as/\d.canLay0=true/\d.depth<=60
 |[],_,us,h,r,_=>by
  rw[h] at r;cases r
  exact⟨rfl,by simp⟩
 |q::qs,_,us,h,r,hk=>by
  obtain⟨v,vs,rfl,h1,h2⟩:=h
  simp only[Z4R,Bool.and_eq_true] at hk
  cases r with
  |cons r1 r2 =>
   rename_i u us
   obtain⟨e1,e2⟩:=ZfQ I dx h2 r2 hk.2
   have h3:=hk.1
   simp only[okE,Bool.and_eq_true,decide_eq_true_eq] at h3
   obtain⟨as,ra⟩:=h1.reads I h3.1.1 r1
   have hx:∃d as,Reads s.heap u d as/\d.canLay0=true/\d.depth<=60:=⟨_,_,ra,h3.1.2,h3.2⟩
   refine⟨?_,fun y hy=>?_⟩
   ·have:Zjl s.heap dx u=PyData.eqv q.dat dx:=by
     unfold Zjl
     rw[dif_pos hx]
     obtain⟨as',ra',c1,c2⟩:=hx.choose_spec
     rw[SeqAt.Reads.unique _ _ _ _ _ c1 ra' ra]
    rw[Z42,Z42,e1,this]
   ·rcases Z3v.mp hy with rfl|hy
    ·exact hx
    ·exact e2 y hy
theorem Zr1{H:Hp}{pins:List (Addr×Obj)}{σ:St}{s:Shared}{g:Bool->Bool}{x y:V}{v u:Value}{Q:VK}(I:Inv X pins σ H s)(hu:X.A.units+64<cLine)(rx:JY x v)(ry:JY y u)(h:ZsN X.K g x y H Q) :
  ∃a items,u=.ref a/\(s.heap.IsList a items\/s.heap.IsTuple a items)/\∃e:Value->Bool,(∀y,y∈items->SeqAt.EqAt X.A.in1 s y v (e y))/\Q (.bl (g (items.any e))) H:=by
 obtain⟨p,qs,a,vs,h1,rfl,hq,hr,h3,h4,q⟩:=h
 cases ry
 simp only[okE,Bool.and_eq_true,decide_eq_true_eq] at h3
 obtain⟨as,ra⟩:=h1.reads I h3.1.1 rx
 have fin:∀its:List Value,Jk vs its->(∀y,y∈its.toArray->SeqAt.EqAt X.A.in1 s y v (Zjl s.heap p.dat y))/\Q (.bl (g (its.toArray.any (Zjl s.heap p.dat)))) H:=fun its rv=>by
  obtain⟨e1,e2⟩:=ZfQ I p.dat hr rv h4
  refine⟨fun y hy=>?_, ?_⟩
  ·have hx:=e2 y (by simpa using hy)
   unfold Zjl
   rw[dif_pos hx]
   obtain⟨as',ra',c1,c2⟩:=hx.choose_spec
   refine SeqAt.eqAt_reads _ _ _ _ _ _ _ _ ra' ra c1 h3.1.2 ?_
   have:=Nat.min_le_left hx.choose.depth p.dat.depth
   have hin:X.A.in1.units<=X.A.units+1:=by simp[Around.in1]
   omega
  ·rw[List.any_toArray,e1];exact q
 rcases hq with hq|hq
 ·obtain⟨its,rv,pl,hz⟩:=I.list hq
  obtain⟨f1,f2⟩:=fin its rv
  exact⟨a,its.toArray,rfl,.inl pl.isList,_,f1,f2⟩
 ·obtain⟨its,rv,pl,hz⟩:=I.tuple hq
  obtain⟨f1,f2⟩:=fin its rv
  exact⟨a,its.toArray,rfl,.inr pl,_,f1,f2⟩
theorem Zk7(hu:X.A.units+64<cLine)(e:X.K=K:=by rfl):OpR X (compareOp .In) (ZsN K id):=by
 subst e
 intro pins s σ H x y v u Q I rx ry h
 obtain⟨a,items,rfl,hl,e,he,q⟩:=Zr1 I hu rx ry h
 rcases hl with hl|hl
 ·exact SeqAt.in_listAt e hl he ⟨.bl _,H,I,rfl,q⟩
 ·exact SeqAt.in_tupleAt e hl he ⟨.bl _,H,I,rfl,q⟩
end
section
noncomputable def Zux(x:PV)(lo hi:Option Int):Rr PV:=match x with
 |.tup xs=>if HT.sIx xs.length 0 lo=0/\HT.sIx xs.length xs.length hi=xs.length then .bad else .ok (.tup (ZlU xs lo hi))
 |_=>.bad
end
theorem Zl8{a b c:PV}:Zux (.tup [a,b,c]) none (some 2)=.ok (.tup [a,b]):=rfl
theorem Zkf{X:Cx}{K:W.Frag}{tg l:Expr}{tl:TE}(hl:PE X l tl)(e:X.K=K:=by rfl):PI X tg l (Zts K tl):=by subst e;exact ZqO hl
noncomputable def Zuz(x:PV):Rr (List PV):=match x with
 |.tup xs=>.ok xs
 |_=>.bad
section
variable {K:W.Frag}{H:Hp}{EX:PX->Hp->Prop}{Γ Γ':List Md}{te:TE}{f:List PV->Rr PV}
theorem Zpy{a:Addr}{xs:List PV}{S:Addr->Prop}(h:Rep K H S (.tup xs) (.ref a)):ItP K S (Itt K a) xs H:=by
 obtain⟨a',vs,e,hn,hr⟩:=h
 cases e
 intro i
 constructor
 ·intro x hx
  obtain⟨u,e1,e2⟩:=hr.get hx
  refine⟨⟨vs,u,hn.sqT,e1⟩,fun v H' ⟨e,y⟩=>?_⟩
  subst e
  have:=y vs hn.sqT
  rw[e1] at this;cases this
  exact⟨ZL.refl _,e2⟩
 ·intro hx
  exact⟨vs,hn.sqT,by rw[hr.length];exact Z3N.mp hx⟩
theorem Zow(he:DE K EX Γ Γ' .Z te f):DI K EX Γ Γ' (Zts K te) (fun ρ=>(f ρ).bind Zuz):=fun B H0 H σ ρ F R Q A d=>by
 refine he B H0 H σ ρ F R _ A (d.bind.imp (fun x _ d v H1 s1 r1=>?_) fun e q=>q)
 obtain⟨F1,f1,p1,A1⟩:=r1
 cases x with
 |tup xs =>
  obtain⟨a,vs,rfl,hn,hr⟩:=id p1
  exact⟨a,rfl,⟨vs,hn.sqT⟩,d _ H1 F1 s1 f1 A1 fun H2 F2 h=>Zpy (p1.frm h A1)⟩
 |_=>exact d.elim
end
theorem ZpO{xs:List PV}:Zuz (.tup xs)=.ok xs:=rfl
theorem Zhn{a b c:PV}:Zux (.tup [a,b,c]) (some 1) none=.ok (.tup [b,c]):=rfl
theorem ZqX{x y z:PV}{xs:List PV}:pIx (.tup (x::y::z::xs)) (.int 2)=.ok z:=by
 have:atI (x::y::z::xs) 2=some z:=by unfold atI;rw[ZfJ (by omega) (by simp only[Z3t];omega)];rfl
 simp only[pIx,this]
section
variable {K:W.Frag}{EX:PX->Hp->Prop}{Γ Γ1 Γ3:List Md}{k:Kd}{H:Hp}
theorem Trees.dropLastP:∀{xs:List PV}{vs:List V}{G:List Addr},Trees K H xs vs G->∃G',(∀a∈G',a∈G)/\Trees K H xs.dropLast vs.dropLast G'
 |[],_,_,h=>⟨[],by simp,by rw[h.1];exact⟨rfl,rfl⟩⟩
 |[x],_,_,h=>by
  obtain⟨v,r,G1,G2,rfl,h1,h2,h3,rfl⟩:=h
  have:=h2.1
  subst this
  exact⟨[],by simp,rfl,rfl⟩
 |x::y::xs,_,_,h=>by
  obtain⟨v,r,G1,G2,rfl,h1,h2,h3,rfl⟩:=h
  obtain⟨G',h4,h5⟩:=Trees.dropLastP h2
  have hr:r≠[]:=by
   obtain⟨v',r',_,_,rfl,_⟩:=h2
   simp
  refine⟨G1++G',fun a ha=>?_,v,r.dropLast,G1,G',by rw[List.dropLast_cons_of_ne_nil hr],h1,h5,fun a ha z=>h3 a ha (h4 a z),rfl⟩
  rcases Z3q.mp ha with z|z
  ·simp[z]
  ·simp[h4 a z]
noncomputable def pPop(x:PV):Rr PV:=match x with
 |.lst xs=>if xs.length=0 then .bad else .ok (.lst xs.dropLast)
 |_=>.bad
theorem Dn.pPop{x:PV}{ok:PV->Prop}{ex:PX->Prop}(d:Dn (pPop x) ok ex):∃xs,x=.lst xs/\0<xs.length/\ok (.lst xs.dropLast):=by
 unfold L2.pPop at d
 split at d
 ·rename_i xs
  by_cases h:xs.length=0
  ·rw[if_pos h] at d;exact d.elim
  ·rw[if_neg h] at d;exact⟨xs,rfl,by omega,d⟩
 ·exact d.elim
theorem Zp8{i:Nat}(hm:Γ[i]?=some .O) :
  DS K EX Γ ⟨Γ,Γ1,Γ3,k⟩ (Zme (ZtZ K "list" Zuf (Zj2 i))) (fun ρ=>(pPop (gv i ρ)).thenS fun z=>.next (ρ.set i z)):=fun B H0 H σ ρ F D A d=>by
 obtain⟨v,h1,h2⟩:=A.getO hm
 refine⟨v,h1, ?_⟩
 obtain⟨xs,e1,hp,d⟩:=Dn.pPop d.thenS
 rw[show ρ.getD i .non=.lst xs from e1] at h2
 obtain⟨a,vs,G,rfl,hH,ht,hn,hF⟩:=h2
 have hl:=ht.length
 have hg:vs[vs.length-1]?=some (vs[vs.length-1]'(by omega)):=Z3r (by omega)
 refine⟨.inl ⟨rfl,_,SqL.of hH⟩,a,vs,_,rfl,rfl,hH,hg, ?_⟩
 obtain⟨G',g1,g2⟩:=Trees.dropLastP ht
 have haF:a∈F i:=by rw[hF];simp
 have hsub:∀b∈a::G',b∈F i:=fun b hb=>by
  rw[hF]
  rcases Z3v.mp hb with rfl|hb
  ·simp
  ·simp[g1 b hb]
 refine d σ _ (ZbI F i (a::G')) (Zhe (fun b u h=>h) (fun j b hb=>hb) haF fun b hb=>.inr ⟨i,hsub b hb⟩) (Ag.chg (G:=[]) A hm haF (fun b hb=>.inl (hsub b hb)) (by simp) ?_)
 exact⟨_,h1,a,_,G',rfl,ZX,g2.put hH (fun z=>hn (g1 a z)),fun z=>hn (g1 a z),rfl⟩
theorem Zkr{ns:List Int}(h:0<ns.length):pPop (.lst (ns.map PV.int))=.ok (.lst (ns.dropLast.map PV.int)):=by
 unfold pPop
 simp only[Z3w]
 rw[if_neg (by omega),List.map_dropLast]
end
noncomputable def Zoe(p q:Int->Int->Bool)(x y:PV)(r:Rr PV):Rr PV:=match x,y with
 |.int i,.int j=>if p i j=true then r.bind fun z=>oI (fun _ _=>true) (fun i j=>.bl (q i j)) (.int j) z else .ok (.bl false)
 |_,_=>.bad
theorem Zk2{p q:Int->Int->Bool}{i j k:Int}:Zoe p q (.int i) (.int j) (.ok (.int k))=.ok (.bl (p i j&&q j k)):=by
 simp only[Zoe,Rr.bind_ok,oI,if_true]
 cases p i j<;>simp
section
variable {x:PV}
noncomputable def ZtA:List (List (Str×Bool))->Str->Option Bool
 |[],_=>some false
 |L::Ls,n=>match L.lookup n with
  |some true=>some true
  |some false=>ZtA Ls n
  |none=>none
noncomputable def Zta(Ls:List (List (Str×Bool)))(x:PV):Rr PV:=match x with
 |.non=>.ok (.bl false)
 |.exc n=>(match ZtA Ls n with|some b=>.ok (.bl b)|none=>.bad)
 |.exa n _=>(match ZtA Ls n with|some b=>.ok (.bl b)|none=>.bad)
 |_=>.bad
theorem Zky{Ls:List (List (Str×Bool))}:Zta Ls .non=.ok (.bl false):=rfl
end
theorem Zfz{a b:List Int×Int}(h1:HL.Vq a b=false)(h2:HL.Vq b a=false):a=b:=by
 unfold HL.Vq at h1 h2
 by_cases e:a.1=b.1
 ·rw[if_pos e] at h1
  rw[if_pos e.symm] at h2
  have:=of_decide_eq_false h1
  have:=of_decide_eq_false h2
  exact Prod.ext e (by omega)
 ·rw[if_neg e] at h1
  rw[if_neg (Ne.symm e)] at h2
  exact absurd (HL.Qm h1 h2) e
def ZtG(ts:List (List Int×Int))(t:List Int×Int):Prop:=t∈ts/\∀u∈ts,HL.Vq u t=false
section
end
structure Dat(n:Nat)(x:PV):Prop where
 nx:x.noX=true
 can:x.dat.canLay0=true
 dep:x.dat.depth<=n
theorem Dat.ok{n:Nat}{x:PV}(h:Dat n x)(hn:n<=64:=by decide):okD x=true:=by
 unfold okD
 rw[h.nx,h.can,decide_eq_true (Z33 h.dep hn)];rfl
theorem ZeR{n:Nat}:∀{xs:List PV},(∀x∈xs,Dat n x)->PV.noXs xs=true/\PyData.canLayAll0 (PV.dats xs)=true/\PyData.depthAll (PV.dats xs)<=n
 |[],_=>⟨rfl,rfl,Z4p _⟩
 |x::xs,h=>by
  obtain⟨h1,h2,h3⟩:=ZeR (xs:=xs) fun y hy=>h y (by simp[hy])
  have hx:=h x (by simp)
  refine⟨by simp[PV.noXs,hx.nx,h1],by simp[PV.dats,PyData.canLayAll0,hx.can,h2], ?_⟩
  simp only[PV.dats,PyData.depthAll]
  exact Nat.max_le.mpr ⟨hx.dep,h3⟩
theorem ZpG{n:Nat}{xs:List PV}(h:∀x∈xs,Dat n x):Dat (n+1) (.lst xs):=by
 obtain⟨h1,h2,h3⟩:=ZeR h
 exact⟨by simp[PV.noX,h1],by simp[PV.dat,PyData.canLay0,h2],by simp only[PV.dat,PyData.depth];omega⟩
theorem ZpF{n:Nat}{xs:List PV}(h:∀x∈xs,Dat n x):Dat (n+1) (.tup xs):=by
 obtain⟨h1,h2,h3⟩:=ZeR h
 exact⟨by simp[PV.noX,h1],by simp[PV.dat,PyData.canLay0,h2],by simp only[PV.dat,PyData.depth];omega⟩
theorem Dat.up{m n:Nat}{x:PV}(h:Dat m x)(hn:m<=n):Dat n x:=⟨h.nx,h.can,Z33 h.dep hn⟩
theorem Zl3{a:Str}(h:PyData.canLay0 (.str a)=true):Dat 0 (.str a):=⟨rfl,h,by simp[PV.dat,PyData.depth]⟩
theorem ZmN{f:PV->Rr PV}{g:Nat->PV}{lo:Int}{n:Nat}(h:∀i,i<n->f (.int (lo+(i:Nat)))=.ok (g i)):Zf8 f (Ze0 lo n)=.ok ((List.range n).map g):=by
 have key:∀(l:List Nat),(∀i∈l,i<n)->Zf8 f (l.map fun(i:Nat)=>PV.int (lo+i))=.ok (l.map g):=by
  intro l
  induction l with
  |nil=>intro _;rfl
  |cons a l ih =>
   intro hl
   simp only[Z31,Zf8,h a (hl a (by simp)),Rr.bind_ok,ih fun i hi=>hl i (by simp[hi])]
 exact key _ fun i hi=>Z4b.mp hi
noncomputable def ZsY(xs:List PV):Rr PV:=match xs with
 |[.int i,.int j]=>.ok (.int (if j<i then j else i))
 |_=>.bad
theorem Zm2{i j:Int}:ZsY [.int i,.int j]=.ok (.int (if j<i then j else i)):=rfl
section
end
theorem us1{α:Type}{us:List α}(h:us.length=1):∃a,us=[a]:=match us,h with | [a],_=>⟨a,rfl⟩
theorem us2{α:Type}{us:List α}(h:us.length=2):∃a b,us=[a,b]:=match us,h with | [a,b],_=>⟨a,b,rfl⟩
theorem us3{α:Type}{us:List α}(h:us.length=3):∃a b c,us=[a,b,c]:=match us,h with | [a,b,c],_=>⟨a,b,c,rfl⟩
section
end
theorem Jk.app:∀{xs ys:List V}{us ws:List Value},Jk xs us->Jk ys ws->Jk (xs++ys) (us++ws)
 |_,_,_,_,.nil,h=>h
 |_,_,_,_,.cons r t,h=>.cons r (Jk.app t h)
section
end
noncomputable def Zuk(x:PV):Rr PV:=match x with
 |.lst ys=>newF ys.reverse
 |_=>.bad
theorem Zkp{ns:List Int}(h:ns.length<=1000000):Zuk (.lst (ns.map PV.int))=.ok (.lst (ns.reverse.map PV.int)):=by
 simp only[Zuk]
 rw[<- List.map_reverse]
 exact VT (by simpa using h)
section
end
theorem Dat.okE{n:Nat}{x:PV}(h:Dat n x)(hn:n<=60:=by decide):okE x=true:=by
 unfold L2.okE
 rw[h.nx,h.can,decide_eq_true (Z33 h.dep hn)];rfl
section
end
def Zsl(ts:List (List Int))(t:List Int):Prop:=t∈ts/\∀u∈ts,HT.Vh u t=false
section
variable {K:W.Frag}{B:Addr->Prop}{EX:PX->Hp->Prop}{H0 H:Hp}{σ:St}{Γ Γ1 Γ2:List Md}{ρ:List PV}{F:Nat->List Addr}{R:List Addr}{te tb:TE}{fb:List PV->Rr PV}
theorem Zh4:∀{xs:List PV}{vs:List V}{G:List Addr}{n:Nat}{z:PV},Trees K H xs vs G->xs[n]?=some z->∃u G',vs[n]?=some u/\Vd K H z u G'/\∀a∈G',a∈G
 |[],_,_,n,z,_,e=>by simp at e
 |x::xs,vs,G,n,z,h,e=>by
  obtain⟨v,r,G1,G2,rfl,h1,h2,h3,rfl⟩:=h
  cases n with
  |zero=>simp at e;subst e;exact⟨v,G1,by simp,h1,fun a ha=>Z3s _ ha⟩
  |succ n =>
   obtain⟨u,G',e1,e2,e3⟩:=Zh4 (n:=n) h2 (by simpa using e)
   exact⟨u,G',by simpa using e1,e2,fun a ha=>Z3o _ (e3 a ha)⟩
theorem Zh3:∀{xs:List PV}{vs:List V}{G:List Addr},Trees K H xs vs G->vs.length=xs.length
 |[],_,_,h=>by rw[h.1];rfl
 |x::xs,vs,G,h=>by
  obtain⟨v,r,G1,G2,rfl,h1,h2,h3,rfl⟩:=h
  simp[Zh3 h2]
theorem Zmd{xs:List PV}{vs:List V}{G:List Addr}{i:Int}{z:PV}(h:Trees K H xs vs G)(e:atI xs i=some z):∃u G',atI vs i=some u/\Vd K H z u G'/\∀a∈G',a∈G:=by
 unfold atI at e ⊢
 rw[Zh3 h]
 cases hk:ixN xs.length i with
 |none=>rw[hk] at e;cases e
 |some k =>
  rw[hk] at e
  obtain⟨u,G',e1,e2,e3⟩:=Zh4 (n:=k) h e
  exact⟨u,G',e1,e2,e3⟩
noncomputable def Zra(x y:PV):Rr PV:=match x,y with
 |.tup xs,.int i=>match atI xs i with
  |some z=>.ok z
  |none=>.bad
 |_,_=>.bad
theorem Zoy{te ta':TE}{fa':List PV->Rr PV}(ha:DE K EX Γ Γ1 .F ta' fa')(hb:DE K EX Γ1 Γ2 .A tb fb):DE K EX Γ Γ2 .F (tOp (rIx K) ta' tb) (fun ρ=>(fa' ρ).bind fun x=>(fb ρ).bind fun y=>Zra x y):=fun B H0 H σ ρ F R Q A d=>by
 refine ha B H0 H σ ρ F R _ A (d.bind.imp (fun x _ d v H1 s1 r1=>?_) fun e q=>q)
 obtain⟨F1,f1,G,t1,o1,A1⟩:=r1
 refine hb B H0 H1 σ ρ F1 (G++R) _ A1 (d.bind.imp (fun y _ d w H2 s2 r2=>?_) fun e q=>q)
 obtain⟨F2,f2,p2,A2⟩:=r2
 cases x with
 |tup xs =>
  cases y with
  |int i =>
   cases p2
   have t2:=t1.same s2
   obtain⟨a,vs,rfl,hq,ht⟩:=t2
   unfold Zra at d
   cases e1:atI xs i with
   |none=>simp only[e1] at d;exact d.elim
   |some z =>
    simp only[e1] at d
    obtain⟨u,G',e2,e3,e4⟩:=Zmd ht e1
    exact .inr (.inl ⟨a,vs,i,u,rfl,rfl,hq.sqT,e2,d u H2 (s1.trans s2) ⟨F2,fun i a h=>f1 i a (f2 i a h),G',e3,fun b hb=>o1 b (e4 b hb),A2.less fun b hb=>by
     rcases Z3q.mp hb with z|z
     ·exact Z3s _ (e4 b z)
     ·exact Z3o _ z⟩⟩)
  |_=>exact d.elim
 |_=>exact d.elim
theorem ZqZ{x:PV}{xs:List PV}:Zra (.tup (x::xs)) (.int 0)=.ok x:=by simp[Zra,atI,ixN]
theorem ZqY{x y:PV}{xs:List PV}:Zra (.tup (x::y::xs)) (.int 1)=.ok y:=by
 have h:pIx (.tup (x::y::xs)) (.int 1)=.ok y:=Zkw
 exact h
noncomputable def ZuE(x:PV):Rr (List PV):=match x with
 |.lst xs=>.ok xs.reverse
 |_=>.bad
theorem Znz{xs:List PV}:ZuE (.lst xs)=.ok xs.reverse:=rfl
end
theorem Zr9{α:Type}{f:PV->Rr (Option PV)}{q:α->PV}{p:α->Bool}{g:α->PV}{L:List α}(h:∀x∈L,f (q x)=.ok (if p x=true then some (g x) else none)):Znf f (L.map q)=.ok ((L.filter p).map g):=by
 induction L with
 |nil=>rfl
 |cons a l ih =>
  simp only[Z31,Znf,h a (by simp),Rr.bind_ok,ih fun z hz=>h z (by simp[hz])]
  cases hp:p a<;>simp[hp,Z4T]
noncomputable def minus(H:Hp)(G:List Addr):Hp:=fun a=>if a∈G then none else H a
theorem V7{H:Hp}{G:List Addr}{a:Addr}(h:a ∉ G):minus H G a=H a:=if_neg h
theorem Rd.minus{H:Hp}{G:List Addr}{a:Addr}{u:HO}(h:Rd H a u)(n:a ∉ G):Rd (minus H G) a u:=by
 rcases h with h|⟨o,h⟩
 ·exact .inl (by rw[V7 n];exact h)
 ·exact .inr ⟨o,by rw[V7 n];exact h⟩
theorem Im.minus{K:W.Frag}{H:Hp}{G:List Addr}{a:Addr}{k:HO}(hG:∀b∈G,∃vs:LvO,H b=some vs.1)(h:Im K H a k):Im K (minus H G) a k:=by
 refine⟨?_,h.2⟩
 rw[V7 fun z=>?_]
 ·exact h.1
 ·obtain⟨vs,q⟩:=hG a z
  exact ZeE vs.2 h.2 (by rw[h.1] at q;exact Option.some.inj q)
section
variable {K:W.Frag}{B:Addr->Prop}{H0 H H':Hp}{σ:St}{Γ:List Md}{ρ:List PV}{F:Nat->List Addr}
theorem Ag.lost{G:List Addr}(A:Ag K B H0 H σ Γ ρ F (G++[]))(s:ZL (minus H G) H'):Ag K B H0 H' σ Γ ρ F []:=by
 have hG:∀b∈G,∃vs:LvO,H b=some vs.1:=fun b hb=>A.liveR b (by simp[hb])
 refine⟨fun a o h=>s a o ?_,A.own,A.young,by simp,fun i a ha=>?_,by simp,A.disj,by simp,A.lenS,A.lenR,fun i=>?_⟩
 ·rw[V7 (fun z=>by have:=A.youngR a (by simp[z]);rw[h] at this;cases this)]
  exact A.same a o h
 ·obtain⟨vs,q⟩:=A.live i a ha
  exact⟨vs,s _ _ (by rw[V7 (fun z=>A.disjR i a ha (by simp[z]))];exact q)⟩
 ·refine(A.slot i).mono (fun a vs n r=>⟨(r.minus (fun z=>n.2.1 (by simp[z]))).same s,n.1,by simp,n.2.2⟩) (fun a vs r=>s.im (r.minus hG)) fun a ha vs q=>s _ _ (by rw[V7 (fun z=>A.disjR i a ha (by simp[z]))];exact q)
end
def DTS(K:W.Frag)(EX:PX->Hp->Prop)(Γ Γ':List Md)(tt:TT)(f:List PV->Rr Bool):Prop:=
 ∀(B:Addr->Prop) (H0 H:Hp) (σ:St) (ρ:List PV) (F:Nat->List Addr) (Q:Bool->Hp->Prop),Ag K B H0 H σ Γ ρ F [] ->
  Dn (f ρ) (fun b=>∀H' F',Frm H F H' F'->Ag K B H0 H' σ Γ' ρ F' []->Q b H') (fun e=>∀H',ZL H0 H'->EX e H')->tt σ H Q
section
variable {K:W.Frag}{EX:PX->Hp->Prop}{Γ Γ':List Md}{c:TT}{fc:List PV->Rr Bool}
theorem DTS.of(h:DT K EX Γ Γ' c fc):DTS K EX Γ Γ' c fc:=fun B H0 H σ ρ F Q A dn =>
 h B H0 H σ ρ F [] Q A (dn.imp (fun b _ q H' F' s f A'=>q H' F' (Frm.of s f) A') fun e q=>q)
end
noncomputable def AtP(K:W.Frag)(H:Hp):V->List Int->V->Prop
 |v,[],u=>u=v
 |v,c::cs,u=>∃a vs w,v=.ref a/\(SqL K H a vs\/SqT K H a vs)/\atI vs c=some w/\AtP K H w cs u
section
variable {K:W.Frag}{H:Hp}
theorem AtP.snoc{u:V}{c:Int}:∀{cs:List Int}{v:V},AtP K H v (cs++[c]) u->∃w,AtP K H v cs w/\AtP K H w [c] u
 |[],v,h=>⟨v,rfl,h⟩
 |_::cs,v,h=>by
  obtain⟨a,vs,w,rfl,h1,h2,h3⟩:=h
  obtain⟨z,h4,h5⟩:=AtP.snoc h3
  exact⟨z,⟨a,vs,w,rfl,h1,h2,h4⟩,h5⟩
end
noncomputable def frz(m:Md):Md:=if m=.O\/m=.T then .S else m
section
end
end L2
namespace HL
open PySem PyProof.Rows
section
open PySem.SeqAt
open PySem.AutoSeq1 (wpAny_loadPart')
open PySem.MeetsSeq PySem.MeetsSeq2 PySem.MeetsSeq3 SeqRoads2
end
section
end
end HL
namespace L2
open PySem PySem.Spec PyProof.Rows
section
end
noncomputable def ZtN(L:List Str)(gh:List PV->RS)(ρ:List PV)(r:RS):RS:=match r with
 |.exc e=>if e.1∈L then gh ρ else .bad
 |r=>r
@[simp] theorem Zq2{L:List Str}{gh:List PV->RS}{ρ ρ':List PV}:ZtN L gh ρ (.next ρ')=.next ρ':=rfl
@[simp] theorem Zsu{L:List Str}{gh:List PV->RS}{ρ:List PV}{x:PV}:ZtN L gh ρ (.ret x)=.ret x:=rfl
section
end
def G0(K:W.Frag)(B:Addr->Prop)(H0 H:Hp)(σ:St)(Γb:List Md)(ρ:List PV)(L v:Nat)(a:Addr)(vs:List V)(xs:List PV)(G Gx:List Addr):Prop:=
 Ag K B H0 H σ Γb ρ (fun _=>[]) (a::(G++Gx))/\σ[L]?=some (some (.ref a))/\gv L ρ=.lst xs/\H a=some (.lst vs)/\Trees K H xs vs G/\a ∉ G/\∃w,σ[v]?=some (some w)/\vs[0]?=some w/\xs[0]?=some (gv v ρ)
def GX(K:W.Frag)(H:Hp)(σ:St)(ρ:List PV)(x:Nat)(a:Addr)(G Gx:List Addr):Prop:=
 ∃u,σ[x]?=some (some u)/\Vd K H (gv x ρ) u Gx/\∀b∈Gx,b≠a/\b ∉ G
section
variable {K:W.Frag}{B:Addr->Prop}{H0 H H':Hp}{σ:St}{Γb:List Md}{ρ:List PV}{L v x:Nat}{a:Addr}{vs:List V}{xs:List PV}{G Gx:List Addr}
theorem G0.same(g:G0 K B H0 H σ Γb ρ L v a vs xs G Gx)(s:ZL H H'):G0 K B H0 H' σ Γb ρ L v a vs xs G Gx:=⟨g.1.grow s,g.2.1,g.2.2.1,s _ _ g.2.2.2.1,g.2.2.2.2.1.same s,g.2.2.2.2.2.1,g.2.2.2.2.2.2⟩
theorem GX.same(g:GX K H σ ρ x a G Gx)(s:ZL H H'):GX K H' σ ρ x a G Gx:=let ⟨u,h1,h2,h3⟩:=g;⟨u,h1,h2.same s,h3⟩
theorem G0.no(g:G0 K B H0 H σ Γb ρ L v a vs xs G Gx):∀b∈a::(G++Gx),NO B (fun _=>[]) [] b:=fun b hb=>⟨g.1.own b (g.1.youngR b hb),by simp,by simp⟩
end
structure CkC(N:List Str)(sc scope:Scope)(x:Str):Prop where
 one:((scope.names.filter fun p=>p.2==.cell).map fun p=>p.1)=[x]
 kind:scope.kind=.function
 locs:∀p∈scope.names,p.2=.local->scope.names.lookup p.1=some .local
 var:scope.names.lookup x=some .cell
 nd:(N.map (ZcW [x])++[x]).Nodup
 noN:∀y∈N,y ∉ [x]->scope.names.lookup y≠some .local/\scope.names.lookup y≠some .cell
 noE:scope.names.lookup (Str.ofString "")=none
 fr:∀p∈scope.names,p.2=.free->sc.names.lookup p.1=some .cell\/sc.names.lookup p.1=some .free
theorem CkC.look{N:List Str}{sc scope:Scope}{x y:Str}(ck:CkC N sc scope x)(h:scope.names.lookup y=some .cell):y=x:=by
 have hm:=PySem.mem_of_lookup h
 have:y∈((scope.names.filter fun p=>p.2==.cell).map fun p=>p.1):=Z3G.mpr ⟨(y,.cell),Z4d.mpr ⟨hm,rfl⟩,rfl⟩
 rw[ck.one] at this
 simpa using this
section
end
noncomputable abbrev ZsP:R2:=fun x y H Q=>∃i j,x=.str i/\y=.str j/\i.length+j.length<=sizeLine/\Q (.str (i++j)) H
noncomputable abbrev Zu7:R2:=fun x y H Q=>∃i j,x=.str i/\y=.str j/\Q (.bl (!(Builtin.Str.occurrences j i 0 j.length 1).isEmpty)) H
def ZqL:List V->Hp->VK->Prop:=fun xs H Q=>∃x n,xs=[.str x]/\PySem.intText? x=some n/\x.length<=640/\Q (.int n) H
noncomputable abbrev ZsL:List V->Hp->VK->Prop:=fun xs H Q=>∃z,xs=[.str z]/\z.length<=sizeLine/\Q (.int z.length) H
noncomputable def Zre(x y:PV):Rr PV:=match x,y with
 |.str a,.str b=>if a.length+b.length<=1000000 then .ok (.str (a++b)) else .bad
 |_,_=>.bad
noncomputable def inS(i j:Str):Bool:=!(Builtin.Str.occurrences j i 0 j.length 1).isEmpty
noncomputable def Zul(x y:PV):Rr PV:=match x,y with
 |.str a,.str b=>.ok (.bl (inS a b))
 |_,_=>.bad
noncomputable def Zf2(xs:List PV):Rr PV:=match xs with
 |[.str x]=>match PySem.intText? x with
  |some n=>if x.length<=640 then .ok (.int n) else .bad
  |none=>.bad
 |_=>.bad
noncomputable def asS(x:PV):Rr Str:=match x with
 |.str z=>.ok z
 |_=>.bad
noncomputable def Zg5(xs:List PV):Rr PV:=match xs with
 |[.str x]=>if x.length<=1000000 then .ok (.int x.length) else .bad
 |_=>.bad
noncomputable def Zsy(x y:PV):Rr PV:=match x,y with
 |.str z,.int i=>if z.length<=1000000 then (match atI z.cps.toList i with|some c=>.ok (.str ⟨#[c]⟩)|none=>.bad) else .bad
 |_,_=>.bad
section
variable {X:Cx}{x:Str}{pos:Pos}
theorem Zmr{z:Str}(hm:∃t,X.mg x=some (.str z t))(hg:Gl X x)(hd:(x==("__debug__":Str))=false:=by decide):PE X (.Name x pos) (tC (.str z)):=by
 obtain⟨t,hm⟩:=hm
 exact Zd1 (v:=.str z) hg hm ⟨t,rfl⟩ hd
theorem ZdF:Vu X (.type "int") ZqL:=by
 intro pins s σ H xs us Q I r h
 obtain⟨x,n,rfl,hn,hl,q⟩:=h
 obtain⟨u,rfl,rx⟩:=Zdq r
 obtain⟨t,rfl⟩:=rx
 exact PySem.W.KIN.call_text hn hl ⟨.int n,H,I.tok _,⟨_,rfl⟩,q⟩
end
section
variable {K:W.Frag}{B:Addr->Prop}{EX:PX->Hp->Prop}{H0 H H':Hp}{σ:St}{Γ Γ' Γ1 Γ2:List Md}{ρ:List PV}{F F':Nat->List Addr}{R:List Addr}{te tb ta':TE}{ta:TA}{f fb fa':List PV->Rr PV}{fa:List PV->Rr (List PV)}
theorem ZeD{n:Nat}(h:n<=1000000):n<=sizeLine:=ZaG h
theorem VE(ha:DE K EX Γ Γ1 .A te f)(hb:DE K EX Γ1 Γ2 .A tb fb):DE K EX Γ Γ2 .P (tOp ZsP te tb) (fun ρ=>(f ρ).bind fun x=>(fb ρ).bind fun y=>Zre x y):=fun B H0 H σ ρ F R Q A d=>by
 refine two ha hb A d.bind2 fun x y v w H' F' d s hF p1 p2 A'=>?_
 unfold Zre at d
 split at d
 ·rename_i a b
  split at d
  ·rename_i h
   cases p1;cases p2
   exact⟨_,_,rfl,rfl,ZeD h,d _ H' s ⟨F',hF,rfl,rfl,A'⟩⟩
  ·exact d.elim
 ·exact d.elim
theorem ZrM(ha:DE K EX Γ Γ1 .A te f)(hb:DE K EX Γ1 Γ2 .A tb fb):DE K EX Γ Γ2 .P (tOp Zu7 te tb) (fun ρ=>(f ρ).bind fun x=>(fb ρ).bind fun y=>Zul x y):=fun B H0 H σ ρ F R Q A d=>by
 refine two ha hb A d.bind2 fun x y v w H' F' d s hF p1 p2 A'=>?_
 unfold Zul at d
 split at d
 ·cases p1;cases p2
  exact⟨_,_,rfl,rfl,d _ H' s ⟨F',hF,rfl,rfl,A'⟩⟩
 ·exact d.elim
theorem ZrL(ha:DE K EX Γ Γ1 .A ta' fa')(hb:DE K EX Γ1 Γ2 .A tb fb):DE K EX Γ Γ2 .P (tOp ZsM ta' tb) (fun ρ=>(fa' ρ).bind fun x=>(fb ρ).bind fun y=>Zsy x y):=fun B H0 H σ ρ F R Q A d=>by
 refine two ha hb A d.bind2 fun x y v w H' F' d s hF p1 p2 A'=>?_
 unfold Zsy at d
 split at d
 ·split at d
  ·rename_i h
   split at d
   ·rename_i c e
    cases p1;cases p2
    exact⟨_,_,c,rfl,rfl,ZeD h,e,d _ H' s ⟨F',hF,rfl,rfl,A'⟩⟩
   ·exact d.elim
  ·exact d.elim
 ·exact d.elim
theorem Zhk(ha:DAA K EX Γ Γ' ta fa):DE K EX Γ Γ' .P (tCB ZqL ta) (fun ρ=>(fa ρ).bind Zf2):=by
 refine Zjo (fun {H xs vs Q} h z e=>?_) (fun xs e h=>?_) ha
 ·unfold Zf2 at e
  split at e<;>first|(cases e;done)|skip
  split at e<;>first|(cases e;done)|skip
  split at e<;>first|(cases e;done)|skip
  rename_i n hn hl
  cases e
  obtain⟨v,rfl,h1⟩:=UB h
  cases h1
  exact⟨rfl,fun q=>⟨_,n,rfl,hn,hl,q _ rfl⟩⟩
 ·unfold Zf2 at h;split at h<;>first|(cases h;done)|skip
  split at h<;>first|(cases h;done)|skip
  split at h<;>cases h
theorem Zhj(ha:DAA K EX Γ Γ' ta fa):DE K EX Γ Γ' .P (tCB ZsL ta) (fun ρ=>(fa ρ).bind Zg5):=by
 refine Zjo (fun {H xs vs Q} h z e=>?_) (fun xs e h=>?_) ha
 ·unfold Zg5 at e
  split at e<;>first|(cases e;done)|skip
  split at e<;>first|(cases e;done)|skip
  rename_i hl
  cases e
  obtain⟨v,rfl,h1⟩:=UB h
  cases h1
  exact⟨rfl,fun q=>⟨_,rfl,ZeD hl,q _ rfl⟩⟩
 ·unfold Zg5 at h;split at h<;>first|(cases h;done)|skip
  split at h<;>cases h
end
noncomputable def Its(z:Str):It:=⟨fun i _=>i<z.cps.size,fun i H x H'=>H'=H/\∃c,z.cps[i]?=some c/\x=.str ⟨#[c]⟩,fun i _=>z.cps.size<=i⟩
theorem ZjB{P:Program}{w:World}{K:W.Frag}{tg:Expr}(it:Addr)(z:Str)(t:Tok):Zo4 P w K tg (Its z) [it] it (fun i h=>h.IsStrIter it "str_ascii_iterator" z t i) where
 mem:=by simp
 obj:=fun i h st b hb=>by
  have e:b=it:=by simpa using hb
  subst e
  obtain⟨o,e,c,d⟩:=st
  exact⟨o,e,fun v z=>by rw[d] at z;cases z⟩
 keep:=fun i h h' st k=>by
  obtain⟨o,e,c,d⟩:=st
  exact⟨o,k it (by simp) o e,c,d⟩
 item:=by
  intro X hP hw hK hc i pins s σ H E I hf st hg
  subst hP hw hK
  have hg:i<z.cps.size:=hg
  obtain⟨f0,f1,f2,f3,f4,f5⟩:=hf it (by simp)
  have hc':z.cps[i]?=some (z.cps[i]):=by simp[hg]
  refine wpAny_pyNext_ascii_item st hc' fun h' st' sb=>?_
  have I1:Inv X pins σ H { s with heap:=h',toks:=s.toks+1 }:=I.turned (t':=s.toks+1) (fun b o hb e=>(sb.2 b hb).trans e) f0 f1 f3 f4 f5
  obtain⟨o,e,c,d⟩:=id st'
  exact⟨_,rfl,Zlh (s:={ s with heap:=h',toks:=s.toks+1 }) e c d (by decide) ⟨.str ⟨#[z.cps[i]]⟩,H,I1,⟨_,rfl⟩,⟨rfl,_,hc',rfl⟩,st',fun b hb=>(hf b hb).1⟩⟩
 done:=by
  intro X hP hw hK hc i pins s σ H E I hf st hg
  subst hP hw hK
  have hg:z.cps.size<=i:=hg
  obtain⟨f0,f1,f2,f3,f4,f5⟩:=hf it (by simp)
  exact wpAny_pyNext_ascii_end (I.ok.hd hc) st (by simp;omega) fun h' eb=>⟨rfl,I.turned (t':=s.toks) (fun b o hb e=>eb b o hb e) f0 f1 f3 f4 f5⟩
 self:=fun _ _ _ _ _ st h=>wpAny_pyIter_striter_ascii st h
theorem ZjA{P:Program}{w:World}{K:W.Frag}{tg:Expr}(it:Addr)(z:Str)(t:Tok):Zo4 P w K tg (Its z) [it] it (fun i h=>h.IsStrIter it "str_iterator" z t i) where
 mem:=by simp
 obj:=fun i h st b hb=>by
  have e:b=it:=by simpa using hb
  subst e
  obtain⟨o,e,c,d⟩:=st
  exact⟨o,e,fun v z=>by rw[d] at z;cases z⟩
 keep:=fun i h h' st k=>by
  obtain⟨o,e,c,d⟩:=st
  exact⟨o,k it (by simp) o e,c,d⟩
 item:=by
  intro X hP hw hK hc i pins s σ H E I hf st hg
  subst hP hw hK
  have hg:i<z.cps.size:=hg
  obtain⟨f0,f1,f2,f3,f4,f5⟩:=hf it (by simp)
  have hc':z.cps[i]?=some (z.cps[i]):=by simp[hg]
  refine wpAny_pyNext_wide_item st hc' fun h' st' sb=>?_
  have I1:Inv X pins σ H { s with heap:=h',toks:=s.toks+1 }:=I.turned (t':=s.toks+1) (fun b o hb e=>(sb.2 b hb).trans e) f0 f1 f3 f4 f5
  obtain⟨o,e,c,d⟩:=id st'
  exact⟨_,rfl,Zlh (s:={ s with heap:=h',toks:=s.toks+1 }) e c d (by decide) ⟨.str ⟨#[z.cps[i]]⟩,H,I1,⟨_,rfl⟩,⟨rfl,_,hc',rfl⟩,st',fun b hb=>(hf b hb).1⟩⟩
 done:=by
  intro X hP hw hK hc i pins s σ H E I hf st hg
  subst hP hw hK
  have hg:z.cps.size<=i:=hg
  obtain⟨f0,f1,f2,f3,f4,f5⟩:=hf it (by simp)
  exact wpAny_pyNext_wide_end (I.ok.hd hc) st (by simp;omega) fun h' eb=>⟨rfl,I.turned (t':=s.toks) (fun b o hb e=>eb b o hb e) f0 f1 f3 f4 f5⟩
 self:=fun _ _ _ _ _ st h=>wpAny_pyIter_striter_wide st h
noncomputable def Zus(tl:TE):TI:=fun σ H R=>tl σ H fun x H1=>∃z,x=.str z/\R (Its z) H1
theorem Zkg{X:Cx}{tg l:Expr}{tl:TE}(hl:PE X l tl):PI X tg l (Zus tl):=by
 intro pins s σ H R I h
 refine thn (hl pins s σ H _ I h) fun v s1 ⟨x,H1,I1,r1,q1⟩=>?_
 obtain⟨z,rfl,q⟩:=q1
 obtain⟨t,rfl⟩:=r1
 have fp:∀b∈[s1.heap.objs.size],Zj1 X pins H1 b:=fun b hb=>by
  have e:b=s1.heap.objs.size:=by simpa using hb
  subst e
  exact I1.fpOk (Z3u _) (I1.hok.fresh (Z3u _))
 cases ha:z.cps.all (·<128)
 ·exact wpAny_pyIter_wide ha ⟨s1.heap.objs.size,[s1.heap.objs.size],_,_,H1,rfl,I1.kept (t':=s1.toks) fun b o e=>Heap.get?_push_of_some _ e,ZjA _ z t,⟨_,Heap.get?_push_size _ rfl,rfl,rfl⟩,fp,q⟩
 ·exact wpAny_pyIter_ascii ha ⟨s1.heap.objs.size,[s1.heap.objs.size],_,_,H1,rfl,I1.kept (t':=s1.toks) fun b o e=>Heap.get?_push_of_some _ e,ZjB _ z t,⟨_,Heap.get?_push_size _ rfl,rfl,rfl⟩,fp,q⟩
noncomputable def Zu0(x:PV):Rr (List PV):=match x with
 |.str z=>.ok (z.cps.toList.map fun c=>PV.str ⟨#[c]⟩)
 |_=>.bad
section
variable {K:W.Frag}{H:Hp}{EX:PX->Hp->Prop}{Γ Γ':List Md}{te:TE}{f:List PV->Rr PV}
theorem Zpz{z:Str}{S:Addr->Prop}:ItP K S (Its z) (z.cps.toList.map fun c=>PV.str ⟨#[c]⟩) H:=by
 intro i
 constructor
 ·intro x hx
  rw[Z3A] at hx
  obtain⟨c,hc,rfl⟩:=Z45.mp hx
  have hc:z.cps[i]?=some c:=by simpa using hc
  refine⟨(Z3W.mp hc).1,fun v H' ⟨e,c',y,hv⟩=>?_⟩
  subst e
  rw[hc] at y;cases y
  subst hv
  exact⟨ZL.refl _,rfl⟩
 ·intro hx
  have:=Z3N.mp hx
  show z.cps.size<=i
  simpa using this
theorem Zlr(he:DE K EX Γ Γ' .A te f):DI K EX Γ Γ' (Zus te) (fun ρ=>(f ρ).bind Zu0):=fun B H0 H σ ρ F R Q A d=>by
 refine he B H0 H σ ρ F R _ A (d.bind.imp (fun x _ d v H1 s1 r1=>?_) fun e q=>q)
 obtain⟨F1,f1,p1,A1⟩:=r1
 cases x with
 |str z =>
  cases p1
  exact⟨z,rfl,d _ H1 F1 s1 f1 A1 fun H2 F2 _=>Zpz⟩
 |_=>exact d.elim
end
section
variable {prog:Program}{w:World}{A:Around}{E:Value->Shared->Prop}{s:Shared}{x y:Str}{t u:Tok}{Q:Value->Shared->Prop}
open Builtin Builtin.Str
theorem ZiA(hy:(y.length==0)=false)(h:∀(l:List (Str×Tok)) (k:Nat),l.map (·.1)=Txt.split x y->Q (.ref s.heap.objs.size) { s with heap:=s.heap.push { cls:=.type "list",data:=.seq (strValues l).toArray },toks:=k })(hsz:x.length+2<=sizeLine):wpAny (model prog w) A (call (.builtin "str.split") [.str x t,.str y u]) Q E s:=by
 have hn:(partsBetween x (occurrences x y 0 x.length (x.length+1)) y.length).length<=sizeLine:=by
  have e1:=StrLaws.occ_length_le x y 0 x.length (x.length+1)
  rw[length_partsBetween];omega
 cases h1:(decide (x.length<y.length) || decide (strKind x<strKind y))
 ·cases hf:(occurrences x y 0 x.length (x.length+1)).isEmpty
  ·refine call_meets F.slot_str_split (typeIs_str _ _ _) F.entry_str_split (F.args_str_split_2 _ _) (meets_str_split_sep x y t u h1 hy hf (by omega) hn) ?_
   show wants Q E _ { s with toks:=_,heap:=s.heap.push { cls:=.type "list",data:=.seq (strsFrom s.toks (partsBetween x (occurrences x y 0 x.length (x.length+1)) y.length)).toArray } }
   rw[strsFrom_eq]
   exact h (numbered s.toks _) _ ((numbered_texts _ _).trans ((if_neg (ne_true_of_eq_false h1)).trans (if_neg (ne_true_of_eq_false hf))).symm)
  ·exact call_meets F.slot_str_split (typeIs_str _ _ _) F.entry_str_split (F.args_str_split_2 _ _) (meets_str_split_not_found x y t u h1 hy hf)
    (h [(x,t)] s.toks ((if_neg (ne_true_of_eq_false h1)).trans (if_pos hf)).symm)
 ·exact call_meets F.slot_str_split (typeIs_str _ _ _) F.entry_str_split (F.args_str_split_2 _ _) (meets_str_split_cannot_occur x y t u h1)
   (h [(x,t)] s.toks (if_pos h1).symm)
theorem Zfh:∀(l:List (Str×Tok)),Jk ((l.map (·.1)).map V.str) (strValues l)
 |[]=>.nil
 |p::l=>.cons ⟨_,rfl⟩ (Zfh l)
theorem Zfe:∀{ss:List Str}{us:List Value},Jk (ss.map V.str) us->StrsAre us ss
 |[],_,.nil=>.nil
 |_::_,_,.cons ⟨t,e⟩ h=>by subst e;exact .cons _ _ (Zfe h)
end
def ZnL:V->List V->Hp->VK->Prop:=fun x xs H Q=>∃a b,x=.str a/\xs=[.str b]/\1<=b.length/\a.length+2<=sizeLine/\(Txt.split a b).length<=sizeLine/\∀l,H l=none->Q (.ref l) (upd H l (.lst ((Txt.split a b).map V.str)))
def ZqK(K:W.Frag):V->List V->Hp->VK->Prop:=fun x xs H Q=>∃a p ss,x=.str a/\xs=[.ref p]/\SqL K H p (ss.map V.str)/\(ss.map (·.length)).sum+ss.length*a.length<=16777216/\Q (.str (Txt.join a ss)) H
section
variable {X:Cx}{K:W.Frag}
theorem ZeA:MtR X "str.split" ZnL:=by
 intro pins s σ H x xs v us Q I rx r h
 obtain⟨a,b,rfl,rfl,hb,hl,hn,q⟩:=h
 obtain⟨t,rfl⟩:=rx
 obtain⟨u,rfl,ru⟩:=Zdq r
 obtain⟨t',rfl⟩:=ru
 refine ZiA (by rw[beq_eq_false_iff_ne];omega) (fun l k e=>?_) hl
 have hv:=Zfh l
 rw[e] at hv
 exact⟨.ref s.heap.objs.size,_,I.laid (t':=k) (fun b o e=>Heap.get?_push_of_some _ e) (Z3u _) (show Vk X.prog X.w _ _ _ (.lst ((Txt.split a b).map V.str)) from ⟨by rw[Z3w];exact hn,_,0,hv,Heap.get?_push_size _ rfl⟩),rfl,q _ (I.hok.fresh (Z3u _))⟩
theorem Zps(e:X.K=K:=by rfl):MtR X "str.join" (ZqK K):=by
 subst e
 intro pins s σ H x xs v us Q I rx r h
 obtain⟨a,p,ss,rfl,rfl,hq,hl,q⟩:=h
 obtain⟨t,rfl⟩:=rx
 obtain⟨u,rfl,ru⟩:=Zdq r
 cases ru
 obtain⟨its,rv,pl,hz⟩:=I.list hq
 exact PyProof.Rows.join_list pl.isList (by simpa using Zfe rv) hl fun t' k=>⟨.str _,H,I.tok k,⟨_,rfl⟩,q⟩
end
noncomputable def VG:List PV->Option (List Str)
 |[]=>some []
 |.str z::xs=>(VG xs).map (z::·)
 |_::_=>none
theorem Zi9(ss:List Str):VG (ss.map PV.str)=some ss:=by
 induction ss with
 |nil=>rfl
 |cons n ns ih=>simp[VG,ih]
theorem Zfi:∀{xs:List PV}{ss:List Str},VG xs=some ss->xs=ss.map PV.str
 |[],_,h=>by cases h;rfl
 |.str z::xs,ss,h=>by
  simp only[VG,Z45] at h
  obtain⟨l,e,rfl⟩:=h
  rw[Zfi e];rfl
 |.non::_,_,h=>by simp[VG] at h
 |.bl _::_,_,h=>by simp[VG] at h
 |.int _::_,_,h=>by simp[VG] at h
 |.exc _::_,_,h=>by simp[VG] at h
 |.lst _::_,_,h=>by simp[VG] at h
 |.tup _::_,_,h=>by simp[VG] at h
noncomputable def Zei(a:Str)(as:List PV):Rr PV:=match as with
 |[.str b]=>if 1<=b.length/\a.length<=100000/\(Txt.split a b).length<=1000000 then .ok (.lst ((Txt.split a b).map PV.str)) else .bad
 |_=>.bad
noncomputable def Zkv(a:Str)(as:List PV):Rr PV:=match as with
 |[.lst xs]=>match VG xs with
  |some ss=>if (ss.map (·.length)).sum+ss.length*a.length<=1000000 then .ok (.str (Txt.join a ss)) else .bad
  |none=>.bad
 |_=>.bad
theorem Ue:∀{ss:List Str},PV.flats (ss.map PV.str)=true
 |[]=>rfl
 |n::ns=>by simp only[Z31,PV.flats,PV.flat,Ue,Bool.and_self]
section
variable {K:W.Frag}{H:Hp}{EX:PX->Hp->Prop}{Γ Γ1 Γ2:List Md}{te:TE}{ta:TA}{f:List PV->Rr PV}{fa:List PV->Rr (List PV)}
theorem ZhA{S:Addr->Prop}:∀(ss:List Str),Reps K H S (ss.map PV.str) (ss.map V.str)
 |[]=>rfl
 |z::ss=>⟨_,_,rfl,rfl,ZhA ss⟩
theorem Zdz{S:Addr->Prop}:∀{ss:List Str}{vs:List V},Reps K H S (ss.map PV.str) vs->vs=ss.map V.str
 |[],_,h=>by cases h;rfl
 |z::ss,_,h=>by
  obtain⟨v,r,rfl,h1,h2⟩:=h
  cases h1
  rw[Zdz h2];rfl
theorem ZeP(he:DE K EX Γ Γ1 .A te f)(ha:DAA K EX Γ1 Γ2 ta fa):DE K EX Γ Γ2 .F (tBM K "str" ZnL te ta) (fun ρ=>(f ρ).bind fun x=>(asS x).bind fun a=>(fa ρ).bind fun as=>Zei a as):=fun B H0 H σ ρ F R Q A d=>by
 refine he B H0 H σ ρ F R _ A (d.bind.imp (fun x _ d v H1 s1 r1=>?_) fun e q=>q)
 obtain⟨F1,f1,p1,A1⟩:=r1
 cases x with
 |str a =>
  cases p1
  refine⟨rfl,ha B H0 H1 σ ρ F1 R _ A1 (Dn.imp (Dn.bind d) (fun as _ d us H2 F2 s2 f2 p2 A2=>?_) fun e q=>q)⟩
  unfold Zei at d
  split at d
  ·rename_i b _
   split at d
   ·rename_i hc
    obtain⟨u,rfl,hu⟩:=UB p2
    cases hu
    refine⟨a,b,rfl,rfl,hc.1,ZaG (by omega),ZaG hc.2.2,fun l hl=>?_⟩
    exact d _ _ ((s1.trans s2).trans (ZL.new hl)) (Res.newP (s1.trans s2) (fun i z h=>f1 i z (f2 i z h)) (ZhA (S:=fun _=>True) _) Ue A2 hl)
   ·exact d.elim
  ·exact d.elim
 |_=>exact d.elim
theorem ZpD(he:DE K EX Γ Γ1 .A te f)(ha:DAA K EX Γ1 Γ2 ta fa):DE K EX Γ Γ2 .P (tBM K "str" (ZqK K) te ta) (fun ρ=>(f ρ).bind fun x=>(asS x).bind fun a=>(fa ρ).bind fun as=>Zkv a as):=fun B H0 H σ ρ F R Q A d=>by
 refine he B H0 H σ ρ F R _ A (d.bind.imp (fun x _ d v H1 s1 r1=>?_) fun e q=>q)
 obtain⟨F1,f1,p1,A1⟩:=r1
 cases x with
 |str a =>
  cases p1
  refine⟨rfl,ha B H0 H1 σ ρ F1 R _ A1 (Dn.imp (Dn.bind d) (fun as _ d us H2 F2 s2 f2 p2 A2=>?_) fun e q=>q)⟩
  unfold Zkv at d
  split at d
  ·rename_i xs _
   split at d
   ·rename_i ss hs
    split at d
    ·rename_i hc
     obtain⟨u,rfl,b,vs,rfl,hn,hr⟩:=UB p2
     rw[Zfi hs] at hr
     have:=Zdz hr
     subst this
     exact⟨a,b,ss,rfl,rfl,Ut (S:=fun _=>True) hn,by omega,d _ H2 (s1.trans s2) ⟨F2,fun i z h=>f1 i z (f2 i z h),rfl,rfl,A2⟩⟩
    ·exact d.elim
   ·exact d.elim
  ·exact d.elim
 |_=>exact d.elim
end
noncomputable def newT(xs:List PV):Rr PV:=if xs.length<=1000000 then .ok (.lst xs) else .bad
section
end
theorem ZpP{z:Str}:Zu0 (.str z)=.ok (z.cps.toList.map fun c=>PV.str ⟨#[c]⟩):=rfl
theorem Zij{α β:Type}{f:α->Rr β}:∀{xs:List α},Znf (fun x=>(f x).bind fun y=>.ok (some y)) xs=Zf8 f xs
 |[]=>rfl
 |x::xs=>by
  simp only[Znf,Zf8,Rr.assoc,Zij (xs:=xs),Rr.bind_ok,Option.toList,List.singleton_append]
section
variable {K:W.Frag}{EX:PX->Hp->Prop}{Γ Γ1:List Md}{te:TE}{fe:List PV->Rr PV}
theorem Va{wi:TI}{fi:List PV->Rr (List PV)}(hi:DIc K EX Γ Γ1 wi fi)(he:DE K EX (Γ1++[.S]) (Γ1++[.S]) .F te fe) :
  DE K EX Γ Γ1 .F (ZdV wi tB1 Zqa te) (fun ρ=>(fi ρ).bind fun xs=>(lenM xs).bind fun _=>(Zf8 (fun x=>fe (ρ++[x])) xs).bind fun ys=>.ok (.lst ys)):=by
 have h:=Zio (k:=1) hi Zuw Zov he
 simp only[Rr.bind_ok,if_true,Zij] at h
 exact h
variable {X:Cx}{scope:Scope}{x y:Str}{elt iter:Expr}{pos px py spos:Pos}{wi:TI}{i:Nat}
theorem Vn(hi:PI X (.Name x px) iter wi)(he:∀C s₂ H₂ ex,PE (Vv X scope [x] C ex s₂ H₂) elt te)(hNd:X.N.Nodup)(hc:X.calm=true)(hclos:closureFor scope X.env=pure (Zfb scope X.env):=by rfl)(hchk:Vo X.N X.env.scope scope [x]=true:=by rfl)(hs:∀x,foldedSetIterable iter X.env x=pure x:=by exact fun _=>rfl) :
  PE X (.ListComp elt [⟨.Name x px,iter,[],0⟩] scope pos) (ZdV wi tB1 Zqa te):=ZhK hi (Ze6 hNd hchk) (fun _ _ _ _=>ZhL) he hv1 hNd hc hclos hchk hs
theorem Zgy(hN:X.N.Nodup)(hi:X.N[i]?=some y)(hit:PI X (.Name x px) iter wi)(he:∀C s₂ H₂ ex,PE (Vv X scope [x] C ex s₂ H₂) elt te)(hc:X.calm=true)(hsw:swapsWith (.ListComp elt [⟨.Name x px,iter,[],0⟩] scope pos) (some (.Name y py)) spos.line X.env=pure true:=by rfl)(hy:X.env.scope.names.lookup y=some .local:=by rfl)(hclos:closureFor scope X.env=pure (Zfb scope X.env):=by rfl)(hchk:Vo X.N X.env.scope scope [x]=true:=by rfl)(hs:∀x,foldedSetIterable iter X.env x=pure x:=by exact fun _=>rfl) :
  PS X (.Assign [.Name y py] (.ListComp elt [⟨.Name x px,iter,[],0⟩] scope pos) spos) (VN i wi tB1 Zqa te):=Zg0 hN hi hit (Ze6 hN hchk) (fun _ _ _ _=>ZhL) he hv1 hc hsw hy hclos hchk hs
end
noncomputable def Zo6(l:Addr)(a b c:Int):HO:=.ext fun h=>∃t u v,IsRange h l a b c t u v
def ZqI:List V->Hp->VK->Prop:=fun xs H Q=>(∃n,xs=[.int n]/\∀l,H l=none->Q (.ref l) (upd H l (Zo6 l 0 n 1))) \/
 ∃a b c:Int,xs=[.int a,.int b,.int c]/\c≠0/\c.natAbs<1073741824/\∀l,H l=none->Q (.ref l) (upd H l (Zo6 l a b c))
section
variable {X:Cx}
theorem ZjV{P:Program}{w:World}{H:Hp}{h:Heap}{l:Addr}{a b c:Int}{t u v:Tok}(e:IsRange h l a b c t u v):Vk P w H h l (Zo6 l a b c):=
 ⟨⟨t,u,v,e⟩,⟨_,e⟩,fun h1 h2 ⟨t,u,v,q⟩ k=>⟨t,u,v,k _ q⟩⟩
theorem ZlF:Vu X (.type "range") ZqI:=by
 intro pins s σ H xs us Q I r h
 have hf:=I.hok.fresh (Z3u _)
 rcases h with ⟨n,rfl,q⟩|⟨a,b,c,rfl,hc,hc2,q⟩
 ·cases r with
  |cons r1 r2 =>
   cases r2
   obtain⟨t,rfl⟩:=r1
   refine call_range_1 ?_
   exact⟨.ref s.heap.objs.size,_,I.laid (a:=s.heap.objs.size) (o:=Zo6 s.heap.objs.size 0 n 1) (t':=s.toks+1+1) (fun b u e=>Heap.get?_push_of_some _ e) (Z3u _) (ZjV (IsRange.new ..)),rfl,q _ hf⟩
 ·cases r with
  |cons r1 r2 =>
   cases r2 with
   |cons r2 r3 =>
    cases r3 with
    |cons r3 r4 =>
     cases r4
     obtain⟨t,rfl⟩:=r1
     obtain⟨u,rfl⟩:=r2
     obtain⟨v,rfl⟩:=r3
     refine call_range_3 hc ?_ (.inl (PyProof.noPylong_small hc2))
     exact⟨.ref s.heap.objs.size,_,I.laid (a:=s.heap.objs.size) (o:=Zo6 s.heap.objs.size a b c) (t':=s.toks) (fun b u e=>Heap.get?_push_of_some _ e) (Z3u _) (ZjV (IsRange.new ..)),rfl,q _ hf⟩
noncomputable def UA(a c:Int)(n:Nat):List Int:=(List.range n).map fun(k:Nat)=>a+(k:Int)*c
theorem Zi3{a c:Int}:∀{n:Nat}{us:List Value},us.length=n->(∀(j:Nat) (v:Value),us[j]?=some v->∃t,v=Value.int (a+(j:Int)*c) t)->Jk ((UA a c n).map V.int) us:=by
 intro n us hl h
 have key:∀(us:List Value) (k:Nat),(∀(j:Nat) (v:Value),us[j]?=some v->∃t,v=Value.int (a+((k+j:Nat):Int)*c) t)->Jk (((List.range' k us.length).map fun(k:Nat)=>a+(k:Int)*c).map V.int) us:=by
  intro us
  induction us with
  |nil=>intro k _;exact .nil
  |cons u us ih =>
   intro k h
   obtain⟨t,e⟩:=h 0 u rfl
   refine .cons ⟨t,by simpa using e⟩ ?_
   have:=ih (k+1) (fun j v hj=>by
    obtain⟨t,e⟩:=h (j+1) v (by simpa using hj)
    exact⟨t,by rw[e];congr 3;omega⟩)
   exact this
 have:=key us 0 (fun j v hj=>by simpa using h j v hj)
 rw[hl,<- List.range_eq_range'] at this
 exact this
def Ze1:List V->Hp->VK->Prop:=fun xs H Q=>∃p a b c,xs=[.ref p]/\H p=some (Zo6 p a b c)/\Builtin.Range.small a b c=true/\0<=Builtin.Range.rangeSize a b c/\Builtin.Range.rangeSize a b c<=1000000 /\
 ∀l,H l=none->Q (.ref l) (upd H l (.lst ((UA a c (Builtin.Range.rangeSize a b c).toNat).map V.int)))
theorem ZfY(hc:X.calm=true):Vu X (.type "list") Ze1:=by
 intro pins s σ H xs us Q I r h
 obtain⟨p,a,b,c,rfl,hp,hs,h0,h1,q⟩:=h
 cases r with
 |cons r1 r2 =>
  cases r2
  cases r1
  obtain⟨⟨t,u,v,hr⟩,_⟩:=I.hok p _ hp
  have hf:=I.hok.fresh (Z3u _)
  refine call_list_range (n:=(Builtin.Range.rangeSize a b c).toNat) (I.ok.hd hc) hr hs (by omega) (by omega) fun h' tk acc' c' hk hS hacc=>?_
  refine⟨.ref s.heap.objs.size,_,I.laid (a:=s.heap.objs.size) (o:=.lst ((UA a c (Builtin.Range.rangeSize a b c).toNat).map V.int)) (t':=tk) hk (Z3u _) ?_,rfl,q _ hf⟩
  refine⟨?_,acc'.toList,c',Zi3 (by simpa using hacc.1) (fun j v hj=>hacc.2 j v (by simpa using hj)),by simpa using hS⟩
  simp only[Z3w,UA,Z47]
  exact Z33 (show _<=1000000 by omega) (by decide)
variable {K:W.Frag}{B:Addr->Prop}{EX:PX->Hp->Prop}{H0 H H':Hp}{σ:St}{Γ Γ':List Md}{ρ:List PV}{F:Nat->List Addr}{R:List Addr}{ta:TA}{fa:List PV->Rr (List PV)}
noncomputable def ZhM(xs:List PV):Rr PV:=match xs with
 |[.int n]=>if okR n=true/\n<=1000000 then .ok (.lst ((UA 0 1 n.toNat).map PV.int)) else .bad
 |[.int a,.int b,.int c]=>if c≠0/\c.natAbs<1073741824/\Builtin.Range.small a b c=true/\0<=Builtin.Range.rangeSize a b c/\Builtin.Range.rangeSize a b c<=1000000 then .ok (.lst ((UA a c (Builtin.Range.rangeSize a b c).toNat).map PV.int)) else .bad
 |_=>.bad
theorem Zef{S:Addr->Prop}:∀{ns:List Int},Reps K H S (ns.map PV.int) (ns.map V.int)
 |[]=>rfl
 |n::ns=>⟨.int n,ns.map V.int,rfl,rfl,Zef⟩
theorem Zmk{n:Int}:(Builtin.Range.rangeSize 0 n 1).toNat=n.toNat/\0<=Builtin.Range.rangeSize 0 n 1/\(n<=1000000->Builtin.Range.rangeSize 0 n 1<=1000000):=by
 rw[rangeSize_one]
 split<;>omega
theorem Zjn(ha:DAA K EX Γ Γ' ta fa):DE K EX Γ Γ' .F (tCB Ze1 (Zds (tCB ZqI ta) Zj3)) (fun ρ=>(fa ρ).bind ZhM):=fun B H0 H σ ρ F R Q A d=>by
 refine ha B H0 H σ ρ F R _ A (d.bind.imp (fun xs _ d vs H1 F1 s1 f1 p1 A1=>?_) fun e q=>q)
 have fin:∀(a b c:Int),Builtin.Range.small a b c=true->0<=Builtin.Range.rangeSize a b c->Builtin.Range.rangeSize a b c<=1000000 ->
   (∀v H',ZL H H'->Res K B H0 H σ Γ' ρ F R .F (.lst ((UA a c (Builtin.Range.rangeSize a b c).toNat).map PV.int)) v H'->Q v H') ->
   ∀l,H1 l=none->Zj3 σ (upd H1 l (Zo6 l a b c)) fun us H2=>Ze1 (.ref l::us) H2 Q:=fun a b c h1 h2 h3 d l hl=>by
  have e:=ZL.new (H:=H1) (o:=Zo6 l a b c) hl
  refine⟨l,a,b,c,rfl,ZX,h1,h2,h3,fun l2 hl2=>d _ _ ((s1.trans e).trans (ZL.new hl2)) (Res.newP (s1.trans e) f1 (S:=fun _=>True) Zef (PV.flats_ints _) (A1.grow e) hl2)⟩
 unfold ZhM at d
 split at d
 ·rename_i n _
  split at d
  ·rename_i hc
   obtain⟨v,rfl,p⟩:=UB p1
   cases p
   obtain⟨z1,z2,z3⟩:=Zmk (n:=n)
   unfold okR at hc
   rw[decide_eq_true_eq] at hc
   refine .inl ⟨n,rfl,fin 0 n 1 (small_one (by decide) (by decide) hc.1.1 hc.1.2) z2 (z3 hc.2) (fun v H' s r=>d v H' s (by rw[z1] at r;exact r))⟩
  ·exact d.elim
 ·rename_i a b c _
  split at d
  ·rename_i hc
   obtain⟨va,r1,rfl,p,vb,r2,rfl,p',vc,r3,rfl,p'',e⟩:=p1
   cases p;cases p';cases p'';cases e
   exact .inr ⟨a,b,c,rfl,hc.1,hc.2.1,fin a b c hc.2.2.1 hc.2.2.2.1 hc.2.2.2.2 d⟩
  ·exact d.elim
 ·exact d.elim
end
section
variable {κ:Type} [DecidableEq κ]
noncomputable def Zi4(kvs:List (κ×V))(k:κ):Option V:=(kvs.find? fun kv=>decide (kv.1=k)).map (·.2)
noncomputable def ZhG(kvs:List (κ×V))(k:κ)(v:V):List (κ×V):=
 if (kvs.any fun kv=>decide (kv.1=k))=true then kvs.map (fun kv=>if kv.1=k then (kv.1,v) else kv) else kvs++[(k,v)]
noncomputable def ZrF(kvs:List (κ×V))(k:κ):List (κ×V):=kvs.filter fun kv=>decide (kv.1≠k)
theorem ZcY{p:κ×V}{r:List (κ×V)}{k:κ}(e:p.1=k):Zi4 (p::r) k=some p.2:=by simp[Zi4,Z4q,e]
theorem ZcZ{p:κ×V}{r:List (κ×V)}{k:κ}(e:¬p.1=k):Zi4 (p::r) k=Zi4 r k:=by simp[Zi4,Z4q,e]
theorem Zh2(k:κ):∀kvs:List (κ×V),(kvs.any fun kv=>decide (kv.1=k))=(Zi4 kvs k).isSome
 |[]=>rfl
 |p::r=>by
  rw[Z42]
  by_cases e:p.1=k
  ·simp only[ZcY e,decide_eq_true e,Bool.true_or,Option.isSome_some]
  ·rw[ZcZ e,decide_eq_false e,Bool.false_or];exact Zh2 k r
theorem Zd6(kvs:List (κ×V))(k:κ)(v:V):(ZhG kvs k v).length<=kvs.length+1:=by
 unfold ZhG
 split
 ·rw[Z3w];omega
 ·rw[Z3y,Z3t,Z3F];omega
theorem Zj6.isSome_eq{o:Option V}{u:Option Value}(r:Zj6 o u):o.isSome=u.isSome:=by
 cases o with
 |none=>cases u with
  |none=>rfl
  |some _=>exact(show False from r).elim
 |some _=>cases u with
  |none=>exact(show False from r).elim
  |some _=>rfl
theorem Zj6.getD{o:Option V}{u:Option Value}{d:V}{d':Value}(r:Zj6 o u)(rd:JY d d'):JY (o.getD d) (u.getD d'):=by
 cases o with
 |none=>cases u with
  |none=>exact rd
  |some _=>exact(show False from r).elim
 |some _=>cases u with
  |none=>exact(show False from r).elim
  |some _=>exact r
theorem KV.val{kvs:List (κ×V)}{vs:List (κ×Value)}(r:KV kvs vs)(k:κ):Zj6 (Zi4 kvs k) (valueAt vs k):=by
 unfold KV at r
 induction r with
 |nil=>exact True.intro
 |@cons p q ps qs h t ih =>
  obtain⟨h1,h2⟩:=h
  by_cases e:p.1=k
  ·have e':q.1=k:=h1.symm.trans e
   have b:valueAt (q::qs) k=some q.2:=by simp[valueAt,Z4q,e']
   rw[ZcY e,b];exact h2
  ·have e':¬q.1=k:=fun z=>e (h1.trans z)
   have b:valueAt (q::qs) k=valueAt qs k:=by simp[valueAt,Z4q,e']
   rw[ZcZ e,b];exact ih
theorem KV.any{kvs:List (κ×V)}{vs:List (κ×Value)}(r:KV kvs vs)(k:κ):(kvs.any fun kv=>decide (kv.1=k))=vs.any fun kv=>decide (kv.1=k):=by
 unfold KV at r
 induction r with
 |nil=>rfl
 |cons h t ih=>rw[Z42,Z42,ih,h.1]
theorem KV.repl{kvs:List (κ×V)}{vs:List (κ×Value)}(r:KV kvs vs)(k:κ){y:V}{u:Value}(ry:JY y u) :
  KV (kvs.map fun kv=>if kv.1=k then (kv.1,y) else kv) (vs.map fun kv=>if kv.1=k then (kv.1,u) else kv):=by
 unfold KV at r ⊢
 induction r with
 |nil=>exact .nil
 |@cons p q ps qs h t ih =>
  rw[Z31,Z31]
  refine .cons ?_ ih
  obtain⟨h1,h2⟩:=h
  by_cases e:p.1=k
  ·rw[if_pos e,if_pos (h1.symm.trans e)];exact⟨h1,ry⟩
  ·rw[if_neg e,if_neg (fun z=>e (h1.trans z))];exact⟨h1,h2⟩
theorem KV.put{kvs:List (κ×V)}{vs:List (κ×Value)}(r:KV kvs vs)(k:κ){y:V}{u:Value}(ry:JY y u):KV (ZhG kvs k y) (stored vs k u):=by
 unfold ZhG stored
 rw[r.any k]
 by_cases e:(vs.any fun kv=>decide (kv.1=k))=true
 ·rw[if_pos e,if_pos e];exact r.repl k ry
 ·rw[if_neg e,if_neg e];exact Paired.snoc r ⟨rfl,ry⟩
theorem KV.drop{kvs:List (κ×V)}{vs:List (κ×Value)}(r:KV kvs vs)(k:κ):KV (ZrF kvs k) (without vs k):=by
 unfold KV at r ⊢
 unfold ZrF without
 induction r with
 |nil=>exact .nil
 |@cons p q ps qs h t ih =>
  obtain⟨h1,h2⟩:=h
  rw[Z4T,Z4T]
  by_cases e:p.1=k
  ·have a:¬decide (p.1≠k)=true:=by simp[e]
   have b:¬decide (q.1≠k)=true:=by simp[h1.symm.trans e]
   rw[if_neg a,if_neg b];exact ih
  ·have e':¬q.1=k:=fun z=>e (h1.trans z)
   have a:decide (p.1≠k)=true:=by simp[e]
   have b:decide (q.1≠k)=true:=by simp[e']
   rw[if_pos a,if_pos b];exact .cons ⟨h1,h2⟩ ih
theorem KV.keys{kvs:List (κ×V)}{vs:List (κ×Value)}(r:KV kvs vs):kvs.map (·.1)=vs.map (·.1):=by
 unfold KV at r
 induction r with
 |nil=>rfl
 |cons h t ih=>rw[Z31,Z31,ih,h.1]
theorem KV.length{kvs:List (κ×V)}{vs:List (κ×Value)}(r:KV kvs vs):kvs.length=vs.length:=Paired.length r
end
theorem ZmT{P:Program}{w:World}{k:Key}{u:Value}(r:JY (kV k) u):(Vg P w).is k u=true:=by
 cases k with
 |inl i=>obtain⟨t,e⟩:=(show ∃t,u=Value.int i t from r);subst e;exact ZgD P w i t
 |inr x=>obtain⟨t,e⟩:=(show ∃t,u=Value.str x t from r);subst e;exact ZgC P w x t
theorem ZfK{P:Program}{w:World}:∀{ks:List Key}{us:List Value},Jk (ks.map kV) us->ItemsAre (Vg P w) ks us
 |[],_,r=>by rw[Z4f] at r;cases r;exact .nil
 |k::ks,_,r=>by
  rw[Z31] at r
  cases r with
  |cons h t=>exact .cons (ZmT h) (ZfK t)
noncomputable abbrev KT(H:Hp):List (List Key×V)->List (List Key×Addr×Value)->Prop:=Paired fun p q=>p.1=q.1/\H q.2.1=some (.tup (p.1.map kV))/\JY p.2 q.2.2
theorem KT.val{H:Hp}{kvs:List (List Key×V)}{xs:List (List Key×Addr×Value)}(r:KT H kvs xs)(k:List Key):Zj6 (Zi4 kvs k) ((atKey xs k).map (·.2)):=by
 induction r with
 |nil=>exact True.intro
 |@cons p q ps qs h t ih =>
  obtain⟨h1,_,h2⟩:=h
  by_cases e:p.1=k
  ·have e':q.1=k:=h1.symm.trans e
   have b:atKey (q::qs) k=some q.2:=by simp[atKey,Z4q,e']
   rw[ZcY e,b];exact h2
  ·have e':¬q.1=k:=fun z=>e (h1.trans z)
   have b:atKey (q::qs) k=atKey qs k:=by simp[atKey,Z4q,e']
   rw[ZcZ e,b];exact ih
theorem KT.repl{H:Hp}{kvs:List (List Key×V)}{xs:List (List Key×Addr×Value)}(r:KT H kvs xs)(k:List Key){y:V}{u:Value}(ry:JY y u) :
  KT H (kvs.map fun kv=>if kv.1=k then (kv.1,y) else kv) (xs.map (putAt k u)):=by
 induction r with
 |nil=>exact .nil
 |@cons p q ps qs h t ih =>
  rw[Z31,Z31]
  refine .cons ?_ ih
  obtain⟨h1,h2,h3⟩:=h
  unfold putAt
  by_cases e:p.1=k
  ·rw[if_pos e,if_pos (h1.symm.trans e)];exact⟨h1,h2,ry⟩
  ·rw[if_neg e,if_neg (fun z=>e (h1.trans z))];exact⟨h1,h2,h3⟩
theorem KT.put{H:Hp}{kvs:List (List Key×V)}{xs:List (List Key×Addr×Value)}(r:KT H kvs xs)(k:List Key){b:Addr}{y:V}{u:Value}(hb:H b=some (.tup (k.map kV)))(ry:JY y u) :
  KT H (ZhG kvs k y) (storedH xs k b u):=by
 have e:(kvs.any fun kv=>decide (kv.1=k))=(atKey xs k).isSome:=by
  rw[Zh2,(r.val k).isSome_eq,Z4s]
 unfold ZhG storedH
 rw[e]
 by_cases q:(atKey xs k).isSome=true
 ·rw[if_pos q,if_pos q];exact r.repl k ry
 ·rw[if_neg q,if_neg q];exact Paired.snoc r ⟨rfl,hb,ry⟩
theorem KT.keeps{H H':Hp}{kvs:List (List Key×V)}{xs:List (List Key×Addr×Value)}(r:KT H kvs xs)(ht:∀b ys,H b=some (.tup ys)->H' b=some (.tup ys)):KT H' kvs xs:=
 Paired.mapP r fun _ _ z=>⟨z.1,ht _ _ z.2.1,z.2.2⟩
section
variable {P:Program}{w:World}{H:Hp}{h:Heap}{a:Addr}
theorem ZqH{u:HO}(ok:HOk P w H h)(e:Rd H a u):Vk P w H h a u:=e.ok ok
theorem Znl{kvs:List (Key×V)}(ok:HOk P w H h)(e:Rd H a (.dK kvs)):kvs.length<=sizeLine/\(a==sysModules)=false/\∃vs,KV kvs vs/\h.DictOf (Vg P w) a vs:=
 show Vk P w H h a (.dK kvs) from ZqH ok e
theorem Zty{kvs:List (Key×V)}(ok:HOk P w H h)(e:H a=some (.dK kvs)):kvs.length<=sizeLine/\(a==sysModules)=false/\∃vs,KV kvs vs/\h.DictOf (Vg P w) a vs:=Znl ok (.inl e)
theorem ZfG{ks:List Key}(ok:HOk P w H h)(e:H a=some (.tup (ks.map kV))):(tupleKind (Vg P w)).is h ks a:=by
 obtain⟨_,its,r,o,h1,h2,n,h3⟩:=(show Vk P w H h a (.tup (ks.map kV)) from ok a _ e)
 exact⟨o,its.toArray,n,h1,h2,h3,by simpa using ZfK r⟩
theorem Zni{kvs:List (List Key×V)}(ok:HOk P w H h)(e:Rd H a (.dT kvs)):kvs.length<=sizeLine/\(a==sysModules)=false /\
  ∃xs,KT H kvs xs/\h.DictOfH (tupleKind (Vg P w)) a xs:=by
 obtain⟨z,y,xs,r,o,es,ep,h1,h2,h3,h4,h5⟩:=(show Vk P w H h a (.dT kvs) from ZqH ok e)
 refine⟨z,y,xs,r,o,es,ep,h1,h2,h3,h4,fun x hx=>?_,h5⟩
 have all:∀{l:List (List Key×V)}{m:List (List Key×Addr×Value)},KT H l m->∀x∈m,(tupleKind (Vg P w)).is h x.1 x.2.1:=by
  intro l m q
  induction q with
  |nil=>intro x hx;exact nomatch hx
  |@cons p q ps qs hq t ih =>
   intro x hx
   rcases Z3v.mp hx with e|hx
   ·subst e
    exact ZfG ok (by rw[<- hq.1];exact hq.2.1)
   ·exact ih x hx
 exact all r x hx
theorem ZrD{kvs:List (List Key×V)}(ok:HOk P w H h)(e:H a=some (.dT kvs)):kvs.length<=sizeLine/\(a==sysModules)=false /\
  ∃xs,KT H kvs xs/\h.DictOfH (tupleKind (Vg P w)) a xs:=Zni ok (.inl e)
end
def ZlW(H:Hp)(a:Addr)(y:V)(r:Option V):Prop:=
 (∃kvs k,Rd H a (.dK kvs)/\y=kV k/\r=Zi4 kvs k)\/∃kvs k b,Rd H a (.dT kvs)/\y=.ref b/\H b=some (.tup (k.map kV))/\r=Zi4 kvs k
def Zqr(H:Hp)(a:Addr)(y v:V)(H':Hp):Prop:=
 (∃kvs k,H a=some (.dK kvs)/\y=kV k/\kvs.length<sizeLine/\H'=upd H a (.dK (ZhG kvs k v))) \/
 ∃kvs k b,H a=some (.dT kvs)/\y=.ref b/\H b=some (.tup (k.map kV))/\kvs.length<sizeLine/\H'=upd H a (.dT (ZhG kvs k v))
theorem ZlW.k{H:Hp}{a:Addr}{kvs:List (Key×V)}{k:Key}(e:H a=some (.dK kvs)):ZlW H a (kV k) (Zi4 kvs k):=.inl ⟨kvs,k,.inl e,rfl,rfl⟩
theorem ZlW.t{H:Hp}{a b:Addr}{kvs:List (List Key×V)}{k:List Key}(e:H a=some (.dT kvs))(eb:H b=some (.tup (k.map kV))):ZlW H a (.ref b) (Zi4 kvs k):=.inr ⟨kvs,k,b,.inl e,rfl,eb,rfl⟩
theorem Zqr.k{H:Hp}{a:Addr}{kvs:List (Key×V)}{k:Key}{v:V}(e:H a=some (.dK kvs))(hl:kvs.length<sizeLine):Zqr H a (kV k) v (upd H a (.dK (ZhG kvs k v))):=.inl ⟨kvs,k,e,rfl,hl,rfl⟩
theorem Zqr.t{H:Hp}{a b:Addr}{kvs:List (List Key×V)}{k:List Key}{v:V}(e:H a=some (.dT kvs))(eb:H b=some (.tup (k.map kV)))(hl:kvs.length<sizeLine) :
  Zqr H a (.ref b) v (upd H a (.dT (ZhG kvs k v))):=.inr ⟨kvs,k,b,e,rfl,eb,hl,rfl⟩
section
variable {X:Cx}{pins:List (Addr×Obj)}{σ:St}{H:Hp}{s:Shared}{a:Addr}{y v:V}{u r:Value}{o:Option V}{A:Around}{E:Value->Shared->Prop}
theorem Inv.big(I:Inv X pins σ H s):sysModules<s.heap.objs.size:=by
 have h:mainGlobals<s.heap.objs.size:=(I.mod.glob.keeps I.bk).lt
 exact Nat.lt_trans (by decide) h
theorem Zl5{Q:Value->Shared->Prop}(hu:A.units+1<cLine)(I:Inv X pins σ H s)(g:ZlW H a y (some v))(ry:JY y u)(h:∀w' s',Inv X pins σ H s'->JY v w'->Q w' s') :
  wpAny (model X.prog X.w) A (getItem (.ref a) u) Q E s:=by
 rcases g with ⟨kvs,k,e,ey,l⟩|⟨kvs,k,b,e,ey,eb,l⟩
 ·subst ey
  obtain⟨z,hd,vs,rel,dd⟩:=Znl I.hok e
  obtain⟨w',hw,rw'⟩:=Zj6.some_of (v:=v) (o:=valueAt vs k) (by rw[l];exact rel.val k)
  exact wpAny_getItem_of (ZmT ry) dd.mapOf hw (h w' _ (I.tok _) rw')
 ·subst ey
  cases (show u=Value.ref b from ry)
  obtain⟨z,hd,xs,rel,dd⟩:=Zni I.hok e
  obtain⟨w',hw,rw'⟩:=Zj6.some_of (v:=v) (o:=(atKey xs k).map (·.2)) (by rw[l];exact rel.val k)
  obtain⟨p,hp,hp2⟩:=Z45.mp hw
  refine wpAny_getItem_heap (tupleKind_room_in1 hu) (ZfG I.hok eb) dd hp ?_
  rw[hp2]
  exact h w' _ (I.tok _) rw'
theorem ZpH{Q:Value->Shared->Prop}(hu:A.units+1<cLine)(I:Inv X pins σ H s)(g:ZlW H a y o)(ry:JY y u)(h:∀s',Inv X pins σ H s'->Q (.bool (!o.isSome)) s') :
  wpAny (model X.prog X.w) A (compareOp .NotIn u (.ref a)) Q E s:=by
 rcases g with ⟨kvs,k,e,ey,l⟩|⟨kvs,k,b,e,ey,eb,l⟩
 ·subst ey
  obtain⟨z,hd,vs,rel,dd⟩:=Znl I.hok e
  refine wpAny_notIn_of (ZmT ry) hd dd.mapOf ?_
  rw[<- (rel.val k).isSome_eq,<- l]
  exact h _ (I.tok _)
 ·subst ey
  cases (show u=Value.ref b from ry)
  obtain⟨z,hd,xs,rel,dd⟩:=Zni I.hok e
  refine wpAny_notIn_heap (tupleKind_room_in1 hu) (ZfG I.hok eb) hd dd ?_
  have q:=(rel.val k).isSome_eq
  rw[Z4s] at q
  rw[<- q,<- l]
  exact h _ (I.tok _)
theorem Zhl{h':Heap}{t':Nat}{ob:HO}(I:Inv X pins σ H s)(mu:Mut (H a))(hs:Heap.SameBut a s.heap h')(he:∃q,h'.get? a=some q)(new:Vk X.prog X.w (upd H a ob) h' a ob) :
  Inv X pins σ (upd H a ob) { s with heap:=h',toks:=t' }:=
 I.write (x:=a) (e:=a) mu (.inl rfl) (fun b q hb z=>(hs.2 b hb).trans z) he new
theorem ZrG{P:Program}{w:World}{H':Hp}{h':Heap}{kvs:List (Key×V)}{vs:List (Key×Value)}(z:kvs.length<=sizeLine)(hd:(a==sysModules)=false)(rel:KV kvs vs)(dd:h'.DictOf (Vg P w) a vs) :
  Vk P w H' h' a (.dK kvs):=⟨z,hd,vs,rel,dd⟩
theorem Zl4{H':Hp}{Q:Unit->Shared->Prop}(hu:A.units+1<cLine)(I:Inv X pins σ H s)(g:Zqr H a y v H')(ry:JY y u)(rv:JY v r)(h:∀s',Inv X pins σ H' s'->Q () s') :
  wpAny (model X.prog X.w) A (setItem (.ref a) u r) Q E s:=by
 rcases g with ⟨kvs,k,e,ey,l,eH⟩|⟨kvs,k,b,e,ey,eb,l,eH⟩
 ·subst ey eH
  obtain⟨z,hd,vs,rel,dd⟩:=Zty I.hok e
  have hz:vs.length<=sizeLine:=by rw[<- rel.length];exact z
  have hl:(ZhG kvs k v).length<=sizeLine:=by have:=Zd6 kvs k v;omega
  refine wpAny_setItem_pairs (hsz:=hz) (ZmT ry) dd fun h' dd' hs=>h _ ?_
  have he:∃q,h'.get? a=some q:=let ⟨q,_,_,hq,_⟩:=dd';⟨q,hq⟩
  exact Zhl I (by rw[e];exact True.intro) hs he (ZrG hl hd (rel.put k rv) dd')
 ·subst ey eH
  cases (show u=Value.ref b from ry)
  obtain⟨z,hd,xs,rel,dd⟩:=ZrD I.hok e
  have hz:xs.length<=sizeLine:=by rw[<- Paired.length rel];exact z
  have hl:(ZhG kvs k v).length<=sizeLine:=by have:=Zd6 kvs k v;omega
  refine wpAny_setItem_heap (hsz:=hz) (tupleKind_room_in1 hu) (ZfG I.hok eb) dd fun h' dd' hs=>h _ ?_
  obtain⟨q,es,ep,hq,h2,h3,h4,_,h5⟩:=dd'
  refine Zhl I (by rw[e];exact True.intro) hs ⟨q,hq⟩ ⟨hl,hd,_,(rel.put k eb rv).keeps fun c ys ec=>?_,q,es,ep,hq,h2,h3,h4,h5⟩
  rw[Z4 (Zpp ec e (fun z=>nomatch z))]
  exact ec
end
def ZtE(i:Expr):Prop:=∀ov iv,subscripted i false ov iv=operate [ov,iv] (getItem ov iv)
theorem ZjO{prog:Program}{w:World}{A:Around}{E:Value->Shared->Prop}{s:Shared}{env:Env}{value slice:Expr}{pos:Pos}{T id:String}{Q:Value->Shared->Prop}(hl:typeLookup (.type T) "__getitem__"=pure (some (.builtin id)))(hs:ZtE slice)(h:wpAny (model prog w) A (eval value env) (fun o s₁=>wpAny (model prog w) A (eval slice env) (fun i s₂=>s₂.TypeIs o T/\wpAny (model prog w) A (getItem o i) Q E s₂) E s₁) E s) :
  wpAny (model prog w) A (eval (.Subscript value slice pos) env) Q E s:=by
 refine Subscript_ (wpAny_mono h (fun o s₁ h₁=>wpAny_mono h₁ (fun i s₂ h₂=>?_) fun _ _ x=>x) fun _ _ x=>x)
 obtain⟨hT,h₂⟩:=h₂
 unfold subscriptTail
 refine wpAny_bind ?_
 rw[getitemInPython_of_ne hT.not_modules]
 refine wpAny_bind (wpAny_specialOf hT hl ?_)
 have fin:wpAny (model prog w) A (subscripted slice false o i) (fun r s₃=>wpAny (model prog w) A (letTemporaryGo value o r >>= fun _=>pure r) Q E s₃) E s₂:=by
  rw[hs o i]
  exact wpAny_operating (wpAny_mono h₂ (fun r s₃ h₃=>wpAny_bind (wpAny_letTemporaryGo (wpAny_pure h₃))) fun _ _ x=>x)
 first
  |exact wpAny_pure (wpAny_bind fin)
  |exact wpAny_bind (wpAny_pure (wpAny_bind fin))
  |exact wpAny_bind fin
theorem Zhh{X:Cx}{pins:List (Addr×Obj)}{σ:St}{H:Hp}{s:Shared}{a:Addr}{y:V}{o:Option V}(I:Inv X pins σ H s)(g:ZlW H a y o):s.TypeIs (.ref a) "dict":=by
 rcases g with ⟨kvs,k,e,_,_⟩|⟨kvs,k,b,e,_,_,_⟩
 ·obtain⟨_,_,vs,_,dd⟩:=Znl I.hok e
  exact dd.typeIs
 ·obtain⟨_,_,xs,_,dd⟩:=Zni I.hok e
  exact dd.typeIs
noncomputable def ZqA(td ty:TE):TE:=fun σ H Q=>td σ H fun x H1=>ty σ H1 fun y H2=>∃a v,x=.ref a/\ZlW H2 a y (some v)/\Q v H2
noncomputable def ZjL(ty td:TE):TE:=fun σ H Q=>ty σ H fun y H1=>td σ H1 fun x H2=>∃a o,x=.ref a/\ZlW H2 a y o/\Q (.bl (!o.isSome)) H2
noncomputable def ZqF(td ty tv:TE):TS:=fun D σ H=>tv σ H fun v H1=>td σ H1 fun x H2=>ty σ H2 fun y H3=>∃a H4,x=.ref a/\Zqr H3 a y v H4/\D.nx σ H4
section
variable {X:Cx}{o i value:Expr}{pos pos':Pos}{td ty tv:TE}
theorem ZoV(hu:X.A.units+1<cLine)(ho:PE X o td)(hi:PE X i ty)(hs:ZtE i):PE X (.Subscript o i pos) (ZqA td ty):=by
 intro pins s σ H Q I h
 refine ZjO PySem.F.slot_dict_getitem.lookup hs (thn (ho pins s σ H _ I h) fun u s1 ⟨x,H1,I1,rx,q1⟩=>thn (hi pins s1 σ H1 _ I1 q1) fun iv s2 ⟨y,H2,I2,ry,a,v,ex,g,q2⟩=>?_)
 subst ex
 obtain rfl:u=Value.ref a:=rx
 exact⟨Zhh I2 g,Zl5 hu I2 g ry fun w' s3 I3 rw'=>⟨v,H2,I3,rw',q2⟩⟩
theorem Zfx(hu:X.A.units+1<cLine)(hi:PE X i ty)(ho:PE X o td):PC X .NotIn i o (ZjL ty td):=by
 intro pins s σ H Q I h
 refine thn (hi pins s σ H _ I h) fun iv s1 ⟨y,H1,I1,ry,q1⟩=>thn (ho pins s1 σ H1 _ I1 q1) fun u s2 ⟨x,H2,I2,rx,a,ov,ex,g,q2⟩=>?_
 subst ex
 obtain rfl:u=Value.ref a:=rx
 exact ZpH hu I2 g ry fun s3 I3=>⟨.bl (!ov.isSome),H2,I3,rfl,q2⟩
theorem ZoR(hu:X.A.units+1<cLine)(ho:PE X o td)(hi:PE X i ty)(hv:PE X value tv)(hs:swapsWith value (some (.Subscript o i pos')) pos.line X.env=pure false) :
  PS X (.Assign [.Subscript o i pos'] value pos) (ZqF td ty tv):=by
 intro pins s σ H D I h
 refine wpAny_Assign_Subscript (thn (hv pins s σ H _ I h) fun r s1 ⟨v,H1,I1,rv,q1⟩=>thn (ho pins s1 σ H1 _ I1 q1) fun u s2 ⟨x,H2,I2,rx,q2⟩=>thn (hi pins s2 σ H2 _ I2 q2) fun iv s3 ⟨y,H3,I3,ry,a,H4,ex,g,q3⟩=>?_) hs
 subst ex
 obtain rfl:u=Value.ref a:=rx
 exact Zl4 hu I3 g ry rv fun s4 I4=>⟨σ,H4,I4,q3⟩
end
theorem Znm{P:Program}{w:World}{H:Hp}(h:Heap)(hb:sysModules<h.objs.size):Vk P w H (h.push { cls:=.type "dict",data:=.dict #[] }) h.objs.size (.dK []):=
 ⟨Z4p _,beq_eq_false_iff_ne.mpr (Ne.symm (Z3B hb)),[],.nil,Heap.DictOf.new h⟩
theorem Znj{P:Program}{w:World}{H:Hp}(h:Heap)(hb:sysModules<h.objs.size):Vk P w H (h.push { cls:=.type "dict",data:=.dict #[] }) h.objs.size (.dT []):=
 ⟨Z4p _,beq_eq_false_iff_ne.mpr (Ne.symm (Z3B hb)),[],.nil,_,#[],0,Heap.get?_push_size _ rfl,⟨rfl,rfl,rfl⟩,rfl,rfl,List.nodup_nil⟩
noncomputable def ZnF:TE:=fun _ H Q=>∀p,H p=none->Q (.ref p) (upd H p (.dK []))
section
variable {X:Cx}{pos:Pos}
theorem Zms:PE X (.Dict [] [] pos) ZnF:=fun pins s σ H Q I h =>
 wpAny_Dict_empty ⟨.ref s.heap.objs.size,_,I.laid (a:=s.heap.objs.size) (o:=.dK []) (t':=s.toks) (fun _ _ q=>Heap.get?_push_of_some _ q) (Z3u _) (Znm s.heap I.big),rfl,h _ (I.hok.fresh (Z3u _))⟩
end
noncomputable def Zh6:List (TE×TE)->St->Hp->(List (V×V)->Hp->Prop)->Prop
 |[],_,H,Q=>Q [] H
 |(tk,tv)::r,σ,H,Q=>tk σ H fun x H1=>tv σ H1 fun y H2=>Zh6 r σ H2 fun ps H3=>Q ((x,y)::ps) H3
noncomputable abbrev VV:List (V×V)->List (Value×Value)->Prop:=Paired fun p q=>JY p.1 q.1/\JY p.2 q.2
def PPs(X:Cx)(pos:Pos)(keys:List (Option Expr))(values:List Expr)(trs:List (TE×TE)):Prop:=
 ∀(pins:List (Addr×Obj)) (s:Shared) (σ:St) (H:Hp) (Q:List (V×V)->Hp->Prop),Inv X pins σ H s->Zh6 trs σ H Q ->
  wpAny (model X.prog X.w) X.A (evalPairs (pairTrees keys values X.env pos)) (fun vs s'=>∃ps H',Inv X pins σ H' s'/\VV ps vs/\Q ps H') X.xe s
theorem ZoS{X:Cx}{pos:Pos}:PPs X pos [] [] []:=fun pins s σ H Q I h=>pairTrees_nil_walk ⟨[],H,I,.nil,h⟩
theorem Zmp{X:Cx}{pos:Pos}{k v:Expr}{ks:List (Option Expr)}{vs:List Expr}{tk tv:TE}{trs:List (TE×TE)}(hk:PE X k tk)(hv:PE X v tv)(hr:PPs X pos ks vs trs) :
  PPs X pos (some k::ks) (v::vs) ((tk,tv)::trs):=fun pins s σ H Q I h =>
 pairTrees_cons_walk (thn (hk pins s σ H _ I h) fun u s1 ⟨x,H1,I1,rx,q1⟩=>thn (hv pins s1 σ H1 _ I1 q1) fun w2 s2 ⟨y,H2,I2,ry,q2⟩ =>
  thn (hr pins s2 σ H2 _ I2 q2) fun ws s3 ⟨ps,H3,I3,rel,q3⟩=>⟨(x,y)::ps,H3,I3,.cons ⟨rx,ry⟩ rel,q3⟩)
section
end
noncomputable def Zqh:Key->PV
 |.inl i=>.int i
 |.inr x=>.str x
noncomputable def ZeI:PV->Option Key
 |.int i=>some (.inl i)
 |.str x=>some (.inr x)
 |_=>none
noncomputable def Zb2:List PV->Option (List Key)
 |[]=>some []
 |x::xs=>match ZeI x,Zb2 xs with
  |some k,some ks=>some (k::ks)
  |_,_=>none
theorem ZeH{x:PV}{k:Key}(h:ZeI x=some k):x=Zqh k:=by
 cases x<;>first|(cases h;rfl)|cases h
theorem Zb1:∀{xs:List PV}{ks:List Key},Zb2 xs=some ks->xs=ks.map Zqh
 |[],ks,h=>by cases h;rfl
 |x::xs,ks,h=>by
  unfold Zb2 at h
  split at h
  ·rename_i k ks' h1 h2
   cases h
   rw[ZeH h1,Zb1 h2];rfl
  ·cases h
@[simp] theorem Zqi(k:Key):ZeI (Zqh k)=some k:=by cases k<;>rfl
@[simp] theorem Zjf:∀ks:List Key,Zb2 (ks.map Zqh)=some ks
 |[]=>rfl
 |k::ks=>by simp[Zb2,Zjf ks]
section
variable {K:W.Frag}{H:Hp}{S:Addr->Prop}
theorem Zgx{k:Key}{v:V}(h:Rep K H S (Zqh k) v):v=kV k:=by cases k<;>exact h
theorem QL:∀{ks:List Key}{vs:List V},Reps K H S (ks.map Zqh) vs->vs=ks.map kV
 |[],_,h=>h
 |k::ks,_,h=>by
  obtain⟨v,r,rfl,h1,h2⟩:=h
  rw[Zgx h1,QL h2];rfl
end
section
variable {κ:Type} [DecidableEq κ] {α:Type}
noncomputable def atK:List κ->List α->κ->Option α
 |k'::ks,x::xs,k=>if k'=k then some x else atK ks xs k
 |_,_,_=>none
noncomputable def Zml:List κ->List α->κ->α->List α
 |k'::ks,x::xs,k,y=>(if k'=k then y else x)::Zml ks xs k y
 |_,_,_,_=>[]
noncomputable def Zs3(k:κ)(ks:List κ):Bool:=decide (k∈ks)
theorem ZkK{k:κ}{ks:List κ}(h:Zs3 k ks=false):k ∉ ks:=of_decide_eq_false h
noncomputable def Ze3(ks:List κ)(k:κ):List κ:=if k∈ks then ks else ks++[k]
noncomputable def ZcL(ks:List κ)(xs:List α)(k:κ)(y:α):List α:=if k∈ks then Zml ks xs k y else xs++[y]
theorem Zh9:∀{ks:List κ}{xs:List α}{k:κ}{y:α},ks.length=xs.length->(Zml ks xs k y).length=ks.length
 |[],[],_,_,_=>rfl
 |k'::ks,x::xs,k,y,h=>by simp[Zml,Zh9 (ks:=ks) (xs:=xs) (k:=k) (y:=y) (by simpa using h)]
 |[],_::_,_,_,h=>by simp at h
 |_::_,[],_,_,h=>by simp at h
theorem Zkc{ks:List κ}{xs:List α}{k:κ}{y:α}(h:ks.length=xs.length):(Ze3 ks k).length=(ZcL ks xs k y).length:=by
 unfold Ze3 ZcL
 split
 ·rw[Zh9 h]
 ·simp[h]
theorem Zev:∀{ks:List κ}{vs:List V}{k:κ},ks.length=vs.length->Zi4 (ks.zip vs) k=atK ks vs k
 |[],[],_,_=>rfl
 |k'::ks,v::vs,k,h=>by
  rw[Z4O]
  unfold atK
  by_cases e:k'=k
  ·rw[ZcY e,if_pos e]
  ·rw[ZcZ e,if_neg e,Zev (by simpa using h)]
 |[],_::_,_,h=>by simp at h
 |_::_,[],_,h=>by simp at h
theorem Zhv:∀{ks:List κ}{vs:List V}{k:κ},ks.length=vs.length->(((ks.zip vs).any fun kv=>decide (kv.1=k))=true ↔ k∈ks)
 |[],[],_,_=>by simp
 |k'::ks,v::vs,k,h=>by
  rw[Z4O,Z42,Bool.or_eq_true,Zhv (by simpa using h),Z3v,decide_eq_true_eq]
  exact⟨fun z=>z.imp Eq.symm id,fun z=>z.imp Eq.symm id⟩
 |[],_::_,_,h=>by simp at h
 |_::_,[],_,h=>by simp at h
theorem ZjS:∀{ks:List κ}{vs:List V}{k:κ}{y:V},ks.length=vs.length->((ks.zip vs).map fun kv=>if kv.1=k then (kv.1,y) else kv)=ks.zip (Zml ks vs k y)
 |[],[],_,_,_=>rfl
 |k'::ks,v::vs,k,y,h=>by
  rw[Z4O,Z31,ZjS (by simpa using h)]
  show _=(k'::ks).zip ((if k'=k then y else v)::Zml ks vs k y)
  by_cases e:k'=k
  ·rw[if_pos e,if_pos e];rfl
  ·rw[if_neg e,if_neg e];rfl
 |[],_::_,_,_,h=>by simp at h
 |_::_,[],_,_,h=>by simp at h
theorem ZhF{ks:List κ}{vs:List V}{k:κ}{y:V}(h:ks.length=vs.length):ZhG (ks.zip vs) k y=(Ze3 ks k).zip (ZcL ks vs k y):=by
 unfold ZhG Ze3 ZcL
 by_cases c:k∈ks
 ·rw[if_pos ((Zhv h).mpr c),if_pos c,if_pos c,ZjS h]
 ·rw[if_neg (fun z=>c ((Zhv h).mp z)),if_neg c,if_neg c,List.zip_append h];rfl
end
section
variable {κ:Type} [DecidableEq κ] {K:W.Frag}{H:Hp}{S:Addr->Prop}
theorem ZhC:∀{ks:List κ}{xs:List PV}{vs:List V}{k:κ},Reps K H S xs vs->match atK ks xs k with
  |some y=>∃v,atK ks vs k=some v/\Rep K H S y v
  |none=>atK ks vs k=none
 |[],xs,vs,k,h=>by simp[atK]
 |k'::ks,[],vs,k,h=>by rw[h];simp[atK]
 |k'::ks,x::xs,vs,k,h=>by
  obtain⟨v,r,rfl,h1,h2⟩:=h
  unfold atK
  by_cases e:k'=k
  ·rw[if_pos e,if_pos e];exact⟨v,rfl,h1⟩
  ·rw[if_neg e,if_neg e];exact ZhC h2
theorem ZdU:∀{ks:List κ}{xs:List PV}{vs:List V}{G:List Addr}{k:κ}{y:PV}{w:V},ks.length=xs.length->Trees K H xs vs G->Vd K H y w []->∃G',(∀a∈G',a∈G)/\Trees K H (Zml ks xs k y) (Zml ks vs k w) G'
 |[],[],vs,G,k,y,w,_,h,_=>⟨[],by simp,by rw[h.1];exact⟨rfl,rfl⟩⟩
 |k'::ks,x::xs,vs,G,k,y,w,hl,h,hy=>by
  obtain⟨v,r,G1,G2,rfl,h1,h2,h3,rfl⟩:=h
  obtain⟨G',g1,g2⟩:=ZdU (ks:=ks) (k:=k) (y:=y) (w:=w) (by simpa using hl) h2 hy
  unfold Zml
  by_cases e:k'=k
  ·rw[if_pos e,if_pos e]
   exact⟨G',fun a ha=>Z3o _ (g1 a ha),w,_,[],G',rfl,hy,g2,by simp,rfl⟩
  ·rw[if_neg e,if_neg e]
   refine⟨G1++G',fun a ha=>?_,v,_,G1,G',rfl,h1,g2,fun a ha z=>h3 a ha (g1 a z),rfl⟩
   rcases Z3q.mp ha with z|z
   ·exact Z3s _ z
   ·exact Z3o _ (g1 a z)
 |[],_::_,_,_,_,_,_,hl,_,_=>by simp at hl
 |_::_,[],_,_,_,_,_,hl,_,_=>by simp at hl
theorem Vd.flatG{x:PV}{v:V}{G:List Addr}(f:x.flat=true)(h:Vd K H x v G):Vd K H x v []:=Rep.tree f (h.rep (S:=fun _=>True) fun _ _=>trivial)
end
section
variable {K:W.Frag}{B:Addr->Prop}{EX:PX->Hp->Prop}{H0 H H':Hp}{σ:St}{Γ Γ' Γ1 Γ2 Γ3:List Md}{ρ:List PV}{F F':Nat->List Addr}{R:List Addr}{ta tb:TE}{f fa fb:List PV->Rr PV}{k:Kd}
theorem Res.newBox{H1:Hp}{F1:Nat->List Addr}{s:Sh}{xs:List PV}{vs:List V}{u:HO}{p:Addr}{S:Addr->Prop}(s1:ZL H H1)(f1:∀i,∀a∈F1 i,a∈F i)(hb:Zqt K s vs u)(p1:Reps K H1 S xs vs)(hx:PV.flats xs=true)(A1:Ag K B H0 H1 σ Γ' ρ F1 R)(hp:H1 p=none) :
  Res K B H0 H σ Γ' ρ F R .F (.box none s xs) (.ref p) (upd H1 p u):=by
 have e:ZL H1 (upd H1 p u):=ZL.new hp
 refine⟨F1,f1,[p],⟨p,vs,u,[],rfl,ZX,⟨trivial,hb⟩,(Reps.trees hx p1).same e,by simp,rfl⟩,fun a ha=>?_,A1.newB hb.lv hp⟩
 rw[Z38.mp ha]
 exact⟨(A1.fresh hp).1,.inl (s1.free hp)⟩
theorem Znq:DE K EX Γ Γ .F ZnF (fun _=>.ok (.box none (.dk []) [])):=fun B H0 H σ ρ F R Q A d p hp =>
 d _ _ (ZL.new hp) (Res.newBox (S:=fun _=>True) (vs:=[]) (ZL.refl _) (fun _ _ h=>h) ⟨rfl,rfl⟩ rfl rfl A hp)
noncomputable def dAt(x y:PV):Option (Option PV):=match x,y with
 |.box _ (.dk ks) xs,y=>(ZeI y).map fun k=>atK ks xs k
 |.box _ (.dt ks) xs,.tup ys=>(Zb2 ys).map fun k=>atK ks xs k
 |_,_=>none
noncomputable def Zs0(g:Bool->Bool)(y x:PV):Rr PV:=match dAt x y with
 |some o=>.ok (.bl (g o.isSome))
 |none=>.bad
noncomputable def ZmE(x y:PV):Rr PV:=match dAt x y with
 |some (some z)=>.ok z
 |_=>.bad
theorem Zl6{x y:PV}{v w:V}{o:Option PV}{S:Addr->Prop}(hx:Rep K H S x v)(hy:Rep K H (fun _=>True) y w)(e:dAt x y=some o) :
  ∃a r,v=.ref a/\ZlW H a w r/\r.isSome=o.isSome/\∀z,o=some z->∃u,r=some u/\Rep K H S z u:=by
 have fin:∀{κ:Type} [DecidableEq κ] {ks:List κ}{xs:List PV}{vs:List V}{k:κ},Reps K H S xs vs->o=atK ks xs k->(atK ks vs k).isSome=o.isSome/\∀z,o=some z->∃u,atK ks vs k=some u/\Rep K H S z u:=fun {κ} _ {ks xs vs k} h e=>by
  have:=ZhC (ks:=ks) (k:=k) h
  rw[<- e] at this
  cases o with
  |none=>exact⟨by rw[this];rfl,fun z q=>by cases q⟩
  |some z =>
   obtain⟨u,e1,e2⟩:=this
   exact⟨by rw[e1];rfl,fun z' q=>by cases q;exact⟨u,e1,e2⟩⟩
 unfold dAt at e
 split at e
 ·rename_i p ks xs
  obtain⟨a,vs,u,rfl,hr,⟨_,hl,rfl⟩,hxs⟩:=hx
  cases ek:ZeI y with
  |none=>rw[ek] at e;cases e
  |some k =>
   rw[ek] at e
   cases e
   rw[ZeH ek] at hy
   obtain⟨g1,g2⟩:=fin (ks:=ks) (k:=k) hxs rfl
   exact⟨a,atK ks vs k,rfl,.inl ⟨_,k,hr.1,Zgx hy,(Zev hl).symm⟩,g1,g2⟩
 ·rename_i p ks xs ys
  obtain⟨a,vs,u,rfl,hr,⟨_,hl,rfl⟩,hxs⟩:=hx
  cases ek:Zb2 ys with
  |none=>rw[ek] at e;cases e
  |some k =>
   rw[ek] at e
   cases e
   rw[Zb1 ek] at hy
   obtain⟨b,ws,rfl,hb,hws⟩:=hy
   rw[QL hws] at hb
   obtain⟨g1,g2⟩:=fin (ks:=ks) (k:=k) hxs rfl
   exact⟨a,atK ks vs k,rfl,.inr ⟨_,k,b,hr.1,rfl,hb.1,(Zev hl).symm⟩,g1,g2⟩
 ·cases e
theorem ZfU(ha:DE K EX Γ Γ1 .A ta fa)(hb:DE K EX Γ1 Γ2 .A tb fb):DE K EX Γ Γ2 .P (ZjL ta tb) (fun ρ=>(fa ρ).bind fun y=>(fb ρ).bind fun x=>Zs0 (!·) y x):=fun B H0 H σ ρ F R Q A d=>by
 refine two ha hb A d.bind2 fun y x w v H' F' d s f py px A'=>?_
 unfold Zs0 at d
 cases e:dAt x y with
 |none=>rw[e] at d;exact d.elim
 |some o =>
  rw[e] at d
  obtain⟨a,r,rfl,g1,g2,_⟩:=Zl6 px py e
  exact⟨a,r,rfl,g1,by rw[g2];exact d _ _ s ⟨F',f,rfl,rfl,A'⟩⟩
theorem ZpE(ha:DE K EX Γ Γ1 .A ta fa)(hb:DE K EX Γ1 Γ2 .A tb fb):DE K EX Γ Γ2 .A (ZqA ta tb) (fun ρ=>(fa ρ).bind fun x=>(fb ρ).bind fun y=>ZmE x y):=fun B H0 H σ ρ F R Q A d=>by
 refine two ha hb A d.bind2 fun x y v w H' F' d s f px py A'=>?_
 unfold ZmE at d
 cases e:dAt x y with
 |none=>rw[e] at d;exact d.elim
 |some o =>
  rw[e] at d
  cases o with
  |none=>exact d.elim
  |some z =>
   obtain⟨a,r,rfl,g1,_,g3⟩:=Zl6 px py e
   obtain⟨u,rfl,hu⟩:=g3 z rfl
   exact⟨a,u,rfl,g1,d _ _ s ⟨F',f,hu,A'⟩⟩
noncomputable def ZmD(x y z:PV):Rr PV:=match x,y with
 |.box p (.dk ks) xs,y=>match ZeI y with
  |some k=>if xs.length<1000000/\(Zs3 k ks=false\/z.flat=true) then .ok (.box p (.dk (Ze3 ks k)) (ZcL ks xs k z)) else .bad
  |none=>.bad
 |.box p (.dt ks) xs,.tup ys=>match Zb2 ys with
  |some k=>if xs.length<1000000/\(Zs3 k ks=false\/z.flat=true) then .ok (.box p (.dt (Ze3 ks k)) (ZcL ks xs k z)) else .bad
  |none=>.bad
 |_,_=>.bad
theorem Zfg{κ:Type}[DecidableEq κ]{ks:List κ}{xs:List PV}{vs:List V}{k:κ}{y:PV}{w:V}{G G2:List Addr}(hl:ks.length=xs.length)(h:Trees K H xs vs G)(hy:Vd K H y w G2)(hd:∀a∈G,a ∉ G2)(hk:k∈ks->y.flat=true) :
  ∃G',(∀a∈G',a∈G\/a∈G2)/\Trees K H (ZcL ks xs k y) (ZcL ks vs k w) G':=by
 unfold ZcL
 by_cases c:k∈ks
 ·rw[if_pos c,if_pos c]
  obtain⟨G',g1,g2⟩:=ZdU (k:=k) hl h (hy.flatG (hk c))
  exact⟨G',fun a ha=>.inl (g1 a ha),g2⟩
 ·rw[if_neg c,if_neg c]
  exact⟨G++G2,fun a ha=>Z3q.mp ha,Trees.append h (Trees.one hy) hd⟩
theorem Znk{i:Nat}{tv:TE}{fv:List PV->Rr PV}(hm:Γ1[i]?=some .O)(hv:DE K EX Γ Γ1 .F tv fv)(hk:DE K EX Γ1 Γ1 .A tb fb) :
  DS K EX Γ ⟨Γ1,Γ2,Γ3,k⟩ (ZqF (Zj2 i) tb tv) (fun ρ=>(fv ρ).thenS fun z=>(fb ρ).thenS fun y=>(ZmD (gv i ρ) y z).thenS fun x=>.next (ρ.set i x)):=fun B H0 H σ ρ F D A d=>by
 refine hv B H0 H σ ρ F [] _ A (d.thenS.imp (fun z _ d w H1 s1 r1=>?_) fun e q=>q)
 obtain⟨F1,f1,G2,t1,o1,A1⟩:=r1
 obtain⟨v,h1,h2⟩:=A1.getO hm
 refine⟨v,h1,hk B H0 H1 σ ρ F1 (G2++[]) _ A1 (d.thenS.imp (fun y _ d yv H2 s2 r2=>?_) fun e q=>q)⟩
 obtain⟨F2,f2,p2,A2⟩:=r2
 obtain⟨v',h1',h2'⟩:=A2.getO hm
 rw[h1] at h1';cases h1'
 have d:=d.thenS
 have t2:=t1.same s2
 have core:∀{p:Option Addr}{s s':Sh}{xs xs':List PV}{a:Addr}{vs vs':List V}{u u':HO}{G G':List Addr},ρ.getD i .non=.box p s xs->H2 a=some u->ZtD p a->Trees K H2 xs vs G->a ∉ G->F2 i=a::G->Zqt K s' vs' u'->Trees K H2 xs' vs' G'->(∀b∈G',b∈G\/b∈G2) ->
   σ[i]?=some (some (.ref a))->DnS K B EX ⟨Γ1,Γ2,Γ3,k⟩ H0 H F D (.next (ρ.set i (.box p s' xs')))->D.nx σ (upd H2 a u'):=fun {p s s' xs xs' a vs vs' u u' G G'} er hH hpn ht hn hF hb ht' hsub hσ d=>by
  have haF:a∈F2 i:=by rw[hF];simp
  have na2:a ∉ G2:=fun z=>A2.disjR i a haF (Z3s _ z)
  have hna:a ∉ G':=fun z=>(hsub a z).elim hn na2
  have hsub2:∀b∈a::G',b∈F2 i\/b∈G2:=fun b hb=>by
   rcases Z3v.mp hb with rfl|hb
   ·exact .inl haF
   ·rcases hsub b hb with z|z
    ·exact .inl (by rw[hF];simp[z])
    ·exact .inr z
  obtain⟨lv,hlv⟩:=A2.live i a haF
  refine d σ _ (ZbI F2 i (a::G')) (Zhe (s1.trans s2) (fun j b hb=>f1 j b (f2 j b hb)) haF fun b hb=>?_) (Ag.chgB hb.lv (G:=G2) (R:=[]) A2 hm haF hsub2 (by simp) ?_)
  ·rcases hsub2 b hb with z|z
   ·exact .inr ⟨i,f1 i b (f2 i b z)⟩
   ·exact(o1 b z).2
  ·exact⟨_,hσ,a,vs',u',G',rfl,ZX,⟨hpn,hb⟩,Trees.putL hlv hna ht',hna,rfl⟩
 unfold ZmD at d
 split at d
 ·rename_i p ks xs er _ _
  rw[show ρ.getD i .non=.box p (.dk ks) xs from er] at h2'
  obtain⟨a,vs,u,G,rfl,hH,⟨hpn,hl,rfl⟩,ht,hn,hF⟩:=h2'
  split at d
  ·rename_i kk ek
   split at d
   ·rename_i hc
    rw[ZeH ek] at p2
    have hl':ks.length=xs.length:=by rw[hl,ht.length]
    have dj:∀b∈G,b ∉ G2:=fun b hb z=>A2.disjR i b (by rw[hF];simp[hb]) (Z3s _ z)
    obtain⟨G',g1,g2⟩:=Zfg (k:=kk) hl' ht t2 dj (fun c=>hc.2.resolve_left (fun z=>ZkK z c))
    refine⟨a,_,rfl,.inl ⟨_,kk,hH,Zgx p2, ?_,rfl⟩,core er hH hpn ht hn hF (s':=.dk (Ze3 ks kk)) (vs':=ZcL ks vs kk w) ⟨Zkc hl, ?_⟩ g2 g1 h1 d⟩
    ·rw[List.length_zip,hl,Nat.min_self,ht.length];exact Z3z hc.1 (by decide)
    ·rw[ZhF hl]
   ·exact d.elim
  ·exact d.elim
 ·rename_i p ks xs ys er _ _
  rw[show ρ.getD i .non=.box p (.dt ks) xs from er] at h2'
  obtain⟨a,vs,u,G,rfl,hH,⟨hpn,hl,rfl⟩,ht,hn,hF⟩:=h2'
  split at d
  ·rename_i kk ek
   split at d
   ·rename_i hc
    rw[Zb1 ek] at p2
    obtain⟨b,ws,rfl,hb,hws⟩:=p2
    rw[QL hws] at hb
    have hl':ks.length=xs.length:=by rw[hl,ht.length]
    have dj:∀b∈G,b ∉ G2:=fun b hb z=>A2.disjR i b (by rw[hF];simp[hb]) (Z3s _ z)
    obtain⟨G',g1,g2⟩:=Zfg (k:=kk) hl' ht t2 dj (fun c=>hc.2.resolve_left (fun z=>ZkK z c))
    refine⟨a,_,rfl,.inr ⟨_,kk,b,hH,rfl,hb.1, ?_,rfl⟩,core er hH hpn ht hn hF (s':=.dt (Ze3 ks kk)) (vs':=ZcL ks vs kk w) ⟨Zkc hl, ?_⟩ g2 g1 h1 d⟩
    ·rw[List.length_zip,hl,Nat.min_self,ht.length];exact Z3z hc.1 (by decide)
    ·rw[ZhF hl]
   ·exact d.elim
  ·exact d.elim
 ·exact d.elim
end
def ZpU(p:Params)(K:W.Frag)(a:Addr)(f:Str->Option Addr):Prop:=
 (a==sysModules)=false/\∃o es ep,K.lookup a=some o/\o.ExactDict/\o.data=.dict es ep/\(∀e∈es,∃x t,e.key=.str x t/\e.hash=PyData.keyHash p x)/\∀x,findBy Value.isStrOf es x=(f x).map Value.ref
def Tel(p:Params)(K:W.Frag)(mg:Str->Option Value)(nm:Str)(ws:List Str)(L:List (Str×Str)):Prop:=
 ∃a f,mg nm=some (.ref a)/\ZpU p K a f/\(∀x,(f x).isSome=ws.contains x)/\∀x n,(x,n)∈L->∃g,f x=some g/\mg n=some (.ref g)
section
variable {X:Cx}{pins:List (Addr×Obj)}{σ:St}{H:Hp}{s:Shared}{a:Addr}{f:Str->Option Addr}
theorem ZpU.map(h:ZpU X.w.params X.K a f)(I:Inv X pins σ H s):Heap.MapOf (PySem.strKind X.prog X.w) s.heap a fun x=>(f x).map Value.ref:=by
 obtain⟨_,o,es,ep,h1,h2,h3,h4,h5⟩:=h
 refine⟨o,es,ep,I.kIn _ _ h1,h2,h3,fun e he=>?_,h5⟩
 obtain⟨x,t,e1,e2⟩:=h4 e he
 exact⟨x,by rw[e1];exact beq_self_eq_true x,e2⟩
end
section
variable {X:Cx}{K:W.Frag}{nm:Str}{ws:List Str}{L:List (Str×Str)}{i e:Expr}{es:List Expr}{p1 p2 pos:Pos}{ty:TE}{t:TA}{E:St->XK}{tab:Str->Option Sp}
noncomputable def ZnC(ws:List Str)(g:Bool->Bool)(ty:TE):TE:=fun σ H Q=>ty σ H fun y H1=>∃x,y=.str x/\Q (.bl (g (ws.contains x))) H1
theorem Zkm(T:Tel X.w.params X.K X.mg nm ws L)(hg:Gl X nm)(hi:PE X i ty)(hd:(nm==("__debug__":Str))=false:=by decide):PC X .NotIn i (.Name nm pos) (ZnC ws (!·) ty):=by
 obtain⟨a,f,hm,kd,hw,_⟩:=T
 intro pins s σ H Q I h
 refine thn (hi pins s σ H _ I h) fun iv s1 ⟨y,H1,I1,ry,x,ex,q⟩=>Uc I1 hg hm ?_ hd
 subst ex
 obtain⟨tk,rfl⟩:=ry
 refine wpAny_notIn_of (k:=x) (knd:=PySem.strKind X.prog X.w) (beq_self_eq_true x) kd.1 (kd.map I1) ⟨.bl _,H1,I1.tok _,rfl, ?_⟩
 rw[Z4s,hw]
 exact q
noncomputable def ZtT(tab:Str->Option Sp)(E:St->XK)(ty:TE)(t:TA):TE:=fun σ H Q=>ty σ H fun y H1=>∃x sp,y=.str x/\tab x=some sp/\t σ H1 fun vs H2=>sp vs H2 Q (E σ)
def Zn3(X:Cx)(L:List (Str×Str))(tab:Str->Option Sp):Prop:=∀x sp,tab x=some sp->∃n k ps,(x,n)∈L/\OkX X.prog X.w X.K X.mg X.base k n ps sp/\ZbC k X.A
theorem ZqQ(T:Tel X.w.params X.K X.mg nm ws L)(hO:Zn3 X L tab)(hg:Gl X nm)(hx:Zjz X E)(hi:PE X i ty)(hs:ZtE i)(ha:PA X (e::es) t)(hd:(nm==("__debug__":Str))=false:=by decide)(he:starEach (e::es) X.env=(false,eval e X.env)::starEach es X.env:=by rfl)(hpl:(backTo pos (starEach es X.env)).any (·.1)=false:=by rfl):PE X (.Call (.Subscript (.Name nm p1) i p2) (e::es) [] pos) (ZtT tab E ty t):=by
 obtain⟨a,fm,hm,kd,hw,hL⟩:=T
 intro pins s σ H Q I h
 show wpAny _ _ (eval (.Subscript (.Name nm p1) i p2) X.env >>= fun f=>callWith pos f [] (backTo pos (starEach (e::es) X.env)) (backToKw pos (keywordEach [] X.env))) _ _ _
 refine wpAny_bind ?_
 refine ZjO PySem.F.slot_dict_getitem.lookup hs (Uc I hg hm (thn (hi pins s σ H _ I h) fun iv s0 ⟨y,H0,I0,ry,x,sp,ex,htab,q0⟩=>?_) hd)
 subst ex
 obtain⟨tk,rfl⟩:=ry
 obtain⟨n,k,ps,hmem,⟨f,fd,F,hmn,hk,hb⟩,hr⟩:=hO x sp htab
 obtain⟨g,hf,hmg⟩:=hL x n hmem
 obtain rfl:f=g:=by rw[hmn] at hmg;cases hmg;rfl
 refine⟨(kd.map I0).typeIs,wpAny_getItem_of (k:=x) (knd:=PySem.strKind X.prog X.w) (v:=.ref f) (beq_self_eq_true x) (kd.map I0) (by rw[hf];rfl) ?_⟩
 have I0':=I0.tok (s.toks+1)
 refine PySem.W.callWith_K (h₀:=X.base) I.ok.mod.kin hk (thn (ha pos pins _ σ H0 _ (I0.tok _) q0) fun us s1 ⟨vs,H1,I1,r,q⟩=>⟨I1.kIn, ?_⟩) he hpl
 have hl:(us++[]).length=ps.length:=by rw[Z3R,<- r.length];exact F.len _ _ _ _ q
 have hb':=hb s1 us I1.kIn hl
 rw[Z3R] at hb'
 refine wpAny_call (codeAny_mono (F.run X.A X.stack s1 H1 ⟨us,[]⟩ us vs Q (E σ) hr I1.env0 hb' r q) fun r s' hq=>?_)
 cases r with
 |error e=>exact hx pins σ H1 s1 e s' I1 hq
 |ok fl =>
  cases fl with
  |ret u=>exact I1.after hq
  |next=>exact False.elim hq
  |brk=>exact False.elim hq
  |cont=>exact False.elim hq
noncomputable def Zi7(K:W.Frag)(n:Nat)(kd:Kd)(M:List (Str×(List PV->Rr PV))):Str->Option Sp:=fun x=>(M.lookup x).map fun m=>spF K n kd (W1 K) m
theorem ZoI{n:Nat}{kd:Kd}:Zn3 X L (Zi7 K n kd []):=fun x sp h=>by cases h
theorem JH{n k:Nat}{kd:Kd}{x nf:Str}{ps:List Str}{m:List PV->Rr PV}{M:List (Str×(List PV->Rr PV))}(h:(x,nf)∈L)(G:OkX X.prog X.w X.K X.mg X.base k nf ps (spF K n kd (W1 K) m))(hr:ZbC k X.A)(t:Zn3 X L (Zi7 K n kd M)):Zn3 X L (Zi7 K n kd ((x,m)::M)):=by
 intro y sp hy
 unfold Zi7 at hy
 rw[Z3K] at hy
 by_cases c:(y==x)=true
 ·rw[c] at hy
  cases hy
  rw[eq_of_beq c]
  exact⟨nf,k,ps,h,G,hr⟩
 ·rw[show (y==x)=false by simpa using c] at hy
  exact t y sp hy
end
noncomputable def ZnR(ws:List Str)(g:Bool->Bool)(y:PV):Rr PV:=match y with
 |.str x=>.ok (.bl (g (ws.contains x)))
 |_=>.bad
noncomputable def Zq4(M:List (Str×(List PV->Rr PV)))(y:PV):Rr (List PV->Rr PV):=match y with
 |.str x=>match M.lookup x with
  |some m=>.ok m
  |none=>.bad
 |_=>.bad
theorem JS{M:List (Str×(List PV->Rr PV))}{x:Str}{m:List PV->Rr PV}(h:M.lookup x=some m):Zq4 M (.str x)=.ok m:=by simp only[Zq4,h]
section
variable {K:W.Frag}{EX:PX->Hp->Prop}{E:XK}{Γ Γ1 Γ2:List Md}{tb:TE}{ta:TA}{fb:List PV->Rr PV}{fa:List PV->Rr (List PV)}{ws:List Str}{g:Bool->Bool}{M:List (Str×(List PV->Rr PV))}{n:Nat}
theorem Zno(hb:DE K EX Γ Γ1 .A tb fb):DE K EX Γ Γ1 .P (ZnC ws g tb) (fun ρ=>(fb ρ).bind fun y=>ZnR ws g y):=fun B H0 H σ ρ F R Q A d=>by
 refine hb B H0 H σ ρ F R _ A (d.bind.imp (fun y _ d v H1 s1 r1=>?_) fun e q=>q)
 obtain⟨F1,f1,p1,A1⟩:=r1
 cases y with
 |str x=>exact⟨x,p1,d _ H1 s1 ⟨F1,f1,rfl,rfl,A1⟩⟩
 |_=>exact d.elim
theorem ZpB(hn:Len fa n)(hb:DE K (EX1 K E) Γ Γ1 .A tb fb)(ha:DAA K (EX1 K E) Γ1 Γ2 ta fa):DE K (EX1 K E) Γ Γ2 .F (ZtT (Zi7 K n .F M) (fun _=>E) tb ta) (fun ρ=>(fb ρ).bind fun y=>(Zq4 M y).bind fun m=>(fa ρ).bind m):=fun B H0 H σ ρ F R Q A d=>by
 refine hb B H0 H σ ρ F R _ A (d.bind.imp (fun y _ d v H1 s1 r1=>?_) fun e q=>q)
 obtain⟨F1,f1,p1,A1⟩:=r1
 cases y with
 |str x =>
  cases hM:M.lookup x with
  |none =>
   rw[show Zq4 M (.str x)=.bad by simp only[Zq4,hM]] at d
   exact d.elim
  |some m =>
   refine⟨x,spF K n .F (W1 K) m,p1,by simp[Zi7,hM], ?_⟩
   refine Zfa (m:=m) hn ha B H0 H1 σ ρ F1 R Q A1 ?_
   rw[JS hM] at d
   exact d.imp (fun z _ q w H2 s2 r2=>q w H2 (s1.trans s2) (r2.shift s1 f1)) fun e q=>q
 |_=>exact d.elim
end
def Zqp(K:W.Frag)(mg:Str->Option Value)(nm:Str)(xs:List Str):Prop:=
 ∃a o its n,mg nm=some (.ref a)/\K.lookup a=some o/\o.cls=.type "tuple"/\o.data=.seq its n/\its.size<=sizeLine/\Jk (xs.map V.str) its.toList
def Zsk(K:W.Frag)(a:Addr)(xs:List Str):Prop:=∀H,SqT K H a (xs.map V.str)
theorem Zqp.at{K:W.Frag}{mg:Str->Option Value}{nm:Str}{xs:List Str}(h:Zqp K mg nm xs):∃a,mg nm=some (.ref a)/\Zsk K a xs:=by
 obtain⟨a,o,its,n,h1,h2,h3,h4,h5,h6⟩:=h
 exact⟨a,h1,fun H=>.inr ⟨o,its,n,h2,h3,h4,h5,h6⟩⟩
noncomputable def Ztb(xs:List Str)(g:Bool->Bool)(y:PV):Rr PV:=match y with
 |.str x=>if PyData.canLay0 (.str x)=true then .ok (.bl (g (xs.any (·==x)))) else .bad
 |_=>.bad
theorem Zg9{xs:List Str}{g:Bool->Bool}{x:Str}(h:PyData.canLay0 (.str x)=true):Ztb xs g (.str x)=.ok (.bl (g (xs.any (·==x)))):=if_pos h
section
variable {K:W.Frag}{EX:PX->Hp->Prop}{Γ Γ1:List Md}{tb:TE}{fb:List PV->Rr PV}{g:Bool->Bool}{a:Addr}{xs:List Str}
theorem Zfq{H:Hp}{S:Addr->Prop}:∀xs:List Str,Reps K H S (xs.map PV.str) (xs.map V.str)
 |[]=>rfl
 |x::xs=>⟨_,_,rfl,rfl,Zfq xs⟩
theorem Zly(hk:Zsk K a xs)(hx:(xs.all fun x=>PyData.canLay0 (.str x))=true)(hb:DE K EX Γ Γ1 .A tb fb):DE K EX Γ Γ1 .P (tOp (ZsN K g) tb (tC (.ref a))) (fun ρ=>(fb ρ).bind fun y=>Ztb xs g y):=fun B H0 H σ ρ F R Q A d=>by
 refine hb B H0 H σ ρ F R _ A (d.bind.imp (fun y _ d v H1 s1 r1=>?_) fun e q=>q)
 obtain⟨F1,f1,p1,A1⟩:=r1
 cases y with
 |str x =>
  unfold Ztb at d
  by_cases c:PyData.canLay0 (.str x)=true
  ·simp only[if_pos c] at d
   refine⟨.str x,xs.map PV.str,a,xs.map V.str,p1,rfl,.inr (hk H1),Zfq xs, ?_, ?_, ?_⟩
   ·simp only[okE,PV.noX,PV.dat,c];rfl
   ·rw[Z4U,Z36]
    intro z hz
    have:=Z36.mp hx z hz
    simp only[Function.comp,okE,PV.noX,PV.dat,this];rfl
   ·have e:((xs.map PV.str).any fun q=>PyData.eqv q.dat (PV.str x).dat)=xs.any (·==x):=by
     rw[List.any_map]
     congr 1
    rw[e]
    exact d _ H1 s1 ⟨F1,f1,rfl,rfl,A1⟩
  ·simp only[if_neg c] at d;exact d.elim
 |_=>exact d.elim
end
noncomputable def ZjH(K:W.Frag)(nm:Str):Option (Addr×Array DictEntry):=match PySem.W.nsIn K mainGlobals nm with
 |some (some (.ref a))=>match K.lookup a with
  |some ⟨.type n,none,.dict es _,sl⟩=>if (n == "dict" && sl.isEmpty&&!(a==sysModules))=true then some (a,es) else none
  |_=>none
 |_=>none
noncomputable def Zop:Value->Option Str
 |.str x _=>some x
 |_=>none
noncomputable def Zq0(es:Array DictEntry)(x:Str):Option Addr:=match es.find? (fun e=>Value.isStrOf x e.key) with
 |some ⟨_,_,.ref g⟩=>some g
 |_=>none
noncomputable def ZtR(K:W.Frag)(nm:Str)(ws:List Str)(L:List (Str×Str)):Bool:=match ZjH K nm with
 |some (_,es)=>decide (es.toList.map (fun e=>Zop e.key)=ws.map some)&&(es.toList.all fun e=>match e.val with|.ref _=>true|_=>false) &&
  L.all fun q=>match Zq0 es q.1,PySem.W.nsIn K mainGlobals q.2 with
   |some f,some (some (.ref g))=>f==g
   |_,_=>false
 |none=>false
noncomputable def ZtQ(K:W.Frag)(nm:Str):List Int:=match ZjH K nm with
 |some (_,es)=>es.toList.map (·.hash)
 |none=>[]
noncomputable def ZtP(p:Params)(K:W.Frag)(nm:Str):List Int:=match ZjH K nm with
 |some (_,es)=>es.toList.map fun e=>match e.key with|.str x _=>PyData.keyHash p x|_=>0
 |none=>[]
theorem Zq3{p:Params}{K:W.Frag}{mg:Str->Option Value}{nm:Str}{ws:List Str}{L:List (Str×Str)}(hb:ZtR K nm ws L=true)(hh:ZtQ K nm=ZtP p K nm)(hm:∀n C,ZdQ K n C->mg n=some (.ref C)):Tel p K mg nm ws L:=by
 unfold ZtR at hb
 unfold ZtQ ZtP at hh
 cases ht:ZjH K nm with
 |none=>rw[ht] at hb;cases hb
 |some q =>
  obtain⟨a,es⟩:=q
  rw[ht] at hb hh
  simp only[Bool.and_eq_true,decide_eq_true_eq] at hb
  obtain⟨⟨b1,b2⟩,b3⟩:=hb
  dsimp only at hh
  unfold ZjH at ht
  split at ht
  ·rename_i a' hns
   split at ht
   ·rename_i n es' ep sl hk
    split at ht
    ·rename_i hc
     cases ht
     simp only[Bool.and_eq_true,Bool.not_eq_true',beq_iff_eq] at hc
     obtain⟨⟨c1,c2⟩,c3⟩:=hc
     subst c1
     have keys:∀e∈es,∃x t,e.key=.str x t:=fun e he=>by
      have:Zop e.key∈es.toList.map (fun e=>Zop e.key):=Z3G.mpr ⟨e,by simpa using he,rfl⟩
      rw[b1] at this
      obtain⟨x,_,hx⟩:=Z3G.mp this
      unfold Zop at hx
      split at hx
      ·exact⟨_,_,by assumption⟩
      ·cases hx
     have look:∀x,findBy Value.isStrOf es x=(Zq0 es x).map Value.ref:=fun x=>by
      unfold findBy Zq0
      cases hf:es.find? (fun e=>Value.isStrOf x e.key) with
      |none=>rfl
      |some e =>
       have he:=Array.mem_of_find?_eq_some hf
       have:=Z36.mp b2 e (by simpa using he)
       obtain⟨eh,ek,ev⟩:=e
       cases ev<;>first|rfl|(cases this;done)
     refine⟨a,Zq0 es,hm _ _ hns,⟨by simpa using c3,_,es,ep,hk,⟨rfl,rfl,by simpa using c2⟩,rfl,fun e he=>?_,look⟩,fun x=>?_,fun x n hx=>?_⟩
     ·obtain⟨x,t,e1⟩:=keys e he
      refine⟨x,t,e1, ?_⟩
      obtain⟨i,hi,rfl⟩:=List.getElem_of_mem (show e∈es.toList by simpa using he)
      have:=congrArg (fun l=>l[i]?) hh
      simp only[Z3A,Z3r hi,Z4V,e1,Option.some.injEq] at this
      exact this
     ·have h1:(Zq0 es x).isSome=(findBy Value.isStrOf es x).isSome:=by rw[look,Z4s]
      rw[h1]
      unfold findBy
      rw[Z4s,<- Array.find?_toList,Bool.eq_iff_iff,List.find?_isSome,Z3L]
      constructor
      ·rintro⟨e,he,hx⟩
       have h2:Zop e.key∈ws.map some:=by rw[<- b1];exact Z3G.mpr ⟨e,he,rfl⟩
       obtain⟨y,hy,h2⟩:=Z3G.mp h2
       obtain⟨z,t,e1⟩:=keys e (by simpa using he)
       rw[e1] at h2 hx
       cases h2
       rw[<- eq_of_beq (show (y==x)=true from hx)];exact hy
      ·intro hx
       have h2:some x∈es.toList.map (fun e=>Zop e.key):=by rw[b1];exact Z3G.mpr ⟨x,hx,rfl⟩
       obtain⟨e,he,h2⟩:=Z3G.mp h2
       obtain⟨z,t,e1⟩:=keys e (by simpa using he)
       rw[e1] at h2
       cases h2
       exact⟨e,he,by rw[e1];exact beq_self_eq_true _⟩
     ·have:=Z36.mp b3 (x,n) hx
      dsimp only at this
      split at this
      ·rename_i f g h1 h2
       exact⟨f,h1,by rw[eq_of_beq this];exact hm _ _ h2⟩
      ·cases this
    ·cases ht
   ·cases ht
  ·cases ht
noncomputable def ZtM(K:W.Frag)(nm:Str)(xs:List Str):Bool:=match PySem.W.nsIn K mainGlobals nm with
 |some (some (.ref a))=>match K.lookup a with
  |some ⟨.type n,_,.seq its _,_⟩=>n == "tuple" && decide (its.size<=1000)&&decide (its.toList.map Zop=xs.map some)
  |_=>false
 |_=>false
theorem ZjD{K:W.Frag}{mg:Str->Option Value}{nm:Str}{xs:List Str}(hb:ZtM K nm xs=true)(hm:∀n C,ZdQ K n C->mg n=some (.ref C)):Zqp K mg nm xs:=by
 unfold ZtM at hb
 split at hb
 ·rename_i a hns
  split at hb
  ·rename_i n d its m sl hk
   simp only[Bool.and_eq_true,decide_eq_true_eq,beq_iff_eq] at hb
   obtain⟨⟨c1,c2⟩,c3⟩:=hb
   subst c1
   refine⟨a,_,its,m,hm _ _ hns,hk,rfl,rfl,Z33 c2 (by decide), ?_⟩
   generalize its.toList=l at c3
   clear hk hns c2
   induction xs generalizing l with
   |nil=>cases l with
    |nil=>exact .nil
    |cons _ _=>cases c3
   |cons x xs ih=>cases l with
    |nil=>cases c3
    |cons u us =>
     simp only[Z31,List.cons.injEq] at c3
     refine .cons ?_ (ih us c3.2)
     have:=c3.1
     unfold Zop at this
     split at this
     ·cases this;exact⟨_,rfl⟩
     ·cases this
  ·cases hb
 ·cases hb
noncomputable def ZjK(tk tv:TE):TE:=fun σ H Q=>∀p,H p=none->tk σ (upd H p (.dT [])) fun x H1=>tv σ H1 fun y H2=>∃b k,x=.ref b/\H2 b=some (.tup (k.map kV))/\H2 p=some (.dT [])/\Q (.ref p) (upd H2 p (.dT [(k,y)]))
theorem Zkk{X:Cx}{pos:Pos}{e v:Expr}{tk tv:TE}(hu:X.A.units+1<cLine)(hk:PE X e tk)(hv:PE X v tv):PE X (.Dict [some e] [v] pos) (ZjK tk tv):=by
 intro pins s σ H Q I q
 have hn:=I.hok.fresh (Z3u s.heap.objs.size)
 have I1:=I.laid (a:=s.heap.objs.size) (o:=.dT []) (h':=s.heap.push { cls:=.type "dict",data:=.dict #[] }) (t':=s.toks) (fun _ _ q=>Heap.get?_push_of_some _ q) (Z3u _) (Znj s.heap I.big)
 have hp:=Zmp (pos:=pos) hk hv ZoS
 refine wpAny_Dict_any rfl rfl (by simp) (by simp) (thn (hp pins _ σ _ (fun ps H2=>∃x y,ps=[(x,y)]/\∃b k,x=.ref b/\H2 b=some (.tup (k.map kV))/\H2 s.heap.objs.size=some (.dT [])/\Q (.ref s.heap.objs.size) (upd H2 s.heap.objs.size (.dT [(k,y)]))) I1 ?_) fun ws s2 ⟨ps,H2,I2,rel,x,y,ep,b,kk,ex,eb,e,q2⟩=>?_)
 ·have:=q _ hn
  show Zh6 [(tk,tv)] σ _ _
  unfold Zh6
  refine cast (congrArg (fun f=>tk σ (upd H s.heap.objs.size (.dT [])) f) (funext fun x=>funext fun H1=>congrArg (fun f=>tv σ H1 f) (funext fun y=>funext fun H2=>propext ⟨fun z=>⟨x,y,rfl,z⟩,fun⟨x',y',e',z⟩=>by cases e';exact z⟩))) this
 subst ep ex
 rcases ws with _|⟨⟨uk,uv⟩,ws⟩
 ·cases rel
 cases rel with
 |cons r1 r2 =>
  cases r2
  obtain⟨rk,rv⟩:=r1
  have ek:uk=Value.ref b:=rk
  subst ek
  obtain⟨z,hd,xs,rl,dd⟩:=ZrD I2.hok e
  cases rl
  show wpAny _ _ (forIn [(Value.ref b,uv)] PUnit.unit _) _ _ s2
  rw[List.forIn_cons]
  refine wpAny_bind (wpAny_bind (wpAny_dictSet_heap (hsz:=Z4p _) (show X.A.units<cLine by omega) (ZfG I2.hok eb) dd fun h' dd' hs=>wpAny_pure ?_))
  dsimp only
  rw[List.forIn_nil]
  refine wpAny_pure ⟨.ref s.heap.objs.size,_, ?_,rfl,q2⟩
  obtain⟨qo,es,ep,hq,h2,h3,h4,_,h5⟩:=dd'
  refine Zhl I2 (by rw[e];exact True.intro) hs ⟨qo,hq⟩ ⟨?_,hd,_, ?_,qo,es,ep,hq,h2,h3,h4,h5⟩
  ·show 1<=sizeLine
   decide
  ·refine .cons ⟨rfl, ?_,rv⟩ .nil
   show upd H2 s.heap.objs.size _ b=_
   rw[Z4 (Zpp eb e (fun z=>nomatch z))]
   exact eb
section
variable {K:W.Frag}{B:Addr->Prop}{EX:PX->Hp->Prop}{H0 H:Hp}{σ:St}{Γ Γ1 Γ2:List Md}{ρ:List PV}{F:Nat->List Addr}{R:List Addr}{ta tb:TE}{fa fb:List PV->Rr PV}{k:Kd}
noncomputable def Zod(y z:PV):Rr PV:=match y with
 |.tup ys=>match Zb2 ys with
  |some k=>.ok (.box none (.dt [k]) [z])
  |none=>.bad
 |_=>.bad
theorem Zlz(ha:DE K EX Γ Γ1 .A ta fa)(hb:DE K EX Γ1 Γ2 .P tb fb):DE K EX Γ Γ2 .F (ZjK ta tb) (fun ρ=>(fa ρ).bind fun y=>(fb ρ).bind fun z=>Zod y z):=fun B H0 H σ ρ F R Q A d p hp=>by
 have A0:=A.newB (u:=.dT []) trivial hp
 have s0:ZL H (upd H p (.dT [])):=ZL.new hp
 refine ha B H0 _ σ ρ F (p::R) _ A0 (d.bind.imp (fun y _ d w H1 s1 r1=>?_) fun e q=>q)
 obtain⟨F1,f1,p1,A1⟩:=r1
 refine hb B H0 H1 σ ρ F1 (p::R) _ A1 (d.bind.imp (fun z _ d v H2 s2 r2=>?_) fun e q=>q)
 obtain⟨F2,f2,z1,z2,A2⟩:=r2
 have p1':=p1.same s2
 unfold Zod at d
 split at d
 ·rename_i ys
  split at d
  ·rename_i kk ek
   rw[Zb1 ek] at p1'
   obtain⟨b,ws,rfl,hb,hws⟩:=p1'
   rw[QL hws] at hb
   have hH:H2 p=some (.dT []):=s2 _ _ (s1 _ _ ZX)
   refine⟨b,kk,rfl,hb.1,hH, ?_⟩
   have hpR:p ∉ R:=fun q=>by obtain⟨u,e⟩:=A.liveR p q;rw[hp] at e;cases e
   have hpF:∀i,p ∉ F i:=fun i q=>by obtain⟨u,e⟩:=A.live i p q;rw[hp] at e;cases e
   have AR:Ag K B H0 (upd H2 p (.dT [(kk,v)])) σ Γ2 ρ F2 (p::R):=by
    refine⟨fun c o e=>?_,A2.own,A2.young,A2.youngR,fun i c hc=>?_,fun c hc=>?_,A2.disj,A2.disjR,A2.lenS,A2.lenR,fun i=>?_⟩
    ·rw[Z4 (fun z=>by rw[z] at e;have:=A2.youngR p (by simp);rw[e] at this;cases this)];exact A2.same c o e
    ·rw[Z4 (fun z=>by rw[z] at hc;exact A2.disjR i p hc (by simp))];exact A2.live i c hc
    ·by_cases q:c=p
     ·exact⟨⟨.dT [(kk,v)],trivial⟩,by rw[q,ZX]⟩
     ·rw[Z4 q];exact A2.liveR c hc
    ·refine(A2.slot i).mono (fun c us s r=>⟨?_,s⟩) (fun c us r=>Im.putL (us:=⟨.dT [],trivial⟩) hH r) fun c hc us q=>?_
     ·have hne:c≠p:=fun z=>s.2.1 (by rw[z];simp)
      rcases r with r|⟨o',r⟩
      ·exact .inl (by rw[Z4 hne];exact r)
      ·exact .inr ⟨o',by rw[Z4 hne];exact r⟩
     ·have hne:c≠p:=fun z=>A2.disjR i c hc (by rw[z];simp)
      rw[Z4 hne];exact q
   have sm:ZL H (upd H2 p (.dT [(kk,v)])):=fun c o e=>by
    rw[Z4 (ZS e hp)];exact s2 _ _ (s1 _ _ (s0 _ _ e))
   refine d _ _ sm ⟨F2,fun i a h=>f1 i a (f2 i a h),[p],⟨p,[v],_,[],rfl,ZX,⟨trivial,rfl,rfl⟩, ?_,by simp,rfl⟩,fun a ha=>?_,AR⟩
   ·exact⟨v,[],[],[],rfl,Vd.mono (fun a ha=>by cases ha) (fun c us r=>Im.putL (us:=⟨.dT [],trivial⟩) hH r) (z2.tree z1),⟨rfl,rfl⟩,by simp,rfl⟩
   ·rw[Z38.mp ha];exact⟨hpR,.inl hp⟩
  ·exact d.elim
 ·exact d.elim
end
section
variable {X:Cx}{K:W.Frag}
def ZjZ(K:W.Frag):List V->Hp->VK->Prop:=fun xs H Q=>∃p ys,xs=[.ref p]/\((SqL K H p ys/\∀l,H l=none->Q (.ref l) (upd H l (.tup ys)))\/(SqT K H p ys/\Q (.ref p) H))
theorem Vt(e:X.K=K:=by rfl):Vu X (.type "tuple") (ZjZ K):=by subst e;exact ZeU
theorem Ui:bootBuiltins "tuple"=some (.type "tuple"):=by decide +kernel
end
section
variable {K:W.Frag}{B:Addr->Prop}{EX:PX->Hp->Prop}{H0 H:Hp}{σ:St}{Γ Γ':List Md}{ρ:List PV}{F:Nat->List Addr}{R:List Addr}{ta:TA}{fa:List PV->Rr (List PV)}{k:Kd}
noncomputable def ZnQ(xs:List PV):Rr PV:=match xs with
 |[.lst ys]=>.ok (.tup ys)
 |[.tup ys]=>.ok (.tup ys)
 |_=>.bad
theorem ZeO(ha:DAA K EX Γ Γ' ta fa):DE K EX Γ Γ' .A (tCB (ZjZ K) ta) (fun ρ=>(fa ρ).bind ZnQ):=fun B H0 H σ ρ F R Q A d=>by
 refine ha B H0 H σ ρ F R _ A (d.bind.imp (fun xs _ d vs H1 F1 s1 f1 p1 A1=>?_) fun e q=>q)
 unfold ZnQ at d
 split at d
 ·obtain⟨v,rfl,a,ws,rfl,hn,hr⟩:=UB p1
  refine⟨a,ws,rfl,.inl ⟨Ut (S:=fun _=>True) hn,fun l hl=>?_⟩⟩
  have e:=ZL.new (H:=H1) (o:=.tup ws) hl
  exact d _ _ (s1.trans e) ⟨F1,f1,⟨l,ws,rfl,⟨ZX,trivial⟩,hr.same e⟩,A1.grow e⟩
 ·obtain⟨v,rfl,a,ws,rfl,hn,hr⟩:=UB p1
  exact⟨a,ws,rfl,.inr ⟨hn.sqT,d _ _ s1 ⟨F1,f1,⟨a,ws,rfl,hn,hr⟩,A1⟩⟩⟩
 ·exact d.elim
noncomputable def Zq9:TE:=fun _ _ _=>False
theorem Zkj{X:Cx}{e:Expr}:PE X e Zq9:=fun _ _ _ _ _ _ h=>h.elim
theorem Zlw:DE K EX Γ Γ k Zq9 (fun _=>.bad):=fun _ _ _ _ _ _ _ _ _ d=>d.elim
end
noncomputable def ins{α:Type}:Nat->α->List α->List α
 |0,v,us=>v::us
 |_+1,v,[]=>[v]
 |j+1,v,u::us=>u::ins j v us
section
variable {K:W.Frag}{H:Hp}
theorem Vd.pin{p:Option Addr}{s:Sh}{ys:List PV}{a:Addr}{G:List Addr}(h:Vd K H (.box p s ys) (.ref a) G):Vd K H (.box (some a) s ys) (.ref a) G:=by
 obtain⟨a',vs,u,G',e,h1,h2,h3⟩:=h
 cases e
 exact⟨a,vs,u,G',rfl,h1,⟨rfl,h2.2⟩,h3⟩
theorem Vd.pinned{b:Addr}{s:Sh}{ys:List PV}{v:V}{G:List Addr}(h:Vd K H (.box (some b) s ys) v G):v=.ref b:=by
 obtain⟨a',vs,u,G',e,h1,h2,h3⟩:=h
 rw[e,show a'=b from h2.1]
end
noncomputable def RS.outN(j:Nat)(r:RS):Rr PV:=match r with
 |.next ρ=>.ok (.tup [.non,gv j ρ])
 |.ret x=>.ok x
 |.exc e=>.exc e
 |_=>.bad
section
end
theorem bind_ok{α β:Type}{r:Rr α}{g:α->Rr β}{y:β}(h:r.bind g=.ok y):∃x,r=.ok x/\g x=.ok y:=by
 cases r with
 |ok x=>exact⟨x,rfl,h⟩
 |exc e=>cases h
 |bad=>cases h
section
end
theorem hu1{n c:Nat}(h:n+64<c):n+1<c:=by omega
@[simp] theorem RS.outN_ret{j:Nat}{x:PV}:(RS.ret x).outN j=.ok x:=rfl
@[simp] theorem RS.outN_next{j:Nat}{ρ:List PV}:(RS.next ρ).outN j=.ok (.tup [.non,gv j ρ]):=rfl
section
end
noncomputable def evK{α:Type}(lt:Nat->Nat->Bool):PySem.W.KasT α->α
 |.ret a=>a
 |.ask i j k=>evK lt (k (lt i j))
noncomputable def InK{α:Type}(n:Nat)(P:α->Prop):PySem.W.KasT α->Prop
 |.ret a=>P a
 |.ask i j k=>i<n/\j<n/\∀b,InK n P (k b)
section
variable {α β:Type}{n:Nat}{P:α->Prop}{R:β->Prop}
theorem InK.bind{f:α->PySem.W.KasT β}:∀{t:PySem.W.KasT α},InK n P t->(∀a,P a->InK n R (f a))->InK n R (t.bind f)
 |.ret a,h,k=>k a h
 |.ask i j c,h,k=>⟨h.1,h.2.1,fun b=>InK.bind (h.2.2 b) k⟩
theorem InK.out{lt:Nat->Nat->Bool}:∀{t:PySem.W.KasT α},InK n P t->P (evK lt t)
 |.ret a,h=>h
 |.ask i j c,h=>(InK.out (t:=c (lt i j)) (h.2.2 (lt i j)):P (evK lt (c (lt i j))))
theorem InK.wp{lt:Nat->Nat->Bool}{s:Shared}{cmp:Nat->Nat->(Bool->Shared->Prop)->Shared->Prop}(hc:∀i j C,i<n->j<n->C (lt i j) s->cmp i j C s){G:α->Shared->Prop} :
  ∀{t:PySem.W.KasT α},InK n P t->G (evK lt t) s->t.kasWp cmp G s
 |.ret a,_,g=>g
 |.ask i j c,h,g=>hc i j _ h.1 h.2.1 (InK.wp hc (h.2.2 (lt i j)) g)
end
def Gp(n:Nat)(p:Array Nat):Prop:=p.Perm (List.toArray (List.range n))
theorem Gp.lt{n:Nat}{p:Array Nat}(h:Gp n p)(hn:0<n)(k:Nat):p.getD k 0<n:=by
 unfold Array.getD
 split
 ·rename_i hk
  have:p[k]∈List.toArray (List.range n):=h.mem_iff.mp (Array.getElem_mem hk)
  simpa using this
 ·exact hn
section
end
noncomputable def ZtL(t:List Int):PV:=.tup (t.map PV.int)
section
end
mutual
noncomputable def Zp4:PV->PV
 |.lst xs=>.fz (frzPs xs)
 |.tup xs=>.tup (frzPs xs)
 |.fz xs=>.fz (frzPs xs)
 |.non=>.non
 |.bl b=>.bl b
 |.int i=>.int i
 |.str x=>.str x
 |.exc n=>.exc n
 |.exa n i=>.exa n i
 |.box p s xs=>.box p s xs
noncomputable def frzPs:List PV->List PV
 |[]=>[]
 |x::xs=>Zp4 x::frzPs xs
end
def Zn5(G:List Addr)(H H2:Hp):Prop:=(∀a,a ∉ G->H2 a=H a)/\∀a∈G,∀vs,H a=some (.lst vs)->∃o,H2 a=some (.frz o (.lst vs))
def Zs9(H:Hp)(G:List Addr):Prop:=∀a∈G,∃vs,H a=some (.lst vs)
section
variable {K:W.Frag}{H H2:Hp}{G':List Addr}
theorem Im.frzTo(hL:Zs9 H G')(h:Zn5 G' H H2){a:Addr}{u:HO}(i:Im K H a u):Im K H2 a u:=by
 have hn:a ∉ G':=fun z=>by
  obtain⟨vs,e⟩:=hL a z
  rw[i.1] at e;cases e;exact i.2
 exact⟨by rw[h.1 a hn];exact i.1,i.2⟩
mutual
theorem Vd.frz(hL:Zs9 H G')(hF:Zn5 G' H H2):∀{x:PV}{v:V}{G:List Addr},(Zp4 x).flat=true->Vd K H x v G->(∀a∈G,a∈G')->Vd K H2 (Zp4 x) v []
 |.non,_,_,_,h,_=>⟨h.1,rfl⟩
 |.bl _,_,_,_,h,_=>⟨h.1,rfl⟩
 |.int _,_,_,_,h,_=>⟨h.1,rfl⟩
 |.str _,_,_,_,h,_=>⟨h.1,rfl⟩
 |.exc n,_,_,_,h,_=>let ⟨a,o,C,e1,e2,e3⟩:=h.1;⟨⟨a,o,C,e1,Im.frzTo hL hF e2,e3⟩,rfl⟩
 |.exa n i,_,_,_,h,_=>let ⟨a,o,C,d,fs,e1,e2,e2',e3⟩:=h.1;⟨⟨a,o,C,d,fs,e1,Im.frzTo hL hF e2,Im.frzTo hL hF e2',e3⟩,rfl⟩
 |.box _ _ _,_,_,f,_,_=>by simp[Zp4,PV.flat] at f
 |.lst xs,_,_,f,h,hG=>by
  obtain⟨a,vs,G,rfl,ha,ht,hn,rfl⟩:=h
  obtain⟨o,e⟩:=hF.2 a (hG a (by simp)) vs ha
  exact⟨a,vs,rfl,⟨o,e,trivial⟩,Trees.frz hL hF (by simpa[Zp4,PV.flat] using f) ht fun b hb=>hG b (by simp[hb])⟩
 |.tup xs,_,_,f,h,hG=>by
  obtain⟨a,vs,rfl,ha,ht⟩:=h
  exact⟨a,vs,rfl,Im.frzTo hL hF ha,Trees.frz hL hF (by simpa[Zp4,PV.flat] using f) ht hG⟩
 |.fz xs,_,_,f,h,hG=>by
  obtain⟨a,vs,rfl,⟨o,ha⟩,ht⟩:=h
  exact⟨a,vs,rfl,⟨o,Im.frzTo hL hF ha⟩,Trees.frz hL hF (by simpa[Zp4,PV.flat] using f) ht hG⟩
theorem Trees.frz(hL:Zs9 H G')(hF:Zn5 G' H H2):∀{xs:List PV}{vs:List V}{G:List Addr},PV.flats (frzPs xs)=true->Trees K H xs vs G->(∀a∈G,a∈G')->Trees K H2 (frzPs xs) vs []
 |[],_,_,_,h,_=>⟨h.1,rfl⟩
 |x::xs,_,_,f,h,hG=>by
  obtain⟨v,r,G1,G2,rfl,h3,h4,hd,rfl⟩:=h
  simp only[frzPs,PV.flats,Bool.and_eq_true] at f
  exact⟨v,r,[],[],rfl,Vd.frz hL hF f.1 h3 fun a ha=>hG a (by simp[ha]),Trees.frz hL hF f.2 h4 fun a ha=>hG a (by simp[ha]),by simp,rfl⟩
end
end
section
variable {K:W.Frag}{B:Addr->Prop}{H0 H H2:Hp}{σ:St}{Γ:List Md}{ρ:List PV}{F:Nat->List Addr}{R G:List Addr}
theorem Ag.frzTo(A:Ag K B H0 H σ Γ ρ F (G++R))(hL:Zs9 H G)(h:Zn5 G H H2)(hR:∀a∈R,a ∉ G):Ag K B H0 H2 σ Γ ρ F R:=by
 have nG:∀{a},a ∉ G->H2 a=H a:=fun {a} z=>h.1 a z
 refine⟨fun a o e=>?_,A.own,A.young,fun a ha=>A.youngR a (by simp[ha]),fun i a ha=>?_,fun a ha=>?_,A.disj,fun i a ha z=>A.disjR i a ha (by simp[z]),A.lenS,A.lenR,fun i=>?_⟩
 ·rw[nG fun z=>by rw[A.youngR a (by simp[z])] at e;cases e]
  exact A.same a o e
 ·rw[nG fun z=>A.disjR i a ha (by simp[z])];exact A.live i a ha
 ·rw[nG (hR a ha)];exact A.liveR a (by simp[ha])
 ·refine(A.slot i).mono (fun a u s r=>⟨?_,s.1,fun z=>s.2.1 (by simp[z]),s.2.2⟩) (fun a u r=>Im.frzTo hL h r) fun a ha u q=>?_
  ·have:=nG (a:=a) fun z=>s.2.1 (by simp[z])
   rcases r with r|⟨o,r⟩
   ·exact .inl (by rw[this];exact r)
   ·exact .inr ⟨o,by rw[this];exact r⟩
  ·rw[nG fun z=>A.disjR i a ha (by simp[z])];exact q
end
section
variable {K:W.Frag}{EX:PX->Hp->Prop}{Γ Γ':List Md}{te:TE}{f:List PV->Rr PV}
noncomputable def ZsT(x:PV):Rr PV:=match x with
 |.lst ys=>.ok (.tup ys)
 |_=>.bad
theorem ZfR(he:DE K EX Γ Γ' .F te f):DE K EX Γ Γ' .F (tCB (ZjZ K) (Zds te Zj3)) (fun ρ=>(f ρ).bind ZsT):=fun B H0 H σ ρ F R Q A d=>by
 refine he B H0 H σ ρ F R _ A (d.bind.imp (fun x _ d v H1 s1 r=>?_) fun e q=>q)
 obtain⟨F1,f1,G,ht,hG,A1⟩:=r
 cases x with
 |lst ys =>
  obtain⟨a,vs,G',rfl,ha,hts,hn,rfl⟩:=ht
  refine⟨a,vs,rfl,.inl ⟨.inl (.inl ha),fun l hl=>?_⟩⟩
  have e:=ZL.new (H:=H1) (o:=.tup vs) hl
  refine d _ _ (s1.trans e) ⟨F1,f1,G',⟨l,vs,rfl,⟨ZX,trivial⟩,hts.same e⟩,fun b hb=>hG b (Z39 _ hb),(A1.less fun b hb=>?_).grow e⟩
  rcases Z3q.mp hb with z|z
  ·simp[z]
  ·simp[z]
 |_=>exact d.elim
noncomputable def ZsQ(x:PV):Rr (List PV):=match x with
 |.tup [a,b]=>.ok [a,b]
 |_=>.bad
theorem Zjp{i:Nat}(hm:Γ[i]?=some .O):DAF K EX Γ (Γ.set i .U) (Zds (tOp (rIx K) (Zj2 i) (tC (.int 0))) (Zds (tOp (rIx K) (Zj2 i) (tC (.int 1))) Zj3)) (fun ρ=>ZsQ (gv i ρ)):=fun B H0 H σ ρ F R Q A d=>by
 obtain⟨v,h1,ht⟩:=A.getO hm
 have hd:∃a b,gv i ρ=.tup [a,b]:=by
  dsimp only at d
  unfold ZsQ at d
  split at d
  ·rename_i a b h;exact⟨a,b,h⟩
  ·exact d.elim
 obtain⟨x,y,e⟩:=hd
 dsimp only at d
 rw[show ZsQ (gv i ρ)=.ok [x,y] by rw[e];rfl] at d
 unfold gv at e
 rw[e] at ht
 obtain⟨a,vs,rfl,ha,v1,r,G1,G2,rfl,t1,⟨v2,r',G3,G4,rfl,t2,⟨rfl,rfl⟩,d2,rfl⟩,d1,hF⟩:=ht
 have sq:SqT K H a [v1,v2]:=ha.sqT
 refine⟨_,h1,.inr (.inl ⟨a,_,0,v1,rfl,rfl,sq,rfl,⟨_,h1,.inr (.inl ⟨a,_,1,v2,rfl,rfl,sq,rfl, ?_⟩)⟩⟩)⟩
 refine(show ∀vs H' F' G,_ from d) [v1,v2] H (ZbI F i []) (F i) (ZL.refl H) (fun j a ha=>QO j a ha) ?_ (fun a ha=>⟨fun z=>A.disjR i a ha z,.inr ⟨i,ha⟩⟩) (A.move hm)
 exact⟨v1,[v2],G1,G3++[],rfl,t1,⟨v2,[],G3,[],rfl,t2,⟨rfl,rfl⟩,d2,rfl⟩,d1,hF⟩
end
def Zu1(P:Program)(w:World)(K:W.Frag)(mg:Str->Option Value)(base:Heap)(f:Addr)(n:Str):Prop:=
 ∀(A:Around) (outer:List Env) (s:Shared) (H:Hp) (u:Value),A.depth<recursionLimit->ZoB P w K mg base A outer s H ->
  codeAny (model P w) A (.call (.ref f) ⟨[u],[]⟩) (CR CX0 outer P w H s (fun v H'=>v=.str n/\H'=H) E0) s
theorem ZcJ{P:Program}{w:World}{K:W.Frag}{mg:Str->Option Value}{base:Heap}{x qual n:Str}{st:Stmt}{f:Addr}{fd:FuncData}{j:_}{p q:Pos}(F:Fun K x qual st f fd)(S:Zr ["self"] ["self"] (Zm st))(B:ZeY K fd ["self"] [])(hb:Vr st=[.Return (some (.Constant (.str n) j p)) q]):Zu1 P w K mg base f n:=by
 obtain⟨oc,od,kV,doc,pm,an,cdv,ct,osl,rfl,lk,hcd⟩:=F.ex
 intro A outer s H u hd e0
 have KX:K.In s.heap:=e0.mod.kin.keeps fun b o e=>(e0.bs b o e).1
 have lim:s.heap.NoLimit:=e0.mod.nolimit.keeps fun b o e=>(e0.bs b o e).1
 have hkind:∀y∈(["self"]:List Str).zip [u],(Zm st).names.lookup y.1=some .local\/((Zm st).names.lookup y.1=some .cell/\((cellsFrom (s.heap.objs.size+1) (Zm st).names []).lookup y.1).isSome=true):=fun⟨n,v⟩ hy=>by
  rcases S.par n (Z4I hy).1 with q|q
  ·exact .inl q
  ·exact .inr ⟨q,PySem.W.cellsFrom_some _ _ _ (.inl q)⟩
 have hbs:=B s [u] KX rfl
 refine codeAny_call_function hd (KX _ _ lk) rfl S.co S.gen rfl (PySem.W.codeRec_of KX hcd) (hbs _ _ _ _ ?_)
 refine wpAny_newFunctionEnv_cells S.kind hkind fun env he s1 x=>?_
 subst he
 refine⟨lim.keeps x.toInCall.keep,codeAny_func ?_⟩
 obtain⟨h1,tk,rfl,hk⟩:=x.done
 rw[hb]
 refine wpAny_execs_cons (wpAny_Return_some (Calls.Constant_str ?_))
 exact⟨.str n,H,rfl,e0.bare,Un.kept hk,e0.hok.kept hk,⟨_,rfl⟩,rfl,rfl⟩
def Zi2(P:Program)(w:World)(K:W.Frag)(mg:Str->Option Value)(base:Heap)(m n:Str):Prop:=
 ∃C f,ZdQ K n C/\PySem.W.exOk K C=true/\PySem.W.findIn K (.ref C) m=some (some (.ref f))/\PySem.W.typeIn K (.ref f)=some (.type "function")/\PySem.W.keepIn K (.ref f)=true/\Zu1 P w K mg base f n
theorem ZiE{X:Cx}{L:List Str}{o:Expr}{ta:TE}{apos pos:Pos}{pl:Sem Bool}(hM:∀n∈L,Zi2 X.prog X.w X.K X.mg X.base "called" n)(hr:X.A.depth<recursionLimit)(he:PE X o ta)(ht:eval (.Call (.Attribute o "called" apos) [] [] pos) X.env=(do
   let ov <- eval o X.env
   standAt apos.atName
   let (f,first) <- holding [ov] (getMethod ov "called" pl)
   callWith pos f first (backTo pos (starEach [] X.env)) (backToKw pos (keywordEach [] X.env))):=by rfl) :
  PE X (.Call (.Attribute o "called" apos) [] [] pos) (ZjM X.K L ta):=by
 intro pins s σ H Q I h
 refine PySem.W.methodCall_KW (pl:=pl) (thn (he pins s σ H _ I h) fun u s1 ⟨x,H1,I1,rx,n,hn,hx,q⟩=>?_) ht
 obtain⟨a,oe,C,od,rfl,h5,hI,hl⟩:=hx.inst I1
 obtain rfl:u=Value.ref a:=rx
 obtain⟨C',f,c1,c2,c3,c4,c5,c7⟩:=hM n hn
 have hCC:C'=C:=by have z:=c1.symm.trans h5;simpa using z
 subst hCC
 simp only[PySem.W.exOk,Bool.and_eq_true,beq_iff_eq] at c2
 obtain⟨⟨⟨⟨⟨⟨⟨d1,d2⟩,d3⟩,d4⟩,d5⟩,d6⟩,d7⟩,d8⟩:=c2
 refine PySem.W.method_exc I1.kIn hI d1 d2 hl c3 c4 ?_
 refine PySem.W.callWith_K0 (first:=[.ref a]) I1.kIn c5 ?_
 refine wpAny_call (codeAny_mono (c7 X.A X.stack s1 H1 (.ref a) hr I1.env0) fun r s' hq=>?_)
 cases r with
 |error e=>exact hq.elim
 |ok fl =>
  cases fl with
  |ret u =>
   refine I1.after ?_
   obtain⟨v,H',g1,g2,g3,g4,g5,rfl,rfl⟩:=hq
   exact⟨_,_,g1,g2,g3,g4,g5,q _ (ZL.refl _)⟩
  |next=>exact False.elim hq
  |brk=>exact False.elim hq
  |cont=>exact False.elim hq
def Zka:V->List V->Hp->VK->Prop:=fun x xs H Q=>∃a b,x=.str a/\xs=[.str b]/\Q (.bl (Txt.startswith a b)) H
def Zue:V->Option Int->Option Int->Hp->VK->Prop:=fun x lo hi H Q=>∃a,x=.str a/\a.length<=1000000/\Q (.str (StrLaws.sliceText a lo hi)) H
section
variable {X:Cx}
theorem Zf6:MtR X "str.startswith" Zka:=by
 intro pins s σ H x xs v us Q I rx r h
 obtain⟨a,b,rfl,rfl,q⟩:=h
 obtain⟨t,rfl⟩:=rx
 obtain⟨u,rfl,ru⟩:=Zdq r
 obtain⟨t',rfl⟩:=ru
 exact SC.startswith ⟨.bl _,H,I,rfl,q⟩
theorem Uj{pins:List (Addr×Obj)}{s:Shared}{σ:St}{H:Hp}{Q:VK}{a:Str}{t:Tok}{l u:Option (Int×Tok)}(I:Inv X pins σ H s)(hl:a.length<=1000000)(q:Q (.str (StrLaws.sliceText a (l.map (·.1)) (u.map (·.1)))) H):(sliceMade a t l u none).post (EP X pins σ Q) s:=by
 have e:StrLaws.sliceText a (l.map (·.1)) (u.map (·.1))=if ((Option.map (fun x:Int×Tok=>x.fst) none).getD 1==1&&(slicePicked a l u none).length==a.length)=true then a else { cps:=(List.filterMap (fun x_1=>a.cps[x_1]?) (slicePicked a l u none)).toArray }:=rfl
 rw[e] at q
 unfold sliceMade
 split
 ·rename_i h
  rw[if_pos h] at q
  exact⟨.str a,H,I,⟨t,rfl⟩,q⟩
 ·rename_i h
  rw[if_neg h] at q
  have h2:(StrLaws.sliceText a (l.map (·.1)) (u.map (·.1))).length<=a.length:=Txt.slice_le a _ _
  rw[e,if_neg h] at h2
  exact⟨Z33 h2 (Z33 hl (by decide)),.str _,H,I.tok _,⟨_,rfl⟩,q⟩
theorem ZqE:SlR X Zue:=by
 intro pins s σ H x v vl vu lo hi sl Q I rx hs pl pu h
 obtain⟨a,rfl,hl,q⟩:=h
 obtain⟨t,rfl⟩:=rx
 refine⟨"str",_,PySem.F.slot_str_getitem.lookup,rfl, ?_⟩
 cases pl<;>cases pu
 ·exact wpAny_getItem_str_slice (l:=none) (u:=none) (st:=none) hs rfl (Uj I hl q)
 ·exact wpAny_getItem_str_slice (l:=none) (u:=some (_,_)) (st:=none) hs rfl (Uj I hl q)
 ·exact wpAny_getItem_str_slice (l:=some (_,_)) (u:=none) (st:=none) hs rfl (Uj I hl q)
 ·exact wpAny_getItem_str_slice (l:=some (_,_)) (u:=some (_,_)) (st:=none) hs rfl (Uj I hl q)
end
noncomputable def Zg3(a:Str)(as:List PV):Rr PV:=match as with
 |[.str b]=>.ok (.bl (Txt.startswith a b))
 |_=>.bad
section
variable {K:W.Frag}{EX:PX->Hp->Prop}{Γ Γ1 Γ2 Γ3:List Md}{te:TE}{ta:TA}{f:List PV->Rr PV}{fa:List PV->Rr (List PV)}
theorem ZfS(he:DE K EX Γ Γ1 .A te f)(ha:DAA K EX Γ1 Γ2 ta fa):DE K EX Γ Γ2 .P (tBM K "str" Zka te ta) (fun ρ=>(f ρ).bind fun x=>(asS x).bind fun a=>(fa ρ).bind fun as=>Zg3 a as):=fun B H0 H σ ρ F R Q A d=>by
 refine he B H0 H σ ρ F R _ A (d.bind.imp (fun x _ d v H1 s1 r1=>?_) fun e q=>q)
 obtain⟨F1,f1,p1,A1⟩:=r1
 cases x with
 |str a =>
  cases p1
  refine⟨rfl,ha B H0 H1 σ ρ F1 R _ A1 (Dn.imp (Dn.bind d) (fun as _ d us H2 F2 s2 f2 p2 A2=>?_) fun e q=>q)⟩
  unfold Zg3 at d
  split at d
  ·rename_i b _
   obtain⟨u,rfl,hu⟩:=UB p2
   cases hu
   exact⟨a,b,rfl,rfl,d _ H2 (s1.trans s2) ⟨F2,fun i z h=>f1 i z (f2 i z h),rfl,rfl,A2⟩⟩
  ·exact d.elim
 |_=>exact d.elim
noncomputable def ZsV(x:PV)(lo hi:Option Int):Rr PV:=match x with
 |.str a=>if a.length<=1000000 then .ok (.str (StrLaws.sliceText a lo hi)) else .bad
 |_=>.bad
theorem ZrH{tl th:TO}{fl fh:List PV->Rr (Option Int)}(he:DE K EX Γ Γ1 .A te f)(hl:DO K EX Γ1 Γ2 tl fl)(hh:DO K EX Γ2 Γ3 th fh) :
  DE K EX Γ Γ3 .P (tSl Zue te tl th) (fun ρ=>(f ρ).bind fun x=>(fl ρ).bind fun lo=>(fh ρ).bind fun hi=>ZsV x lo hi):=fun B H0 H σ ρ F R Q A d=>by
 refine he B H0 H σ ρ F R _ A (d.bind.imp (fun x _ d v H1 s1 r1=>?_) fun e q=>q)
 obtain⟨F1,f1,p1,A1⟩:=r1
 refine hl B H0 H1 σ ρ F1 R _ A1 (d.bind.imp (fun lo _ d H2 F2 s2 f2 A2=>?_) fun e q=>q)
 refine hh B H0 H2 σ ρ F2 R _ A2 (d.bind.imp (fun hi _ d H3 F3 s3 f3 A3=>?_) fun e q=>q)
 cases x with
 |str a =>
  unfold ZsV at d
  by_cases c:a.length<=1000000
  ·simp only[if_pos c] at d
   exact⟨a,p1,c,d _ _ ((s1.trans s2).trans s3) ⟨F3,fun i a h=>f1 i a (f2 i a (f3 i a h)),rfl,rfl,A3⟩⟩
  ·simp only[if_neg c] at d;exact d.elim
 |_=>exact d.elim
end
theorem Zd4{e:Value}{env env':Env}(h:env'.frame=env.frame):noteFrame e env'=noteFrame e env:=by
 unfold noteFrame PySem.frameOf;rw[h]
section
variable {M:Model}{A:Around}{E:Value->Shared->Prop}{s:Shared}
theorem ZgI{base:Heap}{env:Env}{outer:List Env}{L e:Addr}{cls a0 fl:Value}{Q:Unit->Shared->Prop}(hfr:A.frames=some (env::outer))(hf:env.frame=some L)(hkb:base.StaysIn s.heap)(hen:base.get? e=none)(hl:s.heap.FunFrames base (env::outer))(ht:s.heap.TracedAtW base e cls a0 fl)(hQ:∀h',Heap.FlyingW base outer e cls a0 h'->s.heap.UpToSlots h'->Q () { s with heap:=h' }):wpAny M A (leaving env (.ref e)) Q E s:=by
 by_cases q:fl=rawInt L
 ·subst q
  unfold leaving
  refine wpAny_bind (wpAny_noteFrame_againW hf ht ?_)
  refine wpAny_landsW (L:=L) ⟨hkb,hen,hl,ht⟩ fun h' hfl up=>?_
  obtain⟨k1,k2,⟨_,_,k3⟩,k4⟩:=hfl
  exact hQ h' ⟨k1,k2,k3,k4⟩ up
 ·obtain⟨oe,vs,T,oT,ts,he,⟨hcls,h0⟩,hd,h1,hnT,hTe,hT,hdT,h3⟩:=ht
  subst hcls
  unfold leaving noteFrame
  simp only[hf]
  refine wpAny_bind (wpAny_bind (wpAny_field he hd h1 ?_))
  rw[if_pos (show (Value.ref T != Value.none)=true from by simp)]
  refine wpAny_bind (wpAny_field hT hdT h3 ?_)
  rw[if_neg (show ¬((fl==rawInt L)=true) from by simpa using q)]
  refine wpAny_bind (wpAny_setField hT hdT (Z3W.mp h3).1 ?_)
  have other:∀b,b≠T->(s.heap.update T (Obj.mapFields (·.setIfInBounds 3 Value.none))).get? b=s.heap.get? b:=fun b hb=>Heap.get?_update_other _ _ (Ne.symm hb)
  have noRecord:∀b o,s.heap.get? b=some o->(∀vs,o.data≠.fields vs)->b≠T:=fun b o hb hnf q=>by
   rw[q,hT] at hb;injection hb with hb;subst hb;exact hnf ts hdT
  refine wpAny_newEntryW hfr (hl.of_keeps fun b o hb hnf=>⟨o,(other b (noRecord b o hb hnf)).trans hb,rfl⟩) hf ((other e (Ne.symm hTe)).trans he)
   (fun b o hbo=>(other b fun q=>by rw[q,hnT] at hbo;cases hbo).trans (hkb b o hbo)) hen hd (Z3W.mp h1).1 h0
   fun h' ⟨x1,x2,x3,x4⟩=>hQ h' ⟨x1,hen,x2.2.2,x3⟩ fun b o hb hnf=>x4 b o ((other b (noRecord b o hb hnf)).trans hb) hnf
theorem Zmv{α:Type}{base:Heap}{l:List Env}{e:Addr}{cls a0 fl:Value}{what:String}{env:Env}{Q:α->Shared->Prop}(hkb:base.StaysIn s.heap)(hl:s.heap.FunFrames base l)(ht:s.heap.TracedAtW base e cls a0 fl)(h:∀h' fl',base.StaysIn h'->h'.FunFrames base l->h'.TracedAtW base e cls a0 fl'->s.heap.UpToSlots h'->h'.get? e=s.heap.get? e->E (.ref e) { s with heap:=h' }) :
  wpAny M A (PySem.passOn what (.ref e) env:Sem α) Q E s:=by
 obtain⟨oe,vs,T,oT,ts,he,hcls,hd,h1,hnT,hTe,hT,hdT,h3⟩:=ht
 have hsz3:3<ts.size:=(Z3W.mp h3).1
 unfold PySem.passOn
 refine wpAny_bind (wpAny_field he hd h1 ?_)
 rw[if_neg (show ¬((Value.ref T==Value.none)=true) from by simp)]
 refine wpAny_bind ?_
 unfold setFlight
 refine wpAny_bind (wpAny_field he hd h1 ?_)
 rw[if_pos (show (Value.ref T != Value.none)=true from by simp)]
 have other:∀x b,b≠T->(s.heap.update T (Obj.mapFields (·.setIfInBounds 3 x))).get? b=s.heap.get? b:=
  fun x b hb=>Heap.get?_update_other _ _ (Ne.symm hb)
 have noRecord:∀b o,s.heap.get? b=some o->(∀vs,o.data≠.fields vs)->b≠T:=fun b o hb hnf q=>by
  rw[q,hT] at hb;injection hb with hb;subst hb;exact hnf ts hdT
 refine wpAny_setField hT hdT hsz3 ?_
 refine wpAny_throw (h _ (env.frame.elim .none fun f=>rawInt f) (fun b o hbo=>(other _ b fun q=>by rw[q,hnT] at hbo;cases hbo).trans (hkb b o hbo))
  (hl.of_keeps fun b o hb hnf=>⟨o,(other _ b (noRecord b o hb hnf)).trans hb,rfl⟩) ?_ (fun b o hb hnf=>⟨o.slots,(other _ b (noRecord b o hb hnf)).trans hb⟩) (other _ e (Ne.symm hTe)))
 exact⟨oe,vs,T,_,_,(other _ e (Ne.symm hTe)).trans he,hcls,hd,h1,hnT,hTe,Heap.get?_update_self _ hT (Obj.isFreed_of_fields (Obj.data_mapFields hdT _)),Obj.data_mapFields hdT _,by simp[hsz3]⟩
end
section
variable {P:Program}{w:World}{K:W.Frag}{mg:Str->Option Value}{base:Heap}{N:List Str}{qual:Str}{scope:Scope}{f:Addr}{cd:Value}{A:Around}{outer:List Env}{s:Shared}{H:Hp}{E:XK}{pins:List (Addr×Obj)}{σ:St}{H1 H':Hp}{s1 s':Shared}{g h'' Bh:Heap}{ea k t:Addr}{cls:Value}
theorem Znd{C:Addr}(hC:s.heap.objs.size<=C)(I:Inv (ZdP (CX1 P w) P w K mg base N qual scope f cd A outer s H E) pins σ H1 s1)(os:s'.os=s1.os)(bare:AllBare s'.gens)(un:Un (s.heap.objs.size::frs outer) [] H1 H' s1.heap g)(hok:HOk P w H' g)(up:∀b o,b≠C->g.get? b=some o->(∀vs,o.data≠.fields vs)->∃sl,h''.get? b=some { o with slots:=sl })(fl:Heap.FlyingW Bh outer ea cls (.ref t) h'')(st:Bh.StaysIn g)(c1:∀b u,H' b=some u->∀o,g.get? b=some o->Bh.get? b=some o)(c2:∀b o,s.heap.get? b=some o->b ∉ s.heap.objs.size::frs outer->∃o',Bh.get? b=some o')(new:H' ea=none)(dn:∃o,g.get? ea=some o/\Zn4 H' ea k o)(dk:∀o,g.get? ea=some o->∃o',h''.get? ea=some o'/\o'.dict=o.dict):Fly P w outer H s ea k cls H' { s' with heap:=h'' }:=by
 have neL:∀b o,s.heap.get? b=some o->b≠s.heap.objs.size:=fun b o e=>Z3B (Heap.lt_size e)
 have nin:∀b o,s.heap.get? b=some o->b ∉ frs outer->b ∉ s.heap.objs.size::frs outer:=fun b o e n z=>(Z3v.mp z).elim (neL b o e) n
 have b0:Un (frs outer) [] H H1 s.heap s1.heap:=I.base
 have fr0:∀b∈frs outer,H b=none:=I.ok.frf
 have slot:∀b o,s.heap.get? b=some o->H b=none->b∈frs outer->∃sl,h''.get? b=some { o with slots:=sl }:=fun b o q n hb=>by
  obtain⟨s2,e1⟩:=b0.slot b o q n hb (by simp)
  obtain⟨s3,e2⟩:=un.slot b _ e1 (b0.free b o q n (by simp)) (Z39 _ hb) (by simp)
  obtain⟨_,o',ho',hnf⟩:=Heap.FunFrames.mem (show s.heap.FunFrames base outer from I.ok.funs) hb
  rw[q] at ho';cases ho'
  obtain⟨s4,e3⟩:=up b _ (Z3B (Z3z (Heap.lt_size q) hC)) e2 hnf
  exact⟨s4,e3⟩
 have keepB:∀b o,s.heap.get? b=some o->H b=none->b ∉ frs outer->Bh.get? b=some o:=fun b o q n hb=>by
  have e1:=b0.keep b o q n hb (by simp)
  have e2:=un.keep b o e1 (b0.free b o q n (by simp)) (nin b o q hb) (by simp)
  obtain⟨o',e3⟩:=c2 b o q (nin b o q hb)
  have e4:=st b o' e3
  rw[e2] at e4;cases e4
  exact e3
 have thereB:∀b o,s.heap.get? b=some o->b ∉ frs outer->∃o',Bh.get? b=some o':=fun b o q hb=>by
  exact c2 b o q (nin b o q hb)
 refine⟨os.trans I.os,bare,⟨fun b o q n hb _=>fl.1 b o (keepB b o q n hb),fun b o q n hb _=>slot b o q n hb,fun b o q n _=>?_,fun b o q _=>?_,fun b xs q=>un.tups b xs (b0.tups b xs q),fun b o xs q=>un.frzs b o xs (b0.frzs b o xs q),fun b ps q=>?_⟩,fun b u e=>?_,new,(let ⟨o,e,d⟩:=dn;let ⟨o',e',d'⟩:=dk o e;⟨o',e',by unfold Zn4 at d ⊢;rw[d'];exact d⟩),Bh,t,fl,fun b u e o q=>?_,thereB⟩
 ·obtain⟨o1,e1⟩:=b0.there b o q (by simp)
  exact un.free b o1 e1 (b0.free b o q n (by simp)) (by simp)
 ·by_cases hb:b∈frs outer
  ·obtain⟨sl,e⟩:=slot b o q (fr0 b hb) hb
   exact⟨_,e⟩
  ·obtain⟨o',e⟩:=thereB b o q hb
   exact⟨o',fl.1 b o' e⟩
 ·obtain⟨m1,e1⟩:=b0.tbls b ps q
  obtain⟨m2,e2⟩:=un.tbls b _ e1
  exact⟨m1++m2,by rw[e2,Z4y]⟩
 ·refine(hok b u e).stay (fun c v hc q=>?_) (fun _ q=>q) fun _ _ q=>q
  rcases hc with rfl|hc
  ·exact fl.1 c v (c1 c u e v q)
  ·exact fl.1 c v (c1 c _ hc v q)
 ·obtain⟨o1,e1⟩:=(hok b u e).there
  have e2:=c1 b u e o1 e1
  have e3:=fl.1 b o1 e2
  rw[e3] at q;cases q
  exact e2
end
theorem Zor{X:Cx}{pins:List (Addr×Obj)}{σ:St}{H:Hp}{s:Shared}{xe:Value->Shared->Prop}(I:Inv X pins σ H s):Inv { X with xe:=xe } pins σ H s:=
 ⟨⟨I.ok.mod,I.ok.kind,I.ok.glob,I.ok.blt,I.ok.above,I.ok.inj,I.ok.has,I.ok.cab,I.ok.hd,I.ok.frames,I.ok.stk,I.ok.exf,I.ok.bs,I.ok.bsz,I.ok.noex,I.ok.exfs,I.ok.funs,I.ok.frf⟩,I.os,I.bare,I.base,I.loc,I.cell,I.free,I.freeC,I.pin,I.hok,I.len⟩
def Zuv(X:Cx)(C:Addr)(e:Value)(s':Shared):Prop:=∃m,s'.heap.Ns C m/\∀h',Heap.SameBut C s'.heap h'->∀cenv:Env,cenv.locals=C->wpAny (model X.prog X.w) X.A (PySem.passOn "comprehension.variables-let-go" e cenv:Sem Value) (fun _ _=>False) X.xe { s' with heap:=h' }
noncomputable def Zs8(X:Cx)(scope:Scope)(xs:List Str)(C:Addr)(ex:List Addr)(s₂:Shared)(H₂:Hp):Cx:=
 { Vv X scope xs C ex s₂ H₂ with xe:=fun e s'=>(∃pins σ,Inv X pins σ H₂ s₂/\s₂.heap.objs.size<=C/\∀b∈ex,Zj1 X pins H₂ b)->notedBy (model X.prog X.w) X.A (compEnvC scope (Zfb scope X.env) C X.env) (Zuv X C) e s' }
section
variable {P:Program}{w:World}{K:W.Frag}{mg:Str->Option Value}{base:Heap}{N:List Str}{qual:Str}{scope scope':Scope}{f:Addr}{cd:Value}{A:Around}{outer:List Env}{s s₂:Shared}{H H₂:Hp}{E:XK}{xs:List Str}{C:Addr}{ex:List Addr}
theorem Zmu:Zjz (Zs8 (ZdP (CX1 P w) P w K mg base N qual scope f cd A outer s H E) scope' xs C ex s₂ H₂) (fun _=>E):=fun pins' σ' H1 s1 e s' I hq ⟨pins,σ,I₂,hC,ff⟩=>by
 obtain⟨ea,k,cls,H',rfl,F,hE⟩:=hq
 obtain⟨Bh,t,fl,c1,c2⟩:=F.fly
 have IX:Inv (ZdP (CX1 P w) P w K mg base N qual scope f cd A outer s H E) pins σ H1 s1:=I₂.call' I.os I.base I.hok I.bare fun b hb=>by
  obtain⟨f0,f1,f2,f3,f4,f5⟩:=ff b hb
  exact⟨f3,f1,f4,f5⟩
 have hC0:s.heap.objs.size<=C:=Z33 I₂.sz hC
 obtain⟨m,hn,_⟩:=I.loc
 have hn:s1.heap.Ns C m:=hn
 have hCn:H1 C=none:=I.free
 have hCf:C ∉ s.heap.objs.size::frs outer:=fun z=>by
  rcases Z3v.mp z with z|z
  ·exact absurd (show (ZdP (CX1 P w) P w K mg base N qual scope f cd A outer s H E).env.locals<s₂.heap.objs.size from I₂.lt) (by rw[show (ZdP (CX1 P w) P w K mg base N qual scope f cd A outer s H E).env.locals=C from z.symm];exact Z4F.mpr hC)
  ·exact I₂.nofs hC z
 obtain⟨oC,es,ep,ho,hd,hk⟩:=hn
 have hoC':s'.heap.get? C=some oC:=F.un.keep C oC ho hCn hCf (by simp)
 have hC':H' C=none:=F.un.free C oC ho hCn (by simp)
 have hBC:Bh.get? C=some oC:=by
  obtain⟨o',e'⟩:=c2 C oC ho hCf
  have:=fl.1 C o' e'
  rw[hoC'] at this;cases this
  exact e'
 have hea:ea≠C:=fun z=>by have:=fl.2.1;rw[z,hBC] at this;cases this
 have nf:noteFrame (.ref ea) (compEnvC scope' (Zfb scope' (envOfC qual scope s.heap.objs.size f cd)) C (envOfC qual scope s.heap.objs.size f cd))=noteFrame (.ref ea) (envOfC qual scope s.heap.objs.size f cd):=Zd4 rfl
 show wpAny _ _ (noteFrame (.ref ea) (compEnvC scope' (Zfb scope' (envOfC qual scope s.heap.objs.size f cd)) C (envOfC qual scope s.heap.objs.size f cd))) _ _ _
 rw[nf]
 refine wpAny_mono (Zd7 (ZgY _ _) (wpAny_looks_onW (Q:=fun _ s''=>∃h1,s''={ s' with heap:=h1 }/\Heap.HeldW Bh (envOfC qual scope s.heap.objs.size f cd::outer) ea cls (.ref t) s.heap.objs.size h1/\s'.heap.UpToSlots h1) (E:=fun _ _=>False) I₂.ok.frames rfl fl fun h1 a b=>⟨h1,rfl,a,b⟩)) (fun _ s'' q=>?_) fun _ _ q=>q.1.elim
 obtain⟨⟨h1,rfl,hl1,up1⟩,dk1⟩:=q
 refine⟨m,up1.ns ⟨oC,es,ep,hoC',hd,hk⟩,fun h2 hs2 cenv _=>?_⟩
 obtain⟨k1,k2,k3,oe,vs,T,oT,ts,he,hcls,hde,hv1,hnT,hTe,hT,hdT,h3⟩:=hl1
 have hTC:T≠C:=fun z=>by rw[z,hBC] at hnT;cases hnT
 have st2:(PySem.W.hideAll Bh [C]).StaysIn h2:=fun b o q=>by
  have hb:b≠C:=fun z=>by rw[z,PySem.W.hideAll_none _ (by simp)] at q;cases q
  exact(hs2.2 b hb).trans (k1 b o (PySem.W.of_hideAll _ q))
 have ff2:∀{l:List Env},(∀x∈l,x.frame≠some C)->h1.FunFrames Bh l->h2.FunFrames (PySem.W.hideAll Bh [C]) l:=by
  intro l
  induction l with
  |nil=>intro _ _;trivial
  |cons x l ih =>
   rintro hx ⟨a,⟨L,o,e1,e2,e3,e4⟩,c⟩
   have hL:L≠C:=fun z=>hx x (by simp) (by rw[e1,z])
   refine⟨a,⟨L,o,e1, ?_,(hs2.2 L hL).trans e3,e4⟩,ih (fun y hy=>hx y (by simp[hy])) c⟩
   cases q:(PySem.W.hideAll Bh [C]).get? L with
   |none=>rfl
   |some u=>have:=PySem.W.of_hideAll _ q;rw[e2] at this;cases this
 have hide:∀b,Bh.get? b=none->(PySem.W.hideAll Bh [C]).get? b=none:=fun b z=>by
  cases q:(PySem.W.hideAll Bh [C]).get? b with
  |none=>rfl
  |some u=>have:=PySem.W.of_hideAll _ q;rw[z] at this;cases this
 have fr2:=ff2 (l:=envOfC qual scope s.heap.objs.size f cd::outer) (fun x hx z=>hCf (show C∈List.filterMap Env.frame (envOfC qual scope s.heap.objs.size f cd::outer) from Z40.mpr ⟨x,hx,z⟩)) k3
 refine Zmv (base:=PySem.W.hideAll Bh [C]) (l:=envOfC qual scope s.heap.objs.size f cd::outer) (e:=ea) (cls:=cls) (a0:=.ref t) (fl:=rawInt s.heap.objs.size) st2 fr2 ⟨oe,vs,T,oT,ts,(hs2.2 ea hea).trans he,hcls,hde,hv1,hide T hnT,hTe,(hs2.2 T hTC).trans hT,hdT,h3⟩ fun h3 fl' st3 fr3 tr3 up3 ea3=>?_
 refine wpAny_mono (Zd7 (Zc7 _ _) (ZgI (Q:=fun _ s''=>∃h4,s''={ s' with heap:=h4 }/\Heap.FlyingW (PySem.W.hideAll Bh [C]) outer ea cls (.ref t) h4/\h3.UpToSlots h4) I₂.ok.frames rfl st3 (hide ea k2) fr3 tr3 fun h4 fl4 up4=>⟨h4,rfl,fl4,up4⟩)) (fun _ s'' q=>?_) fun _ _ q=>q.1
 obtain⟨⟨h4,rfl,fl4,up4⟩,dk4⟩:=q
 refine⟨ea,k,cls,H',rfl,Znd hC0 IX F.os F.bare F.un F.hok (fun b o hb q hnf=>?_) fl4 (fun b o q=>?_) (fun b u q o q'=>?_) (fun b o q n=>?_) F.new F.dict fun o q=>?_,hE⟩
 ·obtain⟨s1',e1⟩:=up1 b o q hnf
  obtain⟨s3',e3⟩:=up3 b _ ((hs2.2 b hb).trans e1) hnf
  obtain⟨s4',e4⟩:=up4 b _ e3 hnf
  exact⟨s4',e4⟩
 ·exact fl.1 b o (PySem.W.of_hideAll _ q)
 ·exact PySem.W.hideAll_get _ (c1 b u q o q') (by simp;intro z;rw[z,hC'] at q;cases q)
 ·obtain⟨o1,e1⟩:=(show Un (frs outer) [] H H1 s.heap s1.heap from IX.base).there b o q (by simp)
  obtain⟨o2,e2⟩:=c2 b o1 e1 n
  exact⟨o2,PySem.W.hideAll_get _ e2 (by simp;exact Z3B (Z3z (Heap.lt_size q) hC0))⟩
 ·obtain⟨o1,e1,d1⟩:=dk1 ea o q
  have e3:=ea3.trans ((hs2.2 ea hea).trans e1)
  obtain⟨o4,e4,d4⟩:=dk4 ea o1 e3
  exact⟨o4,e4,d4.trans d1⟩
end
section
variable {X:Cx}{pins:List (Addr×Obj)}{σ:St}{s₂:Shared}{H₂:Hp}{scope:Scope}{x:Str}{xs:List Str}{tg elt iter:Expr}{ifs:List Expr}{pos:Pos}{Bd:TB}{tt:TT}{te:TE}{J:It}{fp:List Addr}{it:Addr}{tn:Nat->Heap->Prop}
theorem Zl9{E:Value->Shared->Prop}{Q:VK}{RR:Value->Addr->Result->Shared->Prop}(I:Inv X pins σ H₂ s₂)(ck:CkN X.N X.env.scope scope xs)(hx:x∈xs)(hNd:X.N.Nodup)(hc:X.calm=true)(T:Zo4 X.prog X.w X.K tg J fp it tn)(st:tn 0 s₂.heap)(ff:∀b∈fp,Zj1 X pins H₂ b)(hw:Zgm σ Bd tt te J H₂ Q)(hb:PB X scope xs tg Bd)(ht:∀C s₂ H₂ ex,PCi (Vv X scope xs C ex s₂ H₂) ifs tt)(he:∀C s₂ H₂ ex,PE (Zs8 X scope xs C ex s₂ H₂) elt te)(hER:∀D C e s',Zuv X C e s'->RR D C (.error e) s')(hvs:∀x H vs,Bd x H vs->vs.length=xs.length)(hRR:∀D C s' H' m',s₂.heap.objs.size<=C->Inv X pins σ H' s'->s'.heap.Ns C m'->H' C=none->Q (.ref D) H'->RR (.ref D) C (.ok .next) s') :
  wpAny (model X.prog X.w) X.A (newList []) (fun acc s₃=>wpAny (model X.prog X.w) X.A (newFunctionEnv scope X.env.globals (Zfb scope X.env) [] X.env.qual none .none (some X.env)) (fun cenv s₄ =>
   codeAny (model X.prog X.w) X.A (.compStart (.ListComp elt [⟨tg,iter,ifs,0⟩] scope pos) 0 (.ref it) acc { cenv with scope:=relabel scope X.env }) (RR acc cenv.locals) s₄) E s₃) E s₂:=by
 have sc:=ck.scs x hx
 refine wpAny_newObj_type (wpAny_newFunctionEnv sc.nc (by intro y hy;simp at hy) (fun h₁ hns₁ hsb₁=>?_) sc.kind)
 dsimp only at hns₁ hsb₁ ⊢
 generalize hP2:s₂.heap.push { cls:=.type "list",dict:=none,data:=.seq ([]:List Value).toArray }=P2 at hns₁ hsb₁ ⊢
 have hCs:P2.objs.size=s₂.heap.objs.size+1:=by rw[<- hP2,Heap.size_push]
 have hCle:s₂.heap.objs.size<=P2.objs.size:=by rw[hCs];exact Nat.le_succ _
 have hDC:s₂.heap.objs.size≠P2.objs.size:=by rw[hCs];exact Z3B (Z4S _)
 generalize hCe:P2.objs.size=C at hns₁ hsb₁ hCs hCle hDC ⊢
 generalize hDe:s₂.heap.objs.size=D at hCs hCle hDC ⊢
 have fo:∀b∈fp,∃o,s₂.heap.get? b=some o:=fun b hb=>let ⟨o,e,_⟩:=T.obj _ _ st b hb;⟨o,e⟩
 have flt:∀b∈fp,b<D:=fun b hb=>by obtain⟨o,e⟩:=fo b hb;rw[<- hDe];exact Heap.lt_size e
 have old:∀b o,s₂.heap.get? b=some o->h₁.get? b=some o:=fun b o e=>by
  have hb:=Heap.lt_size e
  exact hsb₁.extBut b o (Z3B (by rw[hCs];exact Nat.lt_succ_of_lt (hDe▸hb))) (Heap.get?_push_of_some _ (hP2▸Heap.get?_push_of_some _ e))
 have hacc:h₁.get? D=some { cls:=.type "list",data:=.seq ([]:List Value).toArray 0 }:=hsb₁.extBut _ _ hDC (Heap.get?_push_of_some _ (hP2▸hDe▸Heap.get?_push_size _ rfl))
 have okB:=ZlH (x:=x) (xs:=xs) (C:=C) I sc (by rw[hDe];exact hCle) ff fo
 have hfreshD:H₂ D=none:=I.hok.fresh (by rw[hDe];exact Z3u _)
 have hfreshC:H₂ C=none:=I.hok.fresh (by rw[hDe];exact hCle)
 have I0:Inv (Vv X scope xs C fp s₂ H₂) [(D,{ cls:=.type "list",data:=.seq ([]:List Value).toArray 0 })] (σ++List.replicate xs.length none) H₂ { s₂ with heap:=h₁,toks:=s₂.toks+([]:List (Str×Value)).length }:=by
  refine⟨okB,rfl,I.bare,Un.kept old,⟨_,hns₁,fun i y v e1 e2 e3=>?_⟩,fun y c e=>?_,hfreshC,fun y c e=>I.freeC y c (Jy sc I.ok e),fun p hp=>?_,I.hok.kept old,by simp[Vv,I.len]⟩
  ·have hi:i<σ.length:=by
    by_cases hi:i<σ.length
    ·exact hi
    ·rw[Z34 (by omega)] at e2
     rw[Z4g] at e2
     split at e2<;>cases e2
   rw[Z3x hi] at e2
   have e1':(X.N.map (ZcW xs)++xs)[i]?=some y:=e1
   rw[Z3x (by rw[Z3w,<- I.len];exact hi),Z3A] at e1'
   have lk:scope.names.lookup y=some .local\/scope.names.lookup y=some .free:=by
    have e3':(relabel scope X.env).names.lookup y=some .local\/(relabel scope X.env).names.lookup y=some .cell\/(relabel scope X.env).names.lookup y=some .free:=e3
    rcases e3' with z|z|z
    ·exact .inl ((ZM sc.nc z).1 rfl)
    ·exact .inr ((ZM sc.nc z).2 (.inl rfl))
    ·exact .inr ((ZM sc.nc z).2 (.inr rfl))
   obtain⟨y0,ey0,ey⟩:∃y0,X.N[i]?=some y0/\ZcW xs y0=y:=by
    cases q:X.N[i]? with
    |none=>rw[q] at e1';cases e1'
    |some y0=>rw[q] at e1';exact⟨y0,rfl,Option.some.inj e1'⟩
   have hy0:y0 ∉ xs:=fun z=>by
    have:y=Str.ofString "":=by rw[<- ey];unfold ZcW;rw[if_pos (Z3L.mpr z)]
    rw[this,ck.noE] at lk
    rcases lk with z|z<;>cases z
   have ey2:y0=y:=by rw[<- ey];unfold ZcW;rw[if_neg (fun z=>hy0 (Z3L.mp z))]
   rw[ey2] at ey0 hy0
   have e1':X.N[i]?=some y:=ey0
   have yN:y∈X.N:=Z3T e1'
   have e3':(relabel scope X.env).names.lookup y=some .local\/(relabel scope X.env).names.lookup y=some .cell\/(relabel scope X.env).names.lookup y=some .free:=e3
   have hcf:(relabel scope X.env).names.lookup y=some .cell\/(relabel scope X.env).names.lookup y=some .free:=by
    rcases e3' with z|z
    ·exact absurd ((ZM sc.nc z).1 rfl) (ck.noN y yN hy0)
    ·exact z
   have hfree:scope.names.lookup y=some .free:=by
    rcases hcf with z|z
    ·exact(ZM sc.nc z).2 (.inl rfl)
    ·exact(ZM sc.nc z).2 (.inr rfl)
   obtain⟨c,hcl⟩:=ZeS (X:=X) hfree
   have hcx:=Jy sc I.ok hcl
   have hvis:=sc.fr _ (PySem.mem_of_lookup hfree) rfl
   obtain⟨m,hn,hl⟩:=I.loc
   obtain⟨u,ru,hlook⟩:=hl i y v e1' e2 (.inr hvis)
   refine⟨u,ru,.inr ⟨hcf,c,hcl, ?_⟩⟩
   rcases hlook with ⟨k,_⟩|⟨k,c',ec,hcell⟩
   ·have k':X.env.scope.names.lookup y=some .local:=k
    have hv':X.env.scope.names.lookup y=some .cell\/X.env.scope.names.lookup y=some .free:=hvis
    rw[k'] at hv'
    rcases hv' with z|z<;>cases z
   ·rw[hcx] at ec;cases ec
    obtain⟨o,ho,hd⟩:=hcell
    exact⟨o,old _ _ ho,hd⟩
  ·obtain⟨v,o,ho,hd⟩:=I.cell y c (Jy sc I.ok e)
   exact⟨v,o,old _ _ ho,hd⟩
  ·have e:p=(D,{ cls:=.type "list",data:=.seq ([]:List Value).toArray 0 }):=by simpa[Vv] using hp
   subst e
   exact⟨hacc,hfreshD,hDC,(fun z=>by
    rcases Z3v.mp (I.stkSub D z) with e|e
    ·exact absurd I.lt (by rw[<- e,hDe];exact Z3M _)
    ·exact I.nofs (by rw[hDe];exact Z3u _) e),fun v z=>nomatch z⟩
 obtain⟨W,⟨m0,w0⟩,turn⟩:=hw
 have fpB:∀{H':Hp}{o:Obj},(∀b∈fp,H' b=none)->∀b∈fp,Zj1 (Vv X scope xs C fp s₂ H₂) [(D,o)] H' b:=fun {H' o} hn b hb=>by
  obtain⟨f0,f1,f2,f3,f4,f5⟩:=ff b hb
  obtain⟨g1,g2⟩:=okB.exf b hb
  exact⟨hn b hb,g1,okB.exfs b hb,.inl hb,g2,fun p hp=>by
   have e:p=(D,o):=by simpa[Vv] using hp
   subst e
   exact(Z3B (flt b hb)).symm⟩
 have hσ:σ.length=X.N.length:=I.len
 have loop:∀s₃:Shared,s₃={ s₂ with heap:=h₁,toks:=s₂.toks+([]:List (Str×Value)).length } ->
   codeAny (model X.prog X.w) X.A (.compLoop (.ListComp elt [⟨tg,iter,ifs,0⟩] scope pos) 0 (.ref it) (.ref D) (compEnvC scope (Zfb scope X.env) C X.env)) (RR (.ref D) C) s₃:=by
  rintro s₃ rfl
  refine Vs
   (fun n s'=>∃i ys its k σx H',σx.length=xs.length/\Inv (Vv X scope xs C fp s₂ H₂) [(D,{ cls:=.type "list",data:=.seq (List.toArray its) k })] (σ++σx) H' s'/\tn i s'.heap/\(∀b∈fp,H' b=none)/\Jk ys its/\W i n ys H') ?_ m0
   ⟨0,[],[],0,List.replicate xs.length none,H₂,by simp,I0,T.keep _ _ _ st (fun b hb o e=>old b o e),fun b hb=>(ff b hb).1,.nil,w0⟩
  rintro n s' ⟨i,ys,its,k,σx,H',hσx,I',st',fr',rv,w'⟩
  obtain⟨hz,hcase⟩:=turn i n ys H' w'
  have hpinD:=I'.pin (D,{ cls:=.type "list",data:=.seq (List.toArray its) k }) (by simp[Vv])
  rcases hcase with ⟨stop,q⟩|⟨go,N,hN,step⟩
  ·refine thn (T.done (Vv X scope xs C fp s₂ H₂) rfl rfl rfl hc i _ s' _ H' _ I' (fpB fr') st' stop) fun r s4 ⟨hr,I4⟩=>?_
   subst hr
   have pD:=I4.pin (D,{ cls:=.type "list",data:=.seq (List.toArray its) k }) (by simp[Vv])
   obtain⟨m4,hn4,_⟩:=I4.loc
   have IX:Inv X pins σ H' s4:=I.call' I4.os I4.base I4.hok I4.bare fun b hb=>by
    obtain⟨f0,f1,f2,f3,f4,f5⟩:=ff b hb
    exact⟨f3,f1,f4,f5⟩
   have IX2:=IX.adopt (D:=D) (ys:=ys) (its:=its) (n:=k) hpinD.2.1 (by rw[<- hDe];exact I.sz) (by rw[<- hDe];exact Z49 I.lt)
    (fun y c e z=>by
     obtain⟨v,o,ho,hd⟩:=I.cell y c e
     have:=Heap.lt_size ho
     rw[hDe,z] at this
     exact Z3M _ this)
    (fun p hp z=>by
     have:=Heap.lt_size (I.pin p hp).1
     rw[hDe,z] at this
     exact Z3M _ this) pD.1 rv hz
   refine hRR D C s4 _ m4 (by rw[hDe];exact hCle) IX2 hn4 ?_ (q D hpinD.2.1)
   rw[Z4 (Ne.symm hDC)]
   exact I4.free
  ·refine thn (T.item (Vv X scope xs C fp s₂ H₂) rfl rfl rfl hc i _ s' _ H' _ I' (fpB fr') st' go) fun r s4 ⟨u,hr,h4⟩=>?_
   subst hr
   refine thn h4 fun _ s5 ⟨y,H5,I5,r5,y5,st5,fr5⟩=>?_
   have I5':=I5.pinned (fpB fr5) (T.obj _ _ st5)
   obtain⟨vs,bd5,stp⟩:=step y H5 y5
   refine thn (hb C s₂ H₂ fp _ s5 σ σx H5 y u vs _ hσ hσx I5' r5 bd5) fun _ s6 I6=>?_
   refine thn (ht C s₂ H₂ fp _ s6 _ H5 _ _ I6 stp) fun ok s6' hok=>?_
   obtain⟨H6',I6',q6'⟩:=hok
   have hvl:=hvs _ _ _ bd5
   have stay:∀{s9:Shared}{H9:Hp}{ys':List V}{its':List Value}{k':Nat},True:=fun {_ _ _ _ _}=>trivial
   cases ok with
   |false =>
    rw[if_neg Bool.false_ne_true] at q6' ⊢
    have pD6:=I6'.pin (D,{ cls:=.type "list",data:=.seq (List.toArray its) k }) (by simp[Vv])
    obtain⟨m',hm,w8⟩:=hN _ _ q6'
    refine⟨m',hm,i+1,ys,its,k,vs.map some,H6',by simp[hvl],I6'.pins_of fun p hp=>?_, ?_,fun b hb'=>?_,rv,w8⟩
    ·have e:p=(D,{ cls:=.type "list",data:=.seq (List.toArray its) k }):=by simpa using hp
     subst e
     exact⟨pD6.1,pD6.2.1,pD6.2.2.1,pD6.2.2.2.1,fun v z=>nomatch z⟩
    ·refine T.keep _ _ _ st5 fun b hb' o e=>?_
     exact(I6'.pin (b,o) (Z3o _ (Z3o _ (J8 hb' e)))).1
    ·obtain⟨o,e,d⟩:=T.obj _ _ st5 b hb'
     exact(I6'.pin (b,o) (Z3o _ (Z3o _ (J8 hb' e)))).2.1
   |true =>
   rw[if_pos rfl] at q6' ⊢
   refine wpAny_mono (he C s₂ H₂ fp _ s6' _ H6' _ (Zor I6') q6') (fun u7 s7 h7=>?_) fun e7 s7 f=>wpAny_mono (f ⟨pins,σ,I,by rw[hDe];exact hCle,ff⟩) (fun _ _ z=>hER _ _ _ _ z) fun _ _ z=>hER _ _ _ _ z
   obtain⟨v7,H7,I7x,r7,n7⟩:=h7
   have I7:Inv (Vv X scope xs C fp s₂ H₂) _ _ _ _:=Zor (xe:=fun _ _=>False) I7x
   have pD7:=I7.pin (D,{ cls:=.type "list",data:=.seq (List.toArray its) k }) (by simp[Vv])
   have hlen:=rv.length
   refine append_at (hsz:=by show its.toArray.size<=sizeLine;rw[Z32,<- hlen];exact hz) pD7.1 fun h8 hs8 hD8=>?_
   obtain⟨m',hm,w8⟩:=hN _ _ n7
   have hD8':h8.get? D=some { cls:=.type "list",data:=.seq (its++[u7]).toArray (k+1) }:=by rw[hD8,List.push_toArray]
   have I8:Inv (Vv X scope xs C fp s₂ H₂) [] (σ++vs.map some) H7 { s7 with heap:=h8 }:=by
    refine(I7.pins_of (pins':=[]) fun p hp=>absurd hp (by simp)).turned (t':=s7.toks) (it:=D) (fun b o hb e=>(hs8.2 b hb).trans e) pD7.2.1 pD7.2.2.1 (.inr (by show s₂.heap.objs.size<=D;rw[hDe];exact Z3u _)) (fun y' c' e' z=>?_) fun p hp=>absurd (show p∈([]:List (Addr×Obj)) from by simpa[Vv] using hp) (by simp)
    obtain⟨v,o,ho,hd⟩:=I.cell y' c' (Jy sc I.ok e')
    have:=Heap.lt_size ho
    rw[hDe,z] at this
    exact Z3M _ this
   refine⟨m',hm,i+1,ys++[v7],its++[u7],k+1,vs.map some,H7,by simp[hvl],I8.pins_of fun p hp=>?_, ?_,fun b hb'=>?_,rv.append (.cons r7 .nil),w8⟩
   ·have e:p=(D,{ cls:=.type "list",data:=.seq (its++[u7]).toArray (k+1) }):=by simpa using hp
    subst e
    exact⟨hD8',pD7.2.1,pD7.2.2.1,pD7.2.2.2.1,fun v z=>nomatch z⟩
   ·refine T.keep _ _ _ st5 fun b hb' o e=>?_
    have hpb:=I7.pin (b,o) (Z3o _ (Z3o _ (J8 hb' e)))
    exact(hs8.2 b (Z3B (flt b hb'))).trans hpb.1
   ·obtain⟨o,e,d⟩:=T.obj _ _ st5 b hb'
    exact(I7.pin (b,o) (Z3o _ (Z3o _ (J8 hb' e)))).2.1
 exact codeAny_compStart_list (loop _ rfl) (T.self _ 0 _ _ _ (T.keep _ _ _ st fun b hb o e=>old b o e) (loop _ rfl))
theorem Zfu{i:Nat}{y:Str}{py spos:Pos}{wi:TI}(hN:X.N.Nodup)(hi:X.N[i]?=some y)(hit:PI X tg iter wi)(hb:PB X scope xs tg Bd)(ht:∀C s₂ H₂ ex,PCi (Vv X scope xs C ex s₂ H₂) ifs tt)(he:∀C s₂ H₂ ex,PE (Zs8 X scope xs C ex s₂ H₂) elt te)(hvs:∀x H vs,Bd x H vs->vs.length=xs.length)(hc:X.calm=true)(hsw:swapsWith (.ListComp elt [⟨tg,iter,ifs,0⟩] scope pos) (some (.Name y py)) spos.line X.env=pure true:=by rfl)(hy:X.env.scope.names.lookup y=some .local:=by rfl)(hclos:closureFor scope X.env=pure (Zfb scope X.env):=by rfl)(hchk:Vo X.N X.env.scope scope xs=true:=by rfl)(hs:∀x,foldedSetIterable iter X.env x=pure x:=by exact fun _=>rfl) :
  PS X (.Assign [.Name y py] (.ListComp elt [⟨tg,iter,ifs,0⟩] scope pos) spos) (VN i wi Bd tt te):=by
 intro pins s σ H D0 I h
 have ck:=VF hchk
 obtain⟨x,hx⟩:=ck.ex
 have sc:=ck.scs x hx
 rw[exec_Assign_Name_used _ _ _ _ hsw]
 refine wpAny_bind (wpAny_standAt (wpAny_bind ?_))
 show wpAny _ X.A (do let _ <- comprehension (.ListComp elt [⟨tg,iter,ifs,0⟩] scope pos) scope X.env _ (newList []) false (eval iter X.env) (some (assign (.Name y py) X.env))) _ _ s
 refine wpAny_bind (wpAny_mono (wpAny_comprehension_free (use:=some (assign (.Name y py) X.env)) (Q:=fun _ s'=>SP X pins D0 .next s') rfl hs hclos sc.kind sc.locs
  (thn (hit pins s σ H _ I h) fun xv s₁ h₁=>thn h₁ fun itv s₂ h₂=>?_)) (fun _ s' hq=>wpAny_pure (wpAny_pure hq)) fun _ _ e=>e)
 obtain⟨it,fp,tn,J,H2,e,I2,T,st2,f2,q⟩:=h₂
 subst e
 refine Zl9 (RR:=fun acc C=>compPost (model X.prog X.w) X.A X.xe (some (assign (.Name y py) X.env)) (fun _ s'=>SP X pins D0 .next s') acc C) I2 ck hx hN hc T st2 f2 q hb ht he (fun _ _ _ _ z=>z) hvs ?_
 intro D C s' H' m' hC I' hn hC0 hq
 show wpAny _ X.A (assign (.Name y py) X.env (.ref D)) _ _ _
 have cellC:∀y c,X.env.cells.lookup y=some c->c≠C:=fun y c e z=>by
  obtain⟨v,o,ho,hd⟩:=I2.cell y c e
  exact absurd (Heap.lt_size ho) (Z4F.mpr (by rw[z];exact hC))
 have locC:C≠X.env.locals:=Z49 (Z3z I2.lt hC)
 refine wpAny_assign_Name (Zdu (i:=i) (v:=.ref D) I' hN hi (.inl hy) rfl (fun s'' I'' ⟨a,hsa,ha⟩=>?_) (.inr hy))
 have hCa:C≠a:=by
  rcases ha with z|z
  ·rw[z];exact locC
  ·exact(cellC _ _ z).symm
 refine⟨m',hn.sameBut hsa hCa,fun h'' hs''=>⟨σ.set i (some (.ref D)),H', ?_,hq⟩⟩
 refine I''.turned (t':=s''.toks) (it:=C) (fun b o hb e=>(hs''.2 b hb).trans e) hC0 locC (.inr (Z33 I2.sz hC)) cellC fun p hp z=>?_
 exact absurd (Heap.lt_size (I2.pin p hp).1) (Z4F.mpr (by rw[z];exact hC))
end
section
variable {X:Cx}{scope:Scope}{x y:Str}{elt iter:Expr}{pos px py spos:Pos}{te:TE}{wi:TI}{i:Nat}
theorem Zgz(hN:X.N.Nodup)(hi:X.N[i]?=some y)(hit:PI X (.Name x px) iter wi)(he:∀C s₂ H₂ ex,PE (Zs8 X scope [x] C ex s₂ H₂) elt te)(hc:X.calm=true)(hsw:swapsWith (.ListComp elt [⟨.Name x px,iter,[],0⟩] scope pos) (some (.Name y py)) spos.line X.env=pure true:=by rfl)(hy:X.env.scope.names.lookup y=some .local:=by rfl)(hclos:closureFor scope X.env=pure (Zfb scope X.env):=by rfl)(hchk:Vo X.N X.env.scope scope [x]=true:=by rfl)(hs:∀x,foldedSetIterable iter X.env x=pure x:=by exact fun _=>rfl) :
  PS X (.Assign [.Name y py] (.ListComp elt [⟨.Name x px,iter,[],0⟩] scope pos) spos) (VN i wi tB1 Zqa te):=Zfu hN hi hit (Ze6 hN hchk) (fun _ _ _ _=>ZhL) he hv1 hc hsw hy hclos hchk hs
end
end L2
namespace L2
noncomputable def Zr4(p s:Int):Int:=p*s%(p+1)
noncomputable def Zuy(p s:Int):Int:=p*s/(p+1)
noncomputable def ZoN(s:Int):Nat->Int
 |0=>s
 |k+1=>Zuy (k+1) (ZoN s k)
noncomputable def Zln(s:Int)(n:Nat):List Int:=(List.range n).map fun(k:Nat)=>Zr4 (k+1) (ZoN s k)
@[simp] theorem ZeK(s:Int)(n:Nat):(Zln s n).length=n:=by simp[Zln]
noncomputable def Zqv(s:Int):Nat->Nat->Nat
 |0,k=>k
 |n+1,k=>if 0<ZoN s k then Zqv s n (k+1) else k
noncomputable def ZtI(s:Int):Nat:=Zqv s s.toNat 0
noncomputable def Zqw(s:Int):List Int:=Zln s (ZtI s)
@[simp] theorem Zn6(s:Int):(Zqw s).length=ZtI s:=ZeK _ _
noncomputable def V9(ns:List Int):Nat->Nat
 |0=>0
 |k+1=>if ns.getD k 0=0 then V9 ns k else k+1
noncomputable def ZcI(ns:List Int):List Int:=ns.take (V9 ns ns.length)
theorem QI(ns:List Int):∀k,V9 ns k<=k
 |0=>Z3u _
 |k+1=>by
  unfold V9
  split
  ·exact Nat.le_succ_of_le (QI ns k)
  ·exact Z3u _
theorem ZdT(ns:List Int):∀k,0<V9 ns k->ns.getD (V9 ns k-1) 0≠0
 |0,h=>absurd h (by simp[V9])
 |k+1,h=>by
  unfold V9 at h ⊢
  split
  ·rename_i c;rw[if_pos c] at h;exact ZdT ns k h
  ·rename_i c;rw[Nat.add_sub_cancel];exact c
theorem ZdS(ns:List Int):∀k j,V9 ns k<=j->j<k->ns.getD j 0=0
 |0,j,_,h=>absurd h (by omega)
 |k+1,j,h1,h2=>by
  unfold V9 at h1
  by_cases c:ns.getD k 0=0
  ·rw[if_pos c] at h1
   by_cases e:j=k
   ·rw[e];exact c
   ·exact ZdS ns k j h1 (by omega)
  ·rw[if_neg c] at h1;omega
theorem ZcB(ns:List Int):(ZcI ns).length=V9 ns ns.length:=by
 unfold ZcI
 have:=QI ns ns.length
 simp;omega
def Ziz(ns:List Int):Prop:=(∀x∈ns,0<=x)/\ns.length<=200/\ns.sum<=10000/\(ns=[]\/ns.getD (ns.length-1) 0≠0)
noncomputable instance (ns:List Int):Decidable (Ziz ns):=by unfold Ziz;infer_instance
def Zgg(ns:List Int):Prop:=ns=[]\/ns.getD (ns.length-1) 0≠0
theorem Zgg.tail{x:Int}:∀{ns:List Int},Zgg (x::ns)->Zgg ns
 |[],_=>.inl rfl
 |y::ns,h=>by
  rcases h with h|h
  ·cases h
  ·exact .inr (by simpa using h)
theorem Zgg.nil{ns:List Int}(h:Zgg ns)(h0:∀x∈ns,x=0):ns=[]:=by
 rcases h with h|h
 ·exact h
 ·exfalso
  cases ns with
  |nil=>simp at h
  |cons a l =>
   apply h
   rw[Z3n,Z3r (by simp)]
   exact h0 _ (Z4j _)
def ZoA(ns:List Int):Prop:=Ziz ns/\ns=Zqw ns.sum
noncomputable instance (ns:List Int):Decidable (ZoA ns):=by unfold ZoA;infer_instance
noncomputable def s2(ns:List Int)(r:Nat):Nat->Int
 |0=>0
 |i+1=>s2 ns r i+if i%2=r then ns.getD i 0 else 0
noncomputable def Znb(a b:Int):Int:=Nat.gcd a.toNat b.toNat
noncomputable def Zpr(a b:Int):Int:=a/Znb a b*b
theorem ZmZ{a b:Int}(ha:0<a):0<Znb a b:=by
 unfold Znb
 have:0<Nat.gcd a.toNat b.toNat:=Nat.gcd_pos_of_pos_left _ (by omega)
 omega
theorem Zna{a b:Int}(ha:0<=a):Znb a b ∣ a:=by
 unfold Znb
 have:=Nat.gcd_dvd_left a.toNat b.toNat
 have h:=Int.natCast_dvd_natCast.mpr this
 rwa [Z4J ha] at h
theorem Zpq{a b:Int}(ha:0<a)(hb:0<b):0<Zpr a b/\Zpr a b<=a*b:=by
 unfold Zpr
 have g:=ZmZ (b:=b) ha
 obtain⟨c,hc⟩:=Zna (a:=a) (b:=b) (by omega)
 have hq:a/Znb a b=c:=by
  have:Znb a b*c/Znb a b=c:=Z4w _ (by omega)
  rw[<- hc] at this;exact this
 have hcp:0<c:=by
  rcases Int.lt_trichotomy c 0 with z|z|z
  ·have:=Int.mul_neg_of_pos_of_neg g z;omega
  ·rw[z] at hc;simp at hc;omega
  ·exact z
 rw[hq]
 refine⟨Int.mul_pos hcp hb, ?_⟩
 have:c<=a:=by
  have:=Z3J (show 1<=Znb a b by omega) (show 0<=c by omega)
  omega
 exact Z3J this (by omega)
noncomputable def Ztx(l s p h:Int):Option Nat:=(List.range p.toNat).find? fun(t:Nat)=>decide ((l+s*t+h)%p=0)
noncomputable def Ztw(l s p h:Int):Option Int:=(Ztx l s p h).map fun(t:Nat)=>l+s*t
noncomputable def Zpn(b h p:Int):Int:=b+(b+h)/p
noncomputable def ZmL(s p:Int):Int:=Zpr s p/p*(p+1)
theorem Zp5{l s p h b:Int}(hl:0<=l)(hs:0<s)(hp:0<p)(e:Ztw l s p h=some b):0<=b/\b<=l+s*p:=by
 unfold Ztw at e
 cases hf:Ztx l s p h with
 |none=>rw[hf] at e;cases e
 |some t =>
  rw[hf] at e
  have e:l+s*(t:Int)=b:=Option.some.inj e
  unfold Ztx at hf
  have hm:=List.mem_of_find?_eq_some hf
  have ht:=Z4b.mp hm
  have h1:0<=s*(t:Int):=Int.mul_nonneg (by omega) (by omega)
  have h2:s*(t:Int)<=s*p:=Z4l (by omega) (by omega)
  omega
theorem ZmK{s p:Int}(hs:0<s)(hp:0<p):0<ZmL s p/\ZmL s p<=s*(p+1):=by
 unfold ZmL
 have h:=Zpq hs hp
 obtain⟨c,hc⟩:p ∣ Zpr s p:=by unfold Zpr;exact Int.dvd_mul_left _ _
 have hq:Zpr s p/p=c:=by rw[hc];exact Z4w _ (by omega)
 rw[hq]
 have hcp:0<c:=by
  rcases Int.lt_trichotomy c 0 with z|z|z
  ·have:=Int.mul_neg_of_pos_of_neg hp z;omega
  ·rw[z] at hc;simp at hc;omega
  ·exact z
 have hcs:c<=s:=by
  have h2:=h.2
  rw[hc,Int.mul_comm s p] at h2
  exact Int.le_of_mul_le_mul_left h2 hp
 exact⟨Int.mul_pos hcp (by omega),Z3J hcs (by omega)⟩
def SG(i:Nat)(l s:Int):Prop:=(0<=l/\l<=1000^(i+i))/\0<s/\s<=100^i
theorem SG.next{i:Nat}{l s p h b:Int}(g:SG i l s)(hp:0<p)(hp2:p<=60)(hh:0<=h)(hh2:h<=p)(e:Ztw l s p h=some b):(0<=b/\b<=1000^(i+i)+100^i*60)/\SG (i+1) (Zpn b h p) (ZmL s p):=by
 obtain⟨⟨g1,g2⟩,g3,g4⟩:=g
 have hb:=Zp5 g1 g3 hp e
 have hsp:s*p<=100^i*60:=Int.le_trans (Z4l hp2 (by omega)) (Z3J g4 (by omega))
 have hs:=ZmK g3 hp
 have h1:s*(p+1)<=100^i*100:=Int.le_trans (Z4l (show p+1<=100 by omega) (by omega)) (Z3J g4 (by omega))
 have d0:0<=(b+h)/p:=Z4K (by omega) (by omega)
 have d1:(b+h)/p<=b+h:=Int.ediv_le_self _ (by omega)
 have e1:(1000:Int)^(i+1+(i+1))=1000^(i+i)*1000000:=by
  rw[show i+1+(i+1)=(i+i)+1+1 by omega,Z4W,Z4W,Int.mul_assoc];rfl
 have e2:(100:Int)^(i+1)=100^i*100:=Z4W ..
 have p1:(0:Int)<1000^(i+i):=Int.pow_pos (by decide)
 have p2:(100:Int)^i<=1000^(i+i):=by
  have a1:((100^i:Nat):Int)<=((1000^(i+i):Nat):Int):=Int.ofNat_le.mpr (Z33 (Z4L (by decide) i) (Z4t (by decide) (by omega)))
  rw[Int.natCast_pow,Int.natCast_pow] at a1
  exact a1
 refine⟨⟨hb.1,by omega⟩,⟨⟨by unfold Zpn;omega, ?_⟩,hs.1,by rw[e2];omega⟩⟩
 unfold Zpn
 rw[e1]
 omega
theorem Zb4{ns:List Int}{i:Nat}(h:i<ns.length):ns.getD i 0∈ns:=by
 rw[Z3n,Z3r h];exact Z4j _
noncomputable def hs:Nat->Nat->Int->List Int
 |_,0,_=>[]
 |k,m+1,l=>Zr4 (k+1) l::hs (k+1) m (Zuy (k+1) l)
noncomputable def s3(ns:List Int)(r:Nat):Nat->Int
 |0=>0
 |i+1=>s3 ns r i+if i%3=r then ns.getD i 0 else 0
def ZdK(ns:List Int):Prop:=(∀x∈ns,0<=x)/\ns.length<=100/\ns.sum<=100/\(ns=[]\/(ns.getD 0 0≠0/\ns.getD (ns.length-1) 0≠0))
noncomputable instance (ns:List Int):Decidable (ZdK ns):=by unfold ZdK;infer_instance
noncomputable def mrN(r:List Int)(i:Nat):List Int:=(List.range (max r.length i)).map fun(j:Nat)=>r.getD j 0+if j<i then 1 else 0
@[simp] theorem Zqg(r:List Int)(i:Nat):(mrN r i).length=max r.length i:=by simp[mrN]
theorem Zdk{ns:List Int}{i:Nat}(h:ns.length<=i):ns.getD i 0=0:=by
 rw[Z3n,Z30 h];rfl
theorem Zli{ns:List Int}(h:∀x∈ns,0<=x)(i:Nat):0<=ns.getD i 0:=by
 by_cases z:i<ns.length
 ·exact h _ (Zb4 z)
 ·rw[Zdk (by omega)];omega
theorem sum_nn:∀{ns:List Int},(∀x∈ns,0<=x)->0<=ns.sum
 |[],_=>by simp
 |x::xs,h=>by
  have:=h x (by simp)
  have:=sum_nn (ns:=xs) (fun y hy=>h y (by simp[hy]))
  simp;omega
theorem ZdK.head{ns:List Int}(h:ZdK ns)(hz:ns≠[]):1<=ns.getD 0 0/\ns.getD 0 0<=100:=by
 obtain⟨h1,h2,h3,h4⟩:=h
 have h5:=(h4.resolve_left hz).1
 cases ns with
 |nil=>exact absurd rfl hz
 |cons a r =>
  have:=h1 a (by simp)
  have:=sum_nn (ns:=r) (fun x hx=>h1 x (by simp[hx]))
  simp at h3 h5 ⊢
  omega
noncomputable def ZqD(s:Int):Nat->Int
 |0=>s
 |k+1=>ZqD s k*48271%2147483647
noncomputable def Ztv(s:Int)(m:Nat):List Int:=(List.range m).map fun(k:Nat)=>ZqD s (k+1)/16%1000000
@[simp] theorem Zp2(s:Int)(m:Nat):(Ztv s m).length=m:=by simp[Ztv]
noncomputable def Zlk(fs ns:List Int)(m:Nat):Nat->List Int
 |0=>fs
 |i+1=>(Zlk fs ns m i).set (i%m) (((Zlk fs ns m i).getD (i%m) 0+ns.getD i 0)%1000000)
@[simp] theorem ZfO(fs ns:List Int)(m:Nat):∀i,(Zlk fs ns m i).length=fs.length
 |0=>rfl
 |i+1=>by rw[Zlk,Z43,ZfO]
noncomputable def ZnH(ns:List Int):Int:=if 0<ns.length then 1+ns.getD 0 0%2147483646 else 1
noncomputable def Zrg(ns:List Int)(m:Nat):List Int:=Zlk (Ztv (ZnH ns) m) ns m ns.length
@[simp] theorem Zog(ns:List Int)(m:Nat):(Zrg ns m).length=m:=by simp[Zrg]
def Zo5(ns:List Int):Prop:=∀x∈ns,0<=x/\x<1000000
theorem Zo5.get{ns:List Int}(h:Zo5 ns)(i:Nat):0<=ns.getD i 0/\ns.getD i 0<1000000:=by
 by_cases z:i<ns.length
 ·exact h _ (Zb4 z)
 ·rw[Zdk (by omega)];omega
theorem getD_set{l:List Int}{i j:Nat}{v:Int}(h:i<l.length):(l.set i v).getD j 0=if i=j then v else l.getD j 0:=by
 simp only[Z3n,List.getElem?_set,if_pos h]
 split<;>rfl
noncomputable def Zrn(ns:List Int)(many:Int):List Int:=(List.range many.toNat).map fun(p:Nat)=>ns.getD (8+p) 0/3%5
noncomputable def Zrm(ns:List Int):List Int:=((List.replicate (60+ns.getD 3 0%41).toNat 0).set 0 (1+ns.getD 4 0%3)).set ((60+ns.getD 3 0%41).toNat-1) (1+ns.getD 5 0%3)
@[simp] theorem Zol(ns:List Int):(Zrm ns).length=(60+ns.getD 3 0%41).toNat:=by simp[Zrm]
@[simp] theorem Zom(ns:List Int)(m:Int):(Zrn ns m).length=m.toNat:=by simp[Zrn]
noncomputable def ZlB(ns:List Int)(k:Nat):Int:=ns.getD k 0%10^61
noncomputable def Zi8(ns:List Int)(later m:Nat):Nat->List Int
 |0=>List.replicate m 0
 |i+1=>(Zi8 ns later m i).set (i%m) (((Zi8 ns later m i).getD (i%m) 0*3+ns.getD (later+i) 0%10^61)%10^62)
@[simp] theorem ZcC(ns:List Int)(later m:Nat):∀i,(Zi8 ns later m i).length=m
 |0=>by simp[Zi8]
 |i+1=>by rw[Zi8,Z43,ZcC]
noncomputable def ZoJ(ns:List Int)(later m:Nat):List Int:=Zi8 ns later m (ns.length-later)
@[simp] theorem ZnG(ns:List Int)(later m:Nat):(ZoJ ns later m).length=m:=ZcC ..
noncomputable def stir(c j:Int):Int:=((c%2147483647+1009*j+7)*48271%2147483647)*((c%2147483647+1009*j+7)*48271%2147483647)%998244353/8
noncomputable def ZtO(t b:Int):Nat->Int
 |0=>t
 |j+1=>ZtO t b j/b
noncomputable def Ztz(t b:Int)(m:Nat):List Int:=(List.range m).map fun(j:Nat)=>ZtO t b j%b
@[simp] theorem Zp9(t b:Int)(m:Nat):(Ztz t b m).length=m:=by simp[Ztz]
noncomputable def ZsI(ns:List Int)(skip many base:Int)(mixed:Bool):List Int:=
 if mixed=true then (List.range many.toNat).map fun(j:Nat)=>stir ((ZoJ ns skip.toNat (max 1 many.toNat)).getD j 0) j%base
 else Ztz ((ns.drop skip.toNat).map fun(c:Int)=>c%10^61).sum base many.toNat
@[simp] theorem ZoP(ns:List Int)(skip many base:Int)(mixed:Bool):(ZsI ns skip many base mixed).length=many.toNat:=by unfold ZsI;split<;>simp
noncomputable def cbI(s:Int):Nat->Int
 |0=>1
 |k+1=>cbI s k*(s+((k:Int)+1))/((k:Int)+1)
theorem ZlE{s:Int}(h:0<=s):∀k,0<=cbI s k
 |0=>by simp[cbI]
 |k+1=>by
  rw[cbI]
  exact Z4K (Int.mul_nonneg (ZlE h k) (by omega)) (by omega)
theorem Zoz{s:Int}(h:0<=s)(h1:s<=10^60):∀k:Nat,k<=1000->cbI s k<=(10^61)^k
 |0,_=>by simp[cbI]
 |k+1,hk=>by
  have ih:=Zoz h h1 k (by omega)
  have nn:=ZlE h k
  rw[cbI]
  have e1:cbI s k*(s+((k:Int)+1))<=(10^61)^k*10^61:=Int.mul_le_mul ih (by omega) (by omega) (Int.pow_nonneg (by decide))
  have e2:cbI s k*(s+((k:Int)+1))/((k:Int)+1)<=cbI s k*(s+((k:Int)+1)):=Int.ediv_le_self _ (Int.mul_nonneg nn (by omega))
  rw[Z4W]
  omega
noncomputable def cbN(p s:Int):Int:=if s<0 then 0 else cbI s (p-1).toNat
theorem ZlD{s:Int}(h:0<=s)(h1:s<=10^60){k:Nat}(hk:k<=24):(cbI s k).natAbs<2^60000:=by
 have h2:=Zoz h h1 k (by omega)
 have h3:=ZlE h k
 have h4:((10:Int)^61)^k<=(10^61)^24:=by
  have:((10:Nat)^61)^k<=(10^61)^24:=Z4t (by decide) hk
  exact_mod_cast this
 have h5:((10:Int)^61)^24=10^1464:=by rw[<- Int.pow_mul]
 have h6:(cbI s k).natAbs<=10^1464:=by
  have:cbI s k<=10^1464:=by rw[<- h5];exact Int.le_trans h2 h4
  have e:((cbI s k).natAbs:Int)=cbI s k:=Int.natAbs_of_nonneg h3
  have:((cbI s k).natAbs:Int)<=((10^1464:Nat):Int):=by rw[e];exact_mod_cast this
  exact_mod_cast this
 have h7:10^1464<2^60000:=by
  calc (10:Nat)^1464<=(2^4)^1464:=Z4L (by decide) _
   _=2^5856:=by rw[<- Nat.pow_mul]
   _<2^60000:=Nat.pow_lt_pow_right (by decide) (by decide)
 omega
noncomputable def bN:Nat->Nat->Nat
 |0=>fun _=>1
 |s+1=>fun k=>Nat.rec 1 (fun k ih=>bN s (k+1)+ih) k
@[simp] theorem ZuD(s:Nat):bN s 0=1:=by cases s<;>rfl
@[simp] theorem ZuC(k:Nat):bN 0 k=1:=by exact id rfl
theorem Zhs(s k:Nat):bN (s+1) (k+1)=bN s (k+1)+bN (s+1) k:=rfl
theorem ZrT:∀n s k,s+k=n->(k+1)*bN s (k+1)=(s+k+1)*bN s k/\(s+1)*bN (s+1) k=(s+k+1)*bN s k:=by
 intro n
 induction n using Nat.strongRecOn with
 |ind n ih =>
  intro s k h
  constructor
  ·cases s with
   |zero=>simp
   |succ s =>
    have h1:=(ih (s+k) (by omega) s k rfl).1
    have h2:=(ih (s+k) (by omega) s k rfl).2
    rw[Zhs,Nat.mul_add,h1,<- h2,<- Nat.add_mul]
    congr 1
  ·cases k with
   |zero=>simp
   |succ k =>
    have h1:=(ih (s+k) (by omega) s k rfl).1
    have h2:=(ih (s+k) (by omega) s k rfl).2
    rw[Zhs,Nat.mul_add,h2,<- h1,<- Nat.add_mul]
    congr 1
    omega
theorem Zo0(s:Nat):∀k:Nat,cbI s k=(bN s k:Nat)
 |0=>by simp[cbI]
 |k+1=>by
  have h:=(ZrT (s+k) s k rfl).1
  rw[cbI,Zo0 s k]
  have e:((bN s k:Nat):Int)*((s:Int)+((k:Int)+1))=((k:Int)+1)*(bN s (k+1):Nat):=by
   have:(((k+1)*bN s (k+1):Nat):Int)=(((s+k+1)*bN s k:Nat):Int):=by rw[h]
   rw[Int.natCast_mul,Int.natCast_mul] at this
   rw[show ((k:Int)+1)=((k+1:Nat):Int) by omega,this,Int.mul_comm]
   congr 1
  rw[e,Z4w _ (by omega)]
theorem Zet{p s:Int}(hs:0<=s):cbN p s=(bN s.toNat (p-1).toNat:Nat):=by
 unfold cbN
 rw[if_neg (by omega)]
 have:=Zo0 s.toNat (p-1).toNat
 rwa [Z4J hs] at this
theorem Zhq{p s:Int}(hs:s<0):cbN p s=0:=if_pos hs
theorem ZlC(p s:Int):0<=cbN p s:=by
 by_cases h:s<0
 ·rw[Zhq h];exact Z4M _
 ·rw[Zet (by omega)];omega
theorem Zhp{s:Int}(hs:0<=s):cbN 1 s=1:=by rw[Zet hs];simp
theorem Ziu(p:Int):cbN p 0=1:=by rw[Zet (Z4M _)];simp
theorem ZeT{p s:Int}(hp:2<=p)(hs:0<=s):cbN p s=cbN p (s-1)+cbN (p-1) s:=by
 by_cases h:s=0
 ·subst h
  rw[Zhq (p:=p) (s:=0-1) (by omega),Ziu,Ziu];rfl
 ·rw[Zet hs,Zet (p:=p) (s:=s-1) (by omega),Zet (p:=p-1) hs]
  obtain⟨t,ht⟩:∃t:Nat,s=t+1:=⟨(s-1).toNat,by omega⟩
  obtain⟨q,hq⟩:∃q:Nat,p=q+2:=⟨(p-2).toNat,by omega⟩
  subst ht
  subst hq
  rw[show ((t:Int)+1).toNat=t+1 by omega,show ((q:Int)+2-1).toNat=q+1 by omega,show ((t:Int)+1-1).toNat=t by omega,show ((q:Int)+2-1-1).toNat=q by omega,Zhs]
  omega
theorem Ziv{p s t:Int}(hp:1<=p)(h:s<=t):cbN p s<=cbN p t:=by
 by_cases hs:s<0
 ·rw[Zhq hs];exact ZlC p t
 ·obtain⟨d,rfl⟩:∃d:Nat,t=s+d:=⟨(t-s).toNat,by omega⟩
  induction d with
  |zero=>simp
  |succ d ih =>
   have ih:=ih (by omega)
   by_cases h1:p=1
   ·subst h1;rw[Zhp (by omega),Zhp (by omega)];omega
   ·have h2:=ZeT (p:=p) (s:=s+((d+1:Nat):Int)) (by omega) (by omega)
    rw[show s+((d+1:Nat):Int)-1=s+(d:Int) by omega] at h2
    have:=ZlC (p-1) (s+((d+1:Nat):Int))
    omega
noncomputable def ZlV:List Int->Int
 |[]=>0
 |[_]=>0
 |_::y::r=>cbN (((y::r).length:Int)+1) ((y::r).sum-1)+ZlV (y::r)
theorem ZeW:∀(l:List Int),l≠[]->(∀x∈l,0<=x)->0<=ZlV l/\ZlV l+1<=cbN l.length l.sum
 |[],h,_=>absurd rfl h
 |[x],_,hn=>by
  have hx:=hn x (by simp)
  simp only[ZlV,Z3t,Z3F,Z4a,List.sum_nil]
  rw[show ((0+1:Nat):Int)=1 by rfl,Zhp (by omega)]
  omega
 |x::y::r,_,hn=>by
  have hx:=hn x (by simp)
  have hr:∀z∈y::r,0<=z:=fun z hz=>hn z (by simp only[Z3v] at hz ⊢;right;exact hz)
  have hs:=sum_nn hr
  obtain⟨h1,h2⟩:=ZeW (y::r) (by simp) hr
  rw[ZlV]
  have h3:=ZlC (((y::r).length:Int)+1) ((y::r).sum-1)
  refine⟨by omega, ?_⟩
  have h4:=ZeT (p:=((y::r).length:Int)+1) (s:=(y::r).sum) (by simp only[Z3t];omega) hs
  rw[show ((y::r).length:Int)+1-1=(y::r).length by omega] at h4
  have h5:=Ziv (p:=((y::r).length:Int)+1) (s:=(y::r).sum) (t:=(x::y::r).sum) (by omega) (by simp only[Z4a];omega)
  rw[show (((x::y::r).length:Nat):Int)=((y::r).length:Int)+1 by simp only[Z3t];omega]
  omega
noncomputable def ZkD(l:List Int):Int:=cbN l.length l.sum-1-ZlV l
theorem Zpl{l:List Int}(h:l≠[])(hn:∀x∈l,0<=x):0<=ZkD l/\ZkD l<cbN l.length l.sum:=by
 have:=ZeW l h hn
 unfold ZkD
 omega
theorem ZkC:∀{a b:List Int},a.length=b.length->a.sum=b.sum->(∀x∈a,0<=x)->(∀x∈b,0<=x)->a≠[] ->
  (∃i,i<a.length/\(∀j,j<i->a.getD j 0=b.getD j 0)/\a.getD i 0<b.getD i 0)->ZlV b<ZlV a
 |[],_,_,_,_,_,h,_=>absurd rfl h
 |[x],b,hl,hs,_,_,_,hd=>by
  obtain⟨i,hi,h1,h2⟩:=hd
  simp at hi
  subst hi
  match b,hl with
  |[z],_=>simp at hs h2;omega
 |x::y::r,b,hl,hs,hna,hnb,_,hd=>by
  match b,hl with
  |z::w::q,hl =>
   have hra:∀v∈y::r,0<=v:=fun v hv=>hna v (by simp only[Z3v] at hv ⊢;right;exact hv)
   have hrb:∀v∈w::q,0<=v:=fun v hv=>hnb v (by simp only[Z3v] at hv ⊢;right;exact hv)
   have hlen:(y::r).length=(w::q).length:=by simpa using hl
   have sa:=sum_nn hra
   have sb:=sum_nn hrb
   obtain⟨i,hi,h1,h2⟩:=hd
   rw[ZlV,ZlV]
   have hsum:x+(y::r).sum=z+(w::q).sum:=by simpa[Z4a] using hs
   cases i with
   |zero =>
    have h2:x<z:=by simpa using h2
    obtain⟨b1,b2⟩:=ZeW (w::q) (by simp) hrb
    have a1:=(ZeW (y::r) (by simp) hra).1
    have h4:=ZeT (p:=((w::q).length:Int)+1) (s:=(w::q).sum) (by simp only[Z3t];omega) sb
    rw[show ((w::q).length:Int)+1-1=(w::q).length by omega] at h4
    have h5:=Ziv (p:=((w::q).length:Int)+1) (s:=(w::q).sum) (t:=(y::r).sum-1) (by omega) (by omega)
    rw[hlen]
    omega
   |succ i =>
    have hxz:x=z:=by simpa using h1 0 (by omega)
    have ih:=ZkC (a:=y::r) (b:=w::q) hlen (by omega) hra hrb (by simp) ⟨i,by simpa using hi,fun j hj=>by simpa using h1 (j+1) (by omega),by simpa using h2⟩
    rw[hlen,show (y::r).sum=(w::q).sum by omega]
    omega
end L2
namespace L2
open PySem PySem.NumText PyProof.Rows
noncomputable def spS:Str:=⟨#[32]⟩
theorem ZnI:Str.ofString " "=spS:=by decide
noncomputable def Zqk:Str := "0123456789"
theorem ZrA{c:Nat}(h:48<=c/\c<=57):inS ⟨#[c]⟩ Zqk=true:=by
 unfold inS
 rw[StrLaws.found_one]
 refine decide_eq_true ?_
 have e:Zqk.cps.toList=[48,49,50,51,52,53,54,55,56,57]:=by decide
 rw[e]
 simp only[Z3v,Z4C,or_false]
 omega
theorem Zj9{c:Nat}:∀{x y A B:List Nat},c ∉ x->c ∉ y->x++c::A=y++c::B->x=y/\A=B
 |[],[],_,_,_,_,h=>⟨rfl,(List.cons.inj h).2⟩
 |[],b::y,_,_,_,hy,h=>by
  have:=(List.cons.inj h).1
  exact absurd (by simp[this]) hy
 |a::x,[],_,_,hx,_,h=>by
  have:=(List.cons.inj h).1
  exact absurd (by simp[this]) hx
 |a::x,b::y,A,B,hx,hy,h=>by
  obtain⟨h1,h2⟩:=List.cons.inj h
  obtain⟨e1,e2⟩:=Zj9 (c:=c) (x:=x) (y:=y) (fun z=>hx (by simp[z])) (fun z=>hy (by simp[z])) h2
  exact⟨by rw[h1,e1],e2⟩
theorem join_list(c:Nat)(x y:Str)(r:List Str):(Str.join ⟨#[c]⟩ (x::y::r)).cps.toList=x.cps.toList++c::(Str.join ⟨#[c]⟩ (y::r)).cps.toList:=by
 show (x++⟨#[c]⟩++Str.join ⟨#[c]⟩ (y::r)).cps.toList=_
 simp[Str.cps_append]
theorem ZfI(c:Nat):∀{ws vs:List Str},ws≠[]->vs≠[]->(∀w∈ws,c ∉ w.cps.toList)->(∀w∈vs,c ∉ w.cps.toList)->Str.join ⟨#[c]⟩ ws=Str.join ⟨#[c]⟩ vs->ws=vs
 |[],_,h,_,_,_,_=>absurd rfl h
 |_,[],_,h,_,_,_=>absurd rfl h
 |[x],[y],_,_,_,_,h=>by rw[show x=y from h]
 |[x],y::y'::r,_,_,hx,_,h=>by
  have e:(Str.join _ _).cps.toList=(Str.join _ _).cps.toList:=congrArg (fun z:Str=>z.cps.toList) h
  rw[join_list] at e
  exact absurd (show c∈x.cps.toList by rw[show x.cps.toList=_ from e];simp) (hx x (by simp))
 |x::x'::r,[y],_,_,_,hy,h=>by
  have e:(Str.join _ _).cps.toList=(Str.join _ _).cps.toList:=congrArg (fun z:Str=>z.cps.toList) h
  rw[join_list] at e
  exact absurd (show c∈y.cps.toList by rw[show y.cps.toList=_ from e.symm];simp) (hy y (by simp))
 |x::x'::r,y::y'::q,_,_,hx,hy,h=>by
  have e:(Str.join _ _).cps.toList=(Str.join _ _).cps.toList:=congrArg (fun z:Str=>z.cps.toList) h
  rw[join_list,join_list] at e
  obtain⟨e1,e2⟩:=Zj9 (hx x (by simp)) (hy y (by simp)) e
  have e3:Str.join ⟨#[c]⟩ (x'::r)=Str.join ⟨#[c]⟩ (y'::q):=Str.ext' (Z4D.mp e2)
  have ih:=ZfI c (by simp) (by simp) (fun w hw=>hx w (by simp at hw ⊢;exact .inr hw)) (fun w hw=>hy w (by simp at hw ⊢;exact .inr hw)) e3
  rw[ih,Str.ext' (Z4D.mp e1)]
theorem Zmg(x y:Str):Txt.split x y≠[]:=by
 unfold Txt.split
 split
 ·simp
 ·split
  ·simp
  ·rw[StrLaws.partsBetween_eq]
   obtain⟨p,r,e⟩:=StrLaws.partsFrom_ne x y.length 0 (Builtin.Str.occurrences x y 0 x.length (x.length+1))
   rw[e];simp
theorem ZkU:∀{ws:List Str},(∀w∈ws,PyData.canLay0 (.str w)=true)->PyData.canLay0 (.str (Str.join spS ws))=true
 |[],_=>by unfold PyData.canLay0 PyData.strOk;rw[<- Z4m];rfl
 |[w],h=>h w (by simp)
 |x::y::r,h=>by
  have ih:=ZkU (ws:=y::r) fun w hw=>h w (by simp at hw ⊢;exact .inr hw)
  have hx:=h x (by simp)
  unfold PyData.canLay0 PyData.strOk at *
  rw[<- Z4m,Z36] at *
  rw[show spS=⟨#[32]⟩ from rfl,join_list]
  intro c hc
  rcases Z3q.mp hc with z|z
  ·exact hx c z
  ·rcases Z3v.mp z with z|z
   ·subst z;decide
   ·exact ih c z
theorem ZrV{z:Str}:asS (.str z)=.ok z:=rfl
end L2
namespace My
open L2
noncomputable def tab(n:Nat)(f:Nat->Int):List Int:=(List.range n).map f
theorem JW(n:Nat)(f:Nat->Int):(tab n f).length=n:=by simp[tab]
theorem Zgk{n:Nat}{f:Nat->Int}{x:Nat}(h:x<n):(tab n f).getD x 0=f x:=by
 rw[Z3n,tab,Z3A,Z3U h];rfl
theorem Zgl{n:Nat}{f:Nat->Int}{l:List Int}(hl:l.length=n)(h:∀x,x<n->l.getD x 0=f x):l=tab n f:=by
 apply List.ext_getElem
 ·rw[hl,JW]
 ·intro i h1 h2
  have:=h i (by omega)
  rw[Z3n,Z3r h1] at this
  simp only[tab,List.getElem_map,List.getElem_range]
  exact this
theorem getD_set{l:List Int}{j x:Nat}{v:Int}(h:j<l.length):(l.set j v).getD x 0=if x=j then v else l.getD x 0:=by
 rw[Z3n,Z3n]
 by_cases e:x=j
 ·subst e;rw[Z3C h,if_pos rfl];rfl
 ·rw[Z3H (Ne.symm e),if_neg e]
theorem ZoH{n:Nat}{f:Nat->Int}{j:Nat}{v:Int}(h:j<n):(tab n f).set j v=tab n fun x=>if x=j then v else f x:=by
 refine Zgl (by rw[Z43,JW]) fun x hx=>?_
 rw[getD_set (by rw[JW];exact h)]
 by_cases e:x=j
 ·rw[if_pos e,if_pos e]
 ·rw[if_neg e,if_neg e,Zgk hx]
theorem ZjI{n:Nat}{f g:Nat->Int}(h:∀x,x<n->f x=g x):tab n f=tab n g:=Zgl (JW _ _) fun x hx=>by rw[Zgk hx,h x hx]
theorem ZdA{l:List Int}{x:Nat}(h:x<l.length):l.getD x 0∈l:=by
 rw[Z3n,Z3r h];exact Z4j h
theorem Zex:∀{l:List Int}{j:Nat}{v:Int},j<l.length->(l.set j v).sum=l.sum-l.getD j 0+v
 |a::l,0,v,_=>by simp;omega
 |a::l,j+1,v,h=>by
  have:=Zex (l:=l) (j:=j) (v:=v) (by simpa using h)
  simp only[Z4P,Z4a,List.getD_cons_succ,this];omega
theorem Zdt:∀(ns:List Int) (c:Int),(ns.map fun v=>v+c).sum=ns.sum+ns.length*c
 |[],c=>by simp
 |a::l,c=>by
  simp only[Z31,Z4a,Z3t]
  rw[Zdt l c,Int.natCast_add,Int.add_mul];omega
theorem ZeB{n a b:Int}(ha:0<=a)(ha':a<n)(hb:0<=b)(hb':b<n):(a-b)%n=if b<=a then a-b else a-b+n:=by
 by_cases h:b<=a
 ·rw[if_pos h,Z48 (by omega) (by omega)]
 ·rw[if_neg h,<- Int.add_emod_right,Z48 (by omega) (by omega)]
theorem ZkG{n a b:Int}(ha:0<=a)(ha':a<n)(hb:0<=b)(hb':b<n):(a+b)%n=if a+b<n then a+b else a+b-n:=by
 by_cases h:a+b<n
 ·rw[if_pos h,Z48 (by omega) (by omega)]
 ·rw[if_neg h,<- Int.sub_emod_right,Z48 (by omega) (by omega)]
structure Jq(ns:List Int):Prop where
 lo:2<=ns.length
 hi:ns.length<=24
 nn:∀x∈ns,0<=x
 sm:ns.sum<=10^60
theorem Jq.nn'{ns:List Int}(h:Jq ns)(x:Nat):0<=ns.getD x 0:=by
 by_cases hx:x<ns.length
 ·exact h.nn _ (ZdA hx)
 ·rw[Z3n,Z30 (by omega)];exact Z4M _
theorem sum_nn:∀{l:List Int},(∀x∈l,0<=x)->0<=l.sum
 |[],_=>by simp
 |a::l,h=>by
  have:=sum_nn (l:=l) fun x hx=>h x (by simp[hx])
  have:=h a (by simp)
  simp only[Z4a];omega
noncomputable def Zqc(ns:List Int)(p:Int)(x:Nat):Int:=(if (x:Int)=p then 0 else ns.getD x 0)+ns.getD p.toNat 0/ns.length
noncomputable def ZoL(n:Int)(p:Int)(i:Int)(x:Nat):Int:=if 1<=((x:Int)-p)%n/\((x:Int)-p)%n<=i then 1 else 0
noncomputable def Zgh(ns:List Int)(p:Int)(i:Int)(x:Nat):Int:=Zqc ns p x+ZoL ns.length p i x
theorem ZjR(n p i:Int)(x:Nat):0<=ZoL n p i x:=by unfold ZoL;split<;>omega
theorem Zdb{n p i:Int}{x:Nat}(h:1<=((x:Int)-p)%n/\((x:Int)-p)%n<=i):ZoL n p i x=1:=if_pos h
theorem ZbE{n p i:Int}{x:Nat}(h:¬(1<=((x:Int)-p)%n/\((x:Int)-p)%n<=i)):ZoL n p i x=0:=if_neg h
theorem ZnJ{ns:List Int}{p:Int}{x:Nat}(h:(x:Int)=p):Zqc ns p x=ns.getD p.toNat 0/ns.length:=by unfold Zqc;rw[if_pos h];omega
theorem Zgo{ns:List Int}{p:Int}{x:Nat}(h:(x:Int)≠p):Zqc ns p x=ns.getD x 0+ns.getD p.toNat 0/ns.length:=by unfold Zqc;rw[if_neg h]
noncomputable def ZdL(ns:List Int)(p:Int):List Int:=tab ns.length (Zgh ns p (ns.getD p.toNat 0%ns.length))
noncomputable def Zu6(ns:List Int)(p:Int):Int:=(p+ns.getD p.toNat 0%ns.length)%ns.length
theorem Zgn(ns:List Int)(p:Int):(ZdL ns p).length=ns.length:=JW _ _
section
variable {ns:List Int}{p:Int}
theorem Zmh(h0:0<=p)(h1:p<ns.length):(ns.map fun v=>v+ns.getD p.toNat 0/ns.length).set p.toNat (ns.getD p.toNat 0/ns.length)=tab ns.length (Zgh ns p 0):=by
 refine Zgl (by simp) fun x hx=>?_
 rw[getD_set (by simp;omega)]
 unfold Zgh
 rw[ZbE (by omega)]
 by_cases e:x=p.toNat
 ·rw[if_pos e,ZnJ (by omega)];omega
 ·rw[if_neg e,Zgo (by omega)]
  simp[Z3n,Z3r hx]
theorem Zmi(h0:0<=p)(h1:p<ns.length){i:Nat}(hi:(i:Int)+1<ns.length) :
  (tab ns.length (Zgh ns p i)).set ((p+(i+1))%ns.length).toNat (Zgh ns p i ((p+(i+1))%ns.length).toNat+1)=tab ns.length (Zgh ns p ((i+1:Nat):Int)):=by
 have m1:=ZkG h0 h1 (show (0:Int)<=(i:Int)+1 by omega) hi
 have hlt:((p+((i:Int)+1))%ns.length).toNat<ns.length:=by
  rw[m1];split<;>omega
 rw[ZoH hlt]
 refine ZjI fun x hx=>?_
 have m2:=ZeB (n:=ns.length) (show (0:Int)<=(x:Int) by omega) (by omega) h0 h1
 by_cases e:x=((p+((i:Int)+1))%ns.length).toNat
 ·rw[if_pos e,<- e]
  unfold Zgh
  have hd:((x:Int)-p)%ns.length=i+1:=by
   rw[m2]
   rw[m1] at e
   split at e<;>split<;>omega
  rw[ZbE (by omega),Zdb (by omega)];omega
 ·rw[if_neg e]
  unfold Zgh
  have hd:((x:Int)-p)%ns.length≠i+1:=by
   intro z
   apply e
   rw[m2] at z
   rw[m1]
   split at z<;>split<;>omega
  by_cases q:1<=((x:Int)-p)%ns.length/\((x:Int)-p)%ns.length<=i
  ·rw[Zdb q,Zdb (by omega)]
  ·rw[ZbE q,ZbE (by omega)]
theorem Zfj(h0:0<=p)(h1:p<ns.length):∀i:Nat,(i:Int)<ns.length->(tab ns.length (Zgh ns p i)).sum=ns.sum+ns.length*(ns.getD p.toNat 0/ns.length)-ns.getD p.toNat 0+i
 |0,_=>by
  have:=Zmh h0 h1
  rw[Int.natCast_zero,<- this,Zex (by simp;omega)]
  have e:=Zdt ns (ns.getD p.toNat 0/ns.length)
  rw[e]
  have e2:(ns.map fun v=>v+ns.getD p.toNat 0/ns.length).getD p.toNat 0=ns.getD p.toNat 0+ns.getD p.toNat 0/ns.length:=by
   have hx:p.toNat<ns.length:=by omega
   rw[Z3n,Z3A,Z3r hx]
   simp[hx]
  rw[e2];omega
 |i+1,hi=>by
  have ih:=Zfj h0 h1 i (by omega)
  have m1:=ZkG h0 h1 (show (0:Int)<=(i:Int)+1 by omega) (by omega)
  have hlt:((p+((i:Int)+1))%ns.length).toNat<ns.length:=by rw[m1];split<;>omega
  rw[<- Zmi h0 h1 (by omega),Zex (by rw[JW];exact hlt),ih,Zgk hlt];omega
theorem Zmj(h0:0<=p)(h1:p<ns.length)(hs:0<=ns.getD p.toNat 0):(ZdL ns p).sum=ns.sum:=by
 have b1:=Int.emod_nonneg (ns.getD p.toNat 0) (show (ns.length:Int)≠0 by omega)
 have b2:=Int.emod_lt_of_pos (ns.getD p.toNat 0) (show (0:Int)<ns.length by omega)
 have:=Zfj h0 h1 (ns.getD p.toNat 0%ns.length).toNat (by omega)
 rw[Z4J b1] at this
 have e:=Int.mul_ediv_add_emod (ns.getD p.toNat 0) ns.length
 unfold ZdL
 omega
theorem ZoM(hn:∀x∈ns,0<=x)(i:Int)(x:Nat)(hx:x<ns.length):0<=Zgh ns p i x:=by
 have h1:=hn _ (ZdA hx)
 have h2:0<=ns.getD p.toNat 0:=by
  by_cases hp:p.toNat<ns.length
  ·exact hn _ (ZdA hp)
  ·rw[Z3n,Z30 (by omega)];exact Z4M _
 have h3:=Z4K h2 (show (0:Int)<=ns.length by omega)
 have h4:=ZjR ns.length p i x
 unfold Zgh Zqc
 split<;>omega
end
noncomputable def run(f:Nat->Int):Nat->Nat->Nat
 |0,i=>i
 |k+1,i=>if 0<f i then run f k (i+1) else i
section
end
noncomputable def ZsH(a:List Int×Int):List Int×Int:=(ZdL a.1 a.2,Zu6 a.1 a.2)
noncomputable def its{α:Type}(f:α->α):Nat->α->α
 |0,a=>a
 |n+1,a=>f (its f n a)
section
end
end My
namespace My
open PySem L2
noncomputable def BB:Int:=41666666666666666666666666666666666666666666666666666666666
theorem ZjN(ns:List Int)(h:∀x∈ns,x<=BB):ns.sum<=ns.length*BB:=by
 induction ns with
 |nil=>simp
 |cons x xs ih =>
  have h1:=h x (by simp)
  have h2:=ih fun y hy=>h y (by simp[hy])
  simp only[Z4a,Z3t]
  rw[Int.natCast_add,Int.add_mul]
  omega
theorem Jq.of{ns:List Int}(h1:2<=ns.length)(h2:ns.length<=24)(h:∀x∈ns,0<=x/\x<=BB):Jq ns:=by
 refine⟨h1,h2,fun x hx=>(h x hx).1, ?_⟩
 have a:=ZjN ns fun x hx=>(h x hx).2
 have b:(ns.length:Int)*BB<=24*BB:=Z3J (by omega) (by decide)
 have c:(24:Int)*BB<=10^60:=by decide
 omega
noncomputable def JN(ns:List Int):Bool:=decide (2<=ns.length/\ns.length<=24/\(∀x∈ns,0<=x)/\ns.sum<=10^60)
theorem Vi{ns:List Int}:JN ns=true ↔ Jq ns:=by
 unfold JN
 rw[decide_eq_true_iff]
 exact⟨fun⟨a,b,c,d⟩=>⟨a,b,c,d⟩,fun h=>⟨h.lo,h.hi,h.nn,h.sm⟩⟩
noncomputable def ZoT(ns:List Int)(p:Int):Option Str:=if 0<=p/\p<ns.length then none else some "BadPit"
noncomputable def stX(ns:List Int)(p:Int):Option Str:=if JN ns=true then (if 0<=p/\p<ns.length then (if ns.getD p.toNat 0=0 then some "NoSeeds" else none) else some "BadPit") else some "BadBoard"
end My
namespace L2
open PySem PySem.NumText PyProof.Rows
def Vw(s:Str):Prop:=PyData.canLay0 (.str s)=true
theorem Uo{s:Str}:Vw s ↔ ∀c∈s.cps.toList,c<1114112:=by
 unfold Vw PyData.canLay0 PyData.strOk
 rw[<- Z4m,Z36]
 constructor
 ·intro h c hc
  have:=h c hc
  simpa using this
 ·intro h c hc
  have:=h c hc
  simpa using this
theorem Qn(s:Str):s.length=s.cps.toList.length:=by simp[Str.length]
theorem Zic(c:Nat):∀{ws:List Str}{w:Str},w∈ws->(∀d∈w.cps.toList,d∈(Str.join ⟨#[c]⟩ ws).cps.toList)/\w.length<=(Str.join ⟨#[c]⟩ ws).length
 |[],w,h=>by simp at h
 |[x],w,h=>by
  rw[Z38.mp h]
  exact⟨fun d hd=>hd,Z3u _⟩
 |x::y::r,w,h=>by
  rw[Qn,Qn,join_list]
  rcases Z3v.mp h with h|h
  ·rw[h]
   exact⟨fun d hd=>Z3s _ hd,by simp⟩
  ·obtain⟨h1,h2⟩:=Zic c (ws:=y::r) h
   rw[Qn,Qn] at h2
   exact⟨fun d hd=>Z3o _ (Z39 _ (h1 d hd)),by rw[Z3y,Z3t];omega⟩
theorem ZdX{s w:Str}{c:Nat}(h:w∈Txt.split s ⟨#[c]⟩):(Vw s->Vw w)/\w.length<=s.length:=by
 have e:=StrLaws.join_split s ⟨#[c]⟩
 obtain⟨h1,h2⟩:=Zic c h
 rw[e] at h1 h2
 exact⟨fun hs=>Uo.mpr fun d hd=>Uo.mp hs d (h1 d hd),h2⟩
theorem ZbD{c:Nat}{ws:List Str}(hn:ws≠[])(h:∀w∈ws,c ∉ w.cps.toList):Txt.split (Str.join ⟨#[c]⟩ ws) ⟨#[c]⟩=ws:=
 ZfI c (Zmg _ _) hn (StrLaws.split_free _ c) h (StrLaws.join_split _ _)
noncomputable def Zhc(c:Nat):Bool:=decide (48<=c/\c<=57)
theorem ZrB(c:Nat):inS ⟨#[c]⟩ Zqk=Zhc c:=by
 by_cases h:48<=c/\c<=57
 ·rw[ZrA h];exact(decide_eq_true h).symm
 ·unfold inS Zhc
  rw[StrLaws.found_one,decide_eq_false h]
  refine decide_eq_false fun z=>h ?_
  have e:Zqk.cps.toList=[48,49,50,51,52,53,54,55,56,57]:=by decide
  rw[e] at z
  simp only[Z3v,Z4C,or_false] at z
  omega
noncomputable def Ztl(cs:List Nat):Bool:=!cs.isEmpty&&(cs.all Zhc&&(decide (cs=[48]) || !decide (cs.head?=some 48)))
noncomputable def ZdM(w:Str):Bool:=Ztl w.cps.toList
noncomputable def ZoD(w:Str):Int:=((w.cps.toList.foldl (fun acc c=>acc*10+(c-48)) 0:Nat):Int)
theorem ZhV{w:Str}(h:ZdM w=true):AllDigits w.cps.toList/\w.cps.toList≠[]:=by
 unfold ZdM Ztl at h
 simp only[Bool.and_eq_true,Bool.not_eq_true',Z36] at h
 exact⟨fun c hc=>of_decide_eq_true (h.2.1 c hc),fun z=>by rw[z] at h;simp at h⟩
theorem Zur{w:Str}(h:ZdM w=true)(hl:w.length<=640):PySem.intText? w=some (ZoD w):=intText_digits (ZhV h).1 (ZhV h).2 (by omega)
noncomputable def ZpK(w:Str):Int:=if 61<w.length then 10^60+1 else ZoD w
noncomputable def V3(s:Str):List Str:=Txt.split s spS
noncomputable def Zok(s:Str):List Str:=Txt.split s ⟨#[10]⟩
theorem ZbH{s:Str}{c:Nat}(h:s.length<=100000)(hc:(Txt.split s ⟨#[c]⟩).length<=1000000):Zei s [.str ⟨#[c]⟩]=.ok (.lst ((Txt.split s ⟨#[c]⟩).map PV.str)):=if_pos ⟨Z3u 1,h,hc⟩
noncomputable def rdW(ws:List Str):Rr PV:=if ws.all ZdM=true then orX (if My.JN (ws.map ZpK)=true then none else some "BadBoard") (.lst ((ws.map ZpK).map PV.int)) else .exc ("BadText",.non)
structure OkW(w:Str):Prop where
 lay:Vw w
 len:w.length<=100
 sp:32 ∉ w.cps.toList
 nl:10 ∉ w.cps.toList
theorem Zc8(c:Nat):∀{ws:List Str}{d:Nat},d∈(Str.join ⟨#[c]⟩ ws).cps.toList->d=c\/∃w∈ws,d∈w.cps.toList
 |[],d,h=>by
  have h:d∈([]:List Nat):=h
  simp at h
 |[x],d,h=>.inr ⟨x,by simp,h⟩
 |x::y::r,d,h=>by
  rw[join_list] at h
  rcases Z3q.mp h with h|h
  ·exact .inr ⟨x,by simp,h⟩
  ·rcases Z3v.mp h with h|h
   ·exact .inl h
   ·rcases Zc8 c h with h|⟨w,hw,hd⟩
    ·exact .inl h
    ·exact .inr ⟨w,Z39 _ hw,hd⟩
theorem Zdi(c:Nat){k:Nat}:∀{ws:List Str},(∀w∈ws,w.length<=k)->(Str.join ⟨#[c]⟩ ws).length<=ws.length*(k+1)
 |[],_=>Z4p _
 |[x],h=>by
  have:=h x (by simp)
  show x.length<=_
  simp only[Z3O];omega
 |x::y::r,h=>by
  have ih:=Zdi c (ws:=y::r) fun w hw=>h w (Z39 _ hw)
  have hx:=h x (by simp)
  rw[Qn] at ih ⊢
  rw[join_list,Z3y,Z3t]
  rw[Qn] at hx
  simp only[Z3t] at ih ⊢
  rw[Nat.add_mul,Nat.one_mul]
  omega
structure Zi0(ws:List Str):Prop where
 ne:ws≠[]
 len:ws.length<=60
 ok:∀w∈ws,OkW w
section
variable {ws:List Str}
theorem Zi0.lay(h:Zi0 ws):Vw (Str.join spS ws):=ZkU fun w hw=>(h.ok w hw).lay
theorem Zi0.jlen(h:Zi0 ws):(Str.join spS ws).length<=6060:=by
 have:=Zdi 32 (k:=100) fun w hw=>(h.ok w hw).len
 have:=h.len
 have:ws.length*(100+1)<=6060:=by omega
 exact Z33 ‹_› this
theorem Zi0.words(h:Zi0 ws):V3 (Str.join spS ws)=ws:=ZbD h.ne fun w hw=>(h.ok w hw).sp
theorem Zi0.nl(h:Zi0 ws):10 ∉ (Str.join spS ws).cps.toList:=fun z=>by
 rcases Zc8 32 z with z|⟨w,hw,hd⟩
 ·cases z
 ·exact(h.ok w hw).nl hd
theorem Zi0.sum(h:Zi0 ws):(ws.map (·.length)).sum+ws.length<=1000000:=by
 have key:∀l:List Str,(∀w∈l,w.length<=100)->(l.map (·.length)).sum<=l.length*100:=by
  intro l
  induction l with
  |nil=>simp
  |cons a l ih =>
   intro h
   have:=ih fun w hw=>h w (Z39 _ hw)
   have:=h a (by simp)
   simp only[Z31,Z4a,Z3t]
   omega
 have:=key ws fun w hw=>(h.ok w hw).len
 have:=h.len
 omega
theorem Zi0.lines(h:Zi0 ws){rs:List Str}(hr:∀w∈rs,10 ∉ w.cps.toList):Zok (Str.join ⟨#[10]⟩ (Str.join spS ws::rs))=Str.join spS ws::rs:=ZbD (by simp) fun w hw=>by
 rcases Z3v.mp hw with hw|hw
 ·rw[hw];exact h.nl
 ·exact hr w hw
end
end L2
namespace L2
open PySem PySem.Spec PyProof.Rows
section
end
noncomputable def Zuc(lo c:Int)(n:Nat):List PV:=(List.range n).map fun(k:Nat)=>PV.int (lo+(k:Int)*c)
@[simp] theorem ZoQ{lo c:Int}{n:Nat}:(Zuc lo c n).length=n:=by simp[Zuc]
noncomputable abbrev ZqJ:R2:=fun x y H Q=>∃i n,x=.str i/\y=.int n/\MulOk i n/\Q (.str (Txt.mul i n)) H
theorem UD{X:Cx}:OpR X (binaryOp .Mult) ZqJ:=by
 intro pins s σ H x y v w Q I rx ry h
 obtain⟨i,n,rfl,rfl,hok,q⟩:=h
 obtain⟨t,rfl⟩:=rx
 obtain⟨u,rfl⟩:=ry
 exact SB.mul hok fun t' k=>⟨.str (Txt.mul i n),H,I.kept (t':=k) fun _ _ e=>e,⟨t',rfl⟩,q⟩
open Classical in
noncomputable def Zg4(x y:PV):Rr PV:=match x,y with
 |.str a,.int n=>if MulOk a n then .ok (.str (Txt.mul a n)) else .bad
 |_,_=>.bad
section
variable {K:W.Frag}{EX:PX->Hp->Prop}{Γ Γ1 Γ2:List Md}{te tb:TE}{f fb:List PV->Rr PV}
theorem QG(ha:DE K EX Γ Γ1 .A te f)(hb:DE K EX Γ1 Γ2 .A tb fb):DE K EX Γ Γ2 .P (tOp ZqJ te tb) (fun ρ=>(f ρ).bind fun x=>(fb ρ).bind fun y=>Zg4 x y):=fun B H0 H σ ρ F R Q A d=>by
 refine two ha hb A d.bind2 fun x y v w H' F' d s hF p1 p2 A'=>?_
 unfold Zg4 at d
 split at d
 ·rename_i a b
  split at d
  ·rename_i h
   cases p1;cases p2
   exact⟨_,_,rfl,rfl,h,d _ H' s ⟨F',hF,rfl,rfl,A'⟩⟩
  ·exact d.elim
 ·exact d.elim
end
theorem Zdd{a:Str}{n:Int}(h:MulOk a n):Zg4 (.str a) (.int n)=.ok (.str (Txt.mul a n)):=by
 classical
 exact if_pos h
end L2
namespace L2
open PySem PySem.NumText PyProof.Rows
theorem Zi0.behind{ws rs:List Str}(h:Zi0 ws)(hr:∀w∈rs,Vw w/\w.length<=100/\10 ∉ w.cps.toList)(hl:rs.length<=5) :
  (Vw (Str.join ⟨#[10]⟩ (Str.join spS ws::rs))/\(Str.join ⟨#[10]⟩ (Str.join spS ws::rs)).length<=100000)/\Zok (Str.join ⟨#[10]⟩ (Str.join spS ws::rs))=Str.join spS ws::rs:=by
 refine⟨⟨Uo.mpr fun d hd=>?_, ?_⟩,h.lines fun w hw=>(hr w hw).2.2⟩
 ·rcases Zc8 10 hd with z|⟨w,hw,hd⟩
  ·rw[z];decide
  ·rcases Z3v.mp hw with z|hw
   ·rw[z] at hd;exact Uo.mp h.lay d hd
   ·exact Uo.mp (hr w hw).1 d hd
 ·have:=Zdi 10 (k:=6060) (ws:=Str.join spS ws::rs) fun w hw=>by
   rcases Z3v.mp hw with z|hw
   ·rw[z];exact h.jlen
   ·have:=(hr w hw).2.1;omega
  simp only[Z3t] at this
  have:(rs.length+1)*(6060+1)<=6*6061:=Z4E _ (by omega)
  omega
end L2
namespace My
open PySem L2
end My
namespace My
open L2
noncomputable def Zqz(a:List Int×Int)(n:Nat):List (List Int×Int):=(List.range n).map fun j=>its ZsH j a
@[simp] theorem Zn8(a:List Int×Int)(n:Nat):(Zqz a n).length=n:=by simp[Zqz]
noncomputable def Zq1(ns:List Int)(k:Int):List Int:=tab ns.length fun x=>ns.getD (((x:Int)-k)%ns.length).toNat 0
@[simp] theorem ZnA(ns:List Int)(k:Int):(Zq1 ns k).length=ns.length:=JW _ _
noncomputable def ZsD(a:List Int×Int)(s:Nat):Int:=((its ZsH s a).2-a.2)%a.1.length
def isT(a:List Int×Int)(s:Nat):Prop:=(its ZsH s a).1=Zq1 a.1 (ZsD a s)
noncomputable instance (a:List Int×Int) (s:Nat):Decidable (isT a s):=by unfold isT;infer_instance
end My
namespace L2
noncomputable def tri:Nat->Int
 |0=>0
 |k+1=>tri k+(k+1)
theorem Zew{a b:Nat}(h:a<=b):tri a<=tri b:=by
 obtain⟨d,rfl⟩:∃d,b=a+d:=⟨b-a,by omega⟩
 clear h
 induction d with
 |zero=>exact Z4M _
 |succ d ih=>rw[<- Nat.add_assoc,tri];omega
theorem ZjF:∀k:Nat,(k:Int)<=tri k
 |0=>by simp[tri]
 |k+1=>by have:=ZjF k;have:=Zew (Z4p k);rw[tri];simp[tri] at this;omega
noncomputable def kN(s:Int):Nat:=((List.range (s.toNat+1)).find? fun(k:Nat)=>decide (s<tri (k+1))).getD 0
theorem Zpv{s:Int}(h:0<=s):tri (kN s)<=s/\s<tri (kN s+1)/\(kN s:Int)<=s:=by
 cases hf:(List.range (s.toNat+1)).find? fun(k:Nat)=>decide (s<tri (k+1)) with
 |none =>
  have:=List.find?_eq_none.mp hf s.toNat (Z4b.mpr (by omega))
  have h2:=ZjF (s.toNat+1)
  simp at this
  omega
 |some k =>
  have h1:=List.find?_range_eq_some.mp hf
  have e:kN s=k:=by unfold kN;rw[hf];rfl
  rw[e]
  have hk:=of_decide_eq_true h1.1
  have hm:=Z4b.mp h1.2.1
  refine⟨?_,hk,by omega⟩
  cases k with
  |zero=>exact h
  |succ k =>
   have:=h1.2.2 k (by omega)
   simp at this
   exact this
theorem Ztr{s:Int}{k:Nat}(h1:tri k<=s)(h2:s<tri (k+1)):kN s=k:=by
 have hs:0<=s:=by have:=ZjF k;omega
 obtain⟨a,b,-⟩:=Zpv hs
 by_cases c:kN s<k
 ·have:=Zew (show kN s+1<=k by omega);omega
 ·by_cases d:k<kN s
  ·have:=Zew (show k+1<=kN s by omega);omega
  ·omega
noncomputable def adI(l:List Int)(k i:Nat):Int:=l.getD i 0-((k:Int)-i)
structure ZtC(l:List Int)(k:Nat):Prop where
 lo:tri k<=l.sum
 hi:l.sum<tri (k+1)
 ad:∀i,i<=k->0<=adI l k i/\adI l k i<=1
 z:∀i,k<i->l.getD i 0=0
def Row(l:List Int):Prop:=ZtC l (kN l.sum)
theorem ZtC.row{l:List Int}{k:Nat}(h:ZtC l k):Row l:=by unfold Row;rw[Ztr h.lo h.hi];exact h
end L2
namespace L2
open PySem PyProof.Rows
structure Zo8(prog:Program)(w:World)(A:Around)(s:Shared)(κ:SortKind)(U:Keyed->Prop)(R:Keyed->Keyed->Bool)(Ok:Keyed->Keyed->Prop):Prop where
 ask:∀x y,U x->U y->Ok x y->∀(Q:Bool->Shared->Prop),Q (R x y) s->wpAny (model prog w) A (keyLt' κ x.1 y.1) Q (fun _ _=>False) s
 asy:∀x y,U x->U y->R x y=true->R y x=false
 tr:∀x y z,U x->U y->U z->R y x=false->R z y=false->R z x=false
section
variable {U:Keyed->Prop}{R:Keyed->Keyed->Bool}{Ok:Keyed->Keyed->Prop}
structure ZlR(U:Keyed->Prop)(R:Keyed->Keyed->Bool)(Ok:Keyed->Keyed->Prop)(left:Bool)(key:Keyed)(arr:Array Keyed)(base n:Nat)(P:Nat->Bool):Prop where
 uk:U key
 it:∀i,i<n->∃x,arr[base+i]?=some x/\U x/\(if left=true then Ok x key else Ok key x)/\P i=(if left=true then R x key else !R key x)
 mono:∀i j,i<=j->j<n->P j=true->P i=true
end
noncomputable def endB(a b o:Array Keyed)(i j:Nat):Array Keyed:=o++b.extract j b.size++a.extract i a.size
def Srt(R:Keyed->Keyed->Bool)(l:List Keyed):Prop:=l.Pairwise fun x y=>R y x=false
structure MI(R:Keyed->Keyed->Bool)(a b o:List Keyed)(i j:Nat):Prop where
 perm:o.Perm (a.take i++b.take j)
 srt:Srt R o
 ga:∀x∈o,∀y∈a.drop i,R y x=false
 gb:∀x∈o,∀y∈b.drop j,R y x=false
 hi:i<=a.length
 hj:j<=b.length
section
variable {R:Keyed->Keyed->Bool}{a b o:List Keyed}{i j:Nat}
theorem Zdm(l:List Keyed)(i k:Nat):(l.drop i).take k++l.drop (i+k)=l.drop i:=by
 rw[<- List.drop_drop];exact Z3D k (l.drop i)
theorem Zh5(l:List Keyed)(i k:Nat):l.take i++(l.drop i).take k=l.take (i+k):=(List.take_add).symm
theorem Srt.drop{l:List Keyed}(h:Srt R l)(i:Nat):Srt R (l.drop i):=h.sublist (List.drop_sublist i l)
theorem MI.pushA(M:MI R a b o i j)(sa:Srt R a)(k:Nat)(hk:i+k<=a.length)(hle:∀x∈(a.drop i).take k,∀y∈b.drop j,R y x=false):MI R a b (o++(a.drop i).take k) (i+k) j:=by
 have sd:=sa.drop i
 rw[<- Zdm a i k] at sd
 obtain⟨s1,s2,s3⟩:=Z3E.mp sd
 refine⟨?_, ?_, ?_, ?_,hk,M.hj⟩
 ·rw[<- Zh5]
  refine(M.perm.append_right _).trans ?_
  rw[Z35,Z35]
  exact List.Perm.append_left _ Z3S
 ·exact Z3E.mpr ⟨M.srt,s1,fun x hx y hy=>M.ga x hx y (List.mem_of_mem_take hy)⟩
 ·intro x hx y hy
  rcases Z3q.mp hx with hx|hx
  ·exact M.ga x hx y (by rw[<- Zdm a i k];exact Z3o _ hy)
  ·exact s3 x hx y hy
 ·intro x hx y hy
  rcases Z3q.mp hx with hx|hx
  ·exact M.gb x hx y hy
  ·exact hle x hx y hy
theorem MI.pushB(M:MI R a b o i j)(sb:Srt R b)(k:Nat)(hk:j+k<=b.length)(hle:∀x∈(b.drop j).take k,∀y∈a.drop i,R y x=false):MI R a b (o++(b.drop j).take k) i (j+k):=by
 have sd:=sb.drop j
 rw[<- Zdm b j k] at sd
 obtain⟨s1,s2,s3⟩:=Z3E.mp sd
 refine⟨?_, ?_, ?_, ?_,M.hi,hk⟩
 ·rw[<- Zh5]
  refine(M.perm.append_right _).trans ?_
  rw[Z35]
 ·exact Z3E.mpr ⟨M.srt,s1,fun x hx y hy=>M.gb x hx y (List.mem_of_mem_take hy)⟩
 ·intro x hx y hy
  rcases Z3q.mp hx with hx|hx
  ·exact M.ga x hx y hy
  ·exact hle x hx y hy
 ·intro x hx y hy
  rcases Z3q.mp hx with hx|hx
  ·exact M.gb x hx y (by rw[<- Zdm b j k];exact Z3o _ hy)
  ·exact s3 x hx y hy
theorem MI.all_perm(M:MI R a b o i j):(o++(a.drop i++b.drop j)).Perm (a++b):=by
 refine(M.perm.append_right _).trans ?_
 have e1:(a.take i++b.take j++(a.drop i++b.drop j))=a.take i++(b.take j++a.drop i)++b.drop j:=by simp[Z35]
 rw[e1]
 have p1:(a.take i++(b.take j++a.drop i)++b.drop j).Perm (a.take i++(a.drop i++b.take j)++b.drop j):=(List.Perm.append_left _ Z3S).append_right _
 refine p1.trans ?_
 have e2:a.take i++(a.drop i++b.take j)++b.drop j=(a.take i++a.drop i)++(b.take j++b.drop j):=by rw[Z35,Z35,Z35]
 rw[e2,Z3D,Z3D]
theorem MI.endB(M:MI R a b o i j)(sa:Srt R a)(sb:Srt R b)(h:∀x∈b.drop j,∀y∈a.drop i,R y x=false):Srt R (o++(b.drop j++a.drop i))/\(o++(b.drop j++a.drop i)).Perm (a++b):=by
 refine⟨?_,(List.Perm.append_left _ Z3S).trans M.all_perm⟩
 refine Z3E.mpr ⟨M.srt,Z3E.mpr ⟨sb.drop j,sa.drop i,h⟩,fun x hx y hy=>?_⟩
 rcases Z3q.mp hy with hy|hy
 ·exact M.gb x hx y hy
 ·exact M.ga x hx y hy
end
section
variable {prog:Program}{w:World}{A:Around}{s:Shared}{κ:SortKind}{U:Keyed->Prop}{R:Keyed->Keyed->Bool}{Ok:Keyed->Keyed->Prop}
structure MLo(U:Keyed->Prop)(R:Keyed->Keyed->Bool)(Ok:Keyed->Keyed->Prop)(a b:Array Keyed):Prop where
 ua:∀x∈a.toList,U x
 ub:∀x∈b.toList,U x
 ok:∀x∈b.toList,∀y∈a.toList,Ok x y
 sa:Srt R a.toList
 sb:Srt R b.toList
 na:0<a.size
 nb:0<b.size
 fst:∀x y,b.toList[0]?=some x->a.toList[0]?=some y->R y x=false
 lst:∀x∈b.toList,∀y,a.toList[a.size-1]?=some y->R y x=false
theorem Zo8.irr(C:Zo8 prog w A s κ U R Ok){x:Keyed}(ux:U x):R x x=false:=by
 cases h:R x x with
 |false=>rfl
 |true=>have:=C.asy x x ux ux h;rw[h] at this;cases this
theorem Srt.le(C:Zo8 prog w A s κ U R Ok){l:List Keyed}(ul:∀y∈l,U y)(hs:Srt R l){i j:Nat}{x y:Keyed}(hij:i<=j)(hx:l[i]?=some x)(hy:l[j]?=some y):R y x=false:=by
 by_cases e:i=j
 ·subst e
  rw[hx] at hy;cases hy
  exact C.irr (ul x (Z3T hx))
 ·have hi:=(Z37.mp hx)
  have hj:=(Z37.mp hy)
  have:=Z4u.mp hs i j hi.1 hj.1 (by omega)
  rw[hi.2,hj.2] at this
  exact this
theorem Zda{l:List Keyed}{i:Nat}{x:Keyed}(h:l[i]?=some x):(l.drop i).take 1=[x]:=by
 have hi:=(Z37.mp h)
 rw[Z4c hi.1,hi.2];rfl
end
section
variable {prog:Program}{w:World}{A:Around}{s:Shared}{κ:SortKind}{U:Keyed->Prop}{R:Keyed->Keyed->Bool}{Ok:Keyed->Keyed->Prop}
section
variable {a b o:Array Keyed}{i j:Nat}
theorem MLo.a1(C:Zo8 prog w A s κ U R Ok)(M:MLo U R Ok a b)(m:MI R a.toList b.toList o.toList i j){x:Keyed}(hx:a.toList[i]?=some x)(hle:∀y∈b.toList.drop j,R y x=false):MI R a.toList b.toList (o.push x).toList (i+1) j:=by
 have hi:=(Z37.mp hx).1
 have:=m.pushA M.sa 1 (by omega) (by rw[Zda hx];intro y hy;rw[Z38.mp hy];exact hle)
 rw[Zda hx] at this
 rw[Array.toList_push];exact this
theorem MLo.b1(C:Zo8 prog w A s κ U R Ok)(M:MLo U R Ok a b)(m:MI R a.toList b.toList o.toList i j){x:Keyed}(hx:b.toList[j]?=some x)(hle:∀y∈a.toList.drop i,R y x=false):MI R a.toList b.toList (o.push x).toList i (j+1):=by
 have hj:=(Z37.mp hx).1
 have:=m.pushB M.sb 1 (by omega) (by rw[Zda hx];intro y hy;rw[Z38.mp hy];exact hle)
 rw[Zda hx] at this
 rw[Array.toList_push];exact this
end
end
structure MH(R:Keyed->Keyed->Bool)(a b q:List Keyed)(i j:Nat):Prop where
 perm:q.Perm (a.drop i++b.drop j)
 srt:Srt R q
 ga:∀x∈a.take i,∀y∈q,R y x=false
 gb:∀x∈b.take j,∀y∈q,R y x=false
 hi:i<=a.length
 hj:j<=b.length
section
variable {R:Keyed->Keyed->Bool}{a b q:List Keyed}{i j:Nat}
theorem V5(l:List Keyed){c i:Nat}(h:c<=i):l.take c++(l.take i).drop c=l.take i:=by
 rw[show l.take c=(l.take i).take c by rw[List.take_take,Nat.min_eq_left h]]
 exact Z3D c (l.take i)
theorem Zen(l:List Keyed){c i:Nat}(h:c<=i):(l.take i).drop c++l.drop i=l.drop c:=by
 have e:l.take c++((l.take i).drop c++l.drop i)=l.take c++l.drop c:=by
  rw[<- Z35,V5 l h,Z3D,Z3D]
 exact List.append_cancel_left e
theorem Srt.take{l:List Keyed}(h:Srt R l)(i:Nat):Srt R (l.take i):=h.sublist (List.take_sublist i l)
theorem MH.pushA(M:MH R a b q i j)(sa:Srt R a){c:Nat}(hc:c<=i)(hle:∀x∈b.take j,∀y∈(a.take i).drop c,R y x=false):MH R a b ((a.take i).drop c++q) c j:=by
 have sd:=sa.take i
 rw[<- V5 a hc] at sd
 obtain⟨s1,s2,s3⟩:=Z3E.mp sd
 refine⟨?_, ?_, ?_, ?_,Z33 hc M.hi,M.hj⟩
 ·refine(List.Perm.append_left _ M.perm).trans ?_
  rw[<- Z35,Zen a hc]
 ·exact Z3E.mpr ⟨s2,M.srt,fun x hx y hy=>M.ga x (List.mem_of_mem_drop hx) y hy⟩
 ·intro x hx y hy
  rcases Z3q.mp hy with hy|hy
  ·exact s3 x hx y hy
  ·exact M.ga x (by rw[<- V5 a hc];exact Z3s _ hx) y hy
 ·intro x hx y hy
  rcases Z3q.mp hy with hy|hy
  ·exact hle x hx y hy
  ·exact M.gb x hx y hy
theorem MH.pushB(M:MH R a b q i j)(sb:Srt R b){c:Nat}(hc:c<=j)(hle:∀x∈a.take i,∀y∈(b.take j).drop c,R y x=false):MH R a b ((b.take j).drop c++q) i c:=by
 have sd:=sb.take j
 rw[<- V5 b hc] at sd
 obtain⟨s1,s2,s3⟩:=Z3E.mp sd
 refine⟨?_, ?_, ?_, ?_,M.hi,Z33 hc M.hj⟩
 ·refine(List.Perm.append_left _ M.perm).trans ?_
  rw[<- Zen b hc]
  have:∀X Y Z:List Keyed,(X++(Y++Z)).Perm (Y++(X++Z)):=fun X Y Z=>by
   rw[<- Z35,<- Z35]
   exact List.Perm.append_right _ Z3S
  exact this _ _ _
 ·exact Z3E.mpr ⟨s2,M.srt,fun x hx y hy=>M.gb x (List.mem_of_mem_drop hx) y hy⟩
 ·intro x hx y hy
  rcases Z3q.mp hy with hy|hy
  ·exact hle x hx y hy
  ·exact M.ga x hx y hy
 ·intro x hx y hy
  rcases Z3q.mp hy with hy|hy
  ·exact s3 x hx y hy
  ·exact M.gb x (by rw[<- V5 b hc];exact Z3s _ hx) y hy
theorem MH.all_perm(M:MH R a b q i j):(a.take i++(b.take j++q)).Perm (a++b):=by
 refine(List.Perm.append_left _ (List.Perm.append_left _ M.perm)).trans ?_
 have p1:∀X Y Z W:List Keyed,(X++(Y++(Z++W))).Perm ((X++Z)++(Y++W)):=fun X Y Z W=>by
  rw[Z35]
  refine List.Perm.append_left _ ?_
  rw[<- Z35,<- Z35]
  exact List.Perm.append_right _ Z3S
 refine(p1 _ _ _ _).trans ?_
 rw[Z3D,Z3D]
theorem MH.endB(M:MH R a b q i j)(sa:Srt R a)(sb:Srt R b)(h:∀x∈b.take j,∀y∈a.take i,R y x=false):Srt R (b.take j++(a.take i++q))/\(b.take j++(a.take i++q)).Perm (a++b):=by
 refine⟨?_, ?_⟩
 ·refine Z3E.mpr ⟨sb.take j,Z3E.mpr ⟨sa.take i,M.srt,M.ga⟩,fun x hx y hy=>?_⟩
  rcases Z3q.mp hy with hy|hy
  ·exact h x hx y hy
  ·exact M.gb x hx y hy
 ·refine List.Perm.trans ?_ M.all_perm
  rw[<- Z35,<- Z35]
  exact List.Perm.append_right _ Z3S
end
section
variable {U:Keyed->Prop}{R:Keyed->Keyed->Bool}{Ok:Keyed->Keyed->Prop}
theorem ZlR.le{left:Bool}{key:Keyed}{arr:Array Keyed}{base n m:Nat}{P:Nat->Bool}(K:ZlR U R Ok left key arr base m P)(h:n<=m):ZlR U R Ok left key arr base n P:=
 ⟨K.uk,fun i hi=>K.it i (by omega),fun i j h1 h2 h3=>K.mono i j h1 (by omega) h3⟩
section
end
end
section
end
noncomputable def gA(X:Array Keyed)(i:Nat):Keyed:=X.getD i (.none,.none)
theorem Zii{X:Array Keyed}{i:Nat}(h:i<X.size):X[i]?=some (gA X i):=by simp[gA,Array.getD,h]
theorem Zp3{X:Array Keyed}{i:Nat}{x:Keyed}(h:X[i]?=some x):gA X i=x:=by
 have hi:i<X.size:=by
  rcases Nat.lt_or_ge i X.size with z|z
  ·exact z
  ·rw[Z46 z] at h;cases h
 rw[Zii hi] at h;exact Option.some.inj h
theorem Zb5{X Y:Array Keyed}{i j:Nat}(h:X[i]?=Y[j]?):gA X i=gA Y j:=by
 simp only[gA,Array.getD_eq_getD_getElem?,h]
def Up(R:Keyed->Keyed->Bool)(X:Array Keyed)(lo m:Nat):Prop:=∀i j,i<j->j<m->R (gA X (lo+j)) (gA X (lo+i))=false
def Dn'(R:Keyed->Keyed->Bool)(X:Array Keyed)(lo m:Nat):Prop:=∀i j,i<j->j<m->R (gA X (lo+i)) (gA X (lo+j))=false
structure Zdo(X Y:Array Keyed)(lo m:Nat):Prop where
 perm:Y.Perm X
 out:∀k,k<lo\/lo+m<=k->Y[k]?=X[k]?
theorem Zdo.refl(X:Array Keyed)(lo m:Nat):Zdo X X lo m:=⟨Array.Perm.refl _,fun _ _=>rfl⟩
theorem Zdo.size{X Y:Array Keyed}{lo m:Nat}(h:Zdo X Y lo m):Y.size=X.size:=h.perm.size_eq
theorem Zdo.trans{X Y Z:Array Keyed}{lo m:Nat}(h:Zdo X Y lo m)(g:Zdo Y Z lo m):Zdo X Z lo m:=⟨g.perm.trans h.perm,fun k hk=>(g.out k hk).trans (h.out k hk)⟩
theorem Zdo.wide{X Y:Array Keyed}{lo lo' m m':Nat}(h:Zdo X Y lo' m')(h1:lo<=lo')(h2:lo'+m'<=lo+m):Zdo X Y lo m:=⟨h.perm,fun k hk=>h.out k (by omega)⟩
theorem Zdo.back{X Y:Array Keyed}{lo m q:Nat}(h:Zdo X Y lo m)(h1:lo<=q)(h2:q<lo+m)(hq:q<Y.size):∃q',lo<=q'/\q'<lo+m/\q'<X.size/\gA Y q=gA X q':=by
 have hs:=h.size
 have eX:X.toList=X.toList.take lo++((X.toList.drop lo).take m++(X.toList.drop lo).drop m):=by rw[Z3D,Z3D]
 have eY:Y.toList=Y.toList.take lo++((Y.toList.drop lo).take m++(Y.toList.drop lo).drop m):=by rw[Z3D,Z3D]
 have t1:Y.toList.take lo=X.toList.take lo:=by
  refine Z4Q fun i=>?_
  rw[Z4n,Z4n]
  split
  ·rw[Z3I,Z3I];exact h.out i (.inl (by omega))
  ·rfl
 have t2:(Y.toList.drop lo).drop m=(X.toList.drop lo).drop m:=by
  refine Z4Q fun i=>?_
  rw[List.drop_drop,List.drop_drop,Z4o,Z4o,Z3I,Z3I]
  exact h.out _ (.inr (by omega))
 have p:Y.toList.Perm X.toList:=h.perm.toList
 rw[eX,eY,t1,t2,List.perm_append_left_iff,List.perm_append_right_iff] at p
 have hm:gA Y q∈(Y.toList.drop lo).take m:=by
  refine Z3T (i:=q-lo) ?_
  rw[Z4n,if_pos (by omega),Z4o,show lo+(q-lo)=q by omega,Z3I]
  exact Zii hq
 obtain⟨t,ht⟩:=List.getElem?_of_mem (p.mem_iff.mp hm)
 rw[Z4n] at ht
 split at ht
 ·rename_i c
  rw[Z4o,Z3I] at ht
  have hl:lo+t<X.size:=by
   rcases Nat.lt_or_ge (lo+t) X.size with z|z
   ·exact z
   ·rw[Z46 z] at ht;cases ht
  exact⟨lo+t,by omega,by omega,hl,(Zp3 ht).symm⟩
 ·cases ht
def Sep(Ok:Keyed->Keyed->Prop)(X:Array Keyed)(e:Nat):Prop:=∀p q,p<e->e<=q->q<X.size->Ok (gA X q) (gA X p)
theorem Zdo.place{X Y:Array Keyed}{lo m q:Nat}(h:Zdo X Y lo m)(hq:q<Y.size):∃q',q'<X.size/\gA Y q=gA X q'/\∀e,e<=lo\/lo+m<=e->(e<=q ↔ e<=q'):=by
 by_cases c:lo<=q/\q<lo+m
 ·obtain⟨q',a,b,d,e⟩:=h.back c.1 c.2 hq
  exact⟨q',d,e,fun e he=>by omega⟩
 ·exact⟨q,by rw[<- h.size];exact hq,Zb5 (h.out q (by omega)),fun _ _=>Iff.rfl⟩
theorem Zdo.sep{Ok:Keyed->Keyed->Prop}{X Y:Array Keyed}{lo m e:Nat}(h:Zdo X Y lo m)(he:e<=lo\/lo+m<=e)(hX:Sep Ok X e):Sep Ok Y e:=fun p q hp hq hs=>by
 obtain⟨q',a1,a2,a3⟩:=h.place hs
 obtain⟨p',b1,b2,b3⟩:=h.place (q:=p) (by omega)
 rw[a2,b2]
 have:=b3 e he
 exact hX p' q' (by omega) ((a3 e he).mp hq) a1
section
variable {prog:Program}{w:World}{A:Around}{s:Shared}{κ:SortKind}{U:Keyed->Prop}{R:Keyed->Keyed->Bool}{Ok:Keyed->Keyed->Prop}
def ZpY(U:Keyed->Prop)(X:Array Keyed):Prop:=∀i,i<X.size->U (gA X i)
theorem ZpY.stir{X Y:Array Keyed}{lo m:Nat}(h:ZpY U X)(t:Zdo X Y lo m):ZpY U Y:=fun i hi=>by
 have hm:gA Y i∈Y:=by
  have:=Zii hi
  exact Array.mem_of_getElem? this
 obtain⟨j,hj⟩:=Array.getElem?_of_mem ((Array.Perm.mem_iff t.perm).mp hm)
 have hjs:j<X.size:=by
  rcases Nat.lt_or_ge j X.size with z|z
  ·exact z
  ·rw[Z46 z] at hj;cases hj
 rw[<- Zp3 hj]
 exact h j hjs
theorem Up.more(C:Zo8 prog w A s κ U R Ok){X:Array Keyed}{lo n:Nat}(hU:ZpY U X)(hs:lo+n<X.size)(h:Up R X lo n)(hl:n=0\/R (gA X (lo+n)) (gA X (lo+n-1))=false):Up R X lo (n+1):=fun i j hij hj=>by
 by_cases e:j<n
 ·exact h i j hij e
 ·obtain rfl:j=n:=by omega
  rcases hl with hl|hl
  ·omega
  ·by_cases e2:i=j-1
   ·subst e2;rw[show lo+(j-1)=lo+j-1 by omega];exact hl
   ·have h2:=h i (j-1) (by omega) (by omega)
    rw[show lo+(j-1)=lo+j-1 by omega] at h2
    exact C.tr _ _ _ (hU _ (by omega)) (hU _ (by omega)) (hU _ (by omega)) h2 hl
variable {R0:Keyed->Keyed->Bool}
noncomputable abbrev mir(X:Array Keyed)(i j:Nat):Array Keyed:=mirror X i j ((j-i)/2)
theorem ZmM{X:Array Keyed}{i j:Nat}(hij:i<=j)(hj:j<=X.size):Zdo X (mir X i j) i (j-i):=
 ⟨mirror_perm _ _ _ _,fun k hk=>by rw[getElem?_mirror_all hj,if_neg (by omega)]⟩
theorem Zf7{X:Array Keyed}{i j k:Nat}(hj:j<=X.size)(h1:i<=k)(h2:k<j):gA (mir X i j) k=gA X (i+j-1-k):=by
 refine Zb5 ?_
 rw[getElem?_mirror_all hj,if_pos ⟨h1,h2⟩]
theorem ZkH{X:Array Keyed}{i j k:Nat}(hj:j<=X.size)(h:k<i\/j<=k):gA (mir X i j) k=gA X k:=by
 refine Zb5 ?_
 rw[getElem?_mirror_all hj,if_neg (by omega)]
def Eqv(R:Keyed->Keyed->Bool)(X:Array Keyed)(lo a b:Nat):Prop:=∀i j,a<=i->i<b->a<=j->j<b->R (gA X (lo+i)) (gA X (lo+j))=false
theorem Dn'.up{X:Array Keyed}{lo n:Nat}(hs:lo+n<=X.size)(h:Dn' R X lo n):Up R (mir X lo (lo+n)) lo n:=fun i j hij hj=>by
 rw[Zf7 hs (by omega) (by omega),Zf7 hs (by omega) (by omega),show lo+(lo+n)-1-(lo+j)=lo+(n-1-j) by omega,show lo+(lo+n)-1-(lo+i)=lo+(n-1-i) by omega]
 exact h _ _ (by omega) (by omega)
structure ZuI(R0 R:Keyed->Keyed->Bool)(Ok:Keyed->Keyed->Prop):Prop where
 up:∀x y,R0 x y=true->R x y=true
 ok:∀x y,Ok x y->R x y=R0 x y
structure Fal(R0 R:Keyed->Keyed->Bool)(X Y:Array Keyed)(lo q k:Nat):Prop where
 t:Zdo X Y lo q
 d:Dn' R Y lo q
 e:Eqv R0 Y lo q k
 st:∀i j,i<q->q<=j->j<k->R0 (gA Y (lo+j)) (gA Y (lo+i))=true
 qk:q<k
theorem Fal.turn(C:Zo8 prog w A s κ U R Ok)(L:ZuI R0 R Ok){X Y:Array Keyed}{lo q k n:Nat}(F:Fal R0 R X Y lo q k)(hU:ZpY U X)(hs:lo+k<=X.size)(hO:∀e,lo+n<=e->Sep Ok X e)(hq:n<=q) :
  Zdo X (mir Y (lo+q) (lo+k)) lo k/\Dn' R (mir Y (lo+q) (lo+k)) lo k:=by
 have sz:=F.t.size
 have uY:=hU.stir F.t
 have qk:=F.qk
 have hsY:lo+k<=Y.size:=by omega
 refine⟨(F.t.wide (Z3u _) (by omega)).trans ((ZmM (by omega) hsY).wide (by omega) (by omega)),fun i j hij hj=>?_⟩
 by_cases a:i<q
 ·rw[ZkH hsY (.inl (by omega))]
  by_cases b:j<q
  ·rw[ZkH hsY (.inl (by omega))]
   exact F.d i j hij b
  ·rw[Zf7 hsY (by omega) (by omega),show lo+q+(lo+k)-1-(lo+j)=lo+(q+k-1-j) by omega]
   exact C.asy _ _ (uY _ (by omega)) (uY _ (by omega)) (L.up _ _ (F.st i (q+k-1-j) a (by omega) (by omega)))
 ·rw[Zf7 hsY (by omega) (by omega),Zf7 hsY (by omega) (by omega),show lo+q+(lo+k)-1-(lo+j)=lo+(q+k-1-j) by omega,show lo+q+(lo+k)-1-(lo+i)=lo+(q+k-1-i) by omega]
  have ok:=F.t.sep (e:=lo+(q+k-1-i)) (.inr (by omega)) (hO _ (by omega)) (lo+(q+k-1-j)) (lo+(q+k-1-i)) (by omega) (Z3u _) (by omega)
  rw[L.ok _ _ ok]
  exact F.e _ _ (by omega) (by omega) (by omega) (by omega)
theorem Fal.above(C0:Zo8 prog w A s κ U R0 (fun _ _=>True)){X Y:Array Keyed}{lo q k:Nat}(F:Fal R0 R X Y lo q k)(hU:ZpY U X)(hs:lo+k<=X.size)(i:Nat)(hi:i<k):R0 (gA Y (lo+i)) (gA Y (lo+(k-1)))=false:=by
 have sz:=F.t.size
 have uY:=hU.stir F.t
 have qk:=F.qk
 by_cases a:i<q
 ·exact C0.asy _ _ (uY _ (by omega)) (uY _ (by omega)) (F.st i (k-1) a (by omega) (by omega))
 ·exact F.e i (k-1) (by omega) hi (by omega) (by omega)
end
noncomputable abbrev ZpT:=Nat×Nat×Nat
def UpS(R:Keyed->Keyed->Bool)(Ok:Keyed->Keyed->Prop)(X:Array Keyed)(c n:Nat):Prop:=Up R X c n/\Sep Ok X c
noncomputable def ZdJ(R:Keyed->Keyed->Bool)(Ok:Keyed->Keyed->Prop)(X:Array Keyed):Nat->List ZpT->Nat->Prop
 |s,[],e=>s=e
 |s,(c,n,_)::r,e=>c=s/\0<n/\UpS R Ok X c n/\ZdJ R Ok X (s+n) r e
section
variable {R:Keyed->Keyed->Bool}{Ok:Keyed->Keyed->Prop}
theorem ZdJ.le{X:Array Keyed}:∀{L:List ZpT}{a e:Nat},ZdJ R Ok X a L e->a+L.length<=e
 |[],a,e,h=>by have h:a=e:=h;simp[h]
 |(c,n,p)::L,a,e,h=>by
  obtain⟨_,h1,_,h2⟩:=h
  have:=ZdJ.le h2
  simp only[Z3t];omega
theorem ZdJ.app{X:Array Keyed}:∀{L M:List ZpT}{a e:Nat},ZdJ R Ok X a (L++M) e ↔ ∃q,ZdJ R Ok X a L q/\ZdJ R Ok X q M e
 |[],M,a,e=>⟨fun h=>⟨a,rfl,h⟩,fun⟨q,h1,h2⟩=>by have h1:a=q:=h1;subst h1;exact h2⟩
 |(c,n,p)::L,M,a,e=>by
  show (c=a/\0<n/\UpS R Ok X c n/\ZdJ R Ok X (a+n) (L++M) e) ↔ ∃q,(c=a/\0<n/\UpS R Ok X c n/\ZdJ R Ok X (a+n) L q)/\ZdJ R Ok X q M e
  constructor
  ·rintro⟨h1,h2,h3,h4⟩
   obtain⟨q,q1,q2⟩:=ZdJ.app.mp h4
   exact⟨q,⟨h1,h2,h3,q1⟩,q2⟩
  ·rintro⟨q,⟨h1,h2,h3,h4⟩,q2⟩
   exact⟨h1,h2,h3,ZdJ.app.mpr ⟨q,h4,q2⟩⟩
theorem Up.stir{X Y:Array Keyed}{lo m c n:Nat}(h:Up R X c n)(t:Zdo X Y lo m)(d:c+n<=lo\/lo+m<=c):Up R Y c n:=fun i j hij hj=>by
 rw[Zb5 (t.out (c+j) (by omega)),Zb5 (t.out (c+i) (by omega))]
 exact h i j hij hj
theorem UpS.stir{X Y:Array Keyed}{lo m c n:Nat}(h:UpS R Ok X c n)(t:Zdo X Y lo m)(d:c+n<=lo\/lo+m<=c):UpS R Ok Y c n:=⟨h.1.stir t d,t.sep (by omega) h.2⟩
theorem ZdJ.stir{X Y:Array Keyed}{lo m:Nat}(t:Zdo X Y lo m):∀{L:List ZpT}{a e:Nat},ZdJ R Ok X a L e->(e<=lo\/lo+m<=a)->ZdJ R Ok Y a L e
 |[],a,e,h,_=>h
 |(c,n,p)::L,a,e,h,d=>by
  obtain⟨h1,h2,h3,h4⟩:=h
  have:=ZdJ.le h4
  exact⟨h1,h2,h3.stir t (by omega),ZdJ.stir t h4 (by omega)⟩
theorem Up.srt{X:Array Keyed}{c n:Nat}(h:Up R X c n)(hs:c+n<=X.size):Srt R ((X.toList.drop c).take n):=by
 refine Z4u.mpr fun i j hi hj hij=>?_
 have hi':i<n:=by rw[Z3X] at hi;omega
 have hj':j<n:=by rw[Z3X] at hj;omega
 have e:∀t,t<n->∀ht,((X.toList.drop c).take n)[t]'ht=gA X (c+t):=fun t htn ht=>by
  have h1:((X.toList.drop c).take n)[t]?=some (gA X (c+t)):=by
   rw[Z4n,if_pos htn,Z4o,Z3I,Zii (by omega)]
  rw[Z3r ht] at h1
  exact Option.some.inj h1
 rw[e i hi' hi,e j hj' hj]
 exact h i j hij hj'
theorem Srt.up{X:Array Keyed}{c n:Nat}{pre W post:List Keyed}(hX:X.toList=pre++(W++post))(lp:pre.length=c)(lW:W.length=n)(h:Srt R W):Up R X c n:=fun i j hij hj=>by
 have g:∀t (ht:t<n),gA X (c+t)=W[t]'(by omega):=fun t ht=>by
  refine Zp3 ?_
  rw[<- Z3I,hX,Z34 (by omega),lp,show c+t-c=t by omega,Z3x (by omega),Z3r (by omega)]
 rw[g i (by omega),g j hj]
 exact Z4u.mp h i j (by omega) (by omega) hij
variable {κ:SortKind}{U:Keyed->Prop}
structure RSt(κ:SortKind)(U:Keyed->Prop)(R:Keyed->Keyed->Bool)(Ok:Keyed->Keyed->Prop)(X:Array Keyed)(lo hi:Nat)(st':SortSt):Prop where
 kd:kindOf st'=κ
 fl:failedOf st'=none
 pm:(arrOf st').Perm X
 us:ZpY U (arrOf st')
 rn:ZdJ R Ok (arrOf st') 0 (pendingOf st').toList lo
 le:lo<=X.size
 lh:lo<=hi
 sp:∀e,e=lo\/hi<=e->Sep Ok (arrOf st') e
theorem RSt.sz{X:Array Keyed}{lo hi:Nat}{st':SortSt}(h:RSt κ U R Ok X lo hi st'):(arrOf st').size=X.size:=h.pm.size_eq
theorem ZdJ.mod{X:Array Keyed}{f:ZpT->ZpT}(hf:∀c n p,∃p',f (c,n,p)=(c,n,p')):∀{L:List ZpT}{a e:Nat},ZdJ R Ok X a L e->∀i,ZdJ R Ok X a (L.modify i f) e
 |[],a,e,h,i=>by simpa using h
 |(c,n,p)::L,a,e,h,0=>by
  obtain⟨p',hp'⟩:=hf c n p
  rw[List.modify_zero_cons,hp']
  exact h
 |(c,n,p)::L,a,e,h,i+1=>by
  rw[List.modify_succ_cons]
  exact⟨h.1,h.2.1,h.2.2.1,ZdJ.mod hf h.2.2.2 i⟩
end
end L2
namespace L2
open PySem PySem.Spec PyProof.Rows
section
end
def Zsc(h:Heap)(d:Addr)(es:Array DictEntry)(ep:Nat):Prop:=∃o,h.get? d=some o/\o.ExactDict/\o.data=.dict es ep
theorem Zsc.at{h h':Heap}{d:Addr}{es:Array DictEntry}{ep:Nat}(x:Zsc h d es ep)(k:∀o,h.get? d=some o->h'.get? d=some o):Zsc h' d es ep:=by
 obtain⟨o,e,r⟩:=x
 exact⟨o,k o e,r⟩
section
variable {s:Shared}{d:Addr}{es:Array DictEntry}{ep:Nat}
theorem Zsc.ty(x:Zsc s.heap d es ep):s.TypeIs (.ref d) "dict":=by
 obtain⟨o,e,r,_⟩:=x
 exact⟨o,e,r.1⟩
end
end L2
namespace My
open L2
noncomputable def ZhI(ns:List Int):Int:=2+ZlB ns 0/4%5
noncomputable def ZrQ(ns:List Int)(most:Int):List Int:=
 if ZlB ns 0%16=7 then (List.range (ZhI ns).toNat).map fun(j:Nat)=>(ZoJ ns 3 (ZhI ns).toNat).getD j 0%10^58
 else ZsI ns 3 (ZhI ns) (most+1) (decide (ZlB ns 0%2=1))
@[simp] theorem Zo1(ns:List Int)(most:Int):(ZrQ ns most).length=(ZhI ns).toNat:=by unfold ZrQ;split<;>simp
section
end
end My
namespace My
open PySem PySem.Spec PyProof.Rows L2
theorem Zne{xs:List PV}:PV.flat (.tup xs)=PV.flats xs:=by simp[PV.flat]
theorem Zjj{ns:List Int}:PV.flat (.tup (ns.map PV.int))=true:=by rw[Zne];exact Zb6
theorem Zlm(t:List Int):PV.flat (ZtL t)=true:=Zjj
section
variable {κ:Type} [DecidableEq κ]
end
section
end
end My
namespace My
open L2
noncomputable def ZsS(ns:List Int)(k:Int)(i:Nat):List Int:=tab ns.length fun x=>if (((x:Int)-k)%(ns.length:Int)).toNat<i then ns.getD (((x:Int)-k)%(ns.length:Int)).toNat 0 else 0
@[simp] theorem ZnP(ns:List Int)(k:Int)(i:Nat):(ZsS ns k i).length=ns.length:=JW _ _
end My
namespace L2
end L2
namespace My
open L2
end My
namespace L2
end L2
namespace L2
open PySem
theorem min_ex:∀(ts:List (List Int)),ts≠[]->∃t,Zsl ts t
 |[],h=>absurd rfl h
 |[t],_=>⟨t,by simp,fun u hu=>by rw[Z38.mp hu];exact HL.Vz t⟩
 |t::u::ts,_=>by
  obtain⟨m,h1,h2⟩:=min_ex (u::ts) (by simp)
  cases e:HT.Vh t m with
  |true =>
   refine⟨t,by simp,fun v hv=>?_⟩
   rcases Z3v.mp hv with rfl|hv
   ·exact HL.Vz _
   ·cases e2:HT.Vh v t with
    |false=>rfl
    |true =>
     have:=HL.Ql e2 e
     rw[h2 v hv] at this;cases this
  |false =>
   refine⟨m,Z39 _ h1,fun v hv=>?_⟩
   rcases Z3v.mp hv with rfl|hv
   ·exact e
   ·exact h2 v hv
end L2
namespace My
open PySem L2
theorem Zey{b:List Int}{p:Int}{x:Nat}(hx:x<b.length):(ZdL b p).getD x 0=Zgh b p (b.getD p.toNat 0%b.length) x:=by
 unfold ZdL tab
 rw[Z3n,Z3A,Z3U hx];rfl
end My
namespace L2
def Pat(a:List Int):Prop:=(∀x∈a,x=0\/x=1)/\1<=a.length/\a.length<=60/\(0:Int)∈a
theorem Pat.get{a:List Int}(h:Pat a)(i:Nat):a.getD i 0=0\/a.getD i 0=1:=by
 by_cases hi:i<a.length
 ·exact h.1 _ (Zb4 hi)
 ·exact .inl (Zdk (by omega))
theorem Pat.nn{a:List Int}(h:Pat a):∀x∈a,0<=x:=fun x hx=>by rcases h.1 x hx with z|z<;>omega
end L2
namespace My
open PySem L2
noncomputable def ZoK(s:Int):Nat->Int
 |0=>s
 |k+1=>ZoK s k*16807%2147483647
noncomputable def Ztu(s:Int)(m:Nat):List Int:=(List.range m).map fun(k:Nat)=>ZoK s (k+1)*ZoK s (k+1)
@[simp] theorem Zp1(s:Int)(m:Nat):(Ztu s m).length=m:=by simp[Ztu]
noncomputable def Zlj(fs ns:List Int)(m:Nat):Nat->List Int
 |0=>fs
 |i+1=>(Zlj fs ns m i).set (i%m) (((Zlj fs ns m i).getD (i%m) 0+ns.getD i 0)%(10^60+1))
@[simp] theorem ZfN(fs ns:List Int)(m:Nat):∀i,(Zlj fs ns m i).length=fs.length
 |0=>rfl
 |i+1=>by rw[Zlj,Z43,ZfN fs ns m i]
noncomputable def Zoo(ns:List Int)(m:Nat):List Int:=Zlj (Ztu (ZnH ns) m) ns m ns.length
@[simp] theorem ZmQ(ns:List Int)(m:Nat):(Zoo ns m).length=m:=by unfold Zoo;simp
def Wide(ns:List Int):Prop:=∀x∈ns,0<=x/\x<=10^60
theorem Wide.get{ns:List Int}(h:Wide ns)(i:Nat):0<=ns.getD i 0/\ns.getD i 0<=10^60:=by
 by_cases c:i<ns.length
 ·exact h _ (Zb4 c)
 ·rw[Zdk (by omega)];exact⟨Z4M _,by decide⟩
end My
namespace My
open L2
theorem Zuq:∀{x y:List Int},HT.Vh x y=true->∃i,i<y.length/\(∀j,j<i->x.getD j 0=y.getD j 0)/\(x.getD i 0<y.getD i 0\/x.length<=i)
 |[],[],h=>by simp[HT.Vh] at h
 |[],b::y,h=>⟨0,by simp,by simp,.inr (by simp)⟩
 |a::x,[],h=>by simp[HT.Vh] at h
 |a::x,b::y,h=>by
  rw[HT.Vp] at h
  by_cases e:a=b
  ·rw[if_pos e] at h
   obtain⟨i,h1,h2,h3⟩:=Zuq h
   refine⟨i+1,by simp;exact h1,fun j hj=>?_, ?_⟩
   ·cases j with
    |zero=>simpa using e
    |succ j=>simpa using h2 j (by omega)
   ·rcases h3 with z|z
    ·exact .inl (by simpa using z)
    ·exact .inr (by simpa using z)
  ·rw[if_neg e] at h
   exact⟨0,by simp,by simp,.inl (by simpa using h)⟩
theorem ZkN:∀{x y:List Int}{i:Nat},i<x.length->i<y.length->(∀j,j<i->x.getD j 0=y.getD j 0)->x.getD i 0<y.getD i 0->HT.Vh x y=true
 |[],_,_,h,_,_,_=>by simp at h
 |_::_,[],_,_,h,_,_=>by simp at h
 |a::x,b::y,0,_,_,_,h=>by
  rw[HT.Vp]
  have h:a<b:=by simpa using h
  rw[if_neg (by omega),decide_eq_true h]
 |a::x,b::y,i+1,h1,h2,h3,h=>by
  rw[HT.Vp,if_pos (by simpa using h3 0 (by omega))]
  exact ZkN (i:=i) (by simpa using h1) (by simpa using h2) (fun j hj=>by simpa using h3 (j+1) (by omega)) (by simpa using h)
theorem min_ex:∀(l:List (List Int×Int)),l≠[]->∃t,ZtG l t
 |[],h=>absurd rfl h
 |a::l,_=>by
  by_cases hl:l=[]
  ·subst hl
   exact⟨a,by simp,fun u hu=>by simp at hu;rw[hu];exact HL.VC a⟩
  ·obtain⟨t,t1,t2⟩:=min_ex l hl
   cases hc:HL.Vq t a with
   |true =>
    refine⟨t,by simp[t1],fun u hu=>?_⟩
    rcases Z3v.mp hu with rfl|hu
    ·cases hd:HL.Vq u t with
     |false=>rfl
     |true=>have:=HL.ZcD hd hc;rw[HL.VC] at this;cases this
    ·exact t2 u hu
   |false =>
    refine⟨a,by simp,fun u hu=>?_⟩
    rcases Z3v.mp hu with rfl|hu
    ·exact HL.VC u
    ·cases hd:HL.Vq u a with
     |false=>rfl
     |true =>
      have h1:=t2 u hu
      by_cases he:t=a
      ·rw[<- he] at hd;rw[h1] at hd;cases hd
      ·have h2:HL.Vq a t=true:=by
        cases h3:HL.Vq a t with
        |true=>rfl
        |false=>exact absurd (Zfz hc h3) he
       have:=HL.ZcD hd h2
       rw[h1] at this;cases this
def Bs(n:Nat)(s:Int)(b:List Int):Prop:=b.length=n/\(∀x∈b,0<=x)/\b.sum=s
theorem Bs.sow{n:Nat}{s:Int}{b:List Int}(h:Bs n s b){p:Int}(h0:0<=p)(h1:p<n):Bs n s (ZdL b p):=by
 obtain⟨l,nn,sm⟩:=h
 refine⟨by rw[Zgn];exact l,fun x hx=>?_,by rw[Zmj h0 (by omega) (Zli nn _)];exact sm⟩
 unfold ZdL tab at hx
 obtain⟨y,hy,rfl⟩:=Z3G.mp hx
 exact ZoM nn _ y (Z4b.mp hy)
theorem ZmJ:∀(n:Nat) (l:List Nat),l.Nodup->(∀x∈l,x<n)->l.length<=n:=by
 intro n
 induction n with
 |zero=>intro l _ h;cases l with
  |nil=>exact Z3u _
  |cons x l=>exact absurd (h x (by simp)) (by omega)
 |succ n ih =>
  intro l hd h
  have e:=ih (l.erase n) (hd.erase n) (fun x hx=>by
   have:=h x (List.mem_of_mem_erase hx)
   have:x≠n:=fun z=>by subst z;exact(List.Nodup.mem_erase_iff hd).mp hx |>.1 rfl
   omega)
  by_cases c:n∈l
  ·rw[List.length_erase_of_mem c] at e;omega
  ·rw[List.erase_of_not_mem c] at e;omega
theorem Zoh{a b:List Int}(hl:a.length=b.length)(hs:a.sum=b.sum)(ha:∀x∈a,0<=x)(hb:∀x∈b,0<=x)(h:HT.Vh a b=true):ZkD a≠ZkD b:=by
 obtain⟨i,i1,i2,i3⟩:=Zuq h
 have:=ZkC hl hs ha hb (fun z=>by rw[z] at hl;simp at hl;omega) ⟨i,by omega,i2,by omega⟩
 unfold ZkD
 rw[hl,hs]
 omega
theorem Zpk{a b:List Int}(hl:a.length=b.length)(hs:a.sum=b.sum)(ha:∀x∈a,0<=x)(hb:∀x∈b,0<=x)(h:ZkD a=ZkD b):a=b:=by
 cases h1:HT.Vh a b with
 |true=>exact absurd h (Zoh hl hs ha hb h1)
 |false =>
  cases h2:HT.Vh b a with
  |true=>exact absurd h.symm (Zoh hl.symm hs.symm hb ha h2)
  |false=>exact HL.Qm h1 h2
theorem ZrP{n:Nat}{s:Int}(hn:1<=n){L:List (List Int)}(nd:L.Nodup)(hL:∀x∈L,Bs n s x):L.length<=(cbN n s).toNat:=by
 have hb:∀x∈L,0<=ZkD x/\ZkD x<cbN n s:=fun x hx=>by
  obtain⟨l,nn,sm⟩:=hL x hx
  have:=Zpl (l:=x) (fun z=>by rw[z] at l;simp at l;omega) nn
  rw[l,sm] at this
  exact this
 have h:=ZmJ (cbN n s).toNat (L.map fun x=>(ZkD x).toNat) (by
  rw[List.nodup_iff_pairwise_ne,List.pairwise_map]
  refine(List.nodup_iff_pairwise_ne.mp nd).imp_of_mem ?_
  intro a b ha hb' hab e
  obtain⟨l,nn,sm⟩:=hL a ha
  obtain⟨l',nn',sm'⟩:=hL b hb'
  have:=hb a ha
  have:=hb b hb'
  exact hab (Zpk (by omega) (by omega) nn nn' (by omega))) (fun z hz=>by
  obtain⟨x,hx,rfl⟩:=Z3G.mp hz
  have:=hb x hx
  omega)
 rw[Z3w] at h
 exact h
inductive Rch(P:List Int)(b:List Int):List Int->Prop
 |refl:Rch P b b
 |step {x:List Int}{p:Int}:Rch P b x->p∈P->0<x.getD p.toNat 0->Rch P b (ZdL x p)
theorem Rch.trans{P a b c:List Int}(h1:Rch P a b)(h2:Rch P b c):Rch P a c:=by
 induction h2 with
 |refl=>exact h1
 |step _ hp hx ih=>exact .step ih hp hx
theorem Rch.bs{P b:List Int}{n:Nat}{s:Int}(hP:∀p∈P,0<=p/\p<n)(hb:Bs n s b){x:List Int}(h:Rch P b x):Bs n s x:=by
 induction h with
 |refl=>exact hb
 |step _ hp hx ih=>exact ih.sow (hP _ hp).1 (hP _ hp).2
noncomputable def Zsv(P:List Int)(x:List Int):List (Int×List Int):=(P.filter fun p=>decide (0<x.getD p.toNat 0)).map fun p=>(p,ZdL x p)
theorem Zh8{P x:List Int}{y:Int×List Int}:y∈Zsv P x ↔ y.1∈P/\0<x.getD y.1.toNat 0/\y.2=ZdL x y.1:=by
 unfold Zsv
 constructor
 ·intro h
  obtain⟨p,hp,rfl⟩:=Z3G.mp h
  obtain⟨h1,h2⟩:=Z4d.mp hp
  exact⟨h1,of_decide_eq_true h2,rfl⟩
 ·rintro⟨h1,h2,h3⟩
  refine Z3G.mpr ⟨y.1,Z4d.mpr ⟨h1,decide_eq_true h2⟩, ?_⟩
  rw[<- h3]
noncomputable abbrev NB:=List (List Int)×List (List Int)×List PV
noncomputable def stB(x:List Int)(st:NB)(y:Int×List Int):NB:=if y.2∈st.2.1 then st else (st.1++[y.2],st.2.1++[y.2],st.2.2++[.tup [ZtL x,.int y.1]])
noncomputable def bdB(P x:List Int)(st:NB):NB:=(Zsv P x).foldl (stB x) st
noncomputable def lvB(P:List Int)(lv:List (List Int))(st:NB):NB:=lv.foldl (fun st x=>bdB P x st) st
structure Fo(R:List Int->Prop)(bs0:List (List Int))(st:NB):Prop where
 app:st.2.1=bs0++st.1
 nd:st.2.1.Nodup
 re:∀x∈st.2.1,R x
 ln:st.2.2.length=st.2.1.length
 fl:PV.flats st.2.2=true
theorem Zem:∀(xs:List PV) (y:PV),PV.flats xs=true->PV.flat y=true->PV.flats (xs++[y])=true
 |[],y,_,h=>by simp[PV.flats,h]
 |x::xs,y,h1,h2=>by
  simp only[PV.flats,Bool.and_eq_true] at h1
  simp only[Z4k,PV.flats,Bool.and_eq_true]
  exact⟨h1.1,Zem xs y h1.2 h2⟩
section
variable {R:List Int->Prop}{bs0:List (List Int)}{st:NB}
theorem Fo.one(h:Fo R bs0 st){x:List Int}{y:Int×List Int}(hy:R y.2):Fo R bs0 (stB x st y)/\(∀z∈st.2.1,z∈(stB x st y).2.1)/\y.2∈(stB x st y).2.1:=by
 unfold stB
 split
 ·rename_i c
  exact⟨h,fun z hz=>hz,c⟩
 ·rename_i c
  refine⟨⟨by simp[h.app], ?_,fun z hz=>?_,by simp[h.ln], ?_⟩,fun z hz=>by simp[hz],by simp⟩
  ·show (st.2.1++[y.2]).Nodup
   rw[List.nodup_append]
   refine⟨h.nd,by simp,fun a ha b hb e=>?_⟩
   rw[Z38.mp hb] at e
   rw[e] at ha
   exact c ha
  ·rcases Z3q.mp hz with hz|hz
   ·exact h.re z hz
   ·rw[Z38.mp hz];exact hy
  ·exact Zem _ _ h.fl (by simp only[PV.flat,PV.flats,Zlm,Bool.and_self])
theorem Fo.fold{x:List Int}:∀{L:List (Int×List Int)}{st:NB},Fo R bs0 st->(∀y∈L,R y.2)->Fo R bs0 (L.foldl (stB x) st)/\(∀z∈st.2.1,z∈(L.foldl (stB x) st).2.1)/\∀y∈L,y.2∈(L.foldl (stB x) st).2.1
 |[],st,h,_=>⟨h,fun z hz=>hz,by simp⟩
 |y::L,st,h,hL=>by
  obtain⟨a1,a2,a3⟩:=h.one (x:=x) (hL y (by simp))
  obtain⟨b1,b2,b3⟩:=Fo.fold (x:=x) (L:=L) a1 fun z hz=>hL z (by simp[hz])
  refine⟨b1,fun z hz=>b2 z (a2 z hz),fun z hz=>?_⟩
  rcases Z3v.mp hz with rfl|hz
  ·exact b2 _ a3
  ·exact b3 z hz
end
section
variable {P b:List Int}{bs0:List (List Int)}
theorem Fo.lv:∀{lv:List (List Int)}{st:NB},Fo (Rch P b) bs0 st->(∀x∈lv,Rch P b x)->Fo (Rch P b) bs0 (lvB P lv st)/\(∀z∈st.2.1,z∈(lvB P lv st).2.1)/\∀x∈lv,∀p∈P,0<x.getD p.toNat 0->ZdL x p∈(lvB P lv st).2.1
 |[],st,h,_=>⟨h,fun z hz=>hz,by simp⟩
 |x::lv,st,h,hL=>by
  obtain⟨a1,a2,a3⟩:=Fo.fold (x:=x) (L:=Zsv P x) h fun y hy=>by
   obtain⟨h1,h2,h3⟩:=Zh8.mp hy
   rw[h3]
   exact .step (hL x (by simp)) h1 h2
  obtain⟨b1,b2,b3⟩:=Fo.lv (lv:=lv) a1 fun z hz=>hL z (by simp[hz])
  refine⟨b1,fun z hz=>b2 z (a2 z hz),fun z hz p hp hx=>?_⟩
  rcases Z3v.mp hz with rfl|hz
  ·exact b2 _ (a3 (p,ZdL z p) (Zh8.mpr ⟨hp,hx,rfl⟩))
  ·exact b3 z hz p hp hx
end
noncomputable def wk(P b:List Int):Nat->NB
 |0=>([b],[b],[.non])
 |i+1=>lvB P (wk P b i).1 ([],(wk P b i).2)
structure Wk(P b:List Int)(st:NB):Prop where
 nd:st.2.1.Nodup
 re:∀x∈st.2.1,Rch P b x
 sub:∀x∈st.1,x∈st.2.1
 cl:∀x∈st.2.1,x∈st.1\/∀p∈P,0<x.getD p.toNat 0->ZdL x p∈st.2.1
 bg:b∈st.2.1
 ln:st.2.2.length=st.2.1.length
 fl:PV.flats st.2.2=true
theorem Zj8(P b:List Int):∀i,Wk P b (wk P b i)
 |0=>⟨by simp[wk],fun x hx=>by rw[Z38.mp hx];exact .refl,fun x hx=>hx,fun x hx=>.inl hx,by simp[wk],rfl,rfl⟩
 |i+1=>by
  have h:=Zj8 P b i
  have f0:Fo (Rch P b) (wk P b i).2.1 ([],(wk P b i).2):=⟨by simp,h.nd,h.re,h.ln,h.fl⟩
  obtain⟨a1,a2,a3⟩:=Fo.lv f0 fun x hx=>h.re x (h.sub x hx)
  show Wk P b (lvB P (wk P b i).1 ([],(wk P b i).2))
  refine⟨a1.nd,a1.re,fun x hx=>?_,fun x hx=>?_,a2 _ h.bg,a1.ln,a1.fl⟩
  ·rw[a1.app];exact Z3q.mpr (.inr hx)
  ·rw[a1.app] at hx
   rcases Z3q.mp hx with hx|hx
   ·right
    intro p hp hp0
    rcases h.cl x hx with c|c
    ·exact a3 x c p hp hp0
    ·exact a2 _ (c p hp hp0)
   ·exact .inl hx
theorem Zqy(P b:List Int)(i:Nat):(wk P b (i+1)).2.1=(wk P b i).2.1++(wk P b (i+1)).1:=by
 have h:=Zj8 P b i
 have f0:Fo (Rch P b) (wk P b i).2.1 ([],(wk P b i).2):=⟨by simp,h.nd,h.re,h.ln,h.fl⟩
 exact(Fo.lv f0 fun x hx=>h.re x (h.sub x hx)).1.app
theorem Zn7(P b:List Int):∀i,(∀j,j<=i->(wk P b j).1≠[])->i+1<=(wk P b i).2.1.length
 |0,_=>by simp[wk]
 |i+1,h=>by
  have ih:=Zn7 P b i fun j hj=>h j (by omega)
  rw[Zqy,Z3y]
  have:=Z4i.mpr (h (i+1) (Z3u _))
  omega
noncomputable def wkN(P b:List Int):Nat:=((List.range 1001).find? fun i=>(wk P b i).1.isEmpty).getD 0
structure ZlS(n:Nat)(s:Int)(P b:List Int):Prop where
 n1:1<=n
 hP:∀p∈P,0<=p/\p<n
 hb:Bs n s b
 few:cbN n s<=1000
theorem ZlS.le{n:Nat}{s:Int}{P b:List Int}(h:ZlS n s P b)(i:Nat):(wk P b i).2.1.length<=1000:=by
 have:=ZrP h.n1 (Zj8 P b i).nd fun x hx=>((Zj8 P b i).re x hx).bs h.hP h.hb
 have:=h.few
 omega
theorem ZlS.end{n:Nat}{s:Int}{P b:List Int}(h:ZlS n s P b):wkN P b<=1000/\(wk P b (wkN P b)).1=[]/\∀j,j<wkN P b->(wk P b j).1≠[]:=by
 have hex:∃i,i<1001/\(wk P b i).1=[]:=by
  apply Classical.byContradiction
  intro c
  have:=Zn7 P b 1000 fun j hj e=>c ⟨j,by omega,e⟩
  have:=h.le 1000
  omega
 obtain⟨t,t1,t2⟩:=hex
 unfold wkN
 cases hf:(List.range 1001).find? fun i=>(wk P b i).1.isEmpty with
 |none =>
  have:=List.find?_eq_none.mp hf t (Z4b.mpr t1)
  rw[t2] at this
  exact absurd rfl this
 |some q =>
  obtain⟨q1,q2,q3⟩:=List.find?_range_eq_some.mp hf
  refine⟨by have:=Z4b.mp q2;simp only[Z4v];omega,List.isEmpty_iff.mp q1,fun j hj e=>?_⟩
  have:=q3 j hj
  simp[e] at this
noncomputable def Zud(P b:List Int):List (List Int):=(wk P b (wkN P b)).2.1
theorem ZlS.mem{n:Nat}{s:Int}{P b:List Int}(h:ZlS n s P b){x:List Int}:x∈Zud P b ↔ Rch P b x:=by
 have W:=Zj8 P b (wkN P b)
 have e:=h.end.2.1
 constructor
 ·exact fun hx=>W.re x hx
 ·intro hx
  induction hx with
  |refl=>exact W.bg
  |step _ hp h0 ih =>
   rcases W.cl _ ih with c|c
   ·rw[e] at c;cases c
   ·exact c _ hp h0
theorem ZlS.go{n:Nat}{s:Int}{P b:List Int}(h:ZlS n s P b){x:List Int}(hx:Rch P b x):ZlS n s P x:=⟨h.n1,h.hP,hx.bs h.hP h.hb,h.few⟩
noncomputable def endB(P x:List Int):Bool:=P.all fun p=>decide (x.getD p.toNat 0=0)
theorem Znh{P x:List Int}:endB P x=true ↔ ∀p∈P,x.getD p.toNat 0=0:=by
 unfold endB
 rw[Z36]
 exact⟨fun h p hp=>of_decide_eq_true (h p hp),fun h p hp=>decide_eq_true (h p hp)⟩
noncomputable def Zhf(n:Nat)(s:Int)(q:Nat)(x:List Int):List Int:=(s-x.getD q 0)::(List.range n).map fun(j:Nat)=>x.getD ((q+1+j)%n) 0
theorem Zdl{n:Nat}{s:Int}{q:Nat}{x:List Int}{j:Nat}(h:j<n):(Zhf n s q x).getD (j+1) 0=x.getD ((q+1+j)%n) 0:=by
 unfold Zhf
 rw[List.getD_cons_succ,Z3n,Z3A,Z3U h];rfl
theorem ZjQ{n:Nat}{s:Int}{x:List Int}(h:Bs n s x){q:Nat}(hq:q<n){p:Int}(p0:0<=p)(p1:p<n)(hpq:p≠q)(hx:0<x.getD p.toNat 0):HT.Vh (Zhf n s q (ZdL x p)) (Zhf n s q x)=true:=by
 obtain⟨l,nn,sm⟩:=h
 have hn:(0:Int)<n:=by omega
 have hpN:p.toNat<n:=by omega
 have gq:(ZdL x p).getD q 0=Zgh x p (x.getD p.toNat 0%x.length) q:=Zey (by omega)
 have d0:=Z4K (Int.le_of_lt hx) (show (0:Int)<=x.length by omega)
 have i0:=ZjR x.length p (x.getD p.toNat 0%x.length) q
 have hqa:(ZdL x p).getD q 0=x.getD q 0+x.getD p.toNat 0/x.length+ZoL x.length p (x.getD p.toNat 0%x.length) q:=by
  rw[gq];unfold Zgh;rw[Zgo (by omega)]
 have hlen:∀y,(Zhf n s q y).length=n+1:=fun y=>by simp[Zhf]
 by_cases c:x.getD q 0<(ZdL x p).getD q 0
 ·refine ZkN (i:=0) (by rw[hlen];omega) (by rw[hlen];omega) (by omega) ?_
  show s-(ZdL x p).getD q 0<s-x.getD q 0
  omega
 ·have e0:(ZdL x p).getD q 0=x.getD q 0:=by omega
  have ed:x.getD p.toNat 0/x.length=0:=by omega
  have ei:ZoL x.length p (x.getD p.toNat 0%x.length) q=0:=by omega
  have hov:x.getD p.toNat 0%x.length=x.getD p.toNat 0:=by
   have:=Int.mul_ediv_add_emod (x.getD p.toNat 0) x.length
   rw[ed,Int.mul_zero] at this
   omega
  have hj:∃j:Nat,j<n/\(q+1+j)%n=p.toNat:=by
   by_cases c2:q<p.toNat
   ·exact⟨p.toNat-q-1,by omega,by rw[show q+1+(p.toNat-q-1)=p.toNat by omega];exact Z3Y hpN⟩
   ·refine⟨p.toNat+n-q-1,by omega, ?_⟩
    rw[show q+1+(p.toNat+n-q-1)=p.toNat+n by omega,Nat.add_mod_right]
    exact Z3Y hpN
  obtain⟨j,j1,j2⟩:=hj
  have hdq:¬(((q:Int)-p)%x.length<=x.getD p.toNat 0):=fun z=>by
   have hne:((q:Int)-p)%x.length≠0:=by
    rw[l]
    intro z
    have m2:=ZeB (n:=n) (show (0:Int)<=(q:Int) by omega) (by omega) p0 p1
    rw[m2] at z
    split at z<;>omega
   have h1:=Int.emod_nonneg ((q:Int)-p) (show (x.length:Int)≠0 by omega)
   rw[Zdb ⟨by omega,by rw[hov];exact z⟩] at ei
   omega
  refine ZkN (i:=j+1) (by rw[hlen];omega) (by rw[hlen];omega) (fun k hk=>?_) ?_
  ·cases k with
   |zero=>show s-(ZdL x p).getD q 0=s-x.getD q 0;omega
   |succ k =>
    rw[Zdl (by omega),Zdl (by omega)]
    have hr:(q+1+k)%n<n:=Nat.mod_lt _ (by omega)
    rw[Zey (by omega)]
    unfold Zgh
    have hkj:k<j:=by omega
    generalize hr':(q+1+k)%n=r at hr
    have hrp:(r:Int)≠p:=fun z=>by
     have e1:(q+1+k)%n=(q+1+j)%n:=by omega
     have e2:=Nat.sub_mod_eq_zero_of_mod_eq e1.symm
     rw[show q+1+j-(q+1+k)=j-k by omega,Z3Y (by omega)] at e2
     omega
    rw[Zgo hrp,ed,ZbE (fun z=>?_)]
    ·omega
    ·apply hdq
     have z2:=z.2
     rw[hov] at z2
     rw[l] at z2 ⊢
     have m1:=ZeB (n:=n) (show (0:Int)<=(r:Int) by omega) (by omega) p0 p1
     have m2:=ZeB (n:=n) (show (0:Int)<=(q:Int) by omega) (by omega) p0 p1
     have b1:=hr'
     have b2:=j2
     have w1:(q+1+k)%n=if q+1+k<n then q+1+k else q+1+k-n:=by
      split
      ·exact Z3Y (by omega)
      ·rw[Nat.mod_eq_sub_mod (by omega)];exact Z3Y (by omega)
     have w2:(q+1+j)%n=if q+1+j<n then q+1+j else q+1+j-n:=by
      split
      ·exact Z3Y (by omega)
      ·rw[Nat.mod_eq_sub_mod (by omega)];exact Z3Y (by omega)
     rw[w1] at b1
     rw[w2] at b2
     rw[m1] at z2
     rw[m2]
     split at b1<;>split at b2<;>split at z2<;>split<;>omega
  ·rw[Zdl j1,Zdl j1,j2,Zey (by omega)]
   unfold Zgh
   rw[ZnJ (by omega),ed,ZbE (by
    intro z
    have:=z.1
    rw[show ((p.toNat:Nat):Int)-p=0 by omega,Int.zero_emod] at this
    omega)]
   omega
theorem ZlS.ends{n:Nat}{s:Int}{P b:List Int}(h:ZlS n s P b){q:Nat}(hq:q<n)(hqP:(q:Int) ∉ P):∃x,Rch P b x/\endB P x=true:=by
 obtain⟨t,ht,hmin⟩:=L2.min_ex ((Zud P b).map (Zhf n s q)) (fun z=>by
  have:=h.mem.mpr (.refl (P:=P) (b:=b))
  rw[List.map_eq_nil_iff.mp z] at this
  cases this)
 obtain⟨x,hx,rfl⟩:=Z3G.mp ht
 have rx:=h.mem.mp hx
 refine⟨x,rx,Znh.mpr fun p hp=>?_⟩
 have B:=rx.bs h.hP h.hb
 have hp':=h.hP p hp
 have nn:=Zli B.2.1 p.toNat
 apply Classical.byContradiction
 intro c
 have h0:0<x.getD p.toNat 0:=by omega
 have h1:=hmin _ (Z3G.mpr ⟨ZdL x p,h.mem.mpr (.step rx hp h0),rfl⟩)
 rw[ZjQ B hq hp'.1 hp'.2 (fun z=>by rw[z] at hp;exact hqP hp) h0] at h1
 cases h1
end My
namespace My
open PySem L2
set_option hygiene false
local macro_rules | `(tactic| walk_at "pu")=>`(tactic| try simp -implicitDefEqProofs only[Zlb,Zlc,List.set_cons_zero,Z4P,Z4k,Z41,Z3Q,List.replicate_zero,Z4h,Rr.bind_ok,Rr.bind_exc,Rr.bind_bad,Rr.thenS_ok,Rr.thenS_exc,Rr.thenS_bad,RS.seq_next,RS.seq_ret,RS.seq_brk,RS.seq_cont,RS.seq_exc,RS.seq_bad,RS.out_next,RS.out_ret,RS.out_exc,
 Zk4,Zkn,ZnS,ZnT,Zoa,Zob,Zlg,Zot,Zle,Zlf,Zo2,ZlK,ZlL,ZkY,ZnY,ZnZ,ZnX,ZnV,ZnW,Zks,ZnU,Zkw,Zif,Zig,Zie,Zid,Zk0,Zdf,ZhP,Zf1,Zf0,Z3t,Z3F,Bool.not_true,Bool.not_false,Bool.false_eq_true,if_true,if_false,Nat.reduceAdd,Nat.reduceSub,id,Z31,Z4f,Int.reduceToNat,Zej,Zku,Zrf,Zoj,Zoi,ZrU,Zih,ZhW,Nat.reduceLeDiff,Z3u,Int.reduceLT,Int.reduceLE,Int.reduceEq,decide_true,decide_false])
set_option hygiene true
seal PE PT PA PS PSs DE DT DAA DAF DS
noncomputable def top(i:Nat):Stmt:=PySem.Challenge.pw_sowring_k65_questions_refused.main.body.getD i (.Pass ⟨0,0,0,0⟩)
noncomputable abbrev Zyj:Stmt:=top 143
theorem Z1X:Zr ["script", "k"] ["script", "k"] (Zm Zyj):=⟨rfl,rfl,rfl,by decide +kernel,rfl,by decide +kernel,by decide +kernel⟩
theorem Z2y:Zq "_law_at" Zyj ["script", "k"]:=fun _ _ _ _ _ _ us hl=>by obtain⟨_,_,rfl⟩:=us2 hl;rfl
noncomputable abbrev ZxE:Stmt:=top 21
theorem Z1i:Zr ["value"] ["value"] (Zm ZxE):=⟨rfl,rfl,rfl,by decide +kernel,rfl,by decide +kernel,by decide +kernel⟩
theorem Z1D:Zq "is_whole" ZxE ["value"]:=fun _ _ _ _ _ _ us hl=>by obtain⟨_,rfl⟩:=us1 hl;rfl
noncomputable abbrev Zwg:Stmt:=top 22
theorem ZyA:Zr ["value", "least"] ["value", "least"] (Zm Zwg):=⟨rfl,rfl,rfl,by decide +kernel,rfl,by decide +kernel,by decide +kernel⟩
theorem Zw6:Zq "is_whole_from" Zwg ["value", "least"]:=fun _ _ _ _ _ _ us hl=>by obtain⟨_,_,rfl⟩:=us2 hl;rfl
noncomputable abbrev Zvg:Stmt:=top 23
theorem Zwm:Zr ["values"] ["values"] (Zm Zvg):=⟨rfl,rfl,rfl,by decide +kernel,rfl,by decide +kernel,by decide +kernel⟩
theorem ZvB:Zq "is_list_from_nought" Zvg ["values"]:=fun _ _ _ _ _ _ us hl=>by obtain⟨_,rfl⟩:=us1 hl;rfl
noncomputable abbrev ZwY:Stmt:=top 20
theorem ZzM:Zr [] [] (Zm ZwY):=⟨rfl,rfl,rfl,by decide +kernel,rfl,by decide +kernel,by decide +kernel⟩
theorem Zyq:Zq "most_seeds" ZwY []:=fun _ _ _ _ _ _ us hl=>match us,hl with | [],_=>rfl
noncomputable abbrev ZxG:Stmt:=top 24
theorem Z1k:Zr ["board"] ["board"] (Zm ZxG):=⟨rfl,rfl,rfl,by decide +kernel,rfl,by decide +kernel,by decide +kernel⟩
theorem Z1F:Zq "is_board" ZxG ["board"]:=fun _ _ _ _ _ _ us hl=>by obtain⟨_,rfl⟩:=us1 hl;rfl
noncomputable abbrev ZwC:Stmt:=top 25
theorem Zzm:Zr ["board"] ["board"] (Zm ZwC):=⟨rfl,rfl,rfl,by decide +kernel,rfl,by decide +kernel,by decide +kernel⟩
theorem Zv9:Zq "check_board" ZwC ["board"]:=fun _ _ _ _ _ _ us hl=>by obtain⟨_,rfl⟩:=us1 hl;rfl
noncomputable abbrev Zvn:Stmt:=top 105
theorem Zx0:Zr ["word"] ["word"] (Zm Zvn):=⟨rfl,rfl,rfl,by decide +kernel,rfl,by decide +kernel,by decide +kernel⟩
theorem Zx8:Zq "number_or_too_many" Zvn ["word"]:=fun _ _ _ _ _ _ us hl=>by obtain⟨_,rfl⟩:=us1 hl;rfl
noncomputable abbrev Zxs:Stmt:=top 104
theorem Zy3:Zr ["word"] ["word"] (Zm Zxs):=⟨rfl,rfl,rfl,by decide +kernel,rfl,by decide +kernel,by decide +kernel⟩
theorem Zx9:Zq "is_number" Zxs ["word"]:=fun _ _ _ _ _ _ us hl=>by obtain⟨_,rfl⟩:=us1 hl;rfl
noncomputable abbrev ZwX:Stmt:=top 103
theorem Zw7:Zr ["text", "words", "board"] ["text"] (Zm ZwX):=⟨rfl,rfl,rfl,by decide +kernel,rfl,by decide +kernel,by decide +kernel⟩
theorem Z0j:Zq "read_board" ZwX ["text"]:=fun _ _ _ _ _ _ us hl=>by obtain⟨_,rfl⟩:=us1 hl;rfl
noncomputable abbrev Zx3:Stmt:=top 137
theorem ZwG:Zr ["value"] ["value"] (Zm Zx3):=⟨rfl,rfl,rfl,by decide +kernel,rfl,by decide +kernel,by decide +kernel⟩
theorem ZzG:Zq "copy_of" Zx3 ["value"]:=fun _ _ _ _ _ _ us hl=>by obtain⟨_,rfl⟩:=us1 hl;rfl
noncomputable abbrev Zwf:Stmt:=top 141
theorem ZxO:Zr ["text", "below"] ["text", "below"] (Zm Zwf):=⟨rfl,rfl,rfl,by decide +kernel,rfl,by decide +kernel,by decide +kernel⟩
theorem ZxQ:Zq "read_number" Zwf ["text", "below"]:=fun _ _ _ _ _ _ us hl=>by obtain⟨_,_,rfl⟩:=us2 hl;rfl
noncomputable abbrev ZxF:Stmt:=top 140
theorem Z1j:Zr ["board", "word", "count"] ["board", "word", "count"] (Zm ZxF):=⟨rfl,rfl,rfl,by decide +kernel,rfl,by decide +kernel,by decide +kernel⟩
theorem Z1E:Zq "is_count" ZxF ["board", "word", "count"]:=fun _ _ _ _ _ _ us hl=>by obtain⟨_,_,_,rfl⟩:=us3 hl;rfl
noncomputable abbrev ZyJ:Stmt:=top 26
theorem Z28:Zr ["board", "pit"] ["board", "pit"] (Zm ZyJ):=⟨rfl,rfl,rfl,by decide +kernel,rfl,by decide +kernel,by decide +kernel⟩
theorem Z0W:Zq "is_pit" ZyJ ["board", "pit"]:=fun _ _ _ _ _ _ us hl=>by obtain⟨_,_,rfl⟩:=us2 hl;rfl
noncomputable abbrev Zxu:Stmt:=top 27
theorem Z0u:Zr ["board", "pit"] ["board", "pit"] (Zm Zxu):=⟨rfl,rfl,rfl,by decide +kernel,rfl,by decide +kernel,by decide +kernel⟩
theorem Zy9:Zq "check_pit" Zxu ["board", "pit"]:=fun _ _ _ _ _ _ us hl=>by obtain⟨_,_,rfl⟩:=us2 hl;rfl
noncomputable abbrev ZvT:Stmt:=top 28
theorem Zyt:Zr ["board", "pit"] ["board", "pit"] (Zm ZvT):=⟨rfl,rfl,rfl,by decide +kernel,rfl,by decide +kernel,by decide +kernel⟩
theorem ZvS:Zq "check_standing" ZvT ["board", "pit"]:=fun _ _ _ _ _ _ us hl=>by obtain⟨_,_,rfl⟩:=us2 hl;rfl
noncomputable abbrev Z1S:Stmt:=top 40
theorem Z2Z:Zr ["board", "pit"] ["board", "pit"] (Zm Z1S):=⟨rfl,rfl,rfl,by decide +kernel,rfl,by decide +kernel,by decide +kernel⟩
theorem Z3d:Zq "sown" Z1S ["board", "pit"]:=fun _ _ _ _ _ _ us hl=>by obtain⟨_,_,rfl⟩:=us2 hl;rfl
noncomputable abbrev Zxm:Stmt:=top 115
theorem Zy0:Zr ["board", "numbers", "answer"] ["board", "numbers"] (Zm Zxm):=⟨rfl,rfl,rfl,by decide +kernel,rfl,by decide +kernel,by decide +kernel⟩
theorem Z0Q:Zq "tell_sown" Zxm ["board", "numbers"]:=fun _ _ _ _ _ _ us hl=>by obtain⟨_,_,rfl⟩:=us2 hl;rfl
noncomputable abbrev ZwW:Stmt:=top 41
theorem ZzL:Zr ["board", "pit"] ["board", "pit"] (Zm ZwW):=⟨rfl,rfl,rfl,by decide +kernel,rfl,by decide +kernel,by decide +kernel⟩
theorem Z0i:Zq "taken_back" ZwW ["board", "pit"]:=fun _ _ _ _ _ _ us hl=>by obtain⟨_,_,rfl⟩:=us2 hl;rfl
noncomputable abbrev Zxp:Stmt:=top 116
theorem Zy1:Zr ["board", "numbers", "answer"] ["board", "numbers"] (Zm Zxp):=⟨rfl,rfl,rfl,by decide +kernel,rfl,by decide +kernel,by decide +kernel⟩
theorem Z0T:Zq "tell_back" Zxp ["board", "numbers"]:=fun _ _ _ _ _ _ us hl=>by obtain⟨_,_,rfl⟩:=us2 hl;rfl
noncomputable abbrev ZwB:Stmt:=top 34
theorem Zzl:Zr ["number", "least", "most"] ["number", "least", "most"] (Zm ZwB):=⟨rfl,rfl,rfl,by decide +kernel,rfl,by decide +kernel,by decide +kernel⟩
theorem Zw1:Zq "check_count" ZwB ["number", "least", "most"]:=fun _ _ _ _ _ _ us hl=>by obtain⟨_,_,_,rfl⟩:=us3 hl;rfl
noncomputable abbrev Zyf:Stmt:=top 42
theorem Zys:Zr ["board", "pit", "steps", "standing", "step"] ["board", "pit", "steps"] (Zm Zyf):=⟨rfl,rfl,rfl,by decide +kernel,rfl,by decide +kernel,by decide +kernel⟩
theorem Z2v:Zq "gone_on" Zyf ["board", "pit", "steps"]:=fun _ _ _ _ _ _ us hl=>by obtain⟨_,_,_,rfl⟩:=us3 hl;rfl
noncomputable abbrev Zye:Stmt:=top 117
theorem ZzD:Zr ["board", "numbers", "answer"] ["board", "numbers"] (Zm Zye):=⟨rfl,rfl,rfl,by decide +kernel,rfl,by decide +kernel,by decide +kernel⟩
theorem Z2u:Zq "tell_on" Zye ["board", "numbers"]:=fun _ _ _ _ _ _ us hl=>by obtain⟨_,_,rfl⟩:=us2 hl;rfl
noncomputable abbrev ZwA:Stmt:=top 97
theorem Zzk:Zr ["board", "pit", "most"] ["board", "pit", "most"] (Zm ZwA):=⟨rfl,rfl,rfl,by decide +kernel,rfl,by decide +kernel,by decide +kernel⟩
theorem Zz6:Zq "check_round" ZwA ["board", "pit", "most"]:=fun _ _ _ _ _ _ us hl=>by obtain⟨_,_,_,rfl⟩:=us3 hl;rfl
noncomputable abbrev ZxD:Stmt:=top 96
theorem ZxS:Zr ["board", "pit", "most", "first", "standings", "standing"] ["board", "pit", "most"] (Zm ZxD):=⟨rfl,rfl,rfl,by decide +kernel,rfl,by decide +kernel,by decide +kernel⟩
theorem Z1C:Zq "round_of" ZxD ["board", "pit", "most"]:=fun _ _ _ _ _ _ us hl=>by obtain⟨_,_,_,rfl⟩:=us3 hl;rfl
noncomputable abbrev ZwS:Stmt:=top 120
theorem Zyb:Zr ["board", "numbers", "standings"] ["board", "numbers"] (Zm ZwS):=⟨rfl,rfl,rfl,by decide +kernel,rfl,by decide +kernel,by decide +kernel⟩
theorem Z0e:Zq "tell_round" ZwS ["board", "numbers"]:=fun _ _ _ _ _ _ us hl=>by obtain⟨_,_,rfl⟩:=us2 hl;rfl
noncomputable abbrev ZvJ:Stmt:=top 109
theorem Zyc:Zr ["board"] ["board"] (Zm ZvJ):=⟨rfl,rfl,rfl,by decide +kernel,rfl,by decide +kernel,by decide +kernel⟩
theorem Zxg:Zq "check_few_seeds" ZvJ ["board"]:=fun _ _ _ _ _ _ us hl=>by obtain⟨_,rfl⟩:=us1 hl;rfl
noncomputable abbrev ZxH:Stmt:=top 108
theorem Z1l:Zr ["board", "pit"] ["board", "pit"] (Zm ZxH):=⟨rfl,rfl,rfl,by decide +kernel,rfl,by decide +kernel,by decide +kernel⟩
theorem Z1G:Zq "gathered" ZxH ["board", "pit"]:=fun _ _ _ _ _ _ us hl=>by obtain⟨_,_,rfl⟩:=us2 hl;rfl
noncomputable abbrev Zw8:Stmt:=top 121
theorem Zzj:Zr ["board", "numbers"] ["board", "numbers"] (Zm Zw8):=⟨rfl,rfl,rfl,by decide +kernel,rfl,by decide +kernel,by decide +kernel⟩
theorem Zz4:Zq "tell_gather" Zw8 ["board", "numbers"]:=fun _ _ _ _ _ _ us hl=>by obtain⟨_,_,rfl⟩:=us2 hl;rfl
noncomputable abbrev ZwD:Stmt:=top 29
theorem Zzn:Zr ["board", "other"] ["board", "other"] (Zm ZwD):=⟨rfl,rfl,rfl,by decide +kernel,rfl,by decide +kernel,by decide +kernel⟩
theorem ZxR:Zq "check_alike" ZwD ["board", "other"]:=fun _ _ _ _ _ _ us hl=>by obtain⟨_,_,rfl⟩:=us2 hl;rfl
noncomputable abbrev ZyI:Stmt:=top 113
theorem Z26:Zr ["board", "other", "plan", "standing"] ["board", "other"] (Zm ZyI):=⟨rfl,rfl,rfl,by decide +kernel,rfl,by decide +kernel,by decide +kernel⟩
theorem Z2N:Zq "way_to" ZyI ["board", "other"]:=fun _ _ _ _ _ _ us hl=>by obtain⟨_,_,rfl⟩:=us2 hl;rfl
noncomputable abbrev Zyd:Stmt:=top 122
theorem Z1V:Zr ["board", "numbers"] ["board", "numbers"] (Zm Zyd):=⟨rfl,rfl,rfl,by decide +kernel,rfl,by decide +kernel,by decide +kernel⟩
theorem Z2t:Zq "tell_to" Zyd ["board", "numbers"]:=fun _ _ _ _ _ _ us hl=>by obtain⟨_,_,rfl⟩:=us2 hl;rfl
noncomputable abbrev Zwx:Stmt:=top 36
theorem Zwd:Zr ["pits", "seeds", "count", "k"] ["pits", "seeds"] (Zm Zwx):=⟨rfl,rfl,rfl,by decide +kernel,rfl,by decide +kernel,by decide +kernel⟩
theorem Zzd:Zq "count_boards" Zwx ["pits", "seeds"]:=fun _ _ _ _ _ _ us hl=>by obtain⟨_,_,rfl⟩:=us2 hl;rfl
noncomputable abbrev ZvD:Stmt:=top 48
theorem ZxU:Zr ["board"] ["board"] (Zm ZvD):=⟨rfl,rfl,rfl,by decide +kernel,rfl,by decide +kernel,by decide +kernel⟩
theorem ZwQ:Zq "check_few_boards" ZvD ["board"]:=fun _ _ _ _ _ _ us hl=>by obtain⟨_,rfl⟩:=us1 hl;rfl
noncomputable abbrev Zxq:Stmt:=top 47
theorem Zw2:Zr ["board", "other", "pits", "goal", "levels", "came_from"] ["board", "other"] (Zm Zxq):=⟨rfl,rfl,rfl,by decide +kernel,rfl,by decide +kernel,by decide +kernel⟩
theorem Z0U:Zq "least_way" Zxq ["board", "other"]:=fun _ _ _ _ _ _ us hl=>by obtain⟨_,_,rfl⟩:=us2 hl;rfl
noncomputable abbrev ZwU:Stmt:=top 123
theorem ZzJ:Zr ["board", "numbers"] ["board", "numbers"] (Zm ZwU):=⟨rfl,rfl,rfl,by decide +kernel,rfl,by decide +kernel,by decide +kernel⟩
theorem Z0g:Zq "tell_least" ZwU ["board", "numbers"]:=fun _ _ _ _ _ _ us hl=>by obtain⟨_,_,rfl⟩:=us2 hl;rfl
noncomputable abbrev Zxr:Stmt:=top 30
theorem Zy2:Zr ["numbers"] ["numbers"] (Zm Zxr):=⟨rfl,rfl,rfl,by decide +kernel,rfl,by decide +kernel,by decide +kernel⟩
theorem Z0V:Zq "is_rising" Zxr ["numbers"]:=fun _ _ _ _ _ _ us hl=>by obtain⟨_,rfl⟩:=us1 hl;rfl
noncomputable abbrev Zwy:Stmt:=top 31
theorem Zx1:Zr ["board", "barred"] ["board", "barred"] (Zm Zwy):=⟨rfl,rfl,rfl,by decide +kernel,rfl,by decide +kernel,by decide +kernel⟩
theorem Zze:Zq "check_barred" Zwy ["board", "barred"]:=fun _ _ _ _ _ _ us hl=>by obtain⟨_,_,rfl⟩:=us2 hl;rfl
noncomputable abbrev Zxa:Stmt:=top 55
theorem ZzO:Zr ["board", "barred"] ["board", "barred"] (Zm Zxa):=⟨rfl,rfl,rfl,by decide +kernel,rfl,by decide +kernel,by decide +kernel⟩
theorem Zxx:Zq "check_play" Zxa ["board", "barred"]:=fun _ _ _ _ _ _ us hl=>by obtain⟨_,_,rfl⟩:=us2 hl;rfl
noncomputable abbrev Zyh:Stmt:=top 54
theorem Z1W:Zr ["board", "barred"] ["board", "barred"] (Zm Zyh):=⟨rfl,rfl,rfl,by decide +kernel,rfl,by decide +kernel,by decide +kernel⟩
theorem Z2x:Zq "come_to" Zyh ["board", "barred"]:=fun _ _ _ _ _ _ us hl=>by obtain⟨_,_,rfl⟩:=us2 hl;rfl
noncomputable abbrev Zyg:Stmt:=top 58
theorem ZzE:Zr ["board", "barred", "boards", "pits"] ["board", "barred"] (Zm Zyg):=⟨rfl,rfl,rfl,by decide +kernel,rfl,by decide +kernel,by decide +kernel⟩
theorem Z2w:Zq "ends_of" Zyg ["board", "barred"]:=fun _ _ _ _ _ _ us hl=>by obtain⟨_,_,rfl⟩:=us2 hl;rfl
noncomputable abbrev Zxo:Stmt:=top 124
theorem Z0s:Zr ["board", "numbers"] ["board", "numbers"] (Zm Zxo):=⟨rfl,rfl,rfl,by decide +kernel,rfl,by decide +kernel,by decide +kernel⟩
theorem Z0S:Zq "tell_ends" Zxo ["board", "numbers"]:=fun _ _ _ _ _ _ us hl=>by obtain⟨_,_,rfl⟩:=us2 hl;rfl
noncomputable abbrev ZxC:Stmt:=top 67
theorem Z1h:Zr ["board", "barred", "found", "lost"] ["board", "barred"] (Zm ZxC):=⟨rfl,rfl,rfl,by decide +kernel,rfl,by decide +kernel,by decide +kernel⟩
theorem Z1B:Zq "who_wins" ZxC ["board", "barred"]:=fun _ _ _ _ _ _ us hl=>by obtain⟨_,_,rfl⟩:=us2 hl;rfl
noncomputable abbrev Zxl:Stmt:=top 125
theorem Zyz:Zr ["board", "numbers", "answer"] ["board", "numbers"] (Zm Zxl):=⟨rfl,rfl,rfl,by decide +kernel,rfl,by decide +kernel,by decide +kernel⟩
theorem Z0P:Zq "tell_wins" Zxl ["board", "numbers"]:=fun _ _ _ _ _ _ us hl=>by obtain⟨_,_,rfl⟩:=us2 hl;rfl
noncomputable abbrev Zww:Stmt:=top 60
theorem ZyM:Zr ["board", "barred", "pits", "ranks", "plan", "now", "step"] ["board", "barred"] (Zm Zww):=⟨rfl,rfl,rfl,by decide +kernel,rfl,by decide +kernel,by decide +kernel⟩
theorem Zzc:Zq "longest_play" Zww ["board", "barred"]:=fun _ _ _ _ _ _ us hl=>by obtain⟨_,_,rfl⟩:=us2 hl;rfl
noncomputable abbrev Zwu:Stmt:=top 126
theorem ZyK:Zr ["board", "numbers"] ["board", "numbers"] (Zm Zwu):=⟨rfl,rfl,rfl,by decide +kernel,rfl,by decide +kernel,by decide +kernel⟩
theorem Zza:Zq "tell_longest" Zwu ["board", "numbers"]:=fun _ _ _ _ _ _ us hl=>by obtain⟨_,_,rfl⟩:=us2 hl;rfl
noncomputable abbrev Zxb:Stmt:=top 32
theorem ZzP:Zr ["line"] ["line"] (Zm Zxb):=⟨rfl,rfl,rfl,by decide +kernel,rfl,by decide +kernel,by decide +kernel⟩
theorem Zyr:Zq "check_line" Zxb ["line"]:=fun _ _ _ _ _ _ us hl=>by obtain⟨_,rfl⟩:=us1 hl;rfl
noncomputable abbrev Zvd:Stmt:=top 78
theorem Zvy:Zr ["numbers", "count"] ["numbers"] (Zm Zvd):=⟨rfl,rfl,rfl,by decide +kernel,rfl,by decide +kernel,by decide +kernel⟩
theorem Zwk:Zq "without_last_noughts" Zvd ["numbers"]:=fun _ _ _ _ _ _ us hl=>by obtain⟨_,rfl⟩:=us1 hl;rfl
noncomputable abbrev Zwv:Stmt:=top 76
theorem ZyL:Zr [] [] (Zm Zwv):=⟨rfl,rfl,rfl,by decide +kernel,rfl,by decide +kernel,by decide +kernel⟩
theorem Zzb:Zq "most_marches" Zwv []:=fun _ _ _ _ _ _ us hl=>match us,hl with | [],_=>rfl
noncomputable abbrev Zw9:Stmt:=top 83
theorem Zxh:Zr ["line", "steps", "now", "left"] ["line", "steps"] (Zm Zw9):=⟨rfl,rfl,rfl,by decide +kernel,rfl,by decide +kernel,by decide +kernel⟩
theorem Zz5:Zq "line_behind" Zw9 ["line", "steps"]:=fun _ _ _ _ _ _ us hl=>by obtain⟨_,_,rfl⟩:=us2 hl;rfl
noncomputable abbrev Zyi:Stmt:=top 129
theorem Zyu:Zr ["board", "first"] ["board"] (Zm Zyi):=⟨rfl,rfl,rfl,by decide +kernel,rfl,by decide +kernel,by decide +kernel⟩
theorem ZzH:Zq "as_line" Zyi ["board"]:=fun _ _ _ _ _ _ us hl=>by obtain⟨_,rfl⟩:=us1 hl;rfl
noncomputable abbrev ZwT:Stmt:=top 127
theorem ZzI:Zr ["board", "numbers"] ["board", "numbers"] (Zm ZwT):=⟨rfl,rfl,rfl,by decide +kernel,rfl,by decide +kernel,by decide +kernel⟩
theorem Z0f:Zq "tell_march" ZwT ["board", "numbers"]:=fun _ _ _ _ _ _ us hl=>by obtain⟨_,_,rfl⟩:=us2 hl;rfl
noncomputable abbrev ZxI:Stmt:=top 82
theorem ZxT:Zr ["line", "tail", "row"] ["line"] (Zm ZxI):=⟨rfl,rfl,rfl,by decide +kernel,rfl,by decide +kernel,by decide +kernel⟩
theorem Z1H:Zq "comes_to" ZxI ["line"]:=fun _ _ _ _ _ _ us hl=>by obtain⟨_,rfl⟩:=us1 hl;rfl
noncomputable abbrev Zwe:Stmt:=top 128
theorem Zxz:Zr ["board", "numbers", "answer"] ["board", "numbers"] (Zm Zwe):=⟨rfl,rfl,rfl,by decide +kernel,rfl,by decide +kernel,by decide +kernel⟩
theorem ZyF:Zq "tell_marching" Zwe ["board", "numbers"]:=fun _ _ _ _ _ _ us hl=>by obtain⟨_,_,rfl⟩:=us2 hl;rfl
noncomputable abbrev ZwZ:Stmt:=top 33
theorem ZzN:Zr ["yard"] ["yard"] (Zm ZwZ):=⟨rfl,rfl,rfl,by decide +kernel,rfl,by decide +kernel,by decide +kernel⟩
theorem Z0k:Zq "check_yard" ZwZ ["yard"]:=fun _ _ _ _ _ _ us hl=>by obtain⟨_,rfl⟩:=us1 hl;rfl
noncomputable abbrev Zwz:Stmt:=top 90
theorem ZyN:Zr ["yard", "due", "pit"] ["yard"] (Zm Zwz):=⟨rfl,rfl,rfl,by decide +kernel,rfl,by decide +kernel,by decide +kernel⟩
theorem Zzf:Zq "brought_home" Zwz ["yard"]:=fun _ _ _ _ _ _ us hl=>by obtain⟨_,rfl⟩:=us1 hl;rfl
noncomputable abbrev Zxn:Stmt:=top 130
theorem Z0r:Zr ["board", "numbers"] ["board", "numbers"] (Zm Zxn):=⟨rfl,rfl,rfl,by decide +kernel,rfl,by decide +kernel,by decide +kernel⟩
theorem Z0R:Zq "tell_home" Zxn ["board", "numbers"]:=fun _ _ _ _ _ _ us hl=>by obtain⟨_,_,rfl⟩:=us2 hl;rfl
noncomputable abbrev Zxt:Stmt:=top 86
theorem Z0t:Zr ["seeds"] ["seeds"] (Zm Zxt):=⟨rfl,rfl,rfl,by decide +kernel,rfl,by decide +kernel,by decide +kernel⟩
theorem Z0X:Zq "home_yard" Zxt ["seeds"]:=fun _ _ _ _ _ _ us hl=>by obtain⟨_,rfl⟩:=us1 hl;rfl
noncomputable abbrev ZwV:Stmt:=top 131
theorem ZzK:Zr ["board", "numbers"] ["board", "numbers"] (Zm ZwV):=⟨rfl,rfl,rfl,by decide +kernel,rfl,by decide +kernel,by decide +kernel⟩
theorem Z0h:Zq "tell_homes" ZwV ["board", "numbers"]:=fun _ _ _ _ _ _ us hl=>by obtain⟨_,_,rfl⟩:=us2 hl;rfl
noncomputable abbrev Z1R:Stmt:=top 139
theorem Z27:Zr ["board", "word", "texts", "numbers"] ["board", "word", "texts"] (Zm Z1R):=⟨rfl,rfl,rfl,by decide +kernel,rfl,by decide +kernel,by decide +kernel⟩
theorem Z3c:Zq "tell" Z1R ["board", "word", "texts"]:=fun _ _ _ _ _ _ us hl=>by obtain⟨_,_,_,rfl⟩:=us3 hl;rfl
noncomputable abbrev Zxv:Stmt:=top 138
theorem Zx2:Zr ["board", "question", "words", "refusal"] ["board", "question"] (Zm Zxv):=⟨rfl,rfl,rfl,by decide +kernel,rfl,by decide +kernel,by decide +kernel⟩
theorem Z0Y:Zq "answer_to" Zxv ["board", "question"]:=fun _ _ _ _ _ _ us hl=>by obtain⟨_,_,rfl⟩:=us2 hl;rfl
noncomputable abbrev Zxc:Stmt:=top 136
theorem Zvf:Zr ["text", "lines", "board", "questions", "answers", "question"] ["text"] (Zm Zxc):=⟨rfl,rfl,rfl,by decide +kernel,rfl,by decide +kernel,by decide +kernel⟩
theorem Z0l:Zq "answers_to" Zxc ["text"]:=fun _ _ _ _ _ _ us hl=>by obtain⟨_,rfl⟩:=us1 hl;rfl
noncomputable abbrev Zvz:Stmt:=top 144
theorem ZuW:Zr ["some"] [] (Zm Zvz):=⟨rfl,rfl,rfl,by decide +kernel,rfl,by decide +kernel,by decide +kernel⟩
theorem ZxM:Zq "_law_no_questions" Zvz []:=fun _ _ _ _ _ _ us hl=>match us,hl with | [],_=>rfl
noncomputable abbrev Zwh:Stmt:=top 145
theorem ZuN:Zr ["cell", "some"] ["cell"] (Zm Zwh):=⟨rfl,rfl,rfl,by decide +kernel,rfl,by decide +kernel,by decide +kernel⟩
theorem ZyG:Zq "_law_of_first" Zwh ["cell"]:=fun _ _ _ _ _ _ us hl=>by obtain⟨_,rfl⟩:=us1 hl;rfl
noncomputable abbrev ZvU:Stmt:=top 146
theorem ZuZ:Zr ["second", "cell", "some"] ["second", "cell"] (Zm ZvU):=⟨rfl,rfl,rfl,by decide +kernel,rfl,by decide +kernel,by decide +kernel⟩
theorem Zyy:Zq "_law_of_others" ZvU ["second", "cell"]:=fun _ _ _ _ _ _ us hl=>by obtain⟨_,_,rfl⟩:=us2 hl;rfl
noncomputable abbrev Z2V:Stmt:=top 147
theorem ZwL:Zr ["script", "head", "first", "lines", "due", "k", "cell", "words", "line", "word", "found"] ["script"] (Zm Z2V):=⟨rfl,rfl,rfl,by decide +kernel,rfl,by decide +kernel,by decide +kernel⟩
theorem Z3j:Zq "law" Z2V ["script"]:=fun _ _ _ _ _ _ us hl=>by obtain⟨_,rfl⟩:=us1 hl;rfl
noncomputable abbrev XN:List Str:=["SowError", "BadBoard", "BadPit", "BadPits", "BadCount", "NoSeeds", "Unlike", "TooLong", "TooMany", "BadLine", "BadYard", "BadText"]
noncomputable abbrev Zhx:List (Str×Str×Bool):=[("SowError", "SowError",true),("BadBoard", "SowError",true),("BadPit", "SowError",true),("BadPits", "SowError",true),("BadCount", "SowError",true),("NoSeeds", "SowError",true),("Unlike", "SowError",true),("TooLong", "SowError",true),("TooMany", "SowError",true),("BadLine", "SowError",true),("BadYard", "SowError",true),("BadText", "SowError",true)]
noncomputable abbrev Zhz:List (Str×Str×Bool):=[("SowError", "BadBoard",false),("BadBoard", "BadBoard",true),("BadPit", "BadBoard",false),("BadPits", "BadBoard",false),("BadCount", "BadBoard",false),("NoSeeds", "BadBoard",false),("Unlike", "BadBoard",false),("TooLong", "BadBoard",false),("TooMany", "BadBoard",false),("BadLine", "BadBoard",false),("BadYard", "BadBoard",false),("BadText", "BadBoard",false)]
noncomputable abbrev ZlP:List (Str×Str×Bool):=[("SowError", "BadPit",false),("BadBoard", "BadPit",false),("BadPit", "BadPit",true),("BadPits", "BadPit",false),("BadCount", "BadPit",false),("NoSeeds", "BadPit",false),("Unlike", "BadPit",false),("TooLong", "BadPit",false),("TooMany", "BadPit",false),("BadLine", "BadPit",false),("BadYard", "BadPit",false),("BadText", "BadPit",false)]
noncomputable abbrev Zjw:List (Str×Str×Bool):=[("SowError", "BadPits",false),("BadBoard", "BadPits",false),("BadPit", "BadPits",false),("BadPits", "BadPits",true),("BadCount", "BadPits",false),("NoSeeds", "BadPits",false),("Unlike", "BadPits",false),("TooLong", "BadPits",false),("TooMany", "BadPits",false),("BadLine", "BadPits",false),("BadYard", "BadPits",false),("BadText", "BadPits",false)]
noncomputable abbrev Zhy:List (Str×Str×Bool):=[("SowError", "BadCount",false),("BadBoard", "BadCount",false),("BadPit", "BadCount",false),("BadPits", "BadCount",false),("BadCount", "BadCount",true),("NoSeeds", "BadCount",false),("Unlike", "BadCount",false),("TooLong", "BadCount",false),("TooMany", "BadCount",false),("BadLine", "BadCount",false),("BadYard", "BadCount",false),("BadText", "BadCount",false)]
noncomputable abbrev Zjt:List (Str×Str×Bool):=[("SowError", "NoSeeds",false),("BadBoard", "NoSeeds",false),("BadPit", "NoSeeds",false),("BadPits", "NoSeeds",false),("BadCount", "NoSeeds",false),("NoSeeds", "NoSeeds",true),("Unlike", "NoSeeds",false),("TooLong", "NoSeeds",false),("TooMany", "NoSeeds",false),("BadLine", "NoSeeds",false),("BadYard", "NoSeeds",false),("BadText", "NoSeeds",false)]
noncomputable abbrev ZlO:List (Str×Str×Bool):=[("SowError", "Unlike",false),("BadBoard", "Unlike",false),("BadPit", "Unlike",false),("BadPits", "Unlike",false),("BadCount", "Unlike",false),("NoSeeds", "Unlike",false),("Unlike", "Unlike",true),("TooLong", "Unlike",false),("TooMany", "Unlike",false),("BadLine", "Unlike",false),("BadYard", "Unlike",false),("BadText", "Unlike",false)]
noncomputable abbrev Zjs:List (Str×Str×Bool):=[("SowError", "TooLong",false),("BadBoard", "TooLong",false),("BadPit", "TooLong",false),("BadPits", "TooLong",false),("BadCount", "TooLong",false),("NoSeeds", "TooLong",false),("Unlike", "TooLong",false),("TooLong", "TooLong",true),("TooMany", "TooLong",false),("BadLine", "TooLong",false),("BadYard", "TooLong",false),("BadText", "TooLong",false)]
noncomputable abbrev Zjr:List (Str×Str×Bool):=[("SowError", "TooMany",false),("BadBoard", "TooMany",false),("BadPit", "TooMany",false),("BadPits", "TooMany",false),("BadCount", "TooMany",false),("NoSeeds", "TooMany",false),("Unlike", "TooMany",false),("TooLong", "TooMany",false),("TooMany", "TooMany",true),("BadLine", "TooMany",false),("BadYard", "TooMany",false),("BadText", "TooMany",false)]
noncomputable abbrev Zjx:List (Str×Str×Bool):=[("SowError", "BadLine",false),("BadBoard", "BadLine",false),("BadPit", "BadLine",false),("BadPits", "BadLine",false),("BadCount", "BadLine",false),("NoSeeds", "BadLine",false),("Unlike", "BadLine",false),("TooLong", "BadLine",false),("TooMany", "BadLine",false),("BadLine", "BadLine",true),("BadYard", "BadLine",false),("BadText", "BadLine",false)]
noncomputable abbrev Zju:List (Str×Str×Bool):=[("SowError", "BadYard",false),("BadBoard", "BadYard",false),("BadPit", "BadYard",false),("BadPits", "BadYard",false),("BadCount", "BadYard",false),("NoSeeds", "BadYard",false),("Unlike", "BadYard",false),("TooLong", "BadYard",false),("TooMany", "BadYard",false),("BadLine", "BadYard",false),("BadYard", "BadYard",true),("BadText", "BadYard",false)]
noncomputable abbrev Zjv:List (Str×Str×Bool):=[("SowError", "BadText",false),("BadBoard", "BadText",false),("BadPit", "BadText",false),("BadPits", "BadText",false),("BadCount", "BadText",false),("NoSeeds", "BadText",false),("Unlike", "BadText",false),("TooLong", "BadText",false),("TooMany", "BadText",false),("BadLine", "BadText",false),("BadYard", "BadText",false),("BadText", "BadText",true)]
noncomputable abbrev XS:List (Str×Str×Bool):=Zhx++Zhz++ZlP++Zjw++Zhy++Zjt++ZlO++Zjs++Zjr++Zjx++Zju++Zjv
noncomputable abbrev XR:List Str:=["SowError", "BadBoard", "BadPit", "BadPits", "BadCount", "NoSeeds", "Unlike", "TooLong", "TooMany", "BadLine", "BadYard", "BadText"]
noncomputable abbrev Jt:List (Str×Bool):=[("SowError",true),("BadBoard",true),("BadPit",true),("BadPits",true),("BadCount",true),("NoSeeds",true),("Unlike",true),("TooLong",true),("TooMany",true),("BadLine",true),("BadYard",true),("BadText",true)]
noncomputable abbrev Jv:List (Str×Bool):=[("SowError",false),("BadBoard",true),("BadPit",false),("BadPits",false),("BadCount",false),("NoSeeds",false),("Unlike",false),("TooLong",false),("TooMany",false),("BadLine",false),("BadYard",false),("BadText",false)]
noncomputable abbrev JP:List (Str×Bool):=[("SowError",false),("BadBoard",false),("BadPit",true),("BadPits",false),("BadCount",false),("NoSeeds",false),("Unlike",false),("TooLong",false),("TooMany",false),("BadLine",false),("BadYard",false),("BadText",false)]
noncomputable abbrev JE:List (Str×Bool):=[("SowError",false),("BadBoard",false),("BadPit",false),("BadPits",true),("BadCount",false),("NoSeeds",false),("Unlike",false),("TooLong",false),("TooMany",false),("BadLine",false),("BadYard",false),("BadText",false)]
noncomputable abbrev Ju:List (Str×Bool):=[("SowError",false),("BadBoard",false),("BadPit",false),("BadPits",false),("BadCount",true),("NoSeeds",false),("Unlike",false),("TooLong",false),("TooMany",false),("BadLine",false),("BadYard",false),("BadText",false)]
noncomputable abbrev JB:List (Str×Bool):=[("SowError",false),("BadBoard",false),("BadPit",false),("BadPits",false),("BadCount",false),("NoSeeds",true),("Unlike",false),("TooLong",false),("TooMany",false),("BadLine",false),("BadYard",false),("BadText",false)]
noncomputable abbrev JO:List (Str×Bool):=[("SowError",false),("BadBoard",false),("BadPit",false),("BadPits",false),("BadCount",false),("NoSeeds",false),("Unlike",true),("TooLong",false),("TooMany",false),("BadLine",false),("BadYard",false),("BadText",false)]
noncomputable abbrev JA:List (Str×Bool):=[("SowError",false),("BadBoard",false),("BadPit",false),("BadPits",false),("BadCount",false),("NoSeeds",false),("Unlike",false),("TooLong",true),("TooMany",false),("BadLine",false),("BadYard",false),("BadText",false)]
noncomputable abbrev J9:List (Str×Bool):=[("SowError",false),("BadBoard",false),("BadPit",false),("BadPits",false),("BadCount",false),("NoSeeds",false),("Unlike",false),("TooLong",false),("TooMany",true),("BadLine",false),("BadYard",false),("BadText",false)]
noncomputable abbrev JF:List (Str×Bool):=[("SowError",false),("BadBoard",false),("BadPit",false),("BadPits",false),("BadCount",false),("NoSeeds",false),("Unlike",false),("TooLong",false),("TooMany",false),("BadLine",true),("BadYard",false),("BadText",false)]
noncomputable abbrev JC:List (Str×Bool):=[("SowError",false),("BadBoard",false),("BadPit",false),("BadPits",false),("BadCount",false),("NoSeeds",false),("Unlike",false),("TooLong",false),("TooMany",false),("BadLine",false),("BadYard",true),("BadText",false)]
noncomputable abbrev JD:List (Str×Bool):=[("SowError",false),("BadBoard",false),("BadPit",false),("BadPits",false),("BadCount",false),("NoSeeds",false),("Unlike",false),("TooLong",false),("TooMany",false),("BadLine",false),("BadYard",false),("BadText",true)]
noncomputable abbrev Jd:List (Str×Bool):=[("SowError",true),("BadBoard",true),("BadPit",true),("BadPits",true),("BadCount",true),("NoSeeds",true),("Unlike",true),("TooLong",true),("TooMany",true),("BadLine",true),("BadYard",true),("BadText",true)]
noncomputable abbrev Zdv:Stmt:=Vl (top 1) 0
theorem Zfn:Zr ["self"] ["self"] (Zm Zdv):=⟨rfl,rfl,rfl,by decide +kernel,rfl,by decide +kernel,by decide +kernel⟩
noncomputable abbrev Zdx:Stmt:=Vl (top 2) 0
theorem Zfp:Zr ["self"] ["self"] (Zm Zdx):=⟨rfl,rfl,rfl,by decide +kernel,rfl,by decide +kernel,by decide +kernel⟩
noncomputable abbrev Zfl:Stmt:=Vl (top 3) 0
theorem ZiC:Zr ["self"] ["self"] (Zm Zfl):=⟨rfl,rfl,rfl,by decide +kernel,rfl,by decide +kernel,by decide +kernel⟩
noncomputable abbrev Zed:Stmt:=Vl (top 4) 0
theorem Zgu:Zr ["self"] ["self"] (Zm Zed):=⟨rfl,rfl,rfl,by decide +kernel,rfl,by decide +kernel,by decide +kernel⟩
noncomputable abbrev Zdw:Stmt:=Vl (top 5) 0
theorem Zfo:Zr ["self"] ["self"] (Zm Zdw):=⟨rfl,rfl,rfl,by decide +kernel,rfl,by decide +kernel,by decide +kernel⟩
noncomputable abbrev Zea:Stmt:=Vl (top 6) 0
theorem Zgr:Zr ["self"] ["self"] (Zm Zea):=⟨rfl,rfl,rfl,by decide +kernel,rfl,by decide +kernel,by decide +kernel⟩
noncomputable abbrev Zfk:Stmt:=Vl (top 7) 0
theorem ZiB:Zr ["self"] ["self"] (Zm Zfk):=⟨rfl,rfl,rfl,by decide +kernel,rfl,by decide +kernel,by decide +kernel⟩
noncomputable abbrev ZdZ:Stmt:=Vl (top 8) 0
theorem Zgq:Zr ["self"] ["self"] (Zm ZdZ):=⟨rfl,rfl,rfl,by decide +kernel,rfl,by decide +kernel,by decide +kernel⟩
noncomputable abbrev ZdY:Stmt:=Vl (top 9) 0
theorem Zgp:Zr ["self"] ["self"] (Zm ZdY):=⟨rfl,rfl,rfl,by decide +kernel,rfl,by decide +kernel,by decide +kernel⟩
noncomputable abbrev Zee:Stmt:=Vl (top 10) 0
theorem Zgv:Zr ["self"] ["self"] (Zm Zee):=⟨rfl,rfl,rfl,by decide +kernel,rfl,by decide +kernel,by decide +kernel⟩
noncomputable abbrev Zeb:Stmt:=Vl (top 11) 0
theorem Zgs:Zr ["self"] ["self"] (Zm Zeb):=⟨rfl,rfl,rfl,by decide +kernel,rfl,by decide +kernel,by decide +kernel⟩
noncomputable abbrev Zec:Stmt:=Vl (top 12) 0
theorem Zgt:Zr ["self"] ["self"] (Zm Zec):=⟨rfl,rfl,rfl,by decide +kernel,rfl,by decide +kernel,by decide +kernel⟩
noncomputable abbrev JQ:List Str:=["ends", "wins", "longest"]
theorem ZdN:(JQ.all fun x=>PyData.canLay0 (.str x))=true:=by simp only[Z4R,List.all_nil,PyData.canLay0];decide +kernel
noncomputable abbrev J7:List Str:=["to", "least"]
theorem ZcR:(J7.all fun x=>PyData.canLay0 (.str x))=true:=by simp only[Z4R,List.all_nil,PyData.canLay0];decide +kernel
noncomputable abbrev Vc:List Str:=["sow", "back", "round", "gather", "march"]
theorem ZeF:(Vc.all fun x=>PyData.canLay0 (.str x))=true:=by simp only[Z4R,List.all_nil,PyData.canLay0];decide +kernel
noncomputable abbrev JX:List Str:=["sow", "back", "on", "number", "ring", "round", "gather", "to", "least", "ends", "wins", "longest", "march", "marching", "home", "homes"]
noncomputable abbrev Zjy:List (Str×Str):=[("sow", "tell_sown"),("back", "tell_back"),("on", "tell_on"),("round", "tell_round"),("gather", "tell_gather"),("to", "tell_to"),("least", "tell_least"),("ends", "tell_ends"),("wins", "tell_wins"),("longest", "tell_longest"),("march", "tell_march"),("marching", "tell_marching"),("home", "tell_home"),("homes", "tell_homes")]
structure Txt(w:World)(K:PySem.W.Frag)(mg:Str->Option Value):Prop where
 Z2F:Dfn K mg "_law_at" Zyj
 Z2h:Dfn K mg "is_whole" ZxE
 ZwO:Dfn K mg "is_whole_from" Zwg
 ZvG:Dfn K mg "is_list_from_nought" Zvg
 Zy5:Dfn K mg "most_seeds" ZwY
 Z2j:Dfn K mg "is_board" ZxG
 ZvR:Dfn K mg "check_board" ZwC
 ZxK:Dfn K mg "number_or_too_many" Zvn
 ZxV:Dfn K mg "is_number" Zxs
 Z0B:Dfn K mg "read_board" ZwX
 Z0C:Dfn K mg "copy_of" Zx3
 Zym:Dfn K mg "read_number" Zwf
 Z2i:Dfn K mg "is_count" ZxF
 Z1T:Dfn K mg "is_pit" ZyJ
 ZyV:Dfn K mg "check_pit" Zxu
 ZvV:Dfn K mg "check_standing" ZvT
 Z3g:Dfn K mg "sown" Z1S
 Z1u:Dfn K mg "tell_sown" Zxm
 Z0A:Dfn K mg "taken_back" ZwW
 Z1x:Dfn K mg "tell_back" Zxp
 ZwE:Dfn K mg "check_count" ZwB
 Z2C:Dfn K mg "gone_on" Zyf
 Z2B:Dfn K mg "tell_on" Zye
 Z0a:Dfn K mg "check_round" ZwA
 Z2g:Dfn K mg "round_of" ZxD
 Z06:Dfn K mg "tell_round" ZwS
 Zxj:Dfn K mg "check_few_seeds" ZvJ
 Z2k:Dfn K mg "gathered" ZxH
 ZzY:Dfn K mg "tell_gather" Zw8
 Zyn:Dfn K mg "check_alike" ZwD
 Z2W:Dfn K mg "way_to" ZyI
 Z2A:Dfn K mg "tell_to" Zyd
 Zzv:Dfn K mg "count_boards" Zwx
 Zxe:Dfn K mg "check_few_boards" ZvD
 Z1y:Dfn K mg "least_way" Zxq
 Z08:Dfn K mg "tell_least" ZwU
 Z1z:Dfn K mg "is_rising" Zxr
 Zzw:Dfn K mg "check_barred" Zwy
 Zx6:Dfn K mg "check_play" Zxa
 Z2E:Dfn K mg "come_to" Zyh
 Z2D:Dfn K mg "ends_of" Zyg
 Z1w:Dfn K mg "tell_ends" Zxo
 Z2f:Dfn K mg "who_wins" ZxC
 Z1t:Dfn K mg "tell_wins" Zxl
 Zzu:Dfn K mg "longest_play" Zww
 Zzs:Dfn K mg "tell_longest" Zwu
 Zy6:Dfn K mg "check_line" Zxb
 Zwn:Dfn K mg "without_last_noughts" Zvd
 Zzt:Dfn K mg "most_marches" Zwv
 ZzZ:Dfn K mg "line_behind" Zw9
 Z0E:Dfn K mg "as_line" Zyi
 Z07:Dfn K mg "tell_march" ZwT
 Z2l:Dfn K mg "comes_to" ZxI
 ZyU:Dfn K mg "tell_marching" Zwe
 Z0D:Dfn K mg "check_yard" ZwZ
 Zzx:Dfn K mg "brought_home" Zwz
 Z1v:Dfn K mg "tell_home" Zxn
 Z10:Dfn K mg "home_yard" Zxt
 Z09:Dfn K mg "tell_homes" ZwV
 Z3f:Dfn K mg "tell" Z1R
 Z11:Dfn K mg "answer_to" Zxv
 Z0F:Dfn K mg "answers_to" Zxc
 ZxW:Dfn K mg "_law_no_questions" Zvz
 ZyW:Dfn K mg "_law_of_first" Zwh
 ZyD:Dfn K mg "_law_of_others" ZvU
 Z3m:Dfn K mg "law" Z2V
 c_FARTHEST:∃t,mg "FARTHEST"=some (.int 1000 t)
 c_FEWEST_PITS:∃t,mg "FEWEST_PITS"=some (.int 2 t)
 c_FIGURES:∃t,mg "FIGURES"=some (.str "0123456789" t)
 c_LONGEST:∃t,mg "LONGEST"=some (.int 20000 t)
 c_MOST_BOARDS:∃t,mg "MOST_BOARDS"=some (.int 1000 t)
 c_MOST_FIGURES:∃t,mg "MOST_FIGURES"=some (.int 61 t)
 c_MOST_GATHERED:∃t,mg "MOST_GATHERED"=some (.int 60 t)
 c_MOST_LINE_PITS:∃t,mg "MOST_LINE_PITS"=some (.int 100 t)
 c_MOST_LINE_SEEDS:∃t,mg "MOST_LINE_SEEDS"=some (.int 100 t)
 c_MOST_PITS:∃t,mg "MOST_PITS"=some (.int 24 t)
 c_MOST_YARD_PITS:∃t,mg "MOST_YARD_PITS"=some (.int 200 t)
 c_MOST_YARD_SEEDS:∃t,mg "MOST_YARD_SEEDS"=some (.int 10000 t)
 z_abs:mg "abs"=none
 z_all:mg "all"=none
 z_bool:mg "bool"=none
 z_int:mg "int"=none
 z_isinstance:mg "isinstance"=none
 z_len:mg "len"=none
 z_list:mg "list"=none
 z_range:mg "range"=none
 z_sum:mg "sum"=none
 z_tuple:mg "tuple"=none
 k_ANY_NUMBERS:Zqp K mg "ANY_NUMBERS" JQ
 k_BOARD_NUMBERS:Zqp K mg "BOARD_NUMBERS" J7
 k_ONE_NUMBER:Zqp K mg "ONE_NUMBER" Vc
 t_TELLERS:Tel w.params K mg "TELLERS" JX Zjy
 x_tab:ZpZ K XN XS=true
 x_exc:Zqx K XR=true
 x_mg:∀n C,ZdQ K n C->mg n=some (.ref C)
 m_SowError:Zj0 K "SowError" "called" "SowError.called" Zdv
 m_BadBoard:Zj0 K "BadBoard" "called" "BadBoard.called" Zdx
 m_BadPit:Zj0 K "BadPit" "called" "BadPit.called" Zfl
 m_BadPits:Zj0 K "BadPits" "called" "BadPits.called" Zed
 m_BadCount:Zj0 K "BadCount" "called" "BadCount.called" Zdw
 m_NoSeeds:Zj0 K "NoSeeds" "called" "NoSeeds.called" Zea
 m_Unlike:Zj0 K "Unlike" "called" "Unlike.called" Zfk
 m_TooLong:Zj0 K "TooLong" "called" "TooLong.called" ZdZ
 m_TooMany:Zj0 K "TooMany" "called" "TooMany.called" ZdY
 m_BadLine:Zj0 K "BadLine" "called" "BadLine.called" Zee
 m_BadYard:Zj0 K "BadYard" "called" "BadYard.called" Zeb
 m_BadText:Zj0 K "BadText" "called" "BadText.called" Zec
section
variable {P:Program}{w:World}{K:W.Frag}{mg:Str->Option Value}{base:Heap}
theorem ZgE(T:Txt w K mg):Zi2 P w K mg base "called" "SowError":=by
 obtain⟨C,f,fd,h1,h2,h3,F⟩:=T.m_SowError
 obtain⟨C2,c1,_,c2,_⟩:=JR T.x_tab (n := "SowError") (by decide)
 obtain rfl:=c1.inj h1
 exact⟨C2,f,h1,c2,h2,h3,F.kp,ZcJ F Zfn (F.binds (fun _ _ _ _ _ _ us hl=>match us,hl with | [_],_=>rfl)) rfl⟩
theorem ZgG(T:Txt w K mg):Zi2 P w K mg base "called" "BadBoard":=by
 obtain⟨C,f,fd,h1,h2,h3,F⟩:=T.m_BadBoard
 obtain⟨C2,c1,_,c2,_⟩:=JR T.x_tab (n := "BadBoard") (by decide)
 obtain rfl:=c1.inj h1
 exact⟨C2,f,h1,c2,h2,h3,F.kp,ZcJ F Zfp (F.binds (fun _ _ _ _ _ _ us hl=>match us,hl with | [_],_=>rfl)) rfl⟩
theorem ZkJ(T:Txt w K mg):Zi2 P w K mg base "called" "BadPit":=by
 obtain⟨C,f,fd,h1,h2,h3,F⟩:=T.m_BadPit
 obtain⟨C2,c1,_,c2,_⟩:=JR T.x_tab (n := "BadPit") (by decide)
 obtain rfl:=c1.inj h1
 exact⟨C2,f,h1,c2,h2,h3,F.kp,ZcJ F ZiC (F.binds (fun _ _ _ _ _ _ us hl=>match us,hl with | [_],_=>rfl)) rfl⟩
theorem ZiS(T:Txt w K mg):Zi2 P w K mg base "called" "BadPits":=by
 obtain⟨C,f,fd,h1,h2,h3,F⟩:=T.m_BadPits
 obtain⟨C2,c1,_,c2,_⟩:=JR T.x_tab (n := "BadPits") (by decide)
 obtain rfl:=c1.inj h1
 exact⟨C2,f,h1,c2,h2,h3,F.kp,ZcJ F Zgu (F.binds (fun _ _ _ _ _ _ us hl=>match us,hl with | [_],_=>rfl)) rfl⟩
theorem ZgF(T:Txt w K mg):Zi2 P w K mg base "called" "BadCount":=by
 obtain⟨C,f,fd,h1,h2,h3,F⟩:=T.m_BadCount
 obtain⟨C2,c1,_,c2,_⟩:=JR T.x_tab (n := "BadCount") (by decide)
 obtain rfl:=c1.inj h1
 exact⟨C2,f,h1,c2,h2,h3,F.kp,ZcJ F Zfo (F.binds (fun _ _ _ _ _ _ us hl=>match us,hl with | [_],_=>rfl)) rfl⟩
theorem ZiP(T:Txt w K mg):Zi2 P w K mg base "called" "NoSeeds":=by
 obtain⟨C,f,fd,h1,h2,h3,F⟩:=T.m_NoSeeds
 obtain⟨C2,c1,_,c2,_⟩:=JR T.x_tab (n := "NoSeeds") (by decide)
 obtain rfl:=c1.inj h1
 exact⟨C2,f,h1,c2,h2,h3,F.kp,ZcJ F Zgr (F.binds (fun _ _ _ _ _ _ us hl=>match us,hl with | [_],_=>rfl)) rfl⟩
theorem ZkI(T:Txt w K mg):Zi2 P w K mg base "called" "Unlike":=by
 obtain⟨C,f,fd,h1,h2,h3,F⟩:=T.m_Unlike
 obtain⟨C2,c1,_,c2,_⟩:=JR T.x_tab (n := "Unlike") (by decide)
 obtain rfl:=c1.inj h1
 exact⟨C2,f,h1,c2,h2,h3,F.kp,ZcJ F ZiB (F.binds (fun _ _ _ _ _ _ us hl=>match us,hl with | [_],_=>rfl)) rfl⟩
theorem ZiO(T:Txt w K mg):Zi2 P w K mg base "called" "TooLong":=by
 obtain⟨C,f,fd,h1,h2,h3,F⟩:=T.m_TooLong
 obtain⟨C2,c1,_,c2,_⟩:=JR T.x_tab (n := "TooLong") (by decide)
 obtain rfl:=c1.inj h1
 exact⟨C2,f,h1,c2,h2,h3,F.kp,ZcJ F Zgq (F.binds (fun _ _ _ _ _ _ us hl=>match us,hl with | [_],_=>rfl)) rfl⟩
theorem ZiN(T:Txt w K mg):Zi2 P w K mg base "called" "TooMany":=by
 obtain⟨C,f,fd,h1,h2,h3,F⟩:=T.m_TooMany
 obtain⟨C2,c1,_,c2,_⟩:=JR T.x_tab (n := "TooMany") (by decide)
 obtain rfl:=c1.inj h1
 exact⟨C2,f,h1,c2,h2,h3,F.kp,ZcJ F Zgp (F.binds (fun _ _ _ _ _ _ us hl=>match us,hl with | [_],_=>rfl)) rfl⟩
theorem ZiT(T:Txt w K mg):Zi2 P w K mg base "called" "BadLine":=by
 obtain⟨C,f,fd,h1,h2,h3,F⟩:=T.m_BadLine
 obtain⟨C2,c1,_,c2,_⟩:=JR T.x_tab (n := "BadLine") (by decide)
 obtain rfl:=c1.inj h1
 exact⟨C2,f,h1,c2,h2,h3,F.kp,ZcJ F Zgv (F.binds (fun _ _ _ _ _ _ us hl=>match us,hl with | [_],_=>rfl)) rfl⟩
theorem ZiQ(T:Txt w K mg):Zi2 P w K mg base "called" "BadYard":=by
 obtain⟨C,f,fd,h1,h2,h3,F⟩:=T.m_BadYard
 obtain⟨C2,c1,_,c2,_⟩:=JR T.x_tab (n := "BadYard") (by decide)
 obtain rfl:=c1.inj h1
 exact⟨C2,f,h1,c2,h2,h3,F.kp,ZcJ F Zgs (F.binds (fun _ _ _ _ _ _ us hl=>match us,hl with | [_],_=>rfl)) rfl⟩
theorem ZiR(T:Txt w K mg):Zi2 P w K mg base "called" "BadText":=by
 obtain⟨C,f,fd,h1,h2,h3,F⟩:=T.m_BadText
 obtain⟨C2,c1,_,c2,_⟩:=JR T.x_tab (n := "BadText") (by decide)
 obtain rfl:=c1.inj h1
 exact⟨C2,f,h1,c2,h2,h3,F.kp,ZcJ F Zgt (F.binds (fun _ _ _ _ _ _ us hl=>match us,hl with | [_],_=>rfl)) rfl⟩
theorem Zrj(T:Txt w K mg):∀n∈XN,Zi2 P w K mg base "called" n:=fun n hn=>by
 simp only[XN,Z3v,Z4C,or_false] at hn
 rcases hn with rfl|rfl|rfl|rfl|rfl|rfl|rfl|rfl|rfl|rfl|rfl|rfl
 ·exact ZgE T
 ·exact ZgG T
 ·exact ZkJ T
 ·exact ZiS T
 ·exact ZgF T
 ·exact ZiP T
 ·exact ZkI T
 ·exact ZiO T
 ·exact ZiN T
 ·exact ZiT T
 ·exact ZiQ T
 ·exact ZiR T
theorem Uy:ZR Jt (.exc "BadBoard")=.ok (.bl true):=Zg (by decide)
theorem Zae:ZR Jt (.exc "BadPit")=.ok (.bl true):=Zg (by decide)
theorem UN:ZR Jt (.exc "BadPits")=.ok (.bl true):=Zg (by decide)
theorem Ux:ZR Jt (.exc "BadCount")=.ok (.bl true):=Zg (by decide)
theorem UK:ZR Jt (.exc "NoSeeds")=.ok (.bl true):=Zg (by decide)
theorem Zad:ZR Jt (.exc "Unlike")=.ok (.bl true):=Zg (by decide)
theorem UJ:ZR Jt (.exc "TooMany")=.ok (.bl true):=Zg (by decide)
theorem UO:ZR Jt (.exc "BadLine")=.ok (.bl true):=Zg (by decide)
theorem UL:ZR Jt (.exc "BadYard")=.ok (.bl true):=Zg (by decide)
theorem UM:ZR Jt (.exc "BadText")=.ok (.bl true):=Zg (by decide)
theorem U2:ZR Jv (.exc "BadBoard")=.ok (.bl true):=Zg (by decide)
theorem ZaE:ZR Jv (.exc "BadPit")=.ok (.bl false):=Zg (by decide)
theorem Qj:ZR Jv (.exc "BadPits")=.ok (.bl false):=Zg (by decide)
theorem U1:ZR Jv (.exc "BadCount")=.ok (.bl false):=Zg (by decide)
theorem Qg:ZR Jv (.exc "NoSeeds")=.ok (.bl false):=Zg (by decide)
theorem ZaD:ZR Jv (.exc "Unlike")=.ok (.bl false):=Zg (by decide)
theorem Qf:ZR Jv (.exc "TooMany")=.ok (.bl false):=Zg (by decide)
theorem Qk:ZR Jv (.exc "BadLine")=.ok (.bl false):=Zg (by decide)
theorem Qh:ZR Jv (.exc "BadYard")=.ok (.bl false):=Zg (by decide)
theorem Qi:ZR Jv (.exc "BadText")=.ok (.bl false):=Zg (by decide)
theorem Za4:ZR JP (.exc "BadBoard")=.ok (.bl false):=Zg (by decide)
theorem ZcQ:ZR JP (.exc "BadPit")=.ok (.bl true):=Zg (by decide)
theorem Zcf:ZR JP (.exc "BadPits")=.ok (.bl false):=Zg (by decide)
theorem Za3:ZR JP (.exc "BadCount")=.ok (.bl false):=Zg (by decide)
theorem Zcc:ZR JP (.exc "NoSeeds")=.ok (.bl false):=Zg (by decide)
theorem ZcP:ZR JP (.exc "Unlike")=.ok (.bl false):=Zg (by decide)
theorem Zcb:ZR JP (.exc "TooMany")=.ok (.bl false):=Zg (by decide)
theorem Zcg:ZR JP (.exc "BadLine")=.ok (.bl false):=Zg (by decide)
theorem Zcd:ZR JP (.exc "BadYard")=.ok (.bl false):=Zg (by decide)
theorem Zce:ZR JP (.exc "BadText")=.ok (.bl false):=Zg (by decide)
theorem UW:ZR JE (.exc "BadBoard")=.ok (.bl false):=Zg (by decide)
theorem Zca:ZR JE (.exc "BadPit")=.ok (.bl false):=Zg (by decide)
theorem Za1:ZR JE (.exc "BadPits")=.ok (.bl true):=Zg (by decide)
theorem UV:ZR JE (.exc "BadCount")=.ok (.bl false):=Zg (by decide)
theorem Zay:ZR JE (.exc "NoSeeds")=.ok (.bl false):=Zg (by decide)
theorem ZbZ:ZR JE (.exc "Unlike")=.ok (.bl false):=Zg (by decide)
theorem Zax:ZR JE (.exc "TooMany")=.ok (.bl false):=Zg (by decide)
theorem Za2:ZR JE (.exc "BadLine")=.ok (.bl false):=Zg (by decide)
theorem Zaz:ZR JE (.exc "BadYard")=.ok (.bl false):=Zg (by decide)
theorem Za0:ZR JE (.exc "BadText")=.ok (.bl false):=Zg (by decide)
theorem U0:ZR Ju (.exc "BadBoard")=.ok (.bl false):=Zg (by decide)
theorem ZaC:ZR Ju (.exc "BadPit")=.ok (.bl false):=Zg (by decide)
theorem Qd:ZR Ju (.exc "BadPits")=.ok (.bl false):=Zg (by decide)
theorem Uz:ZR Ju (.exc "BadCount")=.ok (.bl true):=Zg (by decide)
theorem Qa:ZR Ju (.exc "NoSeeds")=.ok (.bl false):=Zg (by decide)
theorem ZaB:ZR Ju (.exc "Unlike")=.ok (.bl false):=Zg (by decide)
theorem UZ:ZR Ju (.exc "TooMany")=.ok (.bl false):=Zg (by decide)
theorem Qe:ZR Ju (.exc "BadLine")=.ok (.bl false):=Zg (by decide)
theorem Qb:ZR Ju (.exc "BadYard")=.ok (.bl false):=Zg (by decide)
theorem Qc:ZR Ju (.exc "BadText")=.ok (.bl false):=Zg (by decide)
theorem UQ:ZR JB (.exc "BadBoard")=.ok (.bl false):=Zg (by decide)
theorem ZbU:ZR JB (.exc "BadPit")=.ok (.bl false):=Zg (by decide)
theorem Zaj:ZR JB (.exc "BadPits")=.ok (.bl false):=Zg (by decide)
theorem UP:ZR JB (.exc "BadCount")=.ok (.bl false):=Zg (by decide)
theorem Zag:ZR JB (.exc "NoSeeds")=.ok (.bl true):=Zg (by decide)
theorem ZbT:ZR JB (.exc "Unlike")=.ok (.bl false):=Zg (by decide)
theorem Zaf:ZR JB (.exc "TooMany")=.ok (.bl false):=Zg (by decide)
theorem Zak:ZR JB (.exc "BadLine")=.ok (.bl false):=Zg (by decide)
theorem Zah:ZR JB (.exc "BadYard")=.ok (.bl false):=Zg (by decide)
theorem Zai:ZR JB (.exc "BadText")=.ok (.bl false):=Zg (by decide)
theorem QQ:ZR JO (.exc "BadBoard")=.ok (.bl false):=Zg (by decide)
theorem ZcO:ZR JO (.exc "BadPit")=.ok (.bl false):=Zg (by decide)
theorem ZbN:ZR JO (.exc "BadPits")=.ok (.bl false):=Zg (by decide)
theorem QP:ZR JO (.exc "BadCount")=.ok (.bl false):=Zg (by decide)
theorem ZbK:ZR JO (.exc "NoSeeds")=.ok (.bl false):=Zg (by decide)
theorem ZcN:ZR JO (.exc "Unlike")=.ok (.bl true):=Zg (by decide)
theorem ZbJ:ZR JO (.exc "TooMany")=.ok (.bl false):=Zg (by decide)
theorem ZbO:ZR JO (.exc "BadLine")=.ok (.bl false):=Zg (by decide)
theorem ZbL:ZR JO (.exc "BadYard")=.ok (.bl false):=Zg (by decide)
theorem ZbM:ZR JO (.exc "BadText")=.ok (.bl false):=Zg (by decide)
theorem UI:ZR JA (.exc "BadBoard")=.ok (.bl false):=Zg (by decide)
theorem ZbS:ZR JA (.exc "BadPit")=.ok (.bl false):=Zg (by decide)
theorem Zab:ZR JA (.exc "BadPits")=.ok (.bl false):=Zg (by decide)
theorem UH:ZR JA (.exc "BadCount")=.ok (.bl false):=Zg (by decide)
theorem QY:ZR JA (.exc "NoSeeds")=.ok (.bl false):=Zg (by decide)
theorem ZbR:ZR JA (.exc "Unlike")=.ok (.bl false):=Zg (by decide)
theorem QX:ZR JA (.exc "TooMany")=.ok (.bl false):=Zg (by decide)
theorem Zac:ZR JA (.exc "BadLine")=.ok (.bl false):=Zg (by decide)
theorem QZ:ZR JA (.exc "BadYard")=.ok (.bl false):=Zg (by decide)
theorem Zaa:ZR JA (.exc "BadText")=.ok (.bl false):=Zg (by decide)
theorem UG:ZR J9 (.exc "BadBoard")=.ok (.bl false):=Zg (by decide)
theorem ZbQ:ZR J9 (.exc "BadPit")=.ok (.bl false):=Zg (by decide)
theorem QV:ZR J9 (.exc "BadPits")=.ok (.bl false):=Zg (by decide)
theorem UF:ZR J9 (.exc "BadCount")=.ok (.bl false):=Zg (by decide)
theorem QS:ZR J9 (.exc "NoSeeds")=.ok (.bl false):=Zg (by decide)
theorem ZbP:ZR J9 (.exc "Unlike")=.ok (.bl false):=Zg (by decide)
theorem QR:ZR J9 (.exc "TooMany")=.ok (.bl true):=Zg (by decide)
theorem QW:ZR J9 (.exc "BadLine")=.ok (.bl false):=Zg (by decide)
theorem QT:ZR J9 (.exc "BadYard")=.ok (.bl false):=Zg (by decide)
theorem QU:ZR J9 (.exc "BadText")=.ok (.bl false):=Zg (by decide)
theorem UY:ZR JF (.exc "BadBoard")=.ok (.bl false):=Zg (by decide)
theorem Zci:ZR JF (.exc "BadPit")=.ok (.bl false):=Zg (by decide)
theorem Za9:ZR JF (.exc "BadPits")=.ok (.bl false):=Zg (by decide)
theorem UX:ZR JF (.exc "BadCount")=.ok (.bl false):=Zg (by decide)
theorem Za6:ZR JF (.exc "NoSeeds")=.ok (.bl false):=Zg (by decide)
theorem Zch:ZR JF (.exc "Unlike")=.ok (.bl false):=Zg (by decide)
theorem Za5:ZR JF (.exc "TooMany")=.ok (.bl false):=Zg (by decide)
theorem ZaA:ZR JF (.exc "BadLine")=.ok (.bl true):=Zg (by decide)
theorem Za7:ZR JF (.exc "BadYard")=.ok (.bl false):=Zg (by decide)
theorem Za8:ZR JF (.exc "BadText")=.ok (.bl false):=Zg (by decide)
theorem US:ZR JC (.exc "BadBoard")=.ok (.bl false):=Zg (by decide)
theorem ZbW:ZR JC (.exc "BadPit")=.ok (.bl false):=Zg (by decide)
theorem Zap:ZR JC (.exc "BadPits")=.ok (.bl false):=Zg (by decide)
theorem UR:ZR JC (.exc "BadCount")=.ok (.bl false):=Zg (by decide)
theorem Zam:ZR JC (.exc "NoSeeds")=.ok (.bl false):=Zg (by decide)
theorem ZbV:ZR JC (.exc "Unlike")=.ok (.bl false):=Zg (by decide)
theorem Zal:ZR JC (.exc "TooMany")=.ok (.bl false):=Zg (by decide)
theorem Zaq:ZR JC (.exc "BadLine")=.ok (.bl false):=Zg (by decide)
theorem Zan:ZR JC (.exc "BadYard")=.ok (.bl true):=Zg (by decide)
theorem Zao:ZR JC (.exc "BadText")=.ok (.bl false):=Zg (by decide)
theorem UU:ZR JD (.exc "BadBoard")=.ok (.bl false):=Zg (by decide)
theorem ZbY:ZR JD (.exc "BadPit")=.ok (.bl false):=Zg (by decide)
theorem Zav:ZR JD (.exc "BadPits")=.ok (.bl false):=Zg (by decide)
theorem UT:ZR JD (.exc "BadCount")=.ok (.bl false):=Zg (by decide)
theorem Zas:ZR JD (.exc "NoSeeds")=.ok (.bl false):=Zg (by decide)
theorem ZbX:ZR JD (.exc "Unlike")=.ok (.bl false):=Zg (by decide)
theorem Zar:ZR JD (.exc "TooMany")=.ok (.bl false):=Zg (by decide)
theorem Zaw:ZR JD (.exc "BadLine")=.ok (.bl false):=Zg (by decide)
theorem Zat:ZR JD (.exc "BadYard")=.ok (.bl false):=Zg (by decide)
theorem Zau:ZR JD (.exc "BadText")=.ok (.bl true):=Zg (by decide)
theorem VL:ZR Jd (.exc "BadBoard")=.ok (.bl true):=Zg (by decide)
theorem Uw:ZR Jd (.exc "BadPit")=.ok (.bl true):=Zg (by decide)
theorem VZ:ZR Jd (.exc "BadPits")=.ok (.bl true):=Zg (by decide)
theorem VJ:ZR Jd (.exc "BadCount")=.ok (.bl true):=Zg (by decide)
theorem VW:ZR Jd (.exc "NoSeeds")=.ok (.bl true):=Zg (by decide)
theorem Uv:ZR Jd (.exc "Unlike")=.ok (.bl true):=Zg (by decide)
theorem VU:ZR Jd (.exc "TooMany")=.ok (.bl true):=Zg (by decide)
theorem Ua:ZR Jd (.exc "BadLine")=.ok (.bl true):=Zg (by decide)
theorem VX:ZR Jd (.exc "BadYard")=.ok (.bl true):=Zg (by decide)
theorem VY:ZR Jd (.exc "BadText")=.ok (.bl true):=Zg (by decide)
theorem ZgW:JT XN (.exc "BadBoard")=.ok (.str "BadBoard"):=Js (by decide)
theorem ZkP:JT XN (.exc "BadPit")=.ok (.str "BadPit"):=Js (by decide)
theorem Zjc:JT XN (.exc "BadPits")=.ok (.str "BadPits"):=Js (by decide)
theorem ZgV:JT XN (.exc "BadCount")=.ok (.str "BadCount"):=Js (by decide)
theorem ZiZ:JT XN (.exc "NoSeeds")=.ok (.str "NoSeeds"):=Js (by decide)
theorem ZkO:JT XN (.exc "Unlike")=.ok (.str "Unlike"):=Js (by decide)
theorem ZiY:JT XN (.exc "TooMany")=.ok (.str "TooMany"):=Js (by decide)
theorem Zjd:JT XN (.exc "BadLine")=.ok (.str "BadLine"):=Js (by decide)
theorem Zja:JT XN (.exc "BadYard")=.ok (.str "BadYard"):=Js (by decide)
theorem Zjb:JT XN (.exc "BadText")=.ok (.str "BadText"):=Js (by decide)
theorem ls_:PyData.canLay0 (.str "")=true:=by rw[PyData.canLay0];decide +kernel
theorem Z0:PyData.canLay0 (.str "BadBoard")=true:=by rw[PyData.canLay0];decide +kernel
theorem Zz:PyData.canLay0 (.str "BadCount")=true:=by rw[PyData.canLay0];decide +kernel
theorem ZG:PyData.canLay0 (.str "BadLine")=true:=by rw[PyData.canLay0];decide +kernel
theorem ZQ:PyData.canLay0 (.str "BadPit")=true:=by rw[PyData.canLay0];decide +kernel
theorem ZF:PyData.canLay0 (.str "BadPits")=true:=by rw[PyData.canLay0];decide +kernel
theorem ZE:PyData.canLay0 (.str "BadText")=true:=by rw[PyData.canLay0];decide +kernel
theorem ZD:PyData.canLay0 (.str "BadYard")=true:=by rw[PyData.canLay0];decide +kernel
theorem ZC:PyData.canLay0 (.str "NoSeeds")=true:=by rw[PyData.canLay0];decide +kernel
theorem ZB:PyData.canLay0 (.str "TooMany")=true:=by rw[PyData.canLay0];decide +kernel
theorem ZP:PyData.canLay0 (.str "Unlike")=true:=by rw[PyData.canLay0];decide +kernel
theorem Zu9{g:Bool->Bool}:ZO g (.str "") (.str "")=.ok (.bl (g true)):=Zl ls_ ls_
theorem ZfC{g:Bool->Bool}:ZO g (.str "") (.str "BadBoard")=.ok (.bl (g false)):=Zl ls_ Z0
theorem ZfB{g:Bool->Bool}:ZO g (.str "") (.str "BadCount")=.ok (.bl (g false)):=Zl ls_ Zz
theorem ZgO{g:Bool->Bool}:ZO g (.str "") (.str "BadLine")=.ok (.bl (g false)):=Zl ls_ ZG
theorem ZiV{g:Bool->Bool}:ZO g (.str "") (.str "BadPit")=.ok (.bl (g false)):=Zl ls_ ZQ
theorem ZgN{g:Bool->Bool}:ZO g (.str "") (.str "BadPits")=.ok (.bl (g false)):=Zl ls_ ZF
theorem ZgM{g:Bool->Bool}:ZO g (.str "") (.str "BadText")=.ok (.bl (g false)):=Zl ls_ ZE
theorem ZgL{g:Bool->Bool}:ZO g (.str "") (.str "BadYard")=.ok (.bl (g false)):=Zl ls_ ZD
theorem ZgK{g:Bool->Bool}:ZO g (.str "") (.str "NoSeeds")=.ok (.bl (g false)):=Zl ls_ ZC
theorem ZgJ{g:Bool->Bool}:ZO g (.str "") (.str "TooMany")=.ok (.bl (g false)):=Zl ls_ ZB
theorem ZiU{g:Bool->Bool}:ZO g (.str "") (.str "Unlike")=.ok (.bl (g false)):=Zl ls_ ZP
theorem ZfE{g:Bool->Bool}:ZO g (.str "BadBoard") (.str "")=.ok (.bl (g false)):=Zl Z0 ls_
theorem U6{g:Bool->Bool}:ZO g (.str "BadBoard") (.str "BadBoard")=.ok (.bl (g true)):=Zl Z0 Z0
theorem U5{g:Bool->Bool}:ZO g (.str "BadBoard") (.str "BadCount")=.ok (.bl (g false)):=Zl Z0 Zz
theorem QB{g:Bool->Bool}:ZO g (.str "BadBoard") (.str "BadLine")=.ok (.bl (g false)):=Zl Z0 ZG
theorem Zb0{g:Bool->Bool}:ZO g (.str "BadBoard") (.str "BadPit")=.ok (.bl (g false)):=Zl Z0 ZQ
theorem QA{g:Bool->Bool}:ZO g (.str "BadBoard") (.str "BadPits")=.ok (.bl (g false)):=Zl Z0 ZF
theorem Q9{g:Bool->Bool}:ZO g (.str "BadBoard") (.str "BadText")=.ok (.bl (g false)):=Zl Z0 ZE
theorem Q8{g:Bool->Bool}:ZO g (.str "BadBoard") (.str "BadYard")=.ok (.bl (g false)):=Zl Z0 ZD
theorem Q7{g:Bool->Bool}:ZO g (.str "BadBoard") (.str "NoSeeds")=.ok (.bl (g false)):=Zl Z0 ZC
theorem Q6{g:Bool->Bool}:ZO g (.str "BadBoard") (.str "TooMany")=.ok (.bl (g false)):=Zl Z0 ZB
theorem Zbz{g:Bool->Bool}:ZO g (.str "BadBoard") (.str "Unlike")=.ok (.bl (g false)):=Zl Z0 ZP
theorem ZfD{g:Bool->Bool}:ZO g (.str "BadCount") (.str "")=.ok (.bl (g false)):=Zl Zz ls_
theorem U4{g:Bool->Bool}:ZO g (.str "BadCount") (.str "BadBoard")=.ok (.bl (g false)):=Zl Zz Z0
theorem U3{g:Bool->Bool}:ZO g (.str "BadCount") (.str "BadCount")=.ok (.bl (g true)):=Zl Zz Zz
theorem Q5{g:Bool->Bool}:ZO g (.str "BadCount") (.str "BadLine")=.ok (.bl (g false)):=Zl Zz ZG
theorem Zby{g:Bool->Bool}:ZO g (.str "BadCount") (.str "BadPit")=.ok (.bl (g false)):=Zl Zz ZQ
theorem Q4{g:Bool->Bool}:ZO g (.str "BadCount") (.str "BadPits")=.ok (.bl (g false)):=Zl Zz ZF
theorem Q3{g:Bool->Bool}:ZO g (.str "BadCount") (.str "BadText")=.ok (.bl (g false)):=Zl Zz ZE
theorem Q2{g:Bool->Bool}:ZO g (.str "BadCount") (.str "BadYard")=.ok (.bl (g false)):=Zl Zz ZD
theorem Q1{g:Bool->Bool}:ZO g (.str "BadCount") (.str "NoSeeds")=.ok (.bl (g false)):=Zl Zz ZC
theorem Q0{g:Bool->Bool}:ZO g (.str "BadCount") (.str "TooMany")=.ok (.bl (g false)):=Zl Zz ZB
theorem Zbx{g:Bool->Bool}:ZO g (.str "BadCount") (.str "Unlike")=.ok (.bl (g false)):=Zl Zz ZP
theorem ZgU{g:Bool->Bool}:ZO g (.str "BadLine") (.str "")=.ok (.bl (g false)):=Zl ZG ls_
theorem Qz{g:Bool->Bool}:ZO g (.str "BadLine") (.str "BadBoard")=.ok (.bl (g false)):=Zl ZG Z0
theorem Qy{g:Bool->Bool}:ZO g (.str "BadLine") (.str "BadCount")=.ok (.bl (g false)):=Zl ZG Zz
theorem Zbw{g:Bool->Bool}:ZO g (.str "BadLine") (.str "BadLine")=.ok (.bl (g true)):=Zl ZG ZG
theorem Zc6{g:Bool->Bool}:ZO g (.str "BadLine") (.str "BadPit")=.ok (.bl (g false)):=Zl ZG ZQ
theorem Zbv{g:Bool->Bool}:ZO g (.str "BadLine") (.str "BadPits")=.ok (.bl (g false)):=Zl ZG ZF
theorem Zbu{g:Bool->Bool}:ZO g (.str "BadLine") (.str "BadText")=.ok (.bl (g false)):=Zl ZG ZE
theorem Zbt{g:Bool->Bool}:ZO g (.str "BadLine") (.str "BadYard")=.ok (.bl (g false)):=Zl ZG ZD
theorem Zbs{g:Bool->Bool}:ZO g (.str "BadLine") (.str "NoSeeds")=.ok (.bl (g false)):=Zl ZG ZC
theorem Zbr{g:Bool->Bool}:ZO g (.str "BadLine") (.str "TooMany")=.ok (.bl (g false)):=Zl ZG ZB
theorem Zc5{g:Bool->Bool}:ZO g (.str "BadLine") (.str "Unlike")=.ok (.bl (g false)):=Zl ZG ZP
theorem ZiX{g:Bool->Bool}:ZO g (.str "BadPit") (.str "")=.ok (.bl (g false)):=Zl ZQ ls_
theorem Zbq{g:Bool->Bool}:ZO g (.str "BadPit") (.str "BadBoard")=.ok (.bl (g false)):=Zl ZQ Z0
theorem Zbp{g:Bool->Bool}:ZO g (.str "BadPit") (.str "BadCount")=.ok (.bl (g false)):=Zl ZQ Zz
theorem Zc4{g:Bool->Bool}:ZO g (.str "BadPit") (.str "BadLine")=.ok (.bl (g false)):=Zl ZQ ZG
theorem ZcV{g:Bool->Bool}:ZO g (.str "BadPit") (.str "BadPit")=.ok (.bl (g true)):=Zl ZQ ZQ
theorem Zc3{g:Bool->Bool}:ZO g (.str "BadPit") (.str "BadPits")=.ok (.bl (g false)):=Zl ZQ ZF
theorem Zc2{g:Bool->Bool}:ZO g (.str "BadPit") (.str "BadText")=.ok (.bl (g false)):=Zl ZQ ZE
theorem Zc1{g:Bool->Bool}:ZO g (.str "BadPit") (.str "BadYard")=.ok (.bl (g false)):=Zl ZQ ZD
theorem Zc0{g:Bool->Bool}:ZO g (.str "BadPit") (.str "NoSeeds")=.ok (.bl (g false)):=Zl ZQ ZC
theorem Zcz{g:Bool->Bool}:ZO g (.str "BadPit") (.str "TooMany")=.ok (.bl (g false)):=Zl ZQ ZB
theorem ZcU{g:Bool->Bool}:ZO g (.str "BadPit") (.str "Unlike")=.ok (.bl (g false)):=Zl ZQ ZP
theorem ZgT{g:Bool->Bool}:ZO g (.str "BadPits") (.str "")=.ok (.bl (g false)):=Zl ZF ls_
theorem Qx{g:Bool->Bool}:ZO g (.str "BadPits") (.str "BadBoard")=.ok (.bl (g false)):=Zl ZF Z0
theorem Qw{g:Bool->Bool}:ZO g (.str "BadPits") (.str "BadCount")=.ok (.bl (g false)):=Zl ZF Zz
theorem Zbo{g:Bool->Bool}:ZO g (.str "BadPits") (.str "BadLine")=.ok (.bl (g false)):=Zl ZF ZG
theorem Zcy{g:Bool->Bool}:ZO g (.str "BadPits") (.str "BadPit")=.ok (.bl (g false)):=Zl ZF ZQ
theorem Zbn{g:Bool->Bool}:ZO g (.str "BadPits") (.str "BadPits")=.ok (.bl (g true)):=Zl ZF ZF
theorem Zbm{g:Bool->Bool}:ZO g (.str "BadPits") (.str "BadText")=.ok (.bl (g false)):=Zl ZF ZE
theorem Zbl{g:Bool->Bool}:ZO g (.str "BadPits") (.str "BadYard")=.ok (.bl (g false)):=Zl ZF ZD
theorem Zbk{g:Bool->Bool}:ZO g (.str "BadPits") (.str "NoSeeds")=.ok (.bl (g false)):=Zl ZF ZC
theorem Zbj{g:Bool->Bool}:ZO g (.str "BadPits") (.str "TooMany")=.ok (.bl (g false)):=Zl ZF ZB
theorem Zcx{g:Bool->Bool}:ZO g (.str "BadPits") (.str "Unlike")=.ok (.bl (g false)):=Zl ZF ZP
theorem ZgS{g:Bool->Bool}:ZO g (.str "BadText") (.str "")=.ok (.bl (g false)):=Zl ZE ls_
theorem Qv{g:Bool->Bool}:ZO g (.str "BadText") (.str "BadBoard")=.ok (.bl (g false)):=Zl ZE Z0
theorem Qu{g:Bool->Bool}:ZO g (.str "BadText") (.str "BadCount")=.ok (.bl (g false)):=Zl ZE Zz
theorem Zbi{g:Bool->Bool}:ZO g (.str "BadText") (.str "BadLine")=.ok (.bl (g false)):=Zl ZE ZG
theorem Zcw{g:Bool->Bool}:ZO g (.str "BadText") (.str "BadPit")=.ok (.bl (g false)):=Zl ZE ZQ
theorem Zbh{g:Bool->Bool}:ZO g (.str "BadText") (.str "BadPits")=.ok (.bl (g false)):=Zl ZE ZF
theorem Zbg{g:Bool->Bool}:ZO g (.str "BadText") (.str "BadText")=.ok (.bl (g true)):=Zl ZE ZE
theorem Zbf{g:Bool->Bool}:ZO g (.str "BadText") (.str "BadYard")=.ok (.bl (g false)):=Zl ZE ZD
theorem Zbe{g:Bool->Bool}:ZO g (.str "BadText") (.str "NoSeeds")=.ok (.bl (g false)):=Zl ZE ZC
theorem Zbd{g:Bool->Bool}:ZO g (.str "BadText") (.str "TooMany")=.ok (.bl (g false)):=Zl ZE ZB
theorem Zcv{g:Bool->Bool}:ZO g (.str "BadText") (.str "Unlike")=.ok (.bl (g false)):=Zl ZE ZP
theorem ZgR{g:Bool->Bool}:ZO g (.str "BadYard") (.str "")=.ok (.bl (g false)):=Zl ZD ls_
theorem Qt{g:Bool->Bool}:ZO g (.str "BadYard") (.str "BadBoard")=.ok (.bl (g false)):=Zl ZD Z0
theorem Qs{g:Bool->Bool}:ZO g (.str "BadYard") (.str "BadCount")=.ok (.bl (g false)):=Zl ZD Zz
theorem Zbc{g:Bool->Bool}:ZO g (.str "BadYard") (.str "BadLine")=.ok (.bl (g false)):=Zl ZD ZG
theorem Zcu{g:Bool->Bool}:ZO g (.str "BadYard") (.str "BadPit")=.ok (.bl (g false)):=Zl ZD ZQ
theorem Zbb{g:Bool->Bool}:ZO g (.str "BadYard") (.str "BadPits")=.ok (.bl (g false)):=Zl ZD ZF
theorem Zba{g:Bool->Bool}:ZO g (.str "BadYard") (.str "BadText")=.ok (.bl (g false)):=Zl ZD ZE
theorem ZaZ{g:Bool->Bool}:ZO g (.str "BadYard") (.str "BadYard")=.ok (.bl (g true)):=Zl ZD ZD
theorem ZaY{g:Bool->Bool}:ZO g (.str "BadYard") (.str "NoSeeds")=.ok (.bl (g false)):=Zl ZD ZC
theorem ZaX{g:Bool->Bool}:ZO g (.str "BadYard") (.str "TooMany")=.ok (.bl (g false)):=Zl ZD ZB
theorem Zct{g:Bool->Bool}:ZO g (.str "BadYard") (.str "Unlike")=.ok (.bl (g false)):=Zl ZD ZP
theorem ZgQ{g:Bool->Bool}:ZO g (.str "NoSeeds") (.str "")=.ok (.bl (g false)):=Zl ZC ls_
theorem Qr{g:Bool->Bool}:ZO g (.str "NoSeeds") (.str "BadBoard")=.ok (.bl (g false)):=Zl ZC Z0
theorem Qq{g:Bool->Bool}:ZO g (.str "NoSeeds") (.str "BadCount")=.ok (.bl (g false)):=Zl ZC Zz
theorem ZaW{g:Bool->Bool}:ZO g (.str "NoSeeds") (.str "BadLine")=.ok (.bl (g false)):=Zl ZC ZG
theorem Zcs{g:Bool->Bool}:ZO g (.str "NoSeeds") (.str "BadPit")=.ok (.bl (g false)):=Zl ZC ZQ
theorem ZaV{g:Bool->Bool}:ZO g (.str "NoSeeds") (.str "BadPits")=.ok (.bl (g false)):=Zl ZC ZF
theorem ZaU{g:Bool->Bool}:ZO g (.str "NoSeeds") (.str "BadText")=.ok (.bl (g false)):=Zl ZC ZE
theorem ZaT{g:Bool->Bool}:ZO g (.str "NoSeeds") (.str "BadYard")=.ok (.bl (g false)):=Zl ZC ZD
theorem ZaS{g:Bool->Bool}:ZO g (.str "NoSeeds") (.str "NoSeeds")=.ok (.bl (g true)):=Zl ZC ZC
theorem ZaR{g:Bool->Bool}:ZO g (.str "NoSeeds") (.str "TooMany")=.ok (.bl (g false)):=Zl ZC ZB
theorem Zcr{g:Bool->Bool}:ZO g (.str "NoSeeds") (.str "Unlike")=.ok (.bl (g false)):=Zl ZC ZP
theorem ZgP{g:Bool->Bool}:ZO g (.str "TooMany") (.str "")=.ok (.bl (g false)):=Zl ZB ls_
theorem Qp{g:Bool->Bool}:ZO g (.str "TooMany") (.str "BadBoard")=.ok (.bl (g false)):=Zl ZB Z0
theorem Qo{g:Bool->Bool}:ZO g (.str "TooMany") (.str "BadCount")=.ok (.bl (g false)):=Zl ZB Zz
theorem ZaQ{g:Bool->Bool}:ZO g (.str "TooMany") (.str "BadLine")=.ok (.bl (g false)):=Zl ZB ZG
theorem Zcq{g:Bool->Bool}:ZO g (.str "TooMany") (.str "BadPit")=.ok (.bl (g false)):=Zl ZB ZQ
theorem ZaP{g:Bool->Bool}:ZO g (.str "TooMany") (.str "BadPits")=.ok (.bl (g false)):=Zl ZB ZF
theorem ZaO{g:Bool->Bool}:ZO g (.str "TooMany") (.str "BadText")=.ok (.bl (g false)):=Zl ZB ZE
theorem ZaN{g:Bool->Bool}:ZO g (.str "TooMany") (.str "BadYard")=.ok (.bl (g false)):=Zl ZB ZD
theorem ZaM{g:Bool->Bool}:ZO g (.str "TooMany") (.str "NoSeeds")=.ok (.bl (g false)):=Zl ZB ZC
theorem ZaL{g:Bool->Bool}:ZO g (.str "TooMany") (.str "TooMany")=.ok (.bl (g true)):=Zl ZB ZB
theorem Zcp{g:Bool->Bool}:ZO g (.str "TooMany") (.str "Unlike")=.ok (.bl (g false)):=Zl ZB ZP
theorem ZiW{g:Bool->Bool}:ZO g (.str "Unlike") (.str "")=.ok (.bl (g false)):=Zl ZP ls_
theorem ZaK{g:Bool->Bool}:ZO g (.str "Unlike") (.str "BadBoard")=.ok (.bl (g false)):=Zl ZP Z0
theorem ZaJ{g:Bool->Bool}:ZO g (.str "Unlike") (.str "BadCount")=.ok (.bl (g false)):=Zl ZP Zz
theorem Zco{g:Bool->Bool}:ZO g (.str "Unlike") (.str "BadLine")=.ok (.bl (g false)):=Zl ZP ZG
theorem ZcT{g:Bool->Bool}:ZO g (.str "Unlike") (.str "BadPit")=.ok (.bl (g false)):=Zl ZP ZQ
theorem Zcn{g:Bool->Bool}:ZO g (.str "Unlike") (.str "BadPits")=.ok (.bl (g false)):=Zl ZP ZF
theorem Zcm{g:Bool->Bool}:ZO g (.str "Unlike") (.str "BadText")=.ok (.bl (g false)):=Zl ZP ZE
theorem Zcl{g:Bool->Bool}:ZO g (.str "Unlike") (.str "BadYard")=.ok (.bl (g false)):=Zl ZP ZD
theorem Zck{g:Bool->Bool}:ZO g (.str "Unlike") (.str "NoSeeds")=.ok (.bl (g false)):=Zl ZP ZC
theorem Zcj{g:Bool->Bool}:ZO g (.str "Unlike") (.str "TooMany")=.ok (.bl (g false)):=Zl ZP ZB
theorem ZcS{g:Bool->Bool}:ZO g (.str "Unlike") (.str "Unlike")=.ok (.bl (g true)):=Zl ZP ZP
set_option hygiene false
local macro_rules | `(tactic| walk_at "pd")=>`(tactic| try simp -implicitDefEqProofs (disch:=first|omega|(simp only[Z3w,Z3y,Z43,List.length_replicate,Z3t,Z3F,Z3X,Z4A,Z47,Zdy,Zgw];omega)|decide) only[Zlb,Zlc,List.set_cons_zero,Z4P,Z4k,Z41,ZjY,ZjX,Z4h,Rr.bind_ok,Rr.bind_exc,Rr.bind_bad,Rr.thenS_ok,Rr.thenS_exc,Rr.thenS_bad,RS.seq_next,RS.seq_ret,RS.seq_brk,RS.seq_cont,RS.seq_exc,RS.seq_bad,RS.out_next,RS.out_ret,RS.out_exc,
 ZrV,Zk4,Zkn,ZnS,ZnT,Zoa,Zob,Zlg,Zot,Zle,Zlf,Zp0,Zld,ZmX,ZmY,Zo2,ZlK,Zn0,ZqZ,ZqY,Znz,ZlL,ZkY,ZnY,ZnZ,ZnX,ZnV,ZnW,ZmB,ZmA,Zm8,Zm9,Zks,ZnU,Zkw,Zif,Zig,Zie,Zid,Zk0,Zdf,Zpb,Zrc,ZhP,Zf1,Zpa,ZoZ,Zpg,Zph,Ztf,Ztg,Zth,ZoY,Zf0,Z3t,Z3F,Bool.not_true,Bool.not_false,Bool.false_eq_true,if_true,if_false,Nat.reduceAdd,Nat.reduceSub,id,Z31,Z4f,Int.reduceToNat,Zej,Zku,Zrf,Zoj,Zoi,ZqX,ZpO,Zhn,Zl8,ZmC,ZiJ,ZmF,Zt9,Zt8,ZrX,ZrW,Zih,ZhW,Nat.reduceLeDiff,Z3u,Int.reduceLT,Int.reduceLE,Int.reduceEq,decide_true,decide_false,
 Zde,Zko,Zk3,Zkr,Zk2,Zky,Zm7,Zm2,Zkp,Zm3,Zmz,Zmx,Zmw,Zpu,ZiG,VT,VD,Zm1,ZrO,Zns,ZoG,ZjE,Zmb,ZoE,ZmI,ZmH,ZkE,ZiL,ZkF,ZiM,ZgB,Zpo,Zpd,Zpc,ZmG,beq_self_eq_true,Bool.and_true,Bool.true_and,Bool.and_false,Bool.false_and,ZqW,Uy,Zae,UN,Ux,UK,Zad,UJ,UO,UL,UM,U2,ZaE,Qj,U1,Qg,ZaD,Qf,Qk,Qh,Qi,Za4,ZcQ,Zcf,Za3,Zcc,ZcP,Zcb,Zcg,Zcd,Zce,UW,Zca,Za1,UV,Zay,ZbZ,Zax,Za2,Zaz,Za0,U0,ZaC,Qd,Uz,Qa,ZaB,UZ,Qe,Qb,Qc,UQ,ZbU,Zaj,UP,Zag,ZbT,Zaf,Zak,Zah,Zai,QQ,ZcO,ZbN,QP,ZbK,ZcN,ZbJ,ZbO,ZbL,ZbM,UI,ZbS,Zab,UH,QY,ZbR,QX,Zac,QZ,Zaa,UG,ZbQ,QV,UF,QS,ZbP,QR,QW,QT,QU,UY,Zci,Za9,UX,Za6,Zch,Za5,ZaA,Za7,Za8,US,ZbW,Zap,UR,Zam,ZbV,Zal,Zaq,Zan,Zao,UU,ZbY,Zav,UT,Zas,ZbX,Zar,Zaw,Zat,Zau,VL,Uw,VZ,VJ,VW,Uv,VU,Ua,VX,VY,ZgW,ZkP,Zjc,ZgV,ZiZ,ZkO,ZiY,Zjd,Zja,Zjb,Zu9,ZfC,ZfB,ZgO,ZiV,ZgN,ZgM,ZgL,ZgK,ZgJ,ZiU,ZfE,U6,U5,QB,Zb0,QA,Q9,Q8,Q7,Q6,Zbz,ZfD,U4,U3,Q5,Zby,Q4,Q3,Q2,Q1,Q0,Zbx,ZgU,Qz,Qy,Zbw,Zc6,Zbv,Zbu,Zbt,Zbs,Zbr,Zc5,ZiX,Zbq,Zbp,Zc4,ZcV,Zc3,Zc2,Zc1,Zc0,Zcz,ZcU,ZgT,Qx,Qw,Zbo,Zcy,Zbn,Zbm,Zbl,Zbk,Zbj,Zcx,ZgS,Qv,Qu,Zbi,Zcw,Zbh,Zbg,Zbf,Zbe,Zbd,Zcv,ZgR,Qt,Qs,Zbc,Zcu,Zbb,Zba,ZaZ,ZaY,ZaX,Zct,ZgQ,Qr,Qq,ZaW,Zcs,ZaV,ZaU,ZaT,ZaS,ZaR,Zcr,ZgP,Qp,Qo,ZaQ,Zcq,ZaP,ZaO,ZaN,ZaM,ZaL,Zcp,ZiW,ZaK,ZaJ,Zco,ZcT,Zcn,Zcm,Zcl,Zck,Zcj,ZcS])
set_option hygiene true
noncomputable def ZwK:Pm:=⟨List Int×Int,fun a=>[.lst (a.1.map PV.int),.int a.2],fun a=>0<=a.2,fun a=>.ok (.int (a.1.getD a.2.toNat 0))⟩
theorem Z2e(T:Txt w K mg){f:Addr}{fd:FuncData}(F:Fun K "_law_at" "_law_at" Zyj f fd):Jp P w K mg base CX0 1 f fd ["script", "k"] (spF K 2 .P W0 ZwK.fn):=by
 refine F.okP Z1X rfl rfl (fun cdv A outer s H E hr=>?_)
 have hu:=hr.units
 refine⟨_,_,⟨[],[],[],.P⟩,rfl,(Zh (Jz (Z3 ZiK (pv 1) (Zv (ZA (K:=K)) rfl T.z_len Jo (Za (pv 0) Ze)) (Z9 _)) (Zo (Z8 (JM (ZW (K:=K)) (pv 0) (pv 1) (fun _ _=>rfl)))) ZH)
   (Zo (Z8 Zt))),
   (Zp (Γm:=[.S,.S]) (J0 (Z1 (DE.toA (Zjm (Zc (i:=1) (m:=.S) rfl (by decide)) (DE.toA (J1 (Zb (Zc (i:=0) (m:=.S) rfl (by decide)) Zd))))))
   (ZZ (DE.grd (Jx (te:=tC .non) (Zc (i:=0) (m:=.S) rfl (by decide)) (Zc (i:=1) (m:=.S) rfl (by decide)))))
   ZI)
   (ZZ Zs)), ?_⟩
 refine Pm.ref ZwK (g:=fun xs=>_) ?_
 rintro⟨ns,k⟩ (hk:0<=k)
 simp only[ZwK]
 walk_at "pu"
 by_cases h:k<ns.length
 ·rw[if_pos (decide_eq_true h),Zde hk h]
  walk_at "pu"
 ·rw[if_neg (by simpa using h)]
  walk_at "pu"
  rw[Z3n,Z30 (by omega)];rfl
set_option hygiene false
local macro_rules | `(tactic| walk_at "ij")=>`(tactic| (simp only[List.cons.injEq,PV.lst.injEq,PV.int.injEq,PV.str.injEq,PV.bl.injEq,PV.tup.injEq,ZeJ,and_true] at e ⊢;first|(simp only[e];done)|(subst e;rfl)|(rw[e])))
set_option hygiene true
theorem Z2M{ns:List Int}{k:Int}(h:0<=k):ZwK.fn [.lst (ns.map PV.int),.int k]=.ok (.int (ns.getD k.toNat 0)):=Pm.fn_eq ZwK (ns,k) h fun(a:List Int×Int) e=>by simp only[ZwK] at e ⊢;walk_at "ij"
noncomputable def ZwM:Pm:=⟨Int,fun i=>[.int i],fun _=>True,fun _=>.ok (.bl true)⟩
theorem Z1o(T:Txt w K mg){f:Addr}{fd:FuncData}(F:Fun K "is_whole" "is_whole" ZxE f fd):Jp P w K mg base CX0 1 f fd ["value"] (spF K 1 .P W0 ZwM.fn):=by
 refine F.okP Z1i rfl rfl (fun cdv A outer s H E hr=>?_)
 have hu:=hr.units
 refine⟨_,_,⟨[],[],[],.P⟩,rfl,(Zo (Z8 (Zeg (Zv (Vb (K:=K) (n := "int") rfl) rfl T.z_isinstance Jg (Za (pv 0) (Za (VA (v:=.ty "int") rfl T.z_int Zix rfl) Ze))) (Zd0 (ZqR (Zv (Vb (K:=K) (n := "bool") rfl) rfl T.z_isinstance Jg (Za (pv 0) (Za (VA (v:=.ty "bool") rfl T.z_bool ZpL rfl) Ze)))))))),
   (ZZ (Zer (DE.toA (Zb8 (Zc (i:=0) (m:=.S) rfl (by decide)))) (ZrI (DE.toA (Zb8 (Zc (i:=0) (m:=.S) rfl (by decide))))))), ?_⟩
 refine Pm.ref ZwM (g:=fun xs=>_) ?_
 intro (i:Int) _
 simp only[ZwM]
 walk_at "pd"
theorem Z2o{i:Int}:ZwM.fn [.int i]=.ok (.bl true):=Pm.fn_eq ZwM i trivial fun _ _=>rfl
noncomputable def ZuP:Pm:=⟨Int×Int,fun a=>[.int a.1,.int a.2],fun _=>True,fun a=>.ok (.bl (decide (a.2<=a.1)))⟩
theorem Zw5(T:Txt w K mg){f:Addr}{fd:FuncData}(F:Fun K "is_whole_from" "is_whole_from" Zwg f fd):Jp P w K mg base CX0 2 f fd ["value", "least"] (spF K 2 .P W0 ZuP.fn):=by
 have Z21:=UE (P:=P) (w:=w) (base:=base) T.Z2h Z1D (fun F=>Z1o T F)
 refine F.okP ZyA rfl rfl (fun cdv A outer s H E hr=>?_)
 have hu:=hr.units
 refine⟨_,_,⟨[],[],[],.P⟩,rfl,(Zo (Z8 (Zeg (ZK Z21 (hr.mono (by decide)) rfl (Za (pv 0) Ze)) (Zd0 (JZ Ztj (pv 0) (pv 1) (Z9 _)))))),
   (ZZ (Zer (DE.toA (Znr (Zf Zn) (Zb (Zc (i:=0) (m:=.S) rfl (by decide)) Zd))) (Zt4 (Zc (i:=0) (m:=.S) rfl (by decide)) (Zc (i:=1) (m:=.S) rfl (by decide))))), ?_⟩
 refine Pm.ref ZuP (g:=fun xs=>_) ?_
 rintro⟨i,j⟩ _
 simp only[ZuP]
 walk_at "pd"
 rw[Z2o]
 walk_at "pd"
theorem ZwP{i j:Int}:ZuP.fn [.int i,.int j]=.ok (.bl (decide (j<=i))):=Pm.fn_eq ZuP (i,j) trivial fun(a:Int×Int) e=>by simp only[ZuP] at e ⊢;walk_at "ij"
theorem ZcM:ZuP.calm:=fun a q h=>by (simp only[ZuP] at h;cases h)
noncomputable def ZuL:Pm:=⟨List Int,fun ns=>[.lst (ns.map PV.int)],fun ns=>ns.length<=1000000,fun ns=>.ok (.bl (decide (∀x∈ns,0<=x)))⟩
theorem ZvA(T:Txt w K mg){f:Addr}{fd:FuncData}(F:Fun K "is_list_from_nought" "is_list_from_nought" Zvg f fd):Jp P w K mg base CX0 3 f fd ["values"] (spF K 1 .P W0 ZuL.fn):=by
 have ZvI:=UE (P:=P) (w:=w) (base:=base) T.ZwO Zw6 (fun F=>Zw5 T F)
 refine F.okP Zwm rfl rfl (fun cdv A outer s H E hr=>?_)
 have hu:=hr.units
 refine⟨_,_,⟨[],[],[],.P⟩,rfl,(Zo (Z8 (Zeg (Zv (Vb (K:=K) (n := "list") rfl) rfl T.z_isinstance Jg (Za (pv 0) (Za (VA (v:=.ty "list") rfl T.z_list V2 rfl) Ze))) (Zd0 (Zv (Uh (K:=K) rfl) rfl T.z_all Zgf (Za (Vn (Uk (K:=K) (pv 0)) (fun _ _ _ _=>(ZK ZvI (hr.mono (by decide)) rfl (Za (pv 1) (Za Zt Ze)))) Zwm.nd rfl) Ze)))))),
   (ZZ (Zer (DE.toA (Zb8 (Zc (i:=0) (m:=.S) rfl (by decide)))) (ZfV (Zb (DE.toA (Va (DI.c (ZeN (Zhi (i:=0) rfl))) (DE.PF (Znr (Zf (Zf Zn)) (Zb (Zc (i:=1) (m:=.S) rfl (by decide)) (Zb (DE.toA Zs) Zd)))))) Zd)))), ?_⟩
 refine Pm.ref ZuL (g:=fun xs=>_) ?_
 intro (ns:List Int) (hn:ns.length<=1000000)
 simp only[ZuL]
 walk_at "pd"
 rw[ZkL (g:=fun z=>decide (0<=z)) (fun z _=>ZwP)]
 walk_at "pd"
 rw[ZlN]
theorem ZvH{ns:List Int}(h:ns.length<=1000000):ZuL.fn [.lst (ns.map PV.int)]=.ok (.bl (decide (∀x∈ns,0<=x))):=Pm.fn_eq ZuL ns h fun(a:List Int) e=>by simp only[ZuL] at e ⊢;walk_at "ij"
theorem Ve:ZuL.calm:=fun a q h=>by (simp only[ZuL] at h;cases h)
noncomputable def Zwi:Pm:=⟨Unit,fun _=>[],fun _=>True,fun _=>.ok (.int (10^60))⟩
theorem Zyk(T:Txt w K mg){f:Addr}{fd:FuncData}(F:Fun K "most_seeds" "most_seeds" ZwY f fd):Jp P w K mg base CX0 1 f fd [] (spF K 0 .P W0 Zwi.fn):=by
 refine F.okP ZzM rfl rfl (fun cdv A outer s H E hr=>?_)
 have hu:=hr.units
 refine⟨_,_,⟨[],[],[],.P⟩,rfl,(Zo (Z8 (Jc Zk5 Zt Zt))),
   (ZZ (Zlv (DE.toA Zs) (DE.toA Zs))), ?_⟩
 refine Pm.ref Zwi (g:=fun xs=>_) ?_
 rintro _ _
 simp only[Zwi]
 walk_at "pd"
theorem Zy7:Zwi.fn []=.ok (.int (10^60)):=Pm.fn_eq Zwi () trivial fun _ _=>rfl
noncomputable def ZvF:Pm:=⟨List Int,fun ns=>[.lst (ns.map PV.int)],fun ns=>ns.length<=1000,fun ns=>.ok (.bl (JN ns))⟩
theorem Z1q(T:Txt w K mg){f:Addr}{fd:FuncData}(F:Fun K "is_board" "is_board" ZxG f fd):Jp P w K mg base CX0 4 f fd ["board"] (spF K 1 .P W0 ZvF.fn):=by
 have ZuT:=UE (P:=P) (w:=w) (base:=base) T.ZvG ZvB (fun F=>ZvA T F)
 have ZxA:=UE (P:=P) (w:=w) (base:=base) T.Zy5 Zyq (fun F=>Zyk T F)
 refine F.okP Z1k rfl rfl (fun cdv A outer s H E hr=>?_)
 have hu:=hr.units
 refine⟨_,_,⟨[],[],[],.P⟩,rfl,(Zh (Jz (Vy (JJ (ZK ZuT (hr.mono (by decide)) rfl (Za (pv 0) Ze)))) (Zo (Z8 Zkl)) ZH)
   (Zh (Jz (PW.pt (UC (Z3 ZiK (Zv (ZA (K:=K)) rfl T.z_len Jo (Za (pv 0) Ze)) (Jw T.c_FEWEST_PITS rfl) (Z9 _)) (V6 (Z3 Uu (Zv (ZA (K:=K)) rfl T.z_len Jo (Za (pv 0) Ze)) (Jw T.c_MOST_PITS rfl) (Z9 _))))) (Zo (Z8 Zkl)) ZH)
   (Zo (Z8 (JZ Zti (Zv (Vj (K:=K) rfl) rfl T.z_sum ZcH (Za (pv 0) Ze)) (QN ZxA (hr.mono (by decide)) rfl) (Z9 _)))))),
   (Zp (Γm:=[.S]) (J0 (V0 (ZcF (DE.toA (Znr (Zf Zn) (Zb (Zc (i:=0) (m:=.S) rfl (by decide)) Zd)))))
   (ZZ Zl1)
   ZI)
   (Zp (Γm:=[.S]) (J0 (QE (Z1 (DE.toA (Zjm (DE.toA (J1 (Zb (Zc (i:=0) (m:=.S) rfl (by decide)) Zd))) (DE.toA Zs)))) (Z1 (DE.toA (U7 (DE.toA (J1 (Zb (Zc (i:=0) (m:=.S) rfl (by decide)) Zd))) (DE.toA Zs)))))
   (ZZ Zl1)
   ZI)
   (ZZ (Zt2 (DE.toA (ZcG (Zb (Zc (i:=0) (m:=.S) rfl (by decide)) Zd))) (DE.toA (Znr Zn Zd)))))), ?_⟩
 refine Pm.ref ZvF (g:=fun xs=>_) ?_
 intro (ns:List Int) (hn:ns.length<=1000)
 simp only[ZvF]
 walk_at "pd"
 rw[ZvH (by omega)]
 walk_at "pd"
 by_cases h3:∀x∈ns,0<=x
 ·rw[decide_eq_true h3]
  walk_at "pd"
  by_cases h1:(ns.length:Int)<2
  ·rw[decide_eq_true h1]
   walk_at "pd"
   rw[show JN ns=false from decide_eq_false (by omega)]
  rw[decide_eq_false h1]
  walk_at "pd"
  by_cases h2:(24:Int)<ns.length
  ·rw[decide_eq_true h2]
   walk_at "pd"
   rw[show JN ns=false from decide_eq_false (by omega)]
  rw[decide_eq_false h2]
  walk_at "pd"
  rw[Zy7]
  walk_at "pd"
  by_cases h4:ns.sum<=10^60
  ·rw[decide_eq_true h4,Vi.mpr ⟨by omega,by omega,h3,h4⟩]
  ·rw[decide_eq_false h4,show JN ns=false from decide_eq_false (fun z=>h4 z.2.2.2)]
 ·rw[decide_eq_false h3]
  walk_at "pd"
  rw[show JN ns=false from decide_eq_false (fun z=>h3 z.2.2.1)]
theorem Z2q{ns:List Int}(h:ns.length<=1000):ZvF.fn [.lst (ns.map PV.int)]=.ok (.bl (JN ns)):=Pm.fn_eq ZvF ns h fun(a:List Int) e=>by simp only[ZvF] at e ⊢;walk_at "ij"
theorem Zg2:ZvF.calm:=fun a q h=>by (simp only[ZvF] at h;cases h)
noncomputable def Zv6:Pm:=⟨List Int,fun ns=>[.lst (ns.map PV.int)],fun ns=>ns.length<=1000,fun ns=>orX (if JN ns=true then none else some "BadBoard") .non⟩
theorem Zv8(T:Txt w K mg){f:Addr}{fd:FuncData}(F:Fun K "check_board" "check_board" ZwC f fd):Jp P w K mg base (CX1 P w) 5 f fd ["board"] (spF K 1 .P (W1 K) Zv6.fn):=by
 have Z23:=UE (P:=P) (w:=w) (base:=base) T.Z2j Z1F (fun F=>Z1q T F)
 obtain⟨C_BadBoard,hC_BadBoard,hQ_BadBoard⟩:=J2 T.x_exc (n := "BadBoard") (by decide)
 refine F.okX Zzm rfl rfl (fun cdv A outer s H E hr=>?_)
 have hu:=hr.units
 refine⟨_,_,⟨[.S],[],[],.P⟩,rfl,(Zo (Jz (Vy (JJ (ZK Z23 (hr.mono (by decide)) rfl (Za (pv 0) Ze)))) (Zo (Ji JG hQ_BadBoard rfl (T.x_mg _ _ hC_BadBoard) rfl (Za Zj Ze))) ZH)),
   (J0 (V0 (ZcF (DE.toA (Zik (Zf Zn) (Pm.calm_fn Zg2) (Zb (Zc (i:=0) (m:=.S) rfl (by decide)) Zd)))))
   (Jj hC_BadBoard (Zf Zn) (by decide) (Zb (DE.toA Zi) Zd))
   ZI), ?_⟩
 refine Pm.ref Zv6 (g:=fun xs=>_) ?_
 intro (ns:List Int) (hn:ns.length<=1000)
 simp only[Zv6]
 walk_at "pu"
 rw[Z2q hn]
 walk_at "pu"
 by_cases h:JN ns=true
 ·rw[h];walk_at "pu";rfl
 ·rw[Bool.not_eq_true] at h
  rw[h];walk_at "pu";rfl
theorem Zvm{ns:List Int}(h:ns.length<=1000):Zv6.fn [.lst (ns.map PV.int)]=orX (if JN ns=true then none else some "BadBoard") .non:=Pm.fn_eq Zv6 ns h fun a e=>by
 simp only[Zv6,List.cons.injEq,PV.lst.injEq,and_true] at e ⊢
 rw[Zd9 e]
noncomputable def ZuK:Pm:=⟨Str,fun w=>[.str w],fun w=>ZdM w=true/\w.length<=100000,fun w=>.ok (.int (ZpK w))⟩
theorem Zx4(T:Txt w K mg){f:Addr}{fd:FuncData}(F:Fun K "number_or_too_many" "number_or_too_many" Zvn f fd):Jp P w K mg base CX0 2 f fd ["word"] (spF K 1 .P W0 ZuK.fn):=by
 have ZxA:=UE (P:=P) (w:=w) (base:=base) T.Zy5 Zyq (fun F=>Zyk T F)
 refine F.okP Zx0 rfl rfl (fun cdv A outer s H E hr=>?_)
 have hu:=hr.units
 refine⟨_,_,⟨[],[],[],.P⟩,rfl,(Zh (Jz (Z3 Uu (Zv Ug rfl T.z_len Jo (Za (pv 0) Ze)) (Jw T.c_MOST_FIGURES rfl) (Z9 _)) (Zo (Z8 (Jc ZhQ (QN ZxA (hr.mono (by decide)) rfl) Zt))) ZH)
   (Zo (Z8 (Jm ZdF rfl T.z_int Zix (Za (pv 0) Ze))))),
   (Zp (Γm:=[.S]) (J0 (Z1 (DE.toA (U7 (DE.toA (Zhj (Zb (Zc (i:=0) (m:=.S) rfl (by decide)) Zd))) (DE.toA Zs))))
   (ZZ (Ziq (DE.toA (Znr Zn Zd)) (DE.toA Zs)))
   ZI)
   (ZZ (Zhk (Zb (Zc (i:=0) (m:=.S) rfl (by decide)) Zd)))), ?_⟩
 refine Pm.ref ZuK (g:=fun xs=>_) ?_
 rintro(w:Str) ⟨h0,h1⟩
 simp only[ZuK]
 walk_at "pd"
 rw[show Zg5 [.str w]=.ok (.int w.length) from if_pos (by omega)]
 walk_at "pd"
 unfold ZpK
 by_cases c:61<w.length
 ·rw[decide_eq_true (show (61:Int)<(w.length:Int) by omega),if_pos c]
  walk_at "pd"
  rw[Zy7]
  walk_at "pd"
 ·rw[decide_eq_false (show ¬(61:Int)<(w.length:Int) by omega),if_neg c]
  walk_at "pd"
  rw[show Zf2 [.str w]=.ok (.int (ZoD w)) by
   unfold Zf2
   simp only[Zur h0 (show w.length<=640 by omega)]
   rw[if_pos (by omega)]]
  walk_at "pd"
theorem ZxL{w:Str}(h:ZdM w=true/\w.length<=100000):ZuK.fn [.str w]=.ok (.int (ZpK w)):=Pm.fn_eq ZuK w h fun(a:Str) e=>by simp only[ZuK] at e ⊢;walk_at "ij"
theorem VQ:ZuK.calm:=fun a q h=>by (simp only[ZuK] at h;cases h)
theorem Zrp:PyData.canLay0 (.str ("0":Str))=true:=by unfold PyData.canLay0 PyData.strOk;rw[<- Z4m];decide
theorem Ztp:PyData.canLay0 (.str ("":Str))=true:=by unfold PyData.canLay0 PyData.strOk;rw[<- Z4m];decide
noncomputable def Zvl:Pm:=⟨Str,fun w=>[.str w],fun w=>Vw w/\w.length<=100000,fun w=>.ok (.bl (ZdM w))⟩
theorem Zx5(T:Txt w K mg){f:Addr}{fd:FuncData}(F:Fun K "is_number" "is_number" Zxs f fd):Jp P w K mg base CX0 1 f fd ["word"] (spF K 1 .P W0 Zvl.fn):=by
 refine F.okP Zy3 rfl rfl (fun cdv A outer s H E hr=>?_)
 have hu:=hr.units
 refine⟨_,_,⟨[],[],[],.P⟩,rfl,(Zh (Jz (PW.pt (UC (Z3 (JI (K:=K) hu) (pv 0) Zj (Z9 _)) (V6 (Vy (JJ (Zv (Uh (K:=K) rfl) rfl T.z_all Zgf (Za (Vn (Zkg (pv 0)) (fun _ _ _ _=>(JZ Zk6 (pv 1) (Zmr T.c_FIGURES rfl) rfl)) Zy3.nd rfl) Ze))))))) (Zo (Z8 Zkl)) ZH)
   (Zo (Z8 (ZsR (JZ (JI (K:=K) hu) (pv 0) Zj (Z9 _)) (Zd0 (JZ (Zf3 (K:=K) hu) (JM Zoq (pv 0) Zt (fun _ _=>rfl)) Zj (Z9 _))))))),
   (Zp (Γm:=[.S]) (J0 (QE (Z1 (DE.toA (Jn (g:=id) (Zc (i:=0) (m:=.S) rfl (by decide)) (DE.toA Zi)))) (V0 (ZcF (DE.toA (ZfV (Zb (DE.toA (Va (DI.c (Zlr (Zc (i:=0) (m:=.S) rfl (by decide)))) (DE.PF (ZrM (Zc (i:=1) (m:=.S) rfl (by decide)) (DE.toA Zi))))) Zd))))))
   (ZZ Zl1)
   ZI)
   (ZZ (Zt1 (DE.toA (Jn (g:=id) (Zc (i:=0) (m:=.S) rfl (by decide)) (DE.toA Zi))) (Jn (g:=(!·)) (DE.toA (ZrL (Zc (i:=0) (m:=.S) rfl (by decide)) (DE.toA Zs))) (DE.toA Zi))))), ?_⟩
 refine Pm.ref Zvl (g:=fun xs=>_) ?_
 rintro(w:Str) ⟨h0,h1⟩
 simp only[Zvl]
 walk_at "pd"
 rw[Zl h0 Ztp]
 have hl:=h1
 rw[Qn] at hl
 unfold ZdM
 have we:(w==("":Str))=w.cps.toList.isEmpty:=by
  by_cases c:w.cps.toList=[]
  ·have:w=("":Str):=Str.ext' (Z4D.mp (by rw[c];rfl))
   rw[this];decide
  ·rw[show w.cps.toList.isEmpty=false by simpa using c,beq_eq_false_iff_ne]
   intro e;rw[e] at c;exact c rfl
 rw[we]
 have wz:(w==("0":Str))=decide (w.cps.toList=[48]):=by
  by_cases c:w.cps.toList=[48]
  ·have:w=("0":Str):=Str.ext' (Z4D.mp (by rw[c];rfl))
   rw[this];decide
  ·rw[decide_eq_false c,beq_eq_false_iff_ne]
   intro e;rw[e] at c;exact c rfl
 have lay:=Uo.mp h0
 generalize hcs:w.cps.toList=cs at hl we wz lay
 unfold Ztl
 by_cases hz:cs=[]
 ·subst hz
  rw[show ([]:List Nat).isEmpty=true from rfl]
  walk_at "pd"
 ·obtain⟨d,r,hL⟩:=List.exists_cons_of_ne_nil hz
  rw[show cs.isEmpty=false by simpa using hz]
  walk_at "pd"
  rw[ZpP,hcs]
  walk_at "pd"
  rw[ZgH (g:=fun x=>match x with|.str z=>PV.bl (inS z Zqk)|_=>.non) (fun x hx=>by
   obtain⟨c,hc,rfl⟩:=Z3G.mp hx
   rfl)]
  rw[show (cs.map fun c=>PV.str ⟨#[c]⟩).map (fun x=>match x with|.str z=>PV.bl (inS z Zqk)|_=>.non)=(cs.map Zhc).map PV.bl by
   rw[Z4x,Z4x]
   exact Z4N fun c _=>congrArg PV.bl (ZrB c)]
  walk_at "pd"
  rw[show (cs.map Zhc).all id=cs.all Zhc by rw[Z4U];rfl]
  cases cs.all Zhc with
  |false =>
   walk_at "pd"
  |true =>
   walk_at "pd"
   rw[Zl h0 Zrp,wz]
   by_cases c:cs=[48]
   ·rw[decide_eq_true c]
    walk_at "pd"
    rfl
   ·rw[decide_eq_false c]
    walk_at "pd"
    rw[show Zsy (.str w) (.int 0)=.ok (.str ⟨#[d]⟩) by
     unfold Zsy
     have e1:atI w.cps.toList 0=some d:=by
      rw[hcs,hL]
      unfold atI
      rw[ZfJ (by omega) (by simp only[Z3t];omega)];rfl
     simp only[e1]
     rw[if_pos (by omega)]]
    walk_at "pd"
    have ld:=lay d (by rw[hL];simp)
    rw[Zl (by unfold PyData.canLay0 PyData.strOk;rw[<- Z4m];simp;omega) Zrp]
    have e3:((⟨#[d]⟩:Str)==("0":Str))=decide (d=48):=by
     by_cases c:d=48
     ·subst c;decide
     ·rw[decide_eq_false c,beq_eq_false_iff_ne]
      intro e
      have:(⟨#[d]⟩:Str).cps.toList=[48]:=by rw[e];rfl
      simp at this
      exact c this
    rw[e3,hL]
    walk_at "pd"
    simp
theorem ZxX{w:Str}(h:Vw w/\w.length<=100000):Zvl.fn [.str w]=.ok (.bl (ZdM w)):=Pm.fn_eq Zvl w h fun(a:Str) e=>by simp only[Zvl] at e ⊢;walk_at "ij"
theorem VR:Zvl.calm:=fun a q h=>by (simp only[Zvl] at h;cases h)
noncomputable def ZvL:Pm:=⟨Str,fun s=>[.str s],fun s=>(Vw s/\s.length<=100000)/\(V3 s).length<=1000,fun s=>rdW (V3 s)⟩
theorem ZzV(T:Txt w K mg){f:Addr}{fd:FuncData}(F:Fun K "read_board" "read_board" ZwX f fd):Jp P w K mg base (CX1 P w) 6 f fd ["text"] (spF K 1 .F (W1 K) ZvL.fn):=by
 have ZuM:=ZV (P:=P) (w:=w) (base:=base) T.ZvR Zv9 (fun F=>Zv8 T F)
 have ZxN:=UE (P:=P) (w:=w) (base:=base) T.ZxK Zx8 (fun F=>Zx4 T F)
 have ZwR:=UE (P:=P) (w:=w) (base:=base) T.ZxV Zx9 (fun F=>Zx5 T F)
 obtain⟨C_BadText,hC_BadText,hQ_BadText⟩:=J2 T.x_exc (n := "BadText") (by decide)
 refine F.okX Zw7 rfl rfl (fun cdv A outer s H E hr=>?_)
 have hu:=hr.units
 refine⟨_,_,⟨[],[],[],.F⟩,rfl,(Zh (Z7 (i:=1) Zw7.nd rfl (by first|exact Or.inl rfl|exact Or.inr rfl) (Ze5 PySem.F.plainAttrs_str PySem.F.slot_str_split PySem.F.type_str_split ZeA (pv 0) (Za Zj Ze)))
   (Zh (Jz (Vy (JJ (Zv (Uh (K:=K) rfl) rfl T.z_all Zgf (Za (Vn (Uk (K:=K) (pv 1)) (fun _ _ _ _=>(ZK ZwR (hr.mono (by decide)) rfl (Za (pv 3) Ze))) Zw7.nd rfl) Ze)))) (Zo (Ji JG hQ_BadText rfl (T.x_mg _ _ hC_BadText) rfl (Za Zj Ze))) ZH)
   (Zh (Zgy (i:=2) Zw7.nd rfl (Uk (K:=K) (pv 1)) (fun _ _ _ _=>(ZK ZxN (hr.mono (by decide)) rfl (Za (pv 3) Ze))) rfl)
   (Zh (ZJ (Zu ZuM (hr.mono (by decide)) rfl Zw (Za (pv 2) Ze)))
   (Zo (Z8 (pv 2))))))),
   (Zp (Γm:=[.S,.O,.U]) (Z6 (i:=1) (ZeP (Zc (i:=0) (m:=.S) rfl (by decide)) (Zb (DE.toA Zi) Zd)) (by decide))
   (Zp (Γm:=[.S,.O,.U]) (J0 (V0 (ZcF (DE.toA (ZfV (Zb (DE.toA (Va (Zim (Zc (i:=1) (m:=.O) rfl (by decide))) (DE.PF (Zik (Zf Zn) (Pm.calm_fn VR) (Zb (Zc (i:=3) (m:=.S) rfl (by decide)) Zd))))) Zd)))))
   (Jj hC_BadText (Zf Zn) (by decide) (Zb (DE.toA Zi) Zd))
   ZI)
   (Zp (Γm:=[.S,.O,.O]) (ZdD (i:=2) (Va (Zim (Zc (i:=1) (m:=.O) rfl (by decide))) (DE.PF (Zik (Zf Zn) (Pm.calm_fn VQ) (Zb (Zc (i:=3) (m:=.S) rfl (by decide)) Zd)))) (by decide))
   (Zp (Γm:=[.S,.O,.O]) (ZT (DE.toA (Ur (Zf Zn) (Zb (Zc (i:=2) (m:=.O) rfl (by decide)) Zd))))
   (Jf (Zlu (i:=2) rfl)))))), ?_⟩
 refine Pm.ref ZvL (g:=fun xs=>_) ?_
 rintro(s:Str) ⟨⟨h0,h1⟩,h2⟩
 simp only[ZvL]
 have hw:∀w∈V3 s,Vw w/\w.length<=100000:=fun w hw=>⟨(ZdX hw).1 h0,Z33 (ZdX hw).2 h1⟩
 walk_at "pd"
 rw[show Zei s [.str (" ":Str)]=.ok (.lst ((V3 s).map PV.str)) from by rw[show ((" ":Str))=spS from ZnI];exact ZbH h1 (by have:=h2;unfold V3 spS at this;omega)]
 generalize V3 s=ws at h2 hw
 walk_at "pd"
 rw[show Zqo (.lst (ws.map PV.str))=.ok (ws.map PV.str) from if_pos Ue]
 walk_at "pd"
 rw[ZgH (g:=fun x=>match x with|.str z=>PV.bl (ZdM z)|_=>.non) (fun x hx=>by
  obtain⟨w,hw',rfl⟩:=Z3G.mp hx
  exact ZxX (hw w hw'))]
 rw[show (ws.map PV.str).map (fun x=>match x with|.str z=>PV.bl (ZdM z)|_=>.non)=(ws.map ZdM).map PV.bl by rw[Z4x,Z4x];rfl]
 walk_at "pd"
 rw[show (ws.map ZdM).all id=ws.all ZdM by rw[Z4U];rfl]
 unfold rdW
 by_cases c:ws.all ZdM=true
 ·rw[if_pos c,c]
  walk_at "pd"
  rw[show Zqo (.lst (ws.map PV.str))=.ok (ws.map PV.str) from if_pos Ue]
  walk_at "pd"
  rw[show Zf8 (fun x=>ZuK.fn [x]) (ws.map PV.str)=.ok ((ws.map ZpK).map PV.int) by
   clear h2
   have c:=Z36.mp c
   induction ws with
   |nil=>rfl
   |cons a l ih =>
    rw[Z31,Zf8,ZxL ⟨c a (by simp),(hw a (by simp)).2⟩,ih (fun x hx=>hw x (by simp[hx])) (Z36.mpr fun x hx=>c x (by simp[hx])) fun x hx=>c x (by simp[hx])]
    rfl]
  walk_at "pd"
  rw[Zvm (by rw[Z3w];omega)]
  by_cases h:JN (ws.map ZpK)=true
  ·rw[if_pos h]
   walk_at "pd"
  ·rw[if_neg h]
   walk_at "pd"
 ·rw[if_neg c,show ws.all ZdM=false by simpa using c]
  walk_at "pd"
theorem Z0L{s:Str}(h:(Vw s/\s.length<=100000)/\(V3 s).length<=1000):ZvL.fn [.str s]=rdW (V3 s):=Pm.fn_eq ZvL s h fun(a:Str) e=>by simp only[ZvL] at e ⊢;walk_at "ij"
noncomputable def JK:Pm:=⟨Str,fun s=>[.str s],fun _=>True,fun s=>.ok (.str s)⟩
theorem ZfP(T:Txt w K mg){f:Addr}{fd:FuncData}(F:Fun K "copy_of" "copy_of" Zx3 f fd):Jp P w K mg base CX0 2 f fd ["value"] (spF K 1 .F W0 JK.fn):=by
 refine F.okP ZwG rfl rfl (fun cdv A outer s H E hr=>?_)
 have hu:=hr.units
 refine⟨_,_,⟨[],[],[],.F⟩,rfl,(Zh (Jz (JJ (Zv (Vb (K:=K) (n := "list") rfl) rfl T.z_isinstance Jg (Za (pv 0) (Za (VA (v:=.ty "list") rfl T.z_list V2 rfl) Ze)))) (Zo (Z8 (Vn (Zkg (pv 0)) (fun _ _ _ _=>Zkj) ZwG.nd rfl))) ZH)
   (Zh (Jz (JJ (Zv (Vb (K:=K) (n := "tuple") rfl) rfl T.z_isinstance Jg (Za (pv 0) (Za (VA (v:=.ty "tuple") rfl T.z_tuple Ziw rfl) Ze)))) (Zo (Z8 (Jm (Vt (K:=K)) rfl T.z_tuple Ui (Za (Vn (Zkg (pv 0)) (fun _ _ _ _=>Zkj) ZwG.nd rfl) Ze)))) ZH)
   (Zo (Z8 (pv 0))))),
   (Zp (Γm:=[.S]) (J0 (ZcF (DE.toA (Zb8 (Zc (i:=0) (m:=.S) rfl (by decide)))))
   (Jf (Va (DI.c (Zlr (Zc (i:=0) (m:=.S) rfl (by decide)))) Zlw))
   ZI)
   (Zp (Γm:=[.S]) (J0 (ZcF (DE.toA (Zb8 (Zc (i:=0) (m:=.S) rfl (by decide)))))
   (Jf (ZfR (Va (DI.c (Zlr (Zc (i:=0) (m:=.S) rfl (by decide)))) Zlw)))
   ZI)
   (Jf (DE.PF (DE.grd (Zc (i:=0) (m:=.S) rfl (by decide))))))), ?_⟩
 refine Pm.ref JK (g:=fun xs=>_) ?_
 rintro(s:Str) -
 simp only[JK]
 walk_at "pd"
 rw[show Zm6 "list" (.str s)=.ok (.bl false) from rfl]
 walk_at "pd"
 rw[show Zm6 "tuple" (.str s)=.ok (.bl false) from rfl]
 walk_at "pd"
theorem Zhr{s:Str}:JK.fn [.str s]=.ok (.str s):=Pm.fn_eq JK s trivial fun(a:Str) e=>by simp only[JK] at e ⊢;walk_at "ij"
noncomputable def ZvM:Pm:=⟨Str×Str,fun a=>[.tup [.str a.1,.str a.2]],fun _=>True,fun a=>.ok (.tup [.str a.1,.str a.2])⟩
theorem Z2c(T:Txt w K mg){f:Addr}{fd:FuncData}(F:Fun K "copy_of" "copy_of" Zx3 f fd):Jp P w K mg base CX0 3 f fd ["value"] (spF K 1 .F W0 ZvM.fn):=by
 have G_copy_of_1:=UE (P:=P) (w:=w) (base:=base) T.Z0C ZzG (fun F=>ZfP T F)
 refine F.okP ZwG rfl rfl (fun cdv A outer s H E hr=>?_)
 have hu:=hr.units
 refine⟨_,_,⟨[],[],[],.F⟩,rfl,(Zh (Jz (JJ (Zv (Vb (K:=K) (n := "list") rfl) rfl T.z_isinstance Jg (Za (pv 0) (Za (VA (v:=.ty "list") rfl T.z_list V2 rfl) Ze)))) (Zo (Z8 (Vn (Zkf (K:=K) (pv 0)) (fun _ _ _ _=>(ZK G_copy_of_1 (hr.mono (by decide)) rfl (Za (pv 1) Ze))) ZwG.nd rfl))) ZH)
   (Zh (Jz (JJ (Zv (Vb (K:=K) (n := "tuple") rfl) rfl T.z_isinstance Jg (Za (pv 0) (Za (VA (v:=.ty "tuple") rfl T.z_tuple Ziw rfl) Ze)))) (Zo (Z8 (Jm (Vt (K:=K)) rfl T.z_tuple Ui (Za (Vn (Zkf (K:=K) (pv 0)) (fun _ _ _ _=>(ZK G_copy_of_1 (hr.mono (by decide)) rfl (Za (pv 1) Ze))) ZwG.nd rfl) Ze)))) ZH)
   (Zo (Z8 (pv 0))))),
   (Zp (Γm:=[.S]) (J0 (ZcF (DE.toA (Zb8 (Zc (i:=0) (m:=.S) rfl (by decide)))))
   (Jf (Va (DI.c (Zow (DE.PZ (DE.grd (Zc (i:=0) (m:=.S) rfl (by decide)))))) (Zs7 (Zf Zn) (Zb (Zc (i:=1) (m:=.S) rfl (by decide)) Zd))))
   ZI)
   (Zp (Γm:=[.S]) (J0 (ZcF (DE.toA (Zb8 (Zc (i:=0) (m:=.S) rfl (by decide)))))
   (Jf (ZfR (Va (DI.c (Zow (DE.PZ (DE.grd (Zc (i:=0) (m:=.S) rfl (by decide)))))) (Zs7 (Zf Zn) (Zb (Zc (i:=1) (m:=.S) rfl (by decide)) Zd)))))
   ZI)
   (Jf (DE.PF (DE.grd (Zc (i:=0) (m:=.S) rfl (by decide))))))), ?_⟩
 refine Pm.ref ZvM (g:=fun xs=>_) ?_
 rintro⟨a,b⟩ -
 simp only[ZvM]
 walk_at "pd"
 rw[show Zb3 (Vx (.tup [.str a,.str b])) "list"=false from rfl]
 walk_at "pd"
 rw[show grd (.tup [.str a,.str b])=.ok (.tup [.str a,.str b]) from rfl]
 walk_at "pd"
 rw[show Zf8 (fun x=>JK.fn [x]) [.str a,.str b]=.ok [.str a,.str b] by
  simp only[Zf8,Zhr,Rr.bind_ok]]
 walk_at "pd"
 rfl
theorem Z2K{a b:Str}:ZvM.fn [.tup [.str a,.str b]]=.ok (.tup [.str a,.str b]):=Pm.fn_eq ZvM (a,b) trivial fun(a:Str×Str) e=>by simp only[ZvM] at e ⊢;walk_at "ij"
theorem ZiF:ZvM.calm:=fun a q h=>by (simp only[ZvM] at h;cases h)
noncomputable def rd1(t:Str):Option Int:=if ZdM t=true/\t.length<=61 then some (ZoD t) else none
noncomputable def rdP(o:Option Int):Rr PV:=match o with
 |some i=>.ok (.int i)
 |none=>.exc ("BadText",.non)
theorem Zkz{t:Str}(h:ZdM t=true)(hl:t.length<=640):Zf2 [.str t]=.ok (.int (ZoD t)):=by
 unfold Zf2
 simp only[Zur h hl]
 rw[if_pos hl]
noncomputable def Jl:Pm:=⟨Str,fun t=>[.str t,.bl false],fun t=>Vw t/\t.length<=1000,fun t=>rdP (rd1 t)⟩
theorem ZcX(T:Txt w K mg){f:Addr}{fd:FuncData}(F:Fun K "read_number" "read_number" Zwf f fd):Jp P w K mg base (CX1 P w) 3 f fd ["text", "below"] (spF K 2 .P (W1 K) Jl.fn):=by
 have ZwR:=UE (P:=P) (w:=w) (base:=base) T.ZxV Zx9 (fun F=>Zx5 T F)
 obtain⟨C_BadText,hC_BadText,hQ_BadText⟩:=J2 T.x_exc (n := "BadText") (by decide)
 refine F.okX ZxO rfl rfl (fun cdv A outer s H E hr=>?_)
 have hu:=hr.units
 refine⟨_,_,⟨[],[],[],.P⟩,rfl,(Zh (Jz (PW.pt (U8 (JJ (pv 1)) (U8 (JJ (Ze5 PySem.F.plainAttrs_str PySem.F.slot_str_startswith PySem.F.type_str_startswith Zf6 (pv 0) (Za Zj Ze))) (VO (Z3 (Zf3 (K:=K) hu) (pv 0) Zj (Z9 _)))))) ZN ZH)
   (Zh (Jz (PW.pt (UC (Vy (JJ (ZK ZwR (hr.mono (by decide)) rfl (Za (pv 0) Ze)))) (V6 (Z3 Uu (Zv Ug rfl T.z_len Jo (Za (pv 0) Ze)) (Jw T.c_MOST_FIGURES rfl) (Z9 _))))) (Zo (Ji JG hQ_BadText rfl (T.x_mg _ _ hC_BadText) rfl (Za Zj Ze))) ZH)
   (Zo (Z8 (Jm ZdF rfl T.z_int Zix (Za (pv 0) Ze)))))),
   (Zp (Γm:=[.S,.S]) (J0 (U9 (ZcF (Zc (i:=1) (m:=.S) rfl (by decide))) (U9 (ZcF (DE.toA (ZfS (Zc (i:=0) (m:=.S) rfl (by decide)) (Zb (DE.toA Zi) Zd)))) (Z1 (DE.toA (Jn (g:=(!·)) (Zc (i:=0) (m:=.S) rfl (by decide)) (DE.toA Zi))))))
   Ja
   ZI)
   (Zp (Γm:=[.S,.S]) (J0 (QE (V0 (ZcF (DE.toA (Zik (Zf Zn) (Pm.calm_fn VR) (Zb (Zc (i:=0) (m:=.S) rfl (by decide)) Zd))))) (Z1 (DE.toA (U7 (DE.toA (Zhj (Zb (Zc (i:=0) (m:=.S) rfl (by decide)) Zd))) (DE.toA Zs)))))
   (Jj hC_BadText (Zf Zn) (by decide) (Zb (DE.toA Zi) Zd))
   ZI)
   (ZZ (Zhk (Zb (Zc (i:=0) (m:=.S) rfl (by decide)) Zd))))), ?_⟩
 refine Pm.ref Jl (g:=fun xs=>_) ?_
 rintro(t:Str) ⟨h,hl⟩
 simp only[Jl]
 walk_at "pd"
 rw[ZxX ⟨h,by omega⟩]
 by_cases c1:ZdM t=true
 ·rw[c1]
  walk_at "pd"
  rw[show Zg5 [.str t]=.ok (.int t.length) from if_pos (by omega)]
  walk_at "pd"
  by_cases c2:t.length<=61
  ·rw[show rd1 t=some (ZoD t) from if_pos ⟨c1,c2⟩,decide_eq_false (show ¬(61:Int)<(t.length:Int) by omega)]
   walk_at "pd"
   rw[Zkz c1 (by omega)]
   rfl
  ·rw[show rd1 t=none from if_neg (fun z=>c2 z.2),decide_eq_true (show (61:Int)<(t.length:Int) by omega)]
   walk_at "pd"
   rfl
 ·rw[show rd1 t=none from if_neg (fun z=>c1 z.1),show ZdM t=false by simpa using c1]
  walk_at "pd"
  rfl
theorem ZdG{t:Str}(h:Vw t/\t.length<=1000):Jl.fn [.str t,.bl false]=rdP (rd1 t):=Pm.fn_eq Jl t h fun(a:Str) e=>by simp only[Jl] at e ⊢;walk_at "ij"
noncomputable def rdN(t:Str)(e:Bool):Option Int:=if (e&&(Txt.startswith t "-" && !(t==("-0":Str))))=true then (rd1 (StrLaws.sliceText t (some 1) none)).map (fun i=>-i) else rd1 t
theorem Zro:PyData.canLay0 (.str ("-0":Str))=true:=by rw[PyData.canLay0];decide +kernel
noncomputable def Zv2:Pm:=⟨Str×Bool,fun a=>[.str a.1,.bl a.2],fun a=>(Vw a.1/\Vw (StrLaws.sliceText a.1 (some 1) none))/\a.1.length<=1000,fun a=>rdP (rdN a.1 a.2)⟩
theorem Zzp(T:Txt w K mg){f:Addr}{fd:FuncData}(F:Fun K "read_number" "read_number" Zwf f fd):Jp P w K mg base (CX1 P w) 4 f fd ["text", "below"] (spF K 2 .P (W1 K) Zv2.fn):=by
 have G_read_number_1:=ZV (P:=P) (w:=w) (base:=base) T.Zym ZxQ (fun F=>ZcX T F)
 have ZwR:=UE (P:=P) (w:=w) (base:=base) T.ZxV Zx9 (fun F=>Zx5 T F)
 obtain⟨C_BadText,hC_BadText,hQ_BadText⟩:=J2 T.x_exc (n := "BadText") (by decide)
 refine F.okX ZxO rfl rfl (fun cdv A outer s H E hr=>?_)
 have hu:=hr.units
 refine⟨_,_,⟨[],[],[],.P⟩,rfl,(Zh (Jz (PW.pt (U8 (JJ (pv 1)) (U8 (JJ (Ze5 PySem.F.plainAttrs_str PySem.F.slot_str_startswith PySem.F.type_str_startswith Zf6 (pv 0) (Za Zj Ze))) (VO (Z3 (Zf3 (K:=K) hu) (pv 0) Zj (Z9 _)))))) (Zo (Z8 (ZiD ZdR (Zu G_read_number_1 (hr.mono (by decide)) rfl Zw (Za (Ul ZqE (pv 0) (ZbF Zt) ZbG) (Za Zkl Ze)))))) ZH)
   (Zh (Jz (PW.pt (UC (Vy (JJ (ZK ZwR (hr.mono (by decide)) rfl (Za (pv 0) Ze)))) (V6 (Z3 Uu (Zv Ug rfl T.z_len Jo (Za (pv 0) Ze)) (Jw T.c_MOST_FIGURES rfl) (Z9 _))))) (Zo (Ji JG hQ_BadText rfl (T.x_mg _ _ hC_BadText) rfl (Za Zj Ze))) ZH)
   (Zo (Z8 (Jm ZdF rfl T.z_int Zix (Za (pv 0) Ze)))))),
   (Zp (Γm:=[.S,.S]) (J0 (U9 (ZcF (Zc (i:=1) (m:=.S) rfl (by decide))) (U9 (ZcF (DE.toA (ZfS (Zc (i:=0) (m:=.S) rfl (by decide)) (Zb (DE.toA Zi) Zd)))) (Z1 (DE.toA (Jn (g:=(!·)) (Zc (i:=0) (m:=.S) rfl (by decide)) (DE.toA Zi))))))
   (ZZ (Zep (DE.toA (Ur (Zf (Zf Zn)) (Zb (DE.toA (ZrH (Zc (i:=0) (m:=.S) rfl (by decide)) (Zc9 (DE.toA Zs)) ZcA)) (Zb (DE.toA Zl1) Zd))))))
   ZI)
   (Zp (Γm:=[.S,.S]) (J0 (QE (V0 (ZcF (DE.toA (Zik (Zf Zn) (Pm.calm_fn VR) (Zb (Zc (i:=0) (m:=.S) rfl (by decide)) Zd))))) (Z1 (DE.toA (U7 (DE.toA (Zhj (Zb (Zc (i:=0) (m:=.S) rfl (by decide)) Zd))) (DE.toA Zs)))))
   (Jj hC_BadText (Zf Zn) (by decide) (Zb (DE.toA Zi) Zd))
   ZI)
   (ZZ (Zhk (Zb (Zc (i:=0) (m:=.S) rfl (by decide)) Zd))))), ?_⟩
 refine Pm.ref Zv2 (g:=fun xs=>_) ?_
 rintro⟨t,e⟩ ⟨⟨h,h'⟩,hl⟩
 simp only at h h' hl
 simp only[Zv2]
 have hl':(StrLaws.sliceText t (some 1) none).length<=1000:=Z33 (Txt.slice_le t _ _) hl
 have Zgi:(((((Zvl.fn [.str t]).bind asB).bind fun b=>Rr.ok !b).bind fun b=>if b=true then Rr.ok true else ((Zg5 [.str t]).bind fun x=>pGt x (.int 61)).bind asB).thenS fun b=>if b=true then RS.exc ("BadText",.non) else RS.next [.str t,.bl e]).seq (fun ρ=>(Zf2 [gv 0 ρ]).thenS fun x=>RS.ret x)=match rd1 t with
   |some i=>RS.ret (.int i)
   |none=>RS.exc ("BadText",.non):=by
  rw[ZxX ⟨h,by omega⟩]
  by_cases c1:ZdM t=true
  ·rw[c1]
   walk_at "pd"
   rw[show Zg5 [.str t]=.ok (.int t.length) from if_pos (by omega)]
   walk_at "pd"
   by_cases c2:t.length<=61
   ·rw[show rd1 t=some (ZoD t) from if_pos ⟨c1,c2⟩,decide_eq_false (show ¬(61:Int)<(t.length:Int) by omega)]
    walk_at "pd"
    rw[Zkz c1 (by omega)]
    rfl
   ·rw[show rd1 t=none from if_neg (fun z=>c2 z.2),decide_eq_true (show (61:Int)<(t.length:Int) by omega)]
    walk_at "pd"
  ·rw[show rd1 t=none from if_neg (fun z=>c1 z.1),show ZdM t=false by simpa using c1]
   walk_at "pd"
 have fin:(match rd1 t with
   |some i=>RS.ret (.int i)
   |none=>RS.exc ("BadText",.non)).out=rdP (rd1 t):=by cases rd1 t<;>rfl
 unfold rdN
 walk_at "pd"
 cases e with
 |false =>
  rw[if_neg (by decide)]
  walk_at "pd"
  rw[Zgi]
  exact fin
 |true =>
  rw[show Zg3 t [.str ("-":Str)]=.ok (.bl (Txt.startswith t "-")) from rfl]
  by_cases c1:Txt.startswith t "-"=true
  ·rw[c1]
   walk_at "pd"
   rw[Zl h Zro]
   by_cases c2:(t==("-0":Str))=true
   ·rw[c2,if_neg (by decide)]
    walk_at "pd"
    rw[Zgi]
    exact fin
   ·rw[show (t==("-0":Str))=false by simpa using c2,if_pos (by decide)]
    walk_at "pd"
    rw[show ZsV (.str t) (some 1) none=.ok (.str (StrLaws.sliceText t (some 1) none)) from if_pos (by omega)]
    walk_at "pd"
    rw[ZdG ⟨h',hl'⟩]
    cases rd1 (StrLaws.sliceText t (some 1) none) with
    |none=>rfl
    |some i=>rfl
  ·rw[show Txt.startswith t "-"=false by simpa using c1]
   simp only[Bool.false_and,Bool.and_false,Bool.false_eq_true,if_false]
   walk_at "pd"
   rw[Zgi]
   exact fin
theorem Zyo{t:Str}{e:Bool}(h:(Vw t/\Vw (StrLaws.sliceText t (some 1) none))/\t.length<=1000):Zv2.fn [.str t,.bl e]=rdP (rdN t e):=Pm.fn_eq Zv2 (t,e) h fun(a:Str×Bool) e=>by simp only[Zv2] at e ⊢;walk_at "ij"
noncomputable def Zgj(b:List Int)(w:Str)(n:Int):Bool:=if (JQ.any (·==w))=true then true else if (J7.any (·==w))=true then decide (n=(b.length:Int)) else if (w==("on":Str))=true then decide (n=2) else if (Vc.any (·==w))=true then decide (n=1) else decide (n=0)
theorem Zon:PyData.canLay0 (.str ("on":Str))=true:=by rw[PyData.canLay0];decide +kernel
noncomputable def ZvE:Pm:=⟨List Int×Str×Int,fun a=>[.lst (a.1.map PV.int),.str a.2.1,.int a.2.2],fun a=>Vw a.2.1,fun a=>.ok (.bl (Zgj a.1 a.2.1 a.2.2))⟩
theorem Z1p(T:Txt w K mg){f:Addr}{fd:FuncData}(F:Fun K "is_count" "is_count" ZxF f fd):Jp P w K mg base CX0 1 f fd ["board", "word", "count"] (spF K 3 .P W0 ZvE.fn):=by
 obtain⟨a_ANY_NUMBERS,hm_ANY_NUMBERS,hk_ANY_NUMBERS⟩:=T.k_ANY_NUMBERS.at
 obtain⟨a_BOARD_NUMBERS,hm_BOARD_NUMBERS,hk_BOARD_NUMBERS⟩:=T.k_BOARD_NUMBERS.at
 obtain⟨a_ONE_NUMBER,hm_ONE_NUMBER,hk_ONE_NUMBER⟩:=T.k_ONE_NUMBER.at
 refine F.okP Z1j rfl rfl (fun cdv A outer s H E hr=>?_)
 have hu:=hr.units
 refine⟨_,_,⟨[],[],[],.P⟩,rfl,(Zh (Jz (Z3 (Zk7 (K:=K) hu) (pv 1) (Zd1 (v:=.ref a_ANY_NUMBERS) rfl hm_ANY_NUMBERS rfl) rfl) (Zo (Z8 Zkl)) ZH)
   (Zh (Jz (Z3 (Zk7 (K:=K) hu) (pv 1) (Zd1 (v:=.ref a_BOARD_NUMBERS) rfl hm_BOARD_NUMBERS rfl) rfl) (Zo (Z8 (JZ (JI (K:=K) hu) (pv 2) (Zv (ZA (K:=K)) rfl T.z_len Jo (Za (pv 0) Ze)) (Z9 _)))) ZH)
   (Zh (Jz (Z3 (JI (K:=K) hu) (pv 1) Zj (Z9 _)) (Zo (Z8 (JZ (JI (K:=K) hu) (pv 2) Zt (Z9 _)))) ZH)
   (Zo (Z8 (JZ (JI (K:=K) hu) (pv 2) (Zmq (Z3 (Zk7 (K:=K) hu) (pv 1) (Zd1 (v:=.ref a_ONE_NUMBER) rfl hm_ONE_NUMBER rfl) rfl) Zt Zt) (Z9 _))))))),
   (Zp (Γm:=[.S,.S,.S]) (J0 (Z1 (DE.toA (Zly (g:=id) hk_ANY_NUMBERS ZdN (Zc (i:=1) (m:=.S) rfl (by decide)))))
   (ZZ Zl1)
   ZI)
   (Zp (Γm:=[.S,.S,.S]) (J0 (Z1 (DE.toA (Zly (g:=id) hk_BOARD_NUMBERS ZcR (Zc (i:=1) (m:=.S) rfl (by decide)))))
   (ZZ (Jn (g:=id) (Zc (i:=2) (m:=.S) rfl (by decide)) (DE.toA (J1 (Zb (Zc (i:=0) (m:=.S) rfl (by decide)) Zd)))))
   ZI)
   (Zp (Γm:=[.S,.S,.S]) (J0 (Z1 (DE.toA (Jn (g:=id) (Zc (i:=1) (m:=.S) rfl (by decide)) (DE.toA Zi))))
   (ZZ (Jn (g:=id) (Zc (i:=2) (m:=.S) rfl (by decide)) (DE.toA Zs)))
   ZI)
   (ZZ (Jn (g:=id) (Zc (i:=2) (m:=.S) rfl (by decide)) (DE.toA (Zt3 (Z1 (DE.toA (Zly (g:=id) hk_ONE_NUMBER ZeF (Zc (i:=1) (m:=.S) rfl (by decide))))) Zs Zs))))))), ?_⟩
 refine Pm.ref ZvE (g:=fun xs=>_) ?_
 rintro⟨b,w,n⟩ (h:Vw w)
 simp only[ZvE]
 unfold Zgj
 walk_at "pd"
 rw[Zg9 h]
 by_cases c1:(JQ.any (·==w))=true
 ·rw[c1]
  walk_at "pd"
 ·rw[show (JQ.any (·==w))=false by simpa using c1]
  walk_at "pd"
  rw[Zg9 h]
  by_cases c2:(J7.any (·==w))=true
  ·rw[c2]
   walk_at "pd"
  ·rw[show (J7.any (·==w))=false by simpa using c2]
   walk_at "pd"
   rw[Zl h Zon]
   by_cases c3:(w==("on":Str))=true
   ·rw[c3]
    walk_at "pd"
   ·rw[show (w==("on":Str))=false by simpa using c3]
    walk_at "pd"
    rw[Zg9 h]
    by_cases c4:(Vc.any (·==w))=true
    ·rw[c4]
     walk_at "pd"
    ·rw[show (Vc.any (·==w))=false by simpa using c4]
     walk_at "pd"
theorem Z2p{b:List Int}{w:Str}{n:Int}(h:Vw w):ZvE.fn [.lst (b.map PV.int),.str w,.int n]=.ok (.bl (Zgj b w n)):=Pm.fn_eq ZvE (b,w,n) h fun(a:List Int×Str×Int) e=>by simp only[ZvE] at e ⊢;walk_at "ij"
theorem Zg1:ZvE.calm:=fun a q h=>by (simp only[ZvE] at h;cases h)
noncomputable def Zw3:Pm:=⟨List Int×Int,fun a=>[.lst (a.1.map PV.int),.int a.2],fun _=>True,fun a=>.ok (.bl (decide (0<=a.2/\a.2<a.1.length)))⟩
theorem Z03(T:Txt w K mg){f:Addr}{fd:FuncData}(F:Fun K "is_pit" "is_pit" ZyJ f fd):Jp P w K mg base CX0 3 f fd ["board", "pit"] (spF K 2 .P W0 Zw3.fn):=by
 have ZvI:=UE (P:=P) (w:=w) (base:=base) T.ZwO Zw6 (fun F=>Zw5 T F)
 refine F.okP Z28 rfl rfl (fun cdv A outer s H E hr=>?_)
 have hu:=hr.units
 refine⟨_,_,⟨[],[],[],.P⟩,rfl,(Zo (Z8 (Zeg (ZK ZvI (hr.mono (by decide)) rfl (Za (pv 1) (Za Zt Ze))) (Zd0 (JZ ZiK (pv 1) (Zv (ZA (K:=K)) rfl T.z_len Jo (Za (pv 0) Ze)) (Z9 _)))))),
   (ZZ (Zer (DE.toA (Znr (Zf (Zf Zn)) (Zb (Zc (i:=1) (m:=.S) rfl (by decide)) (Zb (DE.toA Zs) Zd)))) (Zjm (Zc (i:=1) (m:=.S) rfl (by decide)) (DE.toA (J1 (Zb (Zc (i:=0) (m:=.S) rfl (by decide)) Zd)))))), ?_⟩
 refine Pm.ref Zw3 (g:=fun xs=>_) ?_
 rintro⟨ns,p⟩ -
 simp only[Zw3]
 walk_at "pd"
 rw[ZwP]
 walk_at "pd"
 by_cases h0:0<=p
 ·rw[decide_eq_true h0]
  walk_at "pd"
  by_cases h1:p<ns.length
  ·rw[decide_eq_true h1,show decide (0<=p/\p<(ns.length:Int))=true from decide_eq_true ⟨h0,h1⟩]
  ·rw[decide_eq_false h1,show decide (0<=p/\p<(ns.length:Int))=false from decide_eq_false (fun z=>h1 z.2)]
 ·rw[decide_eq_false h0,show decide (0<=p/\p<(ns.length:Int))=false from decide_eq_false (fun z=>h0 z.1)]
  walk_at "pd"
theorem Z1U{ns:List Int}{p:Int}:Zw3.fn [.lst (ns.map PV.int),.int p]=.ok (.bl (decide (0<=p/\p<ns.length))):=Pm.fn_eq Zw3 (ns,p) trivial fun(a:List Int×Int) e=>by simp only[Zw3] at e ⊢;walk_at "ij"
theorem Zfw:Zw3.calm:=fun a q h=>by (simp only[Zw3] at h;cases h)
noncomputable def Zwb:Pm:=⟨List Int×Int,fun a=>[.lst (a.1.map PV.int),.int a.2],fun a=>True,fun a=>orX (ZoT a.1 a.2) .non⟩
theorem Zy4(T:Txt w K mg){f:Addr}{fd:FuncData}(F:Fun K "check_pit" "check_pit" Zxu f fd):Jp P w K mg base (CX1 P w) 4 f fd ["board", "pit"] (spF K 2 .P (W1 K) Zwb.fn):=by
 have Z0p:=UE (P:=P) (w:=w) (base:=base) T.Z1T Z0W (fun F=>Z03 T F)
 obtain⟨C_BadPit,hC_BadPit,hQ_BadPit⟩:=J2 T.x_exc (n := "BadPit") (by decide)
 refine F.okX Z0u rfl rfl (fun cdv A outer s H E hr=>?_)
 have hu:=hr.units
 refine⟨_,_,⟨[.S,.S],[],[],.P⟩,rfl,(Zo (Jz (Vy (JJ (ZK Z0p (hr.mono (by decide)) rfl (Za (pv 0) (Za (pv 1) Ze))))) (Zo (Ji JG hQ_BadPit rfl (T.x_mg _ _ hC_BadPit) rfl (Za Zj Ze))) ZH)),
   (J0 (V0 (ZcF (DE.toA (Zik (Zf (Zf Zn)) (Pm.calm_fn Zfw) (Zb (Zc (i:=0) (m:=.S) rfl (by decide)) (Zb (Zc (i:=1) (m:=.S) rfl (by decide)) Zd))))))
   (Jj hC_BadPit (Zf Zn) (by decide) (Zb (DE.toA Zi) Zd))
   ZI), ?_⟩
 refine Pm.ref Zwb (g:=fun xs=>_) ?_
 rintro⟨ns,p⟩ -
 simp only[Zwb]
 walk_at "pd"
 rw[Z1U]
 walk_at "pd"
 by_cases h:0<=p/\p<ns.length
 ·rw[decide_eq_true h,show ZoT ns p=none from if_pos h];walk_at "pd" <;> rfl
 ·rw[decide_eq_false h,show ZoT ns p=(some "BadPit":Option Str) from if_neg h];walk_at "pd" <;> rfl
theorem ZyY{ns:List Int}{p:Int}:Zwb.fn [.lst (ns.map PV.int),.int p]=orX (ZoT ns p) .non:=Pm.fn_eq Zwb (ns,p) trivial fun(a:List Int×Int) e=>by simp only[Zwb] at e ⊢;walk_at "ij"
noncomputable def Zva:Pm:=⟨List Int×Int,fun a=>[.lst (a.1.map PV.int),.int a.2],fun a=>a.1.length<=1000,fun a=>orX (stX a.1 a.2) .non⟩
theorem ZvQ(T:Txt w K mg){f:Addr}{fd:FuncData}(F:Fun K "check_standing" "check_standing" ZvT f fd):Jp P w K mg base (CX1 P w) 6 f fd ["board", "pit"] (spF K 2 .P (W1 K) Zva.fn):=by
 have ZuM:=ZV (P:=P) (w:=w) (base:=base) T.ZvR Zv9 (fun F=>Zv8 T F)
 have ZxZ:=ZV (P:=P) (w:=w) (base:=base) T.ZyV Zy9 (fun F=>Zy4 T F)
 obtain⟨C_NoSeeds,hC_NoSeeds,hQ_NoSeeds⟩:=J2 T.x_exc (n := "NoSeeds") (by decide)
 refine F.okX Zyt rfl rfl (fun cdv A outer s H E hr=>?_)
 have hu:=hr.units
 refine⟨_,_,⟨[.S,.S],[],[],.P⟩,rfl,(Zh (ZJ (Zu ZuM (hr.mono (by decide)) rfl Zw (Za (pv 0) Ze)))
   (Zh (ZJ (Zu ZxZ (hr.mono (by decide)) rfl Zw (Za (pv 0) (Za (pv 1) Ze))))
   (Zo (Jz (Z3 (JI (K:=K) hu) (JM (ZW (K:=K)) (pv 0) (pv 1) (fun _ _=>rfl)) Zt (Z9 _)) (Zo (Ji JG hQ_NoSeeds rfl (T.x_mg _ _ hC_NoSeeds) rfl (Za Zj Ze))) ZH)))),
   (Zp (Γm:=[.S,.S]) (ZT (DE.toA (Ur (Zf Zn) (Zb (Zc (i:=0) (m:=.S) rfl (by decide)) Zd))))
   (Zp (Γm:=[.S,.S]) (ZT (DE.toA (Ur (Zf (Zf Zn)) (Zb (Zc (i:=0) (m:=.S) rfl (by decide)) (Zb (Zc (i:=1) (m:=.S) rfl (by decide)) Zd)))))
   (J0 (Z1 (DE.toA (Jn (g:=id) (Jx (te:=tC .non) (Zc (i:=0) (m:=.S) rfl (by decide)) (Zc (i:=1) (m:=.S) rfl (by decide))) (DE.toA Zs))))
   (Jj hC_NoSeeds (Zf Zn) (by decide) (Zb (DE.toA Zi) Zd))
   ZI))), ?_⟩
 refine Pm.ref Zva (g:=fun xs=>_) ?_
 rintro⟨ns,p⟩ (hn:ns.length<=1000)
 simp only[Zva]
 walk_at "pu"
 rw[Zvm hn,stX]
 by_cases h:JN ns=true
 ·rw[if_pos h,if_pos h]
  simp only[orX]
  walk_at "pu"
  rw[ZyY,ZoT]
  by_cases h1:0<=p/\p<ns.length
  ·rw[if_pos h1,if_pos h1]
   simp only[orX]
   walk_at "pu"
   rw[Zde h1.1 h1.2]
   walk_at "pu"
   by_cases h2:ns.getD p.toNat 0=0
   ·rw[decide_eq_true h2,if_pos h2];walk_at "pu"
   ·rw[decide_eq_false h2,if_neg h2];walk_at "pu"
  ·rw[if_neg h1,if_neg h1]
   simp only[orX]
   walk_at "pu"
 ·rw[if_neg h,if_neg h]
  simp only[orX]
  walk_at "pu"
theorem ZvW{ns:List Int}{p:Int}(h:ns.length<=1000):Zva.fn [.lst (ns.map PV.int),.int p]=orX (stX ns p) .non:=Pm.fn_eq Zva (ns,p) h fun⟨ns',k'⟩ e=>by
 simp only[Zva,List.cons.injEq,PV.lst.injEq,PV.int.injEq,and_true] at e ⊢
 rw[Zd9 e.1,e.2]
noncomputable def Zyw:Pm:=⟨List Int×Int,fun a=>[.lst (a.1.map PV.int),.int a.2],fun a=>a.1.length<=1000/\stX a.1 a.2≠none,fun a=>orX (stX a.1 a.2) .non⟩
theorem Z3b(T:Txt w K mg){f:Addr}{fd:FuncData}(F:Fun K "sown" "sown" Z1S f fd):Jp P w K mg base (CX1 P w) 7 f fd ["board", "pit"] (spF K 2 .F (W1 K) Zyw.fn):=by
 have ZuV:=ZV (P:=P) (w:=w) (base:=base) T.ZvV ZvS (fun F=>ZvQ T F)
 refine F.okX Z2Z rfl rfl (fun cdv A outer s H E hr=>?_)
 have hu:=hr.units
 refine⟨_,_,⟨[],[],[],.F⟩,rfl,(Zh (ZJ (Zu ZuV (hr.mono (by decide)) rfl Zw (Za (pv 0) (Za (pv 1) Ze))))
   ZN),
   (Zp (Γm:=[.S,.S]) (ZT (DE.toA (Ur (Zf (Zf Zn)) (Zb (Zc (i:=0) (m:=.S) rfl (by decide)) (Zb (Zc (i:=1) (m:=.S) rfl (by decide)) Zd)))))
   Ja), ?_⟩
 refine Pm.ref Zyw (g:=fun xs=>_) ?_
 rintro⟨b,p⟩ ⟨hb,h⟩
 simp only at hb h
 simp only[Zyw]
 obtain⟨x,hx⟩:=Z3p.mp h
 walk_at "pd"
 rw[ZvW hb,hx]
 walk_at "pd"
theorem Z3i{b:List Int}{p:Int}(h:b.length<=1000/\stX b p≠none):Zyw.fn [.lst (b.map PV.int),.int p]=orX (stX b p) .non:=Pm.fn_eq Zyw (b,p) h fun(a:List Int×Int) e=>by simp only[Zyw] at e ⊢;walk_at "ij"
noncomputable def Zvs:Pm:=⟨List Int×List Int,fun a=>[.lst (a.1.map PV.int),.lst (a.2.map PV.int)],fun a=>(Jq a.1/\a.2.length=1)/\stX a.1 (a.2.getD 0 0)≠none,fun a=>orX (stX a.1 (a.2.getD 0 0)) .non⟩
theorem Z0x(T:Txt w K mg){f:Addr}{fd:FuncData}(F:Fun K "tell_sown" "tell_sown" Zxm f fd):Jp P w K mg base (CX1 P w) 8 f fd ["board", "numbers"] (spF K 2 .F (W1 K) Zvs.fn):=by
 have Z3l:=ZV (P:=P) (w:=w) (base:=base) T.Z3g Z3d (fun F=>Z3b T F)
 refine F.okX Zy0 rfl rfl (fun cdv A outer s H E hr=>?_)
 have hu:=hr.units
 refine⟨_,_,⟨[],[],[],.F⟩,rfl,(Zh (Z7 (i:=2) Zy0.nd rfl (by first|exact Or.inl rfl|exact Or.inr rfl) (Zu Z3l (hr.mono (by decide)) rfl Zw (Za (pv 0) (Za (JM (ZW (K:=K)) (pv 1) Zt (fun _ _=>rfl)) Ze))))
   ZN),
   (Zp (Γm:=[.S,.S,.O]) (Z6 (i:=2) (Zfa (Zf (Zf Zn)) (Zb (Zc (i:=0) (m:=.S) rfl (by decide)) (Zb (Jx (te:=tC .non) (Zc (i:=1) (m:=.S) rfl (by decide)) (DE.toA Zs)) Zd))) (by decide))
   Ja), ?_⟩
 refine Pm.ref Zvs (g:=fun xs=>_) ?_
 rintro⟨b,ns⟩ ⟨⟨hb,hk⟩,h⟩
 simp only at hb hk h
 simp only[Zvs]
 have hl:b.length<=1000:=by have:=hb.hi;omega
 obtain⟨x,hx⟩:=Z3p.mp h
 walk_at "pd"
 rw[Z3i ⟨hl,h⟩,hx]
 walk_at "pd"
theorem Z13{b ns:List Int}(h:(Jq b/\ns.length=1)/\stX b (ns.getD 0 0)≠none):Zvs.fn [.lst (b.map PV.int),.lst (ns.map PV.int)]=orX (stX b (ns.getD 0 0)) .non:=Pm.fn_eq Zvs (b,ns) h fun(a:List Int×List Int) e=>by simp only[Zvs] at e ⊢;walk_at "ij"
noncomputable def ZvK:Pm:=⟨List Int×Int,fun a=>[.lst (a.1.map PV.int),.int a.2],fun a=>a.1.length<=1000/\stX a.1 a.2≠none,fun a=>orX (stX a.1 a.2) .non⟩
theorem ZzU(T:Txt w K mg){f:Addr}{fd:FuncData}(F:Fun K "taken_back" "taken_back" ZwW f fd):Jp P w K mg base (CX1 P w) 7 f fd ["board", "pit"] (spF K 2 .F (W1 K) ZvK.fn):=by
 have ZuV:=ZV (P:=P) (w:=w) (base:=base) T.ZvV ZvS (fun F=>ZvQ T F)
 refine F.okX ZzL rfl rfl (fun cdv A outer s H E hr=>?_)
 have hu:=hr.units
 refine⟨_,_,⟨[],[],[],.F⟩,rfl,(Zh (ZJ (Zu ZuV (hr.mono (by decide)) rfl Zw (Za (pv 0) (Za (pv 1) Ze))))
   ZN),
   (Zp (Γm:=[.S,.S]) (ZT (DE.toA (Ur (Zf (Zf Zn)) (Zb (Zc (i:=0) (m:=.S) rfl (by decide)) (Zb (Zc (i:=1) (m:=.S) rfl (by decide)) Zd)))))
   Ja), ?_⟩
 refine Pm.ref ZvK (g:=fun xs=>_) ?_
 rintro⟨b,p⟩ ⟨hb,h⟩
 simp only at hb h
 simp only[ZvK]
 obtain⟨x,hx⟩:=Z3p.mp h
 walk_at "pd"
 rw[ZvW hb,hx]
 walk_at "pd"
theorem Z0K{b:List Int}{p:Int}(h:b.length<=1000/\stX b p≠none):ZvK.fn [.lst (b.map PV.int),.int p]=orX (stX b p) .non:=Pm.fn_eq ZvK (b,p) h fun(a:List Int×Int) e=>by simp only[ZvK] at e ⊢;walk_at "ij"
noncomputable def Zvv:Pm:=⟨List Int×List Int,fun a=>[.lst (a.1.map PV.int),.lst (a.2.map PV.int)],fun a=>(Jq a.1/\a.2.length=1)/\stX a.1 (a.2.getD 0 0)≠none,fun a=>orX (stX a.1 (a.2.getD 0 0)) .non⟩
theorem Z00(T:Txt w K mg){f:Addr}{fd:FuncData}(F:Fun K "tell_back" "tell_back" Zxp f fd):Jp P w K mg base (CX1 P w) 8 f fd ["board", "numbers"] (spF K 2 .F (W1 K) Zvv.fn):=by
 have Z1d:=ZV (P:=P) (w:=w) (base:=base) T.Z0A Z0i (fun F=>ZzU T F)
 refine F.okX Zy1 rfl rfl (fun cdv A outer s H E hr=>?_)
 have hu:=hr.units
 refine⟨_,_,⟨[],[],[],.F⟩,rfl,(Zh (Z7 (i:=2) Zy1.nd rfl (by first|exact Or.inl rfl|exact Or.inr rfl) (Zu Z1d (hr.mono (by decide)) rfl Zw (Za (pv 0) (Za (JM (ZW (K:=K)) (pv 1) Zt (fun _ _=>rfl)) Ze))))
   ZN),
   (Zp (Γm:=[.S,.S,.O]) (Z6 (i:=2) (Zfa (Zf (Zf Zn)) (Zb (Zc (i:=0) (m:=.S) rfl (by decide)) (Zb (Jx (te:=tC .non) (Zc (i:=1) (m:=.S) rfl (by decide)) (DE.toA Zs)) Zd))) (by decide))
   Ja), ?_⟩
 refine Pm.ref Zvv (g:=fun xs=>_) ?_
 rintro⟨b,ns⟩ ⟨⟨hb,hk⟩,h⟩
 simp only at hb hk h
 simp only[Zvv]
 have hl:b.length<=1000:=by have:=hb.hi;omega
 obtain⟨x,hx⟩:=Z3p.mp h
 walk_at "pd"
 rw[Z0K ⟨hl,h⟩,hx]
 walk_at "pd"
theorem Z16{b ns:List Int}(h:(Jq b/\ns.length=1)/\stX b (ns.getD 0 0)≠none):Zvv.fn [.lst (b.map PV.int),.lst (ns.map PV.int)]=orX (stX b (ns.getD 0 0)) .non:=Pm.fn_eq Zvv (b,ns) h fun(a:List Int×List Int) e=>by simp only[Zvv] at e ⊢;walk_at "ij"
noncomputable def Zes(n l m:Int):Option Str:=if l<=n/\n<=m then none else some "BadCount"
noncomputable def Zv5:Pm:=⟨Int×Int×Int,fun a=>[.int a.1,.int a.2.1,.int a.2.2],fun _=>True,fun a=>orX (Zes a.1 a.2.1 a.2.2) .non⟩
theorem Zw0(T:Txt w K mg){f:Addr}{fd:FuncData}(F:Fun K "check_count" "check_count" ZwB f fd):Jp P w K mg base (CX1 P w) 3 f fd ["number", "least", "most"] (spF K 3 .P (W1 K) Zv5.fn):=by
 have ZvI:=UE (P:=P) (w:=w) (base:=base) T.ZwO Zw6 (fun F=>Zw5 T F)
 obtain⟨C_BadCount,hC_BadCount,hQ_BadCount⟩:=J2 T.x_exc (n := "BadCount") (by decide)
 refine F.okX Zzl rfl rfl (fun cdv A outer s H E hr=>?_)
 have hu:=hr.units
 refine⟨_,_,⟨[.S,.S,.S],[],[],.P⟩,rfl,(Zo (Jz (PW.pt (UC (Vy (JJ (ZK ZvI (hr.mono (by decide)) rfl (Za (pv 0) (Za (pv 1) Ze))))) (V6 (Z3 Uu (pv 0) (pv 2) (Z9 _))))) (Zo (Ji JG hQ_BadCount rfl (T.x_mg _ _ hC_BadCount) rfl (Za Zj Ze))) ZH)),
   (J0 (QE (V0 (ZcF (DE.toA (Zik (Zf (Zf Zn)) (Pm.calm_fn ZcM) (Zb (Zc (i:=0) (m:=.S) rfl (by decide)) (Zb (Zc (i:=1) (m:=.S) rfl (by decide)) Zd)))))) (Z1 (DE.toA (U7 (Zc (i:=0) (m:=.S) rfl (by decide)) (Zc (i:=2) (m:=.S) rfl (by decide))))))
   (Jj hC_BadCount (Zf Zn) (by decide) (Zb (DE.toA Zi) Zd))
   ZI), ?_⟩
 refine Pm.ref Zv5 (g:=fun xs=>_) ?_
 rintro⟨n,l,m⟩ -
 simp only[Zv5]
 walk_at "pd"
 rw[ZwP]
 walk_at "pd"
 by_cases h0:l<=n
 ·rw[decide_eq_true h0]
  walk_at "pd"
  by_cases h1:n<=m
  ·rw[decide_eq_false (by omega),show Zes n l m=none from if_pos ⟨h0,h1⟩];walk_at "pd" <;> rfl
  ·rw[decide_eq_true (by omega),show Zes n l m=(some "BadCount":Option Str) from if_neg (fun z=>h1 z.2)];walk_at "pd" <;> rfl
 ·rw[decide_eq_false h0,show Zes n l m=(some "BadCount":Option Str) from if_neg (fun z=>h0 z.1)];walk_at "pd" <;> rfl
theorem ZwF{n l m:Int}:Zv5.fn [.int n,.int l,.int m]=orX (Zes n l m) .non:=Pm.fn_eq Zv5 (n,l,m) trivial fun(a:Int×Int×Int) e=>by simp only[Zv5] at e ⊢;walk_at "ij"
noncomputable def goX(b:List Int)(p s:Int):Option Str:=match stX b p with
 |some x=>some x
 |none=>Zes s (-1000) 1000
noncomputable def ZwH:Pm:=⟨List Int×Int×Int,fun a=>[.lst (a.1.map PV.int),.int a.2.1,.int a.2.2],fun a=>a.1.length<=1000/\goX a.1 a.2.1 a.2.2≠none,fun a=>orX (goX a.1 a.2.1 a.2.2) .non⟩
theorem Z2a(T:Txt w K mg){f:Addr}{fd:FuncData}(F:Fun K "gone_on" "gone_on" Zyf f fd):Jp P w K mg base (CX1 P w) 7 f fd ["board", "pit", "steps"] (spF K 3 .F (W1 K) ZwH.fn):=by
 have ZuV:=ZV (P:=P) (w:=w) (base:=base) T.ZvV ZvS (fun F=>ZvQ T F)
 have Zv1:=ZV (P:=P) (w:=w) (base:=base) T.ZwE Zw1 (fun F=>Zw0 T F)
 refine F.okX Zys rfl rfl (fun cdv A outer s H E hr=>?_)
 have hu:=hr.units
 refine⟨_,_,⟨[],[],[],.F⟩,rfl,(Zh (ZJ (Zu ZuV (hr.mono (by decide)) rfl Zw (Za (pv 0) (Za (pv 1) Ze))))
   (Zh (ZJ (Zu Zv1 (hr.mono (by decide)) rfl Zw (Za (pv 2) (Za (ZiD ZdR (Jw T.c_FARTHEST rfl)) (Za (Jw T.c_FARTHEST rfl) Ze)))))
   (Zh (Z7 (i:=3) Zys.nd rfl (by first|exact Or.inl rfl|exact Or.inr rfl) (Z2 (Za (Jm (Us (K:=K)) rfl T.z_list V2 (Za (pv 0) Ze)) (Za (pv 1) Ze))))
   (Zh (PS.nox (ZhH PassesOwn.never rfl (QM rfl T.z_range (Za (Zv Znv rfl T.z_abs ZrR (Za (pv 2) Ze)) Ze)) (VP (i:=4) Zys.nd rfl (by first|exact Or.inl rfl|exact Or.inr rfl)) (Zo (Jz (Z3 Uu (pv 2) Zt (Z9 _)) ZN ZN))))
   (Zo (Z8 (pv 3))))))),
   (Zp (Γm:=[.S,.S,.S,.U,.U]) (ZT (DE.toA (Ur (Zf (Zf Zn)) (Zb (Zc (i:=0) (m:=.S) rfl (by decide)) (Zb (Zc (i:=1) (m:=.S) rfl (by decide)) Zd)))))
   (Zp (Γm:=[.S,.S,.S,.U,.U]) (ZT (DE.toA (Ur (Zf (Zf (Zf Zn))) (Zb (Zc (i:=2) (m:=.S) rfl (by decide)) (Zb (DE.toA (Zep (DE.toA Zs))) (Zb (DE.toA Zs) Zd))))))
   (Zp (Γm:=[.S,.S,.S,.O,.U]) (Z6 (i:=3) (V1 (Zk (Zdn (Zb (Zc (i:=0) (m:=.S) rfl (by decide)) Zd)) (Zk (DE.PF (DE.grd (Zc (i:=1) (m:=.S) rfl (by decide)))) ZU))) (by decide))
   (Zp (Γm:=[.S,.S,.S,.O,.U]) (Zil (Γl:=[.S,.S,.S,.O,.U]) (ZeM (Zb (DE.toA (ZrN (Zb (Zc (i:=2) (m:=.S) rfl (by decide)) Zd))) Zd)) rfl (Zs5 (i:=4) (by decide))
   (J0 (Z1 (DE.toA (U7 (Zc (i:=2) (m:=.S) rfl (by decide)) (DE.toA Zs))))
   Ja
   Ja))
   (Jf (Zlu (i:=3) rfl)))))), ?_⟩
 refine Pm.ref ZwH (g:=fun xs=>_) ?_
 rintro⟨b,p,s⟩ ⟨hb,h⟩
 simp only at hb h
 simp only[ZwH]
 unfold goX at h ⊢
 walk_at "pd"
 rw[ZvW hb]
 cases hx:stX b p with
 |some x =>
  simp only[orX]
  walk_at "pd"
 |none =>
  rw[hx] at h
  simp only at h
  obtain⟨x,hy⟩:=Z3p.mp h
  simp only[orX]
  walk_at "pd"
  rw[ZwF,hy]
  walk_at "pd"
theorem Z2I{b:List Int}{p s:Int}(h:b.length<=1000/\goX b p s≠none):ZwH.fn [.lst (b.map PV.int),.int p,.int s]=orX (goX b p s) .non:=Pm.fn_eq ZwH (b,p,s) h fun(a:List Int×Int×Int) e=>by simp only[ZwH] at e ⊢;walk_at "ij"
noncomputable def ZvY:Pm:=⟨List Int×List Int,fun a=>[.lst (a.1.map PV.int),.lst (a.2.map PV.int)],fun a=>(Jq a.1/\a.2.length=2)/\goX a.1 (a.2.getD 0 0) (a.2.getD 1 0)≠none,fun a=>orX (goX a.1 (a.2.getD 0 0) (a.2.getD 1 0)) .non⟩
theorem Z1Z(T:Txt w K mg){f:Addr}{fd:FuncData}(F:Fun K "tell_on" "tell_on" Zye f fd):Jp P w K mg base (CX1 P w) 8 f fd ["board", "numbers"] (spF K 2 .F (W1 K) ZvY.fn):=by
 have Z2Q:=ZV (P:=P) (w:=w) (base:=base) T.Z2C Z2v (fun F=>Z2a T F)
 refine F.okX ZzD rfl rfl (fun cdv A outer s H E hr=>?_)
 have hu:=hr.units
 refine⟨_,_,⟨[],[],[],.F⟩,rfl,(Zh (Z7 (i:=2) ZzD.nd rfl (by first|exact Or.inl rfl|exact Or.inr rfl) (Zu Z2Q (hr.mono (by decide)) rfl Zw (Za (pv 0) (Za (JM (ZW (K:=K)) (pv 1) Zt (fun _ _=>rfl)) (Za (JM (ZW (K:=K)) (pv 1) Zt (fun _ _=>rfl)) Ze)))))
   ZN),
   (Zp (Γm:=[.S,.S,.O]) (Z6 (i:=2) (Zfa (Zf (Zf (Zf Zn))) (Zb (Zc (i:=0) (m:=.S) rfl (by decide)) (Zb (Jx (te:=tC .non) (Zc (i:=1) (m:=.S) rfl (by decide)) (DE.toA Zs)) (Zb (Jx (te:=tC .non) (Zc (i:=1) (m:=.S) rfl (by decide)) (DE.toA Zs)) Zd)))) (by decide))
   Ja), ?_⟩
 refine Pm.ref ZvY (g:=fun xs=>_) ?_
 rintro⟨b,ns⟩ ⟨⟨hb,hk⟩,h⟩
 simp only at hb hk h
 simp only[ZvY]
 have hl:b.length<=1000:=by have:=hb.hi;omega
 obtain⟨x,hx⟩:=Z3p.mp h
 walk_at "pd"
 rw[Z2I ⟨hl,h⟩,hx]
 walk_at "pd"
theorem Z2H{b ns:List Int}(h:(Jq b/\ns.length=2)/\goX b (ns.getD 0 0) (ns.getD 1 0)≠none):ZvY.fn [.lst (b.map PV.int),.lst (ns.map PV.int)]=orX (goX b (ns.getD 0 0) (ns.getD 1 0)) .non:=Pm.fn_eq ZvY (b,ns) h fun(a:List Int×List Int) e=>by simp only[ZvY] at e ⊢;walk_at "ij"
noncomputable def rcX(ns:List Int)(p m:Int):Option Str:=match stX ns p with
 |some n=>some n
 |none=>Zes m 1 20000
noncomputable def Zv4:Pm:=⟨List Int×Int×Int,fun a=>[.lst (a.1.map PV.int),.int a.2.1,.int a.2.2],fun a=>a.1.length<=1000,fun a=>orX (rcX a.1 a.2.1 a.2.2) .non⟩
theorem Zzr(T:Txt w K mg){f:Addr}{fd:FuncData}(F:Fun K "check_round" "check_round" ZwA f fd):Jp P w K mg base (CX1 P w) 7 f fd ["board", "pit", "most"] (spF K 3 .P (W1 K) Zv4.fn):=by
 have ZuV:=ZV (P:=P) (w:=w) (base:=base) T.ZvV ZvS (fun F=>ZvQ T F)
 have Zv1:=ZV (P:=P) (w:=w) (base:=base) T.ZwE Zw1 (fun F=>Zw0 T F)
 refine F.okX Zzk rfl rfl (fun cdv A outer s H E hr=>?_)
 have hu:=hr.units
 refine⟨_,_,⟨[.S,.S,.S],[],[],.P⟩,rfl,(Zh (ZJ (Zu ZuV (hr.mono (by decide)) rfl Zw (Za (pv 0) (Za (pv 1) Ze))))
   (Zo (ZJ (Zu Zv1 (hr.mono (by decide)) rfl Zw (Za (pv 2) (Za Zt (Za (Jw T.c_LONGEST rfl) Ze))))))),
   (Zp (Γm:=[.S,.S,.S]) (ZT (DE.toA (Ur (Zf (Zf Zn)) (Zb (Zc (i:=0) (m:=.S) rfl (by decide)) (Zb (Zc (i:=1) (m:=.S) rfl (by decide)) Zd)))))
   (ZT (DE.toA (Ur (Zf (Zf (Zf Zn))) (Zb (Zc (i:=2) (m:=.S) rfl (by decide)) (Zb (DE.toA Zs) (Zb (DE.toA Zs) Zd))))))), ?_⟩
 refine Pm.ref Zv4 (g:=fun xs=>_) ?_
 rintro⟨ns,p,m⟩ (hn:ns.length<=1000)
 simp only[Zv4]
 walk_at "pd"
 rw[ZvW hn]
 unfold rcX
 cases stX ns p with
 |some n=>walk_at "pd"
 |none =>
  walk_at "pd"
  rw[ZwF]
  cases Zes m 1 20000 with
  |some n=>walk_at "pd"
  |none=>walk_at "pd"
theorem Z0d{ns:List Int}{p m:Int}(h:ns.length<=1000):Zv4.fn [.lst (ns.map PV.int),.int p,.int m]=orX (rcX ns p m) .non:=Pm.fn_eq Zv4 (ns,p,m) h fun(a:List Int×Int×Int) e=>by simp only[Zv4] at e ⊢;walk_at "ij"
noncomputable def Zwq:Pm:=⟨List Int×Int,fun a=>[.lst (a.1.map PV.int),.int a.2,.int 20000],fun a=>a.1.length<=1000/\rcX a.1 a.2 20000≠none,fun a=>orX (rcX a.1 a.2 20000) .non⟩
theorem Z1n(T:Txt w K mg){f:Addr}{fd:FuncData}(F:Fun K "round_of" "round_of" ZxD f fd):Jp P w K mg base (CX1 P w) 8 f fd ["board", "pit", "most"] (spF K 3 .F (W1 K) Zwq.fn):=by
 have Z0q:=ZV (P:=P) (w:=w) (base:=base) T.Z0a Zz6 (fun F=>Zzr T F)
 refine F.okX ZxS rfl rfl (fun cdv A outer s H E hr=>?_)
 have hu:=hr.units
 refine⟨_,_,⟨[],[],[],.F⟩,rfl,(Zh (ZJ (Zu Z0q (hr.mono (by decide)) rfl Zw (Za (pv 0) (Za (pv 1) (Za (pv 2) Ze)))))
   (Zh (Z7 (i:=3) ZxS.nd rfl (by first|exact Or.inl rfl|exact Or.inr rfl) (Z2 (Za (Jm (Us (K:=K)) rfl T.z_list V2 (Za (pv 0) Ze)) (Za (pv 1) Ze))))
   (Zh (Z7 (i:=4) ZxS.nd rfl (by first|exact Or.inl rfl|exact Or.inr rfl) (J6 (Za (pv 3) Ze)))
   ZN))),
   (Zp (Γm:=[.S,.S,.S,.U,.U,.U]) (ZT (DE.toA (Ur (Zf (Zf (Zf Zn))) (Zb (Zc (i:=0) (m:=.S) rfl (by decide)) (Zb (Zc (i:=1) (m:=.S) rfl (by decide)) (Zb (Zc (i:=2) (m:=.S) rfl (by decide)) Zd))))))
   (Zp (Γm:=[.S,.S,.S,.O,.U,.U]) (Z6 (i:=3) (V1 (Zk (Zdn (Zb (Zc (i:=0) (m:=.S) rfl (by decide)) Zd)) (Zk (DE.PF (DE.grd (Zc (i:=1) (m:=.S) rfl (by decide)))) ZU))) (by decide))
   (Zp (Γm:=[.S,.S,.S,.S,.T,.U]) (Zlo (i:=4) (Zlx (Zir (Zlt (i:=3) (m:=.O) rfl (by decide)) Zl2)) (by decide))
   Ja))), ?_⟩
 refine Pm.ref Zwq (g:=fun xs=>_) ?_
 rintro⟨b,p⟩ ⟨hb,h⟩
 simp only at hb h
 simp only[Zwq]
 obtain⟨x,hx⟩:=Z3p.mp h
 walk_at "pd"
 rw[Z0d hb,hx]
 walk_at "pd"
theorem Z2n{b:List Int}{p:Int}(h:b.length<=1000/\rcX b p 20000≠none):Zwq.fn [.lst (b.map PV.int),.int p,.int 20000]=orX (rcX b p 20000) .non:=Pm.fn_eq Zwq (b,p) h fun(a:List Int×Int) e=>by simp only[Zwq] at e ⊢;walk_at "ij"
noncomputable def Zvh:Pm:=⟨List Int×List Int,fun a=>[.lst (a.1.map PV.int),.lst (a.2.map PV.int)],fun a=>(Jq a.1/\a.2.length=1)/\rcX a.1 (a.2.getD 0 0) 20000≠none,fun a=>orX (rcX a.1 (a.2.getD 0 0) 20000) .non⟩
theorem ZzQ(T:Txt w K mg){f:Addr}{fd:FuncData}(F:Fun K "tell_round" "tell_round" ZwS f fd):Jp P w K mg base (CX1 P w) 9 f fd ["board", "numbers"] (spF K 2 .F (W1 K) Zvh.fn):=by
 have Z20:=ZV (P:=P) (w:=w) (base:=base) T.Z2g Z1C (fun F=>Z1n T F)
 refine F.okX Zyb rfl rfl (fun cdv A outer s H E hr=>?_)
 have hu:=hr.units
 refine⟨_,_,⟨[],[],[],.F⟩,rfl,(Zh (Z7 (i:=2) Zyb.nd rfl (by first|exact Or.inl rfl|exact Or.inr rfl) (Zu Z20 (hr.mono (by decide)) rfl Zw (Za (pv 0) (Za (JM (ZW (K:=K)) (pv 1) Zt (fun _ _=>rfl)) (Za (Jw T.c_LONGEST rfl) Ze)))))
   ZN),
   (Zp (Γm:=[.S,.S,.O]) (Z6 (i:=2) (Zfa (Zf (Zf (Zf Zn))) (Zb (Zc (i:=0) (m:=.S) rfl (by decide)) (Zb (Jx (te:=tC .non) (Zc (i:=1) (m:=.S) rfl (by decide)) (DE.toA Zs)) (Zb (DE.toA Zs) Zd)))) (by decide))
   Ja), ?_⟩
 refine Pm.ref Zvh (g:=fun xs=>_) ?_
 rintro⟨b,ns⟩ ⟨⟨hb,hk⟩,h⟩
 simp only at hb hk h
 simp only[Zvh]
 have hl:b.length<=1000:=by have:=hb.hi;omega
 obtain⟨x,hx⟩:=Z3p.mp h
 walk_at "pd"
 rw[Z2n ⟨hl,h⟩,hx]
 walk_at "pd"
theorem Z0G{b ns:List Int}(h:(Jq b/\ns.length=1)/\rcX b (ns.getD 0 0) 20000≠none):Zvh.fn [.lst (b.map PV.int),.lst (ns.map PV.int)]=orX (rcX b (ns.getD 0 0) 20000) .non:=Pm.fn_eq Zvh (b,ns) h fun(a:List Int×List Int) e=>by simp only[Zvh] at e ⊢;walk_at "ij"
noncomputable def Zql(b:List Int):Option Str:=if 60<b.sum then some "TooMany" else none
noncomputable def ZuU:Pm:=⟨List Int,fun a=>[.lst (a.map PV.int)],fun a=>a.length<=1000,fun a=>orX (Zql a) .non⟩
theorem Zxd(T:Txt w K mg){f:Addr}{fd:FuncData}(F:Fun K "check_few_seeds" "check_few_seeds" ZvJ f fd):Jp P w K mg base (CX1 P w) 1 f fd ["board"] (spF K 1 .P (W1 K) ZuU.fn):=by
 obtain⟨C_TooMany,hC_TooMany,hQ_TooMany⟩:=J2 T.x_exc (n := "TooMany") (by decide)
 refine F.okX Zyc rfl rfl (fun cdv A outer s H E hr=>?_)
 have hu:=hr.units
 refine⟨_,_,⟨[.S],[],[],.P⟩,rfl,(Zo (Jz (Z3 Uu (Zv (Vj (K:=K) rfl) rfl T.z_sum ZcH (Za (pv 0) Ze)) (Jw T.c_MOST_GATHERED rfl) (Z9 _)) (Zo (Ji JG hQ_TooMany rfl (T.x_mg _ _ hC_TooMany) rfl (Za Zj Ze))) ZH)),
   (J0 (Z1 (DE.toA (U7 (DE.toA (ZcG (Zb (Zc (i:=0) (m:=.S) rfl (by decide)) Zd))) (DE.toA Zs))))
   (Jj hC_TooMany (Zf Zn) (by decide) (Zb (DE.toA Zi) Zd))
   ZI), ?_⟩
 refine Pm.ref ZuU (g:=fun xs=>_) ?_
 rintro(b:List Int) (hb:b.length<=1000)
 simp only[ZuU]
 walk_at "pd"
 by_cases c:60<b.sum
 ·rw[decide_eq_true c,show Zql b=(some "TooMany":Option Str) from if_pos c]
  walk_at "pd"
 ·rw[decide_eq_false c,show Zql b=none from if_neg c]
  walk_at "pd"
theorem Zxk{b:List Int}(h:b.length<=1000):ZuU.fn [.lst (b.map PV.int)]=orX (Zql b) .non:=Pm.fn_eq ZuU b h fun(a:List Int) e=>by simp only[ZuU] at e ⊢;walk_at "ij"
noncomputable def gaX(b:List Int)(p:Int):Option Str:=match ZoT b p with
 |some x=>some x
 |none=>Zql b
noncomputable def Zwr:Pm:=⟨List Int×Int,fun a=>[.lst (a.1.map PV.int),.int a.2],fun a=>Jq a.1/\gaX a.1 a.2≠none,fun a=>orX (gaX a.1 a.2) .non⟩
theorem Z1r(T:Txt w K mg){f:Addr}{fd:FuncData}(F:Fun K "gathered" "gathered" ZxH f fd):Jp P w K mg base (CX1 P w) 6 f fd ["board", "pit"] (spF K 2 .F (W1 K) Zwr.fn):=by
 have ZuM:=ZV (P:=P) (w:=w) (base:=base) T.ZvR Zv9 (fun F=>Zv8 T F)
 have ZxZ:=ZV (P:=P) (w:=w) (base:=base) T.ZyV Zy9 (fun F=>Zy4 T F)
 have Zwt:=ZV (P:=P) (w:=w) (base:=base) T.Zxj Zxg (fun F=>Zxd T F)
 refine F.okX Z1l rfl rfl (fun cdv A outer s H E hr=>?_)
 have hu:=hr.units
 refine⟨_,_,⟨[],[],[],.F⟩,rfl,(Zh (ZJ (Zu ZuM (hr.mono (by decide)) rfl Zw (Za (pv 0) Ze)))
   (Zh (ZJ (Zu ZxZ (hr.mono (by decide)) rfl Zw (Za (pv 0) (Za (pv 1) Ze))))
   (Zh (ZJ (Zu Zwt (hr.mono (by decide)) rfl Zw (Za (pv 0) Ze)))
   ZN))),
   (Zp (Γm:=[.S,.S]) (ZT (DE.toA (Ur (Zf Zn) (Zb (Zc (i:=0) (m:=.S) rfl (by decide)) Zd))))
   (Zp (Γm:=[.S,.S]) (ZT (DE.toA (Ur (Zf (Zf Zn)) (Zb (Zc (i:=0) (m:=.S) rfl (by decide)) (Zb (Zc (i:=1) (m:=.S) rfl (by decide)) Zd)))))
   (Zp (Γm:=[.S,.S]) (ZT (DE.toA (Ur (Zf Zn) (Zb (Zc (i:=0) (m:=.S) rfl (by decide)) Zd))))
   Ja))), ?_⟩
 refine Pm.ref Zwr (g:=fun xs=>_) ?_
 rintro⟨b,p⟩ ⟨hb,h⟩
 simp only at hb h
 simp only[Zwr]
 have hl:b.length<=1000:=by have:=hb.hi;omega
 unfold gaX at h ⊢
 walk_at "pd"
 rw[Zvm hl,if_pos (Vi.mpr hb)]
 walk_at "pd"
 rw[ZyY]
 cases hx:ZoT b p with
 |some x =>
  simp only[orX]
  walk_at "pd"
 |none =>
  rw[hx] at h
  simp only at h
  obtain⟨x,hy⟩:=Z3p.mp h
  simp only[orX]
  walk_at "pd"
  rw[Zxk hl,hy]
  walk_at "pd"
theorem Z2r{b:List Int}{p:Int}(h:Jq b/\gaX b p≠none):Zwr.fn [.lst (b.map PV.int),.int p]=orX (gaX b p) .non:=Pm.fn_eq Zwr (b,p) h fun(a:List Int×Int) e=>by simp only[Zwr] at e ⊢;walk_at "ij"
noncomputable def ZuY:Pm:=⟨List Int×List Int,fun a=>[.lst (a.1.map PV.int),.lst (a.2.map PV.int)],fun a=>(Jq a.1/\a.2.length=1)/\gaX a.1 (a.2.getD 0 0)≠none,fun a=>orX (gaX a.1 (a.2.getD 0 0)) .non⟩
theorem Zzo(T:Txt w K mg){f:Addr}{fd:FuncData}(F:Fun K "tell_gather" "tell_gather" Zw8 f fd):Jp P w K mg base (CX1 P w) 7 f fd ["board", "numbers"] (spF K 2 .F (W1 K) ZuY.fn):=by
 have Z24:=ZV (P:=P) (w:=w) (base:=base) T.Z2k Z1G (fun F=>Z1r T F)
 refine F.okX Zzj rfl rfl (fun cdv A outer s H E hr=>?_)
 have hu:=hr.units
 refine⟨_,_,⟨[],[],[],.F⟩,rfl,(Zo (Z8 (Z2 (Za Zj (Za (Zu Z24 (hr.mono (by decide)) rfl Zw (Za (pv 0) (Za (JM (ZW (K:=K)) (pv 1) Zt (fun _ _=>rfl)) Ze))) Ze))))),
   (Jf (V1 (Zk (DE.PF Zi) (Zk (Zfa (Zf (Zf Zn)) (Zb (Zc (i:=0) (m:=.S) rfl (by decide)) (Zb (Jx (te:=tC .non) (Zc (i:=1) (m:=.S) rfl (by decide)) (DE.toA Zs)) Zd))) ZU)))), ?_⟩
 refine Pm.ref ZuY (g:=fun xs=>_) ?_
 rintro⟨b,ns⟩ ⟨⟨hb,hk⟩,h⟩
 simp only at hb hk h
 simp only[ZuY]
 have hl:b.length<=1000:=by have:=hb.hi;omega
 obtain⟨x,hx⟩:=Z3p.mp h
 walk_at "pd"
 rw[Z2r ⟨hb,h⟩,hx]
 walk_at "pd"
theorem Z0b{b ns:List Int}(h:(Jq b/\ns.length=1)/\gaX b (ns.getD 0 0)≠none):ZuY.fn [.lst (b.map PV.int),.lst (ns.map PV.int)]=orX (gaX b (ns.getD 0 0)) .non:=Pm.fn_eq ZuY (b,ns) h fun(a:List Int×List Int) e=>by simp only[ZuY] at e ⊢;walk_at "ij"
noncomputable def Zma(b o:List Int):Option Str:=if b.length=o.length/\b.sum=o.sum then none else some "Unlike"
noncomputable def Zv7:Pm:=⟨List Int×List Int,fun a=>[.lst (a.1.map PV.int),.lst (a.2.map PV.int)],fun a=>a.1.length<=1000/\a.2.length<=1000,fun a=>orX (Zma a.1 a.2) .non⟩
theorem ZxP(T:Txt w K mg){f:Addr}{fd:FuncData}(F:Fun K "check_alike" "check_alike" ZwD f fd):Jp P w K mg base (CX1 P w) 1 f fd ["board", "other"] (spF K 2 .P (W1 K) Zv7.fn):=by
 obtain⟨C_Unlike,hC_Unlike,hQ_Unlike⟩:=J2 T.x_exc (n := "Unlike") (by decide)
 refine F.okX Zzn rfl rfl (fun cdv A outer s H E hr=>?_)
 have hu:=hr.units
 refine⟨_,_,⟨[.S,.S],[],[],.P⟩,rfl,(Zo (Jz (PW.pt (UC (Z3 (Zf3 (K:=K) hu) (Zv (ZA (K:=K)) rfl T.z_len Jo (Za (pv 0) Ze)) (Zv (ZA (K:=K)) rfl T.z_len Jo (Za (pv 1) Ze)) (Z9 _)) (V6 (Z3 (Zf3 (K:=K) hu) (Zv (Vj (K:=K) rfl) rfl T.z_sum ZcH (Za (pv 0) Ze)) (Zv (Vj (K:=K) rfl) rfl T.z_sum ZcH (Za (pv 1) Ze)) (Z9 _))))) (Zo (Ji JG hQ_Unlike rfl (T.x_mg _ _ hC_Unlike) rfl (Za Zj Ze))) ZH)),
   (J0 (QE (Z1 (DE.toA (Jn (g:=(!·)) (DE.toA (J1 (Zb (Zc (i:=0) (m:=.S) rfl (by decide)) Zd))) (DE.toA (J1 (Zb (Zc (i:=1) (m:=.S) rfl (by decide)) Zd)))))) (Z1 (DE.toA (Jn (g:=(!·)) (DE.toA (ZcG (Zb (Zc (i:=0) (m:=.S) rfl (by decide)) Zd))) (DE.toA (ZcG (Zb (Zc (i:=1) (m:=.S) rfl (by decide)) Zd)))))))
   (Jj hC_Unlike (Zf Zn) (by decide) (Zb (DE.toA Zi) Zd))
   ZI), ?_⟩
 refine Pm.ref Zv7 (g:=fun xs=>_) ?_
 rintro⟨b,o⟩ ⟨h1,h2⟩
 simp only at h1 h2
 simp only[Zv7]
 walk_at "pd"
 by_cases c:(b.length:Int)=o.length
 ·rw[decide_eq_true c]
  walk_at "pd"
  by_cases d:b.sum=o.sum
  ·rw[decide_eq_true d,show Zma b o=none from if_pos ⟨by omega,d⟩]
   walk_at "pd"
  ·rw[decide_eq_false d,show Zma b o=(some "Unlike":Option Str) from if_neg (fun z=>d z.2)]
   walk_at "pd"
 ·rw[decide_eq_false c,show Zma b o=(some "Unlike":Option Str) from if_neg (fun z=>c (by omega))]
  walk_at "pd"
theorem Zyp{b o:List Int}(h:b.length<=1000/\o.length<=1000):Zv7.fn [.lst (b.map PV.int),.lst (o.map PV.int)]=orX (Zma b o) .non:=Pm.fn_eq Zv7 (b,o) h fun(a:List Int×List Int) e=>by simp only[Zv7] at e ⊢;walk_at "ij"
noncomputable def waX(b o:List Int):Option Str:=if JN o=true then match Zma b o with
 |some x=>some x
 |none=>Zql b
 else some "BadBoard"
noncomputable def Zxi:Pm:=⟨List Int×List Int,fun a=>[.lst (a.1.map PV.int),.lst (a.2.map PV.int)],fun a=>(Jq a.1/\a.2.length<=1000)/\waX a.1 a.2≠none,fun a=>orX (waX a.1 a.2) .non⟩
theorem Z29(T:Txt w K mg){f:Addr}{fd:FuncData}(F:Fun K "way_to" "way_to" ZyI f fd):Jp P w K mg base (CX1 P w) 6 f fd ["board", "other"] (spF K 2 .F (W1 K) Zxi.fn):=by
 have ZuM:=ZV (P:=P) (w:=w) (base:=base) T.ZvR Zv9 (fun F=>Zv8 T F)
 have Zxy:=ZV (P:=P) (w:=w) (base:=base) T.Zyn ZxR (fun F=>ZxP T F)
 have Zwt:=ZV (P:=P) (w:=w) (base:=base) T.Zxj Zxg (fun F=>Zxd T F)
 refine F.okX Z26 rfl rfl (fun cdv A outer s H E hr=>?_)
 have hu:=hr.units
 refine⟨_,_,⟨[],[],[],.F⟩,rfl,(Zh (ZJ (Zu ZuM (hr.mono (by decide)) rfl Zw (Za (pv 0) Ze)))
   (Zh (ZJ (Zu ZuM (hr.mono (by decide)) rfl Zw (Za (pv 1) Ze)))
   (Zh (ZJ (Zu Zxy (hr.mono (by decide)) rfl Zw (Za (pv 0) (Za (pv 1) Ze))))
   (Zh (ZJ (Zu Zwt (hr.mono (by decide)) rfl Zw (Za (pv 0) Ze)))
   ZN)))),
   (Zp (Γm:=[.S,.S,.U,.U]) (ZT (DE.toA (Ur (Zf Zn) (Zb (Zc (i:=0) (m:=.S) rfl (by decide)) Zd))))
   (Zp (Γm:=[.S,.S,.U,.U]) (ZT (DE.toA (Ur (Zf Zn) (Zb (Zc (i:=1) (m:=.S) rfl (by decide)) Zd))))
   (Zp (Γm:=[.S,.S,.U,.U]) (ZT (DE.toA (Ur (Zf (Zf Zn)) (Zb (Zc (i:=0) (m:=.S) rfl (by decide)) (Zb (Zc (i:=1) (m:=.S) rfl (by decide)) Zd)))))
   (Zp (Γm:=[.S,.S,.U,.U]) (ZT (DE.toA (Ur (Zf Zn) (Zb (Zc (i:=0) (m:=.S) rfl (by decide)) Zd))))
   Ja)))), ?_⟩
 refine Pm.ref Zxi (g:=fun xs=>_) ?_
 rintro⟨b,o⟩ ⟨hb,h⟩
 simp only at hb h
 simp only[Zxi]
 obtain⟨hb,ho⟩:=hb
 have hl:b.length<=1000:=by have:=hb.hi;omega
 unfold waX at h ⊢
 walk_at "pd"
 rw[Zvm hl,if_pos (Vi.mpr hb)]
 walk_at "pd"
 rw[Zvm ho]
 by_cases c:JN o=true
 ·rw[if_pos c] at h ⊢
  rw[if_pos c]
  walk_at "pd"
  rw[Zyp ⟨hl,ho⟩]
  cases hx:Zma b o with
  |some x =>
   simp only[orX]
   walk_at "pd"
  |none =>
   rw[hx] at h
   simp only at h
   obtain⟨x,hy⟩:=Z3p.mp h
   simp only[orX]
   walk_at "pd"
   rw[Zxk hl,hy]
   walk_at "pd"
 ·rw[if_neg c,if_neg c]
  walk_at "pd"
theorem Z2X{b o:List Int}(h:(Jq b/\o.length<=1000)/\waX b o≠none):Zxi.fn [.lst (b.map PV.int),.lst (o.map PV.int)]=orX (waX b o) .non:=Pm.fn_eq Zxi (b,o) h fun(a:List Int×List Int) e=>by simp only[Zxi] at e ⊢;walk_at "ij"
noncomputable def ZvX:Pm:=⟨List Int×List Int,fun a=>[.lst (a.1.map PV.int),.lst (a.2.map PV.int)],fun a=>(Jq a.1/\a.2.length<=1000)/\waX a.1 a.2≠none,fun a=>orX (waX a.1 a.2) .non⟩
theorem Z1Y(T:Txt w K mg){f:Addr}{fd:FuncData}(F:Fun K "tell_to" "tell_to" Zyd f fd):Jp P w K mg base (CX1 P w) 7 f fd ["board", "numbers"] (spF K 2 .F (W1 K) ZvX.fn):=by
 have Z2Y:=ZV (P:=P) (w:=w) (base:=base) T.Z2W Z2N (fun F=>Z29 T F)
 refine F.okX Z1V rfl rfl (fun cdv A outer s H E hr=>?_)
 have hu:=hr.units
 refine⟨_,_,⟨[],[],[],.F⟩,rfl,(Zo (Z8 (Z2 (Za Zj (Za (Zu Z2Y (hr.mono (by decide)) rfl Zw (Za (pv 0) (Za (pv 1) Ze))) Ze))))),
   (Jf (V1 (Zk (DE.PF Zi) (Zk (Zfa (Zf (Zf Zn)) (Zb (Zc (i:=0) (m:=.S) rfl (by decide)) (Zb (Zc (i:=1) (m:=.S) rfl (by decide)) Zd))) ZU)))), ?_⟩
 refine Pm.ref ZvX (g:=fun xs=>_) ?_
 rintro⟨b,ns⟩ ⟨⟨hb,hk⟩,h⟩
 simp only at hb hk h
 simp only[ZvX]
 have hl:b.length<=1000:=by have:=hb.hi;omega
 obtain⟨x,hx⟩:=Z3p.mp h
 walk_at "pd"
 rw[Z2X ⟨⟨hb,hk⟩,h⟩,hx]
 walk_at "pd"
theorem Z2G{b ns:List Int}(h:(Jq b/\ns.length<=1000)/\waX b ns≠none):ZvX.fn [.lst (b.map PV.int),.lst (ns.map PV.int)]=orX (waX b ns) .non:=Pm.fn_eq ZvX (b,ns) h fun(a:List Int×List Int) e=>by simp only[ZvX] at e ⊢;walk_at "ij"
theorem Zt7:(10:Nat)^61<2^60000:=by
 calc (10:Nat)^61<=(2^4)^61:=Z4L (by decide) _
  _=2^244:=by rw[<- Nat.pow_mul]
  _<2^60000:=Nat.pow_lt_pow_right (by decide) (by decide)
noncomputable def ZuS:Pm:=⟨Int×Int,fun a=>[.int a.1,.int a.2],fun a=>(1<=a.1/\a.1<=24)/\a.2<=10^60,fun a=>.ok (.int (cbN a.1 a.2))⟩
theorem ZyR(T:Txt w K mg){f:Addr}{fd:FuncData}(F:Fun K "count_boards" "count_boards" Zwx f fd):Jp P w K mg base CX0 1 f fd ["pits", "seeds"] (spF K 2 .P W0 ZuS.fn):=by
 refine F.okP Zwd rfl rfl (fun cdv A outer s H E hr=>?_)
 have hu:=hr.units
 refine⟨_,_,⟨[],[],[],.P⟩,rfl,(Zh (Jz (Z3 ZiK (pv 1) Zt (Z9 _)) (Zo (Z8 Zt)) ZH)
   (Zh (Z7 (i:=2) Zwd.nd rfl (by first|exact Or.inl rfl|exact Or.inr rfl) Zt)
   (Zh (ZhH PassesOwn.never rfl (Zkh rfl T.z_range (Za Zt (Za (pv 0) Ze))) (VP (i:=3) Zwd.nd rfl (by first|exact Or.inl rfl|exact Or.inr rfl)) (Zo (Z7 (i:=2) Zwd.nd rfl (by first|exact Or.inl rfl|exact Or.inr rfl) (Jc Um (Jc Zpi (pv 2) (Jc ZhQ (pv 1) (pv 3))) (pv 3)))))
   (Zo (Z8 (pv 2)))))),
   (Zp (Γm:=[.S,.S,.U,.U]) (J0 (Z1 (DE.toA (Zjm (Zc (i:=1) (m:=.S) rfl (by decide)) (DE.toA Zs))))
   (ZZ Zs)
   ZI)
   (Zp (Γm:=[.S,.S,.P,.U]) (Vm (i:=2) Zs (by decide))
   (Zp (Γm:=[.S,.S,.P,.U]) (Zil (Γl:=[.S,.S,.P,.U]) (ZpA (Zb (DE.toA Zs) (Zb (Zc (i:=0) (m:=.S) rfl (by decide)) Zd))) rfl (Zs5 (i:=3) (by decide))
   (DS.out (Y:=⟨[.S,.S,.P,.P],[.S,.S,.P,.U],[.S,.S,.P,.U],.P⟩) (Y':=⟨[.S,.S,.P,.U],[.S,.S,.P,.U],[.S,.S,.P,.U],.P⟩) (Vm (i:=2) (Zeq (DE.toA (ZrK (DE.toA (Jb (i:=2) rfl)) (DE.toA (Ziq (Zc (i:=1) (m:=.S) rfl (by decide)) (DE.toA (Jb (i:=3) rfl)))))) (DE.toA (Jb (i:=3) rfl))) (by decide)) rfl rfl rfl rfl))
   (ZZ (Jb (i:=2) rfl))))), ?_⟩
 refine Pm.ref ZuS (g:=fun xs=>_) ?_
 rintro⟨p,s⟩ ⟨⟨hp0,hp⟩,hs⟩
 simp only at hp0 hp hs
 simp only[ZuS]
 unfold cbN
 walk_at "pd"
 by_cases h:s<0
 ·rw[decide_eq_true h,if_pos h]
  walk_at "pd"
 ·rw[decide_eq_false h,if_neg h]
  walk_at "pd"
  generalize hw:Zj5 _ _ _=W
  obtain⟨ρ',rfl,v,rfl⟩:=ZdC hw (fun i ρ=>∃v,ρ=[.int p,.int s,.int (cbI s i),v]) ⟨_,rfl⟩ (by
   rintro i x ρ hx ⟨v,rfl⟩
   obtain⟨hi,rfl⟩:=Zmm hx
   walk_at "pd"
   rw[Zkt ⟨ZlD (by omega) hs (by omega),Z3Z (show (s+(1+(i:Int))).natAbs<=10^61 by omega) Zt7⟩]
   walk_at "pd"
   exact Zf4 ⟨.int (1+(i:Int)),by rw[cbI,Int.add_comm 1 (i:Int)]⟩)
  walk_at "pd"
  rw[Zdy]
theorem Zz1{p s:Int}(h:(1<=p/\p<=24)/\s<=10^60):ZuS.fn [.int p,.int s]=.ok (.int (cbN p s)):=Pm.fn_eq ZuS (p,s) h fun(a:Int×Int) e=>by simp only[ZuS] at e ⊢;walk_at "ij"
theorem Zd3:ZuS.calm:=fun a q h=>by (simp only[ZuS] at h;cases h)
noncomputable def Zp6(b:List Int):Option Str:=if 1000<cbN b.length b.sum then some "TooMany" else none
noncomputable def ZuQ:Pm:=⟨List Int,fun a=>[.lst (a.map PV.int)],fun a=>(1<=a.length/\a.length<=24)/\a.sum<=10^60,fun a=>orX (Zp6 a) .non⟩
theorem ZwN(T:Txt w K mg){f:Addr}{fd:FuncData}(F:Fun K "check_few_boards" "check_few_boards" ZvD f fd):Jp P w K mg base (CX1 P w) 2 f fd ["board"] (spF K 1 .P (W1 K) ZuQ.fn):=by
 have ZzA:=UE (P:=P) (w:=w) (base:=base) T.Zzv Zzd (fun F=>ZyR T F)
 obtain⟨C_TooMany,hC_TooMany,hQ_TooMany⟩:=J2 T.x_exc (n := "TooMany") (by decide)
 refine F.okX ZxU rfl rfl (fun cdv A outer s H E hr=>?_)
 have hu:=hr.units
 refine⟨_,_,⟨[.S],[],[],.P⟩,rfl,(Zo (Jz (Z3 Uu (ZK ZzA (hr.mono (by decide)) rfl (Za (Zv (ZA (K:=K)) rfl T.z_len Jo (Za (pv 0) Ze)) (Za (Zv (Vj (K:=K) rfl) rfl T.z_sum ZcH (Za (pv 0) Ze)) Ze))) (Jw T.c_MOST_BOARDS rfl) (Z9 _)) (Zo (Ji JG hQ_TooMany rfl (T.x_mg _ _ hC_TooMany) rfl (Za Zj Ze))) ZH)),
   (J0 (Z1 (DE.toA (U7 (DE.toA (Zik (Zf (Zf Zn)) (Pm.calm_fn Zd3) (Zb (DE.toA (J1 (Zb (Zc (i:=0) (m:=.S) rfl (by decide)) Zd))) (Zb (DE.toA (ZcG (Zb (Zc (i:=0) (m:=.S) rfl (by decide)) Zd))) Zd)))) (DE.toA Zs))))
   (Jj hC_TooMany (Zf Zn) (by decide) (Zb (DE.toA Zi) Zd))
   ZI), ?_⟩
 refine Pm.ref ZuQ (g:=fun xs=>_) ?_
 rintro(b:List Int) ⟨⟨h0,h1⟩,h2⟩
 simp only[ZuQ]
 walk_at "pd"
 rw[Zz1 ⟨⟨by omega,by omega⟩,h2⟩]
 walk_at "pd"
 by_cases c:1000<cbN b.length b.sum
 ·rw[decide_eq_true c,show Zp6 b=(some "TooMany":Option Str) from if_pos c]
  walk_at "pd"
 ·rw[decide_eq_false c,show Zp6 b=none from if_neg c]
  walk_at "pd"
theorem Zxf{b:List Int}(h:(1<=b.length/\b.length<=24)/\b.sum<=10^60):ZuQ.fn [.lst (b.map PV.int)]=orX (Zp6 b) .non:=Pm.fn_eq ZuQ b h fun(a:List Int) e=>by simp only[ZuQ] at e ⊢;walk_at "ij"
noncomputable def leX(b o:List Int):Option Str:=if JN o=true then match Zma b o with
 |some x=>some x
 |none=>Zp6 b
 else some "BadBoard"
noncomputable def ZvZ:Pm:=⟨List Int×List Int,fun a=>[.lst (a.1.map PV.int),.lst (a.2.map PV.int)],fun a=>(Jq a.1/\a.2.length<=1000)/\leX a.1 a.2≠none,fun a=>orX (leX a.1 a.2) .non⟩
theorem Z01(T:Txt w K mg){f:Addr}{fd:FuncData}(F:Fun K "least_way" "least_way" Zxq f fd):Jp P w K mg base (CX1 P w) 6 f fd ["board", "other"] (spF K 2 .F (W1 K) ZvZ.fn):=by
 have ZuM:=ZV (P:=P) (w:=w) (base:=base) T.ZvR Zv9 (fun F=>Zv8 T F)
 have Zxy:=ZV (P:=P) (w:=w) (base:=base) T.Zyn ZxR (fun F=>ZxP T F)
 have Zwl:=ZV (P:=P) (w:=w) (base:=base) T.Zxe ZwQ (fun F=>ZwN T F)
 refine F.okX Zw2 rfl rfl (fun cdv A outer s H E hr=>?_)
 have hu:=hr.units
 refine⟨_,_,⟨[],[],[],.F⟩,rfl,(Zh (ZJ (Zu ZuM (hr.mono (by decide)) rfl Zw (Za (pv 0) Ze)))
   (Zh (ZJ (Zu ZuM (hr.mono (by decide)) rfl Zw (Za (pv 1) Ze)))
   (Zh (ZJ (Zu Zxy (hr.mono (by decide)) rfl Zw (Za (pv 0) (Za (pv 1) Ze))))
   (Zh (ZJ (Zu Zwl (hr.mono (by decide)) rfl Zw (Za (pv 0) Ze)))
   (Zh (Z7 (i:=2) Zw2.nd rfl (by first|exact Or.inl rfl|exact Or.inr rfl) (Jm (ZfY rfl) rfl T.z_list V2 (Za (Jm ZlF rfl T.z_range Znw (Za (Zv (ZA (K:=K)) rfl T.z_len Jo (Za (pv 0) Ze)) Ze)) Ze)))
   (Zh (Z7 (i:=3) Zw2.nd rfl (by first|exact Or.inl rfl|exact Or.inr rfl) (Jm (Vt (K:=K)) rfl T.z_tuple Ui (Za (pv 1) Ze)))
   (Zh (Z7 (i:=4) Zw2.nd rfl (by first|exact Or.inl rfl|exact Or.inr rfl) (J6 (Za (J6 (Za (Jm (Vt (K:=K)) rfl T.z_tuple Ui (Za (pv 0) Ze)) Ze)) Ze)))
   (Zh (Z7 (i:=5) Zw2.nd rfl (by first|exact Or.inl rfl|exact Or.inr rfl) (Zkk (hu1 hu) (Jm (Vt (K:=K)) rfl T.z_tuple Ui (Za (pv 0) Ze)) ZqS))
   (Zh (PS.nox (Ze4 PassesOwn.never (Zkd (Zfx (hu1 hu) (pv 3) (pv 5))) ZN))
   ZN))))))))),
   (Zp (Γm:=[.S,.S,.U,.U,.U,.U]) (ZT (DE.toA (Ur (Zf Zn) (Zb (Zc (i:=0) (m:=.S) rfl (by decide)) Zd))))
   (Zp (Γm:=[.S,.S,.U,.U,.U,.U]) (ZT (DE.toA (Ur (Zf Zn) (Zb (Zc (i:=1) (m:=.S) rfl (by decide)) Zd))))
   (Zp (Γm:=[.S,.S,.U,.U,.U,.U]) (ZT (DE.toA (Ur (Zf (Zf Zn)) (Zb (Zc (i:=0) (m:=.S) rfl (by decide)) (Zb (Zc (i:=1) (m:=.S) rfl (by decide)) Zd)))))
   (Zp (Γm:=[.S,.S,.U,.U,.U,.U]) (ZT (DE.toA (Ur (Zf Zn) (Zb (Zc (i:=0) (m:=.S) rfl (by decide)) Zd))))
   (Zp (Γm:=[.S,.S,.O,.U,.U,.U]) (Z6 (i:=2) (Zjn (Zb (DE.toA (J1 (Zb (Zc (i:=0) (m:=.S) rfl (by decide)) Zd))) Zd)) (by decide))
   (Zp (Γm:=[.S,.S,.O,.P,.U,.U]) (Vm (i:=3) (DE.grd (ZeO (Zb (Zc (i:=1) (m:=.S) rfl (by decide)) Zd))) (by decide))
   (Zp (Γm:=[.S,.S,.O,.P,.T,.U]) (Zlo (i:=4) (Zlx (Zir (DE.FZ (Jh (Zk (DE.PF (DE.grd (ZeO (Zb (Zc (i:=0) (m:=.S) rfl (by decide)) Zd)))) ZU))) Zl2)) (by decide))
   (Zp (Γm:=[.S,.S,.O,.P,.T,.O]) (Z6 (i:=5) (Zlz (ZeO (Zb (Zc (i:=0) (m:=.S) rfl (by decide)) Zd)) ZrJ) (by decide))
   (Zp (Γm:=[.S,.S,.O,.P,.T,.O]) (ZeL (Γ:=[.S,.S,.O,.P,.T,.O]) (ZcF (DE.toA (ZfU (DE.toA (Jb (i:=3) rfl)) (Zc (i:=5) (m:=.O) rfl (by decide)))))
   Ja)
   Ja))))))))), ?_⟩
 refine Pm.ref ZvZ (g:=fun xs=>_) ?_
 rintro⟨b,o⟩ ⟨hb,h⟩
 simp only at hb h
 simp only[ZvZ]
 obtain⟨hb,ho⟩:=hb
 have hl:b.length<=1000:=by have:=hb.hi;omega
 unfold leX at h ⊢
 walk_at "pd"
 rw[Zvm hl,if_pos (Vi.mpr hb)]
 walk_at "pd"
 rw[Zvm ho]
 by_cases c:JN o=true
 ·rw[if_pos c] at h ⊢
  rw[if_pos c]
  walk_at "pd"
  rw[Zyp ⟨hl,ho⟩]
  cases hx:Zma b o with
  |some x =>
   simp only[orX]
   walk_at "pd"
  |none =>
   rw[hx] at h
   simp only at h
   obtain⟨x,hy⟩:=Z3p.mp h
   simp only[orX]
   walk_at "pd"
   rw[Zxf ⟨⟨by have:=hb.lo;omega,hb.hi⟩,hb.sm⟩,hy]
   walk_at "pd"
 ·rw[if_neg c,if_neg c]
  walk_at "pd"
theorem Z17{b o:List Int}(h:(Jq b/\o.length<=1000)/\leX b o≠none):ZvZ.fn [.lst (b.map PV.int),.lst (o.map PV.int)]=orX (leX b o) .non:=Pm.fn_eq ZvZ (b,o) h fun(a:List Int×List Int) e=>by simp only[ZvZ] at e ⊢;walk_at "ij"
noncomputable def Zvj:Pm:=⟨List Int×List Int,fun a=>[.lst (a.1.map PV.int),.lst (a.2.map PV.int)],fun a=>(Jq a.1/\a.2.length<=1000)/\leX a.1 a.2≠none,fun a=>orX (leX a.1 a.2) .non⟩
theorem ZzS(T:Txt w K mg){f:Addr}{fd:FuncData}(F:Fun K "tell_least" "tell_least" ZwU f fd):Jp P w K mg base (CX1 P w) 7 f fd ["board", "numbers"] (spF K 2 .F (W1 K) Zvj.fn):=by
 have Z1N:=ZV (P:=P) (w:=w) (base:=base) T.Z1y Z0U (fun F=>Z01 T F)
 refine F.okX ZzJ rfl rfl (fun cdv A outer s H E hr=>?_)
 have hu:=hr.units
 refine⟨_,_,⟨[],[],[],.F⟩,rfl,(Zo (Z8 (Z2 (Za Zj (Za (JM (ZW (K:=K)) (Zu Z1N (hr.mono (by decide)) rfl Zw (Za (pv 0) (Za (pv 1) Ze))) Zt (fun _ _=>rfl)) Ze))))),
   (Jf (V1 (Zk (DE.PF Zi) (Zk (Zoy (te:=tC .non) (Zfa (Zf (Zf Zn)) (Zb (Zc (i:=0) (m:=.S) rfl (by decide)) (Zb (Zc (i:=1) (m:=.S) rfl (by decide)) Zd))) (DE.toA Zs)) ZU)))), ?_⟩
 refine Pm.ref Zvj (g:=fun xs=>_) ?_
 rintro⟨b,ns⟩ ⟨⟨hb,hk⟩,h⟩
 simp only at hb hk h
 simp only[Zvj]
 have hl:b.length<=1000:=by have:=hb.hi;omega
 obtain⟨x,hx⟩:=Z3p.mp h
 walk_at "pd"
 rw[Z17 ⟨⟨hb,hk⟩,h⟩,hx]
 walk_at "pd"
theorem Z0I{b ns:List Int}(h:(Jq b/\ns.length<=1000)/\leX b ns≠none):Zvj.fn [.lst (b.map PV.int),.lst (ns.map PV.int)]=orX (leX b ns) .non:=Pm.fn_eq Zvj (b,ns) h fun(a:List Int×List Int) e=>by simp only[Zvj] at e ⊢;walk_at "ij"
noncomputable def riB(l:List Int):Bool:=(List.range (l.length-1)).all fun i=>decide (l.getD i 0<l.getD (i+1) 0)
noncomputable def Zvw:Pm:=⟨List Int,fun a=>[.lst (a.map PV.int)],fun a=>a.length<=100000,fun a=>.ok (.bl (riB a))⟩
theorem Z02(T:Txt w K mg){f:Addr}{fd:FuncData}(F:Fun K "is_rising" "is_rising" Zxr f fd):Jp P w K mg base CX0 1 f fd ["numbers"] (spF K 1 .P W0 Zvw.fn):=by
 refine F.okP Zy2 rfl rfl (fun cdv A outer s H E hr=>?_)
 have hu:=hr.units
 refine⟨_,_,⟨[],[],[],.P⟩,rfl,(Zo (Z8 (Zv (Uh (K:=K) rfl) rfl T.z_all Zgf (Za (Vn (QM rfl T.z_range (Za (Jc Zof (Zv (ZA (K:=K)) rfl T.z_len Jo (Za (pv 0) Ze)) Zt) Ze)) (fun _ _ _ _=>(JZ ZiK (JM (ZW (K:=K)) (pv 0) (pv 1) (fun _ _=>rfl)) (JM (ZW (K:=K)) (pv 0) (Jc ZhQ (pv 1) Zt) (fun _ _=>rfl)) (Z9 _))) Zy2.nd rfl) Ze)))),
   (ZZ (ZfV (Zb (DE.toA (Va (DI.c (ZeM (Zb (DE.toA (Zox (DE.toA (J1 (Zb (Zc (i:=0) (m:=.S) rfl (by decide)) Zd))) (DE.toA Zs))) Zd))) (DE.PF (Zjm (Jx (te:=tC .non) (Zc (i:=0) (m:=.S) rfl (by decide)) (Zc (i:=1) (m:=.S) rfl (by decide))) (Jx (te:=tC .non) (Zc (i:=0) (m:=.S) rfl (by decide)) (DE.toA (Ziq (Zc (i:=1) (m:=.S) rfl (by decide)) (DE.toA Zs)))))))) Zd))), ?_⟩
 refine Pm.ref Zvw (g:=fun xs=>_) ?_
 rintro(l:List Int) (hl:l.length<=100000)
 simp only[Zvw]
 walk_at "pd"
 rw[ZmN (g:=fun(i:Nat)=>PV.bl (decide (l.getD i 0<l.getD (i+1) 0))) (fun i hi=>by
  rw[Int.zero_add]
  walk_at "pd"
  rw[Z4e,show ((i:Int)+1).toNat=i+1 by omega])]
 rw[show (List.range ((l.length:Int)-1).toNat).map (fun(i:Nat)=>PV.bl (decide (l.getD i 0<l.getD (i+1) 0)))=((List.range (l.length-1)).map fun(i:Nat)=>decide (l.getD i 0<l.getD (i+1) 0)).map PV.bl by rw[Z4x,show ((l.length:Int)-1).toNat=l.length-1 by omega];rfl]
 walk_at "pd"
 unfold riB
 rw[Z4U];rfl
theorem Z18{l:List Int}(h:l.length<=100000):Zvw.fn [.lst (l.map PV.int)]=.ok (.bl (riB l)):=Pm.fn_eq Zvw l h fun(a:List Int) e=>by simp only[Zvw] at e ⊢;walk_at "ij"
theorem Zfv:Zvw.calm:=fun a q h=>by (simp only[Zvw] at h;cases h)
def Zqu(n:Nat)(l:List Int):Prop:=(∀p∈l,0<=p/\p<n)/\riB l=true/\l.length≠0/\l.length≠n
noncomputable instance (n:Nat) (l:List Int):Decidable (Zqu n l):=by unfold Zqu;infer_instance
noncomputable def ZrS(n:Nat)(l:List Int):Option Str:=if Zqu n l then none else some "BadPits"
theorem ZlJ{n:Nat}{l:List Int}(h:Zqu n l):ZrS n l=none:=if_pos h
theorem ZdI{n:Nat}{l:List Int}(h:¬Zqu n l):ZrS n l=(some "BadPits":Option Str):=if_neg h
noncomputable def Zvp:Pm:=⟨List Int×List Int,fun a=>[.lst (a.1.map PV.int),.lst (a.2.map PV.int)],fun a=>a.1.length<=1000/\a.2.length<=1000,fun a=>orX (ZrS a.1.length a.2) .non⟩
theorem ZyS(T:Txt w K mg){f:Addr}{fd:FuncData}(F:Fun K "check_barred" "check_barred" Zwy f fd):Jp P w K mg base (CX1 P w) 4 f fd ["board", "barred"] (spF K 2 .P (W1 K) Zvp.fn):=by
 have Z1O:=UE (P:=P) (w:=w) (base:=base) T.Z1z Z0V (fun F=>Z02 T F)
 have Z0p:=UE (P:=P) (w:=w) (base:=base) T.Z1T Z0W (fun F=>Z03 T F)
 obtain⟨C_BadPits,hC_BadPits,hQ_BadPits⟩:=J2 T.x_exc (n := "BadPits") (by decide)
 refine F.okX Zx1 rfl rfl (fun cdv A outer s H E hr=>?_)
 have hu:=hr.units
 refine⟨_,_,⟨[.S,.S],[],[],.P⟩,rfl,(Zh (Jz (PW.pt (UC (Vy (JJ (Zv (Vb (K:=K) (n := "list") rfl) rfl T.z_isinstance Jg (Za (pv 1) (Za (VA (v:=.ty "list") rfl T.z_list V2 rfl) Ze))))) (V6 (Vy (JJ (Zv (Uh (K:=K) rfl) rfl T.z_all Zgf (Za (Vn (Uk (K:=K) (pv 1)) (fun _ _ _ _=>(ZK Z0p (hr.mono (by decide)) rfl (Za (pv 0) (Za (pv 2) Ze)))) Zx1.nd rfl) Ze))))))) (Zo (Ji JG hQ_BadPits rfl (T.x_mg _ _ hC_BadPits) rfl (Za Zj Ze))) ZH)
   (Zh (Jz (Vy (JJ (ZK Z1O (hr.mono (by decide)) rfl (Za (pv 1) Ze)))) (Zo (Ji JG hQ_BadPits rfl (T.x_mg _ _ hC_BadPits) rfl (Za Zj Ze))) ZH)
   (Zo (Jz (PW.pt (UC (Z3 (JI (K:=K) hu) (Zv (ZA (K:=K)) rfl T.z_len Jo (Za (pv 1) Ze)) Zt (Z9 _)) (V6 (Z3 (JI (K:=K) hu) (Zv (ZA (K:=K)) rfl T.z_len Jo (Za (pv 1) Ze)) (Zv (ZA (K:=K)) rfl T.z_len Jo (Za (pv 0) Ze)) (Z9 _))))) (Zo (Ji JG hQ_BadPits rfl (T.x_mg _ _ hC_BadPits) rfl (Za Zj Ze))) ZH)))),
   (Zp (Γm:=[.S,.S]) (J0 (QE (V0 (ZcF (DE.toA (Zb8 (Zc (i:=1) (m:=.S) rfl (by decide)))))) (V0 (ZcF (DE.toA (ZfV (Zb (DE.toA (Va (DI.c (ZeN (Zhi (i:=1) rfl))) (DE.PF (Zik (Zf (Zf Zn)) (Pm.calm_fn Zfw) (Zb (Zc (i:=0) (m:=.S) rfl (by decide)) (Zb (Zc (i:=2) (m:=.S) rfl (by decide)) Zd)))))) Zd))))))
   (Jj hC_BadPits (Zf Zn) (by decide) (Zb (DE.toA Zi) Zd))
   ZI)
   (Zp (Γm:=[.S,.S]) (J0 (V0 (ZcF (DE.toA (Zik (Zf Zn) (Pm.calm_fn Zfv) (Zb (Zc (i:=1) (m:=.S) rfl (by decide)) Zd)))))
   (Jj hC_BadPits (Zf Zn) (by decide) (Zb (DE.toA Zi) Zd))
   ZI)
   (J0 (QE (Z1 (DE.toA (Jn (g:=id) (DE.toA (J1 (Zb (Zc (i:=1) (m:=.S) rfl (by decide)) Zd))) (DE.toA Zs)))) (Z1 (DE.toA (Jn (g:=id) (DE.toA (J1 (Zb (Zc (i:=1) (m:=.S) rfl (by decide)) Zd))) (DE.toA (J1 (Zb (Zc (i:=0) (m:=.S) rfl (by decide)) Zd)))))))
   (Jj hC_BadPits (Zf Zn) (by decide) (Zb (DE.toA Zi) Zd))
   ZI))), ?_⟩
 refine Pm.ref Zvp (g:=fun xs=>_) ?_
 rintro⟨b,l⟩ ⟨hb,hl⟩
 simp only at hb hl
 simp only[Zvp]
 walk_at "pd"
 rw[ZkL (g:=fun z=>decide (0<=z/\z<(b.length:Int))) (fun z _=>Z1U)]
 walk_at "pd"
 rw[ZlN]
 by_cases h1:∀x∈l,0<=x/\x<(b.length:Int)
 ·rw[decide_eq_true h1]
  walk_at "pd"
  rw[Z18 (by omega)]
  walk_at "pd"
  by_cases h2:riB l=true
  ·rw[h2]
   walk_at "pd"
   by_cases h3:l.length=0
   ·rw[decide_eq_true (show (l.length:Int)=0 by omega),ZdI (fun z=>z.2.2.1 h3)]
    walk_at "pd"
   ·rw[decide_eq_false (show ¬(l.length:Int)=0 by omega)]
    walk_at "pd"
    by_cases h4:l.length=b.length
    ·rw[decide_eq_true (show (l.length:Int)=b.length by omega),ZdI (fun z=>z.2.2.2 h4)]
     walk_at "pd"
    ·rw[decide_eq_false (show ¬(l.length:Int)=b.length by omega),ZlJ ⟨h1,h2,h3,h4⟩]
     walk_at "pd"
  ·rw[eq_false_of_ne_true h2,ZdI (fun z=>h2 z.2.1)]
   walk_at "pd"
 ·rw[decide_eq_false h1,ZdI (fun z=>h1 z.1)]
  walk_at "pd"
theorem Zz2{b l:List Int}(h:b.length<=1000/\l.length<=1000):Zvp.fn [.lst (b.map PV.int),.lst (l.map PV.int)]=orX (ZrS b.length l) .non:=Pm.fn_eq Zvp (b,l) h fun(a:List Int×List Int) e=>by simp only[Zvp] at e ⊢;walk_at "ij"
noncomputable def J5(b l:List Int):Option Str:=if JN b=true then match ZrS b.length l with
 |none=>Zp6 b
 |some q=>some q
 else some "BadBoard"
noncomputable def ZvO:Pm:=⟨List Int×List Int,fun a=>[.lst (a.1.map PV.int),.lst (a.2.map PV.int)],fun a=>a.1.length<=1000/\a.2.length<=1000,fun a=>orX (J5 a.1 a.2) .non⟩
theorem Zxw(T:Txt w K mg){f:Addr}{fd:FuncData}(F:Fun K "check_play" "check_play" Zxa f fd):Jp P w K mg base (CX1 P w) 6 f fd ["board", "barred"] (spF K 2 .P (W1 K) ZvO.fn):=by
 have ZuM:=ZV (P:=P) (w:=w) (base:=base) T.ZvR Zv9 (fun F=>Zv8 T F)
 have ZzB:=ZV (P:=P) (w:=w) (base:=base) T.Zzw Zze (fun F=>ZyS T F)
 have Zwl:=ZV (P:=P) (w:=w) (base:=base) T.Zxe ZwQ (fun F=>ZwN T F)
 refine F.okX ZzO rfl rfl (fun cdv A outer s H E hr=>?_)
 have hu:=hr.units
 refine⟨_,_,⟨[.S,.S],[],[],.P⟩,rfl,(Zh (ZJ (Zu ZuM (hr.mono (by decide)) rfl Zw (Za (pv 0) Ze)))
   (Zh (ZJ (Zu ZzB (hr.mono (by decide)) rfl Zw (Za (pv 0) (Za (pv 1) Ze))))
   (Zo (ZJ (Zu Zwl (hr.mono (by decide)) rfl Zw (Za (pv 0) Ze)))))),
   (Zp (Γm:=[.S,.S]) (ZT (DE.toA (Ur (Zf Zn) (Zb (Zc (i:=0) (m:=.S) rfl (by decide)) Zd))))
   (Zp (Γm:=[.S,.S]) (ZT (DE.toA (Ur (Zf (Zf Zn)) (Zb (Zc (i:=0) (m:=.S) rfl (by decide)) (Zb (Zc (i:=1) (m:=.S) rfl (by decide)) Zd)))))
   (ZT (DE.toA (Ur (Zf Zn) (Zb (Zc (i:=0) (m:=.S) rfl (by decide)) Zd)))))), ?_⟩
 refine Pm.ref ZvO (g:=fun xs=>_) ?_
 rintro⟨b,l⟩ ⟨hb,hl⟩
 simp only at hb hl
 simp only[ZvO]
 walk_at "pd"
 rw[Zvm (by omega)]
 unfold J5
 by_cases h1:JN b=true
 ·rw[if_pos h1,if_pos h1]
  simp only[orX]
  walk_at "pd"
  rw[Zz2 ⟨by omega,by omega⟩]
  by_cases h2:Zqu b.length l
  ·rw[ZlJ h2]
   simp only[orX]
   have B:=Vi.mp h1
   have l1:=B.lo
   have l2:=B.hi
   have l3:=B.sm
   walk_at "pd"
   rw[Zxf ⟨⟨by omega,by omega⟩,l3⟩]
   unfold Zp6
   split<;>walk_at "pd"
  ·rw[ZdI h2]
   walk_at "pd"
 ·rw[if_neg h1,if_neg h1]
  walk_at "pd"
theorem Zx7{b l:List Int}(h:b.length<=1000/\l.length<=1000):ZvO.fn [.lst (b.map PV.int),.lst (l.map PV.int)]=orX (J5 b l) .non:=Pm.fn_eq ZvO (b,l) h fun(a:List Int×List Int) e=>by simp only[ZvO] at e ⊢;walk_at "ij"
noncomputable def ZwJ:Pm:=⟨List Int×List Int,fun a=>[.lst (a.1.map PV.int),.lst (a.2.map PV.int)],fun a=>(a.1.length<=1000/\a.2.length<=1000)/\J5 a.1 a.2≠none,fun a=>orX (J5 a.1 a.2) .non⟩
theorem Z2d(T:Txt w K mg){f:Addr}{fd:FuncData}(F:Fun K "come_to" "come_to" Zyh f fd):Jp P w K mg base (CX1 P w) 7 f fd ["board", "barred"] (spF K 2 .F (W1 K) ZwJ.fn):=by
 have Zw4:=ZV (P:=P) (w:=w) (base:=base) T.Zx6 Zxx (fun F=>Zxw T F)
 refine F.okX Z1W rfl rfl (fun cdv A outer s H E hr=>?_)
 have hu:=hr.units
 refine⟨_,_,⟨[],[],[],.F⟩,rfl,(Zh (ZJ (Zu Zw4 (hr.mono (by decide)) rfl Zw (Za (pv 0) (Za (pv 1) Ze))))
   ZN),
   (Zp (Γm:=[.S,.S]) (ZT (DE.toA (Ur (Zf (Zf Zn)) (Zb (Zc (i:=0) (m:=.S) rfl (by decide)) (Zb (Zc (i:=1) (m:=.S) rfl (by decide)) Zd)))))
   Ja), ?_⟩
 refine Pm.ref ZwJ (g:=fun xs=>_) ?_
 rintro⟨b,l⟩ ⟨hb,h⟩
 simp only at hb h
 simp only[ZwJ]
 obtain⟨x,hx⟩:=Z3p.mp h
 walk_at "pd"
 rw[Zx7 hb,hx]
 walk_at "pd"
theorem Z2L{b l:List Int}(h:(b.length<=1000/\l.length<=1000)/\J5 b l≠none):ZwJ.fn [.lst (b.map PV.int),.lst (l.map PV.int)]=orX (J5 b l) .non:=Pm.fn_eq ZwJ (b,l) h fun(a:List Int×List Int) e=>by simp only[ZwJ] at e ⊢;walk_at "ij"
noncomputable def ZwI:Pm:=⟨List Int×List Int,fun a=>[.lst (a.1.map PV.int),.lst (a.2.map PV.int)],fun a=>(a.1.length<=1000/\a.2.length<=1000)/\J5 a.1 a.2≠none,fun a=>orX (J5 a.1 a.2) .non⟩
theorem Z2b(T:Txt w K mg){f:Addr}{fd:FuncData}(F:Fun K "ends_of" "ends_of" Zyg f fd):Jp P w K mg base (CX1 P w) 8 f fd ["board", "barred"] (spF K 2 .F (W1 K) ZwI.fn):=by
 have Z2T:=ZV (P:=P) (w:=w) (base:=base) T.Z2E Z2x (fun F=>Z2d T F)
 refine F.okX ZzE rfl rfl (fun cdv A outer s H E hr=>?_)
 have hu:=hr.units
 refine⟨_,_,⟨[],[],[],.F⟩,rfl,(Zh (Z7 (i:=2) ZzE.nd rfl (by first|exact Or.inl rfl|exact Or.inr rfl) (Zu Z2T (hr.mono (by decide)) rfl Zw (Za (pv 0) (Za (pv 1) Ze))))
   ZN),
   (Zp (Γm:=[.S,.S,.O,.U]) (Z6 (i:=2) (Zfa (Zf (Zf Zn)) (Zb (Zc (i:=0) (m:=.S) rfl (by decide)) (Zb (Zc (i:=1) (m:=.S) rfl (by decide)) Zd))) (by decide))
   Ja), ?_⟩
 refine Pm.ref ZwI (g:=fun xs=>_) ?_
 rintro⟨b,l⟩ ⟨hb,h⟩
 simp only at hb h
 simp only[ZwI]
 obtain⟨x,hx⟩:=Z3p.mp h
 walk_at "pd"
 rw[Z2L ⟨hb,h⟩,hx]
 walk_at "pd"
theorem Z2J{b l:List Int}(h:(b.length<=1000/\l.length<=1000)/\J5 b l≠none):ZwI.fn [.lst (b.map PV.int),.lst (l.map PV.int)]=orX (J5 b l) .non:=Pm.fn_eq ZwI (b,l) h fun(a:List Int×List Int) e=>by simp only[ZwI] at e ⊢;walk_at "ij"
noncomputable def Zvu:Pm:=⟨List Int×List Int,fun a=>[.lst (a.1.map PV.int),.lst (a.2.map PV.int)],fun a=>(Jq a.1/\a.2.length<=1000)/\J5 a.1 a.2≠none,fun a=>orX (J5 a.1 a.2) .non⟩
theorem Z0z(T:Txt w K mg){f:Addr}{fd:FuncData}(F:Fun K "tell_ends" "tell_ends" Zxo f fd):Jp P w K mg base (CX1 P w) 9 f fd ["board", "numbers"] (spF K 2 .F (W1 K) Zvu.fn):=by
 have Z2R:=ZV (P:=P) (w:=w) (base:=base) T.Z2D Z2w (fun F=>Z2b T F)
 refine F.okX Z0s rfl rfl (fun cdv A outer s H E hr=>?_)
 have hu:=hr.units
 refine⟨_,_,⟨[],[],[],.F⟩,rfl,(Zo (Z8 (Z2 (Za Zj (Za (Zu Z2R (hr.mono (by decide)) rfl Zw (Za (pv 0) (Za (pv 1) Ze))) Ze))))),
   (Jf (V1 (Zk (DE.PF Zi) (Zk (Zfa (Zf (Zf Zn)) (Zb (Zc (i:=0) (m:=.S) rfl (by decide)) (Zb (Zc (i:=1) (m:=.S) rfl (by decide)) Zd))) ZU)))), ?_⟩
 refine Pm.ref Zvu (g:=fun xs=>_) ?_
 rintro⟨b,ns⟩ ⟨⟨hb,hk⟩,h⟩
 simp only at hb hk h
 simp only[Zvu]
 have hl:b.length<=1000:=by have:=hb.hi;omega
 obtain⟨x,hx⟩:=Z3p.mp h
 walk_at "pd"
 rw[Z2J ⟨⟨hl,hk⟩,h⟩,hx]
 walk_at "pd"
theorem Z15{b ns:List Int}(h:(Jq b/\ns.length<=1000)/\J5 b ns≠none):Zvu.fn [.lst (b.map PV.int),.lst (ns.map PV.int)]=orX (J5 b ns) .non:=Pm.fn_eq Zvu (b,ns) h fun(a:List Int×List Int) e=>by simp only[Zvu] at e ⊢;walk_at "ij"
noncomputable def Zwp:Pm:=⟨List Int×List Int,fun a=>[.lst (a.1.map PV.int),.lst (a.2.map PV.int)],fun a=>(a.1.length<=1000/\a.2.length<=1000)/\J5 a.1 a.2≠none,fun a=>orX (J5 a.1 a.2) .non⟩
theorem Z1m(T:Txt w K mg){f:Addr}{fd:FuncData}(F:Fun K "who_wins" "who_wins" ZxC f fd):Jp P w K mg base (CX1 P w) 7 f fd ["board", "barred"] (spF K 2 .F (W1 K) Zwp.fn):=by
 have Zw4:=ZV (P:=P) (w:=w) (base:=base) T.Zx6 Zxx (fun F=>Zxw T F)
 refine F.okX Z1h rfl rfl (fun cdv A outer s H E hr=>?_)
 have hu:=hr.units
 refine⟨_,_,⟨[],[],[],.F⟩,rfl,(Zh (ZJ (Zu Zw4 (hr.mono (by decide)) rfl Zw (Za (pv 0) (Za (pv 1) Ze))))
   ZN),
   (Zp (Γm:=[.S,.S,.U,.U]) (ZT (DE.toA (Ur (Zf (Zf Zn)) (Zb (Zc (i:=0) (m:=.S) rfl (by decide)) (Zb (Zc (i:=1) (m:=.S) rfl (by decide)) Zd)))))
   Ja), ?_⟩
 refine Pm.ref Zwp (g:=fun xs=>_) ?_
 rintro⟨b,l⟩ ⟨hb,h⟩
 simp only at hb h
 simp only[Zwp]
 obtain⟨x,hx⟩:=Z3p.mp h
 walk_at "pd"
 rw[Zx7 hb,hx]
 walk_at "pd"
theorem Z2m{b l:List Int}(h:(b.length<=1000/\l.length<=1000)/\J5 b l≠none):Zwp.fn [.lst (b.map PV.int),.lst (l.map PV.int)]=orX (J5 b l) .non:=Pm.fn_eq Zwp (b,l) h fun(a:List Int×List Int) e=>by simp only[Zwp] at e ⊢;walk_at "ij"
noncomputable def Zvr:Pm:=⟨List Int×List Int,fun a=>[.lst (a.1.map PV.int),.lst (a.2.map PV.int)],fun a=>(Jq a.1/\a.2.length<=1000)/\J5 a.1 a.2≠none,fun a=>orX (J5 a.1 a.2) .non⟩
theorem Z0w(T:Txt w K mg){f:Addr}{fd:FuncData}(F:Fun K "tell_wins" "tell_wins" Zxl f fd):Jp P w K mg base (CX1 P w) 8 f fd ["board", "numbers"] (spF K 2 .F (W1 K) Zvr.fn):=by
 have Z2z:=ZV (P:=P) (w:=w) (base:=base) T.Z2f Z1B (fun F=>Z1m T F)
 refine F.okX Zyz rfl rfl (fun cdv A outer s H E hr=>?_)
 have hu:=hr.units
 refine⟨_,_,⟨[],[],[],.F⟩,rfl,(Zh (Z7 (i:=2) Zyz.nd rfl (by first|exact Or.inl rfl|exact Or.inr rfl) (Zu Z2z (hr.mono (by decide)) rfl Zw (Za (pv 0) (Za (pv 1) Ze))))
   (Zo (Z8 (Z2 (Za Zj (Za (JM (ZW (K:=K)) (pv 2) Zt (fun _ _=>rfl)) (Za (JM (ZW (K:=K)) (pv 2) Zt (fun _ _=>rfl)) Ze))))))),
   (Zp (Γm:=[.S,.S,.O]) (Z6 (i:=2) (Zfa (Zf (Zf Zn)) (Zb (Zc (i:=0) (m:=.S) rfl (by decide)) (Zb (Zc (i:=1) (m:=.S) rfl (by decide)) Zd))) (by decide))
   (Jf (V1 (Zk (DE.PF Zi) (Zjp (i:=2) rfl))))), ?_⟩
 refine Pm.ref Zvr (g:=fun xs=>_) ?_
 rintro⟨b,ns⟩ ⟨⟨hb,hk⟩,h⟩
 simp only at hb hk h
 simp only[Zvr]
 have hl:b.length<=1000:=by have:=hb.hi;omega
 obtain⟨x,hx⟩:=Z3p.mp h
 walk_at "pd"
 rw[Z2m ⟨⟨hl,hk⟩,h⟩,hx]
 walk_at "pd"
theorem Z12{b ns:List Int}(h:(Jq b/\ns.length<=1000)/\J5 b ns≠none):Zvr.fn [.lst (b.map PV.int),.lst (ns.map PV.int)]=orX (J5 b ns) .non:=Pm.fn_eq Zvr (b,ns) h fun(a:List Int×List Int) e=>by simp only[Zvr] at e ⊢;walk_at "ij"
noncomputable def Zvo:Pm:=⟨List Int×List Int,fun a=>[.lst (a.1.map PV.int),.lst (a.2.map PV.int)],fun a=>(a.1.length<=1000/\a.2.length<=1000)/\J5 a.1 a.2≠none,fun a=>orX (J5 a.1 a.2) .non⟩
theorem ZyQ(T:Txt w K mg){f:Addr}{fd:FuncData}(F:Fun K "longest_play" "longest_play" Zww f fd):Jp P w K mg base (CX1 P w) 7 f fd ["board", "barred"] (spF K 2 .F (W1 K) Zvo.fn):=by
 have Zw4:=ZV (P:=P) (w:=w) (base:=base) T.Zx6 Zxx (fun F=>Zxw T F)
 refine F.okX ZyM rfl rfl (fun cdv A outer s H E hr=>?_)
 have hu:=hr.units
 refine⟨_,_,⟨[],[],[],.F⟩,rfl,(Zh (ZJ (Zu Zw4 (hr.mono (by decide)) rfl Zw (Za (pv 0) (Za (pv 1) Ze))))
   ZN),
   (Zp (Γm:=[.S,.S,.U,.U,.U,.U,.U]) (ZT (DE.toA (Ur (Zf (Zf Zn)) (Zb (Zc (i:=0) (m:=.S) rfl (by decide)) (Zb (Zc (i:=1) (m:=.S) rfl (by decide)) Zd)))))
   Ja), ?_⟩
 refine Pm.ref Zvo (g:=fun xs=>_) ?_
 rintro⟨b,l⟩ ⟨hb,h⟩
 simp only at hb h
 simp only[Zvo]
 obtain⟨x,hx⟩:=Z3p.mp h
 walk_at "pd"
 rw[Zx7 hb,hx]
 walk_at "pd"
theorem Zz0{b l:List Int}(h:(b.length<=1000/\l.length<=1000)/\J5 b l≠none):Zvo.fn [.lst (b.map PV.int),.lst (l.map PV.int)]=orX (J5 b l) .non:=Pm.fn_eq Zvo (b,l) h fun(a:List Int×List Int) e=>by simp only[Zvo] at e ⊢;walk_at "ij"
noncomputable def ZuR:Pm:=⟨List Int×List Int,fun a=>[.lst (a.1.map PV.int),.lst (a.2.map PV.int)],fun a=>(Jq a.1/\a.2.length<=1000)/\J5 a.1 a.2≠none,fun a=>orX (J5 a.1 a.2) .non⟩
theorem ZyO(T:Txt w K mg){f:Addr}{fd:FuncData}(F:Fun K "tell_longest" "tell_longest" Zwu f fd):Jp P w K mg base (CX1 P w) 8 f fd ["board", "numbers"] (spF K 2 .F (W1 K) ZuR.fn):=by
 have Zz9:=ZV (P:=P) (w:=w) (base:=base) T.Zzu Zzc (fun F=>ZyQ T F)
 refine F.okX ZyK rfl rfl (fun cdv A outer s H E hr=>?_)
 have hu:=hr.units
 refine⟨_,_,⟨[],[],[],.F⟩,rfl,(Zo (Z8 (Z2 (Za Zj (Za (JM (ZW (K:=K)) (Zu Zz9 (hr.mono (by decide)) rfl Zw (Za (pv 0) (Za (pv 1) Ze))) Zt (fun _ _=>rfl)) Ze))))),
   (Jf (V1 (Zk (DE.PF Zi) (Zk (Zoy (te:=tC .non) (Zfa (Zf (Zf Zn)) (Zb (Zc (i:=0) (m:=.S) rfl (by decide)) (Zb (Zc (i:=1) (m:=.S) rfl (by decide)) Zd))) (DE.toA Zs)) ZU)))), ?_⟩
 refine Pm.ref ZuR (g:=fun xs=>_) ?_
 rintro⟨b,ns⟩ ⟨⟨hb,hk⟩,h⟩
 simp only at hb hk h
 simp only[ZuR]
 have hl:b.length<=1000:=by have:=hb.hi;omega
 obtain⟨x,hx⟩:=Z3p.mp h
 walk_at "pd"
 rw[Zz0 ⟨⟨hl,hk⟩,h⟩,hx]
 walk_at "pd"
theorem Zzy{b ns:List Int}(h:(Jq b/\ns.length<=1000)/\J5 b ns≠none):ZuR.fn [.lst (b.map PV.int),.lst (ns.map PV.int)]=orX (J5 b ns) .non:=Pm.fn_eq ZuR (b,ns) h fun(a:List Int×List Int) e=>by simp only[ZuR] at e ⊢;walk_at "ij"
noncomputable def Ub(ns:List Int):Option Str:=if ZdK ns then none else some "BadLine"
theorem ZhY{ns:List Int}(h:ZdK ns):Ub ns=none:=if_pos h
theorem ZaH{ns:List Int}(h:¬ZdK ns):Ub ns=(some "BadLine":Option Str):=if_neg h
noncomputable def ZvP:Pm:=⟨List Int,fun ns=>[.lst (ns.map PV.int)],fun ns=>ns.length<=1000000,fun ns=>orX (Ub ns) .non⟩
theorem Zyl(T:Txt w K mg){f:Addr}{fd:FuncData}(F:Fun K "check_line" "check_line" Zxb f fd):Jp P w K mg base (CX1 P w) 4 f fd ["line"] (spF K 1 .P (W1 K) ZvP.fn):=by
 have ZuT:=UE (P:=P) (w:=w) (base:=base) T.ZvG ZvB (fun F=>ZvA T F)
 obtain⟨C_BadLine,hC_BadLine,hQ_BadLine⟩:=J2 T.x_exc (n := "BadLine") (by decide)
 refine F.okX ZzP rfl rfl (fun cdv A outer s H E hr=>?_)
 have hu:=hr.units
 refine⟨_,_,⟨[.S],[],[],.P⟩,rfl,(Zh (Jz (PW.pt (UC (Vy (JJ (ZK ZuT (hr.mono (by decide)) rfl (Za (pv 0) Ze)))) (UC (Z3 Uu (Zv (ZA (K:=K)) rfl T.z_len Jo (Za (pv 0) Ze)) (Jw T.c_MOST_LINE_PITS rfl) (Z9 _)) (V6 (Z3 Uu (Zv (Vj (K:=K) rfl) rfl T.z_sum ZcH (Za (pv 0) Ze)) (Jw T.c_MOST_LINE_SEEDS rfl) (Z9 _)))))) (Zo (Ji JG hQ_BadLine rfl (T.x_mg _ _ hC_BadLine) rfl (Za Zj Ze))) ZH)
   (Zo (Jz (PW.pt (U8 (Z3 Uu (Zv (ZA (K:=K)) rfl T.z_len Jo (Za (pv 0) Ze)) Zt (Z9 _)) (VO (PW.pt (UC (Z3 (JI (K:=K) hu) (JM (ZW (K:=K)) (pv 0) Zt (fun _ _=>rfl)) Zt (Z9 _)) (V6 (Z3 (JI (K:=K) hu) (JM (ZW (K:=K)) (pv 0) (ZiD ZdR Zt) (fun _ _=>rfl)) Zt (Z9 _)))))))) (Zo (Ji JG hQ_BadLine rfl (T.x_mg _ _ hC_BadLine) rfl (Za Zj Ze))) ZH))),
   (Zp (Γm:=[.S]) (J0 (QE (V0 (ZcF (DE.toA (Zik (Zf Zn) (Pm.calm_fn Ve) (Zb (Zc (i:=0) (m:=.S) rfl (by decide)) Zd))))) (QE (Z1 (DE.toA (U7 (DE.toA (J1 (Zb (Zc (i:=0) (m:=.S) rfl (by decide)) Zd))) (DE.toA Zs)))) (Z1 (DE.toA (U7 (DE.toA (ZcG (Zb (Zc (i:=0) (m:=.S) rfl (by decide)) Zd))) (DE.toA Zs))))))
   (Jj hC_BadLine (Zf Zn) (by decide) (Zb (DE.toA Zi) Zd))
   ZI)
   (J0 (U9 (Z1 (DE.toA (U7 (DE.toA (J1 (Zb (Zc (i:=0) (m:=.S) rfl (by decide)) Zd))) (DE.toA Zs)))) (QE (Z1 (DE.toA (Jn (g:=id) (Jx (te:=tC .non) (Zc (i:=0) (m:=.S) rfl (by decide)) (DE.toA Zs)) (DE.toA Zs)))) (Z1 (DE.toA (Jn (g:=id) (Jx (te:=tC .non) (Zc (i:=0) (m:=.S) rfl (by decide)) (DE.toA (Zep (DE.toA Zs)))) (DE.toA Zs))))))
   (Jj hC_BadLine (Zf Zn) (by decide) (Zb (DE.toA Zi) Zd))
   ZI)), ?_⟩
 refine Pm.ref ZvP (g:=fun xs=>_) ?_
 intro (ns:List Int) (hn:ns.length<=1000000)
 simp only[ZvP]
 walk_at "pd"
 rw[ZvH hn]
 walk_at "pd"
 by_cases h1:∀x∈ns,0<=x
 ·rw[decide_eq_true h1]
  walk_at "pd"
  by_cases h2:ns.length<=100
  ·rw[decide_eq_false (by omega)]
   walk_at "pd"
   by_cases h3:ns.sum<=100
   ·rw[decide_eq_false (by omega)]
    walk_at "pd"
    by_cases h4:ns=[]
    ·subst h4
     walk_at "pd"
     rw[ZhY ⟨by simp,by simp,by simp,.inl rfl⟩]
     rfl
    ·have hl:0<ns.length:=Z4i.mpr h4
     rw[decide_eq_true (by omega)]
     walk_at "pd"
     rw[ZhO h4]
     walk_at "pd"
     by_cases h5:ns.getD 0 0=0
     ·rw[decide_eq_true h5,ZaH (fun z=>by rcases z.2.2.2 with z|z;contradiction;exact z.1 h5)]
      walk_at "pd" <;> rfl
     ·rw[decide_eq_false h5]
      walk_at "pd"
      by_cases h6:ns.getD (ns.length-1) 0=0
      ·rw[decide_eq_true h6,ZaH (fun z=>by rcases z.2.2.2 with z|z;contradiction;exact z.2 h6)]
       walk_at "pd" <;> rfl
      ·rw[decide_eq_false h6,ZhY ⟨h1,h2,h3,.inr ⟨h5,h6⟩⟩]
       walk_at "pd" <;> rfl
   ·rw[decide_eq_true (by omega),ZaH (fun z=>h3 z.2.2.1)];walk_at "pd" <;> rfl
  ·rw[decide_eq_true (by omega),ZaH (fun z=>h2 z.2.1)];walk_at "pd" <;> rfl
 ·rw[decide_eq_false h1,ZaH (fun z=>h1 z.1)];walk_at "pd" <;> rfl
theorem Zy8{ns:List Int}(h:ns.length<=1000000):ZvP.fn [.lst (ns.map PV.int)]=orX (Ub ns) .non:=Pm.fn_eq ZvP ns h fun(a:List Int) e=>by simp only[ZvP] at e ⊢;walk_at "ij"
noncomputable def ZuJ:Pm:=⟨List Int,fun ns=>[.lst (ns.map PV.int)],fun ns=>ns.length<=1000000,fun ns=>.ok (.lst ((ZcI ns).map PV.int))⟩
theorem Zwj(T:Txt w K mg){f:Addr}{fd:FuncData}(F:Fun K "without_last_noughts" "without_last_noughts" Zvd f fd):Jp P w K mg base CX0 1 f fd ["numbers"] (spF K 1 .F W0 ZuJ.fn):=by
 refine F.okP Zvy rfl rfl (fun cdv A outer s H E hr=>?_)
 have hu:=hr.units
 refine⟨_,_,⟨[],[],[],.F⟩,rfl,(Zh (Z7 (i:=1) Zvy.nd rfl (by first|exact Or.inl rfl|exact Or.inr rfl) (Zv (ZA (K:=K)) rfl T.z_len Jo (Za (pv 0) Ze)))
   (Zh (Ze4 PassesOwn.never (PW.pt (U8 (Z3 Uu (pv 1) Zt (Z9 _)) (VO (Z3 (JI (K:=K) hu) (JM (ZW (K:=K)) (pv 0) (Jc Zof (pv 1) Zt) (fun _ _=>rfl)) Zt (Z9 _))))) (Zo (ZnM (i:=1) Zvy.nd rfl (by first|exact Or.inl rfl|exact Or.inr rfl) Zt Zrz)))
   (Zo (Z8 (Ul (QK (K:=K)) (pv 0) ZbG (ZbF (pv 1))))))),
   (Zp (Γm:=[.S,.P]) (Vm (i:=1) (J1 (Zb (Zc (i:=0) (m:=.S) rfl (by decide)) Zd)) (by decide))
   (Zp (Γm:=[.S,.P]) (ZeL (Γ:=[.S,.P]) (U9 (Z1 (DE.toA (U7 (DE.toA (Jb (i:=1) rfl)) (DE.toA Zs)))) (Z1 (DE.toA (Jn (g:=id) (Jx (te:=tC .non) (Zc (i:=0) (m:=.S) rfl (by decide)) (DE.toA (Zox (DE.toA (Jb (i:=1) rfl)) (DE.toA Zs)))) (DE.toA Zs)))))
   (Zlp (i:=1) rfl (DE.toA Zs)))
   (Jf (ZfT (Zc (i:=0) (m:=.S) rfl (by decide)) ZcA (Zc9 (DE.toA (Jb (i:=1) rfl))))))), ?_⟩
 refine Pm.ref ZuJ (g:=fun xs=>_) ?_
 intro (ns:List Int) (hn:ns.length<=1000000)
 simp only[ZuJ]
 walk_at "pd"
 have ht:=QI ns ns.length
 generalize hw:QH _ _ _=W
 obtain⟨ρ',rfl,rfl⟩:=Zdp hw (ns.length-V9 ns ns.length) (fun k ρ=>ρ=[.lst (ns.map PV.int),.int (((ns.length-k:Nat):Int))]) rfl (by
  rintro k ρ hk rfl
  have hz:=ZdS ns ns.length (ns.length-k-1) (by omega) (by omega)
  constructor
  ·walk_at "pd"
   rw[decide_eq_true (by omega)]
   walk_at "pd"
   rw[show ((ns.length-k:Nat):Int)-1=((ns.length-k-1:Nat):Int) by omega,Z4e,hz]
   walk_at "pd"
  ·walk_at "pd"
   exact Zf4 (by rw[show ((ns.length-k:Nat):Int)-1=((ns.length-(k+1):Nat):Int) by omega])) (by
  rintro ρ rfl
  have hl:=ZdT ns ns.length
  rw[show ns.length-(ns.length-V9 ns ns.length)=V9 ns ns.length by omega]
  walk_at "pd"
  by_cases h:0<V9 ns ns.length
  ·rw[decide_eq_true (by omega)]
   walk_at "pd"
   rw[show ((V9 ns ns.length:Nat):Int)-1=((V9 ns ns.length-1:Nat):Int) by omega,Z4e]
   rw[decide_eq_false (hl h)]
  ·rw[decide_eq_false (by omega)]
   walk_at "pd")
 walk_at "pd"
 rw[show ns.length-(ns.length-V9 ns ns.length)=V9 ns ns.length by omega]
 rfl
theorem Zwo{ns:List Int}(h:ns.length<=1000000):ZuJ.fn [.lst (ns.map PV.int)]=.ok (.lst ((ZcI ns).map PV.int)):=Pm.fn_eq ZuJ ns h fun(a:List Int) e=>by simp only[ZuJ] at e ⊢;walk_at "ij"
theorem VB:ZuJ.calm:=fun a q h=>by (simp only[ZuJ] at h;cases h)
noncomputable def Zvc:Pm:=⟨Unit,fun _=>[],fun _=>True,fun _=>.ok (.int (10^60))⟩
theorem ZyP(T:Txt w K mg){f:Addr}{fd:FuncData}(F:Fun K "most_marches" "most_marches" Zwv f fd):Jp P w K mg base CX0 1 f fd [] (spF K 0 .P W0 Zvc.fn):=by
 refine F.okP ZyL rfl rfl (fun cdv A outer s H E hr=>?_)
 have hu:=hr.units
 refine⟨_,_,⟨[],[],[],.P⟩,rfl,(Zo (Z8 (Jc Zk5 Zt Zt))),
   (ZZ (Zlv (DE.toA Zs) (DE.toA Zs))), ?_⟩
 refine Pm.ref Zvc (g:=fun xs=>_) ?_
 rintro _ _
 simp only[Zvc]
 walk_at "pd"
theorem Zzz:Zvc.fn []=.ok (.int (10^60)):=Pm.fn_eq Zvc () trivial fun _ _=>rfl
theorem Zd2:Zvc.calm:=fun a q h=>by (simp only[Zvc] at h;cases h)
noncomputable def lbX(l:List Int)(s:Int):Option Str:=match Ub l with
 |some x=>some x
 |none=>Zes s 0 (10^60)
noncomputable def Zv3:Pm:=⟨List Int×Int,fun a=>[.lst (a.1.map PV.int),.int a.2],fun a=>a.1.length<=1000/\lbX a.1 a.2≠none,fun a=>orX (lbX a.1 a.2) .non⟩
theorem Zzq(T:Txt w K mg){f:Addr}{fd:FuncData}(F:Fun K "line_behind" "line_behind" Zw9 f fd):Jp P w K mg base (CX1 P w) 5 f fd ["line", "steps"] (spF K 2 .F (W1 K) Zv3.fn):=by
 have ZxB:=ZV (P:=P) (w:=w) (base:=base) T.Zy6 Zyr (fun F=>Zyl T F)
 have Zv1:=ZV (P:=P) (w:=w) (base:=base) T.ZwE Zw1 (fun F=>Zw0 T F)
 have Zz8:=UE (P:=P) (w:=w) (base:=base) T.Zzt Zzb (fun F=>ZyP T F)
 refine F.okX Zxh rfl rfl (fun cdv A outer s H E hr=>?_)
 have hu:=hr.units
 refine⟨_,_,⟨[],[],[],.F⟩,rfl,(Zh (ZJ (Zu ZxB (hr.mono (by decide)) rfl Zw (Za (pv 0) Ze)))
   (Zh (ZJ (Zu Zv1 (hr.mono (by decide)) rfl Zw (Za (pv 1) (Za Zt (Za (QN Zz8 (hr.mono (by decide)) rfl) Ze)))))
   (Zh (Z7 (i:=2) Zxh.nd rfl (by first|exact Or.inl rfl|exact Or.inr rfl) (Jm (Us (K:=K)) rfl T.z_list V2 (Za (pv 0) Ze)))
   (Zh (Z7 (i:=3) Zxh.nd rfl (by first|exact Or.inl rfl|exact Or.inr rfl) (pv 1))
   ZN)))),
   (Zp (Γm:=[.S,.S,.U,.U]) (ZT (DE.toA (Ur (Zf Zn) (Zb (Zc (i:=0) (m:=.S) rfl (by decide)) Zd))))
   (Zp (Γm:=[.S,.S,.U,.U]) (ZT (DE.toA (Ur (Zf (Zf (Zf Zn))) (Zb (Zc (i:=1) (m:=.S) rfl (by decide)) (Zb (DE.toA Zs) (Zb (DE.toA (Zik Zn (Pm.calm_fn Zd2) Zd)) Zd))))))
   (Zp (Γm:=[.S,.S,.O,.U]) (Z6 (i:=2) (Zdn (Zb (Zc (i:=0) (m:=.S) rfl (by decide)) Zd)) (by decide))
   (Zp (Γm:=[.S,.S,.O,.P]) (Vm (i:=3) (DE.grd (Zc (i:=1) (m:=.S) rfl (by decide))) (by decide))
   Ja)))), ?_⟩
 refine Pm.ref Zv3 (g:=fun xs=>_) ?_
 rintro⟨l,s⟩ ⟨hb,h⟩
 simp only at hb h
 simp only[Zv3]
 unfold lbX at h ⊢
 walk_at "pd"
 rw[Zy8 (by omega)]
 cases hx:Ub l with
 |some x =>
  simp only[orX]
  walk_at "pd"
 |none =>
  rw[hx] at h
  simp only at h
  obtain⟨x,hy⟩:=Z3p.mp h
  simp only[orX]
  walk_at "pd"
  rw[Zzz]
  walk_at "pd"
  rw[ZwF,hy]
  walk_at "pd"
theorem Z0c{l:List Int}{s:Int}(h:l.length<=1000/\lbX l s≠none):Zv3.fn [.lst (l.map PV.int),.int s]=orX (lbX l s) .non:=Pm.fn_eq Zv3 (l,s) h fun(a:List Int×Int) e=>by simp only[Zv3] at e ⊢;walk_at "ij"
noncomputable def ZaI:List Int->Nat
 |[]=>0
 |x::xs=>if x=0 then ZaI xs+1 else 0
theorem ZhZ:∀l:List Int,ZaI l<=l.length
 |[]=>Z3u _
 |x::xs=>by
  unfold ZaI
  have:=ZhZ xs
  split<;>simp only[Z3t]<;>omega
theorem Zel:∀{l:List Int}{i:Nat},i<ZaI l->l.getD i 0=0
 |[],i,h=>by cases h
 |x::xs,i,h=>by
  unfold ZaI at h
  split at h
  ·rename_i e
   cases i with
   |zero=>simp[e]
   |succ i=>simpa using Zel (l:=xs) (i:=i) (by omega)
  ·omega
theorem Zia:∀{l:List Int},ZaI l<l.length->l.getD (ZaI l) 0≠0
 |[],h=>by cases h
 |x::xs,h=>by
  unfold ZaI at h ⊢
  by_cases e:x=0
  ·rw[if_pos e] at h ⊢
   simpa using Zia (l:=xs) (by simpa using h)
  ·rw[if_neg e];simpa using e
noncomputable def Vf(b:List Int):List Int:=ZcI (b.drop (ZaI b))
theorem Zek(b:List Int):(Vf b).length<=b.length:=by
 unfold Vf
 have h1:=ZcB (b.drop (ZaI b))
 have h2:=QI (b.drop (ZaI b)) (b.drop (ZaI b)).length
 rw[Z4A] at h1 h2
 omega
noncomputable def Zwc:Pm:=⟨List Int,fun b=>[.lst (b.map PV.int)],fun b=>b.length<=1000,fun b=>.ok (.lst ((Vf b).map PV.int))⟩
theorem ZzF(T:Txt w K mg){f:Addr}{fd:FuncData}(F:Fun K "as_line" "as_line" Zyi f fd):Jp P w K mg base CX0 2 f fd ["board"] (spF K 1 .F W0 Zwc.fn):=by
 have ZvC:=UE (P:=P) (w:=w) (base:=base) T.Zwn Zwk (fun F=>Zwj T F)
 refine F.okP Zyu rfl rfl (fun cdv A outer s H E hr=>?_)
 have hu:=hr.units
 refine⟨_,_,⟨[],[],[],.F⟩,rfl,(Zh (Z7 (i:=1) Zyu.nd rfl (by first|exact Or.inl rfl|exact Or.inr rfl) Zt)
   (Zh (Ze4 PassesOwn.never (PW.pt (U8 (Z3 ZiK (pv 1) (Zv (ZA (K:=K)) rfl T.z_len Jo (Za (pv 0) Ze)) (Z9 _)) (VO (Z3 (JI (K:=K) hu) (JM (ZW (K:=K)) (pv 0) (pv 1) (fun _ _=>rfl)) Zt (Z9 _))))) (Zo (ZnM (i:=1) Zyu.nd rfl (by first|exact Or.inl rfl|exact Or.inr rfl) Zt Zr0)))
   (Zo (Z8 (ZK ZvC (hr.mono (by decide)) rfl (Za (Ul (QK (K:=K)) (pv 0) (ZbF (pv 1)) ZbG) Ze)))))),
   (Zp (Γm:=[.S,.P]) (Vm (i:=1) Zs (by decide))
   (Zp (Γm:=[.S,.P]) (ZeL (Γ:=[.S,.P]) (U9 (Z1 (DE.toA (Zjm (DE.toA (Jb (i:=1) rfl)) (DE.toA (J1 (Zb (Zc (i:=0) (m:=.S) rfl (by decide)) Zd)))))) (Z1 (DE.toA (Jn (g:=id) (Jx (te:=tC .non) (Zc (i:=0) (m:=.S) rfl (by decide)) (DE.toA (Jb (i:=1) rfl))) (DE.toA Zs)))))
   (Zlp (i:=1) rfl (DE.toA Zs)))
   (Jf (Zs7 (Zf Zn) (Zb (DE.toA (ZfT (Zc (i:=0) (m:=.S) rfl (by decide)) (Zc9 (DE.toA (Jb (i:=1) rfl))) ZcA)) Zd))))), ?_⟩
 refine Pm.ref Zwc (g:=fun xs=>_) ?_
 rintro(b:List Int) (hb:b.length<=1000)
 simp only[Zwc]
 have hle:=ZhZ b
 walk_at "pd"
 generalize hw:QH _ _ _=W
 obtain⟨ρ',rfl,rfl⟩:=Zdp hw (ZaI b) (fun k ρ=>ρ=[.lst (b.map PV.int),.int (k:Nat)]) rfl (by
  rintro k ρ hk rfl
  have hz:=Zel hk
  constructor
  ·walk_at "pd"
   rw[decide_eq_true (by omega)]
   walk_at "pd"
   rw[Z4e,hz]
   walk_at "pd"
  ·walk_at "pd"
   exact Zf4 (by rw[show (k:Int)+1=((k+1:Nat):Int) by omega])) (by
  rintro ρ rfl
  walk_at "pd"
  by_cases h:ZaI b<b.length
  ·rw[decide_eq_true (by omega)]
   walk_at "pd"
   rw[Z4e,decide_eq_false (Zia h)]
  ·rw[decide_eq_false (by omega)]
   walk_at "pd")
 walk_at "pd"
 rw[Z4e,Zwo (by rw[Z4A];omega)]
 walk_at "pd"
 rfl
theorem Z0N{b:List Int}(h:b.length<=1000):Zwc.fn [.lst (b.map PV.int)]=.ok (.lst ((Vf b).map PV.int)):=Pm.fn_eq Zwc b h fun(a:List Int) e=>by simp only[Zwc] at e ⊢;walk_at "ij"
theorem Zeh:Zwc.calm:=fun a q h=>by (simp only[Zwc] at h;cases h)
noncomputable def Zvi:Pm:=⟨List Int×List Int,fun a=>[.lst (a.1.map PV.int),.lst (a.2.map PV.int)],fun a=>(Jq a.1/\a.2.length=1)/\lbX (Vf a.1) (a.2.getD 0 0)≠none,fun a=>orX (lbX (Vf a.1) (a.2.getD 0 0)) .non⟩
theorem ZzR(T:Txt w K mg){f:Addr}{fd:FuncData}(F:Fun K "tell_march" "tell_march" ZwT f fd):Jp P w K mg base (CX1 P w) 6 f fd ["board", "numbers"] (spF K 2 .F (W1 K) Zvi.fn):=by
 have Z0o:=ZV (P:=P) (w:=w) (base:=base) T.ZzZ Zz5 (fun F=>Zzq T F)
 have Zzh:=UE (P:=P) (w:=w) (base:=base) T.Z0E ZzH (fun F=>ZzF T F)
 refine F.okX ZzI rfl rfl (fun cdv A outer s H E hr=>?_)
 have hu:=hr.units
 refine⟨_,_,⟨[],[],[],.F⟩,rfl,(Zo (Z8 (Z2 (Za Zj (Za (Zu Z0o (hr.mono (by decide)) rfl Zw (Za (ZK Zzh (hr.mono (by decide)) rfl (Za (pv 0) Ze)) (Za (JM (ZW (K:=K)) (pv 1) Zt (fun _ _=>rfl)) Ze))) Ze))))),
   (Jf (V1 (Zk (DE.PF Zi) (Zk (Zfa (Zf (Zf Zn)) (Zb (DE.toA (ZrC (Zf Zn) (Pm.calm_fn Zeh) (Zb (Zc (i:=0) (m:=.S) rfl (by decide)) Zd))) (Zb (Jx (te:=tC .non) (Zc (i:=1) (m:=.S) rfl (by decide)) (DE.toA Zs)) Zd))) ZU)))), ?_⟩
 refine Pm.ref Zvi (g:=fun xs=>_) ?_
 rintro⟨b,ns⟩ ⟨⟨hb,hk⟩,h⟩
 simp only at hb hk h
 simp only[Zvi]
 have hl:b.length<=1000:=by have:=hb.hi;omega
 obtain⟨x,hx⟩:=Z3p.mp h
 walk_at "pd"
 have hq:=Zek b
 rw[Z0N hl]
 walk_at "pd"
 rw[Z0c ⟨by omega,h⟩,hx]
 walk_at "pd"
theorem Z0H{b ns:List Int}(h:(Jq b/\ns.length=1)/\lbX (Vf b) (ns.getD 0 0)≠none):Zvi.fn [.lst (b.map PV.int),.lst (ns.map PV.int)]=orX (lbX (Vf b) (ns.getD 0 0)) .non:=Pm.fn_eq Zvi (b,ns) h fun(a:List Int×List Int) e=>by simp only[Zvi] at e ⊢;walk_at "ij"
noncomputable def Zws:Pm:=⟨List Int,fun a=>[.lst (a.map PV.int)],fun a=>a.length<=1000/\Ub a≠none,fun a=>orX (Ub a) .non⟩
theorem Z1s(T:Txt w K mg){f:Addr}{fd:FuncData}(F:Fun K "comes_to" "comes_to" ZxI f fd):Jp P w K mg base (CX1 P w) 5 f fd ["line"] (spF K 1 .F (W1 K) Zws.fn):=by
 have ZxB:=ZV (P:=P) (w:=w) (base:=base) T.Zy6 Zyr (fun F=>Zyl T F)
 refine F.okX ZxT rfl rfl (fun cdv A outer s H E hr=>?_)
 have hu:=hr.units
 refine⟨_,_,⟨[],[],[],.F⟩,rfl,(Zh (ZJ (Zu ZxB (hr.mono (by decide)) rfl Zw (Za (pv 0) Ze)))
   (Zh (Z7 (i:=1) ZxT.nd rfl (by first|exact Or.inl rfl|exact Or.inr rfl) Zt)
   (Zh (Z7 (i:=2) ZxT.nd rfl (by first|exact Or.inl rfl|exact Or.inr rfl) (Jm (Us (K:=K)) rfl T.z_list V2 (Za (pv 0) Ze)))
   ZN))),
   (Zp (Γm:=[.S,.U,.U]) (ZT (DE.toA (Ur (Zf Zn) (Zb (Zc (i:=0) (m:=.S) rfl (by decide)) Zd))))
   (Zp (Γm:=[.S,.P,.U]) (Vm (i:=1) Zs (by decide))
   (Zp (Γm:=[.S,.P,.O]) (Z6 (i:=2) (Zdn (Zb (Zc (i:=0) (m:=.S) rfl (by decide)) Zd)) (by decide))
   Ja))), ?_⟩
 refine Pm.ref Zws (g:=fun xs=>_) ?_
 rintro(l:List Int) ⟨hb,h⟩
 simp only[Zws]
 obtain⟨x,hx⟩:=Z3p.mp h
 walk_at "pd"
 rw[Zy8 (by omega),hx]
 walk_at "pd"
theorem Z2s{l:List Int}(h:l.length<=1000/\Ub l≠none):Zws.fn [.lst (l.map PV.int)]=orX (Ub l) .non:=Pm.fn_eq Zws l h fun(a:List Int) e=>by simp only[Zws] at e ⊢;walk_at "ij"
noncomputable def ZuO:Pm:=⟨List Int×List Int,fun a=>[.lst (a.1.map PV.int),.lst (a.2.map PV.int)],fun a=>(Jq a.1/\a.2.length=0)/\Ub (Vf a.1)≠none,fun a=>orX (Ub (Vf a.1)) .non⟩
theorem ZyB(T:Txt w K mg){f:Addr}{fd:FuncData}(F:Fun K "tell_marching" "tell_marching" Zwe f fd):Jp P w K mg base (CX1 P w) 6 f fd ["board", "numbers"] (spF K 2 .F (W1 K) ZuO.fn):=by
 have Z25:=ZV (P:=P) (w:=w) (base:=base) T.Z2l Z1H (fun F=>Z1s T F)
 have Zzh:=UE (P:=P) (w:=w) (base:=base) T.Z0E ZzH (fun F=>ZzF T F)
 refine F.okX Zxz rfl rfl (fun cdv A outer s H E hr=>?_)
 have hu:=hr.units
 refine⟨_,_,⟨[],[],[],.F⟩,rfl,(Zh (Z7 (i:=2) Zxz.nd rfl (by first|exact Or.inl rfl|exact Or.inr rfl) (Zu Z25 (hr.mono (by decide)) rfl Zw (Za (ZK Zzh (hr.mono (by decide)) rfl (Za (pv 0) Ze)) Ze)))
   ZN),
   (Zp (Γm:=[.S,.S,.O]) (Z6 (i:=2) (Zfa (Zf Zn) (Zb (DE.toA (ZrC (Zf Zn) (Pm.calm_fn Zeh) (Zb (Zc (i:=0) (m:=.S) rfl (by decide)) Zd))) Zd)) (by decide))
   Ja), ?_⟩
 refine Pm.ref ZuO (g:=fun xs=>_) ?_
 rintro⟨b,ns⟩ ⟨⟨hb,hk⟩,h⟩
 simp only at hb hk h
 simp only[ZuO]
 have hl:b.length<=1000:=by have:=hb.hi;omega
 obtain⟨x,hx⟩:=Z3p.mp h
 walk_at "pd"
 have hq:=Zek b
 rw[Z0N hl]
 walk_at "pd"
 rw[Z2s ⟨by omega,h⟩,hx]
 walk_at "pd"
theorem ZyX{b ns:List Int}(h:(Jq b/\ns.length=0)/\Ub (Vf b)≠none):ZuO.fn [.lst (b.map PV.int),.lst (ns.map PV.int)]=orX (Ub (Vf b)) .non:=Pm.fn_eq ZuO (b,ns) h fun(a:List Int×List Int) e=>by simp only[ZuO] at e ⊢;walk_at "ij"
noncomputable def V8(ns:List Int):Option Str:=if Ziz ns then none else some "BadYard"
noncomputable def ZvN:Pm:=⟨List Int,fun ns=>[.lst (ns.map PV.int)],fun ns=>ns.length<=1000000,fun ns=>orX (V8 ns) .non⟩
theorem ZzW(T:Txt w K mg){f:Addr}{fd:FuncData}(F:Fun K "check_yard" "check_yard" ZwZ f fd):Jp P w K mg base (CX1 P w) 4 f fd ["yard"] (spF K 1 .P (W1 K) ZvN.fn):=by
 have ZuT:=UE (P:=P) (w:=w) (base:=base) T.ZvG ZvB (fun F=>ZvA T F)
 obtain⟨C_BadYard,hC_BadYard,hQ_BadYard⟩:=J2 T.x_exc (n := "BadYard") (by decide)
 refine F.okX ZzN rfl rfl (fun cdv A outer s H E hr=>?_)
 have hu:=hr.units
 refine⟨_,_,⟨[.S],[],[],.P⟩,rfl,(Zh (Jz (PW.pt (UC (Vy (JJ (ZK ZuT (hr.mono (by decide)) rfl (Za (pv 0) Ze)))) (UC (Z3 Uu (Zv (ZA (K:=K)) rfl T.z_len Jo (Za (pv 0) Ze)) (Jw T.c_MOST_YARD_PITS rfl) (Z9 _)) (V6 (Z3 Uu (Zv (Vj (K:=K) rfl) rfl T.z_sum ZcH (Za (pv 0) Ze)) (Jw T.c_MOST_YARD_SEEDS rfl) (Z9 _)))))) (Zo (Ji JG hQ_BadYard rfl (T.x_mg _ _ hC_BadYard) rfl (Za Zj Ze))) ZH)
   (Zo (Jz (PW.pt (U8 (Z3 Uu (Zv (ZA (K:=K)) rfl T.z_len Jo (Za (pv 0) Ze)) Zt (Z9 _)) (VO (Z3 (JI (K:=K) hu) (JM (ZW (K:=K)) (pv 0) (ZiD ZdR Zt) (fun _ _=>rfl)) Zt (Z9 _))))) (Zo (Ji JG hQ_BadYard rfl (T.x_mg _ _ hC_BadYard) rfl (Za Zj Ze))) ZH))),
   (Zp (Γm:=[.S]) (J0 (QE (V0 (ZcF (DE.toA (Zik (Zf Zn) (Pm.calm_fn Ve) (Zb (Zc (i:=0) (m:=.S) rfl (by decide)) Zd))))) (QE (Z1 (DE.toA (U7 (DE.toA (J1 (Zb (Zc (i:=0) (m:=.S) rfl (by decide)) Zd))) (DE.toA Zs)))) (Z1 (DE.toA (U7 (DE.toA (ZcG (Zb (Zc (i:=0) (m:=.S) rfl (by decide)) Zd))) (DE.toA Zs))))))
   (Jj hC_BadYard (Zf Zn) (by decide) (Zb (DE.toA Zi) Zd))
   ZI)
   (J0 (U9 (Z1 (DE.toA (U7 (DE.toA (J1 (Zb (Zc (i:=0) (m:=.S) rfl (by decide)) Zd))) (DE.toA Zs)))) (Z1 (DE.toA (Jn (g:=id) (Jx (te:=tC .non) (Zc (i:=0) (m:=.S) rfl (by decide)) (DE.toA (Zep (DE.toA Zs)))) (DE.toA Zs)))))
   (Jj hC_BadYard (Zf Zn) (by decide) (Zb (DE.toA Zi) Zd))
   ZI)), ?_⟩
 refine Pm.ref ZvN (g:=fun xs=>_) ?_
 intro (ns:List Int) (hn:ns.length<=1000000)
 simp only[ZvN]
 walk_at "pd"
 rw[ZvH hn]
 walk_at "pd"
 by_cases h1:∀x∈ns,0<=x
 ·rw[decide_eq_true h1]
  walk_at "pd"
  by_cases h2:ns.length<=200
  ·rw[decide_eq_false (by omega)]
   walk_at "pd"
   by_cases h3:ns.sum<=10000
   ·rw[decide_eq_false (by omega)]
    walk_at "pd"
    by_cases h4:ns=[]
    ·subst h4
     walk_at "pd"
     rw[show V8 []=none from if_pos ⟨by simp,by simp,by simp,.inl rfl⟩]
     rfl
    ·have hl:0<ns.length:=Z4i.mpr h4
     rw[decide_eq_true (by omega)]
     walk_at "pd"
     rw[ZhO h4]
     walk_at "pd"
     by_cases h5:ns.getD (ns.length-1) 0=0
     ·rw[decide_eq_true h5,show V8 ns=(some "BadYard":Option Str) from if_neg (fun z=>by rcases z.2.2.2 with z|z<;>contradiction)]
      walk_at "pd" <;> rfl
     ·rw[decide_eq_false h5,show V8 ns=none from if_pos ⟨h1,h2,h3,.inr h5⟩]
      walk_at "pd" <;> rfl
   ·rw[decide_eq_true (by omega),show V8 ns=(some "BadYard":Option Str) from if_neg (fun z=>h3 z.2.2.1)];walk_at "pd" <;> rfl
  ·rw[decide_eq_true (by omega),show V8 ns=(some "BadYard":Option Str) from if_neg (fun z=>h2 z.2.1)];walk_at "pd" <;> rfl
 ·rw[decide_eq_false h1,show V8 ns=(some "BadYard":Option Str) from if_neg (fun z=>h1 z.1)];walk_at "pd" <;> rfl
theorem Z0M{ns:List Int}(h:ns.length<=1000000):ZvN.fn [.lst (ns.map PV.int)]=orX (V8 ns) .non:=Pm.fn_eq ZvN ns h fun(a:List Int) e=>by simp only[ZvN] at e ⊢;walk_at "ij"
noncomputable def Zvq:Pm:=⟨List Int,fun a=>[.lst (a.map PV.int)],fun a=>a.length<=1000/\V8 a≠none,fun a=>orX (V8 a) .non⟩
theorem ZyT(T:Txt w K mg){f:Addr}{fd:FuncData}(F:Fun K "brought_home" "brought_home" Zwz f fd):Jp P w K mg base (CX1 P w) 5 f fd ["yard"] (spF K 1 .F (W1 K) Zvq.fn):=by
 have Z1f:=ZV (P:=P) (w:=w) (base:=base) T.Z0D Z0k (fun F=>ZzW T F)
 refine F.okX ZyN rfl rfl (fun cdv A outer s H E hr=>?_)
 have hu:=hr.units
 refine⟨_,_,⟨[],[],[],.F⟩,rfl,(Zh (ZJ (Zu Z1f (hr.mono (by decide)) rfl Zw (Za (pv 0) Ze)))
   ZN),
   (Zp (Γm:=[.S,.U,.U]) (ZT (DE.toA (Ur (Zf Zn) (Zb (Zc (i:=0) (m:=.S) rfl (by decide)) Zd))))
   Ja), ?_⟩
 refine Pm.ref Zvq (g:=fun xs=>_) ?_
 rintro(l:List Int) ⟨hb,h⟩
 simp only[Zvq]
 obtain⟨x,hx⟩:=Z3p.mp h
 walk_at "pd"
 rw[Z0M (by omega),hx]
 walk_at "pd"
theorem Zz3{l:List Int}(h:l.length<=1000/\V8 l≠none):Zvq.fn [.lst (l.map PV.int)]=orX (V8 l) .non:=Pm.fn_eq Zvq l h fun(a:List Int) e=>by simp only[Zvq] at e ⊢;walk_at "ij"
noncomputable def Zvt:Pm:=⟨List Int×List Int,fun a=>[.lst (a.1.map PV.int),.lst (a.2.map PV.int)],fun a=>(Jq a.1/\a.2.length=0)/\V8 (ZcI a.1)≠none,fun a=>orX (V8 (ZcI a.1)) .non⟩
theorem Z0y(T:Txt w K mg){f:Addr}{fd:FuncData}(F:Fun K "tell_home" "tell_home" Zxn f fd):Jp P w K mg base (CX1 P w) 6 f fd ["board", "numbers"] (spF K 2 .F (W1 K) Zvt.fn):=by
 have ZzC:=ZV (P:=P) (w:=w) (base:=base) T.Zzx Zzf (fun F=>ZyT T F)
 have ZvC:=UE (P:=P) (w:=w) (base:=base) T.Zwn Zwk (fun F=>Zwj T F)
 refine F.okX Z0r rfl rfl (fun cdv A outer s H E hr=>?_)
 have hu:=hr.units
 refine⟨_,_,⟨[],[],[],.F⟩,rfl,(Zo (Z8 (Zu ZzC (hr.mono (by decide)) rfl Zw (Za (ZK ZvC (hr.mono (by decide)) rfl (Za (pv 0) Ze)) Ze)))),
   (Jf (Zfa (Zf Zn) (Zb (DE.toA (ZrC (Zf Zn) (Pm.calm_fn VB) (Zb (Zc (i:=0) (m:=.S) rfl (by decide)) Zd))) Zd))), ?_⟩
 refine Pm.ref Zvt (g:=fun xs=>_) ?_
 rintro⟨b,ns⟩ ⟨⟨hb,hk⟩,h⟩
 simp only at hb hk h
 simp only[Zvt]
 have hl:b.length<=1000:=by have:=hb.hi;omega
 obtain⟨x,hx⟩:=Z3p.mp h
 walk_at "pd"
 have hq:=ZcB b
 have hq2:=QI b b.length
 rw[Zwo (by omega)]
 walk_at "pd"
 rw[Zz3 ⟨by omega,h⟩,hx]
 walk_at "pd"
theorem Z14{b ns:List Int}(h:(Jq b/\ns.length=0)/\V8 (ZcI b)≠none):Zvt.fn [.lst (b.map PV.int),.lst (ns.map PV.int)]=orX (V8 (ZcI b)) .non:=Pm.fn_eq Zvt (b,ns) h fun(a:List Int×List Int) e=>by simp only[Zvt] at e ⊢;walk_at "ij"
noncomputable def Zwa:Pm:=⟨Int,fun a=>[.int a],fun a=>True/\Zes a 0 10000≠none,fun a=>orX (Zes a 0 10000) .non⟩
theorem Z04(T:Txt w K mg){f:Addr}{fd:FuncData}(F:Fun K "home_yard" "home_yard" Zxt f fd):Jp P w K mg base (CX1 P w) 4 f fd ["seeds"] (spF K 1 .F (W1 K) Zwa.fn):=by
 have Zv1:=ZV (P:=P) (w:=w) (base:=base) T.ZwE Zw1 (fun F=>Zw0 T F)
 refine F.okX Z0t rfl rfl (fun cdv A outer s H E hr=>?_)
 have hu:=hr.units
 refine⟨_,_,⟨[],[],[],.F⟩,rfl,(Zh (ZJ (Zu Zv1 (hr.mono (by decide)) rfl Zw (Za (pv 0) (Za Zt (Za (Jw T.c_MOST_YARD_SEEDS rfl) Ze)))))
   ZN),
   (Zp (Γm:=[.S]) (ZT (DE.toA (Ur (Zf (Zf (Zf Zn))) (Zb (Zc (i:=0) (m:=.S) rfl (by decide)) (Zb (DE.toA Zs) (Zb (DE.toA Zs) Zd))))))
   Ja), ?_⟩
 refine Pm.ref Zwa (g:=fun xs=>_) ?_
 rintro(s:Int) ⟨hb,h⟩
 simp only[Zwa]
 obtain⟨x,hx⟩:=Z3p.mp h
 walk_at "pd"
 rw[ZwF,hx]
 walk_at "pd"
theorem Z19{s:Int}(h:True/\Zes s 0 10000≠none):Zwa.fn [.int s]=orX (Zes s 0 10000) .non:=Pm.fn_eq Zwa s h fun(a:Int) e=>by simp only[Zwa] at e ⊢;walk_at "ij"
noncomputable def Zvk:Pm:=⟨List Int×List Int,fun a=>[.lst (a.1.map PV.int),.lst (a.2.map PV.int)],fun a=>(Jq a.1/\a.2.length=0)/\Zes a.1.sum 0 10000≠none,fun a=>orX (Zes a.1.sum 0 10000) .non⟩
theorem ZzT(T:Txt w K mg){f:Addr}{fd:FuncData}(F:Fun K "tell_homes" "tell_homes" ZwV f fd):Jp P w K mg base (CX1 P w) 5 f fd ["board", "numbers"] (spF K 2 .F (W1 K) Zvk.fn):=by
 have Z1P:=ZV (P:=P) (w:=w) (base:=base) T.Z10 Z0X (fun F=>Z04 T F)
 refine F.okX ZzK rfl rfl (fun cdv A outer s H E hr=>?_)
 have hu:=hr.units
 refine⟨_,_,⟨[],[],[],.F⟩,rfl,(Zo (Z8 (Z2 (Za Zj (Za (Zu Z1P (hr.mono (by decide)) rfl Zw (Za (Zv (Vj (K:=K) rfl) rfl T.z_sum ZcH (Za (pv 0) Ze)) Ze)) Ze))))),
   (Jf (V1 (Zk (DE.PF Zi) (Zk (Zfa (Zf Zn) (Zb (DE.toA (ZcG (Zb (Zc (i:=0) (m:=.S) rfl (by decide)) Zd))) Zd)) ZU)))), ?_⟩
 refine Pm.ref Zvk (g:=fun xs=>_) ?_
 rintro⟨b,ns⟩ ⟨⟨hb,hk⟩,h⟩
 simp only at hb hk h
 simp only[Zvk]
 have hl:b.length<=1000:=by have:=hb.hi;omega
 obtain⟨x,hx⟩:=Z3p.mp h
 walk_at "pd"
 rw[Z19 ⟨trivial,h⟩,hx]
 walk_at "pd"
theorem Z0J{b ns:List Int}(h:(Jq b/\ns.length=0)/\Zes b.sum 0 10000≠none):Zvk.fn [.lst (b.map PV.int),.lst (ns.map PV.int)]=orX (Zes b.sum 0 10000) .non:=Pm.fn_eq Zvk (b,ns) h fun(a:List Int×List Int) e=>by simp only[Zvk] at e ⊢;walk_at "ij"
noncomputable def Zft(e:Bool):List Str->Nat->Option (List Int)
 |[],_=>some []
 |t::ts,i=>match rdN t (e&&i==1) with
  |none=>none
  |some n=>match Zft e ts (i+1) with
   |none=>none
   |some ns=>some (n::ns)
noncomputable def ZeX(b:List Int)(w:Str)(ns:List Int):Option Str:=
 if w = "sow"\/w = "back" then stX b (ns.getD 0 0) else if w = "on" then goX b (ns.getD 0 0) (ns.getD 1 0) else if w = "round" then rcX b (ns.getD 0 0) 20000 else if w = "gather" then gaX b (ns.getD 0 0)
 else if w = "to" then waX b ns else if w = "least" then leX b ns else if w = "ends"\/w = "wins"\/w = "longest" then J5 b ns else if w = "march" then lbX (Vf b) (ns.getD 0 0) else if w = "marching" then Ub (Vf b)
 else if w = "home" then V8 (ZcI b) else if w = "homes" then Zes b.sum 0 10000 else none
noncomputable def ZjG(b:List Int)(w:Str)(ts:List Str):Option Str:=if (JX.contains w&&Zgj b w ts.length)=true then match Zft (w==("on":Str)) ts 0 with
 |none=>some "BadText"
 |some ns=>ZeX b w ns
 else some "BadText"
theorem Zfs{e:Bool}:∀{ts:List Str}{i:Nat}{ns:List Int},Zft e ts i=some ns->ns.length=ts.length
 |[],_,_,h=>by cases h;rfl
 |t::ts,i,ns,h=>by
  unfold Zft at h
  split at h
  ·cases h
  ·split at h
   ·cases h
   ·rename_i q
    cases h
    simp[Zfs q]
theorem ZjU{lo:Int}{n:Nat}:Ze0 lo (n+1)=.int lo::Ze0 (lo+1) n:=by
 unfold Ze0
 rw[List.range_succ_eq_map]
 simp only[Z31,Z4x,List.cons.injEq,PV.int.injEq]
 refine⟨by simp,Z4N fun x _=>?_⟩
 simp only[Function.comp,PV.int.injEq];omega
theorem ZkM{f:PV->Rr PV}{e:Bool}:∀(ts:List Str) (i:Nat),(∀j t,ts[j]?=some t->f (.int ((i+j:Nat):Int))=rdP (rdN t (e&&(i+j)==1)))->Zf8 f (Ze0 i ts.length)=match Zft e ts i with
  |none=>.exc ("BadText",.non)
  |some ns=>.ok (ns.map PV.int)
 |[],i,_=>rfl
 |t::ts,i,h=>by
  have h0:=h 0 t rfl
  have ih:=ZkM (f:=f) (e:=e) ts (i+1) fun j t q=>by
   have:=h (j+1) t q
   rw[show i+(j+1)=i+1+j by omega] at this
   exact this
  rw[Z3t,ZjU]
  unfold Zf8 Zft
  rw[show (i:Int)=((i+0:Nat):Int) by simp,h0,show ((i+0:Nat):Int)+1=((i+1:Nat):Int) by simp,ih,Nat.add_zero]
  cases rdN t (e&&i==1) with
  |none=>rfl
  |some n =>
   simp only[rdP]
   cases Zft e ts (i+1) with
   |none=>rfl
   |some ns=>rfl
structure ZlQ(b:List Int)(w:Str)(ts:List Str):Prop where
 bd:Jq b
 lw:Vw w
 lt:∀t∈ts,(Vw t/\Vw (StrLaws.sliceText t (some 1) none))/\t.length<=1000
 len:ts.length<=1000
 x:ZjG b w ts≠none
local macro_rules | `(tactic| walk_at "ak")=>`(tactic| ((first|unfold ZeX|unfold Zgj);repeat (first|rw[if_pos (by decide)]|rw[if_neg (by decide)])))
noncomputable def Zyv:Pm:=⟨List Int×Str×List Str,fun a=>[.lst (a.1.map PV.int),.str a.2.1,.lst (a.2.2.map PV.str)],fun a=>ZlQ a.1 a.2.1 a.2.2,fun a=>orX (ZjG a.1 a.2.1 a.2.2) .non⟩
theorem Z3a(T:Txt w K mg){f:Addr}{fd:FuncData}(F:Fun K "tell" "tell" Z1R f fd):Jp P w K mg base (CX1 P w) 10 f fd ["board", "word", "texts"] (spF K 3 .F (W1 K) Zyv.fn):=by
 have Z0n:=ZV (P:=P) (w:=w) (base:=base) T.Zym ZxQ (fun F=>Zzp T F)
 have Z22:=UE (P:=P) (w:=w) (base:=base) T.Z2i Z1E (fun F=>Z1p T F)
 have Z1J:=ZV (P:=P) (w:=w) (base:=base) T.Z1u Z0Q (fun F=>Z0x T F)
 have Z1M:=ZV (P:=P) (w:=w) (base:=base) T.Z1x Z0T (fun F=>Z00 T F)
 have Z2P:=ZV (P:=P) (w:=w) (base:=base) T.Z2B Z2u (fun F=>Z1Z T F)
 have Z0Z:=ZV (P:=P) (w:=w) (base:=base) T.Z06 Z0e (fun F=>ZzQ T F)
 have Z0m:=ZV (P:=P) (w:=w) (base:=base) T.ZzY Zz4 (fun F=>Zzo T F)
 have Z2O:=ZV (P:=P) (w:=w) (base:=base) T.Z2A Z2t (fun F=>Z1Y T F)
 have Z1b:=ZV (P:=P) (w:=w) (base:=base) T.Z08 Z0g (fun F=>ZzS T F)
 have Z1L:=ZV (P:=P) (w:=w) (base:=base) T.Z1w Z0S (fun F=>Z0z T F)
 have Z1I:=ZV (P:=P) (w:=w) (base:=base) T.Z1t Z0P (fun F=>Z0w T F)
 have Zz7:=ZV (P:=P) (w:=w) (base:=base) T.Zzs Zza (fun F=>ZyO T F)
 have Z1a:=ZV (P:=P) (w:=w) (base:=base) T.Z07 Z0f (fun F=>ZzR T F)
 have Zzg:=ZV (P:=P) (w:=w) (base:=base) T.ZyU ZyF (fun F=>ZyB T F)
 have Z1K:=ZV (P:=P) (w:=w) (base:=base) T.Z1v Z0R (fun F=>Z0y T F)
 have Z1c:=ZV (P:=P) (w:=w) (base:=base) T.Z09 Z0h (fun F=>ZzT T F)
 obtain⟨C_BadText,hC_BadText,hQ_BadText⟩:=J2 T.x_exc (n := "BadText") (by decide)
 refine F.okX Z27 rfl rfl (fun cdv A outer s H E hr=>?_)
 have hu:=hr.units
 refine⟨_,_,⟨[],[],[],.F⟩,rfl,(Zh (Jz (PW.pt (UC (Zkd (Zkm T.t_TELLERS rfl (pv 1))) (V6 (Vy (JJ (ZK Z22 (hr.mono (by decide)) rfl (Za (pv 0) (Za (pv 1) (Za (Zv (ZA (K:=K)) rfl T.z_len Jo (Za (pv 2) Ze)) Ze))))))))) (Zo (Ji JG hQ_BadText rfl (T.x_mg _ _ hC_BadText) rfl (Za Zj Ze))) ZH)
   (Zh (Zgz (i:=3) Z27.nd rfl (QM rfl T.z_range (Za (Zv (ZA (K:=K)) rfl T.z_len Jo (Za (pv 2) Ze)) Ze)) (fun _ _ _ _=>(Zu Z0n (hr.mono (by decide)) rfl Zmu (Za (JM (ZW (K:=K)) (pv 2) (pv 4) (fun _ _=>rfl)) (Za (Zeg (JZ (JI (K:=K) hu) (pv 1) Zj (Z9 _)) (Zd0 (JZ (JI (K:=K) hu) (pv 4) Zt (Z9 _)))) Ze)))) rfl)
   (Zo (Z8 (ZqQ T.t_TELLERS (JH (x := "sow") (nf := "tell_sown") (by decide) Z1J (hr.mono (by decide)) (JH (x := "back") (nf := "tell_back") (by decide) Z1M (hr.mono (by decide)) (JH (x := "on") (nf := "tell_on") (by decide) Z2P (hr.mono (by decide)) (JH (x := "round") (nf := "tell_round") (by decide) Z0Z (hr.mono (by decide)) (JH (x := "gather") (nf := "tell_gather") (by decide) Z0m (hr.mono (by decide)) (JH (x := "to") (nf := "tell_to") (by decide) Z2O (hr.mono (by decide)) (JH (x := "least") (nf := "tell_least") (by decide) Z1b (hr.mono (by decide)) (JH (x := "ends") (nf := "tell_ends") (by decide) Z1L (hr.mono (by decide)) (JH (x := "wins") (nf := "tell_wins") (by decide) Z1I (hr.mono (by decide)) (JH (x := "longest") (nf := "tell_longest") (by decide) Zz7 (hr.mono (by decide)) (JH (x := "march") (nf := "tell_march") (by decide) Z1a (hr.mono (by decide)) (JH (x := "marching") (nf := "tell_marching") (by decide) Zzg (hr.mono (by decide)) (JH (x := "home") (nf := "tell_home") (by decide) Z1K (hr.mono (by decide)) (JH (x := "homes") (nf := "tell_homes") (by decide) Z1c (hr.mono (by decide)) ZoI)))))))))))))) rfl Zw (pv 1) (fun _ _=>rfl) (Za (pv 0) (Za (pv 3) Ze))))))),
   (Zp (Γm:=[.S,.S,.S,.U]) (J0 (QE (ZcF (DE.toA (Zno (ws:=JX) (g:=(!·)) (Zc (i:=1) (m:=.S) rfl (by decide))))) (V0 (ZcF (DE.toA (Zik (Zf (Zf (Zf Zn))) (Pm.calm_fn Zg1) (Zb (Zc (i:=0) (m:=.S) rfl (by decide)) (Zb (Zc (i:=1) (m:=.S) rfl (by decide)) (Zb (DE.toA (J1 (Zb (Zc (i:=2) (m:=.S) rfl (by decide)) Zd))) Zd))))))))
   (Jj hC_BadText (Zf Zn) (by decide) (Zb (DE.toA Zi) Zd))
   ZI)
   (Zp (Γm:=[.S,.S,.S,.O]) (ZdD (i:=3) (Va (DI.c (ZeM (Zb (DE.toA (J1 (Zb (Zc (i:=2) (m:=.S) rfl (by decide)) Zd))) Zd))) (DE.PF (Ur (Zf (Zf Zn)) (Zb (Jx (te:=tC .non) (Zc (i:=2) (m:=.S) rfl (by decide)) (Zc (i:=4) (m:=.S) rfl (by decide))) (Zb (DE.toA (Zer (DE.toA (Jn (g:=id) (Zc (i:=1) (m:=.S) rfl (by decide)) (DE.toA Zi))) (Jn (g:=id) (Zc (i:=4) (m:=.S) rfl (by decide)) (DE.toA Zs)))) Zd))))) (by decide))
   (Jf (ZpB (M:=[("sow",Zvs.fn),("back",Zvv.fn),("on",ZvY.fn),("round",Zvh.fn),("gather",ZuY.fn),("to",ZvX.fn),("least",Zvj.fn),("ends",Zvu.fn),("wins",Zvr.fn),("longest",ZuR.fn),("march",Zvi.fn),("marching",ZuO.fn),("home",Zvt.fn),("homes",Zvk.fn)]) (Zf (Zf Zn)) (Zc (i:=1) (m:=.S) rfl (by decide)) (Zb (Zc (i:=0) (m:=.S) rfl (by decide)) (Zb (Zc (i:=3) (m:=.O) rfl (by decide)) Zd)))))), ?_⟩
 refine Pm.ref Zyv (g:=fun xs=>_) ?_
 rintro⟨b,w,ts⟩ (h:ZlQ b w ts)
 simp only[Zyv]
 have hl:b.length<=1000:=by have:=h.bd.hi;omega
 have htl:=h.len
 have hx:=h.x
 walk_at "pd"
 rw[show ZnR JX (fun x=>!x) (.str w)=.ok (.bl (!(JX.contains w))) from rfl]
 unfold ZjG at hx ⊢
 by_cases c1:JX.contains w=true
 ·rw[c1]
  walk_at "pd"
  rw[show Zg6 [.lst (ts.map PV.str)]=.ok (.int (ts.map PV.str).length) from rfl,Z3w]
  walk_at "pd"
  rw[Z2p h.lw]
  by_cases c2:Zgj b w ts.length=true
  ·rw[c2]
   walk_at "pd"
   rw[show Zg6 [.lst (ts.map PV.str)]=.ok (.int (ts.map PV.str).length) from rfl,Z3w]
   walk_at "pd"
   rw[show (((ts.length:Nat):Int)).toNat=ts.length by simp,show (0:Int)=((0:Nat):Int) from rfl,ZkM (e:=w==("on":Str)) ts 0 (fun j t q=>?_)]
   ·cases hr:Zft (w==("on":Str)) ts 0 with
    |none=>rfl
    |some ns =>
     rw[hr] at hx
     have hx:ZeX b w ns≠none:=by
      intro z
      rw[c1,c2] at hx
      exact hx z
     have hns:=Zfs hr
     have hw:w=("sow":Str)\/w=("back":Str)\/w=("on":Str)\/w=("number":Str)\/w=("ring":Str)\/w=("round":Str)\/w=("gather":Str)\/w=("to":Str)\/w=("least":Str)\/w=("ends":Str)\/w=("wins":Str)\/w=("longest":Str)\/w=("march":Str)\/w=("marching":Str)\/w=("home":Str)\/w=("homes":Str):=by simpa[JX] using c1
     rcases hw with rfl|rfl|rfl|rfl|rfl|rfl|rfl|rfl|rfl|rfl|rfl|rfl|rfl|rfl|rfl|rfl
     ·have ea:ZeX b "sow" ns=stX b (ns.getD 0 0):=by walk_at "ak"
      rw[ea] at hx
      have hc:ns.length=1:=by
       have:Zgj b "sow" ts.length=decide ((ts.length:Int)=1):=by walk_at "ak"
       rw[this] at c2
       have:=of_decide_eq_true c2
       omega
      walk_at "pd"
      rw[JS (m:=Zvs.fn) rfl]
      walk_at "pd"
      rw[Z13 ⟨⟨h.bd,hc⟩,hx⟩,ea]
      cases stX b (ns.getD 0 0) with
      |none=>rfl
      |some e=>rfl
     ·have ea:ZeX b "back" ns=stX b (ns.getD 0 0):=by walk_at "ak"
      rw[ea] at hx
      have hc:ns.length=1:=by
       have:Zgj b "back" ts.length=decide ((ts.length:Int)=1):=by walk_at "ak"
       rw[this] at c2
       have:=of_decide_eq_true c2
       omega
      walk_at "pd"
      rw[JS (m:=Zvv.fn) rfl]
      walk_at "pd"
      rw[Z16 ⟨⟨h.bd,hc⟩,hx⟩,ea]
      cases stX b (ns.getD 0 0) with
      |none=>rfl
      |some e=>rfl
     ·have ea:ZeX b "on" ns=goX b (ns.getD 0 0) (ns.getD 1 0):=by walk_at "ak"
      rw[ea] at hx
      have hc:ns.length=2:=by
       have:Zgj b "on" ts.length=decide ((ts.length:Int)=2):=by walk_at "ak"
       rw[this] at c2
       have:=of_decide_eq_true c2
       omega
      walk_at "pd"
      rw[JS (m:=ZvY.fn) rfl]
      walk_at "pd"
      rw[Z2H ⟨⟨h.bd,hc⟩,hx⟩,ea]
      cases goX b (ns.getD 0 0) (ns.getD 1 0) with
      |none=>rfl
      |some e=>rfl
     ·exact absurd (show ZeX b "number" ns=none by walk_at "ak") hx
     ·exact absurd (show ZeX b "ring" ns=none by walk_at "ak") hx
     ·have ea:ZeX b "round" ns=rcX b (ns.getD 0 0) 20000:=by walk_at "ak"
      rw[ea] at hx
      have hc:ns.length=1:=by
       have:Zgj b "round" ts.length=decide ((ts.length:Int)=1):=by walk_at "ak"
       rw[this] at c2
       have:=of_decide_eq_true c2
       omega
      walk_at "pd"
      rw[JS (m:=Zvh.fn) rfl]
      walk_at "pd"
      rw[Z0G ⟨⟨h.bd,hc⟩,hx⟩,ea]
      cases rcX b (ns.getD 0 0) 20000 with
      |none=>rfl
      |some e=>rfl
     ·have ea:ZeX b "gather" ns=gaX b (ns.getD 0 0):=by walk_at "ak"
      rw[ea] at hx
      have hc:ns.length=1:=by
       have:Zgj b "gather" ts.length=decide ((ts.length:Int)=1):=by walk_at "ak"
       rw[this] at c2
       have:=of_decide_eq_true c2
       omega
      walk_at "pd"
      rw[JS (m:=ZuY.fn) rfl]
      walk_at "pd"
      rw[Z0b ⟨⟨h.bd,hc⟩,hx⟩,ea]
      cases gaX b (ns.getD 0 0) with
      |none=>rfl
      |some e=>rfl
     ·have ea:ZeX b "to" ns=waX b ns:=by walk_at "ak"
      rw[ea] at hx
      have hc:ns.length<=1000:=by omega
      walk_at "pd"
      rw[JS (m:=ZvX.fn) rfl]
      walk_at "pd"
      rw[Z2G ⟨⟨h.bd,hc⟩,hx⟩,ea]
      cases waX b ns with
      |none=>rfl
      |some e=>rfl
     ·have ea:ZeX b "least" ns=leX b ns:=by walk_at "ak"
      rw[ea] at hx
      have hc:ns.length<=1000:=by omega
      walk_at "pd"
      rw[JS (m:=Zvj.fn) rfl]
      walk_at "pd"
      rw[Z0I ⟨⟨h.bd,hc⟩,hx⟩,ea]
      cases leX b ns with
      |none=>rfl
      |some e=>rfl
     ·have ea:ZeX b "ends" ns=J5 b ns:=by walk_at "ak"
      rw[ea] at hx
      have hc:ns.length<=1000:=by omega
      walk_at "pd"
      rw[JS (m:=Zvu.fn) rfl]
      walk_at "pd"
      rw[Z15 ⟨⟨h.bd,hc⟩,hx⟩,ea]
      cases J5 b ns with
      |none=>rfl
      |some e=>rfl
     ·have ea:ZeX b "wins" ns=J5 b ns:=by walk_at "ak"
      rw[ea] at hx
      have hc:ns.length<=1000:=by omega
      walk_at "pd"
      rw[JS (m:=Zvr.fn) rfl]
      walk_at "pd"
      rw[Z12 ⟨⟨h.bd,hc⟩,hx⟩,ea]
      cases J5 b ns with
      |none=>rfl
      |some e=>rfl
     ·have ea:ZeX b "longest" ns=J5 b ns:=by walk_at "ak"
      rw[ea] at hx
      have hc:ns.length<=1000:=by omega
      walk_at "pd"
      rw[JS (m:=ZuR.fn) rfl]
      walk_at "pd"
      rw[Zzy ⟨⟨h.bd,hc⟩,hx⟩,ea]
      cases J5 b ns with
      |none=>rfl
      |some e=>rfl
     ·have ea:ZeX b "march" ns=lbX (Vf b) (ns.getD 0 0):=by walk_at "ak"
      rw[ea] at hx
      have hc:ns.length=1:=by
       have:Zgj b "march" ts.length=decide ((ts.length:Int)=1):=by walk_at "ak"
       rw[this] at c2
       have:=of_decide_eq_true c2
       omega
      walk_at "pd"
      rw[JS (m:=Zvi.fn) rfl]
      walk_at "pd"
      rw[Z0H ⟨⟨h.bd,hc⟩,hx⟩,ea]
      cases lbX (Vf b) (ns.getD 0 0) with
      |none=>rfl
      |some e=>rfl
     ·have ea:ZeX b "marching" ns=Ub (Vf b):=by walk_at "ak"
      rw[ea] at hx
      have hc:ns.length=0:=by
       have:Zgj b "marching" ts.length=decide ((ts.length:Int)=0):=by walk_at "ak"
       rw[this] at c2
       have:=of_decide_eq_true c2
       omega
      walk_at "pd"
      rw[JS (m:=ZuO.fn) rfl]
      walk_at "pd"
      rw[ZyX ⟨⟨h.bd,hc⟩,hx⟩,ea]
      cases Ub (Vf b) with
      |none=>rfl
      |some e=>rfl
     ·have ea:ZeX b "home" ns=V8 (ZcI b):=by walk_at "ak"
      rw[ea] at hx
      have hc:ns.length=0:=by
       have:Zgj b "home" ts.length=decide ((ts.length:Int)=0):=by walk_at "ak"
       rw[this] at c2
       have:=of_decide_eq_true c2
       omega
      walk_at "pd"
      rw[JS (m:=Zvt.fn) rfl]
      walk_at "pd"
      rw[Z14 ⟨⟨h.bd,hc⟩,hx⟩,ea]
      cases V8 (ZcI b) with
      |none=>rfl
      |some e=>rfl
     ·have ea:ZeX b "homes" ns=Zes b.sum 0 10000:=by walk_at "ak"
      rw[ea] at hx
      have hc:ns.length=0:=by
       have:Zgj b "homes" ts.length=decide ((ts.length:Int)=0):=by walk_at "ak"
       rw[this] at c2
       have:=of_decide_eq_true c2
       omega
      walk_at "pd"
      rw[JS (m:=Zvk.fn) rfl]
      walk_at "pd"
      rw[Z0J ⟨⟨h.bd,hc⟩,hx⟩,ea]
      cases Zes b.sum 0 10000 with
      |none=>rfl
      |some e=>rfl
   ·have hj:j<ts.length:=by
     by_cases z:j<ts.length
     ·exact z
     ·rw[Z30 (by omega)] at q;cases q
    have ht:=h.lt t (Z3T q)
    rw[Nat.zero_add,show pIx (.lst (ts.map PV.str)) (.int ((j:Nat):Int))=.ok (.str t) by
     have q2:ts[j]=t:=by rw[Z3r hj] at q;exact Option.some.inj q
     simp[pIx,atI,ixN,hj,q2]]
    walk_at "pd"
    rw[Zl h.lw Zon]
    by_cases c3:(w==("on":Str))=true
    ·rw[c3]
     walk_at "pd"
     rw[Zyo ht]
     congr 2
     by_cases z:j=1
     ·subst z;rfl
     ·rw[decide_eq_false (by omega)];simp[z]
    ·rw[show (w==("on":Str))=false by simpa using c3]
     walk_at "pd"
     rw[Zyo ht]
  ·rw[show Zgj b w ts.length=false by simpa using c2]
   walk_at "pd"
 ·rw[show JX.contains w=false by simpa using c1]
  walk_at "pd"
theorem Z3h{b:List Int}{w:Str}{ts:List Str}(h:ZlQ b w ts):Zyv.fn [.lst (b.map PV.int),.str w,.lst (ts.map PV.str)]=orX (ZjG b w ts) .non:=Pm.fn_eq Zyv (b,w,ts) h fun(a:List Int×Str×List Str) e=>by
 obtain⟨b1,w1,t1⟩:=a
 simp only[Zyv,List.cons.injEq,PV.lst.injEq,PV.str.injEq,ZeJ,and_true] at e ⊢
 obtain⟨e1,e2,e3⟩:=e
 have e3:t1=ts:=List.map_inj_right (fun x y z=>by injection z) |>.mp e3
 rw[e1,e2,e3]
noncomputable def EN:List Str:=["BadText", "BadPit", "NoSeeds", "BadCount", "Unlike", "BadBoard", "BadPits", "TooMany", "BadLine", "BadYard"]
noncomputable def V4(w:Str):List Str:=Txt.split w ⟨#[32]⟩
noncomputable def ZlT(b:List Int)(w:Str):Option Str:=ZjG b ((V4 w).headD "") (V4 w).tail
structure QOk(b:List Int)(w:Str):Prop where
 bd:Jq b
 len:w.length<=1000
 ne:V4 w≠[]
 n:(V4 w).tail.length<=1000
 lw:Vw ((V4 w).headD "")
 lt:∀t∈(V4 w).tail,(Vw t/\Vw (StrLaws.sliceText t (some 1) none))/\t.length<=1000
 x:∃e∈EN,ZlT b w=some e
noncomputable def Zfc(b:List Int)(w:Str):PV:=.tup [.str "refused",.str ((ZlT b w).getD "")]
theorem ZhN{x:PV}{xs:List PV}:pIx (.lst (x::xs)) (.int 0)=.ok x:=by
 have:atI (x::xs) 0=some x:=by
  unfold atI ixN
  rw[if_pos (by decide),if_pos (by rw[Z3t];omega)];rfl
 simp only[pIx,this]
theorem Zl7{x:PV}{xs:List PV}:ZlU (x::xs) (some 1) none=xs:=by
 unfold ZlU HT.sIx
 have h1:min (1:Int).toNat (x::xs).length=1:=by rw[Z3t];show min 1 (xs.length+1)=1;omega
 simp only[show ¬((1:Int)<0) by decide,if_false,h1,List.drop_succ_cons,List.drop_zero]
 rw[Z44 (by rw[Z3t];omega)]
theorem Zf5{L:List Str}(h:L.length<=1000):newF (L.map PV.str)=.ok (.lst (L.map PV.str)):=by
 unfold newF
 rw[Ue,Z3w,decide_eq_true (by omega)];rfl
noncomputable def Zvx:Pm:=⟨List Int×Str,fun a=>[.lst (a.1.map PV.int),.str a.2],fun a=>QOk a.1 a.2,fun a=>.ok (Zfc a.1 a.2)⟩
theorem Z05(T:Txt w K mg){f:Addr}{fd:FuncData}(F:Fun K "answer_to" "answer_to" Zxv f fd):Jp P w K mg base CX0 11 f fd ["board", "question"] (spF K 2 .F W0 Zvx.fn):=by
 have Z3k:=ZV (P:=P) (w:=w) (base:=base) T.Z3f Z3c (fun F=>Z3a T F)
 obtain⟨C_SowError,hC_SowError,hQ_SowError⟩:=J2 T.x_exc (n := "SowError") (by decide)
 refine F.okP Zx2 rfl rfl (fun cdv A outer s H E hr=>?_)
 have hu:=hr.units
 refine⟨_,_,⟨[],[],[],.F⟩,rfl,(Zh (Z7 (i:=2) Zx2.nd rfl (by first|exact Or.inl rfl|exact Or.inr rfl) (Ze5 PySem.F.plainAttrs_str PySem.F.slot_str_split PySem.F.type_str_split ZeA (pv 1) (Za Zj Ze)))
   (Zo (ZqN (fun xe pn E hx=>(Zo (Z8 (Zu Z3k (hr.mono (by decide)) rfl hx (Za (pv 0) (Za (JM (ZW (K:=K)) (pv 2) Zt (fun _ _=>rfl)) (Za (Ul (QK (K:=K)) (pv 2) (ZbF Zt) ZbG) Ze))))))) (fun A=>(Zo (Z8 (Z2 (Za Zj (Za (ZiE (L:=XN) (Zrj T) hr.depth (pv 3)) Ze)))))) Zx2.nd rfl rfl rfl (T.x_mg _ _ hC_SowError) rfl rfl rfl))),
   (Zp (Γm:=[.S,.S,.O,.U]) (Z6 (i:=2) (ZeP (Zc (i:=1) (m:=.S) rfl (by decide)) (Zb (DE.toA Zi) Zd)) (by decide))
   (ZrE (i:=3) (Γs:=[.S,.S,.S,.U]) (Y:=⟨[],[],[],.F⟩) (Yh:=⟨[],[],[],.F⟩) (L:=["SowError", "BadBoard", "BadPit", "BadPits", "BadCount", "NoSeeds", "Unlike", "TooLong", "TooMany", "BadLine", "BadYard", "BadText"]) (ZlY T.x_tab hC_SowError (by decide)) (fun E=>(Jf (Zfa (Zf (Zf (Zf Zn))) (Zb (Zc (i:=0) (m:=.S) rfl (by decide)) (Zb (Jx (te:=tC .non) (Zc (i:=2) (m:=.S) rfl (by decide)) (DE.toA Zs)) (Zb (DE.toA (ZfT (Zc (i:=2) (m:=.S) rfl (by decide)) (Zc9 (DE.toA Zs)) ZcA)) Zd)))))) (fun E D σ H h=>h) (show DS K _ [.S,.S,.S,.P] _ _ _ from (Jf (DE.PF (DE.grd (Zy (Zb (DE.toA Zi) (Zb (DE.toA (Zl0 (DE.toA (Jb (i:=3) rfl)))) Zd))))))) rfl rfl (by decide) rfl rfl rfl rfl)), ?_⟩
 refine Pm.ref Zvx (g:=fun xs=>_) ?_
 rintro⟨b,w⟩ (h:QOk b w)
 simp only[Zvx]
 obtain⟨e,he,hx⟩:=h.x
 have hn:=h.n
 obtain⟨t,ts,hts⟩:∃t ts,V4 w=t::ts:=by
  cases q:V4 w with
  |nil=>exact absurd q h.ne
  |cons t ts=>exact⟨t,ts,rfl⟩
 have lw:=h.lw
 have lt:=h.lt
 unfold Zfc
 unfold ZlT at hx ⊢
 rw[hts] at hx hn lw lt ⊢
 simp only[List.headD_cons,List.tail_cons] at hx hn lw lt ⊢
 have hlen:=h.len
 walk_at "pd"
 rw[show Zei w [.str (" ":Str)]=.ok (.lst ((t::ts).map PV.str)) by
  rw[show ((" ":Str))=spS from ZnI,show spS=⟨#[32]⟩ from rfl,ZbH (by omega) (by
   rw[show Txt.split w ⟨#[32]⟩=t::ts from hts,Z3t];omega),show Txt.split w ⟨#[32]⟩=t::ts from hts]]
 walk_at "pd"
 rw[ZhN,Zl7,Zf5 hn]
 walk_at "pd"
 rw[Z3h ⟨h.bd,lw,lt,hn,by rw[hx];exact Option.some_ne_none e⟩,hx]
 have he:e=("BadText":Str)\/e=("BadPit":Str)\/e=("NoSeeds":Str)\/e=("BadCount":Str)\/e=("Unlike":Str)\/e=("BadBoard":Str)\/e=("BadPits":Str)\/e=("TooMany":Str)\/e=("BadLine":Str)\/e=("BadYard":Str):=by simpa[EN] using he
 rcases he with rfl|rfl|rfl|rfl|rfl|rfl|rfl|rfl|rfl|rfl<;>(walk_at "pd";try rfl)
theorem Z1A{b:List Int}{w:Str}(h:QOk b w):Zvx.fn [.lst (b.map PV.int),.str w]=.ok (Zfc b w):=Pm.fn_eq Zvx (b,w) h fun(a:List Int×Str) e=>by simp only[Zvx] at e ⊢;walk_at "ij"
theorem Zfy:Zvx.calm:=fun a q h=>by (simp only[Zvx] at h;cases h)
noncomputable def nlS:Str:=⟨#[10]⟩
noncomputable def Jr(e:Bool):List Str:=if e then [("":Str)] else []
noncomputable def Zny(t0:Str)(ws:List Str)(e:Bool):Str:=Str.join nlS (t0::(ws++Jr e))
structure ZeZ(t0:Str)(b:List Int)(ws:List Str)(e:Bool):Prop where
 bd:Jq b
 lay:Vw t0/\t0.length<=100
 row:10 ∉ t0.cps.toList
 wl:(V3 t0).length<=1000
 rd:rdW (V3 t0)=.ok (.lst (b.map PV.int))
 ne:ws≠[]
 len:ws.length<=21
 q:∀w∈ws,QOk b w/\Vw w/\10 ∉ w.cps.toList/\w.length<=100
 last:e=false->∀w,ws.getLast?=some w->(w==("":Str))=false
theorem Zdr{e:Bool}{w:Str}(h:w∈Jr e):w=("":Str):=by
 cases e
 ·cases h
 ·exact Z38.mp h
theorem ZbA{t0:Str}{b:List Int}{ws:List Str}{e:Bool}(h:ZeZ t0 b ws e):Txt.split (Zny t0 ws e) ⟨#[10]⟩=t0::(ws++Jr e):=by
 unfold Zny nlS
 refine ZbD (c:=10) (ws:=t0::(ws++Jr e)) (by simp) fun w hw=>?_
 rcases Z3v.mp hw with rfl|hw
 ·exact h.row
 rcases Z3q.mp hw with hw|hw
 ·exact(h.q w hw).2.2.1
 ·rw[Zdr hw];decide
theorem ZpN{t0:Str}{b:List Int}{ws:List Str}{e:Bool}(h:ZeZ t0 b ws e):(Zny t0 ws e).length<=100000:=by
 have:=Zdi 10 (k:=100) (ws:=t0::(ws++Jr e)) fun w hw=>by
  rcases Z3v.mp hw with rfl|hw
  ·exact h.lay.2
  ·rcases Z3q.mp hw with hw|hw
   ·exact(h.q w hw).2.2.2
   ·rw[Zdr hw];decide
 have hl:(t0::(ws++Jr e)).length<=23:=by
  have:=h.len
  cases e<;>simp only[Z3t,Z3y,Jr,Z3F,if_true,if_false,Bool.false_eq_true]<;>omega
 have:(t0::(ws++Jr e)).length*(100+1)<=23*101:=Z4E _ hl
 exact Z33 ‹(Str.join ⟨#[10]⟩ (t0::(ws++Jr e))).length<=_› (by omega)
noncomputable def Zo3(b:List Int)(ks:List Str):PV:=.box none (.dk (ks.map Sum.inr)) (ks.map fun w=>(Zfc b w))
theorem Zhw{b:List Int}{w:Str}:∀{ks:List Str},atK (ks.map (Sum.inr:Str->Key)) (ks.map fun w=>(Zfc b w)) (Sum.inr w)=if w∈ks then some ((Zfc b w)) else none
 |[]=>by simp[atK]
 |k::ks=>by
  simp only[Z31,atK,Zhw (ks:=ks),Z3v]
  by_cases c:k=w
  ·subst c;simp
  ·rw[if_neg (fun z=>c (Sum.inr.inj z))]
   have:¬w=k:=fun z=>c z.symm
   simp[this]
theorem ZpQ{b:List Int}{w:Str}{ks:List Str}:Zs0 (fun x=>!x) (.str w) (Zo3 b ks)=.ok (.bl (!decide (w∈ks))):=by
 simp only[Zs0,Zo3,dAt,ZeI,Z4V,Zhw]
 by_cases c:w∈ks<;>simp[c]
theorem Zn2{b:List Int}{w:Str}{ks:List Str}(h:w∈ks):ZmE (Zo3 b ks) (.str w)=.ok ((Zfc b w)):=by
 simp only[ZmE,Zo3,dAt,ZeI,Z4V,Zhw,if_pos h]
theorem Zn1{b:List Int}{w:Str}{ks:List Str}(h:w ∉ ks)(hl:ks.length<1000):ZmD (Zo3 b ks) (.str w) ((Zfc b w))=.ok (Zo3 b (ks++[w])):=by
 have hm:(Sum.inr w:Key) ∉ ks.map (Sum.inr:Str->Key):=fun z=>by
  obtain⟨v,hv,e⟩:=Z3G.mp z
  cases e;exact h hv
 simp only[ZmD,Zo3,ZeI]
 rw[if_pos ⟨by rw[Z3w];omega,.inl (by unfold Zs3;simpa using hm)⟩]
 unfold Ze3 ZcL
 rw[if_neg hm,if_neg hm,Z3P,Z3P]
 rfl
theorem ZlM{b:List Int}{w:Str}:ZvM.fn [(Zfc b w)]=.ok (Zfc b w)/\((Zfc b w)).flat=true:=by
 exact⟨Z2K,rfl⟩
theorem Zg7{x:PV}{xs:List PV}:pIx (.lst (xs++[x])) (.int (-1))=.ok x:=by
 have:atI (xs++[x]) (-1)=some x:=by
  unfold atI ixN
  rw[if_neg (by decide),if_pos (by rw[Z3y,Z3O];omega)]
  show (xs++[x])[(-1+((xs++[x]).length:Int)).toNat]?=_
  rw[show (-1+((xs++[x]).length:Int)).toNat=xs.length by rw[Z3y,Z3O];omega,Z34 (Z3u _),Nat.sub_self]
  rfl
 simp only[pIx,this]
theorem ZgX:PyData.canLay0 (.str ("":Str))=true:=by rw[PyData.canLay0];decide +kernel
theorem Znx{t0:Str}{b:List Int}{ws:List Str}{e:Bool}(h:ZeZ t0 b ws e):∃z,pIx (.lst ((ws++Jr e).map PV.str)) (.int (-1))=.ok (.str z)/\PyData.canLay0 (.str z)=true/\(z==("":Str))=e:=by
 cases e with
 |true=>exact⟨"",by rw[show Jr true=[("":Str)] from rfl,Z3P];exact Zg7,ZgX,by decide⟩
 |false =>
  obtain⟨w,hw⟩:∃w,ws.getLast?=some w:=by
   cases hg:ws.getLast? with
   |none=>exact absurd (List.getLast?_eq_none_iff.mp hg) h.ne
   |some w=>exact⟨w,rfl⟩
  obtain⟨l,rfl⟩:=List.getLast?_eq_some_iff.mp hw
  have hq:=h.q w (by simp)
  exact⟨w,by rw[show Jr false=[] from rfl,Z3R,Z3P];exact Zg7,hq.2.1,h.last rfl w (by simp)⟩
noncomputable def ZtH:Type:={a:Str×List Int×List Str×Bool // ZeZ a.1 a.2.1 a.2.2.1 a.2.2.2}
noncomputable def Zv0:Pm:=⟨ZtH,fun a=>[.str (Zny a.1.1 a.1.2.2.1 a.1.2.2.2)],fun _=>True,fun a=>.ok (.lst (a.1.2.2.1.map (Zfc a.1.2.1)))⟩
theorem ZzX(T:Txt w K mg){f:Addr}{fd:FuncData}(F:Fun K "answers_to" "answers_to" Zxc f fd):Jp P w K mg base (CX1 P w) 12 f fd ["text"] (spF K 1 .F (W1 K) Zv0.fn):=by
 have Z1e:=ZV (P:=P) (w:=w) (base:=base) T.Z0B Z0j (fun F=>ZzV T F)
 have Z2S:=UE (P:=P) (w:=w) (base:=base) T.Z0C ZzG (fun F=>Z2c T F)
 have Z1Q:=UE (P:=P) (w:=w) (base:=base) T.Z11 Z0Y (fun F=>Z05 T F)
 refine F.okX Zvf rfl rfl (fun cdv A outer s H E hr=>?_)
 have hu:=hr.units
 refine⟨_,_,⟨[],[],[],.F⟩,rfl,(Zh (Z7 (i:=1) Zvf.nd rfl (by first|exact Or.inl rfl|exact Or.inr rfl) (Ze5 PySem.F.plainAttrs_str PySem.F.slot_str_split PySem.F.type_str_split ZeA (pv 0) (Za Zj Ze)))
   (Zh (Z7 (i:=2) Zvf.nd rfl (by first|exact Or.inl rfl|exact Or.inr rfl) (Zu Z1e (hr.mono (by decide)) rfl Zw (Za (JM (ZW (K:=K)) (pv 1) Zt (fun _ _=>rfl)) Ze)))
   (Zh (Z7 (i:=3) Zvf.nd rfl (by first|exact Or.inl rfl|exact Or.inr rfl) (Ul (QK (K:=K)) (pv 1) (ZbF Zt) ZbG))
   (Zh (Jz (PW.pt (U8 (Z3 Uu (Zv (ZA (K:=K)) rfl T.z_len Jo (Za (pv 3) Ze)) Zt (Z9 _)) (VO (Z3 (JI (K:=K) hu) (JM (ZW (K:=K)) (pv 3) (ZiD ZdR Zt) (fun _ _=>rfl)) Zj (Z9 _))))) (Zo (ZJ (ZqT PySem.F.plainAttrs_list PySem.F.slot_list_pop PySem.F.type_list_pop Zri (pv 3)))) ZH)
   (Zh (Z7 (i:=4) Zvf.nd rfl (by first|exact Or.inl rfl|exact Or.inr rfl) Zms)
   (Zh (PS.nox (ZhH PassesOwn.never rfl (Uk (K:=K) (pv 3)) (VP (i:=5) Zvf.nd rfl (by first|exact Or.inl rfl|exact Or.inr rfl)) (Zo (Jz (Zkd (Zfx (hu1 hu) (pv 5) (pv 4))) (Zo (ZoR (hu1 hu) (pv 4) (pv 5) (ZK Z1Q (hr.mono (by decide)) rfl (Za (pv 2) (Za (pv 5) Ze))) rfl)) ZH))))
   (Zo (Z8 (ZhK (Uk (K:=K) (pv 3)) (Ze6 Zvf.nd) (fun _ _ _ _=>ZhL) (fun _ _ _ _=>(ZK Z2S (hr.mono (by decide)) rfl (Za (ZoV (hu1 hu) (pv 4) (pv 6) (fun _ _=>rfl)) Ze))) hv1 Zvf.nd rfl))))))))),
   (Zp (Γm:=[.S,.O,.U,.U,.U,.U]) (Z6 (i:=1) (ZeP (Zc (i:=0) (m:=.S) rfl (by decide)) (Zb (DE.toA Zi) Zd)) (by decide))
   (Zp (Γm:=[.S,.O,.O,.U,.U,.U]) (Z6 (i:=2) (Zfa (Zf Zn) (Zb (Jx (te:=tC .non) (Zc (i:=1) (m:=.O) rfl (by decide)) (DE.toA Zs)) Zd)) (by decide))
   (Zp (Γm:=[.S,.O,.O,.O,.U,.U]) (Z6 (i:=3) (ZfT (Zc (i:=1) (m:=.O) rfl (by decide)) (Zc9 (DE.toA Zs)) ZcA) (by decide))
   (Zp (Γm:=[.S,.O,.O,.O,.U,.U]) (J0 (U9 (Z1 (DE.toA (U7 (DE.toA (J1 (Zb (Zc (i:=3) (m:=.O) rfl (by decide)) Zd))) (DE.toA Zs)))) (Z1 (DE.toA (Jn (g:=id) (Jx (te:=tC .non) (Zc (i:=3) (m:=.O) rfl (by decide)) (DE.toA (Zep (DE.toA Zs)))) (DE.toA Zi)))))
   (Zp8 (i:=3) rfl)
   ZI)
   (Zp (Γm:=[.S,.O,.O,.O,.O,.U]) (Z6 (i:=4) Znq (by decide))
   (Zp (Γm:=[.S,.O,.O,.S,.O,.U]) (Zil (Γl:=[.S,.O,.O,.S,.O,.U]) (ZeN (Zlt (i:=3) (m:=.O) rfl (by decide))) rfl (Zs5 (i:=5) (by decide))
   (DS.out (Y:=⟨[.S,.O,.O,.S,.O,.P],[.S,.O,.O,.S,.O,.U],[.S,.O,.O,.S,.O,.U],.F⟩) (Y':=⟨[.S,.O,.O,.S,.O,.U],[.S,.O,.O,.S,.O,.U],[.S,.O,.O,.S,.O,.U],.F⟩) (J0 (ZcF (DE.toA (ZfU (DE.toA (Jb (i:=5) rfl)) (Zc (i:=4) (m:=.O) rfl (by decide)))))
   (Znk (i:=4) rfl (ZrC (Zf (Zf Zn)) (Pm.calm_fn Zfy) (Zb (Zc (i:=2) (m:=.O) rfl (by decide)) (Zb (DE.toA (Jb (i:=5) rfl)) Zd))) (DE.toA (Jb (i:=5) rfl)))
   ZI) rfl rfl rfl rfl))
   (Jf (Zio (k:=1) (DI.c (ZeN (Zhi (i:=3) rfl))) Zuw Zov (ZrC (Zf Zn) (Pm.calm_fn ZiF) (Zb (ZpE (Zc (i:=4) (m:=.O) rfl (by decide)) (Zc (i:=6) (m:=.S) rfl (by decide))) Zd)))))))))), ?_⟩
 refine Pm.ref Zv0 (g:=fun xs=>_) ?_
 rintro⟨⟨t0,b,ws,e⟩,(h:ZeZ t0 b ws e)⟩ -
 simp only[Zv0]
 have hl:=h.len
 walk_at "pd"
 rw[show Zei (Zny t0 ws e) [.str ("\n":Str)]=.ok (.lst ((t0::(ws++Jr e)).map PV.str)) by
  rw[show ("\n":Str)=⟨#[10]⟩ by decide,ZbH (ZpN h) (by rw[ZbA h];cases e<;>simp only[Z3t,Z3y,Jr,Z3F,if_true,if_false,Bool.false_eq_true]<;>omega),ZbA h]]
 walk_at "pd"
 rw[ZhN]
 walk_at "pd"
 rw[Z0L ⟨⟨h.lay.1,by have:=h.lay.2;omega⟩,h.wl⟩,h.rd]
 walk_at "pd"
 rw[Zl7]
 walk_at "pd"
 have hT:(ws++Jr e).length<=22:=by cases e<;>simp only[Z3y,Jr,Z3F,Z3O,if_true,if_false,Bool.false_eq_true]<;>omega
 rw[Zf5 (by omega)]
 walk_at "pd"
 generalize hTAIL:(fun(ρ:List PV)=>(((asL (gv 3 (ρ.set 4 (PV.box none (Sh.dk []) []))))).thenS _).seq _)=TAIL
 obtain⟨z,hz,lz,hz2⟩:=Znx h
 have hL0:0<(ws++Jr e).length:=by
  have:=Z4i.mpr h.ne
  rw[Z3y];omega
 have hpop:e=true->pPop (.lst ((ws++Jr e).map PV.str))=.ok (.lst (ws.map PV.str)):=fun he=>by
  subst he
  rw[show Jr true=[("":Str)] from rfl,Z3P]
  show (if (ws.map PV.str++[PV.str ""]).length=0 then _ else _)=_
  rw[if_neg (by rw[Z3y,Z3O];omega)]
  show Rr.ok (PV.lst (ws.map PV.str++[PV.str ""]).dropLast)=_
  rw[List.dropLast_concat]
 rw[show Zg6 [.lst ((ws++Jr e).map PV.str)]=.ok (.int ((ws++Jr e).map PV.str).length) from rfl]
 walk_at "pd"
 rw[decide_eq_true (show (0:Int)<(((ws++Jr e).map PV.str).length:Int) by rw[Z3w];omega)]
 walk_at "pd"
 rw[hz]
 walk_at "pd"
 rw[Zl lz ZgX,hz2]
 walk_at "pd"
 have hgo:(TAIL [.str (Zny t0 ws e),.lst (.str (t0)::(ws++Jr e).map PV.str),.lst (b.map PV.int),.lst (ws.map PV.str),.non,.non]).out=.ok (.lst (ws.map (Zfc b))):=by
  subst hTAIL
  walk_at "pd"
  generalize hw:Zj5 _ _ _=W
  obtain⟨ρ',rfl,ks,v,hk,hkl,rfl⟩:=ZdC hw (fun i ρ=>∃ks v,(∀w,w∈ks ↔ w∈ws.take i)/\ks.length<=i/\ρ=[.str (Zny t0 ws e),.lst (.str (t0)::(ws++Jr e).map PV.str),.lst (b.map PV.int),.lst (ws.map PV.str),Zo3 b ks,v]) ⟨[],_,fun w=>by simp,Z3u _,rfl⟩ (by
   rintro i x ρ hx ⟨ks,v,hk,hkl,rfl⟩
   rw[Z3A] at hx
   have hi:i<ws.length:=by
    by_cases c:i<ws.length
    ·exact c
    ·rw[Z30 (by omega)] at hx;cases hx
   rw[Z3r hi] at hx
   cases hx
   have hq:=h.q _ (Z4j hi)
   have ht:ws.take (i+1)=ws.take i++[ws[i]]:=by rw[List.take_succ,Z3r hi];rfl
   walk_at "pd"
   rw[ZpQ]
   by_cases c:ws[i]∈ks
   ·rw[decide_eq_true c]
    walk_at "pd"
    refine Zf4 ⟨ks,_,fun w=>?_,by omega,rfl⟩
    rw[ht,Z3q,Z38,hk]
    exact⟨fun z=>.inl z,fun z=>z.elim id fun z=>by rw[z];exact(hk _).mp c⟩
   ·rw[decide_eq_false c]
    walk_at "pd"
    rw[Z1A hq.1]
    walk_at "pd"
    rw[Zn1 c (by omega)]
    walk_at "pd"
    refine Zf4 ⟨ks++[ws[i]],_,fun w=>?_,by rw[Z3y,Z3O];omega,rfl⟩
    rw[ht,Z3q,Z3q,hk])
  walk_at "pd"
  rw[Z3w,List.take_length] at hk
  rw[Zr9 (p:=fun _=>true) (g:=Zfc b) (fun w hw=>by
   rw[Zn2 ((hk w).mpr hw)]
   simp only[Rr.bind_ok]
   rw[ZlM.1]
   rfl),List.filter_eq_self.mpr fun _ _=>rfl]
  walk_at "pd"
 cases e with
 |true =>
  rw[hpop rfl]
  walk_at "pd"
  exact hgo
 |false =>
  walk_at "pd"
  rw[show List.map PV.str (ws++Jr false)=List.map PV.str ws by rw[show Jr false=[] from rfl,Z3R]] at hgo ⊢
  exact hgo
theorem Z0O{t0:Str}{b:List Int}{ws:List Str}{e:Bool}(h:ZeZ t0 b ws e):Zv0.fn [.str (Zny t0 ws e)]=.ok (.lst (ws.map (Zfc b))):=Pm.fn_eq Zv0 (⟨(t0,b,ws,e),h⟩:ZtH) trivial fun(a:ZtH) q=>by
 obtain⟨⟨t0',b',ws',e'⟩,(h':ZeZ t0' b' ws' e')⟩:=a
 simp only[Zv0,List.cons.injEq,PV.str.injEq,and_true] at q ⊢
 have q2:=congrArg (fun s=>Txt.split s ⟨#[10]⟩) q
 rw[ZbA h',ZbA h] at q2
 obtain⟨q3,q4⟩:=List.cons.inj q2
 have q6:b'=b:=by
  have z:=h'.rd
  rw[q3,h.rd] at z
  injection z with z
  injection z with z
  exact(ZeJ.mp z).symm
 have q5:ws'=ws:=by
  cases e<;>cases e'
  ·simpa[Jr] using q4
  ·have z:=h.last rfl "" (by rw[show ws=ws'++[("":Str)] by simpa[Jr] using q4.symm];simp)
   exact absurd z (by decide)
  ·have z:=h'.last rfl "" (by rw[show ws'=ws++[("":Str)] by simpa[Jr] using q4];simp)
   exact absurd z (by decide)
  ·simpa[Jr] using q4
 rw[q5,q6]
noncomputable def NQ:List Str:=(["sow", "sow 0 1", "sow x", "sow 00", "sow -1", "on 0", "on 0 -0", "on 0 01", "on 0 --1", "on 0 1 2", "number 1"]++["ring 0", "round", "gather", "gather  0", " gather 0", "gather 0 ", "to", "to 1 0", "to 1 0 2 0", "least 1 2", "march"]++["march -1", "marching 1", "home 0", "homes 1", "Sow 0", "sown 0", "ends x", "wins 0,1", "sow 1_0", "on 0 +1", "march 99999999999999999999999999999999999999999999999999999999999999"]++["sow 11111111111111111111111111111111111111111111111111111111111111", "", "plan", "back", "back 0 0", "on -1 1", "longest 0  1", "least", "NUMBER", "number ", "ends -1"]:List String).map Str.ofString
theorem Ztm:Zg4 (.str "9") (.int 62)=.ok (.str "99999999999999999999999999999999999999999999999999999999999999"):=(Zdd ⟨by decide,fun _ _=>by decide,fun _ _=>by decide⟩).trans (congrArg (fun x=>Rr.ok (PV.str x)) (by decide +kernel))
theorem Zto:Zg4 (.str "1") (.int 62)=.ok (.str "11111111111111111111111111111111111111111111111111111111111111"):=(Zdd ⟨by decide,fun _ _=>by decide,fun _ _=>by decide⟩).trans (congrArg (fun x=>Rr.ok (PV.str x)) (by decide +kernel))
theorem Ztn:Zg4 (.str "9") (.int 61)=.ok (.str "9999999999999999999999999999999999999999999999999999999999999"):=(Zdd ⟨by decide,fun _ _=>by decide,fun _ _=>by decide⟩).trans (congrArg (fun x=>Rr.ok (PV.str x)) (by decide +kernel))
theorem Zrk:Zg4 (.str "0") (.int 59)=.ok (.str "00000000000000000000000000000000000000000000000000000000000"):=(Zdd ⟨by decide,fun _ _=>by decide,fun _ _=>by decide⟩).trans (congrArg (fun x=>Rr.ok (PV.str x)) (by decide +kernel))
noncomputable def ZuX:Pm:=⟨Unit,fun _=>[],fun _=>True,fun _=>.ok (.lst (NQ.map PV.str))⟩
theorem ZxJ(T:Txt w K mg){f:Addr}{fd:FuncData}(F:Fun K "_law_no_questions" "_law_no_questions" Zvz f fd):Jp P w K mg base CX0 1 f fd [] (spF K 0 .F W0 ZuX.fn):=by
 refine F.okP ZuW rfl rfl (fun cdv A outer s H E hr=>?_)
 have hu:=hr.units
 refine⟨_,_,⟨[],[],[],.F⟩,rfl,(Zh (Z7 (i:=0) ZuW.nd rfl (by first|exact Or.inl rfl|exact Or.inr rfl) (J6 (Za Zj (Za Zj (Za Zj (Za Zj (Za Zj (Za Zj (Za Zj (Za Zj (Za Zj (Za Zj Ze))))))))))))
   (Zh (Z7 (i:=0) ZuW.nd rfl (by first|exact Or.inl rfl|exact Or.inr rfl) (Jc (JU (K:=K)) (pv 0) (J6 (Za Zj (Za Zj (Za Zj (Za Zj (Za Zj (Za Zj (Za Zj (Za Zj (Za Zj Ze))))))))))))
   (Zh (Z7 (i:=0) ZuW.nd rfl (by first|exact Or.inl rfl|exact Or.inr rfl) (Jc (JU (K:=K)) (pv 0) (J6 (Za Zj (Za Zj (Za Zj (Za Zj (Za Zj (Za Zj (Za Zj (Za Zj (Za Zj Ze))))))))))))
   (Zh (Z7 (i:=0) ZuW.nd rfl (by first|exact Or.inl rfl|exact Or.inr rfl) (Jc (JU (K:=K)) (pv 0) (J6 (Za Zj (Za Zj (Za Zj (Za Zj (Za (Jc JL Zj (Jc UD Zj Zt)) (Za (Jc JL Zj (Jc UD Zj Zt)) (Za Zj (Za Zj Ze)))))))))))
   (Zo (Z8 (Jc (JU (K:=K)) (pv 0) (J6 (Za Zj (Za Zj (Za Zj (Za Zj (Za Zj (Za Zj (Za Zj (Za Zj Ze)))))))))))))))),
   (Zp (Γm:=[.O]) (Z6 (i:=0) (Jh (Zk (DE.PF Zi) (Zk (DE.PF Zi) (Zk (DE.PF Zi) (Zk (DE.PF Zi) (Zk (DE.PF Zi) (Zk (DE.PF Zi) (Zk (DE.PF Zi) (Zk (DE.PF Zi) (Zk (DE.PF Zi) (Zk (DE.PF Zi) ZU))))))))))) (by decide))
   (Zp (Γm:=[.O]) (Z6 (i:=0) (JV (Zc (i:=0) (m:=.O) rfl (by decide)) (DE.toA (Jh (Zk (DE.PF Zi) (Zk (DE.PF Zi) (Zk (DE.PF Zi) (Zk (DE.PF Zi) (Zk (DE.PF Zi) (Zk (DE.PF Zi) (Zk (DE.PF Zi) (Zk (DE.PF Zi) (Zk (DE.PF Zi) ZU)))))))))))) (by decide))
   (Zp (Γm:=[.O]) (Z6 (i:=0) (JV (Zc (i:=0) (m:=.O) rfl (by decide)) (DE.toA (Jh (Zk (DE.PF Zi) (Zk (DE.PF Zi) (Zk (DE.PF Zi) (Zk (DE.PF Zi) (Zk (DE.PF Zi) (Zk (DE.PF Zi) (Zk (DE.PF Zi) (Zk (DE.PF Zi) (Zk (DE.PF Zi) ZU)))))))))))) (by decide))
   (Zp (Γm:=[.O]) (Z6 (i:=0) (JV (Zc (i:=0) (m:=.O) rfl (by decide)) (DE.toA (Jh (Zk (DE.PF Zi) (Zk (DE.PF Zi) (Zk (DE.PF Zi) (Zk (DE.PF Zi) (Zk (DE.PF (VE (DE.toA Zi) (DE.toA (QG (DE.toA Zi) (DE.toA Zs))))) (Zk (DE.PF (VE (DE.toA Zi) (DE.toA (QG (DE.toA Zi) (DE.toA Zs))))) (Zk (DE.PF Zi) (Zk (DE.PF Zi) ZU))))))))))) (by decide))
   (Jf (JV (Zc (i:=0) (m:=.O) rfl (by decide)) (DE.toA (Jh (Zk (DE.PF Zi) (Zk (DE.PF Zi) (Zk (DE.PF Zi) (Zk (DE.PF Zi) (Zk (DE.PF Zi) (Zk (DE.PF Zi) (Zk (DE.PF Zi) (Zk (DE.PF Zi) ZU)))))))))))))))), ?_⟩
 refine Pm.ref ZuX (g:=fun xs=>_) ?_
 rintro⟨⟩ -
 simp only[ZuX]
 walk_at "pd"
 rw[Ztm,Zto]
 kernel_rfl
theorem ZxY:ZuX.fn []=.ok (.lst (NQ.map PV.str)):=Pm.fn_eq ZuX () trivial fun _ _=>rfl
noncomputable def FQ:List (Str×Str):=([("sow 3", "BadPit"),("back 24", "BadPit"),("gather 3", "BadPit"),("round 9", "BadPit"),("on 3 1", "BadPit"),("sow 9999999999999999999999999999999999999999999999999999999999999", "BadPit"),("sow 1", "NoSeeds")]++[("back 1", "NoSeeds"),("round 1", "NoSeeds"),("on 1 5", "NoSeeds"),("on 1 1001", "NoSeeds"),("on 0 1001", "BadCount"),("on 0 -1001", "BadCount"),("march 1000000000000000000000000000000000000000000000000000000000001", "BadCount")]++[("to 1 1 2", "Unlike"),("least 0 0 0", "Unlike"),("to 0 0 9999999999999999999999999999999999999999999999999999999999999", "BadBoard"),("ends", "BadPits"),("wins", "BadPits"),("longest", "BadPits"),("ends 0 1 2", "BadPits")]++[("ends 1 0", "BadPits"),("wins 3", "BadPits"),("longest 0 0", "BadPits"),("ends 0 9999999999999999999999999999999999999999999999999999999999999", "BadPits")]:List (String×String)).map fun p=>(Str.ofString p.1,Str.ofString p.2)
noncomputable def prP(p:Str×Str):PV:=.tup [.str p.1,.str p.2]
theorem Ze8{α:Type}{q:α->PV}{L:List α}{k:Int}{d:α}(h0:0<=k)(h1:k<L.length):pIx (.lst (L.map q)) (.int k)=.ok (q (L.getD k.toNat d)):=by
 have:atI (L.map q) k=some (q (L.getD k.toNat d)):=by
  unfold atI ixN
  rw[Z3w,if_pos h0,if_pos h1]
  show (L.map q)[k.toNat]?=_
  have hk:k.toNat<L.length:=by omega
  rw[Z3A,Z3r hk,Z3n,Z3r hk];rfl
 simp only[pIx,this]
theorem Zos(p:Str×Str):grd (prP p)=.ok (prP p):=rfl
noncomputable def Zve:Pm:=⟨Int,fun c=>[.int c],fun c=>0<=c,fun c=>.ok (prP (FQ.getD (c%25).toNat ("", "")))⟩
theorem ZyC(T:Txt w K mg){f:Addr}{fd:FuncData}(F:Fun K "_law_of_first" "_law_of_first" Zwh f fd):Jp P w K mg base CX0 1 f fd ["cell"] (spF K 1 .P W0 Zve.fn):=by
 refine F.okP ZuN rfl rfl (fun cdv A outer s H E hr=>?_)
 have hu:=hr.units
 refine⟨_,_,⟨[],[],[],.P⟩,rfl,(Zh (Z7 (i:=1) ZuN.nd rfl (by first|exact Or.inl rfl|exact Or.inr rfl) (J6 (Za (Z2 (Za Zj (Za Zj Ze))) (Za (Z2 (Za Zj (Za Zj Ze))) (Za (Z2 (Za Zj (Za Zj Ze))) (Za (Z2 (Za Zj (Za Zj Ze))) Ze))))))
   (Zh (Z7 (i:=1) ZuN.nd rfl (by first|exact Or.inl rfl|exact Or.inr rfl) (Jc (JU (K:=K)) (pv 1) (J6 (Za (Z2 (Za Zj (Za Zj Ze))) (Za (Z2 (Za (Jc JL Zj (Jc UD Zj Zt)) (Za Zj Ze))) (Za (Z2 (Za Zj (Za Zj Ze))) (Za (Z2 (Za Zj (Za Zj Ze))) Ze)))))))
   (Zh (Z7 (i:=1) ZuN.nd rfl (by first|exact Or.inl rfl|exact Or.inr rfl) (Jc (JU (K:=K)) (pv 1) (J6 (Za (Z2 (Za Zj (Za Zj Ze))) (Za (Z2 (Za Zj (Za Zj Ze))) (Za (Z2 (Za Zj (Za Zj Ze))) (Za (Z2 (Za Zj (Za Zj Ze))) Ze)))))))
   (Zh (Z7 (i:=1) ZuN.nd rfl (by first|exact Or.inl rfl|exact Or.inr rfl) (Jc (JU (K:=K)) (pv 1) (J6 (Za (Z2 (Za Zj (Za Zj Ze))) (Za (Z2 (Za (Jc JL (Jc JL Zj (Jc UD Zj Zt)) Zj) (Za Zj Ze))) (Za (Z2 (Za Zj (Za Zj Ze))) Ze))))))
   (Zh (Z7 (i:=1) ZuN.nd rfl (by first|exact Or.inl rfl|exact Or.inr rfl) (Jc (JU (K:=K)) (pv 1) (J6 (Za (Z2 (Za Zj (Za Zj Ze))) (Za (Z2 (Za (Jc JL Zj (Jc UD Zj Zt)) (Za Zj Ze))) (Za (Z2 (Za Zj (Za Zj Ze))) Ze))))))
   (Zh (Z7 (i:=1) ZuN.nd rfl (by first|exact Or.inl rfl|exact Or.inr rfl) (Jc (JU (K:=K)) (pv 1) (J6 (Za (Z2 (Za Zj (Za Zj Ze))) (Za (Z2 (Za Zj (Za Zj Ze))) (Za (Z2 (Za Zj (Za Zj Ze))) (Za (Z2 (Za Zj (Za Zj Ze))) Ze)))))))
   (Zh (Z7 (i:=1) ZuN.nd rfl (by first|exact Or.inl rfl|exact Or.inr rfl) (Jc (JU (K:=K)) (pv 1) (J6 (Za (Z2 (Za Zj (Za Zj Ze))) (Za (Z2 (Za Zj (Za Zj Ze))) (Za (Z2 (Za (Jc JL Zj (Jc UD Zj Zt)) (Za Zj Ze))) Ze))))))
   (Zo (Z8 (JM (ZW (K:=K)) (pv 1) (Jc VS (pv 0) (Zv (ZA (K:=K)) rfl T.z_len Jo (Za (pv 1) Ze))) (fun _ _=>rfl))))))))))),
   (Zp (Γm:=[.S,.O]) (Z6 (i:=1) (Jh (Zk (DE.PF (DE.grd (Zy (Zb (DE.toA Zi) (Zb (DE.toA Zi) Zd))))) (Zk (DE.PF (DE.grd (Zy (Zb (DE.toA Zi) (Zb (DE.toA Zi) Zd))))) (Zk (DE.PF (DE.grd (Zy (Zb (DE.toA Zi) (Zb (DE.toA Zi) Zd))))) (Zk (DE.PF (DE.grd (Zy (Zb (DE.toA Zi) (Zb (DE.toA Zi) Zd))))) ZU))))) (by decide))
   (Zp (Γm:=[.S,.O]) (Z6 (i:=1) (JV (Zc (i:=1) (m:=.O) rfl (by decide)) (DE.toA (Jh (Zk (DE.PF (DE.grd (Zy (Zb (DE.toA Zi) (Zb (DE.toA Zi) Zd))))) (Zk (DE.PF (DE.grd (Zy (Zb (DE.toA (VE (DE.toA Zi) (DE.toA (QG (DE.toA Zi) (DE.toA Zs))))) (Zb (DE.toA Zi) Zd))))) (Zk (DE.PF (DE.grd (Zy (Zb (DE.toA Zi) (Zb (DE.toA Zi) Zd))))) (Zk (DE.PF (DE.grd (Zy (Zb (DE.toA Zi) (Zb (DE.toA Zi) Zd))))) ZU))))))) (by decide))
   (Zp (Γm:=[.S,.O]) (Z6 (i:=1) (JV (Zc (i:=1) (m:=.O) rfl (by decide)) (DE.toA (Jh (Zk (DE.PF (DE.grd (Zy (Zb (DE.toA Zi) (Zb (DE.toA Zi) Zd))))) (Zk (DE.PF (DE.grd (Zy (Zb (DE.toA Zi) (Zb (DE.toA Zi) Zd))))) (Zk (DE.PF (DE.grd (Zy (Zb (DE.toA Zi) (Zb (DE.toA Zi) Zd))))) (Zk (DE.PF (DE.grd (Zy (Zb (DE.toA Zi) (Zb (DE.toA Zi) Zd))))) ZU))))))) (by decide))
   (Zp (Γm:=[.S,.O]) (Z6 (i:=1) (JV (Zc (i:=1) (m:=.O) rfl (by decide)) (DE.toA (Jh (Zk (DE.PF (DE.grd (Zy (Zb (DE.toA Zi) (Zb (DE.toA Zi) Zd))))) (Zk (DE.PF (DE.grd (Zy (Zb (DE.toA (VE (DE.toA (VE (DE.toA Zi) (DE.toA (QG (DE.toA Zi) (DE.toA Zs))))) (DE.toA Zi))) (Zb (DE.toA Zi) Zd))))) (Zk (DE.PF (DE.grd (Zy (Zb (DE.toA Zi) (Zb (DE.toA Zi) Zd))))) ZU)))))) (by decide))
   (Zp (Γm:=[.S,.O]) (Z6 (i:=1) (JV (Zc (i:=1) (m:=.O) rfl (by decide)) (DE.toA (Jh (Zk (DE.PF (DE.grd (Zy (Zb (DE.toA Zi) (Zb (DE.toA Zi) Zd))))) (Zk (DE.PF (DE.grd (Zy (Zb (DE.toA (VE (DE.toA Zi) (DE.toA (QG (DE.toA Zi) (DE.toA Zs))))) (Zb (DE.toA Zi) Zd))))) (Zk (DE.PF (DE.grd (Zy (Zb (DE.toA Zi) (Zb (DE.toA Zi) Zd))))) ZU)))))) (by decide))
   (Zp (Γm:=[.S,.O]) (Z6 (i:=1) (JV (Zc (i:=1) (m:=.O) rfl (by decide)) (DE.toA (Jh (Zk (DE.PF (DE.grd (Zy (Zb (DE.toA Zi) (Zb (DE.toA Zi) Zd))))) (Zk (DE.PF (DE.grd (Zy (Zb (DE.toA Zi) (Zb (DE.toA Zi) Zd))))) (Zk (DE.PF (DE.grd (Zy (Zb (DE.toA Zi) (Zb (DE.toA Zi) Zd))))) (Zk (DE.PF (DE.grd (Zy (Zb (DE.toA Zi) (Zb (DE.toA Zi) Zd))))) ZU))))))) (by decide))
   (Zp (Γm:=[.S,.O]) (Z6 (i:=1) (JV (Zc (i:=1) (m:=.O) rfl (by decide)) (DE.toA (Jh (Zk (DE.PF (DE.grd (Zy (Zb (DE.toA Zi) (Zb (DE.toA Zi) Zd))))) (Zk (DE.PF (DE.grd (Zy (Zb (DE.toA Zi) (Zb (DE.toA Zi) Zd))))) (Zk (DE.PF (DE.grd (Zy (Zb (DE.toA (VE (DE.toA Zi) (DE.toA (QG (DE.toA Zi) (DE.toA Zs))))) (Zb (DE.toA Zi) Zd))))) ZU)))))) (by decide))
   (ZZ (DE.grd (Jx (te:=tC .non) (Zc (i:=1) (m:=.O) rfl (by decide)) (DE.toA (Uf (Zc (i:=0) (m:=.S) rfl (by decide)) (DE.toA (J1 (Zb (Zc (i:=1) (m:=.O) rfl (by decide)) Zd))))))))))))))), ?_⟩
 refine Pm.ref Zve (g:=fun xs=>_) ?_
 rintro(c:Int) (h:0<=c)
 simp only[Zve]
 walk_at "pd"
 rw[Ztn,Zrk]
 refine Eq.trans (b:=(((((Zg6 [.lst (FQ.map prP)]).bind fun y=>Zqf (.int c) y).bind fun y=>pIx (.lst (FQ.map prP)) y).bind grd).thenS fun x=>RS.ret x).out) (by kernel_rfl) ?_
 rw[show Zg6 [.lst (FQ.map prP)]=.ok (.int 25) by kernel_rfl]
 walk_at "pd"
 rw[Ze8 (q:=prP) (L:=FQ) (k:=c%25) (d:=("", "")) (by omega) (by rw[show FQ.length=25 from by kernel_rfl];omega)]
 walk_at "pd"
 rw[Zos]
 walk_at "pd"
theorem ZyZ{c:Int}(h:0<=c):Zve.fn [.int c]=.ok (prP (FQ.getD (c%25).toNat ("", ""))):=Pm.fn_eq Zve c h fun(a:Int) e=>by simp only[Zve] at e ⊢;walk_at "ij"
noncomputable def SQ:List (Str×Str):=([("gather 0", "TooMany"),("gather 3", "BadPit"),("to 1 100 0", "TooMany"),("to 1 1 1", "Unlike"),("least 100 1 0", "TooMany"),("ends 0", "TooMany"),("ends 3", "BadPits")]++[("wins 0", "TooMany"),("longest 1 2", "TooMany"),("march 1", "BadLine"),("sow 2", "NoSeeds"),("marching", "BadLine"),("wins 2 1", "BadPits"),("back 2", "NoSeeds")]:List (String×String)).map fun p=>(Str.ofString p.1,Str.ofString p.2)
noncomputable def OQ:List (Str×Str):=([("home", "BadYard"),("homes", "BadCount"),("march 0", "BadLine"),("marching", "BadLine"),("gather 1", "TooMany"),("least 10001 0 3", "TooMany"),("march 1000000000000000000000000000000000000000000000000000000000001", "BadLine")]:List (String×String)).map fun p=>(Str.ofString p.1,Str.ofString p.2)
noncomputable def otP(s:Bool)(c:Int):Str×Str:=if s then SQ.getD (c%14).toNat ("", "") else OQ.getD (c%7).toNat ("", "")
theorem seq_ret{s:RS}{v:PV}{R:List PV->RS}(h:s=RS.ret v):(s.seq R).out=.ok v:=by rw[h];rfl
noncomputable def Zvb:Pm:=⟨Bool×Int,fun a=>[.bl a.1,.int a.2],fun a=>0<=a.2,fun a=>.ok (prP (otP a.1 a.2))⟩
theorem Zyx(T:Txt w K mg){f:Addr}{fd:FuncData}(F:Fun K "_law_of_others" "_law_of_others" ZvU f fd):Jp P w K mg base CX0 1 f fd ["second", "cell"] (spF K 2 .P W0 Zvb.fn):=by
 refine F.okP ZuZ rfl rfl (fun cdv A outer s H E hr=>?_)
 have hu:=hr.units
 refine⟨_,_,⟨[],[],[],.P⟩,rfl,(Zh (Jz (JJ (pv 0)) (Zh (Z7 (i:=2) ZuZ.nd rfl (by first|exact Or.inl rfl|exact Or.inr rfl) (J6 (Za (Z2 (Za Zj (Za Zj Ze))) (Za (Z2 (Za Zj (Za Zj Ze))) (Za (Z2 (Za Zj (Za Zj Ze))) (Za (Z2 (Za Zj (Za Zj Ze))) Ze))))))
   (Zh (Z7 (i:=2) ZuZ.nd rfl (by first|exact Or.inl rfl|exact Or.inr rfl) (Jc (JU (K:=K)) (pv 2) (J6 (Za (Z2 (Za Zj (Za Zj Ze))) (Za (Z2 (Za Zj (Za Zj Ze))) (Za (Z2 (Za Zj (Za Zj Ze))) Ze))))))
   (Zh (Z7 (i:=2) ZuZ.nd rfl (by first|exact Or.inl rfl|exact Or.inr rfl) (Jc (JU (K:=K)) (pv 2) (J6 (Za (Z2 (Za Zj (Za Zj Ze))) (Za (Z2 (Za Zj (Za Zj Ze))) (Za (Z2 (Za Zj (Za Zj Ze))) (Za (Z2 (Za Zj (Za Zj Ze))) Ze)))))))
   (Zo (Z8 (JM (ZW (K:=K)) (Jc (JU (K:=K)) (pv 2) (J6 (Za (Z2 (Za Zj (Za Zj Ze))) (Za (Z2 (Za Zj (Za Zj Ze))) (Za (Z2 (Za Zj (Za Zj Ze))) Ze))))) (Jc VS (pv 1) Zt) (fun _ _=>rfl))))))) ZH)
   (Zh (Z7 (i:=2) ZuZ.nd rfl (by first|exact Or.inl rfl|exact Or.inr rfl) (J6 (Za (Z2 (Za Zj (Za Zj Ze))) (Za (Z2 (Za Zj (Za Zj Ze))) (Za (Z2 (Za Zj (Za Zj Ze))) (Za (Z2 (Za Zj (Za Zj Ze))) Ze))))))
   (Zh (Z7 (i:=2) ZuZ.nd rfl (by first|exact Or.inl rfl|exact Or.inr rfl) (Jc (JU (K:=K)) (pv 2) (J6 (Za (Z2 (Za Zj (Za Zj Ze))) (Za (Z2 (Za Zj (Za Zj Ze))) (Za (Z2 (Za (Jc JL (Jc JL Zj (Jc UD Zj Zt)) Zj) (Za Zj Ze))) Ze))))))
   (Zo (Z8 (JM (ZW (K:=K)) (pv 2) (Jc VS (pv 1) (Zv (ZA (K:=K)) rfl T.z_len Jo (Za (pv 2) Ze))) (fun _ _=>rfl))))))),
   (Zp (Γm:=[.S,.S,.U]) (J0 (ZcF (Zc (i:=0) (m:=.S) rfl (by decide)))
   (Zp (Γm:=[.S,.S,.O]) (Z6 (i:=2) (Jh (Zk (DE.PF (DE.grd (Zy (Zb (DE.toA Zi) (Zb (DE.toA Zi) Zd))))) (Zk (DE.PF (DE.grd (Zy (Zb (DE.toA Zi) (Zb (DE.toA Zi) Zd))))) (Zk (DE.PF (DE.grd (Zy (Zb (DE.toA Zi) (Zb (DE.toA Zi) Zd))))) (Zk (DE.PF (DE.grd (Zy (Zb (DE.toA Zi) (Zb (DE.toA Zi) Zd))))) ZU))))) (by decide))
   (Zp (Γm:=[.S,.S,.O]) (Z6 (i:=2) (JV (Zc (i:=2) (m:=.O) rfl (by decide)) (DE.toA (Jh (Zk (DE.PF (DE.grd (Zy (Zb (DE.toA Zi) (Zb (DE.toA Zi) Zd))))) (Zk (DE.PF (DE.grd (Zy (Zb (DE.toA Zi) (Zb (DE.toA Zi) Zd))))) (Zk (DE.PF (DE.grd (Zy (Zb (DE.toA Zi) (Zb (DE.toA Zi) Zd))))) ZU)))))) (by decide))
   (Zp (Γm:=[.S,.S,.O]) (Z6 (i:=2) (JV (Zc (i:=2) (m:=.O) rfl (by decide)) (DE.toA (Jh (Zk (DE.PF (DE.grd (Zy (Zb (DE.toA Zi) (Zb (DE.toA Zi) Zd))))) (Zk (DE.PF (DE.grd (Zy (Zb (DE.toA Zi) (Zb (DE.toA Zi) Zd))))) (Zk (DE.PF (DE.grd (Zy (Zb (DE.toA Zi) (Zb (DE.toA Zi) Zd))))) (Zk (DE.PF (DE.grd (Zy (Zb (DE.toA Zi) (Zb (DE.toA Zi) Zd))))) ZU))))))) (by decide))
   (ZZ (DE.grd (Jx (te:=tC .non) (DE.toA (JV (Zc (i:=2) (m:=.O) rfl (by decide)) (DE.toA (Jh (Zk (DE.PF (DE.grd (Zy (Zb (DE.toA Zi) (Zb (DE.toA Zi) Zd))))) (Zk (DE.PF (DE.grd (Zy (Zb (DE.toA Zi) (Zb (DE.toA Zi) Zd))))) (Zk (DE.PF (DE.grd (Zy (Zb (DE.toA Zi) (Zb (DE.toA Zi) Zd))))) ZU))))))) (DE.toA (Uf (Zc (i:=1) (m:=.S) rfl (by decide)) (DE.toA Zs)))))))))
   ZI)
   (Zp (Γm:=[.S,.S,.O]) (Z6 (i:=2) (Jh (Zk (DE.PF (DE.grd (Zy (Zb (DE.toA Zi) (Zb (DE.toA Zi) Zd))))) (Zk (DE.PF (DE.grd (Zy (Zb (DE.toA Zi) (Zb (DE.toA Zi) Zd))))) (Zk (DE.PF (DE.grd (Zy (Zb (DE.toA Zi) (Zb (DE.toA Zi) Zd))))) (Zk (DE.PF (DE.grd (Zy (Zb (DE.toA Zi) (Zb (DE.toA Zi) Zd))))) ZU))))) (by decide))
   (Zp (Γm:=[.S,.S,.O]) (Z6 (i:=2) (JV (Zc (i:=2) (m:=.O) rfl (by decide)) (DE.toA (Jh (Zk (DE.PF (DE.grd (Zy (Zb (DE.toA Zi) (Zb (DE.toA Zi) Zd))))) (Zk (DE.PF (DE.grd (Zy (Zb (DE.toA Zi) (Zb (DE.toA Zi) Zd))))) (Zk (DE.PF (DE.grd (Zy (Zb (DE.toA (VE (DE.toA (VE (DE.toA Zi) (DE.toA (QG (DE.toA Zi) (DE.toA Zs))))) (DE.toA Zi))) (Zb (DE.toA Zi) Zd))))) ZU)))))) (by decide))
   (ZZ (DE.grd (Jx (te:=tC .non) (Zc (i:=2) (m:=.O) rfl (by decide)) (DE.toA (Uf (Zc (i:=1) (m:=.S) rfl (by decide)) (DE.toA (J1 (Zb (Zc (i:=2) (m:=.O) rfl (by decide)) Zd))))))))))), ?_⟩
 refine Pm.ref Zvb (g:=fun xs=>_) ?_
 rintro⟨s,c⟩ (h:0<=c)
 simp only[Zvb]
 cases s with
 |true =>
  walk_at "pd"
  refine seq_ret ?_
  refine Eq.trans (b:=(((Zqf (.int c) (.int 14)).bind fun y=>pIx (.lst (SQ.map prP)) y).bind grd).thenS fun x=>RS.ret x) (by kernel_rfl) ?_
  rw[show Zqf (.int c) (.int 14)=.ok (.int (c%14)) from rfl]
  simp only[Rr.bind_ok]
  rw[Ze8 (q:=prP) (L:=SQ) (k:=c%14) (d:=("", "")) (by omega) (by rw[show SQ.length=14 from by kernel_rfl];omega)]
  rfl
 |false =>
  walk_at "pd"
  rw[Zrk]
  refine Eq.trans (b:=(((((Zg6 [.lst (OQ.map prP)]).bind fun y=>Zqf (.int c) y).bind fun y=>pIx (.lst (OQ.map prP)) y).bind grd).thenS fun x=>RS.ret x).out) (by kernel_rfl) ?_
  rw[show Zg6 [.lst (OQ.map prP)]=.ok (.int 7) by kernel_rfl]
  walk_at "pd"
  rw[Ze8 (q:=prP) (L:=OQ) (k:=c%7) (d:=("", "")) (by omega) (by rw[show OQ.length=7 from by kernel_rfl];omega)]
  walk_at "pd"
  rw[Zos]
  walk_at "pd"
  rfl
theorem ZyE{s:Bool}{c:Int}(h:0<=c):Zvb.fn [.bl s,.int c]=.ok (prP (otP s c)):=Pm.fn_eq Zvb (s,c) h fun(a:Bool×Int) e=>by simp only[Zvb] at e ⊢;walk_at "ij"
noncomputable def T0(h:Int):Str:=if h=0 then "1 0 2" else if h=1 then "100 1 0" else "10001 0 3"
noncomputable def B0(h:Int):List Int:=if h=0 then [1,0,2] else if h=1 then [100,1,0] else [10001,0,3]
noncomputable def Zqd(w:Str):Bool:=decide (w.length<=100)&&!(w.cps.toList.contains 10)&&!(V4 w).isEmpty&&decide ((V4 w).tail.length<=100)&&(V4 w).tail.all fun t=>decide (t.length<=100)
def ZeG(w:Str):Prop:=Vw w/\Vw ((V4 w).headD "")/\∀t∈(V4 w).tail,Vw t/\Vw (StrLaws.sliceText t (some 1) none)
structure Zqq(b:List Int)(p:Str×Str):Prop where
 row:Zqd p.1=true
 lay:ZeG p.1
 x:ZlT b p.1=some p.2
 e:p.2∈EN
theorem Zqq.ok{b:List Int}{p:Str×Str}(hb:Jq b)(h:Zqq b p):QOk b p.1/\Vw p.1/\10 ∉ p.1.cps.toList/\p.1.length<=100:=by
 have hr:=h.row
 unfold Zqd at hr
 simp only[Bool.and_eq_true,decide_eq_true_eq,Bool.not_eq_true',Z36,List.isEmpty_eq_false_iff] at hr
 obtain⟨⟨⟨⟨r1,r2⟩,r3⟩,r4⟩,r5⟩:=hr
 refine⟨⟨hb,by omega,r3,by omega,h.lay.2.1,fun t ht=>⟨h.lay.2.2 t ht,by have:=r5 t ht;omega⟩,p.2,h.e,h.x⟩,h.lay.1,fun z=>?_,r1⟩
 rw[Z3L.mpr z] at r2;cases r2
theorem Zso:∀p∈FQ,ZeG p.1:=by unfold ZeG Vw;simp only[PyData.canLay0];decide +kernel
theorem Zsi:∀p∈NQ,ZeG p:=by unfold ZeG Vw;simp only[PyData.canLay0];decide +kernel
theorem Zsb:∀p∈SQ,ZeG p.1:=by unfold ZeG Vw;simp only[PyData.canLay0];decide +kernel
theorem Zsg:∀p∈OQ,ZeG p.1:=by unfold ZeG Vw;simp only[PyData.canLay0];decide +kernel
theorem Zsm:∀p∈FQ,Zqd p.1=true/\ZlT [1,0,2] p.1=some p.2/\p.2∈EN:=by decide +kernel
theorem ZrZ:∀p∈SQ,Zqd p.1=true/\ZlT [100,1,0] p.1=some p.2/\p.2∈EN:=by decide +kernel
theorem Zse:∀p∈OQ,Zqd p.1=true/\ZlT [10001,0,3] p.1=some p.2/\p.2∈EN:=by decide +kernel
theorem Zsh:∀p∈NQ,Zqd p=true/\ZlT [1,0,2] p=some "BadText"/\ZlT [100,1,0] p=some "BadText"/\ZlT [10001,0,3] p=some "BadText":=by decide +kernel
noncomputable def ZlA(head:Int)(ns:List Int)(k:Nat):Int:=(head/3::ns).getD k 0%10^60
noncomputable def lnQ(h c:Int):Str×Str:=if c%2=1 then (if h=0 then FQ.getD (c/2%25).toNat ("", "") else otP (decide (h=1)) (c/2)) else (NQ.getD (c/2%44).toNat "", "BadText")
noncomputable def qsQ(head:Int)(ns:List Int)(n:Nat):List (Str×Str):=(List.range n).map fun k=>lnQ (head%3) (ZlA head ns k)
noncomputable def Zj4(p:Str×Str):PV:=.tup [.str "refused",.str p.2]
theorem Zsr(h:Int):Jq (B0 h):=by
 unfold B0
 split
 ·exact Vi.mp (by decide)
 ·split<;>exact Vi.mp (by decide)
theorem Zdj{α:Type}{L:List α}{i:Nat}{d:α}(h:i<L.length):L.getD i d∈L:=by
 rw[Z3n,Z3r h];exact Z4j h
theorem Zsn:FQ.length=25:=by kernel_rfl
theorem Zsa:SQ.length=14:=by kernel_rfl
theorem Zsf:OQ.length=7:=by kernel_rfl
theorem Zo9:NQ.length=44:=by kernel_rfl
theorem ZmO{h c:Int}(hc:0<=c)(hh:h=0\/h=1\/h=2):Zqq (B0 h) (lnQ h c):=by
 have nq:∀w∈NQ,Zqq (B0 h) (w, "BadText"):=fun w hw=>by
  obtain⟨r1,r2,r3,r4⟩:=Zsh w hw
  refine⟨r1,Zsi w hw, ?_,by show ("BadText":Str)∈EN;decide +kernel⟩
  rcases hh with rfl|rfl|rfl
  ·exact r2
  ·exact r3
  ·exact r4
 unfold lnQ
 by_cases c1:c%2=1
 ·rw[if_pos c1]
  rcases hh with rfl|rfl|rfl
  ·rw[if_pos rfl]
   have hm:FQ.getD (c/2%25).toNat ("", "")∈FQ:=Zdj (by rw[Zsn];omega)
   generalize FQ.getD (c/2%25).toNat ("", "")=p at hm ⊢
   obtain⟨r1,r2,r3⟩:=Zsm p hm
   exact⟨r1,Zso p hm,r2,r3⟩
  ·rw[if_neg (by decide),show otP (decide ((1:Int)=1)) (c/2)=SQ.getD (c/2%14).toNat ("", "") from rfl]
   have hm:SQ.getD (c/2%14).toNat ("", "")∈SQ:=Zdj (by rw[Zsa];omega)
   generalize SQ.getD (c/2%14).toNat ("", "")=p at hm ⊢
   obtain⟨r1,r2,r3⟩:=ZrZ p hm
   exact⟨r1,Zsb p hm,r2,r3⟩
  ·rw[if_neg (by decide),show otP (decide ((2:Int)=1)) (c/2)=OQ.getD (c/2%7).toNat ("", "") from rfl]
   have hm:OQ.getD (c/2%7).toNat ("", "")∈OQ:=Zdj (by rw[Zsf];omega)
   generalize OQ.getD (c/2%7).toNat ("", "")=p at hm ⊢
   obtain⟨r1,r2,r3⟩:=Zse p hm
   exact⟨r1,Zsg p hm,r2,r3⟩
 ·rw[if_neg c1]
  exact nq _ (Zdj (by rw[Zo9];omega))
theorem Zit(head:Int)(ns:List Int)(k:Nat):0<=ZlA head ns k:=Int.emod_nonneg _ (by decide)
theorem ZhE{head:Int}{ns:List Int}{n:Nat}:∀p∈qsQ head ns n,Zqq (B0 (head%3)) p:=fun p hp=>by
 unfold qsQ at hp
 obtain⟨k,_,rfl⟩:=Z3G.mp hp
 exact ZmO (Zit _ _ _) (by omega)
theorem Zmo{head:Int}{ns:List Int}{n:Nat}:qsQ head ns (n+1)=qsQ head ns n++[lnQ (head%3) (ZlA head ns n)]:=by
 unfold qsQ;rw[List.range_succ,Z3P];rfl
theorem Ze2{head:Int}{ns:List Int}{n:Nat}:(qsQ head ns n).length=n:=by simp[qsQ]
theorem ZtB(h:Int)(hh:h=0\/h=1\/h=2):pIx (.lst [.str "1 0 2",.str "100 1 0",.str "10001 0 3"]) (.int h)=.ok (.str (T0 h)):=by
 rcases hh with rfl|rfl|rfl<;>rfl
theorem ZrY(h:Int):(Vw (T0 h)/\(T0 h).length<=100)/\10 ∉ (T0 h).cps.toList/\(V3 (T0 h)).length<=1000/\rdW (V3 (T0 h))=.ok (.lst ((B0 h).map PV.int)):=by
 unfold T0 B0
 split
 ·exact⟨⟨by unfold Vw;rw[PyData.canLay0];decide +kernel,by decide⟩,by decide +kernel,by decide +kernel,by kernel_rfl⟩
 ·split
  ·exact⟨⟨by unfold Vw;rw[PyData.canLay0];decide +kernel,by decide⟩,by decide +kernel,by decide +kernel,by kernel_rfl⟩
  ·exact⟨⟨by unfold Vw;rw[PyData.canLay0];decide +kernel,by decide⟩,by decide +kernel,by decide +kernel,by kernel_rfl⟩
theorem Zsp:∀e∈EN,Vw e:=by unfold Vw;simp only[PyData.canLay0];decide +kernel
theorem ZuF{b:List Int}{p:Str×Str}(h:Zqq b p):Zfc b p.1=Zj4 p:=by unfold Zfc Zj4;rw[h.x];rfl
theorem ZpM{head:Int}{ns:List Int}{n:Nat}{e:Bool}(h0:0<n)(h1:n<=21)(he:e=false->∀w,((qsQ head ns n).map (·.1)).getLast?=some w->(w==("":Str))=false):ZeZ (T0 (head%3)) (B0 (head%3)) ((qsQ head ns n).map (·.1)) e:=by
 obtain⟨t1,t2,t3,t4⟩:=ZrY (head%3)
 refine⟨Zsr _,t1,t2,t3,t4,fun z=>?_,by rw[Z3w,Ze2];exact h1,fun w hw=>?_,he⟩
 ·have:=congrArg List.length z
  rw[Z3w,Ze2] at this
  simp at this;omega
 ·obtain⟨p,hp,rfl⟩:=Z3G.mp hw
  exact(ZhE p hp).ok (Zsr _)
theorem Zmf{L:List Str}{k:Nat}(h:∀w∈L,w.length<=k):(L.map (·.length)).sum<=L.length*k:=by
 induction L with
 |nil=>simp
 |cons a l ih =>
  have:=ih fun w hw=>h w (by simp[hw])
  have ha:=h a (by simp)
  rw[Z31,Z4a,Z3t,Nat.add_mul,Nat.one_mul]
  omega
theorem Zm5{t0:Str}{b:List Int}{ws:List Str}{e:Bool}(h:ZeZ t0 b ws e):Zkv ("\n":Str) [.lst ((t0::(ws++Jr e)).map PV.str)]=.ok (.str (Zny t0 ws e)):=by
 have hl:(t0::(ws++Jr e)).length<=23:=by
  have:=h.len
  cases e<;>simp only[Z3t,Z3y,Jr,Z3F,if_true,if_false,Bool.false_eq_true]<;>omega
 have hk:=Zmf (L:=t0::(ws++Jr e)) (k:=100) fun w hw=>by
  rcases Z3v.mp hw with rfl|hw
  ·exact h.lay.2
  ·rcases Z3q.mp hw with hw|hw
   ·exact(h.q w hw).2.2.2
   ·rw[Zdr hw];decide
 have hm:(t0::(ws++Jr e)).length*100<=23*100:=Z4E _ hl
 unfold Zkv
 simp only[Zi9]
 rw[show ("\n":Str)=nlS by decide,if_pos (by rw[show nlS.length=1 from rfl];omega),show Txt.join nlS (t0::(ws++Jr e))=Str.join nlS (t0::(ws++Jr e)) from StrLaws.glued_eq_join nlS _]
 rfl
theorem ZgA{xs:List PV}{y:PV}(h:xs.length<=1000):pApp (.lst xs) y=.ok (.lst (xs++[y])):=by
 simp only[pApp];rw[if_pos (by omega)]
noncomputable def Z0v:Pm:=⟨List Int,fun ns=>[.lst (ns.map PV.int)],fun ns=>ns.length<=63,fun _=>.ok (.bl true)⟩
theorem Z3e(T:Txt w K mg){f:Addr}{fd:FuncData}(F:Fun K "law" "law" Z2V f fd):Jp P w K mg base CX0 13 f fd ["script"] (spF K 1 .P W0 Z0v.fn):=by
 have Z2U:=UE (P:=P) (w:=w) (base:=base) T.Z2F Z2y (fun F=>Z2e T F)
 have Z1g:=ZV (P:=P) (w:=w) (base:=base) T.Z0F Z0l (fun F=>ZzX T F)
 have Zya:=UE (P:=P) (w:=w) (base:=base) T.ZxW ZxM (fun F=>ZxJ T F)
 have Zzi:=UE (P:=P) (w:=w) (base:=base) T.ZyW ZyG (fun F=>ZyC T F)
 have ZyH:=UE (P:=P) (w:=w) (base:=base) T.ZyD Zyy (fun F=>Zyx T F)
 refine F.okP ZwL rfl rfl (fun cdv A outer s H E hr=>?_)
 have hu:=hr.units
 refine⟨_,_,⟨[],[],[],.P⟩,rfl,(Zh (Z7 (i:=1) ZwL.nd rfl (by first|exact Or.inl rfl|exact Or.inr rfl) (ZK Z2U (hr.mono (by decide)) rfl (Za (pv 0) (Za Zt Ze))))
   (Zh (Z7 (i:=2) ZwL.nd rfl (by first|exact Or.inl rfl|exact Or.inr rfl) (JM (ZW (K:=K)) (J6 (Za Zj (Za Zj (Za Zj Ze)))) (Jc VS (pv 1) Zt) (fun _ _=>rfl)))
   (Zh (Z7 (i:=3) ZwL.nd rfl (by first|exact Or.inl rfl|exact Or.inr rfl) (J6 (Za (pv 2) Ze)))
   (Zh (Z7 (i:=4) ZwL.nd rfl (by first|exact Or.inl rfl|exact Or.inr rfl) (J6 Ze))
   (Zh (ZhH PassesOwn.never rfl (QM rfl T.z_range (Za (Jc ZhQ (Zv (ZA (K:=K)) rfl T.z_len Jo (Za (Ul (QK (K:=K)) (pv 0) ZbG (ZbF Zt)) Ze)) Zt) Ze)) (VP (i:=5) ZwL.nd rfl (by first|exact Or.inl rfl|exact Or.inr rfl)) (Zh (Z7 (i:=6) ZwL.nd rfl (by first|exact Or.inl rfl|exact Or.inr rfl) (Jc VS (JM (ZW (K:=K)) (Jc (JU (K:=K)) (J6 (Za (Jc Um (pv 1) Zt) Ze)) (pv 0)) (pv 5) (fun _ _=>rfl)) (Jc Zk5 Zt Zt)))
   (Zh (Z7 (i:=7) ZwL.nd rfl (by first|exact Or.inl rfl|exact Or.inr rfl) (QN Zya (hr.mono (by decide)) rfl))
   (Zh (Z7 (i:=8) ZwL.nd rfl (by first|exact Or.inl rfl|exact Or.inr rfl) (JM (ZW (K:=K)) (pv 7) (Jc VS (Jc Um (pv 6) Zt) (Zv (ZA (K:=K)) rfl T.z_len Jo (Za (pv 7) Ze))) (fun _ _=>rfl)))
   (Zh (Z7 (i:=9) ZwL.nd rfl (by first|exact Or.inl rfl|exact Or.inr rfl) Zj)
   (Zh (Jz (PW.pt (U8 (Z3 (JI (K:=K) hu) (Jc VS (pv 6) Zt) Zt (Z9 _)) (VO (Z3 (JI (K:=K) hu) (Jc VS (pv 1) Zt) Zt (Z9 _))))) (Zo (ZnN (ZK Zzi (hr.mono (by decide)) rfl (Za (Jc Um (pv 6) Zt) Ze)) (ZnO rfl (Zdc (VP (i:=8) ZwL.nd rfl (by first|exact Or.inl rfl|exact Or.inr rfl)) (Zdc (VP (i:=9) ZwL.nd rfl (by first|exact Or.inl rfl|exact Or.inr rfl)) Zki))))) (Zo (Jz (Z3 (JI (K:=K) hu) (Jc VS (pv 6) Zt) Zt (Z9 _)) (Zo (ZnN (ZK ZyH (hr.mono (by decide)) rfl (Za (JZ (JI (K:=K) hu) (Jc VS (pv 1) Zt) Zt (Z9 _)) (Za (Jc Um (pv 6) Zt) Ze))) (ZnO rfl (Zdc (VP (i:=8) ZwL.nd rfl (by first|exact Or.inl rfl|exact Or.inr rfl)) (Zdc (VP (i:=9) ZwL.nd rfl (by first|exact Or.inl rfl|exact Or.inr rfl)) Zki))))) ZH)))
   (Zh (ZJ (Ze5 PySem.F.plainAttrs_list PySem.F.slot_list_append PySem.F.type_list_append Zd5 (pv 3) (Za (pv 8) Ze)))
   (Zo (ZJ (Ze5 PySem.F.plainAttrs_list PySem.F.slot_list_append PySem.F.type_list_append Zd5 (pv 4) (Za (Z2 (Za Zj (Za (pv 9) Ze))) Ze)))))))))))
   (Zh (Jz (PW.pt (UC (Z3 (JI (K:=K) hu) (JM (ZW (K:=K)) (pv 3) (ZiD ZdR Zt) (fun _ _=>rfl)) Zj (Z9 _)) (V6 (Z3 (JI (K:=K) hu) (Jc VS (Jc Um (pv 1) Zt) Zt) Zt (Z9 _))))) (Zo (ZJ (Ze5 PySem.F.plainAttrs_list PySem.F.slot_list_append PySem.F.type_list_append Zd5 (pv 3) (Za Zj Ze)))) ZH)
   (Zh (Z7 (i:=10) ZwL.nd rfl (by first|exact Or.inl rfl|exact Or.inr rfl) (Zu Z1g (hr.mono (by decide)) rfl ZoX (Za (Ze5 PySem.F.plainAttrs_str PySem.F.slot_str_join PySem.F.type_str_join (Zps (K:=K)) Zj (Za (pv 3) Ze)) Ze)))
   (Zo (Z8 (Zeg (Zv (Vb (K:=K) (n := "list") rfl) rfl T.z_isinstance Jg (Za (pv 10) (Za (VA (v:=.ty "list") rfl T.z_list V2 rfl) Ze))) (Zd0 (JZ (JI (K:=K) hu) (pv 10) (pv 4) (Z9 _))))))))))))),
   (Zp (Γm:=[.S,.P,.U,.U,.U,.U,.U,.U,.U,.U,.U]) (Vm (i:=1) (Znr (Zf (Zf Zn)) (Zb (Zc (i:=0) (m:=.S) rfl (by decide)) (Zb (DE.toA Zs) Zd))) (by decide))
   (Zp (Γm:=[.S,.P,.P,.U,.U,.U,.U,.U,.U,.U,.U]) (Vm (i:=2) (DE.grd (Jx (te:=tC .non) (DE.toA (Jh (Zk (DE.PF Zi) (Zk (DE.PF Zi) (Zk (DE.PF Zi) ZU))))) (DE.toA (Uf (DE.toA (Jb (i:=1) rfl)) (DE.toA Zs))))) (by decide))
   (Zp (Γm:=[.S,.P,.P,.O,.U,.U,.U,.U,.U,.U,.U]) (Z6 (i:=3) (Jh (Zk (DE.PF (Jb (i:=2) rfl)) ZU)) (by decide))
   (Zp (Γm:=[.S,.P,.P,.O,.O,.U,.U,.U,.U,.U,.U]) (Z6 (i:=4) (Jh ZU) (by decide))
   (Zp (Γm:=[.S,.P,.P,.O,.O,.U,.U,.U,.U,.U,.U]) (Zil (Γl:=[.S,.P,.P,.O,.O,.U,.U,.U,.U,.U,.U]) (ZeM (Zb (DE.toA (Ziq (DE.toA (J1 (Zb (DE.toA (ZfT (Zc (i:=0) (m:=.S) rfl (by decide)) ZcA (Zc9 (DE.toA Zs)))) Zd))) (DE.toA Zs))) Zd)) rfl (Zs5 (i:=5) (by decide))
   (DS.out (Y:=⟨[.S,.P,.P,.O,.O,.P,.P,.O,.P,.P,.U],[.S,.P,.P,.O,.O,.U,.U,.U,.U,.U,.U],[.S,.P,.P,.O,.O,.U,.U,.U,.U,.U,.U],.P⟩) (Y':=⟨[.S,.P,.P,.O,.O,.U,.U,.U,.U,.U,.U],[.S,.P,.P,.O,.O,.U,.U,.U,.U,.U,.U],[.S,.P,.P,.O,.O,.U,.U,.U,.U,.U,.U],.P⟩) (Zp (Γm:=[.S,.P,.P,.O,.O,.P,.P,.U,.U,.U,.U]) (Vm (i:=6) (Uf (Jx (te:=tC .non) (DE.toA (JV (DE.toA (Jh (Zk (DE.PF (Zeq (DE.toA (Jb (i:=1) rfl)) (DE.toA Zs))) ZU))) (Zc (i:=0) (m:=.S) rfl (by decide)))) (DE.toA (Jb (i:=5) rfl))) (DE.toA (Zlv (DE.toA Zs) (DE.toA Zs)))) (by decide))
   (Zp (Γm:=[.S,.P,.P,.O,.O,.P,.P,.O,.U,.U,.U]) (Z6 (i:=7) (Zs7 Zn Zd) (by decide))
   (Zp (Γm:=[.S,.P,.P,.O,.O,.P,.P,.O,.P,.U,.U]) (Vm (i:=8) (DE.grd (Jx (te:=tC .non) (Zc (i:=7) (m:=.O) rfl (by decide)) (DE.toA (Uf (DE.toA (Zeq (DE.toA (Jb (i:=6) rfl)) (DE.toA Zs))) (DE.toA (J1 (Zb (Zc (i:=7) (m:=.O) rfl (by decide)) Zd))))))) (by decide))
   (Zp (Γm:=[.S,.P,.P,.O,.O,.P,.P,.O,.P,.P,.U]) (Vm (i:=9) Zi (by decide))
   (Zp (Γm:=[.S,.P,.P,.O,.O,.P,.P,.O,.P,.P,.U]) (J0 (U9 (Z1 (DE.toA (Jn (g:=id) (DE.toA (Uf (DE.toA (Jb (i:=6) rfl)) (DE.toA Zs))) (DE.toA Zs)))) (Z1 (DE.toA (Jn (g:=id) (DE.toA (Uf (DE.toA (Jb (i:=1) rfl)) (DE.toA Zs))) (DE.toA Zs)))))
   (Zlq (DE.PF (Znr (Zf Zn) (Zb (DE.toA (Zeq (DE.toA (Jb (i:=6) rfl)) (DE.toA Zs))) Zd))) (Zls (n:=2) (Zb7 (Znn (i:=8) (by decide)) (Zb7 (Znn (i:=9) (by decide)) Zin))))
   (J0 (Z1 (DE.toA (Jn (g:=id) (DE.toA (Uf (DE.toA (Jb (i:=6) rfl)) (DE.toA Zs))) (DE.toA Zs))))
   (Zlq (DE.PF (Znr (Zf (Zf Zn)) (Zb (DE.toA (Jn (g:=id) (DE.toA (Uf (DE.toA (Jb (i:=1) rfl)) (DE.toA Zs))) (DE.toA Zs))) (Zb (DE.toA (Zeq (DE.toA (Jb (i:=6) rfl)) (DE.toA Zs))) Zd)))) (Zls (n:=2) (Zb7 (Znn (i:=8) (by decide)) (Zb7 (Znn (i:=9) (by decide)) Zin))))
   ZI))
   (Zp (Γm:=[.S,.P,.P,.O,.O,.P,.P,.O,.P,.P,.U]) (Zhg (i:=3) rfl rfl (DE.PF (Jb (i:=8) rfl)))
   (Zhg (i:=4) rfl rfl (DE.PF (DE.grd (Zy (Zb (DE.toA Zi) (Zb (DE.toA (Jb (i:=9) rfl)) Zd)))))))))))) rfl rfl rfl rfl))
   (Zp (Γm:=[.S,.P,.P,.O,.O,.U,.U,.U,.U,.U,.U]) (J0 (QE (Z1 (DE.toA (Jn (g:=id) (Jx (te:=tC .non) (Zc (i:=3) (m:=.O) rfl (by decide)) (DE.toA (Zep (DE.toA Zs)))) (DE.toA Zi)))) (Z1 (DE.toA (Jn (g:=id) (DE.toA (Uf (DE.toA (Zeq (DE.toA (Jb (i:=1) rfl)) (DE.toA Zs))) (DE.toA Zs))) (DE.toA Zs)))))
   (Zhg (i:=3) rfl rfl (DE.PF Zi))
   ZI)
   (Zp (Γm:=[.S,.P,.P,.O,.O,.U,.U,.U,.U,.U,.O]) (Z6 (i:=10) (ZuB (Zf Zn) (Zb (DE.toA (ZpD (DE.toA Zi) (Zb (Zc (i:=3) (m:=.O) rfl (by decide)) Zd))) Zd)) (by decide))
   (ZZ (Zer (DE.toA (Zb8 (Zc (i:=10) (m:=.O) rfl (by decide)))) (Jn (g:=id) (Zc (i:=10) (m:=.O) rfl (by decide)) (Zc (i:=4) (m:=.O) rfl (by decide)))))))))))), ?_⟩
 refine Pm.ref Z0v (g:=fun xs=>_) ?_
 rintro(ns:List Int) (hn:ns.length<=63)
 simp only[Z0v]
 walk_at "pd"
 rw[Z2M (by omega)]
 walk_at "pd"
 generalize ns.getD 0 0=head
 have hh:head%3=0\/head%3=1\/head%3=2:=by omega
 rw[ZtB _ hh]
 walk_at "pd"
 obtain⟨N,hN⟩:∃N:Nat,(List.take 20 ns).length+1=N:=⟨_,rfl⟩
 have hN0:0<N:=by omega
 have hN1:N<=21:=by rw[<- hN,Z3X];omega
 have hN2:N<=ns.length+1:=by rw[<- hN,Z3X];omega
 rw[show (((List.take 20 ns).length:Int)+1).toNat=N by omega]
 generalize hT0:T0 (head%3)=t0
 generalize hw:Zj5 _ _ _=W
 obtain⟨ρ',rfl,v5,v6,v7,v8,v9,rfl⟩:=ZdC hw (fun i ρ=>∃v5 v6 v7 v8 v9,ρ=[.lst (ns.map PV.int),.int head,.str t0,.lst ((t0::(qsQ head ns i).map (·.1)).map PV.str),.lst ((qsQ head ns i).map Zj4),v5,v6,v7,v8,v9,.non]) ⟨_,_,_,_,_,rfl⟩ (by
  rintro i x ρ hx ⟨v5,v6,v7,v8,v9,rfl⟩
  obtain⟨hi,rfl⟩:i<N/\x=.int (i:Int):=by
   unfold Ze0 at hx
   rw[Z3A] at hx
   by_cases c:i<N
   ·rw[Z3U c] at hx
    cases hx
    exact⟨c,by simp⟩
   ·rw[Z30 (by rw[Z47];omega)] at hx;cases hx
  walk_at "pd"
  rw[show PV.int (head/3)::ns.map PV.int=(head/3::ns).map PV.int from rfl,Zde (by omega) (by rw[Z3t];omega)]
  walk_at "pd"
  have hc:=Zit head ns i
  rw[show (head/3::ns).getD ((i:Int)).toNat 0%10^60=ZlA head ns i from rfl]
  have hs:=Zmo (head:=head) (ns:=ns) (n:=i)
  unfold lnQ at hs
  generalize ZlA head ns i=c at hc hs ⊢
  rw[ZxY]
  walk_at "pd"
  rw[show Zg6 [.lst (NQ.map PV.str)]=.ok (.int 44) by kernel_rfl]
  walk_at "pd"
  rw[Ze8 (q:=PV.str) (L:=NQ) (k:=c/2%44) (d:=("":Str)) (by omega) (by rw[Zo9];omega)]
  walk_at "pd"
  have hq:(qsQ head ns i).length=i:=Ze2
  have fin:∀(p:Str×Str) (v5 v6 v7:PV),qsQ head ns (i+1)=qsQ head ns i++[p]->∃v5' v6' v7' v8' v9',([.lst (ns.map PV.int),.int head,.str t0,.lst ((PV.str t0::List.map PV.str (List.map (fun x=>x.fst) (qsQ head ns i)))++[.str p.1]),.lst (List.map Zj4 (qsQ head ns i)++[.tup [.str "refused",.str p.2]]),v5,v6,v7,.str p.1,.str p.2,.non]:List PV)=[.lst (ns.map PV.int),.int head,.str t0,.lst ((t0::(qsQ head ns (i+1)).map (·.1)).map PV.str),.lst ((qsQ head ns (i+1)).map Zj4),v5',v6',v7',v8',v9',.non]:=fun p v5 v6 v7 e=>⟨v5,v6,v7,.str p.1,.str p.2,by rw[e];simp[Zj4]⟩
  have a1:∀y,pApp (.lst (PV.str t0::List.map PV.str (List.map (fun x=>x.fst) (qsQ head ns i)))) y=.ok (.lst ((PV.str t0::List.map PV.str (List.map (fun x=>x.fst) (qsQ head ns i)))++[y])):=fun y=>ZgA (by simp only[Z3t,Z3w,hq];omega)
  have a2:∀y,pApp (.lst (List.map Zj4 (qsQ head ns i))) y=.ok (.lst (List.map Zj4 (qsQ head ns i)++[y])):=fun y=>ZgA (by simp only[Z3w,hq];omega)
  by_cases c1:c%2=1
  ·rw[if_pos c1] at hs
   rw[decide_eq_true c1]
   by_cases c3:head%3=0
   ·rw[if_pos c3] at hs
    rw[decide_eq_true c3]
    walk_at "pd"
    rw[ZyZ (by omega)]
    generalize FQ.getD (c/2%25).toNat ("", "")=p at hs ⊢
    walk_at "pd"
    rw[show asT 2 (prP p)=.ok [.str p.1,.str p.2] from rfl]
    walk_at "pd"
    rw[a1]
    walk_at "pd"
    rw[show grd (.tup [.str ("refused":Str),.str p.2])=.ok (.tup [.str "refused",.str p.2]) from rfl]
    walk_at "pd"
    rw[a2]
    walk_at "pd"
    exact Zf4 (fin p _ _ _ hs)
   ·rw[if_neg c3] at hs
    rw[decide_eq_false c3]
    walk_at "pd"
    rw[ZyE (by omega)]
    generalize otP (decide (head%3=1)) (c/2)=p at hs ⊢
    walk_at "pd"
    rw[show asT 2 (prP p)=.ok [.str p.1,.str p.2] from rfl]
    walk_at "pd"
    rw[a1]
    walk_at "pd"
    rw[show grd (.tup [.str ("refused":Str),.str p.2])=.ok (.tup [.str "refused",.str p.2]) from rfl]
    walk_at "pd"
    rw[a2]
    walk_at "pd"
    exact Zf4 (fin p _ _ _ hs)
  ·rw[if_neg c1] at hs
   rw[decide_eq_false c1]
   walk_at "pd"
   rw[a1]
   walk_at "pd"
   rw[show grd (.tup [.str ("refused":Str),.str ("BadText":Str)])=.ok (.tup [.str "refused",.str "BadText"]) from rfl]
   walk_at "pd"
   rw[a2]
   walk_at "pd"
   exact Zf4 (fin (NQ.getD (c/2%44).toNat "", "BadText") _ _ _ hs))
 have hrl:(Ze0 0 N).length=N:=by unfold Ze0;rw[Z3w,Z47]
 rw[hrl]
 have hA:=fun(e:Bool) he=>ZpM (head:=head) (ns:=ns) (n:=N) (e:=e) hN0 hN1 he
 have hG:=ZhE (head:=head) (ns:=ns) (n:=N)
 have hql:(qsQ head ns N).length=N:=Ze2
 generalize qsQ head ns N=qs at hA hG hql
 rw[hT0] at hA
 obtain⟨l,p,rfl⟩:∃l p,qs=l++[p]:=by
  rcases List.eq_nil_or_concat qs with z|⟨l,p,z⟩
  ·rw[z] at hql;simp at hql;omega
  ·exact⟨l,p,by rw[z];simp⟩
 have hL:(t0::(l++[p]).map (·.1)).map PV.str=(PV.str t0::List.map PV.str (List.map (fun x=>x.fst) l))++[.str p.1]:=by simp
 rw[hL]
 walk_at "pd"
 rw[<- Z4k,Zg7]
 have hp:=hG p (by simp)
 walk_at "pd"
 rw[Zl hp.lay.1 ZgX]
 walk_at "pd"
 generalize hTAIL:(fun(ρ:List PV)=>((((Zkv (Str.ofString "\n") [gv 3 ρ]).bind _).bind Zv0.fn).thenS _).seq _)=TAIL
 have hdat:Dat 2 (.lst ((l++[p]).map Zj4)):=ZpG fun x hx=>by
  obtain⟨q,hq,rfl⟩:=Z3G.mp hx
  exact ZpF fun y hy=>by
   simp only[Z3v,Z4C,or_false] at hy
   rcases hy with rfl|rfl
   ·exact Zl3 (by rw[PyData.canLay0];decide +kernel)
   ·exact Zl3 (Zsp _ (hG q hq).e)
 have hans:((l++[p]).map (·.1)).map (Zfc (B0 (head%3)))=(l++[p]).map Zj4:=by
  rw[Z4x]
  exact Z4N fun q hq=>ZuF (hG q hq)
 have fin2:∀e:Bool,(e=false->(p.1==("":Str))=false)->(TAIL [.lst (ns.map PV.int),.int head,.str t0,.lst ((t0::((l++[p]).map (·.1)++Jr e)).map PV.str),.lst ((l++[p]).map Zj4),v5,v6,v7,v8,v9,.non]).out=.ok (.bl true):=fun e he=>by
  subst hTAIL
  have hA:=hA e fun z w hw=>by
   have:w=p.1:=by simpa using hw.symm
   rw[this];exact he z
  have hj:=Zm5 hA
  generalize (t0::((l++[p]).map (·.1)++Jr e)).map PV.str=L at hj
  walk_at "pd"
  rw[hj]
  walk_at "pd"
  rw[Z0O hA,hans]
  generalize (l++[p]).map Zj4=R at hdat
  walk_at "pd"
  rw[show ZO id (.lst R) (.lst R)=.ok (.bl true) by
   unfold ZO
   rw[hdat.ok (by decide),Bool.and_self,if_pos rfl,PySem.SeqAt.eqv_refl _ hdat.can];rfl]
  walk_at "pd"
 have app:pApp (.lst (PV.str t0::(List.map PV.str (List.map (fun x=>x.fst) l)++[.str p.1]))) (.str ("":Str))=.ok (.lst ((t0::((l++[p]).map (·.1)++Jr true)).map PV.str)):=by
  rw[ZgA (by simp only[Z3y,Z3t,Z3w,Z3F] at hql ⊢;omega),show Jr true=[("":Str)] from rfl]
  simp
 have non:PV.str t0::(List.map PV.str (List.map (fun x=>x.fst) l)++[.str p.1])=(t0::((l++[p]).map (·.1)++Jr false)).map PV.str:=by
  rw[show Jr false=[] from rfl];simp
 cases he:(p.1==("":Str)) with
 |true =>
  walk_at "pd"
  rw[app]
  walk_at "pd"
  exact fin2 true fun z=>by cases z
 |false =>
  walk_at "pd"
  by_cases c6:head/6%2=1
  ·rw[decide_eq_true c6]
   walk_at "pd"
   rw[app]
   walk_at "pd"
   exact fin2 true fun z=>by cases z
  ·rw[decide_eq_false c6]
   walk_at "pd"
   rw[non]
   exact fin2 false fun _=>he
noncomputable def ZjP(K:W.Frag):Sp:=spF K 1 .P W0 Z0v.fn
theorem Zrq{l:PySem.W.OpenLaw}(T:Txt w K mg){fa:Addr}(hmg:mg "law"=some (.ref fa)):∃fd:FuncData,(∀(s:Shared) (u:Value),BindsTo s fd ⟨[u],[]⟩ [("script",u)]) /\
  ∀base:Heap,K.In base->base.Ns mainGlobals mg->Jp l.prog w K mg base CX0 13 fa fd ["script"] (ZjP K):=by
 obtain⟨f,fd,F,hm⟩:=T.Z3m
 rw[hmg] at hm
 cases hm
 refine⟨fd,fun s u=>?_,fun base _ _=>Z3e T F⟩
 obtain⟨oc,od,kV,doc,pm,an,cdv,ct,osl,rfl,lk,hcd⟩:=F.ex
 exact .of_eq (Z3j kV doc pm an cdv ct [u] rfl)
theorem ZkQ{H:Hp}{a:Addr}{ns:List Int}(hl:ns.length<=63)(hO:Zsd H)(hS:SqL K H a (ns.map V.int)):ZjP K [.ref a] H (fun v _=>v=.bl true) fun _ _ _=>False:=
 Zje (Pm.fn_eq Z0v ns hl fun _ _=>rfl) hS
end
theorem Zx{K:W.Frag}{h:Heap}{mg:Str->Option Value}{x:Str}{st:Stmt}{f:Addr}{od an:Option Addr}{sl:Array (Option Value)}{oc kV dc pm cd ct:Value}(X:K.In h)(G:h.Ns mainGlobals mg)(a:PySem.W.nsIn K mainGlobals x=some (some (.ref f)))(l:K.lookup f=some ⟨oc,od,.func (PySem.W.fnOf x x (QF st) (Vr st) (Zm st) .none kV dc pm an cd ct),sl⟩)(c:PySem.W.codeIn K cd x=true)(k:PySem.W.keepIn K (.ref f)=true):Dfn K mg x st:=⟨_,_,Zou (st:=st) l c k,PySem.W.mg_of X G a⟩
theorem VI{K:W.Frag}{h:Heap}{mg:Str->Option Value}{x:Str}{v:Tok->Value}{t:Tok}(X:K.In h)(G:h.Ns mainGlobals mg)(a:PySem.W.nsIn K mainGlobals x=some (some (v t))):∃t,mg x=some (v t):=⟨t,PySem.W.mg_of X G a⟩
theorem VH{K:W.Frag}{x m q:Str}{st:Stmt}{C f:Addr}{od an:Option Addr}{sl:Array (Option Value)}{oc kV dc pm cd ct:Value}(a:PySem.W.nsIn K mainGlobals x=some (some (.ref C)))(b:PySem.W.findIn K (.ref C) m=some (some (.ref f)))(t:PySem.W.typeIn K (.ref f)=some (.type "function"))(l:K.lookup f=some ⟨oc,od,.func (PySem.W.fnOf m q (QF st) (Vr st) (Zm st) .none kV dc pm an cd ct),sl⟩)(c:PySem.W.codeIn K cd q=true)(k:PySem.W.keepIn K (.ref f)=true):Zj0 K x m q st:=⟨_,_,_,a,b,t,Zou (st:=st) l c k⟩
end My
namespace PySem.W.Fast
noncomputable def tw14907823764525595185:=()
noncomputable def tw2832915883730205213:=()
noncomputable def tw2760221897222778051:=()
noncomputable def tw2052331086856433886:=()
noncomputable def tw8279317427268358053:=()
noncomputable def tw2246750046776853447:=()
noncomputable def tw12944319817722752691:=()
noncomputable def tw18164920783858833656:=()
noncomputable def tw10098418528076742801:=()
noncomputable def tw7913007772115336677:=()
noncomputable def tw797169653026192908:=()
noncomputable def tw12738202384055022624:=()
noncomputable def tw7643891146602453879:=()
noncomputable def tw9612444688820406970:=()
noncomputable def tw2663780201226518567:=()
noncomputable def tw5156051993200002654:=()
noncomputable def tw629762546698004950:=()
noncomputable def tw15453604005274953551:=()
noncomputable def tw11440868684835576040:=()
noncomputable def tw4935086041026055473:=()
noncomputable def tw9656340874207984914:=()
noncomputable def tw11414310391972629491:=()
noncomputable def tw16782457772596599330:=()
noncomputable def tw11120244836163079172:=()
noncomputable def tw14407698671575183666:=()
noncomputable def tw9534468936726215694:=()
noncomputable def tw2984894962275466374:=()
noncomputable def tw9940206739430422515:=()
noncomputable def tw9268426436034131270:=()
noncomputable def tw13326879335414548970:=()
noncomputable def tw3046840788660918626:=()
noncomputable def tw14767005615511782940:=()
noncomputable def tw5036781770312711741:=()
noncomputable def tw12566510807239530537:=()
noncomputable def tw13760397376180834930:=()
noncomputable def tw5981257192459700051:=()
noncomputable def tw8564493692561775298:=()
noncomputable def tw14678773362574100812:=()
noncomputable def tw6398912482754565021:=()
noncomputable def tw2127059396610659744:=()
noncomputable def tw2363776712552668707:=()
noncomputable def tw7544934714810994776:=()
noncomputable def tw18108492765740304247:=()
noncomputable def tw18259120207290360117:=()
noncomputable def tw9671237401889904040:=()
noncomputable def tw15978160005714940304:=()
noncomputable def tw13754280366648570395:=()
noncomputable def tw13669095153146843993:=()
noncomputable def tw5722353914217394851:=()
noncomputable def tw15665343463634772269:=()
noncomputable def tw18046094483016050336:=()
noncomputable def tw16221359934227662808:=()
noncomputable def tw11416072808465102000:=()
noncomputable def tw2107753664746982095:=()
noncomputable def tw7786745798282171025:=()
noncomputable def tw5205430053285319202:=()
noncomputable def tw18113910986003149833:=()
noncomputable def tw12212851138245366212:=()
noncomputable def tw9759516469500926302:=()
noncomputable def tw6689904860211427223:=()
noncomputable def tw14245395106914688673:=()
noncomputable def tw17358140964361679127:=()
noncomputable def tw11742477064983786461:=()
noncomputable def tw7035635786805616182:=()
noncomputable def tw4519280730877341642:=()
noncomputable def tw15653773185641405635:=()
noncomputable def tw13116733260219804165:=()
noncomputable def tw2548635227946856471:=()
noncomputable def tw9728162037168280370:=()
noncomputable def tw4986964262959952897:=()
noncomputable def tw4756104405763258787:=()
noncomputable def tw9484093865589516115:=()
noncomputable def tw1970258659936537345:=()
noncomputable def tw14512789894667459693:=()
noncomputable def tw9867498026869457433:=()
noncomputable def tw4647105520094342892:=()
noncomputable def tw17149903112532741293:=()
noncomputable def tw9248252342043283327:=()
noncomputable def tw17266486360459408747:=()
noncomputable def tw2579436888493297296:=()
noncomputable def tw13031126766236547296:=()
noncomputable def tw932585945626838560:=()
noncomputable def tw15736962235343007434:=()
noncomputable def tw15247125003090454512:=()
noncomputable def tw2840998381971162659:=()
noncomputable def tw14602011388820500485:=()
noncomputable def tw10654194450906572669:=()
noncomputable def tw6087920593057758918:=()
noncomputable def tw12397306886956589687:=()
noncomputable def tw15823338794117676386:=()
noncomputable def tw2455766576638611393:=()
noncomputable def tw3159489572581921877:=()
noncomputable def tw6685273241818604208:=()
noncomputable def tw2005811469697737801:=()
noncomputable def tw17879578164368414901:=()
noncomputable def tw17544178558940176124:=()
noncomputable def tw7988763204463668116:=()
noncomputable def tw5648272213978052593:=()
noncomputable def tw9693970430903093103:=()
noncomputable def tw7034350334302897731:=()
noncomputable def tw7310499707027150588:=()
noncomputable def tw16521870747311703436:=()
noncomputable def tw58181851588429648:=()
noncomputable def tw9531237750697857233:=()
noncomputable def tw14716013558780889701:=()
noncomputable def tw15577204669926452290:=()
noncomputable def tw15422763511171983281:=()
noncomputable def tw2605678368542560810:=()
noncomputable def tw10422929441737060007:=()
noncomputable def tw12306101054306036934:=()
noncomputable def tw2654787444966949915:=()
noncomputable def tw2871288136205489336:=()
noncomputable def tw17281457797409744692:=()
noncomputable def tw2867646643169779015:=()
noncomputable def tw15183795761499236554:=()
noncomputable def tw9536147052001956888:=()
noncomputable def tw1301608648889973950:=()
noncomputable def tw3465482570034689973:=()
noncomputable def tw10380649485603224889:=()
noncomputable def tw16186053465037105912:=()
noncomputable def tw15687184901689588902:=()
noncomputable def tw17128924803072692340:=()
noncomputable def tw5736904431459898016:=()
noncomputable def tw4841587676569355638:=()
noncomputable def tw9974314214685959908:=()
noncomputable def tw15451315579498792631:=()
noncomputable def tw12797694737382409436:=()
noncomputable def tw7247385476166057829:=()
noncomputable def tw2954500827722072404:=()
noncomputable def tw9961592767242204389:=()
noncomputable def tw4912997849497258725:=()
noncomputable def tw10471819676190571971:=()
noncomputable def tw18014135810079831873:=()
noncomputable def tw1528822787458458036:=()
noncomputable def tw16433073492171653051:=()
noncomputable def tw10891355840328535801:=()
noncomputable def tw17157915375270405506:=()
noncomputable def tw3256135290589926217:=()
noncomputable def tw18265336962156182740:=()
noncomputable def tw6672918796855893569:=()
noncomputable def tw3217790906902834879:=()
noncomputable def tw17111290420525480117:=()
noncomputable def tw3246304240024757576:=()
noncomputable def tw12495404469312277619:=()
noncomputable def tw16168981742955280023:=()
noncomputable def tw16645328261881191941:=()
noncomputable def tw13589403318792185490:=()
noncomputable def tw2203259223600107493:=()
noncomputable def tw5175767823435990464:=()
noncomputable def tw17937082041494160115:=()
noncomputable def tw17272845769750427705:=()
noncomputable def tw6520589405880654654:=()
noncomputable def tw7503542075397977039:=()
noncomputable def tw122911556612215930:=()
noncomputable def tw6598026376599707187:=()
noncomputable def tw4178835974587307698:=()
noncomputable def tw4261073514873803620:=()
noncomputable def tw5946665351505783239:=()
noncomputable def tw12941378269821377364:=()
noncomputable def tw2177389166112814229:=()
noncomputable def tw14866359183367385460:=()
noncomputable def tw6891927227198506872:=()
noncomputable def tw18217586953952759181:=()
noncomputable def tw2864679483227728301:=()
noncomputable def tw1702775626117110220:=()
noncomputable def tw7931882889220230352:=()
noncomputable def tw15144876938200048926:=()
noncomputable def tw5901818076843834591:=()
noncomputable def tw3327610055433196564:=()
noncomputable def tw1539104555080952225:=()
noncomputable def tw5913723165271909817:=()
noncomputable def tw3387569559823901828:=()
noncomputable def tw13140039325029649980:=()
noncomputable def tw5491544529014632937:=()
noncomputable def tw8283241332646438521:=()
noncomputable def tw156669582895395350:=()
noncomputable def tw5535974518686952463:=()
noncomputable def tw9316727077015302636:=()
noncomputable def tw12565458258750226127:=()
noncomputable def tw7196444547852951326:=()
noncomputable def tw4224164679321340417:=()
noncomputable def tw3410896837562408763:=()
noncomputable def tw1195177052633054553:=()
noncomputable def tw17939671793941930574:=()
noncomputable def tw11707860243002943552:=()
noncomputable def tw7390852306768559300:=()
noncomputable def tw10947519230436910648:=()
noncomputable def tw7742930148390617037:=()
noncomputable def tw18339446843616754993:=()
noncomputable def tw4529858220833518544:=()
noncomputable def tw9764926618037990824:=()
noncomputable def tw9357108708922652675:=()
noncomputable def tw1661358535905135236:=()
noncomputable def tw17299855225800894692:=()
noncomputable def tw14559753312145715247:=()
noncomputable def tw16336051829987045273:=()
noncomputable def tw17398973576370030854:=()
noncomputable def tw2274146823563071821:=()
noncomputable def tw6323093841464054164:=()
noncomputable def tw5314806920564396743:=()
noncomputable def tw5920167284425201796:=()
noncomputable def tw5779873938569281084:=()
noncomputable def tw8339356184866037022:=()
noncomputable def tw11335412771896867594:=()
noncomputable def tw7163342524612816040:=()
noncomputable def tw12472892724065295477:=()
noncomputable def tw12044709460475685452:=()
noncomputable def tw4365181849123687039:=()
noncomputable def tw10173415253848677791:=()
noncomputable def tw15911079103752649987:=()
noncomputable def tw6578322778255033317:=()
noncomputable def tw9343389041853244226:=()
noncomputable def tw16568565062558363436:=()
noncomputable def tw16881600519298039813:=()
noncomputable def tw6411298696231021215:=()
noncomputable def tw6989637763891136964:=()
noncomputable def tw1430028627365667240:=()
noncomputable def tw9801887821120368618:=()
noncomputable def tw10548321465788918312:=()
noncomputable def tw2046619950372569705:=()
noncomputable def tw5093027199486947949:=()
noncomputable def tw289226427415910003:=()
noncomputable def tw9992530951486614051:=()
noncomputable def tw5339158616031886762:=()
noncomputable def tw287959125362516281:=()
noncomputable def tw12608361816161982543:=()
noncomputable def tw13869450933625227435:=()
noncomputable def tw12860845062382705182:=()
noncomputable def tw17593986565107982398:=()
noncomputable def tw8828644095604572239:=()
noncomputable def tw5917044080391816198:=()
noncomputable def tw8252395163816048684:=()
noncomputable def tw8531395165434865614:=()
noncomputable def tw18219846946583398550:=()
noncomputable def tw13965648711476560072:=()
noncomputable def tw6884191243964431718:=()
noncomputable def tw18396792052192231515:=()
noncomputable def tw8812261529855888667:=()
noncomputable def tw8719476228219795316:=()
noncomputable def tw7928332814397734797:=()
noncomputable def tw4255367048393170099:=()
noncomputable def tw2177252093333374398:=()
noncomputable def tw8169641510877956426:=()
noncomputable def tw14561023672813709551:=()
noncomputable def tw11436172564349498996:=()
noncomputable def tw11398559916452892187:=()
noncomputable def tw16886010021209814039:=()
noncomputable def tw8625292858489808706:=()
noncomputable def tw12789020755135131019:=()
noncomputable def tw13970013762774118515:=()
noncomputable def tw13493379733671338149:=()
noncomputable def tw1577210105043104736:=()
noncomputable def tw10428117002038991436:=()
noncomputable def tw6783695577879609096:=()
noncomputable def tw11622284765576958109:=()
noncomputable def tw17233427529914180307:=()
noncomputable def tw11963367474839361344:=()
noncomputable def tw16014042796579023874:=()
noncomputable def tw16153978695532836657:=()
noncomputable def tw17732161082316475157:=()
noncomputable def tw4408533637334125723:=()
noncomputable def tw11980131085204541680:=()
noncomputable def tw13606354309882403025:=()
noncomputable def tw13015320952509167679:=()
noncomputable def tw140069326899258298:=()
noncomputable def tw5242507929791761868:=()
noncomputable def tw6460924160919621739:=()
noncomputable def tw11883971610644833522:=()
noncomputable def tw11889650130649716019:=()
noncomputable def tw12336171042690983361:=()
noncomputable def tw16895069936000042658:=()
noncomputable def tw3866518175238536702:=()
noncomputable def tw14273515055651528092:=()
noncomputable def tw1199509543984287435:=()
noncomputable def tw98792708739769118:=()
noncomputable def tw696553039396492550:=()
noncomputable def tw17532548320768409859:=()
noncomputable def tw8574365201087248644:=()
noncomputable def tw5605825656823910714:=()
noncomputable def tw12901681176459411559:=()
noncomputable def tw5613973715454033402:=()
noncomputable def tw3210672203882651355:=()
noncomputable def tw5421253427600204913:=()
noncomputable def tw15336472275066679697:=()
noncomputable def tw4869985401578097150:=()
noncomputable def tw10000889540856208782:=()
noncomputable def tw10426310294720474775:=()
noncomputable def tw16501415225748408716:=()
noncomputable def tw16728246112865997310:=()
noncomputable def tw9236613956418368563:=()
noncomputable def tw4976419374936912286:=()
noncomputable def tw11209108113200150954:=()
noncomputable def tw16135416130542806558:=()
noncomputable def tw11176133713551715704:=()
noncomputable def tw13147816882634804451:=()
noncomputable def tw9521624126758286111:=()
noncomputable def tw14995812926169222954:=()
noncomputable def tw1182715773102046707:=()
noncomputable def tw8954588571450305299:=()
noncomputable def tw16048536650210065874:=()
noncomputable def tw9370912374833818408:=()
noncomputable def tw394773050550006430:=()
noncomputable def tw10397337619463718551:=()
noncomputable def tw11111881196357289078:=()
noncomputable def tw6041479963404737208:=()
noncomputable def tw8889223509413301307:=()
noncomputable def tw1800220006939332664:=()
noncomputable def tw10248865707823050005:=()
noncomputable def tw5870932391444465969:=()
noncomputable def tw17788583386297962537:=()
noncomputable def tw6944410154101809363:=()
noncomputable def tw16365756261821385276:=()
noncomputable def tw9679875300626699621:=()
noncomputable def tw7668932490836386117:=()
noncomputable def tw12606776245595517730:=()
noncomputable def tw4000647298169958944:=()
noncomputable def tw14616053173667946605:=()
noncomputable def tw6254440422592426181:=()
noncomputable def tw17530525039950676366:=()
noncomputable def tw9829060446152569280:=()
noncomputable def tw14170929935214697363:=()
noncomputable def tw3190368441081379959:=()
noncomputable def tw12684794323942946384:=()
noncomputable def tw2890753212071448269:=()
noncomputable def tw211744660366387017:=()
noncomputable def tw13132107138479917936:=()
noncomputable def tw8884546151505434237:=()
noncomputable def tw9727898917536368294:=()
noncomputable def tw9831203537850729652:=()
noncomputable def tw10988767321348508315:=()
noncomputable def tw16355500091321366905:=()
noncomputable def tw2404807780552869427:=()
noncomputable def tw10727415684964938885:=()
noncomputable def tw18166347892572118755:=()
noncomputable def tw1446322148515729585:=()
noncomputable def tw18051745341292446981:=()
noncomputable def tw9388567517825226704:=()
noncomputable def tw1674089173913506094:=()
noncomputable def tw14734232255390784261:=()
noncomputable def tw16697302656411619364:=()
noncomputable def tw15906401264377543825:=()
noncomputable def tw4898067263274988465:=()
noncomputable def tw960899227508760911:=()
noncomputable def tw624048001840418159:=()
noncomputable def tw13300787372125524630:=()
noncomputable def tw16117089902463175220:=()
noncomputable def tw2063115499030272467:=()
noncomputable def tw12725271012589199830:=()
noncomputable def tw4395488579618059946:=()
noncomputable def tw5538320771789379135:=()
noncomputable def tw17850756890382789655:=()
noncomputable def tw70261208493020709:=()
noncomputable def tw5943493963876964075:=()
noncomputable def tw7782665134993559823:=()
noncomputable def tw10275554312011328991:=()
noncomputable def tw3278475445211591937:=()
noncomputable def tw14744764544857542996:=()
noncomputable def tw16945440355228111166:=()
noncomputable def tw12236832667043500781:=()
noncomputable def tw4963512037584503518:=()
noncomputable def tw16531785435950903297:=()
noncomputable def tw12327027728498735212:=()
noncomputable def tw17757136216170041674:=()
noncomputable def tw6988639150891448768:=()
noncomputable def tw4658798145804386285:=()
noncomputable def tw12432528243387601402:=()
noncomputable def tw262117549694832462:=()
noncomputable def tw15657246357068907416:=()
noncomputable def tw2700532614609827901:=()
noncomputable def tw6269724459887867786:=()
noncomputable def tw13549713808936386383:=()
noncomputable def tw9725655014403907934:=()
noncomputable def tw5084067096089692492:=()
noncomputable def tw1469747945592369052:=()
noncomputable def tw2976708668307980497:=()
noncomputable def tw7098773985275185342:=()
noncomputable def tw8445252640720436741:=()
noncomputable def tw14430490929606338586:=()
noncomputable def tw6564737373840309798:=()
noncomputable def tw6379453316162681518:=()
noncomputable def tw6275882140332266149:=()
noncomputable def tw10515199922161765275:=()
noncomputable def tw6508512547214304632:=()
noncomputable def tw4246706446226970168:=()
noncomputable def tw17972473747610679095:=()
noncomputable def tw8024880747400464433:=()
noncomputable def tw2771946699641050803:=()
noncomputable def tw14017742507180625401:=()
noncomputable def tw11498016467107190044:=()
noncomputable def tw1502727977649636889:=()
noncomputable def tw13747876364264761146:=()
noncomputable def tw9740767573513161698:=()
noncomputable def tw6415034183854763665:=()
noncomputable def tw13761661330959891118:=()
noncomputable def tw5763569812768358851:=()
noncomputable def tw14011261554563983158:=()
noncomputable def tw3788238393244038319:=()
noncomputable def tw8968405894723000277:=()
noncomputable def tw14474740736220528302:=()
noncomputable def tw16816354501519314228:=()
noncomputable def tw7743958047975546767:=()
noncomputable def tw7481868041028403047:=()
noncomputable def tw9612551224341999018:=()
noncomputable def tw7646158876985479067:=()
noncomputable def tw919368259243240322:=()
noncomputable def tw5240642140620540032:=()
noncomputable def tw13202283353237577038:=()
noncomputable def tw3466793240879156991:=()
noncomputable def tw11471912552870775343:=()
noncomputable def tw10881247628627123233:=()
noncomputable def tw15780355105848926617:=()
noncomputable def tw13684584657112381805:=()
noncomputable def tw12942438473646342330:=()
noncomputable def tw17702831513258939881:=()
noncomputable def tw14071996793868402467:=()
noncomputable def tw12261609927347588202:=()
noncomputable def tw12716006227842877387:=()
noncomputable def tw1697707163598200902:=()
noncomputable def tw7243855365343955204:=()
noncomputable def tw9999946432023024779:=()
noncomputable def tw14388614087885367230:=()
noncomputable def tw14199489060716602800:=()
noncomputable def tw11163573195310454963:=()
noncomputable def tw15602686510320151782:=()
noncomputable def tw1202819690309411777:=()
noncomputable def tw3244602765412871585:=()
noncomputable def tw16001622785971303446:=()
noncomputable def tw13591670633574526388:=()
noncomputable def tw1763207944248406937:=()
noncomputable def tw502514555555631358:=()
noncomputable def tw5851533032196640033:=()
noncomputable def tw7652343225785445248:=()
noncomputable def tw742020586409280542:=()
noncomputable def tw10862501658741013027:=()
noncomputable def tw13169613522413228601:=()
noncomputable def tw3176360046300300778:=()
noncomputable def tw2561689398409207948:=()
noncomputable def tw970296804790583555:=()
noncomputable def tw1639367689510936612:=()
noncomputable def tw3538769861108833808:=()
noncomputable def tw2100029001779236195:=()
noncomputable def tw3600944665015357315:=()
noncomputable def tw7858838330818145632:=()
noncomputable def tw11566351862372711462:=()
noncomputable def tw2014110310630744845:=()
noncomputable def tw12089524786978864746:=()
noncomputable def tw1476667205579491986:=()
noncomputable def tw9498088731494410441:=()
noncomputable def tw9604493808880713068:=()
noncomputable def tw13882282117733912077:=()
noncomputable def tw8763472494431197136:=()
noncomputable def tw11190817308953010624:=()
noncomputable def tw15922804188529505792:=()
noncomputable def tw10153396746033027833:=()
noncomputable def tw4500259064964833702:=()
noncomputable def tw18142252067046751545:=()
noncomputable def tw11099693445300484953:=()
noncomputable def tw777499502606085864:=()
noncomputable def tw7506468618485033856:=()
noncomputable def tw4165093161578855056:=()
noncomputable def tw1159568551736520595:=()
noncomputable def tw7572652183836920750:=()
noncomputable def tw5403084199907393960:=()
noncomputable def tw11516150429153940877:=()
noncomputable def tw2628780442075150863:=()
noncomputable def tw13362190903240093845:=()
noncomputable def tw13190060444378771883:=()
noncomputable def tw760600845887354129:=()
noncomputable def tw1736439561073170368:=()
noncomputable def tw18226869317555744008:=()
noncomputable def tw412972225678596033:=()
noncomputable def tw11241475885014481119:=()
noncomputable def tw16171342611833776797:=()
noncomputable def tw7689143411432003988:=()
noncomputable def tw1822282221175704019:=()
noncomputable def tw14394767501323428110:=()
noncomputable def tw11959751774804401019:=()
noncomputable def tw1601605886531754794:=()
noncomputable def tw8306339034979182174:=()
noncomputable def tw5098127984829811561:=()
noncomputable def tw15608423351171750546:=()
noncomputable def tw5404961148708554195:=()
noncomputable def tw7729817680098574056:=()
noncomputable def tw7422985297246148831:=()
noncomputable def tw11354901516341474925:=()
noncomputable def tw7653537001129035677:=()
noncomputable def tw6049332538872328530:=()
noncomputable def tw17533305339471843131:=()
noncomputable def tw3816707659883640375:=()
noncomputable def tw7006682746669761327:=()
noncomputable def tw2435026365503497680:=()
noncomputable def tw10012073727676019533:=()
noncomputable def tw9302085090666431862:=()
noncomputable def tw6688109003543236785:=()
noncomputable def tw8019949191444047670:=()
noncomputable def tw6521041558320491441:=()
noncomputable def tw6636779008027930590:=()
noncomputable def tw4570476668118412474:=()
noncomputable def tw818714801781080802:=()
noncomputable def tw415429044159589674:=()
noncomputable def tw11548034562644826497:=()
noncomputable def tw14772739220034046656:=()
noncomputable def tw10648547845210142322:=()
noncomputable def tw17067323021950289204:=()
noncomputable def tw14674745580111092984:=()
noncomputable def tw6713221250255006874:=()
noncomputable def tw4673034090602705889:=()
noncomputable def tw8594984573449974994:=()
noncomputable def tw3794886341400429959:=()
noncomputable def tw13119165431711116845:=()
noncomputable def tw18432612225070408954:=()
noncomputable def tw8249521634750846453:=()
noncomputable def tw890956902505459362:=()
noncomputable def tw7261536549952783162:=()
noncomputable def tw9033159416258403034:=()
noncomputable def tw6153895403137305747:=()
noncomputable def tw10207707135993124650:=()
noncomputable def tw5155660759737787414:=()
noncomputable def tw7704750388465580052:=()
noncomputable def tw10511059663548094491:=()
noncomputable def tw1884520200829781899:=()
noncomputable def tw5164621843593930740:=()
noncomputable def tw2965657487360240781:=()
noncomputable def tw157333843869948341:=()
noncomputable def tw11894414480683039864:=()
noncomputable def tw4933508798370914741:=()
noncomputable def tw2677339725958673408:=()
noncomputable def tw17752806767896771520:=()
noncomputable def tw2189881677934684604:=()
noncomputable def tw3469304580592745384:=()
noncomputable def tw2827063942337689709:=()
noncomputable def tw10034978651938792700:=()
noncomputable def tw4410749113254555644:=()
noncomputable def tw6848692882075339734:=()
noncomputable def tw4223633312341366103:=()
noncomputable def tw16470927867625352948:=()
noncomputable def tw6509143827226039998:=()
noncomputable def tw10687744231286073526:=()
noncomputable def tw803565281518130283:=()
noncomputable def tw4907185518801922244:=()
noncomputable def tw5610083015935386926:=()
noncomputable def tw4619366307268838156:=()
noncomputable def tw4225105260978542882:=()
noncomputable def tw8382673317919401599:=()
noncomputable def tw11293965723136299538:=()
noncomputable def tw15235159519561133816:=()
noncomputable def tw833098990870129783:=()
noncomputable def tw5612461488523971769:=()
noncomputable def tw18360406710923477199:=()
noncomputable def tw1943581944144176098:=()
noncomputable def tw5175281525495182911:=()
noncomputable def tw5721859505209722137:=()
noncomputable def tw824362872829934955:=()
noncomputable def tw15174171400899598963:=()
noncomputable def tw15033752310970741451:=()
noncomputable def tw15152192524756975997:=()
noncomputable def tw4958583176710037829:=()
noncomputable def tw4316314223168123019:=()
noncomputable def tw4173229300888682146:=()
noncomputable def tw18147818222430194541:=()
noncomputable def tw16939160379037079511:=()
noncomputable def tw4616505338337528236:=()
noncomputable def tw16921354180283486727:=()
noncomputable def tw7775966524524742886:=()
noncomputable def tw12736360139930948747:=()
noncomputable def tw5365044147451372144:=()
noncomputable def tw9217144931747951274:=()
noncomputable def tw14533855768977407489:=()
noncomputable def tw5593815849219553348:=()
noncomputable def tw17248674059852236013:=()
noncomputable def tw17540672106004806461:=()
noncomputable def tw4998051431214103051:=()
noncomputable def tw10222279800312536736:=()
noncomputable def tw16295287475513765860:=()
noncomputable def tw16334134417606580065:=()
noncomputable def tw2993170447786580045:=()
noncomputable def tw1355328437932720378:=()
noncomputable def tw17858461581469741893:=()
noncomputable def tw14412419608345231279:=()
noncomputable def tw14501173654496736217:=()
noncomputable def tw4379631015210857534:=()
noncomputable def tw7461139721567376056:=()
noncomputable def tw261130318731529545:=()
noncomputable def tw16933100288520877488:=()
noncomputable def tw13685243716461718852:=()
noncomputable def tw4852375467466301062:=()
noncomputable def tw8647231931739779216:=()
noncomputable def tw7856469021358543891:=()
noncomputable def tw5674067873283299082:=()
noncomputable def tw9931197653436655635:=()
noncomputable def tw13116194351160602819:=()
noncomputable def tw5684006673618364883:=()
noncomputable def tw18267385373534747978:=()
noncomputable def tw13630452646313819420:=()
noncomputable def tw2373437300170861416:=()
noncomputable def tw12887823756040574014:=()
noncomputable def tw18282659020887216501:=()
noncomputable def tw15271376943239576584:=()
noncomputable def tw14310398675808962245:=()
noncomputable def tw15660007323888667558:=()
noncomputable def tw13435348842210748771:=()
noncomputable def tw917043299781605600:=()
noncomputable def tw7198332854536627707:=()
noncomputable def tw14139014603171262700:=()
noncomputable def tw8957112837707459536:=()
noncomputable def tw10104302826771359692:=()
noncomputable def tw1964330656370442709:=()
noncomputable def tw411847346986036704:=()
noncomputable def tw13193574880525971301:=()
noncomputable def tw17979950075533719358:=()
noncomputable def tw5490491324322877742:=()
noncomputable def tw9261656475412792814:=()
noncomputable def tw10508203082243794531:=()
noncomputable def tw9592763446317354079:=()
noncomputable def tw3372087755573934139:=()
noncomputable def tw10195303353799983277:=()
noncomputable def tw11962278459164630947:=()
noncomputable def tw14487236449131779224:=()
noncomputable def tw406095736246571897:=()
noncomputable def tw4388128833150005480:=()
noncomputable def tw11385906126889959747:=()
noncomputable def tw364325213933594002:=()
noncomputable def tw13607511543173943831:=()
noncomputable def tw2505416100841907468:=()
noncomputable def tw16094188078746904384:=()
noncomputable def tw14480624963086657918:=()
noncomputable def tw7803399609625990962:=()
noncomputable def tw6982080136668915280:=()
noncomputable def tw2024496094510493928:=()
noncomputable def tw7780800753745463953:=()
noncomputable def tw17763350796779898421:=()
noncomputable def tw10220010948381191806:=()
noncomputable def tw8905626109456861179:=()
noncomputable def tw12516441302458013996:=()
noncomputable def tw2912986153318043586:=()
noncomputable def tw9218449014891636685:=()
noncomputable def tw10562849835392999317:=()
noncomputable def tw8807858469924039621:=()
noncomputable def tw11286700417470060958:=()
noncomputable def tw11681233353981691801:=()
noncomputable def tw9373072771850447345:=()
noncomputable def tw10121586799232663785:=()
noncomputable def tw15815230512887411139:=()
noncomputable def tw6758323261837625014:=()
noncomputable def tw7033253450050129998:=()
noncomputable def tw10663767519426021449:=()
noncomputable def tw1871053815872966228:=()
noncomputable def tw4145328510346150558:=()
noncomputable def tw13442462953241844871:=()
noncomputable def tw9479537817668593333:=()
noncomputable def tw8035361266485552998:=()
noncomputable def tw6047740079457537518:=()
noncomputable def tw14321407962518784362:=()
noncomputable def tw9449120429903074314:=()
noncomputable def tw15886818798833255763:=()
noncomputable def tw3192138006897910239:=()
noncomputable def tw6055100336555864510:=()
noncomputable def tw6127377188561563826:=()
noncomputable def tw1854471490737659233:=()
noncomputable def tw8642725713539942935:=()
noncomputable def tw10474063151737450033:=()
noncomputable def tw4064401517097897621:=()
noncomputable def tw9416929395049001670:=()
noncomputable def tw11105040305397033007:=()
noncomputable def tw1986772892012392175:=()
noncomputable def tw16430158349073643228:=()
noncomputable def tw16006685422646923745:=()
noncomputable def tw2102491315629669825:=()
noncomputable def tw8098921585408398525:=()
noncomputable def tw10361495585245781502:=()
noncomputable def tw15794520610574896556:=()
noncomputable def tw13439060975241491494:=()
noncomputable def tw17307930090876745424:=()
noncomputable def tw4874747775944224772:=()
noncomputable def tw11396980626129093159:=()
noncomputable def tw13547903102904104820:=()
noncomputable def tw15264198441111156889:=()
noncomputable def tw12393843751693957004:=()
noncomputable def tw1980488216565097412:=()
noncomputable def tw6785555863571602547:=()
noncomputable def tw9642739573252701652:=()
noncomputable def tw9193008713702116391:=()
noncomputable def tw17459357472465280222:=()
noncomputable def tw13670612612628877944:=()
noncomputable def tw9921339828597904958:=()
noncomputable def tw7240640411589051066:=()
noncomputable def tw13981088121875863874:=()
noncomputable def tw14086146507165630473:=()
noncomputable def tw18046406365103187207:=()
noncomputable def tw14265550693286149744:=()
noncomputable def tw7842229476779593879:=()
noncomputable def tw4041746947977094879:=()
noncomputable def tw9683504802017649808:=()
noncomputable def tw17883821208864483057:=()
noncomputable def tw4666969596105651472:=()
noncomputable def tw3778339624962431087:=()
noncomputable def tw4597393422004275320:=()
noncomputable def tw17440813890127260081:=()
noncomputable def tw3429261912589727518:=()
noncomputable def tw8161159231121537861:=()
noncomputable def tw4826491024116445032:=()
end PySem.W.Fast
open PySem PySem.W PyProof.Rows
set_option maxRecDepth 100000 in
set_option maxHeartbeats 0 in
theorem PySem.Challenge.cw_sowring_k65_questions_refused_holds : PySem.Challenge.rw_sowring_k65_questions_refused.Holds := by
 w_on;o_law;k_head;(case hw=>w_witness2)
 k_fill
 refine L2.ZlZ (l:=PySem.Challenge.rw_sowring_k65_questions_refused) (n:=63) (k:=13) (x := "script") (CX:=L2.CX0) (sp:=My.ZjP) rfl (by decide) rfl ⟨rfl,by decide,by decide⟩ (fun w h Y=>by first|exact PySem.W.kIn_of Y|exact PySem.W.km_in_of Y) ?F ?S ?C
 case F =>
  intro w mg fa h KX G hmg
  have T:My.Txt w (L2.KOf KX) mg:=by
   dsimp only[L2.KOf]
   refine' ⟨My.Zx KX G ?a0 ?l0 ?c0 ?k0,My.Zx KX G ?a1 ?l1 ?c1 ?k1,My.Zx KX G ?a2 ?l2 ?c2 ?k2,My.Zx KX G ?a3 ?l3 ?c3 ?k3,My.Zx KX G ?a4 ?l4 ?c4 ?k4,My.Zx KX G ?a5 ?l5 ?c5 ?k5,My.Zx KX G ?a6 ?l6 ?c6 ?k6,My.Zx KX G ?a7 ?l7 ?c7 ?k7,My.Zx KX G ?a8 ?l8 ?c8 ?k8,My.Zx KX G ?a9 ?l9 ?c9 ?k9,My.Zx KX G ?a10 ?l10 ?c10 ?k10,My.Zx KX G ?a11 ?l11 ?c11 ?k11,My.Zx KX G ?a12 ?l12 ?c12 ?k12,My.Zx KX G ?a13 ?l13 ?c13 ?k13,My.Zx KX G ?a14 ?l14 ?c14 ?k14,My.Zx KX G ?a15 ?l15 ?c15 ?k15,My.Zx KX G ?a16 ?l16 ?c16 ?k16,My.Zx KX G ?a17 ?l17 ?c17 ?k17,My.Zx KX G ?a18 ?l18 ?c18 ?k18,My.Zx KX G ?a19 ?l19 ?c19 ?k19,My.Zx KX G ?a20 ?l20 ?c20 ?k20,My.Zx KX G ?a21 ?l21 ?c21 ?k21,My.Zx KX G ?a22 ?l22 ?c22 ?k22,My.Zx KX G ?a23 ?l23 ?c23 ?k23,My.Zx KX G ?a24 ?l24 ?c24 ?k24,My.Zx KX G ?a25 ?l25 ?c25 ?k25,My.Zx KX G ?a26 ?l26 ?c26 ?k26,My.Zx KX G ?a27 ?l27 ?c27 ?k27,My.Zx KX G ?a28 ?l28 ?c28 ?k28,My.Zx KX G ?a29 ?l29 ?c29 ?k29,My.Zx KX G ?a30 ?l30 ?c30 ?k30,My.Zx KX G ?a31 ?l31 ?c31 ?k31,My.Zx KX G ?a32 ?l32 ?c32 ?k32,My.Zx KX G ?a33 ?l33 ?c33 ?k33,My.Zx KX G ?a34 ?l34 ?c34 ?k34,My.Zx KX G ?a35 ?l35 ?c35 ?k35,My.Zx KX G ?a36 ?l36 ?c36 ?k36,My.Zx KX G ?a37 ?l37 ?c37 ?k37,My.Zx KX G ?a38 ?l38 ?c38 ?k38,My.Zx KX G ?a39 ?l39 ?c39 ?k39,My.Zx KX G ?a40 ?l40 ?c40 ?k40,My.Zx KX G ?a41 ?l41 ?c41 ?k41,My.Zx KX G ?a42 ?l42 ?c42 ?k42,My.Zx KX G ?a43 ?l43 ?c43 ?k43,My.Zx KX G ?a44 ?l44 ?c44 ?k44,My.Zx KX G ?a45 ?l45 ?c45 ?k45,My.Zx KX G ?a46 ?l46 ?c46 ?k46,My.Zx KX G ?a47 ?l47 ?c47 ?k47,My.Zx KX G ?a48 ?l48 ?c48 ?k48,My.Zx KX G ?a49 ?l49 ?c49 ?k49,My.Zx KX G ?a50 ?l50 ?c50 ?k50,My.Zx KX G ?a51 ?l51 ?c51 ?k51,My.Zx KX G ?a52 ?l52 ?c52 ?k52,My.Zx KX G ?a53 ?l53 ?c53 ?k53,My.Zx KX G ?a54 ?l54 ?c54 ?k54,My.Zx KX G ?a55 ?l55 ?c55 ?k55,My.Zx KX G ?a56 ?l56 ?c56 ?k56,My.Zx KX G ?a57 ?l57 ?c57 ?k57,My.Zx KX G ?a58 ?l58 ?c58 ?k58,My.Zx KX G ?a59 ?l59 ?c59 ?k59,My.Zx KX G ?a60 ?l60 ?c60 ?k60,My.Zx KX G ?a61 ?l61 ?c61 ?k61,My.Zx KX G ?a62 ?l62 ?c62 ?k62,My.Zx KX G ?a63 ?l63 ?c63 ?k63,My.Zx KX G ?a64 ?l64 ?c64 ?k64,My.Zx KX G ?a65 ?l65 ?c65 ?k65,My.VI KX G ?b0,My.VI KX G ?b1,My.VI KX G ?b2,My.VI KX G ?b3,My.VI KX G ?b4,My.VI KX G ?b5,My.VI KX G ?b6,My.VI KX G ?b7,My.VI KX G ?b8,My.VI KX G ?b9,My.VI KX G ?b10,My.VI KX G ?b11,PySem.W.mg_none_of KX G ?z0,PySem.W.mg_none_of KX G ?z1,PySem.W.mg_none_of KX G ?z2,PySem.W.mg_none_of KX G ?z3,PySem.W.mg_none_of KX G ?z4,PySem.W.mg_none_of KX G ?z5,PySem.W.mg_none_of KX G ?z6,PySem.W.mg_none_of KX G ?z7,PySem.W.mg_none_of KX G ?z8,PySem.W.mg_none_of KX G ?z9,L2.ZjD ?t0 (fun n C e=>PySem.W.mg_of KX G e),L2.ZjD ?t1 (fun n C e=>PySem.W.mg_of KX G e),L2.ZjD ?t2 (fun n C e=>PySem.W.mg_of KX G e),L2.Zq3 ?t3 ?h3 (fun n C e=>PySem.W.mg_of KX G e), ?x_tab, ?x_exc,fun n C e=>PySem.W.mg_of KX G e,My.VH ?ma0 ?mb0 ?mt0 ?ml0 ?mc0 ?mk0,My.VH ?ma1 ?mb1 ?mt1 ?ml1 ?mc1 ?mk1,My.VH ?ma2 ?mb2 ?mt2 ?ml2 ?mc2 ?mk2,My.VH ?ma3 ?mb3 ?mt3 ?ml3 ?mc3 ?mk3,My.VH ?ma4 ?mb4 ?mt4 ?ml4 ?mc4 ?mk4,My.VH ?ma5 ?mb5 ?mt5 ?ml5 ?mc5 ?mk5,My.VH ?ma6 ?mb6 ?mt6 ?ml6 ?mc6 ?mk6,My.VH ?ma7 ?mb7 ?mt7 ?ml7 ?mc7 ?mk7,My.VH ?ma8 ?mb8 ?mt8 ?ml8 ?mc8 ?mk8,My.VH ?ma9 ?mb9 ?mt9 ?ml9 ?mc9 ?mk9,My.VH ?ma10 ?mb10 ?mt10 ?ml10 ?mc10 ?mk10,My.VH ?ma11 ?mb11 ?mt11 ?ml11 ?mc11 ?mk11⟩
   (case a0=>k_is)
   (case l0=>k_is)
   (case c0=>k_is)
   (case k0=>k_is)
   (case a1=>k_is)
   (case l1=>k_is)
   (case c1=>k_is)
   (case k1=>k_is)
   (case a2=>k_is)
   (case l2=>k_is)
   (case c2=>k_is)
   (case k2=>k_is)
   (case a3=>k_is)
   (case l3=>k_is)
   (case c3=>k_is)
   (case k3=>k_is)
   (case a4=>k_is)
   (case l4=>k_is)
   (case c4=>k_is)
   (case k4=>k_is)
   (case a5=>k_is)
   (case l5=>k_is)
   (case c5=>k_is)
   (case k5=>k_is)
   (case a6=>k_is)
   (case l6=>k_is)
   (case c6=>k_is)
   (case k6=>k_is)
   (case a7=>k_is)
   (case l7=>k_is)
   (case c7=>k_is)
   (case k7=>k_is)
   (case a8=>k_is)
   (case l8=>k_is)
   (case c8=>k_is)
   (case k8=>k_is)
   (case a9=>k_is)
   (case l9=>k_is)
   (case c9=>k_is)
   (case k9=>k_is)
   (case a10=>k_is)
   (case l10=>k_is)
   (case c10=>k_is)
   (case k10=>k_is)
   (case a11=>k_is)
   (case l11=>k_is)
   (case c11=>k_is)
   (case k11=>k_is)
   (case a12=>k_is)
   (case l12=>k_is)
   (case c12=>k_is)
   (case k12=>k_is)
   (case a13=>k_is)
   (case l13=>k_is)
   (case c13=>k_is)
   (case k13=>k_is)
   (case a14=>k_is)
   (case l14=>k_is)
   (case c14=>k_is)
   (case k14=>k_is)
   (case a15=>k_is)
   (case l15=>k_is)
   (case c15=>k_is)
   (case k15=>k_is)
   (case a16=>k_is)
   (case l16=>k_is)
   (case c16=>k_is)
   (case k16=>k_is)
   (case a17=>k_is)
   (case l17=>k_is)
   (case c17=>k_is)
   (case k17=>k_is)
   (case a18=>k_is)
   (case l18=>k_is)
   (case c18=>k_is)
   (case k18=>k_is)
   (case a19=>k_is)
   (case l19=>k_is)
   (case c19=>k_is)
   (case k19=>k_is)
   (case a20=>k_is)
   (case l20=>k_is)
   (case c20=>k_is)
   (case k20=>k_is)
   (case a21=>k_is)
   (case l21=>k_is)
   (case c21=>k_is)
   (case k21=>k_is)
   (case a22=>k_is)
   (case l22=>k_is)
   (case c22=>k_is)
   (case k22=>k_is)
   (case a23=>k_is)
   (case l23=>k_is)
   (case c23=>k_is)
   (case k23=>k_is)
   (case a24=>k_is)
   (case l24=>k_is)
   (case c24=>k_is)
   (case k24=>k_is)
   (case a25=>k_is)
   (case l25=>k_is)
   (case c25=>k_is)
   (case k25=>k_is)
   (case a26=>k_is)
   (case l26=>k_is)
   (case c26=>k_is)
   (case k26=>k_is)
   (case a27=>k_is)
   (case l27=>k_is)
   (case c27=>k_is)
   (case k27=>k_is)
   (case a28=>k_is)
   (case l28=>k_is)
   (case c28=>k_is)
   (case k28=>k_is)
   (case a29=>k_is)
   (case l29=>k_is)
   (case c29=>k_is)
   (case k29=>k_is)
   (case a30=>k_is)
   (case l30=>k_is)
   (case c30=>k_is)
   (case k30=>k_is)
   (case a31=>k_is)
   (case l31=>k_is)
   (case c31=>k_is)
   (case k31=>k_is)
   (case a32=>k_is)
   (case l32=>k_is)
   (case c32=>k_is)
   (case k32=>k_is)
   (case a33=>k_is)
   (case l33=>k_is)
   (case c33=>k_is)
   (case k33=>k_is)
   (case a34=>k_is)
   (case l34=>k_is)
   (case c34=>k_is)
   (case k34=>k_is)
   (case a35=>k_is)
   (case l35=>k_is)
   (case c35=>k_is)
   (case k35=>k_is)
   (case a36=>k_is)
   (case l36=>k_is)
   (case c36=>k_is)
   (case k36=>k_is)
   (case a37=>k_is)
   (case l37=>k_is)
   (case c37=>k_is)
   (case k37=>k_is)
   (case a38=>k_is)
   (case l38=>k_is)
   (case c38=>k_is)
   (case k38=>k_is)
   (case a39=>k_is)
   (case l39=>k_is)
   (case c39=>k_is)
   (case k39=>k_is)
   (case a40=>k_is)
   (case l40=>k_is)
   (case c40=>k_is)
   (case k40=>k_is)
   (case a41=>k_is)
   (case l41=>k_is)
   (case c41=>k_is)
   (case k41=>k_is)
   (case a42=>k_is)
   (case l42=>k_is)
   (case c42=>k_is)
   (case k42=>k_is)
   (case a43=>k_is)
   (case l43=>k_is)
   (case c43=>k_is)
   (case k43=>k_is)
   (case a44=>k_is)
   (case l44=>k_is)
   (case c44=>k_is)
   (case k44=>k_is)
   (case a45=>k_is)
   (case l45=>k_is)
   (case c45=>k_is)
   (case k45=>k_is)
   (case a46=>k_is)
   (case l46=>k_is)
   (case c46=>k_is)
   (case k46=>k_is)
   (case a47=>k_is)
   (case l47=>k_is)
   (case c47=>k_is)
   (case k47=>k_is)
   (case a48=>k_is)
   (case l48=>k_is)
   (case c48=>k_is)
   (case k48=>k_is)
   (case a49=>k_is)
   (case l49=>k_is)
   (case c49=>k_is)
   (case k49=>k_is)
   (case a50=>k_is)
   (case l50=>k_is)
   (case c50=>k_is)
   (case k50=>k_is)
   (case a51=>k_is)
   (case l51=>k_is)
   (case c51=>k_is)
   (case k51=>k_is)
   (case a52=>k_is)
   (case l52=>k_is)
   (case c52=>k_is)
   (case k52=>k_is)
   (case a53=>k_is)
   (case l53=>k_is)
   (case c53=>k_is)
   (case k53=>k_is)
   (case a54=>k_is)
   (case l54=>k_is)
   (case c54=>k_is)
   (case k54=>k_is)
   (case a55=>k_is)
   (case l55=>k_is)
   (case c55=>k_is)
   (case k55=>k_is)
   (case a56=>k_is)
   (case l56=>k_is)
   (case c56=>k_is)
   (case k56=>k_is)
   (case a57=>k_is)
   (case l57=>k_is)
   (case c57=>k_is)
   (case k57=>k_is)
   (case a58=>k_is)
   (case l58=>k_is)
   (case c58=>k_is)
   (case k58=>k_is)
   (case a59=>k_is)
   (case l59=>k_is)
   (case c59=>k_is)
   (case k59=>k_is)
   (case a60=>k_is)
   (case l60=>k_is)
   (case c60=>k_is)
   (case k60=>k_is)
   (case a61=>k_is)
   (case l61=>k_is)
   (case c61=>k_is)
   (case k61=>k_is)
   (case a62=>k_is)
   (case l62=>k_is)
   (case c62=>k_is)
   (case k62=>k_is)
   (case a63=>k_is)
   (case l63=>k_is)
   (case c63=>k_is)
   (case k63=>k_is)
   (case a64=>k_is)
   (case l64=>k_is)
   (case c64=>k_is)
   (case k64=>k_is)
   (case a65=>k_is)
   (case l65=>k_is)
   (case c65=>k_is)
   (case k65=>k_is)
   (case b0=>k_is)
   (case b1=>k_is)
   (case b2=>k_is)
   (case b3=>k_is)
   (case b4=>k_is)
   (case b5=>k_is)
   (case b6=>k_is)
   (case b7=>k_is)
   (case b8=>k_is)
   (case b9=>k_is)
   (case b10=>k_is)
   (case b11=>k_is)
   (case z0=>k_is)
   (case z1=>k_is)
   (case z2=>k_is)
   (case z3=>k_is)
   (case z4=>k_is)
   (case z5=>k_is)
   (case z6=>k_is)
   (case z7=>k_is)
   (case z8=>k_is)
   (case z9=>k_is)
   (case t0=>kernel_rfl)
   (case t1=>kernel_rfl)
   (case t2=>kernel_rfl)
   (case t3=>kernel_rfl)
   (case h3=>kernel_rfl)
   (case x_tab=>kernel_rfl)
   (case x_exc=>kernel_rfl)
   (case ma0=>k_is)
   (case mb0=>k_is)
   (case mt0=>k_is)
   (case ml0=>k_is)
   (case mc0=>k_is)
   (case mk0=>k_is)
   (case ma1=>k_is)
   (case mb1=>k_is)
   (case mt1=>k_is)
   (case ml1=>k_is)
   (case mc1=>k_is)
   (case mk1=>k_is)
   (case ma2=>k_is)
   (case mb2=>k_is)
   (case mt2=>k_is)
   (case ml2=>k_is)
   (case mc2=>k_is)
   (case mk2=>k_is)
   (case ma3=>k_is)
   (case mb3=>k_is)
   (case mt3=>k_is)
   (case ml3=>k_is)
   (case mc3=>k_is)
   (case mk3=>k_is)
   (case ma4=>k_is)
   (case mb4=>k_is)
   (case mt4=>k_is)
   (case ml4=>k_is)
   (case mc4=>k_is)
   (case mk4=>k_is)
   (case ma5=>k_is)
   (case mb5=>k_is)
   (case mt5=>k_is)
   (case ml5=>k_is)
   (case mc5=>k_is)
   (case mk5=>k_is)
   (case ma6=>k_is)
   (case mb6=>k_is)
   (case mt6=>k_is)
   (case ml6=>k_is)
   (case mc6=>k_is)
   (case mk6=>k_is)
   (case ma7=>k_is)
   (case mb7=>k_is)
   (case mt7=>k_is)
   (case ml7=>k_is)
   (case mc7=>k_is)
   (case mk7=>k_is)
   (case ma8=>k_is)
   (case mb8=>k_is)
   (case mt8=>k_is)
   (case ml8=>k_is)
   (case mc8=>k_is)
   (case mk8=>k_is)
   (case ma9=>k_is)
   (case mb9=>k_is)
   (case mt9=>k_is)
   (case ml9=>k_is)
   (case mc9=>k_is)
   (case mk9=>k_is)
   (case ma10=>k_is)
   (case mb10=>k_is)
   (case mt10=>k_is)
   (case ml10=>k_is)
   (case mc10=>k_is)
   (case mk10=>k_is)
   (case ma11=>k_is)
   (case mb11=>k_is)
   (case mt11=>k_is)
   (case ml11=>k_is)
   (case mc11=>k_is)
   (case mk11=>k_is)
  exact My.Zrq T hmg
 case S=>exact fun K H a ns hl hO hS=>My.ZkQ hl hO hS
 case C=>exact fun _ _ _ _ z=>z
