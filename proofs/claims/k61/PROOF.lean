import PyProof.Rows.All
import Wide.All
import OpenK.AllK
import Wide.FinOn
import Lean
import PyProof.EqAt
import PyProof.EqKinds
import PyProof.TupleCall
import KE.KTryMore
import PyProof.NsDelKeeps
import PyProof.EnumStmt
import KE.KRevIter
import PyProof.ListNew
import KE.KIntText
import PyProof.StrBlock2
import PyProof.ExcInit
import PyProof.ExcClass2
import PyProof.Rows.SortRuns
import PyProof.ListRange
import PyProof.Rows.Range3
import PyProof.Rows.TupDisplay
import KE.KSortTup
import PyProof.DictWalks
import PyProof.DictTruth
import PySem.Challenge.RW_sowring_k61_whole_books_walked
open List renaming getD_eq_getElem?_getD->ZsQ,getElem?_eq_getElem->ZsR,length_map->ZsS,mem_append_right->ZsT,mem_append_left->ZsU,mem_append->ZsW,size_toArray->ZsX,mem_cons->ZsZ,getElem?_eq_some_iff->Zta,getElem?_map->Ztb,map_cons->Ztc,getElem?_eq_none->Ztd,getElem?_append_left->Zte,length_take->Ztf,getElem?_set_self->Ztg,mem_cons_of_mem->Zth,length_cons->Ztj,getElem?_set_ne->Ztk,length_append->Ztl,getElem?_append_right->Zto,lookup_cons->Ztp,replicate_succ->Zts,getElem?_eq_none_iff->Ztv,mem_cons_self->Ztw,mem_of_getElem?->Ztx,drop_eq_getElem_cons->Zty,append_nil->Zt1,length_set->Zt2,length_nil->Zt3,zip_cons_cons->Zt5,flatten_cons->Zt6,map_nil->Zt7,lookup->Zt8,getElem?_range->Zt9,getElem?_cons_zero->ZtA,mem_range->ZtC,mem_singleton->ZtD,length_singleton->ZtG,map_append->ZtH,find?_cons->ZtI,any_cons->ZtJ,sum_cons->ZtK,getElem?_mapIdx->ZtL,mem_or_eq_of_mem_set->ZtM,all_eq_true->ZtN,mem_map->ZtP,mem_filterMap->ZtQ,getElem?_replicate->ZtR,drop_eq_nil_of_le->ZtS,ext_getElem?->ZtT,contains_iff_mem->ZtU,dropLast_eq_take->ZtV,getElem?_replicate_of_lt->ZtX,mem_filter->ZtY,filterMap_cons->ZtZ,nodup_cons->Zua,nil_append->Zub,set_cons_succ->Zud,map_take->Zuf,getElem_mem->Zui,of_mem_zip->Zuj,length_zip->Zuk,set_set->Zul,map_map->Zum,idxOf_cons->Zun
open Nat renaming le_refl->ZsV,lt_of_lt_of_le->ZsY,ne_of_lt->Zti,le_trans->Ztr,lt_irrefl->Ztz,lt_succ_self->ZtB,lt_of_le_of_lt->ZtE,zero_le->ZtF,ne_of_gt->Zuc,le_succ->Zue
open Int renaming emod_lt_of_pos->Ztm,emod_nonneg->Ztn,emod_eq_of_lt->Ztq,toNat_of_nonneg->Ztt,toNat_natCast->Ztu,natCast_zero->ZtO,mul_ediv_add_emod->ZtW,zero_emod->Zug,sub_self->Zuo,add_zero->Zup
open Array renaming length_toList->Zt0
open Option renaming map_eq_some_iff->Zt4,getD_some->Zuh
set_option Elab.async false
set_option linter.all false
set_option maxRecDepth 100000
namespace L2
open PySem PySem.Spec PyProof.Rows
noncomputable abbrev Key:=Sum Int Str
noncomputable def ZdZ:Key->Value->Bool
 |.inl k,v=>Value.isInt k v
 |.inr x,v=>Value.isStrOf x v
noncomputable def Znh (w:World):Key->Int
 |.inl k=>hashInt k
 |.inr x=>hashStr w x
theorem ZR:∀{k:Key}{v:Value},ZdZ k v=true->(∃i t,k=Sum.inl i/\v=Value.int i t)\/(∃x t,k=Sum.inr x/\v=Value.str x t)
 |.inl i,v,h=>by
  obtain⟨t,e⟩:=Value.isInt_shape (k:=i) (v:=v) h
  exact .inl ⟨i,t,rfl,e⟩
 |.inr x,v,h=>by
  obtain⟨t,e⟩:=Value.isStrOf_shape (x:=x) (v:=v) h
  exact .inr ⟨x,t,rfl,e⟩
theorem Zf1 (i:Int) (t:Tok):ZdZ (.inl i) (.int i t)=true:=by simp[ZdZ,Value.isInt]
theorem Zf0 (x:Str) (t:Tok):ZdZ (.inr x) (.str x t)=true:=by simp[ZdZ,Value.isStrOf]
theorem ZkM (a b:Int):decide ((Sum.inl a:Key)=Sum.inl b)=(a==b):=by
 by_cases e:a=b
 ·subst e;simp
 ·have h:¬(Sum.inl a:Key)=Sum.inl b:=fun q=>e (Sum.inl.inj q)
  rw[decide_eq_false h]
  exact(beq_eq_false_iff_ne.mpr e).symm
theorem ZkJ (a b:Str):decide ((Sum.inr a:Key)=Sum.inr b)=decide (a=b):=by
 by_cases e:a=b
 ·subst e;simp
 ·have h:¬(Sum.inr a:Key)=Sum.inr b:=fun q=>e (Sum.inr.inj q)
  rw[decide_eq_false h,decide_eq_false e]
theorem ZkL (a:Int) (b:Str):decide ((Sum.inl a:Key)=Sum.inr b)=false:=decide_eq_false (fun q=>nomatch q)
theorem ZkK (a:Str) (b:Int):decide ((Sum.inr a:Key)=Sum.inl b)=false:=decide_eq_false (fun q=>nomatch q)
noncomputable def Jm (prog:Program) (w:World):PySem.KeyKind prog w Key where
 is:=ZdZ
 hash:=Znh w
 inj:=fun v a b ha hb=>by
  rcases ZR ha with ⟨i,t,rfl,rfl⟩|⟨x,t,rfl,rfl⟩
  ·rcases ZR hb with ⟨j,u,rfl,e⟩|⟨y,u,rfl,e⟩
   ·injection e with e1 _;rw[e1]
   ·exact nomatch e
  ·rcases ZR hb with ⟨j,u,rfl,e⟩|⟨y,u,rfl,e⟩
   ·exact nomatch e
   ·injection e with e1 _;rw[e1]
 byValue:=fun k v h=>by
  rcases ZR h with ⟨i,t,rfl,rfl⟩|⟨x,t,rfl,rfl⟩<;>rfl
 pyHash:=fun hv h=>by
  rcases ZR hv with ⟨i,t,rfl,rfl⟩|⟨x,t,rfl,rfl⟩
  ·exact wpAny_pyHash_int h
  ·exact wpAny_pyHash_str h
 eqBool:=fun hu hv h=>by
  rcases ZR hu with ⟨i,t,rfl,rfl⟩|⟨x,t,rfl,rfl⟩
  ·rcases ZR hv with ⟨j,u,rfl,rfl⟩|⟨y,u,rfl,rfl⟩
   ·rw[ZkM] at h;exact wpAny_eqBool_int h
   ·rw[ZkL] at h;exact SeqAt.EqAt.int_str i t y u _ _ _ _ h
  ·rcases ZR hv with ⟨j,u,rfl,rfl⟩|⟨y,u,rfl,rfl⟩
   ·rw[ZkK] at h;exact SeqAt.EqAt.str_int x t j u _ _ _ _ h
   ·rw[ZkJ] at h;exact wpAny_eqBool_str h
 «strs»:=fun k x t v h=>by
  rcases ZR h with ⟨i,u,rfl,e⟩|⟨y,u,rfl,e⟩
  ·exact nomatch e
  ·injection e with e1 _
   subst e1
   cases v<;>rfl
theorem ZbM (prog:Program) (w:World) (i:Int) (t:Tok):(Jm prog w).is (.inl i) (.int i t)=true:=Zf1 i t
theorem ZbL (prog:Program) (w:World) (x:Str) (t:Tok):(Jm prog w).is (.inr x) (.str x t)=true:=Zf0 x t
inductive V where
 |non|bl (b:Bool)|int (i:Int)|str (x:Str)|byt (b:Array UInt8)|flt (b:UInt64)|ref (a:Addr)|ty (n:String)
 deriving DecidableEq
noncomputable def Ja:V->Value->Prop
 |.non,u=>u=Value.none
 |.bl b,u=>u=Value.bool b
 |.int i,u=>∃t,u=Value.int i t
 |.str x,u=>∃t,u=Value.str x t
 |.byt b,u=>∃t,u=Value.bytes b t
 |.flt b,u=>∃t,u=Value.float b t
 |.ref a,u=>u=Value.ref a
 |.ty n,u=>u=Value.type n
noncomputable abbrev ZQ:List V->List Value->Prop:=Paired Ja
theorem ZQ.length {xs:List V}{us:List Value} (r:ZQ xs us):xs.length=us.length:=Paired.length r
theorem ZQ.get:∀{xs:List V}{us:List Value}{i:Nat}{x:V},ZQ xs us->xs[i]?=some x->∃u,us[i]?=some u/\Ja x u
 |_,_,_,_,.nil,e=>by simp at e
 |_,_,0,_,.cons r _,e=>by simp at e;subst e;exact⟨_,rfl,r⟩
 |_,_,i+1,x,.cons _ t,e=>by
  obtain⟨u,h1,h2⟩:=ZQ.get (i:=i) (x:=x) t (by simpa using e)
  exact⟨u,by simpa using h1,h2⟩
theorem ZQ.set {x:V}{u:Value} (r:Ja x u):∀{xs:List V}{us:List Value} (i:Nat),ZQ xs us->ZQ (xs.set i x) (us.set i u)
 |_,_,_,.nil=>.nil
 |_,_,0,.cons _ t=>.cons r t
 |_,_,i+1,.cons q t=>.cons q (ZQ.set r i t)
theorem ZQ.append:∀{xs ys:List V}{us ws:List Value},ZQ xs us->ZQ ys ws->ZQ (xs++ys) (us++ws)
 |_,_,_,_,.nil,s=>s
 |_,_,_,_,.cons r t,s=>.cons r (ZQ.append t s)
theorem ZQ.take:∀{xs:List V}{us:List Value} (n:Nat),ZQ xs us->ZQ (xs.take n) (us.take n)
 |_,_,0,_=>.nil
 |_,_,_+1,.nil=>.nil
 |_,_,n+1,.cons r t=>.cons r (ZQ.take n t)
theorem ZQ.drop:∀{xs:List V}{us:List Value} (n:Nat),ZQ xs us->ZQ (xs.drop n) (us.drop n)
 |_,_,0,r=>r
 |_,_,_+1,.nil=>.nil
 |_,_,n+1,.cons _ t=>ZQ.drop n t
noncomputable def Za3:Option V->Option Value->Prop
 |some v,some u=>Ja v u
 |none,none=>True
 |_,_=>False
def KV {κ:Type}:List (κ×V)->List (κ×Value)->Prop:=Paired fun(p:κ×V) (q:κ×Value)=>p.1=q.1/\Ja p.2 q.2
noncomputable def kV:Key->V
 |.inl i=>.int i
 |.inr x=>.str x
inductive HO where
  |lst (xs:List V)
  |tup (xs:List V)
  |dK (kvs:List (Key×V))|dT (kvs:List (List Key×V))
  |set (S:Int->Bool) (n:Nat)
  |ins (C dx:Addr) (fs:List (Str×V))
  |own (x:Addr)
  |xd (fs:List (Str×V))
  |met (f x:Addr)
  |rng (lo hi:Int)
  |frz (o:Obj) (u:HO)
  |tbl (ps:Array Value)
  |ext (φ:Heap->Prop)
noncomputable abbrev Hp:=Addr->Option HO
noncomputable def upd (H:Hp) (a:Addr) (o:HO):Hp:=fun b=>if b=a then some o else H b
theorem Zw {H:Hp}{a:Addr}{o:HO}:upd H a o a=some o:=by unfold upd;rw[if_pos rfl]
theorem Zn {H:Hp}{a b:Addr}{o:HO} (h:b≠a):upd H a o b=H b:=by unfold upd;rw[if_neg h]
theorem ZkE {H:Hp}{a b:Addr}{o u:HO} (h:H a=some o) (h':H b=some u) (d:o≠u):a≠b:=by
 intro e;subst e;rw[h] at h';exact d (Option.some.inj h')
theorem Zv {H:Hp}{a b:Addr}{o:HO} (h:H a=some o) (h':H b=none):a≠b:=by
 intro e;subst e;rw[h] at h';cases h'
section
variable (P:Program) (w:World)
noncomputable def Jg (H:Hp) (h:Heap) (a:Addr):HO->Prop
 |.lst xs=>xs.length<=sizeLine/\∃(its:List Value) (n:Nat),ZQ xs its/\h.get? a=some { cls:=.type "list",data:=.seq its.toArray n }
 |.tup xs=>xs.length<=sizeLine/\∃its:List Value,ZQ xs its/\IsTup h a its.toArray
 |.dK kvs=>kvs.length<=sizeLine/\(a==sysModules)=false/\∃vs,KV kvs vs/\h.DictOf (Jm P w) a vs
 |.dT kvs=>kvs.length<=sizeLine/\(a==sysModules)=false/\∃xs:List (List Key×Addr×Value),
   Paired (fun(p:List Key×V) (q:List Key×Addr×Value)=>p.1=q.1/\H q.2.1=some (.tup (p.1.map kV))/\Ja p.2 q.2.2) kvs xs /\
   ∃o es ep,h.get? a=some o/\o.ExactDict/\o.data=.dict es ep/\es.toList=xs.map (entryOfKey (tupleKind (Jm P w)))/\(xs.map (·.1)).Nodup
 |.set S n=>h.SetOf (intKind P w) a S n
 |.ins C dx fs=>H dx=some (.own a)/\fs.length<=1000/\dx≠a/\h.get? a=some (PySem.W.instObj C dx) /\
   ∃mA,h.Ns1 dx mA/\(∀f,Za3 (fs.lookup f) (mA f))/\PySem.Within mA (fs.map (·.1))
 |.own _=>∃o,h.get? a=some o
 |.xd fs=>∃mA,h.Ns1 a mA/\∀f,Za3 (fs.lookup f) (mA f)
 |.rng lo hi=>∃t u v,h.get? a=some { cls:=.type "range",data:=.fields #[.int lo t,.int hi u,.int 1 v] }
 |.frz o u=>h.get? a=some o/\Jg H h a u
 |.tbl ps=>h.get? a=some { cls:=.none,data:=.fields ps }
 |.met f x=>h.get? a=some (PySem.W.methodObj (.ref f) (.ref x))
 |.ext φ=>φ h/\(∃o,h.get? a=some o)/\∀h1 h2:Heap,φ h1->(∀o,h1.get? a=some o->h2.get? a=some o)->φ h2
def HOk (H:Hp) (h:Heap):Prop:=∀a o,H a=some o->Jg P w H h a o
end
section
variable {P:Program}{w:World}{H H':Hp}{h h':Heap}{a:Addr}{o:HO}
theorem Jg.lt (x:Jg P w H h a o):a<h.objs.size:=by
 cases o with
 |lst xs=>obtain⟨_,_,_,_,e⟩:=x;exact Heap.lt_size e
 |tup xs=>obtain⟨_,_,_,p⟩:=x;exact p.lt
 |dK kvs=>obtain⟨_,_,_,_,o,_,_,e,_⟩:=x;exact Heap.lt_size e
 |dT kvs=>obtain⟨_,_,_,_,o,_,_,e,_⟩:=x;exact Heap.lt_size e
 |set S n=>obtain⟨o,_,_,_,e,_⟩:=x;exact Heap.lt_size e
 |ins C dx fs=>obtain⟨_,_,_,e,_⟩:=x;exact Heap.lt_size e
 |own y=>obtain⟨_,e⟩:=x;exact Heap.lt_size e
 |xd fs=>obtain⟨_,⟨_,_,_,e,_⟩,_⟩:=x;exact Heap.lt_size e
 |rng lo hi=>obtain⟨_,_,_,e⟩:=x;exact Heap.lt_size e
 |frz ob u=>obtain⟨e,_⟩:=x;exact Heap.lt_size e
 |tbl ps=>exact Heap.lt_size (show h.get? a=some _ from x)
 |met f y=>exact Heap.lt_size (show h.get? a=some _ from x)
 |ext φ=>obtain⟨_,⟨_,e⟩,_⟩:=x;exact Heap.lt_size e
theorem Paired.mapP {α β:Type}{F G:α->β->Prop}:∀{l₁:List α}{l₂:List β},Paired F l₁ l₂->(∀a b,F a b->G a b)->Paired G l₁ l₂
 |_,_,.nil,_=>.nil
 |_,_,.cons r t,f=>.cons (f _ _ r) (Paired.mapP t f)
theorem Jg.stay (x:Jg P w H h a o) (k:∀b u,(b=a\/H b=some (.own a))->h.get? b=some u->h'.get? b=some u)
  (ho:∀b,H b=some (.own a)->H' b=some (.own a)) (ht:∀b xs,H b=some (.tup xs)->H' b=some (.tup xs)):Jg P w H' h' a o:=by
 induction o with
 |lst xs=>obtain⟨z,its,n,r,e⟩:=x;exact⟨z,its,n,r,k _ _ (.inl rfl) e⟩
 |tup xs=>obtain⟨z,its,r,ob,e,c⟩:=x;exact⟨z,its,r,ob,k _ _ (.inl rfl) e,c⟩
 |dK kvs=>obtain⟨z,y,vs,r,ob,es,ep,e,c⟩:=x;exact⟨z,y,vs,r,ob,es,ep,k _ _ (.inl rfl) e,c⟩
 |dT kvs =>
  obtain⟨z,y,xs,r,ob,es,ep,e,c⟩:=x
  exact⟨z,y,xs,Paired.mapP r fun p q z=>⟨z.1,ht _ _ z.2.1,z.2.2⟩,ob,es,ep,k _ _ (.inl rfl) e,c⟩
 |set S n=>obtain⟨ob,es,ep,t,e,c⟩:=x;exact⟨ob,es,ep,t,k _ _ (.inl rfl) e,c⟩
 |ins C dx fs =>
  obtain⟨d,z,ne,e,mA,⟨od,es,ep,e2,c⟩,r⟩:=x
  exact⟨ho _ d,z,ne,k _ _ (.inl rfl) e,mA,⟨od,es,ep,k _ _ (.inr d) e2,c⟩,r⟩
 |own y=>obtain⟨ob,e⟩:=x;exact⟨ob,k _ _ (.inl rfl) e⟩
 |xd fs=>obtain⟨mA,⟨od,es,ep,e,c⟩,r⟩:=x;exact⟨mA,⟨od,es,ep,k _ _ (.inl rfl) e,c⟩,r⟩
 |rng lo hi=>obtain⟨t,u,v,e⟩:=x;exact⟨t,u,v,k _ _ (.inl rfl) e⟩
 |frz ob u ih=>obtain⟨e,q⟩:=x;exact⟨k _ _ (.inl rfl) e,ih q⟩
 |tbl ps =>
  have e:h.get? a=some { cls:=.none,data:=.fields ps }:=x
  show h'.get? a=some { cls:=.none,data:=.fields ps }
  exact k a _ (.inl rfl) e
 |met f y =>
  have e:h.get? a=some (PySem.W.methodObj (.ref f) (.ref y)):=x
  show h'.get? a=some (PySem.W.methodObj (.ref f) (.ref y))
  exact k a _ (.inl rfl) e
 |ext φ=>obtain⟨p,⟨o,e⟩,st⟩:=x;exact⟨st _ _ p fun o q=>k _ _ (.inl rfl) q,⟨o,k _ _ (.inl rfl) e⟩,st⟩
theorem HOk.lt (x:HOk P w H h) (e:H a=some o):a<h.objs.size:=(x a o e).lt
theorem HOk.fresh (x:HOk P w H h) (e:h.objs.size<=a):H a=none:=by
 cases q:H a with
 |none=>rfl
 |some u=>exact absurd (ZsY (x.lt q) e) (Ztz _)
theorem HOk.kept (x:HOk P w H h) (k:∀b u,h.get? b=some u->h'.get? b=some u):HOk P w H h':=fun a o e =>
 (x a o e).stay (fun b u _ q=>k b u q) (fun _ q=>q) fun _ _ q=>q
theorem HOk.laid (x:HOk P w H h) (k:∀b u,h.get? b=some u->h'.get? b=some u) (hp:h.objs.size<=a) (new:Jg P w (upd H a o) h' a o):HOk P w (upd H a o) h':=fun b u e=>by
 have hn:=x.fresh hp
 by_cases hb:b=a
 ·subst hb;rw[Zw] at e;cases e;exact new
 ·rw[Zn hb] at e
  exact(x b u e).stay (fun c v _ q=>k c v q) (fun c q=>by rw[Zn (Zv q hn)];exact q) fun c xs q=>by rw[Zn (Zv q hn)];exact q
end
def Rd (H:Hp) (a:Addr) (u:HO):Prop:=H a=some u\/∃o,H a=some (.frz o u)
theorem Rd.ok {P:Program}{w:World}{H:Hp}{h:Heap}{a:Addr}{u:HO} (r:Rd H a u) (x:HOk P w H h):Jg P w H h a u:=by
 rcases r with r|⟨o,r⟩
 ·exact x a u r
 ·obtain⟨_,q⟩:=x a _ r
  exact q
noncomputable def Mut:Option HO->Prop
 |some (.lst _)=>True
 |some (.dK _)=>True
 |some (.dT _)=>True
 |some (.set _ _)=>True
 |some (.ins _ _ _)=>True
 |some (.ext _)=>True
 |_=>False
section
variable {P:Program}{w:World}{H:Hp}{h h':Heap}{x e:Addr}{o':HO}
theorem HOk.write (ok:HOk P w H h) (mu:Mut (H x)) (he:e=x\/H e=some (.own x)) (k:∀b u,b≠e->h.get? b=some u->h'.get? b=some u) (heo:∃u,h'.get? e=some u)
  (new:Jg P w (upd H x o') h' x o'):HOk P w (upd H x o') h':=fun b u q=>by
 have nown:∀c y,H c=some (.own y)->c≠x:=fun c y r z=>by subst z;rw[r] at mu;exact mu
 have ntup:∀c xs,H c=some (.tup xs)->c≠x:=fun c xs r z=>by subst z;rw[r] at mu;exact mu
 by_cases hb:b=x
 ·subst hb;rw[Zw] at q;cases q;exact new
 ·rw[Zn hb] at q
  by_cases hbe:b=e
  ·have q':H b=some (.own x):=by
    rcases he with z|z
    ·exact absurd (hbe.trans z) hb
    ·rw[hbe];exact z
   rw[q] at q';cases q'
   obtain⟨v,hv⟩:=heo
   exact⟨v,by rw[hbe];exact hv⟩
  ·refine(ok b u q).stay (fun c v hc r=>k c v ?_ r) (fun c r=>by rw[Zn (nown c b r)];exact r) fun c xs r=>by rw[Zn (ntup c xs r)];exact r
   rcases hc with rfl|hc
   ·exact hbe
   ·rintro rfl
    rcases he with z|z
    ·exact nown c b hc z
    ·rw[hc] at z;cases z;exact hb rfl
end
structure Un (fs ex:List Addr) (H H':Hp) (h h':Heap):Prop where
 keep:∀b o,h.get? b=some o->H b=none->b ∉ fs->b ∉ ex->h'.get? b=some o
 slot:∀b o,h.get? b=some o->H b=none->b∈fs->b ∉ ex->∃sl,h'.get? b=some { o with slots:=sl }
 free:∀b o,h.get? b=some o->H b=none->b ∉ ex->H' b=none
 there:∀b o,h.get? b=some o->b ∉ ex->∃o',h'.get? b=some o'
 tups:∀b xs,H b=some (.tup xs)->H' b=some (.tup xs)
 frzs:∀b o u,H b=some (.frz o u)->H' b=some (.frz o u)
 tbls:∀b ps,H b=some (.tbl ps)->∃more,H' b=some (.tbl (ps++more))
section
variable {fs ex:List Addr}{H H1:Hp}{h h1 h':Heap}{a x e:Addr}{o:HO}
theorem Un.any (u:Un fs ex H H1 h h1) {b:Addr}{ob:Obj} (q:h.get? b=some ob) (n:H b=none) (hx:b ∉ ex):∃sl,h1.get? b=some { ob with slots:=sl }:=by
 by_cases hb:b∈fs
 ·exact u.slot b ob q n hb hx
 ·exact⟨ob.slots,u.keep b ob q n hb hx⟩
theorem Un.kept (k:∀b u,h.get? b=some u->h'.get? b=some u):Un fs ex H H h h':=
 ⟨fun b ob q _ _ _=>k b ob q,fun b ob q _ _ _=>⟨ob.slots,k b ob q⟩,fun _ _ _ n _=>n,fun b ob q _=>⟨ob,k b ob q⟩,fun _ _ q=>q,fun _ _ _ q=>q,fun _ ps q=>⟨#[],by rw[q];simp⟩⟩
theorem Un.refl:Un fs ex H H h h:=Un.kept fun _ _ q=>q
theorem Un.laid (k:∀b u,h.get? b=some u->h'.get? b=some u) (hp:h.objs.size<=a) (hn:H a=none):Un fs ex H (upd H a o) h h' where
 keep:=fun b u q _ _ _=>k b u q
 slot:=fun b u q _ _ _=>⟨u.slots,k b u q⟩
 free:=fun b u q n _=>by rw[Zn (Zti (ZsY (Heap.lt_size q) hp))];exact n
 there:=fun b u q _=>⟨u,k b u q⟩
 tups:=fun b xs q=>by rw[Zn (Zv q hn)];exact q
 frzs:=fun b u xs q=>by rw[Zn (Zv q hn)];exact q
 tbls:=fun b ps q=>⟨#[],by rw[Zn (Zv q hn),q];simp⟩
theorem Un.write (mu:Mut (H x)) (he:e=x\/H e=some (.own x)) (k:∀b u,b≠e->h.get? b=some u->h'.get? b=some u) (heo:∃u,h'.get? e=some u):Un fs ex H (upd H x o) h h':=by
 have hx:∀b,H b=none->b≠x:=fun b n z=>by subst z;rw[n] at mu;exact mu
 have hb:∀b,H b=none->b≠e:=fun b n z=>by
  subst z
  rcases he with r|r
  ·exact hx b n r
  ·rw[n] at r;cases r
 have hm:∀b u,H b=some u->¬Mut (some u)->b≠x:=fun b u q nm z=>by subst z;rw[q] at mu;exact nm mu
 refine⟨fun b u q n _ _=>k b u (hb b n) q,fun b u q n _ _=>⟨u.slots,k b u (hb b n) q⟩,fun b u q n _=>by rw[Zn (hx b n)];exact n,fun b u q _=>?_,
  fun b xs q=>by rw[Zn (hm b _ q fun z=>z)];exact q,fun b u xs q=>by rw[Zn (hm b _ q fun z=>z)];exact q,fun b ps q=>⟨#[],by rw[Zn (hm b _ q fun z=>z),q];simp⟩⟩
 by_cases hbe:b=e
 ·subst hbe;exact heo
 ·exact⟨u,k b u hbe q⟩
end
noncomputable def trk (h:Heap) (H:Hp):List Addr:=(List.range h.objs.size).filter fun a=>(H a).isSome
noncomputable def Zhq (h:Heap) (H:Hp):Heap:=PySem.W.hideAll h (trk h H)
theorem ZfC (h:Heap) (H:Hp):(Zhq h H).objs.size=h.objs.size:=PySem.W.hideAll_size _ _
theorem Zhp {h:Heap}{H:Hp}{b:Addr}{o:Obj} (e:h.get? b=some o) (n:H b=none):(Zhq h H).get? b=some o:=
 PySem.W.hideAll_get _ e fun hm=>by
  have q:(H b).isSome=true:=(ZtY.mp hm).2
  rw[n] at q;simp at q
theorem ZiZ {h:Heap}{H:Hp}{b:Addr}{o:Obj} (e:(Zhq h H).get? b=some o):h.get? b=some o/\H b=none:=by
 have e':h.get? b=some o:=PySem.W.of_hideAll (trk h H) e
 refine⟨e', ?_⟩
 cases q:H b with
 |none=>rfl
 |some x =>
  have hm:b∈trk h H:=ZtY.mpr ⟨ZtC.mpr (Heap.lt_size e'),by simp[q]⟩
  have z:(Zhq h H).get? b=none:=PySem.W.hideAll_none (trk h H) hm
  rw[z] at e;cases e
noncomputable def ZjC (g h:Heap) (L:Addr):List (Addr×Obj):=(List.range h.objs.size).filterMap fun a=>if a=L\/(g.get? a).isSome=true then none else (h.get? a).map fun o=>(a,o)
noncomputable def Zia (g h:Heap) (L d:Addr):List (Addr×Obj):=(ZjC g h L).filter fun p=>decide (p.1≠d)
structure Mod (K:PySem.W.Frag) (mg:Str->Option Value) (base:Heap):Prop where
 kin:K.In base
 glob:base.Ns mainGlobals mg
 blt:∃mb,base.Ns builtinsNs mb/\∀x:Str,x ≠ "__name__"->mb x=bootBuiltins x
 nolimit:base.NoLimit
structure Cx where
 prog:Program
 w:World
 K:PySem.W.Frag
 mg:Str->Option Value
 base:Heap
 A:Around
 N:List Str
 s₀:Shared
 H₀:Hp
 env:Env
 outer:List Env
 stack:List Env
 ex:List Addr
 fn:Str->Bool
 calm:Bool
 pn:List (Addr×Obj)
 xe:Value->Shared->Prop
noncomputable def frs (l:List Env):List Addr:=l.filterMap (·.frame)
noncomputable abbrev Cx.fs (X:Cx):List Addr:=frs X.outer
def Vis (sc:Scope) (x:Str):Prop:=sc.names.lookup x=some .local\/sc.names.lookup x=some .cell\/sc.names.lookup x=some .free
def Loc (sc:Scope) (x:Str):Prop:=sc.names.lookup x=some .local\/sc.names.lookup x=some .cell
def Zno (env:Env) (h:Heap) (m:Str->Option Value) (x:Str) (u:Value):Prop:=
 (env.kindOf x=some .local/\m x=some u)\/((env.kindOf x=some .cell\/env.kindOf x=some .free)/\∃c,env.cells.lookup x=some c/\h.IsCell c (some u))
structure Cx.Ok (X:Cx):Prop where
 mod:Mod X.K X.mg X.base
 kind:X.env.scope.kind=.function
 glob:X.env.globals=mainGlobals
 blt:X.env.builtins=builtinsNs
 above:X.s₀.heap.objs.size<=X.env.locals
 inj:∀x y c,X.env.cells.lookup x=some c->X.env.cells.lookup y=some c->x=y
 has:∀x,(X.env.kindOf x=some .cell\/X.env.kindOf x=some .free)->∃c,X.env.cells.lookup x=some c
 cab:∀x c,X.fn x=true->X.env.cells.lookup x=some c->X.s₀.heap.objs.size<=c
 hd:X.calm=true->X.A.handled=none
 frames:X.A.frames=some X.stack
 stk:X.stack=X.outer\/(X.stack=X.env::X.outer/\X.env.frame=some X.env.locals)
 exf:∀b∈X.ex,b≠X.env.locals/\∀x c,X.env.cells.lookup x=some c->c≠b
 bs:∀b o,X.base.get? b=some o->X.s₀.heap.get? b=some o/\X.H₀ b=none
 bsz:X.base.objs.size<=X.s₀.heap.objs.size
 noex:∀b o,X.base.get? b=some o->b ∉ X.ex
 exfs:∀b∈X.ex,b ∉ X.fs
 funs:X.s₀.heap.FunFrames X.base X.outer
 frf:∀b∈X.fs,X.H₀ b=none
structure Inv (X:Cx) (pins:List (Addr×Obj)) (σ:List (Option V)) (H:Hp) (s:Shared):Prop where
 ok:X.Ok
 os:s.os=X.s₀.os
 bare:AllBare s.gens
 base:Un X.fs X.ex X.H₀ H X.s₀.heap s.heap
 loc:∃m,s.heap.Ns X.env.locals m/\∀(i:Nat) (x:Str) (v:V),X.N[i]?=some x->σ[i]?=some (some v)->Vis X.env.scope x->∃u,Ja v u/\Zno X.env s.heap m x u
 cell:∀x c,X.env.cells.lookup x=some c->∃v,s.heap.IsCell c v
 free:H X.env.locals=none
 freeC:∀x c,X.env.cells.lookup x=some c->H c=none
 pin:∀p∈X.pn++pins,s.heap.get? p.1=some p.2/\H p.1=none/\p.1≠X.env.locals/\p.1 ∉ X.fs/\∀v,p.2.data≠.cell v
 hok:HOk X.prog X.w H s.heap
 len:σ.length=X.N.length
section
variable {X:Cx}{pins:List (Addr×Obj)}{σ:List (Option V)}{H H':Hp}{s:Shared}{h':Heap}
theorem Cx.Ok.nofr (ok:X.Ok) {b:Addr}{o:Obj} (e:X.base.get? b=some o):b ∉ X.fs:=fun hb=>by
 have:=(ok.funs.mem hb).1
 rw[e] at this;cases this
theorem Inv.bs (I:Inv X pins σ H s):∀b o,X.base.get? b=some o->s.heap.get? b=some o/\H b=none:=fun b o e =>
 ⟨I.base.keep b o (I.ok.bs b o e).1 (I.ok.bs b o e).2 (I.ok.nofr e) (I.ok.noex b o e),I.base.free b o (I.ok.bs b o e).1 (I.ok.bs b o e).2 (I.ok.noex b o e)⟩
theorem Inv.bk (I:Inv X pins σ H s):∀b o,X.base.get? b=some o->s.heap.get? b=some o:=fun b o e=>(I.bs b o e).1
theorem Inv.mod (I:Inv X pins σ H s):Mod X.K X.mg X.base:=I.ok.mod
theorem Inv.kIn (I:Inv X pins σ H s):X.K.In s.heap:=I.ok.mod.kin.keeps I.bk
theorem Inv.lt (I:Inv X pins σ H s):X.env.locals<s.heap.objs.size:=let ⟨_,hn,_⟩:=I.loc;hn.lt
theorem Inv.sz (I:Inv X pins σ H s):X.s₀.heap.objs.size<=s.heap.objs.size:=Ztr I.ok.above (Nat.le_of_lt I.lt)
theorem Inv.nofs (I:Inv X pins σ H s) {a:Addr} (h:s.heap.objs.size<=a):a ∉ X.fs:=fun hb=>by
 obtain⟨_,o,ho,_⟩:=I.ok.funs.mem hb
 exact absurd (ZsY (Heap.lt_size ho) (Ztr I.sz h)) (Ztz _)
theorem Inv.cne (I:Inv X pins σ H s):∀x c,X.env.cells.lookup x=some c->c≠X.env.locals:=fun x c e z=>by
 obtain⟨v,o,ho,hd⟩:=I.cell x c e
 obtain⟨m,⟨o',es,ep,ho',hd',_⟩,_⟩:=I.loc
 rw[z,ho'] at ho;cases ho;rw[hd'] at hd;cases hd
theorem Inv.funs (I:Inv X pins σ H s):s.heap.FunFrames X.base X.outer:=by
 have all:∀(l:List Env),(∀b∈frs l,b∈X.fs)->X.s₀.heap.FunFrames X.base l->s.heap.FunFrames X.base l:=by
  intro l
  induction l with
  |nil=>intro _ _;trivial
  |cons env r ih =>
   intro hs hl
   obtain⟨hk,⟨L,o,hf,hn,ho,hd⟩,hr⟩:=hl
   have hL:L∈X.fs:=hs L (by unfold frs;rw[ZtZ,hf];exact Ztw)
   obtain⟨sl,e⟩:=I.base.slot L o ho (I.ok.frf L hL) hL fun z=>I.ok.exfs L z hL
   exact⟨hk,⟨L,_,hf,hn,e,hd⟩,ih (fun b hb=>hs b (by unfold frs;rw[ZtZ,hf];exact Zth _ hb)) hr⟩
 exact all X.outer (fun _ hb=>hb) I.ok.funs
theorem Inv.stack (I:Inv X pins σ H s):s.heap.FunFrames X.base X.stack:=by
 rcases I.ok.stk with e|⟨e,hf⟩
 ·rw[e];exact I.funs
 ·rw[e]
  obtain⟨m,hn,_⟩:=I.loc
  refine .cons (by rw[I.ok.kind];decide) hf hn ?_ I.funs
  exact Heap.get?_none_of_le (Ztr I.ok.bsz I.ok.above)
theorem Inv.stkSub (I:Inv X pins σ H s):∀b∈frs X.stack,b∈X.env.locals::X.fs:=fun b hb=>by
 rcases I.ok.stk with e|⟨e,hf⟩
 ·rw[e] at hb;exact Zth _ hb
 ·rw[e] at hb
  unfold frs at hb
  rw[ZtZ,hf] at hb
  exact hb
theorem Inv.stkFree (I:Inv X pins σ H s):∀b∈frs X.stack,H b=none:=fun b hb=>by
 rcases ZsZ.mp (I.stkSub b hb) with e|hb
 ·rw[e];exact I.free
 ·obtain⟨_,o,ho,_⟩:=I.ok.funs.mem hb
  exact I.base.free b o ho (I.ok.frf b hb) fun z=>I.ok.exfs b z hb
theorem Inv.step {g':Array GenState}{t':Nat}{d':Drawn}{ch:List Addr} (I:Inv X pins σ H s)
  (hch:∀b∈ch,(b∈X.ex\/X.s₀.heap.objs.size<=b)/\b≠X.env.locals/\(∀x c,X.env.cells.lookup x=some c->c≠b)/\∀p∈X.pn++pins,p.1≠b)
  (keep:∀b o,b≠X.env.locals->b ∉ X.fs->b ∉ ch->s.heap.get? b=some o->H b=none->h'.get? b=some o)
  (slot:∀b o,b≠X.env.locals->b∈X.fs->b ∉ ch->s.heap.get? b=some o->H b=none->∃sl,h'.get? b=some { o with slots:=sl }) (free:∀b o,b ∉ ch->s.heap.get? b=some o->H b=none->H' b=none)
  (there:∀b o,b ∉ ch->s.heap.get? b=some o->∃o',h'.get? b=some o')
  (tups:∀b xs,H b=some (.tup xs)->H' b=some (.tup xs)) (frzs:∀b o u,H b=some (.frz o u)->H' b=some (.frz o u)) (tbls:∀b ps,H b=some (.tbl ps)->∃more,H' b=some (.tbl (ps++more)))
  (ns:∀m,s.heap.Ns X.env.locals m->h'.Ns X.env.locals m) (hok:HOk X.prog X.w H' h') (hg:AllBare g') :
  Inv X pins σ H' { s with heap:=h',gens:=g',drawn:=d',toks:=t' }:=by
 have neL:∀b o,X.s₀.heap.get? b=some o->b≠X.env.locals:=fun b o e=>Zti (ZsY (Heap.lt_size e) I.ok.above)
 have neC:∀b o,X.s₀.heap.get? b=some o->b ∉ X.ex->b ∉ ch:=fun b o e hx hb=>by
  rcases (hch b hb).1 with z|z
  ·exact hx z
  ·exact absurd (ZsY (Heap.lt_size e) z) (Ztz _)
 have cellK:∀x c,X.env.cells.lookup x=some c->∀v,s.heap.IsCell c v->h'.IsCell c v:=fun x c e v ⟨o,ho,hd⟩=>by
  have nch:c ∉ ch:=fun z=>(hch c z).2.2.1 x c e rfl
  by_cases hc:c∈X.fs
  ·obtain⟨sl,q⟩:=slot c o (I.cne x c e) hc nch ho (I.freeC x c e)
   exact⟨_,q,hd⟩
  ·exact⟨o,keep c o (I.cne x c e) hc nch ho (I.freeC x c e),hd⟩
 refine⟨I.ok,I.os,hg,⟨fun b o e n hb hx=>?_,fun b o e n hb hx=>?_,fun b o e n hx=>?_,fun b o e hx=>?_,fun b xs e=>tups b xs (I.base.tups b xs e),fun b o xs e=>frzs b o xs (I.base.frzs b o xs e),fun b ps e=>?_⟩, ?_,fun x c e=>?_, ?_,fun x c e=>?_,fun p hp=>?_,hok,I.len⟩
 ·exact keep b o (neL b o e) hb (neC b o e hx) (I.base.keep b o e n hb hx) (I.base.free b o e n hx)
 ·obtain⟨sl,e1⟩:=I.base.slot b o e n hb hx
  obtain⟨sl',e2⟩:=slot b _ (neL b o e) hb (neC b o e hx) e1 (I.base.free b o e n hx)
  exact⟨sl',e2⟩
 ·obtain⟨o',e1⟩:=I.base.there b o e hx
  exact free b o' (neC b o e hx) e1 (I.base.free b o e n hx)
 ·obtain⟨o',e1⟩:=I.base.there b o e hx
  exact there b o' (neC b o e hx) e1
 ·obtain⟨m1,e1⟩:=I.base.tbls b ps e
  obtain⟨m2,e2⟩:=tbls b _ e1
  exact⟨m1++m2,by rw[e2,Array.append_assoc]⟩
 ·obtain⟨m,hn,hl⟩:=I.loc
  refine⟨m,ns m hn,fun i x v e1 e2 e3=>?_⟩
  obtain⟨u,r,l⟩:=hl i x v e1 e2 e3
  refine⟨u,r, ?_⟩
  rcases l with l|⟨k,c,e,z⟩
  ·exact .inl l
  ·exact .inr ⟨k,c,e,cellK x c e _ z⟩
 ·obtain⟨v,z⟩:=I.cell x c e
  exact⟨v,cellK x c e v z⟩
 ·obtain⟨m,⟨o,_,_,ho,_⟩,_⟩:=I.loc
  exact free _ o (fun z=>(hch _ z).2.1 rfl) ho I.free
 ·obtain⟨v,o,ho,hd⟩:=I.cell x c e
  exact free c o (fun z=>(hch c z).2.2.1 x c e rfl) ho (I.freeC x c e)
 ·obtain⟨e,n,ne,nf,d⟩:=I.pin p hp
  have nch:p.1 ∉ ch:=fun z=>(hch p.1 z).2.2.2 p hp rfl
  exact⟨keep p.1 p.2 ne nf nch e n,free p.1 p.2 nch e n,ne,nf,d⟩
theorem Inv.un {t':Nat} (I:Inv X pins σ H s) (u:Un X.fs [] H H' s.heap h') (hok:HOk X.prog X.w H' h'):Inv X pins σ H' { s with heap:=h',toks:=t' }:=by
 obtain⟨m,⟨o,es,ep,ho,r⟩,_⟩:=id I.loc
 obtain⟨sl,hL⟩:=u.any ho I.free (by simp)
 exact I.step (g':=s.gens) (d':=s.drawn) (ch:=[]) (fun _ z=>nomatch z) (fun b o _ hb _ e n=>u.keep b o e n hb (by simp)) (fun b o _ hb _ e n=>u.slot b o e n hb (by simp)) (fun b o _ e n=>u.free b o e n (by simp)) (fun b o _ e=>u.there b o e (by simp)) u.tups u.frzs u.tbls (fun m' hm=>by
  obtain⟨o',es',ep',ho',r'⟩:=hm
  rw[ho] at ho';cases ho'
  exact⟨_,es',ep',hL,r'⟩) hok I.bare
theorem Inv.call {g':Array GenState}{t':Nat}{d':Drawn}{ch:List Addr} (I:Inv X pins σ H s) (u:Un (frs X.stack) ch H H' s.heap h') (hok:HOk X.prog X.w H' h') (hg:AllBare g')
  (hch:∀b∈ch,(b∈X.ex\/X.s₀.heap.objs.size<=b)/\b≠X.env.locals/\(∀x c,X.env.cells.lookup x=some c->c≠b)/\∀p∈X.pn++pins,p.1≠b) :
  Inv X pins σ H' { s with heap:=h',gens:=g',drawn:=d',toks:=t' }:=by
 obtain⟨m,⟨o,es,ep,ho,r⟩,_⟩:=id I.loc
 obtain⟨sl,hL⟩:=u.any ho I.free fun z=>(hch _ z).2.1 rfl
 exact I.step (ch:=ch) hch (fun b o hL hb hc e n=>u.keep b o e n (fun z=>(ZsZ.mp (I.stkSub b z)).elim hL hb) hc) (fun b o _ _ hc e n=>u.any e n hc) (fun b o hc e n=>u.free b o e n hc) (fun b o hc e=>u.there b o e hc) u.tups u.frzs u.tbls (fun m' hm=>by
  obtain⟨o',es',ep',ho',r'⟩:=hm
  rw[ho] at ho';cases ho'
  exact⟨_,es',ep',hL,r'⟩) hok hg
theorem Inv.turned {t':Nat}{it:Addr} (I:Inv X pins σ H s) (k:∀b o,b≠it->s.heap.get? b=some o->h'.get? b=some o) (hn:H it=none) (hL:it≠X.env.locals)
  (h1:it∈X.ex\/X.s₀.heap.objs.size<=it) (h2:∀x c,X.env.cells.lookup x=some c->c≠it) (h3:∀p∈X.pn++pins,p.1≠it):Inv X pins σ H { s with heap:=h',toks:=t' }:=by
 have nit:∀b u,H b=some u->b≠it:=fun b u e z=>by rw[z,hn] at e;cases e
 refine I.step (g':=s.gens) (d':=s.drawn) (ch:=[it]) (fun b hb=>?_) (fun b o _ _ hc e _=>k b o (fun z=>hc (by simp[z])) e) (fun b o _ _ hc e _=>⟨o.slots,k b o (fun z=>hc (by simp[z])) e⟩) (fun _ _ _ _ n=>n)
  (fun b o hc e=>⟨o,k b o (fun z=>hc (by simp[z])) e⟩) (fun _ _ e=>e) (fun _ _ _ e=>e) (fun b ps e=>⟨#[],by rw[e];simp⟩) (fun m hm=>?_) (fun b u e=>?_) I.bare
 ·have e:b=it:=by simpa using hb
  subst e
  exact⟨h1,hL,h2,h3⟩
 ·obtain⟨o,es,ep,ho,r⟩:=hm
  exact⟨o,es,ep,k _ o (Ne.symm hL) ho,r⟩
 ·refine(I.hok b u e).stay (fun c v hc q=>k c v ?_ q) (fun _ q=>q) fun _ _ q=>q
  rcases hc with z|z
  ·rw[z];exact nit b u e
  ·exact nit c _ z
theorem Inv.tok (I:Inv X pins σ H s) (t:Nat):Inv X pins σ H { s with toks:=t }:=I.un (h':=s.heap) (t':=t) Un.refl I.hok
theorem Inv.kept {t':Nat} (I:Inv X pins σ H s) (k:∀b u,s.heap.get? b=some u->h'.get? b=some u):Inv X pins σ H { s with heap:=h',toks:=t' }:=I.un (Un.kept k) (I.hok.kept k)
theorem Inv.laid {a:Addr}{o:HO}{t':Nat} (I:Inv X pins σ H s) (k:∀b u,s.heap.get? b=some u->h'.get? b=some u) (hp:s.heap.objs.size<=a) (new:Jg X.prog X.w (upd H a o) h' a o) :
  Inv X pins σ (upd H a o) { s with heap:=h',toks:=t' }:=I.un (Un.laid k hp (I.hok.fresh hp)) (I.hok.laid k hp new)
theorem Inv.write {x e:Addr}{o:HO}{t':Nat} (I:Inv X pins σ H s) (mu:Mut (H x)) (he:e=x\/H e=some (.own x)) (k:∀b u,b≠e->s.heap.get? b=some u->h'.get? b=some u) (heo:∃u,h'.get? e=some u)
  (new:Jg X.prog X.w (upd H x o) h' x o):Inv X pins σ (upd H x o) { s with heap:=h',toks:=t' }:=I.un (Un.write mu he k heo) (I.hok.write mu he k heo new)
theorem Inv.pins_of {pins':List (Addr×Obj)} (I:Inv X pins σ H s) (h:∀p∈pins',s.heap.get? p.1=some p.2/\H p.1=none/\p.1≠X.env.locals/\p.1 ∉ X.fs/\∀v,p.2.data≠.cell v):Inv X pins' σ H s:=
 ⟨I.ok,I.os,I.bare,I.base,I.loc,I.cell,I.free,I.freeC,fun p hp=>(ZsW.mp hp).elim (fun z=>I.pin p (ZsU _ z)) (h p),I.hok,I.len⟩
theorem ZcW {N:List Str} (hN:N.Nodup) {i j:Nat}{x:Str} (a:N[i]?=some x) (b:N[j]?=some x):i=j:=by
 obtain⟨h1,e1⟩:=Zta.mp a
 obtain⟨h2,e2⟩:=Zta.mp b
 exact(List.getElem_inj hN).mp (e1.trans e2.symm)
theorem ZaB {M:Model}{A:Around}{E:Value->Shared->Prop}{i:Nat}{x:Str}{v:V}{u:Value}{Q:Unit->Shared->Prop} (I:Inv X pins σ H s) (hN:X.N.Nodup) (hi:X.N[i]?=some x) (hx:Loc X.env.scope x) (r:Ja v u)
  (h:∀s',Inv X pins (σ.set i (some v)) H s'->(∃a,Heap.SameBut a s.heap s'.heap/\(a=X.env.locals\/X.env.cells.lookup x=some a))->Q () s') (hf:X.fn x=true\/X.env.scope.names.lookup x=some .local):wpAny M A (storeName X.env x u) Q E s:=by
 obtain⟨m,hn,hl⟩:=id I.loc
 have hcls:(X.env.scope.kind==.class || (X.env.scope.kind==.module&&X.env.locals != X.env.globals))=false:=by rw[I.ok.kind];rfl
 have hiσ:i<σ.length:=by rw[I.len];exact(Zta.mp hi).1
 have cne:=I.cne
 have tracked:∀{a:Addr}{h':Heap},(∃o,s.heap.get? a=some o/\H a=none)->Heap.SameBut a s.heap h'->HOk X.prog X.w H h':=fun {a h'} ha hs b ob e=>by
  obtain⟨_,_,hfree⟩:=ha
  refine(I.hok b ob e).stay (fun c w' hc q=>(hs.2 c ?_).trans q) (fun _ q=>q) fun _ _ q=>q
  rintro rfl
  rcases hc with rfl|hc
  ·rw[hfree] at e;cases e
  ·rw[hfree] at hc;cases hc
 rcases hx with hk|hk
 ·refine wpAny_storeName_local hk hn (fun h' hn' hs=>?_) hcls
  obtain⟨oL,_,_,hoL,_⟩:=id hn
  refine h _ ⟨I.ok,I.os,I.bare,⟨fun b o e n hb hx=>?_,fun b o e n hb hx=>?_,I.base.free,fun b o e hx=>?_,I.base.tups,I.base.frzs,I.base.tbls⟩,⟨_,hn',fun j y v' e1 e2 e3=>?_⟩,fun y c e=>?_,I.free,I.freeC,fun p hp=>?_,tracked ⟨oL,hoL,I.free⟩ hs,by simpa using I.len⟩ ⟨_,hs,.inl rfl⟩
  ·exact(hs.2 b (Zti (ZsY (Heap.lt_size e) I.ok.above))).trans (I.base.keep b o e n hb hx)
  ·obtain⟨sl,e1⟩:=I.base.slot b o e n hb hx
   exact⟨sl,(hs.2 b (Zti (ZsY (Heap.lt_size e) I.ok.above))).trans e1⟩
  ·obtain⟨o',e1⟩:=I.base.there b o e hx
   exact⟨o',(hs.2 b (Zti (ZsY (Heap.lt_size e) I.ok.above))).trans e1⟩
  ·by_cases hj:j=i
   ·subst hj
    rw[hi] at e1;cases e1
    rw[Ztg hiσ] at e2
    cases e2
    exact⟨u,r,.inl ⟨hk,by simp⟩⟩
   ·rw[Ztk (Ne.symm hj)] at e2
    obtain⟨u',r',q⟩:=hl j y v' e1 e2 e3
    refine⟨u',r', ?_⟩
    rcases q with ⟨k,e⟩|⟨k,c,e,z⟩
    ·refine .inl ⟨k, ?_⟩
     have:y≠x:=fun e=>hj (ZcW hN e1 (e▸hi))
     simp[this,e]
    ·exact .inr ⟨k,c,e,z.sameBut hs (cne y c e)⟩
  ·obtain⟨w',z⟩:=I.cell y c e
   exact⟨w',z.sameBut hs (cne y c e)⟩
  ·obtain⟨e,n,ne,nf,d⟩:=I.pin p hp
   exact⟨(hs.2 p.1 ne).trans e,n,ne,nf,d⟩
 ·have hfn:X.fn x=true:=by
   rcases hf with z|z
   ·exact z
   ·rw[z] at hk;cases hk
  obtain⟨c,hc⟩:=I.ok.has x (.inl hk)
  obtain⟨w',z⟩:=I.cell x c hc
  refine wpAny_storeName_cell I.ok.kind hk hc z (fun h' hc' hs=>?_)
  obtain⟨oc,hoc,hocd⟩:=id z
  refine h { s with heap:=h' } ⟨I.ok,I.os,I.bare,⟨fun b o e n hb hx=>?_,fun b o e n hb hx=>?_,I.base.free,fun b o e hx=>?_,I.base.tups,I.base.frzs,I.base.tbls⟩,⟨m,hn.sameBut hs (Ne.symm (cne x c hc)),fun j y v' e1 e2 e3=>?_⟩,fun y c' e=>?_,I.free,I.freeC,fun p hp=>?_,tracked ⟨oc,hoc,I.freeC x c hc⟩ hs,by simpa using I.len⟩ ⟨c,hs,.inr hc⟩
  ·exact(hs.2 b (Zti (ZsY (Heap.lt_size e) (I.ok.cab x c hfn hc)))).trans (I.base.keep b o e n hb hx)
  ·obtain⟨sl,e1⟩:=I.base.slot b o e n hb hx
   exact⟨sl,(hs.2 b (Zti (ZsY (Heap.lt_size e) (I.ok.cab x c hfn hc)))).trans e1⟩
  ·obtain⟨o',e1⟩:=I.base.there b o e hx
   exact⟨o',(hs.2 b (Zti (ZsY (Heap.lt_size e) (I.ok.cab x c hfn hc)))).trans e1⟩
  ·by_cases hj:j=i
   ·subst hj
    rw[hi] at e1;cases e1
    rw[Ztg hiσ] at e2
    cases e2
    exact⟨u,r,.inr ⟨.inl hk,c,hc,hc'⟩⟩
   ·rw[Ztk (Ne.symm hj)] at e2
    obtain⟨u',r',q⟩:=hl j y v' e1 e2 e3
    refine⟨u',r', ?_⟩
    rcases q with q|⟨k,c',e,z'⟩
    ·exact .inl q
    ·refine .inr ⟨k,c',e,z'.sameBut hs ?_⟩
     rintro rfl
     exact hj (ZcW hN e1 (I.ok.inj _ _ _ e hc▸hi))
  ·by_cases hcc:c'=c
   ·subst hcc;exact⟨_,hc'⟩
   ·obtain⟨w2,z2⟩:=I.cell y c' e
    exact⟨w2,z2.sameBut hs hcc⟩
  ·obtain⟨e,n,ne,nf,d⟩:=I.pin p hp
   refine⟨(hs.2 p.1 ?_).trans e,n,ne,nf,d⟩
   intro q
   rw[q,hoc] at e
   have q':oc=p.2:=Option.some.inj e
   exact d w' (by rw[<- q'];exact hocd)
theorem U8 {M:Model}{A:Around}{E:Value->Shared->Prop}{i:Nat}{x:Str}{v:V}{u:Value}{Q:Unit->Shared->Prop} (I:Inv X pins σ H s) (hN:X.N.Nodup) (hi:X.N[i]?=some x) (hx:Loc X.env.scope x) (r:Ja v u)
  (h:∀s',Inv X pins (σ.set i (some v)) H s'->Q () s') (hf:X.fn x=true\/X.env.scope.names.lookup x=some .local):wpAny M A (storeName X.env x u) Q E s:=
 ZaB I hN hi hx r (fun s' I' _=>h s' I') hf
theorem Inv.call' {s':Shared}{ch:List Addr} (I:Inv X pins σ H s) (ho:s'.os=s.os) (u:Un (frs X.stack) ch H H' s.heap s'.heap) (hok:HOk X.prog X.w H' s'.heap) (hg:AllBare s'.gens)
  (hch:∀b∈ch,(b∈X.ex\/X.s₀.heap.objs.size<=b)/\b≠X.env.locals/\(∀x c,X.env.cells.lookup x=some c->c≠b)/\∀p∈X.pn++pins,p.1≠b):Inv X pins σ H' s':=by
 obtain⟨h',g',d',t',o'⟩:=s'
 have e:o'=s.os:=ho
 subst e
 exact I.call (g':=g') (t':=t') (d':=d') u hok hg hch
end
noncomputable abbrev XK:=Value->Option Addr->Hp->Prop
noncomputable abbrev St:=List (Option V)
noncomputable abbrev VK:=V->Hp->Prop
noncomputable abbrev TE:=St->Hp->VK->Prop
noncomputable abbrev TT:=St->Hp->(Bool->Hp->Prop)->Prop
noncomputable abbrev TA:=St->Hp->(List V->Hp->Prop)->Prop
structure Zgy where
 nx:St->Hp->Prop
 rt:VK
 bk:St->Hp->Prop:=fun _ _=>False
 ct:St->Hp->Prop:=fun _ _=>False
noncomputable abbrev TS:=Zgy->St->Hp->Prop
def EP (X:Cx) (pins:List (Addr×Obj)) (σ:St) (Q:VK) (u:Value) (s':Shared):Prop:=∃v H',Inv X pins σ H' s'/\Ja v u/\Q v H'
def TP (X:Cx) (pins:List (Addr×Obj)) (σ:St) (Q:Bool->Hp->Prop) (b:Bool) (s':Shared):Prop:=∃H',Inv X pins σ H' s'/\Q b H'
def AP (X:Cx) (pins:List (Addr×Obj)) (σ:St) (Q:List V->Hp->Prop) (us:List Value) (s':Shared):Prop:=∃vs H',Inv X pins σ H' s'/\ZQ vs us/\Q vs H'
def SP (X:Cx) (pins:List (Addr×Obj)) (D:Zgy) (f:Flow) (s':Shared):Prop:=
 match f with
 |.next=>∃σ' H',Inv X pins σ' H' s'/\D.nx σ' H'
 |.brk=>∃σ' H',Inv X pins σ' H' s'/\D.bk σ' H'
 |.cont=>∃σ' H',Inv X pins σ' H' s'/\D.ct σ' H'
 |.ret u=>∃v σ' H',Inv X pins σ' H' s'/\Ja v u/\D.rt v H'
def PE (X:Cx) (e:Expr) (t:TE):Prop:=
 ∀(pins:List (Addr×Obj)) (s:Shared) (σ:St) (H:Hp) (Q:VK),Inv X pins σ H s->t σ H Q->wpAny (model X.prog X.w) X.A (eval e X.env) (EP X pins σ Q) X.xe s
def PT (X:Cx) (e:Expr) (t:TT):Prop:=
 ∀(pins:List (Addr×Obj)) (s:Shared) (σ:St) (H:Hp) (Q:Bool->Hp->Prop),Inv X pins σ H s->t σ H Q->wpAny (model X.prog X.w) X.A (isTrue e X.env (eval e X.env)) (TP X pins σ Q) X.xe s
def PW (X:Cx) (e:Expr) (t:TT):Prop:=
 ∀(whole:Sem Value) (pins:List (Addr×Obj)) (s:Shared) (σ:St) (H:Hp) (Q:Bool->Hp->Prop),Inv X pins σ H s->t σ H Q->wpAny (model X.prog X.w) X.A (isTrue e X.env whole) (TP X pins σ Q) X.xe s
theorem PW.pt {X:Cx}{e:Expr}{t:TT} (h:PW X e t):PT X e t:=h _
def PA (X:Cx) (es:List Expr) (t:TA):Prop:=
 ∀(pos:Pos) (pins:List (Addr×Obj)) (s:Shared) (σ:St) (H:Hp) (Q:List V->Hp->Prop),Inv X pins σ H s->t σ H Q->wpAny (model X.prog X.w) X.A (spliced (backTo pos (starEach es X.env))) (AP X pins σ Q) X.xe s
def PS (X:Cx) (st:Stmt) (t:TS):Prop:=
 ∀(pins:List (Addr×Obj)) (s:Shared) (σ:St) (H:Hp) (D:Zgy),Inv X pins σ H s->t D σ H->wpAny (model X.prog X.w) X.A (exec st X.env) (SP X pins D) X.xe s
def PSs (X:Cx) (st:List Stmt) (t:TS):Prop:=
 ∀(pins:List (Addr×Obj)) (s:Shared) (σ:St) (H:Hp) (D:Zgy),Inv X pins σ H s->t D σ H->wpAny (model X.prog X.w) X.A (execs st X.env) (SP X pins D) X.xe s
theorem thn {α:Type}{t:Sem α}{Q Q':α->Shared->Prop}{M:Model}{A:Around}{E:Value->Shared->Prop}{s:Shared} (h:wpAny M A t Q E s) (hQ:∀a s,Q a s->Q' a s):wpAny M A t Q' E s:=wpAny_mono h hQ fun _ _ x=>x
section
variable {X:Cx}
theorem bin {a b:Expr}{ta tb:TE} (ha:PE X a ta) (hb:PE X b tb) {pins:List (Addr×Obj)}{s:Shared}{σ:St}{H:Hp}{R:V->V->Hp->Prop} (I:Inv X pins σ H s) (h:ta σ H fun x H1=>tb σ H1 fun y H2=>R x y H2)
  {α:Type}{Q:α->Shared->Prop}{f:Value->Value->Sem α}
  (hf:∀v u s2 x y H2,Inv X pins σ H2 s2->Ja x v->Ja y u->R x y H2->wpAny (model X.prog X.w) X.A (f v u) Q X.xe s2) :
  wpAny (model X.prog X.w) X.A (eval a X.env) (fun v s₁=>wpAny (model X.prog X.w) X.A (eval b X.env) (fun u s₂=>wpAny (model X.prog X.w) X.A (f v u) Q X.xe s₂) X.xe s₁) X.xe s:=by
 refine thn (ha pins s σ H _ I h) fun v s1 ⟨x,H1,I1,r1,q1⟩=>?_
 refine thn (hb pins s1 σ H1 _ I1 q1) fun u s2 ⟨y,H2,I2,r2,q2⟩=>?_
 exact hf v u s2 x y H2 I2 r1 r2 q2
noncomputable def Ut (i:Nat):TE:=fun σ H Q=>∃v,σ[i]?=some (some v)/\Q v H
noncomputable def tC (v:V):TE:=fun _ H Q=>Q v H
theorem Zkx {i:Nat}{x:Str}{pos:Pos} (hN:X.N[i]?=some x) (hv:Vis X.env.scope x) (hd:(x==("__debug__":Str))=false:=by decide) (hcd:(x==("__classdict__":Str))=false:=by decide):PE X (.Name x pos) (Ut i):=by
 intro pins s σ H Q I h
 obtain⟨v,e,h⟩:=h
 obtain⟨m,hn,hl⟩:=I.loc
 obtain⟨u,r,l⟩:=hl i x v hN e hv
 have fin:EP X pins σ Q u s:=⟨v,H,I,r,h⟩
 rcases l with ⟨hk,hm⟩|⟨hk,c,hc,hcell⟩
 ·exact wpAny_Name (wpAny_loadName_local I.ok.kind hk hn hm fin) hd
 ·rcases hk with hk|hk
  ·exact wpAny_Name (wpAny_loadName_cell I.ok.kind hk hc hcell fin) hd
  ·exact wpAny_Name (wpAny_loadName_free I.ok.kind hk hc hcell fin hcd) hd
theorem Zl {i j pos}:PE X (.Constant (.int i) j pos) (tC (.int i)):=fun _ _ _ H _ I h=>wpAny_Constant_int ⟨.int i,H,I.tok _,⟨_,rfl⟩,h⟩
theorem ZdL {b j pos}:PE X (.Constant (.bool b) j pos) (tC (.bl b)):=fun _ _ _ H _ I h=>Constant_bool ⟨.bl b,H,I,rfl,h⟩
theorem V5 {x j pos}:PE X (.Constant (.str x) j pos) (tC (.str x)):=fun _ _ _ H _ I h=>Calls.Constant_str ⟨.str x,H,I.tok _,⟨_,rfl⟩,h⟩
def Gl (X:Cx) (x:Str):Prop:=X.env.kindOf x=some .globalImplicit
theorem Vp {E:Value->Shared->Prop}{pins:List (Addr×Obj)}{s:Shared}{σ:St}{H:Hp}{x:Str}{u:Value}{pos:Pos}{Q:Value->Shared->Prop} (I:Inv X pins σ H s) (hg:Gl X x) (hm:X.mg x=some u) (h:Q u s)
  (hd:(x==("__debug__":Str))=false:=by decide):wpAny (model X.prog X.w) X.A (eval (.Name x pos) X.env) Q E s:=
 Calls.Name_function_global I.ok.kind hg (Calls.loadGlobal_global (by rw[I.ok.glob];exact I.mod.glob.keeps I.bk) hm h) hd
theorem Qm {E:Value->Shared->Prop}{pins:List (Addr×Obj)}{s:Shared}{σ:St}{H:Hp}{x:Str}{u:Value}{pos:Pos}{Q:Value->Shared->Prop} (I:Inv X pins σ H s) (hg:Gl X x) (hm:X.mg x=none) (hv:bootBuiltins x=some u) (h:Q u s)
  (hn:x ≠ "__name__":=by decide) (hd:(x==("__debug__":Str))=false:=by decide):wpAny (model X.prog X.w) X.A (eval (.Name x pos) X.env) Q E s:=by
 obtain⟨mb,h1,h2⟩:=I.mod.blt
 exact Calls.Name_function_global I.ok.kind hg (Calls.loadGlobal_builtin (by rw[I.ok.glob];exact I.mod.glob.keeps I.bk) hm (by rw[I.ok.blt];exact h1.keeps I.bk) ((h2 x hn).trans hv) h) hd
theorem ZiQ {x:Str}{v:V}{u:Value}{pos:Pos} (hg:Gl X x) (hm:X.mg x=some u) (r:Ja v u) (hd:(x==("__debug__":Str))=false:=by decide):PE X (.Name x pos) (tC v):=
 fun _ _ _ H _ I h=>Vp I hg hm ⟨v,H,I,r,h⟩ hd
theorem Zal {x:Str}{v:V}{u:Value}{pos:Pos} (hg:Gl X x) (hm:X.mg x=none) (hv:bootBuiltins x=some u) (r:Ja v u) (hn:x ≠ "__name__":=by decide) (hd:(x==("__debug__":Str))=false:=by decide):PE X (.Name x pos) (tC v):=
 fun _ _ _ H _ I h=>Qm I hg hm hv ⟨v,H,I,r,h⟩ hn hd
variable {a b:Expr}{ta tb:TE}{pos:Pos}
def PC (X:Cx) (op:CmpOp) (a b:Expr) (t:TE):Prop:=
 ∀(pins:List (Addr×Obj)) (s:Shared) (σ:St) (H:Hp) (Q:VK),Inv X pins σ H s->t σ H Q ->
  wpAny (model X.prog X.w) X.A (eval a X.env) (fun v s₁=>wpAny (model X.prog X.w) X.A (eval b X.env) (fun u s₂=>wpAny (model X.prog X.w) X.A (compareOp op v u) (EP X pins σ Q) X.xe s₂) X.xe s₁) X.xe s
theorem Zhd (b:Expr) {op:CmpOp} (h:op≠.In) (h2:op≠.NotIn):behindInMarks op b=false:=by
 have e1:(op==CmpOp.In)=false:=by cases op<;>first|rfl|exact absurd rfl h
 have e2:(op==CmpOp.NotIn)=false:=by cases op<;>first|rfl|exact absurd rfl h2
 cases b<;>simp[behindInMarks,e1,e2]
noncomputable def tB (t:TE):TT:=fun σ H Q=>t σ H fun x H1=>∃c,x=.bl c/\Q c H1
theorem Zkt {op:CmpOp}{t:TE} (h:PC X op a b t) (h1:behindInMarks op b=false:=by first|exact Zhd _ (by decide) (by decide)|rfl):PT X (.Compare a [op] [b] pos) (tB t):=by
 intro pins s σ H Q I hw
 refine wpAny_isTrue_Compare1 (thn (h pins s σ H _ I hw) fun v s1 h1=>thn h1 fun u s2 h2=>thn h2 fun c s3 ⟨x,H1,I1,r1,q1⟩=>?_) h1
 obtain⟨d,rfl,q⟩:=q1
 cases r1
 exact wpAny_truthy_bool ⟨H1,I1,q⟩
theorem ZaJ {e:Expr}{t:TE} (h:PE X e t) (he:∀whole,isTrue e X.env whole=(do let v <- whole;standAt e.pos;holding [v] (truthy v)):=by exact fun _=>rfl):PT X e (tB t):=by
 intro pins s σ H Q I hw
 refine isTrue_plain (thn (h pins s σ H _ I hw) fun v s1 ⟨x,H1,I1,r1,q1⟩=>?_) (he _)
 obtain⟨d,rfl,q⟩:=q1
 cases r1
 exact wpAny_truthy_bool ⟨H1,I1,q⟩
variable {tA tB':TT}{Zia:List Expr}
noncomputable def tOr (t u:TT):TT:=fun σ H Q=>t σ H fun c H1=>if c=true then Q true H1 else u σ H1 Q
noncomputable def Zm8 (t:TT):TT:=fun σ H Q=>t σ H fun c H1=>Q (!c) H1
theorem ZeH (ha:PT X a tA):PW X (.BoolOp .Or [a] pos) tA:=by
 intro wh pins s σ H Q I h
 refine isTrue_or (thn (ha pins s σ H Q I h) fun c s1 e=>?_)
 cases c with
 |false=>exact isTrue_or_nil e
 |true=>exact e
theorem ZiJ (ha:PT X a tA) (hb:PW X (.BoolOp .Or (b::Zia) pos) tB'):PW X (.BoolOp .Or (a::b::Zia) pos) (tOr tA tB'):=by
 intro wh pins s σ H Q I h
 refine isTrue_or (thn (ha pins s σ H _ I h) fun c s1 ⟨H1,I1,q1⟩=>?_)
 cases c with
 |true=>exact⟨H1,I1,q1⟩
 |false=>exact hb wh pins s1 σ H1 Q I1 q1
theorem ZaK (ha:PT X a tA):PT X (.UnaryOp .Not a pos) (Zm8 tA):=by
 intro pins s σ H Q I h
 exact isTrue_not (ha pins s σ H (fun c H1=>Q (!c) H1) I h)
noncomputable def Zki (ta tb:TE):TE:=fun σ H Q=>ta σ H fun x H1=>∃c,x=.bl c/\if c=true then tb σ H1 Q else Q (.bl false) H1
noncomputable def Zkb (ta:TE):TE:=fun σ H Q=>ta σ H fun x H1=>∃c,x=.bl c/\Q (.bl (!c)) H1
theorem QO {op}{t:TE} (h:PE X a t):PE X (.BoolOp op [a] pos) t:=fun pins s σ H Q I hw=>BoolOp_one (h pins s σ H Q I hw)
theorem Qa (ha:PE X a ta) (hb:PE X (.BoolOp .And (b::Zia) pos) tb):PE X (.BoolOp .And (a::b::Zia) pos) (Zki ta tb):=by
 intro pins s σ H Q I h
 refine BoolOp_and (thn (ha pins s σ H _ I h) fun v s1 ⟨x,H1,I1,r1,q1⟩=>?_)
 obtain⟨c,rfl,q1⟩:=q1
 cases r1
 refine wpAny_truthy_bool ?_
 cases c with
 |true=>exact hb pins s1 σ H1 Q I1 q1
 |false=>exact⟨.bl false,H1,I1,rfl,q1⟩
theorem Zky (ha:PE X a ta):PE X (.UnaryOp .Not a pos) (Zkb ta):=by
 intro pins s σ H Q I h
 refine UnaryOp_ (thn (ha pins s σ H _ I h) fun v s1 ⟨x,H1,I1,r1,q1⟩=>?_)
 obtain⟨c,rfl,q1⟩:=q1
 cases r1
 exact not_of (wpAny_truthy_bool ⟨.bl (!c),H1,I1,rfl,q1⟩)
end
def SqL (K:W.Frag) (H:Hp) (a:Addr) (xs:List V):Prop:=
 Rd H a (.lst xs) \/
  ∃(o:Obj) (its:Array Value) (n:Nat),K.lookup a=some o/\o.cls=.type "list"/\o.dict=none/\o.data=.seq its n/\its.size<=sizeLine/\ZQ xs its.toList
def SqT (K:W.Frag) (H:Hp) (a:Addr) (xs:List V):Prop:=
 Rd H a (.tup xs) \/
  ∃(o:Obj) (its:Array Value) (n:Nat),K.lookup a=some o/\o.cls=.type "tuple"/\o.data=.seq its n/\its.size<=sizeLine/\ZQ xs its.toList
noncomputable def Znk:Value->Option V
 |.none=>some .non
 |.bool b=>some (.bl b)
 |.int i _=>some (.int i)
 |.str x _=>some (.str x)
 |.bytes b _=>some (.byt b)
 |.float b _=>some (.flt b)
 |.ref a=>some (.ref a)
 |.type n=>some (.ty n)
 |_=>none
theorem Ja.abs {x:V}{u:Value} (r:Ja x u):Znk u=some x:=by
 cases x with
 |non=>cases r;rfl
 |bl _=>cases r;rfl
 |int _=>obtain⟨t,rfl⟩:=r;rfl
 |str _=>obtain⟨t,rfl⟩:=r;rfl
 |byt _=>obtain⟨t,rfl⟩:=r;rfl
 |flt _=>obtain⟨t,rfl⟩:=r;rfl
 |ref _=>cases r;rfl
 |ty _=>cases r;rfl
theorem Ja.inj {x y:V}{u:Value} (r:Ja x u) (q:Ja y u):x=y:=Option.some.inj (r.abs.symm.trans q.abs)
theorem ZQ.inj:∀{xs ys:List V}{us:List Value},ZQ xs us->ZQ ys us->xs=ys
 |_,_,_,.nil,.nil=>rfl
 |_,_,_,.cons r t,.cons r' t'=>by rw[r.inj r',ZQ.inj t t']
section
variable {X:Cx}{pins:List (Addr×Obj)}{σ:St}{H:Hp}{s:Shared}{a:Addr}{xs ys:List V}
theorem SqL.of {K:W.Frag} (h:H a=some (.lst xs)):SqL K H a xs:=.inl (.inl h)
theorem Inv.list (I:Inv X pins σ H s) (h:SqL X.K H a xs):∃its:List Value,ZQ xs its/\PlainL s.heap a its.toArray/\xs.length<=sizeLine:=by
 rcases h with h|⟨o,its,n,hk,hc,hd,hs,hz,r⟩
 ·obtain⟨z,its,n,r,e⟩:=h.ok I.hok
  exact⟨its,r,⟨_,n,e,rfl,rfl,rfl⟩,z⟩
 ·refine⟨its.toList,r,⟨o,n,I.kIn a o hk,hc,hd,by simpa using hs⟩, ?_⟩
  have e:=r.length
  simp only[Zt0] at e
  omega
theorem Inv.tuple (I:Inv X pins σ H s) (h:SqT X.K H a xs):∃its:List Value,ZQ xs its/\IsTup s.heap a its.toArray/\xs.length<=sizeLine:=by
 rcases h with h|⟨o,its,n,hk,hc,hs,hz,r⟩
 ·obtain⟨z,its,r,p⟩:=h.ok I.hok
  exact⟨its,r,p,z⟩
 ·refine⟨its.toList,r,⟨o,I.kIn a o hk,hc,n,by simpa using hs⟩, ?_⟩
  have e:=r.length
  simp only[Zt0] at e
  omega
theorem Inv.list_inj (I:Inv X pins σ H s) (h:SqL X.K H a xs) (h':SqL X.K H a ys):xs=ys:=by
 obtain⟨its,r,⟨o,n,e,_,_,d⟩,_⟩:=I.list h
 obtain⟨its',r',⟨o',n',e',_,_,d'⟩,_⟩:=I.list h'
 rw[e] at e';cases e'
 rw[d] at d'
 injection d' with d1 _
 have:its=its':=by simpa using congrArg Array.toList d1
 subst this
 exact r.inj r'
end
noncomputable abbrev Cx.wish (X:Cx) (E:Value->Shared->Prop):Cx:={ X with xe:=E }
noncomputable abbrev Cx.nox (X:Cx):Cx:=X.wish fun _ _=>False
theorem Cx.Ok.wish {X:Cx} (ok:X.Ok) (E:Value->Shared->Prop):(X.wish E).Ok:=
 ⟨ok.mod,ok.kind,ok.glob,ok.blt,ok.above,ok.inj,ok.has,ok.cab,ok.hd,ok.frames,ok.stk,ok.exf,ok.bs,ok.bsz,ok.noex,ok.exfs,ok.funs,ok.frf⟩
theorem Cx.Ok.unwish {X:Cx}{E:Value->Shared->Prop} (ok:(X.wish E).Ok):X.Ok:=
 ⟨ok.mod,ok.kind,ok.glob,ok.blt,ok.above,ok.inj,ok.has,ok.cab,ok.hd,ok.frames,ok.stk,ok.exf,ok.bs,ok.bsz,ok.noex,ok.exfs,ok.funs,ok.frf⟩
section
variable {X:Cx}{pins:List (Addr×Obj)}{σ:St}{H:Hp}{s:Shared}{E:Value->Shared->Prop}
theorem Inv.wish (I:Inv X pins σ H s) (E:Value->Shared->Prop):Inv (X.wish E) pins σ H s:=⟨I.ok.wish E,I.os,I.bare,I.base,I.loc,I.cell,I.free,I.freeC,I.pin,I.hok,I.len⟩
theorem Inv.unwish (I:Inv (X.wish E) pins σ H s):Inv X pins σ H s:=⟨I.ok.unwish,I.os,I.bare,I.base,I.loc,I.cell,I.free,I.freeC,I.pin,I.hok,I.len⟩
theorem SP.unwish {D:Zgy}{f:Flow}{s':Shared} (h:SP (X.wish E) pins D f s'):SP X pins D f s':=by
 cases f with
 |next=>obtain⟨σ',H',I,q⟩:=h;exact⟨σ',H',I.unwish,q⟩
 |brk=>obtain⟨σ',H',I,q⟩:=h;exact⟨σ',H',I.unwish,q⟩
 |cont=>obtain⟨σ',H',I,q⟩:=h;exact⟨σ',H',I.unwish,q⟩
 |ret u=>obtain⟨v,σ',H',I,r,q⟩:=h;exact⟨v,σ',H',I.unwish,r,q⟩
theorem PSs.nox {st:List Stmt}{t:TS} (h:PSs X.nox st t):PSs X st t:=fun pins s σ H D I hw =>
 wpAny_mono (h pins s σ H D (I.wish _) hw) (fun _ _ q=>q.unwish) fun _ _ z=>False.elim z
end
section
variable {X:Cx}{st:Stmt}{Zia:List Stmt}{t u:TS}{e:Expr}{te:TE}{pos:Pos}
noncomputable def Zkc:TS:=fun D σ H=>D.nx σ H
noncomputable def ZlI (t u:TS):TS:=fun D σ H=>t { D with nx:=u D } σ H
theorem ZM:PSs X [] Zkc:=fun _ _ σ H _ I h=>wpAny_execs_nil ⟨σ,H,I,h⟩
theorem Ze (h1:PS X st t) (h2:PSs X Zia u):PSs X (st::Zia) (ZlI t u):=by
 intro pins s σ H D I h
 refine wpAny_execs_cons (thn (h1 pins s σ H { D with nx:=u D } I h) fun f s1 q=>?_)
 cases f with
 |next =>
  obtain⟨σ',H',I',q⟩:=q
  exact h2 pins s1 σ' H' D I' q
 |ret v=>exact q
 |brk=>exact q
 |cont=>exact q
theorem Zj (h1:PS X st t):PSs X [st] t:=by
 intro pins s σ H D I h
 refine wpAny_execs_cons (thn (h1 pins s σ H D I h) fun f s1 q=>?_)
 cases f with
 |next=>exact wpAny_execs_nil q
 |ret v=>exact q
 |brk=>exact q
 |cont=>exact q
theorem Inv.quiet {pins:List (Addr×Obj)}{σ:St}{H:Hp}{s:Shared} (I:Inv X pins σ H s):interactive X.env=false:=by simp[interactive,I.ok.kind]
noncomputable def ZdD (te:TE):TS:=fun D σ H=>te σ H fun _ H1=>D.nx σ H1
theorem ZF (he:PE X e te) (hs:swapsWith e none pos.line X.env=pure false:=by rfl):PS X (.Expr e pos) (ZdD te):=by
 intro pins s σ H D I h
 exact wpAny_Expr_any (thn (he pins s σ H _ I h) fun v s1 ⟨x,H1,I1,r1,q1⟩=>⟨σ,H1,I1,q1⟩) I.quiet hs
noncomputable def ZjZ (te:TE):TS:=fun D σ H=>te σ H D.rt
theorem Z8 (he:PE X e te):PS X (.Return (some e) pos) (ZjZ te):=by
 intro pins s σ H D I h
 exact wpAny_Return_some (thn (he pins s σ H _ I h) fun v s1 ⟨x,H1,I1,r1,q1⟩=>⟨x,σ,H1,I1,r1,q1⟩)
noncomputable def Zm9 (c:TT) (t u:TS):TS:=fun D σ H=>c σ H fun b H1=>if b=true then t D σ H1 else u D σ H1
theorem J5 {c:Expr}{a b:List Stmt}{tc:TT} (hc:PT X c tc) (ha:PSs X a t) (hb:PSs X b u):PS X (.If c a b pos) (Zm9 tc t u):=by
 intro pins s σ H D I h
 refine wpAny_If (thn (hc pins s σ H _ I h) fun d s1 ⟨H1,I1,q1⟩=>?_)
 cases d with
 |true=>exact ha pins s1 σ H1 D I1 q1
 |false=>exact hb pins s1 σ H1 D I1 q1
noncomputable def ZhV:TS:=fun _ _ _=>False
theorem ZcH:PS X st ZhV:=fun _ _ _ _ _ _ h=>h.elim
end
noncomputable abbrev TG:=V->St->Hp->(St->Hp->Prop)->Prop
noncomputable abbrev TGs:=List V->St->Hp->(St->Hp->Prop)->Prop
def PG (X:Cx) (target:Expr) (t:TG):Prop:=
 ∀(pins:List (Addr×Obj)) (s:Shared) (σ:St) (H:Hp) (v:V) (u:Value) (Q:St->Hp->Prop),Inv X pins σ H s->Ja v u->t v σ H Q ->
  wpAny (model X.prog X.w) X.A (assign target X.env u) (fun _ s'=>∃σ' H',Inv X pins σ' H' s'/\Q σ' H') X.xe s
def PGs (X:Cx) (ts:List Expr) (t:TGs):Prop:=
 ∀(pins:List (Addr×Obj)) (s:Shared) (σ:St) (H:Hp) (vs:List V) (us:List Value) (Q:St->Hp->Prop),Inv X pins σ H s->ZQ vs us->t vs σ H Q ->
  wpAny (model X.prog X.w) X.A (assignInOrder ((assignEach ts X.env).map (·.2)) us) (fun _ s'=>∃σ' H',Inv X pins σ' H' s'/\Q σ' H') X.xe s
noncomputable abbrev Zly:=V->V->V->Hp->(Hp->Prop)->Prop
def Zm4 (X:Cx) (t:Zly):Prop:=
 ∀(pins:List (Addr×Obj)) (s:Shared) (σ:St) (H:Hp) (o i v:V) (ov iv u:Value) (Q:Hp->Prop),Inv X pins σ H s->Ja o ov->Ja i iv->Ja v u->t o i v H Q ->
  wpAny (model X.prog X.w) X.A (setItem ov iv u) (fun _ s'=>∃H',Inv X pins σ H' s'/\Q H') X.xe s
noncomputable abbrev TIp:=V->V->Hp->VK->Prop
def PIp (X:Cx) (op:Operator) (t:TIp):Prop:=
 ∀(pins:List (Addr×Obj)) (s:Shared) (σ:St) (H:Hp) (x y:V) (v u:Value) (Q:VK),Inv X pins σ H s->Ja x v->Ja y u->t x y H Q ->
  wpAny (model X.prog X.w) X.A (inplaceOp op v u) (EP X pins σ Q) X.xe s
section
variable {X:Cx}{pos:Pos}
noncomputable def Zec (i:Nat):TG:=fun v σ H Q=>Q (σ.set i (some v)) H
theorem Jc {i:Nat}{x:Str} (hN:X.N.Nodup) (hi:X.N[i]?=some x) (hx:Loc X.env.scope x) (hf:X.fn x=true\/X.env.scope.names.lookup x=some .local:=by first|exact .inl rfl|exact .inr rfl|assumption):PG X (.Name x pos) (Zec i):=by
 intro pins s σ H v u Q I r h
 exact wpAny_assign_Name (U8 I hN hi hx r (fun s' I'=>⟨_,H,I',h⟩) hf)
noncomputable def ZmT:TGs:=fun vs σ H Q=>vs=[]/\Q σ H
noncomputable def ZkY (t:TG) (u:TGs):TGs:=fun vs σ H Q=>∃v r,vs=v::r/\t v σ H fun σ' H'=>u r σ' H' Q
theorem ZbD:PGs X [] ZmT:=by
 intro pins s σ H vs us Q I r h
 obtain⟨e,h⟩:=h
 subst e
 cases r
 exact assignInOrder_nil ⟨σ,H,I,h⟩
theorem Vw {e:Expr}{es:List Expr}{t:TG}{u:TGs} (h1:PG X e t) (h2:PGs X es u)
  (hs:(assignEach (e::es) X.env).map (·.2)=assign e X.env::(assignEach es X.env).map (·.2):=by rfl):PGs X (e::es) (ZkY t u):=by
 intro pins s σ H vs us Q I r h
 obtain⟨v,vr,e1,h⟩:=h
 subst e1
 cases r with
 |cons r rr =>
  rw[hs]
  refine assignInOrder_cons (thn (h1 pins s σ H _ _ _ I r h) fun _ s1 ⟨σ1,H1,I1,q1⟩=>?_)
  exact h2 pins s1 σ1 H1 _ _ Q I1 rr q1
noncomputable def ZmR (K:W.Frag) (n:Nat) (t:TGs):TG:=fun v σ H Q=>∃a xs,v=.ref a/\SqT K H a xs/\xs.length=n/\t xs σ H Q
theorem ZeP {es:List Expr}{k:Nat}{t:TGs}{n:Nat} (hc:X.calm=true) (h:PGs X es t)
  (hn:(assignEach es X.env).length=n:=by rfl) (hst:(assignEach es X.env).findIdx? (·.1)=none:=by rfl):PG X (.Tuple es k pos) (ZmR X.K n t):=by
 intro pins s σ H v u Q I r hw
 obtain⟨a,xs,e1,hq,hl,hw⟩:=hw
 subst e1
 cases r
 obtain⟨its,rv,ht,hz⟩:=I.tuple hq
 refine assign_Tuple_tuple (I.ok.hd hc) ht (by simp[hn,<- hl,rv.length]) hst fun h' hx=>?_
 have I1:Inv X pins σ H { s with heap:=h' }:=I.kept (t':=s.toks) fun b o e=>hx b o (Zti (Heap.lt_size e)) e
 exact h pins _ σ H xs _ Q I1 (by simpa using rv) hw
noncomputable def ZmS (to ti:TE) (t:Zly):TG:=fun v σ H Q=>to σ H fun o H1=>ti σ H1 fun i H2=>t o i v H2 fun H3=>Q σ H3
theorem ZcL {o i:Expr}{to ti:TE}{t:Zly} (ho:PE X o to) (hi:PE X i ti) (hs:Zm4 X t)
  (ha:∀v,assign (.Subscript o i pos) X.env v=(do
   let ov <- holding [v] (eval o X.env)
   let iv <- holding [v,ov] (eval i X.env)
   standAt pos
   holding [v,ov,iv] (setItem ov iv v)
   release [v,ov,iv] []):=by exact fun _=>rfl):PG X (.Subscript o i pos) (ZmS to ti t):=by
 intro pins s σ H v u Q I r h
 rw[ha]
 refine wpAny_bind (wpAny_holding (thn (ho pins s σ H _ I h) fun ov s1 ⟨x,H1,I1,r1,q1⟩=>?_))
 refine wpAny_bind (wpAny_holding (thn (hi pins s1 σ H1 _ I1 q1) fun iv s2 ⟨y,H2,I2,r2,q2⟩=>?_))
 refine wpAny_bind (wpAny_standAt (wpAny_bind (wpAny_holding (thn (hs pins s2 σ H2 x y v ov iv u _ I2 r1 r2 r q2) fun _ s3 ⟨H3,I3,q3⟩=>?_))))
 exact wpAny_release ⟨σ,H3,I3,q3⟩
noncomputable def ZjH (te:TE) (g:TG):TS:=fun D σ H=>te σ H fun x H1=>g x σ H1 D.nx
theorem ZcI {tg e:Expr}{te:TE}{g:TG} (he:PE X e te) (hg:PG X tg g) (hs:swapsWithSole [tg] e pos.line X.env=pure false:=by rfl) (hw:swappedStores [tg] e X.env=pure none:=by rfl)
  (h1:(assignEach [tg] X.env).map (·.2)=[assign tg X.env]:=by rfl):PS X (.Assign [tg] e pos) (ZjH te g):=by
 intro pins s σ H D I h
 refine wpAny_Assign_stores (thn (he pins s σ H _ I h) fun v s1 ⟨x,H1,I1,r1,q1⟩=>?_) hs hw
 rw[h1]
 exact thn (hg pins s1 σ H1 x v _ I1 r1 q1) fun _ s2 q=>q
theorem Z4 {i:Nat}{x:Str}{e:Expr}{te:TE}{pos':Pos} (hN:X.N.Nodup) (hi:X.N[i]?=some x) (hx:Loc X.env.scope x) (he:PE X e te) (hs:swapsWith e (some (.Name x pos')) pos.line X.env=pure false:=by rfl) (hf:X.fn x=true\/X.env.scope.names.lookup x=some .local:=by first|exact .inl rfl|exact .inr rfl|assumption) :
  PS X (.Assign [.Name x pos'] e pos) (ZjH te (Zec i)):=by
 intro pins s σ H D I h
 refine wpAny_Assign_Name (thn (he pins s σ H _ I h) fun v s1 ⟨y,H1,I1,r1,q1⟩=>?_) hs
 exact U8 I1 hN hi hx r1 (fun s2 I2=>⟨_,H1,I2,q1⟩) hf
noncomputable def ZmD (i:Nat) (te:TE) (ti:TIp):TS:=fun D σ H=>∃x,σ[i]?=some (some x)/\te σ H fun y H1=>ti x y H1 fun z H2=>D.nx (σ.set i (some z)) H2
theorem Zkv {i:Nat}{x:Str}{e:Expr}{te:TE}{op:Operator}{ti:TIp}{pos':Pos} (hN:X.N.Nodup) (hi:X.N[i]?=some x) (hx:Loc X.env.scope x) (he:PE X e te) (ho:PIp X op ti) (hf:X.fn x=true\/X.env.scope.names.lookup x=some .local:=by first|exact .inl rfl|exact .inr rfl|assumption) :
  PS X (.AugAssign (.Name x pos') op e pos) (ZmD i te ti):=by
 intro pins s σ H D I h
 obtain⟨v,e1,h⟩:=h
 obtain⟨m,hn,hl⟩:=I.loc
 have vis:Vis X.env.scope x:=by rcases hx with k|k;exact .inl k;exact .inr (.inl k)
 obtain⟨u,r,l⟩:=hl i x v hi e1 vis
 refine wpAny_AugAssign_Name ?_
 have go:wpAny (model X.prog X.w) X.A (eval e X.env) (fun w s₂=>wpAny (model X.prog X.w) X.A (inplaceOp op u w) (fun r s₃=>wpAny (model X.prog X.w) X.A (storeName X.env x r) (fun _=>SP X pins D .next) X.xe s₃) X.xe s₂) X.xe s:=by
  refine thn (he pins s σ H _ I h) fun w s1 ⟨y,H1,I1,r1,q1⟩=>?_
  refine thn (ho pins s1 σ H1 v y u w _ I1 r r1 q1) fun z s2 ⟨zv,H2,I2,r2,q2⟩=>?_
  exact U8 I2 hN hi hx r2 (fun s3 I3=>⟨_,H2,I3,q2⟩) hf
 rcases l with ⟨hk,hm⟩|⟨hk,c,hc,hcell⟩
 ·exact wpAny_loadName_local I.ok.kind hk hn hm go
 ·rcases hk with hk|hk
  ·exact wpAny_loadName_cell I.ok.kind hk hc hcell go
  ·rcases hx with k|k
   ·have:X.env.scope.names.lookup x=some .free:=hk
    rw[k] at this;cases this
   ·have:X.env.scope.names.lookup x=some .free:=hk
    rw[k] at this;cases this
noncomputable def Zkh (to ti te:TE) (tget:V->V->Hp->VK->Prop) (tip:TIp) (tset:Zly):TS:=fun D σ H=>to σ H fun o H1=>ti σ H1 fun i H2=>tget o i H2 fun x H3=>te σ H3 fun y H4=>tip x y H4 fun z H5=>tset o i z H5 fun H6=>D.nx σ H6
def Zm5 (X:Cx) (t:V->V->Hp->VK->Prop):Prop:=
 ∀(pins:List (Addr×Obj)) (s:Shared) (σ:St) (H:Hp) (o i:V) (ov iv:Value) (Q:VK),Inv X pins σ H s->Ja o ov->Ja i iv->t o i H Q ->
  wpAny (model X.prog X.w) X.A (getItem ov iv) (EP X pins σ Q) X.xe s
theorem ZeK {o i e:Expr}{to ti te:TE}{tget:V->V->Hp->VK->Prop}{tip:TIp}{tset:Zly}{op:Operator}{tpos:Pos} (ho:PE X o to) (hi:PE X i ti) (hg:Zm5 X tget) (he:PE X e te) (hp:PIp X op tip) (hs:Zm4 X tset)
  (ha:∀ov iv new,augStore i ov iv new=(do holding [new,ov,iv] (setItem ov iv new);release [new,ov,iv] [];pure .next):=by intros;rfl):PS X (.AugAssign (.Subscript o i tpos) op e pos) (Zkh to ti te tget tip tset):=by
 intro pins s σ H D I h
 refine wpAny_AugAssign_SubscriptAny (thn (ho pins s σ H _ I h) fun ov s1 ⟨x1,H1,I1,r1,q1⟩=>?_) ha
 refine thn (hi pins s1 σ H1 _ I1 q1) fun iv s2 ⟨x2,H2,I2,r2,q2⟩=>?_
 refine thn (hg pins s2 σ H2 x1 x2 ov iv _ I2 r1 r2 q2) fun old s3 ⟨x3,H3,I3,r3,q3⟩=>?_
 refine thn (he pins s3 σ H3 _ I3 q3) fun v s4 ⟨x4,H4,I4,r4,q4⟩=>?_
 refine thn (hp pins s4 σ H4 x3 x4 old v _ I4 r3 r4 q4) fun new s5 ⟨x5,H5,I5,r5,q5⟩=>?_
 exact thn (hs pins s5 σ H5 x1 x2 x5 ov iv new _ I5 r1 r2 r5 q5) fun _ s6 ⟨H6,I6,q6⟩=>⟨σ,H6,I6,q6⟩
noncomputable def ipI (f:Int->Int->Int):TIp:=fun x y H Q=>∃i j,x=.int i/\y=.int j/\Q (.int (f i j)) H
theorem Ziu:PIp X .Add (ipI fun i j=>i+j):=by
 intro pins s σ H x y v u Q I r1 r2 h
 obtain⟨i,j,e1,e2,q⟩:=h
 subst e1;subst e2
 obtain⟨t,rfl⟩:=r1
 obtain⟨t',rfl⟩:=r2
 exact iadd_int ⟨.int _,H,I.tok _,⟨_,rfl⟩,q⟩
theorem ZkR:PIp X .Sub (ipI fun i j=>i-j):=by
 intro pins s σ H x y v u Q I r1 r2 h
 obtain⟨i,j,e1,e2,q⟩:=h
 subst e1;subst e2
 obtain⟨t,rfl⟩:=r1
 obtain⟨t',rfl⟩:=r2
 exact isub_int ⟨.int _,H,I.tok _,⟨_,rfl⟩,q⟩
noncomputable def ZhT (c:TT) (tb:TS):TS:=fun D σ H=>∃W:Nat->St->Hp->Prop,(∃m,W m σ H)/\∀m σ H,W m σ H ->
 c σ H fun b H1=>if b=true then ∃N:St->Hp->Prop,(∀σ' H',N σ' H'->∃m',m'<m/\W m' σ' H')/\tb { D with nx:=N,ct:=N,bk:=D.nx } σ H1 else D.nx σ H1
theorem ZcG {c:Expr}{body:List Stmt}{tc:TT}{tb:TS} (hp:PassesOwn (model X.prog X.w) X.A X.env X.xe) (hc:PT X c tc) (hb:PSs X body tb):PS X (.While c body [] pos) (ZhT tc tb):=by
 intro pins s σ H D I h
 obtain⟨W,⟨m0,w0⟩,turn⟩:=h
 refine wpAny_While (codeAny_whileLoop (fun n s'=>∃σ' H',Inv X pins σ' H' s'/\W n σ' H') ?_ m0 ⟨σ,H,I,w0⟩)
 rintro n s1 ⟨σ1,H1,I1,w1⟩
 refine wpAny_passesOwn hp (thn (hc pins s1 σ1 H1 _ I1 (turn n σ1 H1 w1)) fun b s2 ⟨H2,I2,q2⟩=>?_)
 cases b with
 |true =>
  obtain⟨N,hN,q2⟩:=q2
  rw[if_pos rfl]
  refine wpAny_passesOwn hp (thn (hb pins s2 σ1 H2 _ I2 q2) fun f s3 q3=>?_)
  cases f with
  |next =>
   obtain⟨σ3,H3,I3,n3⟩:=q3
   obtain⟨m',hm,w3⟩:=hN σ3 H3 n3
   exact⟨m',hm,σ3,H3,I3,w3⟩
  |cont =>
   obtain⟨σ3,H3,I3,n3⟩:=q3
   obtain⟨m',hm,w3⟩:=hN σ3 H3 n3
   exact⟨m',hm,σ3,H3,I3,w3⟩
  |brk=>exact q3
  |ret v=>exact q3
 |false =>
  rw[if_neg Bool.false_ne_true]
  exact wpAny_execs_nil ⟨σ1,H2,I2,q2⟩
end
structure It where
 go:Nat->Hp->Prop
 yld:Nat->Hp->V->Hp->Prop
 stop:Nat->Hp->Prop
def ZhN (X:Cx) (pins:List (Addr×Obj)) (H:Hp) (b:Addr):Prop:=
 H b=none/\b≠X.env.locals/\b ∉ X.fs/\(b∈X.ex\/X.s₀.heap.objs.size<=b)/\(∀x c,X.env.cells.lookup x=some c->c≠b)/\∀p∈X.pn++pins,p.1≠b
theorem Inv.fpOk {X:Cx}{pins:List (Addr×Obj)}{σ:St}{H H':Hp}{s:Shared}{b:Addr} (I:Inv X pins σ H s) (hb:s.heap.objs.size<=b) (hn:H' b=none):ZhN X pins H' b:=by
 refine⟨hn,Zuc (ZsY I.lt hb),I.nofs hb,.inr (Ztr I.sz hb),fun x c e z=>?_,fun p hp z=>?_⟩
 ·obtain⟨v,q⟩:=I.cell x c e
  exact absurd (ZsY q.lt (by rw[z];exact hb)) (Ztz _)
 ·exact absurd (ZsY (Heap.lt_size (I.pin p hp).1) (by rw[z];exact hb)) (Ztz _)
structure ZjO (P:Program) (w:World) (K:PySem.W.Frag) (tg:Expr) (J:It) (fp:List Addr) (it:Addr) (tn:Nat->Heap->Prop):Prop where
 mem:it∈fp
 obj:∀i h,tn i h->∀b∈fp,∃o,h.get? b=some o/\∀v,o.data≠.cell v
 keep:∀i h h',tn i h->(∀b∈fp,∀o,h.get? b=some o->h'.get? b=some o)->tn i h'
 item:∀(X:Cx),X.prog=P->X.w=w->X.K=K->X.calm=true->∀(i:Nat) (pins:List (Addr×Obj)) (s:Shared) (σ:St) (H:Hp) (E:Value->Shared->Prop),Inv X pins σ H s->(∀b∈fp,ZhN X pins H b)->tn i s.heap->J.go i H ->
  wpAny (model P w) X.A (pyNext (.ref it)) (fun r s1=>∃u,r=some u /\
   wpAny (model P w) X.A (letOwnedTupleGo tg (.ref it) u) (fun _ s2=>∃x H',Inv X pins σ H' s2/\Ja x u/\J.yld i H x H'/\tn (i+1) s2.heap/\∀b∈fp,H' b=none) E s1) E s
 done:∀(X:Cx),X.prog=P->X.w=w->X.K=K->X.calm=true->∀(i:Nat) (pins:List (Addr×Obj)) (s:Shared) (σ:St) (H:Hp) (E:Value->Shared->Prop),Inv X pins σ H s->(∀b∈fp,ZhN X pins H b)->tn i s.heap->J.stop i H ->
  wpAny (model P w) X.A (pyNext (.ref it)) (fun r s1=>r=none/\Inv X pins σ H s1) E s
 self:∀(A:Around) (i:Nat) (s:Shared) (Q:Value->Shared->Prop) (E:Value->Shared->Prop),tn i s.heap->Q (.ref it) s->wpAny (model P w) A (pyIter (.ref it)) Q E s
noncomputable abbrev TI:=St->Hp->(It->Hp->Prop)->Prop
def PIE (X:Cx) (pins:List (Addr×Obj)) (σ:St) (tg:Expr) (R:It->Hp->Prop) (itv:Value) (s2:Shared):Prop:=
 ∃(it:Addr) (fp:List Addr) (tn:Nat->Heap->Prop) (J:It) (H':Hp),itv=.ref it/\Inv X pins σ H' s2/\ZjO X.prog X.w X.K tg J fp it tn/\tn 0 s2.heap/\(∀b∈fp,ZhN X pins H' b)/\R J H'
def PI (X:Cx) (tg iter:Expr) (wi:TI):Prop:=
 ∀(pins:List (Addr×Obj)) (s:Shared) (σ:St) (H:Hp) (R:It->Hp->Prop),Inv X pins σ H s->wi σ H R ->
  wpAny (model X.prog X.w) X.A (eval iter X.env) (fun v s1=>wpAny (model X.prog X.w) X.A (pyIter v) (PIE X pins σ tg R) X.xe s1) X.xe s
theorem Zjl {M:Model}{A:Around}{E:Value->Shared->Prop}{s:Shared}{tg:Expr}{it:Addr}{u:Value}{o:Obj}{n:String}{vs:Array Value}{Q:Unit->Shared->Prop} (ho:s.heap.get? it=some o) (hc:o.cls=.type n) (hd:o.data=.fields vs)
  (hn:["enumerate", "zip", "dict_itemiterator", "dict_reverseitemiterator", "odict_iterator", "itertools.zip_longest", "itertools.pairwise"].contains n=false) (hQ:Q () s):wpAny M A (letOwnedTupleGo tg (.ref it) u) Q E s:=by
 unfold letOwnedTupleGo
 cases tg<;>first
  |exact wpAny_pure hQ
  |(cases u<;>first
    |exact wpAny_pure hQ
    |(refine wpAny_bind (wpAny_load ho ?_)
      rw[hc,hd]
      show wpAny M A (if (["enumerate", "zip", "dict_itemiterator", "dict_reverseitemiterator", "odict_iterator", "itertools.zip_longest", "itertools.pairwise"].contains n&&vs[0]?==some (rawInt _))=true then _ else _) Q E s
      rw[if_neg (by intro h;rw[hn,Bool.false_and] at h;cases h)]
      exact wpAny_pure hQ))
noncomputable def Itl (K:W.Frag) (a:Addr):It:=
 ⟨fun i H=>∃xs x,SqL K H a xs/\xs[i]?=some x,fun i H x H'=>H'=H/\∀xs,SqL K H a xs->xs[i]?=some x,fun i H=>∃xs,SqL K H a xs/\xs.length<=i⟩
noncomputable def Itr (lo:Int) (n:Nat):It:=⟨fun i _=>i<n,fun i H x H'=>H'=H/\x=.int (lo+i),fun i _=>n<=i⟩
theorem Zew {P:Program}{w:World}{K:W.Frag}{tg:Expr} (a it:Addr):ZjO P w K tg (Itl K a) [it] it (fun i h=>h.IsListIter it a i) where
 mem:=by simp
 obj:=fun i h st b hb=>by
  have e:b=it:=by simpa using hb
  subst e
  obtain⟨o,e,c,d⟩:=st
  exact⟨o,e,fun v z=>by rw[d] at z;cases z⟩
 keep:=fun i h h' st k=>st.at fun o e=>k it (by simp) o e
 item:=by
  intro X hP hw hK hc i pins s σ H E I hf st hg
  subst hP hw hK
  obtain⟨xs,x,hq,hx⟩:=hg
  obtain⟨its,rv,p,hz⟩:=I.list hq
  obtain⟨u,hu,ru⟩:=rv.get hx
  obtain⟨f0,f1,f2,f3,f4,f5⟩:=hf it (by simp)
  refine wpAny_pyNext_list_item st p.isList (x:=u) (by simpa using hu) fun h' st' sb=>?_
  have I1:Inv X pins σ H { s with heap:=h' }:=I.turned (t':=s.toks) (fun b o hb e=>(sb.2 b hb).trans e) f0 f1 f3 f4 f5
  obtain⟨o,e,c,d⟩:=id st'
  exact⟨u,rfl,Zjl (s:={ s with heap:=h' }) e c d (by decide) ⟨x,H,I1,ru,⟨rfl,fun ys hy=>by rw[I.list_inj hy hq];exact hx⟩,st',fun b hb=>(hf b hb).1⟩⟩
 done:=by
  intro X hP hw hK hc i pins s σ H E I hf st hg
  subst hP hw hK
  obtain⟨xs,hq,hx⟩:=hg
  obtain⟨its,rv,p,hz⟩:=I.list hq
  obtain⟨f0,f1,f2,f3,f4,f5⟩:=hf it (by simp)
  have hl:=rv.length
  exact wpAny_pyNext_list_end (I.ok.hd hc) st p.isList (by simp;omega) fun h' eb=>⟨rfl,I.turned (t':=s.toks) (fun b o hb e=>eb b o hb e) f0 f1 f3 f4 f5⟩
 self:=fun _ _ _ _ _ st h=>wpAny_pyIter_listiter st h
theorem ZdA {P:Program}{w:World}{K:W.Frag}{tg:Expr} (it:Addr) (lo:Int) (n:Nat):ZjO P w K tg (Itr lo n) [it] it (fun i h=>IsRangeIter h it (lo+(i:Nat)*1) ((n:Int)-(i:Nat)) 1) where
 mem:=by simp
 obj:=fun i h st b hb=>by
  have e:b=it:=by simpa using hb
  subst e
  exact⟨_,st,fun v z=>by
   have z':Data.fields _=Data.cell v:=z
   cases z'⟩
 keep:=fun i h h' st k=>k it (by simp) _ st
 item:=by
  intro X hP hw hK hc i pins s σ H E I hf st hg
  subst hP hw hK
  obtain⟨f0,f1,f2,f3,f4,f5⟩:=hf it (by simp)
  have W:=Walks.range (prog:=X.prog) (w:=X.w) (I.ok.hd hc) it lo 1 n
  refine W.item i s _ _ hg st fun v h' tk hv st' kk=>?_
  obtain⟨t,rfl⟩:=hv
  have I1:Inv X pins σ H { s with heap:=h',toks:=tk }:=I.turned (fun b o hb e=>kk b o (by simpa using hb) e) f0 f1 f3 f4 f5
  refine⟨_,rfl,Zjl (s:={ s with heap:=h',toks:=tk }) (n := "range_iterator") st' rfl rfl (by decide) ⟨.int (lo+i),H,I1,⟨t, ?_⟩,⟨rfl,rfl⟩,st',fun b hb=>(hf b hb).1⟩⟩
  rw[Int.mul_one]
 done:=by
  intro X hP hw hK hc i pins s σ H E I hf st hg
  subst hP hw hK
  obtain⟨f0,f1,f2,f3,f4,f5⟩:=hf it (by simp)
  exact wpAny_pyNext_range_end (I.ok.hd hc) st (by have:n<=i:=hg;omega) fun h' eb=>⟨rfl,I.turned (t':=s.toks) (fun b o hb e=>eb b o hb e) f0 f1 f3 f4 f5⟩
 self:=fun _ _ _ _ _ st h=>wpAny_pyIter_rangeiter st h
section
variable {X:Cx}{tg:Expr}
noncomputable def Zji (K:W.Frag) (tl:TE):TI:=fun σ H R=>tl σ H fun x H1=>∃a,x=.ref a/\(∃xs,SqL K H1 a xs)/\R (Itl K a) H1
theorem ZiO {l:Expr}{tl:TE} (hl:PE X l tl):PI X tg l (Zji X.K tl):=by
 intro pins s σ H R I h
 refine thn (hl pins s σ H _ I h) fun v s1 ⟨x,H1,I1,r1,q1⟩=>?_
 obtain⟨a,e,⟨xs,hq⟩,q⟩:=q1
 subst e
 cases r1
 obtain⟨its,rv,p,hz⟩:=I1.list hq
 refine wpAny_pyIter_list p.isList ?_
 refine⟨s1.heap.objs.size,[s1.heap.objs.size],_,_,H1,rfl,I1.kept (t':=s1.toks) fun b o e=>Heap.get?_push_of_some _ e,Zew a _,⟨_,Heap.get?_push_size _ rfl,rfl,rfl⟩,fun b hb=>?_,q⟩
 have e:b=s1.heap.objs.size:=by simpa using hb
 subst e
 exact I1.fpOk (ZsV _) (I1.hok.fresh (ZsV _))
theorem ZcD {pins:List (Addr×Obj)}{σ:St}{H:Hp}{s:Shared}{R:It->Hp->Prop}{E:Value->Shared->Prop}{lo hi:Int}{t u v:Tok}{tk:Nat} (I:Inv X pins σ H s) (h1:-(2^62)<=lo) (h2:lo<2^62) (h3:-(2^62)<=hi) (h4:hi<2^62)
  (q:R (Itr lo (hi-lo).toNat) H):wpAny (model X.prog X.w) X.A (pyIter (.ref s.heap.objs.size)) (PIE X pins σ tg R) E { s with heap:=s.heap.push { cls:=.type "range",data:=.fields #[.int lo t,.int hi u,.int 1 v] },toks:=tk }:=by
 refine wpAny_pyIter_range (IsRange.new ..) (small_one h1 h2 h3 h4) ?_
 have I1:Inv X pins σ H { s with heap:=s.heap.push { cls:=.type "range",data:=.fields #[.int lo t,.int hi u,.int 1 v] },toks:=tk }:=I.kept fun b o e=>Heap.get?_push_of_some _ e
 refine⟨(s.heap.push { cls:=.type "range",data:=.fields #[.int lo t,.int hi u,.int 1 v] }).objs.size,[(s.heap.push { cls:=.type "range",data:=.fields #[.int lo t,.int hi u,.int 1 v] }).objs.size],_,_,H,rfl,
  I1.kept (t':=tk) fun b o e=>Heap.get?_push_of_some _ e,ZdA _ lo (hi-lo).toNat, ?_,fun b hb=>?_,q⟩
 ·have e1:lo+((0:Nat):Int)*1=lo:=by simp
  have e2:(((hi-lo).toNat:Nat):Int)-((0:Nat):Int)=Builtin.Range.rangeSize lo hi 1:=by rw[rangeSize_one];split<;>omega
  show IsRangeIter _ _ (lo+((0:Nat):Int)*1) ((((hi-lo).toNat:Nat):Int)-((0:Nat):Int)) 1
  rw[e1,e2]
  exact Heap.get?_push_size _ rfl
 ·have e:b=(s.heap.push { cls:=.type "range",data:=.fields #[.int lo t,.int hi u,.int 1 v] }).objs.size:=by simpa using hb
  subst e
  exact I1.fpOk (ZsV _) (I1.hok.fresh (ZsV _))
noncomputable def ZkV (ta:TA):TI:=fun σ H R=>ta σ H fun vs H1=>∃j:Int,vs=[.int j]/\-(2^62)<=j/\j<2^62/\R (Itr 0 j.toNat) H1
noncomputable def ZkU (ta:TA):TI:=fun σ H R=>ta σ H fun vs H1=>∃i j:Int,vs=[.int i,.int j]/\(-(2^62)<=i/\i<2^62/\-(2^62)<=j/\j<2^62)/\R (Itr i (j-i).toNat) H1
theorem Vm {a:Expr}{ta:TA}{p pos:Pos} (hg:Gl X "range") (hm:X.mg "range"=none) (ha:PA X [a] ta) (hs:starEach [a] X.env=[(false,eval a X.env)]:=by rfl):PI X tg (.Call (.Name "range" p) [a] [] pos) (ZkV ta):=by
 intro pins s σ H R I h
 refine Call_ (Qm I hg hm boot_range (PyProof.Rows.callWith_type1 (thn (ha pos pins s σ H _ I h) fun us s1 ⟨vs,H1,I1,r1,q1⟩=>?_) hs rfl))
 obtain⟨j,e,q1,q2,q⟩:=q1
 subst e
 cases r1 with
 |cons r rr =>
  cases rr
  obtain⟨t,rfl⟩:=r
  exact call_range_1 (ZcD I1 (by omega) (by omega) q1 q2 (by simpa using q))
theorem ZeO {a b:Expr}{ta:TA}{p pos:Pos} (hg:Gl X "range") (hm:X.mg "range"=none) (ha:PA X [a,b] ta) (hs:starEach [a,b] X.env=[(false,eval a X.env),(false,eval b X.env)]:=by rfl) (hs2:starEach [b] X.env=[(false,eval b X.env)]:=by rfl) :
  PI X tg (.Call (.Name "range" p) [a,b] [] pos) (ZkU ta):=by
 intro pins s σ H R I h
 refine Call_ (Qm I hg hm boot_range (PyProof.Rows.callWith_type1 (thn (ha pos pins s σ H _ I h) fun us s1 ⟨vs,H1,I1,r1,q1⟩=>?_) (by rw[hs,hs2]) (by rw[hs2];rfl)))
 obtain⟨i,j,e,⟨q1,q2,q3,q4⟩,q⟩:=q1
 subst e
 cases r1 with
 |cons r rr =>
  cases rr with
  |cons r' rr =>
   cases rr
   obtain⟨t,rfl⟩:=r
   obtain⟨t',rfl⟩:=r'
   exact call_range_2 (ZcD I1 q1 q2 q3 q4 q)
noncomputable def ZmA (wi:TI) (g:TG) (tb:TS):TS:=fun D σ H=>wi σ H fun J H1=>∃W:Nat->Nat->St->Hp->Prop,(∃m,W 0 m σ H1)/\∀i m σ H,W i m σ H ->
 (J.stop i H/\D.nx σ H)\/(J.go i H/\∃N:St->Hp->Prop,(∀σ' H',N σ' H'->∃m',m'<m/\W (i+1) m' σ' H')/\∀x H',J.yld i H x H'->g x σ H' fun σ2 H2=>tb { D with nx:=N,ct:=N,bk:=D.nx } σ2 H2)
noncomputable def ZcJ (fp:List Addr) (h:Heap):List (Addr×Obj):=fp.filterMap fun b=>(h.get? b).map fun o=>(b,o)
theorem J1 {fp:List Addr}{h:Heap}{b:Addr}{o:Obj} (hb:b∈fp) (e:h.get? b=some o):(b,o)∈ZcJ fp h:=ZtQ.mpr ⟨b,hb,by rw[e];rfl⟩
theorem Zfm {fp:List Addr}{h:Heap}{p:Addr×Obj} (hp:p∈ZcJ fp h):p.1∈fp/\h.get? p.1=some p.2:=by
 obtain⟨b,hb,e⟩:=ZtQ.mp hp
 cases q:h.get? b with
 |none=>rw[q] at e;cases e
 |some o =>
  rw[q] at e
  have e':(b,o)=p:=Option.some.inj e
  subst e'
  exact⟨hb,q⟩
theorem Inv.pinned {pins:List (Addr×Obj)}{σ:St}{H:Hp}{s:Shared}{fp:List Addr} (I:Inv X pins σ H s) (hf:∀b∈fp,ZhN X pins H b) (ho:∀b∈fp,∃o,s.heap.get? b=some o/\∀v,o.data≠.cell v):Inv X (pins++ZcJ fp s.heap) σ H s:=
 I.pins_of fun p hp=>(ZsW.mp hp).elim (fun z=>I.pin p (ZsT _ z)) fun z=>by
  obtain⟨hb,e⟩:=Zfm z
  obtain⟨f0,f1,f2,_⟩:=hf p.1 hb
  obtain⟨o,e',d⟩:=ho p.1 hb
  rw[e] at e';cases e'
  exact⟨e,f0,f1,f2,d⟩
theorem Inv.unpinned {pins pl:List (Addr×Obj)}{σ:St}{H:Hp}{s:Shared} (I:Inv X (pins++pl) σ H s):Inv X pins σ H s:=I.pins_of fun p hp=>I.pin p (ZsT _ (ZsU _ hp))
theorem Ve {iter:Expr}{body:List Stmt}{wi:TI}{g:TG}{tb:TS}{pos:Pos} (hp:PassesOwn (model X.prog X.w) X.A X.env X.xe) (hc:X.calm=true) (hi:PI X tg iter wi) (hg:PG X tg g) (hb:PSs X body tb)
  (hs:∀x,foldedSetIterable iter X.env x=pure x:=by exact fun _=>rfl):PS X (.For tg iter body [] pos) (ZmA wi g tb):=by
 intro pins s σ H D I h
 refine wpAny_For (thn (hi pins s σ H _ I h) fun v s1 h1=>thn h1 fun itv s2 h2=>?_) hs
 obtain⟨it,fp,tn,J,H2,e,I2,T,st2,f2,W,⟨m0,w0⟩,turn⟩:=h2
 subst e
 have stat:∀{H':Hp},(∀b∈fp,H' b=none)->∀b∈fp,ZhN X pins H' b:=fun hn b hb=>⟨hn b hb,(f2 b hb).2⟩
 refine codeAny_forLoop_any (fun n s'=>∃i σ' H',Inv X pins σ' H' s'/\tn i s'.heap/\(∀b∈fp,H' b=none)/\W i n σ' H') ?_ m0 ⟨0,σ,H2,I2,st2,fun b hb=>(f2 b hb).1,w0⟩
 rintro n s3 ⟨i,σ3,H3,I3,st3,fr3,w3⟩
 rcases turn i n σ3 H3 w3 with ⟨stop,qn⟩|⟨go,N,hN,step⟩
 ·refine wpAny_passesOwn hp (thn (T.done X rfl rfl rfl hc i pins s3 σ3 H3 X.xe I3 (stat fr3) st3 stop) fun r s4 ⟨hr,I4⟩=>?_)
  subst hr
  exact wpAny_execs_nil ⟨σ3,H3,I4,qn⟩
 ·refine wpAny_passesOwn hp (thn (T.item X rfl rfl rfl hc i pins s3 σ3 H3 X.xe I3 (stat fr3) st3 go) fun r s4 ⟨u,hr,h4⟩=>?_)
  subst hr
  refine wpAny_passesOwn hp (thn h4 fun _ s5 ⟨x,H5,I5,r5,y5,st5,fr5⟩=>?_)
  have I5':=I5.pinned (stat fr5) (T.obj _ _ st5)
  refine wpAny_passesOwn hp (thn (hg _ s5 σ3 H5 x u _ I5' r5 (step x H5 y5)) fun _ s6 ⟨σ6,H6,I6,q6⟩=>?_)
  refine wpAny_passesOwn hp (thn (hb _ s6 σ6 H6 _ I6 q6) fun f s7 q7=>?_)
  have again:∀{σ7:St}{H7:Hp},Inv X (pins++ZcJ fp s5.heap) σ7 H7 s7->N σ7 H7->∃m,m<n/\∃i σ' H',Inv X pins σ' H' s7/\tn i s7.heap/\(∀b∈fp,H' b=none)/\W i m σ' H':=fun {σ7 H7} I7 n7=>by
   obtain⟨m',hm,w7⟩:=hN σ7 H7 n7
   refine⟨m',hm,i+1,σ7,H7,I7.unpinned,T.keep _ _ _ st5 fun b hb o e=>(I7.pin (b,o) (ZsT _ (ZsT _ (J1 hb e)))).1,fun b hb=>?_,w7⟩
   obtain⟨o,e,d⟩:=T.obj _ _ st5 b hb
   exact(I7.pin (b,o) (ZsT _ (ZsT _ (J1 hb e)))).2.1
  cases f with
  |next=>obtain⟨σ7,H7,I7,n7⟩:=q7;exact again I7 n7
  |cont=>obtain⟨σ7,H7,I7,n7⟩:=q7;exact again I7 n7
  |brk=>obtain⟨σ7,H7,I7,q7⟩:=q7;exact⟨σ7,H7,I7.unpinned,q7⟩
  |ret v=>obtain⟨x7,σ7,H7,I7,r7,q7⟩:=q7;exact⟨x7,σ7,H7,I7.unpinned,r7,q7⟩
end
noncomputable abbrev R2:=V->V->Hp->VK->Prop
def OpR (X:Cx) (f:Value->Value->Sem Value) (r:R2):Prop:=
 ∀(pins:List (Addr×Obj)) (s:Shared) (σ:St) (H:Hp) (x y:V) (v u:Value) (Q:VK),Inv X pins σ H s->Ja x v->Ja y u->r x y H Q ->
  wpAny (model X.prog X.w) X.A (f v u) (EP X pins σ Q) X.xe s
def UnR (X:Cx) (f:Value->Sem Value) (r:V->Hp->VK->Prop):Prop:=
 ∀(pins:List (Addr×Obj)) (s:Shared) (σ:St) (H:Hp) (x:V) (v:Value) (Q:VK),Inv X pins σ H s->Ja x v->r x H Q ->
  wpAny (model X.prog X.w) X.A (f v) (EP X pins σ Q) X.xe s
def Vb (X:Cx) (f:Value) (r:List V->Hp->VK->Prop):Prop:=
 ∀(pins:List (Addr×Obj)) (s:Shared) (σ:St) (H:Hp) (xs:List V) (us:List Value) (Q:VK),Inv X pins σ H s->ZQ xs us->r xs H Q ->
  wpAny (model X.prog X.w) X.A (call f us) (EP X pins σ Q) X.xe s
noncomputable def tOp (r:R2) (ta tb:TE):TE:=fun σ H Q=>ta σ H fun x H1=>tb σ H1 fun y H2=>r x y H2 Q
noncomputable def tUn (r:V->Hp->VK->Prop) (ta:TE):TE:=fun σ H Q=>ta σ H fun x H1=>r x H1 Q
noncomputable def rI (C:Int->Int->Prop) (g:Int->Int->V):R2:=fun x y H Q=>∃i j,x=.int i/\y=.int j/\C i j/\Q (g i j) H
noncomputable def rI0 (g:Int->Int->V):R2:=fun x y H Q=>∃i j,x=.int i/\y=.int j/\Q (g i j) H
def rU (g:Int->V):V->Hp->VK->Prop:=fun x H Q=>∃i,x=.int i/\Q (g i) H
section
variable {X:Cx}{a b:Expr}{ta tb:TE}{pos:Pos}
theorem Zm2 (ha:PE X a ta) (hb:PE X b tb) {pins:List (Addr×Obj)}{s:Shared}{σ:St}{H:Hp}{R:V->V->Hp->Prop} (I:Inv X pins σ H s)
  (h:ta σ H fun x H1=>tb σ H1 fun y H2=>R x y H2) {Q:Value->Shared->Prop}{f:Value->Value->Sem Value}
  (hf:∀v u s2 x y H2,Inv X pins σ H2 s2->Ja x v->Ja y u->R x y H2->wpAny (model X.prog X.w) X.A (f v u) Q X.xe s2) :
  wpAny (model X.prog X.w) X.A (eval a X.env) (fun v s₁=>wpAny (model X.prog X.w) X.A (eval b X.env) (fun u s₂=>wpAny (model X.prog X.w) X.A (f v u) Q X.xe s₂) X.xe s₁) X.xe s:=by
 refine thn (ha pins s σ H _ I h) fun v s1 ⟨x,H1,I1,r1,q1⟩=>?_
 refine thn (hb pins s1 σ H1 _ I1 q1) fun u s2 ⟨y,H2,I2,r2,q2⟩=>?_
 exact hf v u s2 x y H2 I2 r1 r2 q2
theorem ZG {op:Operator}{r:R2} (ho:OpR X (binaryOp op) r) (ha:PE X a ta) (hb:PE X b tb):PE X (.BinOp a op b pos) (tOp r ta tb):=by
 intro pins s σ H Q I h
 exact wpAny_BinOp (Zm2 ha hb I h fun v u s2 x y H2 I2 rx ry q=>ho pins s2 σ H2 x y v u Q I2 rx ry q)
theorem ZbE {op:UnaryOp}{r:V->Hp->VK->Prop} (ho:UnR X (unaryOp op) r) (ha:PE X a ta):PE X (.UnaryOp op a pos) (tUn r ta):=by
 intro pins s σ H Q I h
 exact UnaryOp_ (thn (ha pins s σ H _ I h) fun v s1 ⟨x,H1,I1,r1,q1⟩=>ho pins s1 σ H1 x v Q I1 r1 q1)
theorem opI {f:Value->Value->Sem Value}{C:Int->Int->Prop}{g:Int->Int->Int}
  (rule:∀(i j:Int) (t u:Tok) (s:Shared) (Q:Value->Shared->Prop) (E:Value->Shared->Prop),C i j->Q (.int (g i j) s.toks) { s with toks:=s.toks+1 }->wpAny (model X.prog X.w) X.A (f (.int i t) (.int j u)) Q E s) :
  OpR X f (rI C fun i j=>.int (g i j)):=by
 intro pins s σ H x y v u Q I rx ry h
 obtain⟨i,j,rfl,rfl,hc,q⟩:=h
 obtain⟨t,rfl⟩:=rx
 obtain⟨t',rfl⟩:=ry
 exact rule i j t t' s _ _ hc ⟨.int (g i j),H,I.tok _,⟨_,rfl⟩,q⟩
theorem ZmP {f:Value->Value->Sem Value}{g:Int->Int->Int}
  (rule:∀(i j:Int) (t u:Tok) (s:Shared) (Q:Value->Shared->Prop) (E:Value->Shared->Prop),Q (.int (g i j) s.toks) { s with toks:=s.toks+1 }->wpAny (model X.prog X.w) X.A (f (.int i t) (.int j u)) Q E s) :
  OpR X f (rI0 fun i j=>.int (g i j)):=by
 intro pins s σ H x y v u Q I rx ry h
 obtain⟨i,j,rfl,rfl,q⟩:=h
 obtain⟨t,rfl⟩:=rx
 obtain⟨t',rfl⟩:=ry
 exact rule i j t t' s _ _ ⟨.int (g i j),H,I.tok _,⟨_,rfl⟩,q⟩
theorem ZlA {f:Value->Value->Sem Value}{g:Int->Int->Bool}
  (rule:∀(i j:Int) (t u:Tok) (s:Shared) (Q:Value->Shared->Prop) (E:Value->Shared->Prop),Q (.bool (g i j)) s->wpAny (model X.prog X.w) X.A (f (.int i t) (.int j u)) Q E s) :
  OpR X f (rI0 fun i j=>.bl (g i j)):=by
 intro pins s σ H x y v u Q I rx ry h
 obtain⟨i,j,rfl,rfl,q⟩:=h
 obtain⟨t,rfl⟩:=rx
 obtain⟨t',rfl⟩:=ry
 exact rule i j t t' s _ _ ⟨.bl (g i j),H,I,rfl,q⟩
def ZjQ (i j:Int):Prop:=0<=j/\j<=1000000/\i.natAbs<2^64
theorem Qe:OpR X (binaryOp .Add) (rI0 fun i j=>.int (i+j)):=ZmP fun _ _ _ _ _ _ _ q=>add_int q
theorem ZcS:OpR X (binaryOp .Sub) (rI0 fun i j=>.int (i-j)):=ZmP fun _ _ _ _ _ _ _ q=>sub_int q
theorem Js:OpR X (binaryOp .Mod) (rI (fun _ j=>0<j) fun i j=>.int (i%j)):=opI fun i j _ _ _ _ _ hc q=>by
 have h1:(0:Int)<j:=hc
 exact mod_int' (by omega) (by rw[Int.fmod_eq_emod_of_nonneg i (by omega)];exact q)
theorem Zin:OpR X (binaryOp .Pow) (rI ZjQ fun i j=>.int (i^j.toNat)):=opI fun _ _ _ _ _ _ _ hc q=>pow_int_small hc.1 hc.2.1 hc.2.2 q
theorem unI {f:Value->Sem Value}{g:Int->Int}
  (rule:∀(i:Int) (t:Tok) (s:Shared) (Q:Value->Shared->Prop) (E:Value->Shared->Prop),Q (.int (g i) s.toks) { s with toks:=s.toks+1 }->wpAny (model X.prog X.w) X.A (f (.int i t)) Q E s) :
  UnR X f (rU fun i=>.int (g i)):=by
 intro pins s σ H x v Q I rx h
 obtain⟨i,rfl,q⟩:=h
 obtain⟨t,rfl⟩:=rx
 exact rule i t s _ _ ⟨.int (g i),H,I.tok _,⟨_,rfl⟩,q⟩
theorem UM:UnR X (unaryOp .USub) (rU fun i=>.int (-i)):=unI fun _ _ _ _ _ q=>neg_int q
variable {c:Expr}
theorem Zhb:OpR X (compareOp .Lt) (rI0 fun i j=>.bl (decide (i<j))):=ZlA fun _ _ _ _ _ _ _ q=>lt_int q
theorem ZlX:OpR X (compareOp .LtE) (rI0 fun i j=>.bl (decide (i<=j))):=ZlA fun _ _ _ _ _ _ _ q=>le_int q
theorem Zfj:OpR X (compareOp .Gt) (rI0 fun i j=>.bl (decide (j<i))):=ZlA fun _ _ _ _ _ _ _ q=>gt_int q
theorem ZlY:OpR X (compareOp .GtE) (rI0 fun i j=>.bl (decide (j<=i))):=ZlA fun _ _ _ _ _ _ _ q=>ge_int q
theorem ZJ (b:Expr) {op:CmpOp} (h:op≠.In:=by decide) (h2:op≠.NotIn:=by decide):behindInMarks op b=false:=by
 have e1:(op==CmpOp.In)=false:=by cases op<;>first|rfl|exact absurd rfl h
 have e2:(op==CmpOp.NotIn)=false:=by cases op<;>first|rfl|exact absurd rfl h2
 cases b<;>simp[behindInMarks,e1,e2]
theorem V9 {op:CmpOp}{r:R2} (ho:OpR X (compareOp op) r) (ha:PE X a ta) (hb:PE X b tb) (hm:behindInMarks op b=false):PE X (.Compare a [op] [b] pos) (tOp r ta tb):=by
 intro pins s σ H Q I h
 exact wpAny_Compare1 (Zm2 ha hb I h fun v u s2 x y H2 I2 rx ry q=>ho pins s2 σ H2 x y v u Q I2 rx ry q) hm
noncomputable def ZjY (t:TE):TT:=fun σ H Q=>t σ H fun x H'=>∃k,x=.bl k/\Q k H'
theorem ZC {op:CmpOp}{r:R2} (ho:OpR X (compareOp op) r) (ha:PE X a ta) (hb:PE X b tb) (hm:behindInMarks op b=false):PT X (.Compare a [op] [b] pos) (ZjY (tOp r ta tb)):=by
 intro pins s σ H Q I h
 refine wpAny_isTrue_Compare1 (thn (ha pins s σ H _ I h) fun v s1 ⟨x,H1,I1,r1,q1⟩=>thn (hb pins s1 σ H1 _ I1 q1) fun u s2 ⟨y,H2,I2,r2,q2⟩ =>
  thn (ho pins s2 σ H2 x y v u _ I2 r1 r2 q2) fun c s3 ⟨z,H3,I3,r3,k,e,q3⟩=>?_) hm
 subst e
 cases r3
 exact wpAny_truthy_bool ⟨H3,I3,q3⟩
theorem QQ:(sizeLine:Nat)<2^63:=by rw[sizeLine_eq];decide
theorem Zb3 {x:V}{us:List Value} (r:ZQ [x] us):∃u,us=[u]/\Ja x u:=by
 cases r with
 |cons r1 r2=>cases r2;exact⟨_,rfl,r1⟩
theorem ZjT {x y:V}{us:List Value} (r:ZQ [x,y] us):∃u w',us=[u,w']/\Ja x u/\Ja y w':=by
 cases r with
 |cons r1 r2 =>
  cases r2 with
  |cons r3 r4=>cases r4;exact⟨_,_,rfl,r1,r3⟩
theorem Zgi (hc:X.calm=true):Vb X (.builtin "min") (fun xs H Q=>∃i j,xs=[.int i,.int j]/\Q (.int (if j<i then j else i)) H):=by
 intro pins s σ H xs us Q I r h
 obtain⟨i,j,rfl,q⟩:=h
 obtain⟨u,w',rfl,⟨t,rfl⟩,⟨t',rfl⟩⟩:=ZjT r
 refine min_two_ints (I.ok.hd hc) fun h' tk k=>⟨_,H,I.kept k, ?_,q⟩
 by_cases hj:j<i
 ·rw[if_pos hj,if_pos hj];exact⟨_,rfl⟩
 ·rw[if_neg hj,if_neg hj];exact⟨_,rfl⟩
end
structure Zi6 (h:Heap) (x dx C:Addr) (mA:Str->Option Value):Prop where
 obj:h.get? x=some (PySem.W.instObj C dx)
 ns:h.Ns1 dx mA
 ne:dx≠x
theorem Zfu {h:Heap}{dx:Addr}{mA:Str->Option Value} (n:h.Ns1 dx mA):∃od,h.get? dx=some od/\∀name,PySem.W.lookIn name od=some (mA name):=by
 obtain⟨o,es,ep,ho,hd,hk,_,hm⟩:=n
 refine⟨o,ho,fun name=>?_⟩
 have e:=hm name
 unfold nsFind findBy at e
 rw[<- Array.find?_toList] at e
 unfold PySem.W.lookIn
 rw[hd]
 dsimp only
 split
 ·rename_i y q
  rw[q] at e
  exact congrArg some e
 ·rename_i q
  rw[q] at e
  have a:es.toList.any (·.refKey)=false:=by
   rw[List.any_eq_false]
   intro y hy
   obtain⟨z,t,hkey⟩:=hk y (Array.mem_toList_iff.mp hy)
   simp[DictEntry.refKey,hkey]
  have a':¬es.toList.any (·.refKey)=true:=by rw[a];exact Bool.false_ne_true
  rw[if_neg a']
  exact congrArg some e
theorem Zi6.look {h:Heap}{x dx C:Addr}{mA:Str->Option Value} (I:Zi6 h x dx C mA):∃od,PySem.W.InstAt h x (PySem.W.instObj C dx) C (some od)/\∀name,PySem.W.lookIn name od=some (mA name):=
 let ⟨od,ho,hl⟩:=Zfu I.ns
 ⟨od,⟨I.obj,rfl,rfl,ho⟩,hl⟩
section
variable {prog:Program}{w:World}{A:Around}{E:Value->Shared->Prop}{s:Shared}{K:W.Frag}{x dx C f:Addr}{mA:Str->Option Value}{name:Str}{v:Value}
theorem Zjm {expr:Bool}{Q:Value->Shared->Prop} (X:K.In s.heap) (I:Zi6 s.heap x dx C mA) (hg:PySem.W.plainGet K C name=true) (hh:PySem.W.hasDictIn K C=true)
  (ha:PySem.W.findIn K (.ref C) name=some none) (hv:mA name=some v) (hv':PySem.W.handedIn v=true) (h:Q v { s with toks:=s.toks+1 }) :
  wpAny (model prog w) A (getAttr (.ref x) name expr) Q E s:=by
 obtain⟨od,J,hl⟩:=I.look
 exact PySem.W.get_value X J (PySem.W.plainGet_of hg).1 (PySem.W.findObj_own hh ha rfl (by rw[hl,hv])) hv' h
theorem Zdq {pl:Sem Bool}{Q:Value×List Value->Shared->Prop} (X:K.In s.heap) (I:Zi6 s.heap x dx C mA) (hg:PySem.W.plainGet K C name=true)
  (hf:PySem.W.findIn K (.ref C) name=some (some (.ref f))) (ht:PySem.W.isFn K (.ref f)=true) (hv:mA name=none) (h:Q (.ref f,[.ref x]) s) :
  wpAny (model prog w) A (getMethod (.ref x) name pl) Q E s:=by
 obtain⟨od,J,hl⟩:=I.look
 exact PySem.W.method_fn X J (PySem.W.plainGet_of hg).1 (PySem.W.plainGet_of hg).2 hf (beq_iff_eq.mp ht) (by show (PySem.W.lookIn name od).map (·.isSome)=some false;rw[hl,hv];rfl) h
theorem ZiG {ns:List Str}{Q:Unit->Shared->Prop} (X:K.In s.heap) (I:Zi6 s.heap x dx C mA)
  (hs:PySem.W.findIn K (.ref C) "__setattr__"=some (some (.builtin "object.__setattr__"))) (hp:PySem.W.plainOver K C=true) (ht:PySem.W.takerIn K C name=some none) (hh:PySem.W.hasDictIn K C=true)
  (hw:PySem.Within mA ns) (hsz:ns.length<=sizeLine)
  (h:∀h',Zi6 h' x dx C (fun y=>if y=name then some v else mA y)->Heap.SameBut dx s.heap h'->Q () { s with heap:=h',toks:=s.toks+2 }) :
  wpAny (model prog w) A (setAttr (.ref x) name v) Q E s:=by
 obtain⟨od,J,hl⟩:=I.look
 refine PySem.W.set_plain X J hs (PySem.W.osa_open (s:={ s with toks:=s.toks+1 }) (r:=none) X J hp ht fun b=>?_)
 obtain⟨cd,hc,hd'⟩:=PySem.W.any_some hh
 have hx:s.heap.get? x=some ⟨.ref C,some dx,.plain,#[]⟩:=I.obj
 refine wpAny_bind (wpAny_pure (wpAny_bind (wpAny_bind (wpAny_loadPart hx (wpAny_bind (PySem.W.Looks.here (s:={ s with toks:=s.toks+1 }) (PySem.W.looks_clsIn X hc) ?_))))))
 rw[hd']
 refine wpAny_pure (a:=some dx) (wpAny_bind (wpAny_pure (wpAny_bind ?_)))
 refine wpAny_nsSet1 (s:={ s with toks:=s.toks+1 }) I.ns fun h' hn2 hs2=>?_
 obtain⟨oD,esD,epD,hoD,hdD,hcD⟩:=hn2.count (PySem.Within.cons name v hw)
 refine wpAny_bind (wpAny_lookBehind hoD (by rw[hdD];exact pastItsLine_dict (Ztr hcD (by rw[Ztj];omega))) ?_)
 exact wpAny_pure (h _ ⟨(hs2.2 _ (Ne.symm I.ne)).trans I.obj,hn2,I.ne⟩ hs2)
theorem Zhe {R:Result->Shared->Prop}{vs:List Value}{kw:List (Str×Value)} (X:K.In s.heap) (hm:PySem.W.makesIn K C=true)
  (hi:PySem.W.findIn K (.ref C) "__init__"=some (some (.ref f))) (hf:PySem.W.typeIn K (.ref f)=some (.type "function"))
  (h:codeAny (model prog w) (A.under (.builtin "type.__call__" ⟨.ref C::vs,kw⟩)) (.call (.ref f) ⟨.ref (s.heap.objs.size+1)::vs,kw⟩) (PySem.W.InitBack (s.heap.objs.size+1) R)
   { s with heap:=(s.heap.push PySem.W.emptyDict).push (PySem.W.instObj C s.heap.objs.size) }) :
  codeAny (model prog w) A (.call (.ref C) ⟨vs,kw⟩) R s:=by
 obtain⟨hh,g,d,t,os⟩:=s
 exact PySem.W.make_core (PySem.W.makes_of X hm) (PySem.W.looks_findIn X hi) (fun self=>PySem.W.bind_fn X self hf) (.inl rfl) h
end
noncomputable def QN (f:Str) (v:V):List (Str×V)->List (Str×V)
 |[]=>[(f,v)]
 |(g,x)::r=>if g=f then (g,v)::r else (g,x)::QN f v r
theorem Qj (f g:Str) (v:V):∀fs:List (Str×V),(QN f v fs).lookup g=if g=f then some v else fs.lookup g
 |[]=>by
  show Zt8 g [(f,v)]=_
  by_cases h:g=f
  ·have hb:(g==f)=true:=beq_iff_eq.mpr h
   simp only[Zt8,hb,if_pos h]
  ·have hb:(g==f)=false:=beq_eq_false_iff_ne.mpr h
   simp only[Zt8,hb,if_neg h]
 |(k,x)::r=>by
  have ih:=Qj f g v r
  rw[show QN f v ((k,x)::r)=(if k=f then (k,v)::r else (k,x)::QN f v r) from rfl]
  by_cases hk:k=f
  ·rw[if_pos hk]
   by_cases h:g=k
   ·have hb:(g==k)=true:=beq_iff_eq.mpr h
    simp only[Zt8,hb,if_pos (h.trans hk)]
   ·have hb:(g==k)=false:=beq_eq_false_iff_ne.mpr h
    simp only[Zt8,hb,if_neg (fun e:g=f=>h (e.trans hk.symm))]
  ·rw[if_neg hk]
   by_cases h:g=k
   ·have hb:(g==k)=true:=beq_iff_eq.mpr h
    simp only[Zt8,hb,if_neg (fun e:g=f=>hk (h.symm.trans e))]
   ·have hb:(g==k)=false:=beq_eq_false_iff_ne.mpr h
    simp only[Zt8,hb]
    exact ih
theorem Qn (f:Str) (v:V):∀fs:List (Str×V),f∈(QN f v fs).map (·.1)/\∀g,g∈fs.map (·.1)->g∈(QN f v fs).map (·.1)
 |[]=>⟨by simp[QN],fun g h=>by simp at h⟩
 |(k,x)::r=>by
  obtain⟨i1,i2⟩:=Qn f v r
  rw[show QN f v ((k,x)::r)=(if k=f then (k,v)::r else (k,x)::QN f v r) from rfl]
  by_cases hk:k=f
  ·rw[if_pos hk]
   subst hk
   exact⟨by simp,fun g h=>by simpa using h⟩
  ·rw[if_neg hk]
   refine⟨?_,fun g h=>?_⟩
   ·rw[Ztc]
    exact Zth _ i1
   ·rw[Ztc] at h ⊢
    rcases ZsZ.mp h with e|e
    ·exact ZsZ.mpr (.inl e)
    ·exact Zth _ (i2 g e)
theorem Ql (f:Str) (v:V):∀fs:List (Str×V),(QN f v fs).length<=fs.length+1
 |[]=>by simp[QN]
 |(k,x)::r=>by
  have ih:=Ql f v r
  rw[show QN f v ((k,x)::r)=(if k=f then (k,v)::r else (k,x)::QN f v r) from rfl]
  by_cases hk:k=f
  ·rw[if_pos hk,Ztj,Ztj];omega
  ·rw[if_neg hk,Ztj,Ztj];omega
theorem Za3.some_of {v:V}{o:Option Value} (r:Za3 (some v) o):∃u,o=some u/\Ja v u:=by
 cases o with
 |none=>exact(show False from r).elim
 |some u=>exact⟨u,rfl,r⟩
theorem Za3.none_of {o:Option Value} (r:Za3 none o):o=none:=by
 cases o with
 |none=>rfl
 |some u=>exact(show False from r).elim
theorem ZfE {v:V}{u:Value} (r:Ja v u):PySem.W.handedIn u=true:=by
 cases v with
 |non=>cases (show u=Value.none from r);rfl
 |bl b=>cases (show u=Value.bool b from r);rfl
 |int i=>obtain⟨t,e⟩:=(show ∃t,u=Value.int i t from r);cases e;rfl
 |str x=>obtain⟨t,e⟩:=(show ∃t,u=Value.str x t from r);cases e;rfl
 |byt b=>obtain⟨t,e⟩:=(show ∃t,u=Value.bytes b t from r);cases e;rfl
 |flt b=>obtain⟨t,e⟩:=(show ∃t,u=Value.float b t from r);cases e;rfl
 |ref a=>cases (show u=Value.ref a from r);rfl
 |ty n=>cases (show u=Value.type n from r);rfl
section
variable {P:Program}{w:World}{H:Hp}{h:Heap}{a C dx:Addr}{fs:List (Str×V)}
theorem Zjh (hok:HOk P w H h) (e:H a=some (.ins C dx fs)):∃mA,Zi6 h a dx C mA/\(∀f,Za3 (fs.lookup f) (mA f))/\PySem.Within mA (fs.map (·.1))/\fs.length<=1000/\H dx=some (.own a):=by
 obtain⟨d,z,ne,ob,mA,n,r,q⟩:=(show Jg P w H h a (.ins C dx fs) from hok a _ e)
 exact⟨mA,⟨ob,n,ne⟩,r,q,z,d⟩
end
structure Cls (K:PySem.W.Frag) (C:Addr):Prop where
 pg:PySem.W.plainGet K C Str.empty=true
 hd:PySem.W.hasDictIn K C=true
 po:PySem.W.plainOver K C=true
 sa:PySem.W.findIn K (.ref C) "__setattr__"=some (some (.builtin "object.__setattr__"))
theorem Cls.get {K:W.Frag}{C:Addr} (c:Cls K C) (f:Str):PySem.W.plainGet K C f=true:=c.pg
def QB (K:W.Frag) (C:Addr) (f:Str):Prop:=PySem.W.findIn K (.ref C) f=some none
theorem QB.taker {K:W.Frag}{C:Addr}{f:Str} (n:QB K C f):PySem.W.takerIn K C f=some none:=by
 unfold PySem.W.takerIn
 rw[show PySem.W.findIn K (.ref C) f=some none from n]
 rfl
structure Znn (K:PySem.W.Frag) (C:Addr) (m:Str) (f:Addr):Prop where
 at_:PySem.W.findIn K (.ref C) m=some (some (.ref f))
 fn:PySem.W.isFn K (.ref f)=true
 kp:PySem.W.keepIn K (.ref f)=true
section
variable {X:Cx}{pins:List (Addr×Obj)}{σ:St}{H:Hp}{s:Shared}{a C dx:Addr}{fs:List (Str×V)}{f:Str}{A:Around}{E:Value->Shared->Prop}
theorem ZdH {y:V}{u:Value}{Q:Unit->Shared->Prop} (I:Inv X pins σ H s) (e:H a=some (.ins C dx fs)) (c:Cls X.K C) (n:QB X.K C f) (hl:fs.length<1000) (ry:Ja y u)
  (h:∀s',Inv X pins σ (upd H a (.ins C dx (QN f y fs))) s'->Q () s'):wpAny (model X.prog X.w) A (setAttr (.ref a) f u) Q E s:=by
 obtain⟨mA,O,r,wi,_,ho⟩:=Zjh I.hok e
 have hz:(fs.map (·.1)).length<=sizeLine:=by rw[ZsS,sizeLine_eq];omega
 refine ZiG I.kIn O c.sa c.po n.taker c.hd wi hz fun h' O' sb=>h _ ?_
 have hd:∃o,h'.get? dx=some o:=let ⟨o,_,_,e',_⟩:=O'.ns;⟨o,e'⟩
 refine I.write (x:=a) (e:=dx) (by rw[e];exact True.intro) (.inr ho) (fun b q hb z=>(sb.2 b hb).trans z) hd ?_
 refine⟨by rw[Zn O.ne];exact ho, ?_,O.ne,O'.obj,_,O'.ns,fun g=>?_,fun g hg=>?_⟩
 ·have:=Ql f y fs;omega
 ·show Za3 ((QN f y fs).lookup g) (if g=f then some u else mA g)
  rw[Qj]
  by_cases q:g=f
  ·rw[if_pos q,if_pos q];exact ry
  ·rw[if_neg q,if_neg q];exact r g
 ·by_cases q:g=f
  ·rw[q];exact(Qn f y fs).1
  ·refine(Qn f y fs).2 g (wi g fun z=>hg ?_)
   show (if g=f then some u else mA g)=none
   rw[if_neg q];exact z
theorem Inv.made (I:Inv X pins σ H s):Inv X pins σ (upd (upd H s.heap.objs.size (.own (s.heap.objs.size+1))) (s.heap.objs.size+1) (.ins C s.heap.objs.size []))
  { s with heap:=(s.heap.push PySem.W.emptyDict).push (PySem.W.instObj C s.heap.objs.size) }:=by
 have e1:(s.heap.push PySem.W.emptyDict).get? s.heap.objs.size=some PySem.W.emptyDict:=Heap.get?_push_size s.heap rfl
 have e2:((s.heap.push PySem.W.emptyDict).push (PySem.W.instObj C s.heap.objs.size)).get? (s.heap.objs.size+1)=some (PySem.W.instObj C s.heap.objs.size):=by
  have:=Heap.get?_push_size (s.heap.push PySem.W.emptyDict) (o:=PySem.W.instObj C s.heap.objs.size) rfl
  rwa [Heap.size_push] at this
 have e3:(s.heap.push PySem.W.emptyDict).Ns s.heap.objs.size (fun _=>none):=⟨PySem.W.emptyDict,#[],_,e1,rfl,(fun e he=>absurd he (by simp)),fun _=>rfl⟩
 have I1:=I.laid (a:=s.heap.objs.size) (o:=.own (s.heap.objs.size+1)) (h':=s.heap.push PySem.W.emptyDict) (t':=s.toks) (fun b u q=>Heap.get?_push_of_some _ q) (ZsV _) ⟨_,e1⟩
 refine I1.laid (a:=s.heap.objs.size+1) (o:=.ins C s.heap.objs.size []) (t':=s.toks) (fun b u q=>Heap.get?_push_of_some _ q) (Nat.le_of_eq (Heap.size_push _ _)) ?_
 have ne:s.heap.objs.size≠s.heap.objs.size+1:=Zti (ZtB _)
 refine⟨by rw[Zn ne,Zw],ZtF _,ne,e2,fun _=>none,(Heap.Ns1.of_empty e3).at fun o q=>Heap.get?_push_of_some _ q,fun _=>True.intro,fun y hy=>absurd rfl hy⟩
theorem Zj8 {prog:Program}{w:World}{env:Env}{e:Expr}{f:Str}{pos:Pos}{s:Shared}{Q:Value->Shared->Prop} (hb:attributeBase e f env (eval e env)=eval e env)
  (h:wpAny (model prog w) A (eval e env) (fun o s₁=>wpAny (model prog w) A (getAttr o f true) Q E s₁) E s):wpAny (model prog w) A (eval (.Attribute e f pos) env) Q E s:=
 Attribute_any_ h (by rw[arm_eval_Attribute,hb])
end
noncomputable def ZlK (K:W.Frag) (ta tv:TE) (f:Str):TS:=fun D σ H=>tv σ H fun y H1=>ta σ H1 fun x H2=>∃a C dx fs,x=.ref a/\H2 a=some (.ins C dx fs)/\Cls K C/\QB K C f/\fs.length<1000 /\
 D.nx σ (upd H2 a (.ins C dx (QN f y fs)))
section
variable {X:Cx}{o value:Expr}{f:Str}{pos pos':Pos}{ta tv:TE}
theorem Zku (ha:PE X o ta) (hv:PE X value tv) (hs:swapsWith value (some (.Attribute o f pos')) pos.line X.env=pure false):PS X (.Assign [.Attribute o f pos'] value pos) (ZlK X.K ta tv f):=by
 intro pins s σ H D I h
 refine plainObj_wpAny_Assign_Attribute (thn (hv pins s σ H _ I h) fun u s1 ⟨y,H1,I1,ry,q⟩=>thn (ha pins s1 σ H1 _ I1 q) fun ov s2 ⟨x,H2,I2,rx,a,C,dx,fs,ex,ea,c,n,l,q2⟩=>?_) hs
 subst ex
 obtain rfl:ov=Value.ref a:=rx
 exact ZdH I2 ea c n l ry fun s3 I3=>⟨σ,_,I3,q2⟩
end
structure V2 (k:Nat) (A:Around):Prop where
 hd:A.handled=none
 dp:A.depth+3*k+5<recursionLimit
 un:A.units+16*k+200<cLine
theorem V2.mono {j k:Nat}{A:Around} (r:V2 k A) (h:j<=k):V2 j A:=⟨r.hd,by have:=r.dp;omega,by have:=r.un;omega⟩
theorem V2.deeper {k:Nat}{A:Around} (r:V2 (k+1) A) (env:Env):V2 k (A.deeper env):=
 ⟨r.hd,by have:=r.dp;show A.depth+1+3*k+5<_;omega,by have:=r.un;show A.units+3+16*k+200<_;omega⟩
theorem ZdU {A:Around}{C:Addr}{us:List Value}{kw:List (Str×Value)}:(A.under (.builtin "type.__call__" ⟨.ref C::us,kw⟩)).depth=A.depth+1:=by
 first|rfl|simp[Around.under,Code.weight,Code.isCreation,Code.isGuard,Code.isCaller,Code.frames,Code.isFrame,guardIds]
theorem ZdT {A:Around}{C:Addr}{us:List Value}{kw:List (Str×Value)}:(A.under (.builtin "type.__call__" ⟨.ref C::us,kw⟩)).units=A.units+1:=by
 first|rfl|simp[Around.under,Code.cUnits,Code.frames,Code.isFrame]
theorem V2.make {k:Nat}{A:Around} (r:V2 (k+1) A) (C:Addr) (us:List Value) (kw:List (Str×Value)):V2 k (A.under (.builtin "type.__call__" ⟨.ref C::us,kw⟩)):=
 ⟨r.hd,by have:=r.dp;rw[ZdU];omega,by have:=r.un;rw[ZdT];omega⟩
theorem V2.depth {k:Nat}{A:Around} (r:V2 k A):A.depth<recursionLimit:=by have:=r.dp;omega
theorem V2.units {k:Nat}{A:Around} (r:V2 k A):A.units+64<cLine:=by have:=r.un;omega
noncomputable def ZdC:TA:=fun _ H Q=>Q [] H
noncomputable def Vk (ta:TE) (tr:TA):TA:=fun σ H Q=>ta σ H fun x H1=>tr σ H1 fun xs H2=>Q (x::xs) H2
section
variable {X:Cx}{e:Expr}{es:List Expr}{te:TE}{t:TA}{pos:Pos}
theorem Zh:PA X [] ZdC:=fun _ _ _ _ H Q I h=>Calls.spliced_nil ⟨[],H,I,.nil,h⟩
theorem Zb (ha:PE X e te) (hr:PA X es t) (hs:starEach (e::es) X.env=(false,eval e X.env)::starEach es X.env:=by rfl):PA X (e::es) (Vk te t):=by
 intro pos pins s σ H Q I h
 rw[hs]
 show wpAny _ _ (spliced ((false,eval e X.env)::backTo pos (starEach es X.env))) _ _ s
 refine Calls.spliced_cons (thn (ha pins s σ H _ I h) fun u s1 ⟨x,H1,I1,r1,q1⟩=>?_)
 exact thn (hr pos pins s1 σ H1 _ I1 q1) fun us s2 ⟨xs,H2,I2,r2,q2⟩=>⟨x::xs,H2,I2,.cons r1 r2,q2⟩
noncomputable def Zl5 (t:TA):TE:=fun σ H Q=>t σ H fun xs H1=>xs.length<=sizeLine/\∀p,H1 p=none->Q (.ref p) (upd H1 p (.tup xs))
noncomputable def ZlJ (t:TA):TE:=fun σ H Q=>t σ H fun xs H1=>xs.length<=sizeLine/\∀p,H1 p=none->Q (.ref p) (upd H1 p (.lst xs))
theorem Uu {x1} (h:PA X es t):PE X (.Tuple es x1 pos) (Zl5 t):=by
 intro pins s σ H Q I hq
 refine wpAny_Tuple_spliced (thn (h pos pins s σ H _ I hq) fun us s1 ⟨xs,H1,I1,r,z,q⟩=>⟨by rw[<- r.length];exact z, ?_⟩)
 have hf:H1 s1.heap.objs.size=none:=I1.hok.fresh (ZsV _)
 refine⟨.ref s1.heap.objs.size,upd H1 s1.heap.objs.size (.tup xs),I1.laid (t':=s1.toks) (fun b u e=>Heap.get?_push_of_some _ e) (ZsV _) ?_,rfl,q _ hf⟩
 exact⟨z,us,r,⟨_,Heap.get?_push_size _ rfl,rfl,_,rfl⟩⟩
theorem VS (h:PA X es t):PE X (.List es pos) (ZlJ t):=by
 intro pins s σ H Q I hq
 refine wpAny_List_spliced (thn (h pos pins s σ H _ I hq) fun us s1 ⟨xs,H1,I1,r,z,q⟩=>⟨by rw[<- r.length];exact z, ?_⟩)
 have hf:H1 s1.heap.objs.size=none:=I1.hok.fresh (ZsV _)
 refine⟨.ref s1.heap.objs.size,upd H1 s1.heap.objs.size (.lst xs),I1.laid (t':=s1.toks) (fun b u e=>Heap.get?_push_of_some _ e) (ZsV _) ?_,rfl,q _ hf⟩
 exact⟨z,us,0,r,Heap.get?_push_size _ rfl⟩
end
noncomputable abbrev Sp:=List V->Hp->VK->XK->Prop
noncomputable abbrev CXT:=List Env->Hp->Shared->XK->Value->Shared->Prop
structure ZjG (P:Program) (w:World) (K:PySem.W.Frag) (mg:Str->Option Value) (base:Heap) (A:Around) (outer:List Env) (s:Shared) (H:Hp):Prop where
 frames:A.frames=some outer
 mod:Mod K mg base
 bs:∀b o,base.get? b=some o->s.heap.get? b=some o/\H b=none
 bsz:base.objs.size<=s.heap.objs.size
 funs:s.heap.FunFrames base outer
 frf:∀b∈frs outer,H b=none
 hok:HOk P w H s.heap
 bare:AllBare s.gens
def CE (outer:List Env) (P:Program) (w:World) (H:Hp) (s:Shared) (Q:VK) (u:Value) (s':Shared):Prop:=
 ∃v H',s'.os=s.os/\AllBare s'.gens/\Un (frs outer) [] H H' s.heap s'.heap/\HOk P w H' s'.heap/\Ja v u/\Q v H'
def CR (CX:CXT) (outer:List Env) (P:Program) (w:World) (H:Hp) (s:Shared) (Q:VK) (E:XK) (r:Result) (s':Shared):Prop:=
 match r with
 |.ok (.ret u)=>CE outer P w H s Q u s'
 |.ok _=>False
 |.error e=>CX outer H s E e s'
structure Jk (P:Program) (w:World) (K:PySem.W.Frag) (mg:Str->Option Value) (base:Heap) (CX:CXT) (k:Nat) (f:Addr) (fd:FuncData) (ps:List Str) (sp:Sp):Prop where
 len:∀vs H Q E,sp vs H Q E->vs.length=ps.length
 run:∀(A:Around) (outer:List Env) (s:Shared) (H:Hp) (args:Args) (us:List Value) (vs:List V) (Q:VK) (E:XK),V2 k A->ZjG P w K mg base A outer s H->BindsTo s fd args (ps.zip us)->ZQ vs us->sp vs H Q E ->
  codeAny (model P w) A (.call (.ref f) args) (CR CX outer P w H s Q E) s
theorem ZjG.make {P:Program}{w:World}{K:W.Frag}{mg:Str->Option Value}{base:Heap}{A:Around}{outer:List Env}{s:Shared}{H:Hp} (e:ZjG P w K mg base A outer s H) (C:Addr) (us:List Value) (kw:List (Str×Value)) :
  ZjG P w K mg base (A.under (.builtin "type.__call__" ⟨.ref C::us,kw⟩)) outer s H:=⟨by first|exact e.frames|(simpa[Around.under,Code.envs,Code.isFrame,pushEnvs] using e.frames),e.mod,e.bs,e.bsz,e.funs,e.frf,e.hok,e.bare⟩
section
variable {X:Cx}{pins:List (Addr×Obj)}{σ:St}{H:Hp}{s s':Shared}
theorem Inv.env0 (I:Inv X pins σ H s):ZjG X.prog X.w X.K X.mg X.base X.A X.stack s H:=
 ⟨I.ok.frames,I.ok.mod,I.bs,Ztr I.ok.bsz I.sz,I.stack,I.stkFree,I.hok,I.bare⟩
theorem Inv.after {Q:VK}{u:Value} (I:Inv X pins σ H s) (h:CE X.stack X.prog X.w H s Q u s'):EP X pins σ Q u s':=by
 obtain⟨v,H',os,bare,un,hok,r,q⟩:=h
 obtain⟨hh,g,d,t,os'⟩:=s'
 obtain rfl:os'=s.os:=os
 exact⟨v,H',I.call (h':=hh) (g':=g) (d':=d) (t':=t) (ch:=[]) un hok bare (fun b z=>absurd z (by simp)),r,q⟩
end
noncomputable def Zkg (sp:Sp) (dvs:List V) (E:XK) (t:TA):TE:=fun σ H Q=>t σ H fun vs H1=>sp (vs++dvs) H1 Q E
def Us (K:W.Frag) (fd:FuncData) (ps:List Str) (ds:List Value):Prop:=
 ∀(s:Shared) (us:List Value),K.In s.heap->(us++ds).length=ps.length->BindsTo s fd ⟨us,[]⟩ (ps.zip (us++ds))
theorem Us.all {K:W.Frag}{fd:FuncData}{ps:List Str} (h:∀us:List Value,us.length=ps.length->bindArgs fd ⟨us,[]⟩=pure (ps.zip us)):Us K fd ps []:=fun s us _ hl=>by
 rw[Zt1] at hl ⊢
 exact .of_eq (h us hl)
def Zby (CX:CXT) (X:Cx) (E:XK):Prop:=∀(pins:List (Addr×Obj)) (σ:St) (H:Hp) (s:Shared) (e:Value) (s':Shared),Inv X pins σ H s->CX X.stack H s E e s'->X.xe e s'
section
variable {X:Cx}{CX:CXT}{k:Nat}{f C:Addr}{fd:FuncData}{ps:List Str}{sp:Sp}{dvs:List V}{ds:List Value}{E:XK}{x:Str}{p pos:Pos}{e:Expr}{es:List Expr}{t:TA}
theorem Zc8 {pins:List (Addr×Obj)}{σ:St}{H:Hp}{s:Shared}{Q:VK}{us:List Value}{vs:List V} (F:Jk X.prog X.w X.K X.mg X.base CX k f fd ps sp) (hr:V2 k X.A) (hb:Us X.K fd ps ds) (hd:ZQ dvs ds) (hx:Zby CX X E)
  (I:Inv X pins σ H s) (r:ZQ vs us) (h:sp (vs++dvs) H Q E):wpAny (model X.prog X.w) X.A (call (.ref f) us) (EP X pins σ Q) X.xe s:=by
 have r2:ZQ (vs++dvs) (us++ds):=r.append hd
 have hl:(us++ds).length=ps.length:=by rw[<- r2.length];exact F.len _ _ _ _ h
 refine wpAny_call (codeAny_mono (F.run X.A X.stack s H ⟨us,[]⟩ (us++ds) (vs++dvs) Q E hr I.env0 (hb s us I.kIn hl) r2 h) fun r s' hq=>?_)
 cases r with
 |error e=>exact hx pins σ H s e s' I hq
 |ok fl =>
  cases fl with
  |ret u=>exact I.after hq
  |next=>exact False.elim hq
  |brk=>exact False.elim hq
  |cont=>exact False.elim hq
theorem ZiS (F:Jk X.prog X.w X.K X.mg X.base CX k f fd ps sp) (hr:V2 k X.A) (hg:Gl X x) (hm:X.mg x=some (.ref f)) (hk:PySem.W.keepIn X.K (.ref f)=true) (hb:Us X.K fd ps ds) (hd:ZQ dvs ds) (hx:Zby CX X E)
  (ha:PA X (e::es) t) (hdb:(x==("__debug__":Str))=false:=by decide) (he:starEach (e::es) X.env=(false,eval e X.env)::starEach es X.env:=by rfl) (hpl:(backTo pos (starEach es X.env)).any (·.1)=false:=by rfl) :
  PE X (.Call (.Name x p) (e::es) [] pos) (Zkg sp dvs E t):=by
 intro pins s σ H Q I h
 refine wpAny_Call_Name_kw (Vp I hg hm ?_ hdb)
 refine PySem.W.callWith_K (h₀:=X.base) I.ok.mod.kin hk (thn (ha pos pins s σ H _ I h) fun us s1 ⟨vs,H1,I1,r,q⟩=>⟨I1.kIn, ?_⟩) he hpl
 exact Zc8 F hr hb hd hx I1 r q
theorem ZgN (F:Jk X.prog X.w X.K X.mg X.base CX k f fd ps sp) (hr:V2 k X.A) (hg:Gl X x) (hm:X.mg x=some (.ref f)) (hk:PySem.W.keepIn X.K (.ref f)=true) (hb:Us X.K fd ps ds) (hd:ZQ dvs ds) (hx:Zby CX X E)
  (hdb:(x==("__debug__":Str))=false:=by decide):PE X (.Call (.Name x p) [] [] pos) (Zkg sp dvs E ZdC):=by
 intro pins s σ H Q I h
 refine wpAny_Call_Name_kw (Vp I hg hm ?_ hdb)
 exact PySem.W.callWith_K0 I.kIn hk (Zc8 (us:=[]) F hr hb hd hx I .nil h)
structure Mk (K:PySem.W.Frag) (C f:Addr):Prop where
 makes:PySem.W.makesIn K C=true
 init:PySem.W.findIn K (.ref C) "__init__"=some (some (.ref f))
 fn:PySem.W.isFn K (.ref f)=true
 kp:PySem.W.keepIn K (.ref C)=true
theorem ZgD {pins:List (Addr×Obj)}{σ:St}{H:Hp}{s:Shared}{Q:VK}{us:List Value}{vs:List V} (M:Mk X.K C f) (F:Jk X.prog X.w X.K X.mg X.base CX k f fd ps sp) (hr:V2 (k+1) X.A) (hb:Us X.K fd ps ds) (hd:ZQ dvs ds)
  (hx:Zby CX X E) (I:Inv X pins σ H s) (r:ZQ vs us)
  (h:∀x dx,H x=none->H dx=none->dx≠x->sp (.ref x::(vs++dvs)) (upd (upd H dx (.own x)) x (.ins C dx [])) (fun v H2=>v=.non/\Q (.ref x) H2) E) :
  wpAny (model X.prog X.w) X.A (call (.ref C) us) (EP X pins σ Q) X.xe s:=by
 have hq:=h (s.heap.objs.size+1) s.heap.objs.size (I.hok.fresh (Zue _)) (I.hok.fresh (ZsV _)) (Zti (ZtB _))
 have I2:=Inv.made (C:=C) I
 have r2:ZQ (V.ref (s.heap.objs.size+1)::(vs++dvs)) (Value.ref (s.heap.objs.size+1)::(us++ds)):=.cons rfl (r.append hd)
 have hl:(Value.ref (s.heap.objs.size+1)::us++ds).length=ps.length:=by
  have e:=r2.length
  rw[F.len _ _ _ _ hq] at e
  exact e.symm
 refine wpAny_call (Zhe (f:=f) I.kIn M.makes M.init (beq_iff_eq.mp M.fn) (codeAny_mono (F.run _ X.stack _ _ ⟨Value.ref (s.heap.objs.size+1)::us,[]⟩ (Value.ref (s.heap.objs.size+1)::(us++ds)) _ _ E (hr.make C us [])
  (I2.env0.make C us []) (hb _ (Value.ref (s.heap.objs.size+1)::us) I2.kIn hl) r2 hq) fun r s' hq'=>?_))
 cases r with
 |error e=>exact hx pins σ _ _ e s' I2 hq'
 |ok fl =>
  cases fl with
  |ret u =>
   obtain⟨v,H',I3,rv,ev,q3⟩:=I2.after hq'
   subst ev
   exact⟨rv,⟨V.ref (s.heap.objs.size+1),H',I3,rfl,q3⟩⟩
  |next=>exact False.elim hq'
  |brk=>exact False.elim hq'
  |cont=>exact False.elim hq'
end
structure Zu (N P:List Str) (sc:Scope):Prop where
 kind:sc.kind=.function
 co:sc.isCoroutine=false
 gen:sc.isGenerator=false
 nd:N.Nodup
 pre:N.take P.length=P
 par:∀x∈P,sc.names.lookup x=some .local\/sc.names.lookup x=some .cell
 nofree:∀y∈sc.names,y.2≠.free
theorem Zbu {kindOf:Str->Option NameKind}{x:Str}:∀{binds:List (Str×Value)}{m:Str->Option Value},(∀v,(x,v) ∉ binds)->bindL kindOf binds m x=m x
 |[],_,_=>rfl
 |(n,v)::r,m,h=>by
  unfold bindL
  rw[Zbu fun w hw=>h w (Zth _ hw)]
  split
  ·have:x≠n:=by rintro rfl;exact h v Ztw
   simp[this]
  ·rfl
theorem Zbw {kindOf:Str->Option NameKind}{x:Str}:∀{binds:List (Str×Value)}{m:Str->Option Value},(∀v,(x,v) ∉ binds)->bindC kindOf binds m x=m x
 |[],_,_=>rfl
 |(n,v)::r,m,h=>by
  unfold bindC
  rw[Zbw fun w hw=>h w (Zth _ hw)]
  split
  ·rfl
  ·have:x≠n:=by rintro rfl;exact h v Ztw
   simp[this]
theorem Zbv {kindOf:Str->Option NameKind}{x:Str}{v:Value}:∀{P:List Str}{vs:List Value}{i:Nat}{m:Str->Option Value},P.Nodup->P[i]?=some x->vs[i]?=some v->kindOf x=some .local ->
  bindL kindOf (P.zip vs) m x=some v
 |[],_,_,_,_,h,_,_=>by simp at h
 |_::_,[],_,_,_,_,h,_=>by simp at h
 |p::P,w::vs,0,m,nd,h1,h2,hk=>by
  simp at h1 h2;subst h1;subst h2
  show bindL kindOf ((p,w)::P.zip vs) m p=_
  unfold bindL
  rw[Zbu fun v hv=>(Zua.mp nd).1 (Zuj hv).1,if_pos hk]
  simp
 |p::P,w::vs,i+1,m,nd,h1,h2,hk=>by
  show bindL kindOf ((p,w)::P.zip vs) m x=_
  unfold bindL
  exact Zbv (i:=i) (Zua.mp nd).2 (by simpa using h1) (by simpa using h2) hk
theorem Zbx {kindOf:Str->Option NameKind}{x:Str}{v:Value}:∀{P:List Str}{vs:List Value}{i:Nat}{m:Str->Option Value},P.Nodup->P[i]?=some x->vs[i]?=some v->kindOf x≠some .local ->
  bindC kindOf (P.zip vs) m x=some v
 |[],_,_,_,_,h,_,_=>by simp at h
 |_::_,[],_,_,_,_,h,_=>by simp at h
 |p::P,w::vs,0,m,nd,h1,h2,hk=>by
  simp at h1 h2;subst h1;subst h2
  show bindC kindOf ((p,w)::P.zip vs) m p=_
  unfold bindC
  rw[Zbw fun v hv=>(Zua.mp nd).1 (Zuj hv).1,if_neg hk]
  simp
 |p::P,w::vs,i+1,m,nd,h1,h2,hk=>by
  show bindC kindOf ((p,w)::P.zip vs) m x=_
  unfold bindC
  exact Zbx (i:=i) (Zua.mp nd).2 (by simpa using h1) (by simpa using h2) hk
noncomputable def VN (N:List Str) (vs:List V):St:=vs.map some++List.replicate (N.length-vs.length) none
noncomputable def U0 (CX:CXT) (P:Program) (w:World) (K:W.Frag) (mg:Str->Option Value) (base:Heap) (N:List Str) (qual:Str) (scope:Scope) (f:Addr) (cd:Value) (A:Around) (outer:List Env) (s:Shared) (H:Hp) (E:XK):Cx where
 prog:=P
 w:=w
 K:=K
 mg:=mg
 base:=base
 A:=A.deeper (envOfC qual scope s.heap.objs.size f cd)
 N:=N
 s₀:=s
 H₀:=H
 env:=envOfC qual scope s.heap.objs.size f cd
 outer:=outer
 stack:=envOfC qual scope s.heap.objs.size f cd::outer
 ex:=[]
 calm:=true
 fn:=fun _=>true
 pn:=[]
 xe:=fun e s'=>wpAny (model P w) (A.deeper (envOfC qual scope s.heap.objs.size f cd)) (leaving (envOfC qual scope s.heap.objs.size f cd) e) (fun _ s''=>CX outer H s E e s'') (fun e' s''=>CX outer H s E e' s'') s'
theorem Zd6 {sc:Scope}{n:Nat}{x:Str} (h:sc.names.lookup x=some .cell):∃c,(cellsFrom n sc.names []).lookup x=some c:=by
 have q:=PySem.W.cellsFrom_some sc.names n [] (.inl h)
 exact Option.isSome_iff_exists.mp q
theorem Zf7 {CX:CXT}{P:Program}{w:World}{K:W.Frag}{mg:Str->Option Value}{base:Heap}{N ps:List Str}{qual:Str}{scope:Scope}{f:Addr}{cd:Value}{A:Around}{outer:List Env}{s s1:Shared}{H:Hp}{E:XK}{us:List Value}{vs:List V}
  (S:Zu N ps scope) (hd:A.handled=none) (e0:ZjG P w K mg base A outer s H) (hl:vs.length=ps.length) (r:ZQ vs us)
  (x:InCallC s s.heap.objs.size (bindL (envOfC qual scope s.heap.objs.size f cd).kindOf (ps.zip us) fun _=>none) (cellsFrom (s.heap.objs.size+1) scope.names []) (bindC (envOfC qual scope s.heap.objs.size f cd).kindOf (ps.zip us) fun _=>none) s1) :
  Inv (U0 CX P w K mg base N qual scope f cd A outer s H E) [] (VN N vs) H s1:=by
 have hpl:ps.length<=N.length:=by have:=congrArg List.length S.pre;rw[Ztf] at this;omega
 obtain⟨h1,tk,rfl,hk⟩:=x.done
 have noA:∀b:Addr,b ∉ (U0 CX P w K mg base N qual scope f cd A outer s H E).ex:=fun b z=>absurd (show b∈([]:List Addr) from z) (by simp)
 refine⟨⟨e0.mod,S.kind,rfl,rfl,ZsV _,fun y z c h1 h2=>?_,fun y hy=>?_,fun y c _ h=>?_,fun _=>hd,Around.frames_deeper e0.frames,.inr ⟨rfl,rfl⟩,fun b z=>absurd z (noA b),e0.bs,e0.bsz,fun b _ _=>noA b,fun b z=>absurd z (noA b),e0.funs,e0.frf⟩,
  rfl,e0.bare,Un.kept hk,⟨_,x.toInCall.ns,fun i y v h1 h2 h3=>?_⟩,fun y c h=>⟨_,x.cell y c h⟩,e0.hok.fresh (ZsV _),fun y c h=>?_,fun p hp=>absurd (show p∈([]:List (Addr×Obj)) from hp) (by simp),e0.hok.kept hk, ?_⟩
 ·exact name_of_addr x.apart (PySem.mem_of_lookup h1) (PySem.mem_of_lookup h2)
 ·have hy:scope.names.lookup y=some .cell\/scope.names.lookup y=some .free:=hy
  rcases hy with hy|hy
  ·exact Zd6 hy
  ·exact absurd rfl (S.nofree _ (PySem.mem_of_lookup hy))
 ·exact Nat.le_of_lt (x.above y c (PySem.mem_of_lookup h))
 ·have hi:i<vs.length:=by
   unfold VN at h2
   by_cases hi:i<vs.length
   ·exact hi
   ·rw[Zto (by simpa using hi)] at h2
    rw[ZtR] at h2
    split at h2<;>cases h2
  have ha:vs[i]?=some v:=by
   unfold VN at h2
   rw[Zte (by simpa using hi),Ztb] at h2
   cases e:vs[i]? with
   |none=>rw[e] at h2;cases h2
   |some a=>rw[e] at h2;cases h2;rfl
  obtain⟨u,hu,rv⟩:=r.get ha
  have hp:ps[i]?=some y:=by
   rw[<- S.pre,List.getElem?_take_of_lt (by omega)];exact h1
  have ndP:ps.Nodup:=by rw[<- S.pre];exact S.nd.sublist (List.take_sublist _ _)
  refine⟨u,rv, ?_⟩
  rcases S.par y (Ztx hp) with k|k
  ·exact .inl ⟨k,Zbv ndP hp hu k⟩
  ·obtain⟨c,e⟩:=Zd6 (n:=s.heap.objs.size+1) k
   refine .inr ⟨.inl k,c,e, ?_⟩
   have q:=x.cell y c e
   rw[Zbx ndP hp hu (by show scope.names.lookup y≠_;rw[k];decide)] at q
   exact q
 ·exact e0.hok.fresh (Nat.le_of_lt (x.above y c (PySem.mem_of_lookup h)))
 ·unfold VN
  show _=N.length
  rw[Ztl,ZsS,List.length_replicate]
  omega
theorem ZkZ {CX:CXT}{P:Program}{w:World}{K:W.Frag}{mg:Str->Option Value}{base:Heap}{k:Nat}{f:Addr}{name qual:Str}{params:Arguments}{body:List Stmt}{scope:Scope}{dV kV doc pm cdv ct oc:Value}{an od:Option Addr}
  {osl:Array (Option Value)}{N ps:List Str}{sp:Sp} (lk:K.lookup f=some ⟨oc,od,.func (PySem.W.fnOf name qual params body scope dV kV doc pm an cdv ct),osl⟩) (hcd:PySem.W.codeIn K cdv qual=true) (S:Zu N ps scope)
  (len:∀vs H Q E,sp vs H Q E->vs.length=ps.length)
  (hbody:∀(A:Around) (outer:List Env) (s:Shared) (H:Hp) (vs:List V) (Q:VK) (E:XK),V2 k (A.deeper (envOfC qual scope s.heap.objs.size f cdv))->sp vs H Q E ->
   ∃t,PSs (U0 CX P w K mg base N qual scope f cdv A outer s H E) body t/\t { nx:=fun _ H'=>Q .non H',rt:=Q } (VN N vs) H) :
  Jk P w K mg base CX (k+1) f (PySem.W.fnOf name qual params body scope dV kV doc pm an cdv ct) ps sp:=by
 refine⟨len,fun A outer s H args us vs Q E hr e0 hb r hsp=>?_⟩
 have hl:=len _ _ _ _ hsp
 have KX:K.In s.heap:=e0.mod.kin.keeps fun b o e=>(e0.bs b o e).1
 have lim:s.heap.NoLimit:=e0.mod.nolimit.keeps fun b o e=>(e0.bs b o e).1
 have hkind:∀y∈ps.zip us,scope.names.lookup y.1=some .local\/(scope.names.lookup y.1=some .cell/\((cellsFrom (s.heap.objs.size+1) scope.names []).lookup y.1).isSome=true):=fun⟨n,v⟩ hy=>by
  rcases S.par n (Zuj hy).1 with q|q
  ·exact .inl q
  ·exact .inr ⟨q,PySem.W.cellsFrom_some _ _ _ (.inl q)⟩
 refine codeAny_call_function hr.depth (KX _ _ lk) rfl S.co S.gen rfl (PySem.W.codeRec_of KX hcd) (hb _ _ _ _ ?_)
 refine wpAny_newFunctionEnv_cells S.kind hkind fun env he s1 x=>?_
 subst he
 refine⟨lim.keeps x.toInCall.keep,codeAny_func ?_⟩
 obtain⟨t,ht,hq⟩:=hbody A outer s H vs Q E (hr.deeper _) hsp
 have I:Inv (U0 CX P w K mg base N qual scope f cdv A outer s H E) [] (VN N vs) H s1:=Zf7 S hr.hd e0 hl r x
 refine wpAny_mono (ht [] s1 (VN N vs) H _ I hq) (fun fl s' hs=>?_) fun e s' hs=>hs
 have fin:∀{σ':St}{H':Hp}{v:V}{u:Value},Inv (U0 CX P w K mg base N qual scope f cdv A outer s H E) [] σ' H' s'->Ja v u->Q v H'->CE outer P w H s Q u s':=
  fun {σ' H' v u} J rv q=>⟨v,H',J.os,J.bare,J.base,J.hok,rv,q⟩
 cases fl with
 |ret u =>
  obtain⟨v,σ',H',J,rv,q⟩:=hs
  exact fin J rv q
 |next =>
  obtain⟨σ',H',J,q⟩:=hs
  exact fin (v:=V.non) (u:=Value.none) J rfl q
 |brk =>
  obtain⟨_,_,_,q⟩:=hs
  exact False.elim q
 |cont =>
  obtain⟨_,_,_,q⟩:=hs
  exact False.elim q
section
variable {X:Cx}{x:Str}{p pos:Pos}{e:Expr}{es:List Expr}{t:TA}{id T:String}{r:List V->Hp->VK->Prop}
noncomputable def tCB (r:List V->Hp->VK->Prop) (t:TA):TE:=fun σ H Q=>t σ H fun vs H1=>r vs H1 Q
theorem Z1 (hc:Vb X (.builtin id) r) (hg:Gl X x) (hm:X.mg x=none) (hv:bootBuiltins x=some (.builtin id)) (ha:PA X (e::es) t) (hn:x ≠ "__name__":=by decide) (hdb:(x==("__debug__":Str))=false:=by decide)
  (he:starEach (e::es) X.env=(false,eval e X.env)::starEach es X.env:=by rfl) (hpl:(backTo pos (starEach es X.env)).any (·.1)=false:=by rfl):PE X (.Call (.Name x p) (e::es) [] pos) (tCB r t):=by
 intro pins s σ H Q I h
 refine wpAny_Call_Name_kw (Qm I hg hm hv ?_ hn hdb)
 exact PyProof.Rows.callWith_builtin1 (thn (ha pos pins s σ H _ I h) fun us s1 ⟨vs,H1,I1,r1,q1⟩=>hc pins s1 σ H1 vs us Q I1 r1 q1) he hpl
theorem ZX (hc:Vb X (.type T) r) (hg:Gl X x) (hm:X.mg x=none) (hv:bootBuiltins x=some (.type T)) (ha:PA X (e::es) t) (hn:x ≠ "__name__":=by decide) (hdb:(x==("__debug__":Str))=false:=by decide)
  (he:starEach (e::es) X.env=(false,eval e X.env)::starEach es X.env:=by rfl) (hpl:(backTo pos (starEach es X.env)).any (·.1)=false:=by rfl):PE X (.Call (.Name x p) (e::es) [] pos) (tCB r t):=by
 intro pins s σ H Q I h
 refine wpAny_Call_Name_kw (Qm I hg hm hv ?_ hn hdb)
 exact PyProof.Rows.callWith_type1 (thn (ha pos pins s σ H _ I h) fun us s1 ⟨vs,H1,I1,r1,q1⟩=>hc pins s1 σ H1 vs us Q I1 r1 q1) he hpl
end
end L2
namespace HT
open PySem PyProof.Rows
noncomputable def ZaR:List Int->List Int->Bool
 |[],[]=>false
 |[],_::_=>true
 |_::_,[]=>false
 |x::xs,y::ys=>if x=y then ZaR xs ys else decide (x<y)
theorem ZdV (x y:Int) (xs ys:List Int):ZaR (x::xs) (y::ys)=if x=y then ZaR xs ys else decide (x<y):=rfl
section
open PySem.SeqAt
open PySem.AutoSeq1 (wpAny_loadPart')
open PySem.MeetsSeq PySem.MeetsSeq2 PySem.MeetsSeq3
end
section
noncomputable def sIx (n d:Nat):Option Int->Nat
 |none=>d
 |some v=>if v<0 then (v+(n:Int)).toNat else min v.toNat n
end
end HT
namespace L2
open PySem PySem.Spec PyProof.Rows
noncomputable abbrev TO:=St->Hp->(Option Int->Hp->Prop)->Prop
def PO (X:Cx) (e:Option Expr) (t:TO):Prop:=
 ∀(pins:List (Addr×Obj)) (s:Shared) (σ:St) (H:Hp) (Q:Option Int->Hp->Prop),Inv X pins σ H s->t σ H Q ->
  wpAny (model X.prog X.w) X.A (evalPart e X.env) (fun u s'=>∃o H',Inv X pins σ H' s'/\IsPart u o/\Q o H') X.xe s
noncomputable def Zez:TO:=fun _ H Q=>Q none H
noncomputable def Zka (t:TE):TO:=fun σ H Q=>t σ H fun x H1=>∃i,x=.int i/\Q (some i) H1
theorem QR {ns:List Int}:∀{us:List Value},ZQ (ns.map V.int) us->IntsAre us ns:=by
 induction ns with
 |nil=>intro us r;rw[Zt7] at r;cases r;exact .nil
 |cons n ns ih =>
  intro us r
  rw[Ztc] at r
  cases r with
  |cons r1 r2 =>
   obtain⟨t,e⟩:=r1
   subst e
   exact .cons n t (ih r2)
section
variable {X:Cx}{e:Expr}{te:TE}{lo hi:Option Expr}{tl th:TO}{pos p2:Pos}
theorem UZ:PO X none Zez:=by
 intro pins s σ H Q I h
 rw[evalPart_none]
 exact wpAny_pure ⟨none,H,I,.none,h⟩
theorem UY (h:PE X e te):PO X (some e) (Zka te):=by
 intro pins s σ H Q I hw
 rw[evalPart_some]
 refine thn (h pins s σ H _ I hw) fun u s1 ⟨x,H1,I1,r1,q1⟩=>?_
 obtain⟨i,rfl,q⟩:=q1
 obtain⟨t,rfl⟩:=r1
 exact⟨some i,H1,I1,.int i t,q⟩
def SlR (X:Cx) (r:V->Option Int->Option Int->Hp->VK->Prop):Prop:=
 ∀(pins:List (Addr×Obj)) (s:Shared) (σ:St) (H:Hp) (x:V) (v vl vu:Value) (lo hi:Option Int) (sl:Addr) (Q:VK),Inv X pins σ H s->Ja x v->s.heap.IsSliceOf sl vl vu .none->IsPart vl lo->IsPart vu hi->r x lo hi H Q ->
  ∃T id,typeLookup (.type T) "__getitem__"=pure (some (.builtin id))/\s.TypeIs v T/\wpAny (model X.prog X.w) X.A (getItem v (.ref sl)) (EP X pins σ Q) X.xe s
noncomputable def tSl (r:V->Option Int->Option Int->Hp->VK->Prop) (te:TE) (tl th:TO):TE:=fun σ H Q=>te σ H fun x H1=>tl σ H1 fun l H2=>th σ H2 fun u H3=>r x l u H3 Q
theorem VR {r:V->Option Int->Option Int->Hp->VK->Prop} (hr:SlR X r) (he:PE X e te) (hl:PO X lo tl) (hu:PO X hi th):PE X (.Subscript e (.Slice lo hi none p2) pos) (tSl r te tl th):=by
 intro pins s σ H Q I h
 refine Subscript_ (thn (he pins s σ H _ I h) fun v s1 ⟨x,H1,I1,r1,q1⟩=>?_)
 refine wpAny_Slice (thn (hl pins s1 σ H1 _ I1 q1) fun vl s2 ⟨l,H2,I2,pl,q2⟩=>thn (hu pins s2 σ H2 _ I2 q2) fun vu s3 ⟨u,H3,I3,pu,q3⟩=>?_)
 rw[evalPart_none]
 refine wpAny_pure ?_
 have I4:Inv X pins σ H3 { s3 with heap:=s3.heap.push { cls:=.type "slice",data:=.fields #[vl,vu,.none] } }:=I3.kept (t':=s3.toks) fun b ob q=>Heap.get?_push_of_some _ q
 obtain⟨T,id,hT,ht,hg⟩:=hr pins { s3 with heap:=s3.heap.push { cls:=.type "slice",data:=.fields #[vl,vu,.none] } } σ H3 x v vl vu l u s3.heap.objs.size Q I4 r1 (Heap.IsSliceOf.new ..) pl pu q3
 show wpAny (model X.prog X.w) X.A (subscriptTail e (.Slice lo hi none p2) v (.ref s3.heap.objs.size)) (EP X pins σ Q) X.xe { s3 with heap:=s3.heap.push { cls:=.type "slice",data:=.fields #[vl,vu,.none] } }
 exact tail_any (ops:=[.ref s3.heap.objs.size,v]) ht hT hg (by with_unfolding_all rfl)
noncomputable def ZjM (xs:List V) (lo hi:Option Int):List V:=(xs.drop (HT.sIx xs.length 0 lo)).take (HT.sIx xs.length xs.length hi-HT.sIx xs.length 0 lo)
theorem Zck (xs:List V) (lo hi:Option Int):(ZjM xs lo hi).length<=xs.length:=by
 unfold ZjM
 rw[Ztf,List.length_drop]
 omega
end
noncomputable def ixN (n:Nat) (i:Int):Option Nat:=if 0<=i then (if i<n then some i.toNat else none) else if -(n:Int)<=i then some (i+n).toNat else none
noncomputable def atI {α:Type} (xs:List α) (i:Int):Option α:=(ixN xs.length i).bind fun j=>xs[j]?
theorem Zf4 {n:Nat}{i:Int}{j:Nat} (h:ixN n i=some j):seqIndex? i n=some j/\j<n/\-(n:Int)<=i/\i<n:=by
 unfold ixN at h
 by_cases h0:0<=i
 ·rw[if_pos h0] at h
  by_cases h1:i<n
  ·rw[if_pos h1] at h
   have e:i.toNat=j:=Option.some.inj h
   exact⟨by rw[seqIndex_of h0 h1,e],by omega,by omega,h1⟩
  ·rw[if_neg h1] at h;cases h
 ·rw[if_neg h0] at h
  by_cases h1:-(n:Int)<=i
  ·rw[if_pos h1] at h
   have e:(i+n).toNat=j:=Option.some.inj h
   exact⟨by rw[seqIndex_neg (by omega) h1,e],by omega,h1,by omega⟩
  ·rw[if_neg h1] at h;cases h
theorem Za2 {α:Type}{xs:List α}{i:Int}{v:α} (h:atI xs i=some v):∃j,seqIndex? i xs.length=some j/\xs[j]?=some v/\j<xs.length/\-(xs.length:Int)<=i/\i<xs.length:=by
 unfold atI at h
 cases e:ixN xs.length i with
 |none=>rw[e] at h;cases h
 |some j =>
  rw[e] at h
  obtain⟨h1,h2,h3,h4⟩:=Zf4 e
  exact⟨j,h1,h,h2,h3,h4⟩
def ZjD (b:Expr):Prop:=∀o i,subscripted b false o i=operate [o,i] (getItem o i)
def IxR (X:Cx) (r:R2):Prop:=
 ∀(value slice:Expr) (pins:List (Addr×Obj)) (s:Shared) (σ:St) (H:Hp) (x y:V) (v u:Value) (Q:VK),Inv X pins σ H s->Ja x v->Ja y u->r x y H Q ->
  subscripted slice false v u=operate [v,u] (getItem v u)->wpAny (model X.prog X.w) X.A (subscriptTail value slice v u) (EP X pins σ Q) X.xe s
def MtR (X:Cx) (id:String) (r:V->List V->Hp->VK->Prop):Prop:=
 ∀(pins:List (Addr×Obj)) (s:Shared) (σ:St) (H:Hp) (x:V) (xs:List V) (v:Value) (us:List Value) (Q:VK),Inv X pins σ H s->Ja x v->ZQ xs us->r x xs H Q ->
  wpAny (model X.prog X.w) X.A (call (.builtin id) (v::us)) (EP X pins σ Q) X.xe s
section
variable {X:Cx}{a b:Expr}{ta tb:TE}{pos:Pos}
theorem IxR.or {r r':R2} (h:IxR X r) (h':IxR X r'):IxR X (fun x y H Q=>r x y H Q\/r' x y H Q):=by
 intro value slice pins s σ H x y v u Q I rx ry q hs
 rcases q with q|q
 ·exact h value slice pins s σ H x y v u Q I rx ry q hs
 ·exact h' value slice pins s σ H x y v u Q I rx ry q hs
theorem ZO {r:R2} (hr:IxR X r) (ha:PE X a ta) (hb:PE X b tb) (hs:ZjD b):PE X (.Subscript a b pos) (tOp r ta tb):=by
 intro pins s σ H Q I h
 exact Subscript_ (Zm2 ha hb I h fun v u s2 x y H2 I2 rx ry q=>hr a b pins s2 σ H2 x y v u Q I2 rx ry q (hs _ _))
noncomputable def Zkr (K:W.Frag):R2:=fun x y H Q=>∃p xs i v,x=.ref p/\y=.int i/\SqL K H p xs/\atI xs i=some v/\Q v H
noncomputable def ZmK (K:W.Frag):R2:=fun x y H Q=>∃p xs i v,x=.ref p/\y=.int i/\SqT K H p xs/\atI xs i=some v/\Q v H
noncomputable def ZmL:R2:=fun x y H Q=>∃z i c,x=.str z/\y=.int i/\z.length<=sizeLine/\atI z.cps.toList i=some c/\Q (.str ⟨#[c]⟩) H
theorem Zjf:IxR X (Zkr X.K):=by
 intro value slice pins s σ H x y v u Q I rx ry h hs
 obtain⟨p,xs,i,z,rfl,rfl,hq,he,q⟩:=h
 cases rx
 obtain⟨t,rfl⟩:=ry
 obtain⟨its,r,pl,hz⟩:=I.list hq
 obtain⟨j,h1,h2,h3,h4,h5⟩:=Za2 he
 obtain⟨w,ew,rw'⟩:=r.get h2
 have hl:=r.length
 have hn:=QQ
 have fin:EP X pins σ Q w s:=⟨z,H,I,rw',q⟩
 by_cases h0:0<=i
 ·have hj:i.toNat=j:=by
   rw[seqIndex_of h0 h5] at h1
   exact Option.some.inj h1
  exact item_listR pl.isList h0 (by omega) (by rw[hj];simpa using ew) fin hs
 ·have hj:(i+(its.toArray.size:Int)).toNat=j:=by
   rw[seqIndex_neg (by omega) h4] at h1
   rw[ZsX,<- hl]
   exact Option.some.inj h1
  exact subscriptTail_builtinR (x:=w) pl.isList.typeIs slot_list_getitem.lookup
   (wpAny_getItem_list_neg (Q:=fun r s'=>r=w/\EP X pins σ Q r s') pl.isList (by omega) (by rw[ZsX]<;>omega) (by omega) (by rw[hj];simpa using ew) ⟨rfl,fin⟩) hs
theorem ZkO:IxR X (ZmK X.K):=by
 intro value slice pins s σ H x y v u Q I rx ry h hs
 obtain⟨p,xs,i,z,rfl,rfl,hq,he,q⟩:=h
 cases rx
 obtain⟨t,rfl⟩:=ry
 obtain⟨its,r,pl,hz⟩:=I.tuple hq
 obtain⟨j,h1,h2,h3,h4,h5⟩:=Za2 he
 obtain⟨w,ew,rw'⟩:=r.get h2
 have hl:=r.length
 have hn:=QQ
 have fin:EP X pins σ Q w s:=⟨z,H,I,rw',q⟩
 exact subscriptTail_builtinR (x:=w) pl.typeIs slot_tuple_getitem.lookup
  (getItem_tuple (j:=j) (Q:=fun r s'=>r=w/\EP X pins σ Q r s') pl (by omega) (by omega) (by rw[ZsX,<- hl];exact h1) (by simpa using ew) ⟨rfl,fin⟩) hs
theorem ZkP:IxR X ZmL:=by
 intro value slice pins s σ H x y v u Q I rx ry h hs
 obtain⟨z,i,c,rfl,rfl,hz,he,q⟩:=h
 obtain⟨t,rfl⟩:=rx
 obtain⟨t',rfl⟩:=ry
 obtain⟨j,h1,h2,h3,h4,h5⟩:=Za2 he
 have hl:z.cps.toList.length=z.length:=by simp[Str.length]
 rw[hl] at h1 h4 h5
 have hn:=QQ
 exact tail_any (typeIs_str s z t) slot_str_getitem.lookup (getItem_str (c:=c) (by
  have e1:decide (i < -(2^63:Int))=false:=decide_eq_false (by omega)
  have e2:decide (i ≥ 2^63)=false:=decide_eq_false (by omega)
  rw[e1,e2,Bool.or_false]) (by rw[h1];simpa using h2) ⟨.str ⟨#[c]⟩,H,I.tok _,⟨_,rfl⟩,q⟩) hs
noncomputable def rIx (K:W.Frag):R2:=fun x y H Q=>Zkr K x y H Q\/ZmK K x y H Q\/ZmL x y H Q
theorem ZkQ:IxR X (rIx X.K):=Zjf.or (ZkO.or ZkP)
theorem ZdS (its:List Value) (n j:Nat) (u:Value):Obj.mapSeq (·.setIfInBounds j u) { cls:=.type "list",data:=.seq its.toArray n }={ cls:=.type "list",data:=.seq (its.set j u).toArray n }:=by
 simp[Obj.mapSeq]
theorem Inv.lst {pins:List (Addr×Obj)}{σ:St}{H:Hp}{s:Shared}{p:Addr}{xs:List V} (I:Inv X pins σ H s) (h:H p=some (.lst xs)) :
  ∃(its:List Value) (n:Nat),ZQ xs its/\s.heap.get? p=some { cls:=.type "list",data:=.seq its.toArray n }/\xs.length<=sizeLine:=by
 obtain⟨z,its,n,r,e⟩:=I.hok p _ h
 exact⟨its,n,r,e,z⟩
theorem Inv.lstUpd {pins:List (Addr×Obj)}{σ:St}{H:Hp}{s:Shared}{p:Addr}{xs ys:List V}{its its':List Value}{n n':Nat}{f:Obj->Obj} (I:Inv X pins σ H s) (h:H p=some (.lst xs))
  (ho:s.heap.get? p=some { cls:=.type "list",data:=.seq its.toArray n }) (hf:f { cls:=.type "list",data:=.seq its.toArray n }={ cls:=.type "list",data:=.seq its'.toArray n' }) (r:ZQ ys its') (hz:ys.length<=sizeLine) (t:Nat) :
  Inv X pins σ (upd H p (.lst ys)) { s with heap:=s.heap.update p f,toks:=t }:=by
 have e:(s.heap.update p f).get? p=some { cls:=.type "list",data:=.seq its'.toArray n' }:=by
  rw[Heap.get?_update_self f ho (by rw[hf]<;>rfl),hf]
 refine I.write (x:=p) (e:=p) (by rw[h];trivial) (.inl rfl) (fun b u hb q=>(Heap.get?_update_other _ _ (Ne.symm hb)).trans q) ⟨_,e⟩ ?_
 exact⟨hz,its',n',r,e⟩
def ZiI:V->V->V->Hp->(Hp->Prop)->Prop:=fun o i v H Q=>∃p xs k j,o=.ref p/\i=.int k/\H p=some (.lst xs)/\ixN xs.length k=some j/\Q (upd H p (.lst (xs.set j v)))
theorem Vv:Zm4 X ZiI:=by
 intro pins s σ H o i v ov iv u Q I ro ri rv h
 obtain⟨p,xs,k,j,rfl,rfl,hp,hj,q⟩:=h
 cases ro
 obtain⟨t,rfl⟩:=ri
 obtain⟨its,n,r,ho,hz⟩:=I.lst hp
 obtain⟨h1,h2,h3,h4⟩:=Zf4 hj
 have hl:=r.length
 have hn:=QQ
 have I':Inv X pins σ (upd H p (.lst (xs.set j v))) { s with heap:=s.heap.update p (Obj.mapSeq (·.setIfInBounds j u)) }:=
  I.lstUpd hp ho (ZdS its n j u) (r.set rv j) (by rw[Zt2];exact hz) s.toks
 by_cases h0:0<=k
 ·have hk:k.toNat=j:=by
   rw[seqIndex_of h0 h4] at h1
   exact Option.some.inj h1
  exact PySem.W.ki_setAt ho h0 (by omega) (by rw[ZsX,<- hl];exact h4) (by rw[hk];exact⟨_,I',q⟩)
 ·have hk:(k+(its.toArray.size:Int)).toNat=j:=by
   rw[seqIndex_neg (by omega) h3] at h1
   rw[ZsX,<- hl]
   exact Option.some.inj h1
  exact PySem.W.ki_setBack ho (by omega) (by rw[ZsX,<- hl];exact h3) (by omega) (by rw[hk];exact⟨_,I',q⟩)
theorem ZaG (lo hi:Option Int) (n:Nat):(sliceBounds lo hi none n).1=((HT.sIx n 0 lo:Nat):Int)/\(sliceBounds lo hi none n).2.1=((HT.sIx n n hi:Nat):Int)/\(sliceBounds lo hi none n).2.2=1:=by
 refine⟨?_, ?_,rfl⟩
 ·cases lo with
  |none=>simp[sliceBounds,HT.sIx]
  |some i =>
   simp only[sliceBounds,HT.sIx,Option.getD_none,show (1:Int)>0 by decide,if_true]
   by_cases h:i<0
   ·simp only[h,if_true]<;>omega
   ·simp only[h,if_false]<;>omega
 ·cases hi with
  |none=>simp[sliceBounds,HT.sIx]
  |some i =>
   simp only[sliceBounds,HT.sIx,Option.getD_none,show (1:Int)>0 by decide,if_true]
   by_cases h:i<0
   ·simp only[h,if_true]<;>omega
   ·simp only[h,if_false]<;>omega
theorem Zaf (its:List Value) (lo hi:Option Int):slicePick its.toArray lo hi none=((its.drop (HT.sIx its.length 0 lo)).take (HT.sIx its.length its.length hi-HT.sIx its.length 0 lo)).toArray:=by
 obtain⟨h1,h2,h3⟩:=ZaG lo hi its.toArray.size
 unfold slicePick
 rw[h1,h2,h3]
 simp only[sliceRange_one,pick_run,ZsX]<;>rfl
def ZlM (K:W.Frag):V->Option Int->Option Int->Hp->VK->Prop:=fun x lo hi H Q=>∃a xs,x=.ref a/\SqL K H a xs/\∀p,H p=none->Q (.ref p) (upd H p (.lst (ZjM xs lo hi)))
theorem ZiF:SlR X (ZlM X.K):=by
 intro pins s σ H x v vl vu lo hi sl Q I rx hs pl pu h
 obtain⟨a,xs,rfl,hx,q⟩:=h
 cases rx
 obtain⟨its,r,ht,hz⟩:=I.list hx
 have hlen:=r.length
 refine⟨"list",_,slot_list_getitem.lookup,ht.isList.typeIs, ?_⟩
 refine wpAny_getItem_list_slice ht.isList hs pl pu .none (by simp) ?_ (by rw[ZsX]<;>omega)
 rw[Zaf,<- hlen]
 refine⟨.ref s.heap.objs.size,_,I.laid (t':=s.toks) (o:=.lst (ZjM xs lo hi)) (fun b ob q=>Heap.get?_push_of_some _ q) (ZsV _) ?_,rfl,q _ (I.hok.fresh (ZsV _))⟩
 exact⟨Ztr (Zck xs lo hi) hz,_,0,(r.drop (HT.sIx xs.length 0 lo)).take (HT.sIx xs.length xs.length hi-HT.sIx xs.length 0 lo),Heap.get?_push_size _ rfl⟩
theorem Zbr:Vb X (.builtin "len") (fun xs H Q=>∃p ys,xs=[.ref p]/\(SqL X.K H p ys\/SqT X.K H p ys)/\Q (.int ys.length) H):=by
 intro pins s σ H xs us Q I r h
 obtain⟨p,ys,rfl,hq,q⟩:=h
 obtain⟨u,rfl,rx⟩:=Zb3 r
 cases rx
 have hn:=QQ
 rcases hq with hq|hq
 ·obtain⟨its,r',pl,hz⟩:=I.list hq
  have hlen:=r'.length
  exact Calls.call_len_list pl.isList (by simp only[ZsX]<;>omega) ⟨.int ys.length,H,I.tok _,⟨s.toks+1,by rw[ZsX,hlen]⟩,q⟩
 ·obtain⟨its,r',pl,hz⟩:=I.tuple hq
  have hlen:=r'.length
  exact len_tuple pl (by simp only[ZsX]<;>omega) ⟨.int ys.length,H,I.tok _,⟨s.toks+1,by rw[ZsX,hlen]⟩,q⟩
theorem Zbq:Vb X (.type "list") (fun xs H Q=>∃p ys,xs=[.ref p]/\(SqL X.K H p ys\/SqT X.K H p ys)/\∀l,H l=none->Q (.ref l) (upd H l (.lst ys))):=by
 intro pins s σ H xs us Q I r h
 obtain⟨p,ys,rfl,hq,q⟩:=h
 obtain⟨u,rfl,rx⟩:=Zb3 r
 cases rx
 have fin:∀(its:List Value),ZQ ys its->ys.length<=sizeLine->∀(h':Heap) (c':Nat),(∀b o',s.heap.get? b=some o'->h'.get? b=some o') ->
   h'.get? s.heap.objs.size=some { cls:=.type "list",dict:=none,data:=.seq its.toArray c',slots:=#[] }->EP X pins σ Q (.ref s.heap.objs.size) { s with heap:=h' }:=fun its r' hz h' c' kp e =>
  ⟨.ref s.heap.objs.size,_,I.laid (t':=s.toks) kp (ZsV _) (show Jg X.prog X.w _ h' _ (.lst ys) from ⟨hz,its,c',r',e⟩),rfl,q _ (I.hok.fresh (ZsV _))⟩
 rcases hq with hq|hq
 ·obtain⟨its,r',pl,hz⟩:=I.list hq
  have hlen:=r'.length
  obtain⟨o,ho,hc,n,hd⟩:=pl.isList
  exact call_list_seq p (.inl rfl) ho hc hd (fun h' c' kp e=>fin its r' hz h' c' kp e) (by simp only[ZsX]<;>omega)
 ·obtain⟨its,r',pl,hz⟩:=I.tuple hq
  have hlen:=r'.length
  obtain⟨o,ho,hc,n,hd⟩:=pl
  exact call_list_seq p (.inr rfl) ho hc hd (fun h' c' kp e=>fin its r' hz h' c' kp e) (by simp only[ZsX]<;>omega)
theorem Za0:Vb X (.type "tuple") (fun xs H Q=>∃p ys,xs=[.ref p]/\((SqL X.K H p ys/\∀l,H l=none->Q (.ref l) (upd H l (.tup ys)))\/(SqT X.K H p ys/\Q (.ref p) H))):=by
 intro pins s σ H xs us Q I r h
 obtain⟨p,ys,rfl,h⟩:=h
 obtain⟨u,rfl,rx⟩:=Zb3 r
 cases rx
 rcases h with ⟨hq,q⟩|⟨hq,q⟩
 ·obtain⟨its,r',pl,hz⟩:=I.list hq
  have hlen:=r'.length
  refine call_tuple_list pl.isList (fun h' kp=>?_) (by simp only[ZsX]<;>omega)
  have I1:Inv X pins σ H { s with heap:=h' }:=I.kept (t':=s.toks) kp
  have I2:Inv X pins σ (upd H h'.objs.size (.tup ys)) { s with heap:=h'.push { cls:=.type "tuple",data:=.seq its.toArray } }:=
   I1.laid (t':=s.toks) (fun b o e=>Heap.get?_push_of_some _ e) (ZsV _) (show Jg X.prog X.w _ _ _ (.tup ys) from ⟨hz,its,r',IsTup.new _ _⟩)
  exact⟨.ref h'.objs.size,_,I2,rfl,q _ (I1.hok.fresh (ZsV _))⟩
 ·obtain⟨its,r',pl,hz⟩:=I.tuple hq
  exact call_tuple_same pl ⟨.ref p,H,I,rfl,q⟩
def tyV (K:W.Frag) (T:String) (x:V) (H:Hp):Prop:=match x with
 |.str _=>T = "str"
 |.int _=>T = "int"
 |.ref p=>(T = "list"/\∃xs,SqL K H p xs)\/(T = "tuple"/\∃o,K.lookup p=some o/\o.cls=.type "tuple"/\o.dict=none) \/
   (T = "dict"/\((∃kvs,H p=some (.dK kvs))\/∃kvs,H p=some (.dT kvs)))\/(T = "set"/\∃S n,H p=some (.set S n))
 |_=>False
theorem ZhQ {pins:List (Addr×Obj)}{σ:St}{H:Hp}{s:Shared}{T:String}{x:V}{v:Value} (I:Inv X pins σ H s) (r:Ja x v) (ty:tyV X.K T x H) :
  s.TypeIs v T/\∀a,v=.ref a->∃ob,s.heap.get? a=some ob/\ob.dict=none:=by
 cases x with
 |str z =>
  obtain⟨t,rfl⟩:=r
  cases (show T = "str" from ty)
  exact⟨typeIs_str s z t,fun _ e=>nomatch e⟩
 |int i =>
  obtain⟨t,rfl⟩:=r
  cases (show T = "int" from ty)
  exact⟨typeIs_int s i t,fun _ e=>nomatch e⟩
 |ref p =>
  cases r
  rcases ty with ⟨rfl,xs,hq⟩|⟨rfl,o,hk,hc,hd⟩|⟨rfl,hk⟩|⟨rfl,S,n,hk⟩
  ·obtain⟨its,_,pl,_⟩:=I.list hq
   refine⟨pl.isList.typeIs,fun a e=>?_⟩
   cases e
   obtain⟨o,n,e,c,hd,_⟩:=pl
   exact⟨o,e,hd⟩
  ·refine⟨⟨o,I.kIn p o hk,hc⟩,fun a e=>?_⟩
   cases e
   exact⟨o,I.kIn _ o hk,hd⟩
  ·have z:∃o,s.heap.get? p=some o/\o.ExactDict:=by
    rcases hk with ⟨kvs,hk⟩|⟨kvs,hk⟩
    ·obtain⟨_,_,_,_,o,_,_,e,ex,_⟩:=I.hok p _ hk
     exact⟨o,e,ex⟩
    ·obtain⟨_,_,_,_,o,_,_,e,ex,_⟩:=I.hok p _ hk
     exact⟨o,e,ex⟩
   obtain⟨o,e,ex⟩:=z
   refine⟨⟨o,e,ex.1⟩,fun a e2=>?_⟩
   cases e2
   exact⟨o,e,ex.2.1⟩
  ·obtain⟨o,_,_,_,e,ex,_⟩:=I.hok p _ hk
   refine⟨⟨o,e,ex.1⟩,fun a e2=>?_⟩
   cases e2
   exact⟨o,e,ex.2.1⟩
 |_=>exact False.elim ty
noncomputable def ZmC (K:W.Frag) (T:String) (r:V->List V->Hp->VK->Prop) (to:TE):TE:=fun σ H Q=>to σ H fun x H1=>tyV K T x H1/\r x [] H1 Q
noncomputable def tBM (K:W.Frag) (T:String) (r:V->List V->Hp->VK->Prop) (to:TE) (t:TA):TE:=fun σ H Q=>to σ H fun x H1=>tyV K T x H1/\t σ H1 fun xs H2=>r x xs H2 Q
variable {o e:Expr}{es:List Expr}{to:TE}{t:TA}{name:Str}{apos cpos:Pos}{T id:String}{r:V->List V->Hp->VK->Prop}
theorem ZeR (pa:PlainAttrs T) (slot:Slot T name id) (hty:typeOf (.builtin id)=pure (.type "method_descriptor")) (hm:MtR X id r) (ho:PE X o to)
  (hbase:attributeBase o name X.env (eval o X.env)=eval o X.env:=by rfl) (hline:(apos.endLine==cpos.line)=true:=by rfl):PE X (.Call (.Attribute o name apos) [] [] cpos) (ZmC X.K T r to):=by
 intro pins s σ H Q I h
 refine wpAny_Call_method0_late hbase hline (thn (ho pins s σ H _ I h) fun v s1 ⟨x,H1,I1,r1,ty,q1⟩=>?_)
 obtain⟨h1,h2⟩:=ZhQ I1 r1 ty
 exact⟨T,id,pa,slot,hty,h1,h2,Calls.callWith_builtin rfl (PySem.evalArgs_none (hm pins s1 σ H1 x [] v [] Q I1 r1 .nil q1))⟩
theorem ZbG (pa:PlainAttrs T) (slot:Slot T name id) (hty:typeOf (.builtin id)=pure (.type "method_descriptor")) (hm:MtR X id r) (ho:PE X o to) (ha:PA X (e::es) t)
  (hbase:attributeBase o name X.env (eval o X.env)=eval o X.env:=by rfl)
  (hfew:((backTo cpos (starEach (e::es) X.env)).all (fun x=>!x.1)&&(backToKw cpos (keywordEach [] X.env)).all (fun x=>x.1.isSome)
   && decide ((e::es).length+([]:List Keyword).length+(if ([]:List Keyword).isEmpty then 0 else 1)<30))=true:=by rfl)
  (hline:(apos.endLine==cpos.line)=true:=by rfl) (hs:starEach (e::es) X.env=(false,eval e X.env)::starEach es X.env:=by rfl) (hplain:(backTo cpos (starEach es X.env)).any (·.1)=false:=by rfl) :
  PE X (.Call (.Attribute o name apos) (e::es) [] cpos) (tBM X.K T r to t):=by
 intro pins s σ H Q I h
 refine wpAny_Call_method_late hbase hfew hline rfl (thn (ho pins s σ H _ I h) fun v s1 ⟨x,H1,I1,r1,ty,q1⟩=>?_)
 obtain⟨h1,h2⟩:=ZhQ I1 r1 ty
 refine⟨T,id,pa,slot,hty,h1,h2, ?_⟩
 have hA:=ha cpos pins s1 σ H1 _ I1 q1
 rw[hs] at hA ⊢
 refine Calls.callWith_builtin (by show (false || (backTo cpos (starEach es X.env)).any (·.1))=false;rw[hplain]<;>rfl) (Calls.evalArgs_plain ?_)
 exact thn hA fun us s2 ⟨vs,H2,I2,r2,q2⟩=>hm pins s2 σ H2 x vs v us Q I2 r1 r2 q2
end
def MtM (X:Cx) (id:String) (r:V->List V->Hp->VK->Prop):Prop:=
 ∀(pins:List (Addr×Obj)) (s:Shared) (σ:St) (H:Hp) (x:V) (xs:List V) (v:Value) (us:List Value) (Q:VK),Inv X pins σ H s->Ja x v->ZQ xs us->r x xs H Q ->
  wpAny (model X.prog X.w) X.A (call (.builtin id) (v::us)) (EP X pins σ Q) X.xe s
theorem ZQ.one:∀{x:V}{us:List Value},ZQ [x] us->∃u,us=[u]/\Ja x u
 |_,_,.cons r .nil=>⟨_,rfl,r⟩
theorem ZQ.zero:∀{us:List Value},ZQ [] us->us=[]
 |_,.nil=>rfl
theorem ZQ.dropLast {xs:List V}{us:List Value} (h:ZQ xs us):ZQ xs.dropLast us.dropLast:=by
 induction h with
 |nil=>exact .nil
 |cons r t ih =>
  cases t with
  |nil=>exact .nil
  |cons q t'=>exact .cons r ih
theorem ZQ.rep {xs:List V}{us:List Value} (h:ZQ xs us):∀k:Nat,ZQ (List.replicate k xs).flatten (List.replicate k us).flatten
 |0=>.nil
 |k+1=>by
  rw[Zts,Zts,Zt6,Zt6]
  exact ZQ.append h (ZQ.rep h k)
theorem Zef {α:Type} (l:List α):l.eraseIdx (l.length-1)=l.dropLast:=by
 induction l with
 |nil=>rfl
 |cons a r ih =>
  cases r with
  |nil=>rfl
  |cons b r =>
   have e:(a::b::r).length-1=((b::r).length-1)+1:=by
    have h1:(a::b::r).length=r.length+2:=rfl
    have h2:(b::r).length=r.length+1:=rfl
    omega
   rw[e,List.eraseIdx_cons_succ,ih]
   all_goals rfl
theorem Zbe (its:List Value):∀(k:Nat) (acc:List Value),
  List.foldl (fun x1 x2=>x1++x2) acc.toArray (List.replicate k its.toArray)=(acc++(List.replicate k its).flatten).toArray
 |0,acc=>by simp
 |k+1,acc=>by
  have e:acc.toArray++its.toArray=(acc++its).toArray:=by simp
  have e2:(acc++its)++(List.replicate k its).flatten=acc++(List.replicate (k+1) its).flatten:=by
   rw[Zts,Zt6,List.append_assoc]
  rw[<- e2,<- Zbe its k (acc++its),<- e,Zts,List.foldl_cons]
section
variable {X:Cx}{pins:List (Addr×Obj)}{σ:St}{H:Hp}{s:Shared}{l:Addr}{xs ys:List V}
theorem Inv.lset {its its':List Value}{n:Nat}{f:Array Value->Array Value}{t':Nat} (I:Inv X pins σ H s) (hH:H l=some (.lst xs))
  (e:s.heap.get? l=some { cls:=.type "list",data:=.seq its.toArray n }) (hf:f its.toArray=its'.toArray) (hv:ZQ ys its') (hz:ys.length<=sizeLine) :
  Inv X pins σ (upd H l (.lst ys)) { s with heap:=s.heap.update l (Obj.mapSeq f),toks:=t' }:=by
 have q:=PySem.IsL.update e f
 rw[hf] at q
 refine I.write (x:=l) (e:=l) (by rw[hH];exact trivial) (.inl rfl) (fun b' u hb hu=>(Heap.get?_update_other s.heap (Obj.mapSeq f) (Ne.symm hb)).trans hu) ⟨_,q⟩ ?_
 exact⟨hz,its',_,hv,q⟩
theorem Inv.lnew {its:List Value}{t':Nat} (I:Inv X pins σ H s) (hv:ZQ ys its) (hz:ys.length<=sizeLine) :
  Inv X pins σ (upd H s.heap.objs.size (.lst ys)) { s with heap:=s.heap.push { cls:=.type "list",data:=.seq its.toArray },toks:=t' }:=
 I.laid (fun _ _ q=>Heap.get?_push_of_some _ q) (ZsV _) ⟨hz,its,0,hv,Heap.get?_push_size _ rfl⟩
theorem Inv.fresh (I:Inv X pins σ H s):H s.heap.objs.size=none:=I.hok.fresh (ZsV _)
theorem Inv.lstM (I:Inv X pins σ H s) (hH:H l=some (.lst xs)):xs.length<=sizeLine/\∃(its:List Value) (n:Nat),ZQ xs its/\xs.length=its.length/\s.heap.get? l=some { cls:=.type "list",data:=.seq its.toArray n }:=by
 obtain⟨z,its,n,r,e⟩:=I.hok l _ hH
 exact⟨z,its,n,r,r.length,e⟩
theorem Zhc {n:Nat} (h:n<=sizeLine):Builtin.List.listTooLong n=false:=by
 unfold Builtin.List.listTooLong
 exact decide_eq_false (by omega)
end
section
variable {X:Cx}
def ZbB:V->List V->Hp->VK->Prop:=fun x vs H Q=>∃l xs y,x=.ref l/\vs=[y]/\H l=some (.lst xs)/\xs.length<sizeLine/\Q .non (upd H l (.lst (xs++[y])))
theorem J6:MtM X "list.append" ZbB:=by
 intro pins s σ H x vs v us Q I rx rv h
 obtain⟨l,xs,y,rfl,rfl,hH,hz,q⟩:=h
 cases rx
 obtain⟨u,rfl,ru⟩:=rv.one
 obtain⟨z,its,n,r,hl,e⟩:=I.lstM hH
 refine call_meets F.slot_list_append ⟨_,e,rfl⟩ F.entry_list_append (F.args_list_append_2 _ _) (PySem.list_append l its.toArray n u (by rw[ZsX];omega)) ⟨e, ?_⟩
 refine⟨.non,_,I.lset (its':=its++[u]) hH e (by simp) (r.append (.cons ru .nil)) ?_,rfl,q⟩
 rw[Ztl,ZtG]
 omega
def ZmJ:V->List V->Hp->VK->Prop:=fun x vs H Q=>∃l xs y,x=.ref l/\vs=[]/\H l=some (.lst xs)/\xs[xs.length-1]?=some y/\Q y (upd H l (.lst xs.dropLast))
theorem Zfo:MtM X "list.pop" ZmJ:=by
 intro pins s σ H x vs v us Q I rx rv h
 obtain⟨l,xs,y,rfl,rfl,hH,hy,q⟩:=h
 cases rx
 have hus:=rv.zero
 subst hus
 obtain⟨z,its,n,r,hl,e⟩:=I.lstM hH
 obtain⟨u,hu,ru⟩:=r.get hy
 have hy':its.toArray[its.toArray.size-1]?=some u:=by
  show its.toArray[its.length-1]?=some u
  rw[<- Array.getElem?_toList,<- hl]
  exact hu
 refine call_meets F.slot_list_pop ⟨_,e,rfl⟩ F.entry_list_pop (F.args_list_pop_1 _) (MeetsSeq.list_pop_last l its.toArray n u hy' (by rw[ZsX];omega)) ⟨e, ?_⟩
 refine⟨y,_,I.lset (its':=its.dropLast) hH e ?_ r.dropLast ?_,ru,q⟩
 ·show its.toArray.eraseIdxIfInBounds (its.toArray.size-1)=its.dropLast.toArray
  rw[ZsX,List.eraseIdxIfInBounds_toArray,Zef]
 ·rw[List.length_dropLast]
  omega
noncomputable def ZmI:R2:=fun x y H Q=>∃l k xs,x=.ref l/\y=.int k/\H l=some (.lst xs)/\-(2^63)<=k/\k<2^63/\xs.length*k.toNat<=sizeLine /\
 ∀p,H p=none->Q (.ref p) (upd H p (.lst (List.replicate k.toNat xs).flatten))
theorem Zfv {α:Type} (xs:List α) (k:Nat):(List.replicate k xs).flatten.length=k*xs.length:=by
 induction k with
 |zero=>simp
 |succ k ih=>rw[Zts,Zt6,Ztl,ih,Nat.succ_mul,Nat.add_comm]
theorem Zk8:OpR X (binaryOp .Mult) ZmI:=by
 intro pins s σ H x y v u Q I rx ry h
 obtain⟨l,k,xs,rfl,rfl,hH,h1,h2,hz,q⟩:=h
 cases rx
 obtain⟨t,rfl⟩:=ry
 obtain⟨z,its,n,r,hl,e⟩:=I.lstM hH
 have hlen:its.toArray.size*k.toNat<=sizeLine:=by rw[ZsX,<- hl];exact hz
 have hcap:¬its.toArray.size*k.toNat>(2^63-1)/8:=by
  have:(sizeLine:Nat)<=(2^63-1)/8:=by decide
  omega
 have hfit:¬(!Builtin.List.listFitsIndex k)=true:=by
  rw[fitsIndex_both h1 h2]
  exact Bool.false_ne_true
 have hlong:¬Builtin.List.listTooLong (its.toArray.size*k.toNat)=true:=by
  rw[Zhc hlen]
  exact Bool.false_ne_true
 have hnew:List.foldl (fun x1 x2=>x1++x2) #[] (List.replicate (if its.toArray.isEmpty=true then 0 else k.toNat) its.toArray)=(List.replicate k.toNat its).flatten.toArray:=by
  have f0:∀m:Nat,List.foldl (fun x1 x2=>x1++x2) #[] (List.replicate m its.toArray)=(List.replicate m its).flatten.toArray:=fun m=>by
   have:=Zbe its m []
   rw[Zub] at this
   exact this
  rw[f0]
  cases its with
  |nil=>simp
  |cons a r'=>rw[if_neg (by simp)]
 refine wpAny_binaryOp_repeat_ref (T := "list") (U := "int") (by decide) ⟨_,e,rfl⟩ (fun s'=>typeIs_int s' k t) noFill_list_mul F.fills_int_mul F.slot_int_rmul repeat_list F.slot_int_index.lookup
  (call_meets F.slot_int_rmul (typeIs_int s k t) F.entry_int_rmul (F.args_int_rmul_2 _ _) (int___rmul___int_list k t l its.toArray n)
   ⟨e,rfl,⟨_,e,rfl⟩,call_meets F.slot_list_mul ⟨_,e,rfl⟩ F.entry_list_mul (F.args_list_mul_2 _ _) (AutoListH.list___mul___list_int_3 l its.toArray n k t hfit hcap hlong) ⟨e, ?_⟩⟩)
 rw[hnew]
 exact⟨.ref _,_,I.lnew (t':=s.toks) (r.rep k.toNat) (by rw[Zfv,Nat.mul_comm];exact hz),rfl,q _ I.fresh⟩
end
section
set_option maxRecDepth 100000 in
end
section
end
end L2
namespace Att
open PySem PySem.W PySem.Calls PyProof.Rows
theorem Qr {P:Params}{h:Heap}:∀(ns:List Int) (vs:List Value),WellAll P h vs (ns.map WData.int)->IntsAre vs ns:=by
 intro ns
 induction ns with
 |nil =>
  intro vs w
  rw[Zt7] at w
  cases w
  exact .nil
 |cons n ns ih =>
  intro vs w
  rw[Ztc] at w
  cases w with
  |cons a b =>
   cases a
   exact .cons _ _ (ih _ b)
theorem Ze8 {l:OpenLaw}{n:Nat} (hn:l.most=some n) {P:Params}{h:Heap}{args:List WData}{vals:List Value}
  (hpre:l.row.toRowW.claim.pre args=true) (hwl:WellAll P h vals args) :
  ∃a vs ns,vals=[Value.ref a]/\args=[WData.list (ns.map WData.int)]/\h.get? a=some { cls:=.type "list",data:=.seq vs.toArray }/\IntsAre vs ns/\ns.length<=n:=by
 have hsh:WShape.hasAll [] args [.list .int]=true:=(pre_splitW hpre).1
 have hc:l.pre.holds [] { args:=args }=true:=(pre_splitW hpre).2
 obtain⟨d,r,rfl,h1,h2⟩:=hasAllW_cons hsh
 obtain rfl:=hasAllW_nil h2
 obtain⟨xs,rfl,h3⟩:=hasW_list h1
 obtain⟨ns,rfl⟩:=items_int h3
 have hlen:ns.length<=n:=by
  unfold OpenLaw.pre at hc
  have h4:(WTm.not (.lt (.lit (.int (n:Int))) (.len (.arg 0)))).holds [] { args:=[.list (ns.map .int)] }=true:=by
   have h4:=(holds_andW hc).1
   rw[hn] at h4
   exact h4
  have h5:=condW_of h4 (w_not (w_lt w_lit (w_len_list (w_arg rfl))))
  rw[ZsS] at h5
  refine Nat.le_of_not_lt fun q=>?_
  have q':(n:Int)<((ns.length:Nat):Int):=by omega
  first
   |(rw[decide_eq_true q'] at h5;exact absurd h5 (by decide))
   |(simp at h5;omega)
 cases hwl with
 |cons w1 w2 =>
  cases w2
  cases w1 with
  |list ho hall=>exact⟨_,_,ns,rfl,rfl,ho,Qr ns _ hall,hlen⟩
theorem ZeL (l:OpenLaw) (args:List WData):l.row.toRowW.claim.post args (.bool true) args=true:=
 postW_of (r:=l.row.toRowW) (X:=(true==true))
  (show WShape.has [] (.bool true) .bool=true by first|rfl|decide|simp[WShape.has,WShape.arms,WShape.armsAll])
  (show (WTm.eq .res (.lit (.bool true))).value [] { args:=args,res:=some (.bool true),after:=args }=some (.bool (true==true)) from w_eq_bool (w_res rfl) w_lit) rfl
theorem Zcq {l:OpenLaw}{n:Nat}{q:Program}{loose:List Str}{XP:(Str->Option Value)->Heap->Prop}{YP:World->Heap->Prop}{d:DefRec}
  (hn:l.most=some n) (hdf:d.params.defaults=[])
  (call:∀(w:World) (s₀ s₁:Shared) (mg mb:Str->Option Value) (fa:Addr) (o:Obj) (pm cd doc:Value) (a:Addr) (vs:List Value) (ns:List Int),
   Ground q loose [] XP w s₀ mg mb s₁.heap->YP w s₁.heap ->
   s₁.heap.get? fa=some o->o.data=.func (docDef d.name d.params d.body d.scope pm cd doc)->s₁.heap.CodeRec cd d.name->mg d.name=some (.ref fa) ->
   s₁.heap.get? a=some { cls:=.type "list",data:=.seq vs.toArray }->IntsAre vs ns->ns.length<=n->s₁.gens=#[] ->
   codeAny (model l.prog w) callerA (.call (.ref fa) ⟨[.ref a],[]⟩) (fun r s'=>r=.ok (.ret (.bool true))/\OldK s₁.heap s'.heap/\s'.os=s₁.os/\AllBare s'.gens) s₁) :
  WalkO q loose XP YP l.row.toRowW d [] (fun f vs=>PySem.call f vs):=by
 intro w s₀ s₁ mg mb G Y fa o pm cd doc dV kV ho hd hcd hD hmg hg args vals as hpre hlay hrd hwl hlo
 obtain rfl:dV=.none:=Dflts.none hD hdf
 obtain rfl:kV=.none:=Dflts.noKw hD
 obtain⟨a,vs,ns,rfl,rfl,hobj,hints,hlen⟩:=Ze8 hn hpre hwl
 refine enter_call (codeAny_mono (call w s₀ s₁ mg mb fa o pm cd doc a vs ns G Y ho (fd_plain hd) hcd hmg hobj hints hlen hg) fun r s' hq=>?_)
 obtain⟨rfl,h2,h3,h4⟩:=hq
 exact⟨.inl ⟨.bool true,.bool true,[],rfl,fun _=>rfl,.bool true,ZeL l _,fun _=>⟨List.Pairwise.nil,fun _ hm=>(nomatch hm)⟩⟩,h2,h3,h4⟩
section
end
end Att
namespace L2
open PySem PySem.Spec PyProof.Rows
theorem Za6:∀{vs:List Value}{ns:List Int},IntsAre vs ns->ZQ (ns.map V.int) vs
 |_,_,.nil=>.nil
 |_,_,.cons n t h=>.cons ⟨t,rfl⟩ (Za6 h)
def Zlz (H:Hp):Prop:=∀b,H b=none\/∃o xs,H b=some (.frz o (.lst xs))
theorem Zhh {P:Program}{w:World}{K:W.Frag}{mg mb:Str->Option Value}{CX:CXT}{k:Nat}{fa a:Addr}{fd:FuncData}{x:Str}{sp:Sp}{s₁:Shared}{vs:List Value}{ns:List Int}
  (KX:K.In s₁.heap) (hns:s₁.heap.Ns mainGlobals mg) (hb:s₁.heap.Ns builtinsNs mb) (hbb:∀x:Str,x ≠ "__name__"->mb x=bootBuiltins x) (hlim:s₁.heap.NoLimit) (hg:s₁.gens=#[])
  (ha:s₁.heap.get? a=some { cls:=.type "list",data:=.seq vs.toArray }) (hi:IntsAre vs ns) (hl:ns.length<=sizeLine) (hr:V2 k callerA)
  (F:∀base:Heap,K.In base->base.Ns mainGlobals mg->Jk P w K mg base CX k fa fd [x] sp) (hbind:∀(s:Shared) (u:Value),BindsTo s fd ⟨[u],[]⟩ [(x,u)])
  (hsp:∀H:Hp,Zlz H->SqL K H a (ns.map V.int)->sp [.ref a] H (fun v _=>v=.bl true) fun _ _ _=>False)
  (hCX:∀H e s',CX [] H s₁ (fun _ _ _=>False) e s'->False) :
  codeAny (model P w) callerA (.call (.ref fa) ⟨[.ref a],[]⟩) (fun r s'=>r=.ok (.ret (.bool true))/\OldK s₁.heap s'.heap/\s'.os=s₁.os/\AllBare s'.gens) s₁:=by
 have rv:=Za6 hi
 have lenV:=hi.length
 have core:∀H:Hp,Zlz H->SqL K H a (ns.map V.int)->HOk P w H s₁.heap->(∀b,H b≠none->b=a)->(H a≠none->K.lookup a=none) ->
   codeAny (model P w) callerA (.call (.ref fa) ⟨[.ref a],[]⟩) (fun r s'=>r=.ok (.ret (.bool true))/\OldK s₁.heap s'.heap/\s'.os=s₁.os/\AllBare s'.gens) s₁:=by
  intro H hO hS hok hA hK
  have base_of:∀{b:Addr}{o:Obj},s₁.heap.get? b=some o->H b=none->(Zhq s₁.heap H).get? b=some o:=fun e n=>Zhp e n
  have noA:∀{b:Addr}{o:Obj}{es:Array DictEntry}{ep:Nat},s₁.heap.get? b=some o->o.data=.dict es ep->H b=none:=fun {b o es ep} e d=>by
   cases q:H b with
   |none=>rfl
   |some u =>
    have e':b=a:=hA b (by rw[q];simp)
    subst e'
    rw[ha] at e;cases e
    have d':Data.seq vs.toArray _=Data.dict es ep:=d
    cases d'
  have nsK:∀{b:Addr}{m:Str->Option Value},s₁.heap.Ns b m->(Zhq s₁.heap H).Ns b m:=fun {b m} ⟨o,es,ep,e,d,r⟩=>⟨o,es,ep,base_of e (noA e d),d,r⟩
  have hKb:K.In (Zhq s₁.heap H):=fun b o e=>base_of (KX b o e) (by
   cases q:H b with
   |none=>rfl
   |some u =>
    have e':b=a:=hA b (by rw[q];simp)
    subst e'
    rw[hK (by rw[q];simp)] at e;cases e)
  have hM:Mod K mg (Zhq s₁.heap H):=⟨hKb,nsK hns,⟨mb,nsK hb,hbb⟩,let ⟨mc,h1,h2⟩:=hlim;⟨mc,nsK h1,h2⟩⟩
  have e0:ZjG P w K mg (Zhq s₁.heap H) callerA [] s₁ H:=⟨rfl,hM,fun b o e=>ZiZ e,Nat.le_of_eq (ZfC _ _),trivial,fun b hb=>absurd (show b∈([]:List Addr) from hb) (by simp),hok,.of_eq hg⟩
  refine codeAny_mono ((F _ hKb (nsK hns)).run callerA [] s₁ H ⟨[.ref a],[]⟩ [.ref a] [.ref a] _ _ hr e0 (hbind s₁ (.ref a)) (.cons rfl .nil) (hsp H hO hS)) fun r s' h=>?_
  cases r with
  |error e=>exact(hCX H e s' h).elim
  |ok fl =>
   cases fl with
   |next=>exact False.elim h
   |brk=>exact False.elim h
   |cont=>exact False.elim h
   |ret u =>
    obtain⟨v,H',os,bare,un,hok',r',q⟩:=h
    have q':v=.bl true:=q
    subst q'
    obtain rfl:u=Value.bool true:=r'
    refine⟨rfl,OldK.of_keep fun b o e=>?_,os,bare⟩
    cases q:H b with
    |none=>exact un.keep b o e q (by intro z;exact absurd (show b∈([]:List Addr) from z) (by simp)) (by simp)
    |some u =>
     rcases hO b with z|⟨ob,xs,z⟩
     ·rw[q] at z;cases z
     ·have z2:=un.frzs b ob _ z
      obtain⟨e1,_⟩:=hok b _ z
      obtain⟨e2,_⟩:=hok' b _ z2
      rw[e] at e1;cases e1
      exact e2
 cases hk:K.lookup a with
 |some o =>
  have e:=KX a o hk
  rw[ha] at e
  cases e
  refine core (fun _=>none) (fun _=>.inl rfl) (.inr ⟨_,vs.toArray,_,hk,rfl,rfl,rfl,by rw[ZsX,lenV];exact hl,by simpa using rv⟩) (fun b u z=>by have z':(none:Option HO)=some u:=z;cases z') (fun b z=>absurd rfl z) fun z=>absurd rfl z
 |none =>
  refine core (fun b=>if b=a then some (.frz { cls:=.type "list",data:=.seq vs.toArray } (.lst (ns.map V.int))) else none) (fun b=>?_) (.inl (.inr ⟨{ cls:=.type "list",data:=.seq vs.toArray },if_pos rfl⟩)) (fun b u z=>?_) (fun b z=>?_) fun _=>hk
  ·by_cases hb:b=a
   ·exact .inr ⟨_,_,if_pos hb⟩
   ·exact .inl (if_neg hb)
  ·by_cases hb:b=a
   ·have z':=(if_pos hb).symm.trans z
    cases z'
    subst hb
    exact⟨ha,by rw[ZsS];exact hl,vs,_,rv,ha⟩
   ·have z':=(if_neg hb).symm.trans z
    cases z'
  ·by_cases hb:b=a
   ·exact hb
   ·exact absurd (if_neg hb) z
noncomputable abbrev KOf {K:W.Frag}{h:Heap} (_:K.In h):W.Frag:=K
theorem ZiA {l:PySem.W.OpenLaw}{n k:Nat}{q:Program}{loose:List Str}{XP:(Str->Option Value)->Heap->Prop}{YP:World->Heap->Prop}{d:DefRec}{K:Params->W.Frag}{CX:World->CXT}{sp:World->Sp}{x:Str}
  (hn:l.most=some n) (hn2:n<=sizeLine) (hdf:d.params.defaults=[]) (hr:V2 k callerA)
  (hY:∀(w:World) (h:Heap),YP w h->(K w.params).In h)
  (F:∀(w:World) (mg:Str->Option Value) (fa:Addr) (h:Heap),(K w.params).In h->h.Ns mainGlobals mg->mg d.name=some (.ref fa) ->
   ∃fd:FuncData,(∀(s:Shared) (u:Value),BindsTo s fd ⟨[u],[]⟩ [(x,u)]) /\
    ∀base:Heap,(K w.params).In base->base.Ns mainGlobals mg->Jk l.prog w (K w.params) mg base (CX w) k fa fd [x] (sp w))
  (hsp:∀(w:World) (H:Hp) (a:Addr) (ns:List Int),ns.length<=n->Zlz H->SqL (K w.params) H a (ns.map V.int)->sp w [.ref a] H (fun v _=>v=.bl true) fun _ _ _=>False)
  (hCX:∀(w:World) (H:Hp) (s:Shared) (e:Value) (s':Shared),CX w [] H s (fun _ _ _=>False) e s'->False) :
  PySem.W.WalkO q loose XP YP l.row.toRowW d [] (fun f vs=>PySem.call f vs):=by
 refine Att.Zcq hn hdf fun w s₀ s₁ mg mb fa o pm cd doc a vs ns G Y ho hd hcd hmg hobj hints hlen hg=>?_
 have KX:=hY w _ Y
 obtain⟨fd,hb,hF⟩:=F w mg fa _ KX G.T.g hmg
 exact Zhh KX G.T.g G.T.b G.T.builtins G.T.nolimit hg hobj hints (Ztr hlen hn2) hr hF hb (fun H hO hS=>hsp w H a ns hlen hO hS) fun H e s'=>hCX w H s₁ e s'
theorem Zg5 {l:PySem.W.OpenLaw}{n k:Nat}{q:Program}{loose:List Str}{XP:(Str->Option Value)->Heap->Prop}{YP:World->Heap->Prop}{d:DefRec}{K:Params->W.Frag}{CX:CXT}{sp:W.Frag->Sp}{x:Str}
  (hn:l.most=some n) (hn2:n<=sizeLine) (hdf:d.params.defaults=[]) (hr:V2 k callerA)
  (hY:∀(w:World) (h:Heap),YP w h->(K w.params).In h)
  (F:∀(w:World) (mg:Str->Option Value) (fa:Addr) (h:Heap),(K w.params).In h->h.Ns mainGlobals mg->mg d.name=some (.ref fa) ->
   ∃fd:FuncData,(∀(s:Shared) (u:Value),BindsTo s fd ⟨[u],[]⟩ [(x,u)]) /\
    ∀base:Heap,(K w.params).In base->base.Ns mainGlobals mg->Jk l.prog w (K w.params) mg base CX k fa fd [x] (sp (K w.params)))
  (hsp:∀(K:PySem.W.Frag) (H:Hp) (a:Addr) (ns:List Int),ns.length<=n->Zlz H->SqL K H a (ns.map V.int)->sp K [.ref a] H (fun v _=>v=.bl true) fun _ _ _=>False)
  (hCX:∀(H:Hp) (s:Shared) (e:Value) (s':Shared),CX [] H s (fun _ _ _=>False) e s'->False) :
  PySem.W.WalkO q loose XP YP l.row.toRowW d [] (fun f vs=>PySem.call f vs):=
 ZiA (K:=K) (CX:=fun _=>CX) (sp:=fun w=>sp (K w.params)) hn hn2 hdf hr hY F (fun w H a ns h1 h2 h3=>hsp (K w.params) H a ns h1 h2 h3) fun _ H s e s'=>hCX H s e s'
noncomputable def J7 (s:Stmt) (j:Nat):Stmt:=match s with
 |.ClassDef _ _ _ body _ _ _ _ _ _ _=>body.getD j (.Pass ⟨0,0,0,0⟩)
 |_=>.Pass ⟨0,0,0,0⟩
noncomputable def Zq (s:Stmt):Arguments:=match s with
 |.FunctionDef _ a _ _ _ _ _ _ _ _=>a
 |_=>{ posonlyargs:=[],args:=[],vararg:=none,kwonlyargs:=[],kw_defaults:=[],kwarg:=none,defaults:=[] }
noncomputable def Zo (s:Stmt):List Stmt:=match s with
 |.FunctionDef _ _ b _ _ _ _ _ _ _=>b
 |_=>[]
noncomputable def Zd (s:Stmt):Scope:=match s with
 |.FunctionDef _ _ _ _ _ _ sc _ _ _=>sc
 |_=>{ kind:=.function,names:=[],isGenerator:=false,isCoroutine:=false }
noncomputable abbrev CX0:CXT:=fun _ _ _ _ _ _=>False
noncomputable abbrev E0:XK:=fun _ _ _=>False
theorem ZeT {X:Cx}:Zby CX0 X E0:=fun _ _ _ _ _ _ _ h=>h.elim
structure Fun (K:PySem.W.Frag) (x qual:Str) (st:Stmt) (f:Addr) (fd:FuncData):Prop where
 ex:∃(oc:Value) (od:Option Addr) (kV doc pm:Value) (an:Option Addr) (cdv ct:Value) (osl:Array (Option Value)),
  fd=PySem.W.fnOf x qual (Zq st) (Zo st) (Zd st) .none kV doc pm an cdv ct/\K.lookup f=some ⟨oc,od,.func fd,osl⟩/\PySem.W.codeIn K cdv qual=true
 kp:PySem.W.keepIn K (.ref f)=true
section
variable {P:Program}{w:World}{K:W.Frag}{mg:Str->Option Value}{base:Heap}
theorem Fun.ok {x qual:Str}{st:Stmt}{f:Addr}{fd:FuncData}{N ps:List Str}{k:Nat}{sp:Sp} (F:Fun K x qual st f fd) (S:Zu N ps (Zd st)) (len:∀vs H Q E,sp vs H Q E->vs.length=ps.length)
  (hbody:∀(cdv:Value) (A:Around) (outer:List Env) (s:Shared) (H:Hp) (vs:List V) (Q:VK) (E:XK),V2 k (A.deeper (envOfC qual (Zd st) s.heap.objs.size f cdv))->sp vs H Q E ->
   ∃t,PSs (U0 CX0 P w K mg base N qual (Zd st) f cdv A outer s H E).nox (Zo st) t/\t { nx:=fun _ H'=>Q .non H',rt:=Q } (VN N vs) H):Jk P w K mg base CX0 (k+1) f fd ps sp:=by
 obtain⟨oc,od,kV,doc,pm,an,cdv,ct,osl,rfl,lk,hcd⟩:=F.ex
 refine ZkZ lk hcd S len fun A outer s H vs Q E hr hsp=>?_
 obtain⟨t,h,q⟩:=hbody cdv A outer s H vs Q E hr hsp
 exact⟨t,h.nox,q⟩
theorem Fun.binds {x qual:Str}{st:Stmt}{f:Addr}{fd:FuncData}{ps:List Str} (F:Fun K x qual st f fd)
  (h:∀(kV doc pm:Value) (an:Option Addr) (cdv ct:Value) (us:List Value),us.length=ps.length->bindArgs (PySem.W.fnOf x qual (Zq st) (Zo st) (Zd st) .none kV doc pm an cdv ct) ⟨us,[]⟩=pure (ps.zip us)):Us K fd ps []:=by
 obtain⟨oc,od,kV,doc,pm,an,cdv,ct,osl,rfl,lk,hcd⟩:=F.ex
 exact .all (h kV doc pm an cdv ct)
theorem ZA {x qual:Str}{st:Stmt}{f:Addr}{oc:Value}{od an:Option Addr}{osl:Array (Option Value)}{kV doc pm cdv ct:Value} (l:K.lookup f=some ⟨oc,od,.func (PySem.W.fnOf x qual (Zq st) (Zo st) (Zd st) .none kV doc pm an cdv ct),osl⟩)
  (c:PySem.W.codeIn K cdv qual=true) (k:PySem.W.keepIn K (.ref f)=true):Fun K x qual st f (PySem.W.fnOf x qual (Zq st) (Zo st) (Zd st) .none kV doc pm an cdv ct):=⟨⟨oc,od,kV,doc,pm,an,cdv,ct,osl,rfl,l,c⟩,k⟩
variable {X:Cx}
theorem pv (i:Nat) {x:Str}{pos:Pos} (hN:X.N[i]?=some x:=by rfl) (hv:Vis X.env.scope x:=by first|exact Or.inl rfl|exact Or.inr (Or.inl rfl)|exact Or.inr (Or.inr rfl)) (hd:(x==("__debug__":Str))=false:=by decide)
  (hcd:(x==("__classdict__":Str))=false:=by decide):PE X (.Name x pos) (Ut i):=Zkx hN hv hd hcd
end
def Z0 (H H':Hp):Prop:=∀b o,H b=some o->H' b=some o
theorem Z0.refl (H:Hp):Z0 H H:=fun _ _ h=>h
theorem Z0.trans {H H1 H2:Hp} (a:Z0 H H1) (b:Z0 H1 H2):Z0 H H2:=fun c o h=>b c o (a c o h)
theorem Z0.free {H H':Hp} (e:Z0 H H') {l:Addr} (h:H' l=Option.none):H l=Option.none:=by
 cases q:H l with
 |none=>rfl
 |some o =>
  rw[e l o q] at h
  cases h
end L2
set_option maxHeartbeats 4000000
namespace L2
open PySem PySem.Spec PyProof.Rows
noncomputable def Zge (scope:Scope) (env:Env):List (Str×Addr):=
 ((scope.names.filter fun p=>p.2==.free).reverse).map fun p=>(p.1,(env.cells.lookup p.1).getD 0)
theorem VV {β:Type}:∀{l:List (Str×β)}{a:Str}{b:β},(a,b)∈l->∃c,l.lookup a=some c
 |[],_,_,h=>absurd h (by simp)
 |(n,v)::r,a,b,h=>by
  cases e:a==n with
  |true=>exact⟨v,by simp[Ztp,e]⟩
  |false =>
   rcases ZsZ.mp h with z|z
   ·cases z;simp at e
   ·obtain⟨c,hc⟩:=VV z
    exact⟨c,by simp[Ztp,e,hc]⟩
theorem ZH {env:Env}:∀{names:List (Str×NameKind)}{y:Str}{k:NameKind},(∀p∈names,p.2≠.cell) ->
  (names.map fun(n,k)=>if (k==NameKind.free&&env.scope.kind==.function&&env.kindOf n==some .cell) then (n,NameKind.cell) else (n,k)).lookup y=some k ->
  (k=.local->names.lookup y=some .local)/\(k=.cell\/k=.free->names.lookup y=some .free)
 |[],_,_,_,h=>by simp at h
 |(n,k0)::r,y,k,nc,h=>by
  have ih:=@ZH env r y k (fun p hp=>nc p (Zth _ hp))
  have nc0:=nc (n,k0) Ztw
  have h':Zt8 y ((if (k0==NameKind.free&&env.scope.kind==.function&&env.kindOf n==some .cell)=true then (n,NameKind.cell) else (n,k0))::(r.map fun(n,k)=>if (k==NameKind.free&&env.scope.kind==.function&&env.kindOf n==some .cell) then (n,NameKind.cell) else (n,k)))=some k:=h
  cases hx:y==n with
  |true =>
   by_cases hc:(k0==NameKind.free&&env.scope.kind==.function&&env.kindOf n==some .cell)=true
   ·rw[if_pos hc] at h'
    simp only[Ztp,hx] at h'
    have hk:NameKind.cell=k:=Option.some.inj h'
    subst hk
    have hf:k0=.free:=by
     simp only[Bool.and_eq_true] at hc
     exact beq_iff_eq.mp hc.1.1
    subst hf
    exact⟨(fun z=>nomatch z),fun _=>by simp[Ztp,hx]⟩
   ·rw[if_neg hc] at h'
    simp only[Ztp,hx] at h'
    have hk:k0=k:=Option.some.inj h'
    subst hk
    refine⟨fun z=>by subst z;simp[Ztp,hx],fun z=>?_⟩
    rcases z with z|z
    ·exact absurd z nc0
    ·subst z;simp[Ztp,hx]
  |false =>
   by_cases hc:(k0==NameKind.free&&env.scope.kind==.function&&env.kindOf n==some .cell)=true
   ·rw[if_pos hc] at h'
    simp only[Ztp,hx] at h'
    have:=ih h'
    simpa[Ztp,hx] using this
   ·rw[if_neg hc] at h'
    simp only[Ztp,hx] at h'
    have:=ih h'
    simpa[Ztp,hx] using this
noncomputable def Zcl (N:List Str) (sc scope:Scope) (x:Str):Bool:=
 (scope.names.all fun p=>!(p.2==.cell))&&(scope.kind==.function)&&(scope.names.all fun p=>!(p.2==.local) || scope.names.lookup p.1==some .local)&&(scope.names.lookup x==some .local)
  && (N.all fun y=>!(scope.names.lookup y==some .local))&&(scope.names.all fun p=>!(p.2==.free) || sc.names.lookup p.1==some .cell || sc.names.lookup p.1==some .free)
structure QY (N:List Str) (sc scope:Scope) (x:Str):Prop where
 nc:∀p∈scope.names,p.2≠.cell
 kind:scope.kind=.function
 locs:∀p∈scope.names,p.2=.local->scope.names.lookup p.1=some .local
 var:scope.names.lookup x=some .local
 noN:∀y∈N,scope.names.lookup y≠some .local
 fr:∀p∈scope.names,p.2=.free->sc.names.lookup p.1=some .cell\/sc.names.lookup p.1=some .free
theorem QY.of {N:List Str}{sc scope:Scope}{x:Str} (h:Zcl N sc scope x=true):QY N sc scope x:=by
 unfold Zcl at h
 simp only[Bool.and_eq_true,ZtN,Bool.or_eq_true,Bool.not_eq_true',beq_iff_eq,beq_eq_false_iff_ne] at h
 obtain⟨⟨⟨⟨⟨h1,h2⟩,h3⟩,h4⟩,h5⟩,h6⟩:=h
 refine⟨h1,h2,fun p hp e=>?_,h4,h5,fun p hp e=>?_⟩
 ·rcases h3 p hp with z|z
  ·exact absurd e z
  ·exact z
 ·rcases h6 p hp with (z|z)|z
  ·exact absurd e z
  ·exact .inl z
  ·exact .inr z
section
variable {X:Cx}{pins:List (Addr×Obj)}{σ:St}{H:Hp}{s:Shared}
theorem Inv.adopt {D:Addr}{ys:List V}{its:List Value}{n:Nat} (I:Inv X pins σ H s) (hn:H D=none) (h1:X.s₀.heap.objs.size<=D) (hL:D≠X.env.locals) (hc:∀x c,X.env.cells.lookup x=some c->c≠D)
  (hp:∀p∈X.pn++pins,p.1≠D) (ho:s.heap.get? D=some { cls:=.type "list",data:=.seq its.toArray n }) (r:ZQ ys its) (hz:ys.length<=sizeLine):Inv X pins σ (upd H D (.lst ys)) s:=by
 refine I.step (h':=s.heap) (g':=s.gens) (d':=s.drawn) (t':=s.toks) (ch:=[D]) (fun b hb=>?_) (fun b o _ _ _ e _=>e) (fun b o _ _ _ e _=>⟨o.slots,e⟩) (fun b o hb _ e=>?_) (fun b o _ e=>⟨o,e⟩)
  (fun b xs e=>?_) (fun b o u e=>?_) (fun b ps e=>⟨#[], ?_⟩) (fun m hm=>hm) (fun b u e=>?_) I.bare
 ·have e:b=D:=by simpa using hb
  subst e
  exact⟨.inr h1,hL,hc,hp⟩
 ·rw[Zn (by simpa using hb)];exact e
 ·rw[Zn (Zv e hn)];exact e
 ·rw[Zn (Zv e hn)];exact e
 ·rw[Zn (Zv e hn),e];simp
 ·by_cases hb:b=D
  ·subst hb
   rw[Zw] at e;cases e
   exact⟨hz,its,n,r,ho⟩
  ·rw[Zn hb] at e
   exact(I.hok b u e).stay (fun c v _ q=>q) (fun c q=>by rw[Zn (Zv q hn)];exact q) fun c xs q=>by rw[Zn (Zv q hn)];exact q
variable {scope:Scope}
theorem Zd5 {y:Str} (h:scope.names.lookup y=some .free):∃c,(Zge scope X.env).lookup y=some c:=by
 have hm:=PySem.mem_of_lookup h
 refine VV (b:=(X.env.cells.lookup y).getD 0) ?_
 unfold Zge
 exact ZtP.mpr ⟨(y,.free),List.mem_reverse.mpr (ZtY.mpr ⟨hm,rfl⟩),rfl⟩
end
end L2
namespace HL
open PySem PyProof.Rows
section
open PySem.SeqAt
open PySem.AutoSeq1 (wpAny_loadPart')
open PySem.MeetsSeq PySem.MeetsSeq2 PySem.MeetsSeq3 SeqRoads2
end
section
end
end HL
namespace L2
open PySem PySem.Spec PyProof.Rows
section
variable {X:Cx}
theorem ZhG (hc:X.calm=true):Vb X (.builtin "sum") (fun xs H Q=>∃p,∃ns:List Int,xs=[.ref p]/\SqL X.K H p (ns.map V.int)/\Q (.int ns.sum) H):=by
 intro pins s σ H xs us Q I r h
 obtain⟨p,ns,rfl,hq,q⟩:=h
 obtain⟨u,rfl,rx⟩:=Zb3 r
 cases rx
 obtain⟨its,r',pl,hz⟩:=I.list hq
 have hi:IntsAre its ns:=QR r'
 obtain⟨xs,hx⟩:=hi.allInts.items
 have hl':s.heap.IsList p (intItems xs):=hx▸pl.isList
 refine sum_intListG (I.ok.hd hc) hl' fun h' tk t' hk=>?_
 have e1:ns=xs.toList.map (·.1):=by
  rw[<- nums_intItems,<- hx]
  exact(show numsOf its.toArray.toList=ns from hi.numsOf).symm
 have e2:preSum (numAt xs) xs.size=ns.sum:=by
  rw[preSum_eq,List.take_of_length_le (by simp),e1]
 rw[e2]
 exact⟨.int ns.sum,H,I.kept hk,⟨_,rfl⟩,q⟩
theorem Q9:∀{bs:List Bool}{us:List Value},ZQ (bs.map V.bl) us->LSm.BoolsAre us bs
 |[],_,.nil=>.nil
 |b::bs,_,.cons r t=>by
  cases r
  exact .cons b (Q9 t)
theorem ZhH (hc:X.calm=true):Vb X (.builtin "all") (fun xs H Q=>∃p,∃bs:List Bool,xs=[.ref p]/\SqL X.K H p (bs.map V.bl)/\Q (.bl (bs.all id)) H):=by
 intro pins s σ H xs us Q I r h
 obtain⟨p,bs,rfl,hq,q⟩:=h
 obtain⟨u,rfl,rx⟩:=Zb3 r
 cases rx
 obtain⟨its,r',pl,hz⟩:=I.list hq
 have hb:=Q9 r'
 have hlt:p<s.heap.objs.size:=by obtain⟨_,e,_⟩:=pl.isList;exact Heap.lt_size e
 refine call_all_walk (wpAny_pyIter_list pl.isList ?_)
 refine⟨s.heap.objs.size,[s.heap.objs.size,p],[s.heap.objs.size],its.toArray.size,_,_,fun i=>(bs[i]?).getD true,rfl,Walks.list (A:=X.A.in1) (I.ok.hd hc) _ p (Zti hlt) its.toArray,
  ⟨⟨_,Heap.get?_push_size _ rfl,rfl,rfl⟩,pl.isList.push _⟩,fun i v s' Q' E' hP hQ=>?_,fun h' tk hk=>?_⟩
 ·obtain⟨b,e,rfl⟩:=hb.get i v (by simpa using hP)
  dsimp only at hQ
  rw[e,Zuh] at hQ
  exact wpAny_truthy_bool hQ
 ·rw[ZsX,hb.length,LSm.range_all]
  exact⟨.bl (bs.all id),H,I.kept (LSm.kept_iter hk),rfl,q⟩
end
end L2
namespace HL
open PySem PyProof.Rows
section
end
section
open PySem.SeqAt
open PySem.AutoSeq1 (wpAny_loadPart')
open PySem.MeetsSeq PySem.MeetsSeq2 PySem.MeetsSeq3
end
end HL
namespace HL
open PySem
end HL
namespace L2
open PySem PySem.Spec PyProof.Rows
section
variable {X:Cx}
theorem Zgh (hc:X.calm=true):Vb X (.builtin "min") (fun xs H Q=>∃p,∃ns:List Int,xs=[.ref p]/\SqL X.K H p (ns.map V.int)/\0<ns.length/\∀m,m∈ns->(∀a∈ns,m<=a)->Q (.int m) H):=by
 intro pins s σ H xs us Q I r h
 obtain⟨p,ns,rfl,hq,hne,q⟩:=h
 obtain⟨u,rfl,rx⟩:=Zb3 r
 cases rx
 obtain⟨its,r',pl,hz⟩:=I.list hq
 have hi:IntsAre its ns:=QR r'
 obtain⟨zs,e⟩:=hi.allInts.items
 have hns:ns=zs.toList.map (·.1):=by rw[<- hi.numsOf,<- nums_intItems,<- e]
 have hsz:0<zs.size:=by
  have h3:=hne
  rw[hns,ZsS,Zt0] at h3
  exact h3
 have hl:=pl.isList
 rw[e] at hl
 refine min_intList (I.ok.hd hc) hl hsz fun v h' tk hv hk=>?_
 obtain⟨t,rfl⟩:=intItems_at hv
 obtain⟨h1,h2⟩:=argBest_lt (numAt zs) (zs.size-1)
 refine⟨.int _,H,I.kept hk,⟨_,rfl⟩,q _ ?_ fun a ha=>?_⟩
 ·rw[hns,numAt_eq];exact getD_mem (by rw[ZsS,Zt0];omega)
 ·rw[hns] at ha
  obtain⟨j,hj,rfl⟩:=mem_getD ha
  rw[ZsS,Zt0] at hj
  rw[<- numAt_eq];exact h2 j (by omega)
def Zkq (K:W.Frag):List V->Hp->VK->Prop:=fun xs H Q=>∃p,∃ns:List Int,xs=[.ref p]/\SqL K H p (ns.map V.int)/\0<ns.length/\∀m,m∈ns->(∀a∈ns,m<=a)->Q (.int m) H
end
def Dfn (K:W.Frag) (mg:Str->Option Value) (x:Str) (st:Stmt):Prop:=∃f fd,Fun K x x st f fd/\mg x=some (.ref f)
noncomputable abbrev Z2 (x:Str) (st:Stmt) (ps:List Str):Prop:=∀(kV doc pm:Value) (an:Option Addr) (cdv ct:Value) (us:List Value),us.length=ps.length ->
 bindArgs (PySem.W.fnOf x x (Zq st) (Zo st) (Zd st) .none kV doc pm an cdv ct) ⟨us,[]⟩=pure (ps.zip us)
def Ok (P:Program) (w:World) (K:W.Frag) (mg:Str->Option Value) (base:Heap) (k:Nat) (x:Str) (ps:List Str) (sp:Sp):Prop:=
 ∃f fd,Jk P w K mg base CX0 k f fd ps sp/\mg x=some (.ref f)/\PySem.W.keepIn K (.ref f)=true/\Us K fd ps []
theorem Zan {P:Program}{w:World}{K:W.Frag}{mg:Str->Option Value}{base:Heap}{k:Nat}{x:Str}{st:Stmt}{ps:List Str}{sp:Sp} (d:Dfn K mg x st) (b:Z2 x st ps)
  (h:∀{f fd},Fun K x x st f fd->Jk P w K mg base CX0 k f fd ps sp):Ok P w K mg base k x ps sp:=by
 obtain⟨f,fd,F,hm⟩:=d
 exact⟨f,fd,h F,hm,F.kp,F.binds b⟩
section
variable {X:Cx}{k:Nat}{x:Str}{ps:List Str}{sp:Sp}{p pos:Pos}{e:Expr}{es:List Expr}{t:TA}
noncomputable def Vl (sp:Sp) (t:TA):TE:=fun σ H Q=>t σ H fun vs H1=>sp vs H1 Q E0
theorem ZD (G:Ok X.prog X.w X.K X.mg X.base k x ps sp) (hr:V2 k X.A) (hg:Gl X x) (ha:PA X (e::es) t) (hdb:(x==("__debug__":Str))=false:=by decide)
  (he:starEach (e::es) X.env=(false,eval e X.env)::starEach es X.env:=by rfl) (hpl:(backTo pos (starEach es X.env)).any (·.1)=false:=by rfl):PE X (.Call (.Name x p) (e::es) [] pos) (Vl sp t):=by
 obtain⟨f,fd,F,hm,hk,hb⟩:=G
 intro pins s σ H Q I h
 refine ZiS (CX:=CX0) (E:=E0) (dvs:=[]) F hr hg hm hk hb .nil ZeT ha hdb he hpl pins s σ H Q I ?_
 have e:(fun vs H1=>sp (vs++[]) H1 Q E0)=fun vs H1=>sp vs H1 Q E0:=by funext vs H1;rw[Zt1]
 show t σ H (fun vs H1=>sp (vs++[]) H1 Q E0)
 rw[e]
 exact h
theorem ZeQ (G:Ok X.prog X.w X.K X.mg X.base k x ps sp) (hr:V2 k X.A) (hg:Gl X x) (hdb:(x==("__debug__":Str))=false:=by decide):PE X (.Call (.Name x p) [] [] pos) (Vl sp ZdC):=by
 obtain⟨f,fd,F,hm,hk,hb⟩:=G
 exact ZgN (CX:=CX0) (E:=E0) (dvs:=[]) F hr hg hm hk hb .nil ZeT hdb
theorem ZcM {i:Int} (hm:∃t,X.mg x=some (.int i t)) (hg:Gl X x) (hd:(x==("__debug__":Str))=false:=by decide):PE X (.Name x pos) (tC (.int i)):=by
 obtain⟨t,hm⟩:=hm
 exact ZiQ (v:=.int i) hg hm ⟨t,rfl⟩ hd
theorem Zht:Zm5 X (Zkr X.K):=by
 intro pins s σ H o i ov iv Q I ro ri h
 obtain⟨p,xs,i,z,rfl,rfl,hq,he,q⟩:=h
 cases ro
 obtain⟨t,rfl⟩:=ri
 obtain⟨its,r,pl,hz⟩:=I.list hq
 obtain⟨j,h1,h2,h3,h4,h5⟩:=Za2 he
 obtain⟨w,ew,rw'⟩:=r.get h2
 have hl:=r.length
 have hn:=QQ
 have fin:EP X pins σ Q w s:=⟨z,H,I,rw',q⟩
 by_cases h0:0<=i
 ·have hj:i.toNat=j:=by
   rw[seqIndex_of h0 h5] at h1
   exact Option.some.inj h1
  exact wpAny_getItem_list pl.isList h0 (by omega) (by rw[hj];simpa using ew) fin
 ·have hj:(i+(its.toArray.size:Int)).toNat=j:=by
   rw[seqIndex_neg (by omega) h4] at h1
   rw[ZsX,<- hl]
   exact Option.some.inj h1
  exact wpAny_getItem_list_neg pl.isList (by omega) (by rw[ZsX]<;>omega) (by omega) (by rw[hj];simpa using ew) fin
end
theorem Zgj {X:Cx}:Vb X (.builtin "len") (fun xs H Q=>∃p ys,xs=[.ref p]/\(SqL X.K H p ys\/SqT X.K H p ys)/\Q (.int ys.length) H):=Zbr
theorem JI:bootBuiltins "len"=some (.builtin "len"):=by decide +kernel
theorem Jy:bootBuiltins "isinstance"=some (.builtin "isinstance"):=by decide +kernel
theorem Zgq:bootBuiltins "sum"=some (.builtin "sum"):=by decide +kernel
theorem Zlw:bootBuiltins "all"=some (.builtin "all"):=by decide +kernel
theorem Zi3:bootBuiltins "min"=some (.builtin "min"):=by decide +kernel
theorem J9:bootBuiltins "list"=some (.type "list"):=by decide +kernel
theorem Zlo:bootBuiltins "int"=some (.type "int"):=by decide +kernel
theorem Zj6:bootBuiltins "bool"=some (.type "bool"):=by decide +kernel
theorem ZhI:bootBuiltins "tuple"=some (.type "tuple"):=by decide +kernel
section
variable {X:Cx}{K:W.Frag}
theorem Zt (e:X.K=K:=by rfl):IxR X (rIx K):=by subst e;exact ZkQ
theorem ZK (e:X.K=K:=by rfl):Vb X (.builtin "len") (fun xs H Q=>∃p ys,xs=[.ref p]/\(SqL K H p ys\/SqT K H p ys)/\Q (.int ys.length) H):=by subst e;exact Zgj
theorem Q7 (hc:X.calm=true) (e:X.K=K:=by rfl):Vb X (.builtin "sum") (fun xs H Q=>∃p,∃ns:List Int,xs=[.ref p]/\SqL K H p (ns.map V.int)/\Q (.int ns.sum) H):=by subst e;exact ZhG hc
theorem Zgk (hc:X.calm=true) (e:X.K=K:=by rfl):Vb X (.builtin "all") (fun xs H Q=>∃p,∃bs:List Bool,xs=[.ref p]/\SqL K H p (bs.map V.bl)/\Q (.bl (bs.all id)) H):=by subst e;exact ZhH hc
theorem ZU (e:X.K=K:=by rfl):Vb X (.type "list") (fun xs H Q=>∃p ys,xs=[.ref p]/\(SqL K H p ys\/SqT K H p ys)/\∀l,H l=none->Q (.ref l) (upd H l (.lst ys))):=by subst e;exact Zbq
theorem VP (e:X.K=K:=by rfl):SlR X (ZlM K):=by subst e;exact ZiF
theorem Zbb (e:X.K=K:=by rfl):Zm5 X (Zkr K):=by subst e;exact Zht
theorem Jv {tg l:Expr}{tl:TE} (hl:PE X l tl) (e:X.K=K:=by rfl):PI X tg l (Zji K tl):=by subst e;exact ZiO hl
variable {u:TS}{H:Hp}{b:TA}
theorem Zdi {n:Nat}{k:Int} (h0:0<=k) (h1:k<n):ixN n k=some k.toNat:=by unfold ixN;rw[if_pos h0,if_pos h1]
theorem Z0.upd {H H':Hp}{p:Addr}{o:HO} (h:Z0 H H') (hp:H p=none):Z0 H (upd H' p o):=fun b u e=>by
 rw[Zn (Zv e hp)]
 exact h b u e
theorem Z0.new {H:Hp}{p:Addr}{o:HO} (hp:H p=none):Z0 H (L2.upd H p o):=Z0.upd (Z0.refl H) hp
theorem UF {n:Nat} (h:n<=1000):n<=sizeLine:=Ztr h (by decide)
end
inductive Sh where
 |dk (ks:List Key)|dt (ks:List (List Key))|ob (n:Str) (fs:List Str)
  |jk
inductive PV where
 |non|bl (b:Bool)|int (i:Int)|str (x:Str)|lst (xs:List PV)|tup (xs:List PV)
  |exc (n:Str)
  |exa (n:Str) (i:Int)
  |box (p:Option Addr) (s:Sh) (xs:List PV)
  |fz (xs:List PV)
mutual
noncomputable def PV.flat:PV->Bool
 |.lst _=>false
 |.tup xs=>PV.flats xs
 |.non=>true
 |.bl _=>true
 |.int _=>true
 |.str _=>true
 |.exc _=>true
 |.exa _ _=>true
 |.box _ _ _=>false
 |.fz xs=>PV.flats xs
noncomputable def PV.flats:List PV->Bool
 |[]=>true
 |x::xs=>x.flat&&PV.flats xs
end
def KL (K:W.Frag) (a:Addr) (xs:List V):Prop:=
 ∃(o:Obj) (its:Array Value) (n:Nat),K.lookup a=some o/\o.cls=.type "list"/\o.dict=none/\o.data=.seq its n/\its.size<=sizeLine/\ZQ xs its.toList
noncomputable def ImO:HO->Prop
 |.tup _=>True
 |.frz _ _=>True
 |.xd _=>True
 |_=>False
def Im (K:W.Frag) (H:Hp) (a:Addr) (u:HO):Prop:=H a=some u/\ImO u
noncomputable def Lvo:HO->Prop
 |.lst _=>True
 |.dK _=>True
 |.dT _=>True
 |.ins _ _ _=>True
 |_=>False
noncomputable abbrev LvO:={ u:HO // Lvo u }
def UJ (K:W.Frag) (n:Str) (C:Addr):Prop:=PySem.W.nsIn K mainGlobals n=some (some (.ref C))
def Zl2 (K:W.Frag) (H:Hp) (n:Str) (v:V):Prop:=∃a o C,v=.ref a/\Im K H a (.frz o (.own a))/\o.cls=.ref C/\o.dict=none/\PySem.W.notCls o=true/\UJ K n C
def Zl3 (K:W.Frag) (H:Hp) (n:Str) (i:Int) (v:V):Prop:=∃a o C d fs,v=.ref a/\Im K H a (.frz o (.own a))/\Im K H d (.xd fs)/\o.cls=.ref C/\o.dict=some d/\PySem.W.notCls o=true/\UJ K n C/\fs=[(("at":Str),V.int i)]
noncomputable def ZjR (K:W.Frag):Sh->List V->HO->Prop
 |.dk ks,vs,u=>ks.length=vs.length/\u=.dK (ks.zip vs)
 |.dt ks,vs,u=>ks.length=vs.length/\u=.dT (ks.zip vs)
 |.ob n fs,vs,u=>fs.length=vs.length/\∃C dx,u=.ins C dx (fs.zip vs)/\UJ K n C
 |.jk,vs,u=>vs=[]/\∃ws,u=.lst ws
def ZlC (p:Option Addr) (a:Addr):Prop:=match p with
 |none=>True
 |some b=>a=b
theorem ZjR.lv {K:W.Frag}{s:Sh}{vs:List V}{u:HO} (h:ZjR K s vs u):Lvo u:=by
 cases s with
 |dk ks=>obtain⟨_,rfl⟩:=h;trivial
 |dt ks=>obtain⟨_,rfl⟩:=h;trivial
 |ob n fs=>obtain⟨_,C,dx,rfl,_⟩:=h;trivial
 |jk=>obtain⟨_,ws,rfl⟩:=h;trivial
theorem UE {u o:HO} (h:Lvo u) (h':ImO o):o≠u:=by
 intro e;subst e
 cases o<;>first|exact h|exact h'
def FzL (K:W.Frag) (H:Hp) (a:Addr) (vs:List V):Prop:=∃o,Im K H a (.frz o (.lst vs))
mutual
noncomputable def Rep (K:W.Frag) (H:Hp) (S:Addr->Prop):PV->V->Prop
 |.non,v=>v=.non
 |.bl b,v=>v=.bl b
 |.int i,v=>v=.int i
 |.str x,v=>v=.str x
 |.exc n,v=>Zl2 K H n v
 |.exa n i,v=>Zl3 K H n i v
 |.box p s xs,v=>∃a vs u,v=.ref a/\(Rd H a u/\S a)/\(ZlC p a/\ZjR K s vs u)/\Reps K H S xs vs
 |.lst xs,v=>∃a vs,v=.ref a/\((Rd H a (.lst vs)/\S a)\/KL K a vs)/\Reps K H S xs vs
 |.tup xs,v=>∃a vs,v=.ref a/\Im K H a (.tup vs)/\Reps K H S xs vs
 |.fz xs,v=>∃a vs,v=.ref a/\FzL K H a vs/\Reps K H S xs vs
noncomputable def Reps (K:W.Frag) (H:Hp) (S:Addr->Prop):List PV->List V->Prop
 |[],vs=>vs=[]
 |x::xs,vs=>∃v r,vs=v::r/\Rep K H S x v/\Reps K H S xs r
end
mutual
noncomputable def ZV (K:W.Frag) (H:Hp):PV->V->List Addr->Prop
 |.non,v,F=>v=.non/\F=[]
 |.bl b,v,F=>v=.bl b/\F=[]
 |.int i,v,F=>v=.int i/\F=[]
 |.str x,v,F=>v=.str x/\F=[]
 |.exc n,v,F=>Zl2 K H n v/\F=[]
 |.exa n i,v,F=>Zl3 K H n i v/\F=[]
 |.box p s xs,v,F=>∃a vs u G,v=.ref a/\H a=some u/\(ZlC p a/\ZjR K s vs u)/\Trees K H xs vs G/\a ∉ G/\F=a::G
 |.lst xs,v,F=>∃a vs G,v=.ref a/\H a=some (.lst vs)/\Trees K H xs vs G/\a ∉ G/\F=a::G
 |.tup xs,v,F=>∃a vs,v=.ref a/\Im K H a (.tup vs)/\Trees K H xs vs F
 |.fz xs,v,F=>∃a vs,v=.ref a/\FzL K H a vs/\Trees K H xs vs F
noncomputable def Trees (K:W.Frag) (H:Hp):List PV->List V->List Addr->Prop
 |[],vs,F=>vs=[]/\F=[]
 |x::xs,vs,F=>∃v r G1 G2,vs=v::r/\ZV K H x v G1/\Trees K H xs r G2/\(∀a∈G1,a ∉ G2)/\F=G1++G2
end
section
variable {K:W.Frag}{H H':Hp}{S S':Addr->Prop}
mutual
theorem Rep.mono (h1:∀a u,S a->Rd H a u->Rd H' a u/\S' a) (h2:∀a u,Im K H a u->Im K H' a u):∀{x:PV}{v:V},Rep K H S x v->Rep K H' S' x v
 |.non,_,h=>h
 |.bl _,_,h=>h
 |.int _,_,h=>h
 |.str _,_,h=>h
 |.exc n,_,h=>let ⟨a,o,C,e1,e2,e3⟩:=h;⟨a,o,C,e1,h2 a _ e2,e3⟩
 |.exa n i,_,h=>let ⟨a,o,C,d,fs,e1,e2,e2',e3⟩:=h;⟨a,o,C,d,fs,e1,h2 a _ e2,h2 d _ e2',e3⟩
 |.box p s xs,_,h=>by
  obtain⟨a,vs,u,rfl,⟨n1,n2⟩,hb,hr⟩:=h
  exact⟨a,vs,u,rfl,h1 a u n2 n1,hb,Reps.mono h1 h2 hr⟩
 |.lst xs,_,h=>by
  obtain⟨a,vs,rfl,hn,hr⟩:=h
  refine⟨a,vs,rfl, ?_,Reps.mono h1 h2 hr⟩
  rcases hn with ⟨n1,n2⟩|n
  ·exact .inl (h1 a _ n2 n1)
  ·exact .inr n
 |.tup xs,_,h=>by
  obtain⟨a,vs,rfl,hn,hr⟩:=h
  exact⟨a,vs,rfl,h2 a _ hn,Reps.mono h1 h2 hr⟩
 |.fz xs,_,h=>by
  obtain⟨a,vs,rfl,⟨o,hn⟩,hr⟩:=h
  exact⟨a,vs,rfl,⟨o,h2 a _ hn⟩,Reps.mono h1 h2 hr⟩
theorem Reps.mono (h1:∀a u,S a->Rd H a u->Rd H' a u/\S' a) (h2:∀a u,Im K H a u->Im K H' a u):∀{xs:List PV}{vs:List V},Reps K H S xs vs->Reps K H' S' xs vs
 |[],_,h=>h
 |x::xs,_,h=>by
  obtain⟨v,r,rfl,h3,h4⟩:=h
  exact⟨v,r,rfl,Rep.mono h1 h2 h3,Reps.mono h1 h2 h4⟩
end
mutual
theorem ZV.mono:∀{x:PV}{v:V}{F:List Addr},(∀a∈F,∀o,H a=some o->H' a=some o)->(∀a vs,Im K H a vs->Im K H' a vs)->ZV K H x v F->ZV K H' x v F
 |.non,_,_,_,_,h=>h
 |.bl _,_,_,_,_,h=>h
 |.int _,_,_,_,_,h=>h
 |.str _,_,_,_,_,h=>h
 |.exc n,_,_,_,h2,h=>let ⟨⟨a,o,C,e1,e2,e3⟩,e4⟩:=h;⟨⟨a,o,C,e1,h2 a _ e2,e3⟩,e4⟩
 |.exa n i,_,_,_,h2,h=>let ⟨⟨a,o,C,d,fs,e1,e2,e2',e3⟩,e4⟩:=h;⟨⟨a,o,C,d,fs,e1,h2 a _ e2,h2 d _ e2',e3⟩,e4⟩
 |.box p s xs,_,_,h1,h2,h=>by
  obtain⟨a,vs,u,G,rfl,ha,hb,ht,hn,rfl⟩:=h
  exact⟨a,vs,u,G,rfl,h1 a (by simp) _ ha,hb,Trees.mono (fun b hb o e=>h1 b (by simp[hb]) o e) h2 ht,hn,rfl⟩
 |.lst xs,_,_,h1,h2,h=>by
  obtain⟨a,vs,G,rfl,ha,ht,hn,rfl⟩:=h
  exact⟨a,vs,G,rfl,h1 a (by simp) _ ha,Trees.mono (fun b hb o e=>h1 b (by simp[hb]) o e) h2 ht,hn,rfl⟩
 |.tup xs,_,_,h1,h2,h=>by
  obtain⟨a,vs,rfl,ha,ht⟩:=h
  exact⟨a,vs,rfl,h2 a _ ha,Trees.mono h1 h2 ht⟩
 |.fz xs,_,_,h1,h2,h=>by
  obtain⟨a,vs,rfl,⟨o,ha⟩,ht⟩:=h
  exact⟨a,vs,rfl,⟨o,h2 a _ ha⟩,Trees.mono h1 h2 ht⟩
theorem Trees.mono:∀{xs:List PV}{vs:List V}{F:List Addr},(∀a∈F,∀o,H a=some o->H' a=some o)->(∀a vs,Im K H a vs->Im K H' a vs)->Trees K H xs vs F->Trees K H' xs vs F
 |[],_,_,_,_,h=>h
 |x::xs,_,_,h1,h2,h=>by
  obtain⟨v,r,G1,G2,rfl,h3,h4,hd,rfl⟩:=h
  exact⟨v,r,G1,G2,rfl,ZV.mono (fun b hb o e=>h1 b (by simp[hb]) o e) h2 h3,Trees.mono (fun b hb o e=>h1 b (by simp[hb]) o e) h2 h4,hd,rfl⟩
end
mutual
theorem ZV.rep:∀{x:PV}{v:V}{F:List Addr},(∀a∈F,S a)->ZV K H x v F->Rep K H S x v
 |.non,_,_,_,h=>h.1
 |.bl _,_,_,_,h=>h.1
 |.int _,_,_,_,h=>h.1
 |.str _,_,_,_,h=>h.1
 |.exc _,_,_,_,h=>h.1
 |.exa _ _,_,_,_,h=>h.1
 |.box p s xs,_,_,h1,h=>by
  obtain⟨a,vs,u,G,rfl,ha,hb,ht,hn,rfl⟩:=h
  exact⟨a,vs,u,rfl,⟨.inl ha,h1 a (by simp)⟩,hb,Trees.reps (fun b hb=>h1 b (by simp[hb])) ht⟩
 |.lst xs,_,_,h1,h=>by
  obtain⟨a,vs,G,rfl,ha,ht,hn,rfl⟩:=h
  exact⟨a,vs,rfl,.inl ⟨.inl ha,h1 a (by simp)⟩,Trees.reps (fun b hb=>h1 b (by simp[hb])) ht⟩
 |.tup xs,_,_,h1,h=>by
  obtain⟨a,vs,rfl,ha,ht⟩:=h
  exact⟨a,vs,rfl,ha,Trees.reps h1 ht⟩
 |.fz xs,_,_,h1,h=>by
  obtain⟨a,vs,rfl,ha,ht⟩:=h
  exact⟨a,vs,rfl,ha,Trees.reps h1 ht⟩
theorem Trees.reps:∀{xs:List PV}{vs:List V}{F:List Addr},(∀a∈F,S a)->Trees K H xs vs F->Reps K H S xs vs
 |[],_,_,_,h=>h.1
 |x::xs,_,_,h1,h=>by
  obtain⟨v,r,G1,G2,rfl,h3,h4,hd,rfl⟩:=h
  exact⟨v,r,rfl,ZV.rep (fun b hb=>h1 b (by simp[hb])) h3,Trees.reps (fun b hb=>h1 b (by simp[hb])) h4⟩
end
mutual
theorem ZV.alive:∀{x:PV}{v:V}{F:List Addr},ZV K H x v F->∀a∈F,∃vs:LvO,H a=some vs.1
 |.non,_,_,h=>by rw[h.2];simp
 |.bl _,_,_,h=>by rw[h.2];simp
 |.int _,_,_,h=>by rw[h.2];simp
 |.str _,_,_,h=>by rw[h.2];simp
 |.exc _,_,_,h=>by rw[h.2];simp
 |.exa _ _,_,_,h=>by rw[h.2];simp
 |.box p s xs,_,_,h=>by
  obtain⟨a,vs,u,G,rfl,ha,hb,ht,hn,rfl⟩:=h
  intro b hb'
  rcases ZsZ.mp hb' with rfl|hb'
  ·exact⟨⟨u,hb.2.lv⟩,ha⟩
  ·exact Trees.alive ht b hb'
 |.lst xs,_,_,h=>by
  obtain⟨a,vs,G,rfl,ha,ht,hn,rfl⟩:=h
  intro b hb
  rcases ZsZ.mp hb with rfl|hb
  ·exact⟨⟨.lst vs,trivial⟩,ha⟩
  ·exact Trees.alive ht b hb
 |.tup xs,_,_,h=>by
  obtain⟨a,vs,rfl,ha,ht⟩:=h
  exact Trees.alive ht
 |.fz xs,_,_,h=>by
  obtain⟨a,vs,rfl,ha,ht⟩:=h
  exact Trees.alive ht
theorem Trees.alive:∀{xs:List PV}{vs:List V}{F:List Addr},Trees K H xs vs F->∀a∈F,∃vs:LvO,H a=some vs.1
 |[],_,_,h=>by rw[h.2];simp
 |x::xs,_,_,h=>by
  obtain⟨v,r,G1,G2,rfl,h3,h4,hd,rfl⟩:=h
  intro b hb
  rcases ZsW.mp hb with hb|hb
  ·exact ZV.alive h3 b hb
  ·exact Trees.alive h4 b hb
end
mutual
theorem Rep.tree:∀{x:PV}{v:V},x.flat=true->Rep K H S x v->ZV K H x v []
 |.non,_,_,h=>⟨h,rfl⟩
 |.bl _,_,_,h=>⟨h,rfl⟩
 |.int _,_,_,h=>⟨h,rfl⟩
 |.str _,_,_,h=>⟨h,rfl⟩
 |.exc _,_,_,h=>⟨h,rfl⟩
 |.exa _ _,_,_,h=>⟨h,rfl⟩
 |.box p s xs,_,f,_=>by simp[PV.flat] at f
 |.lst xs,_,f,_=>by simp[PV.flat] at f
 |.tup xs,_,f,h=>by
  obtain⟨a,vs,rfl,ha,ht⟩:=h
  exact⟨a,vs,rfl,ha,Reps.trees (by simpa[PV.flat] using f) ht⟩
 |.fz xs,_,f,h=>by
  obtain⟨a,vs,rfl,ha,ht⟩:=h
  exact⟨a,vs,rfl,ha,Reps.trees (by simpa[PV.flat] using f) ht⟩
theorem Reps.trees:∀{xs:List PV}{vs:List V},PV.flats xs=true->Reps K H S xs vs->Trees K H xs vs []
 |[],_,_,h=>⟨h,rfl⟩
 |x::xs,_,f,h=>by
  obtain⟨v,r,rfl,h3,h4⟩:=h
  simp only[PV.flats,Bool.and_eq_true] at f
  exact⟨v,r,[],[],rfl,Rep.tree f.1 h3,Reps.trees f.2 h4,by simp,rfl⟩
end
theorem Rep.any (h:Rep K H S x v):Rep K H (fun _=>True) x v:=Rep.mono (fun a vs _ r=>⟨r,trivial⟩) (fun a vs r=>r) h
theorem Reps.any (h:Reps K H S xs vs):Reps K H (fun _=>True) xs vs:=Reps.mono (fun a vs _ r=>⟨r,trivial⟩) (fun a vs r=>r) h
theorem Rep.flatS {x:PV}{v:V} (f:x.flat=true) (h:Rep K H S x v):Rep K H S' x v:=ZV.rep (F:=[]) (by simp) (Rep.tree f h)
theorem Reps.flatS {xs:List PV}{vs:List V} (f:PV.flats xs=true) (h:Reps K H S xs vs):Reps K H S' xs vs:=Trees.reps (F:=[]) (by simp) (Reps.trees f h)
theorem Reps.length:∀{xs:List PV}{vs:List V},Reps K H S xs vs->vs.length=xs.length
 |[],_,h=>by rw[h];rfl
 |x::xs,_,h=>by
  obtain⟨v,r,rfl,h3,h4⟩:=h
  simp[Reps.length h4]
theorem Trees.length {xs:List PV}{vs:List V}{F:List Addr} (h:Trees K H xs vs F):vs.length=xs.length:=(Trees.reps (S:=fun _=>True) (fun _ _=>trivial) h).length
theorem Reps.get:∀{xs:List PV}{vs:List V}{i:Nat}{x:PV},Reps K H S xs vs->xs[i]?=some x->∃v,vs[i]?=some v/\Rep K H S x v
 |[],_,_,_,_,e=>by simp at e
 |y::xs,_,0,x,h,e=>by
  obtain⟨v,r,rfl,h3,h4⟩:=h
  simp at e;subst e
  exact⟨v,rfl,h3⟩
 |y::xs,_,i+1,x,h,e=>by
  obtain⟨v,r,rfl,h3,h4⟩:=h
  obtain⟨w,e1,e2⟩:=Reps.get (i:=i) h4 (by simpa using e)
  exact⟨w,by simpa using e1,e2⟩
theorem Reps.append:∀{xs ys:List PV}{vs ws:List V},Reps K H S xs vs->Reps K H S ys ws->Reps K H S (xs++ys) (vs++ws)
 |[],_,_,_,h,h'=>by rw[h];exact h'
 |x::xs,_,_,_,h,h'=>by
  obtain⟨v,r,rfl,h3,h4⟩:=h
  exact⟨v,r++_,rfl,h3,Reps.append h4 h'⟩
theorem Reps.one {x:PV}{v:V} (h:Rep K H S x v):Reps K H S [x] [v]:=⟨v,[],rfl,h,rfl⟩
theorem Reps.take:∀{xs:List PV}{vs:List V} (n:Nat),Reps K H S xs vs->Reps K H S (xs.take n) (vs.take n)
 |_,_,0,_=>by simp[Reps]
 |[],_,n+1,h=>by rw[h];rfl
 |y::xs,_,n+1,h=>by
  obtain⟨w,r,rfl,h3,h4⟩:=h
  exact⟨w,r.take n,rfl,h3,Reps.take n h4⟩
theorem Reps.drop:∀{xs:List PV}{vs:List V} (n:Nat),Reps K H S xs vs->Reps K H S (xs.drop n) (vs.drop n)
 |_,_,0,h=>h
 |[],_,n+1,h=>by rw[h];rfl
 |y::xs,_,n+1,h=>by
  obtain⟨w,r,rfl,h3,h4⟩:=h
  exact Reps.drop n h4
theorem Trees.append:∀{xs ys:List PV}{vs ws:List V}{F G:List Addr},Trees K H xs vs F->Trees K H ys ws G->(∀a∈F,a ∉ G)->Trees K H (xs++ys) (vs++ws) (F++G)
 |[],_,_,_,_,_,h,h',_=>by rw[h.1,h.2];exact h'
 |x::xs,_,_,_,_,_,h,h',hd=>by
  obtain⟨v,r,G1,G2,rfl,h3,h4,hd',rfl⟩:=h
  refine⟨v,r++_,G1,G2++_,rfl,h3,Trees.append h4 h' (fun a ha=>hd a (by simp[ha])),fun a ha z=>?_,by simp⟩
  rcases ZsW.mp z with z|z
  ·exact hd' a ha z
  ·exact hd a (by simp[ha]) z
theorem Trees.one {x:PV}{v:V}{F:List Addr} (h:ZV K H x v F):Trees K H [x] [v] F:=⟨v,[],F,[],rfl,h,⟨rfl,rfl⟩,by simp,by simp⟩
theorem PV.flats_all:∀{xs:List PV},PV.flats xs=true ↔ ∀x∈xs,x.flat=true
 |[]=>by simp[PV.flats]
 |x::xs=>by simp[PV.flats,PV.flats_all (xs:=xs)]
theorem PV.flats_ints (ns:List Int):PV.flats (ns.map PV.int)=true:=PV.flats_all.mpr (by simp[PV.flat])
theorem PV.flats_append {xs ys:List PV}:PV.flats (xs++ys)=(PV.flats xs&&PV.flats ys):=by
 induction xs with
 |nil=>simp[PV.flats]
 |cons x xs ih=>simp[PV.flats,ih,Bool.and_assoc]
theorem Rd.same (e:Z0 H H') (h:Rd H a u):Rd H' a u:=by
 rcases h with h|⟨o,h⟩
 ·exact .inl (e _ _ h)
 ·exact .inr ⟨o,e _ _ h⟩
theorem Z0.im (e:Z0 H H') {k:HO} (h:Im K H a k):Im K H' a k:=⟨e _ _ h.1,h.2⟩
theorem Im.sqT {vs:List V} (h:Im K H a (.tup vs)):SqT K H a vs:=.inl (.inl h.1)
theorem Rep.same (e:Z0 H H') (h:Rep K H S x v):Rep K H' S x v:=Rep.mono (fun a vs s r=>⟨r.same e,s⟩) (fun a vs r=>e.im r) h
theorem Reps.same (e:Z0 H H') (h:Reps K H S xs vs):Reps K H' S xs vs:=Reps.mono (fun a vs s r=>⟨r.same e,s⟩) (fun a vs r=>e.im r) h
theorem ZV.same (e:Z0 H H') (h:ZV K H x v F):ZV K H' x v F:=ZV.mono (fun a _ o q=>e a o q) (fun a vs r=>e.im r) h
theorem Trees.same (e:Z0 H H') (h:Trees K H xs vs F):Trees K H' xs vs F:=Trees.mono (fun a _ o q=>e a o q) (fun a vs r=>e.im r) h
theorem Im.putL {p:Addr}{us:LvO}{o:HO}{k:HO} (hp:H p=some us.1) (h:Im K H a k):Im K (upd H p o) a k:=
 ⟨by rw[Zn (ZkE h.1 hp (UE us.2 h.2))];exact h.1,h.2⟩
theorem ZV.putL {p:Addr}{us:LvO}{o:HO} (hp:H p=some us.1) (hS:p ∉ F) (h:ZV K H x v F):ZV K (upd H p o) x v F:=
 ZV.mono (fun a ha o q=>by
  have hne:a≠p:=fun z=>hS (z▸ha)
  rw[Zn hne];exact q) (fun a vs r=>Im.putL hp r) h
theorem Trees.putL {p:Addr}{us:LvO}{o:HO} (hp:H p=some us.1) (hS:p ∉ F) (h:Trees K H xs vs F):Trees K (upd H p o) xs vs F:=
 Trees.mono (fun a ha o q=>by
  have hne:a≠p:=fun z=>hS (z▸ha)
  rw[Zn hne];exact q) (fun a vs r=>Im.putL hp r) h
theorem ZV.put {p:Addr}{us:List V}{o:HO} (hp:H p=some (.lst us)) (hS:p ∉ F) (h:ZV K H x v F):ZV K (upd H p o) x v F:=ZV.putL (us:=⟨.lst us,trivial⟩) hp hS h
theorem Trees.put {p:Addr}{us:List V}{o:HO} (hp:H p=some (.lst us)) (hS:p ∉ F) (h:Trees K H xs vs F):Trees K (upd H p o) xs vs F:=Trees.putL (us:=⟨.lst us,trivial⟩) hp hS h
end
inductive Md|U|P|S|T|O
 deriving DecidableEq
def NO (B:Addr->Prop) (F:Nat->List Addr) (R:List Addr) (a:Addr):Prop:=B a/\a ∉ R/\∀i,a ∉ F i
def Ud (K:W.Frag) (H:Hp) (S:Addr->Prop) (m:Md) (x:PV) (o:Option (Option V)) (G:List Addr):Prop:=match m with
 |.U=>G=[]
 |.P=>G=[]/\∃v,o=some (some v)/\x.flat=true/\Rep K H (fun _=>True) x v
 |.S=>G=[]/\∃v,o=some (some v)/\Rep K H S x v
 |.T=>∃a vs xs,o=some (some (.ref a))/\x=.lst xs/\H a=some (.lst vs)/\Reps K H S xs vs/\G=[a]
 |.O=>∃v,o=some (some v)/\ZV K H x v G
structure Ag (K:PySem.W.Frag) (B:Addr->Prop) (H0 H:Hp) (σ:St) (Γ:List Md) (ρ:List PV) (F:Nat->List Addr) (R:List Addr):Prop where
 same:Z0 H0 H
 own:∀a,H0 a=none->B a
 young:∀i,∀a∈F i,H0 a=none
 youngR:∀a∈R,H0 a=none
 live:∀i,∀a∈F i,∃vs:LvO,H a=some vs.1
 liveR:∀a∈R,∃vs:LvO,H a=some vs.1
 disj:∀i j,i≠j->∀a∈F i,a ∉ F j
 disjR:∀i,∀a∈F i,a ∉ R
 lenS:σ.length=Γ.length
 lenR:ρ.length=Γ.length
 slot:∀i,Ud K H (NO B F R) (Γ.getD i .U) (ρ.getD i .non) σ[i]? (F i)
theorem Ud.mono {K:W.Frag}{H H':Hp}{S S':Addr->Prop}{m:Md}{x:PV}{o:Option (Option V)}{G:List Addr} (h:Ud K H S m x o G) (h1:∀a u,S a->Rd H a u->Rd H' a u/\S' a)
  (h2:∀a u,Im K H a u->Im K H' a u) (h3:∀a∈G,∀u,H a=some u->H' a=some u):Ud K H' S' m x o G:=by
 cases m with
 |U=>exact h
 |P =>
  obtain⟨e,v,h4,h5,h6⟩:=h
  exact⟨e,v,h4,h5,ZV.rep (F:=[]) (by simp) (ZV.mono (by simp) h2 (Rep.tree h5 h6))⟩
 |S =>
  obtain⟨e,v,h4,h5⟩:=h
  exact⟨e,v,h4,Rep.mono h1 h2 h5⟩
 |T =>
  obtain⟨a,vs,xs,h4,h5,h6,h7,rfl⟩:=h
  exact⟨a,vs,xs,h4,h5,h3 a (by simp) _ h6,Reps.mono h1 h2 h7,rfl⟩
 |O =>
  obtain⟨v,h4,h5⟩:=h
  exact⟨v,h4,ZV.mono (fun a ha o q=>h3 a ha o q) h2 h5⟩
section
variable {K:W.Frag}{B:Addr->Prop}{H0 H H':Hp}{σ:St}{Γ:List Md}{ρ:List PV}{F:Nat->List Addr}{R R':List Addr}
theorem Ag.grow (A:Ag K B H0 H σ Γ ρ F R) (e:Z0 H H'):Ag K B H0 H' σ Γ ρ F R:=
 ⟨A.same.trans e,A.own,A.young,A.youngR,fun i a ha=>let ⟨vs,q⟩:=A.live i a ha;⟨vs,e _ _ q⟩,fun a ha=>let ⟨vs,q⟩:=A.liveR a ha;⟨vs,e _ _ q⟩,A.disj,A.disjR,A.lenS,A.lenR,
  fun i=>(A.slot i).mono (fun a vs s r=>⟨r.same e,s⟩) (fun a vs r=>e.im r) fun a ha vs q=>e _ _ q⟩
theorem Ag.less (A:Ag K B H0 H σ Γ ρ F R) (h:∀a∈R',a∈R):Ag K B H0 H σ Γ ρ F R':=
 ⟨A.same,A.own,A.young,fun a ha=>A.youngR a (h a ha),A.live,fun a ha=>A.liveR a (h a ha),A.disj,fun i a ha z=>A.disjR i a ha (h a z),A.lenS,A.lenR,
  fun i=>(A.slot i).mono (fun a vs s r=>⟨r,s.1,fun z=>s.2.1 (h a z),s.2.2⟩) (fun a vs r=>r) fun a ha vs q=>q⟩
theorem Ag.more {G:List Addr} (A:Ag K B H0 H σ Γ ρ F R) (e:Z0 H H') (hf:∀a∈G,H a=none) (hl:∀a∈G,∃vs:LvO,H' a=some vs.1):Ag K B H0 H' σ Γ ρ F (G++R):=by
 refine⟨A.same.trans e,A.own,A.young,fun a ha=>?_,fun i a ha=>let ⟨vs,q⟩:=A.live i a ha;⟨vs,e _ _ q⟩,fun a ha=>?_,A.disj,fun i a ha z=>?_,A.lenS,A.lenR,fun i=>?_⟩
 ·rcases ZsW.mp ha with z|z
  ·exact A.same.free (hf a z)
  ·exact A.youngR a z
 ·rcases ZsW.mp ha with z|z
  ·exact hl a z
  ·obtain⟨vs,q⟩:=A.liveR a z
   exact⟨vs,e _ _ q⟩
 ·rcases ZsW.mp z with z|z
  ·obtain⟨vs,q⟩:=A.live i a ha
   rw[hf a z] at q;cases q
  ·exact A.disjR i a ha z
 ·refine(A.slot i).mono (fun a vs s r=>⟨r.same e,s.1,fun z=>?_,s.2.2⟩) (fun a vs r=>e.im r) fun a ha vs q=>e _ _ q
  rcases ZsW.mp z with z|z
  ·have:=hf a z
   rcases r with r|⟨o,r⟩<;>(rw[this] at r;cases r)
  ·exact s.2.1 z
theorem Ag.fresh (A:Ag K B H0 H σ Γ ρ F R) {p:Addr} (hp:H p=none):p ∉ R/\(∀i,p ∉ F i)/\H0 p=none/\B p:=by
 refine⟨fun z=>?_,fun i z=>?_,A.same.free hp,A.own p (A.same.free hp)⟩
 ·obtain⟨vs,q⟩:=A.liveR p z
  rw[hp] at q;cases q
 ·obtain⟨vs,q⟩:=A.live i p z
  rw[hp] at q;cases q
theorem Ag.new {p:Addr}{xs:List V} (A:Ag K B H0 H σ Γ ρ F R) (hp:H p=none):Ag K B H0 (upd H p (.lst xs)) σ Γ ρ F (p::R):=
 A.more (G:=[p]) (Z0.new hp) (fun a ha=>by rw[ZtD.mp ha];exact hp) fun a ha=>⟨⟨.lst xs,trivial⟩,by rw[ZtD.mp ha,Zw]⟩
theorem Ag.newB {p:Addr}{u:HO} (hu:Lvo u) (A:Ag K B H0 H σ Γ ρ F R) (hp:H p=none):Ag K B H0 (upd H p u) σ Γ ρ F (p::R):=
 A.more (G:=[p]) (Z0.new hp) (fun a ha=>by rw[ZtD.mp ha];exact hp) fun a ha=>⟨⟨u,hu⟩,by rw[ZtD.mp ha,Zw]⟩
theorem Ag.getO {i:Nat} (A:Ag K B H0 H σ Γ ρ F R) (h:Γ[i]?=some .O):∃v,σ[i]?=some (some v)/\ZV K H (ρ.getD i .non) v (F i):=by
 have:=A.slot i
 rw[ZsQ,h] at this
 exact this
theorem Ag.getT {i:Nat} (A:Ag K B H0 H σ Γ ρ F R) (h:Γ[i]?=some .T):∃a vs xs,σ[i]?=some (some (.ref a))/\ρ.getD i .non=.lst xs/\H a=some (.lst vs)/\Reps K H (NO B F R) xs vs/\F i=[a]:=by
 have:=A.slot i
 rw[ZsQ (l:=Γ),h] at this
 exact this
theorem Ag.getS {i:Nat} (A:Ag K B H0 H σ Γ ρ F R) (h:Γ[i]?=some .S):∃v,σ[i]?=some (some v)/\Rep K H (NO B F R) (ρ.getD i .non) v:=by
 have:=A.slot i
 rw[ZsQ (l:=Γ),h] at this
 exact this.2
theorem Ag.getP {i:Nat} (A:Ag K B H0 H σ Γ ρ F R) (h:Γ[i]?=some .P):∃v,σ[i]?=some (some v)/\(ρ.getD i .non).flat=true/\Rep K H (fun _=>True) (ρ.getD i .non) v:=by
 have:=A.slot i
 rw[ZsQ (l:=Γ),h] at this
 exact this.2
theorem Ag.getA {i:Nat}{m:Md} (A:Ag K B H0 H σ Γ ρ F R) (h:Γ[i]?=some m) (hm:m≠.U):∃v,σ[i]?=some (some v)/\Rep K H (fun _=>True) (ρ.getD i .non) v:=by
 cases m with
 |U=>exact absurd rfl hm
 |P=>obtain⟨v,h1,h2,h3⟩:=A.getP h;exact⟨v,h1,h3⟩
 |S=>obtain⟨v,h1,h2⟩:=A.getS h;exact⟨v,h1,h2.any⟩
 |T =>
  obtain⟨a,vs,xs,h1,h2,h3,h4,h5⟩:=A.getT h
  exact⟨_,h1,by rw[h2];exact⟨a,vs,rfl,.inl ⟨.inl h3,trivial⟩,h4.any⟩⟩
 |O=>obtain⟨v,h1,h2⟩:=A.getO h;exact⟨v,h1,h2.rep (fun _ _=>trivial)⟩
theorem Ag.lt {i:Nat}{m:Md} (A:Ag K B H0 H σ Γ ρ F R) (h:Γ[i]?=some m):i<Γ.length:=(Zta.mp h).1
noncomputable def VB (F:Nat->List Addr) (i:Nat) (G:List Addr):Nat->List Addr:=fun j=>if j=i then G else F j
theorem Zr {i:Nat}{G:List Addr}:VB F i G i=G:=if_pos rfl
theorem Zx {i j:Nat}{G:List Addr} (h:j≠i):VB F i G j=F j:=if_neg h
theorem Ag.put {i:Nat}{m:Md}{x:PV}{v:V}{G:List Addr} (A:Ag K B H0 H σ Γ ρ F (G++R)) (hi:i<Γ.length) (hG:∀a∈G,a ∉ R) (hs:Ud K H (NO B (VB F i G) R) m x (some (some v)) G) :
  Ag K B H0 H (σ.set i (some v)) (Γ.set i m) (ρ.set i x) (VB F i G) R:=by
 refine⟨A.same,A.own,fun j a ha=>?_,fun a ha=>A.youngR a (ZsT _ ha),fun j a ha=>?_,fun a ha=>A.liveR a (ZsT _ ha),fun j k hjk a ha z=>?_,fun j a ha z=>?_,by simp[A.lenS],by simp[A.lenR],fun j=>?_⟩
 ·by_cases h:j=i
  ·subst h;rw[Zr] at ha;exact A.youngR a (ZsU _ ha)
  ·rw[Zx h] at ha;exact A.young j a ha
 ·by_cases h:j=i
  ·subst h;rw[Zr] at ha;exact A.liveR a (ZsU _ ha)
  ·rw[Zx h] at ha;exact A.live j a ha
 ·by_cases h:j=i
  ·subst h
   rw[Zr] at ha
   rw[Zx (Ne.symm hjk)] at z
   exact A.disjR k a z (ZsU _ ha)
  ·rw[Zx h] at ha
   by_cases h':k=i
   ·subst h'
    rw[Zr] at z
    exact A.disjR j a ha (ZsU _ z)
   ·rw[Zx h'] at z
    exact A.disj j k hjk a ha z
 ·by_cases h:j=i
  ·subst h;rw[Zr] at ha;exact hG a ha z
  ·rw[Zx h] at ha;exact A.disjR j a ha (ZsT _ z)
 ·by_cases h:j=i
  ·subst h
   rw[Zr,ZsQ,ZsQ,Ztg hi,Ztg (by rw[A.lenR];exact hi),Ztg (by rw[A.lenS];exact hi)]
   exact hs
  ·rw[Zx h,ZsQ,ZsQ,Ztk (Ne.symm h),Ztk (Ne.symm h),Ztk (Ne.symm h),<- ZsQ,<- ZsQ]
   refine(A.slot j).mono (fun a vs s r=>⟨r,s.1,fun z=>s.2.1 (ZsT _ z),fun k z=>?_⟩) (fun a vs r=>r) fun a ha vs q=>q
   by_cases h':k=i
   ·subst h';rw[Zr] at z;exact s.2.1 (ZsU _ z)
   ·rw[Zx h'] at z;exact s.2.2 k z
theorem Ag.turn {i:Nat}{m m':Md}{G:List Addr} (A:Ag K B H0 H σ Γ ρ F R) (h:Γ[i]?=some m) (hG:∀a∈G,a∈F i) (hs:Ud K H (NO B (VB F i []) (G++R)) m' (ρ.getD i .non) σ[i]? []) :
  Ag K B H0 H σ (Γ.set i m') ρ (VB F i []) (G++R):=by
 have hi:=A.lt h
 refine⟨A.same,A.own,fun j a ha=>?_,fun a ha=>?_,fun j a ha=>?_,fun a ha=>?_,fun j k hjk a ha z=>?_,fun j a ha z=>?_,by simp[A.lenS],by simp[A.lenR],fun j=>?_⟩
 ·by_cases h:j=i
  ·subst h;rw[Zr] at ha;simp at ha
  ·rw[Zx h] at ha;exact A.young j a ha
 ·rcases ZsW.mp ha with z|z
  ·exact A.young i a (hG a z)
  ·exact A.youngR a z
 ·by_cases h:j=i
  ·subst h;rw[Zr] at ha;simp at ha
  ·rw[Zx h] at ha;exact A.live j a ha
 ·rcases ZsW.mp ha with z|z
  ·exact A.live i a (hG a z)
  ·exact A.liveR a z
 ·by_cases h:j=i
  ·subst h;rw[Zr] at ha;simp at ha
  ·by_cases h':k=i
   ·subst h';rw[Zr] at z;simp at z
   ·rw[Zx h] at ha;rw[Zx h'] at z;exact A.disj j k hjk a ha z
 ·by_cases h:j=i
  ·subst h;rw[Zr] at ha;simp at ha
  ·rw[Zx h] at ha
   rcases ZsW.mp z with z|z
   ·exact A.disj j i h a ha (hG a z)
   ·exact A.disjR j a ha z
 ·by_cases h:j=i
  ·subst h
   rw[Zr,ZsQ (l:=Γ.set _ _),Ztg hi]
   exact hs
  ·rw[Zx h,ZsQ (l:=Γ.set _ _),Ztk (Ne.symm h),<- ZsQ]
   refine(A.slot j).mono (fun a vs s r=>⟨r,s.1,fun z=>?_,fun k z=>?_⟩) (fun a vs r=>r) fun a ha vs q=>q
   ·rcases ZsW.mp z with z|z
    ·exact s.2.2 i (hG a z)
    ·exact s.2.1 z
   ·by_cases h':k=i
    ·subst h';rw[Zr] at z;simp at z
    ·rw[Zx h'] at z;exact s.2.2 k z
theorem Ag.move {i:Nat} (A:Ag K B H0 H σ Γ ρ F R) (h:Γ[i]?=some .O):Ag K B H0 H σ (Γ.set i .U) ρ (VB F i []) (F i++R):=A.turn (G:=F i) h (fun a ha=>ha) rfl
end
noncomputable abbrev PX:=Str×PV
inductive Rr (α:Type) where
 |ok (a:α)|exc (e:PX)|bad
noncomputable def Rr.bind {α β:Type}:Rr α->(α->Rr β)->Rr β
 |.ok a,f=>f a
 |.exc e,_=>.exc e
 |.bad,_=>.bad
def Dn {α:Type} (r:Rr α) (ok:α->Prop) (ex:PX->Prop):Prop:=match r with
 |.ok a=>ok a
 |.exc e=>ex e
 |.bad=>False
theorem Dn.bind {α β:Type}{r:Rr α}{f:α->Rr β}{ok:β->Prop}{ex:PX->Prop} (h:Dn (r.bind f) ok ex):Dn r (fun a=>Dn (f a) ok ex) ex:=by
 cases r with
 |ok a=>exact h
 |exc e=>exact h
 |bad=>exact h
theorem Dn.imp {α:Type}{r:Rr α}{ok ok':α->Prop}{ex ex':PX->Prop} (h:Dn r ok ex) (h1:∀a,r=.ok a->ok a->ok' a) (h2:∀e,ex e->ex' e):Dn r ok' ex':=by
 cases r with
 |ok a=>exact h1 a rfl h
 |exc e=>exact h2 e h
 |bad=>exact h
@[simp] theorem Rr.bind_ok {α β:Type}{a:α}{f:α->Rr β}:(Rr.ok a).bind f=f a:=rfl
@[simp] theorem Rr.bind_exc {α β:Type}{e:PX}{f:α->Rr β}:(Rr.exc e:Rr α).bind f=.exc e:=rfl
@[simp] theorem Rr.bind_bad {α β:Type}{f:α->Rr β}:(Rr.bad:Rr α).bind f=.bad:=rfl
inductive Kd|P|F|T|Z|A|N
def Res (K:W.Frag) (B:Addr->Prop) (H0 H:Hp) (σ:St) (Γ':List Md) (ρ:List PV) (F:Nat->List Addr) (R:List Addr) (k:Kd) (x:PV) (v:V) (H':Hp):Prop:=
 ∃F',(∀i,∀a∈F' i,a∈F i)/\match k with
 |.P=>x.flat=true/\Rep K H' (fun _=>True) x v/\Ag K B H0 H' σ Γ' ρ F' R
 |.F=>∃G,ZV K H' x v G/\(∀a∈G,a ∉ R/\(H a=none\/∃i,a∈F i))/\Ag K B H0 H' σ Γ' ρ F' (G++R)
 |.T=>∃a vs xs,x=.lst xs/\v=.ref a/\H' a=some (.lst vs)/\Reps K H' (NO B F' (a::R)) xs vs/\a ∉ R/\(H a=none\/∃i,a∈F i)/\Ag K B H0 H' σ Γ' ρ F' (a::R)
 |.Z=>Rep K H' (NO B F' R) x v/\Ag K B H0 H' σ Γ' ρ F' R
 |.A=>Rep K H' (fun _=>True) x v/\Ag K B H0 H' σ Γ' ρ F' R
 |.N=>False
def DE (K:W.Frag) (EX:PX->Hp->Prop) (Γ Γ':List Md) (k:Kd) (te:TE) (f:List PV->Rr PV):Prop:=
 ∀(B:Addr->Prop) (H0 H:Hp) (σ:St) (ρ:List PV) (F:Nat->List Addr) (R:List Addr) (Q:VK),Ag K B H0 H σ Γ ρ F R ->
  Dn (f ρ) (fun x=>∀v H',Z0 H H'->Res K B H0 H σ Γ' ρ F R k x v H'->Q v H') (fun e=>∀H',Z0 H0 H'->EX e H')->te σ H Q
def DT (K:W.Frag) (EX:PX->Hp->Prop) (Γ Γ':List Md) (tt:TT) (f:List PV->Rr Bool):Prop:=
 ∀(B:Addr->Prop) (H0 H:Hp) (σ:St) (ρ:List PV) (F:Nat->List Addr) (R:List Addr) (Q:Bool->Hp->Prop),Ag K B H0 H σ Γ ρ F R ->
  Dn (f ρ) (fun b=>∀H' F',Z0 H H'->(∀i,∀a∈F' i,a∈F i)->Ag K B H0 H' σ Γ' ρ F' R->Q b H') (fun e=>∀H',Z0 H0 H'->EX e H')->tt σ H Q
section
variable {K:W.Frag}{B:Addr->Prop}{EX:PX->Hp->Prop}{H0 H H':Hp}{σ:St}{Γ Γ' Γ1 Γ2:List Md}{ρ:List PV}{F F':Nat->List Addr}{R:List Addr}{k:Kd}{x:PV}{v:V}{te ta tb:TE}{f fa fb:List PV->Rr PV}
theorem Res.ag (h:Res K B H0 H σ Γ' ρ F R k x v H'):∃F',(∀i,∀a∈F' i,a∈F i)/\Rep K H' (fun _=>True) x v/\Ag K B H0 H' σ Γ' ρ F' R:=by
 obtain⟨F',hF,h⟩:=h
 refine⟨F',hF, ?_⟩
 cases k with
 |P=>exact⟨h.2.1,h.2.2⟩
 |F=>obtain⟨G,h1,h2,h3⟩:=h;exact⟨h1.rep fun _ _=>trivial,h3.less fun a ha=>ZsT _ ha⟩
 |T=>obtain⟨a,vs,xs,rfl,rfl,h1,h2,h3,h4,h5⟩:=h;exact⟨⟨a,vs,rfl,.inl ⟨.inl h1,trivial⟩,h2.any⟩,h5.less fun a ha=>Zth _ ha⟩
 |Z=>exact⟨h.1.any,h.2⟩
 |A=>exact h
 |N=>exact h.elim
theorem Res.toA (h:Res K B H0 H σ Γ' ρ F R k x v H'):Res K B H0 H σ Γ' ρ F R .A x v H':=let ⟨F',a,b,c⟩:=h.ag;⟨F',a,b,c⟩
theorem Res.PF (h:Res K B H0 H σ Γ' ρ F R .P x v H'):Res K B H0 H σ Γ' ρ F R .F x v H':=by
 obtain⟨F',hF,h1,h2,h3⟩:=h
 exact⟨F',hF,[],h2.tree h1,by simp,h3⟩
theorem Res.FZ (h:Res K B H0 H σ Γ' ρ F R .F x v H'):Res K B H0 H σ Γ' ρ F R .Z x v H':=by
 obtain⟨F',hF,G,h1,h2,h3⟩:=h
 exact⟨F',hF,h1.rep fun a ha=>⟨h3.own a (h3.youngR a (ZsU _ ha)),(h2 a ha).1,fun i z=>h3.disjR i a z (ZsU _ ha)⟩,h3.less fun a ha=>ZsT _ ha⟩
theorem DE.imp {k':Kd} (h:DE K EX Γ Γ' k te f) (hr:∀{B:Addr->Prop}{H0 H H':Hp}{σ:St}{ρ:List PV}{F:Nat->List Addr}{R:List Addr}{x:PV}{v:V},Res K B H0 H σ Γ' ρ F R k x v H'->Res K B H0 H σ Γ' ρ F R k' x v H'):DE K EX Γ Γ' k' te f:=
 fun B H0 H σ ρ F R Q A d=>h B H0 H σ ρ F R Q A (d.imp (fun x _ q v H' s r=>q v H' s (hr r)) fun e q=>q)
theorem DE.toA (h:DE K EX Γ Γ' k te f):DE K EX Γ Γ' .A te f:=h.imp Res.toA
theorem DE.PF (h:DE K EX Γ Γ' .P te f):DE K EX Γ Γ' .F te f:=h.imp Res.PF
theorem DE.FZ (h:DE K EX Γ Γ' .F te f):DE K EX Γ Γ' .Z te f:=h.imp Res.FZ
noncomputable def grd (x:PV):Rr PV:=if x.flat=true then .ok x else .bad
theorem DE.grd (h:DE K EX Γ Γ' .A te f):DE K EX Γ Γ' .P te (fun ρ=>(f ρ).bind grd):=fun B H0 H σ ρ F R Q A d=>by
 refine h B H0 H σ ρ F R Q A (d.bind.imp (fun x _ q v H' s r=>?_) fun e q=>q)
 unfold L2.grd at q
 by_cases hx:x.flat=true
 ·rw[if_pos hx] at q
  obtain⟨F',h1,h2,h3⟩:=r
  exact q v H' s ⟨F',h1,hx,h2,h3⟩
 ·rw[if_neg hx] at q;exact q.elim
theorem Zml {v:V} (hf:x.flat=true) (hr:∀H,Rep K H (fun _=>True) x v):DE K EX Γ Γ .P (tC v) (fun _=>.ok x):=fun B H0 H σ ρ F R Q A d =>
 d v H (Z0.refl H) ⟨F,fun _ _ h=>h,hf,hr H,A⟩
theorem Zk {i:Int}:DE K EX Γ Γ .P (tC (.int i)) (fun _=>.ok (.int i)):=Zml rfl fun _=>rfl
theorem Zeh {b:Bool}:DE K EX Γ Γ .P (tC (.bl b)) (fun _=>.ok (.bl b)):=Zml rfl fun _=>rfl
theorem V6 {x:Str}:DE K EX Γ Γ .P (tC (.str x)) (fun _=>.ok (.str x)):=Zml rfl fun _=>rfl
noncomputable def gv (i:Nat) (ρ:List PV):PV:=ρ.getD i .non
theorem Zc {i:Nat}{m:Md} (h:Γ[i]?=some m) (hm:m≠.U):DE K EX Γ Γ .A (Ut i) (fun ρ=>.ok (gv i ρ)):=fun B H0 H σ ρ F R Q A d=>by
 obtain⟨v,h1,h2⟩:=A.getA h hm
 exact⟨v,h1,d v H (Z0.refl H) ⟨F,fun _ _ h=>h,h2,A⟩⟩
theorem Zi {i:Nat} (h:Γ[i]?=some .P):DE K EX Γ Γ .P (Ut i) (fun ρ=>.ok (gv i ρ)):=fun B H0 H σ ρ F R Q A d=>by
 obtain⟨v,h1,h2,h3⟩:=A.getP h
 exact⟨v,h1,d v H (Z0.refl H) ⟨F,fun _ _ h=>h,h2,h3,A⟩⟩
theorem Vs {i:Nat} (h:Γ[i]?=some .S):DE K EX Γ Γ .Z (Ut i) (fun ρ=>.ok (gv i ρ)):=fun B H0 H σ ρ F R Q A d=>by
 obtain⟨v,h1,h2⟩:=A.getS h
 exact⟨v,h1,d v H (Z0.refl H) ⟨F,fun _ _ h=>h,h2,A⟩⟩
theorem ZcR {i:Nat}{F:Nat->List Addr}:∀j,∀a∈VB F i [] j,a∈F j:=fun j a ha=>by
 by_cases h:j=i
 ·subst h;rw[Zr] at ha;simp at ha
 ·rw[Zx h] at ha;exact ha
theorem Uo {i:Nat} (h:Γ[i]?=some .O):DE K EX Γ (Γ.set i .U) .F (Ut i) (fun ρ=>.ok (gv i ρ)):=fun B H0 H σ ρ F R Q A d=>by
 obtain⟨v,h1,h2⟩:=A.getO h
 exact⟨v,h1,d v H (Z0.refl H) ⟨VB F i [],ZcR,F i,h2,fun a ha=>⟨A.disjR i a ha,.inr ⟨i,ha⟩⟩,A.move h⟩⟩
def OpP (K:W.Frag) (r:R2) (o:PV->PV->Rr PV):Prop:=∀{H:Hp}{x y:PV}{v w:V}{Q:VK},Rep K H (fun _=>True) x v->Rep K H (fun _=>True) y w ->
 (∃z,o x y=.ok z/\(z.flat=true->∀u,Rep K H (fun _=>True) z u->Q u H))->r v w H Q
theorem Dn.bind2 {α β γ:Type}{r:Rr α}{q:Rr β}{f:α->β->Rr γ}{ok:γ->Prop}{ex:PX->Prop} (h:Dn (r.bind fun a=>q.bind fun b=>f a b) ok ex):Dn r (fun a=>Dn q (fun b=>Dn (f a b) ok ex) ex) ex:=
 h.bind.imp (fun a _ h=>h.bind) fun e h=>h
theorem two {Q:V->V->Hp->Prop}{ok:PV->PV->Prop} (ha:DE K EX Γ Γ1 .A ta fa) (hb:DE K EX Γ1 Γ2 .A tb fb) (A:Ag K B H0 H σ Γ ρ F R)
  (d:Dn (fa ρ) (fun x=>Dn (fb ρ) (fun y=>ok x y) (fun e=>∀H',Z0 H0 H'->EX e H')) (fun e=>∀H',Z0 H0 H'->EX e H'))
  (hq:∀x y v w H' F',ok x y->Z0 H H'->(∀i,∀a∈F' i,a∈F i)->Rep K H' (fun _=>True) x v->Rep K H' (fun _=>True) y w->Ag K B H0 H' σ Γ2 ρ F' R->Q v w H') :
  ta σ H fun v H1=>tb σ H1 fun w H2=>Q v w H2:=by
 refine ha B H0 H σ ρ F R _ A (d.imp (fun x _ d v H1 s1 r1=>?_) fun e q=>q)
 obtain⟨F1,f1,p1,A1⟩:=r1
 refine hb B H0 H1 σ ρ F1 R _ A1 (d.imp (fun y _ q w H2 s2 r2=>?_) fun e q=>q)
 obtain⟨F2,f2,p2,A2⟩:=r2
 exact hq x y v w H2 F2 q (s1.trans s2) (fun i a h=>f1 i a (f2 i a h)) (p1.same s2) p2 A2
theorem Zh7 {r:R2}{o:PV->PV->Rr PV} (hr:OpP K r o) (ho:∀x y z,o x y=.ok z->z.flat=true) (hx:∀x y e,o x y≠.exc e) (ha:DE K EX Γ Γ1 .A ta fa) (hb:DE K EX Γ1 Γ2 .A tb fb) :
  DE K EX Γ Γ2 .P (tOp r ta tb) (fun ρ=>(fa ρ).bind fun x=>(fb ρ).bind fun y=>o x y):=fun B H0 H σ ρ F R Q A d=>by
 refine two ha hb A d.bind2 fun x y v w H' F' d s hF p1 p2 A'=>?_
 cases e:o x y with
 |ok z=>rw[e] at d;exact hr p1 p2 ⟨z,e,fun hf u hu=>d u H' s ⟨F',hF,hf,hu,A'⟩⟩
 |exc q=>exact absurd e (hx x y q)
 |bad=>rw[e] at d;exact d.elim
def UnP (K:W.Frag) (r:V->Hp->VK->Prop) (o:PV->Rr PV):Prop:=∀{H:Hp}{x:PV}{v:V}{Q:VK},Rep K H (fun _=>True) x v->(∃z,o x=.ok z/\(z.flat=true->∀u,Rep K H (fun _=>True) z u->Q u H))->r v H Q
theorem Zmi {r:V->Hp->VK->Prop}{o:PV->Rr PV} (hr:UnP K r o) (hx:∀x e,o x≠.exc e) (ha:DE K EX Γ Γ1 .A ta fa):DE K EX Γ Γ1 .P (tUn r ta) (fun ρ=>(fa ρ).bind o):=fun B H0 H σ ρ F R Q A d=>by
 refine ha B H0 H σ ρ F R _ A (d.bind.imp (fun x _ d v H1 s1 r1=>?_) fun e q=>q)
 obtain⟨F1,f1,p1,A1⟩:=r1
 cases e:o x with
 |ok z=>rw[e] at d;exact hr p1 ⟨z,e,fun hf u hu=>d u H1 s1 ⟨F1,f1,hf,hu,A1⟩⟩
 |exc q=>exact absurd e (hx x q)
 |bad=>rw[e] at d;exact d.elim
noncomputable def oI (C:Int->Int->Bool) (g:Int->Int->PV) (x y:PV):Rr PV:=match x,y with
 |.int i,.int j=>if C i j=true then .ok (g i j) else .bad
 |_,_=>.bad
theorem ZcV {C:Int->Int->Bool}{g:Int->Int->PV}{i j:Int} (h:C i j=true):oI C g (.int i) (.int j)=.ok (g i j):=if_pos h
theorem Zng {C:Int->Int->Bool}{D:Int->Int->Prop}{g:Int->Int->PV}{g':Int->Int->V} (hC:∀i j,C i j=true->D i j) (hg:∀H i j,Rep K H (fun _=>True) (g i j) (g' i j)) (hf:∀i j,(g i j).flat=true):OpP K (rI D g') (oI C g):=by
 intro H x y v w Q rx ry ⟨z,e,q⟩
 cases x<;>cases y<;>first|(simp only[oI] at e;cases e;done)|skip
 rename_i i j
 simp only[oI] at e
 by_cases h:C i j=true
 ·rw[if_pos h] at e;cases e
  cases rx;cases ry
  exact⟨i,j,rfl,rfl,hC i j h,q (hf i j) _ (hg H i j)⟩
 ·rw[if_neg h] at e;cases e
theorem ZlZ {g:Int->Int->PV}{g':Int->Int->V} (hg:∀H i j,Rep K H (fun _=>True) (g i j) (g' i j)) (hf:∀i j,(g i j).flat=true):OpP K (rI0 g') (oI (fun _ _=>true) g):=by
 intro H x y v w Q rx ry ⟨z,e,q⟩
 cases x<;>cases y<;>first|(simp only[oI] at e;cases e;done)|skip
 rename_i i j
 simp only[oI,if_true] at e
 cases e;cases rx;cases ry
 exact⟨i,j,rfl,rfl,q (hf i j) _ (hg H i j)⟩
theorem ZcU {C:Int->Int->Bool}{g:Int->Int->PV} (x y:PV) (e:PX):oI C g x y≠.exc e:=by
 cases x<;>cases y<;>first|(intro h;simp only[oI] at h;cases h;done)|skip
 intro h
 simp only[oI] at h
 split at h<;>cases h
theorem Zfn {C:Int->Int->Bool}{g:Int->Int->PV} (hf:∀i j,(g i j).flat=true) (x y z:PV) (h:oI C g x y=.ok z):z.flat=true:=by
 cases x<;>cases y<;>first|(simp only[oI] at h;cases h;done)|skip
 simp only[oI] at h
 split at h
 ·cases h;exact hf _ _
 ·cases h
end
mutual
noncomputable def PV.noX:PV->Bool
 |.exc _=>false
 |.exa _ _=>false
 |.box _ _ _=>false
 |.fz xs=>PV.noXs xs
 |.lst xs=>PV.noXs xs
 |.tup xs=>PV.noXs xs
 |.non=>true
 |.bl _=>true
 |.int _=>true
 |.str _=>true
noncomputable def PV.noXs:List PV->Bool
 |[]=>true
 |x::xs=>x.noX&&PV.noXs xs
end
theorem PV.noXs_ints:∀(ns:List Int),PV.noXs (ns.map PV.int)=true
 |[]=>rfl
 |n::ns=>by simp[PV.noXs,PV.noX,PV.noXs_ints ns]
mutual
noncomputable def PV.dat:PV->PyData
 |.non=>.none
 |.bl b=>.bool b
 |.int i=>.int i
 |.str x=>.str x
 |.exc _=>.none
 |.exa _ _=>.none
 |.box _ _ _=>.none
 |.fz xs=>.list (PV.dats xs)
 |.lst xs=>.list (PV.dats xs)
 |.tup xs=>.tuple (PV.dats xs)
noncomputable def PV.dats:List PV->List PyData
 |[]=>[]
 |x::xs=>x.dat::PV.dats xs
end
section
variable {X:Cx}{pins:List (Addr×Obj)}{σ:St}{H:Hp}{s:Shared}{S:Addr->Prop}
theorem JN {K:W.Frag}{a:Addr}{vs:List V} (h:(Rd H a (.lst vs)/\S a)\/KL K a vs):SqL K H a vs:=by
 rcases h with h|h
 ·exact .inl h.1
 ·exact .inr h
mutual
theorem Rep.reads (I:Inv X pins σ H s):∀{x:PV}{v:V}{u:Value},x.noX=true->Rep X.K H S x v->Ja v u->∃as,Reads s.heap u x.dat as
 |.non,_,_,_,h,r=>by cases h;cases r;exact⟨_,.none⟩
 |.bl _,_,_,_,h,r=>by cases h;cases r;exact⟨_,.bool _⟩
 |.int _,_,_,_,h,r=>by cases h;obtain⟨t,rfl⟩:=r;exact⟨_,.int _ _⟩
 |.str _,_,_,_,h,r=>by cases h;obtain⟨t,rfl⟩:=r;exact⟨_,.str _ _⟩
 |.exc _,_,_,z,_,_=>by simp[PV.noX] at z
 |.exa _ _,_,_,z,_,_=>by simp[PV.noX] at z
 |.box _ _ _,_,_,z,_,_=>by simp[PV.noX] at z
 |.fz xs,_,_,z,h,r=>by
  obtain⟨a,vs,rfl,⟨o,hn⟩,hr⟩:=h
  cases r
  obtain⟨its,rv,pl,_⟩:=I.list (JN (S:=fun _=>True) (.inl ⟨.inr ⟨o,hn.1⟩,trivial⟩))
  obtain⟨as,ra⟩:=Reps.reads I (by simpa[PV.noX] using z) hr rv
  obtain⟨o,ho,hc,n,hd⟩:=pl.isList
  exact⟨_,.list ho hc hd (by simpa using ra)⟩
 |.lst xs,_,_,z,h,r=>by
  obtain⟨a,vs,rfl,hn,hr⟩:=h
  cases r
  obtain⟨its,rv,pl,_⟩:=I.list (JN hn)
  obtain⟨as,ra⟩:=Reps.reads I (by simpa[PV.noX] using z) hr rv
  obtain⟨o,ho,hc,n,hd⟩:=pl.isList
  exact⟨_,.list ho hc hd (by simpa using ra)⟩
 |.tup xs,_,_,z,h,r=>by
  obtain⟨a,vs,rfl,hn,hr⟩:=h
  cases r
  obtain⟨its,rv,⟨o,ho,hc,n,hd⟩,_⟩:=I.tuple hn.sqT
  obtain⟨as,ra⟩:=Reps.reads I (by simpa[PV.noX] using z) hr rv
  exact⟨_,.tuple ho hc hd (by simpa using ra)⟩
theorem Reps.reads (I:Inv X pins σ H s):∀{xs:List PV}{vs:List V}{us:List Value},PV.noXs xs=true->Reps X.K H S xs vs->ZQ vs us->∃as,ReadsAll s.heap us (PV.dats xs) as
 |[],_,_,_,h,r=>by rw[h] at r;cases r;exact⟨_,.nil⟩
 |x::xs,_,_,z,h,r=>by
  simp only[PV.noXs,Bool.and_eq_true] at z
  obtain⟨v,vs,rfl,h1,h2⟩:=h
  cases r with
  |cons r1 r2 =>
   obtain⟨as,a1⟩:=Rep.reads I z.1 h1 r1
   obtain⟨bs,b1⟩:=Reps.reads I z.2 h2 r2
   exact⟨_,.cons a1 b1⟩
end
noncomputable def okD (x:PV):Bool:=x.noX&&x.dat.canLay0&&decide (x.dat.depth<=64)
noncomputable def ZlO (K:W.Frag) (g:Bool->Bool):R2:=fun x y H Q=>∃p q,Rep K H (fun _=>True) p x/\Rep K H (fun _=>True) q y/\okD p=true/\okD q=true/\Q (.bl (g (PyData.eqv p.dat q.dat))) H
theorem JP {K:W.Frag} (hu:X.A.units+64<cLine) (e:X.K=K:=by rfl):OpR X (compareOp .Eq) (ZlO K id):=by
 subst e
 intro pins s σ H x y v u Q I rx ry h
 obtain⟨p,q,h1,h2,h3,h4,hq⟩:=h
 simp only[okD,Bool.and_eq_true,decide_eq_true_eq] at h3 h4
 obtain⟨as,ra⟩:=h1.reads I h3.1.1 rx
 obtain⟨bs,rb⟩:=h2.reads I h4.1.1 ry
 exact SeqAt.rcAt_reads ra rb h3.1.2 h4.1.2 (by have:=Nat.min_le_left p.dat.depth q.dat.depth;omega) _ _ _ _ ⟨.bl (PyData.eqv p.dat q.dat),H,I,rfl,hq⟩
theorem ZaQ {K:W.Frag} (hu:X.A.units+64<cLine) (e:X.K=K:=by rfl):OpR X (compareOp .NotEq) (ZlO K (!·)):=by
 subst e
 intro pins s σ H x y v u Q I rx ry h
 obtain⟨p,q,h1,h2,h3,h4,hq⟩:=h
 simp only[okD,Bool.and_eq_true,decide_eq_true_eq] at h3 h4
 obtain⟨as,ra⟩:=h1.reads I h3.1.1 rx
 obtain⟨bs,rb⟩:=h2.reads I h4.1.1 ry
 exact SeqAt.rcNeAt_reads ra rb h3.1.2 h4.1.2 (by have:=Nat.min_le_left p.dat.depth q.dat.depth;omega) _ _ _ _ ⟨.bl (!PyData.eqv p.dat q.dat),H,I,rfl,hq⟩
end
noncomputable def ZbK (g:Bool->Bool) (x y:PV):Rr PV:=if (okD x&&okD y)=true then .ok (.bl (g (PyData.eqv x.dat y.dat))) else .bad
def Zcw (i j:Int):Prop:=i.natAbs<2^60000/\j.natAbs<2^60000
def Zcx (i j:Int):Prop:=0<j/\j.natAbs<2^9000
noncomputable instance (i j:Int):Decidable (Zcw i j):=by unfold Zcw;infer_instance
noncomputable instance (i j:Int):Decidable (Zcx i j):=by unfold Zcx;infer_instance
noncomputable instance (i j:Int):Decidable (ZjQ i j):=by unfold ZjQ;infer_instance
theorem Zgp {i:Int}{n:Nat} (h:i.natAbs<2^n):Builtin.Int.intBits i<=n:=by
 unfold Builtin.Int.intBits
 split
 ·exact ZtF _
 ·rename_i h0
  have:i.natAbs≠0:=by simpa using h0
  exact Nat.succ_le_of_lt ((Nat.log2_lt this).mpr h)
section
variable {X:Cx}
theorem Zfi:OpR X (binaryOp .Mult) (rI Zcw fun i j=>.int (i*j)):=opI fun _ _ _ _ _ _ _ hc q=>mul_int q (PyProof.Rows.mulOk_of_bits (Zgp hc.1) (Zgp hc.2) (by decide))
theorem Jb:OpR X (binaryOp .FloorDiv) (rI Zcx fun i j=>.int (i/j)):=opI fun i j _ _ _ _ _ hc q=>by
 refine floordiv_int (by have:=hc.1;omega) ?_ (.inl (PyProof.noPylong_of_log2 ?_))
 ·rw[Int.fdiv_eq_ediv_of_nonneg _ (by have:=hc.1;omega)];exact q
 ·have h0:j.natAbs≠0:=by have:=hc.1;omega
  exact(Nat.log2_lt h0).mpr hc.2
variable {K:W.Frag}{B:Addr->Prop}{EX:PX->Hp->Prop}{H0 H:Hp}{σ:St}{Γ Γ' Γ1 Γ2:List Md}{ρ:List PV}{F:Nat->List Addr}{R:List Addr}{k:Kd}{x:PV}{v:V}{ta tb:TE}{fa fb fc:List PV->Rr PV}
noncomputable abbrev ZlW:PV->PV->Rr PV:=oI (fun _ _=>true) fun i j=>.int (i+j)
noncomputable abbrev ZlS:PV->PV->Rr PV:=oI (fun _ _=>true) fun i j=>.int (i-j)
noncomputable abbrev ZmN:PV->PV->Rr PV:=oI (fun i j=>decide (Zcw i j)) fun i j=>.int (i*j)
noncomputable abbrev ZlV:PV->PV->Rr PV:=oI (fun i j=>decide (Zcx i j)) fun i j=>.int (i/j)
noncomputable abbrev ZmO:PV->PV->Rr PV:=oI (fun _ j=>decide (0<j)) fun i j=>.int (i%j)
noncomputable abbrev ZlT:PV->PV->Rr PV:=oI (fun i j=>decide (ZjQ i j)) fun i j=>.int (i^j.toNat)
noncomputable abbrev pLt:PV->PV->Rr PV:=oI (fun _ _=>true) fun i j=>.bl (decide (i<j))
noncomputable abbrev pLe:PV->PV->Rr PV:=oI (fun _ _=>true) fun i j=>.bl (decide (i<=j))
noncomputable abbrev pGt:PV->PV->Rr PV:=oI (fun _ _=>true) fun i j=>.bl (decide (j<i))
noncomputable abbrev pGe:PV->PV->Rr PV:=oI (fun _ _=>true) fun i j=>.bl (decide (j<=i))
theorem Zh8 {D:Int->Int->Prop}{C:Int->Int->Bool}{g:Int->Int->PV}{g':Int->Int->V} (hC:∀i j,C i j=true->D i j) (hg:∀H i j,Rep K H (fun _=>True) (g i j) (g' i j)) (hf:∀i j,(g i j).flat=true)
  (ha:DE K EX Γ Γ1 .A ta fa) (hb:DE K EX Γ1 Γ2 .A tb fb):DE K EX Γ Γ2 .P (tOp (rI D g') ta tb) (fun ρ=>(fa ρ).bind fun x=>(fb ρ).bind fun y=>oI C g x y):=
 Zh7 (Zng hC hg hf) (Zfn hf) ZcU ha hb
theorem QW {g:Int->Int->PV}{g':Int->Int->V} (hg:∀H i j,Rep K H (fun _=>True) (g i j) (g' i j)) (hf:∀i j,(g i j).flat=true)
  (ha:DE K EX Γ Γ1 .A ta fa) (hb:DE K EX Γ1 Γ2 .A tb fb):DE K EX Γ Γ2 .P (tOp (rI0 g') ta tb) (fun ρ=>(fa ρ).bind fun x=>(fb ρ).bind fun y=>oI (fun _ _=>true) g x y):=
 Zh7 (ZlZ hg hf) (Zfn hf) ZcU ha hb
theorem Q3 (ha:DE K EX Γ Γ1 .A ta fa) (hb:DE K EX Γ1 Γ2 .A tb fb):DE K EX Γ Γ2 .P (tOp (rI0 fun i j=>.int (i+j)) ta tb) (fun ρ=>(fa ρ).bind fun x=>(fb ρ).bind fun y=>ZlW x y):=QW (fun _ _ _=>rfl) (fun _ _=>rfl) ha hb
theorem Zdz (ha:DE K EX Γ Γ1 .A ta fa) (hb:DE K EX Γ1 Γ2 .A tb fb):DE K EX Γ Γ2 .P (tOp (rI0 fun i j=>.int (i-j)) ta tb) (fun ρ=>(fa ρ).bind fun x=>(fb ρ).bind fun y=>ZlS x y):=QW (fun _ _ _=>rfl) (fun _ _=>rfl) ha hb
theorem Zh9 (ha:DE K EX Γ Γ1 .A ta fa) (hb:DE K EX Γ1 Γ2 .A tb fb):DE K EX Γ Γ2 .P (tOp (rI0 fun i j=>.bl (decide (i<j))) ta tb) (fun ρ=>(fa ρ).bind fun x=>(fb ρ).bind fun y=>pLt x y):=QW (fun _ _ _=>rfl) (fun _ _=>rfl) ha hb
theorem Zmj (ha:DE K EX Γ Γ1 .A ta fa) (hb:DE K EX Γ1 Γ2 .A tb fb):DE K EX Γ Γ2 .P (tOp (rI0 fun i j=>.bl (decide (i<=j))) ta tb) (fun ρ=>(fa ρ).bind fun x=>(fb ρ).bind fun y=>pLe x y):=QW (fun _ _ _=>rfl) (fun _ _=>rfl) ha hb
theorem ZfW (ha:DE K EX Γ Γ1 .A ta fa) (hb:DE K EX Γ1 Γ2 .A tb fb):DE K EX Γ Γ2 .P (tOp (rI0 fun i j=>.bl (decide (j<i))) ta tb) (fun ρ=>(fa ρ).bind fun x=>(fb ρ).bind fun y=>pGt x y):=QW (fun _ _ _=>rfl) (fun _ _=>rfl) ha hb
theorem Zmk (ha:DE K EX Γ Γ1 .A ta fa) (hb:DE K EX Γ1 Γ2 .A tb fb):DE K EX Γ Γ2 .P (tOp (rI0 fun i j=>.bl (decide (j<=i))) ta tb) (fun ρ=>(fa ρ).bind fun x=>(fb ρ).bind fun y=>pGe x y):=QW (fun _ _ _=>rfl) (fun _ _=>rfl) ha hb
theorem Zi0 (ha:DE K EX Γ Γ1 .A ta fa) (hb:DE K EX Γ1 Γ2 .A tb fb):DE K EX Γ Γ2 .P (tOp (rI Zcw fun i j=>.int (i*j)) ta tb) (fun ρ=>(fa ρ).bind fun x=>(fb ρ).bind fun y=>ZmN x y):=Zh8 (fun _ _ h=>of_decide_eq_true h) (fun _ _ _=>rfl) (fun _ _=>rfl) ha hb
theorem Vh (ha:DE K EX Γ Γ1 .A ta fa) (hb:DE K EX Γ1 Γ2 .A tb fb):DE K EX Γ Γ2 .P (tOp (rI Zcx fun i j=>.int (i/j)) ta tb) (fun ρ=>(fa ρ).bind fun x=>(fb ρ).bind fun y=>ZlV x y):=Zh8 (fun _ _ h=>of_decide_eq_true h) (fun _ _ _=>rfl) (fun _ _=>rfl) ha hb
theorem Jt (ha:DE K EX Γ Γ1 .A ta fa) (hb:DE K EX Γ1 Γ2 .A tb fb):DE K EX Γ Γ2 .P (tOp (rI (fun _ j=>0<j) fun i j=>.int (i%j)) ta tb) (fun ρ=>(fa ρ).bind fun x=>(fb ρ).bind fun y=>ZmO x y):=Zh8 (fun _ _ h=>of_decide_eq_true h) (fun _ _ _=>rfl) (fun _ _=>rfl) ha hb
theorem Ziz (ha:DE K EX Γ Γ1 .A ta fa) (hb:DE K EX Γ1 Γ2 .A tb fb):DE K EX Γ Γ2 .P (tOp (rI ZjQ fun i j=>.int (i^j.toNat)) ta tb) (fun ρ=>(fa ρ).bind fun x=>(fb ρ).bind fun y=>ZlT x y):=Zh8 (fun _ _ h=>of_decide_eq_true h) (fun _ _ _=>rfl) (fun _ _=>rfl) ha hb
noncomputable def Zl7 (x:PV):Rr PV:=match x with
 |.int i=>.ok (.int (-i))
 |_=>.bad
theorem Q1 (ha:DE K EX Γ Γ1 .A ta fa):DE K EX Γ Γ1 .P (tUn (rU fun i=>.int (-i)) ta) (fun ρ=>(fa ρ).bind Zl7):=by
 refine Zmi (fun {H x v Q} rx ⟨z,e,q⟩=>?_) (fun x e h=>?_) ha
 ·cases x<;>first|(simp only[Zl7] at e;cases e;done)|skip
  cases e;cases rx
  exact⟨_,rfl,q rfl _ rfl⟩
 ·cases x<;>(simp only[Zl7] at h;cases h)
theorem ZdQ {g:Bool->Bool} (x y:PV) (e:PX):ZbK g x y≠.exc e:=by
 unfold ZbK
 intro h
 split at h<;>cases h
theorem Zfd {g:Bool->Bool} (x y z:PV) (h:ZbK g x y=.ok z):z.flat=true:=by
 unfold ZbK at h
 split at h
 ·cases h;rfl
 ·cases h
theorem Ji {g:Bool->Bool} (ha:DE K EX Γ Γ1 .A ta fa) (hb:DE K EX Γ1 Γ2 .A tb fb):DE K EX Γ Γ2 .P (tOp (ZlO K g) ta tb) (fun ρ=>(fa ρ).bind fun x=>(fb ρ).bind fun y=>ZbK g x y):=by
 refine Zh7 (fun {H x y v w Q} rx ry ⟨z,e,q⟩=>?_) Zfd ZdQ ha hb
 unfold ZbK at e
 by_cases h:(okD x&&okD y)=true
 ·rw[if_pos h] at e;cases e
  rw[Bool.and_eq_true] at h
  exact⟨x,y,rx,ry,h.1,h.2,q rfl _ rfl⟩
 ·rw[if_neg h] at e;cases e
noncomputable def asB (x:PV):Rr Bool:=match x with
 |.bl b=>.ok b
 |_=>.bad
theorem Dn.asB {x:PV}{ok:Bool->Prop}{ex:PX->Prop} (d:Dn (asB x) ok ex):∃b,x=.bl b/\ok b:=by
 cases x with
 |bl b=>exact⟨b,rfl,d⟩
 |_=>exact d.elim
theorem Zlg (ha:DE K EX Γ Γ1 .A ta fa):DE K EX Γ Γ1 .P (Zkb ta) (fun ρ=>(fa ρ).bind fun x=>(asB x).bind fun b=>.ok (.bl (!b))):=fun B H0 H σ ρ F R Q A d=>by
 refine ha B H0 H σ ρ F R _ A (d.bind.imp (fun x _ d v H1 s1 r1=>?_) fun e q=>q)
 obtain⟨b,rfl,d⟩:=d.bind.asB
 obtain⟨F1,f1,p1,A1⟩:=r1
 cases p1
 exact⟨b,rfl,d _ H1 s1 ⟨F1,f1,rfl,rfl,A1⟩⟩
theorem Res.shift {H1:Hp}{F1:Nat->List Addr}{k:Kd}{Γ2:List Md}{y:PV}{w:V}{H2:Hp} (s1:Z0 H H1) (f1:∀i,∀a∈F1 i,a∈F i) (h:Res K B H0 H1 σ Γ2 ρ F1 R k y w H2):Res K B H0 H σ Γ2 ρ F R k y w H2:=by
 obtain⟨F2,f2,h⟩:=h
 refine⟨F2,fun i a ha=>f1 i a (f2 i a ha), ?_⟩
 have org:∀a,(H1 a=none\/∃i,a∈F1 i)->(H a=none\/∃i,a∈F i):=fun a h=>h.elim (fun z=>.inl (s1.free z)) fun⟨i,z⟩=>.inr ⟨i,f1 i a z⟩
 cases k with
 |P=>exact h
 |F=>obtain⟨G,h1,h2,h3⟩:=h;exact⟨G,h1,fun a ha=>⟨(h2 a ha).1,org a (h2 a ha).2⟩,h3⟩
 |T=>obtain⟨a,vs,xs,h1,h2,h3,h4,h5,h6,h7⟩:=h;exact⟨a,vs,xs,h1,h2,h3,h4,h5,org a h6,h7⟩
 |Z=>exact h
 |A=>exact h
 |N=>exact h.elim
theorem Q2 (ha:DE K EX Γ Γ .A ta fa) (hb:DE K EX Γ Γ .P tb fb):DE K EX Γ Γ .P (Zki ta tb) (fun ρ=>(fa ρ).bind fun x=>(asB x).bind fun b=>if b=true then fb ρ else .ok (.bl false)):=fun B H0 H σ ρ F R Q A d=>by
 refine ha B H0 H σ ρ F R _ A (d.bind.imp (fun x _ d v H1 s1 r1=>?_) fun e q=>q)
 obtain⟨b,rfl,d⟩:=d.bind.asB
 obtain⟨F1,f1,p1,A1⟩:=r1
 cases p1
 refine⟨b,rfl, ?_⟩
 cases b with
 |true=>exact hb B H0 H1 σ ρ F1 R _ A1 (d.imp (fun y _ q w H2 s2 r2=>q w H2 (s1.trans s2) (r2.shift s1 f1)) fun e q=>q)
 |false=>exact d _ H1 s1 ⟨F1,f1,rfl,rfl,A1⟩
theorem ZB (ha:DE K EX Γ Γ' .A ta fa):DT K EX Γ Γ' (ZjY ta) (fun ρ=>(fa ρ).bind asB):=fun B H0 H σ ρ F R Q A d=>by
 refine ha B H0 H σ ρ F R _ A (d.bind.imp (fun x _ d v H1 s1 r1=>?_) fun e q=>q)
 obtain⟨b,rfl,d⟩:=d.asB
 obtain⟨F1,f1,p1,A1⟩:=r1
 cases p1
 exact⟨b,rfl,d H1 F1 s1 f1 A1⟩
theorem ZjL (ha:DE K EX Γ Γ' .A ta fa):DT K EX Γ Γ' (tB ta) (fun ρ=>(fa ρ).bind asB):=ZB ha
theorem Zjq {c d:TT}{fc fd:List PV->Rr Bool} (hc:DT K EX Γ Γ c fc) (hd:DT K EX Γ Γ d fd):DT K EX Γ Γ (tOr c d) (fun ρ=>(fc ρ).bind fun b=>if b=true then .ok true else fd ρ):=fun B H0 H σ ρ F R Q A dn=>by
 refine hc B H0 H σ ρ F R _ A (dn.bind.imp (fun b _ dn H1 F1 s1 f1 A1=>?_) fun e q=>q)
 cases b with
 |false=>exact hd B H0 H1 σ ρ F1 R _ A1 (dn.imp (fun y _ q H2 F2 s2 f2 A2=>q H2 F2 (s1.trans s2) (fun i a h=>f1 i a (f2 i a h)) A2) fun e q=>q)
 |true=>exact dn H1 F1 s1 f1 A1
theorem Zbh {c:TT}{fc:List PV->Rr Bool} (hc:DT K EX Γ Γ' c fc):DT K EX Γ Γ' (Zm8 c) (fun ρ=>(fc ρ).bind fun b=>.ok (!b)):=fun B H0 H σ ρ F R Q A dn =>
 hc B H0 H σ ρ F R _ A (dn.bind.imp (fun b _ dn H1 F1 s1 f1 A1=>dn H1 F1 s1 f1 A1) fun e q=>q)
end
def DAA (K:W.Frag) (EX:PX->Hp->Prop) (Γ Γ':List Md) (ta:TA) (f:List PV->Rr (List PV)):Prop:=
 ∀(B:Addr->Prop) (H0 H:Hp) (σ:St) (ρ:List PV) (F:Nat->List Addr) (R:List Addr) (Q:List V->Hp->Prop),Ag K B H0 H σ Γ ρ F R ->
  Dn (f ρ) (fun xs=>∀vs H' F',Z0 H H'->(∀i,∀a∈F' i,a∈F i)->Reps K H' (fun _=>True) xs vs->Ag K B H0 H' σ Γ' ρ F' R->Q vs H') (fun e=>∀H',Z0 H0 H'->EX e H')->ta σ H Q
def DAF (K:W.Frag) (EX:PX->Hp->Prop) (Γ Γ':List Md) (ta:TA) (f:List PV->Rr (List PV)):Prop:=
 ∀(B:Addr->Prop) (H0 H:Hp) (σ:St) (ρ:List PV) (F:Nat->List Addr) (R:List Addr) (Q:List V->Hp->Prop),Ag K B H0 H σ Γ ρ F R ->
  Dn (f ρ) (fun xs=>∀vs H' F' G,Z0 H H'->(∀i,∀a∈F' i,a∈F i)->Trees K H' xs vs G->(∀a∈G,a ∉ R/\(H a=none\/∃i,a∈F i))->Ag K B H0 H' σ Γ' ρ F' (G++R)->Q vs H') (fun e=>∀H',Z0 H0 H'->EX e H')->ta σ H Q
def DAZ (K:W.Frag) (EX:PX->Hp->Prop) (Γ Γ':List Md) (ta:TA) (f:List PV->Rr (List PV)):Prop:=
 ∀(B:Addr->Prop) (H0 H:Hp) (σ:St) (ρ:List PV) (F:Nat->List Addr) (R:List Addr) (Q:List V->Hp->Prop),Ag K B H0 H σ Γ ρ F R ->
  Dn (f ρ) (fun xs=>∀vs H' F',Z0 H H'->(∀i,∀a∈F' i,a∈F i)->Reps K H' (NO B F' R) xs vs->Ag K B H0 H' σ Γ' ρ F' R->Q vs H') (fun e=>∀H',Z0 H0 H'->EX e H')->ta σ H Q
section
variable {K:W.Frag}{B:Addr->Prop}{EX:PX->Hp->Prop}{H0 H H':Hp}{σ:St}{Γ Γ' Γ1 Γ2:List Md}{ρ:List PV}{F F':Nat->List Addr}{R:List Addr}{x:PV}{v:V}{te tb:TE}{ta:TA}{f fb:List PV->Rr PV}{fa:List PV->Rr (List PV)}
theorem Zf:DAA K EX Γ Γ ZdC (fun _=>.ok []):=fun B H0 H σ ρ F R Q A d=>d [] H F (Z0.refl H) (fun _ _ h=>h) rfl A
theorem Za (he:DE K EX Γ Γ1 .A te f) (ha:DAA K EX Γ1 Γ2 ta fa):DAA K EX Γ Γ2 (Vk te ta) (fun ρ=>(f ρ).bind fun x=>(fa ρ).bind fun xs=>.ok (x::xs)):=fun B H0 H σ ρ F R Q A d=>by
 refine he B H0 H σ ρ F R _ A (d.bind.imp (fun x _ d v H1 s1 r1=>?_) fun e q=>q)
 obtain⟨F1,f1,p1,A1⟩:=r1
 refine ha B H0 H1 σ ρ F1 R _ A1 (d.bind.imp (fun xs _ d vs H2 F2 s2 f2 p2 A2=>?_) fun e q=>q)
 exact d (v::vs) H2 F2 (s1.trans s2) (fun i a h=>f1 i a (f2 i a h)) ⟨v,vs,rfl,p1.same s2,p2⟩ A2
theorem JL:DAF K EX Γ Γ ZdC (fun _=>.ok []):=fun B H0 H σ ρ F R Q A d=>d [] H F [] (Z0.refl H) (fun _ _ h=>h) ⟨rfl,rfl⟩ (by simp) A
theorem Jr (he:DE K EX Γ Γ1 .F te f) (ha:DAF K EX Γ1 Γ2 ta fa):DAF K EX Γ Γ2 (Vk te ta) (fun ρ=>(f ρ).bind fun x=>(fa ρ).bind fun xs=>.ok (x::xs)):=fun B H0 H σ ρ F R Q A d=>by
 refine he B H0 H σ ρ F R _ A (d.bind.imp (fun x _ d v H1 s1 r1=>?_) fun e q=>q)
 obtain⟨F1,f1,G1,p1,o1,A1⟩:=r1
 refine ha B H0 H1 σ ρ F1 (G1++R) _ A1 (d.bind.imp (fun xs _ d vs H2 F2 G2 s2 f2 p2 o2 A2=>?_) fun e q=>q)
 refine d (v::vs) H2 F2 (G1++G2) (s1.trans s2) (fun i a h=>f1 i a (f2 i a h)) ⟨v,vs,G1,G2,rfl,p1.same s2,p2,fun a ha z=>(o2 a z).1 (ZsU _ ha),rfl⟩ (fun a ha=>?_) (A2.less fun a ha=>?_)
 ·rcases ZsW.mp ha with z|z
  ·exact o1 a z
  ·obtain⟨o3,o4⟩:=o2 a z
   exact⟨fun q=>o3 (ZsT _ q),o4.elim (fun q=>.inl (s1.free q)) fun⟨i,q⟩=>.inr ⟨i,f1 i a q⟩⟩
 ·simp only[ZsW] at ha ⊢
  rcases ha with (z|z)|z
  ·exact .inr (.inl z)
  ·exact .inl z
  ·exact .inr (.inr z)
theorem ZfY:DAZ K EX Γ Γ ZdC (fun _=>.ok []):=fun B H0 H σ ρ F R Q A d=>d [] H F (Z0.refl H) (fun _ _ h=>h) rfl A
theorem Zd3 (he:DE K EX Γ Γ1 .Z te f) (ha:DAZ K EX Γ1 Γ2 ta fa):DAZ K EX Γ Γ2 (Vk te ta) (fun ρ=>(f ρ).bind fun x=>(fa ρ).bind fun xs=>.ok (x::xs)):=fun B H0 H σ ρ F R Q A d=>by
 refine he B H0 H σ ρ F R _ A (d.bind.imp (fun x _ d v H1 s1 r1=>?_) fun e q=>q)
 obtain⟨F1,f1,p1,A1⟩:=r1
 refine ha B H0 H1 σ ρ F1 R _ A1 (d.bind.imp (fun xs _ d vs H2 F2 s2 f2 p2 A2=>?_) fun e q=>q)
 refine d (v::vs) H2 F2 (s1.trans s2) (fun i a h=>f1 i a (f2 i a h)) ⟨v,vs,rfl, ?_,p2⟩ A2
 exact Rep.mono (fun a us s r=>⟨r.same s2,s.1,s.2.1,fun i z=>s.2.2 i (f2 i a z)⟩) (fun a us r=>s2.im r) p1
noncomputable def mkT (xs:List PV):Rr PV:=if xs.length<=1000 then .ok (.tup xs) else .bad
noncomputable def mkL (xs:List PV):Rr PV:=if xs.length<=1000 then .ok (.lst xs) else .bad
theorem Dn.mkT {xs:List PV}{ok:PV->Prop}{ex:PX->Prop} (d:Dn (mkT xs) ok ex):xs.length<=1000/\ok (.tup xs):=by
 unfold L2.mkT at d
 by_cases h:xs.length<=1000
 ·rw[if_pos h] at d;exact⟨h,d⟩
 ·rw[if_neg h] at d;exact d.elim
theorem Dn.mkL {xs:List PV}{ok:PV->Prop}{ex:PX->Prop} (d:Dn (mkL xs) ok ex):xs.length<=1000/\ok (.lst xs):=by
 unfold L2.mkL at d
 by_cases h:xs.length<=1000
 ·rw[if_pos h] at d;exact⟨h,d⟩
 ·rw[if_neg h] at d;exact d.elim
theorem ZfT (ha:DAF K EX Γ Γ' ta fa):DE K EX Γ Γ' .F (Zl5 ta) (fun ρ=>(fa ρ).bind mkT):=fun B H0 H σ ρ F R Q A d=>by
 refine ha B H0 H σ ρ F R _ A (d.bind.imp (fun xs _ d vs H1 F1 G s1 f1 p1 o1 A1=>?_) fun e q=>q)
 obtain⟨hl,d⟩:=d.mkT
 refine⟨by rw[p1.length];exact UF hl,fun p hp=>?_⟩
 have e:Z0 H1 (upd H1 p (.tup vs)):=Z0.new hp
 exact d _ _ (s1.trans e) ⟨F1,f1,G,⟨p,vs,rfl,⟨Zw,trivial⟩,p1.same e⟩,o1,A1.grow e⟩
theorem Q0 (ha:DAA K EX Γ Γ' ta fa):DE K EX Γ Γ' .A (Zl5 ta) (fun ρ=>(fa ρ).bind mkT):=fun B H0 H σ ρ F R Q A d=>by
 refine ha B H0 H σ ρ F R _ A (d.bind.imp (fun xs _ d vs H1 F1 s1 f1 p1 A1=>?_) fun e q=>q)
 obtain⟨hl,d⟩:=d.mkT
 refine⟨by rw[p1.length];exact UF hl,fun p hp=>?_⟩
 have e:Z0 H1 (upd H1 p (.tup vs)):=Z0.new hp
 exact d _ _ (s1.trans e) ⟨F1,f1,⟨p,vs,rfl,⟨Zw,trivial⟩,p1.same e⟩,A1.grow e⟩
theorem Res.newF {H1:Hp}{F1:Nat->List Addr}{G:List Addr}{xs:List PV}{vs:List V}{p:Addr} (s1:Z0 H H1) (f1:∀i,∀a∈F1 i,a∈F i) (p1:Trees K H1 xs vs G) (o1:∀a∈G,a ∉ R/\(H a=none\/∃i,a∈F i)) (A1:Ag K B H0 H1 σ Γ' ρ F1 (G++R)) (hp:H1 p=none) :
  Res K B H0 H σ Γ' ρ F R .F (.lst xs) (.ref p) (upd H1 p (.lst vs)):=by
 have e:Z0 H1 (upd H1 p (.lst vs)):=Z0.new hp
 have hf:=A1.fresh hp
 refine⟨F1,f1,p::G,⟨p,vs,G,rfl,Zw,p1.same e,fun z=>hf.1 (ZsU _ z),rfl⟩,fun a ha=>?_,A1.new hp⟩
 rcases ZsZ.mp ha with rfl|z
 ·exact⟨fun z=>hf.1 (ZsT _ z),.inl (s1.free hp)⟩
 ·exact o1 a z
theorem Res.newP {H1:Hp}{F1:Nat->List Addr}{xs:List PV}{vs:List V}{p:Addr}{S:Addr->Prop} (s1:Z0 H H1) (f1:∀i,∀a∈F1 i,a∈F i) (p1:Reps K H1 S xs vs) (hx:PV.flats xs=true) (A1:Ag K B H0 H1 σ Γ' ρ F1 R) (hp:H1 p=none) :
  Res K B H0 H σ Γ' ρ F R .F (.lst xs) (.ref p) (upd H1 p (.lst vs)):=Res.newF (G:=[]) s1 f1 (p1.trees hx) (by simp) A1 hp
theorem Vt (ha:DAF K EX Γ Γ' ta fa):DE K EX Γ Γ' .F (ZlJ ta) (fun ρ=>(fa ρ).bind mkL):=fun B H0 H σ ρ F R Q A d=>by
 refine ha B H0 H σ ρ F R _ A (d.bind.imp (fun xs _ d vs H1 F1 G s1 f1 p1 o1 A1=>?_) fun e q=>q)
 obtain⟨hl,d⟩:=d.mkL
 refine⟨by rw[p1.length];exact UF hl,fun p hp=>d _ _ (s1.trans (Z0.new hp)) (Res.newF s1 f1 p1 o1 A1 hp)⟩
noncomputable def pIx (x y:PV):Rr PV:=match x,y with
 |.lst xs,.int i=>match atI xs i with
  |some z=>.ok z
  |none=>.bad
 |.tup xs,.int i=>match atI xs i with
  |some z=>.ok z
  |none=>.bad
 |_,_=>.bad
theorem ZeB {S:Addr->Prop}{xs:List PV}{vs:List V}{i:Int}{z:PV} (h:Reps K H S xs vs) (e:atI xs i=some z):∃u,atI vs i=some u/\Rep K H S z u:=by
 unfold atI at e ⊢
 rw[h.length]
 cases q:ixN xs.length i with
 |none=>rw[q] at e;cases e
 |some j =>
  rw[q] at e
  obtain⟨u,e1,e2⟩:=h.get e
  exact⟨u,e1,e2⟩
theorem Zko {S:Addr->Prop}{x y z:PV}{v w:V}{Q:VK} (hx:Rep K H S x v) (hy:Rep K H (fun _=>True) y w) (e:pIx x y=.ok z) (q:∀u,Rep K H S z u->Q u H):rIx K v w H Q:=by
 cases x<;>cases y<;>first|(simp only[pIx] at e;cases e;done)|skip
 ·rename_i xs i
  obtain⟨a,vs,rfl,hn,hr⟩:=hx
  cases hy
  simp only[pIx] at e
  cases e1:atI xs i with
  |none=>rw[e1] at e;cases e
  |some z' =>
   rw[e1] at e;cases e
   obtain⟨u,e2,e3⟩:=ZeB hr e1
   exact .inl ⟨a,vs,i,u,rfl,rfl,JN hn,e2,q u e3⟩
 ·rename_i xs i
  obtain⟨a,vs,rfl,hn,hr⟩:=hx
  cases hy
  simp only[pIx] at e
  cases e1:atI xs i with
  |none=>rw[e1] at e;cases e
  |some z' =>
   rw[e1] at e;cases e
   obtain⟨u,e2,e3⟩:=ZeB hr e1
   exact .inr (.inl ⟨a,vs,i,u,rfl,rfl,hn.sqT,e2,q u e3⟩)
theorem Zfb (x y:PV) (e:PX):pIx x y≠.exc e:=by
 cases x<;>cases y<;>first|(intro h;simp only[pIx] at h;cases h;done)|skip
 all_goals
  intro h
  simp only[pIx] at h
  split at h<;>cases h
theorem Dn.pIx {x y:PV}{ok:PV->Prop}{ex:PX->Prop} (d:Dn (pIx x y) ok ex):∃z,pIx x y=.ok z/\ok z:=by
 cases e:L2.pIx x y with
 |ok z=>rw[e] at d;exact⟨z,rfl,d⟩
 |exc q=>exact absurd e (Zfb x y q)
 |bad=>rw[e] at d;exact d.elim
theorem Z3 {te ta':TE}{fa':List PV->Rr PV} (ha:DE K EX Γ Γ1 .A ta' fa') (hb:DE K EX Γ1 Γ2 .A tb fb):DE K EX Γ Γ2 .A (tOp (rIx K) ta' tb) (fun ρ=>(fa' ρ).bind fun x=>(fb ρ).bind fun y=>pIx x y):=fun B H0 H σ ρ F R Q A d=>by
 refine two ha hb A d.bind2 fun x y v w H' F' d s hF p1 p2 A'=>?_
 obtain⟨z,e,d⟩:=d.pIx
 exact Zko p1 p2 e fun u hu=>d u H' s ⟨F',hF,hu,A'⟩
def CbP (K:W.Frag) (r:List V->Hp->VK->Prop) (o:List PV->Rr PV):Prop:=∀{H:Hp}{xs:List PV}{vs:List V}{Q:VK},Reps K H (fun _=>True) xs vs->∀z,o xs=.ok z->z.flat=true/\((∀u,Rep K H (fun _=>True) z u->Q u H)->r vs H Q)
theorem ZfX {r:List V->Hp->VK->Prop}{o:List PV->Rr PV} (hr:CbP K r o) (hx:∀xs e,o xs≠.exc e) (ha:DAA K EX Γ Γ' ta fa):DE K EX Γ Γ' .P (tCB r ta) (fun ρ=>(fa ρ).bind o):=fun B H0 H σ ρ F R Q A d=>by
 refine ha B H0 H σ ρ F R _ A (d.bind.imp (fun xs _ d vs H1 F1 s1 f1 p1 A1=>?_) fun e q=>q)
 cases e:o xs with
 |ok z =>
  rw[e] at d
  obtain⟨hf,h⟩:=hr (Q:=Q) p1 z e
  exact h fun u hu=>d u H1 s1 ⟨F1,f1,hf,hu,A1⟩
 |exc q=>exact absurd e (hx xs q)
 |bad=>rw[e] at d;exact d.elim
noncomputable def Zie (xs:List PV):Rr PV:=match xs with
 |[.lst ys]=>.ok (.int ys.length)
 |[.tup ys]=>.ok (.int ys.length)
 |_=>.bad
theorem UV {S:Addr->Prop}{x:PV}{vs:List V} (h:Reps K H S [x] vs):∃v,vs=[v]/\Rep K H S x v:=by
 obtain⟨v,r,rfl,h1,h2⟩:=h
 cases h2
 exact⟨v,rfl,h1⟩
theorem ZiH {S:Addr->Prop}{x y:PV}{vs:List V} (h:Reps K H S [x,y] vs):∃v w,vs=[v,w]/\Rep K H S x v/\Rep K H S y w:=by
 obtain⟨v,r,rfl,h1,w,r',rfl,h2,h3⟩:=h
 cases h3
 exact⟨v,w,rfl,h1,h2⟩
theorem JH (ha:DAA K EX Γ Γ' ta fa):DE K EX Γ Γ' .P (tCB (fun xs H Q=>∃p ys,xs=[.ref p]/\(SqL K H p ys\/SqT K H p ys)/\Q (.int ys.length) H) ta) (fun ρ=>(fa ρ).bind Zie):=by
 refine ZfX (fun {H xs vs Q} h z e=>?_) (fun xs e h=>?_) ha
 ·unfold Zie at e
  split at e<;>first|(cases e;done)|skip
  all_goals
   cases e
   refine⟨rfl,fun q=>?_⟩
   obtain⟨v,rfl,a,ws,rfl,hn,hr⟩:=UV h
   refine⟨a,ws,rfl, ?_,by rw[hr.length];exact q _ rfl⟩
   first|exact .inl (JN (S:=fun _=>True) hn)|exact .inr hn.sqT
 ·unfold Zie at h;split at h<;>cases h
noncomputable def Ux:List PV->Option (List Int)
 |[]=>some []
 |.int i::xs=>(Ux xs).map (i::·)
 |_::_=>none
@[simp] theorem ZjK (ns:List Int):Ux (ns.map PV.int)=some ns:=by
 induction ns with
 |nil=>rfl
 |cons n ns ih=>simp[Ux,ih]
theorem ZaW:∀{xs:List PV}{ns:List Int},Ux xs=some ns->xs=ns.map PV.int
 |[],_,h=>by cases h;rfl
 |.int i::xs,ns,h=>by
  simp only[Ux] at h
  cases e:Ux xs with
  |none=>rw[e] at h;cases h
  |some ms=>rw[e] at h;cases h;rw[ZaW e];rfl
 |.non::_,_,h=>by cases h
 |.bl _::_,_,h=>by cases h
 |.str _::_,_,h=>by cases h
 |.exc _::_,_,h=>by cases h
 |.exa _ _::_,_,h=>by cases h
 |.box _ _ _::_,_,h=>by cases h
 |.fz _::_,_,h=>by cases h
 |.lst _::_,_,h=>by cases h
 |.tup _::_,_,h=>by cases h
theorem UU {S:Addr->Prop}:∀{ns:List Int}{vs:List V},Reps K H S (ns.map PV.int) vs->vs=ns.map V.int
 |[],_,h=>h
 |n::ns,_,h=>by
  obtain⟨v,r,rfl,h1,h2⟩:=h
  cases h1
  rw[UU h2];rfl
theorem ZaV {S:Addr->Prop}:∀(ns:List Int),Reps K H S (ns.map PV.int) (ns.map V.int)
 |[]=>rfl
 |n::ns=>⟨_,_,rfl,rfl,ZaV ns⟩
theorem ZcB {S:Addr->Prop}{ns:List Int}{v:V} (h:Rep K H S (.lst (ns.map PV.int)) v):∃a,v=.ref a/\SqL K H a (ns.map V.int):=by
 obtain⟨a,vs,rfl,hn,hr⟩:=h
 rw[UU hr] at hn
 exact⟨a,rfl,JN hn⟩
noncomputable def ZaN (g:List Int->Rr PV) (xs:List PV):Rr PV:=match xs with
 |[.lst ys]=>match Ux ys with
  |some ns=>g ns
  |none=>.bad
 |_=>.bad
theorem Rr.ints {g:List Int->Rr PV}{xs:List PV}{z:PV} (e:ZaN g xs=.ok z):∃ns,xs=[.lst (ns.map PV.int)]/\g ns=.ok z:=by
 unfold ZaN at e
 split at e
 ·split at e
  ·rename_i ns h
   exact⟨ns,by rw[ZaW h],e⟩
  ·cases e
 ·cases e
theorem Qd {g:List Int->Rr PV} (hg:∀ns e,g ns≠.exc e) (xs:List PV) (e:PX):ZaN g xs≠.exc e:=by
 intro h
 unfold ZaN at h
 split at h
 ·split at h
  ·exact hg _ _ h
  ·cases h
 ·cases h
noncomputable abbrev ZlR:=ZaN fun ns=>.ok (.int ns.sum)
theorem ZfU (ha:DAA K EX Γ Γ' ta fa):DE K EX Γ Γ' .P (tCB (fun xs H Q=>∃p,∃ns:List Int,xs=[.ref p]/\SqL K H p (ns.map V.int)/\Q (.int ns.sum) H) ta) (fun ρ=>(fa ρ).bind ZlR):=by
 refine ZfX (fun {H xs vs Q} h z e=>?_) (Qd fun ns e h=>by cases h) ha
 obtain⟨ns,rfl,e'⟩:=Rr.ints e
 cases e'
 obtain⟨v,rfl,h1⟩:=UV h
 obtain⟨a,rfl,h2⟩:=ZcB h1
 exact⟨rfl,fun q=>⟨a,ns,rfl,h2,q _ rfl⟩⟩
noncomputable def Uh:List Int->Int
 |[]=>0
 |[n]=>n
 |n::ns=>min n (Uh ns)
theorem Vx:∀{ns:List Int},ns≠[]->Uh ns∈ns
 |[],h=>absurd rfl h
 |[n],_=>by simp[Uh]
 |n::m::ns,_=>by
  have:=Vx (ns:=m::ns) (by simp)
  show min n (Uh (m::ns))∈n::m::ns
  rcases Int.le_total n (Uh (m::ns)) with h|h
  ·rw[Int.min_eq_left h];simp
  ·rw[Int.min_eq_right h];exact Zth _ this
theorem Zao:∀{ns:List Int}{x:Int},x∈ns->Uh ns<=x
 |[n],x,h=>by simp at h;subst h;exact Int.le_refl _
 |n::m::ns,x,h=>by
  show min n (Uh (m::ns))<=x
  rcases ZsZ.mp h with rfl|h
  ·exact Int.min_le_left _ _
  ·exact Int.le_trans (Int.min_le_right _ _) (Zao h)
theorem Zfp {ns:List Int}{m:Int} (h1:m∈ns) (h2:∀a∈ns,m<=a):m=Uh ns:=Int.le_antisymm (h2 _ (Vx (List.ne_nil_of_mem h1))) (Zao h1)
noncomputable abbrev ZlU:=ZaN fun ns=>if ns=[] then .bad else .ok (.int (Uh ns))
theorem Zlh (ha:DAA K EX Γ Γ' ta fa):DE K EX Γ Γ' .P (tCB (Zkq K) ta) (fun ρ=>(fa ρ).bind ZlU):=by
 refine ZfX (fun {H xs vs Q} h z e=>?_) (Qd fun ns e h=>by split at h<;>cases h) ha
 obtain⟨ns,rfl,e'⟩:=Rr.ints e
 by_cases hn:ns=[]
 ·rw[if_pos hn] at e';cases e'
 rw[if_neg hn] at e'
 cases e'
 obtain⟨v,rfl,h1⟩:=UV h
 obtain⟨a,rfl,h2⟩:=ZcB h1
 exact⟨rfl,fun q=>⟨a,ns,rfl,h2,List.length_pos_iff.mpr hn,fun m hm hl=>by rw[Zfp hm hl];exact q _ rfl⟩⟩
noncomputable def Zcp:List PV->Option (List Bool)
 |[]=>some []
 |.bl i::xs=>(Zcp xs).map (i::·)
 |_::_=>none
@[simp] theorem Zgn (ns:List Bool):Zcp (ns.map PV.bl)=some ns:=by
 induction ns with
 |nil=>rfl
 |cons n ns ih=>simp[Zcp,ih]
theorem Zd7:∀{xs:List PV}{ns:List Bool},Zcp xs=some ns->xs=ns.map PV.bl
 |[],_,h=>by cases h;rfl
 |.bl i::xs,ns,h=>by
  simp only[Zcp] at h
  cases e:Zcp xs with
  |none=>rw[e] at h;cases h
  |some ms=>rw[e] at h;cases h;rw[Zd7 e];rfl
 |.non::_,_,h=>by cases h
 |.int _::_,_,h=>by cases h
 |.str _::_,_,h=>by cases h
 |.exc _::_,_,h=>by cases h
 |.exa _ _::_,_,h=>by cases h
 |.box _ _ _::_,_,h=>by cases h
 |.fz _::_,_,h=>by cases h
 |.lst _::_,_,h=>by cases h
 |.tup _::_,_,h=>by cases h
theorem Zc9 {S:Addr->Prop}:∀{ns:List Bool}{vs:List V},Reps K H S (ns.map PV.bl) vs->vs=ns.map V.bl
 |[],_,h=>h
 |n::ns,_,h=>by
  obtain⟨v,r,rfl,h1,h2⟩:=h
  cases h1
  rw[Zc9 h2];rfl
noncomputable def Zk6 (xs:List PV):Rr PV:=match xs with
 |[.lst ys]=>match Zcp ys with
  |some bs=>.ok (.bl (bs.all id))
  |none=>.bad
 |_=>.bad
theorem Zll (ha:DAA K EX Γ Γ' ta fa):DE K EX Γ Γ' .P (tCB (fun xs H Q=>∃p,∃bs:List Bool,xs=[.ref p]/\SqL K H p (bs.map V.bl)/\Q (.bl (bs.all id)) H) ta) (fun ρ=>(fa ρ).bind Zk6):=by
 refine ZfX (fun {H xs vs Q} h z e=>?_) (fun xs e h=>?_) ha
 ·unfold Zk6 at e
  split at e
  ·split at e
   ·rename_i bs hb
    cases e
    rw[Zd7 hb] at h
    obtain⟨v,rfl,a,ws,rfl,hn,hr⟩:=UV h
    rw[Zc9 hr] at hn
    exact⟨rfl,fun q=>⟨a,bs,rfl,JN (S:=fun _=>True) hn,q _ rfl⟩⟩
   ·cases e
  ·cases e
 ·unfold Zk6 at h
  split at h
  ·split at h<;>cases h
  ·cases h
end
theorem Zdd {n:Nat} (h:n<=1000000):n<=sizeLine:=Ztr h (by decide)
section
end
def Frm (H:Hp) (F:Nat->List Addr) (H':Hp) (F':Nat->List Addr):Prop:=∀a o,H a=some o->(∀i,a ∉ F i)->H' a=some o/\∀i,a ∉ F' i
theorem Frm.refl {H:Hp}{F:Nat->List Addr}:Frm H F H F:=fun a o h n=>⟨h,n⟩
theorem Frm.trans {H H1 H2:Hp}{F F1 F2:Nat->List Addr} (h1:Frm H F H1 F1) (h2:Frm H1 F1 H2 F2):Frm H F H2 F2:=fun a o h n=>let ⟨h3,n3⟩:=h1 a o h n;h2 a o h3 n3
theorem Frm.of {H H':Hp}{F F':Nat->List Addr} (s:Z0 H H') (f:∀i,∀a∈F' i,a∈F i):Frm H F H' F':=fun a o h n=>⟨s a o h,fun i z=>n i (f i a z)⟩
def ItP (K:W.Frag) (S:Addr->Prop) (J:It) (xs:List PV) (H:Hp):Prop:=
 ∀i,(∀x,xs[i]?=some x->J.go i H/\∀v H',J.yld i H v H'->Z0 H H'/\Rep K H' S x v)/\(xs[i]?=none->J.stop i H)
def DI (K:W.Frag) (EX:PX->Hp->Prop) (Γ Γ':List Md) (wi:TI) (f:List PV->Rr (List PV)):Prop:=
 ∀(B:Addr->Prop) (H0 H:Hp) (σ:St) (ρ:List PV) (F:Nat->List Addr) (R:List Addr) (Q:It->Hp->Prop),Ag K B H0 H σ Γ ρ F R ->
  Dn (f ρ) (fun xs=>∀J H' F',Z0 H H'->(∀i,∀a∈F' i,a∈F i)->Ag K B H0 H' σ Γ' ρ F' R->(∀H2 F2,Frm H' F' H2 F2->ItP K (fun a=>NO B F2 R a/\H' a≠none/\∀i,a ∉ F' i) J xs H2)->Q J H') (fun e=>∀H',Z0 H0 H'->EX e H')->wi σ H Q
def DIc (K:W.Frag) (EX:PX->Hp->Prop) (Γ Γ':List Md) (wi:TI) (f:List PV->Rr (List PV)):Prop:=
 ∀(B:Addr->Prop) (H0 H:Hp) (σ:St) (ρ:List PV) (F:Nat->List Addr) (R:List Addr) (Q:It->Hp->Prop),Ag K B H0 H σ Γ ρ F R ->
  Dn (f ρ) (fun xs=>∀J H' F',Z0 H H'->(∀i,∀a∈F' i,a∈F i)->Ag K B H0 H' σ Γ' ρ F' R->(∀H2 F2,Z0 H' H2->(∀i,∀a∈F2 i,a∈F' i)->ItP K (fun a=>NO B F2 R a/\H' a≠none/\∀i,a ∉ F' i) J xs H2)->Q J H') (fun e=>∀H',Z0 H0 H'->EX e H')->wi σ H Q
theorem DI.c {K:W.Frag}{EX:PX->Hp->Prop}{Γ Γ':List Md}{wi:TI}{f:List PV->Rr (List PV)} (h:DI K EX Γ Γ' wi f):DIc K EX Γ Γ' wi f:=fun B H0 H σ ρ F R Q A d =>
 h B H0 H σ ρ F R Q A (d.imp (fun xs _ d J H' F' s1 f1 A1 it=>d J H' F' s1 f1 A1 fun H2 F2 s2 f2=>it H2 F2 (Frm.of s2 f2)) fun e q=>q)
section
variable {K:W.Frag}{B:Addr->Prop}{EX:PX->Hp->Prop}{H0 H H':Hp}{σ:St}{Γ Γ' Γ1 Γ2 Γ3:List Md}{ρ:List PV}{F F':Nat->List Addr}{R:List Addr}{k:Kd}{x:PV}{v:V}{te tb:TE}{ta:TA}{f fb:List PV->Rr PV}{fa:List PV->Rr (List PV)}
theorem Rep.frm {F2:Nat->List Addr}{H2:Hp} (h:Frm H F H2 F2) (A:Ag K B H0 H σ Γ ρ F R) (r:Rep K H (NO B F R) x v):Rep K H2 (fun a=>NO B F2 R a/\H a≠none/\∀i,a ∉ F i) x v:=by
 refine Rep.mono (fun a us s r=>?_) (fun a us r=>?_) r
 ·rcases r with r|⟨o,r⟩
  ·obtain⟨h1,h2⟩:=h a _ r s.2.2;exact⟨.inl h1,⟨s.1,s.2.1,h2⟩,by rw[r];simp,s.2.2⟩
  ·obtain⟨h1,h2⟩:=h a _ r s.2.2;exact⟨.inr ⟨o,h1⟩,⟨s.1,s.2.1,h2⟩,by rw[r];simp,s.2.2⟩
 ·refine⟨(h a _ r.1 fun i z=>?_).1,r.2⟩
  obtain⟨vs,q⟩:=A.live i a z
  exact UE vs.2 r.2 (by rw[r.1] at q;exact Option.some.inj q)
noncomputable def Zb8 (lo:Int) (n:Nat):List PV:=(List.range n).map fun(k:Nat)=>PV.int (lo+(k:Int))
theorem Zf5 {lo:Int}{n:Nat}{S:Addr->Prop}:ItP K S (Itr lo n) (Zb8 lo n) H:=by
 intro i
 constructor
 ·intro x hx
  unfold Zb8 at hx
  rw[Ztb] at hx
  by_cases h:i<n
  ·rw[Zt9 h] at hx
   cases hx
   exact⟨h,fun v H' ⟨e1,e2⟩=>by subst e1 e2;exact⟨Z0.refl _,rfl⟩⟩
  ·rw[Ztd (by simpa using h)] at hx;cases hx
 ·intro hx
  unfold Zb8 at hx
  have:=Ztv.mp hx
  show n<=i
  simpa using this
noncomputable def okR (j:Int):Bool:=decide (-(2^62)<=j/\j<2^62)
noncomputable def ZgR (xs:List PV):Rr (List PV):=match xs with
 |[.int j]=>if okR j=true then .ok (Zb8 0 j.toNat) else .bad
 |_=>.bad
noncomputable def ZgQ (xs:List PV):Rr (List PV):=match xs with
 |[.int i,.int j]=>if (okR i&&okR j)=true then .ok (Zb8 i (j-i).toNat) else .bad
 |_=>.bad
theorem Qz (ha:DAA K EX Γ Γ' ta fa):DI K EX Γ Γ' (ZkV ta) (fun ρ=>(fa ρ).bind ZgR):=fun B H0 H σ ρ F R Q A d=>by
 refine ha B H0 H σ ρ F R _ A (d.bind.imp (fun xs _ d vs H1 F1 s1 f1 p1 A1=>?_) fun e q=>q)
 unfold ZgR at d
 split at d
 ·rename_i j _
  obtain⟨v,rfl,h1⟩:=UV p1
  cases h1
  by_cases h:okR j=true
  ·rw[if_pos h] at d
   have h':=of_decide_eq_true h
   exact⟨j,rfl,h'.1,h'.2,d _ H1 F1 s1 f1 A1 fun H2 F2 _=>Zf5⟩
  ·rw[if_neg h] at d;exact d.elim
 ·exact d.elim
theorem Zju (ha:DAA K EX Γ Γ' ta fa):DI K EX Γ Γ' (ZkU ta) (fun ρ=>(fa ρ).bind ZgQ):=fun B H0 H σ ρ F R Q A d=>by
 refine ha B H0 H σ ρ F R _ A (d.bind.imp (fun xs _ d vs H1 F1 s1 f1 p1 A1=>?_) fun e q=>q)
 unfold ZgQ at d
 split at d
 ·rename_i i j _
  obtain⟨v,w,rfl,h1,h2⟩:=ZiH p1
  cases h1;cases h2
  by_cases h:(okR i&&okR j)=true
  ·rw[if_pos h] at d
   rw[Bool.and_eq_true] at h
   have h':=of_decide_eq_true h.1
   have h'':=of_decide_eq_true h.2
   exact⟨i,j,rfl,⟨h'.1,h'.2,h''.1,h''.2⟩,d _ H1 F1 s1 f1 A1 fun H2 F2 _=>Zf5⟩
  ·rw[if_neg h] at d;exact d.elim
 ·exact d.elim
noncomputable def asL (x:PV):Rr (List PV):=match x with
 |.lst xs=>.ok xs
 |_=>.bad
theorem Zjg {a:Addr}{xs:List PV}{S:Addr->Prop} (h:Rep K H S (.lst xs) (.ref a)):ItP K S (Itl K a) xs H:=by
 obtain⟨a',vs,e,hn,hr⟩:=h
 cases e
 intro i
 constructor
 ·intro x hx
  obtain⟨u,e1,e2⟩:=hr.get hx
  refine⟨⟨vs,u,JN hn,e1⟩,fun v H' ⟨e,y⟩=>?_⟩
  subst e
  have:=y vs (JN hn)
  rw[e1] at this;cases this
  exact⟨Z0.refl _,e2⟩
 ·intro hx
  exact⟨vs,JN hn,by rw[hr.length];exact Ztv.mp hx⟩
theorem JZ (he:DE K EX Γ Γ' .Z te f):DI K EX Γ Γ' (Zji K te) (fun ρ=>(f ρ).bind asL):=fun B H0 H σ ρ F R Q A d=>by
 refine he B H0 H σ ρ F R _ A (d.bind.imp (fun x _ d v H1 s1 r1=>?_) fun e q=>q)
 obtain⟨F1,f1,p1,A1⟩:=r1
 cases x with
 |lst xs =>
  obtain⟨a,vs,rfl,hn,hr⟩:=id p1
  exact⟨a,rfl,⟨vs,JN hn⟩,d _ H1 F1 s1 f1 A1 fun H2 F2 h=>Zjg (p1.frm h A1)⟩
 |_=>exact d.elim
theorem Zbf:∀{ns:List Int},PV.flats (ns.map PV.int)=true
 |[]=>rfl
 |n::ns=>by simp only[Ztc,PV.flats,PV.flat,Zbf,Bool.and_self]
def DO (K:W.Frag) (EX:PX->Hp->Prop) (Γ Γ':List Md) (t:TO) (f:List PV->Rr (Option Int)):Prop:=
 ∀(B:Addr->Prop) (H0 H:Hp) (σ:St) (ρ:List PV) (F:Nat->List Addr) (R:List Addr) (Q:Option Int->Hp->Prop),Ag K B H0 H σ Γ ρ F R ->
  Dn (f ρ) (fun o=>∀H' F',Z0 H H'->(∀i,∀a∈F' i,a∈F i)->Ag K B H0 H' σ Γ' ρ F' R->Q o H') (fun e=>∀H',Z0 H0 H'->EX e H')->t σ H Q
theorem Qy:DO K EX Γ Γ Zez (fun _=>.ok none):=fun B H0 H σ ρ F R Q A d=>d H F (Z0.refl H) (fun _ _ h=>h) A
noncomputable def asI (x:PV):Rr Int:=match x with
 |.int i=>.ok i
 |_=>.bad
theorem Dn.asI {x:PV}{ok:Int->Prop}{ex:PX->Prop} (d:Dn (asI x) ok ex):∃b,x=.int b/\ok b:=by
 cases x with
 |int b=>exact⟨b,rfl,d⟩
 |_=>exact d.elim
theorem Qx (he:DE K EX Γ Γ' .A te f):DO K EX Γ Γ' (Zka te) (fun ρ=>(f ρ).bind fun x=>(asI x).bind fun i=>.ok (some i)):=fun B H0 H σ ρ F R Q A d=>by
 refine he B H0 H σ ρ F R _ A (d.bind.imp (fun x _ d v H1 s1 r1=>?_) fun e q=>q)
 obtain⟨i,rfl,d⟩:=d.bind.asI
 obtain⟨F1,f1,p1,A1⟩:=r1
 cases p1
 exact⟨i,rfl,d H1 F1 s1 f1 A1⟩
noncomputable def Zj4 {α:Type} (xs:List α) (lo hi:Option Int):List α:=(xs.drop (HT.sIx xs.length 0 lo)).take (HT.sIx xs.length xs.length hi-HT.sIx xs.length 0 lo)
theorem Reps.cut {S:Addr->Prop}{xs:List PV}{vs:List V} (h:Reps K H S xs vs) (lo hi:Option Int):Reps K H S (Zj4 xs lo hi) (ZjM vs lo hi):=by
 unfold Zj4 ZjM
 rw[h.length]
 exact(h.drop _).take _
noncomputable def newF (xs:List PV):Rr PV:=if (PV.flats xs&&decide (xs.length<=1000000))=true then .ok (.lst xs) else .bad
theorem Dn.newF {xs:List PV}{ok:PV->Prop}{ex:PX->Prop} (d:Dn (newF xs) ok ex):PV.flats xs=true/\xs.length<=1000000/\ok (.lst xs):=by
 unfold L2.newF at d
 by_cases h:(PV.flats xs&&decide (xs.length<=1000000))=true
 ·rw[if_pos h] at d
  rw[Bool.and_eq_true] at h
  exact⟨h.1,of_decide_eq_true h.2,d⟩
 ·rw[if_neg h] at d;exact d.elim
theorem Zbk {tl th:TO}{fl fh:List PV->Rr (Option Int)} (he:DE K EX Γ Γ1 .A te f) (hl:DO K EX Γ1 Γ2 tl fl) (hh:DO K EX Γ2 Γ3 th fh) :
  DE K EX Γ Γ3 .F (tSl (ZlM K) te tl th) (fun ρ=>(f ρ).bind fun x=>(fl ρ).bind fun lo=>(fh ρ).bind fun hi=>(asL x).bind fun xs=>newF (Zj4 xs lo hi)):=fun B H0 H σ ρ F R Q A d=>by
 refine he B H0 H σ ρ F R _ A (d.bind.imp (fun x _ d v H1 s1 r1=>?_) fun e q=>q)
 obtain⟨F1,f1,p1,A1⟩:=r1
 refine hl B H0 H1 σ ρ F1 R _ A1 (d.bind.imp (fun lo _ d H2 F2 s2 f2 A2=>?_) fun e q=>q)
 refine hh B H0 H2 σ ρ F2 R _ A2 (d.bind.imp (fun hi _ d H3 F3 s3 f3 A3=>?_) fun e q=>q)
 cases x with
 |lst xs =>
  obtain⟨h1,h2,d⟩:=Dn.newF d
  obtain⟨a,vs,rfl,hn,hr⟩:=(p1.same s2).same s3
  refine⟨a,vs,rfl,JN (S:=fun _=>True) hn,fun p hp=>?_⟩
  exact d _ _ (((s1.trans s2).trans s3).trans (Z0.new hp)) (Res.newP ((s1.trans s2).trans s3) (fun i a h=>f1 i a (f2 i a (f3 i a h))) (hr.cut lo hi) h1 A3 hp)
 |_=>exact d.elim
noncomputable def Zk1 (xs:List PV) (y:PV):Rr PV:=match y with
 |.int k=>if xs.length*k.toNat<=1000000/\-(2^63)<=k/\k<2^63 then newF (List.replicate k.toNat xs).flatten else .bad
 |_=>.bad
theorem Reps.rep {S:Addr->Prop}{xs:List PV}{vs:List V} (h:Reps K H S xs vs):∀n:Nat,Reps K H S (List.replicate n xs).flatten (List.replicate n vs).flatten
 |0=>rfl
 |n+1=>by
  rw[Zts,Zts,Zt6,Zt6]
  exact h.append (Reps.rep h n)
theorem Zjv (ha:DAA K EX Γ Γ1 ta fa) (hb:DE K EX Γ1 Γ2 .A tb fb) :
  DE K EX Γ Γ2 .F (tOp ZmI (ZlJ ta) tb) (fun ρ=>(fa ρ).bind fun xs=>(mkL xs).bind fun _=>(fb ρ).bind fun y=>Zk1 xs y):=fun B H0 H σ ρ F R Q A d=>by
 refine ha B H0 H σ ρ F R _ A (d.bind.imp (fun xs _ d vs H1 F1 s1 f1 p1 A1=>?_) fun e q=>q)
 obtain⟨hl,d⟩:=Dn.mkL d.bind
 refine⟨by rw[p1.length];exact UF hl,fun p hp=>?_⟩
 have e:Z0 H1 (upd H1 p (.lst vs)):=Z0.new hp
 refine hb B H0 _ σ ρ F1 R _ (A1.grow e) (d.bind.imp (fun y _ d w H2 s2 r2=>?_) fun e q=>q)
 obtain⟨F2,f2,p2,A2⟩:=r2
 cases y with
 |int k =>
  cases p2
  simp only[Zk1] at d
  by_cases h:xs.length*k.toNat<=1000000/\-(2^63)<=k/\k<2^63
  ·rw[if_pos h] at d
   obtain⟨h1,h2,d⟩:=Dn.newF d
   refine⟨p,k,vs,rfl,rfl,s2 _ _ Zw,h.2.1,h.2.2,by rw[p1.length];exact Zdd h.1,fun q hq=>?_⟩
   have st:=(s1.trans e).trans s2
   exact d _ _ (st.trans (Z0.new hq)) (Res.newP st (fun i a h=>f1 i a (f2 i a h)) (((p1.same e).same s2).rep k.toNat) h1 A2 hq)
  ·rw[if_neg h] at d;exact d.elim
 |_=>exact d.elim
noncomputable def Zfa (xs:List PV):Rr PV:=match xs with
 |[.lst ys]=>newF ys
 |[.tup ys]=>newF ys
 |_=>.bad
theorem Jq (ha:DAA K EX Γ Γ' ta fa):DE K EX Γ Γ' .F (tCB (fun xs H Q=>∃p ys,xs=[.ref p]/\(SqL K H p ys\/SqT K H p ys)/\∀l,H l=none->Q (.ref l) (upd H l (.lst ys))) ta) (fun ρ=>(fa ρ).bind Zfa):=fun B H0 H σ ρ F R Q A d=>by
 refine ha B H0 H σ ρ F R _ A (d.bind.imp (fun xs _ d vs H1 F1 s1 f1 p1 A1=>?_) fun e q=>q)
 unfold Zfa at d
 split at d
 ·obtain⟨h1,h2,d⟩:=Dn.newF d
  obtain⟨v,rfl,a,ws,rfl,hn,hr⟩:=UV p1
  exact⟨a,ws,rfl,.inl (JN (S:=fun _=>True) hn),fun l hl=>d _ _ (s1.trans (Z0.new hl)) (Res.newP s1 f1 hr h1 A1 hl)⟩
 ·obtain⟨h1,h2,d⟩:=Dn.newF d
  obtain⟨v,rfl,a,ws,rfl,hn,hr⟩:=UV p1
  exact⟨a,ws,rfl,.inr hn.sqT,fun l hl=>d _ _ (s1.trans (Z0.new hl)) (Res.newP s1 f1 hr h1 A1 hl)⟩
 ·exact d.elim
noncomputable def Vd:PV->String
 |.non => "NoneType"
 |.bl _ => "bool"
 |.int _ => "int"
 |.str _ => "str"
 |.lst _ => "list"
 |.tup _ => "tuple"
 |.exc _ => "?"
 |.exa _ _ => "?"
 |.box _ (.dk _) _ => "dict"
 |.box _ (.dt _) _ => "dict"
 |.box _ (.ob _ _) _ => "?"
 |.box _ .jk _ => "?"
 |.fz _ => "?"
noncomputable def PV.isX:PV->Bool
 |.exc _=>true
 |.exa _ _=>true
 |.box _ _ _=>true
 |.fz _=>true
 |_=>false
noncomputable def Qq (t n:String):Bool:=t==n || (t == "bool" && n == "int")
noncomputable def ZlF (n:String):Bool:=n == "int" || n == "bool" || n == "str" || n == "list" || n == "tuple"
theorem ZkI (K:W.Frag) {n:String} (h:ZlF n=true) (x:PV) (hx:x.isX=false):PySem.W.kitOne K (.type (Vd x)) (.type n)=some (Qq (Vd x) n):=by
 simp only[ZlF,Bool.or_eq_true,beq_iff_eq] at h
 rcases h with (((rfl|rfl)|rfl)|rfl)|rfl<;>cases x<;>first|rfl|cases hx
def ZmM (K:W.Frag) (n:String):List V->Hp->VK->Prop:=fun xs H Q=>∃x p,xs=[x,.ty n]/\Rep K H (fun _=>True) p x/\p.isX=false/\Q (.bl (Qq (Vd p) n)) H
theorem Uc {X:Cx}{n:String} (hn:ZlF n=true) (e:X.K=K:=by rfl):Vb X (.builtin "isinstance") (ZmM K n):=by
 subst e
 intro pins s σ H xs us Q I r h
 obtain⟨x,p,rfl,hp,hx,q⟩:=h
 obtain⟨u,w',rfl,rx,rn⟩:=ZjT r
 cases rn
 have e:=ZkI X.K hn p hx
 have fin:∀tk,EP X pins σ Q (.bool (Qq (Vd p) n)) { s with toks:=tk }:=fun tk=>⟨.bl _,H,I.tok _,rfl,q⟩
 cases p with
 |non=>cases hp;cases rx;exact PySem.W.kia_one PySem.W.kitx_none I.kIn True.intro e (fun z=>nomatch z) fin
 |bl y=>cases hp;cases rx;exact PySem.W.kia_one PySem.W.kitx_bool I.kIn True.intro e (fun z=>nomatch z) fin
 |int i=>cases hp;obtain⟨t,rfl⟩:=rx;exact PySem.W.kia_one PySem.W.kitx_int I.kIn True.intro e (fun z=>nomatch z) fin
 |str y=>cases hp;obtain⟨t,rfl⟩:=rx;exact PySem.W.kia_one PySem.W.kitx_str I.kIn True.intro e (fun z=>nomatch z) fin
 |exc y=>cases hx
 |exa y i=>cases hx
 |box p s ps=>cases hx
 |fz ps=>cases hx
 |lst ps =>
  obtain⟨a,vs,rfl,hn',hr⟩:=hp
  cases rx
  obtain⟨its,_,pl,_⟩:=I.list (JN (S:=fun _=>True) hn')
  obtain⟨o,h1,h2,_⟩:=pl.isList
  exact PySem.W.kia_one PySem.W.kitx_list I.kIn ⟨o,h1,h2⟩ e (fun z=>nomatch z) fin
 |tup ps =>
  obtain⟨a,vs,rfl,hn',hr⟩:=hp
  cases rx
  obtain⟨its,_,⟨o,h1,h2,_⟩,_⟩:=I.tuple hn'.sqT
  exact PySem.W.kia_one PySem.W.kitx_tuple I.kIn ⟨o,h1,h2⟩ e (fun z=>nomatch z) fin
noncomputable def Zk4 (n:String) (x:PV):Rr PV:=if x.isX=true then .bad else .ok (.bl (Qq (Vd x) n))
theorem Zd0 {n:String} (he:DE K EX Γ Γ' .A te f):DE K EX Γ Γ' .P (tCB (ZmM K n) (Vk te (Vk (tC (.ty n)) ZdC))) (fun ρ=>(f ρ).bind (Zk4 n)):=fun B H0 H σ ρ F R Q A d=>by
 refine he B H0 H σ ρ F R _ A (d.bind.imp (fun x _ d v H1 s1 r1=>?_) fun e q=>q)
 obtain⟨F1,f1,p1,A1⟩:=r1
 unfold Zk4 at d
 cases hx:x.isX with
 |true=>rw[hx] at d;exact d.elim
 |false=>rw[hx] at d;exact⟨v,x,rfl,p1,hx,d _ H1 s1 ⟨F1,f1,rfl,rfl,A1⟩⟩
def Len (fa:List PV->Rr (List PV)) (n:Nat):Prop:=∀ρ xs,fa ρ=.ok xs->xs.length=n
theorem Zp:Len (fun _=>.ok []) 0:=fun ρ xs h=>by cases h;rfl
theorem Zg {f:List PV->Rr PV}{fa:List PV->Rr (List PV)}{n:Nat} (h:Len fa n):Len (fun ρ=>(f ρ).bind fun x=>(fa ρ).bind fun xs=>.ok (x::xs)) (n+1):=fun ρ xs e=>by
 dsimp only at e
 cases h1:f ρ with
 |ok x =>
  rw[h1] at e
  cases h2:fa ρ with
  |ok ys=>simp only[Rr.bind_ok,h2] at e;cases e;simp[h ρ ys h2]
  |exc q=>simp only[Rr.bind_ok,h2,Rr.bind_exc] at e;cases e
  |bad=>simp only[Rr.bind_ok,h2,Rr.bind_bad] at e;cases e
 |exc q=>rw[h1] at e;cases e
 |bad=>rw[h1] at e;cases e
def Zi5 (K:W.Frag) (B:Addr->Prop) (H:Hp) (k:Kd) (x:PV) (v:V) (H':Hp):Prop:=match k with
 |.P=>x.flat=true/\Rep K H' (fun _=>True) x v
 |.F=>∃G,ZV K H' x v G/\∀a∈G,H a=none
 |.N=>∃y a s xs G1 G2,x=.tup [y,.box (some a) s xs]/\ZV K H' y v G1/\ZV K H' (.box (some a) s xs) (.ref a) G2/\(∀b∈G1,b ∉ G2)/\(∀b∈G1,H b=none)/\∀b∈G2,H b=none
 |_=>Rep K H' (fun a=>B a\/H a=none) x v
noncomputable def spF (K:PySem.W.Frag) (n:Nat) (k:Kd) (W:PX->XK->Hp->Prop) (m:List PV->Rr PV):Sp:=fun vs H Q E=>∃B xs,Reps K H B xs vs/\xs.length=n /\
 Dn (m xs) (fun x=>∀v H',Z0 H H'->Zi5 K B H k x v H'->Q v H') (fun e=>∀H',Z0 H H'->W e E H')
def W0:PX->XK->Hp->Prop:=fun _ _ _=>False
def X0:PX->Hp->Prop:=fun _ _=>False
section
variable {n:Nat}{W:PX->XK->Hp->Prop}{m:List PV->Rr PV}{E:XK}
theorem Zaw {t:TE} (ht:∀σ H Q,(ta σ H fun vs H1=>spF K n .P W m vs H1 Q E)->t σ H Q) (hW:∀e H',EX e H'->W e E H') (hn:Len fa n) (ha:DAA K EX Γ Γ' ta fa):DE K EX Γ Γ' .P t (fun ρ=>(fa ρ).bind m):=fun B H0 H σ ρ F R Q A d=>by
 refine ht _ _ _ (ha B H0 H σ ρ F R _ A (d.bind.imp (fun xs hx d vs H1 F1 s1 f1 p1 A1=>?_) fun e q=>q))
 exact⟨fun _=>True,xs,p1,hn ρ xs hx,d.imp (fun x _ d v H2 s2 r=>d v H2 (s1.trans s2) ⟨F1,f1,r.1,r.2,A1.grow s2⟩) fun e q H2 s2=>hW e H2 (q H2 (A1.same.trans s2))⟩
theorem Zd2 {t:TE} (ht:∀σ H Q,(ta σ H fun vs H1=>spF K n .F W m vs H1 Q E)->t σ H Q) (hW:∀e H',EX e H'->W e E H') (hn:Len fa n) (ha:DAA K EX Γ Γ' ta fa):DE K EX Γ Γ' .F t (fun ρ=>(fa ρ).bind m):=fun B H0 H σ ρ F R Q A d=>by
 refine ht _ _ _ (ha B H0 H σ ρ F R _ A (d.bind.imp (fun xs hx d vs H1 F1 s1 f1 p1 A1=>?_) fun e q=>q))
 refine⟨fun _=>True,xs,p1,hn ρ xs hx,d.imp (fun x _ d v H2 s2 r=>?_) fun e q H2 s2=>hW e H2 (q H2 (A1.same.trans s2))⟩
 obtain⟨G,r1,r2⟩:=r
 exact d v H2 (s1.trans s2) ⟨F1,f1,G,r1,fun a ha=>⟨(A1.fresh (r2 a ha)).1,.inl (s1.free (r2 a ha))⟩,A1.more s2 r2 r1.alive⟩
end
end
noncomputable def Zb0 {α β:Type} (f:α->Rr β):List α->Rr (List β)
 |[]=>.ok []
 |x::xs=>(f x).bind fun y=>(Zb0 f xs).bind fun ys=>.ok (y::ys)
noncomputable def lenM (xs:List PV):Rr Unit:=if xs.length<=1000000 then .ok () else .bad
theorem Dn.lenM {xs:List PV}{ok:Unit->Prop}{ex:PX->Prop} (d:Dn (lenM xs) ok ex):xs.length<=1000000/\ok ():=by
 unfold L2.lenM at d
 by_cases h:xs.length<=1000000
 ·rw[if_pos h] at d;exact⟨h,d⟩
 ·rw[if_neg h] at d;exact d.elim
theorem Rr.assoc {α β γ:Type}{r:Rr α}{f:α->Rr β}{g:β->Rr γ}:(r.bind f).bind g=r.bind fun a=>(f a).bind g:=by cases r<;>rfl
section
variable {K:W.Frag}{B:Addr->Prop}{H0 H:Hp}{σ:St}{Γ:List Md}{ρ:List PV}{F:Nat->List Addr}{R:List Addr}{x:PV}{v:V}
theorem Ag.outF (A:Ag K B H0 H σ Γ ρ F R) {i:Nat} (h:Γ.length<=i):F i=[]:=by
 have:=A.slot i
 rw[ZsQ,Ztd h] at this
 exact this
theorem Ag.push (A:Ag K B H0 H σ Γ ρ F R) (h:Rep K H (NO B F R) x v):Ag K B H0 H (σ++[some v]) (Γ++[.S]) (ρ++[x]) F R:=by
 refine⟨A.same,A.own,A.young,A.youngR,A.live,A.liveR,A.disj,A.disjR,by simp[A.lenS],by simp[A.lenR],fun i=>?_⟩
 by_cases h1:i<Γ.length
 ·have:=A.slot i
  rw[ZsQ,ZsQ,Zte h1,Zte (by rw[A.lenR];exact h1),Zte (by rw[A.lenS];exact h1),<- ZsQ,<- ZsQ]
  exact this
 ·by_cases h2:i=Γ.length
  ·subst h2
   rw[ZsQ,ZsQ,Zto (ZsV _),Zto (by rw[A.lenR];exact ZsV _),Zto (by rw[A.lenS];exact ZsV _),A.lenR,A.lenS]
   simp only[Nat.sub_self,ZtA,Zuh]
   exact⟨A.outF (ZsV _),v,rfl,h⟩
  ·rw[ZsQ,Ztd (by simp;omega)]
   exact A.outF (by omega)
end
inductive RS where
 |next (ρ:List PV)|ret (x:PV)|brk (ρ:List PV)|cont (ρ:List PV)|exc (e:PX)|bad
noncomputable def Rr.thenS {α:Type}:Rr α->(α->RS)->RS
 |.ok a,f=>f a
 |.exc e,_=>.exc e
 |.bad,_=>.bad
noncomputable def RS.seq:RS->(List PV->RS)->RS
 |.next ρ,f=>f ρ
 |r,_=>r
@[simp] theorem Rr.thenS_ok {α:Type}{a:α}{f:α->RS}:(Rr.ok a).thenS f=f a:=rfl
@[simp] theorem Rr.thenS_exc {α:Type}{e:PX}{f:α->RS}:(Rr.exc e:Rr α).thenS f=.exc e:=rfl
@[simp] theorem RS.seq_next {ρ:List PV}{f:List PV->RS}:(RS.next ρ).seq f=f ρ:=rfl
@[simp] theorem RS.seq_ret {x:PV}{f:List PV->RS}:(RS.ret x).seq f=.ret x:=rfl
@[simp] theorem RS.seq_exc {e:PX}{f:List PV->RS}:(RS.exc e).seq f=.exc e:=rfl
structure Tys where
 n:List Md
 b:List Md
 c:List Md
 r:Kd
def DnS (K:W.Frag) (B:Addr->Prop) (EX:PX->Hp->Prop) (Y:Tys) (H0 H:Hp) (F:Nat->List Addr) (D:Zgy) (r:RS):Prop:=match r with
 |.next ρ=>∀σ' H' F',Frm H F H' F'->Ag K B H0 H' σ' Y.n ρ F' []->D.nx σ' H'
 |.brk ρ=>∀σ' H' F',Frm H F H' F'->Ag K B H0 H' σ' Y.b ρ F' []->D.bk σ' H'
 |.cont ρ=>∀σ' H' F',Frm H F H' F'->Ag K B H0 H' σ' Y.c ρ F' []->D.ct σ' H'
 |.ret x=>∀v H',Z0 H0 H'->Zi5 K B H0 Y.r x v H'->D.rt v H'
 |.exc e=>∀H',Z0 H0 H'->EX e H'
 |.bad=>False
def DS (K:W.Frag) (EX:PX->Hp->Prop) (Γ:List Md) (Y:Tys) (t:TS) (g:List PV->RS):Prop:=
 ∀(B:Addr->Prop) (H0 H:Hp) (σ:St) (ρ:List PV) (F:Nat->List Addr) (D:Zgy),Ag K B H0 H σ Γ ρ F []->DnS K B EX Y H0 H F D (g ρ)->t D σ H
section
variable {K:W.Frag}{B:Addr->Prop}{EX:PX->Hp->Prop}{H0 H H':Hp}{σ:St}{Γ Γ' Γ1 Γ2 Γ3:List Md}{ρ:List PV}{F F':Nat->List Addr}{R:List Addr}{k:Kd}{x:PV}{v:V}{te:TE}{f fc:List PV->Rr PV}
 {t u:TS}{g g':List PV->RS}{Y:Tys}{D:Zgy}
theorem DnS.shift {H1:Hp}{F1:Nat->List Addr}{r:RS} (fr:Frm H F H1 F1) (h:DnS K B EX Y H0 H F D r):DnS K B EX Y H0 H1 F1 D r:=by
 cases r with
 |next ρ=>exact fun σ' H' F' fr' A=>h σ' H' F' (fr.trans fr') A
 |brk ρ=>exact fun σ' H' F' fr' A=>h σ' H' F' (fr.trans fr') A
 |cont ρ=>exact fun σ' H' F' fr' A=>h σ' H' F' (fr.trans fr') A
 |ret x=>exact h
 |exc e=>exact h
 |bad=>exact h
theorem DnS.thenS {α:Type}{r:Rr α}{f:α->RS} (h:DnS K B EX Y H0 H F D (r.thenS f)):Dn r (fun a=>DnS K B EX Y H0 H F D (f a)) (fun e=>∀H',Z0 H0 H'->EX e H'):=by
 cases r with
 |ok a=>exact h
 |exc e=>exact h
 |bad=>exact h
theorem ZP:DS K EX Γ ⟨Γ,Γ1,Γ2,k⟩ Zkc (fun ρ=>.next ρ):=fun B H0 H σ ρ F D A d=>d σ H F Frm.refl A
theorem Zm {Γm:List Md} (h1:DS K EX Γ ⟨Γm,Y.b,Y.c,Y.r⟩ t g) (h2:DS K EX Γm Y u g'):DS K EX Γ Y (ZlI t u) (fun ρ=>(g ρ).seq g'):=fun B H0 H σ ρ F D A d=>by
 refine h1 B H0 H σ ρ F _ A ?_
 dsimp only at d
 cases e:g ρ with
 |next ρ1 =>
  rw[e] at d
  exact fun σ' H' F' fr A'=>h2 B H0 H' σ' ρ1 F' D A' (DnS.shift fr d)
 |brk ρ1=>rw[e] at d;exact d
 |cont ρ1=>rw[e] at d;exact d
 |ret x=>rw[e] at d;exact d
 |exc q=>rw[e] at d;exact d
 |bad=>rw[e] at d;exact d
noncomputable def mle (m m':Md):Bool:=m==m' || m'==.U || (m'==.S&&m != .U) || (m'==.O&&m==.P)
noncomputable def Ziq:List Md->List Md->Bool
 |[],[]=>true
 |m::ms,m'::ms'=>mle m m'&&Ziq ms ms'
 |_,_=>false
theorem Zda:∀{Γ Γ':List Md},Ziq Γ Γ'=true->Γ.length=Γ'.length/\∀i,mle (Γ.getD i .U) (Γ'.getD i .U)=true
 |[],[],_=>⟨rfl,fun i=>by simp[mle]⟩
 |m::ms,m'::ms',h=>by
  simp only[Ziq,Bool.and_eq_true] at h
  obtain⟨h1,h2⟩:=Zda h.2
  refine⟨by simp[h1],fun i=>?_⟩
  cases i with
  |zero=>simpa using h.1
  |succ i=>simpa using h2 i
 |[],_::_,h=>by cases h
 |_::_,[],h=>by cases h
theorem Ag.weak (A:Ag K B H0 H σ Γ ρ F R) (h:Ziq Γ Γ'=true):∃F',(∀i,∀a∈F' i,a∈F i)/\Ag K B H0 H σ Γ' ρ F' R:=by
 obtain⟨hl,hm⟩:=Zda h
 let F':Nat->List Addr:=fun i=>if Γ.getD i .U=Γ'.getD i .U then F i else []
 have hF:∀i,∀a∈F' i,a∈F i:=fun i a ha=>by
  by_cases q:Γ.getD i .U=Γ'.getD i .U
  ·simp only[F',if_pos q] at ha;exact ha
  ·simp only[F',if_neg q] at ha;simp at ha
 have up:∀{a},NO B F R a->NO B F' R a:=fun {a} s=>⟨s.1,s.2.1,fun j z=>s.2.2 j (hF j a z)⟩
 refine⟨F',hF,A.same,A.own,fun i a ha=>A.young i a (hF i a ha),A.youngR,fun i a ha=>A.live i a (hF i a ha),A.liveR,fun i j hij a ha z=>A.disj i j hij a (hF i a ha) (hF j a z),fun i a ha=>A.disjR i a (hF i a ha),by rw[A.lenS,hl],by rw[A.lenR,hl],fun i=>?_⟩
 have sl:=A.slot i
 have hmi:=hm i
 by_cases q:Γ.getD i .U=Γ'.getD i .U
 ·simp only[F',if_pos q]
  rw[<- q]
  exact sl.mono (fun a vs s r=>⟨r,up s⟩) (fun a vs r=>r) fun a ha vs r=>r
 ·simp only[F',if_neg q]
  simp only[mle,Bool.or_eq_true,beq_iff_eq,Bool.and_eq_true,bne_iff_ne] at hmi
  rcases hmi with ((z|z)|z)|z
  ·exact absurd z q
  ·rw[z];exact rfl
  rotate_left
  ·rw[z.1]
   rw[z.2] at sl
   obtain⟨e,v,h1,h2,h3⟩:=sl
   exact⟨v,h1,h3.tree h2⟩
  ·rw[z.1]
   have own:∀a∈F i,NO B F' R a:=fun a ha=>⟨A.own a (A.young i a ha),A.disjR i a ha,fun j w=>by
    by_cases hj:j=i
    ·subst hj;simp only[F',if_neg q] at w;simp at w
    ·exact A.disj j i hj a (hF j a w) ha⟩
   cases hmm:Γ.getD i .U with
   |U=>exact absurd hmm z.2
   |P=>rw[hmm] at sl;obtain⟨e,v,h1,h2,h3⟩:=sl;exact⟨rfl,v,h1,h3.flatS h2⟩
   |S=>rw[hmm] at sl;obtain⟨e,v,h1,h2⟩:=sl;exact⟨rfl,v,h1,Rep.mono (fun a vs s r=>⟨r,up s⟩) (fun a vs r=>r) h2⟩
   |T =>
    rw[hmm] at sl
    obtain⟨a,vs,xs,h1,h2,h3,h4,h5⟩:=sl
    refine⟨rfl,_,h1, ?_⟩
    rw[h2]
    exact⟨a,vs,rfl,.inl ⟨.inl h3,own a (by rw[h5];simp)⟩,Reps.mono (fun a vs s r=>⟨r,up s⟩) (fun a vs r=>r) h4⟩
   |O=>rw[hmm] at sl;obtain⟨v,h1,h2⟩:=sl;exact⟨rfl,v,h1,h2.rep own⟩
theorem DS.out {Y':Tys} (h:DS K EX Γ Y t g) (hn:Ziq Y.n Y'.n=true) (hb:Ziq Y.b Y'.b=true) (hc:Ziq Y.c Y'.c=true) (hr:Y.r=Y'.r):DS K EX Γ Y' t g:=fun B H0 H σ ρ F D A d=>by
 refine h B H0 H σ ρ F D A ?_
 cases e:g ρ with
 |next ρ1=>rw[e] at d;exact fun σ' H' F' fr A'=>let ⟨F2,f2,A2⟩:=A'.weak hn;d σ' H' F2 (fr.trans (Frm.of (Z0.refl _) f2)) A2
 |brk ρ1=>rw[e] at d;exact fun σ' H' F' fr A'=>let ⟨F2,f2,A2⟩:=A'.weak hb;d σ' H' F2 (fr.trans (Frm.of (Z0.refl _) f2)) A2
 |cont ρ1=>rw[e] at d;exact fun σ' H' F' fr A'=>let ⟨F2,f2,A2⟩:=A'.weak hc;d σ' H' F2 (fr.trans (Frm.of (Z0.refl _) f2)) A2
 |ret x=>rw[e] at d;exact fun v H' s r=>d v H' s (hr▸r)
 |exc q=>rw[e] at d;exact d
 |bad=>rw[e] at d;exact d
theorem ZbY {H1:Hp}{F1:Nat->List Addr}{i:Nat}{G:List Addr} (s1:Z0 H H1) (f1:∀i,∀a∈F1 i,a∈F i) (o:∀a∈G,H a=none\/∃i,a∈F i):Frm H F H1 (VB F1 i G):=fun a u h n=>by
 refine⟨s1 a u h,fun j z=>?_⟩
 by_cases q:j=i
 ·subst q
  rw[Zr] at z
  rcases o a z with w|⟨l,w⟩
  ·rw[h] at w;cases w
  ·exact n l w
 ·rw[Zx q] at z;exact n j (f1 j a z)
theorem Z6 {i:Nat} (he:DE K EX Γ Γ' .P te f) (hi:i<Γ'.length):DS K EX Γ ⟨Γ'.set i .P,Γ1,Γ2,k⟩ (ZjH te (Zec i)) (fun ρ=>(f ρ).thenS fun x=>.next (ρ.set i x)):=fun B H0 H σ ρ F D A d=>by
 refine he B H0 H σ ρ F [] _ A (d.thenS.imp (fun x _ d v H1 s1 r1=>?_) fun e q=>q)
 obtain⟨F1,f1,h1,h2,A1⟩:=r1
 exact d _ H1 _ (ZbY (G:=[]) s1 f1 (by simp)) (Ag.put (G:=[]) (R:=[]) A1 hi (by simp) ⟨rfl,v,rfl,h1,h2⟩)
theorem Jn {i:Nat} (he:DE K EX Γ Γ' .F te f) (hi:i<Γ'.length):DS K EX Γ ⟨Γ'.set i .O,Γ1,Γ2,k⟩ (ZjH te (Zec i)) (fun ρ=>(f ρ).thenS fun x=>.next (ρ.set i x)):=fun B H0 H σ ρ F D A d=>by
 refine he B H0 H σ ρ F [] _ A (d.thenS.imp (fun x _ d v H1 s1 r1=>?_) fun e q=>q)
 obtain⟨F1,f1,G,h1,h2,A1⟩:=r1
 exact d _ H1 _ (ZbY s1 f1 fun a ha=>(h2 a ha).2) (Ag.put (R:=[]) A1 hi (by simp) ⟨v,rfl,h1⟩)
theorem Um (he:DE K EX Γ Γ' .A te f):DS K EX Γ ⟨Γ',Γ1,Γ2,k⟩ (ZdD te) (fun ρ=>(f ρ).thenS fun _=>.next ρ):=fun B H0 H σ ρ F D A d=>by
 refine he B H0 H σ ρ F [] _ A (d.thenS.imp (fun x _ d v H1 s1 r1=>?_) fun e q=>q)
 obtain⟨F1,f1,h1,A1⟩:=r1
 exact d σ H1 F1 (Frm.of s1 f1) A1
theorem ZZ (he:DE K EX Γ Γ' .P te f):DS K EX Γ ⟨Γ3,Γ1,Γ2,.P⟩ (ZjZ te) (fun ρ=>(f ρ).thenS fun x=>.ret x):=fun B H0 H σ ρ F D A d=>by
 refine he B H0 H σ ρ F [] _ A (d.thenS.imp (fun x _ d v H1 s1 r1=>?_) fun e q=>q)
 obtain⟨F1,f1,h1,h2,A1⟩:=r1
 exact d v H1 A1.same ⟨h1,h2⟩
theorem Ju (he:DE K EX Γ Γ' .F te f):DS K EX Γ ⟨Γ3,Γ1,Γ2,.F⟩ (ZjZ te) (fun ρ=>(f ρ).thenS fun x=>.ret x):=fun B H0 H σ ρ F D A d=>by
 refine he B H0 H σ ρ F [] _ A (d.thenS.imp (fun x _ d v H1 s1 r1=>?_) fun e q=>q)
 obtain⟨F1,f1,G,h1,h2,A1⟩:=r1
 exact d v H1 A1.same ⟨G,h1,fun a ha=>A1.youngR a (by simpa using ha)⟩
theorem J8 {c:TT}{fc:List PV->Rr Bool} (hc:DT K EX Γ Γ' c fc) (h1:DS K EX Γ' Y t g) (h2:DS K EX Γ' Y u g'):DS K EX Γ Y (Zm9 c t u) (fun ρ=>(fc ρ).thenS fun b=>if b=true then g ρ else g' ρ):=fun B H0 H σ ρ F D A d=>by
 refine hc B H0 H σ ρ F [] _ A (d.thenS.imp (fun b _ d H1 F1 s1 f1 A1=>?_) fun e q=>q)
 cases b with
 |true=>exact h1 B H0 H1 σ ρ F1 D A1 (DnS.shift (Frm.of s1 f1) d)
 |false=>exact h2 B H0 H1 σ ρ F1 D A1 (DnS.shift (Frm.of s1 f1) d)
theorem Zdv:DS K EX Γ Y ZhV (fun _=>.bad):=fun B H0 H σ ρ F D A d=>d
theorem Zjr {i:Nat}{h:Int->Int->Int} (hm:Γ[i]?=some .P) (he:DE K EX Γ Γ .A te f):DS K EX Γ ⟨Γ,Γ1,Γ2,k⟩ (ZmD i te (ipI h)) (fun ρ=>(f ρ).thenS fun y=>(oI (fun _ _=>true) (fun i j=>.int (h i j)) (gv i ρ) y).thenS fun z=>.next (ρ.set i z)):=fun B H0 H σ ρ F D A d=>by
 obtain⟨v,h1,h2,h3⟩:=A.getP hm
 refine⟨v,h1,he B H0 H σ ρ F [] _ A (d.thenS.imp (fun y _ d w H1 s1 r1=>?_) fun e q=>q)⟩
 obtain⟨F1,f1,p1,A1⟩:=r1
 have h3':=h3.same s1
 change Rep K H1 _ (gv i ρ) v at h3'
 generalize gv i ρ=gx at h3' d
 cases gx<;>cases y<;>first|(exact d.elim;done)|skip
 rename_i p q _
 cases h3';cases p1
 refine⟨p,q,rfl,rfl,d _ H1 _ (ZbY (i:=i) (G:=[]) s1 f1 (by simp)) ?_⟩
 have:=Ag.put (i:=i) (m:=.P) (x:=.int (h p q)) (v:=.int (h p q)) (G:=[]) (R:=[]) A1 (A.lt hm) (by simp) ⟨rfl,_,rfl,rfl,rfl⟩
 have e:Γ.set i .P=Γ:=by
  apply ZtT
  intro j
  by_cases q:i=j
  ·subst q;rw[Ztg (A.lt hm),hm]
  ·rw[Ztk q]
 rw[e] at this
 exact this
variable {ti:TE}{fi:List PV->Rr PV}
 {t u:TS}{g g':List PV->RS}{Y:Tys}{D:Zgy}
theorem Zc7 {i:Nat}{m:Md} (h:Γ[i]?=some m):Γ.set i m=Γ:=by
 apply ZtT
 intro j
 by_cases q:i=j
 ·subst q;rw[Ztg (Zta.mp h).1,h]
 ·rw[Ztk q]
theorem Ag.chgB {i:Nat}{m:Md}{a:Addr}{o':HO} (ho:Lvo o') {x':PV}{G G':List Addr} (A:Ag K B H0 H σ Γ ρ F (G++R)) (hm:Γ[i]?=some m) (ha:a∈F i) (hG:∀b∈G',b∈F i\/b∈G) (hGR:∀b∈G,b ∉ R)
  (hs:Ud K (upd H a o') (NO B (VB F i G') R) m x' σ[i]? G'):Ag K B H0 (upd H a o') σ Γ (ρ.set i x') (VB F i G') R:=by
 obtain⟨us,hH⟩:=A.live i a ha
 have hi:=A.lt hm
 have liveU:∀b,(∃us:LvO,H b=some us.1)->∃us:LvO,upd H a o' b=some us.1:=fun b ⟨us,q⟩=>by
  by_cases e:b=a
  ·exact⟨⟨o',ho⟩,by rw[e,Zw]⟩
  ·exact⟨us,by rw[Zn e];exact q⟩
 refine⟨A.same.upd (A.young i a ha),A.own,fun j b hb=>?_,fun b hb=>A.youngR b (ZsT _ hb),fun j b hb=>liveU b ?_,fun b hb=>liveU b (A.liveR b (ZsT _ hb)),fun j l hjl b hb z=>?_,fun j b hb z=>?_,A.lenS,by simp[A.lenR],fun j=>?_⟩
 ·by_cases q:j=i
  ·subst q;rw[Zr] at hb
   rcases hG b hb with z|z
   ·exact A.young j b z
   ·exact A.youngR b (ZsU _ z)
  ·rw[Zx q] at hb;exact A.young j b hb
 ·by_cases q:j=i
  ·subst q;rw[Zr] at hb
   rcases hG b hb with z|z
   ·exact A.live j b z
   ·exact A.liveR b (ZsU _ z)
  ·rw[Zx q] at hb;exact A.live j b hb
 ·by_cases q:j=i
  ·subst q
   rw[Zr] at hb
   rw[Zx (Ne.symm hjl)] at z
   rcases hG b hb with w|w
   ·exact A.disj j l hjl b w z
   ·exact A.disjR l b z (ZsU _ w)
  ·rw[Zx q] at hb
   by_cases q':l=i
   ·subst q'
    rw[Zr] at z
    rcases hG b z with w|w
    ·exact A.disj j l hjl b hb w
    ·exact A.disjR j b hb (ZsU _ w)
   ·rw[Zx q'] at z;exact A.disj j l hjl b hb z
 ·by_cases q:j=i
  ·subst q;rw[Zr] at hb
   rcases hG b hb with w|w
   ·exact A.disjR j b w (ZsT _ z)
   ·exact hGR b w z
  ·rw[Zx q] at hb;exact A.disjR j b hb (ZsT _ z)
 ·by_cases q:j=i
  ·subst q
   rw[Zr,ZsQ,ZsQ,hm,Ztg (by rw[A.lenR];exact hi)]
   exact hs
  ·rw[Zx q,ZsQ (l:=ρ.set _ _),Ztk (Ne.symm q),<- ZsQ]
   refine(A.slot j).mono (fun b us s r=>?_) (fun b us r=>Im.putL hH r) fun b hb us r=>?_
   ·have hne:b≠a:=fun z=>s.2.2 i (z▸ha)
    refine⟨?_,s.1,fun z=>s.2.1 (ZsT _ z),fun l z=>?_⟩
    ·rcases r with r|⟨o,r⟩
     ·exact .inl (by rw[Zn hne];exact r)
     ·exact .inr ⟨o,by rw[Zn hne];exact r⟩
    ·by_cases q':l=i
     ·subst q';rw[Zr] at z
      rcases hG b z with w|w
      ·exact s.2.2 l w
      ·exact s.2.1 (ZsU _ w)
     ·rw[Zx q'] at z;exact s.2.2 l z
   ·have hne:b≠a:=fun z=>A.disj j i q b hb (z▸ha)
    rw[Zn hne];exact r
theorem Ag.chg {i:Nat}{m:Md}{a:Addr}{vs':List V}{x':PV}{G G':List Addr} (A:Ag K B H0 H σ Γ ρ F (G++R)) (hm:Γ[i]?=some m) (ha:a∈F i) (hG:∀b∈G',b∈F i\/b∈G) (hGR:∀b∈G,b ∉ R)
  (hs:Ud K (upd H a (.lst vs')) (NO B (VB F i G') R) m x' σ[i]? G'):Ag K B H0 (upd H a (.lst vs')) σ Γ (ρ.set i x') (VB F i G') R:=Ag.chgB (o':=.lst vs') trivial A hm ha hG hGR hs
theorem Qt {H1:Hp}{F1:Nat->List Addr}{i:Nat}{a:Addr}{o:HO}{G':List Addr} (s1:Z0 H H1) (f1:∀i,∀b∈F1 i,b∈F i) (ha:a∈F1 i) (hG:∀b∈G',H b=none\/∃j,b∈F j):Frm H F (upd H1 a o) (VB F1 i G'):=fun b u h n=>by
 have hne:b≠a:=fun z=>n i (f1 i b (z▸ha))
 refine⟨by rw[Zn hne];exact s1 b u h,fun j z=>?_⟩
 by_cases q:j=i
 ·subst q;rw[Zr] at z
  rcases hG b z with w|⟨l,w⟩
  ·rw[h] at w;cases w
  ·exact n l w
 ·rw[Zx q] at z;exact n j (f1 j b z)
theorem Trees.setP:∀{xs:List PV}{vs:List V}{G:List Addr}{j:Nat}{y:PV}{w:V},Trees K H xs vs G->ZV K H y w []->∃G',(∀a∈G',a∈G)/\Trees K H (xs.set j y) (vs.set j w) G'
 |[],_,_,_,_,_,h,_=>⟨[],by simp,by rw[h.1];exact⟨rfl,rfl⟩⟩
 |x::xs,_,_,0,y,w,h,h'=>by
  obtain⟨v,r,G1,G2,rfl,h1,h2,h3,rfl⟩:=h
  exact⟨G2,fun a ha=>by simp[ha],w,r,[],G2,rfl,h',h2,by simp,rfl⟩
 |x::xs,_,_,j+1,y,w,h,h'=>by
  obtain⟨v,r,G1,G2,rfl,h1,h2,h3,rfl⟩:=h
  obtain⟨G',h4,h5⟩:=Trees.setP (j:=j) h2 h'
  refine⟨G1++G',fun a ha=>?_,v,r.set j w,G1,G',rfl,h1,h5,fun a ha z=>h3 a ha (h4 a z),rfl⟩
  rcases ZsW.mp ha with z|z
  ·simp[z]
  ·simp[h4 a z]
noncomputable def pSet (x i y:PV):Rr PV:=match x,i with
 |.lst xs,.int j=>match ixN xs.length j with
  |some n=>.ok (.lst (xs.set n y))
  |none=>.bad
 |_,_=>.bad
theorem Dn.pSet {x i y:PV}{ok:PV->Prop}{ex:PX->Prop} (d:Dn (pSet x i y) ok ex):∃xs j n,x=.lst xs/\i=.int j/\ixN xs.length j=some n/\ok (.lst (xs.set n y)):=by
 unfold L2.pSet at d
 split at d
 ·rename_i xs j
  cases e:ixN xs.length j with
  |none=>rw[e] at d;exact d.elim
  |some n=>rw[e] at d;exact⟨xs,j,n,rfl,rfl,e,d⟩
 ·exact d.elim
theorem VY {i:Nat} (hm:Γ2[i]?=some .O) (he:DE K EX Γ Γ2 .P te f) (hi:DE K EX Γ2 Γ2 .A ti fi) :
  DS K EX Γ ⟨Γ2,Γ1,Γ3,k⟩ (ZjH te (ZmS (Ut i) ti ZiI)) (fun ρ=>(f ρ).thenS fun y=>(fi ρ).thenS fun j=>(pSet (gv i ρ) j y).thenS fun z=>.next (ρ.set i z)):=fun B H0 H σ ρ F D A d=>by
 refine he B H0 H σ ρ F [] _ A (d.thenS.imp (fun y _ d w H1 s1 r1=>?_) fun e q=>q)
 obtain⟨F1,f1,y1,y2,A1⟩:=r1
 obtain⟨v,h1,h2⟩:=A1.getO hm
 refine⟨v,h1,hi B H0 H1 σ ρ F1 [] _ A1 (d.thenS.imp (fun j _ d jv H2 s2 r2=>?_) fun e q=>q)⟩
 obtain⟨F2,f2,p2,A2⟩:=r2
 obtain⟨xs,jj,n,e1,rfl,e2,d⟩:=Dn.pSet d.thenS
 obtain⟨v',h1',h2'⟩:=A2.getO hm
 rw[h1] at h1';cases h1'
 rw[show ρ.getD i .non=.lst xs from e1] at h2'
 obtain⟨a,vs,G,rfl,hH,ht,hn,hF⟩:=h2'
 cases p2
 refine⟨a,vs,jj,n,rfl,rfl,hH,by rw[ht.length];exact e2, ?_⟩
 obtain⟨G',g1,g2⟩:=Trees.setP (j:=n) ht ((y2.same s2).tree y1)
 have haF:a∈F2 i:=by rw[hF];simp
 have hsub:∀b∈a::G',b∈F2 i:=fun b hb=>by
  rw[hF]
  rcases ZsZ.mp hb with rfl|hb
  ·simp
  ·simp[g1 b hb]
 refine d σ _ (VB F2 i (a::G')) (Qt (s1.trans s2) (fun j b hb=>f1 j b (f2 j b hb)) haF fun b hb=>.inr ⟨i,f1 i b (f2 i b (hsub b hb))⟩) (Ag.chg (G:=[]) A2 hm haF (fun b hb=>.inl (hsub b hb)) (by simp) ?_)
 exact⟨_,h1,a,_,G',rfl,Zw,g2.put hH (fun z=>hn (g1 a z)),fun z=>hn (g1 a z),rfl⟩
noncomputable def pApp (x y:PV):Rr PV:=match x with
 |.lst xs=>if xs.length<1000000 then .ok (.lst (xs++[y])) else .bad
 |_=>.bad
theorem Dn.pApp {x y:PV}{ok:PV->Prop}{ex:PX->Prop} (d:Dn (pApp x y) ok ex):∃xs,x=.lst xs/\xs.length<1000000/\ok (.lst (xs++[y])):=by
 unfold L2.pApp at d
 split at d
 ·rename_i xs
  by_cases h:xs.length<1000000
  ·rw[if_pos h] at d;exact⟨xs,rfl,h,d⟩
  ·rw[if_neg h] at d;exact d.elim
 ·exact d.elim
theorem Dn.asL {x:PV}{ok:List PV->Prop}{ex:PX->Prop} (d:Dn (asL x) ok ex):∃xs,x=.lst xs/\ok xs:=by
 cases x with
 |lst xs=>exact⟨xs,rfl,d⟩
 |_=>exact d.elim
theorem ZfN {i:Nat} (hm:Γ[i]?=some .O) (hm2:Γ2[i]?=some .O) (he:DE K EX Γ Γ2 .F te f) :
  DS K EX Γ ⟨Γ2,Γ1,Γ3,k⟩ (ZdD (tBM K "list" ZbB (Ut i) (Vk te ZdC))) (fun ρ=>(asL (gv i ρ)).thenS fun xs=>(f ρ).thenS fun y=>(pApp (.lst xs) y).thenS fun z=>.next (ρ.set i z)):=fun B H0 H σ ρ F D A d=>by
 obtain⟨v,h1,h2⟩:=A.getO hm
 refine⟨v,h1, ?_⟩
 obtain⟨xs,e1,d⟩:=Dn.asL d.thenS
 rw[show ρ.getD i .non=.lst xs from e1] at h2
 obtain⟨a,vs,G,rfl,hH,ht,hn,hF⟩:=h2
 refine⟨.inl ⟨rfl,_,SqL.of hH⟩,he B H0 H σ ρ F [] _ A (d.thenS.imp (fun y _ d w H2 s2 r2=>?_) fun e q=>q)⟩
 obtain⟨F2,f2,G2,y1,y2,A2⟩:=r2
 obtain⟨xs',e2,hlen,d⟩:=Dn.pApp d.thenS
 cases e2
 obtain⟨v',h1',h2'⟩:=A2.getO hm2
 rw[h1] at h1';cases h1'
 rw[show ρ.getD i .non=.lst xs from e1] at h2'
 obtain⟨a',vs',G',e,hH',ht',hn',hF'⟩:=h2'
 cases e
 refine⟨a,vs',w,rfl,rfl,hH',by rw[ht'.length];exact ZsY hlen (by decide), ?_⟩
 have haF:a∈F2 i:=by rw[hF'];simp
 have dj:∀b∈G',b ∉ G2:=fun b hb z=>A2.disjR i b (by rw[hF'];simp[hb]) (ZsU _ z)
 have na:a ∉ G2:=fun z=>A2.disjR i a haF (ZsU _ z)
 have hsub:∀b∈a::(G'++G2),b∈F2 i\/b∈G2:=fun b hb=>by
  rw[hF']
  rcases ZsZ.mp hb with rfl|hb
  ·simp
  ·rcases ZsW.mp hb with z|z
   ·simp[z]
   ·exact .inr z
 have hna:a ∉ G'++G2:=fun z=>(ZsW.mp z).elim hn' na
 refine d σ _ (VB F2 i (a::(G'++G2))) (Qt s2 f2 haF fun b hb=>?_) (Ag.chg (G:=G2) (R:=[]) A2 hm2 haF hsub (by simp) ?_)
 ·rcases hsub b hb with z|z
  ·exact .inr ⟨i,f2 i b z⟩
  ·exact(y2 b z).2
 ·exact⟨_,h1,a,_,G'++G2,rfl,Zw,(Trees.append ht' (Trees.one y1) dj).put hH' hna,hna,rfl⟩
def DG (K:W.Frag) (EX:PX->Hp->Prop) (Γ Γ':List Md) (g:TG) (h:PV->List PV->Rr (List PV)):Prop:=
 ∀(B:Addr->Prop) (H0 H:Hp) (σ:St) (ρ:List PV) (F:Nat->List Addr) (v:V) (x:PV) (N:St->Hp->Prop),Ag K B H0 H σ Γ ρ F []->Rep K H (NO B F []) x v ->
  Dn (h x ρ) (fun ρ'=>∀σ' F',(∀i,∀a∈F' i,a∈F i)->Ag K B H0 H σ' Γ' ρ' F' []->N σ' H) (fun e=>∀H',Z0 H0 H'->EX e H')->g v σ H N
def DGs (K:W.Frag) (EX:PX->Hp->Prop) (Γ Γ':List Md) (g:TGs) (h:List PV->List PV->Rr (List PV)):Prop:=
 ∀(B:Addr->Prop) (H0 H:Hp) (σ:St) (ρ:List PV) (F:Nat->List Addr) (vs:List V) (xs:List PV) (N:St->Hp->Prop),Ag K B H0 H σ Γ ρ F []->Reps K H (NO B F []) xs vs ->
  Dn (h xs ρ) (fun ρ'=>∀σ' F',(∀i,∀a∈F' i,a∈F i)->Ag K B H0 H σ' Γ' ρ' F' []->N σ' H) (fun e=>∀H',Z0 H0 H'->EX e H')->g vs σ H N
theorem Zcd {i:Nat} (hi:i<Γ.length):DG K EX Γ (Γ.set i .P) (Zec i) (fun x ρ=>(grd x).bind fun x=>.ok (ρ.set i x)):=fun B H0 H σ ρ F v x N A r d=>by
 unfold grd at d;dsimp only at d
 by_cases h:x.flat=true
 ·rw[if_pos h] at d
  exact d _ (VB F i []) ZcR (Ag.put (G:=[]) (R:=[]) A hi (by simp) ⟨rfl,v,rfl,h,r.any⟩)
 ·rw[if_neg h] at d;exact d.elim
noncomputable def ZmQ (xs ρ:List PV):Rr (List PV):=match xs with
 |[]=>.ok ρ
 |_=>.bad
theorem Zcc:DGs K EX Γ Γ ZmT ZmQ:=fun B H0 H σ ρ F vs xs N A r d=>by
 cases xs with
 |nil=>exact⟨r,d σ F (fun _ _ h=>h) A⟩
 |cons x xs=>exact d.elim
noncomputable def hdR (h:PV->List PV->Rr (List PV)) (hs:List PV->List PV->Rr (List PV)) (xs:List PV) (ρ:List PV):Rr (List PV):=match xs with
 |x::r=>(h x ρ).bind fun ρ'=>hs r ρ'
 |[]=>.bad
theorem V0 {g:TG}{gs:TGs}{h:PV->List PV->Rr (List PV)}{hs:List PV->List PV->Rr (List PV)} (h1:DG K EX Γ Γ1 g h) (h2:DGs K EX Γ1 Γ2 gs hs):DGs K EX Γ Γ2 (ZkY g gs) (hdR h hs):=fun B H0 H σ ρ F vs xs N A r d=>by
 cases xs with
 |nil=>exact d.elim
 |cons x xs =>
  obtain⟨v,r',rfl,r1,r2⟩:=r
  refine⟨v,r',rfl,h1 B H0 H σ ρ F v x _ A r1 ((show Dn ((h x ρ).bind fun ρ'=>hs xs ρ') _ _ from d).bind.imp (fun ρ' _ d σ' F' f' A'=>?_) fun e q=>q)⟩
  refine h2 B H0 H σ' ρ' F' r' xs _ A' (Reps.mono (fun a us s r=>⟨r,s.1,s.2.1,fun j z=>s.2.2 j (f' j a z)⟩) (fun a us r=>r) r2) (d.imp (fun ρ2 _ d σ2 F2 f2 A2=>d σ2 F2 (fun j a ha=>f' j a (f2 j a ha)) A2) fun e q=>q)
noncomputable def asT (n:Nat) (x:PV):Rr (List PV):=match x with
 |.tup xs=>if xs.length=n then .ok xs else .bad
 |_=>.bad
theorem Dn.asT {n:Nat}{x:PV}{ok:List PV->Prop}{ex:PX->Prop} (d:Dn (asT n x) ok ex):∃xs,x=.tup xs/\xs.length=n/\ok xs:=by
 cases x with
 |tup xs =>
  unfold L2.asT at d
  by_cases h:xs.length=n
  ·simp only[if_pos h] at d;exact⟨xs,rfl,h,d⟩
  ·simp only[if_neg h] at d;exact d.elim
 |_=>exact d.elim
theorem ZfP {n:Nat}{gs:TGs}{hs:List PV->List PV->Rr (List PV)} (h2:DGs K EX Γ Γ2 gs hs):DG K EX Γ Γ2 (ZmR K n gs) (fun x ρ=>(asT n x).bind fun xs=>hs xs ρ):=fun B H0 H σ ρ F v x N A r d=>by
 obtain⟨xs,rfl,hl,d⟩:=Dn.asT d.bind
 obtain⟨a,vs,rfl,hn,hr⟩:=r
 exact⟨a,vs,rfl,hn.sqT,by rw[hr.length];exact hl,h2 B H0 H σ ρ F vs xs N A hr d⟩
end
noncomputable def RS.turn:RS->(List PV->RS)->RS
 |.next ρ,f=>f ρ
 |.cont ρ,f=>f ρ
 |.brk ρ,_=>.next ρ
 |r,_=>r
noncomputable def QD (b:PV->List PV->RS):List PV->List PV->RS
 |[],ρ=>.next ρ
 |x::xs,ρ=>(b x ρ).turn (QD b xs)
noncomputable def JQ (c:List PV->Rr Bool) (b:List PV->RS):Nat->List PV->Option RS
 |0,_=>none
 |n+1,ρ=>match c ρ with
  |.ok true=>match b ρ with
   |.next ρ'=>JQ c b n ρ'
   |.cont ρ'=>JQ c b n ρ'
   |.brk ρ'=>some (.next ρ')
   |r=>some r
  |.ok false=>some (.next ρ)
  |.exc e=>some (.exc e)
  |.bad=>some .bad
open Classical in
noncomputable def VI (c:List PV->Rr Bool) (b:List PV->RS) (ρ:List PV):RS:=if h:∃n r,JQ c b n ρ=some r then h.choose_spec.choose else .bad
theorem Vy {c:List PV->Rr Bool}{b:List PV->RS}:∀{n m:Nat}{ρ:List PV}{r:RS},n<=m->JQ c b n ρ=some r->JQ c b m ρ=some r
 |0,_,_,_,_,h=>by cases h
 |n+1,0,_,_,hl,_=>by omega
 |n+1,m+1,ρ,r,hl,h=>by
  unfold JQ at h ⊢
  cases hc:c ρ with
  |ok b' =>
   cases b' with
   |true =>
    rw[hc] at h
    cases hb:b ρ with
    |next ρ'=>rw[hb] at h;exact Vy (by omega) h
    |cont ρ'=>rw[hb] at h;exact Vy (by omega) h
    |brk ρ'=>rw[hb] at h;exact h
    |ret x=>rw[hb] at h;exact h
    |exc e=>rw[hb] at h;exact h
    |bad=>rw[hb] at h;exact h
   |false=>rw[hc] at h;exact h
  |exc e=>rw[hc] at h;exact h
  |bad=>rw[hc] at h;exact h
theorem Zf6 {c:List PV->Rr Bool}{b:List PV->RS}{n m:Nat}{ρ:List PV}{r r':RS} (h:JQ c b n ρ=some r) (h':JQ c b m ρ=some r'):r=r':=by
 rcases Nat.le_total n m with q|q
 ·have:=Vy q h;rw[h'] at this;exact(Option.some.inj this).symm
 ·have:=Vy q h';rw[h] at this;exact Option.some.inj this
theorem UL {c:List PV->Rr Bool}{b:List PV->RS}{n:Nat}{ρ:List PV}{r:RS} (h:JQ c b n ρ=some r):VI c b ρ=r:=by
 unfold VI
 have hx:∃n r,JQ c b n ρ=some r:=⟨n,r,h⟩
 rw[dif_pos hx]
 exact Zf6 hx.choose_spec.choose_spec h
theorem Zes {c:List PV->Rr Bool}{b:List PV->RS} (I:List PV->Prop) (μ:List PV->Nat) {r:RS} (step:∀ρ,I ρ->(c ρ=.ok false/\r=.next ρ)\/(c ρ=.ok true/\((∃ρ',(b ρ=.next ρ'\/b ρ=.cont ρ')/\I ρ'/\μ ρ'<μ ρ)\/(∃ρ',b ρ=.brk ρ'/\r=.next ρ')\/(∃x,b ρ=.ret x/\r=.ret x))))
  :∀ρ,I ρ->VI c b ρ=r:=by
 have key:∀n ρ,I ρ->μ ρ<n->JQ c b n ρ=some r:=by
  intro n
  induction n with
  |zero=>intro ρ _ h;omega
  |succ n ih =>
   intro ρ hI hμ
   unfold JQ
   rcases step ρ hI with ⟨h1,h2⟩|⟨h1,⟨ρ',h2,h3,h4⟩|⟨ρ',h2,h3⟩|⟨x,h2,h3⟩⟩
   ·rw[h1,h2]
   ·rw[h1]
    rcases h2 with h2|h2<;>(rw[h2];exact ih ρ' h3 (by omega))
   ·rw[h1,h2,h3]
   ·rw[h1,h2,h3]
 exact fun ρ hI=>UL (key (μ ρ+1) ρ hI (ZtB _))
section
variable {K:W.Frag}{B:Addr->Prop}{EX:PX->Hp->Prop}{H0 H H':Hp}{σ:St}{Γ Γ1 Γ2 Γ3 Γl Γt:List Md}{ρ:List PV}{F F':Nat->List Addr}{k:Kd}{x:PV}{v:V}{te ti:TE}{f fc fe:List PV->Rr PV}
 {t u:TS}{g g':List PV->RS}{Y:Tys}{D:Zgy}
theorem Vg {wi:TI}{gt:TG}{fi:List PV->Rr (List PV)}{h:PV->List PV->Rr (List PV)} (hi:DI K EX Γ Γ1 wi fi) (hw:Ziq Γ1 Γl=true) (hg:DG K EX Γl Γt gt h) (hb:DS K EX Γt ⟨Γl,Γl,Γl,k⟩ t g) :
  DS K EX Γ ⟨Γl,Γ2,Γ3,k⟩ (ZmA wi gt t) (fun ρ=>(fi ρ).thenS fun xs=>QD (fun x ρ=>(h x ρ).thenS g) xs ρ):=fun B H0 H σ ρ F D A d=>by
 refine hi B H0 H σ ρ F [] _ A (d.thenS.imp (fun xs _ d J H1 F1 s1 f1 A1 it=>?_) fun e q=>q)
 obtain⟨Fl,fl,Al⟩:=A1.weak hw
 have fr0:Frm H F H1 Fl:=Frm.of s1 fun j a ha=>f1 j a (fl j a ha)
 have fr1:Frm H1 F1 H1 Fl:=Frm.of (Z0.refl _) fl
 refine⟨fun i m σ' H'=>∃ρ' F',m=xs.length-i/\i<=xs.length/\Frm H1 F1 H' F'/\Ag K B H0 H' σ' Γl ρ' F' []/\DnS K B EX ⟨Γl,Γ2,Γ3,k⟩ H0 H' F' D (QD (fun x ρ=>(h x ρ).thenS g) (xs.drop i) ρ'),
  ⟨xs.length,ρ,Fl,by simp,ZtF _,fr1,Al,by simpa using DnS.shift fr0 d⟩, ?_⟩
 rintro i m σ' H' ⟨ρ',F',rfl,hi',fr,A',dn⟩
 have itp:=it H' F' fr i
 cases hx:xs[i]? with
 |none =>
  refine .inl ⟨itp.2 hx, ?_⟩
  have hd:xs.drop i=[]:=ZtS (Ztv.mp hx)
  rw[hd] at dn
  exact dn σ' H' F' Frm.refl A'
 |some x =>
  have hlt:i<xs.length:=(Zta.mp hx).1
  obtain⟨go,yl⟩:=itp.1 x hx
  have hdx:xs.drop i=x::xs.drop (i+1):=by
   rw[Zty hlt]
   rw[ZsR hlt] at hx;cases hx;rfl
  rw[hdx] at dn
  simp only[QD] at dn
  refine .inr ⟨go,fun σ2 H2=>∃ρ2 F2,Frm H1 F1 H2 F2/\Ag K B H0 H2 σ2 Γl ρ2 F2 []/\DnS K B EX ⟨Γl,Γ2,Γ3,k⟩ H0 H2 F2 D (QD (fun x ρ=>(h x ρ).thenS g) (xs.drop (i+1)) ρ2),
   fun σ2 H2 ⟨ρ2,F2,a1,a2,a3⟩=>⟨xs.length-(i+1),by omega,ρ2,F2,rfl,hlt,a1,a2,a3⟩,fun v H3 y=>?_⟩
  obtain⟨s3,rx⟩:=yl v H3 y
  have fr3:Frm H' F' H3 F':=Frm.of s3 fun _ _ h=>h
  refine hg B H0 H3 σ' ρ' F' v x _ (A'.grow s3) (Rep.mono (fun a us s r=>⟨r,s.1⟩) (fun a us r=>r) rx) ?_
  cases e:h x ρ' with
  |ok ρt =>
   rw[e] at dn
   refine fun σt Ft ft At=>hb B H0 H3 σt ρt Ft _ At ?_
   have frt:Frm H' F' H3 Ft:=Frm.of s3 ft
   simp only[Rr.thenS_ok] at dn
   cases e2:g ρt with
   |next ρ2=>rw[e2] at dn;exact fun σ2 H2 F2 fr2 A2=>⟨ρ2,F2,fr.trans (frt.trans fr2),A2,DnS.shift (frt.trans fr2) dn⟩
   |cont ρ2=>rw[e2] at dn;exact fun σ2 H2 F2 fr2 A2=>⟨ρ2,F2,fr.trans (frt.trans fr2),A2,DnS.shift (frt.trans fr2) dn⟩
   |brk ρ2=>rw[e2] at dn;exact fun σ2 H2 F2 fr2 A2=>dn σ2 H2 F2 (frt.trans fr2) A2
   |ret y=>rw[e2] at dn;exact dn
   |exc q=>rw[e2] at dn;exact dn
   |bad=>rw[e2] at dn;exact dn
  |exc q=>rw[e] at dn;exact dn
  |bad=>rw[e] at dn;exact dn
theorem Zdu {c:TT}{fc:List PV->Rr Bool} (hc:DT K EX Γ Γ c fc) (hb:DS K EX Γ ⟨Γ,Γ,Γ,k⟩ t g):DS K EX Γ ⟨Γ,Γ2,Γ3,k⟩ (ZhT c t) (fun ρ=>VI fc g ρ):=fun B H0 H σ ρ F D A d=>by
 dsimp only at d
 have ex:∃n,JQ fc g n ρ=some (VI fc g ρ):=by
  by_cases hx:∃n r,JQ fc g n ρ=some r
  ·obtain⟨n,r,e⟩:=hx
   exact⟨n,by rw[UL e];exact e⟩
  ·unfold VI at d
   rw[dif_neg hx] at d
   exact d.elim
 obtain⟨n0,e0⟩:=ex
 generalize hr:VI fc g ρ=r at e0 d
 refine⟨fun m σ' H'=>∃ρ' F',Frm H F H' F'/\Ag K B H0 H' σ' Γ ρ' F' []/\JQ fc g m ρ'=some r,⟨n0,ρ,F,Frm.refl,A,e0⟩, ?_⟩
 rintro m σ' H' ⟨ρ',F',fr,A',e⟩
 cases m with
 |zero=>cases e
 |succ m =>
  unfold JQ at e
  refine hc B H0 H' σ' ρ' F' [] _ A' ?_
  cases e1:fc ρ' with
  |ok b =>
   rw[e1] at e
   refine fun H2 F2 s2 f2 A2=>?_
   have fr2:Frm H' F' H2 F2:=Frm.of s2 f2
   cases b with
   |true =>
    refine⟨fun σ3 H3=>∃ρ3 F3,Frm H F H3 F3/\Ag K B H0 H3 σ3 Γ ρ3 F3 []/\JQ fc g m ρ3=some r,fun σ3 H3 h=>⟨m,ZtB _,h⟩, ?_⟩
    refine hb B H0 H2 σ' ρ' F2 _ A2 ?_
    cases e2:g ρ' with
    |next ρ2=>rw[e2] at e;exact fun σ3 H3 F3 fr3 A3=>⟨ρ2,F3,fr.trans (fr2.trans fr3),A3,e⟩
    |cont ρ2=>rw[e2] at e;exact fun σ3 H3 F3 fr3 A3=>⟨ρ2,F3,fr.trans (fr2.trans fr3),A3,e⟩
    |brk ρ2 =>
     rw[e2] at e
     have e':RS.next ρ2=r:=Option.some.inj e
     rw[<- e'] at d
     exact fun σ3 H3 F3 fr3 A3=>d σ3 H3 F3 (fr.trans (fr2.trans fr3)) A3
    |ret y =>
     rw[e2] at e
     have e':RS.ret y=r:=Option.some.inj e
     rw[<- e'] at d
     exact d
    |exc q =>
     rw[e2] at e
     have e':RS.exc q=r:=Option.some.inj e
     rw[<- e'] at d
     exact d
    |bad =>
     rw[e2] at e
     have e':RS.bad=r:=Option.some.inj e
     rw[<- e'] at d
     exact d
   |false =>
    have e':RS.next ρ'=r:=Option.some.inj e
    rw[<- e'] at d
    exact d σ' H2 F2 (fr.trans fr2) A2
  |exc q =>
   rw[e1] at e
   have e':RS.exc q=r:=Option.some.inj e
   rw[<- e'] at d
   exact d
  |bad =>
   rw[e1] at e
   have e':RS.bad=r:=Option.some.inj e
   rw[<- e'] at d
   exact d
theorem Trees.get:∀{xs:List PV}{vs:List V}{G:List Addr}{j:Nat}{x:PV},Trees K H xs vs G->xs[j]?=some x->∃v G',vs[j]?=some v/\ZV K H x v G'/\∀a∈G',a∈G
 |[],_,_,_,_,_,e=>by simp at e
 |y::xs,_,_,0,x,h,e=>by
  obtain⟨v,r,G1,G2,rfl,h1,h2,h3,rfl⟩:=h
  simp at e;subst e
  exact⟨v,G1,rfl,h1,fun a ha=>by simp[ha]⟩
 |y::xs,_,_,j+1,x,h,e=>by
  obtain⟨v,r,G1,G2,rfl,h1,h2,h3,rfl⟩:=h
  obtain⟨w,G',e1,e2,e3⟩:=Trees.get (j:=j) h2 (by simpa using e)
  exact⟨w,G',by simpa using e1,e2,fun a ha=>by simp[e3 a ha]⟩
theorem Zg8 {xs:List PV}{vs:List V}{G:List Addr}{i:Int}{z:PV} (h:Trees K H xs vs G) (e:atI xs i=some z):∃u G',atI vs i=some u/\ZV K H z u G'/\∀a∈G',a∈G:=by
 unfold atI at e ⊢
 rw[h.length]
 cases q:ixN xs.length i with
 |none=>rw[q] at e;cases e
 |some j=>rw[q] at e;exact h.get e
theorem Zdw {i:Nat}{h:Int->Int->Int} (hm:Γ2[i]?=some .O) (hmΓ:Γ[i]?=some .O) (hi:DE K EX Γ Γ2 .A ti f) (he:DE K EX Γ2 Γ2 .A te fe) :
  DS K EX Γ ⟨Γ2,Γ1,Γ3,k⟩ (Zkh (Ut i) ti te (Zkr K) (ipI h) ZiI) (fun ρ=>(f ρ).thenS fun j=>(pIx (gv i ρ) j).thenS fun z=>(asL (gv i ρ)).thenS fun _=>(fe ρ).thenS fun y=>(oI (fun _ _=>true) (fun a b=>.int (h a b)) z y).thenS fun w=>(pSet (gv i ρ) j w).thenS fun z=>.next (ρ.set i z)):=fun B H0 H σ ρ F D A d=>by
 obtain⟨v,h1,h2⟩:=A.getO hmΓ
 refine⟨v,h1,hi B H0 H σ ρ F [] _ A (d.thenS.imp (fun j _ d jv H1 s1 r1=>?_) fun e q=>q)⟩
 obtain⟨F1,f1,p1,A1⟩:=r1
 obtain⟨z,ez,d⟩:=Dn.pIx d.thenS
 obtain⟨xs,ex,d⟩:=Dn.asL d.thenS
 rw[ex] at ez
 obtain⟨v',h1',h2'⟩:=A1.getO hm
 rw[h1] at h1';cases h1'
 rw[show ρ.getD i .non=.lst xs from ex] at h2'
 obtain⟨a,vs,G,rfl,hH,ht,hn,hF⟩:=h2'
 obtain⟨j,rfl⟩:∃j',j=PV.int j':=by cases j<;>first|exact⟨_,rfl⟩|(simp only[pIx] at ez;cases ez;done)
 cases p1
 simp only[pIx] at ez
 cases e1:atI xs j with
 |none=>rw[e1] at ez;cases ez
 |some z' =>
  rw[e1] at ez;cases ez
  obtain⟨u,G2,e2,e3,e4⟩:=Zg8 ht e1
  refine⟨a,vs,j,u,rfl,rfl,SqL.of hH,e2,he B H0 H1 σ ρ F1 [] _ A1 (d.thenS.imp (fun y _ d w H2 s2 r2=>?_) fun e q=>q)⟩
  obtain⟨F2,f2,p2,A2⟩:=r2
  obtain⟨zi,yi,rfl,rfl⟩:∃zi yi,z=PV.int zi/\y=PV.int yi:=by cases z<;>cases y<;>first|exact⟨_,_,rfl,rfl⟩|(exact d.elim;done)
  obtain⟨e5,_⟩:=e3
  subst e5
  cases p2
  refine⟨zi,yi,rfl,rfl, ?_⟩
  obtain⟨xs',jj,n,ex',e6,e7,d⟩:=Dn.pSet (show DnS _ _ _ _ _ _ _ _ ((pSet (gv i ρ) (.int j) (.int (h zi yi))).thenS _) from d).thenS
  cases e6
  rw[ex] at ex';cases ex'
  obtain⟨v',h1',h2'⟩:=A2.getO hm
  rw[h1] at h1';cases h1'
  rw[show ρ.getD i .non=.lst xs from ex] at h2'
  obtain⟨a',vs',G',e,hH',ht',hn',hF'⟩:=h2'
  cases e
  refine⟨a,vs',j,n,rfl,rfl,hH',by rw[ht'.length];exact e7, ?_⟩
  obtain⟨G'',g1,g2⟩:=Trees.setP (j:=n) (y:=.int (h zi yi)) (w:=.int (h zi yi)) ht' ⟨rfl,rfl⟩
  have haF:a∈F2 i:=by rw[hF'];simp
  have hsub:∀b∈a::G'',b∈F2 i:=fun b hb=>by
   rw[hF']
   rcases ZsZ.mp hb with rfl|hb
   ·simp
   ·simp[g1 b hb]
  refine d σ _ (VB F2 i (a::G'')) (Qt (s1.trans s2) (fun j b hb=>f1 j b (f2 j b hb)) haF fun b hb=>.inr ⟨i,f1 i b (f2 i b (hsub b hb))⟩) (Ag.chg (G:=[]) A2 hm haF (fun b hb=>.inl (hsub b hb)) (by simp) ?_)
  exact⟨_,h1,a,_,G'',rfl,Zw,g2.put hH' (fun z=>hn' (g1 a z)),fun z=>hn' (g1 a z),rfl⟩
end
noncomputable def RS.out:RS->Rr PV
 |.next _=>.ok .non
 |.ret x=>.ok x
 |.exc e=>.exc e
 |.brk _=>.bad
 |.cont _=>.bad
 |.bad=>.bad
@[simp] theorem RS.out_next {ρ:List PV}:(RS.next ρ).out=.ok .non:=rfl
@[simp] theorem RS.out_ret {x:PV}:(RS.ret x).out=.ok x:=rfl
@[simp] theorem RS.out_exc {e:PX}:(RS.exc e).out=.exc e:=rfl
def Ref (r r':Rr PV):Prop:=r=.bad\/r=r'
structure Pm where
 α:Type
 enc:α->List PV
 pre:α->Prop
 out:α->Rr PV
open Classical in
noncomputable def Pm.fn (m:Pm) (xs:List PV):Rr PV:=if h:∃a,m.enc a=xs/\m.pre a then m.out h.choose else .bad
theorem Pm.fn_eq (m:Pm) (a:m.α) (h:m.pre a) (inj:∀b,m.enc b=m.enc a->m.out b=m.out a):m.fn (m.enc a)=m.out a:=by
 unfold Pm.fn
 have hx:∃b,m.enc b=m.enc a/\m.pre b:=⟨a,rfl,h⟩
 rw[dif_pos hx]
 exact inj _ hx.choose_spec.1
theorem Pm.ref (m:Pm) {g:List PV->Rr PV} (h:∀a,m.pre a->g (m.enc a)=m.out a) (xs:List PV):Ref (m.fn xs) (g xs):=by
 unfold Pm.fn
 by_cases hx:∃a,m.enc a=xs/\m.pre a
 ·rw[dif_pos hx]
  have h2:=hx.choose_spec
  right
  have:=h _ h2.2
  rw[h2.1] at this
  exact this.symm
 ·rw[dif_neg hx];exact .inl rfl
section
variable {K:W.Frag}{B:Addr->Prop}{H:Hp}
theorem Ag.init {xs:List PV}{vs:List V}{n:Nat} (h:Reps K H B xs vs):Ag K (fun a=>B a\/H a=none) H H (vs.map some++List.replicate n none) (List.replicate xs.length .S++List.replicate n .U) (xs++List.replicate n .non) (fun _=>[]) []:=by
 refine⟨Z0.refl _,fun a h=>.inr h,by simp,by simp,by simp,by simp,by simp,by simp,by simp[h.length],by simp,fun i=>?_⟩
 by_cases hi:i<xs.length
 ·have e1:(List.replicate xs.length Md.S++List.replicate n Md.U).getD i .U=.S:=by
   rw[ZsQ,Zte (by simpa using hi),ZtX hi];rfl
  have e2:(xs++List.replicate n PV.non).getD i .non=xs[i]:=by
   rw[ZsQ,Zte hi,ZsR hi];rfl
  rw[e1,e2]
  obtain⟨v,h1,h2⟩:=h.get (ZsR hi)
  refine⟨rfl,v, ?_,Rep.mono (fun a us s r=>⟨r,.inl s,by simp,by simp⟩) (fun a us r=>r) h2⟩
  rw[Zte (by rw[ZsS,h.length];exact hi),Ztb,h1];rfl
 ·have e1:(List.replicate xs.length Md.S++List.replicate n Md.U).getD i .U=.U:=by
   rw[ZsQ,Zto (by simpa using hi)]
   by_cases q:i-(List.replicate xs.length Md.S).length<n
   ·rw[ZtX q];rfl
   ·rw[Ztd (by simpa using q)];rfl
  rw[e1]
  exact rfl
end
section
variable {P:Program}{w:World}{K:W.Frag}{mg:Str->Option Value}{base:Heap}
theorem Fun.okP {x qual:Str}{st:Stmt}{f:Addr}{fd:FuncData}{N ps:List Str}{k n l:Nat}{kd:Kd}{m:List PV->Rr PV} (F:Fun K x qual st f fd) (S:Zu N ps (Zd st)) (hn:ps.length=n) (hl:N.length-n=l)
  (hbody:∀(cdv:Value) (A:Around) (outer:List Env) (s:Shared) (H:Hp) (E:XK),V2 k (A.deeper (envOfC qual (Zd st) s.heap.objs.size f cdv)) ->
   ∃t g Y,Y.r=kd/\PSs (U0 CX0 P w K mg base N qual (Zd st) f cdv A outer s H E).nox (Zo st) t/\DS K X0 (List.replicate n .S++List.replicate l .U) Y t g/\∀xs,Ref (m xs) (g (xs++List.replicate l .non)).out) (hkN:kd≠.N:=by nofun) :
  Jk P w K mg base CX0 (k+1) f fd ps (spF K n kd W0 m):=by
 refine F.ok S (fun vs H Q E h=>?_) (fun cdv A outer s H vs Q E hr h=>?_)
 ·obtain⟨B,xs,h1,h2,_⟩:=h
  rw[h1.length,h2,hn]
 ·obtain⟨B,xs,h1,h2,dn⟩:=h
  obtain⟨t,g,Y,hY,ht,hd,href⟩:=hbody cdv A outer s H E hr
  refine⟨t,ht, ?_⟩
  have A0:=Ag.init (n:=l) h1
  have est:VN N vs=vs.map some++List.replicate l none:=by
   unfold VN
   rw[h1.length,h2,hl]
  rw[est]
  rw[h2] at A0
  refine hd _ H H _ _ _ _ A0 ?_
  have hdn:Dn (g (xs++List.replicate l .non)).out (fun x=>∀v H',Z0 H H'->Zi5 K B H kd x v H'->Q v H') (fun e=>∀H',Z0 H H'->W0 e E H'):=by
   rcases href xs with e|e
   ·rw[e] at dn;exact dn.elim
   ·rw[<- e];exact dn
  have retK:∀{x v H'},Zi5 K (fun a=>B a\/H a=none) H kd x v H'->Zi5 K B H kd x v H':=fun {x v H'} h=>by
   cases kd with
   |P=>exact h
   |F=>exact h
   |T=>exact Rep.mono (fun a us s r=>⟨r,s.elim id .inr⟩) (fun a us r=>r) h
   |Z=>exact Rep.mono (fun a us s r=>⟨r,s.elim id .inr⟩) (fun a us r=>r) h
   |A=>exact Rep.mono (fun a us s r=>⟨r,s.elim id .inr⟩) (fun a us r=>r) h
   |N=>exact h
  cases e:g (xs++List.replicate l .non) with
  |next ρ =>
   rw[e] at hdn
   refine fun σ' H' F' fr A'=>hdn .non H' A'.same ?_
   cases kd with
   |P=>exact⟨rfl,rfl⟩
   |F=>exact⟨[],⟨rfl,rfl⟩,by simp⟩
   |T=>exact rfl
   |Z=>exact rfl
   |A=>exact rfl
   |N=>exact absurd rfl hkN
  |ret x=>rw[e] at hdn;exact fun v H' s r=>hdn v H' s (retK (hY▸r))
  |exc q=>rw[e] at hdn;exact fun H' s=>hdn H' s
  |brk ρ=>rw[e] at hdn;exact hdn.elim
  |cont ρ=>rw[e] at hdn;exact hdn.elim
  |bad=>rw[e] at hdn;exact hdn.elim
end
section
variable {K:W.Frag}{n:Nat}{m:List PV->Rr PV}{e:Expr}{ta:TA}{Γ Γ':List Md}{fa:List PV->Rr (List PV)}
theorem Zep (hn:Len fa n) (ha:DAA K X0 Γ Γ' ta fa):DE K X0 Γ Γ' .F (Vl (spF K n .F W0 m) ta) (fun ρ=>(fa ρ).bind m):=Zd2 (E:=E0) (W:=W0) (fun σ H Q h=>h) (fun e H' h=>h) hn ha
theorem ZhB (hn:Len fa n) (ha:DAA K X0 Γ Γ' ta fa):DE K X0 Γ Γ' .P (Vl (spF K n .P W0 m) ta) (fun ρ=>(fa ρ).bind m):=Zaw (E:=E0) (W:=W0) (fun σ H Q h=>h) (fun e H' h=>h) hn ha
end
theorem ZdX {K:W.Frag}{H:Hp}{a:Addr}{ns:List Int}{m:List PV->Rr PV} (hm:m [.lst (ns.map PV.int)]=.ok (.bl true)) (hS:SqL K H a (ns.map V.int)):spF K 1 .P W0 m [.ref a] H (fun v _=>v=.bl true) fun _ _ _=>False:=by
 refine⟨fun _=>True,[.lst (ns.map PV.int)],Reps.one ⟨a,_,rfl,hS.elim (fun h=>.inl ⟨h,trivial⟩) .inr,ZaV ns⟩,rfl, ?_⟩
 rw[hm]
 exact fun v H' _ r=>r.2
section
variable {X:Cx}{K:W.Frag}
theorem Zek (hc:X.calm=true) (e:X.K=K:=by rfl):Vb X (.builtin "min") (Zkq K):=by subst e;exact Zgh hc
end
def RS.good (r:RS) (I:List PV->Prop):Prop:=match r with
 |.next ρ=>I ρ
 |.cont ρ=>I ρ
 |_=>False
theorem RS.good_ex {r:RS}{I:List PV->Prop} (h:r.good I):∃ρ',(r=.next ρ'\/r=.cont ρ')/\I ρ':=by
 cases r with
 |next ρ=>exact⟨ρ,.inl rfl,h⟩
 |cont ρ=>exact⟨ρ,.inr rfl,h⟩
 |ret x=>exact h.elim
 |brk ρ=>exact h.elim
 |exc e=>exact h.elim
 |bad=>exact h.elim
theorem UI {b:PV->List PV->RS}{xs:List PV}{ρ:List PV} (I:Nat->List PV->Prop) (h0:I 0 ρ) (h:∀i x ρ,xs[i]?=some x->I i ρ->(b x ρ).good (I (i+1))) :
  ∃ρ',QD b xs ρ=.next ρ'/\I xs.length ρ':=by
 have key:∀n i ρ,xs.length=i+n->I i ρ->∃ρ',QD b (xs.drop i) ρ=.next ρ'/\I xs.length ρ':=by
  intro n
  induction n with
  |zero =>
   intro i ρ hl hI
   rw[ZtS (by omega)]
   exact⟨ρ,rfl,by rw[hl];exact hI⟩
  |succ n ih =>
   intro i ρ hl hI
   have hi:i<xs.length:=by omega
   rw[Zty hi]
   obtain⟨ρ',h1,h2⟩:=RS.good_ex (h i _ ρ (ZsR hi) hI)
   obtain⟨ρ2,h3,h4⟩:=ih (i+1) ρ' (by omega) h2
   refine⟨ρ2, ?_,h4⟩
   simp only[QD]
   rcases h1 with h1|h1<;>(rw[h1];exact h3)
 exact key xs.length 0 ρ (by omega) h0
theorem VQ {lo:Int}{n i:Nat}{x:PV} (h:(Zb8 lo n)[i]?=some x):i<n/\x=.int (lo+i):=by
 unfold Zb8 at h
 rw[Ztb] at h
 by_cases hi:i<n
 ·rw[Zt9 hi] at h;cases h;exact⟨hi,rfl⟩
 ·rw[Ztd (by simpa using hi)] at h;cases h
@[simp] theorem Jl {lo:Int}{n:Nat}:(Zb8 lo n).length=n:=by simp[Zb8]
theorem Zhn {ns:List Int}{i:Nat}{x:PV} (h:(ns.map PV.int)[i]?=some x):∃z,x=.int z/\ns[i]?=some z/\i<ns.length:=by
 rw[Ztb] at h
 cases e:ns[i]? with
 |none=>rw[e] at h;cases h
 |some z=>rw[e] at h;cases h;exact⟨z,rfl,rfl,(Zta.mp e).1⟩
theorem ZbN {α β:Type}{f:α->Rr β}{g:α->β}:∀{xs:List α},(∀x∈xs,f x=.ok (g x))->Zb0 f xs=.ok (xs.map g)
 |[],_=>rfl
 |x::xs,h=>by
  simp only[Zb0,h x (by simp),Rr.bind_ok,ZbN (xs:=xs) fun y hy=>h y (by simp[hy]),Ztc]
@[simp] theorem ZbV {x:PV}{ρ:List PV}:gv 0 (x::ρ)=x:=rfl
@[simp] theorem ZbW {x:PV}{ρ:List PV}{i:Nat}:gv (i+1) (x::ρ)=gv i ρ:=rfl
theorem ZI {ns:List Int}{k:Int} (h0:0<=k) (h1:k<ns.length):pIx (.lst (ns.map PV.int)) (.int k)=.ok (.int (ns.getD k.toNat 0)):=by
 have:atI (ns.map PV.int) k=some (.int (ns.getD k.toNat 0)):=by
  unfold atI
  rw[ZsS,Zdi h0 h1]
  show (ns.map PV.int)[k.toNat]?=_
  rw[Ztb,ZsR (by omega),ZsQ,ZsR (by omega)]
  rfl
 simp only[pIx,this]
theorem JO {ns:List Int}{k y:Int} (h0:0<=k) (h1:k<ns.length):pSet (.lst (ns.map PV.int)) (.int k) (.int y)=.ok (.lst ((ns.set k.toNat y).map PV.int)):=by
 simp only[pSet,ZsS,Zdi h0 h1,List.map_set]
theorem ZaP {ns:List Int}{y:Int} (h:ns.length<1000000):pApp (.lst (ns.map PV.int)) (.int y)=.ok (.lst ((ns++[y]).map PV.int)):=by
 simp only[pApp,ZsS,if_pos h,ZtH,Ztc,Zt7]
theorem Qh {ns:List Int} (h:ns.length<=1000000):newF (ns.map PV.int)=.ok (.lst (ns.map PV.int)):=by
 unfold newF
 rw[PV.flats_ints,ZsS,decide_eq_true h];rfl
theorem Zbl (ns:List Int):PV.dats (ns.map PV.int)=ns.map PyData.int:=by
 induction ns with
 |nil=>rfl
 |cons n ns ih=>simp[PV.dats,PV.dat,ih]
theorem Zcm (ns:List Int):PyData.canLayAll0 (ns.map PyData.int)=true:=by
 induction ns with
 |nil=>rfl
 |cons n ns ih=>simp[PyData.canLayAll0,PyData.canLay0,ih]
theorem Zfl (i:Int):okD (.int i)=true:=by simp[okD,PV.noX,PV.dat,PyData.canLay0,PyData.depth]
theorem ZcT (ns:List Int):okD (.lst (ns.map PV.int))=true:=by
 have hd:PyData.depthAll (ns.map PyData.int)=0:=by
  induction ns with
  |nil=>rfl
  |cons n ns ih=>simp[PyData.depthAll,PyData.depth,ih]
 simp[okD,PV.noX,PV.noXs_ints,PV.dat,Zbl,PyData.canLay0,Zcm,PyData.depth,hd]
theorem Qv:∀(ns ms:List Int),PyData.eqvAll (ns.map PyData.int) (ms.map PyData.int)=decide (ns=ms)
 |[],[]=>by simp[PyData.eqvAll]
 |[],m::ms=>by simp[PyData.eqvAll]
 |n::ns,[]=>by simp[PyData.eqvAll]
 |n::ns,m::ms=>by
  simp only[Ztc,PyData.eqvAll,PyData.eqv,Qv ns ms,List.cons.injEq,Bool.decide_and]
  rw[Bool.beq_eq_decide_eq]
theorem ZcQ {g:Bool->Bool} (ns ms:List Int):ZbK g (.lst (ns.map PV.int)) (.lst (ms.map PV.int))=.ok (.bl (g (decide (ns=ms)))):=by
 unfold ZbK
 rw[ZcT,ZcT]
 simp only[Bool.and_self,if_true,PV.dat,Zbl,PyData.eqv,Qv]
theorem Zfc {g:Bool->Bool} (i j:Int):ZbK g (.int i) (.int j)=.ok (.bl (g (decide (i=j)))):=by
 unfold ZbK
 rw[Zfl,Zfl]
 simp only[Bool.and_self,if_true,PV.dat,PyData.eqv]
 rw[Bool.beq_eq_decide_eq]
theorem ZaM (ns:List Int):Zie [.lst (ns.map PV.int)]=.ok (.int ns.length):=by simp[Zie]
theorem ZaL (ns:List Int):ZlR [.lst (ns.map PV.int)]=.ok (.int ns.sum):=by simp[ZlR,ZaN]
theorem ZeZ {ns:List Int} (h:ns≠[]):ZlU [.lst (ns.map PV.int)]=.ok (.int (Uh ns)):=by simp[ZlU,ZaN,h]
theorem ZdP {ns:List Int} (h:ns.length<=1000000):Zfa [.lst (ns.map PV.int)]=.ok (.lst (ns.map PV.int)):=by
 simp only[Zfa];exact Qh h
theorem ZeW {ns:List Int}{k:Int} (h0:ns.length*k.toNat<=1000000) (h1:-(2^63)<=k) (h2:k<2^63):Zk1 (ns.map PV.int) (.int k)=.ok (.lst ((List.replicate k.toNat ns).flatten.map PV.int)):=by
 simp only[Zk1,ZsS]
 rw[if_pos ⟨h0,h1,h2⟩]
 have e:(List.replicate k.toNat (ns.map PV.int)).flatten=(List.replicate k.toNat ns).flatten.map PV.int:=by
  rw[List.map_flatten,List.map_replicate]
 rw[e]
 refine Qh ?_
 rw[Zfv,Nat.mul_comm];exact h0
theorem Zgd {i j:Int} (a b:Nat) (h1:i.natAbs<=10^a) (h2:j.natAbs<=10^b) (ha:a<=4000:=by decide) (hb:b<=4000:=by decide):Zcw i j:=by
 have t:∀c:Nat,c<=4000->(10:Nat)^c<2^60000:=fun c hc=>ZtE (Nat.pow_le_pow_right (by decide) hc) (by decide +kernel)
 exact⟨ZtE h1 (t a ha),ZtE h2 (t b hb)⟩
theorem Zgf {i j:Int} (b:Nat) (h1:0<j) (h2:j.natAbs<=10^b) (hb:b<=2000:=by decide):Zcx i j:=by
 have t:∀c:Nat,c<=2000->(10:Nat)^c<2^9000:=fun c hc=>ZtE (Nat.pow_le_pow_right (by decide) hc) (by decide +kernel)
 exact⟨h1,ZtE h2 (t b hb)⟩
theorem Zfe {i j:Int} (h:Zcx i j):ZlV (.int i) (.int j)=.ok (.int (i/j)):=ZcV (decide_eq_true h)
theorem ZeY {i j:Int} (h:Zcw i j):ZmN (.int i) (.int j)=.ok (.int (i*j)):=ZcV (decide_eq_true h)
theorem VA {i j:Int} (h:0<j):ZmO (.int i) (.int j)=.ok (.int (i%j)):=ZcV (decide_eq_true h)
theorem ZiT {i j:Int} (h:ZjQ i j):ZlT (.int i) (.int j)=.ok (.int (i^j.toNat)):=ZcV (decide_eq_true h)
@[simp] theorem Zfg {i j:Int}:ZlW (.int i) (.int j)=.ok (.int (i+j)):=rfl
@[simp] theorem ZeV {i j:Int}:ZlS (.int i) (.int j)=.ok (.int (i-j)):=rfl
@[simp] theorem Zid {i j:Int}:pLt (.int i) (.int j)=.ok (.bl (decide (i<j))):=rfl
@[simp] theorem Zif {i j:Int}:pLe (.int i) (.int j)=.ok (.bl (decide (i<=j))):=rfl
@[simp] theorem Zil {i j:Int}:pGt (.int i) (.int j)=.ok (.bl (decide (j<i))):=rfl
@[simp] theorem Zim {i j:Int}:pGe (.int i) (.int j)=.ok (.bl (decide (j<=i))):=rfl
@[simp] theorem ZfG {i:Int}:grd (.int i)=.ok (.int i):=rfl
@[simp] theorem Ziy {i:Bool}:grd (.bl i)=.ok (.bl i):=rfl
@[simp] theorem Zi4 {b:Bool}:asB (.bl b)=.ok b:=rfl
@[simp] theorem Zgs {xs:List PV}:asL (.lst xs)=.ok xs:=rfl
@[simp] theorem Zgt {i:Int}:asI (.int i)=.ok i:=rfl
@[simp] theorem Zik {n:String}{x:Int}:Zk4 n (.int x)=.ok (.bl (Qq (Vd (.int x)) n)):=rfl
@[simp] theorem Zij {n:String}{x:List PV}:Zk4 n (.lst x)=.ok (.bl (Qq (Vd (.lst x)) n)):=rfl
@[simp] theorem Zii {n:String}{x:List PV}:Zk4 n (.tup x)=.ok (.bl (Qq (Vd (.tup x)) n)):=rfl
@[simp] theorem ZeX {i:Int}:Zl7 (.int i)=.ok (.int (-i)):=rfl
@[simp] theorem Zih {x:PV}{xs:List PV}:pIx (.tup (x::xs)) (.int 0)=.ok x:=by simp[pIx,atI,ixN]
@[simp] theorem Zig {x y:PV}{xs:List PV}:pIx (.tup (x::y::xs)) (.int 1)=.ok y:=by
 have:atI (x::y::xs) 1=some y:=by unfold atI;rw[Zdi (by omega) (by simp only[Ztj];omega)];rfl
 simp only[pIx,this]
theorem ZcO {j:Int} (h:-(2^62)<=j/\j<2^62):ZgR [.int j]=.ok (Zb8 0 j.toNat):=by simp only[ZgR,okR,decide_eq_true h,if_true]
theorem ZcN {i j:Int} (h:-(2^62)<=i/\i<2^62) (h':-(2^62)<=j/\j<2^62):ZgQ [.int i,.int j]=.ok (Zb8 i (j-i).toNat):=by simp only[ZgQ,okR,decide_eq_true h,decide_eq_true h',Bool.and_self,if_true]
theorem ZbP {xs:List PV} (h:xs.length<=1000000):lenM xs=.ok ():=by simp only[lenM,if_pos h]
@[simp] theorem Zdl:Qq (Vd (.int i)) "int"=true:=rfl
@[simp] theorem Zdm:Qq (Vd (.int i)) "bool"=false:=rfl
@[simp] theorem Zdk:Qq (Vd (.lst xs)) "list"=true:=rfl
@[simp] theorem Zdj:Qq (Vd (.tup xs)) "tuple"=true:=rfl
theorem JB {I:List PV->Prop}{ρ:List PV} (h:I ρ):(RS.next ρ).good I:=h
theorem Zdo {h:PV->List PV->Rr (List PV)}{hs:List PV->List PV->Rr (List PV)}{x:PV}{xs ρ:List PV}:hdR h hs (x::xs) ρ=(h x ρ).bind fun ρ'=>hs xs ρ':=rfl
theorem ZcY {ρ:List PV}:ZmQ [] ρ=.ok ρ:=rfl
theorem Z9 {ns ms:List Int} (e:ns.map PV.int=ms.map PV.int):ns=ms:=by
 have:=congrArg Ux e
 simpa using this
theorem QP {i j:Int} (h0:0<j) (h1:j<1000000000000):ZlV (.int i) (.int j)=.ok (.int (i/j)):=Zfe (Zgf 12 h0 (by omega))
theorem Zk7:ZlT (.int 10) (.int 60)=.ok (.int (10^60)):=by rw[ZiT (by decide)];rfl
theorem Zir {xs:List PV} (h:xs.length<=1000):mkT xs=.ok (.tup xs):=if_pos h
theorem Zis {xs:List PV} (h:xs.length<=1000):mkL xs=.ok (.lst xs):=if_pos h
noncomputable def KD {α:Type}:Sem α->Prop
 |.pure _=>True
 |.raise _=>True
 |.unsupported _=>True
 |.finish _=>True
 |.rule _ k=>KD (k ())
 |.at _ k=>KD (k ())
 |.load _ _ k=>∀o,KD (k o)
 |.update _ _ f k=>(∀o:Obj,(f o).dict=o.dict/\(o.isFreed=false->(f o).isFreed=false))/\KD (k ())
 |.alloc _ k=>∀a,KD (k a)
 |.loadIfAlive _ k=>∀o,KD (k o)
 |.point _ k=>KD (k ())
 |.register _ _=>True
 |.fresh k=>∀t,KD (k t)
 |.ask k=>∀x,KD (k x)
 |.choose _ _ k=>∀n,KD (k n)
 |.os _ _ k=>∀r,KD (k r)
 |.call _ _ _ _ _=>False
 |.handled _ k=>∀x,KD (k x)
 |.newGen _ k=>∀g,KD (k g)
 |.genState _ k=>∀x,KD (k x)
 |.resume _ _ _ _=>False
 |.yield _ _ _ _=>True
 |.stack k=>∀x,KD (k x)
 |.fork _ _=>True
 |.thread k=>∀x,KD (k x)
 |.await _ _ _ _ _=>True
def DK (h h':Heap):Prop:=∀b o,h.get? b=some o->∃o',h'.get? b=some o'/\o'.dict=o.dict
theorem DK.refl (h:Heap):DK h h:=fun b o e=>⟨o,e,rfl⟩
theorem DK.trans {h1 h2 h3:Heap} (a:DK h1 h2) (b:DK h2 h3):DK h1 h3:=fun x o e=>by
 obtain⟨o1,e1,d1⟩:=a x o e
 obtain⟨o2,e2,d2⟩:=b x o1 e1
 exact⟨o2,e2,d2.trans d1⟩
theorem Zmd {M:Model}{Γ:PySem.Ctx}{α:Type}{Q:α->Pos->Shared->Prop}{E:Value->Pos->Shared->Prop}{h0:Heap}:∀(t:Sem α) (p:Pos) (s:Shared),KD t->DK h0 s.heap->Sem.wp M Γ t Q E p s ->
  Sem.wp M Γ t (fun a p' s'=>Q a p' s'/\DK h0 s'.heap) (fun e p' s'=>E e p' s'/\DK h0 s'.heap) p s:=by
 intro t
 induction t with
 |pure a=>intro p s _ d h;exact⟨h,d⟩
 |raise e=>intro p s _ d h;exact⟨h,d⟩
 |unsupported w=>intro p s _ _ h;exact h
 |finish e=>intro p s _ _ h;exact h
 |rule t k ih=>intro p s k d h;exact ih () p s k d h
 |«at» q k ih=>intro p s k d h;exact ih () q s k d h
 |load a q k ih=>intro p s k d h;obtain⟨o,e,h⟩:=h;exact⟨o,e,ih o p s (k o) d h⟩
 |update a q f k ih =>
  intro p s k d h
  refine⟨h.1,ih () p _ k.2 (d.trans fun b o e=>?_) h.2⟩
  by_cases hb:a=b
  ·subst hb
   exact⟨_,Heap.get?_update_self f e ((k.1 o).2 (Heap.get?_some_iff.mp e).2),(k.1 o).1⟩
  ·exact⟨o,(Heap.get?_update_other _ f hb).trans e,rfl⟩
 |alloc o k ih=>intro p s k d h;exact ih _ p _ (k _) (d.trans fun b o' e=>⟨o',Heap.get?_push_of_some _ e,rfl⟩) h
 |loadIfAlive a k ih=>intro p s k d h;exact ih _ p s (k _) d h
 |point l k ih=>intro p s k d h;exact ih () p s k d h
 |register a k ih=>intro p s _ _ h;exact h
 |fresh k ih=>intro p s k d h;exact ih _ p _ (k _) d h
 |ask k ih=>intro p s k d h;exact ih _ p _ (k _) d h
 |choose a n k ih=>intro p s k d h;exact⟨h.1,ih _ p _ (k _) d h.2⟩
 |os q l k ih=>intro p s k d h;exact ih _ p _ (k _) d h
 |call c h g l k ih=>intro p s k d h;exact k.elim
 |handled o k ih=>intro p s k d h;exact ih _ p _ (k _) d h
 |newGen c k ih=>intro p s k d h;exact ih _ p _ (k _) d h
 |genState g k ih=>intro p s k d h;obtain⟨st,e,h⟩:=h;exact⟨st,e,ih _ p s (k _) d h⟩
 |resume g r l k ih=>intro p s k d h;exact k.elim
 |yield v g l k ih=>intro p s _ _ h;exact h
 |stack k ih=>intro p s k d h;exact ih _ p _ (k _) d h
 |fork c k ih=>intro p s _ _ h;exact h
 |thread k ih=>intro p s k d h;exact ih _ p _ (k _) d h
 |await a t d l k ih=>intro p s _ _ h;exact h
theorem Zf3 {M:Model}{A:Around}{α:Type}{t:Sem α}{Q:α->Shared->Prop}{E:Value->Shared->Prop}{s:Shared} (k:KD t) (h:wpAny M A t Q E s):wpAny M A t (fun a s'=>Q a s'/\DK s.heap s'.heap) (fun e s'=>E e s'/\DK s.heap s'.heap) s:=
 fun Γ p hΓ=>Zmd t p s k (DK.refl _) (h Γ p hΓ)
theorem Z5 {α β:Type}:∀(m:Sem α) {f:α->Sem β},KD m->(∀a,KD (f a))->KD (m >>= f):=by
 intro m f
 show KD m->_->KD (m.bind f)
 induction m with
 |pure a=>intro _ h;exact h a
 |raise e=>intro _ _;trivial
 |unsupported w=>intro _ _;trivial
 |finish e=>intro _ _;trivial
 |rule t k ih=>intro k h;exact ih () k h
 |«at» q k ih=>intro k h;exact ih () k h
 |load a q k ih=>intro k h o;exact ih o (k o) h
 |update a q g k ih=>intro k h;exact⟨k.1,ih () k.2 h⟩
 |alloc o k ih=>intro k h a;exact ih a (k a) h
 |loadIfAlive a k ih=>intro k h o;exact ih o (k o) h
 |point l k ih=>intro k h;exact ih () k h
 |register a k ih=>intro _ _;trivial
 |fresh k ih=>intro k h a;exact ih a (k a) h
 |ask k ih=>intro k h a;exact ih a (k a) h
 |choose a n k ih=>intro k h a;exact ih a (k a) h
 |os q l k ih=>intro k h a;exact ih a (k a) h
 |call c h g l k ih=>intro k h;exact k.elim
 |handled o k ih=>intro k h a;exact ih a (k a) h
 |newGen c k ih=>intro k h a;exact ih a (k a) h
 |genState g k ih=>intro k h a;exact ih a (k a) h
 |resume g r l k ih=>intro k h;exact k.elim
 |yield v g l k ih=>intro _ _;trivial
 |stack k ih=>intro k h a;exact ih a (k a) h
 |fork c k ih=>intro _ _;trivial
 |thread k ih=>intro k h a;exact ih a (k a) h
 |await a t d l k ih=>intro _ _;trivial
theorem ZS {α:Type}{a:α}:KD (pure a:Sem α):=trivial
theorem QH {α:Type}{w:String}:KD (unsupported w:Sem α):=trivial
theorem ZbQ {a:Addr}:KD (load a):=fun _=>trivial
theorem ZkN (g:Array Value->Array Value) (o:Obj):(Obj.mapFields g o).dict=o.dict/\(o.isFreed=false->(Obj.mapFields g o).isFreed=false):=by
 obtain⟨c,d,dt,sl⟩:=o
 cases dt<;>exact⟨rfl,fun h=>h⟩
theorem ZbS (v:Value):KD (fieldsOf v):=by
 unfold fieldsOf
 cases v<;>try exact QH
 refine Z5 _ ZbQ fun o=>?_
 cases o.data<;>first|exact ZS|exact QH
theorem UH (v:Value) (i:Nat):KD (field v i):=by
 unfold field
 refine Z5 _ (ZbS v) fun vs=>?_
 cases vs[i]?<;>first|exact ZS|exact QH
theorem VC (v:Value) (i:Nat) (x:Value):KD (setField v i x):=by
 unfold setField
 cases v<;>try exact QH
 unfold updateField
 refine Z5 _ ZbQ fun o=>?_
 cases o.data<;>try exact QH
 dsimp only
 split
 ·exact⟨fun o=>ZkN _ o,trivial⟩
 ·exact QH
theorem ZaS (e:Value) (f:Option Addr):KD (setFlight e f):=by
 unfold setFlight
 refine Z5 _ (UH e 1) fun tb=>?_
 split
 ·exact VC _ _ _
 ·exact ZS
theorem ZaT (ty:String) (vs:List Value):KD (newFields ty vs):=by
 unfold newFields newObj newObjAsIs
 dsimp only
 have al:∀(o:Obj),KD (alloc o):=fun _ _=>trivial
 split
 ·exact Z5 _ QH fun _=>Z5 _ (al _) fun _=>ZS
 ·exact Z5 _ (al _) fun _=>ZS
theorem Zf2 (env:Env) (outer:List Env):KD (behindIsImport env outer):=by
 unfold behindIsImport
 split
 ·exact ZS
 ·split
  ·exact ZS
  ·exact Z5 _ (UH _ _) fun _=>ZS
theorem ZbR (env:Env) (i:Bool) (outer:List Env):KD (keptBack env i outer):=by
 cases outer with
 |nil =>
  have u:KD underTheClaimsCaller:=by
   unfold underTheClaimsCaller
   exact Z5 _ (show KD stack from fun _=>trivial) fun _=>ZS
  rw[keptBack]
  split
  ·exact ZS
  ·exact Z5 _ u fun _=>ZS
 |cons c r=>unfold keptBack;exact ZS
theorem Zhi {o:Obj}{sl:Array (Option Value)}:({ o with slots:=sl }:Obj).dict=o.dict/\(o.isFreed=false->({ o with slots:=sl }:Obj).isFreed=false):=by
 obtain⟨c,d,dt,s⟩:=o
 cases dt<;>exact⟨rfl,fun h=>h⟩
theorem Zdh:∀(l:List Env),KD (readyFrames l)
 |[]=>trivial
 |env::outer=>by
  unfold readyFrames
  cases env.frame with
  |none=>exact QH
  |some f =>
   dsimp only
   refine Z5 _ ZbQ fun o=>?_
   split
   ·exact ZS
   ·refine Z5 _ (Zf2 _ _) fun _=>Z5 _ (ZbR _ _ _) fun _=>Z5 _ ⟨fun o=>Zhi,trivial⟩ fun _=>Zdh outer
theorem Zea (env:Env):KD (PySem.frameOf env):=by
 unfold PySem.frameOf
 refine Z5 _ ?_ fun l=>Z5 _ ?_ fun r=>?_
 ·unfold frameEnvs
  exact Z5 _ (fun _=>trivial) fun _=>ZS
 ·cases (List.dropWhile (fun x=>x.frame != env.frame) l) with
  |nil=>exact ZS
  |cons a r=>exact Z5 _ (Zdh _) fun _=>ZS
 ·cases r<;>first|exact ZS|exact QH
theorem Zhj (f:Addr) (b:Bool):KD (entryPlaceOf f b):=by
 unfold entryPlaceOf
 refine Z5 _ (show KD stack from fun _=>trivial) fun acts=>?_
 split<;>exact ZS
theorem Zje (e:Value) (env:Env):KD (noteFrame e env):=by
 unfold noteFrame
 cases env.frame with
 |none=>exact QH
 |some f =>
  dsimp only
  refine Z5 _ (UH _ _) fun head=>?_
  have tail:∀(hd:Bool),KD (do setField e 1 (<- EntryCells.newEntry head (<- PySem.frameOf env) .none (rawInt f) .none (<- entryPlaceOf f hd))):=fun hd =>
   Z5 _ (Zea env) fun _=>Z5 _ (Zhj _ _) fun _=>Z5 _ (ZaT _ _) fun _=>VC _ _ _
  split
  ·refine Z5 _ (UH _ _) fun x=>?_
   split
   ·exact ZS
   ·exact Z5 _ (VC _ _ _) fun _=>tail _
  ·exact tail _
theorem Uk (env:Env) (e:Value):KD (leaving env e):=Z5 _ (Zje e env) fun _=>ZaS e none
theorem Jg.there {P:Program}{w:World}{H:Hp}{h:Heap}{a:Addr}{o:HO} (x:Jg P w H h a o):∃u,h.get? a=some u:=by
 cases o with
 |lst xs=>obtain⟨_,_,_,_,e⟩:=x;exact⟨_,e⟩
 |tup xs=>obtain⟨_,_,_,_,e,_⟩:=x;exact⟨_,e⟩
 |dK kvs=>obtain⟨_,_,_,_,o,_,_,e,_⟩:=x;exact⟨_,e⟩
 |dT kvs=>obtain⟨_,_,_,_,o,_,_,e,_⟩:=x;exact⟨_,e⟩
 |set S n=>obtain⟨o,_,_,_,e,_⟩:=x;exact⟨_,e⟩
 |ins C dx fs=>obtain⟨_,_,_,e,_⟩:=x;exact⟨_,e⟩
 |own y=>obtain⟨_,e⟩:=x;exact⟨_,e⟩
 |xd fs=>obtain⟨_,⟨_,_,_,e,_⟩,_⟩:=x;exact⟨_,e⟩
 |rng lo hi=>obtain⟨_,_,_,e⟩:=x;exact⟨_,e⟩
 |frz ob u=>exact⟨_,x.1⟩
 |tbl ps=>exact⟨_,x⟩
 |met f y=>exact⟨_,x⟩
 |ext φ=>exact x.2.1
def ZlD (H:Hp) (ea k:Addr) (o:Obj):Prop:=(o.dict=none/\k=ea)\/(o.dict=some k/\∃fs,H k=some (.xd fs))
structure Fly (P:Program) (w:World) (outer:List Env) (H:Hp) (s:Shared) (ea k:Addr) (cls:Value) (H':Hp) (s':Shared):Prop where
 os:s'.os=s.os
 bare:AllBare s'.gens
 un:Un (frs outer) [] H H' s.heap s'.heap
 hok:HOk P w H' s'.heap
 new:H' ea=none
 dict:∃o,s'.heap.get? ea=some o/\ZlD H' ea k o
 fly:∃(Bh:Heap) (t:Addr),Heap.FlyingW Bh outer ea cls (.ref t) s'.heap/\(∀b u,H' b=some u->∀o,s'.heap.get? b=some o->Bh.get? b=some o)/\∀b o,s.heap.get? b=some o->b ∉ frs outer->∃o',Bh.get? b=some o'
noncomputable def CX1 (P:Program) (w:World):CXT:=fun outer H s E e s'=>∃ea k cls H',e=.ref ea/\Fly P w outer H s ea k cls H' s'/\E cls (some k) H'
section
variable {P:Program}{w:World}{K:W.Frag}{mg:Str->Option Value}{base:Heap}{N:List Str}{qual:Str}{scope:Scope}{f:Addr}{cd:Value}{A:Around}{outer:List Env}{s:Shared}{H:Hp}{E:XK}
 {pins:List (Addr×Obj)}{σ:St}{H1 H':Hp}{s1 s':Shared}{g h'' Bh:Heap}{ea k t:Addr}{cls:Value}
theorem ZbZ (I:Inv (U0 (CX1 P w) P w K mg base N qual scope f cd A outer s H E) pins σ H1 s1) (os:s'.os=s1.os) (bare:AllBare s'.gens) (un:Un (s.heap.objs.size::frs outer) [] H1 H' s1.heap g) (hok:HOk P w H' g) (up:g.UpToSlots h'')
  (fl:Heap.FlyingW Bh outer ea cls (.ref t) h'') (st:Bh.StaysIn g) (c1:∀b u,H' b=some u->∀o,g.get? b=some o->Bh.get? b=some o) (c2:∀b o,s.heap.get? b=some o->b ∉ s.heap.objs.size::frs outer->∃o',Bh.get? b=some o')
  (new:H' ea=none) (dn:∃o,g.get? ea=some o/\ZlD H' ea k o) (dk:DK g h''):Fly P w outer H s ea k cls H' { s' with heap:=h'' }:=by
 have neL:∀b o,s.heap.get? b=some o->b≠s.heap.objs.size:=fun b o e=>Zti (Heap.lt_size e)
 have nin:∀b o,s.heap.get? b=some o->b ∉ frs outer->b ∉ s.heap.objs.size::frs outer:=fun b o e n z=>(ZsZ.mp z).elim (neL b o e) n
 have b0:Un (frs outer) [] H H1 s.heap s1.heap:=I.base
 have fr0:∀b∈frs outer,H b=none:=I.ok.frf
 have slot:∀b o,s.heap.get? b=some o->H b=none->b∈frs outer->∃sl,h''.get? b=some { o with slots:=sl }:=fun b o q n hb=>by
  obtain⟨s2,e1⟩:=b0.slot b o q n hb (by simp)
  obtain⟨s3,e2⟩:=un.slot b _ e1 (b0.free b o q n (by simp)) (Zth _ hb) (by simp)
  obtain⟨_,o',ho',hnf⟩:=Heap.FunFrames.mem (show s.heap.FunFrames base outer from I.ok.funs) hb
  rw[q] at ho';cases ho'
  obtain⟨s4,e3⟩:=up b _ e2 hnf
  exact⟨s4,e3⟩
 have keepB:∀b o,s.heap.get? b=some o->H b=none->b ∉ frs outer->Bh.get? b=some o:=fun b o q n hb=>by
  have e1:=b0.keep b o q n hb (by simp)
  have e2:=un.keep b o e1 (b0.free b o q n (by simp)) (nin b o q hb) (by simp)
  obtain⟨o',e3⟩:=c2 b o q (nin b o q hb)
  have e4:=st b o' e3
  rw[e2] at e4;cases e4
  exact e3
 have thereB:∀b o,s.heap.get? b=some o->b ∉ frs outer->∃o',Bh.get? b=some o':=fun b o q hb=>by
  exact c2 b o q (nin b o q hb)
 refine⟨os.trans I.os,bare,⟨fun b o q n hb _=>fl.1 b o (keepB b o q n hb),fun b o q n hb _=>slot b o q n hb,fun b o q n _=>?_,fun b o q _=>?_,fun b xs q=>un.tups b xs (b0.tups b xs q),fun b o xs q=>un.frzs b o xs (b0.frzs b o xs q),fun b ps q=>?_⟩,fun b u e=>?_,new,(let ⟨o,e,d⟩:=dn;let ⟨o',e',d'⟩:=dk ea o e;⟨o',e',by unfold ZlD at d ⊢;rw[d'];exact d⟩),Bh,t,fl,fun b u e o q=>?_,thereB⟩
 ·obtain⟨o1,e1⟩:=b0.there b o q (by simp)
  exact un.free b o1 e1 (b0.free b o q n (by simp)) (by simp)
 ·by_cases hb:b∈frs outer
  ·obtain⟨sl,e⟩:=slot b o q (fr0 b hb) hb
   exact⟨_,e⟩
  ·obtain⟨o',e⟩:=thereB b o q hb
   exact⟨o',fl.1 b o' e⟩
 ·obtain⟨m1,e1⟩:=b0.tbls b ps q
  obtain⟨m2,e2⟩:=un.tbls b _ e1
  exact⟨m1++m2,by rw[e2,Array.append_assoc]⟩
 ·refine(hok b u e).stay (fun c v hc q=>?_) (fun _ q=>q) fun _ _ q=>q
  rcases hc with rfl|hc
  ·exact fl.1 c v (c1 c u e v q)
  ·exact fl.1 c v (c1 c _ hc v q)
 ·obtain⟨o1,e1⟩:=(hok b u e).there
  have e2:=c1 b u e o1 e1
  have e3:=fl.1 b o1 e2
  rw[e3] at q;cases q
  exact e2
def ZjE (X:Cx) (E:St->XK):Prop:=∀(pins:List (Addr×Obj)) (σ:St) (H:Hp) (s:Shared) (e:Value) (s':Shared),Inv X pins σ H s->CX1 X.prog X.w X.stack H s (E σ) e s'->X.xe e s'
def Zl0 (X:Cx) (E:St->XK):Prop:=∀(pins:List (Addr×Obj)) (σ:St) (H:Hp) (s:Shared) (h':Heap) (ea:Addr) (cls:Value) (args:List Value),Inv X pins σ H s->Heap.MadeExcOf s.heap h' ea cls args->E σ cls (some ea) H->X.xe (.ref ea) { s with heap:=h' }
theorem Qc:ZjE (U0 (CX1 P w) P w K mg base N qual scope f cd A outer s H E) (fun _=>E):=fun pins σ H1 s1 e s' I hq=>by
 obtain⟨ea,k,cls,H',rfl,F,hE⟩:=hq
 obtain⟨Bh,t,fl,c1,c2⟩:=F.fly
 refine wpAny_mono (Zf3 (Uk _ _) (wpAny_leaves_onW (Q:=fun _ s''=>∃h'',s''={ s' with heap:=h'' }/\Heap.FlyingW Bh outer ea cls (.ref t) h''/\s'.heap.UpToSlots h'') I.ok.frames rfl fl fun h'' fl'' up=>⟨h'',rfl,fl'',up⟩)) (fun _ s'' q=>?_) fun _ _ q=>q.1
 obtain⟨⟨h'',rfl,fl'',up⟩,dk⟩:=q
 exact⟨ea,k,cls,H',rfl,ZbZ I F.os F.bare F.un F.hok up fl'' fl.1 c1 (fun b o e n=>let ⟨o1,e1⟩:=(show Un (frs outer) [] H H1 s.heap s1.heap from I.base).there b o e (by simp);c2 b o1 e1 n) F.new F.dict dk,hE⟩
theorem ZbO:Zl0 (U0 (CX1 P w) P w K mg base N qual scope f cd A outer s H E) (fun _=>E):=fun pins σ H1 s1 h' ea cls args I hx hE=>by
 have hin:∀env∈(U0 (CX1 P w) P w K mg base N qual scope f cd A outer s H E).stack,∀b,env.frame=some b->b∈frs (U0 (CX1 P w) P w K mg base N qual scope f cd A outer s H E).stack:=fun env he b hb=>ZtQ.mpr ⟨env,he,hb⟩
 have trk:∀b u,H1 b=some u->b ∉ frs (U0 (CX1 P w) P w K mg base N qual scope f cd A outer s H E).stack:=fun b u e z=>by rw[I.stkFree b z] at e;cases e
 have new:H1 ea=none:=by
  cases q:H1 ea with
  |none=>rfl
  |some u=>obtain⟨o,e⟩:=(I.hok ea u q).there;rw[hx.new] at e;cases e
 refine wpAny_mono (Zf3 (Uk _ _) (wpAny_leaves_madeW (Q:=fun _ s''=>∃h'' t,s''={ s1 with heap:=h'' }/\Heap.FlyingW (PySem.W.hideAll s1.heap (frs (U0 (CX1 P w) P w K mg base N qual scope f cd A outer s H E).stack)) outer ea cls (.ref t) h''/\h'.UpToSlots h'')
  (base:=PySem.W.hideAll s1.heap (frs (U0 (CX1 P w) P w K mg base N qual scope f cd A outer s H E).stack)) (h:=s1.heap) I.ok.frames rfl (fun b o q=>PySem.W.of_hideAll _ q) (PySem.W.funFrames_hide I.stack hin) hx fun h'' t fl _ _ up=>⟨h'',t,rfl,fl,up⟩)) (fun _ s'' q=>?_) fun _ _ q=>q.1
 obtain⟨⟨h'',t,rfl,fl,up⟩,dk⟩:=q
 have dn:∃o,h'.get? ea=some o/\ZlD H1 ea ea o:=by obtain⟨t,e,_⟩:=hx.there;exact⟨_,e,.inl ⟨rfl,rfl⟩⟩
 refine⟨ea,ea,cls,H1,rfl,ZbZ (g:=h') (t:=t) (s':={ s1 with heap:=h' }) I rfl I.bare (Un.kept hx.keeps) (I.hok.kept hx.keeps) up fl (fun b o q=>hx.keeps b o (PySem.W.of_hideAll _ q)) (fun b u e o q=>?_) (fun b o q n=>let ⟨o1,e1⟩:=(show Un (frs outer) [] H H1 s.heap s1.heap from I.base).there b o q (by simp);⟨o1,PySem.W.hideAll_get _ e1 n⟩) new dn dk,hE⟩
 obtain⟨o1,e1⟩:=(I.hok b u e).there
 have e2:=hx.keeps b o1 e1
 rw[q] at e2;cases e2
 exact PySem.W.hideAll_get _ e1 (trk b u e)
end
noncomputable def Zi1:List Value:=[.type "ValueError",.type "Exception",.type "BaseException",.type "object"]
noncomputable def ZhU (C:Addr) (E:St->XK) (ta:TA):TS:=fun D σ H=>ta σ H fun vs H1=>vs.length<=1000/\∀ea,H1 ea=none->E σ (.ref C) (some ea) H1
theorem Zjo {K:W.Frag}{h₀:Heap}{C:Addr}{bmB:List Value}{newId:String} (X:K.In h₀) (q:PySem.W.excIn K C bmB newId=true) :
  ∃tl N nm qn bs hdct sn sub ab col dd k0 k1 k2 k3 k5 mN,h₀.get? C=some (excClassObj nm qn C N bs tl hdct sn sub ab col dd k0 k1 k2 k3 k5 newId)/\h₀.Ns N mN/\mN "__init__"=none/\OwnTail h₀ bmB tl:=by
 unfold PySem.W.excIn at q
 split at q
 ·rename_i dd cd sl ho
  split at q
  ·rename_i C' bm k0 k1 k2 k3 n k5 hm hs
   simp only[Bool.and_eq_true,beq_iff_eq,Bool.not_eq_true'] at q
   obtain⟨⟨⟨⟨⟨rfl,rfl⟩,hdel⟩,ht⟩,hok⟩,hni⟩:=q
   obtain⟨nm,bs,mro,ns,qn,hd,sn,sub,ab,col,del⟩:=cd
   dsimp only at hm hdel hok hni
   subst hm hdel
   have hsl:sl=#[k0,k1,k2,k3,some (.builtin n),k5]:=by
    obtain⟨l⟩:=sl
    simp only at hs
    rw[hs]
   subst hsl
   exact⟨bm,ns,nm,qn,bs,hd,sn,sub,ab,col,dd,k0,k1,k2,k3,k5,_,X _ _ ho,.of_isNs (PySem.W.isNs_of_in X hok),PySem.W.nsMap_none_of_in X hok hni,PySem.W.tail_of_in X ht⟩
  ·cases q
 ·cases q
section
variable {X:Cx}{E:St->XK}{x:Str}{C:Addr}{np cpos pos:Pos}{e:Expr}{es:List Expr}{ta:TA}
theorem Zai (hM:Zl0 X E) (hq:PySem.W.excIn X.K C Zi1 "ValueError.__new__"=true) (hg:Gl X x) (hm:X.mg x=some (.ref C)) (hc:X.calm=true) (ha:PA X (e::es) ta) (hdb:(x==("__debug__":Str))=false:=by decide)
  (he:starEach (e::es) X.env=(false,eval e X.env)::starEach es X.env:=by rfl) (hpl:(backTo cpos (starEach es X.env)).any (·.1)=false:=by rfl) :
  PS X (.Raise (some (.Call (.Name x np) (e::es) [] cpos)) none pos) (ZhU C E ta):=by
 intro pins s σ H D I h
 obtain⟨tl,N,nm,q,bs,hdct,sn,sub,ab,col,dd,k0,k1,k2,k3,k5,mN,hC,hN,hni,T⟩:=Zjo I.ok.mod.kin hq
 refine wpAny_Raise_call_subT (C:=C) (nm:=nm) (q:=q) (N:=N) (bs:=bs) (bm:=tl) (hdct:=hdct) (sn:=sn) (sub:=sub) (ab:=ab) (col:=col) (dd:=dd) (k0:=k0) (k1:=k1) (k2:=k2) (k3:=k3) (k5:=k5)
  PySem.F.excBase_ValueError (mN:=mN) (T.hasType PySem.F.excBase_ValueError.hasBase) (I.ok.hd hc) (by rw[he];show (false || (backTo cpos (starEach es X.env)).any (·.1))=false;rw[hpl];rfl) hni (Vp I hg hm ⟨rfl, ?_⟩ hdb)
 have h2:=ha cpos pins s σ H _ I h
 rw[he] at h2 ⊢
 refine Calls.evalArgs_plain (wpAny_mono h2 (fun us s₂ z=>?_) fun _ _ y=>y)
 obtain⟨vs,H1,I1,r,hl,hE⟩:=z
 have hnew:∀{h':Heap}{ea:Addr}{args:List Value},Heap.MadeExcOf s₂.heap h' ea (.ref C) args->H1 ea=none:=fun {h' ea args} hx=>by
  cases q:H1 ea with
  |none=>rfl
  |some u=>obtain⟨o,e⟩:=(I1.hok ea u q).there;rw[hx.new] at e;cases e
 exact⟨rfl,Ztr (by rw[<- r.length];exact hl) (by decide),I1.bk _ _ hC,hN.keeps I1.bk,T.keeps I1.bk,fun h' ea hx=>hM pins σ H1 s₂ h' ea _ _ I1 hx (hE ea (hnew hx))⟩
end
end L2
namespace PySem.W
open PySem PySem.Spec PySem.Calls PyProof.Rows
section
variable {K:Frag}{D:Addr}
noncomputable def exOk (K:Frag) (D:Addr):Bool:=(findIn K (.ref D) "__getattribute__" == some (some (.builtin "BaseException.__getattribute__")))&&(findIn K (.ref D) "__getattr__" == some none)&&(mroIn K D (.type "BaseException")==some true)&&(mroIn K D (.type "object")==some true) &&
 (findIn K (.ref D) "__class__" == some (some (.builtin "object.__class__")))&&(specialIn K (.builtin "object.__class__") "__get__" == some (some (.builtin "getset_descriptor.__get__")))&&(takesIn K (.builtin "object.__class__")==some true)&&(clsIn K D).isSome
end
end PySem.W
namespace L2
open PySem PySem.Spec PyProof.Rows
def OkX (P:Program) (w:World) (K:W.Frag) (mg:Str->Option Value) (base:Heap) (k:Nat) (x:Str) (ps:List Str) (sp:Sp):Prop:=
 ∃f fd,Jk P w K mg base (CX1 P w) k f fd ps sp/\mg x=some (.ref f)/\PySem.W.keepIn K (.ref f)=true/\Us K fd ps []
theorem Qg {P:Program}{w:World}{K:W.Frag}{mg:Str->Option Value}{base:Heap}{k:Nat}{x:Str}{st:Stmt}{ps:List Str}{sp:Sp} (d:Dfn K mg x st) (b:Z2 x st ps)
  (h:∀{f fd},Fun K x x st f fd->Jk P w K mg base (CX1 P w) k f fd ps sp):OkX P w K mg base k x ps sp:=by
 obtain⟨f,fd,F,hm⟩:=d
 exact⟨f,fd,h F,hm,F.kp,F.binds b⟩
section
variable {X:Cx}{k:Nat}{x:Str}{ps:List Str}{sp:Sp}{p pos:Pos}{e:Expr}{es:List Expr}{t:TA}{E:St->XK}
noncomputable def Zc3 (sp:Sp) (E:St->XK) (t:TA):TE:=fun σ H Q=>t σ H fun vs H1=>sp vs H1 Q (E σ)
theorem ZY (G:OkX X.prog X.w X.K X.mg X.base k x ps sp) (hr:V2 k X.A) (hg:Gl X x) (hx:ZjE X E) (ha:PA X (e::es) t) (hdb:(x==("__debug__":Str))=false:=by decide)
  (he:starEach (e::es) X.env=(false,eval e X.env)::starEach es X.env:=by rfl) (hpl:(backTo pos (starEach es X.env)).any (·.1)=false:=by rfl):PE X (.Call (.Name x p) (e::es) [] pos) (Zc3 sp E t):=by
 obtain⟨f,fd,F,hm,hk,hb⟩:=G
 intro pins s σ H Q I h
 refine wpAny_Call_Name_kw (Vp I hg hm ?_ hdb)
 refine PySem.W.callWith_K (h₀:=X.base) I.ok.mod.kin hk (thn (ha pos pins s σ H _ I h) fun us s1 ⟨vs,H1,I1,r,q⟩=>⟨I1.kIn, ?_⟩) he hpl
 have hl:(us++[]).length=ps.length:=by rw[Zt1,<- r.length];exact F.len _ _ _ _ q
 have hb':=hb s1 us I1.kIn hl
 rw[Zt1] at hb'
 refine wpAny_call (codeAny_mono (F.run X.A X.stack s1 H1 ⟨us,[]⟩ us vs Q (E σ) hr I1.env0 hb' r q) fun r s' hq=>?_)
 cases r with
 |error e=>exact hx pins σ H1 s1 e s' I1 hq
 |ok fl =>
  cases fl with
  |ret u=>exact I1.after hq
  |next=>exact False.elim hq
  |brk=>exact False.elim hq
  |cont=>exact False.elim hq
end
noncomputable def Znp:PV->Hp->Addr->Prop
 |.non,H,k=>H k=none
 |.int i,H,k=>∃fs,H k=some (.xd fs)/\fs=[(("at":Str),V.int i)]
 |_,_,_=>False
def W1 (K:W.Frag):PX->XK->Hp->Prop:=fun e E H'=>∀C k,UJ K e.1 C->Znp e.2 H' k->E (.ref C) (some k) H'
section
variable {P:Program}{w:World}{K:W.Frag}{mg:Str->Option Value}{base:Heap}
theorem Fun.okX {x qual:Str}{st:Stmt}{f:Addr}{fd:FuncData}{N ps:List Str}{k n l:Nat}{kd:Kd}{m:List PV->Rr PV} (F:Fun K x qual st f fd) (S:Zu N ps (Zd st)) (hn:ps.length=n) (hl:N.length-n=l)
  (hbody:∀(cdv:Value) (A:Around) (outer:List Env) (s:Shared) (H:Hp) (E:XK),V2 k (A.deeper (envOfC qual (Zd st) s.heap.objs.size f cdv)) ->
   ∃t g Y,Y.r=kd/\PSs (U0 (CX1 P w) P w K mg base N qual (Zd st) f cdv A outer s H E) (Zo st) t/\DS K (fun e H'=>W1 K e E H') (List.replicate n .S++List.replicate l .U) Y t g/\∀xs,Ref (m xs) (g (xs++List.replicate l .non)).out) (hkN:kd≠.N:=by nofun) :
  Jk P w K mg base (CX1 P w) (k+1) f fd ps (spF K n kd (W1 K) m):=by
 obtain⟨oc,od,kV,doc,pm,an,cdv,ct,osl,rfl,lk,hcd⟩:=F.ex
 refine ZkZ lk hcd S (fun vs H Q E h=>?_) fun A outer s H vs Q E hr h=>?_
 ·obtain⟨B,xs,h1,h2,_⟩:=h
  rw[h1.length,h2,hn]
 ·obtain⟨B,xs,h1,h2,dn⟩:=h
  obtain⟨t,g,Y,hY,ht,hd,href⟩:=hbody cdv A outer s H E hr
  refine⟨t,ht, ?_⟩
  have A0:=Ag.init (n:=l) h1
  have est:VN N vs=vs.map some++List.replicate l none:=by
   unfold VN
   rw[h1.length,h2,hl]
  rw[est]
  rw[h2] at A0
  refine hd _ H H _ _ _ _ A0 ?_
  have hdn:Dn (g (xs++List.replicate l .non)).out (fun x=>∀v H',Z0 H H'->Zi5 K B H kd x v H'->Q v H') (fun e=>∀H',Z0 H H'->W1 K e E H'):=by
   rcases href xs with e|e
   ·rw[e] at dn;exact dn.elim
   ·rw[<- e];exact dn
  have retK:∀{x v H'},Zi5 K (fun a=>B a\/H a=none) H kd x v H'->Zi5 K B H kd x v H':=fun {x v H'} h=>by
   cases kd with
   |P=>exact h
   |F=>exact h
   |T=>exact Rep.mono (fun a us s r=>⟨r,s.elim id .inr⟩) (fun a us r=>r) h
   |Z=>exact Rep.mono (fun a us s r=>⟨r,s.elim id .inr⟩) (fun a us r=>r) h
   |A=>exact Rep.mono (fun a us s r=>⟨r,s.elim id .inr⟩) (fun a us r=>r) h
   |N=>exact h
  cases e:g (xs++List.replicate l .non) with
  |next ρ =>
   rw[e] at hdn
   refine fun σ' H' F' fr A'=>hdn .non H' A'.same ?_
   cases kd with
   |P=>exact⟨rfl,rfl⟩
   |F=>exact⟨[],⟨rfl,rfl⟩,by simp⟩
   |T=>exact rfl
   |Z=>exact rfl
   |A=>exact rfl
   |N=>exact absurd rfl hkN
  |ret x=>rw[e] at hdn;exact fun v H' s r=>hdn v H' s (retK (hY▸r))
  |exc q=>rw[e] at hdn;exact fun H' s=>hdn H' s
  |brk ρ=>rw[e] at hdn;exact hdn.elim
  |cont ρ=>rw[e] at hdn;exact hdn.elim
  |bad=>rw[e] at hdn;exact hdn.elim
end
section
variable {K:W.Frag}{n:Nat}{m:List PV->Rr PV}{ta:TA}{Γ Γ':List Md}{fa:List PV->Rr (List PV)}{E:XK}
noncomputable abbrev EX1 (K:W.Frag) (E:XK):PX->Hp->Prop:=fun e H'=>W1 K e E H'
theorem Zlc (hn:Len fa n) (ha:DAA K (EX1 K E) Γ Γ' ta fa):DE K (EX1 K E) Γ Γ' .P (Zc3 (spF K n .P (W1 K) m) (fun _=>E) ta) (fun ρ=>(fa ρ).bind m):=Zaw (E:=E) (W:=W1 K) (fun σ H Q h=>h) (fun e H' h=>h) hn ha
theorem Zmf {EX:PX->Hp->Prop} (hn:Len fa n) (hm:∀xs q,m xs≠.exc q) (ha:DAA K EX Γ Γ' ta fa):DE K EX Γ Γ' .F (Vl (spF K n .F W0 m) ta) (fun ρ=>(fa ρ).bind m):=fun B H0 H σ ρ F R Q A d=>by
 refine ha B H0 H σ ρ F R _ A (d.bind.imp (fun xs hx d vs H1 F1 s1 f1 p1 A1=>?_) fun e q=>q)
 refine⟨fun _=>True,xs,p1,hn ρ xs hx, ?_⟩
 cases e:m xs with
 |ok x =>
  rw[e] at d
  intro v H2 s2 r
  obtain⟨G,r1,r2⟩:=r
  exact d v H2 (s1.trans s2) ⟨F1,f1,G,r1,fun a ha=>⟨(A1.fresh (r2 a ha)).1,.inl (s1.free (r2 a ha))⟩,A1.more s2 r2 r1.alive⟩
 |exc q=>exact(hm xs q e).elim
 |bad=>rw[e] at d;exact d.elim
theorem Zme {EX:PX->Hp->Prop} (hn:Len fa n) (hm:∀xs q,m xs≠.exc q) (ha:DAA K EX Γ Γ' ta fa):DE K EX Γ Γ' .P (Vl (spF K n .P W0 m) ta) (fun ρ=>(fa ρ).bind m):=fun B H0 H σ ρ F R Q A d=>by
 refine ha B H0 H σ ρ F R _ A (d.bind.imp (fun xs hx d vs H1 F1 s1 f1 p1 A1=>?_) fun e q=>q)
 refine⟨fun _=>True,xs,p1,hn ρ xs hx, ?_⟩
 cases e:m xs with
 |ok x=>rw[e] at d;exact fun v H2 s2 r=>d v H2 (s1.trans s2) ⟨F1,f1,r.1,r.2,A1.grow s2⟩
 |exc q=>exact(hm xs q e).elim
 |bad=>rw[e] at d;exact d.elim
def Pm.calm (m:Pm):Prop:=∀a q,m.out a≠.exc q
theorem Pm.calm_fn {m:Pm} (h:m.calm) (xs:List PV) (q:PX):m.fn xs≠.exc q:=by
 unfold Pm.fn
 by_cases hx:∃a,m.enc a=xs/\m.pre a
 ·rw[dif_pos hx];exact h _ q
 ·rw[dif_neg hx];exact fun z=>by cases z
theorem Zav {C:Addr}{x:Str}{Y:Tys} (hC:UJ K x C) (hn:Len fa n) (hl:n<=1000) (ha:DAA K (EX1 K E) Γ Γ' ta fa):DS K (EX1 K E) Γ Y (ZhU C (fun _=>E) ta) (fun ρ=>(fa ρ).thenS fun _=>.exc (x,.non)):=fun B H0 H σ ρ F D A d=>by
 refine ha B H0 H σ ρ F [] _ A (d.thenS.imp (fun xs hx d vs H1 F1 s1 f1 p1 A1=>?_) fun e q=>q)
 exact⟨by rw[p1.length,hn ρ xs hx];exact hl,fun ea hea=>d H1 A1.same C ea hC hea⟩
end
theorem Z0.newO {H:Hp}{p:Addr}{o:HO} (hp:H p=none):Z0 H (L2.upd H p o):=fun b u h=>by rw[L2.Zn (Zv h hp)];exact h
section
end
noncomputable def Znf (K:W.Frag) (n:Str):Bool:=match PySem.W.nsIn K mainGlobals n with
 |some (some (.ref C))=>PySem.W.exOk K C&&(PySem.W.kitOne K (.type "NoneType") (.ref C)==some false)&&(PySem.W.kitOne K (.ref C) (.type "ValueError")==some true)
 |_=>false
noncomputable def Zne (K:W.Frag) (q:Str×Str×Bool):Bool:=match PySem.W.nsIn K mainGlobals q.1,PySem.W.nsIn K mainGlobals q.2.1 with
 |some (some (.ref D)),some (some (.ref C))=>(PySem.W.kitOne K (.ref D) (.ref C)==some q.2.2)&&(PySem.W.exmOne K (.ref D) (.ref C)==some q.2.2)
 |_,_=>false
noncomputable def Zm7 (K:W.Frag) (ns:List Str) (ss:List (Str×Str×Bool)):Bool:=(PySem.W.kitOne K (.type "NoneType") (.type "ValueError")==some false)&&(ns.all (Znf K)&&ss.all (Zne K))
section
variable {K:W.Frag}{ns:List Str}{n:Str}
noncomputable def Zi9 (K:W.Frag) (ns:List Str):Bool:=ns.all fun n=>match PySem.W.nsIn K mainGlobals n with
 |some (some (.ref C))=>PySem.W.excIn K C Zi1 "ValueError.__new__"
 |_=>false
theorem QZ (h:Zi9 K ns=true) (hn:n∈ns):∃C,UJ K n C/\PySem.W.excIn K C Zi1 "ValueError.__new__"=true:=by
 have:=ZtN.mp h n hn
 split at this
 ·rename_i C e
  exact⟨C,e,this⟩
 ·cases this
theorem UJ.inj {C D:Addr} (a:UJ K n C) (b:UJ K n D):C=D:=by have z:=a.symm.trans b;simpa using z
end
def Zeq (K:W.Frag) (n m qual:Str) (st:Stmt):Prop:=∃C f fd,UJ K n C/\PySem.W.findIn K (.ref C) m=some (some (.ref f))/\PySem.W.typeIn K (.ref f)=some (.type "function")/\Fun K m qual st f fd
theorem Vn {X:Cx}:ZjE X (fun _=>E0):=fun _ _ _ _ _ _ _ h=>by obtain⟨_,_,_,_,_,_,q⟩:=h;exact q.elim
section
variable {K:W.Frag}{n:Nat}{m:List PV->Rr PV}{ta:TA}{Γ Γ':List Md}{fa:List PV->Rr (List PV)}
theorem Zjp (hn:Len fa n) (ha:DAA K X0 Γ Γ' ta fa):DE K X0 Γ Γ' .F (Zc3 (spF K n .F (W1 K) m) (fun _=>E0) ta) (fun ρ=>(fa ρ).bind m):=Zd2 (E:=E0) (W:=W1 K) (fun σ H Q h=>h) (fun e H' h=>h.elim) hn ha
theorem Zni (hn:Len fa n) (ha:DAA K X0 Γ Γ' ta fa):DE K X0 Γ Γ' .P (Zc3 (spF K n .P (W1 K) m) (fun _=>E0) ta) (fun ρ=>(fa ρ).bind m):=Zaw (E:=E0) (W:=W1 K) (fun σ H Q h=>h) (fun e H' h=>h.elim) hn ha
end
theorem Zfk {x:Str} (h:PyData.canLay0 (.str x)=true):okD (.str x)=true:=by simp[okD,PV.noX,PV.dat,PyData.depth,h]
theorem ZbJ {g:Bool->Bool}{a b:Str} (ha:PyData.canLay0 (.str a)=true) (hb:PyData.canLay0 (.str b)=true):ZbK g (.str a) (.str b)=.ok (.bl (g (a==b))):=by
 unfold ZbK
 rw[Zfk ha,Zfk hb]
 simp only[Bool.and_self,if_true,PV.dat,PyData.eqv]
section
end
noncomputable def Itd (lo:Int) (n:Nat):It:=⟨fun i _=>i<n,fun i H x H'=>H'=H/\x=.int (lo-i),fun i _=>n<=i⟩
theorem Zb5 {P:Program}{w:World}{K:W.Frag}{tg:Expr} (it:Addr) (lo:Int) (n:Nat):ZjO P w K tg (Itd lo n) [it] it (fun i h=>IsRangeIter h it (lo+(i:Nat)*(-1)) ((n:Int)-(i:Nat)) (-1)) where
 mem:=by simp
 obj:=fun i h st b hb=>by
  have e:b=it:=by simpa using hb
  subst e
  exact⟨_,st,fun v z=>by
   have z':Data.fields _=Data.cell v:=z
   cases z'⟩
 keep:=fun i h h' st k=>k it (by simp) _ st
 item:=by
  intro X hP hw hK hc i pins s σ H E I hf st hg
  subst hP hw hK
  obtain⟨f0,f1,f2,f3,f4,f5⟩:=hf it (by simp)
  have W:=Walks.range (prog:=X.prog) (w:=X.w) (I.ok.hd hc) it lo (-1) n
  refine W.item i s _ _ hg st fun v h' tk hv st' kk=>?_
  obtain⟨t,rfl⟩:=hv
  have I1:Inv X pins σ H { s with heap:=h',toks:=tk }:=I.turned (fun b o hb e=>kk b o (by simpa using hb) e) f0 f1 f3 f4 f5
  refine⟨_,rfl,Zjl (s:={ s with heap:=h',toks:=tk }) (n := "range_iterator") st' rfl rfl (by decide) ⟨.int (lo-i),H,I1,⟨t, ?_⟩,⟨rfl,rfl⟩,st',fun b hb=>(hf b hb).1⟩⟩
  rw[show lo+(i:Int)*(-1)=lo-i by omega]
 done:=by
  intro X hP hw hK hc i pins s σ H E I hf st hg
  subst hP hw hK
  obtain⟨f0,f1,f2,f3,f4,f5⟩:=hf it (by simp)
  exact wpAny_pyNext_range_end (I.ok.hd hc) st (by have:n<=i:=hg;omega) fun h' eb=>⟨rfl,I.turned (t':=s.toks) (fun b o hb e=>eb b o hb e) f0 f1 f3 f4 f5⟩
 self:=fun _ _ _ _ _ st h=>wpAny_pyIter_rangeiter st h
section
variable {X:Cx}{tg:Expr}
theorem V4 (a b:Int):Builtin.Range.rangeSize a b (-1)=if b<a then a-b else 0:=by
 unfold Builtin.Range.rangeSize
 simp only[show ¬((-1:Int)>0) by decide,if_false,Int.neg_neg,Int.ediv_one]
 by_cases h:a>b
 ·rw[if_pos h,if_pos (by omega)];omega
 ·rw[if_neg h,if_neg (by omega)]
theorem ZdG {a b:Int} (ha:-(2^62)<=a) (ha':a<2^62) (hb:-(2^62)<=b) (hb':b<2^62):Builtin.Range.small a b (-1)=true:=by
 unfold Builtin.Range.small
 rw[V4]
 simp only[Builtin.Range.rangeFitsLong,Bool.and_eq_true,Bool.or_eq_true,decide_eq_true_eq,beq_iff_eq,show ¬((-1:Int)>0) by decide,if_false]
 split<;>omega
theorem ZeE {pins:List (Addr×Obj)}{σ:St}{H:Hp}{s:Shared}{R:It->Hp->Prop}{E:Value->Shared->Prop}{lo hi:Int}{t u v:Tok}{tk:Nat} (I:Inv X pins σ H s) (h1:-(2^62)<=lo) (h2:lo<2^62) (h3:-(2^62)<=hi) (h4:hi<2^62)
  (q:R (Itd lo (lo-hi).toNat) H):wpAny (model X.prog X.w) X.A (pyIter (.ref s.heap.objs.size)) (PIE X pins σ tg R) E { s with heap:=s.heap.push { cls:=.type "range",data:=.fields #[.int lo t,.int hi u,.int (-1) v] },toks:=tk }:=by
 refine wpAny_pyIter_range (IsRange.new ..) (ZdG h1 h2 h3 h4) ?_
 have I1:Inv X pins σ H { s with heap:=s.heap.push { cls:=.type "range",data:=.fields #[.int lo t,.int hi u,.int (-1) v] },toks:=tk }:=I.kept fun b o e=>Heap.get?_push_of_some _ e
 refine⟨(s.heap.push { cls:=.type "range",data:=.fields #[.int lo t,.int hi u,.int (-1) v] }).objs.size,[(s.heap.push { cls:=.type "range",data:=.fields #[.int lo t,.int hi u,.int (-1) v] }).objs.size],_,_,H,rfl,
  I1.kept (t':=tk) fun b o e=>Heap.get?_push_of_some _ e,Zb5 _ lo (lo-hi).toNat, ?_,fun b hb=>?_,q⟩
 ·have e1:lo+((0:Nat):Int)*(-1)=lo:=by simp
  have e2:(((lo-hi).toNat:Nat):Int)-((0:Nat):Int)=Builtin.Range.rangeSize lo hi (-1):=by rw[V4];split<;>omega
  show IsRangeIter _ _ (lo+((0:Nat):Int)*(-1)) ((((lo-hi).toNat:Nat):Int)-((0:Nat):Int)) (-1)
  rw[e1,e2]
  exact Heap.get?_push_size _ rfl
 ·have e:b=(s.heap.push { cls:=.type "range",data:=.fields #[.int lo t,.int hi u,.int (-1) v] }).objs.size:=by simpa using hb
  subst e
  exact I1.fpOk (ZsV _) (I1.hok.fresh (ZsV _))
noncomputable def ZkT (ta:TA):TI:=fun σ H R=>ta σ H fun vs H1=>∃i j:Int,vs=[.int i,.int j,.int (-1)]/\(-(2^62)<=i/\i<2^62/\-(2^62)<=j/\j<2^62)/\R (Itd i (i-j).toNat) H1
theorem ZeN {a b c:Expr}{ta:TA}{p pos:Pos} (hg:Gl X "range") (hm:X.mg "range"=none) (ha:PA X [a,b,c] ta) (hs:starEach [a,b,c] X.env=[(false,eval a X.env),(false,eval b X.env),(false,eval c X.env)]:=by rfl) (hs2:starEach [b,c] X.env=[(false,eval b X.env),(false,eval c X.env)]:=by rfl) :
  PI X tg (.Call (.Name "range" p) [a,b,c] [] pos) (ZkT ta):=by
 intro pins s σ H R I h
 refine Call_ (Qm I hg hm boot_range (PyProof.Rows.callWith_type1 (thn (ha pos pins s σ H _ I h) fun us s1 ⟨vs,H1,I1,r1,q1⟩=>?_) (by rw[hs,hs2]) (by rw[hs2];rfl)))
 obtain⟨i,j,e,⟨q1,q2,q3,q4⟩,q⟩:=q1
 subst e
 cases r1 with
 |cons r rr =>
  cases rr with
  |cons r' rr =>
   cases rr with
   |cons r'' rr =>
    cases rr
    obtain⟨t,rfl⟩:=r
    obtain⟨t',rfl⟩:=r'
    obtain⟨t'',rfl⟩:=r''
    exact call_range_3 (by decide) (ZeE I1 q1 q2 q3 q4 q)
end
noncomputable def ZgF (lo:Int) (n:Nat):List PV:=(List.range n).map fun(k:Nat)=>PV.int (lo-(k:Int))
theorem Zhl {K:W.Frag}{H:Hp}{lo:Int}{n:Nat}{S:Addr->Prop}:ItP K S (Itd lo n) (ZgF lo n) H:=by
 intro i
 constructor
 ·intro x hx
  unfold ZgF at hx
  rw[Ztb] at hx
  by_cases h:i<n
  ·rw[Zt9 h] at hx
   cases hx
   exact⟨h,fun v H' ⟨e1,e2⟩=>by subst e1 e2;exact⟨Z0.refl _,rfl⟩⟩
  ·rw[Ztd (by simpa using h)] at hx;cases hx
 ·intro hx
  unfold ZgF at hx
  have:=Ztv.mp hx
  show n<=i
  simpa using this
theorem ZlL {K:W.Frag}{H:Hp}{S:Addr->Prop}{x y z:PV}{vs:List V} (h:Reps K H S [x,y,z] vs):∃v w u,vs=[v,w,u]/\Rep K H S x v/\Rep K H S y w/\Rep K H S z u:=by
 obtain⟨v,vs1,rfl,h1,h⟩:=h
 obtain⟨w,vs2,rfl,h2,h⟩:=h
 obtain⟨u,vs3,rfl,h3,h⟩:=h
 cases h
 exact⟨v,w,u,rfl,h1,h2,h3⟩
noncomputable def ZgP (xs:List PV):Rr (List PV):=match xs with
 |[.int i,.int j,.int (-1)]=>if (okR i&&okR j)=true then .ok (ZgF i (i-j).toNat) else .bad
 |_=>.bad
theorem Zjt {K:W.Frag}{EX:PX->Hp->Prop}{Γ Γ':List Md}{ta:TA}{fa:List PV->Rr (List PV)} (ha:DAA K EX Γ Γ' ta fa):DI K EX Γ Γ' (ZkT ta) (fun ρ=>(fa ρ).bind ZgP):=fun B H0 H σ ρ F R Q A d=>by
 refine ha B H0 H σ ρ F R _ A (d.bind.imp (fun xs _ d vs H1 F1 s1 f1 p1 A1=>?_) fun e q=>q)
 unfold ZgP at d
 split at d
 ·rename_i i j _
  obtain⟨v,w,u,rfl,h1,h2,h3⟩:=ZlL p1
  cases h1;cases h2;cases h3
  by_cases h:(okR i&&okR j)=true
  ·rw[if_pos h] at d
   rw[Bool.and_eq_true] at h
   have h':=of_decide_eq_true h.1
   have h'':=of_decide_eq_true h.2
   exact⟨i,j,rfl,⟨h'.1,h'.2,h''.1,h''.2⟩,d _ H1 F1 s1 f1 A1 fun H2 F2 _=>Zhl⟩
  ·rw[if_neg h] at d;exact d.elim
 ·exact d.elim
theorem ZgO {i j:Int} (h:-(2^62)<=i/\i<2^62) (h':-(2^62)<=j/\j<2^62):ZgP [.int i,.int j,.int (-1)]=.ok (ZgF i (i-j).toNat):=by simp only[ZgP,okR,decide_eq_true h,decide_eq_true h',Bool.and_self,if_true]
theorem ZgE {lo:Int}{n i:Nat}{x:PV} (h:(ZgF lo n)[i]?=some x):i<n/\x=.int (lo-i):=by
 unfold ZgF at h
 rw[Ztb] at h
 by_cases hi:i<n
 ·rw[Zt9 hi] at h;cases h;exact⟨hi,rfl⟩
 ·rw[Ztd (by simpa using hi)] at h;cases h
@[simp] theorem US {lo:Int}{n:Nat}:(ZgF lo n).length=n:=by simp[ZgF]
theorem Vz {ns ms:List Int}:ns.map PV.int=ms.map PV.int ↔ ns=ms:=⟨Z9,fun h=>by rw[h]⟩
noncomputable def orX (o:Option Str) (x:PV):Rr PV:=match o with
 |none=>.ok x
 |some n=>.exc (n,.non)
theorem Jh {b:PV->List PV->RS}{xs:List PV}{ρ:List PV}{W:RS} (hw:QD b xs ρ=W) (I:Nat->List PV->Prop) (h0:I 0 ρ) (h:∀i x ρ,xs[i]?=some x->I i ρ->(b x ρ).good (I (i+1))) :
  ∃ρ',W=.next ρ'/\I xs.length ρ':=by
 obtain⟨ρ',h1,h2⟩:=UI I h0 h
 exact⟨ρ',hw.symm.trans h1,h2⟩
theorem Zb2 {c:List PV->Rr Bool}{b:List PV->RS}{ρ:List PV}{W:RS} (hw:VI c b ρ=W) (N:Nat) (I:Nat->List PV->Prop) (h0:I 0 ρ) (hs:∀i ρ,i<N->I i ρ->c ρ=.ok true/\(b ρ).good (I (i+1))) (he:∀ρ,I N ρ->c ρ=.ok false) :
  ∃ρ',W=.next ρ'/\I N ρ':=by
 subst hw
 have key:∀m i ρ,N=i+m->I i ρ->∃ρ',JQ c b (m+1) ρ=some (.next ρ')/\I N ρ':=by
  intro m
  induction m with
  |zero =>
   intro i ρ hl hI
   obtain rfl:N=i:=by omega
   refine⟨ρ, ?_,hI⟩
   unfold JQ
   rw[he ρ hI]
  |succ m ih =>
   intro i ρ hl hI
   obtain⟨h1,h2⟩:=hs i ρ (by omega) hI
   obtain⟨ρ',h3,h4⟩:=RS.good_ex h2
   obtain⟨ρ2,h5,h6⟩:=ih (i+1) ρ' (by omega) h4
   refine⟨ρ2, ?_,h6⟩
   unfold JQ
   rw[h1]
   rcases h3 with h3|h3<;>(rw[h3];exact h5)
 obtain⟨ρ',h1,h2⟩:=key N 0 ρ (by omega) h0
 exact⟨ρ',UL h1,h2⟩
theorem Zjc {f:PV->Rr PV}{g:Int->Bool}{ns:List Int} (h:∀z∈ns,f (.int z)=.ok (.bl (g z))):Zb0 f (ns.map PV.int)=.ok ((ns.map g).map PV.bl):=by
 induction ns with
 |nil=>rfl
 |cons n ns ih =>
  simp only[Ztc,Zb0,h n (by simp),Rr.bind_ok,ih fun z hz=>h z (by simp[hz])]
theorem ZgX (bs:List Bool):Zk6 [.lst (bs.map PV.bl)]=.ok (.bl (bs.all id)):=by simp only[Zk6,Zgn]
theorem ZjB {ns:List Int}{p:Int->Prop} [DecidablePred p]:(ns.map fun z=>decide (p z)).all id=decide (∀x∈ns,p x):=by
 rw[Bool.eq_iff_iff,ZtN,decide_eq_true_iff]
 simp
theorem Zln {ns:List Int}{h:Int} (h0:0<=h):Zj4 (ns.map PV.int) none (some h)=(ns.take h.toNat).map PV.int:=by
 unfold Zj4 HT.sIx
 simp only[ZsS,List.drop_zero,Nat.sub_zero]
 rw[if_neg (by omega),<- Zuf]
 congr 1
 rw[List.take_eq_take_iff];omega
theorem Zha {x:PV}:orX none x=.ok x:=rfl
theorem ZgZ {x:PV}{n:Str}:orX (some n) x=.exc (n,.non):=rfl
theorem ZeD {n:Nat}:List.replicate (n+1) PV.non=PV.non::List.replicate n PV.non:=rfl
theorem ZeC:List.replicate 0 PV.non=[]:=rfl
theorem ZiU {a b:PV}:Zie [.tup [a,b]]=.ok (.int 2):=rfl
section
end
theorem Zhr {a:Str}{b:Int}:grd (.tup [.str a,.int b])=.ok (.tup [.str a,.int b]):=rfl
theorem Zhs {a b:Int}:grd (.tup [.int a,.int b])=.ok (.tup [.int a,.int b]):=rfl
section
variable {X:Cx}{pins:List (Addr×Obj)}{σ:St}{H:Hp}{s:Shared}{h':Heap}
theorem Inv.turned2 {t':Nat}{it e:Addr} (I:Inv X pins σ H s) (k:∀b o,b≠e->b≠it->s.heap.get? b=some o->h'.get? b=some o)
  (f:∀b,b=e\/b=it->H b=none/\b≠X.env.locals/\(b∈X.ex\/X.s₀.heap.objs.size<=b)/\(∀x c,X.env.cells.lookup x=some c->c≠b)/\∀p∈X.pn++pins,p.1≠b):Inv X pins σ H { s with heap:=h',toks:=t' }:=by
 have nit:∀b u,H b=some u->b≠e/\b≠it:=fun b u q=>by
  refine⟨fun z=>?_,fun z=>?_⟩
  ·rw[z,(f e (.inl rfl)).1] at q;cases q
  ·rw[z,(f it (.inr rfl)).1] at q;cases q
 refine I.step (g':=s.gens) (d':=s.drawn) (ch:=[e,it]) (fun b hb=>?_) (fun b o _ _ hc q _=>k b o (fun z=>hc (by simp[z])) (fun z=>hc (by simp[z])) q) (fun b o _ _ hc q _=>⟨o.slots,k b o (fun z=>hc (by simp[z])) (fun z=>hc (by simp[z])) q⟩) (fun _ _ _ _ n=>n)
  (fun b o hc q=>⟨o,k b o (fun z=>hc (by simp[z])) (fun z=>hc (by simp[z])) q⟩) (fun _ _ q=>q) (fun _ _ _ q=>q) (fun b ps q=>⟨#[],by rw[q];simp⟩) (fun m hm=>?_) (fun b u q=>?_) I.bare
 ·obtain⟨g0,g1,g2,g3,g4⟩:=f b (by simpa using hb)
  exact⟨g2,g1,g3,g4⟩
 ·obtain⟨o,es,ep,ho,r⟩:=hm
  exact⟨o,es,ep,k _ o (Ne.symm (f e (.inl rfl)).2.1) (Ne.symm (f it (.inr rfl)).2.1) ho,r⟩
 ·refine(I.hok b u q).stay (fun c v hc q2=>?_) (fun _ q2=>q2) fun _ _ q2=>q2
  have:c≠e/\c≠it:=by
   rcases hc with z|z
   ·rw[z];exact nit b u q
   ·exact nit c _ z
  exact k c v this.1 this.2 q2
theorem Inv.adoptT {D:Addr}{ys:List V}{its:List Value} (I:Inv X pins σ H s) (hn:H D=none) (h1:X.s₀.heap.objs.size<=D) (hL:D≠X.env.locals) (hc:∀x c,X.env.cells.lookup x=some c->c≠D)
  (hp:∀p∈X.pn++pins,p.1≠D) (ho:s.heap.get? D=some { cls:=.type "tuple",data:=.seq its.toArray }) (r:ZQ ys its) (hz:ys.length<=sizeLine):Inv X pins σ (upd H D (.tup ys)) s:=by
 refine I.step (h':=s.heap) (g':=s.gens) (d':=s.drawn) (t':=s.toks) (ch:=[D]) (fun b hb=>?_) (fun b o _ _ _ e _=>e) (fun b o _ _ _ e _=>⟨o.slots,e⟩) (fun b o hb _ e=>?_) (fun b o _ e=>⟨o,e⟩)
  (fun b xs e=>?_) (fun b o u e=>?_) (fun b ps e=>⟨#[], ?_⟩) (fun m hm=>hm) (fun b u e=>?_) I.bare
 ·have e:b=D:=by simpa using hb
  subst e
  exact⟨.inr h1,hL,hc,hp⟩
 ·rw[Zn (by simpa using hb)];exact e
 ·rw[Zn (Zv e hn)];exact e
 ·rw[Zn (Zv e hn)];exact e
 ·rw[Zn (Zv e hn),e];simp
 ·by_cases hb:b=D
  ·subst hb
   rw[Zw] at e;cases e
   exact⟨hz,its,r,_,ho,rfl,_,rfl⟩
  ·rw[Zn hb] at e
   exact(I.hok b u e).stay (fun c v _ q=>q) (fun c q=>by rw[Zn (Zv q hn)];exact q) fun c xs q=>by rw[Zn (Zv q hn)];exact q
end
noncomputable def Ite (K:W.Frag) (a:Addr):It:=
 ⟨fun i H=>∃xs x,SqL K H a xs/\xs[i]?=some x,fun i H v H'=>∃t x,v=.ref t/\H t=none/\H'=upd H t (.tup [.int i,x])/\∀xs,SqL K H a xs->xs[i]?=some x,fun i H=>∃xs,SqL K H a xs/\xs.length<=i⟩
theorem Zex {P:Program}{w:World}{K:W.Frag}{elts:List Expr}{x1:Nat}{tpos:Pos} (a e it:Addr) (hne:e≠it):ZjO P w K (.Tuple elts x1 tpos) (Ite K a) [e,it] e (fun i h=>∃old,IsEnum h e it i old/\h.IsListIter it a i) where
 mem:=by simp
 obj:=fun i h ⟨old,s1,s2⟩ b hb=>by
  rcases ZsZ.mp hb with z|z
  ·subst z
   exact⟨_,s1,fun v z=>by
    have z':Data.fields _=Data.cell v:=z
    cases z'⟩
  ·have z:b=it:=by simpa using z
   subst z
   obtain⟨o,e,c,d⟩:=s2
   exact⟨o,e,fun v z=>by rw[d] at z;cases z⟩
 keep:=fun i h h' ⟨old,s1,s2⟩ k=>⟨old,k e (by simp) _ s1,s2.at fun o q=>k it (by simp) o q⟩
 item:=by
  intro X hP hw hK hc i pins s σ H E I hf ⟨old,s1,s2⟩ hg
  subst hP hw hK
  obtain⟨xs,x,hq,hx⟩:=hg
  obtain⟨its,rv,p,hz⟩:=I.list hq
  obtain⟨u,hu,ru⟩:=rv.get hx
  have fz:∀b,b=e\/b=it->H b=none/\b≠X.env.locals/\(b∈X.ex\/X.s₀.heap.objs.size<=b)/\(∀x c,X.env.cells.lookup x=some c->c≠b)/\∀p∈X.pn++pins,p.1≠b:=fun b hb=>by
   obtain⟨f0,f1,f2,f3,f4,f5⟩:=hf b (by simpa using hb)
   exact⟨f0,f1,f3,f4,f5⟩
  refine wpAny_pyNext_enum_item s1 s2 p.isList (x:=u) (by simpa using hu) hne fun h1 e1 i1 t1 z1 k1=>?_
  refine⟨_,rfl, ?_⟩
  refine wpAny_letOwnedTupleGo_enum e1 fun h2 e2 sb2=>?_
  have I2:Inv X pins σ H { s with heap:=h2,toks:=s.toks+1 }:=I.turned2 (fun b o n1 n2 q=>sb2.extBut b o n1 (k1 b o n1 n2 q)) fz
  have hfr:=I.hok.fresh (ZsV s.heap.objs.size)
  have het:s.heap.objs.size≠e:=Zuc (Heap.lt_size s1)
  have fsz:=I.fpOk (H':=H) (ZsV s.heap.objs.size) hfr
  obtain⟨g0,g1,g2,g3,g4,g5⟩:=fsz
  have I3:=I2.adoptT (D:=s.heap.objs.size) (ys:=[.int i,x]) (its:=[.int i s.toks,u]) hfr I.sz g1 g4 g5 (sb2.extBut _ _ het t1) (.cons ⟨_,rfl⟩ (.cons ru .nil)) (show 2<=sizeLine by decide)
  refine⟨.ref s.heap.objs.size,_,I3,rfl,⟨_,x,rfl,hfr,rfl,fun ys hy=>by rw[I.list_inj hy hq];exact hx⟩,⟨u,by
   have:((i+1:Nat):Int)=(i:Int)+1:=by omega
   rw[this];exact e2,i1.extBut sb2.extBut (Ne.symm hne)⟩,fun b hb=>?_⟩
  have hbn:b≠s.heap.objs.size:=by
   rcases ZsZ.mp hb with z|z
   ·rw[z];exact het.symm
   ·have z:b=it:=by simpa using z
    obtain⟨o,q,_⟩:=s2
    rw[z];exact Zti (Heap.lt_size q)
  rw[Zn hbn]
  exact(hf b hb).1
 done:=by
  intro X hP hw hK hc i pins s σ H E I hf ⟨old,s1,s2⟩ hg
  subst hP hw hK
  obtain⟨xs,hq,hx⟩:=hg
  obtain⟨its,rv,p,hz⟩:=I.list hq
  obtain⟨f0,f1,f2,f3,f4,f5⟩:=hf it (by simp)
  have hl:=rv.length
  exact wpAny_pyNext_enum_end (I.ok.hd hc) s1 s2 p.isList (by simp;omega) fun h' eb=>⟨rfl,I.turned (t':=s.toks) (fun b o hb q=>eb b o hb q) f0 f1 f3 f4 f5⟩
 self:=fun _ _ _ _ _ ⟨old,st,_⟩ h=>wpAny_pyIter_enum st h
section
variable {X:Cx}{elts:List Expr}{x1:Nat}{tpos:Pos}
noncomputable def Zjj (K:W.Frag) (tl:TA):TI:=fun σ H R=>tl σ H fun vs H1=>∃a,vs=[.ref a]/\(∃xs,SqL K H1 a xs)/\R (Ite K a) H1
theorem Zbt:bootBuiltins "enumerate"=some (.type "enumerate"):=by decide +kernel
theorem ZiP {l:Expr}{tl:TA}{p pos:Pos} (hg:Gl X "enumerate") (hm:X.mg "enumerate"=none) (ha:PA X [l] tl) (hs:starEach [l] X.env=[(false,eval l X.env)]:=by rfl):PI X (.Tuple elts x1 tpos) (.Call (.Name "enumerate" p) [l] [] pos) (Zjj X.K tl):=by
 intro pins s σ H R I h
 refine Call_ (Qm I hg hm Zbt (PyProof.Rows.callWith_type1 (thn (ha pos pins s σ H _ I h) fun us s1 ⟨vs,H1,I1,r1,q1⟩=>?_) hs rfl))
 obtain⟨a,e,⟨xs,hq⟩,q⟩:=q1
 subst e
 cases r1 with
 |cons r rr =>
  cases rr
  cases r
  obtain⟨its,rv,pl,hz⟩:=I1.list hq
  refine call_enumerate_list pl.isList fun h' e1 i1 z1 k1=>?_
  refine wpAny_pyIter_enum e1 ?_
  have I2:Inv X pins σ H1 { s1 with heap:=h' }:=I1.kept (t':=s1.toks) k1
  refine⟨s1.heap.objs.size+1,[s1.heap.objs.size+1,s1.heap.objs.size],_,_,H1,rfl,I2,Zex a _ _ (Nat.succ_ne_self _),⟨_,e1,i1⟩,fun b hb=>?_,q⟩
  have hb':s1.heap.objs.size<=b:=by
   rcases ZsZ.mp hb with z|z
   ·rw[z];exact Zue _
   ·have z:b=s1.heap.objs.size:=by simpa using z
    rw[z];exact ZsV _
  exact I1.fpOk hb' (I1.hok.fresh hb')
theorem ZcK {K:W.Frag}{l:Expr}{tl:TA}{p pos:Pos} (hg:Gl X "enumerate") (hm:X.mg "enumerate"=none) (ha:PA X [l] tl) (hs:starEach [l] X.env=[(false,eval l X.env)]:=by rfl) (e:X.K=K:=by rfl):PI X (.Tuple elts x1 tpos) (.Call (.Name "enumerate" p) [l] [] pos) (Zjj K tl):=by subst e;exact ZiP hg hm ha hs
end
noncomputable def V3 (xs:List PV):List PV:=xs.mapIdx fun i x=>.tup [.int (i:Nat),x]
section
variable {K:W.Frag}{H:Hp}{EX:PX->Hp->Prop}{Γ Γ':List Md}
theorem Zhm {a:Addr}{xs:List PV}{S:Addr->Prop} (h:Rep K H S (.lst xs) (.ref a)):ItP K S (Ite K a) (V3 xs) H:=by
 obtain⟨a',vs,e,hn,hr⟩:=h
 cases e
 intro i
 constructor
 ·intro x hx
  unfold V3 at hx
  rw[ZtL] at hx
  cases hxi:xs[i]? with
  |none=>rw[hxi] at hx;cases hx
  |some y =>
   rw[hxi] at hx
   cases hx
   obtain⟨u,e1,e2⟩:=hr.get hxi
   refine⟨⟨vs,u,JN hn,e1⟩,fun v H' ⟨t,z,e3,e4,e5,e6⟩=>?_⟩
   have:=e6 vs (JN hn)
   rw[e1] at this;cases this
   subst e3 e5
   have sm:Z0 H (upd H t (.tup [.int i,u])):=Z0.upd (Z0.refl H) e4
   exact⟨sm,t,_,rfl,⟨Zw,trivial⟩,⟨_,_,rfl,rfl,_,_,rfl,e2.same sm,rfl⟩⟩
 ·intro hx
  unfold V3 at hx
  rw[ZtL] at hx
  have:xs[i]?=none:=by cases hxi:xs[i]? with
   |none=>rfl
   |some y=>rw[hxi] at hx;cases hx
  exact⟨vs,JN hn,by rw[hr.length];exact Ztv.mp this⟩
noncomputable def ZiW (xs:List PV):Rr (List PV):=match xs with
 |[.lst ys]=>.ok (V3 ys)
 |_=>.bad
theorem ZfO {ta:TA}{fa:List PV->Rr (List PV)} (ha:DAZ K EX Γ Γ' ta fa):DI K EX Γ Γ' (Zjj K ta) (fun ρ=>(fa ρ).bind ZiW):=fun B H0 H σ ρ F R Q A d=>by
 refine ha B H0 H σ ρ F R _ A (d.bind.imp (fun xs _ d vs H1 F1 s1 f1 p1 A1=>?_) fun e q=>q)
 unfold ZiW at d
 split at d
 ·rename_i ys
  obtain⟨v,rfl,h1⟩:=UV p1
  obtain⟨a,us,rfl,hn,hr⟩:=id h1
  exact⟨a,rfl,⟨us,JN hn⟩,d _ H1 F1 s1 f1 A1 fun H2 F2 h=>Zhm (h1.frm h A1)⟩
 ·exact d.elim
theorem ZgU {ys:List PV}:ZiW [.lst ys]=.ok (V3 ys):=rfl
variable {prog:Program}{w:World}{A:Around}{R:Result->Shared->Prop}{s:Shared}
theorem VG {elt target iter:Expr}{ifs:List Expr}{scope:Scope}{pos:Pos}{it acc:Value}{env:Env} (I:Nat->Shared->Prop)
  (turn:∀n s,I n s->wpAny (model prog w) A (pyNext it) (fun r s₁=>match r with
   |none=>R (.ok .next) s₁
   |some v=>wpAny (model prog w) A (letOwnedTupleGo target it v) (fun _ s₁'=>wpAny (model prog w) A (assign target env v) (fun _ s₂ =>
     wpAny (model prog w) A (forIn ifs true fun c r=>if r=true then do let ok <- isTrue c env (eval c env);pure (ForInStep.yield ok) else pure (ForInStep.yield r)) (fun ok s₃ =>
      if ok=true then wpAny (model prog w) A (eval elt env) (fun x s₄ =>
       wpAny (model prog w) A (call (.builtin "list.append") [acc,x]) (fun _ s₅=>∃m,m<n/\I m s₅) (notedBy (model prog w) A env fun e s'=>R (.error e) s') s₄) (notedBy (model prog w) A env fun e s'=>R (.error e) s') s₃
      else ∃m,m<n/\I m s₃) (notedBy (model prog w) A env fun e s'=>R (.error e) s') s₂) (notedBy (model prog w) A env fun e s'=>R (.error e) s') s₁') (notedBy (model prog w) A env fun e s'=>R (.error e) s') s₁) (notedBy (model prog w) A env fun e s'=>R (.error e) s') s)
  (n:Nat) (h:I n s) :
  codeAny (model prog w) A (.compLoop (.ListComp elt [⟨target,iter,ifs,0⟩] scope pos) 0 it acc env) R s:=by
 refine codeAny_loop rfl I (fun n s hI=>?_) n h
 show wpAny _ A ((compTurn (.ListComp elt [⟨target,iter,ifs,0⟩] scope pos) 0 it acc env).onRaise (fun x=>do noteFrame x env;theTreesLotGoes x)) _ _ s
 refine wpAny_noted ?_
 rw[compTurn_list]
 refine wpAny_bind (wpAny_standAt (wpAny_bind (wpAny_mono (turn n s hI) (fun r s₁ h₁=>?_) fun _ _ h'=>h')))
 cases r with
 |none=>exact wpAny_pure h₁
 |some v =>
  refine wpAny_bind (wpAny_mono h₁ (fun _ s₁' h₁'=>?_) fun _ _ h'=>h')
  refine wpAny_bind (wpAny_mono h₁' (fun _ s₂ h₂=>wpAny_bind (wpAny_mono h₂ (fun ok s₃ h₃=>?_) fun _ _ h'=>h')) fun _ _ h'=>h')
  cases ok with
  |false=>exact wpAny_pure ⟨rfl,h₃⟩
  |true =>
   exact wpAny_bind (wpAny_bind (wpAny_mono h₃ (fun x s₄ h₄=>wpAny_bind (wpAny_mono h₄ (fun _ s₅ h₅=>wpAny_pure (wpAny_pure ⟨rfl,h₅⟩)) fun _ _ h'=>h')) fun _ _ h'=>h'))
end
noncomputable def Zba (xs:List Str) (y:Str):Str:=if xs.contains y then "" else y
noncomputable def Ue (X:Cx) (scope:Scope) (xs:List Str) (C:Addr) (ex:List Addr) (s₂:Shared) (H₂:Hp):Cx:=
 { X with N:=X.N.map (Zba xs)++xs,s₀:=s₂,H₀:=H₂,env:=compEnvC scope (Zge scope X.env) C X.env,outer:=X.stack,ex:=ex,fn:=fun _=>false,pn:=[],xe:=fun _ _=>False }
noncomputable abbrev TB:=V->Hp->List V->Prop
noncomputable def tB1:TB:=fun x _ vs=>vs=[x]
def PB (X:Cx) (scope:Scope) (xs:List Str) (tg:Expr) (Bd:TB):Prop:=∀C s₂ H₂ ex,∀(pins:List (Addr×Obj)) (s:Shared) (σ σx:St) (H:Hp) (x:V) (u:Value) (vs:List V) (E:Value->Shared->Prop),σ.length=X.N.length->σx.length=xs.length ->
 Inv (Ue X scope xs C ex s₂ H₂) pins (σ++σx) H s->Ja x u->Bd x H vs->wpAny (model X.prog X.w) X.A (assign tg (Ue X scope xs C ex s₂ H₂).env u) (fun _ s'=>Inv (Ue X scope xs C ex s₂ H₂) pins (σ++vs.map some) H s') E s
def PCi (X:Cx) (ifs:List Expr) (t:TT):Prop:=∀(pins:List (Addr×Obj)) (s:Shared) (σ:St) (H:Hp) (Q:Bool->Hp->Prop) (E:Value->Shared->Prop),Inv X pins σ H s->t σ H Q ->
 wpAny (model X.prog X.w) X.A (forIn ifs true fun c r=>if r=true then do let ok <- isTrue c X.env (eval c X.env);pure (ForInStep.yield ok) else pure (ForInStep.yield r)) (TP X pins σ Q) E s
noncomputable def ZjX:TT:=fun _ H Q=>Q true H
theorem Zic {X:Cx}:PCi X [] ZjX:=fun pins s σ H Q E I h=>wpAny_tests_nil ⟨_,I,h⟩
def Ze1 (σ:St) (Bd:TB) (tt:TT) (te:TE) (J:It) (H1:Hp) (Q:VK):Prop:=∃W:Nat->Nat->List V->Hp->Prop,(∃m,W 0 m [] H1)/\∀i m ys H2,W i m ys H2->ys.length<=sizeLine /\
 ((J.stop i H2/\∀p,H2 p=none->Q (.ref p) (upd H2 p (.lst ys))) \/
  (J.go i H2/\∃N:List V->Hp->Prop,(∀ys' H',N ys' H'->∃m',m'<m/\W (i+1) m' ys' H')/\∀x H3,J.yld i H2 x H3->∃vs,Bd x H3 vs/\tt (σ++vs.map some) H3 fun b H4=>if b=true then te (σ++vs.map some) H4 fun y H5=>N (ys++[y]) H5 else N ys H4))
noncomputable def QK (wi:TI) (Bd:TB) (tt:TT) (te:TE):TE:=fun σ H Q=>wi σ H fun J H1=>Ze1 σ Bd tt te J H1 Q
noncomputable def Va (N:List Str) (sc scope:Scope) (xs:List Str):Bool:=xs.all (fun x=>Zcl [] sc scope x)&&decide (N.map (Zba xs)++xs).Nodup&&!xs.isEmpty&&(N.all fun y=>xs.contains y || !(scope.names.lookup y==some .local))&&(scope.names.lookup (Str.ofString "")==none)
structure CkN (N:List Str) (sc scope:Scope) (xs:List Str):Prop where
 scs:∀x∈xs,QY [] sc scope x
 nd:(N.map (Zba xs)++xs).Nodup
 ex:∃x,x∈xs
 noN:∀y∈N,y ∉ xs->scope.names.lookup y≠some .local
 noE:scope.names.lookup (Str.ofString "")=none
theorem VF {N:List Str}{sc scope:Scope}{xs:List Str} (h:Va N sc scope xs=true):CkN N sc scope xs:=by
 unfold Va at h
 simp only[Bool.and_eq_true,ZtN,decide_eq_true_eq,Bool.not_eq_true',Bool.or_eq_true,beq_iff_eq,beq_eq_false_iff_ne] at h
 obtain⟨⟨⟨⟨h1,h2⟩,h3⟩,h4⟩,h5⟩:=h
 refine⟨fun x hx=>QY.of (h1 x hx),h2, ?_,fun y hy hn=>?_,h5⟩
 ·cases xs with
  |nil=>simp at h3
  |cons a l=>exact⟨a,by simp⟩
 ·rcases h4 y hy with z|z
  ·exact absurd (ZtU.mp z) hn
  ·exact z
section
variable {X:Cx}{pins:List (Addr×Obj)}{σ:St}{s₂:Shared}{H₂:Hp}{scope:Scope}{x:Str}{xs:List Str}{tg elt iter:Expr}{ifs:List Expr}{pos:Pos}{Bd:TB}{tt:TT}{te:TE}{J:It}{fp:List Addr}{it:Addr}{tn:Nat->Heap->Prop}
theorem Jo {N0:List Str} (sc:QY N0 X.env.scope scope x) (ok:X.Ok) {y:Str}{c:Addr} (h:(Zge scope X.env).lookup y=some c):X.env.cells.lookup y=some c:=by
 have hm:=PySem.mem_of_lookup h
 unfold Zge at hm
 obtain⟨p,hp,e⟩:=ZtP.mp hm
 have hp':=ZtY.mp (List.mem_reverse.mp hp)
 obtain⟨e1,e2⟩:=Prod.mk.inj e
 have hk:=sc.fr p hp'.1 (beq_iff_eq.mp hp'.2)
 obtain⟨c',hc'⟩:=ok.has p.1 hk
 rw[hc'] at e2
 rw[<- e1,hc']
 exact congrArg some e2
theorem Zj7 {N0:List Str} (I:Inv X pins σ H₂ s₂) (sc:QY N0 X.env.scope scope x) {C:Addr} (hC:s₂.heap.objs.size<=C) (ff:∀b∈fp,ZhN X pins H₂ b) (fo:∀b∈fp,∃o,s₂.heap.get? b=some o):(Ue X scope xs C fp s₂ H₂).Ok where
 mod:=I.ok.mod
 kind:=sc.kind
 glob:=I.ok.glob
 blt:=I.ok.blt
 above:=hC
 inj:=fun y z c h1 h2=>I.ok.inj y z c (Jo sc I.ok h1) (Jo sc I.ok h2)
 has:=fun y hy=>by
  have hy':(relabel scope X.env).names.lookup y=some .cell\/(relabel scope X.env).names.lookup y=some .free:=hy
  have hf:scope.names.lookup y=some .free:=by
   rcases hy' with z|z
   ·exact(ZH sc.nc z).2 (.inl rfl)
   ·exact(ZH sc.nc z).2 (.inr rfl)
  exact Zd5 hf
 cab:=fun y c h=>by cases h
 hd:=I.ok.hd
 frames:=I.ok.frames
 stk:=.inl rfl
 exf:=fun b hb=>by
  obtain⟨f0,f1,f2,f3,f4,f5⟩:=ff b hb
  obtain⟨o,ho⟩:=fo b hb
  exact⟨Zti (ZsY (Heap.lt_size ho) hC),fun y c h=>f4 y c (Jo sc I.ok h)⟩
 bs:=I.bs
 bsz:=Ztr I.ok.bsz I.sz
 noex:=fun b o e hb=>by
  obtain⟨f0,f1,f2,f3,f4,f5⟩:=ff b hb
  rcases f3 with z|z
  ·exact I.ok.noex b o e z
  ·exact absurd (ZsY (Heap.lt_size e) (Ztr I.ok.bsz z)) (Ztz _)
 exfs:=fun b hb z=>by
  obtain⟨f0,f1,f2,f3,f4,f5⟩:=ff b hb
  rcases ZsZ.mp (I.stkSub b z) with e|e
  ·exact f1 e
  ·exact f2 e
 funs:=I.stack
 frf:=I.stkFree
theorem Zbm {E:Value->Shared->Prop}{Q:VK}{RR:Value->Addr->Result->Shared->Prop} (I:Inv X pins σ H₂ s₂) (ck:CkN X.N X.env.scope scope xs) (hx:x∈xs) (hNd:X.N.Nodup) (hc:X.calm=true)
  (T:ZjO X.prog X.w X.K tg J fp it tn) (st:tn 0 s₂.heap) (ff:∀b∈fp,ZhN X pins H₂ b) (hw:Ze1 σ Bd tt te J H₂ Q)
  (hb:PB X scope xs tg Bd) (ht:∀C s₂ H₂ ex,PCi (Ue X scope xs C ex s₂ H₂) ifs tt) (he:∀C s₂ H₂ ex,PE (Ue X scope xs C ex s₂ H₂) elt te)
  (hvs:∀x H vs,Bd x H vs->vs.length=xs.length)
  (hRR:∀D C s' H' m',s₂.heap.objs.size<=C->Inv X pins σ H' s'->s'.heap.Ns C m'->H' C=none->Q (.ref D) H'->RR (.ref D) C (.ok .next) s') :
  wpAny (model X.prog X.w) X.A (newList []) (fun acc s₃=>wpAny (model X.prog X.w) X.A (newFunctionEnv scope X.env.globals (Zge scope X.env) [] X.env.qual none .none (some X.env)) (fun cenv s₄ =>
   codeAny (model X.prog X.w) X.A (.compStart (.ListComp elt [⟨tg,iter,ifs,0⟩] scope pos) 0 (.ref it) acc { cenv with scope:=relabel scope X.env }) (RR acc cenv.locals) s₄) E s₃) E s₂:=by
 have sc:=ck.scs x hx
 refine wpAny_newObj_type (wpAny_newFunctionEnv sc.nc (by intro y hy;simp at hy) (fun h₁ hns₁ hsb₁=>?_) sc.kind)
 dsimp only at hns₁ hsb₁ ⊢
 generalize hP2:s₂.heap.push { cls:=.type "list",dict:=none,data:=.seq ([]:List Value).toArray }=P2 at hns₁ hsb₁ ⊢
 have hCs:P2.objs.size=s₂.heap.objs.size+1:=by rw[<- hP2,Heap.size_push]
 have hCle:s₂.heap.objs.size<=P2.objs.size:=by rw[hCs];exact Zue _
 have hDC:s₂.heap.objs.size≠P2.objs.size:=by rw[hCs];exact Zti (ZtB _)
 generalize hCe:P2.objs.size=C at hns₁ hsb₁ hCs hCle hDC ⊢
 generalize hDe:s₂.heap.objs.size=D at hCs hCle hDC ⊢
 have fo:∀b∈fp,∃o,s₂.heap.get? b=some o:=fun b hb=>let ⟨o,e,_⟩:=T.obj _ _ st b hb;⟨o,e⟩
 have flt:∀b∈fp,b<D:=fun b hb=>by obtain⟨o,e⟩:=fo b hb;rw[<- hDe];exact Heap.lt_size e
 have old:∀b o,s₂.heap.get? b=some o->h₁.get? b=some o:=fun b o e=>by
  have hb:=Heap.lt_size e
  exact hsb₁.extBut b o (Zti (by rw[hCs];exact Nat.lt_succ_of_lt (hDe▸hb))) (Heap.get?_push_of_some _ (hP2▸Heap.get?_push_of_some _ e))
 have hacc:h₁.get? D=some { cls:=.type "list",data:=.seq ([]:List Value).toArray 0 }:=hsb₁.extBut _ _ hDC (Heap.get?_push_of_some _ (hP2▸hDe▸Heap.get?_push_size _ rfl))
 have okB:=Zj7 (x:=x) (xs:=xs) (C:=C) I sc (by rw[hDe];exact hCle) ff fo
 have hfreshD:H₂ D=none:=I.hok.fresh (by rw[hDe];exact ZsV _)
 have hfreshC:H₂ C=none:=I.hok.fresh (by rw[hDe];exact hCle)
 have I0:Inv (Ue X scope xs C fp s₂ H₂) [(D,{ cls:=.type "list",data:=.seq ([]:List Value).toArray 0 })] (σ++List.replicate xs.length none) H₂ { s₂ with heap:=h₁,toks:=s₂.toks+([]:List (Str×Value)).length }:=by
  refine⟨okB,rfl,I.bare,Un.kept old,⟨_,hns₁,fun i y v e1 e2 e3=>?_⟩,fun y c e=>?_,hfreshC,fun y c e=>I.freeC y c (Jo sc I.ok e),fun p hp=>?_,I.hok.kept old,by simp[Ue,I.len]⟩
  ·have hi:i<σ.length:=by
    by_cases hi:i<σ.length
    ·exact hi
    ·rw[Zto (by omega)] at e2
     rw[ZtR] at e2
     split at e2<;>cases e2
   rw[Zte hi] at e2
   have e1':(X.N.map (Zba xs)++xs)[i]?=some y:=e1
   rw[Zte (by rw[ZsS,<- I.len];exact hi),Ztb] at e1'
   have lk:scope.names.lookup y=some .local\/scope.names.lookup y=some .free:=by
    have e3':(relabel scope X.env).names.lookup y=some .local\/(relabel scope X.env).names.lookup y=some .cell\/(relabel scope X.env).names.lookup y=some .free:=e3
    rcases e3' with z|z|z
    ·exact .inl ((ZH sc.nc z).1 rfl)
    ·exact .inr ((ZH sc.nc z).2 (.inl rfl))
    ·exact .inr ((ZH sc.nc z).2 (.inr rfl))
   obtain⟨y0,ey0,ey⟩:∃y0,X.N[i]?=some y0/\Zba xs y0=y:=by
    cases q:X.N[i]? with
    |none=>rw[q] at e1';cases e1'
    |some y0=>rw[q] at e1';exact⟨y0,rfl,Option.some.inj e1'⟩
   have hy0:y0 ∉ xs:=fun z=>by
    have:y=Str.ofString "":=by rw[<- ey];unfold Zba;rw[if_pos (ZtU.mpr z)]
    rw[this,ck.noE] at lk
    rcases lk with z|z<;>cases z
   have ey2:y0=y:=by rw[<- ey];unfold Zba;rw[if_neg (fun z=>hy0 (ZtU.mp z))]
   rw[ey2] at ey0 hy0
   have e1':X.N[i]?=some y:=ey0
   have yN:y∈X.N:=Ztx e1'
   have e3':(relabel scope X.env).names.lookup y=some .local\/(relabel scope X.env).names.lookup y=some .cell\/(relabel scope X.env).names.lookup y=some .free:=e3
   have hcf:(relabel scope X.env).names.lookup y=some .cell\/(relabel scope X.env).names.lookup y=some .free:=by
    rcases e3' with z|z
    ·exact absurd ((ZH sc.nc z).1 rfl) (ck.noN y yN hy0)
    ·exact z
   have hfree:scope.names.lookup y=some .free:=by
    rcases hcf with z|z
    ·exact(ZH sc.nc z).2 (.inl rfl)
    ·exact(ZH sc.nc z).2 (.inr rfl)
   obtain⟨c,hcl⟩:=Zd5 (X:=X) hfree
   have hcx:=Jo sc I.ok hcl
   have hvis:=sc.fr _ (PySem.mem_of_lookup hfree) rfl
   obtain⟨m,hn,hl⟩:=I.loc
   obtain⟨u,ru,hlook⟩:=hl i y v e1' e2 (.inr hvis)
   refine⟨u,ru,.inr ⟨hcf,c,hcl, ?_⟩⟩
   rcases hlook with ⟨k,_⟩|⟨k,c',ec,hcell⟩
   ·have k':X.env.scope.names.lookup y=some .local:=k
    have hv':X.env.scope.names.lookup y=some .cell\/X.env.scope.names.lookup y=some .free:=hvis
    rw[k'] at hv'
    rcases hv' with z|z<;>cases z
   ·rw[hcx] at ec;cases ec
    obtain⟨o,ho,hd⟩:=hcell
    exact⟨o,old _ _ ho,hd⟩
  ·obtain⟨v,o,ho,hd⟩:=I.cell y c (Jo sc I.ok e)
   exact⟨v,o,old _ _ ho,hd⟩
  ·have e:p=(D,{ cls:=.type "list",data:=.seq ([]:List Value).toArray 0 }):=by simpa[Ue] using hp
   subst e
   exact⟨hacc,hfreshD,hDC,(fun z=>by
    rcases ZsZ.mp (I.stkSub D z) with e|e
    ·exact absurd I.lt (by rw[<- e,hDe];exact Ztz _)
    ·exact I.nofs (by rw[hDe];exact ZsV _) e),fun v z=>nomatch z⟩
 obtain⟨W,⟨m0,w0⟩,turn⟩:=hw
 have fpB:∀{H':Hp}{o:Obj},(∀b∈fp,H' b=none)->∀b∈fp,ZhN (Ue X scope xs C fp s₂ H₂) [(D,o)] H' b:=fun {H' o} hn b hb=>by
  obtain⟨f0,f1,f2,f3,f4,f5⟩:=ff b hb
  obtain⟨g1,g2⟩:=okB.exf b hb
  exact⟨hn b hb,g1,okB.exfs b hb,.inl hb,g2,fun p hp=>by
   have e:p=(D,o):=by simpa[Ue] using hp
   subst e
   exact(Zti (flt b hb)).symm⟩
 have hσ:σ.length=X.N.length:=I.len
 have loop:∀s₃:Shared,s₃={ s₂ with heap:=h₁,toks:=s₂.toks+([]:List (Str×Value)).length } ->
   codeAny (model X.prog X.w) X.A (.compLoop (.ListComp elt [⟨tg,iter,ifs,0⟩] scope pos) 0 (.ref it) (.ref D) (compEnvC scope (Zge scope X.env) C X.env)) (RR (.ref D) C) s₃:=by
  rintro s₃ rfl
  refine VG
   (fun n s'=>∃i ys its k σx H',σx.length=xs.length/\Inv (Ue X scope xs C fp s₂ H₂) [(D,{ cls:=.type "list",data:=.seq (List.toArray its) k })] (σ++σx) H' s'/\tn i s'.heap/\(∀b∈fp,H' b=none)/\ZQ ys its/\W i n ys H') ?_ m0
   ⟨0,[],[],0,List.replicate xs.length none,H₂,by simp,I0,T.keep _ _ _ st (fun b hb o e=>old b o e),fun b hb=>(ff b hb).1,.nil,w0⟩
  rintro n s' ⟨i,ys,its,k,σx,H',hσx,I',st',fr',rv,w'⟩
  obtain⟨hz,hcase⟩:=turn i n ys H' w'
  have hpinD:=I'.pin (D,{ cls:=.type "list",data:=.seq (List.toArray its) k }) (by simp[Ue])
  rcases hcase with ⟨stop,q⟩|⟨go,N,hN,step⟩
  ·refine thn (T.done (Ue X scope xs C fp s₂ H₂) rfl rfl rfl hc i _ s' _ H' _ I' (fpB fr') st' stop) fun r s4 ⟨hr,I4⟩=>?_
   subst hr
   have pD:=I4.pin (D,{ cls:=.type "list",data:=.seq (List.toArray its) k }) (by simp[Ue])
   obtain⟨m4,hn4,_⟩:=I4.loc
   have IX:Inv X pins σ H' s4:=I.call' I4.os I4.base I4.hok I4.bare fun b hb=>by
    obtain⟨f0,f1,f2,f3,f4,f5⟩:=ff b hb
    exact⟨f3,f1,f4,f5⟩
   have IX2:=IX.adopt (D:=D) (ys:=ys) (its:=its) (n:=k) hpinD.2.1 (by rw[<- hDe];exact I.sz) (by rw[<- hDe];exact Zuc I.lt)
    (fun y c e z=>by
     obtain⟨v,o,ho,hd⟩:=I.cell y c e
     have:=Heap.lt_size ho
     rw[hDe,z] at this
     exact Ztz _ this)
    (fun p hp z=>by
     have:=Heap.lt_size (I.pin p hp).1
     rw[hDe,z] at this
     exact Ztz _ this) pD.1 rv hz
   refine hRR D C s4 _ m4 (by rw[hDe];exact hCle) IX2 hn4 ?_ (q D hpinD.2.1)
   rw[Zn (Ne.symm hDC)]
   exact I4.free
  ·refine thn (T.item (Ue X scope xs C fp s₂ H₂) rfl rfl rfl hc i _ s' _ H' _ I' (fpB fr') st' go) fun r s4 ⟨u,hr,h4⟩=>?_
   subst hr
   refine thn h4 fun _ s5 ⟨y,H5,I5,r5,y5,st5,fr5⟩=>?_
   have I5':=I5.pinned (fpB fr5) (T.obj _ _ st5)
   obtain⟨vs,bd5,stp⟩:=step y H5 y5
   refine thn (hb C s₂ H₂ fp _ s5 σ σx H5 y u vs _ hσ hσx I5' r5 bd5) fun _ s6 I6=>?_
   refine thn (ht C s₂ H₂ fp _ s6 _ H5 _ _ I6 stp) fun ok s6' hok=>?_
   obtain⟨H6',I6',q6'⟩:=hok
   have hvl:=hvs _ _ _ bd5
   have stay:∀{s9:Shared}{H9:Hp}{ys':List V}{its':List Value}{k':Nat},True:=fun {_ _ _ _ _}=>trivial
   cases ok with
   |false =>
    rw[if_neg Bool.false_ne_true] at q6' ⊢
    have pD6:=I6'.pin (D,{ cls:=.type "list",data:=.seq (List.toArray its) k }) (by simp[Ue])
    obtain⟨m',hm,w8⟩:=hN _ _ q6'
    refine⟨m',hm,i+1,ys,its,k,vs.map some,H6',by simp[hvl],I6'.pins_of fun p hp=>?_, ?_,fun b hb'=>?_,rv,w8⟩
    ·have e:p=(D,{ cls:=.type "list",data:=.seq (List.toArray its) k }):=by simpa using hp
     subst e
     exact⟨pD6.1,pD6.2.1,pD6.2.2.1,pD6.2.2.2.1,fun v z=>nomatch z⟩
    ·refine T.keep _ _ _ st5 fun b hb' o e=>?_
     exact(I6'.pin (b,o) (ZsT _ (ZsT _ (J1 hb' e)))).1
    ·obtain⟨o,e,d⟩:=T.obj _ _ st5 b hb'
     exact(I6'.pin (b,o) (ZsT _ (ZsT _ (J1 hb' e)))).2.1
   |true =>
   rw[if_pos rfl] at q6' ⊢
   refine wpAny_mono (he C s₂ H₂ fp _ s6' _ H6' _ I6' q6') (fun u7 s7 h7=>?_) fun _ _ f=>f.elim
   obtain⟨v7,H7,I7,r7,n7⟩:=h7
   have pD7:=I7.pin (D,{ cls:=.type "list",data:=.seq (List.toArray its) k }) (by simp[Ue])
   have hlen:=rv.length
   refine append_at (hsz:=by show its.toArray.size<=sizeLine;rw[ZsX,<- hlen];exact hz) pD7.1 fun h8 hs8 hD8=>?_
   obtain⟨m',hm,w8⟩:=hN _ _ n7
   have hD8':h8.get? D=some { cls:=.type "list",data:=.seq (its++[u7]).toArray (k+1) }:=by rw[hD8,List.push_toArray]
   have I8:Inv (Ue X scope xs C fp s₂ H₂) [] (σ++vs.map some) H7 { s7 with heap:=h8 }:=by
    refine(I7.pins_of (pins':=[]) fun p hp=>absurd hp (by simp)).turned (t':=s7.toks) (it:=D) (fun b o hb e=>(hs8.2 b hb).trans e) pD7.2.1 pD7.2.2.1 (.inr (by show s₂.heap.objs.size<=D;rw[hDe];exact ZsV _)) (fun y' c' e' z=>?_) fun p hp=>absurd (show p∈([]:List (Addr×Obj)) from by simpa[Ue] using hp) (by simp)
    obtain⟨v,o,ho,hd⟩:=I.cell y' c' (Jo sc I.ok e')
    have:=Heap.lt_size ho
    rw[hDe,z] at this
    exact Ztz _ this
   refine⟨m',hm,i+1,ys++[v7],its++[u7],k+1,vs.map some,H7,by simp[hvl],I8.pins_of fun p hp=>?_, ?_,fun b hb'=>?_,rv.append (.cons r7 .nil),w8⟩
   ·have e:p=(D,{ cls:=.type "list",data:=.seq (its++[u7]).toArray (k+1) }):=by simpa using hp
    subst e
    exact⟨hD8',pD7.2.1,pD7.2.2.1,pD7.2.2.2.1,fun v z=>nomatch z⟩
   ·refine T.keep _ _ _ st5 fun b hb' o e=>?_
    have hpb:=I7.pin (b,o) (ZsT _ (ZsT _ (J1 hb' e)))
    exact(hs8.2 b (Zti (flt b hb'))).trans hpb.1
   ·obtain⟨o,e,d⟩:=T.obj _ _ st5 b hb'
    exact(I7.pin (b,o) (ZsT _ (ZsT _ (J1 hb' e)))).2.1
 exact codeAny_compStart_list (loop _ rfl) (T.self _ 0 _ _ _ (T.keep _ _ _ st fun b hb o e=>old b o e) (loop _ rfl))
theorem Zkz {c:Expr} (hx:∀e s,X.xe e s->False) (h:PT X c tt):PCi X [c] tt:=fun pins s σ H Q E I q =>
 wpAny_tests_one (wpAny_mono (h pins s σ H Q I q) (fun _ _ z=>z) fun e s z=>(hx e s z).elim)
theorem ZbI {px:Pos} (hNd:X.N.Nodup) (hchk:Va X.N X.env.scope scope [x]=true:=by rfl):PB X scope [x] (.Name x px) tB1:=by
 intro C s₂ H₂ ex pins s σ σx H y u vs E hσ hσx I r hb
 have ck:=VF hchk
 have sc:=ck.scs x (by simp)
 have hb:vs=[y]:=hb
 subst hb
 have ndB:=ck.nd
 refine wpAny_assign_Name ?_
 refine U8 (X:=Ue X scope [x] C ex s₂ H₂) (i:=X.N.length) (x:=x) (v:=y) I ndB (by simp[Ue]) (.inl (lookup_relabel_local sc.var)) r (fun s6 I6=>?_) (.inr (lookup_relabel_local sc.var))
 obtain⟨o,rfl⟩:∃o,σx=[o]:=by
  cases σx with
  |nil=>simp at hσx
  |cons a l =>
   cases l with
   |nil=>exact⟨a,rfl⟩
   |cons b l=>simp at hσx
 have eσ:(σ++[o]).set X.N.length (some y)=σ++[some y]:=by
  rw[<- hσ];simp
 rw[eσ] at I6
 exact I6
theorem ZgM {wi:TI} (hi:PI X tg iter wi) (hb:PB X scope xs tg Bd) (ht:∀C s₂ H₂ ex,PCi (Ue X scope xs C ex s₂ H₂) ifs tt) (he:∀C s₂ H₂ ex,PE (Ue X scope xs C ex s₂ H₂) elt te) (hvs:∀x H vs,Bd x H vs->vs.length=xs.length) (hNd:X.N.Nodup) (hc:X.calm=true)
  (hclos:closureFor scope X.env=pure (Zge scope X.env):=by rfl) (hchk:Va X.N X.env.scope scope xs=true:=by rfl) (hs:∀x,foldedSetIterable iter X.env x=pure x:=by exact fun _=>rfl) :
  PE X (.ListComp elt [⟨tg,iter,ifs,0⟩] scope pos) (QK wi Bd tt te):=by
 intro pins s σ H Q I h
 have ck:=VF hchk
 obtain⟨x,hx⟩:=ck.ex
 have sc:=ck.scs x hx
 rw[eval_ListComp]
 refine wpAny_comprehension_free (use:=none) rfl hs hclos sc.kind sc.locs (thn (hi pins s σ H _ I h) fun xv s₁ h₁=>thn h₁ fun itv s₂ h₂=>?_)
 obtain⟨it,fp,tn,J,H2,e,I2,T,st2,f2,q⟩:=h₂
 subst e
 refine Zbm (RR:=fun acc C=>compPost (model X.prog X.w) X.A X.xe none (EP X pins σ Q) acc C) I2 ck hx hNd hc T st2 f2 q hb ht he hvs ?_
 intro D C s' H' m' hC I' hn hC0 hq
 refine⟨m',hn,fun h'' hs''=>⟨.ref D,H', ?_,rfl,hq⟩⟩
 refine I'.turned (t':=s'.toks) (it:=C) (fun b o hb e=>(hs''.2 b hb).trans e) hC0 (Zuc (ZsY I2.lt hC)) (.inr (Ztr I2.sz hC)) (fun y c e z=>?_) fun p hp z=>?_
 ·obtain⟨v,o,ho,hd⟩:=I2.cell y c e
  exact absurd (Heap.lt_size ho) (Nat.not_lt.mpr (by rw[z];exact hC))
 ·exact absurd (Heap.lt_size (I2.pin p hp).1) (Nat.not_lt.mpr (by rw[z];exact hC))
noncomputable def UO (i:Nat) (wi:TI) (Bd:TB) (tt:TT) (te:TE):TS:=fun D σ H=>QK wi Bd tt te σ H fun v H'=>D.nx (σ.set i (some v)) H'
theorem UX {i:Nat}{y:Str}{py spos:Pos}{wi:TI} (hN:X.N.Nodup) (hi:X.N[i]?=some y) (hit:PI X tg iter wi) (hb:PB X scope xs tg Bd) (ht:∀C s₂ H₂ ex,PCi (Ue X scope xs C ex s₂ H₂) ifs tt) (he:∀C s₂ H₂ ex,PE (Ue X scope xs C ex s₂ H₂) elt te) (hvs:∀x H vs,Bd x H vs->vs.length=xs.length) (hc:X.calm=true)
  (hsw:swapsWith (.ListComp elt [⟨tg,iter,ifs,0⟩] scope pos) (some (.Name y py)) spos.line X.env=pure true:=by rfl) (hy:X.env.scope.names.lookup y=some .local:=by rfl)
  (hclos:closureFor scope X.env=pure (Zge scope X.env):=by rfl) (hchk:Va X.N X.env.scope scope xs=true:=by rfl) (hs:∀x,foldedSetIterable iter X.env x=pure x:=by exact fun _=>rfl) :
  PS X (.Assign [.Name y py] (.ListComp elt [⟨tg,iter,ifs,0⟩] scope pos) spos) (UO i wi Bd tt te):=by
 intro pins s σ H D0 I h
 have ck:=VF hchk
 obtain⟨x,hx⟩:=ck.ex
 have sc:=ck.scs x hx
 rw[exec_Assign_Name_used _ _ _ _ hsw]
 refine wpAny_bind (wpAny_standAt (wpAny_bind ?_))
 show wpAny _ X.A (do let _ <- comprehension (.ListComp elt [⟨tg,iter,ifs,0⟩] scope pos) scope X.env _ (newList []) false (eval iter X.env) (some (assign (.Name y py) X.env))) _ _ s
 refine wpAny_bind (wpAny_mono (wpAny_comprehension_free (use:=some (assign (.Name y py) X.env)) (Q:=fun _ s'=>SP X pins D0 .next s') rfl hs hclos sc.kind sc.locs
  (thn (hit pins s σ H _ I h) fun xv s₁ h₁=>thn h₁ fun itv s₂ h₂=>?_)) (fun _ s' hq=>wpAny_pure (wpAny_pure hq)) fun _ _ e=>e)
 obtain⟨it,fp,tn,J,H2,e,I2,T,st2,f2,q⟩:=h₂
 subst e
 refine Zbm (RR:=fun acc C=>compPost (model X.prog X.w) X.A X.xe (some (assign (.Name y py) X.env)) (fun _ s'=>SP X pins D0 .next s') acc C) I2 ck hx hN hc T st2 f2 q hb ht he hvs ?_
 intro D C s' H' m' hC I' hn hC0 hq
 show wpAny _ X.A (assign (.Name y py) X.env (.ref D)) _ _ _
 have cellC:∀y c,X.env.cells.lookup y=some c->c≠C:=fun y c e z=>by
  obtain⟨v,o,ho,hd⟩:=I2.cell y c e
  exact absurd (Heap.lt_size ho) (Nat.not_lt.mpr (by rw[z];exact hC))
 have locC:C≠X.env.locals:=Zuc (ZsY I2.lt hC)
 refine wpAny_assign_Name (ZaB (i:=i) (v:=.ref D) I' hN hi (.inl hy) rfl (fun s'' I'' ⟨a,hsa,ha⟩=>?_) (.inr hy))
 have hCa:C≠a:=by
  rcases ha with z|z
  ·rw[z];exact locC
  ·exact(cellC _ _ z).symm
 refine⟨m',hn.sameBut hsa hCa,fun h'' hs''=>⟨σ.set i (some (.ref D)),H', ?_,hq⟩⟩
 refine I''.turned (t':=s''.toks) (it:=C) (fun b o hb e=>(hs''.2 b hb).trans e) hC0 locC (.inr (Ztr I2.sz hC)) cellC fun p hp z=>?_
 exact absurd (Heap.lt_size (I2.pin p hp).1) (Nat.not_lt.mpr (by rw[z];exact hC))
end
noncomputable def ZfK {α β:Type} (f:α->Rr (Option β)):List α->Rr (List β)
 |[]=>.ok []
 |x::xs=>(f x).bind fun o=>(ZfK f xs).bind fun ys=>.ok (o.toList++ys)
def DB (K:W.Frag) (Bd:TB) (k:Nat) (hb:PV->Rr (List PV)):Prop:=(∀x e,hb x≠.exc e)/\∀(H:Hp) (S:Addr->Prop) (x:PV) (v:V) (xs:List PV),Rep K H S x v->hb x=.ok xs->xs.length=k/\∃vs,Bd v H vs/\Reps K H S xs vs
theorem ZmU {K:W.Frag}:DB K tB1 1 (fun x=>.ok [x]):=⟨fun x e h=>(by cases h),fun H S x v xs r h=>by
 cases h
 exact⟨rfl,[v],rfl,v,[],rfl,r,rfl⟩⟩
section
variable {K:W.Frag}{B:Addr->Prop}{EX:PX->Hp->Prop}{H0 H H':Hp}{σ:St}{Γ Γ' Γ1 Γ2:List Md}{ρ:List PV}{F:Nat->List Addr}{R:List Addr}{k:Nat}{x:PV}{v:V}{te:TE}{tt:TT}{f fe:List PV->Rr PV}{c:List PV->Rr Bool}{Bd:TB}{hb:PV->Rr (List PV)}
theorem Zld:DT K EX Γ Γ ZjX (fun _=>.ok true):=fun B H0 H σ ρ F R Q A d=>d H F (Z0.refl H) (fun _ _ h=>h) A
theorem Ag.pushN:∀{xs:List PV}{vs:List V}{σ:St}{Γ:List Md}{ρ:List PV},Reps K H (NO B F R) xs vs->Ag K B H0 H σ Γ ρ F R->Ag K B H0 H (σ++vs.map some) (Γ++List.replicate xs.length .S) (ρ++xs) F R
 |[],vs,σ,Γ,ρ,h,A=>by
  have h:vs=[]:=h
  subst h
  simpa using A
 |x::xs,vs,σ,Γ,ρ,h,A=>by
  obtain⟨v,r,rfl,h1,h2⟩:=h
  have:=Ag.pushN (xs:=xs) (vs:=r) h2 (A.push h1)
  simpa[Zts] using this
theorem Ag.popN {n:Nat}{τ:St}{xs:List PV} (A:Ag K B H0 H (σ++τ) (Γ++List.replicate n .S) (ρ++xs) F R) (l1:σ.length=Γ.length) (l2:ρ.length=Γ.length):Ag K B H0 H σ Γ ρ F R:=by
 refine⟨A.same,A.own,A.young,A.youngR,A.live,A.liveR,A.disj,A.disjR,l1,l2,fun i=>?_⟩
 have:=A.slot i
 by_cases h1:i<Γ.length
 ·rw[ZsQ,ZsQ,Zte h1,Zte (by rw[l2];exact h1),Zte (by rw[l1];exact h1),<- ZsQ,<- ZsQ] at this
  exact this
 ·rw[ZsQ,Ztd (by omega)]
  by_cases h2:i<Γ.length+n
  ·rw[ZsQ,Zto (by omega),ZtR,if_pos (by omega)] at this
   simp only[Zuh] at this
   exact this.1
  ·exact A.outF (by simp;omega)
theorem Zd1 {wi:TI}{fi:List PV->Rr (List PV)} (hi:DIc K EX Γ Γ1 wi fi) (hB:DB K Bd k hb) (ht:DT K EX (Γ1++List.replicate k .S) (Γ1++List.replicate k .S) tt c) (he:DE K EX (Γ1++List.replicate k .S) (Γ1++List.replicate k .S) .F te fe) :
  DE K EX Γ Γ1 .F (QK wi Bd tt te) (fun ρ=>(fi ρ).bind fun xs=>(lenM xs).bind fun _=>(ZfK (fun x=>(hb x).bind fun as=>(c (ρ++as)).bind fun b=>if b=true then (fe (ρ++as)).bind fun y=>.ok (some y) else .ok none) xs).bind fun ys=>.ok (.lst ys)):=fun B H0 H σ ρ F R Q A d=>by
 refine hi B H0 H σ ρ F R _ A (d.bind.imp (fun xs _ d J H1 F1 s1 f1 A1 it=>?_) fun e q=>q)
 obtain⟨hlen,d⟩:=Dn.lenM d.bind
 generalize hgx:(fun x=>(hb x).bind fun as=>(c (ρ++as)).bind fun b=>if b=true then (fe (ρ++as)).bind fun y=>Rr.ok (some y) else .ok none)=gx at d
 have l1:=A1.lenS
 have l2:=A1.lenR
 refine⟨fun i m ys H2=>∃zs G F2,m=xs.length-i/\i<=xs.length/\ys.length<=i/\Z0 H1 H2/\Trees K H2 zs ys G/\(∀a∈G,a ∉ R/\(H1 a=none\/∃j,a∈F1 j))/\(∀i,∀a∈F2 i,a∈F1 i)/\Ag K B H0 H2 σ Γ1 ρ F2 (G++R) /\
  Dn ((ZfK gx (xs.drop i)).bind fun ys'=>.ok (.lst (zs++ys'))) (fun x=>∀v H',Z0 H H'->Res K B H0 H σ Γ1 ρ F R .F x v H'->Q v H') (fun e=>∀H',Z0 H0 H'->EX e H'),
  ⟨xs.length,[],[],F1,by simp,ZtF _,ZsV _,Z0.refl _,⟨rfl,rfl⟩,by simp,fun _ _ h=>h,A1,by simpa using d⟩, ?_⟩
 rintro i m ys H2 ⟨zs,G,F2,rfl,hi',hl,s2,tr,o2,f2,A2,dn⟩
 refine⟨Zdd (by omega), ?_⟩
 have itp:=it H2 F2 s2 f2 i
 cases hx:xs[i]? with
 |none =>
  refine .inl ⟨itp.2 hx,fun p hp=>?_⟩
  have hd:xs.drop i=[]:=ZtS (Ztv.mp hx)
  rw[hd] at dn
  have dn':∀v H',Z0 H H'->Res K B H0 H σ Γ1 ρ F R .F (.lst (zs++[])) v H'->Q v H':=dn
  rw[Zt1] at dn'
  exact dn' _ _ ((s1.trans s2).trans (Z0.new hp)) (Res.newF (s1.trans s2) (fun i a h=>f1 i a (f2 i a h)) tr (fun a ha=>⟨(o2 a ha).1,(o2 a ha).2.elim (fun z=>.inl (s1.free z)) fun⟨j,z⟩=>.inr ⟨j,f1 j a z⟩⟩) A2 hp)
 |some x =>
  have hlt:i<xs.length:=(Zta.mp hx).1
  obtain⟨go,yl⟩:=itp.1 x hx
  have hdx:xs.drop i=x::xs.drop (i+1):=by
   rw[Zty hlt]
   rw[ZsR hlt] at hx;cases hx;rfl
  rw[hdx] at dn
  simp only[ZfK,Rr.assoc] at dn
  rw[<- hgx] at dn
  simp only[Rr.assoc] at dn
  rw[hgx] at dn
  refine .inr ⟨go,fun ys' H'=>∃zs G F2,ys'.length<=i+1/\Z0 H1 H'/\Trees K H' zs ys' G/\(∀a∈G,a ∉ R/\(H1 a=none\/∃j,a∈F1 j))/\(∀i,∀a∈F2 i,a∈F1 i)/\Ag K B H0 H' σ Γ1 ρ F2 (G++R) /\
   Dn ((ZfK gx (xs.drop (i+1))).bind fun ys'=>.ok (.lst (zs++ys'))) (fun x=>∀v H',Z0 H H'->Res K B H0 H σ Γ1 ρ F R .F x v H'->Q v H') (fun e=>∀H',Z0 H0 H'->EX e H'),
   fun ys' H' ⟨zs,G,F2,a1,a2,a3,a4,a5,a6,a7⟩=>⟨xs.length-(i+1),by omega,zs,G,F2,rfl,hlt,a1,a2,a3,a4,a5,a6,a7⟩,fun v H3 y=>?_⟩
  obtain⟨s3,rx⟩:=yl v H3 y
  have rx':Rep K H3 (NO B F2 (G++R)) x v:=Rep.mono (fun a us s r=>⟨r,s.1.1,fun z=>by
   rcases ZsW.mp z with z|z
   ·rcases (o2 a z).2 with q|⟨j,q⟩
    ·exact s.2.1 q
    ·exact s.2.2 j q
   ·exact s.1.2.1 z,s.1.2.2⟩) (fun a us r=>r) rx
  cases hbx:hb x with
  |exc e=>exact absurd hbx (hB.1 x e)
  |bad=>rw[hbx] at dn;exact dn.elim
  |ok as =>
   rw[hbx] at dn
   simp only[Rr.bind_ok] at dn
   obtain⟨hk,vs,bd,ra⟩:=hB.2 H3 _ x v as rx' hbx
   refine⟨vs,bd, ?_⟩
   have A3:=Ag.pushN ra (A2.grow s3)
   rw[hk] at A3
   refine ht B H0 H3 _ _ F2 (G++R) _ A3 (dn.bind.imp (fun b _ dn H4 F4 s4 f4 A4=>?_) fun e q=>q)
   cases b with
   |false =>
    rw[if_neg Bool.false_ne_true] at dn ⊢
    simp only[Rr.bind_ok,Option.toList] at dn
    refine⟨zs,G,F4,by omega,(s2.trans s3).trans s4,(tr.same s3).same s4,o2,fun i a h=>f2 i a (f4 i a h),A4.popN l1 l2, ?_⟩
    simp only[Rr.assoc,Rr.bind_ok,Zub] at dn
    exact dn
   |true =>
    rw[if_pos rfl] at dn ⊢
    simp only[Rr.assoc] at dn
    refine he B H0 H4 _ _ F4 (G++R) _ A4 (dn.bind.imp (fun z _ dn w H5 s5 r5=>?_) fun e q=>q)
    obtain⟨F5,f5,G5,t5,o5,A5⟩:=r5
    refine⟨zs++[z],G++G5,F5,by simp;omega,((s2.trans s3).trans s4).trans s5,Trees.append (((tr.same s3).same s4).same s5) (Trees.one t5) (fun a ha z=>(o5 a z).1 (ZsU _ ha)),fun a ha=>?_,fun i a h=>f2 i a (f4 i a (f5 i a h)),(A5.popN l1 l2).less fun a ha=>?_, ?_⟩
    ·rcases ZsW.mp ha with z|z
     ·exact o2 a z
     ·refine⟨fun q=>(o5 a z).1 (ZsT _ q), ?_⟩
      rcases (o5 a z).2 with q|⟨j,q⟩
      ·exact .inl (((s2.trans s3).trans s4).free q)
      ·exact .inr ⟨j,f2 j a (f4 j a q)⟩
    ·simp only[ZsW] at ha ⊢
     rcases ha with (z|z)|z
     ·exact .inr (.inl z)
     ·exact .inl z
     ·exact .inr (.inr z)
    ·simp only[Rr.assoc,Rr.bind_ok,Option.toList,List.append_assoc,List.singleton_append] at dn ⊢
     exact dn
theorem VE {EX:PX->Hp->Prop}{kd:Kd}{i:Nat}{wi:TI} (he:DE K EX Γ Γ' .F (QK wi Bd tt te) f) (hi:i<Γ'.length):DS K EX Γ ⟨Γ'.set i .O,Γ1,Γ2,kd⟩ (UO i wi Bd tt te) (fun ρ=>(f ρ).thenS fun x=>.next (ρ.set i x)):=Jn he hi
end
theorem hv1 {n:Str}:∀(x:V) (H:Hp) (vs:List V),tB1 x H vs->vs.length=[n].length:=fun _ _ _ h=>congrArg List.length h
section
end
theorem ZgW {xs:List PV}{y:PV} (h:xs.length<1000000):pApp (.lst xs) y=.ok (.lst (xs++[y])):=if_pos h
theorem Zm3 {a b:PV}:asT 2 (.tup [a,b])=.ok [a,b]:=rfl
noncomputable def Znc:Nat:=4000000
def Zl4 (i j:Int):Prop:=i.natAbs<2^Znc/\j.natAbs<2^Znc
noncomputable instance (i j:Int):Decidable (Zl4 i j):=by unfold Zl4;infer_instance
end L2
namespace Att
open PySem PySem.W PySem.Calls PyProof.Rows
end Att
namespace L2
open PySem PySem.Spec PyProof.Rows
section
end
noncomputable def okE (x:PV):Bool:=x.noX&&x.dat.canLay0&&decide (x.dat.depth<=60)
noncomputable def ZlN (K:W.Frag) (g:Bool->Bool):R2:=fun x y H Q=>∃p qs a vs,Rep K H (fun _=>True) p x/\y=.ref a/\(SqL K H a vs\/SqT K H a vs)/\Reps K H (fun _=>True) qs vs/\okE p=true/\(qs.all okE)=true/\Q (.bl (g (qs.any fun q=>PyData.eqv q.dat p.dat))) H
open Classical in
noncomputable def Zeg (h:Heap) (dx:PyData) (y:Value):Bool:=if hy:∃d as,Reads h y d as/\d.canLay0=true/\d.depth<=60 then PyData.eqv hy.choose dx else false
section
variable {X:Cx}{K:W.Frag}
theorem Zbg {H:Hp}{pins:List (Addr×Obj)}{σ:St}{s:Shared}{S:Addr->Prop} (I:Inv X pins σ H s) (dx:PyData):∀{qs:List PV}{vs:List V}{us:List Value},Reps X.K H S qs vs->ZQ vs us->(qs.all okE)=true ->
  (us.any (Zeg s.heap dx)=qs.any fun q=>PyData.eqv q.dat dx)/\∀y∈us,∃d as,Reads s.heap y d as/\d.canLay0=true/\d.depth<=60
 |[],_,us,h,r,_=>by
  rw[h] at r;cases r
  exact⟨rfl,by simp⟩
 |q::qs,_,us,h,r,hk=>by
  obtain⟨v,vs,rfl,h1,h2⟩:=h
  simp only[List.all_cons,Bool.and_eq_true] at hk
  cases r with
  |cons r1 r2 =>
   rename_i u us
   obtain⟨e1,e2⟩:=Zbg I dx h2 r2 hk.2
   have h3:=hk.1
   simp only[okE,Bool.and_eq_true,decide_eq_true_eq] at h3
   obtain⟨as,ra⟩:=h1.reads I h3.1.1 r1
   have hx:∃d as,Reads s.heap u d as/\d.canLay0=true/\d.depth<=60:=⟨_,_,ra,h3.1.2,h3.2⟩
   refine⟨?_,fun y hy=>?_⟩
   ·have:Zeg s.heap dx u=PyData.eqv q.dat dx:=by
     unfold Zeg
     rw[dif_pos hx]
     obtain⟨as',ra',c1,c2⟩:=hx.choose_spec
     rw[SeqAt.Reads.unique _ _ _ _ _ c1 ra' ra]
    rw[ZtJ,ZtJ,e1,this]
   ·rcases ZsZ.mp hy with rfl|hy
    ·exact hx
    ·exact e2 y hy
theorem ZkS {H:Hp}{pins:List (Addr×Obj)}{σ:St}{s:Shared}{g:Bool->Bool}{x y:V}{v u:Value}{Q:VK} (I:Inv X pins σ H s) (hu:X.A.units+64<cLine) (rx:Ja x v) (ry:Ja y u) (h:ZlN X.K g x y H Q) :
  ∃a items,u=.ref a/\(s.heap.IsList a items\/s.heap.IsTuple a items)/\∃e:Value->Bool,(∀y,y∈items->SeqAt.EqAt X.A.in1 s y v (e y))/\Q (.bl (g (items.any e))) H:=by
 obtain⟨p,qs,a,vs,h1,rfl,hq,hr,h3,h4,q⟩:=h
 cases ry
 simp only[okE,Bool.and_eq_true,decide_eq_true_eq] at h3
 obtain⟨as,ra⟩:=h1.reads I h3.1.1 rx
 have fin:∀its:List Value,ZQ vs its->(∀y,y∈its.toArray->SeqAt.EqAt X.A.in1 s y v (Zeg s.heap p.dat y))/\Q (.bl (g (its.toArray.any (Zeg s.heap p.dat)))) H:=fun its rv=>by
  obtain⟨e1,e2⟩:=Zbg I p.dat hr rv h4
  refine⟨fun y hy=>?_, ?_⟩
  ·have hx:=e2 y (by simpa using hy)
   unfold Zeg
   rw[dif_pos hx]
   obtain⟨as',ra',c1,c2⟩:=hx.choose_spec
   refine SeqAt.eqAt_reads _ _ _ _ _ _ _ _ ra' ra c1 h3.1.2 ?_
   have:=Nat.min_le_left hx.choose.depth p.dat.depth
   have hin:X.A.in1.units<=X.A.units+1:=by simp[Around.in1]
   omega
  ·rw[List.any_toArray,e1];exact q
 rcases hq with hq|hq
 ·obtain⟨its,rv,pl,hz⟩:=I.list hq
  obtain⟨f1,f2⟩:=fin its rv
  exact⟨a,its.toArray,rfl,.inl pl.isList,_,f1,f2⟩
 ·obtain⟨its,rv,pl,hz⟩:=I.tuple hq
  obtain⟨f1,f2⟩:=fin its rv
  exact⟨a,its.toArray,rfl,.inr pl,_,f1,f2⟩
theorem Zk9 (hu:X.A.units+64<cLine) (e:X.K=K:=by rfl):OpR X (compareOp .In) (ZlN K id):=by
 subst e
 intro pins s σ H x y v u Q I rx ry h
 obtain⟨a,items,rfl,hl,e,he,q⟩:=ZkS I hu rx ry h
 rcases hl with hl|hl
 ·exact SeqAt.in_listAt e hl he ⟨.bl _,H,I,rfl,q⟩
 ·exact SeqAt.in_tupleAt e hl he ⟨.bl _,H,I,rfl,q⟩
end
noncomputable def ZjI (g:Bool->Bool) (x y:PV):Rr PV:=match y with
 |.lst ys=>if (okE x&&ys.all okE)=true then .ok (.bl (g (ys.any fun q=>PyData.eqv q.dat x.dat))) else .bad
 |.tup ys=>if (okE x&&ys.all okE)=true then .ok (.bl (g (ys.any fun q=>PyData.eqv q.dat x.dat))) else .bad
 |_=>.bad
section
variable {K:W.Frag}{EX:PX->Hp->Prop}{Γ Γ1 Γ2:List Md}{tb tc:TE}{fb fc:List PV->Rr PV}
theorem Zlj {g:Bool->Bool} (ha:DE K EX Γ Γ1 .A tb fb) (hb:DE K EX Γ1 Γ2 .A tc fc):DE K EX Γ Γ2 .P (tOp (ZlN K g) tb tc) (fun ρ=>(fb ρ).bind fun x=>(fc ρ).bind fun y=>ZjI g x y):=by
 refine Zh7 (fun {H x y v w Q} rx ry ⟨z,e,q⟩=>?_) (fun x y z h=>?_) (fun x y e h=>?_) ha hb
 ·unfold ZjI at e
  split at e
  ·split at e
   ·rename_i ys hk
    cases e
    rw[Bool.and_eq_true] at hk
    obtain⟨a,vs,rfl,hn,hr⟩:=ry
    exact⟨x,_,a,vs,rx,rfl,.inl (JN (S:=fun _=>True) hn),hr,hk.1,hk.2,q rfl _ rfl⟩
   ·cases e
  ·split at e
   ·rename_i ys hk
    cases e
    rw[Bool.and_eq_true] at hk
    obtain⟨a,vs,rfl,hn,hr⟩:=ry
    exact⟨x,_,a,vs,rx,rfl,.inr hn.sqT,hr,hk.1,hk.2,q rfl _ rfl⟩
   ·cases e
  ·cases e
 ·unfold ZjI at h
  split at h
  ·split at h<;>cases h;rfl
  ·split at h<;>cases h;rfl
  ·cases h
 ·unfold ZjI at h
  split at h
  ·split at h<;>cases h
  ·split at h<;>cases h
  ·cases h
end
section
end
theorem okE_str {x:Str} (h:PyData.canLay0 (.str x)=true):okE (.str x)=true:=by simp[okE,PV.noX,PV.dat,PyData.depth,h]
section
end
theorem Zk2 {x y z:PV}{xs:List PV}:pIx (.tup (x::y::z::xs)) (.int 2)=.ok z:=by
 have:atI (x::y::z::xs) 2=some z:=by unfold atI;rw[Zdi (by omega) (by simp only[Ztj];omega)];rfl
 simp only[pIx,this]
section
end
theorem VU {xs:List PV}:Zie [.lst xs]=.ok (.int xs.length):=by simp[Zie]
section
end
structure Dat (n:Nat) (x:PV):Prop where
 nx:x.noX=true
 can:x.dat.canLay0=true
 dep:x.dat.depth<=n
theorem Dat.ok {n:Nat}{x:PV} (h:Dat n x) (hn:n<=64:=by decide):okD x=true:=by
 unfold okD
 rw[h.nx,h.can,decide_eq_true (Ztr h.dep hn)];rfl
theorem Zj2 (i:Int):Dat 0 (.int i):=⟨rfl,by simp[PV.dat,PyData.canLay0],by simp[PV.dat,PyData.depth]⟩
theorem Zax {n:Nat}:∀{xs:List PV},(∀x∈xs,Dat n x)->PV.noXs xs=true/\PyData.canLayAll0 (PV.dats xs)=true/\PyData.depthAll (PV.dats xs)<=n
 |[],_=>⟨rfl,rfl,ZtF _⟩
 |x::xs,h=>by
  obtain⟨h1,h2,h3⟩:=Zax (xs:=xs) fun y hy=>h y (by simp[hy])
  have hx:=h x (by simp)
  refine⟨by simp[PV.noXs,hx.nx,h1],by simp[PV.dats,PyData.canLayAll0,hx.can,h2], ?_⟩
  simp only[PV.dats,PyData.depthAll]
  exact Nat.max_le.mpr ⟨hx.dep,h3⟩
theorem Zj1 {n:Nat}{xs:List PV} (h:∀x∈xs,Dat n x):Dat (n+1) (.lst xs):=by
 obtain⟨h1,h2,h3⟩:=Zax h
 exact⟨by simp[PV.noX,h1],by simp[PV.dat,PyData.canLay0,h2],by simp only[PV.dat,PyData.depth];omega⟩
theorem Zjz {n:Nat}{xs:List PV} (h:∀x∈xs,Dat n x):Dat (n+1) (.tup xs):=by
 obtain⟨h1,h2,h3⟩:=Zax h
 exact⟨by simp[PV.noX,h1],by simp[PV.dat,PyData.canLay0,h2],by simp only[PV.dat,PyData.depth];omega⟩
theorem Zj0 {a:Str} (h:PyData.canLay0 (.str a)=true):Dat 0 (.str a):=⟨rfl,h,by simp[PV.dat,PyData.depth]⟩
theorem Zhy {f:PV->Rr (Option PV)}{p:Nat->Bool}{g:Nat->PV}{lo:Int}{n:Nat} (h:∀i,i<n->f (.int (lo+(i:Nat)))=.ok (if p i=true then some (g i) else none)):ZfK f (Zb8 lo n)=.ok (((List.range n).filter p).map g):=by
 have key:∀(l:List Nat),(∀i∈l,i<n)->ZfK f (l.map fun(i:Nat)=>PV.int (lo+i))=.ok ((l.filter p).map g):=by
  intro l
  induction l with
  |nil=>intro _;rfl
  |cons a l ih =>
   intro hl
   simp only[Ztc,ZfK,h a (hl a (by simp)),Rr.bind_ok,ih fun i hi=>hl i (by simp[hi])]
   cases hp:p a<;>simp[hp,List.filter_cons]
 exact key _ fun i hi=>ZtC.mp hi
theorem Zmb {α:Type}{f:PV->Rr PV}{q:α->PV}{g:α->Int}{L:List α} (h:∀x∈L,f (q x)=.ok (.int (g x))):Zb0 f (L.map q)=.ok ((L.map g).map PV.int):=by
 induction L with
 |nil=>rfl
 |cons n ns ih =>
  simp only[Ztc,Zb0,h n (by simp),Rr.bind_ok,ih fun z hz=>h z (by simp[hz])]
theorem ZkG {α:Type}{f:PV->Rr PV}{q g:α->PV}{L:List α} (h:∀x∈L,f (q x)=.ok (g x)):Zb0 f (L.map q)=.ok (L.map g):=by
 induction L with
 |nil=>rfl
 |cons n ns ih =>
  simp only[Ztc,Zb0,h n (by simp),Rr.bind_ok,ih fun z hz=>h z (by simp[hz])]
noncomputable def ZgT (xs:List PV):Rr PV:=match xs with
 |[.int i,.int j]=>.ok (.int (if j<i then j else i))
 |_=>.bad
theorem ZgS {i j:Int}:ZgT [.int i,.int j]=.ok (.int (if j<i then j else i)):=rfl
section
variable {K:W.Frag}{EX:PX->Hp->Prop}{Γ Γ':List Md}{ta:TA}{fa:List PV->Rr (List PV)}
theorem Zjw (ha:DAA K EX Γ Γ' ta fa):DE K EX Γ Γ' .P (tCB (fun xs H Q=>∃i j,xs=[.int i,.int j]/\Q (.int (if j<i then j else i)) H) ta) (fun ρ=>(fa ρ).bind ZgT):=by
 refine ZfX (fun {H xs vs Q} h z e=>?_) (fun xs e h=>?_) ha
 ·unfold ZgT at e
  split at e<;>first|(cases e;done)|skip
  cases e
  obtain⟨v,w,rfl,h1,h2⟩:=ZiH h
  cases h1;cases h2
  exact⟨rfl,fun q=>⟨_,_,rfl,q _ rfl⟩⟩
 ·unfold ZgT at h;split at h<;>cases h
end
theorem us1 {α:Type}{us:List α} (h:us.length=1):∃a,us=[a]:=match us,h with | [a],_=>⟨a,rfl⟩
theorem us2 {α:Type}{us:List α} (h:us.length=2):∃a b,us=[a,b]:=match us,h with | [a,b],_=>⟨a,b,rfl⟩
theorem us3 {α:Type}{us:List α} (h:us.length=3):∃a b c,us=[a,b,c]:=match us,h with | [a,b,c],_=>⟨a,b,c,rfl⟩
section
end
noncomputable abbrev PL2:=Addr×List Int
section
variable {K:W.Frag}{B:Addr->Prop}{EX:PX->Hp->Prop}{H0 H:Hp}{σ:St}{Γ Γ1 Γ2:List Md}{ρ:List PV}{F:Nat->List Addr}{R:List Addr}{te tb:TE}{fb:List PV->Rr PV}
theorem Zc2:∀{xs:List PV}{vs:List V}{G:List Addr}{n:Nat}{z:PV},Trees K H xs vs G->xs[n]?=some z->∃u G',vs[n]?=some u/\ZV K H z u G'/\∀a∈G',a∈G
 |[],_,_,n,z,_,e=>by simp at e
 |x::xs,vs,G,n,z,h,e=>by
  obtain⟨v,r,G1,G2,rfl,h1,h2,h3,rfl⟩:=h
  cases n with
  |zero=>simp at e;subst e;exact⟨v,G1,by simp,h1,fun a ha=>ZsU _ ha⟩
  |succ n =>
   obtain⟨u,G',e1,e2,e3⟩:=Zc2 (n:=n) h2 (by simpa using e)
   exact⟨u,G',by simpa using e1,e2,fun a ha=>ZsT _ (e3 a ha)⟩
theorem Zc1:∀{xs:List PV}{vs:List V}{G:List Addr},Trees K H xs vs G->vs.length=xs.length
 |[],_,_,h=>by rw[h.1];rfl
 |x::xs,vs,G,h=>by
  obtain⟨v,r,G1,G2,rfl,h1,h2,h3,rfl⟩:=h
  simp[Zc1 h2]
theorem Zg7 {xs:List PV}{vs:List V}{G:List Addr}{i:Int}{z:PV} (h:Trees K H xs vs G) (e:atI xs i=some z):∃u G',atI vs i=some u/\ZV K H z u G'/\∀a∈G',a∈G:=by
 unfold atI at e ⊢
 rw[Zc1 h]
 cases hk:ixN xs.length i with
 |none=>rw[hk] at e;cases e
 |some k =>
  rw[hk] at e
  obtain⟨u,G',e1,e2,e3⟩:=Zc2 (n:=k) h e
  exact⟨u,G',e1,e2,e3⟩
noncomputable def Zl8 (x y:PV):Rr PV:=match x,y with
 |.tup xs,.int i=>match atI xs i with
  |some z=>.ok z
  |none=>.bad
 |_,_=>.bad
theorem Zli {te ta':TE}{fa':List PV->Rr PV} (ha:DE K EX Γ Γ1 .F ta' fa') (hb:DE K EX Γ1 Γ2 .A tb fb):DE K EX Γ Γ2 .F (tOp (rIx K) ta' tb) (fun ρ=>(fa' ρ).bind fun x=>(fb ρ).bind fun y=>Zl8 x y):=fun B H0 H σ ρ F R Q A d=>by
 refine ha B H0 H σ ρ F R _ A (d.bind.imp (fun x _ d v H1 s1 r1=>?_) fun e q=>q)
 obtain⟨F1,f1,G,t1,o1,A1⟩:=r1
 refine hb B H0 H1 σ ρ F1 (G++R) _ A1 (d.bind.imp (fun y _ d w H2 s2 r2=>?_) fun e q=>q)
 obtain⟨F2,f2,p2,A2⟩:=r2
 cases x with
 |tup xs =>
  cases y with
  |int i =>
   cases p2
   have t2:=t1.same s2
   obtain⟨a,vs,rfl,hq,ht⟩:=t2
   unfold Zl8 at d
   cases e1:atI xs i with
   |none=>simp only[e1] at d;exact d.elim
   |some z =>
    simp only[e1] at d
    obtain⟨u,G',e2,e3,e4⟩:=Zg7 ht e1
    exact .inr (.inl ⟨a,vs,i,u,rfl,rfl,hq.sqT,e2,d u H2 (s1.trans s2) ⟨F2,fun i a h=>f1 i a (f2 i a h),G',e3,fun b hb=>o1 b (e4 b hb),A2.less fun b hb=>by
     rcases ZsW.mp hb with z|z
     ·exact ZsU _ (e4 b z)
     ·exact ZsT _ z⟩⟩)
  |_=>exact d.elim
 |_=>exact d.elim
theorem Zk3 {x:PV}{xs:List PV}:Zl8 (.tup (x::xs)) (.int 0)=.ok x:=by simp[Zl8,atI,ixN]
end
noncomputable def minus (H:Hp) (G:List Addr):Hp:=fun a=>if a∈G then none else H a
theorem Zdb {H:Hp}{G:List Addr}{a:Addr} (h:a∈G):minus H G a=none:=if_pos h
theorem Zy {H:Hp}{G:List Addr}{a:Addr} (h:a ∉ G):minus H G a=H a:=if_neg h
theorem ZdR {H:Hp}{G:List Addr}:Z0 (minus H G) H:=fun a o h=>by
 unfold minus at h
 split at h
 ·cases h
 ·exact h
theorem Rd.minus {H:Hp}{G:List Addr}{a:Addr}{u:HO} (h:Rd H a u) (n:a ∉ G):Rd (minus H G) a u:=by
 rcases h with h|⟨o,h⟩
 ·exact .inl (by rw[Zy n];exact h)
 ·exact .inr ⟨o,by rw[Zy n];exact h⟩
theorem Im.minus {K:W.Frag}{H:Hp}{G:List Addr}{a:Addr}{k:HO} (hG:∀b∈G,∃vs:LvO,H b=some vs.1) (h:Im K H a k):Im K (minus H G) a k:=by
 refine⟨?_,h.2⟩
 rw[Zy fun z=>?_]
 ·exact h.1
 ·obtain⟨vs,q⟩:=hG a z
  exact UE vs.2 h.2 (by rw[h.1] at q;exact Option.some.inj q)
section
variable {K:W.Frag}{B:Addr->Prop}{H0 H H':Hp}{σ:St}{Γ:List Md}{ρ:List PV}{F:Nat->List Addr}
theorem Ag.lost {G:List Addr} (A:Ag K B H0 H σ Γ ρ F (G++[])) (s:Z0 (minus H G) H'):Ag K B H0 H' σ Γ ρ F []:=by
 have hG:∀b∈G,∃vs:LvO,H b=some vs.1:=fun b hb=>A.liveR b (by simp[hb])
 refine⟨fun a o h=>s a o ?_,A.own,A.young,by simp,fun i a ha=>?_,by simp,A.disj,by simp,A.lenS,A.lenR,fun i=>?_⟩
 ·rw[Zy (fun z=>by have:=A.youngR a (by simp[z]);rw[h] at this;cases this)]
  exact A.same a o h
 ·obtain⟨vs,q⟩:=A.live i a ha
  exact⟨vs,s _ _ (by rw[Zy (fun z=>A.disjR i a ha (by simp[z]))];exact q)⟩
 ·refine(A.slot i).mono (fun a vs n r=>⟨(r.minus (fun z=>n.2.1 (by simp[z]))).same s,n.1,by simp,n.2.2⟩) (fun a vs r=>s.im (r.minus hG)) fun a ha vs q=>s _ _ (by rw[Zy (fun z=>A.disjR i a ha (by simp[z]))];exact q)
end
noncomputable def frz (m:Md):Md:=if m=.O\/m=.T then .S else m
section
variable {K:W.Frag}{B:Addr->Prop}{H0 H:Hp}{σ:St}{Γ:List Md}{ρ:List PV}{F:Nat->List Addr}{R:List Addr}
theorem Ag.freezeAll (A:Ag K B H0 H σ Γ ρ F R):Ag K B H0 H σ (Γ.map frz) ρ (fun _=>[]) R:=by
 refine⟨A.same,A.own,by simp,A.youngR,by simp,A.liveR,by simp,by simp,by simp[A.lenS],by simp[A.lenR],fun i=>?_⟩
 have sl:=A.slot i
 have e:(Γ.map frz).getD i .U=frz (Γ.getD i .U):=by
  rw[ZsQ,ZsQ,Ztb]
  cases Γ[i]?<;>rfl
 rw[e]
 have up:∀{a},NO B F R a->NO B (fun _=>[]) R a:=fun {a} s=>⟨s.1,s.2.1,by simp⟩
 have ow:∀a∈F i,NO B (fun _=>[]) R a:=fun a ha=>⟨A.own a (A.young i a ha),A.disjR i a ha,by simp⟩
 cases hm:Γ.getD i .U with
 |U=>exact rfl
 |P=>rw[hm] at sl;exact⟨rfl,sl.2⟩
 |S =>
  rw[hm] at sl
  obtain⟨_,v,h1,h2⟩:=sl
  exact⟨rfl,v,h1,Rep.mono (fun a vs s r=>⟨r,up s⟩) (fun a vs r=>r) h2⟩
 |T =>
  rw[hm] at sl
  obtain⟨a,vs,xs,h1,h2,h3,h4,h5⟩:=sl
  refine⟨rfl,.ref a,h1, ?_⟩
  rw[h2]
  exact⟨a,vs,rfl,.inl ⟨.inl h3,ow a (by rw[h5];simp)⟩,Reps.mono (fun a vs s r=>⟨r,up s⟩) (fun a vs r=>r) h4⟩
 |O =>
  rw[hm] at sl
  obtain⟨v,h1,h2⟩:=sl
  exact⟨rfl,v,h1,h2.rep ow⟩
end
end L2
namespace HL
open PySem PyProof.Rows
section
open PySem.SeqAt
open PySem.AutoSeq1 (wpAny_loadPart')
open PySem.MeetsSeq PySem.MeetsSeq2 PySem.MeetsSeq3 SeqRoads2
end
section
end
end HL
namespace L2
open PySem PySem.Spec PyProof.Rows
section
end
def G0 (K:W.Frag) (B:Addr->Prop) (H0 H:Hp) (σ:St) (Γb:List Md) (ρ:List PV) (L v:Nat) (a:Addr) (vs:List V) (xs:List PV) (G Gx:List Addr):Prop:=
 Ag K B H0 H σ Γb ρ (fun _=>[]) (a::(G++Gx))/\σ[L]?=some (some (.ref a))/\gv L ρ=.lst xs/\H a=some (.lst vs)/\Trees K H xs vs G/\a ∉ G/\∃w,σ[v]?=some (some w)/\vs[0]?=some w/\xs[0]?=some (gv v ρ)
section
end
structure CkC (N:List Str) (sc scope:Scope) (x:Str):Prop where
 one:((scope.names.filter fun p=>p.2==.cell).map fun p=>p.1)=[x]
 kind:scope.kind=.function
 locs:∀p∈scope.names,p.2=.local->scope.names.lookup p.1=some .local
 var:scope.names.lookup x=some .cell
 nd:(N.map (Zba [x])++[x]).Nodup
 noN:∀y∈N,y ∉ [x]->scope.names.lookup y≠some .local/\scope.names.lookup y≠some .cell
 noE:scope.names.lookup (Str.ofString "")=none
 fr:∀p∈scope.names,p.2=.free->sc.names.lookup p.1=some .cell\/sc.names.lookup p.1=some .free
section
end
theorem Zds {α β:Type}{f:α->Rr β}:∀{xs:List α},ZfK (fun x=>(f x).bind fun y=>.ok (some y)) xs=Zb0 f xs
 |[]=>rfl
 |x::xs=>by
  simp only[ZfK,Zb0,Rr.assoc,Zds (xs:=xs),Rr.bind_ok,Option.toList,List.singleton_append]
section
variable {K:W.Frag}{EX:PX->Hp->Prop}{Γ Γ1:List Md}{te:TE}{fe:List PV->Rr PV}
theorem Ua {wi:TI}{fi:List PV->Rr (List PV)} (hi:DIc K EX Γ Γ1 wi fi) (he:DE K EX (Γ1++[.S]) (Γ1++[.S]) .F te fe) :
  DE K EX Γ Γ1 .F (QK wi tB1 ZjX te) (fun ρ=>(fi ρ).bind fun xs=>(lenM xs).bind fun _=>(Zb0 (fun x=>fe (ρ++[x])) xs).bind fun ys=>.ok (.lst ys)):=by
 have h:=Zd1 (k:=1) hi ZmU Zld he
 simp only[Rr.bind_ok,if_true,Zds] at h
 exact h
variable {X:Cx}{scope:Scope}{x y:Str}{elt iter:Expr}{pos px py spos:Pos}{wi:TI}{i:Nat}
theorem Zak (hi:PI X (.Name x px) iter wi) (he:∀C s₂ H₂ ex,PE (Ue X scope [x] C ex s₂ H₂) elt te) (hNd:X.N.Nodup) (hc:X.calm=true)
  (hclos:closureFor scope X.env=pure (Zge scope X.env):=by rfl) (hchk:Va X.N X.env.scope scope [x]=true:=by rfl) (hs:∀x,foldedSetIterable iter X.env x=pure x:=by exact fun _=>rfl) :
  PE X (.ListComp elt [⟨.Name x px,iter,[],0⟩] scope pos) (QK wi tB1 ZjX te):=ZgM hi (ZbI hNd hchk) (fun _ _ _ _=>Zic) he hv1 hNd hc hclos hchk hs
theorem UW (hN:X.N.Nodup) (hi:X.N[i]?=some y) (hit:PI X (.Name x px) iter wi) (he:∀C s₂ H₂ ex,PE (Ue X scope [x] C ex s₂ H₂) elt te) (hc:X.calm=true)
  (hsw:swapsWith (.ListComp elt [⟨.Name x px,iter,[],0⟩] scope pos) (some (.Name y py)) spos.line X.env=pure true:=by rfl) (hy:X.env.scope.names.lookup y=some .local:=by rfl)
  (hclos:closureFor scope X.env=pure (Zge scope X.env):=by rfl) (hchk:Va X.N X.env.scope scope [x]=true:=by rfl) (hs:∀x,foldedSetIterable iter X.env x=pure x:=by exact fun _=>rfl) :
  PS X (.Assign [.Name y py] (.ListComp elt [⟨.Name x px,iter,[],0⟩] scope pos) spos) (UO i wi tB1 ZjX te):=UX hN hi hit (ZbI hN hchk) (fun _ _ _ _=>Zic) he hv1 hc hsw hy hclos hchk hs
end
section
open Builtin Builtin.Str
end
section
variable {prog:Program}{w:World}{A:Around}{E:Value->Shared->Prop}{h:Heap}{g:Array GenState}{d:Drawn}{t:Nat}{os:OsState}{nm q:Str}{C N:Addr}{bs bm bmB:List Value}{hdct:Bool}{sn:List Str}{sub:List Value}{ab:Bool}{col:Option Bool}{dd:Option Addr}{k0 k1 k2 k3 k5:Option Value}{B newId initId:String}
theorem ZdB (F:ExcBaseFacts B newId initId bmB) (T:OwnTail h bmB bm) {mN:Str->Option Value}{us:List Value}{fI:Addr}{oI:Obj}{Q:PySem.Fin->Shared->Prop}
  (kC:h.get? C=some (excClassObj nm q C N bs bm hdct sn sub ab col dd k0 k1 k2 k3 k5 newId)) (kN:h.Ns N mN) (ki:mN "__init__"=some (.ref fI)) (kI:h.get? fI=some oI) (kc:oI.cls=.type "function")
  (go:∀h' e,Heap.MadeExcOf h h' e (.ref C) us->wpAny (model prog w) A (call (.ref fI) (.ref e::us)) (fun r s'=>r=.none/\Q (.done (.ret (.ref e))) s') E ⟨h',g,d,t,os⟩) (hz:us.length<=sizeLine) :
  wpAny (model prog w) A (Builtin.«type.__call__» ⟨.ref C::us,[]⟩) Q E ⟨h,g,d,t,os⟩:=by
 repeat (first|with_reducible refine wpAny_loadPart_at kC ?_|with_reducible refine wpAny_madeBy_exc kC ?_|wp_step)
 refine codeAny_call_builtin_code (Code.quiet_builtin _ F.quiet) (wpAny_check_new_subT F T kC (codeAny_exc_new_subT F T kC ?_ hz))
 show wpAny _ _ _ _ _ _
 generalize eo1:({ cls:=.type "tuple",data:=.seq us.toArray }:Obj)=o1
 generalize eo2:({ cls:=.ref C,data:=.fields #[.ref h.objs.size,.none,.none,.none,.bool false,.none] }:Obj)=o2
 have up:∀b o,h.get? b=some o->((h.push o1).push o2).get? b=some o:=fun b o e=>Heap.get?_push_of_some _ (Heap.get?_push_of_some _ e)
 have gC:=up _ _ kC
 have gI:=up _ _ kI
 have gN:((h.push o1).push o2).Ns N mN:=kN.keeps up
 have gT:=T.keeps up
 have ge:((h.push o1).push o2).get? (h.objs.size+1)=some o2:=by subst eo1 eo2;heap_get
 have gm:(Value.ref C::bm).contains (.ref C)=true:=by simp
 have c2:o2.cls=.ref C:=by subst eo2;rfl
 unfold isInstance
 repeat (first|(with_reducible refine wpAny_loadPart_at ge ?_;rw[c2])|(with_reducible refine wpAny_isSubtype_exc gC ?_;rw[gm])|wp_step)
 show wpAny _ _ (typeLookup (.ref C) _) _ _ _
 refine wpAny_typeLookup_tail gC gN gT F.mroIs F.init.lookup ?_
 rw[ki]
 refine wpAny_holding (wpAny_bind ?_)
 unfold bindSpecial
 refine wpAny_bind (wpAny_typeOf (T := "function") ⟨_,gI,kc⟩ ?_)
 rw[if_pos (by decide)]
 refine wpAny_pure (wpAny_bind (wpAny_mono (go _ (h.objs.size+1) ⟨up,Heap.get?_none_of_le (Zue _),h.objs.size,by rw[ge];exact congrArg some eo2.symm,Heap.get?_none_of_le (ZsV _), ?_⟩) (fun r s' hr=>?_) fun _ _ x=>x))
 ·rw[<- eo1] at *
  exact Heap.get?_push_of_some _ (Heap.get?_push_at rfl rfl)
 ·obtain⟨rfl,hQ⟩:=hr
  wp_walk
  exact hQ
theorem Zei (F:ExcBaseFacts B newId initId bmB) (T:OwnTail h bmB bm) {mN:Str->Option Value}{us:List Value}{fI:Addr}{oI:Obj}{Q:Value->Shared->Prop}
  (kC:h.get? C=some (excClassObj nm q C N bs bm hdct sn sub ab col dd k0 k1 k2 k3 k5 newId)) (kN:h.Ns N mN) (ki:mN "__init__"=some (.ref fI)) (kI:h.get? fI=some oI) (kc:oI.cls=.type "function")
  (go:∀h' e,Heap.MadeExcOf h h' e (.ref C) us->wpAny (model prog w) (A.under (.builtin "type.__call__" ⟨.ref C::us,[]⟩)) (call (.ref fI) (.ref e::us)) (fun r s'=>r=.none/\Q (.ref e) s') E ⟨h',g,d,t,os⟩) (hz:us.length<=sizeLine) :
  wpAny (model prog w) A (call (.ref C) us) Q E ⟨h,g,d,t,os⟩:=by
 have l1:=tc_lookup
 have l2:=tc_bind (.ref C)
 have lT:(⟨h,g,d,t,os⟩:Shared).TypeIs (.ref C) "type":=⟨_,kC,rfl⟩
 refine wpAny_call (codeAny_of_tree ?_)
 show wpAny _ _ (callAny (.ref C) _) _ _ _
 repeat (any_goals (first|assumption|with_reducible refine wpAny_loadPart_at kC ?_|wp_step))
 exact⟨rfl,codeAny_call_builtin_at (Code.quiet_builtin _ (by decide +kernel)) entry_typeCall (wpAny_check_type_call_sub kC (ZdB F T kC kN ki kI kc (fun h' e hm=>go h' e hm) hz))⟩
end
section
variable {M:Model}{A:Around}{E:Value->Shared->Prop}{env:Env}
variable {nm q:Str}{C N:Addr}{bs bm:List Value}{hdct:Bool}{sn:List Str}{sub:List Value}{ab:Bool}{col:Option Bool}{dd:Option Addr}{k0 k1 k2 k3 k5:Option Value}{newId:String}
noncomputable def Zbz (C t:Addr) (od:Option Addr):Obj:={ cls:=.ref C,dict:=od,data:=.fields #[.ref t,.none,.none,.none,.bool false,.none] }
theorem ZdK {s:Shared}{x:Sem Value}{Q:Flow->Shared->Prop} (hB:bm.contains (.type "BaseException")=true) (hh:A.handled=none)
  (go:wpAny M A x (fun v s₁=>∃e t od,v=.ref e/\s₁.heap.get? C=some (excClassObj nm q C N bs bm hdct sn sub ab col dd k0 k1 k2 k3 k5 newId)/\s₁.heap.get? e=some (Zbz C t od)/\E (.ref e) s₁) E s) :
  wpAny M A (raiseStmt env (some x) none) Q E s:=by
 have hm:(Value.ref C::bm).contains (.type "BaseException")=true:=by rw[List.contains_cons,hB,Bool.or_true]
 unfold raiseStmt
 refine wpAny_bind (wpAny_mono go (fun v s₁ h₁=>?_) fun _ _ x=>x)
 obtain⟨e,t,od,rfl,kC,ke,hE⟩:=h₁
 obtain⟨hp,g,d,tk,os⟩:=s₁
 unfold Zbz at ke
 repeat (first|with_reducible refine wpAny_loadPart_at ke ?_|with_reducible refine wpAny_loadPart_at kC ?_|(with_reducible refine wpAny_isSubtype_exc kC ?_;rw[hm])|wp_step)
 exact wpAny_raiseNew_none hh hE
end
noncomputable def Qf:List Value->Bool
 |.ref _::r=>Qf r
 |l=>l==Zi1
theorem Uv {l:List Value} (e:Qf l=true):(∃C r,l=.ref C::r/\Qf r=true)\/l=Zi1:=by
 unfold Qf at e
 split at e
 ·exact .inl ⟨_,_,rfl,e⟩
 ·exact .inr (by simpa using e)
theorem ZcC (self:Value):∀(n:Nat) {l:List Value},l.length<=n->Qf l=true->refuseLoop self "__setattr__" l=pure ()
 |n,l,hl,e=>by
  rcases Uv e with ⟨C,r,rfl,e'⟩|rfl
  ·cases n with
   |zero=>simp at hl
   |succ n=>rw[refuseLoop_ref];exact ZcC self n (by simpa using hl) e'
  ·exact PySem.F.store_ValueError.passes self
theorem ZkX:∀(n:Nat) {l:List Value},l.length<=n->Qf l=true->l.contains (.type "object")=true/\l.isEmpty=false
 |n,l,hl,e=>by
  rcases Uv e with ⟨C,r,rfl,e'⟩|rfl
  ·cases n with
   |zero=>simp at hl
   |succ n=>exact⟨by rw[List.contains_cons,(ZkX n (by simpa using hl) e').1,Bool.or_true],rfl⟩
  ·exact⟨by decide,rfl⟩
noncomputable def Zet (K:W.Frag) (C:Addr):Bool:=(PySem.W.clsIn K C).any fun cd=>Qf cd.mro
section
variable {prog:Program}{w:World}{A:Around}{E:Value->Shared->Prop}{R:Result->Shared->Prop}{s:Shared}{K:W.Frag}{x C t:Addr}
theorem Zfh {ox:Obj}{od:Option Obj}{name:Str}{tk:Tok}{v:Value}{r:Option Value} (X:K.In s.heap) (I:PySem.W.InstAt s.heap x ox C od) (hp:Zet K C=true) (ht:PySem.W.takerIn K C name=some r)
  (go:∀b,wpAny (model prog w) A.in1 (match r with|some a=>Builtin.ObjectAttr.setByDescriptor a (.ref x) v|none=>Builtin.ObjectAttr.storeInOwnDict (.ref x) (.ref C) (.str name tk) name v b)
   (fun fin s'=>match fin with|.done f=>R (.ok f) s'|.again c'=>c'.quiet=true/\codeAny (model prog w) A c' R s') (fun e s'=>R (.error e) s') s) :
  codeAny (model prog w) A (.call (.builtin "object.__setattr__") ⟨[.ref x,.str name tk,v],[]⟩) R s:=by
 have SO:=PySem.F.store_object
 obtain⟨cd,hc,ho⟩:=PySem.W.any_some hp
 obtain⟨h1,h2⟩:=ZkX _ (ZsV _) ho
 have isO:PySem.W.Looks (model prog w) s.heap (isInstance (.ref x) (.type "object")) true:=I.type.andThen (PySem.W.looks_mroIn X (by unfold PySem.W.mroIn;rw[hc,Option.bind_some,if_neg (by rw[h2];decide),h1]))
 refine codeAny_call_builtin SO.slot.plain SO.entry (@PySem.W.check_slot (model prog w) _ _ s "object.__setattr__" "object" "__setattr__" (.ref x) [.str name tk,v] [] _ SO.kind SO.split isO (SO.args (.ref x) (.str name tk) v) ?_)
 obtain⟨attr,ha,hr⟩:=Option.bind_eq_some_iff.mp ht
 have lm:PySem.W.Looks (model prog w) s.heap (mroOf (.ref C)) cd.mro:=(PySem.W.looks_clsIn X hc).andThen .now
 have lt:PySem.W.Looks (model prog w) s.heap (Builtin.ObjectAttr.storeTaker? attr) r:=by
  cases attr with
  |none=>cases hr;exact .now
  |some a =>
   obtain⟨b,hb,rfl⟩:=Zt4.mp hr
   refine(PySem.W.looks_takesIn X hb).andThen ?_
   cases b<;>exact .now
 rw[PySem.W.osa_eq,refuse_eq]
 refine wpAny_bind (wpAny_bind (I.type.here (wpAny_bind (lm.here ?_))))
 rw[ZcC _ _ (ZsV _) ho]
 exact wpAny_pure (wpAny_bind (I.type.here (wpAny_bind ((PySem.W.looks_findIn X ha).here (wpAny_bind (lt.here (go _)))))))
theorem Zg0 {name:Str}{v:Value}{Q:Unit->Shared->Prop} (X:K.In s.heap) (hx:s.heap.get? x=some (Zbz C t none))
  (hs:PySem.W.findIn K (.ref C) "__setattr__"=some (some (.builtin "object.__setattr__"))) (hp:Zet K C=true) (ht:PySem.W.takerIn K C name=some none) (hh:PySem.W.hasDictIn K C=true)
  (go:∀h' d tk,s.heap.objs.size<=d->h'.get? x=some (Zbz C t (some d))->h'.Ns1 d (fun y=>if y=name then some v else none)->(∀b o,b≠x->s.heap.get? b=some o->h'.get? b=some o)->Q () { s with heap:=h',toks:=tk }) :
  wpAny (model prog w) A (setAttr (.ref x) name v) Q E s:=by
 have J:PySem.W.InstAt s.heap x (Zbz C t none) C none:=⟨hx,rfl,rfl,trivial⟩
 refine PySem.W.set_plain X J hs (Zfh (s:={ s with toks:=s.toks+1 }) (r:=none) X J hp ht fun b=>?_)
 obtain⟨cd,hc,hd'⟩:=PySem.W.any_some hh
 have hx2:s.heap.get? x=some ⟨.ref C,none,.fields #[.ref t,.none,.none,.none,.bool false,.none],#[]⟩:=hx
 refine wpAny_bind (wpAny_pure (wpAny_bind (wpAny_bind (wpAny_loadPart hx2 (wpAny_bind (PySem.W.Looks.here (s:={ s with toks:=s.toks+1 }) (PySem.W.looks_clsIn X hc) ?_))))))
 rw[hd']
 show wpAny _ _ (if (!true || !typeHasDict (.ref C))=true then _ else _) _ _ _
 rw[if_neg (by simp[typeHasDict])]
 dsimp only
 generalize eo:({ cls:=.type "dict",data:=.dict #[] }:Obj)=oD
 have hn:x≠s.heap.objs.size:=Zti (Heap.lt_size hx)
 have hx1:(s.heap.push oD).get? x=some (Zbz C t none):=Heap.get?_push_of_some _ hx
 refine wpAny_bind (wpAny_alloc' (wpAny_bind (wpAny_update' hx1 (wpAny_pure ?_))))
 generalize eh:(s.heap.push oD).update x (fun o=>{ cls:=o.cls,dict:=some s.heap.objs.size,data:=o.data,slots:=o.slots })=h1
 have gx:h1.get? x=some (Zbz C t (some s.heap.objs.size)):=by subst eh;exact Heap.get?_update_self _ hx1 rfl
 have gd:h1.get? s.heap.objs.size=some oD:=by subst eh;exact(Heap.get?_update_ne _ _ _ _ hn.symm).trans (Heap.get?_push_at rfl (by rw[<- eo];rfl))
 have gN:h1.Ns s.heap.objs.size (fun _=>none):=by subst eo;exact⟨_,#[],_,gd,rfl,fun e he=>absurd he (by simp),fun _=>rfl⟩
 have gk:∀b o,b≠x->s.heap.get? b=some o->h1.get? b=some o:=fun b o nb q=>by subst eh;exact(Heap.get?_update_ne _ _ _ _ nb).trans (Heap.get?_push_of_some _ q)
 show wpAny _ _ (Builtin.ObjectAttr.storeInDict s.heap.objs.size (.str name s.toks) name v) _ _ _
 unfold Builtin.ObjectAttr.storeInDict Builtin.ObjectAttr.newKeyGuard
 refine wpAny_bind (wpAny_pure (wpAny_bind (wpAny_nsSet1 (s:={ s with heap:=h1,toks:=s.toks+1 }) (Heap.Ns1.of_empty gN) fun h' hn' hs'=>?_)))
 obtain⟨oE,es,ep,hoE,hdE,hcE⟩:=hn'.count (Within.cons name v Within.nil)
 refine wpAny_bind (wpAny_lookBehind hoE (by rw[hdE];exact pastItsLine_dict (Ztr hcE (by rw[Ztj,Zt3,sizeLine_eq];omega))) ?_)
 exact wpAny_pure (go h' s.heap.objs.size _ (ZsV _) ((hs'.2 x hn).trans gx) hn' fun b o nb q=>(hs'.2 b (Zti (Heap.lt_size q))).trans (gk b o nb q))
end
noncomputable def Qu (K:W.Frag) (C f:Addr):Bool:=match K.lookup C with
 |some ⟨.type "type",_,.cls cd,sl⟩=>(match cd.mro,sl.toList with
  |.ref C2::bm,[_,_,_,_,some (.builtin n),_]=>C2==C&&n == "ValueError.__new__" && !cd.hasDel&&PySem.W.tailIn K Zi1 bm&&PySem.W.nsOkIn K cd.ns&&PySem.W.nsIn K cd.ns "__init__" == some (some (.ref f))
  |_,_=>false)
 |_=>false
theorem ZkC {K:W.Frag}{h:Heap}{N:Addr}{m:Str->Option Value}{n:Str}{v:Value} (X:K.In h) (G:h.Ns N m) (e:PySem.W.nsIn K N n=some (some v)):m n=some v:=by
 obtain⟨o,es,ep,ho,hd,-,hf⟩:=G
 unfold PySem.W.nsIn at e
 split at e
 ·rename_i q
  have ho2:=X _ _ q
  rw[ho] at ho2
  cases ho2;cases hd
  split at e
  ·rename_i en hen
   cases e
   rw[<- hf];unfold nsFind findBy
   rw[<- Array.find?_toList,hen];rfl
  ·split at e<;>cases e
 ·cases e
theorem Zdt {K:W.Frag}{h₀:Heap}{C f:Addr} (X:K.In h₀) (e:Qu K C f=true) :
  ∃tl N nm qn bs hdct sn sub ab col dd k0 k1 k2 k3 k5 mN,h₀.get? C=some (excClassObj nm qn C N bs tl hdct sn sub ab col dd k0 k1 k2 k3 k5 "ValueError.__new__")/\h₀.Ns N mN/\mN "__init__"=some (.ref f)/\OwnTail h₀ Zi1 tl:=by
 unfold Qu at e
 split at e
 ·rename_i dd cd sl ho
  split at e
  ·rename_i C2 bm k0 k1 k2 k3 n k5 hm hs
   simp only[Bool.and_eq_true,beq_iff_eq,Bool.not_eq_true'] at e
   obtain⟨⟨⟨⟨⟨rfl,rfl⟩,hdel⟩,ht⟩,hok⟩,hni⟩:=e
   obtain⟨nm,bs,mro,ns,qn,hd,sn,sub,ab,col,del⟩:=cd
   dsimp only at hm hdel hok hni
   subst hm hdel
   obtain rfl:sl=#[k0,k1,k2,k3,some (.builtin "ValueError.__new__"),k5]:=by
    obtain⟨l⟩:=sl
    simp only at hs
    rw[hs]
   have N0:=Heap.Ns.of_isNs (PySem.W.isNs_of_in X hok)
   exact⟨bm,ns,nm,qn,bs,hd,sn,sub,ab,col,dd,k0,k1,k2,k3,k5,_,X _ _ ho,N0,ZkC X N0 hni,PySem.W.tail_of_in X ht⟩
  ·cases e
 ·cases e
section
variable {prog:Program}{w:World}{A:Around}{E:Value->Shared->Prop}{s:Shared}
variable {nm q:Str}{C N x t:Addr}{bs bm:List Value}{hdct:Bool}{sn:List Str}{sub:List Value}{ab:Bool}{col:Option Bool}{dd:Option Addr}{k0 k1 k2 k3 k5:Option Value}
theorem Zf8 {us:List Value}{Q:Value->Shared->Prop} (T:OwnTail s.heap Zi1 bm) (kC:s.heap.get? C=some (excClassObj nm q C N bs bm hdct sn sub ab col dd k0 k1 k2 k3 k5 "ValueError.__new__"))
  (hx:s.heap.get? x=some (Zbz C t none)) (hz:us.length<=sizeLine)
  (go:∀h' t',h'.get? x=some (Zbz C t' none)->(∀b o,b≠x->s.heap.get? b=some o->h'.get? b=some o)->Q .none { s with heap:=h' }) :
  wpAny (model prog w) A (call (.builtin "ValueError.__init__") (.ref x::us)) Q E s:=by
 have F:=PySem.F.excBase_ValueError
 obtain⟨h,g,d,tk,os⟩:=s
 have hx2:h.get? x=some { cls:=.ref C,data:=.fields #[.ref t,.none,.none,.none,.bool false,.none] }:=hx
 refine wpAny_call (codeAny_call_builtin F.init.plain F.initEntry (wpAny_check_init_subT F T kC hx2 rfl ?_))
 wp_walk
 have nx:x≠h.objs.size:=Zti (Heap.lt_size hx2)
 exact go _ h.objs.size (Heap.get?_update_self _ (Heap.get?_push_of_some _ hx2) rfl) fun b o nb e=>(Heap.get?_update_ne _ _ _ _ nb).trans (Heap.get?_push_of_some _ e)
end
def Zcu (C e:Addr):Heap->Prop:=fun h=>∃t,h.get? e=some (Zbz C t none)
def Zcv (C e d:Addr):Heap->Prop:=fun h=>∃t,h.get? e=some (Zbz C t (some d))
theorem Zio {P:Program}{w:World}{H:Hp}{h:Heap}{C e t:Addr} (q:h.get? e=some (Zbz C t none)):Jg P w H h e (.ext (Zcu C e)):=
 ⟨⟨t,q⟩,⟨_,q⟩,fun h1 h2 ⟨t',e'⟩ k=>⟨t',k _ e'⟩⟩
theorem ZkA {P:Program}{w:World}{H:Hp}{h:Heap}{C e d t:Addr} (q:h.get? e=some (Zbz C t (some d))):Jg P w H h e (.ext (Zcv C e d)):=
 ⟨⟨t,q⟩,⟨_,q⟩,fun h1 h2 ⟨t',e'⟩ k=>⟨t',k _ e'⟩⟩
noncomputable def ZaZ (K:W.Frag) (S:Addr):Bool:=(PySem.W.specialIn K (.ref S) "__getattribute__" == some (some (.builtin "type.__getattribute__")))&&PySem.W.readsIn K S (.type "type") &&
 (match PySem.W.findCls K (.ref S) (.type "type") "__init__" with|some (.val v)=>v==.builtin "ValueError.__init__" | _=>false)
theorem Zeb {K:W.Frag}{S:Addr} (h:ZaZ K S=true):PySem.W.specialIn K (.ref S) "__getattribute__"=some (some (.builtin "type.__getattribute__"))/\PySem.W.readsIn K S (.type "type")=true/\PySem.W.findCls K (.ref S) (.type "type") "__init__"=some (.val (.builtin "ValueError.__init__")):=by
 unfold ZaZ at h
 simp only[Bool.and_eq_true,beq_iff_eq] at h
 refine⟨h.1.1,h.1.2, ?_⟩
 have h2:=h.2
 split at h2
 ·rename_i v e
  rw[e,beq_iff_eq.mp h2]
 ·cases h2
theorem ZjU {H:Hp}{a:Addr}{o:HO} (h:H a=some o):upd H a o=H:=by
 funext b
 unfold upd
 by_cases z:b=a
 ·rw[if_pos z,z,h]
 ·rw[if_neg z]
noncomputable def ZhS (C:Addr) (ta:TA):TE:=fun σ H Q=>ta σ H fun vs H1=>∃e w,vs=[.ref e,.str w]/\H1 e=some (.ext (Zcu C e))/\Q .non H1
section
variable {X:Cx}{pl:Sem Bool}{x:Str}{S C f:Addr}{np apos pos:Pos}{e:Expr}{es:List Expr}{ta:TA}
theorem ZgJ (hq:Qu X.K C f=true) (hS:ZaZ X.K S=true) (hg:Gl X x) (hm:X.mg x=some (.ref S)) (ha:PA X (e::es) ta) (hdb:(x==("__debug__":Str))=false:=by decide)
  (ht:eval (.Call (.Attribute (.Name x np) "__init__" apos) (e::es) [] pos) X.env=(do
   let ov <- eval (.Name x np) X.env
   standAt apos.atName
   let (f,first) <- holding [ov] (getMethod ov "__init__" pl)
   callWith pos f first (backTo pos (starEach (e::es) X.env)) (backToKw pos (keywordEach [] X.env))):=by rfl)
  (he:starEach (e::es) X.env=(false,eval e X.env)::starEach es X.env:=by rfl) (hpl:(backTo pos (starEach es X.env)).any (·.1)=false:=by rfl) :
  PE X (.Call (.Attribute (.Name x np) "__init__" apos) (e::es) [] pos) (ZhS C ta):=by
 intro pins s σ H Q I h
 obtain⟨g1,g2,g3⟩:=Zeb hS
 refine PySem.W.methodCall_KW (pl:=pl) (Vp I hg hm ?_ hdb) ht
 refine PySem.W.method_cls I.kIn g1 (PySem.W.cls_value I.kIn g2 g3 rfl ?_)
 have I0:Inv X pins σ H { s with toks:=s.toks+1 }:=I.tok _
 refine PyProof.Rows.callWith_builtin1 (thn (ha pos pins _ σ H _ I0 h) fun us s1 ⟨vs,H1,I1,r,ex,wd,hv,hx,q⟩=>?_) he hpl
 subst hv
 obtain⟨t,ht'⟩:=(I1.hok _ _ hx).1
 obtain⟨tl,N,nm,qn,bs,hdct,sn,sub,ab,col,dd,k0,k1,k2,k3,k5,mN,hC,hN,hni,T⟩:=Zdt I1.kIn hq
 cases r with
 |cons r1 rr =>
  cases rr with
  |cons r2 rr =>
   cases rr
   obtain rfl:_=Value.ref ex:=r1
   refine Zf8 T hC ht' (by simp[sizeLine_eq]) fun h' t' e1 k=>⟨.non,H1, ?_,rfl,q⟩
   have J:=I1.write (x:=ex) (e:=ex) (o:=.ext (Zcu C ex)) (h':=h') (t':=s1.toks) (by rw[hx];exact True.intro) (.inl rfl) (fun b u nb z=>k b u nb z) ⟨_,e1⟩ (Zio e1)
   rw[ZjU hx] at J
   exact J
theorem Inv.trackO {pins:List (Addr×Obj)}{σ:St}{H:Hp}{s:Shared}{d:Addr}{o:HO} (I:Inv X pins σ H s) (hn:H d=none) (hL:d≠X.env.locals) (hC:∀x c,X.env.cells.lookup x=some c->c≠d) (hp:∀p∈X.pn++pins,p.1≠d) (h0:X.s₀.heap.get? d=none)
  (ho:Jg X.prog X.w (upd H d o) s.heap d o):Inv X pins σ (upd H d o) s:=by
 refine⟨I.ok,I.os,I.bare,⟨I.base.keep,I.base.slot,fun b u z n hx=>?_,I.base.there,fun b xs z=>?_,fun b u v z=>?_,fun b ps z=>?_⟩,I.loc,I.cell, ?_,fun x c z=>?_,fun p hq=>?_,fun b u z=>?_,I.len⟩
 ·rw[Zn (fun y=>by rw[y,h0] at z;cases z)];exact I.base.free b u z n hx
 ·have y:=I.base.tups b xs z
  rw[Zn (Zv y hn)];exact y
 ·have y:=I.base.frzs b u v z
  rw[Zn (Zv y hn)];exact y
 ·obtain⟨m,y⟩:=I.base.tbls b ps z
  exact⟨m,by rw[Zn (Zv y hn)];exact y⟩
 ·rw[Zn (Ne.symm hL)];exact I.free
 ·rw[Zn (hC x c z)];exact I.freeC x c z
 ·obtain⟨a,b,c,d',e⟩:=I.pin p hq
  exact⟨a,by rw[Zn (hp p hq)];exact b,c,d',e⟩
 ·by_cases hb:b=d
  ·subst hb
   rw[Zw] at z;cases z
   exact ho
  ·rw[Zn hb] at z
   exact(I.hok b u z).stay (fun c v _ y=>y) (fun c y=>by rw[Zn (Zv y hn)];exact y) fun c xs y=>by rw[Zn (Zv y hn)];exact y
noncomputable def ZgC (K:W.Frag) (C:Addr) (f:Str):Bool:=(PySem.W.findIn K (.ref C) "__setattr__" == some (some (.builtin "object.__setattr__")))&&Zet K C&&(PySem.W.takerIn K C f==some none)&&PySem.W.hasDictIn K C
noncomputable def Zkl (C:Addr) (f:Str) (ta tv:TE):TS:=fun D σ H=>tv σ H fun y H1=>ta σ H1 fun x H2=>∃e,x=.ref e/\H2 e=some (.ext (Zcu C e))/\∀d,H2 d=none->d≠e->D.nx σ (upd (upd H2 d (.xd [(f,y)])) e (.ext (Zcv C e d)))
theorem ZiK {fd:Str}{o value:Expr}{pos':Pos}{ta tv:TE} (hex:X.ex=[]) (hc:ZgC X.K C fd=true) (ha:PE X o ta) (hv:PE X value tv) (hs:swapsWith value (some (.Attribute o fd pos')) pos.line X.env=pure false:=by rfl):PS X (.Assign [.Attribute o fd pos'] value pos) (Zkl C fd ta tv):=by
 intro pins s σ H D I h
 simp only[ZgC,Bool.and_eq_true,beq_iff_eq] at hc
 obtain⟨⟨⟨c1,c2⟩,c3⟩,c4⟩:=hc
 refine plainObj_wpAny_Assign_Attribute (thn (hv pins s σ H _ I h) fun u s1 ⟨y,H1,I1,ry,q⟩=>thn (ha pins s1 σ H1 _ I1 q) fun ov s2 ⟨x,H2,I2,rx,e,ex,hx,q2⟩=>?_) hs
 subst ex
 obtain rfl:ov=Value.ref e:=rx
 obtain⟨t,ht⟩:=(I2.hok _ _ hx).1
 refine Zg0 I2.kIn ht c1 c2 c3 c4 fun h' d tk hd e1 n1 k=>?_
 have dn:H2 d=none:=I2.hok.fresh hd
 have ne:d≠e:=fun z=>by rw[z,hx] at dn;cases dn
 refine⟨σ,_, ?_,q2 d dn ne⟩
 have J:=I2.write (x:=e) (e:=e) (o:=.ext (Zcv C e d)) (h':=h') (t':=tk) (by rw[hx];exact True.intro) (.inl rfl) (fun b u nb z=>k b u nb z) ⟨_,e1⟩ (ZkA e1)
 have out:∀b o,s2.heap.get? b=some o->b≠d:=fun b o z y=>by
  have:=Heap.lt_size z
  rw[y] at this
  exact absurd hd (Nat.not_le.mpr this)
 have J2:=J.trackO (d:=d) (o:=.xd [(fd,y)]) (by rw[Zn ne];exact dn) (fun z=>by obtain⟨m,⟨o,_,_,ho,_⟩,_⟩:=I2.loc;exact out _ _ ho z.symm) (fun x c z=>by obtain⟨v,o,ho,_⟩:=I2.cell x c z;exact out _ _ ho)
  (fun p hp=>out _ _ (I2.pin p hp).1) (by
   cases z:X.s₀.heap.get? d with
   |none=>rfl
   |some o=>obtain⟨o',z'⟩:=I2.base.there d o z (by rw[hex];simp);exact absurd rfl (out _ _ z')) ⟨_,n1,fun g=>by
    show Za3 ([(fd,y)].lookup g) (if g=fd then some u else none)
    by_cases z:g=fd
    ·have hb:(g==fd)=true:=beq_iff_eq.mpr z
     simp only[Zt8,hb,if_pos z];exact ry
    ·have hb:(g==fd)=false:=beq_eq_false_iff_ne.mpr z
     simp only[Zt8,hb,if_neg z];exact trivial⟩
 rw[show upd (upd H2 d (.xd [(fd,y)])) e (.ext (Zcv C e d))=upd (upd H2 e (.ext (Zcv C e d))) d (.xd [(fd,y)]) by
  funext b;unfold upd
  by_cases z1:b=d
  ·subst z1;rw[if_neg ne,if_pos rfl,if_pos rfl]
  ·rw[if_neg z1,if_neg z1]]
 exact J2
end
noncomputable def Ze4 (C:Addr):Sp:=fun vs H Q _=>∃e wd i,vs=[.ref e,.str wd,i]/\H e=some (.ext (Zcu C e))/\∀d,H d=none->d≠e->Q .non (upd (upd H d (.xd [("at",i)])) e (.ext (Zcv C e d)))
section
variable {P:Program}{w:World}{K:W.Frag}{mg:Str->Option Value}{base:Heap}
theorem Zjn {qual:Str}{st:Stmt}{f C:Addr}{fd:FuncData}{k:Nat} (F:Fun K "__init__" qual st f fd) (S:Zu ["self", "words", "at"] ["self", "words", "at"] (Zd st))
  (hbody:∀(cdv:Value) (A:Around) (outer:List Env) (s:Shared) (H:Hp) (E:XK),V2 k (A.deeper (envOfC qual (Zd st) s.heap.objs.size f cdv)) ->
   PSs (U0 CX0 P w K mg base ["self", "words", "at"] qual (Zd st) f cdv A outer s H E).nox (Zo st) (ZlI (ZdD (ZhS C (Vk (Ut 0) (Vk (Ut 1) ZdC)))) (Zkl C "at" (Ut 0) (Ut 2)))) :
  Jk P w K mg base CX0 (k+1) f fd ["self", "words", "at"] (Ze4 C):=by
 refine F.ok S (fun vs H Q E ⟨e,wd,i,h,_⟩=>by rw[h];rfl) fun cdv A outer s H vs Q E hr ⟨e,wd,i,hv,hx,q⟩=>⟨_,hbody cdv A outer s H E hr, ?_⟩
 subst hv
 refine⟨.ref e,rfl,.str wd,rfl,e,wd,rfl,hx,i,rfl,.ref e,rfl,e,rfl,hx,fun d dn ne=>q d dn ne⟩
end
noncomputable def Zey (C:Addr) (E:St->XK) (ta:TA):TS:=fun D σ H=>ta σ H fun vs H1=>∃wd i,vs=[.str wd,i]/\∀ea d,H1 ea=none->H1 d=none->d≠ea->E σ (.ref C) (some d) (upd H1 d (.xd [("at",i)]))
def Zl1 (X:Cx) (E:St->XK):Prop:=∀(pins:List (Addr×Obj)) (σ:St) (H:Hp) (s:Shared) (ea C t d:Addr) (fs:List (Str×V)),Inv X pins σ H s->H ea=none->H d=some (.xd fs)->s.heap.get? ea=some (Zbz C t (some d))->X.s₀.heap.get? ea=none ->
 E σ (.ref C) (some d) H->X.xe (.ref ea) s
section
variable {P:Program}{w:World}{K:W.Frag}{mg:Str->Option Value}{base:Heap}{N:List Str}{qual:Str}{scope:Scope}{f:Addr}{cd:Value}{A:Around}{outer:List Env}{s:Shared}{H:Hp}{E:XK}
theorem Zhf:Zl1 (U0 (CX1 P w) P w K mg base N qual scope f cd A outer s H E) (fun _=>E):=fun pins σ H1 s1 ea C t d fs I new hd he h0 hE=>by
 have hin:∀env∈(U0 (CX1 P w) P w K mg base N qual scope f cd A outer s H E).stack,∀b,env.frame=some b->b∈ea::frs (U0 (CX1 P w) P w K mg base N qual scope f cd A outer s H E).stack:=fun env he b hb=>Zth _ (ZtQ.mpr ⟨env,he,hb⟩)
 have trk:∀b u,H1 b=some u->b ∉ ea::frs (U0 (CX1 P w) P w K mg base N qual scope f cd A outer s H E).stack:=fun b u e z=>by
  rcases ZsZ.mp z with z|z
  ·rw[z,new] at e;cases e
  ·rw[I.stkFree b z] at e;cases e
 have st:(PySem.W.hideAll s1.heap (ea::frs (U0 (CX1 P w) P w K mg base N qual scope f cd A outer s H E).stack)).StaysIn s1.heap:=fun b o q=>PySem.W.of_hideAll _ q
 have he0:(PySem.W.hideAll s1.heap (ea::frs (U0 (CX1 P w) P w K mg base N qual scope f cd A outer s H E).stack)).get? ea=none:=PySem.W.hideAll_none _ (Ztw ..)
 refine wpAny_mono (Zf3 (Uk _ _) (wpAny_leaving_firstW (Q:=fun _ s''=>∃h'',s''={ s1 with heap:=h'' }/\Heap.FlyingW (PySem.W.hideAll s1.heap (ea::frs (U0 (CX1 P w) P w K mg base N qual scope f cd A outer s H E).stack)) outer ea (.ref C) (.ref t) h''/\s1.heap.UpToSlots h'')
  (a0:=.ref t) (s:=s1) I.ok.frames (PySem.W.funFrames_hide I.stack hin) rfl he st he0 rfl rfl rfl fun h'' hL=>?_)) (fun _ s'' q=>?_) fun _ _ q=>q.1
 ·obtain⟨k1,⟨_,_,k2⟩,k3,k4⟩:=hL
  exact⟨h'',rfl,⟨k1,he0,k2,k3⟩,k4⟩
 ·obtain⟨⟨h'',rfl,fl,up⟩,dk⟩:=q
  refine⟨ea,d,.ref C,H1,rfl,ZbZ (g:=s1.heap) (t:=t) (s':=s1) I rfl I.bare (Un.kept fun _ _ e=>e) (I.hok.kept fun _ _ e=>e) up fl st (fun b u e o q=>PySem.W.hideAll_get _ q (trk b u e)) (fun b o q n=>?_) new ⟨_,he,.inr ⟨rfl,fs,hd⟩⟩ dk,hE⟩
  obtain⟨o1,e1⟩:=(show Un (frs outer) [] H H1 s.heap s1.heap from I.base).there b o q (by simp)
  exact⟨o1,PySem.W.hideAll_get _ e1 fun z=>by
   rcases ZsZ.mp z with z|z
   ·have h0:s.heap.get? ea=none:=h0
    rw[z,h0] at q;cases q
   ·exact n z⟩
end
section
variable {X:Cx}
theorem Inv.untrack {pins:List (Addr×Obj)}{σ:St}{H H':Hp}{s:Shared}{a:Addr}{φ:Heap->Prop} (I:Inv X pins σ H s) (ha:H a=some (.ext φ)) (h1:∀b,b≠a->H' b=H b) (h2:H' a=none):Inv X pins σ H' s:=by
 have nn:∀{b o},H b=some o->(∀ψ,o≠.ext ψ)->H' b=some o:=fun {b o} e n=>by
  rw[h1 b (fun z=>by rw[z,ha] at e;cases e;exact n _ rfl)];exact e
 have no:∀{b},H b=none->H' b=none:=fun {b} e=>by
  by_cases z:b=a
  ·rw[z];exact h2
  ·rw[h1 b z];exact e
 refine⟨I.ok,I.os,I.bare,⟨I.base.keep,I.base.slot,fun b u z n hx=>no (I.base.free b u z n hx),I.base.there,fun b xs z=>nn (I.base.tups b xs z) (by simp),fun b u v z=>nn (I.base.frzs b u v z) (by simp),fun b ps z=>?_⟩,I.loc,I.cell,no I.free,fun x c z=>no (I.freeC x c z),fun p hq=>?_,fun b u z=>?_,I.len⟩
 ·obtain⟨m,y⟩:=I.base.tbls b ps z
  exact⟨m,nn y (by simp)⟩
 ·obtain⟨a1,b1,c1,d1,e1⟩:=I.pin p hq
  exact⟨a1,no b1,c1,d1,e1⟩
 ·have hb:b≠a:=fun y=>by rw[y,h2] at z;cases z
  rw[h1 b hb] at z
  exact(I.hok b u z).stay (fun c v _ y=>y) (fun c y=>nn y (by simp)) fun c xs y=>nn y (by simp)
variable {E:St->XK}{x:Str}{C fI:Addr}{fd:FuncData}{k:Nat}{np cpos pos:Pos}{e:Expr}{es:List Expr}{ta:TA}{oI:Obj}
theorem ZeJ (hM:Zl1 X E) (hq:Qu X.K C fI=true) (hkp:PySem.W.keepIn X.K (.ref C)=true) (hf:X.K.lookup fI=some oI) (hfc:oI.cls=.type "function") (hg:Gl X x) (hm:X.mg x=some (.ref C)) (hc:X.calm=true) (hex:X.ex=[])
  (F:Jk X.prog X.w X.K X.mg X.base CX0 k fI fd ["self", "words", "at"] (Ze4 C)) (hr:V2 (k+1) X.A) (hb:Us X.K fd ["self", "words", "at"] []) (ha:PA X (e::es) ta) (hdb:(x==("__debug__":Str))=false:=by decide)
  (he:starEach (e::es) X.env=(false,eval e X.env)::starEach es X.env:=by rfl) (hpl:(backTo cpos (starEach es X.env)).any (·.1)=false:=by rfl) :
  PS X (.Raise (some (.Call (.Name x np) (e::es) [] cpos)) none pos) (Zey C E ta):=by
 intro pins s σ H D I h
 obtain⟨tl,N,nm,q,bs,hdct,sn,sub,ab,col,dd,k0,k1,k2,k3,k5,mN,hC,hN,hni,T⟩:=Zdt I.ok.mod.kin hq
 have hB:=T.hasType PySem.F.excBase_ValueError.hasBase
 rw[arm_exec_Raise]
 simp only[evalOpt,Option.map]
 refine wpAny_bind (wpAny_standAt (ZdK (C:=C) (nm:=nm) (q:=q) (N:=N) (bs:=bs) (bm:=tl) (hdct:=hdct) (sn:=sn) (sub:=sub) (ab:=ab) (col:=col) (dd:=dd) (k0:=k0) (k1:=k1) (k2:=k2) (k3:=k3) (k5:=k5) (newId := "ValueError.__new__") hB (I.ok.hd hc) ?_))
 refine wpAny_bind (wpAny_mono (Q:=fun v s₁=>∃e t od,v=Value.ref e/\s₁.heap.get? C=some (excClassObj nm q C N bs tl hdct sn sub ab col dd k0 k1 k2 k3 k5 "ValueError.__new__")/\s₁.heap.get? e=some (Zbz C t od)/\X.xe (Value.ref e) s₁) ?_ (fun v s₃ h₃=>wpAny_bind (wpAny_standAt (wpAny_pure h₃))) fun _ _ z=>z)
 refine wpAny_Call_Name_kw (Vp I hg hm ?_ hdb)
 refine PySem.W.callWith_K (h₀:=X.base) I.ok.mod.kin hkp (thn (ha cpos pins s σ H _ I h) fun us s1 ⟨vs,H1,I1,r,wd,i,hv,hE⟩=>⟨I1.kIn, ?_⟩) he hpl
 subst hv
 obtain⟨hp,g,d0,tk,os⟩:=s1
 refine Zei PySem.F.excBase_ValueError (T.keeps I1.bk) (I1.bk _ _ hC) (hN.keeps I1.bk) hni (I1.kIn _ _ hf) hfc (fun h' ea hx=>?_) (by show us.length<=_;rw[<- r.length];simp[sizeLine_eq])
 have I2:Inv X pins σ H1 ⟨h',g,d0,tk,os⟩:=I1.kept (t':=tk) hx.keeps
 have out:∀b o,hp.get? b=some o->b≠ea:=fun b o z y=>by rw[y,hx.new] at z;cases z
 have nw:H1 ea=none:=by
  cases z:H1 ea with
  |none=>rfl
  |some u=>obtain⟨o,z2⟩:=(I1.hok ea u z).there;exact absurd rfl (out _ _ z2)
 obtain⟨t,ht,-,-⟩:=hx.there
 have ht2:h'.get? ea=some (Zbz C t none):=ht
 have s0:X.s₀.heap.get? ea=none:=by
  cases z:X.s₀.heap.get? ea with
  |none=>rfl
  |some o=>obtain⟨o',z'⟩:=I1.base.there ea o z (by rw[hex];simp);exact absurd rfl (out _ _ z')
 have I3:=I2.trackO (d:=ea) (o:=.ext (Zcu C ea)) nw (fun z=>by obtain⟨m,⟨o,_,_,ho,_⟩,_⟩:=I1.loc;exact out _ _ ho z.symm) (fun x c z=>by obtain⟨v,o,ho,_⟩:=I1.cell x c z;exact out _ _ ho) (fun p hp=>out _ _ (I1.pin p hp).1) s0 (Zio ht2)
 have hbb:=hb ⟨h',g,d0,tk,os⟩ (.ref ea::us) I3.kIn (by simp[<- r.length])
 rw[Zt1] at hbb
 refine wpAny_call (codeAny_mono (F.run _ X.stack _ _ ⟨.ref ea::us,[]⟩ (.ref ea::us) (.ref ea::[.str wd,i]) (fun v H'=>v=.non/\∃d,H1 d=none/\d≠ea/\H'=upd (upd (upd H1 ea (.ext (Zcu C ea))) d (.xd [("at",i)])) ea (.ext (Zcv C ea d))) (fun _ _ _=>False)
  (hr.make C us []) (I3.env0.make C us []) hbb (.cons rfl r) ⟨ea,wd,i,rfl,Zw,fun d dn ne=>⟨rfl,d,by rw[Zn ne] at dn;exact dn,ne,rfl⟩⟩) fun r' s' hq'=>?_)
 cases r' with
 |error e=>exact False.elim hq'
 |ok fl =>
  cases fl with
  |ret u =>
   obtain⟨v,H',I4,rv,rfl,d,dn,ne,rfl⟩:=I3.after hq'
   obtain⟨t',e'⟩:=(I4.hok ea _ Zw).1
   refine⟨rv,ea,t',some d,rfl,I4.bk _ _ hC,e', ?_⟩
   refine hM pins σ (upd H1 d (.xd [("at",i)])) s' ea C t' d _ (I4.untrack Zw (fun b nb=>?_) ?_) ?_ Zw e' s0 (hE ea d nw dn ne)
   ·unfold upd
    rw[if_neg nb,if_neg nb]
   ·rw[Zn (Ne.symm ne)];exact nw
   ·rw[Zn (Ne.symm ne)];exact nw
  |next=>exact False.elim hq'
  |brk=>exact False.elim hq'
  |cont=>exact False.elim hq'
end
noncomputable def ZeG (x:Str) (xs:List PV):RS:=match xs with
 |[.str _,.int i]=>.exc (x,.int i)
 |_=>.bad
section
variable {K:W.Frag}{E:XK}{Γ Γ':List Md}{ta:TA}{fa:List PV->Rr (List PV)}
theorem ZfM {C:Addr}{x:Str}{Y:Tys} (hC:UJ K x C) (ha:DAA K (EX1 K E) Γ Γ' ta fa):DS K (EX1 K E) Γ Y (Zey C (fun _=>E) ta) (fun ρ=>(fa ρ).thenS (ZeG x)):=fun B H0 H σ ρ F D A d=>by
 refine ha B H0 H σ ρ F [] _ A (d.thenS.imp (fun xs hx d vs H1 F1 s1 f1 p1 A1=>?_) fun e q=>q)
 unfold ZeG at d
 split at d
 ·rename_i wd i
  obtain⟨v,v2,rfl,h1,h2⟩:=ZiH p1
  cases h1;cases h2
  exact⟨wd,.int i,rfl,fun ea k hea hk ne=>d (upd H1 k (.xd [("at",.int i)])) (A1.same.trans (Z0.newO hk)) C k hC ⟨_,Zw,rfl⟩⟩
 ·exact d.elim
end
def ZmX (K:W.Frag) (n sup qual:Str) (st:Stmt):Prop:=∃C f fd S,UJ K n C/\Qu K C f=true/\PySem.W.keepIn K (.ref C)=true/\ZgC K C "at"=true/\PySem.W.typeIn K (.ref f)=some (.type "function")/\Fun K "__init__" qual st f fd/\UJ K sup S/\ZaZ K S=true
noncomputable def Ziv (K:W.Frag) (C:Addr):Option Addr:=match PySem.W.findIn K (.ref C) "__init__" with
 |some (some (.ref f))=>some f
 |_=>none
noncomputable def Zf9 (K:W.Frag) (n sup:Str):Bool:=match PySem.W.nsIn K mainGlobals n,PySem.W.nsIn K mainGlobals sup with
 |some (some (.ref C)),some (some (.ref S))=>(match Ziv K C with|some f=>Qu K C f|none=>false)&&ZgC K C "at" && ZaZ K S
 |_,_=>false
theorem Zg1 {K:W.Frag}{n sup qual:Str}{st:Stmt}{C f S:Addr}{fd:FuncData} (h1:PySem.W.nsIn K mainGlobals n=some (some (.ref C))) (h2:PySem.W.findIn K (.ref C) "__init__"=some (some (.ref f))) (h3:PySem.W.keepIn K (.ref C)=true) (h5:PySem.W.typeIn K (.ref f)=some (.type "function")) (h6:Fun K "__init__" qual st f fd)
  (h7:PySem.W.nsIn K mainGlobals sup=some (some (.ref S))) (h8:Zf9 K n sup=true):ZmX K n sup qual st:=by
 unfold Zf9 at h8
 simp only[h1,h7,Ziv,h2,Bool.and_eq_true] at h8
 exact⟨C,f,fd,S,h1,h8.1.1,h3,h8.1.2,h5,h6,h7,h8.2⟩
def Zm6 (P:Program) (w:World) (K:W.Frag) (mg:Str->Option Value) (base:Heap) (k:Nat) (n:Str):Prop:=
 ∃C f fd oI,UJ K n C/\Qu K C f=true/\PySem.W.keepIn K (.ref C)=true/\K.lookup f=some oI/\oI.cls=.type "function"/\Jk P w K mg base CX0 k f fd ["self", "words", "at"] (Ze4 C)/\Us K fd ["self", "words", "at"] []
section
variable {K:W.Frag}
theorem Zb4 {f:Addr}{t:Value} (h:PySem.W.typeIn K (.ref f)=some t):∃o,K.lookup f=some o/\o.cls=t:=by
 simpa[PySem.W.typeIn,Zt4] using h
end
@[simp] theorem ZeF {x wd:Str}{i:Int}:ZeG x [.str wd,.int i]=.exc (x,.int i):=rfl
theorem ZfI {b:PV->List PV->RS}{xs:List PV}{ρ:List PV}{W:RS} (hw:QD b xs ρ=W) (n:Nat) (I:Nat->List PV->Prop) (h0:I 0 ρ) (h:∀i x ρ,i<n->xs[i]?=some x->I i ρ->(b x ρ).good (I (i+1)))
  (hn:n<xs.length) {v:PX} (hr:∀x ρ,xs[n]?=some x->I n ρ->b x ρ=.exc v):W=.exc v:=by
 subst hw
 have key:∀m i ρ,n=i+m->I i ρ->QD b (xs.drop i) ρ=.exc v:=by
  intro m
  induction m with
  |zero =>
   intro i ρ hl hI
   have hi:i<xs.length:=by omega
   rw[Zty hi]
   obtain rfl:n=i:=by omega
   simp only[QD,hr _ ρ (ZsR hi) hI]
   rfl
  |succ m ih =>
   intro i ρ hl hI
   have hi:i<xs.length:=by omega
   rw[Zty hi]
   obtain⟨ρ',h1,h2⟩:=RS.good_ex (h i _ ρ (by omega) (ZsR hi) hI)
   simp only[QD]
   rcases h1 with h1|h1<;>(rw[h1];exact ih (i+1) ρ' (by omega) h2)
 exact key n 0 ρ (by omega) h0
noncomputable def Zlx (K:W.Frag) (n:Str):Bool:=match PySem.W.nsIn K mainGlobals n with
 |some (some (.ref C))=>PySem.W.exOk K C&&PySem.W.hasDictIn K C&&(PySem.W.findIn K (.ref C) "at" == some none)
 |_=>false
section
end
end L2
namespace L2
open PySem PyProof.Rows
structure Znr (prog:Program) (w:World) (A:Around) (s:Shared) (κ:SortKind) (U:Keyed->Prop) (R:Keyed->Keyed->Bool) (Ok:Keyed->Keyed->Prop):Prop where
 ask:∀x y,U x->U y->Ok x y->∀(Q:Bool->Shared->Prop),Q (R x y) s->wpAny (model prog w) A (keyLt' κ x.1 y.1) Q (fun _ _=>False) s
 asy:∀x y,U x->U y->R x y=true->R y x=false
 tr:∀x y z,U x->U y->U z->R y x=false->R z y=false->R z x=false
section
variable {U:Keyed->Prop}{R:Keyed->Keyed->Bool}{Ok:Keyed->Keyed->Prop}
structure ZmZ (U:Keyed->Prop) (R:Keyed->Keyed->Bool) (Ok:Keyed->Keyed->Prop) (left:Bool) (key:Keyed) (arr:Array Keyed) (base n:Nat) (P:Nat->Bool):Prop where
 uk:U key
 it:∀i,i<n->∃x,arr[base+i]?=some x/\U x/\(if left=true then Ok x key else Ok key x)/\P i=(if left=true then R x key else !R key x)
 mono:∀i j,i<=j->j<n->P j=true->P i=true
end
def Srt (R:Keyed->Keyed->Bool) (l:List Keyed):Prop:=l.Pairwise fun x y=>R y x=false
structure MI (R:Keyed->Keyed->Bool) (a b o:List Keyed) (i j:Nat):Prop where
 perm:o.Perm (a.take i++b.take j)
 srt:Srt R o
 ga:∀x∈o,∀y∈a.drop i,R y x=false
 gb:∀x∈o,∀y∈b.drop j,R y x=false
 hi:i<=a.length
 hj:j<=b.length
section
variable {U:Keyed->Prop}{R:Keyed->Keyed->Bool}{Ok:Keyed->Keyed->Prop}
structure MLo (U:Keyed->Prop) (R:Keyed->Keyed->Bool) (Ok:Keyed->Keyed->Prop) (a b:Array Keyed):Prop where
 ua:∀x∈a.toList,U x
 ub:∀x∈b.toList,U x
 ok:∀x∈b.toList,∀y∈a.toList,Ok x y
 sa:Srt R a.toList
 sb:Srt R b.toList
 na:0<a.size
 nb:0<b.size
 fst:∀x y,b.toList[0]?=some x->a.toList[0]?=some y->R y x=false
 lst:∀x∈b.toList,∀y,a.toList[a.size-1]?=some y->R y x=false
end
section
section
end
end
structure MH (R:Keyed->Keyed->Bool) (a b q:List Keyed) (i j:Nat):Prop where
 perm:q.Perm (a.drop i++b.drop j)
 srt:Srt R q
 ga:∀x∈a.take i,∀y∈q,R y x=false
 gb:∀x∈b.take j,∀y∈q,R y x=false
 hi:i<=a.length
 hj:j<=b.length
section
end
section
section
end
end
section
end
noncomputable def gA (X:Array Keyed) (i:Nat):Keyed:=X.getD i (.none,.none)
def Up (R:Keyed->Keyed->Bool) (X:Array Keyed) (lo m:Nat):Prop:=∀i j,i<j->j<m->R (gA X (lo+j)) (gA X (lo+i))=false
def Dn' (R:Keyed->Keyed->Bool) (X:Array Keyed) (lo m:Nat):Prop:=∀i j,i<j->j<m->R (gA X (lo+i)) (gA X (lo+j))=false
structure Znl (X Y:Array Keyed) (lo m:Nat):Prop where
 perm:Y.Perm X
 out:∀k,k<lo\/lo+m<=k->Y[k]?=X[k]?
def Sep (Ok:Keyed->Keyed->Prop) (X:Array Keyed) (e:Nat):Prop:=∀p q,p<e->e<=q->q<X.size->Ok (gA X q) (gA X p)
section
variable {U:Keyed->Prop}
def Znq (U:Keyed->Prop) (X:Array Keyed):Prop:=∀i,i<X.size->U (gA X i)
variable {R0 R:Keyed->Keyed->Bool}{Ok:Keyed->Keyed->Prop}
def Eqv (R:Keyed->Keyed->Bool) (X:Array Keyed) (lo a b:Nat):Prop:=∀i j,a<=i->i<b->a<=j->j<b->R (gA X (lo+i)) (gA X (lo+j))=false
structure Zns (R0 R:Keyed->Keyed->Bool) (Ok:Keyed->Keyed->Prop):Prop where
 up:∀x y,R0 x y=true->R x y=true
 ok:∀x y,Ok x y->R x y=R0 x y
structure Fal (R0 R:Keyed->Keyed->Bool) (X Y:Array Keyed) (lo q k:Nat):Prop where
 t:Znl X Y lo q
 d:Dn' R Y lo q
 e:Eqv R0 Y lo q k
 st:∀i j,i<q->q<=j->j<k->R0 (gA Y (lo+j)) (gA Y (lo+i))=true
 qk:q<k
end
noncomputable abbrev Znm:=Nat×Nat×Nat
def UpS (R:Keyed->Keyed->Bool) (Ok:Keyed->Keyed->Prop) (X:Array Keyed) (c n:Nat):Prop:=Up R X c n/\Sep Ok X c
noncomputable def ZmY (R:Keyed->Keyed->Bool) (Ok:Keyed->Keyed->Prop) (X:Array Keyed):Nat->List Znm->Nat->Prop
 |s,[],e=>s=e
 |s,(c,n,_)::r,e=>c=s/\0<n/\UpS R Ok X c n/\ZmY R Ok X (s+n) r e
section
variable {κ:SortKind}{U:Keyed->Prop}{R:Keyed->Keyed->Bool}{Ok:Keyed->Keyed->Prop}
structure RSt (κ:SortKind) (U:Keyed->Prop) (R:Keyed->Keyed->Bool) (Ok:Keyed->Keyed->Prop) (X:Array Keyed) (lo hi:Nat) (st':SortSt):Prop where
 kd:kindOf st'=κ
 fl:failedOf st'=none
 pm:(arrOf st').Perm X
 us:Znq U (arrOf st')
 rn:ZmY R Ok (arrOf st') 0 (pendingOf st').toList lo
 le:lo<=X.size
 lh:lo<=hi
 sp:∀e,e=lo\/hi<=e->Sep Ok (arrOf st') e
end
end L2
namespace L2
open PySem PySem.Spec PyProof.Rows
section
end
section
variable {κ:Type} [DecidableEq κ]
noncomputable def Zeu (kvs:List (κ×V)) (k:κ):Option V:=(kvs.find? fun kv=>decide (kv.1=k)).map (·.2)
noncomputable def Zeo (kvs:List (κ×V)) (k:κ) (v:V):List (κ×V):=
 if (kvs.any fun kv=>decide (kv.1=k))=true then kvs.map (fun kv=>if kv.1=k then (kv.1,v) else kv) else kvs++[(k,v)]
theorem U5 {p:κ×V}{r:List (κ×V)}{k:κ} (e:p.1=k):Zeu (p::r) k=some p.2:=by simp[Zeu,ZtI,e]
theorem U6 {p:κ×V}{r:List (κ×V)}{k:κ} (e:¬p.1=k):Zeu (p::r) k=Zeu r k:=by simp[Zeu,ZtI,e]
theorem Zcz (k:κ):∀kvs:List (κ×V),(kvs.any fun kv=>decide (kv.1=k))=(Zeu kvs k).isSome
 |[]=>rfl
 |p::r=>by
  rw[ZtJ]
  by_cases e:p.1=k
  ·simp only[U5 e,decide_eq_true e,Bool.true_or,Option.isSome_some]
  ·rw[U6 e,decide_eq_false e,Bool.false_or];exact Zcz k r
theorem Qk (kvs:List (κ×V)) (k:κ) (v:V):(Zeo kvs k v).length<=kvs.length+1:=by
 unfold Zeo
 split
 ·rw[ZsS];omega
 ·rw[Ztl,Ztj,Zt3];omega
theorem Za3.isSome_eq {o:Option V}{u:Option Value} (r:Za3 o u):o.isSome=u.isSome:=by
 cases o with
 |none=>cases u with
  |none=>rfl
  |some _=>exact(show False from r).elim
 |some _=>cases u with
  |none=>exact(show False from r).elim
  |some _=>rfl
theorem KV.val {kvs:List (κ×V)}{vs:List (κ×Value)} (r:KV kvs vs) (k:κ):Za3 (Zeu kvs k) (valueAt vs k):=by
 unfold KV at r
 induction r with
 |nil=>exact True.intro
 |@cons p q ps qs h t ih =>
  obtain⟨h1,h2⟩:=h
  by_cases e:p.1=k
  ·have e':q.1=k:=h1.symm.trans e
   have b:valueAt (q::qs) k=some q.2:=by simp[valueAt,ZtI,e']
   rw[U5 e,b];exact h2
  ·have e':¬q.1=k:=fun z=>e (h1.trans z)
   have b:valueAt (q::qs) k=valueAt qs k:=by simp[valueAt,ZtI,e']
   rw[U6 e,b];exact ih
theorem KV.any {kvs:List (κ×V)}{vs:List (κ×Value)} (r:KV kvs vs) (k:κ):(kvs.any fun kv=>decide (kv.1=k))=vs.any fun kv=>decide (kv.1=k):=by
 unfold KV at r
 induction r with
 |nil=>rfl
 |cons h t ih=>rw[ZtJ,ZtJ,ih,h.1]
theorem KV.repl {kvs:List (κ×V)}{vs:List (κ×Value)} (r:KV kvs vs) (k:κ) {y:V}{u:Value} (ry:Ja y u) :
  KV (kvs.map fun kv=>if kv.1=k then (kv.1,y) else kv) (vs.map fun kv=>if kv.1=k then (kv.1,u) else kv):=by
 unfold KV at r ⊢
 induction r with
 |nil=>exact .nil
 |@cons p q ps qs h t ih =>
  rw[Ztc,Ztc]
  refine .cons ?_ ih
  obtain⟨h1,h2⟩:=h
  by_cases e:p.1=k
  ·rw[if_pos e,if_pos (h1.symm.trans e)];exact⟨h1,ry⟩
  ·rw[if_neg e,if_neg (fun z=>e (h1.trans z))];exact⟨h1,h2⟩
theorem KV.put {kvs:List (κ×V)}{vs:List (κ×Value)} (r:KV kvs vs) (k:κ) {y:V}{u:Value} (ry:Ja y u):KV (Zeo kvs k y) (stored vs k u):=by
 unfold Zeo stored
 rw[r.any k]
 by_cases e:(vs.any fun kv=>decide (kv.1=k))=true
 ·rw[if_pos e,if_pos e];exact r.repl k ry
 ·rw[if_neg e,if_neg e];exact Paired.snoc r ⟨rfl,ry⟩
theorem KV.length {kvs:List (κ×V)}{vs:List (κ×Value)} (r:KV kvs vs):kvs.length=vs.length:=Paired.length r
end
theorem Zhk {P:Program}{w:World}{k:Key}{u:Value} (r:Ja (kV k) u):(Jm P w).is k u=true:=by
 cases k with
 |inl i=>obtain⟨t,e⟩:=(show ∃t,u=Value.int i t from r);subst e;exact ZbM P w i t
 |inr x=>obtain⟨t,e⟩:=(show ∃t,u=Value.str x t from r);subst e;exact ZbL P w x t
theorem ZaU {P:Program}{w:World}:∀{ks:List Key}{us:List Value},ZQ (ks.map kV) us->ItemsAre (Jm P w) ks us
 |[],_,r=>by rw[Zt7] at r;cases r;exact .nil
 |k::ks,_,r=>by
  rw[Ztc] at r
  cases r with
  |cons h t=>exact .cons (Zhk h) (ZaU t)
noncomputable abbrev KT (H:Hp):List (List Key×V)->List (List Key×Addr×Value)->Prop:=Paired fun p q=>p.1=q.1/\H q.2.1=some (.tup (p.1.map kV))/\Ja p.2 q.2.2
theorem KT.val {H:Hp}{kvs:List (List Key×V)}{xs:List (List Key×Addr×Value)} (r:KT H kvs xs) (k:List Key):Za3 (Zeu kvs k) ((atKey xs k).map (·.2)):=by
 induction r with
 |nil=>exact True.intro
 |@cons p q ps qs h t ih =>
  obtain⟨h1,_,h2⟩:=h
  by_cases e:p.1=k
  ·have e':q.1=k:=h1.symm.trans e
   have b:atKey (q::qs) k=some q.2:=by simp[atKey,ZtI,e']
   rw[U5 e,b];exact h2
  ·have e':¬q.1=k:=fun z=>e (h1.trans z)
   have b:atKey (q::qs) k=atKey qs k:=by simp[atKey,ZtI,e']
   rw[U6 e,b];exact ih
theorem KT.repl {H:Hp}{kvs:List (List Key×V)}{xs:List (List Key×Addr×Value)} (r:KT H kvs xs) (k:List Key) {y:V}{u:Value} (ry:Ja y u) :
  KT H (kvs.map fun kv=>if kv.1=k then (kv.1,y) else kv) (xs.map (putAt k u)):=by
 induction r with
 |nil=>exact .nil
 |@cons p q ps qs h t ih =>
  rw[Ztc,Ztc]
  refine .cons ?_ ih
  obtain⟨h1,h2,h3⟩:=h
  unfold putAt
  by_cases e:p.1=k
  ·rw[if_pos e,if_pos (h1.symm.trans e)];exact⟨h1,h2,ry⟩
  ·rw[if_neg e,if_neg (fun z=>e (h1.trans z))];exact⟨h1,h2,h3⟩
theorem KT.put {H:Hp}{kvs:List (List Key×V)}{xs:List (List Key×Addr×Value)} (r:KT H kvs xs) (k:List Key) {b:Addr}{y:V}{u:Value} (hb:H b=some (.tup (k.map kV))) (ry:Ja y u) :
  KT H (Zeo kvs k y) (storedH xs k b u):=by
 have e:(kvs.any fun kv=>decide (kv.1=k))=(atKey xs k).isSome:=by
  rw[Zcz,(r.val k).isSome_eq,Option.isSome_map]
 unfold Zeo storedH
 rw[e]
 by_cases q:(atKey xs k).isSome=true
 ·rw[if_pos q,if_pos q];exact r.repl k ry
 ·rw[if_neg q,if_neg q];exact Paired.snoc r ⟨rfl,hb,ry⟩
theorem KT.keeps {H H':Hp}{kvs:List (List Key×V)}{xs:List (List Key×Addr×Value)} (r:KT H kvs xs) (ht:∀b ys,H b=some (.tup ys)->H' b=some (.tup ys)):KT H' kvs xs:=
 Paired.mapP r fun _ _ z=>⟨z.1,ht _ _ z.2.1,z.2.2⟩
section
variable {P:Program}{w:World}{H:Hp}{h:Heap}{a:Addr}
theorem Zkp {u:HO} (ok:HOk P w H h) (e:Rd H a u):Jg P w H h a u:=e.ok ok
theorem Zh5 {kvs:List (Key×V)} (ok:HOk P w H h) (e:Rd H a (.dK kvs)):kvs.length<=sizeLine/\(a==sysModules)=false/\∃vs,KV kvs vs/\h.DictOf (Jm P w) a vs:=
 show Jg P w H h a (.dK kvs) from Zkp ok e
theorem Zmh {kvs:List (Key×V)} (ok:HOk P w H h) (e:H a=some (.dK kvs)):kvs.length<=sizeLine/\(a==sysModules)=false/\∃vs,KV kvs vs/\h.DictOf (Jm P w) a vs:=Zh5 ok (.inl e)
theorem Zdg {ks:List Key} (ok:HOk P w H h) (e:H a=some (.tup (ks.map kV))):(tupleKind (Jm P w)).is h ks a:=by
 obtain⟨_,its,r,o,h1,h2,n,h3⟩:=(show Jg P w H h a (.tup (ks.map kV)) from ok a _ e)
 exact⟨o,its.toArray,n,h1,h2,h3,by simpa using ZaU r⟩
theorem Zhz {kvs:List (List Key×V)} (ok:HOk P w H h) (e:Rd H a (.dT kvs)):kvs.length<=sizeLine/\(a==sysModules)=false /\
  ∃xs,KT H kvs xs/\h.DictOfH (tupleKind (Jm P w)) a xs:=by
 obtain⟨z,y,xs,r,o,es,ep,h1,h2,h3,h4,h5⟩:=(show Jg P w H h a (.dT kvs) from Zkp ok e)
 refine⟨z,y,xs,r,o,es,ep,h1,h2,h3,h4,fun x hx=>?_,h5⟩
 have all:∀{l:List (List Key×V)}{m:List (List Key×Addr×Value)},KT H l m->∀x∈m,(tupleKind (Jm P w)).is h x.1 x.2.1:=by
  intro l m q
  induction q with
  |nil=>intro x hx;exact nomatch hx
  |@cons p q ps qs hq t ih =>
   intro x hx
   rcases ZsZ.mp hx with e|hx
   ·subst e
    exact Zdg ok (by rw[<- hq.1];exact hq.2.1)
   ·exact ih x hx
 exact all r x hx
theorem Zmg {kvs:List (List Key×V)} (ok:HOk P w H h) (e:H a=some (.dT kvs)):kvs.length<=sizeLine/\(a==sysModules)=false /\
  ∃xs,KT H kvs xs/\h.DictOfH (tupleKind (Jm P w)) a xs:=Zhz ok (.inl e)
end
def ZjP (H:Hp) (a:Addr) (y:V) (r:Option V):Prop:=
 (∃kvs k,Rd H a (.dK kvs)/\y=kV k/\r=Zeu kvs k)\/∃kvs k b,Rd H a (.dT kvs)/\y=.ref b/\H b=some (.tup (k.map kV))/\r=Zeu kvs k
def Znb (H:Hp) (a:Addr) (y v:V) (H':Hp):Prop:=
 (∃kvs k,H a=some (.dK kvs)/\y=kV k/\kvs.length<sizeLine/\H'=upd H a (.dK (Zeo kvs k v))) \/
 ∃kvs k b,H a=some (.dT kvs)/\y=.ref b/\H b=some (.tup (k.map kV))/\kvs.length<sizeLine/\H'=upd H a (.dT (Zeo kvs k v))
section
variable {X:Cx}{pins:List (Addr×Obj)}{σ:St}{H:Hp}{s:Shared}{a:Addr}{y v:V}{u r:Value}{o:Option V}{A:Around}{E:Value->Shared->Prop}
theorem Inv.big (I:Inv X pins σ H s):sysModules<s.heap.objs.size:=by
 have h:mainGlobals<s.heap.objs.size:=(I.mod.glob.keeps I.bk).lt
 exact Nat.lt_trans (by decide) h
theorem Zgb {Q:Value->Shared->Prop} (hu:A.units+1<cLine) (I:Inv X pins σ H s) (g:ZjP H a y (some v)) (ry:Ja y u) (h:∀w' s',Inv X pins σ H s'->Ja v w'->Q w' s') :
  wpAny (model X.prog X.w) A (getItem (.ref a) u) Q E s:=by
 rcases g with ⟨kvs,k,e,ey,l⟩|⟨kvs,k,b,e,ey,eb,l⟩
 ·subst ey
  obtain⟨z,hd,vs,rel,dd⟩:=Zh5 I.hok e
  obtain⟨w',hw,rw'⟩:=Za3.some_of (v:=v) (o:=valueAt vs k) (by rw[l];exact rel.val k)
  exact wpAny_getItem_of (Zhk ry) dd.mapOf hw (h w' _ (I.tok _) rw')
 ·subst ey
  cases (show u=Value.ref b from ry)
  obtain⟨z,hd,xs,rel,dd⟩:=Zhz I.hok e
  obtain⟨w',hw,rw'⟩:=Za3.some_of (v:=v) (o:=(atKey xs k).map (·.2)) (by rw[l];exact rel.val k)
  obtain⟨p,hp,hp2⟩:=Zt4.mp hw
  refine wpAny_getItem_heap (tupleKind_room_in1 hu) (Zdg I.hok eb) dd hp ?_
  rw[hp2]
  exact h w' _ (I.tok _) rw'
theorem Znj {Q:Value->Shared->Prop} (hu:A.units+1<cLine) (I:Inv X pins σ H s) (g:ZjP H a y o) (ry:Ja y u) (h:∀s',Inv X pins σ H s'->Q (.bool o.isSome) s') :
  wpAny (model X.prog X.w) A (compareOp .In u (.ref a)) Q E s:=by
 rcases g with ⟨kvs,k,e,ey,l⟩|⟨kvs,k,b,e,ey,eb,l⟩
 ·subst ey
  obtain⟨z,hd,vs,rel,dd⟩:=Zh5 I.hok e
  refine wpAny_in_of (Zhk ry) hd dd.mapOf ?_
  rw[<- (rel.val k).isSome_eq,<- l]
  exact h _ (I.tok _)
 ·subst ey
  cases (show u=Value.ref b from ry)
  obtain⟨z,hd,xs,rel,dd⟩:=Zhz I.hok e
  refine wpAny_in_heap (tupleKind_room_in1 hu) (Zdg I.hok eb) hd dd ?_
  have q:=(rel.val k).isSome_eq
  rw[Option.isSome_map] at q
  rw[<- q,<- l]
  exact h _ (I.tok _)
theorem ZfZ {h':Heap}{t':Nat}{ob:HO} (I:Inv X pins σ H s) (mu:Mut (H a)) (hs:Heap.SameBut a s.heap h') (he:∃q,h'.get? a=some q) (new:Jg X.prog X.w (upd H a ob) h' a ob) :
  Inv X pins σ (upd H a ob) { s with heap:=h',toks:=t' }:=
 I.write (x:=a) (e:=a) mu (.inl rfl) (fun b q hb z=>(hs.2 b hb).trans z) he new
theorem Zle {P:Program}{w:World}{H':Hp}{h':Heap}{kvs:List (Key×V)}{vs:List (Key×Value)} (z:kvs.length<=sizeLine) (hd:(a==sysModules)=false) (rel:KV kvs vs) (dd:h'.DictOf (Jm P w) a vs) :
  Jg P w H' h' a (.dK kvs):=⟨z,hd,vs,rel,dd⟩
theorem Zga {H':Hp}{Q:Unit->Shared->Prop} (hu:A.units+1<cLine) (I:Inv X pins σ H s) (g:Znb H a y v H') (ry:Ja y u) (rv:Ja v r) (h:∀s',Inv X pins σ H' s'->Q () s') :
  wpAny (model X.prog X.w) A (setItem (.ref a) u r) Q E s:=by
 rcases g with ⟨kvs,k,e,ey,l,eH⟩|⟨kvs,k,b,e,ey,eb,l,eH⟩
 ·subst ey eH
  obtain⟨z,hd,vs,rel,dd⟩:=Zmh I.hok e
  have hz:vs.length<=sizeLine:=by rw[<- rel.length];exact z
  have hl:(Zeo kvs k v).length<=sizeLine:=by have:=Qk kvs k v;omega
  refine wpAny_setItem_pairs (hsz:=hz) (Zhk ry) dd fun h' dd' hs=>h _ ?_
  have he:∃q,h'.get? a=some q:=let ⟨q,_,_,hq,_⟩:=dd';⟨q,hq⟩
  exact ZfZ I (by rw[e];exact True.intro) hs he (Zle hl hd (rel.put k rv) dd')
 ·subst ey eH
  cases (show u=Value.ref b from ry)
  obtain⟨z,hd,xs,rel,dd⟩:=Zmg I.hok e
  have hz:xs.length<=sizeLine:=by rw[<- Paired.length rel];exact z
  have hl:(Zeo kvs k v).length<=sizeLine:=by have:=Qk kvs k v;omega
  refine wpAny_setItem_heap (hsz:=hz) (tupleKind_room_in1 hu) (Zdg I.hok eb) dd fun h' dd' hs=>h _ ?_
  obtain⟨q,es,ep,hq,h2,h3,h4,_,h5⟩:=dd'
  refine ZfZ I (by rw[e];exact True.intro) hs ⟨q,hq⟩ ⟨hl,hd,_,(rel.put k eb rv).keeps fun c ys ec=>?_,q,es,ep,hq,h2,h3,h4,h5⟩
  rw[Zn (ZkE ec e (fun z=>nomatch z))]
  exact ec
end
def Zna (i:Expr):Prop:=∀ov iv,subscripted i false ov iv=operate [ov,iv] (getItem ov iv)
theorem ZiC {prog:Program}{w:World}{A:Around}{E:Value->Shared->Prop}{s:Shared}{env:Env}{value slice:Expr}{pos:Pos}{T id:String}{Q:Value->Shared->Prop}
  (hl:typeLookup (.type T) "__getitem__"=pure (some (.builtin id))) (hs:Zna slice)
  (h:wpAny (model prog w) A (eval value env) (fun o s₁=>wpAny (model prog w) A (eval slice env) (fun i s₂=>s₂.TypeIs o T/\wpAny (model prog w) A (getItem o i) Q E s₂) E s₁) E s) :
  wpAny (model prog w) A (eval (.Subscript value slice pos) env) Q E s:=by
 refine Subscript_ (wpAny_mono h (fun o s₁ h₁=>wpAny_mono h₁ (fun i s₂ h₂=>?_) fun _ _ x=>x) fun _ _ x=>x)
 obtain⟨hT,h₂⟩:=h₂
 unfold subscriptTail
 refine wpAny_bind ?_
 rw[getitemInPython_of_ne hT.not_modules]
 refine wpAny_bind (wpAny_specialOf hT hl ?_)
 have fin:wpAny (model prog w) A (subscripted slice false o i) (fun r s₃=>wpAny (model prog w) A (letTemporaryGo value o r >>= fun _=>pure r) Q E s₃) E s₂:=by
  rw[hs o i]
  exact wpAny_operating (wpAny_mono h₂ (fun r s₃ h₃=>wpAny_bind (wpAny_letTemporaryGo (wpAny_pure h₃))) fun _ _ x=>x)
 first
  |exact wpAny_pure (wpAny_bind fin)
  |exact wpAny_bind (wpAny_pure (wpAny_bind fin))
  |exact wpAny_bind fin
theorem Zcb {X:Cx}{pins:List (Addr×Obj)}{σ:St}{H:Hp}{s:Shared}{a:Addr}{y:V}{o:Option V} (I:Inv X pins σ H s) (g:ZjP H a y o):s.TypeIs (.ref a) "dict":=by
 rcases g with ⟨kvs,k,e,_,_⟩|⟨kvs,k,b,e,_,_,_⟩
 ·obtain⟨_,_,vs,_,dd⟩:=Zh5 I.hok e
  exact dd.typeIs
 ·obtain⟨_,_,xs,_,dd⟩:=Zhz I.hok e
  exact dd.typeIs
noncomputable def Zkf (td ty:TE):TE:=fun σ H Q=>td σ H fun x H1=>ty σ H1 fun y H2=>∃a v,x=.ref a/\ZjP H2 a y (some v)/\Q v H2
noncomputable def ZmB (ty td:TE):TE:=fun σ H Q=>ty σ H fun y H1=>td σ H1 fun x H2=>∃a o,x=.ref a/\ZjP H2 a y o/\Q (.bl o.isSome) H2
noncomputable def Zkm (td ty tv:TE):TS:=fun D σ H=>tv σ H fun v H1=>td σ H1 fun x H2=>ty σ H2 fun y H3=>∃a H4,x=.ref a/\Znb H3 a y v H4/\D.nx σ H4
section
variable {X:Cx}{o i value:Expr}{pos pos':Pos}{td ty tv:TE}
theorem ZiR (hu:X.A.units+1<cLine) (ho:PE X o td) (hi:PE X i ty) (hs:Zna i):PE X (.Subscript o i pos) (Zkf td ty):=by
 intro pins s σ H Q I h
 refine ZiC PySem.F.slot_dict_getitem.lookup hs (thn (ho pins s σ H _ I h) fun u s1 ⟨x,H1,I1,rx,q1⟩=>thn (hi pins s1 σ H1 _ I1 q1) fun iv s2 ⟨y,H2,I2,ry,a,v,ex,g,q2⟩=>?_)
 subst ex
 obtain rfl:u=Value.ref a:=rx
 exact⟨Zcb I2 g,Zgb hu I2 g ry fun w' s3 I3 rw'=>⟨v,H2,I3,rw',q2⟩⟩
theorem Zk0 (hu:X.A.units+1<cLine) (hi:PE X i ty) (ho:PE X o td):PC X .In i o (ZmB ty td):=by
 intro pins s σ H Q I h
 refine thn (hi pins s σ H _ I h) fun iv s1 ⟨y,H1,I1,ry,q1⟩=>thn (ho pins s1 σ H1 _ I1 q1) fun u s2 ⟨x,H2,I2,rx,a,ov,ex,g,q2⟩=>?_
 subst ex
 obtain rfl:u=Value.ref a:=rx
 exact Znj hu I2 g ry fun s3 I3=>⟨.bl ov.isSome,H2,I3,rfl,q2⟩
theorem ZiL (hu:X.A.units+1<cLine) (ho:PE X o td) (hi:PE X i ty) (hv:PE X value tv) (hs:swapsWith value (some (.Subscript o i pos')) pos.line X.env=pure false) :
  PS X (.Assign [.Subscript o i pos'] value pos) (Zkm td ty tv):=by
 intro pins s σ H D I h
 refine wpAny_Assign_Subscript (thn (hv pins s σ H _ I h) fun r s1 ⟨v,H1,I1,rv,q1⟩=>thn (ho pins s1 σ H1 _ I1 q1) fun u s2 ⟨x,H2,I2,rx,q2⟩=>thn (hi pins s2 σ H2 _ I2 q2) fun iv s3 ⟨y,H3,I3,ry,a,H4,ex,g,q3⟩=>?_) hs
 subst ex
 obtain rfl:u=Value.ref a:=rx
 exact Zga hu I3 g ry rv fun s4 I4=>⟨σ,H4,I4,q3⟩
end
theorem Zh0 {P:Program}{w:World}{H:Hp} (h:Heap) (hb:sysModules<h.objs.size):Jg P w H (h.push { cls:=.type "dict",data:=.dict #[] }) h.objs.size (.dT []):=
 ⟨ZtF _,beq_eq_false_iff_ne.mpr (Ne.symm (Zti hb)),[],.nil,_,#[],0,Heap.get?_push_size _ rfl,⟨rfl,rfl,rfl⟩,rfl,rfl,List.nodup_nil⟩
noncomputable def ZhX:TE:=fun _ H Q=>∀p,H p=none->Q (.ref p) (upd H p (.dT []))
section
variable {X:Cx}{pos:Pos}
theorem ZgL:PE X (.Dict [] [] pos) ZhX:=fun pins s σ H Q I h =>
 wpAny_Dict_empty ⟨.ref s.heap.objs.size,_,I.laid (a:=s.heap.objs.size) (o:=.dT []) (t':=s.toks) (fun _ _ q=>Heap.get?_push_of_some _ q) (ZsV _) (Zh0 s.heap I.big),rfl,h _ (I.hok.fresh (ZsV _))⟩
end
noncomputable def Zjd:Key->PV
 |.inl i=>.int i
 |.inr x=>.str x
noncomputable def ZdY:PV->Option Key
 |.int i=>some (.inl i)
 |.str x=>some (.inr x)
 |_=>none
noncomputable def Uw:List PV->Option (List Key)
 |[]=>some []
 |x::xs=>match ZdY x,Uw xs with
  |some k,some ks=>some (k::ks)
  |_,_=>none
theorem Zap {x:PV}{k:Key} (h:ZdY x=some k):x=Zjd k:=by
 cases x<;>first|(cases h;rfl)|cases h
theorem Qo:∀{xs:List PV}{ks:List Key},Uw xs=some ks->xs=ks.map Zjd
 |[],ks,h=>by cases h;rfl
 |x::xs,ks,h=>by
  unfold Uw at h
  split at h
  ·rename_i k ks' h1 h2
   cases h
   rw[Zap h1,Qo h2];rfl
  ·cases h
@[simp] theorem ZjJ (k:Key):ZdY (Zjd k)=some k:=by cases k<;>rfl
@[simp] theorem Uj:∀ks:List Key,Uw (ks.map Zjd)=some ks
 |[]=>rfl
 |k::ks=>by simp[Uw,Uj ks]
section
variable {K:W.Frag}{H:Hp}{S:Addr->Prop}
theorem Zb9 {k:Key}{v:V} (h:Rep K H S (Zjd k) v):v=kV k:=by cases k<;>exact h
theorem UT:∀{ks:List Key}{vs:List V},Reps K H S (ks.map Zjd) vs->vs=ks.map kV
 |[],_,h=>h
 |k::ks,_,h=>by
  obtain⟨v,r,rfl,h1,h2⟩:=h
  rw[Zb9 h1,UT h2];rfl
end
section
variable {κ:Type} [DecidableEq κ] {α:Type}
noncomputable def atK:List κ->List α->κ->Option α
 |k'::ks,x::xs,k=>if k'=k then some x else atK ks xs k
 |_,_,_=>none
noncomputable def ZdJ:List κ->List α->κ->α->List α
 |k'::ks,x::xs,k,y=>(if k'=k then y else x)::ZdJ ks xs k y
 |_,_,_,_=>[]
noncomputable def Zma (k:κ) (ks:List κ):Bool:=decide (k∈ks)
theorem Zfs {k:κ}{ks:List κ} (h:Zma k ks=false):k ∉ ks:=of_decide_eq_false h
noncomputable def Ug (ks:List κ) (k:κ):List κ:=if k∈ks then ks else ks++[k]
noncomputable def putXs (ks:List κ) (xs:List α) (k:κ) (y:α):List α:=if k∈ks then ZdJ ks xs k y else xs++[y]
theorem Zag:∀{ks:List κ}{xs:List α}{k:κ}{y:α},ks.length=xs.length->(ZdJ ks xs k y).length=ks.length
 |[],[],_,_,_=>rfl
 |k'::ks,x::xs,k,y,h=>by simp[ZdJ,Zag (ks:=ks) (xs:=xs) (k:=k) (y:=y) (by simpa using h)]
 |[],_::_,_,_,h=>by simp at h
 |_::_,[],_,_,h=>by simp at h
theorem Zah {ks:List κ}{xs:List α}{k:κ}{y:α} (h:ks.length=xs.length):(Ug ks k).length=(putXs ks xs k y).length:=by
 unfold Ug putXs
 split
 ·rw[Zag h]
 ·simp[h]
theorem Zaa:∀{ks:List κ}{vs:List V}{k:κ},ks.length=vs.length->Zeu (ks.zip vs) k=atK ks vs k
 |[],[],_,_=>rfl
 |k'::ks,v::vs,k,h=>by
  rw[Zt5]
  unfold atK
  by_cases e:k'=k
  ·rw[U5 e,if_pos e]
  ·rw[U6 e,if_neg e,Zaa (by simpa using h)]
 |[],_::_,_,h=>by simp at h
 |_::_,[],_,h=>by simp at h
theorem Zcr:∀{ks:List κ}{vs:List V}{k:κ},ks.length=vs.length->(((ks.zip vs).any fun kv=>decide (kv.1=k))=true ↔ k∈ks)
 |[],[],_,_=>by simp
 |k'::ks,v::vs,k,h=>by
  rw[Zt5,ZtJ,Bool.or_eq_true,Zcr (by simpa using h),ZsZ,decide_eq_true_eq]
  exact⟨fun z=>z.imp Eq.symm id,fun z=>z.imp Eq.symm id⟩
 |[],_::_,_,h=>by simp at h
 |_::_,[],_,h=>by simp at h
theorem Ze7:∀{ks:List κ}{vs:List V}{k:κ}{y:V},ks.length=vs.length->((ks.zip vs).map fun kv=>if kv.1=k then (kv.1,y) else kv)=ks.zip (ZdJ ks vs k y)
 |[],[],_,_,_=>rfl
 |k'::ks,v::vs,k,y,h=>by
  rw[Zt5,Ztc,Ze7 (by simpa using h)]
  show _=(k'::ks).zip ((if k'=k then y else v)::ZdJ ks vs k y)
  by_cases e:k'=k
  ·rw[if_pos e,if_pos e];rfl
  ·rw[if_neg e,if_neg e];rfl
 |[],_::_,_,_,h=>by simp at h
 |_::_,[],_,_,h=>by simp at h
theorem ZcE {ks:List κ}{vs:List V}{k:κ}{y:V} (h:ks.length=vs.length):Zeo (ks.zip vs) k y=(Ug ks k).zip (putXs ks vs k y):=by
 unfold Zeo Ug putXs
 by_cases c:k∈ks
 ·rw[if_pos ((Zcr h).mpr c),if_pos c,if_pos c,Ze7 h]
 ·rw[if_neg (fun z=>c ((Zcr h).mp z)),if_neg c,if_neg c,List.zip_append h];rfl
end
section
variable {κ:Type} [DecidableEq κ] {K:W.Frag}{H:Hp}{S:Addr->Prop}
theorem ZcA:∀{ks:List κ}{xs:List PV}{vs:List V}{k:κ},Reps K H S xs vs->match atK ks xs k with
  |some y=>∃v,atK ks vs k=some v/\Rep K H S y v
  |none=>atK ks vs k=none
 |[],xs,vs,k,h=>by simp[atK]
 |k'::ks,[],vs,k,h=>by rw[h];simp[atK]
 |k'::ks,x::xs,vs,k,h=>by
  obtain⟨v,r,rfl,h1,h2⟩:=h
  unfold atK
  by_cases e:k'=k
  ·rw[if_pos e,if_pos e];exact⟨v,rfl,h1⟩
  ·rw[if_neg e,if_neg e];exact ZcA h2
theorem QJ:∀{ks:List κ}{xs:List PV}{vs:List V}{G:List Addr}{k:κ}{y:PV}{w:V},ks.length=xs.length->Trees K H xs vs G->ZV K H y w []->∃G',(∀a∈G',a∈G)/\Trees K H (ZdJ ks xs k y) (ZdJ ks vs k w) G'
 |[],[],vs,G,k,y,w,_,h,_=>⟨[],by simp,by rw[h.1];exact⟨rfl,rfl⟩⟩
 |k'::ks,x::xs,vs,G,k,y,w,hl,h,hy=>by
  obtain⟨v,r,G1,G2,rfl,h1,h2,h3,rfl⟩:=h
  obtain⟨G',g1,g2⟩:=QJ (ks:=ks) (k:=k) (y:=y) (w:=w) (by simpa using hl) h2 hy
  unfold ZdJ
  by_cases e:k'=k
  ·rw[if_pos e,if_pos e]
   exact⟨G',fun a ha=>ZsT _ (g1 a ha),w,_,[],G',rfl,hy,g2,by simp,rfl⟩
  ·rw[if_neg e,if_neg e]
   refine⟨G1++G',fun a ha=>?_,v,_,G1,G',rfl,h1,g2,fun a ha z=>h3 a ha (g1 a z),rfl⟩
   rcases ZsW.mp ha with z|z
   ·exact ZsU _ z
   ·exact ZsT _ (g1 a z)
 |[],_::_,_,_,_,_,_,hl,_,_=>by simp at hl
 |_::_,[],_,_,_,_,_,hl,_,_=>by simp at hl
theorem ZV.flatG {x:PV}{v:V}{G:List Addr} (f:x.flat=true) (h:ZV K H x v G):ZV K H x v []:=Rep.tree f (h.rep (S:=fun _=>True) fun _ _=>trivial)
end
section
variable {K:W.Frag}{B:Addr->Prop}{EX:PX->Hp->Prop}{H0 H H':Hp}{σ:St}{Γ Γ' Γ1 Γ2 Γ3:List Md}{ρ:List PV}{F F':Nat->List Addr}{R:List Addr}{ta tb:TE}{f fa fb:List PV->Rr PV}{k:Kd}
theorem Res.newBox {H1:Hp}{F1:Nat->List Addr}{s:Sh}{xs:List PV}{vs:List V}{u:HO}{p:Addr}{S:Addr->Prop} (s1:Z0 H H1) (f1:∀i,∀a∈F1 i,a∈F i) (hb:ZjR K s vs u) (p1:Reps K H1 S xs vs) (hx:PV.flats xs=true) (A1:Ag K B H0 H1 σ Γ' ρ F1 R) (hp:H1 p=none) :
  Res K B H0 H σ Γ' ρ F R .F (.box none s xs) (.ref p) (upd H1 p u):=by
 have e:Z0 H1 (upd H1 p u):=Z0.new hp
 refine⟨F1,f1,[p],⟨p,vs,u,[],rfl,Zw,⟨trivial,hb⟩,(Reps.trees hx p1).same e,by simp,rfl⟩,fun a ha=>?_,A1.newB hb.lv hp⟩
 rw[ZtD.mp ha]
 exact⟨(A1.fresh hp).1,.inl (s1.free hp)⟩
theorem ZhA:DE K EX Γ Γ .F ZhX (fun _=>.ok (.box none (.dt []) [])):=fun B H0 H σ ρ F R Q A d p hp =>
 d _ _ (Z0.new hp) (Res.newBox (S:=fun _=>True) (vs:=[]) (Z0.refl _) (fun _ _ h=>h) ⟨rfl,rfl⟩ rfl rfl A hp)
noncomputable def dAt (x y:PV):Option (Option PV):=match x,y with
 |.box _ (.dk ks) xs,y=>(ZdY y).map fun k=>atK ks xs k
 |.box _ (.dt ks) xs,.tup ys=>(Uw ys).map fun k=>atK ks xs k
 |_,_=>none
noncomputable def Zl9 (g:Bool->Bool) (y x:PV):Rr PV:=match dAt x y with
 |some o=>.ok (.bl (g o.isSome))
 |none=>.bad
noncomputable def ZgV (x y:PV):Rr PV:=match dAt x y with
 |some (some z)=>.ok z
 |_=>.bad
theorem Zgc {x y:PV}{v w:V}{o:Option PV}{S:Addr->Prop} (hx:Rep K H S x v) (hy:Rep K H (fun _=>True) y w) (e:dAt x y=some o) :
  ∃a r,v=.ref a/\ZjP H a w r/\r.isSome=o.isSome/\∀z,o=some z->∃u,r=some u/\Rep K H S z u:=by
 have fin:∀{κ:Type} [DecidableEq κ] {ks:List κ}{xs:List PV}{vs:List V}{k:κ},Reps K H S xs vs->o=atK ks xs k->(atK ks vs k).isSome=o.isSome/\∀z,o=some z->∃u,atK ks vs k=some u/\Rep K H S z u:=fun {κ} _ {ks xs vs k} h e=>by
  have:=ZcA (ks:=ks) (k:=k) h
  rw[<- e] at this
  cases o with
  |none=>exact⟨by rw[this];rfl,fun z q=>by cases q⟩
  |some z =>
   obtain⟨u,e1,e2⟩:=this
   exact⟨by rw[e1];rfl,fun z' q=>by cases q;exact⟨u,e1,e2⟩⟩
 unfold dAt at e
 split at e
 ·rename_i p ks xs
  obtain⟨a,vs,u,rfl,hr,⟨_,hl,rfl⟩,hxs⟩:=hx
  cases ek:ZdY y with
  |none=>rw[ek] at e;cases e
  |some k =>
   rw[ek] at e
   cases e
   rw[Zap ek] at hy
   obtain⟨g1,g2⟩:=fin (ks:=ks) (k:=k) hxs rfl
   exact⟨a,atK ks vs k,rfl,.inl ⟨_,k,hr.1,Zb9 hy,(Zaa hl).symm⟩,g1,g2⟩
 ·rename_i p ks xs ys
  obtain⟨a,vs,u,rfl,hr,⟨_,hl,rfl⟩,hxs⟩:=hx
  cases ek:Uw ys with
  |none=>rw[ek] at e;cases e
  |some k =>
   rw[ek] at e
   cases e
   rw[Qo ek] at hy
   obtain⟨b,ws,rfl,hb,hws⟩:=hy
   rw[UT hws] at hb
   obtain⟨g1,g2⟩:=fin (ks:=ks) (k:=k) hxs rfl
   exact⟨a,atK ks vs k,rfl,.inr ⟨_,k,b,hr.1,rfl,hb.1,(Zaa hl).symm⟩,g1,g2⟩
 ·cases e
theorem Zlk (ha:DE K EX Γ Γ1 .A ta fa) (hb:DE K EX Γ1 Γ2 .A tb fb):DE K EX Γ Γ2 .P (ZmB ta tb) (fun ρ=>(fa ρ).bind fun y=>(fb ρ).bind fun x=>Zl9 id y x):=fun B H0 H σ ρ F R Q A d=>by
 refine two ha hb A d.bind2 fun y x w v H' F' d s f py px A'=>?_
 unfold Zl9 at d
 cases e:dAt x y with
 |none=>rw[e] at d;exact d.elim
 |some o =>
  rw[e] at d
  obtain⟨a,r,rfl,g1,g2,_⟩:=Zgc px py e
  exact⟨a,r,rfl,g1,by rw[g2];exact d _ _ s ⟨F',f,rfl,rfl,A'⟩⟩
theorem Zjy (ha:DE K EX Γ Γ1 .A ta fa) (hb:DE K EX Γ1 Γ2 .A tb fb):DE K EX Γ Γ2 .A (Zkf ta tb) (fun ρ=>(fa ρ).bind fun x=>(fb ρ).bind fun y=>ZgV x y):=fun B H0 H σ ρ F R Q A d=>by
 refine two ha hb A d.bind2 fun x y v w H' F' d s f px py A'=>?_
 unfold ZgV at d
 cases e:dAt x y with
 |none=>rw[e] at d;exact d.elim
 |some o =>
  rw[e] at d
  cases o with
  |none=>exact d.elim
  |some z =>
   obtain⟨a,r,rfl,g1,_,g3⟩:=Zgc px py e
   obtain⟨u,rfl,hu⟩:=g3 z rfl
   exact⟨a,u,rfl,g1,d _ _ s ⟨F',f,hu,A'⟩⟩
noncomputable def Zff (x y z:PV):Rr PV:=match x,y with
 |.box p (.dk ks) xs,y=>match ZdY y with
  |some k=>if xs.length<1000000/\(Zma k ks=false\/z.flat=true) then .ok (.box p (.dk (Ug ks k)) (putXs ks xs k z)) else .bad
  |none=>.bad
 |.box p (.dt ks) xs,.tup ys=>match Uw ys with
  |some k=>if xs.length<1000000/\(Zma k ks=false\/z.flat=true) then .ok (.box p (.dt (Ug ks k)) (putXs ks xs k z)) else .bad
  |none=>.bad
 |_,_=>.bad
theorem Za8 {κ:Type} [DecidableEq κ] {ks:List κ}{xs:List PV}{vs:List V}{k:κ}{y:PV}{w:V}{G G2:List Addr} (hl:ks.length=xs.length) (h:Trees K H xs vs G) (hy:ZV K H y w G2) (hd:∀a∈G,a ∉ G2) (hk:k∈ks->y.flat=true) :
  ∃G',(∀a∈G',a∈G\/a∈G2)/\Trees K H (putXs ks xs k y) (putXs ks vs k w) G':=by
 unfold putXs
 by_cases c:k∈ks
 ·rw[if_pos c,if_pos c]
  obtain⟨G',g1,g2⟩:=QJ (k:=k) hl h (hy.flatG (hk c))
  exact⟨G',fun a ha=>.inl (g1 a ha),g2⟩
 ·rw[if_neg c,if_neg c]
  exact⟨G++G2,fun a ha=>ZsW.mp ha,Trees.append h (Trees.one hy) hd⟩
theorem Zh3 {i:Nat}{tv:TE}{fv:List PV->Rr PV} (hm:Γ1[i]?=some .O) (hv:DE K EX Γ Γ1 .F tv fv) (hk:DE K EX Γ1 Γ1 .A tb fb) :
  DS K EX Γ ⟨Γ1,Γ2,Γ3,k⟩ (Zkm (Ut i) tb tv) (fun ρ=>(fv ρ).thenS fun z=>(fb ρ).thenS fun y=>(Zff (gv i ρ) y z).thenS fun x=>.next (ρ.set i x)):=fun B H0 H σ ρ F D A d=>by
 refine hv B H0 H σ ρ F [] _ A (d.thenS.imp (fun z _ d w H1 s1 r1=>?_) fun e q=>q)
 obtain⟨F1,f1,G2,t1,o1,A1⟩:=r1
 obtain⟨v,h1,h2⟩:=A1.getO hm
 refine⟨v,h1,hk B H0 H1 σ ρ F1 (G2++[]) _ A1 (d.thenS.imp (fun y _ d yv H2 s2 r2=>?_) fun e q=>q)⟩
 obtain⟨F2,f2,p2,A2⟩:=r2
 obtain⟨v',h1',h2'⟩:=A2.getO hm
 rw[h1] at h1';cases h1'
 have d:=d.thenS
 have t2:=t1.same s2
 have core:∀{p:Option Addr}{s s':Sh}{xs xs':List PV}{a:Addr}{vs vs':List V}{u u':HO}{G G':List Addr},ρ.getD i .non=.box p s xs->H2 a=some u->ZlC p a->Trees K H2 xs vs G->a ∉ G->F2 i=a::G->ZjR K s' vs' u'->Trees K H2 xs' vs' G'->(∀b∈G',b∈G\/b∈G2) ->
   σ[i]?=some (some (.ref a))->DnS K B EX ⟨Γ1,Γ2,Γ3,k⟩ H0 H F D (.next (ρ.set i (.box p s' xs')))->D.nx σ (upd H2 a u'):=fun {p s s' xs xs' a vs vs' u u' G G'} er hH hpn ht hn hF hb ht' hsub hσ d=>by
  have haF:a∈F2 i:=by rw[hF];simp
  have na2:a ∉ G2:=fun z=>A2.disjR i a haF (ZsU _ z)
  have hna:a ∉ G':=fun z=>(hsub a z).elim hn na2
  have hsub2:∀b∈a::G',b∈F2 i\/b∈G2:=fun b hb=>by
   rcases ZsZ.mp hb with rfl|hb
   ·exact .inl haF
   ·rcases hsub b hb with z|z
    ·exact .inl (by rw[hF];simp[z])
    ·exact .inr z
  obtain⟨lv,hlv⟩:=A2.live i a haF
  refine d σ _ (VB F2 i (a::G')) (Qt (s1.trans s2) (fun j b hb=>f1 j b (f2 j b hb)) haF fun b hb=>?_) (Ag.chgB hb.lv (G:=G2) (R:=[]) A2 hm haF hsub2 (by simp) ?_)
  ·rcases hsub2 b hb with z|z
   ·exact .inr ⟨i,f1 i b (f2 i b z)⟩
   ·exact(o1 b z).2
  ·exact⟨_,hσ,a,vs',u',G',rfl,Zw,⟨hpn,hb⟩,Trees.putL hlv hna ht',hna,rfl⟩
 unfold Zff at d
 split at d
 ·rename_i p ks xs er _ _
  rw[show ρ.getD i .non=.box p (.dk ks) xs from er] at h2'
  obtain⟨a,vs,u,G,rfl,hH,⟨hpn,hl,rfl⟩,ht,hn,hF⟩:=h2'
  split at d
  ·rename_i kk ek
   split at d
   ·rename_i hc
    rw[Zap ek] at p2
    have hl':ks.length=xs.length:=by rw[hl,ht.length]
    have dj:∀b∈G,b ∉ G2:=fun b hb z=>A2.disjR i b (by rw[hF];simp[hb]) (ZsU _ z)
    obtain⟨G',g1,g2⟩:=Za8 (k:=kk) hl' ht t2 dj (fun c=>hc.2.resolve_left (fun z=>Zfs z c))
    refine⟨a,_,rfl,.inl ⟨_,kk,hH,Zb9 p2, ?_,rfl⟩,core er hH hpn ht hn hF (s':=.dk (Ug ks kk)) (vs':=putXs ks vs kk w) ⟨Zah hl, ?_⟩ g2 g1 h1 d⟩
    ·rw[Zuk,hl,Nat.min_self,ht.length];exact ZsY hc.1 (by decide)
    ·rw[ZcE hl]
   ·exact d.elim
  ·exact d.elim
 ·rename_i p ks xs ys er _ _
  rw[show ρ.getD i .non=.box p (.dt ks) xs from er] at h2'
  obtain⟨a,vs,u,G,rfl,hH,⟨hpn,hl,rfl⟩,ht,hn,hF⟩:=h2'
  split at d
  ·rename_i kk ek
   split at d
   ·rename_i hc
    rw[Qo ek] at p2
    obtain⟨b,ws,rfl,hb,hws⟩:=p2
    rw[UT hws] at hb
    have hl':ks.length=xs.length:=by rw[hl,ht.length]
    have dj:∀b∈G,b ∉ G2:=fun b hb z=>A2.disjR i b (by rw[hF];simp[hb]) (ZsU _ z)
    obtain⟨G',g1,g2⟩:=Za8 (k:=kk) hl' ht t2 dj (fun c=>hc.2.resolve_left (fun z=>Zfs z c))
    refine⟨a,_,rfl,.inr ⟨_,kk,b,hH,rfl,hb.1, ?_,rfl⟩,core er hH hpn ht hn hF (s':=.dt (Ug ks kk)) (vs':=putXs ks vs kk w) ⟨Zah hl, ?_⟩ g2 g1 h1 d⟩
    ·rw[Zuk,hl,Nat.min_self,ht.length];exact ZsY hc.1 (by decide)
    ·rw[ZcE hl]
   ·exact d.elim
  ·exact d.elim
 ·exact d.elim
end
section
variable {X:Cx}{K:W.Frag}
def Zib (K:W.Frag):List V->Hp->VK->Prop:=fun xs H Q=>∃p ys,xs=[.ref p]/\((SqL K H p ys/\∀l,H l=none->Q (.ref l) (upd H l (.tup ys)))\/(SqT K H p ys/\Q (.ref p) H))
theorem Zcn (e:X.K=K:=by rfl):Vb X (.type "tuple") (Zib K):=by subst e;exact Za0
theorem Zgm:bootBuiltins "tuple"=some (.type "tuple"):=by decide +kernel
variable {B:Addr->Prop}{EX:PX->Hp->Prop}{H0 H:Hp}{σ:St}{Γ Γ':List Md}{ρ:List PV}{F:Nat->List Addr}{R:List Addr}{ta:TA}{fa:List PV->Rr (List PV)}
noncomputable def ZeU (xs:List PV):Rr PV:=match xs with
 |[.lst ys]=>.ok (.tup ys)
 |[.tup ys]=>.ok (.tup ys)
 |_=>.bad
theorem Zh6 (ha:DAA K EX Γ Γ' ta fa):DE K EX Γ Γ' .A (tCB (Zib K) ta) (fun ρ=>(fa ρ).bind ZeU):=fun B H0 H σ ρ F R Q A d=>by
 refine ha B H0 H σ ρ F R _ A (d.bind.imp (fun xs _ d vs H1 F1 s1 f1 p1 A1=>?_) fun e q=>q)
 unfold ZeU at d
 split at d
 ·obtain⟨v,rfl,a,ws,rfl,hn,hr⟩:=UV p1
  refine⟨a,ws,rfl,.inl ⟨JN (S:=fun _=>True) hn,fun l hl=>?_⟩⟩
  have e:=Z0.new (H:=H1) (o:=.tup ws) hl
  exact d _ _ (s1.trans e) ⟨F1,f1,⟨l,ws,rfl,⟨Zw,trivial⟩,hr.same e⟩,A1.grow e⟩
 ·obtain⟨v,rfl,a,ws,rfl,hn,hr⟩:=UV p1
  exact⟨a,ws,rfl,.inr ⟨hn.sqT,d _ _ s1 ⟨F1,f1,⟨a,ws,rfl,hn,hr⟩,A1⟩⟩⟩
 ·exact d.elim
end
noncomputable def ins {α:Type}:Nat->α->List α->List α
 |0,v,us=>v::us
 |_+1,v,[]=>[v]
 |j+1,v,u::us=>u::ins j v us
theorem Vr {α:Type}:∀{j:Nat}{v:α}{us:List α},(ins j v us).length=us.length+1
 |0,_,_=>rfl
 |_+1,_,[]=>rfl
 |j+1,v,u::us=>by simp[ins,Vr (j:=j) (v:=v) (us:=us)]
theorem VW {α:Type}:∀{j:Nat}{v:α}{us:List α} (i:Nat),j<=us.length->(ins j v us)[i]?=if i<j then us[i]? else if i=j then some v else us[i-1]?
 |0,v,us,0,_=>rfl
 |0,v,us,i+1,_=>by simp[ins]
 |j+1,v,[],_,h=>by simp at h
 |j+1,v,u::us,0,_=>rfl
 |j+1,v,u::us,i+1,h=>by
  have:=VW (j:=j) (v:=v) (us:=us) i (by simpa using h)
  rw[ins,List.getElem?_cons_succ,this]
  by_cases c:i<j
  ·rw[if_pos c,if_pos (show i+1<j+1 by omega)];rfl
  ·by_cases e:i=j
   ·rw[if_neg c,if_pos e,if_neg (show ¬i+1<j+1 by omega),if_pos (show i+1=j+1 by omega)]
   ·rw[if_neg c,if_neg e,if_neg (show ¬i+1<j+1 by omega),if_neg (show ¬i+1=j+1 by omega)]
    obtain⟨m,rfl⟩:∃m,i=m+1:=⟨i-1,by omega⟩
    rfl
theorem ZaX {α β:Type}{f:α->β}:∀{j:Nat}{v:α}{us:List α},(ins j v us).map f=ins j (f v) (us.map f)
 |0,_,_=>rfl
 |_+1,_,[]=>rfl
 |j+1,v,u::us=>by simp[ins,ZaX (j:=j) (v:=v) (us:=us)]
theorem ZaY {α:Type}{r:List α}:∀{j:Nat}{v:α}{us:List α},j<=us.length->ins j v us++r=ins j v (us++r)
 |0,_,_,_=>rfl
 |_+1,_,[],h=>by simp at h
 |j+1,v,u::us,h=>by
  show u::(ins j v us++r)=u::ins j v (us++r)
  rw[ZaY (by simpa using h)]
section
variable {K:W.Frag}{H:Hp}
theorem ZV.pin {p:Option Addr}{s:Sh}{ys:List PV}{a:Addr}{G:List Addr} (h:ZV K H (.box p s ys) (.ref a) G):ZV K H (.box (some a) s ys) (.ref a) G:=by
 obtain⟨a',vs,u,G',e,h1,h2,h3⟩:=h
 cases e
 exact⟨a,vs,u,G',rfl,h1,⟨rfl,h2.2⟩,h3⟩
theorem ZV.unpin {p:Option Addr}{s:Sh}{ys:List PV}{v:V}{G:List Addr} (h:ZV K H (.box p s ys) v G):ZV K H (.box none s ys) v G:=by
 obtain⟨a',vs,u,G',e,h1,h2,h3⟩:=h
 exact⟨a',vs,u,G',e,h1,⟨trivial,h2.2⟩,h3⟩
theorem ZV.repin {p:Option Addr}{s:Sh}{ys:List PV}{a:Addr}{G:List Addr} (hp:ZlC p a) (h:ZV K H (.box none s ys) (.ref a) G):ZV K H (.box p s ys) (.ref a) G:=by
 obtain⟨a',vs,u,G',e,h1,h2,h3⟩:=h
 cases e
 exact⟨a,vs,u,G',rfl,h1,⟨hp,h2.2⟩,h3⟩
theorem ZV.pinned {b:Addr}{s:Sh}{ys:List PV}{v:V}{G:List Addr} (h:ZV K H (.box (some b) s ys) v G):v=.ref b:=by
 obtain⟨a',vs,u,G',e,h1,h2,h3⟩:=h
 rw[e,show a'=b from h2.1]
end
noncomputable def spM (K:W.Frag) (n j:Nat) (m:PV->List PV->Rr PV):Sp:=fun vs H Q E=>∃(B:Addr->Prop) (xs:List PV) (us:List V) (a:Addr) (s:Sh) (ys:List PV) (G:List Addr),
 vs=ins j (.ref a) us/\xs.length=n/\Reps K H B xs us/\ZV K H (.box none s ys) (.ref a) G/\(∀b,B b->b ∉ G) /\
 Dn (m (.box none s ys) xs) (fun r=>∃y s' ys',r=.tup [y,.box none s' ys']/\∀u H' G1 G2,Z0 (minus H G) H'->ZV K H' y u G1->ZV K H' (.box none s' ys') (.ref a) G2->(∀b∈G1,b ∉ G2)->(∀b∈G1,minus H G b=none)->(∀b∈G2,minus H G b=none)->Q u H') (fun _=>False)
noncomputable def ZgI (a:Addr) (b:PV):PV:=match b with
 |.box _ s ys=>.box (some a) s ys
 |x=>x
noncomputable def ZlQ (a:Addr) (r:Rr PV):Rr PV:=match r with
 |.ok (.tup [y,.box _ s ys])=>.ok (.tup [y,.box (some a) s ys])
 |.ok _=>.bad
 |.exc e=>.exc e
 |.bad=>.bad
noncomputable def RS.outN (j:Nat) (r:RS):Rr PV:=match r with
 |.next ρ=>.ok (.tup [.non,gv j ρ])
 |.ret x=>.ok x
 |.exc e=>.exc e
 |_=>.bad
section
variable {K:W.Frag}{B:Addr->Prop}{EX:PX->Hp->Prop}{H0 H:Hp}{σ:St}{Γ Γ' Γ1 Γ2 Γ3:List Md}{ρ:List PV}{F:Nat->List Addr}
theorem Ag.initM {s:Sh}{ys:List PV}{a:Addr}{G:List Addr}{xs:List PV}{us:List V}{j l:Nat} (ht:ZV K H (.box none s ys) (.ref a) G) (h:Reps K H B xs us) (hB:∀b,B b->b ∉ G) (hj:j<=xs.length) :
  Ag K (fun b=>B b\/minus H G b=none) (minus H G) H (ins j (some (.ref a)) (us.map some++List.replicate l none)) (ins j .O (List.replicate xs.length .S++List.replicate l .U)) (ins j (.box (some a) s ys) (xs++List.replicate l .non)) (VB (fun _=>[]) j G) []:=by
 have fin:∀i,∀b∈VB (fun _=>[]) j G i,i=j/\b∈G:=fun i b hb=>by
  unfold VB at hb
  split at hb
  ·exact⟨by assumption,hb⟩
  ·simp at hb
 have A:=Ag.init (n:=l) h
 refine⟨ZdR,fun b h=>.inr h,fun i b hb=>Zdb (fin i b hb).2,by simp,fun i b hb=>ht.alive b (fin i b hb).2,by simp,fun i k hik b hb z=>hik ((fin i b hb).1.trans (fin k b z).1.symm),by simp,by simp[Vr,h.length],by simp[Vr],fun i=>?_⟩
 have hjs:j<=(us.map some++List.replicate l (none:Option V)).length:=by simp[h.length];omega
 have hjg:j<=(List.replicate xs.length Md.S++List.replicate l Md.U).length:=by simp;omega
 have hjr:j<=(xs++List.replicate l PV.non).length:=by simp;omega
 rw[ZsQ,ZsQ,VW i hjs,VW i hjg,VW i hjr]
 have go:∀q,q≠j\/True->Ud K H (NO (fun b=>B b\/minus H G b=none) (VB (fun _=>[]) j G) []) ((List.replicate xs.length Md.S++List.replicate l Md.U)[q]?.getD .U) ((xs++List.replicate l PV.non)[q]?.getD .non) (us.map some++List.replicate l none)[q]? []:=fun q _=>by
  have sl:=A.slot q
  rw[ZsQ,ZsQ] at sl
  refine sl.mono (fun b u s r=>⟨r, ?_,by simp,fun k z=>?_⟩) (fun b u r=>r) (fun b hb=>by cases hb)
  ·rcases s.1 with s|s
   ·exact .inl s
   ·exact .inr (by
     by_cases q:b∈G
     ·exact Zdb q
     ·rw[Zy q];exact s)
  ·have z:=(fin k b z).2
   rcases s.1 with s|s
   ·exact hB b s z
   ·obtain⟨vs,q⟩:=ht.alive b z
    rw[s] at q;cases q
 by_cases c:i<j
 ·rw[if_pos c,if_pos c,if_pos c,Zx (by omega)]
  exact go i (.inr trivial)
 ·rw[if_neg c,if_neg c,if_neg c]
  by_cases e:i=j
  ·rw[if_pos e,if_pos e,if_pos e]
   subst e
   rw[Zr]
   exact⟨_,rfl,ht.pin⟩
  ·rw[if_neg e,if_neg e,if_neg e,Zx e]
   exact go (i-1) (.inr trivial)
noncomputable def ZmH (y x:PV):RS:=match x with
 |.box (some a) s xs=>.ret (.tup [y,.box (some a) s xs])
 |_=>.bad
theorem Zau {j:Nat}{te:TE}{f:List PV->Rr PV} (he:DE K EX Γ Γ' .F te f) (hm:Γ'[j]?=some .O):DS K EX Γ ⟨Γ3,Γ1,Γ2,.N⟩ (ZjZ te) (fun ρ=>(f ρ).thenS fun y=>ZmH y (gv j ρ)):=fun B H0 H σ ρ F D A d=>by
 refine he B H0 H σ ρ F [] _ A (d.thenS.imp (fun y _ d v H1 s1 r1=>?_) fun e q=>q)
 obtain⟨F1,f1,G,h1,h2,A1⟩:=r1
 unfold ZmH at d
 split at d
 ·rename_i a s xs ex
  obtain⟨w,w1,w2⟩:=A1.getO hm
  rw[show ρ.getD j .non=.box (some a) s xs from ex] at w2
  have:=w2.pinned
  subst this
  exact d v H1 A1.same ⟨y,a,s,xs,G,F1 j,rfl,h1,w2,fun b hb z=>A1.disjR j b z (ZsU _ hb),fun b hb=>A1.youngR b (ZsU _ hb),fun b hb=>A1.young j b hb⟩
 ·exact d.elim
end
section
variable {P:Program}{w:World}{K:W.Frag}{mg:Str->Option Value}{base:Heap}
theorem Fun.okM {x qual:Str}{st:Stmt}{f:Addr}{fd:FuncData}{N ps:List Str}{k n l j:Nat}{m:PV->List PV->Rr PV} (F:Fun K x qual st f fd) (S:Zu N ps (Zd st)) (hn:ps.length=n+1) (hl:N.length-(n+1)=l) (hj:j<=n)
  (hbody:∀(cdv:Value) (A:Around) (outer:List Env) (s:Shared) (H:Hp) (E:XK),V2 k (A.deeper (envOfC qual (Zd st) s.heap.objs.size f cdv)) ->
   ∃t g Y,Y.r=.N/\Y.n[j]?=some .O/\PSs (U0 CX0 P w K mg base N qual (Zd st) f cdv A outer s H E).nox (Zo st) t/\DS K X0 (ins j .O (List.replicate n .S++List.replicate l .U)) Y t g /\
    ∀a b xs,Ref (ZlQ a (m b xs)) ((g (ins j (ZgI a b) (xs++List.replicate l .non))).outN j)) :
  Jk P w K mg base CX0 (k+1) f fd ps (spM K n j m):=by
 refine F.ok S (fun vs H Q E h=>?_) (fun cdv A outer s H vs Q E hr h=>?_)
 ·obtain⟨B,xs,us,a,s,ys,G,rfl,h1,h2,_⟩:=h
  rw[Vr,h2.length,h1,hn]
 ·obtain⟨B,xs,us,a,s',ys,G,rfl,h1,h2,h3,h4,dn⟩:=h
  obtain⟨t,g,Y,hY,hYn,ht,hd,href⟩:=hbody cdv A outer s H E hr
  refine⟨t,ht, ?_⟩
  have A0:=Ag.initM (l:=l) h3 h2 h4 (show j<=xs.length by omega)
  have est:VN N (ins j (.ref a) us)=ins j (some (.ref a)) (us.map some++List.replicate l none):=by
   unfold VN
   rw[Vr,h2.length,h1,hl,ZaX,ZaY (by rw[ZsS,h2.length];omega)]
  rw[est]
  rw[h1] at A0
  refine hd _ (minus H G) H _ _ _ _ A0 ?_
  have hr:=href a (.box none s' ys) xs
  rw[show ZgI a (.box none s' ys)=.box (some a) s' ys from rfl] at hr
  cases em:m (.box none s' ys) xs with
  |bad=>rw[em] at dn;exact dn.elim
  |exc q=>rw[em] at dn;exact dn.elim
  |ok r =>
   rw[em] at dn hr
   obtain⟨y,s2,ys2,rfl,q⟩:=dn
   have ho:(g (ins j (.box (some a) s' ys) (xs++List.replicate l .non))).outN j=.ok (.tup [y,.box (some a) s2 ys2]):=by
    rcases hr with e|e
    ·cases e
    ·exact e.symm
   cases e:g (ins j (.box (some a) s' ys) (xs++List.replicate l .non)) with
   |next ρ =>
    rw[e] at ho
    have hy:PV.tup [.non,gv j ρ]=.tup [y,.box (some a) s2 ys2]:=by simpa[RS.outN] using ho
    simp only[PV.tup.injEq,List.cons.injEq,and_true] at hy
    obtain⟨rfl,hb⟩:=hy
    refine fun σ' H' F' fr A'=>?_
    obtain⟨v,w1,w2⟩:=A'.getO hYn
    rw[show ρ.getD j .non=.box (some a) s2 ys2 from hb] at w2
    have:=w2.pinned
    subst this
    exact q .non H' [] (F' j) A'.same ⟨rfl,rfl⟩ w2.unpin (by simp) (by simp) fun b hb=>A'.young j b hb
   |ret z =>
    rw[e] at ho
    have hy:z=.tup [y,.box (some a) s2 ys2]:=by simpa[RS.outN] using ho
    subst hy
    refine fun v H' s r=>?_
    rw[hY] at r
    obtain⟨y',a',s3,xs3,G1,G2,e1,r1,r2,r3,r4,r5⟩:=r
    simp only[PV.tup.injEq,List.cons.injEq,and_true,PV.box.injEq,Option.some.injEq] at e1
    obtain⟨rfl,rfl,rfl,rfl⟩:=e1
    exact q v H' G1 G2 s r1 r2.unpin r3 r4 r5
   |exc q=>rw[e] at ho;cases ho
   |brk ρ=>rw[e] at ho;cases ho
   |cont ρ=>rw[e] at ho;cases ho
   |bad=>rw[e] at ho;cases ho
end
def NoE {α:Type} (f:List PV->Rr α):Prop:=∀ρ e,f ρ≠.exc e
def DER (K:W.Frag) (Γ:List Md) (te:TE) (f:List PV->Rr PV):Prop:=NoE f /\
 ∀(B:Addr->Prop) (H0 H:Hp) (σ:St) (ρ:List PV) (F:Nat->List Addr) (R:List Addr) (Q:VK),Ag K B H0 H σ Γ ρ F R ->
  (∃x,f ρ=.ok x/\∀v,Rep K H (fun a=>a ∉ R) x v->Q v H)->te σ H Q
def DAR (K:W.Frag) (Γ:List Md) (ta:TA) (f:List PV->Rr (List PV)):Prop:=NoE f /\
 ∀(B:Addr->Prop) (H0 H:Hp) (σ:St) (ρ:List PV) (F:Nat->List Addr) (R:List Addr) (Q:List V->Hp->Prop),Ag K B H0 H σ Γ ρ F R ->
  (∃xs,f ρ=.ok xs/\∀vs,Reps K H (fun a=>a ∉ R) xs vs->Q vs H)->ta σ H Q
def DAM (K:W.Frag) (Γ:List Md) (i j:Nat) (ta:TA) (f:List PV->Rr (List PV)):Prop:=NoE f /\
 ∀(B:Addr->Prop) (H0 H:Hp) (σ:St) (ρ:List PV) (F:Nat->List Addr) (R:List Addr) (v:V) (Q:List V->Hp->Prop),Ag K B H0 H σ Γ ρ F R->σ[i]?=some (some v) ->
  (∃xs,f ρ=.ok xs/\∀vs,Reps K H (fun a=>a ∉ R) xs vs->Q (ins j v vs) H)->ta σ H Q
theorem bind_ok {α β:Type}{r:Rr α}{g:α->Rr β}{y:β} (h:r.bind g=.ok y):∃x,r=.ok x/\g x=.ok y:=by
 cases r with
 |ok x=>exact⟨x,rfl,h⟩
 |exc e=>cases h
 |bad=>cases h
theorem ZcX {α β:Type}{f:List PV->Rr α}{g:List PV->α->Rr β} (h1:NoE f) (h2:∀ρ x e,g ρ x≠.exc e):NoE (fun ρ=>(f ρ).bind (g ρ)):=fun ρ e q=>by
 cases ef:f ρ with
 |ok x=>simp only[ef] at q;exact h2 ρ x e q
 |exc e'=>exact h1 ρ e' ef
 |bad=>simp only[ef] at q;cases q
section
variable {K:W.Frag}{B:Addr->Prop}{EX:PX->Hp->Prop}{H0 H H':Hp}{σ:St}{Γ Γ1 Γ2:List Md}{ρ:List PV}{F F':Nat->List Addr}{R:List Addr}{te:TE}{ta:TA}{f:List PV->Rr PV}{fa:List PV->Rr (List PV)}{i j n:Nat}{m:PV->List PV->Rr PV}
theorem ZfQ {l:Nat}{md:Md} (h:Γ[l]?=some md) (hm:md≠.U):DER K Γ (Ut l) (fun ρ=>.ok (gv l ρ)):=⟨fun ρ e q=>(by cases q),fun B H0 H σ ρ F R Q A d=>by
 obtain⟨x,e,d⟩:=d
 cases e
 cases md with
 |U=>exact absurd rfl hm
 |P=>obtain⟨v,h1,h2,h3⟩:=A.getP h;exact⟨v,h1,d v (h3.flatS h2)⟩
 |S=>obtain⟨v,h1,h2⟩:=A.getS h;exact⟨v,h1,d v (Rep.mono (fun a u s r=>⟨r,s.2.1⟩) (fun a u r=>r) h2)⟩
 |T =>
  obtain⟨a,vs,xs,h1,h2,h3,h4,h5⟩:=A.getT h
  refine⟨_,h1,d _ ?_⟩
  rw[show gv l ρ=.lst xs from h2]
  exact⟨a,vs,rfl,.inl ⟨.inl h3,A.disjR l a (by rw[h5];simp)⟩,Reps.mono (fun a u s r=>⟨r,s.2.1⟩) (fun a u r=>r) h4⟩
 |O=>obtain⟨v,h1,h2⟩:=A.getO h;exact⟨v,h1,d v (h2.rep fun a ha=>A.disjR l a ha)⟩⟩
theorem Zj3:DAR K Γ ZdC (fun _=>.ok []):=⟨fun ρ e q=>(by cases q),fun B H0 H σ ρ F R Q A d=>by
 obtain⟨x,e,d⟩:=d
 cases e
 exact d [] rfl⟩
theorem Zd4 (he:DER K Γ te f) (ha:DAR K Γ ta fa):DAR K Γ (Vk te ta) (fun ρ=>(f ρ).bind fun x=>(fa ρ).bind fun xs=>.ok (x::xs)):=⟨ZcX he.1 fun ρ x e q=>(ZcX (g:=fun _ xs=>.ok (x::xs)) ha.1 fun _ y e q=>by cases q) ρ e q,fun B H0 H σ ρ F R Q A d=>by
 obtain⟨z,e,d⟩:=d
 obtain⟨x,e1,e⟩:=bind_ok e
 obtain⟨y,e2,e⟩:=bind_ok e
 cases e
 exact he.2 B H0 H σ ρ F R _ A ⟨x,e1,fun v hv=>ha.2 B H0 H σ ρ F R _ A ⟨y,e2,fun vs hvs=>d _ ⟨v,vs,rfl,hv,hvs⟩⟩⟩⟩
theorem ZhD (ha:DAR K Γ ta fa):DAM K Γ i 0 (Vk (Ut i) ta) fa:=⟨ha.1,fun B H0 H σ ρ F R v Q A hv d=>⟨v,hv,ha.2 B H0 H σ ρ F R _ A d⟩⟩
def DM (K:W.Frag) (EX:PX->Hp->Prop) (Γ:List Md) (i:Nat) (te:TE) (fm:List PV->Rr (PV×PV)):Prop:=
 ∀(B:Addr->Prop) (H0 H:Hp) (σ:St) (ρ:List PV) (F:Nat->List Addr) (Q:VK),Ag K B H0 H σ Γ ρ F [] ->
  Dn (fm ρ) (fun r=>∀v H' F' G,Frm H F H' F'->ZV K H' r.1 v G->(∀b∈G,H b=none\/∃l,b∈F l)->Ag K B H0 H' σ Γ (ρ.set i r.2) F' (G++[])->Q v H') (fun e=>∀H',Z0 H0 H'->EX e H')->te σ H Q
noncomputable def Zbs (m:PV->List PV->Rr PV) (x:PV) (xs:List PV):Rr (PV×PV):=match x with
 |.box p s ys=>match m (.box none s ys) xs with
  |.ok (.tup [y,.box none s' ys'])=>.ok (y,.box p s' ys')
  |_=>.bad
 |_=>.bad
theorem ZhZ {α:Type}{l:List α}{i:Nat}{v:α} (h:l[i]?=some v):l.set i v=l:=by
 apply ZtT
 intro q
 by_cases e:i=q
 ·subst e;rw[Ztg (Zta.mp h).1,h]
 ·rw[Ztk e]
theorem Zjs (hm:Γ[i]?=some .O) (hn:Len fa n) (ha:DAM K (Γ.set i .U) i j ta fa):DM K EX Γ i (Vl (spM K n j m) ta) (fun ρ=>(fa ρ).bind fun xs=>Zbs m (gv i ρ) xs):=fun B H0 H σ ρ F Q A d=>by
 obtain⟨v,h1,h2⟩:=A.getO hm
 have hi:=A.lt hm
 cases ea:fa ρ with
 |bad=>dsimp only at d;rw[ea] at d;exact d.elim
 |exc q=>exact absurd ea (ha.1 ρ q)
 |ok xs =>
  refine ha.2 B H0 H σ ρ _ (F i++[]) v _ (A.move hm) h1 ⟨xs,ea,fun vs hvs=>?_⟩
  dsimp only at d
  rw[ea] at d
  have d:Dn (Zbs m (gv i ρ) xs) _ _:=d
  unfold Zbs at d
  split at d
  ·rename_i p s ys er
   rw[show ρ.getD i .non=.box p s ys from er] at h2
   split at d
   ·rename_i y s2 ys2 em
    obtain⟨a,ws,u0,G0,rfl,hH,hb,ht,hna,hF⟩:=id h2
    refine⟨fun b=>b ∉ F i,xs,vs,a,s,ys,F i,rfl,hn ρ xs ea,Reps.mono (fun b u s r=>⟨r,fun z=>s (by simp[z])⟩) (fun b u r=>r) hvs,h2.unpin,fun b hb z=>hb z, ?_⟩
    rw[em]
    refine⟨y,s2,ys2,rfl,fun u H' G1 G2 sm t1 t2 dj n1 n2=>?_⟩
    have AL:=(A.move hm).lost sm
    have hiU:(Γ.set i .U)[i]?=some .U:=by rw[Ztg hi]
    have nw:∀b,minus H (F i) b=none->(∀l,b ∉ VB F i [] l)/\H0 b=none:=fun b hb=>by
     refine⟨fun l z=>?_, ?_⟩
     ·by_cases q:l=i
      ·subst q;rw[Zr] at z;simp at z
      ·rw[Zx q] at z
       rw[Zy (fun w=>A.disj l i q b z w)] at hb
       obtain⟨o,e⟩:=A.live l b z
       rw[hb] at e;cases e
     ·by_cases q:b∈F i
      ·exact A.young i b q
      ·rw[Zy q] at hb
       exact A.same.free hb
    have AM:Ag K B H0 H' σ (Γ.set i .U) ρ (VB F i []) (G2++(G1++[])):=by
     refine⟨AL.same,AL.own,AL.young,fun b hb=>?_,AL.live,fun b hb=>?_,AL.disj,fun l b hb z=>?_,AL.lenS,AL.lenR,fun l=>?_⟩
     ·rcases ZsW.mp hb with z|z
      ·exact(nw b (n2 b z)).2
      ·exact(nw b (n1 b (by simpa using z))).2
     ·rcases ZsW.mp hb with z|z
      ·exact t2.alive b z
      ·exact t1.alive b (by simpa using z)
     ·rcases ZsW.mp z with z|z
      ·exact(nw b (n2 b z)).1 l hb
      ·exact(nw b (n1 b (by simpa using z))).1 l hb
     ·refine((A.move hm).slot l).mono (fun b o s r=>⟨(r.minus (fun z=>s.2.1 (by simp[z]))).same sm,s.1,fun z=>?_,s.2.2⟩) (fun b o r=>sm.im (r.minus fun c hc=>A.live i c hc)) fun b hb o q=>sm _ _ ?_
      ·have hb:minus H (F i) b≠none:=by
        rw[Zy (fun z=>s.2.1 (by simp[z]))]
        rcases r with r|⟨o',r⟩<;>(rw[r];simp)
       rcases ZsW.mp z with z|z
       ·exact hb (n2 b z)
       ·exact hb (n1 b (by simpa using z))
      ·rw[Zy (fun z=>(A.move hm).disjR l b hb (by simp[z]))];exact q
    have AP:=Ag.put (i:=i) (m:=.O) (x:=.box p s2 ys2) (v:=.ref a) (G:=G2) (R:=G1++[]) AM (by rw[Zt2];exact hi) (fun b hb z=>dj b (by simpa using z) hb) ⟨.ref a,rfl,t2.repin hb.1⟩
    rw[ZhZ h1,Zul,Zc7 hm] at AP
    refine d u H' _ G1 (fun b o h n=>?_) t1 (fun b hb=>?_) AP
    ·have e:minus H (F i) b=some o:=by rw[Zy (n i)];exact h
     refine⟨sm _ _ e,fun l z=>?_⟩
     by_cases q:l=i
     ·subst q
      rw[Zr] at z
      rw[n2 b z] at e;cases e
     ·rw[Zx q,Zx q] at z
      exact n l z
    ·have:=n1 b hb
     by_cases q:b∈F i
     ·exact .inr ⟨i,q⟩
     ·rw[Zy q] at this;exact .inl this
   ·exact d.elim
  ·exact d.elim
variable {fm:List PV->Rr (PV×PV)}{k:Kd}{l:Nat}
theorem Zat {F1:Nat->List Addr}{G:List Addr} (fr:Frm H F H' F1) (hG:∀a∈G,H a=none\/∃j,a∈F j):Frm H F H' (VB F1 l G):=fun b o h n=>by
 obtain⟨h1,h2⟩:=fr b o h n
 refine⟨h1,fun q z=>?_⟩
 by_cases e:q=l
 ·subst e;rw[Zr] at z
  rcases hG b z with w|⟨c,w⟩
  ·rw[h] at w;cases w
  ·exact n c w
 ·rw[Zx e] at z;exact h2 q z
theorem Zh1 (he:DM K EX Γ i te fm) (hl:l<Γ.length):DS K EX Γ ⟨Γ.set l .P,Γ1,Γ2,k⟩ (ZjH te (Zec l)) (fun ρ=>(fm ρ).thenS fun r=>(grd r.1).thenS fun y=>.next ((ρ.set i r.2).set l y)):=fun B H0 H σ ρ F D A d=>by
 refine he B H0 H σ ρ F _ A (d.thenS.imp (fun r _ d v H1 F1 G fr t1 h1 A1=>?_) fun e q=>q)
 unfold grd at d
 split at d
 ·rename_i hf
  exact d _ H1 _ (Zat (G:=[]) fr (by simp)) (Ag.put (G:=[]) (R:=[]) (A1.less (by simp)) hl (by simp) ⟨rfl,v,rfl,hf,t1.rep fun _ _=>trivial⟩)
 ·exact d.elim
theorem JF (he:DM K EX Γ i te fm):DS K EX Γ ⟨Γ,Γ1,Γ2,k⟩ (ZdD te) (fun ρ=>(fm ρ).thenS fun r=>.next (ρ.set i r.2)):=fun B H0 H σ ρ F D A d=>by
 refine he B H0 H σ ρ F _ A (d.thenS.imp (fun r _ d v H1 F1 G fr t1 h1 A1=>?_) fun e q=>q)
 exact d _ H1 _ fr (A1.less (by simp))
end
noncomputable def Pm.fnM (m:Pm) (b:PV) (xs:List PV):Rr PV:=m.fn (b::xs)
theorem hu1 {n c:Nat} (h:n+64<c):n+1<c:=by omega
theorem V1 {m:PV->List PV->Rr PV}{p:Option Addr}{s s':Sh}{ys ys' xs:List PV}{y:PV} (h:m (.box none s ys) xs=.ok (.tup [y,.box none s' ys'])):Zbs m (.box p s ys) xs=.ok (y,.box p s' ys'):=by
 unfold Zbs
 simp only[h]
noncomputable def evK {α:Type} (lt:Nat->Nat->Bool):PySem.W.KasT α->α
 |.ret a=>a
 |.ask i j k=>evK lt (k (lt i j))
noncomputable def InK {α:Type} (n:Nat) (P:α->Prop):PySem.W.KasT α->Prop
 |.ret a=>P a
 |.ask i j k=>i<n/\j<n/\∀b,InK n P (k b)
section
variable {α β:Type}{n:Nat}{P:α->Prop}{R:β->Prop}
theorem InK.bind {f:α->PySem.W.KasT β}:∀{t:PySem.W.KasT α},InK n P t->(∀a,P a->InK n R (f a))->InK n R (t.bind f)
 |.ret a,h,k=>k a h
 |.ask i j c,h,k=>⟨h.1,h.2.1,fun b=>InK.bind (h.2.2 b) k⟩
theorem InK.out {lt:Nat->Nat->Bool}:∀{t:PySem.W.KasT α},InK n P t->P (evK lt t)
 |.ret a,h=>h
 |.ask i j c,h=>(InK.out (t:=c (lt i j)) (h.2.2 (lt i j)):P (evK lt (c (lt i j))))
theorem InK.wp {lt:Nat->Nat->Bool}{s:Shared}{cmp:Nat->Nat->(Bool->Shared->Prop)->Shared->Prop} (hc:∀i j C,i<n->j<n->C (lt i j) s->cmp i j C s) {G:α->Shared->Prop} :
  ∀{t:PySem.W.KasT α},InK n P t->G (evK lt t) s->t.kasWp cmp G s
 |.ret a,_,g=>g
 |.ask i j c,h,g=>hc i j _ h.1 h.2.1 (InK.wp hc (h.2.2 (lt i j)) g)
end
def Gp (n:Nat) (p:Array Nat):Prop:=p.Perm (List.toArray (List.range n))
theorem Gp.lt {n:Nat}{p:Array Nat} (h:Gp n p) (hn:0<n) (k:Nat):p.getD k 0<n:=by
 unfold Array.getD
 split
 ·rename_i hk
  have:p[k]∈List.toArray (List.range n):=h.mem_iff.mp (Array.getElem_mem hk)
  simpa using this
 ·exact hn
theorem Gp.rev {n:Nat}{p:Array Nat} (h:Gp n p) (i j:Nat):Gp n (PySem.W.kas_rev p i j):=(mirror_perm p i j _).trans h
theorem Gp.bub {n:Nat}{p:Array Nat} (h:Gp n p) (i j:Nat):Gp n (bubble p i j):=(bubble_perm p i j).trans h
section
variable {n:Nat}
theorem ZfB {p:Array Nat} (hn:0<n) (h:Gp n p):∀f m,InK n (fun _=>True) (PySem.W.kas_asc p f m)
 |0,m=>trivial
 |f+1,m=>⟨h.lt hn _,h.lt hn _,fun b=>by
  cases b
  ·exact ZfB hn h f (m+1)
  ·exact trivial⟩
theorem Zas (hn:0<n):∀f p m q,Gp n p->InK n (fun r=>Gp n r.1) (PySem.W.kas_desc f p m q)
 |0,p,m,q,h=>h
 |f+1,p,m,q,h=>⟨h.lt hn _,h.lt hn _,fun b=>by
  cases b
  ·refine⟨h.lt hn _,h.lt hn _,fun d=>?_⟩
   cases d
   ·exact Zas hn f p _ _ h
   ·exact h
  ·show InK n _ (if q>0 then _ else _)
   split
   ·exact Zas hn f _ _ _ (h.rev _ _)
   ·exact Zas hn f _ _ _ h⟩
theorem Zdn {p:Array Nat} (hn:0<n) (h:Gp n p) (a b:Nat):InK n (fun r=>Gp n r.2) (PySem.W.kas_tail3 a b p):=InK.bind (ZfB hn (h.rev _ _) _ _) fun _ _=>h.rev _ _
theorem Qs {p:Array Nat} (hn:0<n) (h:Gp n p) (a b:Nat):InK n (fun r=>Gp n r.2) (PySem.W.kas_descPart a b p):=InK.bind (Zas hn _ _ _ _ h) fun r hr=>by
 split
 ·exact Zdn hn (hr.rev _ _) _ _
 ·exact Zdn hn hr _ _
theorem Zho {p:Array Nat} (hn:0<n) (h:Gp n p) (b:Nat):InK n (fun r=>Gp n r.2) (PySem.W.kas_count b p):=InK.bind (ZfB hn h _ _) fun m _=>by
 split
 ·exact h
 ·split
  ·refine⟨h.lt hn _,h.lt hn _,fun c=>?_⟩
   cases c
   ·exact Qs hn (h.rev _ _) _ _
   ·exact h
  ·exact Qs hn h _ _
theorem Zar {p:Array Nat} (hn:0<n) (h:Gp n p) (k:Nat):∀f l r,InK n (fun _=>True) (PySem.W.kas_place p k f l r)
 |0,l,r=>trivial
 |f+1,l,r=>by
  unfold PySem.W.kas_place
  split
  ·trivial
  ·refine⟨h.lt hn _,h.lt hn _,fun c=>?_⟩
   cases c
   ·exact Zar hn h k f _ _
   ·exact Zar hn h k f _ _
theorem Ziw (hn:0<n):∀f p k,Gp n p->InK n (Gp n) (PySem.W.kas_bin f p k)
 |0,p,k,h=>h
 |f+1,p,k,h=>InK.bind (Zar hn h k _ _ _) fun l _=>Ziw hn f _ _ (h.bub _ _)
theorem ZfA (hn:0<n):InK n (Gp n) (PySem.W.kas_sort n):=InK.bind (Zho hn (Array.Perm.refl _) _) fun r hr=>by
 split
 ·exact Ziw hn _ _ _ hr
 ·exact hr
end
noncomputable def VO (n:Nat) (lt:Nat->Nat->Bool):List Nat:=if n<2 then List.range n else (evK lt (PySem.W.kas_sort n)).toList
theorem JV (n:Nat) (lt:Nat->Nat->Bool):(VO n lt).Perm (List.range n):=by
 unfold VO
 split
 ·exact List.Perm.refl _
 ·have:Gp n (evK lt (PySem.W.kas_sort n)):=InK.out (ZfA (by omega))
  simpa using this.toList
theorem QM {α:Type}{vs:List α}{d:α}:(List.range vs.length).map (fun i=>vs.getD i d)=vs:=by
 refine List.ext_getElem (by simp) fun i h1 h2=>?_
 simp[ZsQ,h2]
section
variable {prog:Program}{w:World}{A:Around}{E:Value->Shared->Prop}{s:Shared}
theorem Ze6 {a:Addr}{vs:List Value}{n:Nat}{P:PySem.Fin->Shared->Prop} (κ:SortKind) (lt:Nat->Nat->Bool) (ho:s.heap.get? a=some (seqObj "list" vs.toArray n)) (h64:vs.length<64)
  (hk:2<=vs.length->∀(s1:Shared) (Q:SortKind->Shared->Prop),(∀b o,b≠a->s.heap.get? b=some o->s1.heap.get? b=some o)->Q κ s1->wpAny (model prog w) A (keyKind' vs.toArray) Q E s1)
  (hc:∀(s1:Shared) i j C,i<vs.length->j<vs.length->(∀b o,b≠a->s.heap.get? b=some o->s1.heap.get? b=some o)->C (lt i j) s1->PySem.W.kas_ask prog w A κ vs i j C s1)
  (hq:∀h' c,(∀b o,b≠a->s.heap.get? b=some o->h'.get? b=some o)->h'.get? a=some (seqObj "list" (List.toArray ((VO vs.length lt).map fun i=>vs.getD i Value.none)) c)->P (.done (.ret .none)) { s with heap:=h' }) :
  wpAny (model prog w) A (Builtin.«list.sort» ⟨[.ref a],[]⟩) P E s:=by
 have la:a<s.heap.objs.size:=Heap.lt_size ho
 obtain⟨e1,ho1⟩:∃c,(s.heap.update a (Obj.mapSeq fun _=>(#[]:Array Value))).get? a=some (seqObj "list" #[] c):=⟨_,get?_update_seq ho _⟩
 rw[list_sort_plain]
 refine wpAny_bind (listItems_at ho rfl (wpAny_bind (listUpdate_at ho rfl (wpAny_bind (seqEpoch_at ho1 rfl (wpAny_bind (wpAny_newTuple (wpAny_bind (wpAny_newList (wpAny_holding ?_) (ZtF _))) ?_)))) ?_ (ZtF _))))
 rotate_left
 ·show vs.length<=_;rw[sizeLine_eq];omega
 ·rw[ZsX,sizeLine_eq];omega
 generalize eh:((s.heap.update a (Obj.mapSeq fun _=>(#[]:Array Value))).push (seqObj "tuple" vs.toArray 0)).push (seqObj "list" #[] 0)=h3
 have k3:∀b o,b≠a->s.heap.get? b=some o->h3.get? b=some o:=fun b o nb q=>by
  subst eh
  exact Heap.get?_push_of_some _ (Heap.get?_push_of_some _ ((Heap.get?_update_ne _ _ _ _ nb).trans q))
 have a3:h3.get? a=some (seqObj "list" #[] e1):=by subst eh;exact Heap.get?_push_of_some _ (Heap.get?_push_of_some _ ho1)
 show wpAny _ _ _ P E { s with heap:=h3 }
 have fin:∀(out:List Value) (st:SortSt),(arrOf st).map (·.2)=List.toArray out->failedOf st=none->out.length=vs.length->out=(VO vs.length lt).map (fun i=>vs.getD i Value.none) ->
   wpAny (model prog w) A (do
    let sorted:=(arrOf st).map (·.2)
    let touched:=(<- seqEpoch a) != e1
    Builtin.List.listUpdate (.ref a) fun _=>sorted
    if let some e:=failedOf st then rule "list.sort.comparison-raised";throw e
    if touched then rule "list.sort.modified";raiseError "ValueError" "list modified during sort"
    ret .none) P E { s with heap:=h3 }:=fun out st ho hf hl hout=>by
  dsimp only
  rw[ho,hf]
  obtain⟨c2,hc2⟩:∃c,(h3.update a (Obj.mapSeq fun _=>List.toArray out)).get? a=some (seqObj "list" (List.toArray out) c):=⟨_,get?_update_seq a3 _⟩
  refine wpAny_bind (seqEpoch_at a3 rfl (wpAny_bind (listUpdate_at a3 rfl ?_ (ZtF _) ?_)))
  ·simp only[bne_self_eq_false,Bool.false_eq_true,if_false]
   refine wpAny_pure (hq _ c2 (fun b o nb q=>(Heap.get?_update_ne _ _ _ _ nb).trans (k3 b o nb q)) ?_)
   rw[<- hout];exact hc2
  ·show (List.toArray out).size<=_
   rw[ZsX,hl,sizeLine_eq];omega
 dsimp only
 by_cases h2:vs.length<2
 ·have e2:vs.toArray.size<2:=by rw[ZsX];exact h2
  rw[if_pos e2,if_pos e2]
  refine wpAny_bind (wpAny_pure (wpAny_bind (wpAny_pure ?_)))
  refine fin vs _ ?_ rfl rfl ?_
  ·show ((vs.toArray.zip vs.toArray).map (·.2))=_
   apply Array.toList_inj.mp
   simp only[Array.toList_map,Array.toList_zip]
   exact List.map_snd_zip (ZsV _)
  ·unfold VO
   rw[if_pos h2,QM]
 ·have e2:¬vs.toArray.size<2:=by rw[ZsX];exact h2
  rw[if_neg e2,if_neg e2]
  refine wpAny_bind (hk (by omega) _ _ k3 ?_)
  refine wpAny_bind (wpAny_mono (PySem.W.kat_run (κ:=κ) (ks:=vs) (vs:=vs) (s:={ s with heap:=h3 }) (Q:=fun st s'=>s'={ s with heap:=h3 }/\∃p:Array Nat,p=evK lt (PySem.W.kas_sort vs.length)/\p.size=vs.length/\arrOf st=p.map (PySem.W.kas_item (vs.toArray.zip vs.toArray))/\failedOf st=none)
   (G:=fun p s'=>s'={ s with heap:=h3 }/\p=evK lt (PySem.W.kas_sort vs.length)) rfl (by omega) h64 (fun p st s' a1 a2 a3 a4=>⟨a4.1,p,a4.2,a1,a2,a3⟩) ?_) ?_ fun _ _ e=>e)
  ·exact InK.wp (lt:=lt) (fun i j C hi hj q=>hc _ i j C hi hj k3 q) (ZfA (by omega)) ⟨rfl,rfl⟩
  ·rintro⟨⟨⟩,st⟩ s' ⟨rfl,p,e,hp,har,hf⟩
   have hs:=PySem.W.kat_snds (ks:=vs) (vs:=vs) rfl har
   refine fin _ st hs hf ?_ ?_
   ·rw[ZsS,Zt0,hp]
   ·unfold VO
    rw[if_neg h2,e]
theorem ZdF {l:Addr}{vs:List Value}{Q:Value->Shared->Prop} (κ:SortKind) (lt:Nat->Nat->Bool) (hl:s.heap.IsList l vs.toArray) (h64:vs.length<64)
  (hk:2<=vs.length->∀(s1:Shared) (Q:SortKind->Shared->Prop),(∀b o,s.heap.get? b=some o->s1.heap.get? b=some o)->Q κ s1->wpAny (model prog w) A.in1.in1 (keyKind' vs.toArray) Q E s1)
  (hc:∀(s1:Shared) i j C,i<vs.length->j<vs.length->(∀b o,s.heap.get? b=some o->s1.heap.get? b=some o)->C (lt i j) s1->PySem.W.kas_ask prog w A.in1.in1 κ vs i j C s1)
  (hq:∀D h' c,(∀b o,s.heap.get? b=some o->h'.get? b=some o)->s.heap.objs.size<=D->h'.get? D=some (seqObj "list" (List.toArray ((VO vs.length lt).map fun i=>vs.getD i Value.none)) c)->Q (.ref D) { s with heap:=h' }) :
  wpAny (model prog w) A (call (.builtin "sorted") [.ref l]) Q E s:=by
 refine Calls.call_function_entry kind_sorted plain_sorted entry_sorted (args_sorted1 _) ?_
 unfold Builtin.«sorted»
 have hz:vs.length<=sizeLine:=by rw[sizeLine_eq];omega
 refine wpAny_bind (m:=checkCount "sorted" 1 1 _) (wpAny_pure (wpAny_bind (collect_list hl (wpAny_bind (wpAny_newList ?_ hz)) hz)))
 generalize eg:(s.heap.push (seqObj "list" #[] 0)).update s.heap.objs.size (Obj.mapSeq (·++vs.toArray))=h1
 have z1:h1.objs.size=s.heap.objs.size+1:=by subst eg;rw[Heap.size_update,size_push']
 have k1:∀b o,s.heap.get? b=some o->h1.get? b=some o:=fun b o q=>by
  have lb:=Heap.lt_size q
  subst eg
  rw[Heap.get?_update_ne _ _ _ _ (Zti lb)]
  exact Heap.get?_push_of_some _ q
 have hD:(h1.push (seqObj "list" vs.toArray 0)).get? h1.objs.size=some (seqObj "list" vs.toArray 0):=Heap.get?_push_size _ rfl
 show wpAny _ _ _ _ _ { s with heap:=h1.push (seqObj "list" vs.toArray 0) }
 have up:∀(h2:Heap),(∀b o,b≠h1.objs.size->(h1.push (seqObj "list" vs.toArray 0)).get? b=some o->h2.get? b=some o)->∀b o,s.heap.get? b=some o->h2.get? b=some o:=fun h2 k b o q =>
  k b o (Zti (by rw[z1];exact Nat.lt_succ_of_lt (Heap.lt_size q))) (Heap.get?_push_of_some _ (k1 b o q))
 refine wpAny_bind (wpAny_holding (wpAny_call_entry slot_list_sort ⟨_,hD,rfl⟩ entry_list_sort (Ze6 (s:={ s with heap:=h1.push (seqObj "list" vs.toArray 0) }) κ lt hD h64 (fun h2 s1 Q k q=>hk h2 s1 Q (up _ k) q) (fun s1 i j C hi hj k q=>hc s1 i j C hi hj (up _ k) q) fun h' c k e=>?_) (args_list_sort _)))
 exact⟨_,rfl,wpAny_pure ⟨_,rfl,hq _ h' c (up _ k) (by rw[z1];exact Zue _) e⟩⟩
theorem Zde {fin:Bool}{Q:Bool->Shared->Prop}:∀{ns ms:List Int}{vs ws:List Value}{i:Nat},ZQ (ns.map V.int) vs->ZQ (ms.map V.int) ws->fin=decide (vs.length<ws.length)->Q (HT.ZaR ns ms) s ->
  PySem.W.KatLex prog w A true fin Q (vs.zip ws) i s
 |[],[],_,_,i,.nil,.nil,e,q=>by subst e;exact q
 |[],m::ms,_,_,i,.nil,.cons r t,e,q=>by
  have:fin=true:=by rw[e];simp
  subst this
  exact q
 |n::ns,[],_,_,i,.cons r t,.nil,e,q=>by
  have:fin=false:=by rw[e];simp
  subst this
  exact q
 |n::ns,m::ms,_,_,i,.cons r t,.cons r' t',e,q=>by
  obtain⟨k,rfl⟩:=r
  obtain⟨k',rfl⟩:=r'
  rw[Zt5]
  refine PySem.W.kat_cons (wpAny_eqBool_int ?_)
  rw[HT.ZdV] at q
  by_cases h:n=m
  ·subst h
   rw[if_pos rfl] at q
   simp only[beq_self_eq_true]
   exact PySem.W.kat_yes (Zde t t' (by rw[e];simp) q)
  ·rw[if_neg h] at q
   have hb:(n==m)=false:=by simpa using h
   rw[hb]
   refine PySem.W.kat_no ?_
   cases i with
   |zero=>exact oneLt_int q
   |succ i=>exact PySem.W.kat_one _ _ (PyProof.Rows.lt_int q)
end
section
variable {X:Cx}
noncomputable def Zc4 (ts:List (List Int)):List Nat:=VO ts.length fun i j=>HT.ZaR (ts.getD i []) (ts.getD j [])
def ZbA (K:W.Frag):List V->Hp->VK->Prop:=fun xs H Q=>∃p,∃ts:List PL2,xs=[.ref p]/\SqL K H p (ts.map fun t=>V.ref t.1) /\
  (∀t∈ts,SqT K H t.1 (t.2.map V.int)/\t.2≠[])/\ts.length<64/\∀l,H l=none->Q (.ref l) (upd H l (.lst ((Zc4 (ts.map (·.2))).map fun i=>V.ref (ts.getD i (0,[])).1)))
theorem Zco:Vb X (.builtin "sorted") (ZbA X.K):=by
 intro pins s σ H xs us Q I r h
 obtain⟨p,ts,rfl,hq,hall,h64,q⟩:=h
 obtain⟨u,rfl,rx⟩:=Zb3 r
 cases rx
 obtain⟨its,r',pl,hz⟩:=I.list hq
 have hlen:=r'.length
 rw[ZsS] at hlen
 have item:∀i,i<its.length->∃t:PL2,ts[i]?=some t/\its[i]?=some (Value.ref t.1):=fun i hi=>by
  have hx:(ts.map fun t=>V.ref t.1)[i]?=some (V.ref (ts[i]'(by omega)).1):=by simp[ZsR (show i<ts.length by omega)]
  obtain⟨w,hw,rw'⟩:=r'.get hx
  exact⟨ts[i]'(by omega),ZsR (by omega),by rw[hw];exact congrArg some rw'⟩
 have tup:∀(s1:Shared),(∀b o,s.heap.get? b=some o->s1.heap.get? b=some o)->∀t∈ts,∃vs:List Value,ZQ (t.2.map V.int) vs/\IsTup s1.heap t.1 vs.toArray:=fun s1 k t ht=>by
  have I':Inv X pins σ H { s with heap:=s1.heap,toks:=s1.toks }:=I.kept k
  obtain⟨vs,rv,pt,_⟩:=I'.tuple (hall t ht).1
  exact⟨vs,rv,pt⟩
 refine ZdF (tuples' true) (fun i j=>HT.ZaR ((ts.map (·.2)).getD i []) ((ts.map (·.2)).getD j [])) pl.isList (by omega) (fun h2 s1 Q' k q'=>?_) (fun s1 i j C hi hj k q'=>?_) fun D h' c k hD e=>?_
 ·have:∀(ts:List PL2) (its:List Value),(∀t∈ts,t.2≠[]/\∃vs:List Value,ZQ (t.2.map V.int) vs/\IsTup s1.heap t.1 vs.toArray)->ZQ (ts.map fun t=>V.ref t.1) its->∃fs:List Value,fs.length=ts.length/\PySem.W.KatTups s1.heap its fs/\∀v∈fs,∃n t,v=Value.int n t:=by
   intro ts
   induction ts with
   |nil =>
    intro its _ rv
    cases rv
    exact⟨[],rfl,trivial,by simp⟩
   |cons t ts ih =>
    intro its ht rv
    cases rv with
    |cons rv tv =>
     obtain⟨fs,e1,e2,e3⟩:=ih _ (fun t' h'=>ht t' (Zth _ h')) tv
     obtain⟨hne,vs,rvs,ob,eo,oc,k,od⟩:=ht t (Ztw ..)
     obtain⟨n,ns,en⟩:=List.exists_cons_of_ne_nil hne
     rw[en] at rvs
     cases rvs with
     |cons rn tn =>
      obtain⟨tk,rfl⟩:=rn
      have rv':_=Value.ref t.1:=rv
      subst rv'
      exact⟨.int n tk::fs,by simp[e1],⟨⟨t.1,ob,_,k,rfl,eo,oc,od,rfl⟩,e2⟩,fun v hv=>(ZsZ.mp hv).elim (fun z=>⟨n,tk,z⟩) (e3 v)⟩
  obtain⟨fs,e1,e2,e3⟩:=this ts its (fun t ht=>⟨(hall t ht).2,tup s1 k t ht⟩) r'
  exact PySem.W.kat_kind (T:=.type "int") e2 (by omega) (fun v hv=>by obtain⟨n,t,rfl⟩:=e3 v hv;exact PySem.W.Looks.of_pure rfl) rfl q'
 ·obtain⟨t,et,ei⟩:=item i hi
  obtain⟨t',et',ej⟩:=item j hj
  obtain⟨vs,rv,ob,eo,oc,k1,od⟩:=tup s1 k t (Ztx et)
  obtain⟨vs',rv',ob',eo',oc',k1',od'⟩:=tup s1 k t' (Ztx et')
  unfold PySem.W.kas_ask
  rw[ZsQ,ei,ZsQ,ej]
  refine PySem.W.kat_lt eo od eo' od' (Zde rv rv' ?_ ?_)
  ·simp
  ·rw[ZsQ,ZsQ,Ztb,Ztb,et,et'] at q'
   exact q'
 ·have I1:Inv X pins σ (upd H D (.lst ((Zc4 (ts.map (·.2))).map fun i=>V.ref (ts.getD i (0,[])).1))) { s with heap:=h' }:=by
   have el:VO its.length (fun i j=>HT.ZaR ((ts.map (·.2)).getD i []) ((ts.map (·.2)).getD j []))=Zc4 (ts.map (·.2)):=by unfold Zc4;rw[ZsS,hlen]
   rw[el] at e
   have lt:∀i∈Zc4 (ts.map (·.2)),i<its.length:=fun i hi=>by
    have:=(JV _ _).mem_iff.mp hi
    rw[ZtC,ZsS] at this
    omega
   refine I.laid (t':=s.toks) k hD ⟨?_,_,c, ?_,e⟩
   ·rw[ZsS,Zc4,(JV _ _).length_eq,List.length_range,ZsS,sizeLine_eq];omega
   ·revert lt
    generalize Zc4 (ts.map (·.2))=L
    intro lt
    induction L with
    |nil=>exact .nil
    |cons i L ih =>
     refine .cons ?_ (ih fun j hj=>lt j (Zth _ hj))
     obtain⟨t,et,ei⟩:=item i (lt i (Ztw ..))
     show Ja (V.ref (ts.getD i (0,[])).1) (its.getD i Value.none)
     rw[ZsQ,et,ZsQ,ei]
     rfl
  exact⟨.ref D,_,I1,rfl,q D (I.hok.fresh hD)⟩
theorem Zbp {K:W.Frag} (e:X.K=K:=by rfl):Vb X (.builtin "sorted") (ZbA K):=by subst e;exact Zco
end
noncomputable def VL (t:List Int):PV:=.tup (t.map PV.int)
theorem Za7:∀{a b:List (List Int)},a.map VL=b.map VL->a=b
 |[],[],_=>rfl
 |[],y::b,h=>by simp at h
 |x::a,[],h=>by simp at h
 |x::a,y::b,h=>by
  simp only[Ztc,List.cons.injEq,VL,PV.tup.injEq] at h
  rw[Z9 h.1,Za7 h.2]
noncomputable def ZhY (ts:List (List Int)):List (List Int):=(Zc4 ts).map fun i=>ts.getD i []
theorem ZaC (ts:List (List Int)):(ZhY ts).Perm ts:=by
 have:=(JV ts.length fun i j=>HT.ZaR (ts.getD i []) (ts.getD j [])).map fun i=>ts.getD i []
 rw[QM] at this
 exact this
def OkS (ts:List (List Int)):Prop:=(∀t∈ts,t≠[])/\ts.length<64
open Classical in
noncomputable def Zam (xs:List PV):Rr PV:=if h:∃ts:List (List Int),xs=[.lst (ts.map VL)]/\OkS ts then newF ((ZhY h.choose).map VL) else .bad
theorem ZdO {ts:List (List Int)} (h:OkS ts):Zam [.lst (ts.map VL)]=newF ((ZhY ts).map VL):=by
 have hex:∃us:List (List Int),[PV.lst (ts.map VL)]=[.lst (us.map VL)]/\OkS us:=⟨ts,rfl,h⟩
 unfold Zam
 rw[dif_pos hex]
 have hs:ts.map VL=hex.choose.map VL:=PV.lst.inj (List.cons.inj hex.choose_spec.1).1
 have e:hex.choose=ts:=(Za7 hs).symm
 rw[e]
section
variable {K:W.Frag}{B:Addr->Prop}{EX:PX->Hp->Prop}{H0 H:Hp}{σ:St}{Γ Γ':List Md}{ρ:List PV}{F:Nat->List Addr}{R:List Addr}{ta:TA}{fa:List PV->Rr (List PV)}
theorem ZaH {S:Addr->Prop}:∀{ts:List (List Int)}{vs:List V},Reps K H S (ts.map VL) vs->∃qs:List PL2,vs=(qs.map fun t=>V.ref t.1)/\(qs.map fun t=>t.2)=ts/\∀t∈qs,SqT K H t.1 (t.2.map V.int)
 |[],vs,h=>⟨[],h,rfl,by simp⟩
 |ns::ts,vs,h=>by
  obtain⟨v,r,rfl,h1,h2⟩:=h
  obtain⟨qs,rfl,e2,e3⟩:=ZaH h2
  obtain⟨a,ws,rfl,hn,hr⟩:=h1
  have:=UU hr
  subst this
  refine⟨(a,ns)::qs,rfl,by rw[Ztc,e2],fun t ht=>?_⟩
  rcases ZsZ.mp ht with rfl|ht
  ·exact hn.sqT
  ·exact e3 t ht
theorem ZaI {S:Addr->Prop}{xs:List PV}{vs:List V} (h:Reps K H S xs vs):∀L:List Nat,(∀i∈L,i<xs.length)->Reps K H S (L.map fun i=>xs.getD i .non) (L.map fun i=>vs.getD i .non)
 |[],_=>rfl
 |i::L,hL=>by
  have hi:=hL i (Ztw ..)
  obtain⟨w,hw,hr⟩:=h.get (ZsR hi)
  refine⟨w,_, ?_, ?_,ZaI h L fun j hj=>hL j (Zth _ hj)⟩
  ·show (vs.getD i .non::_)=_
   rw[ZsQ,hw];rfl
  ·show Rep K H S (xs.getD i .non) w
   rw[ZsQ,ZsR hi];exact hr
theorem ZfV (ha:DAA K EX Γ Γ' ta fa):DE K EX Γ Γ' .F (tCB (ZbA K) ta) (fun ρ=>(fa ρ).bind Zam):=fun B H0 H σ ρ F R Q A d=>by
 refine ha B H0 H σ ρ F R _ A (d.bind.imp (fun xs _ d vs H1 F1 s1 f1 p1 A1=>?_) fun e q=>q)
 unfold Zam at d
 split at d
 ·rename_i hex
  have hs:=hex.choose_spec
  generalize hex.choose=ts at d hs
  obtain⟨rfl,hne,hl⟩:=hs
  obtain⟨h1,h2,d⟩:=Dn.newF d
  obtain⟨v,rfl,a,ws,rfl,hn,hr⟩:=UV p1
  have hr0:=hr
  obtain⟨qs,rfl,rfl,e3⟩:=ZaH hr
  refine⟨a,qs,rfl,JN (S:=fun _=>True) hn,fun t ht=>⟨e3 t ht,hne _ (List.mem_map_of_mem ht)⟩,by simpa using hl,fun l hz=>?_⟩
  have lt:∀i∈Zc4 (qs.map (·.2)),i<qs.length:=fun i hi=>by
   have:=(JV _ _).mem_iff.mp hi
   rw[ZtC,ZsS] at this
   exact this
  have pr:=ZaI hr0 (Zc4 (qs.map (·.2))) (by simpa using lt)
  have c1:((Zc4 (qs.map (·.2))).map fun i=>((qs.map fun t=>t.2).map VL).getD i .non)=(ZhY (qs.map fun t=>t.2)).map VL:=by
   unfold ZhY
   rw[Zum (l:=Zc4 _)]
   refine List.map_congr_left fun i hi=>?_
   simp[ZsQ,ZsR (lt i hi)]
  have c2:((Zc4 (qs.map (·.2))).map fun i=>(qs.map fun t=>V.ref t.1).getD i .non)=(Zc4 (qs.map (·.2))).map fun i=>V.ref (qs.getD i (0,[])).1:=by
   refine List.map_congr_left fun i hi=>?_
   simp[ZsQ,ZsR (lt i hi)]
  rw[c1,c2] at pr
  exact d _ _ (s1.trans (Z0.new hz)) (Res.newP s1 f1 pr h1 A1 hz)
 ·exact d.elim
end
theorem Pm.refM2 (m:Pm) {r:Addr->PV->List PV->Rr PV} (h:∀i,m.pre i->∀a b xs,m.enc i=b::xs->r a b xs=ZlQ a (m.out i)):∀a b xs,Ref (ZlQ a (m.fnM b xs)) (r a b xs):=fun a b xs=>by
 unfold Pm.fnM Pm.fn
 by_cases hx:∃i,m.enc i=b::xs/\m.pre i
 ·rw[dif_pos hx]
  exact .inr (h _ hx.choose_spec.2 a b xs hx.choose_spec.1).symm
 ·rw[dif_neg hx];exact .inl rfl
theorem Zgr:bootBuiltins "sorted"=some (.builtin "sorted"):=by decide +kernel
section
variable {X:Cx}{pins:List (Addr×Obj)}{σ:St}{H:Hp}{s:Shared}
theorem Inv.swapO {a:Addr}{u u':HO} (I:Inv X pins σ H s) (ha:H a=some u) (n1:∀b,u≠.own b) (n2:∀xs,u≠.tup xs) (m1:∀xs,X.H₀ a≠some (.tup xs)) (m2:∀o v,X.H₀ a≠some (.frz o v)) (m3:∀ps,X.H₀ a≠some (.tbl ps))
  (h0:∀o,X.s₀.heap.get? a=some o->X.H₀ a=none->a∈X.ex) (ok:Jg X.prog X.w (upd H a u') s.heap a u'):Inv X pins σ (upd H a u') s:=by
 have nn:∀{b},H b=none->b≠a:=fun {b} e z=>by rw[z,ha] at e;cases e
 refine⟨I.ok,I.os,I.bare,⟨I.base.keep,I.base.slot,fun b o q n hx=>?_,I.base.there,fun b xs q=>?_,fun b o v q=>?_,fun b ps q=>?_⟩,I.loc,I.cell, ?_,fun x c q=>?_,fun p hq=>?_,fun b v q=>?_,I.len⟩
 ·have e:=I.base.free b o q n hx
  rw[Zn (nn e)];exact e
 ·rw[Zn (fun z=>m1 xs (by rw[<- z];exact q))];exact I.base.tups b xs q
 ·rw[Zn (fun z=>m2 o v (by rw[<- z];exact q))];exact I.base.frzs b o v q
 ·obtain⟨m,e⟩:=I.base.tbls b ps q
  exact⟨m,by rw[Zn (fun z=>m3 ps (by rw[<- z];exact q))];exact e⟩
 ·rw[Zn (nn I.free)];exact I.free
 ·rw[Zn (nn (I.freeC x c q))];exact I.freeC x c q
 ·obtain⟨a1,b1,c1⟩:=I.pin p hq
  exact⟨a1,by rw[Zn (nn b1)];exact b1,c1⟩
 ·by_cases hb:b=a
  ·subst hb
   rw[Zw] at q;cases q
   exact ok
  ·rw[Zn hb] at q
   refine(I.hok b v q).stay (fun c w' _ z=>z) (fun c z=>?_) fun c xs z=>?_
   ·rw[Zn (fun y=>by rw[y,ha] at z;cases z;exact n1 _ rfl)];exact z
   ·rw[Zn (fun y=>by rw[y,ha] at z;cases z;exact n2 _ rfl)];exact z
end
mutual
noncomputable def Za4:PV->PV
 |.lst xs=>.fz (frzPs xs)
 |.tup xs=>.tup (frzPs xs)
 |.fz xs=>.fz (frzPs xs)
 |.non=>.non
 |.bl b=>.bl b
 |.int i=>.int i
 |.str x=>.str x
 |.exc n=>.exc n
 |.exa n i=>.exa n i
 |.box p s xs=>.box p s xs
noncomputable def frzPs:List PV->List PV
 |[]=>[]
 |x::xs=>Za4 x::frzPs xs
end
theorem Ul:∀(ns:List Int),frzPs (ns.map PV.int)=ns.map PV.int
 |[]=>rfl
 |n::ns=>by simp only[Ztc,frzPs,Za4,Ul ns]
def Zgx (G:List Addr) (H H2:Hp):Prop:=(∀a,a ∉ G->H2 a=H a)/\∀a∈G,∀vs,H a=some (.lst vs)->∃o,H2 a=some (.frz o (.lst vs))
def ZjF (H:Hp) (G:List Addr):Prop:=∀a∈G,∃vs,H a=some (.lst vs)
section
variable {K:W.Frag}{H H2:Hp}{G':List Addr}
theorem Im.frzTo (hL:ZjF H G') (h:Zgx G' H H2) {a:Addr}{u:HO} (i:Im K H a u):Im K H2 a u:=by
 have hn:a ∉ G':=fun z=>by
  obtain⟨vs,e⟩:=hL a z
  rw[i.1] at e;cases e;exact i.2
 exact⟨by rw[h.1 a hn];exact i.1,i.2⟩
mutual
theorem ZV.lists:∀{x:PV}{v:V}{G:List Addr},(Za4 x).flat=true->ZV K H x v G->ZjF H G
 |.non,_,_,_,h=>by rw[h.2];intro a ha;simp at ha
 |.bl _,_,_,_,h=>by rw[h.2];intro a ha;simp at ha
 |.int _,_,_,_,h=>by rw[h.2];intro a ha;simp at ha
 |.str _,_,_,_,h=>by rw[h.2];intro a ha;simp at ha
 |.exc _,_,_,_,h=>by rw[h.2];intro a ha;simp at ha
 |.exa _ _,_,_,_,h=>by rw[h.2];intro a ha;simp at ha
 |.box _ _ _,_,_,f,_=>by simp[Za4,PV.flat] at f
 |.lst xs,_,_,f,h=>by
  obtain⟨a,vs,G,rfl,ha,ht,hn,rfl⟩:=h
  intro b hb
  rcases ZsZ.mp hb with rfl|hb
  ·exact⟨vs,ha⟩
  ·exact Trees.lists (by simpa[Za4,PV.flat] using f) ht b hb
 |.tup xs,_,_,f,h=>by
  obtain⟨a,vs,rfl,ha,ht⟩:=h
  exact Trees.lists (by simpa[Za4,PV.flat] using f) ht
 |.fz xs,_,_,f,h=>by
  obtain⟨a,vs,rfl,ha,ht⟩:=h
  exact Trees.lists (by simpa[Za4,PV.flat] using f) ht
theorem Trees.lists:∀{xs:List PV}{vs:List V}{G:List Addr},PV.flats (frzPs xs)=true->Trees K H xs vs G->ZjF H G
 |[],_,_,_,h=>by rw[h.2];intro a ha;simp at ha
 |x::xs,_,_,f,h=>by
  obtain⟨v,r,G1,G2,rfl,h3,h4,hd,rfl⟩:=h
  simp only[frzPs,PV.flats,Bool.and_eq_true] at f
  intro b hb
  rcases ZsW.mp hb with hb|hb
  ·exact ZV.lists f.1 h3 b hb
  ·exact Trees.lists f.2 h4 b hb
end
mutual
theorem ZV.frz (hL:ZjF H G') (hF:Zgx G' H H2):∀{x:PV}{v:V}{G:List Addr},(Za4 x).flat=true->ZV K H x v G->(∀a∈G,a∈G')->ZV K H2 (Za4 x) v []
 |.non,_,_,_,h,_=>⟨h.1,rfl⟩
 |.bl _,_,_,_,h,_=>⟨h.1,rfl⟩
 |.int _,_,_,_,h,_=>⟨h.1,rfl⟩
 |.str _,_,_,_,h,_=>⟨h.1,rfl⟩
 |.exc n,_,_,_,h,_=>let ⟨a,o,C,e1,e2,e3⟩:=h.1;⟨⟨a,o,C,e1,Im.frzTo hL hF e2,e3⟩,rfl⟩
 |.exa n i,_,_,_,h,_=>let ⟨a,o,C,d,fs,e1,e2,e2',e3⟩:=h.1;⟨⟨a,o,C,d,fs,e1,Im.frzTo hL hF e2,Im.frzTo hL hF e2',e3⟩,rfl⟩
 |.box _ _ _,_,_,f,_,_=>by simp[Za4,PV.flat] at f
 |.lst xs,_,_,f,h,hG=>by
  obtain⟨a,vs,G,rfl,ha,ht,hn,rfl⟩:=h
  obtain⟨o,e⟩:=hF.2 a (hG a (by simp)) vs ha
  exact⟨a,vs,rfl,⟨o,e,trivial⟩,Trees.frz hL hF (by simpa[Za4,PV.flat] using f) ht fun b hb=>hG b (by simp[hb])⟩
 |.tup xs,_,_,f,h,hG=>by
  obtain⟨a,vs,rfl,ha,ht⟩:=h
  exact⟨a,vs,rfl,Im.frzTo hL hF ha,Trees.frz hL hF (by simpa[Za4,PV.flat] using f) ht hG⟩
 |.fz xs,_,_,f,h,hG=>by
  obtain⟨a,vs,rfl,⟨o,ha⟩,ht⟩:=h
  exact⟨a,vs,rfl,⟨o,Im.frzTo hL hF ha⟩,Trees.frz hL hF (by simpa[Za4,PV.flat] using f) ht hG⟩
theorem Trees.frz (hL:ZjF H G') (hF:Zgx G' H H2):∀{xs:List PV}{vs:List V}{G:List Addr},PV.flats (frzPs xs)=true->Trees K H xs vs G->(∀a∈G,a∈G')->Trees K H2 (frzPs xs) vs []
 |[],_,_,_,h,_=>⟨h.1,rfl⟩
 |x::xs,_,_,f,h,hG=>by
  obtain⟨v,r,G1,G2,rfl,h3,h4,hd,rfl⟩:=h
  simp only[frzPs,PV.flats,Bool.and_eq_true] at f
  exact⟨v,r,[],[],rfl,ZV.frz hL hF f.1 h3 fun a ha=>hG a (by simp[ha]),Trees.frz hL hF f.2 h4 fun a ha=>hG a (by simp[ha]),by simp,rfl⟩
end
end
section
variable {X:Cx}{pins:List (Addr×Obj)}{σ:St}{s:Shared}
theorem Inv.frzAll:∀(G:List Addr) {H:Hp},Inv X pins σ H s->ZjF H G->∃H2,Zgx G H H2/\Inv X pins σ H2 s
 |[],H,I,_=>⟨H,⟨fun _ _=>rfl,by simp⟩,I⟩
 |a::G,H,I,hL=>by
  obtain⟨H2,h2,I2⟩:=Inv.frzAll G I fun b hb=>hL b (by simp[hb])
  by_cases hm:a∈G
  ·refine⟨H2,⟨fun b hb=>h2.1 b fun z=>hb (by simp[z]),fun b hb=>?_⟩,I2⟩
   rcases ZsZ.mp hb with rfl|hb
   ·exact h2.2 b hm
   ·exact h2.2 b hb
  ·obtain⟨kvs,ha0⟩:=hL a (by simp)
   have ha:H2 a=some (.lst kvs):=by rw[h2.1 a hm];exact ha0
   have ok0:Jg X.prog X.w H2 s.heap a (.lst kvs):=I2.hok a _ ha
   obtain⟨o,ho⟩:∃o,s.heap.get? a=some o:=by obtain⟨_,its,n,_,e⟩:=ok0;exact⟨_,e⟩
   have m1:∀xs,X.H₀ a≠some (.tup xs):=fun xs z=>by have:=I2.base.tups a xs z;rw[ha] at this;cases this
   have m2:∀o v,X.H₀ a≠some (.frz o v):=fun o v z=>by have:=I2.base.frzs a o v z;rw[ha] at this;cases this
   have m3:∀ps,X.H₀ a≠some (.tbl ps):=fun ps z=>by obtain⟨m,this⟩:=I2.base.tbls a ps z;rw[ha] at this;cases this
   have h0:∀o,X.s₀.heap.get? a=some o->X.H₀ a=none->a∈X.ex:=fun o q n=>by
    by_cases hx:a∈X.ex
    ·exact hx
    ·have:=I2.base.free a o q n hx;rw[ha] at this;cases this
   refine⟨_,⟨fun b hb=>?_,fun b hb vs e=>?_⟩,I2.swapO (u':=.frz o (.lst kvs)) ha (fun _ z=>by cases z) (fun _ z=>by cases z) m1 m2 m3 h0 ⟨ho,ok0⟩⟩
   ·have hb':b≠a:=fun z=>hb (by simp[z])
    rw[Zn hb']
    exact h2.1 b fun z=>hb (by simp[z])
   ·by_cases hb':b=a
    ·subst hb'
     rw[ha0] at e;cases e
     exact⟨o,Zw⟩
    ·rw[Zn hb']
     rcases ZsZ.mp hb with z|z
     ·exact absurd z hb'
     ·exact h2.2 b z vs e
noncomputable def Zke (te:TE):TE:=fun σ H Q=>te σ H fun v H1=>∃G,ZjF H1 G/\∀H2,Zgx G H1 H2->Q v H2
theorem ZbF {e:Expr}{te:TE} (he:PE X e te):PE X e (Zke te):=by
 intro pins s σ H Q I h
 refine thn (he pins s σ H _ I h) fun v s1 ⟨x,H1,I1,r,G,hL,q⟩=>?_
 obtain⟨H2,h2,I2⟩:=Inv.frzAll G I1 hL
 exact⟨x,H2,I2,r,q H2 h2⟩
variable {K:W.Frag}{B:Addr->Prop}{EX:PX->Hp->Prop}{H0 H H2:Hp}{Γ Γ':List Md}{ρ:List PV}{F:Nat->List Addr}{R G:List Addr}{te:TE}{f:List PV->Rr PV}
theorem Zcf (he:DE K EX (Γ.map frz) (Γ.map frz) .F te f):DE K EX Γ Γ .P (Zke te) (fun ρ=>(f ρ).bind fun x=>grd (Za4 x)):=fun B H0 H σ ρ F R Q A d=>by
 refine he B H0 H σ ρ _ R _ A.freezeAll (d.bind.imp (fun x _ d v H1 s1 r=>?_) fun e q=>q)
 obtain⟨F1,f1,G,t1,o1,_⟩:=r
 have fr:∀a∈G,H a=none:=fun a ha=>by
  rcases (o1 a ha).2 with q|⟨j,q⟩
  ·exact q
  ·simp at q
 unfold grd at d
 split at d
 ·rename_i hf
  refine⟨G,t1.lists hf,fun H2 h2=>?_⟩
  have s2:Z0 H H2:=fun a o e=>by
   rw[h2.1 a fun z=>by rw[fr a z] at e;cases e]
   exact s1 a o e
  exact d v H2 s2 ⟨F,fun _ _ h=>h,hf,(ZV.frz (t1.lists hf) h2 hf t1 fun a ha=>ha).rep (by simp),A.grow s2⟩
 ·exact d.elim
noncomputable def thw (x:PV):PV:=match x with
 |.fz xs=>.lst xs
 |x=>x
theorem Rep.thw {S:Addr->Prop}{x:PV}{v:V} (hS:∀a o vs,H a=some (.frz o (.lst vs))->S a) (h:Rep K H S x v):Rep K H S (thw x) v:=by
 cases x with
 |fz xs =>
  obtain⟨a,vs,rfl,⟨o,ha⟩,hr⟩:=h
  exact⟨a,vs,rfl,.inl ⟨.inr ⟨o,ha.1⟩,hS a o vs ha.1⟩,hr⟩
 |_=>exact h
theorem QV (he:DE K EX Γ Γ' .A te f):DE K EX Γ Γ' .A te (fun ρ=>(f ρ).bind fun x=>.ok (thw x)):=fun B H0 H σ ρ F R Q A d=>by
 refine he B H0 H σ ρ F R _ A (d.bind.imp (fun x _ d v H1 s1 r=>?_) fun e q=>q)
 obtain⟨F1,f1,p1,A1⟩:=r
 exact d v H1 s1 ⟨F1,f1,p1.thw fun _ _ _ _=>trivial,A1⟩
end
section
variable {X:Cx}{pins:List (Addr×Obj)}{σ:St}{H:Hp}{s:Shared}{a C dx:Addr}{fs:List (Str×V)}{f:Str}
theorem Zaq (I:Inv X pins σ H s) (e:Rd H a (.ins C dx fs)):∃mA,Zi6 s.heap a dx C mA/\(∀f,Za3 (fs.lookup f) (mA f)):=by
 obtain⟨d,z,ne,ob,mA,n,r,q⟩:=(show Jg X.prog X.w H s.heap a (.ins C dx fs) from e.ok I.hok)
 exact⟨mA,⟨ob,n,ne⟩,r⟩
end
noncomputable def Ze0 (K:W.Frag) (ta:TE) (f:Str):TE:=fun σ H Q=>ta σ H fun x H1=>∃a C dx fs v,x=.ref a/\Rd H1 a (.ins C dx fs)/\Cls K C/\QB K C f/\fs.lookup f=some v/\Q v H1
noncomputable def ZaA (K:W.Frag) (n m:Str) (sp:Sp) (ta:TE) (t:TA):TE:=fun σ H Q=>ta σ H fun x H1=>∃a C dx fs,x=.ref a/\Rd H1 a (.ins C dx fs)/\UJ K n C/\fs.lookup m=none/\t σ H1 fun vs H2=>sp (x::vs) H2 Q E0
def OkM (P:Program) (w:World) (K:W.Frag) (mg:Str->Option Value) (base:Heap) (k:Nat) (n m:Str) (ps:List Str) (sp:Sp):Prop:=
 ∃C f fd,UJ K n C/\Cls K C/\Znn K C m f/\Jk P w K mg base CX0 k f fd ps sp/\Us K fd ps []
section
variable {X:Cx}{K:W.Frag}{e o:Expr}{es:List Expr}{f n m:Str}{pos apos:Pos}{ta:TE}{t:TA}{k:Nat}{ps:List Str}{sp:Sp}
theorem ZW (he:PE X e ta) (eK:X.K=K:=by rfl) (hb:attributeBase e f X.env (eval e X.env)=eval e X.env:=by rfl):PE X (.Attribute e f pos) (Ze0 K ta f):=by
 subst eK
 intro pins s σ H Q I h
 refine Zj8 hb (thn (he pins s σ H _ I h) fun u s1 ⟨x,H1,I1,rx,a,C,dx,fs,v,ex,ea,c,n,l,q⟩=>?_)
 subst ex
 obtain rfl:u=Value.ref a:=rx
 obtain⟨mA,O,r⟩:=Zaq I1 ea
 obtain⟨u,hu,ru⟩:=Za3.some_of (v:=v) (o:=mA f) (by rw[<- l];exact r f)
 exact Zjm I1.kIn O (c.get f) c.hd n hu (ZfE ru) ⟨v,H1,I1.tok _,ru,q⟩
theorem UC {pl:Sem Bool} (G:OkM X.prog X.w X.K X.mg X.base k n m ps sp) (hr:V2 k X.A) (he:PE X o ta) (ha:PA X (e::es) t)
  (hst:starEach (e::es) X.env=(false,eval e X.env)::starEach es X.env:=by rfl) (hpl:(backTo pos (starEach es X.env)).any (·.1)=false:=by rfl)
  (ht:eval (.Call (.Attribute o m apos) (e::es) [] pos) X.env=(do
   let ov <- eval o X.env
   standAt apos.atName
   let (f,first) <- holding [ov] (getMethod ov m pl)
   callWith pos f first (backTo pos (starEach (e::es) X.env)) (backToKw pos (keywordEach [] X.env))):=by rfl) :
  PE X (.Call (.Attribute o m apos) (e::es) [] pos) (ZaA X.K n m sp ta t):=by
 obtain⟨C,f,fd,hC,c,hm,F,hb⟩:=G
 intro pins s σ H Q I h
 refine PySem.W.methodCall_KW (pl:=pl) (thn (he pins s σ H _ I h) fun u s1 ⟨x,H1,I1,rx,a,C',dx,fs,ex,ea,hC',l,q⟩=>?_) ht
 subst ex
 obtain rfl:=hC.inj hC'
 obtain rfl:u=Value.ref a:=rx
 obtain⟨mA,O,r⟩:=Zaq I1 ea
 refine Zdq I1.kIn O (c.get m) hm.at_ hm.fn (Za3.none_of (by rw[<- l];exact r m)) ?_
 refine PySem.W.callWith_K (first:=[.ref a]) (h₀:=X.base) I.ok.mod.kin hm.kp (thn (ha pos pins s1 σ H1 _ I1 q) fun us s2 ⟨vs,H2,I2,r,q2⟩=>⟨I2.kIn, ?_⟩) hst hpl
 exact Zc8 (us:=.ref a::us) (vs:=.ref a::vs) (dvs:=[]) F hr hb .nil ZeT I2 (.cons rfl r) (by rw[Zt1];exact q2)
theorem ZN {pl:Sem Bool} (G:OkM X.prog X.w X.K X.mg X.base k n m ps sp) (hr:V2 k X.A) (he:PE X o ta)
  (ht:eval (.Call (.Attribute o m apos) [] [] pos) X.env=(do
   let ov <- eval o X.env
   standAt apos.atName
   let (f,first) <- holding [ov] (getMethod ov m pl)
   callWith pos f first (backTo pos (starEach [] X.env)) (backToKw pos (keywordEach [] X.env))):=by rfl) :
  PE X (.Call (.Attribute o m apos) [] [] pos) (ZaA X.K n m sp ta ZdC):=by
 obtain⟨C,f,fd,hC,c,hm,F,hb⟩:=G
 intro pins s σ H Q I h
 refine PySem.W.methodCall_KW (pl:=pl) (thn (he pins s σ H _ I h) fun u s1 ⟨x,H1,I1,rx,a,C',dx,fs,ex,ea,hC',l,q⟩=>?_) ht
 subst ex
 obtain rfl:=hC.inj hC'
 obtain rfl:u=Value.ref a:=rx
 obtain⟨mA,O,r⟩:=Zaq I1 ea
 refine Zdq I1.kIn O (c.get m) hm.at_ hm.fn (Za3.none_of (by rw[<- l];exact r m)) ?_
 exact PySem.W.callWith_K0 (first:=[.ref a]) I1.kIn hm.kp (Zc8 (us:=[.ref a]) (vs:=[.ref a]) (dvs:=[]) F hr hb .nil ZeT I1 (.cons rfl .nil) q)
def OkC (P:Program) (w:World) (K:W.Frag) (mg:Str->Option Value) (base:Heap) (k:Nat) (n:Str) (ps:List Str) (sp:Sp):Prop:=
 ∃C f fd,UJ K n C/\mg n=some (.ref C)/\Mk K C f/\Jk P w K mg base CX0 k f fd ps sp/\Us K fd ps []
noncomputable def ZhW (K:W.Frag) (n:Str) (sp:Sp) (t:TA):TE:=fun σ H Q=>t σ H fun vs H1=>∀x dx C,UJ K n C->H1 x=none->H1 dx=none->dx≠x ->
 sp (.ref x::vs) (upd (upd H1 dx (.own x)) x (.ins C dx [])) (fun v H2=>v=.non/\Q (.ref x) H2) E0
theorem ZgK {p:Pos} (G:OkC X.prog X.w X.K X.mg X.base k n ps sp) (hr:V2 (k+1) X.A) (hg:Gl X n) (ha:PA X (e::es) t) (hdb:(n==("__debug__":Str))=false:=by decide)
  (he:starEach (e::es) X.env=(false,eval e X.env)::starEach es X.env:=by rfl) (hpl:(backTo pos (starEach es X.env)).any (·.1)=false:=by rfl) :
  PE X (.Call (.Name n p) (e::es) [] pos) (ZhW X.K n sp t):=by
 obtain⟨C,f,fd,hC,hm,M,F,hb⟩:=G
 intro pins s σ H Q I h
 refine wpAny_Call_Name_kw (Vp I hg hm ?_ hdb)
 refine PySem.W.callWith_K (h₀:=X.base) I.ok.mod.kin M.kp (thn (ha pos pins s σ H _ I h) fun us s1 ⟨vs,H1,I1,r,q⟩=>⟨I1.kIn, ?_⟩) he hpl
 exact ZgD (dvs:=[]) M F hr hb .nil ZeT I1 r fun x dx h1 h2 h3=>by rw[Zt1];exact q x dx C hC h1 h2 h3
end
theorem U4 {α:Type}{f:Str}:∀{gs:List Str}{vs:List α},gs.length=vs.length->(gs.zip vs).lookup f=vs[gs.idxOf f]?
 |[],[],_=>rfl
 |[],_::_,h=>by simp at h
 |_::_,[],h=>by simp at h
 |g::gs,v::vs,h=>by
  have ih:=U4 (f:=f) (gs:=gs) (vs:=vs) (by simpa using h)
  rw[Zt5,Ztp,Zun]
  by_cases e:g=f
  ·subst e;simp
  ·have e1:(f==g)=false:=beq_eq_false_iff_ne.mpr (Ne.symm e)
   have e2:(g==f)=false:=beq_eq_false_iff_ne.mpr e
   rw[e1,e2]
   simpa using ih
noncomputable def pFld (n f:Str) (x:PV):Rr PV:=match x with
 |.box _ (.ob m gs) xs=>if m=n then match xs[gs.idxOf f]? with
  |some y=>.ok y
  |none=>.bad
  else .bad
 |_=>.bad
noncomputable def obG (n m:Str) (x:PV):Rr PV:=match x with
 |.box _ (.ob k gs) _=>if k=n/\m ∉ gs then .ok .non else .bad
 |_=>.bad
theorem Dn.pFld {n f:Str}{x:PV}{ok:PV->Prop}{ex:PX->Prop} (d:Dn (pFld n f x) ok ex):∃p gs xs y,x=.box p (.ob n gs) xs/\xs[gs.idxOf f]?=some y/\ok y:=by
 unfold L2.pFld at d
 split at d
 ·rename_i p m gs xs
  split at d
  ·rename_i e
   subst e
   split at d
   ·rename_i y ey
    exact⟨p,gs,xs,y,rfl,ey,d⟩
   ·exact d.elim
  ·exact d.elim
 ·exact d.elim
theorem Dn.obG {n m:Str}{x:PV}{ok:PV->Prop}{ex:PX->Prop} (d:Dn (obG n m x) ok ex):∃p gs xs,x=.box p (.ob n gs) xs/\m ∉ gs/\ok .non:=by
 unfold L2.obG at d
 split at d
 ·rename_i p k gs xs
  split at d
  ·rename_i e
   obtain⟨rfl,e⟩:=e
   exact⟨p,gs,xs,rfl,e,d⟩
  ·exact d.elim
 ·exact d.elim
def ObC (K:W.Frag) (n:Str) (fs:List Str):Prop:=∃C,UJ K n C/\Cls K C/\∀f∈fs,QB K C f
theorem Zgz {α:Type}{f:Str}{gs:List Str}{vs:List α} (h:gs.length=vs.length) (hf:f ∉ gs):(gs.zip vs).lookup f=none:=by
 rw[U4 h,Ztd]
 rw[<- h,List.idxOf_eq_length hf]
 exact ZsV _
section
variable {K:W.Frag}{B:Addr->Prop}{EX:PX->Hp->Prop}{H0 H H':Hp}{σ:St}{Γ Γ':List Md}{ρ:List PV}{F:Nat->List Addr}{R:List Addr}{te:TE}{ta t:TA}{f:List PV->Rr PV}{fa:List PV->Rr (List PV)}{fs:List Str}{n fl m:Str}{i:Nat}{k:Kd}{sp:Sp}
theorem Rep.fld {S:Addr->Prop}{p:Option Addr}{gs:List Str}{xs:List PV}{v:V}{y:PV} (h:Rep K H S (.box p (.ob n gs) xs) v) (e:xs[gs.idxOf fl]?=some y):∃a C dx fs w,v=.ref a/\Rd H a (.ins C dx fs)/\UJ K n C/\fs.lookup fl=some w/\Rep K H S y w:=by
 obtain⟨a,vs,u,rfl,⟨rd,_⟩,⟨_,hl,C,dx,rfl,hC⟩,hr⟩:=h
 obtain⟨w,e1,e2⟩:=hr.get e
 exact⟨a,C,dx,_,w,rfl,rd,hC,by rw[U4 hl];exact e1,e2⟩
theorem Uq (O:ObC K n fs) (hf:fl∈fs) (he:DE K EX Γ Γ' .A te f):DE K EX Γ Γ' .A (Ze0 K te fl) (fun ρ=>(f ρ).bind (pFld n fl)):=fun B H0 H σ ρ F R Q A d=>by
 obtain⟨C,hC,c,na⟩:=O
 refine he B H0 H σ ρ F R _ A (d.bind.imp (fun x _ d v H1 s1 r=>?_) fun e q=>q)
 obtain⟨F1,f1,p1,A1⟩:=r
 obtain⟨p,gs,xs,y,rfl,ey,d⟩:=Dn.pFld d
 obtain⟨a,C',dx,fs',w,rfl,rd,hC',l,ry⟩:=p1.fld ey
 obtain rfl:=hC.inj hC'
 exact⟨a,C,dx,fs',w,rfl,rd,c,na _ hf,l,d w H1 s1 ⟨F1,f1,ry,A1⟩⟩
theorem Zcg (O:ObC K n fs) (hf:fl∈fs) (he:DE K EX Γ Γ' .Z te f):DE K EX Γ Γ' .Z (Ze0 K te fl) (fun ρ=>(f ρ).bind (pFld n fl)):=fun B H0 H σ ρ F R Q A d=>by
 obtain⟨C,hC,c,na⟩:=O
 refine he B H0 H σ ρ F R _ A (d.bind.imp (fun x _ d v H1 s1 r=>?_) fun e q=>q)
 obtain⟨F1,f1,p1,A1⟩:=r
 obtain⟨p,gs,xs,y,rfl,ey,d⟩:=Dn.pFld d
 obtain⟨a,C',dx,fs',w,rfl,rd,hC',l,ry⟩:=p1.fld ey
 obtain rfl:=hC.inj hC'
 exact⟨a,C,dx,fs',w,rfl,rd,c,na _ hf,l,d w H1 s1 ⟨F1,f1,ry,A1⟩⟩
theorem Zfq {Q:VK}{md:Md} (hi:Γ[i]?=some md) (hmd:md≠.U) (A:Ag K B H0 H σ Γ ρ F R) {p:Option Addr}{gs:List Str}{xs:List PV} (e:ρ.getD i .non=.box p (.ob n gs) xs) (hm:m ∉ gs) (h:Vl sp (Vk (Ut i) t) σ H Q):ZaA K n m sp (Ut i) t σ H Q:=by
 obtain⟨v,h1,h2⟩:=A.getA hi hmd
 rw[e] at h2
 obtain⟨a,vs,u,rfl,⟨rd,_⟩,⟨_,hl,C,dx,rfl,hC⟩,hr⟩:=h2
 obtain⟨v',h1',h⟩:=h
 rw[h1] at h1';cases h1'
 exact⟨.ref a,h1,a,C,dx,_,rfl,rd,hC,Zgz hl hm,h⟩
theorem DE.meth {md:Md} (hi:Γ[i]?=some md) (hmd:md≠.U) (h:DE K EX Γ Γ' k (Vl sp (Vk (Ut i) t)) f):DE K EX Γ Γ' k (ZaA K n m sp (Ut i) t) (fun ρ=>(obG n m (gv i ρ)).bind fun _=>f ρ):=fun B H0 H σ ρ F R Q A d=>by
 obtain⟨p,gs,xs,e,hm,d⟩:=Dn.obG d.bind
 exact Zfq hi hmd A e hm (h B H0 H σ ρ F R Q A d)
theorem DM.meth {fm:List PV->Rr (PV×PV)} (hi:Γ[i]?=some .O) (h:DM K EX Γ i (Vl sp (Vk (Ut i) t)) fm):DM K EX Γ i (ZaA K n m sp (Ut i) t) (fun ρ=>(obG n m (gv i ρ)).bind fun _=>fm ρ):=fun B H0 H σ ρ F Q A d=>by
 obtain⟨p,gs,xs,e,hm,d⟩:=Dn.obG d.bind
 exact Zfq hi (by decide) A e hm (h B H0 H σ ρ F Q A d)
noncomputable def ZkF (n:Str) (m:PV->List PV->Rr PV) (xs:List PV):Rr PV:=match m (.box none (.ob n []) []) xs with
 |.ok (.tup [.non,.box none s ys])=>.ok (.box none s ys)
 |_=>.bad
theorem Zjb {m:PV->List PV->Rr PV}{xs ys:List PV}{s:Sh} (h:m (.box none (.ob n []) []) xs=.ok (.tup [.non,.box none s ys])):ZkF n m xs=.ok (.box none s ys):=by
 unfold ZkF;simp only[h]
theorem Zjx {l:Nat}{mm:PV->List PV->Rr PV} (hn:Len fa l) (ha:DAA K EX Γ Γ' ta fa):DE K EX Γ Γ' .F (ZhW K n (spM K l 0 mm) ta) (fun ρ=>(fa ρ).bind (ZkF n mm)):=fun B H0 H σ ρ F R Q A d=>by
 refine ha B H0 H σ ρ F R _ A (d.bind.imp (fun xs ex d vs H1 F1 s1 f1 p1 A1 x dx C hC hx hdx hne=>?_) fun e q=>q)
 unfold ZkF at d
 split at d
 ·rename_i s ys em
  have s2:Z0 H1 (upd (upd H1 dx (.own x)) x (.ins C dx [])):=(Z0.newO hdx).trans (Z0.newO (by rw[Zn (Ne.symm hne)];exact hx))
  have nx:∀{a u},Rd H1 a u->a≠x:=fun {a u} r z=>by
   rw[z] at r
   rcases r with r|⟨o,r⟩<;>(rw[hx] at r;cases r)
  refine⟨fun a=>a≠x,xs,vs,x,.ob n [],[],[x],rfl,hn ρ xs ex,Reps.mono (fun a u _ r=>⟨r.same s2,nx r⟩) (fun a u r=>s2.im r) p1,⟨x,[],_,[],rfl,Zw,⟨trivial,rfl,C,dx,rfl,hC⟩,⟨rfl,rfl⟩,by simp,rfl⟩,fun b hb z=>hb (by simpa using z), ?_⟩
  rw[em]
  refine⟨.non,s,ys,rfl,fun u H' G1 G2 sm t1 t2 dj n1 n2=>⟨t1.1, ?_⟩⟩
  have s3:Z0 H1 H':=fun a o e=>by
   have ne:a≠x:=fun z=>by rw[z,hx] at e;cases e
   refine sm a o ?_
   rw[Zy (by simpa using ne)]
   exact s2 a o e
  have fr:∀b∈G2,H1 b=none:=fun b hb=>by
   have:=n2 b hb
   by_cases q:b=x
   ·rw[q];exact hx
   ·rw[Zy (by simpa using q),Zn q] at this
    by_cases q2:b=dx
    ·rw[q2];exact hdx
    ·rw[Zn q2] at this;exact this
  refine d _ H' (s1.trans s3) ⟨F1,f1,G2,t2,fun b hb=>⟨(A1.fresh (fr b hb)).1,.inl (s1.free (fr b hb))⟩,A1.more s3 fr t2.alive⟩
 ·exact d.elim
noncomputable def U2 (m:PV->List PV->Rr PV) (x:PV) (xs:List PV):Rr (PV×PV):=if PV.flats xs=true then Zbs m x xs else .bad
theorem JG {l:Nat}{mm:PV->List PV->Rr PV} (hm:Γ[i]?=some .O) (hn:Len fa l) (ha:DAA K EX Γ Γ ta fa):DM K EX Γ i (Vl (spM K l 0 mm) (Vk (Ut i) ta)) (fun ρ=>(fa ρ).bind fun xs=>U2 mm (gv i ρ) xs):=fun B H0 H σ ρ F Q A d=>by
 obtain⟨v0,h10,_⟩:=A.getO hm
 refine⟨v0,h10,ha B H0 H σ ρ F [] _ A (d.bind.imp (fun xs ea d vs H1 F1 s1 f1 p1 A1=>?_) fun e q=>q)⟩
 unfold U2 at d
 split at d
 rotate_left
 ·exact d.elim
 rename_i hfl
 obtain⟨v,h1,h2⟩:=A1.getO hm
 rw[h10] at h1;cases h1
 have hi:=A1.lt hm
 unfold Zbs at d
 split at d
 rotate_left
 ·exact d.elim
 rename_i p s ys er
 rw[show ρ.getD i .non=.box p s ys from er] at h2
 split at d
 rotate_left
 ·exact d.elim
 rename_i y s2 ys2 em
 obtain⟨a,ws,u0,G0,rfl,hH,hb,ht,hna,hF⟩:=id h2
 refine⟨fun b=>b ∉ F1 i,xs,vs,a,s,ys,F1 i,rfl,hn ρ xs ea,p1.flatS hfl,h2.unpin,fun b hb z=>hb z, ?_⟩
 rw[em]
 refine⟨y,s2,ys2,rfl,fun u H' G1 G2 sm t1 t2 dj n1 n2=>?_⟩
 have AL:=(A1.move hm).lost sm
 have nw:∀b,minus H1 (F1 i) b=none->(∀l,b ∉ VB F1 i [] l)/\H0 b=none:=fun b hb=>by
  refine⟨fun l z=>?_, ?_⟩
  ·by_cases q:l=i
   ·subst q;rw[Zr] at z;simp at z
   ·rw[Zx q] at z
    rw[Zy (fun w=>A1.disj l i q b z w)] at hb
    obtain⟨o,e⟩:=A1.live l b z
    rw[hb] at e;cases e
  ·by_cases q:b∈F1 i
   ·exact A1.young i b q
   ·rw[Zy q] at hb
    exact A1.same.free hb
 have AM:Ag K B H0 H' σ (Γ.set i .U) ρ (VB F1 i []) (G2++(G1++[])):=by
  refine⟨AL.same,AL.own,AL.young,fun b hb=>?_,AL.live,fun b hb=>?_,AL.disj,fun l b hb z=>?_,AL.lenS,AL.lenR,fun l=>?_⟩
  ·rcases ZsW.mp hb with z|z
   ·exact(nw b (n2 b z)).2
   ·exact(nw b (n1 b (by simpa using z))).2
  ·rcases ZsW.mp hb with z|z
   ·exact t2.alive b z
   ·exact t1.alive b (by simpa using z)
  ·rcases ZsW.mp z with z|z
   ·exact(nw b (n2 b z)).1 l hb
   ·exact(nw b (n1 b (by simpa using z))).1 l hb
  ·refine((A1.move hm).slot l).mono (fun b o s r=>⟨(r.minus (fun z=>s.2.1 (by simp[z]))).same sm,s.1,fun z=>?_,s.2.2⟩) (fun b o r=>sm.im (r.minus fun c hc=>A1.live i c hc)) fun b hb o q=>sm _ _ ?_
   ·have hb:minus H1 (F1 i) b≠none:=by
     rw[Zy (fun z=>s.2.1 (by simp[z]))]
     rcases r with r|⟨o',r⟩<;>(rw[r];simp)
    rcases ZsW.mp z with z|z
    ·exact hb (n2 b z)
    ·exact hb (n1 b (by simpa using z))
   ·rw[Zy (fun z=>(A1.move hm).disjR l b hb (by simp[z]))];exact q
 have AP:=Ag.put (i:=i) (m:=.O) (x:=.box p s2 ys2) (v:=.ref a) (G:=G2) (R:=G1++[]) AM (by rw[Zt2];exact hi) (fun b hb z=>dj b (by simpa using z) hb) ⟨.ref a,rfl,t2.repin hb.1⟩
 rw[ZhZ h10,Zul,Zc7 hm] at AP
 refine d u H' _ G1 ((Frm.of s1 f1).trans fun b o h n=>?_) t1 (fun b hb=>?_) AP
 ·have e:minus H1 (F1 i) b=some o:=by rw[Zy (n i)];exact h
  refine⟨sm _ _ e,fun l z=>?_⟩
  by_cases q:l=i
  ·subst q
   rw[Zr] at z
   rw[n2 b z] at e;cases e
  ·rw[Zx q,Zx q] at z
   exact n l z
 ·have:=n1 b hb
  by_cases q:b∈F1 i
  ·exact .inr ⟨i,f1 i b q⟩
  ·rw[Zy q] at this;exact .inl (s1.free this)
end
section
variable {K:W.Frag}{H:Hp}
mutual
theorem ZV.flat_nil:∀{x:PV}{v:V}{G:List Addr},x.flat=true->ZV K H x v G->G=[]
 |.non,_,_,_,h=>h.2
 |.bl _,_,_,_,h=>h.2
 |.int _,_,_,_,h=>h.2
 |.str _,_,_,_,h=>h.2
 |.exc _,_,_,_,h=>h.2
 |.exa _ _,_,_,_,h=>h.2
 |.box _ _ _,_,_,f,_=>by simp[PV.flat] at f
 |.lst _,_,_,f,_=>by simp[PV.flat] at f
 |.tup xs,_,_,f,h=>by
  obtain⟨a,vs,rfl,ha,ht⟩:=h
  exact Trees.flat_nil (by simpa[PV.flat] using f) ht
 |.fz xs,_,_,f,h=>by
  obtain⟨a,vs,rfl,ha,ht⟩:=h
  exact Trees.flat_nil (by simpa[PV.flat] using f) ht
theorem Trees.flat_nil:∀{xs:List PV}{vs:List V}{G:List Addr},PV.flats xs=true->Trees K H xs vs G->G=[]
 |[],_,_,_,h=>h.2
 |x::xs,_,_,f,h=>by
  obtain⟨v,r,G1,G2,rfl,h3,h4,hd,rfl⟩:=h
  simp only[PV.flats,Bool.and_eq_true] at f
  rw[ZV.flat_nil f.1 h3,Trees.flat_nil f.2 h4];rfl
end
theorem Trees.upL {ys:List PV} (hf:PV.flats ys=true):∀{xs:List PV}{vs:List V}{G:List Addr}{j:Nat},Trees K H xs vs G->xs[j]?=some (.lst ys) ->
  ∃l ws,vs[j]?=some (.ref l)/\H l=some (.lst ws)/\Reps K H (fun _=>True) ys ws/\l∈G/\∀ys' ws',PV.flats ys'=true->Reps K H (fun _=>True) ys' ws'->Trees K (upd H l (.lst ws')) (xs.set j (.lst ys')) vs G
 |[],_,_,_,_,e=>by simp at e
 |x::xs,_,_,0,h,e=>by
  obtain⟨v,r,G1,G2,rfl,h3,h4,hd,rfl⟩:=h
  simp only[ZtA,Option.some.injEq] at e
  subst e
  obtain⟨l,ws,G,rfl,hl,ht,hn,rfl⟩:=h3
  have hG:=Trees.flat_nil hf ht
  subst hG
  refine⟨l,ws,rfl,hl,ht.reps fun _ _=>trivial,by simp,fun ys' ws' f r'=>⟨.ref l,r,[l],G2,rfl,⟨l,ws',[],rfl,Zw,(Reps.trees f r').put hl (by simp),by simp,rfl⟩,h4.put hl (hd l (by simp)),hd,rfl⟩⟩
 |x::xs,_,_,j+1,h,e=>by
  obtain⟨v,r,G1,G2,rfl,h3,h4,hd,rfl⟩:=h
  obtain⟨l,ws,e1,hl,hr,hm,up⟩:=Trees.upL hf (j:=j) h4 (by simpa using e)
  exact⟨l,ws,by simpa using e1,hl,hr,by simp[hm],fun ys' ws' f r'=>⟨v,r,G1,G2,rfl,h3.put hl (fun z=>hd l z hm),up ys' ws' f r',hd,rfl⟩⟩
end
theorem ZgY {F:Nat->List Addr}{i:Nat}:VB F i (F i)=F:=by
 funext j
 by_cases q:j=i
 ·subst q;exact Zr
 ·exact Zx q
theorem ZgB {ρ:List PV}{i:Nat}:ρ.set i (gv i ρ)=ρ:=by
 apply ZtT
 intro q
 by_cases e:i=q
 ·subst e
  by_cases h:i<ρ.length
  ·rw[Ztg h,gv,ZsQ,ZsR h];rfl
  ·rw[Ztd (by simpa using h),Ztd (by simpa using h)]
 ·rw[Ztk e]
section
variable {K:W.Frag}{B:Addr->Prop}{EX:PX->Hp->Prop}{H0 H H':Hp}{σ:St}{Γ Γ1 Γ2:List Md}{ρ:List PV}{F F':Nat->List Addr}{R:List Addr}{te tb:TE}{f:List PV->Rr PV}{fm fm2:List PV->Rr (PV×PV)}{fs:List Str}{n fl m:Str}{i l:Nat}{k:Kd}
theorem Ag.fldL {p:Option Addr}{gs:List Str}{xs ys:List PV} (A:Ag K B H0 H σ Γ ρ F R) (hm:Γ[i]?=some .O) (e:ρ.getD i .non=.box p (.ob n gs) xs) (hj:xs[gs.idxOf fl]?=some (.lst ys)) (hf:PV.flats ys=true) :
  ∃a C dx fs l ws,σ[i]?=some (some (.ref a))/\H a=some (.ins C dx fs)/\UJ K n C/\fs.lookup fl=some (.ref l)/\H l=some (.lst ws)/\l≠a/\Reps K H (fun _=>True) ys ws/\l∈F i /\
   ∀ys' ws',PV.flats ys'=true->Reps K H (fun _=>True) ys' ws'->Ag K B H0 (upd H l (.lst ws')) σ Γ (ρ.set i (.box p (.ob n gs) (xs.set (gs.idxOf fl) (.lst ys')))) F R:=by
 obtain⟨v,h1,h2⟩:=A.getO hm
 rw[e] at h2
 obtain⟨a,vs,u,G,rfl,ha,⟨hp,hl,C,dx,rfl,hC⟩,ht,hn,hF⟩:=h2
 obtain⟨q,ws,e1,e2,e3,e4,up⟩:=Trees.upL hf ht hj
 have hqa:q≠a:=fun z=>hn (z▸e4)
 have hqF:q∈F i:=by rw[hF];simp[e4]
 refine⟨a,C,dx,_,q,ws,h1,ha,hC,by rw[U4 hl];exact e1,e2,hqa,e3,hqF,fun ys' ws' f r=>?_⟩
 have AC:=Ag.chg (G:=[]) (G':=F i) (R:=R) (x':=.box p (.ob n gs) (xs.set (gs.idxOf fl) (.lst ys'))) (vs':=ws') A hm hqF (fun b hb=>.inl hb) (by simp) ⟨_,h1,a,vs,_,G,rfl,by rw[Zn (Ne.symm hqa)];exact ha,⟨hp,hl,C,dx,rfl,hC⟩,up ys' ws' f r,hn,hF⟩
 rw[ZgY] at AC
 exact AC
def DMf (K:W.Frag) (EX:PX->Hp->Prop) (Γ:List Md) (i:Nat) (te:TE) (fm:List PV->Rr (PV×PV)):Prop:=
 ∀(B:Addr->Prop) (H0 H:Hp) (σ:St) (ρ:List PV) (F:Nat->List Addr) (Q:VK),Ag K B H0 H σ Γ ρ F [] ->
  Dn (fm ρ) (fun r=>∀v H' F',Frm H F H' F'->(∀a C dx fs,H a=some (.ins C dx fs)->H' a=some (.ins C dx fs))->r.1.flat=true->Rep K H' (fun _=>True) r.1 v->Ag K B H0 H' σ Γ (ρ.set i r.2) F' []->Q v H') (fun e=>∀H',Z0 H0 H'->EX e H')->te σ H Q
theorem DMf.dm (h:DMf K EX Γ i te fm):DM K EX Γ i te fm:=fun B H0 H σ ρ F Q A d =>
 h B H0 H σ ρ F Q A (d.imp (fun r _ q v H' F' fr _ hf rp A'=>q v H' F' [] fr (rp.tree hf) (by simp) A') fun e q=>q)
theorem Zdx (he:DE K EX Γ Γ .P te f):DMf K EX Γ i te (fun ρ=>(f ρ).bind fun x=>.ok (x,gv i ρ)):=fun B H0 H σ ρ F Q A d=>by
 refine he B H0 H σ ρ F [] _ A (d.bind.imp (fun x _ d v H1 s1 r=>?_) fun e q=>q)
 obtain⟨F1,f1,hf,p1,A1⟩:=r
 exact d v H1 F1 (Frm.of s1 f1) (fun a C dx fs e=>s1 _ _ e) hf p1 (by rw[ZgB];exact A1)
noncomputable def popL (ys:List PV):Rr (PV×List PV):=if PV.flats ys=true/\ys.length≠0 then .ok (ys.getD (ys.length-1) .non,ys.dropLast) else .bad
theorem Dn.popL {ys:List PV}{ok:PV×List PV->Prop}{ex:PX->Prop} (d:Dn (popL ys) ok ex):PV.flats ys=true/\0<ys.length/\ok (ys.getD (ys.length-1) .non,ys.dropLast):=by
 unfold L2.popL at d
 split at d
 ·rename_i h
  exact⟨h.1,by omega,d⟩
 ·exact d.elim
noncomputable def UR (n fl:Str) (x:PV) (ys:List PV):Rr PV:=match x with
 |.box p (.ob m gs) xs=>.ok (.box p (.ob m gs) (xs.set (gs.idxOf fl) (.lst ys)))
 |_=>.bad
noncomputable def ZiN (n fl:Str) (x:PV):Rr (PV×PV):=(pFld n fl x).bind fun y=>(asL y).bind fun ys=>(popL ys).bind fun r=>(UR n fl x r.2).bind fun z=>.ok (r.1,z)
theorem QS {ys:List PV} (h:PV.flats ys=true) (h0:0<ys.length):(ys.getD (ys.length-1) .non).flat=true:=by
 have hx:ys[ys.length-1]?=some (ys.getD (ys.length-1) .non):=by rw[ZsQ,ZsR (by omega)];rfl
 exact PV.flats_all.mp h _ (Ztx hx)
theorem Zee {ys:List PV} (h:PV.flats ys=true):PV.flats ys.dropLast=true:=PV.flats_all.mpr fun x hx=>PV.flats_all.mp h x (List.dropLast_subset _ hx)
theorem ZeA {S:Addr->Prop}{ys:List PV}{ws:List V} (h:Reps K H S ys ws):Reps K H S ys.dropLast ws.dropLast:=by
 rw[ZtV,ZtV,h.length];exact h.take _
theorem Ze9 {S:Addr->Prop}{ys:List PV}{ws:List V} (h:Reps K H S ys ws) (h0:0<ys.length):∃w,ws[ws.length-1]?=some w/\Rep K H S (ys.getD (ys.length-1) .non) w:=by
 have hx:ys[ys.length-1]?=some (ys.getD (ys.length-1) .non):=by rw[ZsQ,ZsR (by omega)];rfl
 obtain⟨w,e1,e2⟩:=h.get hx
 exact⟨w,by rw[h.length];exact e1,e2⟩
theorem Zhv {x:PV}{v:V}{q:Addr}{ws:List V}{o:HO} (hq:H q=some (.lst ws)) (hf:x.flat=true) (h:Rep K H (fun _=>True) x v):Rep K (upd H q o) (fun _=>True) x v:=((h.tree hf).put hq (by simp)).rep (by simp)
theorem ZfH {q:Addr}{o:HO} (hq:q∈F i):Frm H F (upd H q o) F:=fun b u h n=>⟨by rw[Zn (fun z=>n i (by rw[z];exact hq))];exact h,n⟩
theorem Zca (O:ObC K n fs) (hf:fl∈fs) (hm:Γ[i]?=some .O):DMf K EX Γ i (ZmC K "list" ZmJ (Ze0 K (Ut i) fl)) (fun ρ=>ZiN n fl (gv i ρ)):=fun B H0 H σ ρ F Q A d=>by
 obtain⟨C,hC,c,na⟩:=O
 obtain⟨p,gs,xs,y,e,ey,d⟩:=Dn.pFld d.bind
 obtain⟨ys,ye,d⟩:=Dn.asL d.bind
 rw[ye] at ey
 obtain⟨hfl,h0,d⟩:=Dn.popL d.bind
 have e':ρ.getD i .non=.box p (.ob n gs) xs:=e
 obtain⟨a,C',dx,fs',q,ws,h1,ha,hC',lk,hq,hqa,hr,hqF,up⟩:=A.fldL hm e' ey hfl
 obtain rfl:=hC.inj hC'
 dsimp only at d
 rw[e] at d
 have d:(∀v H' F',_):=d
 obtain⟨w,hw,rw'⟩:=Ze9 hr h0
 refine⟨.ref a,h1,a,C,dx,fs',.ref q,rfl,.inl ha,c,na _ hf,lk,.inl ⟨rfl,_,SqL.of hq⟩,q,ws,w,rfl,rfl,hq,hw, ?_⟩
 refine d w _ F (ZfH hqF) (fun b D ex gs' hb=>?_) (QS hfl h0) (Zhv hq (QS hfl h0) rw') (up _ _ (Zee hfl) (ZeA hr))
 rw[Zn (fun z=>by rw[z,hq] at hb;cases hb)];exact hb
theorem Zhx {x:PV}{v:V} (A:Ag K B H0 H σ Γ ρ F R) (fr:Frm H F H' F') (hf:x.flat=true) (h:Rep K H (fun _=>True) x v):Rep K H' (fun _=>True) x v:=by
 refine ZV.rep (F:=[]) (by simp) (ZV.mono (by simp) (fun a u im=>?_) (h.tree hf))
 refine⟨(fr a u im.1 fun j z=>?_).1,im.2⟩
 obtain⟨vs,q⟩:=A.live j a z
 rw[im.1] at q
 exact UE vs.2 im.2 (Option.some.inj q)
theorem Zh4 (h1:DMf K EX Γ i te fm) (h2:DMf K EX Γ i tb fm2):DMf K EX Γ i (Zl5 (Vk te (Vk tb ZdC))) (fun ρ=>(fm ρ).bind fun r=>(fm2 (ρ.set i r.2)).bind fun q=>.ok (.tup [r.1,q.1],q.2)):=fun B H0 H σ ρ F Q A d=>by
 refine h1 B H0 H σ ρ F _ A (d.bind.imp (fun r _ d v H1 F1 fr1 k1 hf1 p1 A1=>?_) fun e q=>q)
 refine h2 B H0 H1 σ _ F1 _ A1 (d.bind.imp (fun q _ d w H2 F2 fr2 k2 hf2 p2 A2=>?_) fun e q=>q)
 refine⟨by show 2<=_;rw[sizeLine_eq];decide,fun p hp=>?_⟩
 have s3:Z0 H2 (upd H2 p (.tup [v,w])):=Z0.new hp
 have A3:=A2.grow s3
 rw[Zul] at A3
 have p1':=Zhx A1 fr2 hf1 p1
 exact d _ _ F2 ((fr1.trans fr2).trans (Frm.of s3 fun _ _ h=>h)) (fun a C dx fs e=>s3 _ _ (k2 _ _ _ _ (k1 _ _ _ _ e))) (by simp[PV.flat,PV.flats,hf1,hf2]) ⟨p,_,rfl,⟨Zw,trivial⟩,v,_,rfl,p1'.same s3,w,_,rfl,p2.same s3,rfl⟩ A3
noncomputable def ZjA (n fl:Str) (x y:PV):Rr PV:=(pFld n fl x).bind fun z=>(asL z).bind fun ys=>if PV.flats ys=true/\ys.length<1000000 then UR n fl x (ys++[y]) else .bad
noncomputable def Zjk (n fl:Str) (x:PV):Rr PV:=(pFld n fl x).bind fun z=>(asL z).bind fun ys=>if PV.flats ys=true then .ok .non else .bad
theorem Qw (O:ObC K n fs) (hf:fl∈fs) (hm:Γ[i]?=some .O) (he:DMf K EX Γ i te fm):DS K EX Γ ⟨Γ,Γ1,Γ2,k⟩ (ZdD (tBM K "list" ZbB (Ze0 K (Ut i) fl) (Vk te ZdC)))
  (fun ρ=>(Zjk n fl (gv i ρ)).thenS fun _=>(fm ρ).thenS fun r=>(ZjA n fl r.2 r.1).thenS fun z=>.next (ρ.set i z)):=fun B H0 H σ ρ F D A d=>by
 obtain⟨C,hC,c,na⟩:=O
 have d:=d.thenS
 obtain⟨p,gs,xs,y,e,ey,d⟩:=Dn.pFld d.bind
 obtain⟨ys,ye,d⟩:=Dn.asL d.bind
 rw[ye] at ey
 split at d
 rotate_left
 ·exact d.elim
 rename_i hfl
 have e':ρ.getD i .non=.box p (.ob n gs) xs:=e
 obtain⟨a,C',dx,fs',q,ws,h1,ha,hC',lk,hq,hqa,hr,hqF,up⟩:=A.fldL hm e' ey hfl
 obtain rfl:=hC.inj hC'
 refine⟨.ref a,h1,a,C,dx,fs',.ref q,rfl,.inl ha,c,na _ hf,lk,.inl ⟨rfl,_,SqL.of hq⟩, ?_⟩
 refine he B H0 H σ ρ F _ A ((show DnS _ _ _ _ _ _ _ _ _ from d).thenS.imp (fun r _ d v H1 F1 fr1 k1 hf1 p1 A1=>?_) fun e q=>q)
 have d:=d.thenS
 obtain⟨p2,gs2,xs2,y2,e2,ey2,d⟩:=Dn.pFld d.bind
 obtain⟨ys2,ye2,d⟩:=Dn.asL d.bind
 rw[ye2] at ey2
 split at d
 rotate_left
 ·exact d.elim
 rename_i hfl2
 have hi:=A.lt hm
 have e3:(ρ.set i r.2).getD i .non=.box p2 (.ob n gs2) xs2:=by
  rw[ZsQ,Ztg (by rw[A.lenR];exact hi)];exact e2
 obtain⟨a2,C2,dx2,fs2,q2,ws2,h12,ha2,hC2,lk2,hq2,hqa2,hr2,hqF2,up2⟩:=A1.fldL hm e3 ey2 hfl2.1
 rw[h1] at h12;cases h12
 have hk:=k1 _ _ _ _ ha
 rw[ha2] at hk;cases hk
 rw[lk] at lk2;cases lk2
 rw[e2] at d
 refine⟨q,ws2,v,rfl,rfl,hq2,by rw[hr2.length];exact ZsY hfl2.2 (by rw[sizeLine_eq];decide), ?_⟩
 have A4:=up2 (ys2++[r.1]) (ws2++[v]) (by rw[PV.flats_append,hfl2.1];simp[PV.flats,hf1]) (hr2.append (Reps.one p1))
 rw[Zul] at A4
 exact(show ∀σ' H' F',_ from d) σ _ F1 (fr1.trans (ZfH hqF2)) A4
end
noncomputable def ZeI (f:Str) (gs:List Str):List Str:=if f∈gs then gs else gs++[f]
noncomputable def ZbC {α:Type} (f:Str) (gs:List Str) (xs:List α) (y:α):List α:=if f∈gs then xs.set (gs.idxOf f) y else xs++[y]
theorem ZcF {f:Str}{v:V}:∀{gs:List Str}{vs:List V},gs.length=vs.length->QN f v (gs.zip vs)=(ZeI f gs).zip (ZbC f gs vs v)
 |[],[],_=>by simp[QN,ZeI,ZbC]
 |[],_::_,h=>by simp at h
 |_::_,[],h=>by simp at h
 |g::gs,w::vs,h=>by
  have ih:=ZcF (f:=f) (v:=v) (gs:=gs) (vs:=vs) (by simpa using h)
  unfold ZeI ZbC at ih ⊢
  rw[Zt5,QN]
  by_cases e:g=f
  ·subst e
   simp[Zun]
  ·have e2:(g==f)=false:=beq_eq_false_iff_ne.mpr e
   rw[if_neg e,ih]
   by_cases hm:f∈gs
   ·rw[if_pos hm,if_pos hm,if_pos (by simp[hm]),if_pos (by simp[hm]),Zun,e2]
    simp
   ·have hm':f ∉ g::gs:=by simp[hm,Ne.symm e]
    rw[if_neg hm,if_neg hm,if_neg hm',if_neg hm']
    simp
theorem ZgG {α:Type}{f:Str}{gs:List Str}{vs:List α}{v:α} (h:gs.length=vs.length):(ZeI f gs).length=(ZbC f gs vs v).length:=by
 unfold ZeI ZbC
 split<;>simp[h]
noncomputable def pSetF (n f:Str) (x y:PV):Rr PV:=match x with
 |.box p (.ob m gs) xs=>if m=n/\gs.length<1000 then .ok (.box p (.ob m (ZeI f gs)) (ZbC f gs xs y)) else .bad
 |_=>.bad
theorem Dn.pSetF {n f:Str}{x y:PV}{ok:PV->Prop}{ex:PX->Prop} (d:Dn (pSetF n f x y) ok ex):∃p gs xs,x=.box p (.ob n gs) xs/\gs.length<1000/\ok (.box p (.ob n (ZeI f gs)) (ZbC f gs xs y)):=by
 unfold L2.pSetF at d
 split at d
 ·rename_i p m gs xs
  split at d
  ·rename_i h
   obtain⟨rfl,h⟩:=h
   exact⟨p,gs,xs,rfl,h,d⟩
  ·exact d.elim
 ·exact d.elim
section
variable {K:W.Frag}{B:Addr->Prop}{EX:PX->Hp->Prop}{H0 H H':Hp}{σ:St}{Γ Γ' Γ1 Γ2:List Md}{ρ:List PV}{F F':Nat->List Addr}{R:List Addr}{te:TE}{f:List PV->Rr PV}{fs:List Str}{n fl:Str}{i:Nat}{k:Kd}
theorem Trees.setN:∀{xs:List PV}{vs:List V}{G G1:List Addr}{j:Nat}{y:PV}{w:V},Trees K H xs vs G->ZV K H y w G1->(∀a∈G,a ∉ G1)->∃G',(∀a∈G',a∈G\/a∈G1)/\Trees K H (xs.set j y) (vs.set j w) G'
 |[],_,_,_,_,_,_,h,_,_=>⟨[],by simp,by rw[h.1];exact⟨rfl,rfl⟩⟩
 |x::xs,_,_,G3,0,y,w,h,h',hd=>by
  obtain⟨v,r,G1,G2,rfl,h1,h2,h3,rfl⟩:=h
  refine⟨G3++G2,fun a ha=>?_,w,r,G3,G2,rfl,h',h2,fun a ha z=>hd a (by simp[z]) ha,rfl⟩
  rcases ZsW.mp ha with z|z
  ·exact .inr z
  ·exact .inl (by simp[z])
 |x::xs,_,_,G3,j+1,y,w,h,h',hd=>by
  obtain⟨v,r,G1,G2,rfl,h1,h2,h3,rfl⟩:=h
  obtain⟨G',h4,h5⟩:=Trees.setN (j:=j) h2 h' fun a ha=>hd a (by simp[ha])
  refine⟨G1++G',fun a ha=>?_,v,r.set j w,G1,G',rfl,h1,h5,fun a ha z=>?_,rfl⟩
  ·rcases ZsW.mp ha with z|z
   ·exact .inl (by simp[z])
   ·rcases h4 a z with q|q
    ·exact .inl (by simp[q])
    ·exact .inr q
  ·rcases h4 a z with q|q
   ·exact h3 a ha q
   ·exact hd a (by simp[ha]) q
theorem Trees.putXs {xs:List PV}{vs:List V}{G G1:List Addr}{y:PV}{w:V}{gs:List Str} (h:Trees K H xs vs G) (h':ZV K H y w G1) (hd:∀a∈G,a ∉ G1):∃G',(∀a∈G',a∈G\/a∈G1)/\Trees K H (ZbC fl gs xs y) (ZbC fl gs vs w) G':=by
 unfold ZbC
 split
 ·exact Trees.setN h h' hd
 ·exact⟨G++G1,fun a ha=>ZsW.mp ha,Trees.append h (Trees.one h') hd⟩
theorem VZ (O:ObC K n fs) (hf:fl∈fs) (hm:Γ'[i]?=some .O) (he:DE K EX Γ Γ' .F te f):DS K EX Γ ⟨Γ',Γ1,Γ2,k⟩ (ZlK K (Ut i) te fl) (fun ρ=>(f ρ).thenS fun y=>(pSetF n fl (gv i ρ) y).thenS fun z=>.next (ρ.set i z)):=fun B H0 H σ ρ F D A d=>by
 obtain⟨C,hC,c,na⟩:=O
 refine he B H0 H σ ρ F [] _ A (d.thenS.imp (fun y _ d v H1 s1 r=>?_) fun e q=>q)
 obtain⟨F1,f1,G1,t1,o1,A1⟩:=r
 obtain⟨p,gs,xs,e,hl,d⟩:=Dn.pSetF d.thenS
 obtain⟨w,h1,h2⟩:=A1.getO hm
 rw[show ρ.getD i .non=.box p (.ob n gs) xs from e] at h2
 obtain⟨a,vs,u,G,rfl,ha,⟨hp,hlen,C',dx,rfl,hC'⟩,ht,hn,hF⟩:=h2
 obtain rfl:=hC.inj hC'
 have haF:a∈F1 i:=by rw[hF];simp
 have dj:∀b∈G,b ∉ G1:=fun b hb z=>A1.disjR i b (by rw[hF];simp[hb]) (ZsU _ z)
 have na1:a ∉ G1:=fun z=>A1.disjR i a haF (ZsU _ z)
 obtain⟨G',g1,g2⟩:=Trees.putXs (fl:=fl) (gs:=gs) ht t1 dj
 have naG:a ∉ G':=fun z=>(g1 a z).elim hn na1
 refine⟨.ref a,h1,a,C,dx,_,rfl,ha,c,na _ hf,by rw[Zuk];omega, ?_⟩
 have hsub:∀b∈a::G',b∈F1 i\/b∈G1:=fun b hb=>by
  rw[hF]
  rcases ZsZ.mp hb with rfl|hb
  ·simp
  ·rcases g1 b hb with z|z
   ·simp[z]
   ·exact .inr z
 refine(show ∀σ' H' F',_ from d) σ _ (VB F1 i (a::G')) (Qt s1 f1 haF fun b hb=>?_) (Ag.chgB (o':=.ins C dx (QN fl v (gs.zip vs))) (G:=G1) (R:=[]) trivial A1 hm haF hsub (by simp) ?_)
 ·rcases hsub b hb with z|z
  ·exact .inr ⟨i,f1 i b z⟩
  ·exact(o1 b z).2
 ·exact⟨_,h1,a,ZbC fl gs vs v,_,G',rfl,Zw,⟨hp,ZgG hlen,C,dx,by rw[ZcF hlen],hC⟩,g2.putL (us:=⟨.ins C dx (gs.zip vs),trivial⟩) ha naG,naG,rfl⟩
end
section
variable {K:W.Frag}{EX:PX->Hp->Prop}{Γ Γ1 Γ2 Γ3:List Md}{te:TE}{fm:List PV->Rr (PV×PV)}{i:Nat}
theorem Zh2 (he:DM K EX Γ i te fm):DS K EX Γ ⟨Γ3,Γ1,Γ2,.P⟩ (ZjZ te) (fun ρ=>(fm ρ).thenS fun r=>(grd r.1).thenS fun y=>.ret y):=fun B H0 H σ ρ F D A d=>by
 refine he B H0 H σ ρ F _ A (d.thenS.imp (fun r _ d v H1 F1 G fr t1 h1 A1=>?_) fun e q=>q)
 unfold grd at d
 split at d
 ·rename_i hf
  exact d v H1 A1.same ⟨hf,t1.rep fun _ _=>trivial⟩
 ·exact d.elim
variable {X:Cx}{o value:Expr}{f:Str}{pos pos':Pos}{ta tv:TE}
theorem Zaj (ha:PE X o ta) (hv:PE X value tv) (eK:X.K=K:=by rfl) (hs:swapsWith value (some (.Attribute o f pos')) pos.line X.env=pure false:=by rfl):PS X (.Assign [.Attribute o f pos'] value pos) (ZlK K ta tv f):=by
 subst eK;exact Zku ha hv hs
end
noncomputable def unp (x:PV):PV:=match x with
 |.box _ s xs=>.box none s xs
 |x=>x
section
variable {K:W.Frag}{EX:PX->Hp->Prop}{Γ Γ':List Md}{te:TE}{f:List PV->Rr PV}
theorem Zdy (he:DE K EX Γ Γ' .A te f):DE K EX Γ Γ' .A te (fun ρ=>(f ρ).bind fun x=>.ok (unp x)):=fun B H0 H σ ρ F R Q A d=>by
 refine he B H0 H σ ρ F R _ A (d.bind.imp (fun x _ d v H1 s1 r=>?_) fun e q=>q)
 obtain⟨F1,f1,p1,A1⟩:=r
 refine d v H1 s1 ⟨F1,f1, ?_,A1⟩
 cases x with
 |box p s xs =>
  obtain⟨a,vs,u,rfl,h1,⟨_,h2⟩,h3⟩:=p1
  exact⟨a,vs,u,rfl,h1,⟨trivial,h2⟩,h3⟩
 |_=>exact p1
end
noncomputable def Q5 (K:W.Frag) (n:Str) (fs:List Str):Bool:=match PySem.W.nsIn K mainGlobals n with
 |some (some (.ref C))=>PySem.W.plainGet K C Str.empty&&PySem.W.hasDictIn K C&&PySem.W.plainOver K C&&PySem.W.makesIn K C&&PySem.W.keepIn K (.ref C)&&(PySem.W.findIn K (.ref C) "__setattr__" == some (some (.builtin "object.__setattr__")))&&fs.all (fun f=>PySem.W.findIn K (.ref C) f==some none)
 |_=>false
theorem Q4 {K:W.Frag}{n:Str}{fs:List Str} (h:Q5 K n fs=true):∃C,UJ K n C/\Cls K C/\(∀f∈fs,QB K C f)/\PySem.W.makesIn K C=true/\PySem.W.keepIn K (.ref C)=true:=by
 unfold Q5 at h
 split at h
 ·rename_i C e
  simp only[Bool.and_eq_true,ZtN,beq_iff_eq] at h
  obtain⟨⟨⟨⟨⟨⟨h1,h2⟩,h3⟩,h4⟩,h5⟩,h6⟩,h7⟩:=h
  exact⟨C,e,⟨h1,h2,h3,h6⟩,h7,h4,h5⟩
 ·cases h
theorem Zz {K:W.Frag}{n:Str}{fs:List Str} (h:Q5 K n fs=true):ObC K n fs:=let ⟨C,a,b,c,_⟩:=Q4 h;⟨C,a,b,c⟩
section
variable {P:Program}{w:World}{K:W.Frag}{mg:Str->Option Value}{base:Heap}{k:Nat}{n m qual:Str}{st:Stmt}{ps fs:List Str}{sp:Sp}
theorem JD (h:Q5 K n fs=true) (d:Zeq K n m qual st) (b:∀(kV doc pm:Value) (an:Option Addr) (cdv ct:Value) (us:List Value),us.length=ps.length->bindArgs (PySem.W.fnOf m qual (Zq st) (Zo st) (Zd st) .none kV doc pm an cdv ct) ⟨us,[]⟩=pure (ps.zip us))
  (hf:∀{f fd},Fun K m qual st f fd->Jk P w K mg base CX0 k f fd ps sp):OkM P w K mg base k n m ps sp:=by
 obtain⟨C,a,c,_,_⟩:=Q4 h
 obtain⟨C',f,fd,hC,h1,h2,F⟩:=d
 obtain rfl:=a.inj hC
 exact⟨C,f,fd,a,c,⟨h1,by unfold PySem.W.isFn;rw[h2];rfl,F.kp⟩,hf F,F.binds b⟩
theorem ZkB (h:Q5 K n fs=true) (d:Zeq K n "__init__" qual st) (hg:∀C,UJ K n C->mg n=some (.ref C)) (b:∀(kV doc pm:Value) (an:Option Addr) (cdv ct:Value) (us:List Value),us.length=ps.length->bindArgs (PySem.W.fnOf "__init__" qual (Zq st) (Zo st) (Zd st) .none kV doc pm an cdv ct) ⟨us,[]⟩=pure (ps.zip us))
  (hf:∀{f fd},Fun K "__init__" qual st f fd->Jk P w K mg base CX0 k f fd ps sp):OkC P w K mg base k n ps sp:=by
 obtain⟨C,a,c,_,mk,kp⟩:=Q4 h
 obtain⟨C',f,fd,hC,h1,h2,F⟩:=d
 obtain rfl:=a.inj hC
 exact⟨C,f,fd,a,hg C a,⟨mk,h1,by unfold PySem.W.isFn;rw[h2];rfl,kp⟩,hf F,F.binds b⟩
end
end L2
namespace My
open L2
noncomputable def tab (n:Nat) (f:Nat->Int):List Int:=(List.range n).map f
theorem Z7 (n:Nat) (f:Nat->Int):(tab n f).length=n:=by simp[tab]
theorem JT {n:Nat}{f:Nat->Int}{x:Nat} (h:x<n):(tab n f).getD x 0=f x:=by
 rw[ZsQ,tab,Ztb,Zt9 h];rfl
theorem UN {n:Nat}{f:Nat->Int}{l:List Int} (hl:l.length=n) (h:∀x,x<n->l.getD x 0=f x):l=tab n f:=by
 apply List.ext_getElem
 ·rw[hl,Z7]
 ·intro i h1 h2
  have:=h i (by omega)
  rw[ZsQ,ZsR h1] at this
  simp only[tab,List.getElem_map,List.getElem_range]
  exact this
theorem Zdc (l:List Int):l=tab l.length fun x=>l.getD x 0:=UN rfl fun _ _=>rfl
theorem getD_set {l:List Int}{j x:Nat}{v:Int} (h:j<l.length):(l.set j v).getD x 0=if x=j then v else l.getD x 0:=by
 rw[ZsQ,ZsQ]
 by_cases e:x=j
 ·subst e;rw[Ztg h,if_pos rfl];rfl
 ·rw[Ztk (Ne.symm e),if_neg e]
theorem Zb6 {n:Nat}{f:Nat->Int}{j:Nat}{v:Int} (h:j<n):(tab n f).set j v=tab n fun x=>if x=j then v else f x:=by
 refine UN (by rw[Zt2,Z7]) fun x hx=>?_
 rw[getD_set (by rw[Z7];exact h)]
 by_cases e:x=j
 ·rw[if_pos e,if_pos e]
 ·rw[if_neg e,if_neg e,JT hx]
theorem VM {n:Nat}{f g:Nat->Int} (h:∀x,x<n->f x=g x):tab n f=tab n g:=UN (Z7 _ _) fun x hx=>by rw[JT hx,h x hx]
theorem Zfr {n:Nat}{f:Nat->Int}{v:Int}:v∈tab n f ↔ ∃x,x<n/\f x=v:=by simp[tab]
theorem ZT {l:List Int}{x:Nat} (h:x<l.length):l.getD x 0∈l:=by
 rw[ZsQ,ZsR h];exact Zui h
theorem Qi {l:List Int}{v:Int} (h:v∈l):∃x,x<l.length/\l.getD x 0=v:=by
 obtain⟨x,hx,e⟩:=List.getElem_of_mem h
 exact⟨x,hx,by rw[ZsQ,ZsR hx,<- e];rfl⟩
theorem U7:∀{l:List Int}{j:Nat}{v:Int},j<l.length->(l.set j v).sum=l.sum-l.getD j 0+v
 |a::l,0,v,_=>by simp;omega
 |a::l,j+1,v,h=>by
  have:=U7 (l:=l) (j:=j) (v:=v) (by simpa using h)
  simp only[Zud,ZtK,List.getD_cons_succ,this];omega
theorem UP:∀(ns:List Int) (c:Int),(ns.map fun v=>v+c).sum=ns.sum+ns.length*c
 |[],c=>by simp
 |a::l,c=>by
  simp only[Ztc,ZtK,Ztj]
  rw[UP l c,Int.natCast_add,Int.add_mul];omega
theorem ZL {n a b:Int} (ha:0<=a) (ha':a<n) (hb:0<=b) (hb':b<n):(a-b)%n=if b<=a then a-b else a-b+n:=by
 by_cases h:b<=a
 ·rw[if_pos h,Ztq (by omega) (by omega)]
 ·rw[if_neg h,<- Int.add_emod_right,Ztq (by omega) (by omega)]
theorem Vo {n a b:Int} (ha:0<=a) (ha':a<n) (hb:0<=b) (hb':b<n):(a+b)%n=if a+b<n then a+b else a+b-n:=by
 by_cases h:a+b<n
 ·rw[if_pos h,Ztq (by omega) (by omega)]
 ·rw[if_neg h,<- Int.sub_emod_right,Ztq (by omega) (by omega)]
structure Jp (ns:List Int):Prop where
 lo:2<=ns.length
 hi:ns.length<=24
 nn:∀x∈ns,0<=x
 sm:ns.sum<=10^60
theorem Jp.nn' {ns:List Int} (h:Jp ns) (x:Nat):0<=ns.getD x 0:=by
 by_cases hx:x<ns.length
 ·exact h.nn _ (ZT hx)
 ·rw[ZsQ,Ztd (by omega)];exact Int.le_refl _
theorem sum_nn:∀{l:List Int},(∀x∈l,0<=x)->0<=l.sum
 |[],_=>by simp
 |a::l,h=>by
  have:=sum_nn (l:=l) fun x hx=>h x (by simp[hx])
  have:=h a (by simp)
  simp only[ZtK];omega
theorem Zfw:∀{l:List Int}{v:Int},(∀x∈l,0<=x)->v∈l->v<=l.sum
 |a::l,v,h,hv=>by
  have h1:=sum_nn (l:=l) fun x hx=>h x (by simp[hx])
  have h2:=h a (by simp)
  simp only[ZtK]
  rcases ZsZ.mp hv with rfl|hv
  ·omega
  ·have:=Zfw (l:=l) (fun x hx=>h x (by simp[hx])) hv
   omega
noncomputable def ZgA (ns:List Int) (p:Int) (x:Nat):Int:=(if (x:Int)=p then 0 else ns.getD x 0)+ns.getD p.toNat 0/ns.length
noncomputable def Zkk (n:Int) (p:Int) (i:Int) (x:Nat):Int:=if 1<=((x:Int)-p)%n/\((x:Int)-p)%n<=i then 1 else 0
noncomputable def Uy (ns:List Int) (p:Int) (i:Int) (x:Nat):Int:=ZgA ns p x+Zkk ns.length p i x
theorem Zae (n p i:Int) (x:Nat):0<=Zkk n p i x:=by unfold Zkk;split<;>omega
theorem JU {n p i:Int}{x:Nat} (h:1<=((x:Int)-p)%n/\((x:Int)-p)%n<=i):Zkk n p i x=1:=if_pos h
theorem JJ {n p i:Int}{x:Nat} (h:¬(1<=((x:Int)-p)%n/\((x:Int)-p)%n<=i)):Zkk n p i x=0:=if_neg h
theorem QL {ns:List Int}{p:Int}{x:Nat} (h:(x:Int)=p):ZgA ns p x=ns.getD p.toNat 0/ns.length:=by unfold ZgA;rw[if_pos h];omega
theorem UQ {ns:List Int}{p:Int}{x:Nat} (h:(x:Int)≠p):ZgA ns p x=ns.getD x 0+ns.getD p.toNat 0/ns.length:=by unfold ZgA;rw[if_neg h]
noncomputable def QC (ns:List Int) (p:Int):List Int:=tab ns.length (Uy ns p (ns.getD p.toNat 0%ns.length))
noncomputable def V8 (ns:List Int) (p:Int):Int:=(p+ns.getD p.toNat 0%ns.length)%ns.length
theorem J4 (ns:List Int) (p:Int):(QC ns p).length=ns.length:=Z7 _ _
section
variable {ns:List Int}{p:Int}
theorem Zc5 (h0:0<=p) (h1:p<ns.length):(ns.map fun v=>v+ns.getD p.toNat 0/ns.length).set p.toNat (ns.getD p.toNat 0/ns.length)=tab ns.length (Uy ns p 0):=by
 refine UN (by simp) fun x hx=>?_
 rw[getD_set (by simp;omega)]
 unfold Uy
 rw[JJ (by omega)]
 by_cases e:x=p.toNat
 ·rw[if_pos e,QL (by omega)];omega
 ·rw[if_neg e,UQ (by omega)]
  simp[ZsQ,ZsR hx]
theorem Zc6 (h0:0<=p) (h1:p<ns.length) {i:Nat} (hi:(i:Int)+1<ns.length) :
  (tab ns.length (Uy ns p i)).set ((p+(i+1))%ns.length).toNat (Uy ns p i ((p+(i+1))%ns.length).toNat+1)=tab ns.length (Uy ns p ((i+1:Nat):Int)):=by
 have m1:=Vo h0 h1 (show (0:Int)<=(i:Int)+1 by omega) hi
 have hlt:((p+((i:Int)+1))%ns.length).toNat<ns.length:=by
  rw[m1];split<;>omega
 rw[Zb6 hlt]
 refine VM fun x hx=>?_
 have m2:=ZL (n:=ns.length) (show (0:Int)<=(x:Int) by omega) (by omega) h0 h1
 by_cases e:x=((p+((i:Int)+1))%ns.length).toNat
 ·rw[if_pos e,<- e]
  unfold Uy
  have hd:((x:Int)-p)%ns.length=i+1:=by
   rw[m2]
   rw[m1] at e
   split at e<;>split<;>omega
  rw[JJ (by omega),JU (by omega)];omega
 ·rw[if_neg e]
  unfold Uy
  have hd:((x:Int)-p)%ns.length≠i+1:=by
   intro z
   apply e
   rw[m2] at z
   rw[m1]
   split at z<;>split<;>omega
  by_cases q:1<=((x:Int)-p)%ns.length/\((x:Int)-p)%ns.length<=i
  ·rw[JU q,JU (by omega)]
  ·rw[JJ q,JJ (by omega)]
theorem ZaD (h0:0<=p) (h1:p<ns.length):∀i:Nat,(i:Int)<ns.length->(tab ns.length (Uy ns p i)).sum=ns.sum+ns.length*(ns.getD p.toNat 0/ns.length)-ns.getD p.toNat 0+i
 |0,_=>by
  have:=Zc5 h0 h1
  rw[ZtO,<- this,U7 (by simp;omega)]
  have e:=UP ns (ns.getD p.toNat 0/ns.length)
  rw[e]
  have e2:(ns.map fun v=>v+ns.getD p.toNat 0/ns.length).getD p.toNat 0=ns.getD p.toNat 0+ns.getD p.toNat 0/ns.length:=by
   have hx:p.toNat<ns.length:=by omega
   rw[ZsQ,Ztb,ZsR hx]
   simp[hx]
  rw[e2];omega
 |i+1,hi=>by
  have ih:=ZaD h0 h1 i (by omega)
  have m1:=Vo h0 h1 (show (0:Int)<=(i:Int)+1 by omega) (by omega)
  have hlt:((p+((i:Int)+1))%ns.length).toNat<ns.length:=by rw[m1];split<;>omega
  rw[<- Zc6 h0 h1 (by omega),U7 (by rw[Z7];exact hlt),ih,JT hlt];omega
theorem UA (h0:0<=p) (h1:p<ns.length) (hs:0<=ns.getD p.toNat 0):(QC ns p).sum=ns.sum:=by
 have b1:=Ztn (ns.getD p.toNat 0) (show (ns.length:Int)≠0 by omega)
 have b2:=Ztm (ns.getD p.toNat 0) (show (0:Int)<ns.length by omega)
 have:=ZaD h0 h1 (ns.getD p.toNat 0%ns.length).toNat (by omega)
 rw[Ztt b1] at this
 have e:=ZtW (ns.getD p.toNat 0) ns.length
 unfold QC
 omega
theorem ZiD (hn:∀x∈ns,0<=x) (i:Int) (x:Nat) (hx:x<ns.length):0<=Uy ns p i x:=by
 have h1:=hn _ (ZT hx)
 have h2:0<=ns.getD p.toNat 0:=by
  by_cases hp:p.toNat<ns.length
  ·exact hn _ (ZT hp)
  ·rw[ZsQ,Ztd (by omega)];exact Int.le_refl _
 have h3:=Int.ediv_nonneg h2 (show (0:Int)<=ns.length by omega)
 have h4:=Zae ns.length p i x
 unfold Uy ZgA
 split<;>omega
end
noncomputable def run (f:Nat->Int):Nat->Nat->Nat
 |0,i=>i
 |k+1,i=>if 0<f i then run f k (i+1) else i
theorem UB (f:Nat->Int):∀(k i:Nat),i<=run f k i/\run f k i<=i+k/\(∀j,i<=j->j<run f k i->0<f j)/\(run f k i<i+k->¬0<f (run f k i))
 |0,i=>⟨ZsV _,ZsV _,fun j h1 h2=>by simp only[run] at h2;omega,fun h=>by simp only[run] at h;omega⟩
 |k+1,i=>by
  unfold run
  by_cases h:0<f i
  ·rw[if_pos h]
   obtain⟨a,b,c,d⟩:=UB f k (i+1)
   refine⟨by omega,by omega,fun j h1 h2=>?_,fun h=>d (by omega)⟩
   by_cases e:j=i
   ·subst e;assumption
   ·exact c j (by omega) h2
  ·rw[if_neg h]
   exact⟨ZsV _,by omega,fun j h1 h2=>by omega,fun _=>h⟩
theorem Zkn {f:Nat->Int}{k j:Nat} (hj:j<k) (h1:∀i,i<j->0<f i) (h2:¬0<f j):run f k 0=j:=by
 obtain⟨a,b,c,d⟩:=UB f k 0
 rcases Nat.lt_trichotomy (run f k 0) j with z|z|z
 ·exact absurd (h1 _ z) (d (by omega))
 ·exact z
 ·exact absurd (c j (by omega) z) h2
noncomputable def tbG (ns:List Int) (q:Int) (i:Nat):Int:=ns.getD ((q-i)%ns.length).toNat 0-Uh ns
noncomputable def tbJ (ns:List Int) (q:Int):Nat:=run (tbG ns q) ns.length 0
noncomputable def tbF (ns:List Int) (q:Int) (i:Nat) (x:Nat):Int:=ns.getD x 0-Uh ns-(if (q-x)%(ns.length:Int)<i then 1 else 0)
noncomputable def tbP (ns:List Int) (q:Int):Int:=(q-tbJ ns q)%ns.length
noncomputable def tbT (ns:List Int) (q:Int):Int:=Uh ns*ns.length+tbJ ns q
noncomputable def tbB (ns:List Int) (q:Int):List Int:=(tab ns.length (tbF ns q (tbJ ns q))).set (tbP ns q).toNat (tbT ns q)
theorem Je (ns:List Int) (q:Int):(tbB ns q).length=ns.length:=by simp[tbB,Z7]
section
variable {ns:List Int}{q:Int}
theorem Zac (h0:0<=q) (h1:q<ns.length):tbJ ns q<ns.length/\(∀i,i<tbJ ns q->0<tbG ns q i)/\tbG ns q (tbJ ns q)=0:=by
 have hne:ns≠[]:=by intro e;rw[e] at h1;simp at h1;omega
 obtain⟨x,hx,ex⟩:=Qi (Vx hne)
 have m1:=ZL (n:=ns.length) h0 h1 (show (0:Int)<=x by omega) (by omega)
 have b1:0<=(q-x)%(ns.length:Int)/\(q-x)%(ns.length:Int)<ns.length:=by rw[m1];split<;>omega
 have gx:tbG ns q ((q-x)%(ns.length:Int)).toNat=0:=by
  unfold tbG
  have:((q-(((q-x)%(ns.length:Int)).toNat:Nat))%(ns.length:Int)).toNat=x:=by
   rw[Ztt b1.1,ZL h0 h1 b1.1 b1.2,m1]
   split<;>split<;>omega
  rw[this,ex];omega
 obtain⟨a,b,c,d⟩:=UB (tbG ns q) ns.length 0
 have hlt:tbJ ns q<ns.length:=by
  unfold tbJ
  by_cases h:run (tbG ns q) ns.length 0<ns.length
  ·exact h
  ·have:=c ((q-x)%(ns.length:Int)).toNat (by omega) (by omega)
   rw[gx] at this;omega
 refine⟨hlt,fun i hi=>c i (by omega) hi, ?_⟩
 have h3:=d (by unfold tbJ at hlt;omega)
 have h4:0<=tbG ns q (tbJ ns q):=by
  unfold tbG
  have:=Zao (ns:=ns) (ZT (x:=((q-tbJ ns q)%(ns.length:Int)).toNat) (by
   have:=Ztn (q-tbJ ns q) (show (ns.length:Int)≠0 by omega)
   have:=Ztm (q-tbJ ns q) (show (0:Int)<ns.length by omega)
   omega))
  omega
 have h5:¬0<tbG ns q (tbJ ns q):=h3
 omega
theorem ZiB (h0:0<=q) (h1:q<ns.length) {i:Nat} (hi:i<ns.length):(tab ns.length (tbF ns q i)).set ((q-i)%ns.length).toNat (tbF ns q i ((q-i)%ns.length).toNat-1)=tab ns.length (tbF ns q (i+1)):=by
 have m1:=ZL (n:=ns.length) h0 h1 (show (0:Int)<=i by omega) (by omega)
 have hlt:((q-(i:Int))%ns.length).toNat<ns.length:=by rw[m1];split<;>omega
 rw[Zb6 hlt]
 refine VM fun x hx=>?_
 have m2:=ZL (n:=ns.length) h0 h1 (show (0:Int)<=(x:Int) by omega) (by omega)
 by_cases e:x=((q-(i:Int))%ns.length).toNat
 ·rw[if_pos e,<- e]
  unfold tbF
  have hd:(q-(x:Int))%ns.length=i:=by
   rw[m2];rw[m1] at e
   split at e<;>split<;>omega
  rw[hd,if_neg (by omega),if_pos (by omega)];omega
 ·rw[if_neg e]
  unfold tbF
  have hd:(q-(x:Int))%ns.length≠i:=by
   intro z;apply e
   rw[m2] at z;rw[m1]
   split at z<;>split<;>omega
  by_cases h:(q-(x:Int))%ns.length<i
  ·rw[if_pos h,if_pos (by omega)]
  ·rw[if_neg h,if_neg (by omega)]
theorem ZhR (h0:0<=q) (h1:q<ns.length) {i:Nat} (hi:i<ns.length):tbF ns q i ((q-i)%ns.length).toNat=tbG ns q i:=by
 have m1:=ZL (n:=ns.length) h0 h1 (show (0:Int)<=i by omega) (by omega)
 have hb:0<=(q-(i:Int))%ns.length/\(q-(i:Int))%ns.length<ns.length:=by rw[m1];split<;>omega
 unfold tbF tbG
 rw[Ztt hb.1,ZL h0 h1 hb.1 hb.2,m1]
 have:¬((if (if (i:Int)<=q then q-i else q-i+ns.length)<=q then q-(if (i:Int)<=q then q-i else q-i+ns.length) else q-(if (i:Int)<=q then q-i else q-i+ns.length)+ns.length)<(i:Int)):=by
  split<;>split<;>omega
 rw[if_neg this];omega
end
theorem ZhM {ns:List Int}{p:Int} (h0:0<=p) (h1:p<ns.length) (hn:∀x∈ns,0<=x):tbB (QC ns p) (V8 ns p)=ns/\tbP (QC ns p) (V8 ns p)=p:=by
 have len:=J4 ns p
 have hp:p.toNat<ns.length:=by omega
 have hs:=hn _ (ZT hp)
 have o0:=Ztn (ns.getD p.toNat 0) (show (ns.length:Int)≠0 by omega)
 have o1:=Ztm (ns.getD p.toNat 0) (show (0:Int)<ns.length by omega)
 have es:=ZtW (ns.getD p.toNat 0) ns.length
 have get:∀x,x<ns.length->(QC ns p).getD x 0=Uy ns p (ns.getD p.toNat 0%ns.length) x:=fun x hx=>JT hx
 have hmin:Uh (QC ns p)=ns.getD p.toNat 0/ns.length:=by
  refine(Zfp ?_ ?_).symm
  ·have:(QC ns p).getD p.toNat 0=ns.getD p.toNat 0/ns.length:=by
    rw[get _ hp];unfold Uy
    rw[QL (by omega),JJ (by rw[Ztt h0,Zuo,Zug];omega)];omega
   rw[<- this];exact ZT (by omega)
  ·intro a ha
   obtain⟨x,hx,rfl⟩:=Qi ha
   rw[get x (by omega)]
   have:=hn _ (ZT (show x<ns.length by omega))
   have:=Zae ns.length p (ns.getD p.toNat 0%ns.length) x
   unfold Uy ZgA
   split<;>omega
 have mL:=Vo h0 h1 o0 o1
 have hL:0<=V8 ns p/\V8 ns p<ns.length:=by unfold V8;rw[mL];split<;>omega
 generalize ho:ns.getD p.toNat 0%ns.length=o at *
 have eL:V8 ns p=if p+o<ns.length then p+o else p+o-ns.length:=by unfold V8;rw[ho,mL]
 have place:∀i:Nat,(i:Int)<=o->((V8 ns p-i)%ns.length).toNat<ns.length/\(((((V8 ns p-i)%ns.length).toNat:Nat):Int)-p)%ns.length=o-i:=fun i hi=>by
  have m:=ZL (n:=ns.length) hL.1 hL.2 (show (0:Int)<=i by omega) (by omega)
  have b:0<=(V8 ns p-i)%(ns.length:Int)/\(V8 ns p-i)%(ns.length:Int)<ns.length:=by rw[m];split<;>omega
  refine⟨by omega, ?_⟩
  rw[Ztt b.1,ZL b.1 b.2 h0 h1,m,eL]
  split<;>split<;>split<;>omega
 have hJ:tbJ (QC ns p) (V8 ns p)=o.toNat:=by
  unfold tbJ
  rw[len]
  refine Zkn (by omega) (fun i hi=>?_) ?_
  ·obtain⟨a,b⟩:=place i (by omega)
   unfold tbG
   rw[len,hmin,get _ a]
   have:=hn _ (ZT a)
   unfold Uy
   rw[UQ (fun z=>by rw[z,Zuo,Zug] at b;omega),JU (by omega)];omega
  ·obtain⟨a,b⟩:=place o.toNat (by omega)
   unfold tbG
   rw[len,hmin,get _ a]
   have m:=ZL (n:=ns.length) (show (0:Int)<=((((V8 ns p-o.toNat)%ns.length).toNat:Nat):Int) by omega) (by omega) h0 h1
   unfold Uy
   rw[QL (by rw[b] at m;split at m<;>omega),JJ (by omega)];omega
 have hP:tbP (QC ns p) (V8 ns p)=p:=by
  unfold tbP
  rw[hJ,len]
  obtain⟨a,b⟩:=place o.toNat (by omega)
  have b0:=Ztn (V8 ns p-o.toNat) (show (ns.length:Int)≠0 by omega)
  have m:=ZL (n:=ns.length) (show (0:Int)<=((((V8 ns p-o.toNat)%ns.length).toNat:Nat):Int) by omega) (by omega) h0 h1
  rw[b] at m
  split at m<;>omega
 refine⟨?_,hP⟩
 unfold tbB
 rw[hP,hJ,len,Zb6 hp]
 refine((Zdc ns).trans (VM fun x hx=>?_)).symm
 by_cases e:x=p.toNat
 ·rw[if_pos e]
  unfold tbT
  rw[hmin,hJ,len,e]
  rw[Int.mul_comm];omega
 ·rw[if_neg e]
  unfold tbF
  rw[hmin,len,get x hx]
  unfold Uy
  rw[UQ (by omega)]
  have m1:=ZL (n:=ns.length) (show (0:Int)<=x by omega) (by omega) h0 h1
  have m2:=ZL (n:=ns.length) hL.1 hL.2 (show (0:Int)<=x by omega) (by omega)
  have key:(1<=((x:Int)-p)%ns.length/\((x:Int)-p)%ns.length<=o) ↔ (V8 ns p-x)%(ns.length:Int)<(o.toNat:Int):=by
   rw[m1,m2,eL]
   split<;>split<;>split<;>omega
  by_cases c:1<=((x:Int)-p)%ns.length/\((x:Int)-p)%ns.length<=o
  ·rw[JU c,if_pos (key.mp c)];omega
  ·rw[JJ c,if_neg (fun z=>c (key.mpr z))];omega
theorem Zad {ns:List Int}{q:Int} (h0:0<=q) (h1:q<ns.length) (hn:∀x∈ns,0<=x):QC (tbB ns q) (tbP ns q)=ns/\V8 (tbB ns q) (tbP ns q)=q:=by
 have len:=Je ns q
 obtain⟨j1,j2,j3⟩:=Zac h0 h1
 have hne:ns≠[]:=by intro e;rw[e] at h1;simp at h1;omega
 have hm:=hn _ (Vx hne)
 have m0:=ZL (n:=ns.length) h0 h1 (show (0:Int)<=(tbJ ns q:Nat) by omega) (by omega)
 have eP:tbP ns q=if ((tbJ ns q:Nat):Int)<=q then q-tbJ ns q else q-tbJ ns q+ns.length:=m0
 have hP:0<=tbP ns q/\tbP ns q<ns.length:=by rw[eP];split<;>omega
 have hp:(tbP ns q).toNat<ns.length:=by omega
 have get:∀x,x<ns.length->(tbB ns q).getD x 0=if x=(tbP ns q).toNat then tbT ns q else tbF ns q (tbJ ns q) x:=fun x hx=>by
  unfold tbB
  rw[getD_set (by rw[Z7];exact hp),JT hx]
 have gp:(tbB ns q).getD (tbP ns q).toNat 0=tbT ns q:=by rw[get _ hp,if_pos rfl]
 have et:tbT ns q/ns.length=Uh ns/\tbT ns q%ns.length=tbJ ns q:=by
  unfold tbT
  constructor
  ·rw[Int.add_comm,Int.add_mul_ediv_right _ _ (by omega),Int.ediv_eq_zero_of_lt (by omega) (by omega)];omega
  ·rw[Int.add_comm,Int.add_mul_emod_self_right,Ztq (by omega) (by omega)]
 constructor
 ·unfold QC
  rw[len]
  refine((Zdc ns).trans (VM fun x hx=>?_)).symm
  unfold Uy
  rw[gp,len,et.2]
  have m1:=ZL (n:=ns.length) (show (0:Int)<=x by omega) (by omega) hP.1 hP.2
  have m2:=ZL (n:=ns.length) h0 h1 (show (0:Int)<=x by omega) (by omega)
  by_cases e:(x:Int)=tbP ns q
  ·rw[QL e,gp,len,et.1,JJ (by rw[e,Zuo,Zug];omega)]
   have:x=((q-(tbJ ns q:Nat))%(ns.length:Int)).toNat:=by
    show x=(tbP ns q).toNat
    omega
   unfold tbG at j3
   rw[<- this] at j3;omega
  ·rw[UQ e,gp,len,et.1,get x hx,if_neg (by omega)]
   unfold tbF
   have key:(1<=((x:Int)-tbP ns q)%ns.length/\((x:Int)-tbP ns q)%ns.length<=(tbJ ns q:Int)) ↔ (q-x)%(ns.length:Int)<(tbJ ns q:Int):=by
    rw[m1,m2]
    rw[eP] at e ⊢
    split<;>split<;>split at *<;>omega
   by_cases c:(q-x)%(ns.length:Int)<(tbJ ns q:Int)
   ·rw[if_pos c,JU (key.mpr c)];omega
   ·rw[if_neg c,JJ (fun z=>c (key.mp z))];omega
 ·unfold V8
  rw[gp,len,et.2,Vo hP.1 hP.2 (by omega) (by omega),eP]
  split<;>split<;>omega
structure Jd (ns:List Int) (p:Int):Prop where
 bd:Jp ns
 lo:0<=p
 hi:p<ns.length
 pos:0<ns.getD p.toNat 0
noncomputable def ZaF (a:List Int×Int):List Int×Int:=(QC a.1 a.2,V8 a.1 a.2)
noncomputable def tbS (a:List Int×Int):List Int×Int:=(tbB a.1 a.2,tbP a.1 a.2)
theorem ZaE {ns:List Int}{p:Int} (h:Jd ns p):Jp (QC ns p):=by
 have:=h.lo;have:=h.hi
 refine⟨by rw[J4];exact h.bd.lo,by rw[J4];exact h.bd.hi,fun x hx=>?_, ?_⟩
 ·obtain⟨y,hy,rfl⟩:=Zfr.mp hx
  exact ZiD h.bd.nn _ y hy
 ·rw[UA h.lo h.hi (h.bd.nn' _)];exact h.bd.sm
theorem ZdE {ns:List Int}{p:Int} (h0:0<=p) (h1:p<ns.length):0<=V8 ns p/\V8 ns p<ns.length:=
 ⟨Ztn _ (by omega),Ztm _ (by omega)⟩
theorem Ze5 {ns:List Int}{p:Int} (h:Jd ns p):Jd (QC ns p) (V8 ns p):=by
 have h0:=h.lo
 have h1:=h.hi
 have hs:=h.pos
 obtain⟨l0,l1⟩:=ZdE h0 h1
 refine⟨ZaE h,l0,by rw[J4];exact l1, ?_⟩
 have o0:=Ztn (ns.getD p.toNat 0) (show (ns.length:Int)≠0 by omega)
 have o1:=Ztm (ns.getD p.toNat 0) (show (0:Int)<ns.length by omega)
 have es:=ZtW (ns.getD p.toNat 0) ns.length
 have dn:=Int.ediv_nonneg (show 0<=ns.getD p.toNat 0 by omega) (show (0:Int)<=ns.length by omega)
 have hx:(V8 ns p).toNat<ns.length:=by omega
 have hv:=h.bd.nn' (V8 ns p).toNat
 unfold QC
 rw[JT hx]
 unfold Uy
 have mL:V8 ns p=if p+ns.getD p.toNat 0%ns.length<ns.length then p+ns.getD p.toNat 0%ns.length else p+ns.getD p.toNat 0%ns.length-ns.length:=Vo h0 h1 o0 o1
 by_cases c:ns.getD p.toNat 0%ns.length=0
 ·rw[QL (by rw[c] at mL;split at mL<;>omega)]
  have:=Zae ns.length p (ns.getD p.toNat 0%ns.length) (V8 ns p).toNat
  have:ns.getD p.toNat 0/ns.length≠0:=fun z=>by rw[z] at es;omega
  omega
 ·have m2:=ZL (n:=ns.length) l0 l1 h0 h1
  rw[JU (by rw[Ztt l0,m2];split at mL<;>split<;>omega),UQ (by split at mL<;>omega)]
  omega
theorem Za9 {ns:List Int}{q:Int} (h1:0<ns.length):0<=tbP ns q/\tbP ns q<ns.length:=
 ⟨Ztn _ (by omega),Ztm _ (by omega)⟩
theorem Zab {ns:List Int}{q:Int} (h:Jd ns q):Jd (tbB ns q) (tbP ns q):=by
 have h0:=h.lo
 have h1:=h.hi
 have hs:=h.pos
 obtain⟨p0,p1⟩:=Za9 (ns:=ns) (q:=q) (by omega)
 obtain⟨j1,j2,j3⟩:=Zac h0 h1
 have hne:ns≠[]:=by intro e;rw[e] at h1;simp at h1;omega
 have hm:=h.bd.nn _ (Vx hne)
 have hT:0<tbT ns q:=by
  unfold tbT
  by_cases c:tbJ ns q=0
  ·unfold tbG at j3
   rw[c,ZtO,Int.sub_zero,Ztq h0 h1] at j3
   have:0<Uh ns:=by omega
   have:=Int.mul_pos this (show (0:Int)<ns.length by omega)
   omega
  ·have:=Int.mul_nonneg hm (show (0:Int)<=ns.length by omega)
   omega
 have hpl:(tbP ns q).toNat<ns.length:=by omega
 have nn:∀x∈tbB ns q,0<=x:=fun x hx=>by
  unfold tbB at hx
  rcases ZtM hx with z|z
  ·obtain⟨y,hy,rfl⟩:=Zfr.mp z
   have ml:=Zao (ns:=ns) (ZT hy)
   unfold tbF
   split
   ·rename_i c
    have m:=ZL (n:=ns.length) h0 h1 (show (0:Int)<=y by omega) (by omega)
    have g:=j2 ((q-(y:Int))%ns.length).toNat (by have:=Ztn (q-(y:Int)) (show (ns.length:Int)≠0 by omega);omega)
    unfold tbG at g
    have e:((q-(((q-(y:Int))%ns.length).toNat:Nat))%(ns.length:Int)).toNat=y:=by
     have b:0<=(q-(y:Int))%ns.length/\(q-(y:Int))%ns.length<ns.length:=by rw[m];split<;>omega
     rw[Ztt b.1,ZL h0 h1 b.1 b.2,m]
     split<;>split<;>omega
    rw[e] at g;omega
   ·omega
  ·omega
 have hsum:(tbB ns q).sum=ns.sum:=by
  have e:=(Zad h0 h1 h.bd.nn).1
  have:=UA (ns:=tbB ns q) (p:=tbP ns q) p0 (by rw[Je];exact p1) (by
   by_cases hx:(tbP ns q).toNat<(tbB ns q).length
   ·exact nn _ (ZT hx)
   ·rw[ZsQ,Ztd (by omega)];exact Int.le_refl _)
  rw[e] at this
  exact this.symm
 refine⟨⟨by rw[Je];exact h.bd.lo,by rw[Je];exact h.bd.hi,nn,by rw[hsum];exact h.bd.sm⟩,p0,by rw[Je];exact p1, ?_⟩
 unfold tbB
 rw[getD_set (by rw[Z7];exact hpl),if_pos rfl]
 exact hT
theorem ZjW {ns:List Int}{q:Int} (h:Jd ns q):(tbB ns q).sum=ns.sum:=by
 have e:=(Zad h.lo h.hi h.bd.nn).1
 have s:=Zab h
 have:=UA (ns:=tbB ns q) (p:=tbP ns q) s.lo s.hi (s.bd.nn' _)
 rw[e] at this
 exact this.symm
noncomputable def its {α:Type} (f:α->α):Nat->α->α
 |0,a=>a
 |n+1,a=>f (its f n a)
theorem Qp {f:List Int×Int->List Int×Int} (hf:f=ZaF\/f=tbS) {a:List Int×Int} (h:Jd a.1 a.2):∀n,Jd (its f n a).1 (its f n a).2
 |0=>h
 |n+1=>by
  have ih:=Qp hf h n
  rcases hf with rfl|rfl
  ·exact Ze5 ih
  ·exact Zab ih
section
end
end My
namespace My
open PySem L2
noncomputable abbrev VT (a:List Int×Int):PV:=.tup [.lst (a.1.map PV.int),.int a.2]
noncomputable def VD (ns:List Int) (m:Int):Nat->List Int
 |0=>List.replicate m.toNat 0
 |i+1=>(VD ns m i).set ((i:Int)%m).toNat (((VD ns m i).getD ((i:Int)%m).toNat 0*31+ns.getD (i+1) 0)%10^60)
theorem Zed (ns:List Int) (m:Int) (i:Nat):VD ns m (i+1)=(VD ns m i).set ((i:Int)%m).toNat (((VD ns m i).getD ((i:Int)%m).toNat 0*31+ns.getD (i+1) 0)%10^60):=by rw[VD]
noncomputable def Vf (ns:List Int) (m:Int):List Int:=VD ns m (ns.length-1)
theorem JE (ns:List Int) (m:Int):∀i,(VD ns m i).length=m.toNat
 |0=>by simp[VD]
 |i+1=>by simp[VD,JE ns m i]
theorem JY (ns:List Int) (m:Int):∀i,∀x∈VD ns m i,0<=x/\x<10^60
 |0=>fun x hx=>by rw[List.eq_of_mem_replicate hx];decide
 |i+1=>fun x hx=>by
  rcases ZtM hx with z|z
  ·exact JY ns m i x z
  ·rw[z];exact⟨Ztn _ (by decide),Ztm _ (by decide)⟩
noncomputable def Uz (pits way number:Int):Int:=if way=3 then [0,1,number/24,pits].getD (number/7%4).toNat 0 else if way=2 then number/24 else if way=1 then number/11%30 else number/11%4
noncomputable def JW (ns:List Int) (pits way:Int):List Int:=(Vf ns pits).map (Uz pits way)
noncomputable def BB:Int:=41666666666666666666666666666666666666666666666666666666666
theorem ZbU {pits way z:Int} (h1:2<=pits) (h2:pits<=24) (z0:0<=z) (z1:z<10^60):0<=Uz pits way z/\Uz pits way z<=BB:=by
 unfold Uz BB
 split
 ·have c4:z/7%4=0\/z/7%4=1\/z/7%4=2\/z/7%4=3:=by omega
  rcases c4 with e|e|e|e<;>rw[e]
  ·exact⟨by show (0:Int)<=0;decide,by show (0:Int)<=41666666666666666666666666666666666666666666666666666666666;decide⟩
  ·exact⟨by show (0:Int)<=1;decide,by show (1:Int)<=41666666666666666666666666666666666666666666666666666666666;decide⟩
  ·exact⟨by show 0<=z/24;omega,by show z/24<=_;omega⟩
  ·exact⟨by show 0<=pits;omega,by show pits<=_;omega⟩
 ·split
  ·omega
  ·split<;>omega
theorem Ze2 (ns:List Int) (h:∀x∈ns,x<=BB):ns.sum<=ns.length*BB:=by
 induction ns with
 |nil=>simp
 |cons x xs ih =>
  have h1:=h x (by simp)
  have h2:=ih fun y hy=>h y (by simp[hy])
  simp only[ZtK,Ztj]
  rw[Int.natCast_add,Int.add_mul]
  omega
theorem Jp.of {ns:List Int} (h1:2<=ns.length) (h2:ns.length<=24) (h:∀x∈ns,0<=x/\x<=BB):Jp ns:=by
 refine⟨h1,h2,fun x hx=>(h x hx).1, ?_⟩
 have a:=Ze2 ns fun x hx=>(h x hx).2
 have b:(ns.length:Int)*BB<=24*BB:=Int.mul_le_mul_of_nonneg_right (by omega) (by decide)
 have c:(24:Int)*BB<=10^60:=by decide
 omega
theorem Vq (ns:List Int) {pits way:Int} (h:0<=pits):((JW ns pits way).length:Int)=pits:=by
 unfold JW Vf
 rw[ZsS,JE];omega
theorem QF (ns:List Int) {pits way:Int} (h1:2<=pits) (h2:pits<=24):Jp (JW ns pits way):=by
 have hl:=Vq ns (way:=way) (show 0<=pits by omega)
 refine Jp.of (by omega) (by omega) fun x hx=>?_
 obtain⟨z,hz,rfl⟩:=ZtP.mp hx
 obtain⟨z0,z1⟩:=JY ns pits _ z hz
 exact ZbU h1 h2 z0 z1
noncomputable def Jj (ns:List Int):Bool:=decide (2<=ns.length/\ns.length<=24/\(∀x∈ns,0<=x)/\ns.sum<=10^60)
theorem J3 {ns:List Int}:Jj ns=true ↔ Jp ns:=by
 unfold Jj
 rw[decide_eq_true_iff]
 exact⟨fun⟨a,b,c,d⟩=>⟨a,b,c,d⟩,fun h=>⟨h.lo,h.hi,h.nn,h.sm⟩⟩
theorem Jd.sowOk {ns:List Int}{p:Int} (h:Jd ns p):0<=p/\p<ns.length/\ns.length<=1000:=⟨h.lo,h.hi,by have:=h.bd.hi;omega⟩
noncomputable def Zkw (ns:List Int) (p:Int):Option Str:=if 0<=p/\p<ns.length then none else some "BadPit"
noncomputable def stX (ns:List Int) (p:Int):Option Str:=if Jj ns=true then (if 0<=p/\p<ns.length then (if ns.getD p.toNat 0=0 then some "NoSeeds" else none) else some "BadPit") else some "BadBoard"
theorem U9 {ns:List Int}{p:Int}:stX ns p=none ↔ Jd ns p:=by
 unfold stX
 by_cases h:Jj ns=true
 ·have hB:=J3.mp h
  rw[if_pos h]
  by_cases h1:0<=p/\p<ns.length
  ·rw[if_pos h1]
   by_cases h2:ns.getD p.toNat 0=0
   ·rw[if_pos h2];exact⟨fun z=>(by cases z),fun z=>(by have:=z.pos;omega)⟩
   ·rw[if_neg h2];exact⟨fun _=>⟨hB,h1.1,h1.2,by have:=hB.nn' p.toNat;omega⟩,fun _=>rfl⟩
  ·rw[if_neg h1];exact⟨fun z=>(by cases z),fun z=>(h1 ⟨z.lo,z.hi⟩).elim⟩
 ·rw[if_neg h];exact⟨fun z=>(by cases z),fun z=>(h (J3.mpr z.bd)).elim⟩
theorem Jd.tbOk {ns:List Int}{p:Int} (h:Jd ns p):0<=p/\p<ns.length/\ns.length<=1000/\∀x∈ns,0<=x/\x<=10^60:=⟨h.lo,h.hi,by have:=h.bd.hi;omega,fun x hx=>⟨h.bd.nn x hx,by have:=Zfw h.bd.nn hx;have:=h.bd.sm;omega⟩⟩
theorem ZeM:∀{l:List Int},(∀x∈l,0<=x)->0<l.sum->∃x∈l,0<x
 |[],_,h=>by simp at h
 |a::l,h,hs=>by
  by_cases c:0<a
  ·exact⟨a,by simp,c⟩
  ·have:=h a (by simp)
   simp only[ZtK] at hs
   obtain⟨x,hx,h2⟩:=ZeM (l:=l) (fun x hx=>h x (by simp[hx])) (by omega)
   exact⟨x,by simp[hx],h2⟩
theorem ZfD {bs:List Int}{c:Int} (hB:Jp bs) (hs:0<bs.sum):∃j:Nat,j<bs.length/\run (fun i=>if bs.getD ((c%bs.length+i)%bs.length).toNat 0=0 then 1 else 0) bs.length 0=j /\
  (∀i,i<j->bs.getD ((c%bs.length+i)%bs.length).toNat 0=0)/\bs.getD ((c%bs.length+j)%bs.length).toNat 0≠0:=by
 have hl:=hB.lo
 have c0:=Ztn c (show (bs.length:Int)≠0 by omega)
 have c1:=Ztm c (show (0:Int)<bs.length by omega)
 obtain⟨v,hv,hp⟩:=ZeM hB.nn hs
 obtain⟨x,hx,rfl⟩:=Qi hv
 obtain⟨a,b,d,e⟩:=UB (fun i=>if bs.getD ((c%bs.length+i)%bs.length).toNat 0=0 then 1 else 0) bs.length 0
 generalize run (fun i=>if bs.getD ((c%bs.length+i)%bs.length).toNat 0=0 then 1 else 0) bs.length 0=j at *
 have z:∀i,i<j->bs.getD ((c%bs.length+i)%bs.length).toNat 0=0:=fun i hi=>by
  have:=d i (by omega) hi
  by_cases q:bs.getD ((c%bs.length+i)%bs.length).toNat 0=0
  ·exact q
  ·simp only[if_neg q] at this;omega
 have m:=ZL (n:=bs.length) (show (0:Int)<=x by omega) (by omega) c0 c1
 have hj:j<bs.length:=by
  by_cases q:j<bs.length
  ·exact q
  ·have b0:0<=((x:Int)-c%bs.length)%bs.length/\((x:Int)-c%bs.length)%bs.length<bs.length:=by rw[m];split<;>omega
   have:=z (((x:Int)-c%bs.length)%bs.length).toNat (by omega)
   have e2:((c%bs.length+((((x:Int)-c%bs.length)%bs.length).toNat:Nat))%(bs.length:Int)).toNat=x:=by
    rw[Ztt b0.1,Vo c0 c1 b0.1 b0.2,m]
    split<;>split<;>omega
   rw[e2] at this;omega
 refine⟨j,hj,rfl,z,fun q=>?_⟩
 have:=e (by omega)
 simp only[if_pos q] at this
 omega
noncomputable def Zlf (way:Int):List Int×Int->List Int×Int:=if way=0 then ZaF else tbS
theorem ZfR {way:Int} (hw:way=0\/way=1) {a:List Int×Int} (h:Jd a.1 a.2):Zlf (1-way) (Zlf way a)=a:=by
 rcases hw with rfl|rfl
 ·have:=ZhM h.lo h.hi h.bd.nn
  show (tbB (QC a.1 a.2) (V8 a.1 a.2),tbP (QC a.1 a.2) (V8 a.1 a.2))=a
  rw[this.1,this.2]
 ·have:=Zad h.lo h.hi h.bd.nn
  show (QC (tbB a.1 a.2) (tbP a.1 a.2),V8 (tbB a.1 a.2) (tbP a.1 a.2))=a
  rw[this.1,this.2]
theorem Zkj {a:List Int×Int} (h:Jd a.1 a.2):ZaF (tbS a)=a:=ZfR (way:=1) (.inr rfl) h
end My
namespace L2
open PySem
noncomputable def fzI (ns:List Int):PV:=.fz (ns.map PV.int)
noncomputable abbrev Dd:=Str×Int×Int
noncomputable def dd3 (d:Dd):PV:=.tup [.str d.1,.int d.2.1,.int d.2.2]
noncomputable def Zev (u:Dd×List Int):PV:=.tup [dd3 u.1,fzI u.2]
structure Bk where
 bs:List (List Int)
 ds:List Dd
 us:List (Dd×List Int)
noncomputable def JC (p:Option Addr) (b d u:List PV):PV:=.box p (.ob "RingBook" ["boards", "deeds", "undone"]) [.lst b,.lst d,.lst u]
noncomputable def bkP (p:Option Addr) (k:Bk):PV:=JC p (k.bs.map fzI) (k.ds.map dd3) (k.us.map Zev)
theorem ZbX {a b:List Int} (h:fzI a=fzI b):a=b:=Z9 (PV.fz.inj h)
theorem Zch {a b:Dd} (h:dd3 a=dd3 b):a=b:=by
 simp only[dd3,PV.tup.injEq,List.cons.injEq,PV.str.injEq,PV.int.injEq,and_true] at h
 exact Prod.ext h.1 (Prod.ext h.2.1 h.2.2)
theorem Zg6 {a b:Dd×List Int} (h:Zev a=Zev b):a=b:=by
 simp only[Zev,PV.tup.injEq,List.cons.injEq,and_true] at h
 exact Prod.ext (Zch h.1) (ZbX h.2)
theorem UD {α:Type}{q:α->PV} (hq:∀a b,q a=q b->a=b):∀{l m:List α},l.map q=m.map q->l=m
 |[],[],_=>rfl
 |[],_::_,h=>by simp at h
 |_::_,[],h=>by simp at h
 |a::l,b::m,h=>by
  simp only[Ztc,List.cons.injEq] at h
  rw[hq a b h.1,UD hq h.2]
theorem JM {p:Option Addr}{a b:Bk} (h:bkP p a=bkP p b):a=b:=by
 simp only[bkP,JC,PV.box.injEq,List.cons.injEq,PV.lst.injEq,and_true,true_and] at h
 obtain⟨h1,h2,h3⟩:=h
 have e1:=UD (fun _ _=>ZbX) h1
 have e2:=UD (fun _ _=>Zch) h2
 have e3:=UD (fun _ _=>Zg6) h3
 cases a;cases b
 simp only at e1 e2 e3
 rw[e1,e2,e3]
theorem flats_map {α:Type}{q:α->PV} (h:∀a,(q a).flat=true) (l:List α):PV.flats (l.map q)=true:=PV.flats_all.mpr fun x hx=>by
 obtain⟨a,_,rfl⟩:=ZtP.mp hx
 exact h a
theorem JX (ns:List Int):(fzI ns).flat=true:=PV.flats_ints ns
theorem Ub (d:Dd):(dd3 d).flat=true:=rfl
theorem VJ (u:Dd×List Int):(Zev u).flat=true:=by simp[Zev,PV.flat,PV.flats,Ub,JX]
theorem ix0:(["boards", "deeds", "undone"]:List Str).idxOf ("boards":Str)=0:=by decide +kernel
theorem ix1:(["boards", "deeds", "undone"]:List Str).idxOf ("deeds":Str)=1:=by decide +kernel
theorem ix2:(["boards", "deeds", "undone"]:List Str).idxOf ("undone":Str)=2:=by decide +kernel
section
variable {p:Option Addr}{k:Bk}{b d u:List PV}
theorem Zm0:pFld "RingBook" "boards" (JC p b d u)=.ok (.lst b):=by simp only[pFld,JC,ix0,if_pos];rfl
theorem Zmz:pFld "RingBook" "deeds" (JC p b d u)=.ok (.lst d):=by simp only[pFld,JC,ix1,if_pos];rfl
theorem Zmy:pFld "RingBook" "undone" (JC p b d u)=.ok (.lst u):=by simp only[pFld,JC,ix2,if_pos];rfl
theorem Zi2:pFld "RingBook" "boards" (bkP p k)=.ok (.lst (k.bs.map fzI)):=Zm0
theorem ZjN:pFld "RingBook" "deeds" (bkP p k)=.ok (.lst (k.ds.map dd3)):=Zmz
theorem ZlB:pFld "RingBook" "undone" (bkP p k)=.ok (.lst (k.us.map Zev)):=Zmy
theorem ZhL {m:Str} (h:m ∉ (["boards", "deeds", "undone"]:List Str)):obG "RingBook" m (bkP p k)=.ok .non:=by
 unfold bkP JC obG
 exact if_pos ⟨rfl,h⟩
theorem Zmt:obG "RingBook" "sow" (bkP p k)=.ok .non:=ZhL (by decide +kernel)
theorem Zmv:obG "RingBook" "back" (bkP p k)=.ok .non:=ZhL (by decide +kernel)
theorem Zlr:obG "RingBook" "enter" (bkP p k)=.ok .non:=ZhL (by decide +kernel)
theorem Zlp:obG "RingBook" "undo" (bkP p k)=.ok .non:=ZhL (by decide +kernel)
theorem Zlq:obG "RingBook" "redo" (bkP p k)=.ok .non:=ZhL (by decide +kernel)
theorem ZhK:obG "RingBook" "board" (bkP p k)=.ok .non:=ZhL (by decide +kernel)
theorem ZhJ:obG "RingBook" "plan" (bkP p k)=.ok .non:=ZhL (by decide +kernel)
theorem Zmu:obG "RingBook" "sown_in_all" (bkP p k)=.ok .non:=ZhL (by decide +kernel)
theorem Zmw:obG "RingBook" "came_again" (bkP p k)=.ok .non:=ZhL (by decide +kernel)
theorem Zlt:Zjk "RingBook" "boards" (bkP p k)=.ok .non:=by unfold Zjk;rw[Zi2];exact if_pos (flats_map JX _)
theorem Zls:Zjk "RingBook" "deeds" (bkP p k)=.ok .non:=by unfold Zjk;rw[ZjN];exact if_pos (flats_map Ub _)
theorem Zmx:Zjk "RingBook" "undone" (bkP p k)=.ok .non:=by unfold Zjk;rw[ZlB];exact if_pos (flats_map VJ _)
theorem ZmG {y:List PV}:UR "RingBook" "boards" (JC p b d u) y=.ok (JC p y d u):=by unfold UR JC;simp only[ix0];rfl
theorem ZmF {y:List PV}:UR "RingBook" "deeds" (JC p b d u) y=.ok (JC p b y u):=by unfold UR JC;simp only[ix1];rfl
theorem ZmE {y:List PV}:UR "RingBook" "undone" (JC p b d u) y=.ok (JC p b d y):=by unfold UR JC;simp only[ix2];rfl
theorem Zlv {ns:List Int} (h:k.bs.length<1000000):ZjA "RingBook" "boards" (bkP p k) (fzI ns)=.ok (bkP p ⟨k.bs++[ns],k.ds,k.us⟩):=by
 unfold ZjA
 rw[Zi2]
 show (if _ then _ else _)=_
 rw[if_pos ⟨flats_map JX _,by rw[ZsS];exact h⟩]
 show UR _ _ (JC p _ _ _) _=_
 rw[ZmG]
 unfold bkP
 rw[ZtH];rfl
theorem Zlu {x:Dd} (h:k.ds.length<1000000):ZjA "RingBook" "deeds" (bkP p k) (dd3 x)=.ok (bkP p ⟨k.bs,k.ds++[x],k.us⟩):=by
 unfold ZjA
 rw[ZjN]
 show (if _ then _ else _)=_
 rw[if_pos ⟨flats_map Ub _,by rw[ZsS];exact h⟩]
 show UR _ _ (JC p _ _ _) _=_
 rw[ZmF]
 unfold bkP
 rw[ZtH];rfl
theorem Zm1 {x:Dd×List Int} (h:k.us.length<1000000):ZjA "RingBook" "undone" (bkP p k) (Zev x)=.ok (bkP p ⟨k.bs,k.ds,k.us++[x]⟩):=by
 unfold ZjA
 rw[ZlB]
 show (if _ then _ else _)=_
 rw[if_pos ⟨flats_map VJ _,by rw[ZsS];exact h⟩]
 show UR _ _ (JC p _ _ _) _=_
 rw[ZmE]
 unfold bkP
 rw[ZtH];rfl
theorem Zmc {α:Type}{q:α->PV}{L:List α}{d:α} (h:L.length≠0):(L.map q).getD ((L.map q).length-1) .non=q (L.getD (L.length-1) d):=by
 rw[ZsS,ZsQ,ZsQ,Ztb,ZsR (by omega)];rfl
theorem ZlP {α:Type}{q:α->PV} (hq:∀a,(q a).flat=true) {L:List α} (d:α) (h:L.length≠0):popL (L.map q)=.ok (q (L.getD (L.length-1) d),L.dropLast.map q):=by
 unfold popL
 rw[if_pos ⟨flats_map hq _,by rw[ZsS];exact h⟩,Zmc (d:=d) h,List.map_dropLast]
theorem Zms (h:k.bs.length≠0):ZiN "RingBook" "boards" (bkP p k)=.ok (fzI (k.bs.getD (k.bs.length-1) []),bkP p ⟨k.bs.dropLast,k.ds,k.us⟩):=by
 unfold ZiN
 rw[Zi2]
 show (popL _).bind _=_
 rw[ZlP JX [] h]
 simp only[Rr.bind_ok]
 unfold bkP
 rw[ZmG];rfl
theorem Zmr (h:k.ds.length≠0):ZiN "RingBook" "deeds" (bkP p k)=.ok (dd3 (k.ds.getD (k.ds.length-1) ("",0,0)),bkP p ⟨k.bs,k.ds.dropLast,k.us⟩):=by
 unfold ZiN
 rw[ZjN]
 show (popL _).bind _=_
 rw[ZlP Ub ("",0,0) h]
 simp only[Rr.bind_ok]
 unfold bkP
 rw[ZmF];rfl
theorem Zmq (h:k.us.length≠0):ZiN "RingBook" "undone" (bkP p k)=.ok (Zev (k.us.getD (k.us.length-1) (("",0,0),[])),bkP p ⟨k.bs,k.ds,k.us.dropLast⟩):=by
 unfold ZiN
 rw[ZlB]
 show (popL _).bind _=_
 rw[ZlP VJ (("",0,0),[]) h]
 simp only[Rr.bind_ok]
 unfold bkP
 rw[ZmE];rfl
theorem Zmm:pSetF "RingBook" "undone" (bkP p k) (.lst [])=.ok (bkP p ⟨k.bs,k.ds,[]⟩):=by
 unfold bkP JC
 simp only[pSetF]
 rw[if_pos ⟨trivial,by decide⟩,show ZeI ("undone":Str) (["boards", "deeds", "undone"]:List Str)=(["boards", "deeds", "undone"]:List Str) by decide +kernel]
 unfold ZbC
 rw[if_pos (by decide +kernel),ix2];rfl
theorem Zmp {y:PV}:pSetF "RingBook" "boards" (.box p (.ob "RingBook" []) []) y=.ok (.box p (.ob "RingBook" ["boards"]) [y]):=by
 simp only[pSetF]
 rw[if_pos ⟨trivial,by decide⟩,show ZeI ("boards":Str) ([]:List Str)=(["boards"]:List Str) by decide +kernel]
 unfold ZbC
 rw[if_neg (by decide +kernel)];rfl
theorem Zmo {x y:PV}:pSetF "RingBook" "deeds" (.box p (.ob "RingBook" ["boards"]) [x]) y=.ok (.box p (.ob "RingBook" ["boards", "deeds"]) [x,y]):=by
 simp only[pSetF]
 rw[if_pos ⟨trivial,by decide⟩,show ZeI ("deeds":Str) (["boards"]:List Str)=(["boards", "deeds"]:List Str) by decide +kernel]
 unfold ZbC
 rw[if_neg (by decide +kernel)];rfl
theorem Zmn {x y z:PV}:pSetF "RingBook" "undone" (.box p (.ob "RingBook" ["boards", "deeds"]) [x,y]) z=.ok (.box p (.ob "RingBook" ["boards", "deeds", "undone"]) [x,y,z]):=by
 simp only[pSetF]
 rw[if_pos ⟨trivial,by decide⟩,show ZeI ("undone":Str) (["boards", "deeds"]:List Str)=(["boards", "deeds", "undone"]:List Str) by decide +kernel]
 unfold ZbC
 rw[if_neg (by decide +kernel)];rfl
end
theorem ZcP {α:Type}{q:α->PV}{L:List α}{d:α} (h:L.length≠0):pIx (.lst (L.map q)) (.int (-1))=.ok (q (L.getD (L.length-1) d)):=by
 have e:ixN (L.map q).length (-1)=some (L.length-1):=by
  unfold ixN
  rw[ZsS,if_neg (by decide),if_pos (by omega)]
  congr 1
  omega
 unfold pIx atI
 simp only[e,Option.bind_some]
 rw[Ztb,ZsQ,ZsR (by omega)];rfl
theorem Zdr {a:List Int×Int}:Za4 (.tup [.lst (a.1.map PV.int),.int a.2])=.tup [fzI a.1,.int a.2]:=by
 simp only[Za4,frzPs,Ul];rfl
theorem Zdp {ns:List Int}:grd (fzI ns)=.ok (fzI ns):=by unfold grd;rw[if_pos (JX ns)]
theorem Zix {ns:List Int}{i:Int}:grd (.tup [fzI ns,.int i])=.ok (.tup [fzI ns,.int i]):=by
 unfold grd;rw[if_pos (by simp[PV.flat,PV.flats,JX])]
theorem ZhP {p:Option Addr}{k:Bk}:unp (bkP p k)=bkP none k:=rfl
theorem Uf {ns:List Int}:thw (fzI ns)=.lst (ns.map PV.int):=rfl
theorem Zhu {ns:List Int}:Za4 (.lst (ns.map PV.int))=fzI ns:=by simp only[Za4,Ul];rfl
end L2
namespace L2
noncomputable def ZkW (p s:Int):Int:=p*s%(p+1)
noncomputable def ZmW (p s:Int):Int:=p*s/(p+1)
noncomputable def ZiE (s:Int):Nat->Int
 |0=>s
 |k+1=>ZmW (k+1) (ZiE s k)
noncomputable def Zla (s:Int) (n:Nat):List Int:=(List.range n).map fun(k:Nat)=>ZkW (k+1) (ZiE s k)
noncomputable def ZjS (s:Int):Nat->Nat->Nat
 |0,k=>k
 |n+1,k=>if 0<ZiE s k then ZjS s n (k+1) else k
noncomputable def Znd (s:Int):Nat:=ZjS s s.toNat 0
noncomputable def ZlE (s:Int):List Int:=Zla s (Znd s)
def Zgu (ns:List Int):Prop:=(∀x∈ns,0<=x)/\ns.length<=200/\ns.sum<=10000/\(ns=[]\/ns.getD (ns.length-1) 0≠0)
noncomputable instance (ns:List Int):Decidable (Zgu ns):=by unfold Zgu;infer_instance
def Zi8 (ns:List Int):Prop:=Zgu ns/\ns=ZlE ns.sum
noncomputable instance (ns:List Int):Decidable (Zi8 ns):=by unfold Zi8;infer_instance
noncomputable def s2 (ns:List Int) (r:Nat):Nat->Int
 |0=>0
 |i+1=>s2 ns r i+if i%2=r then ns.getD i 0 else 0
noncomputable def hs:Nat->Nat->Int->List Int
 |_,0,_=>[]
 |k,m+1,l=>ZkW (k+1) l::hs (k+1) m (ZmW (k+1) l)
noncomputable def s3 (ns:List Int) (r:Nat):Nat->Int
 |0=>0
 |i+1=>s3 ns r i+if i%3=r then ns.getD i 0 else 0
def Zi7 (ns:List Int):Prop:=(∀x∈ns,0<=x)/\ns.length<=100/\ns.sum<=100/\(ns=[]\/(ns.getD 0 0≠0/\ns.getD (ns.length-1) 0≠0))
noncomputable instance (ns:List Int):Decidable (Zi7 ns):=by unfold Zi7;infer_instance
theorem sum_nn:∀{ns:List Int},(∀x∈ns,0<=x)->0<=ns.sum
 |[],_=>by simp
 |x::xs,h=>by
  have:=h x (by simp)
  have:=sum_nn (ns:=xs) (fun y hy=>h y (by simp[hy]))
  simp;omega
theorem getD_set {l:List Int}{i j:Nat}{v:Int} (h:i<l.length):(l.set i v).getD j 0=if i=j then v else l.getD j 0:=by
 simp only[ZsQ,List.getElem?_set,if_pos h]
 split<;>rfl
theorem mem_getD {l:List Int}{x:Int} (h:x∈l):∃i,i<l.length/\x=l.getD i 0:=by
 obtain⟨i,hi,rfl⟩:=List.getElem_of_mem h
 exact⟨i,hi,by rw[ZsQ,ZsR hi];rfl⟩
end L2
namespace My
open L2
noncomputable def ZlH (ns:List Int) (k:Int):List Int:=tab ns.length fun x=>ns.getD (((x:Int)-k)%ns.length).toNat 0
noncomputable def ZlG (a:List Int×Int) (s:Nat):Int:=((its ZaF s a).2-a.2)%a.1.length
def isT (a:List Int×Int) (s:Nat):Prop:=(its ZaF s a).1=ZlH a.1 (ZlG a s)
noncomputable instance (a:List Int×Int) (s:Nat):Decidable (isT a s):=by unfold isT;infer_instance
section
end
end My
namespace My
open PySem PySem.Spec PyProof.Rows L2
theorem Zhw {xs:List PV}:PV.flat (.tup xs)=PV.flats xs:=by simp[PV.flat]
theorem QT {ns:List Int}:PV.flat (.tup (ns.map PV.int))=true:=by rw[Zhw];exact Zbf
theorem ZfF {ns:List Int}:grd (.tup (ns.map PV.int))=.ok (.tup (ns.map PV.int)):=by unfold grd;rw[QT];rfl
noncomputable def tI (b:List Int):List Key:=b.map Sum.inl
theorem Zc0 (b:List Int):VL b=.tup ((tI b).map Zjd):=by unfold VL tI;rw[Zum];rfl
theorem flats_map {α:Type}{q:α->PV} (h:∀a,PV.flat (q a)=true):∀L:List α,PV.flats (L.map q)=true
 |[]=>by simp[PV.flats]
 |a::L=>by
  rw[Ztc]
  simp only[PV.flats,h a,flats_map h L,Bool.and_self]
theorem Zja {xs:List PV} (h:PV.flats xs=true) (hl:xs.length<=1000000):newF xs=.ok (.lst xs):=by
 unfold newF
 rw[h,decide_eq_true hl];rfl
theorem ZcZ {α:Type}{q:α->PV}{L:List α} (h:∀a,PV.flat (q a)=true) (hl:L.length<=1000000):newF (L.map q)=.ok (.lst (L.map q)):=Zja (flats_map h L) (by simpa using hl)
theorem ZfJ (t:List Int):PV.flat (VL t)=true:=QT
theorem Zkd {a b:List Int} (h:tI a=tI b):a=b:=by
 unfold tI at h
 exact(List.map_inj_right fun x y h=>Sum.inl.inj h).mp h
section
variable {κ:Type} [DecidableEq κ]
end
section
variable {ks:List (List Key)}{xs:List PV}{p:Option PySem.Addr}{g:List Int}{v:PV}
theorem Zlm:dAt (.box p (.dt ks) xs) (VL g)=some (atK ks xs (tI g)):=by
 rw[Zc0]
 simp only[dAt,Uj,Option.map_some]
theorem ZiY (h:atK ks xs (tI g)=some v):ZgV (.box p (.dt ks) xs) (VL g)=.ok v:=by
 unfold ZgV
 rw[Zlm,h]
theorem Zk5 {f:Bool->Bool}:Zl9 f (VL g) (.box p (.dt ks) xs)=.ok (.bl (f (atK ks xs (tI g)).isSome)):=by
 unfold Zl9
 rw[Zlm]
theorem ZiX (hv:v.flat=true) (hl:xs.length<1000000):Zff (.box p (.dt ks) xs) (VL g) v=.ok (.box p (.dt (Ug ks (tI g))) (putXs ks xs (tI g) v)):=by
 rw[Zc0]
 unfold Zff
 simp only[Uj]
 rw[if_pos ⟨hl,.inr hv⟩]
end
end My
namespace My
open PySem L2
noncomputable def QG (bs:List (List Int)) (b:List Int):Nat->Option Nat
 |0=>none
 |i+1=>if bs.getD i []=b then some i else QG bs b i
theorem Ui {bs:List (List Int)}{b:List Int}{i:Nat}:∀{n:Nat},QG bs b n=some i ↔ i<n/\bs.getD i []=b/\∀m,i<m->m<n->bs.getD m []≠b
 |0=>by simp[QG]
 |n+1=>by
  unfold QG
  by_cases e:bs.getD n []=b
  ·rw[if_pos e]
   constructor
   ·intro h
    cases h
    exact⟨ZtB _,e,fun m h1 h2=>by omega⟩
   ·rintro⟨h1,h2,h3⟩
    by_cases q:i=n
    ·rw[q]
    ·exact absurd e (h3 n (by omega) (by omega))
  ·rw[if_neg e,Ui]
   constructor
   ·rintro⟨h1,h2,h3⟩
    refine⟨by omega,h2,fun m q1 q2=>?_⟩
    by_cases q:m=n
    ·rw[q];exact e
    ·exact h3 m q1 (by omega)
   ·rintro⟨h1,h2,h3⟩
    refine⟨?_,h2,fun m q1 q2=>h3 m q1 (by omega)⟩
    by_cases q:i=n
    ·rw[q] at h2;exact absurd h2 e
    ·omega
noncomputable def ZiM (o:Option Nat) (j:Nat):List (List Int):=match o with
 |some i=>[[(i:Int),(j:Int)]]
 |none=>[]
noncomputable def Za5 (bs:List (List Int)):Nat->List (List Int)
 |0=>[]
 |j+1=>Za5 bs j++ZiM (QG bs (bs.getD j []) j) j
def PrC (bs:List (List Int)) (n:Nat) (x:List Int):Prop:=∃i j:Nat,x=[(i:Int),(j:Int)]/\i<j/\j<n/\bs.getD i []=bs.getD j []/\∀m,i<m->m<j->bs.getD m []≠bs.getD j []
theorem Zay {bs:List (List Int)}{x:List Int}:∀{n:Nat},x∈Za5 bs n ↔ PrC bs n x
 |0=>by
  simp only[Za5,List.not_mem_nil,false_iff]
  rintro⟨i,j,_,_,h,_⟩
  omega
 |n+1=>by
  unfold Za5
  rw[ZsW,Zay]
  constructor
  ·rintro(⟨i,j,h1,h2,h3,h4⟩|h)
   ·exact⟨i,j,h1,h2,by omega,h4⟩
   ·unfold ZiM at h
    split at h
    ·rename_i i e
     obtain⟨e1,e2,e3⟩:=Ui.mp e
     exact⟨i,n,by simpa using h,e1,by omega,e2,e3⟩
    ·simp at h
  ·rintro⟨i,j,rfl,h2,h3,h4,h5⟩
   by_cases q:j=n
   ·subst q
    refine .inr ?_
    rw[Ui.mpr ⟨h2,h4,h5⟩]
    simp[ZiM]
   ·exact .inl ⟨i,j,rfl,h2,by omega,h4,h5⟩
theorem Zaz {bs:List (List Int)}:∀{n:Nat},(Za5 bs n).length<=n
 |0=>by simp[Za5]
 |n+1=>by
  unfold Za5
  have:=Zaz (bs:=bs) (n:=n)
  rw[Ztl]
  have:(ZiM (QG bs (bs.getD n []) n) n).length<=1:=by unfold ZiM;split<;>simp
  omega
theorem Zj5 {bs:List (List Int)}{n:Nat}:∀t∈Za5 bs n,t≠[]:=fun t ht=>by
 obtain⟨i,j,rfl,_⟩:=Zay.mp ht
 simp
theorem Za1 {k k':List Key}{y:PV}:∀{ks:List (List Key)}{xs:List PV},ks.length=xs.length->k∈ks->atK ks (ZdJ ks xs k y) k'=if k'=k then some y else atK ks xs k'
 |[],_,_,h=>by simp at h
 |_::_,[],h,_=>by simp at h
 |q::ks,x::xs,h,hm=>by
  unfold ZdJ atK
  by_cases e:q=k
  ·subst e
   rw[if_pos rfl]
   by_cases e2:k'=q
   ·subst e2;rw[if_pos rfl,if_pos rfl]
   ·rw[if_neg (Ne.symm e2),if_neg e2,if_neg (Ne.symm e2)]
    by_cases hm2:q∈ks
    ·rw[Za1 (by simpa using h) hm2,if_neg e2]
    ·clear hm
     have:∀{ks:List (List Key)}{xs:List PV},ks.length=xs.length->q ∉ ks->atK ks (ZdJ ks xs q y) k'=atK ks xs k':=by
      intro ks
      induction ks with
      |nil=>intro xs _ _;rfl
      |cons a ks ih =>
       intro xs hl hn
       cases xs with
       |nil=>simp at hl
       |cons x xs =>
        have hn':a≠q:=fun z=>hn (by simp[z])
        simp only[ZdJ,atK]
        rw[if_neg hn',ih (by simpa using hl) fun z=>hn (by simp[z])]
     exact this (by simpa using h) hm2
  ·rw[if_neg e]
   have hm2:k∈ks:=by
    rcases ZsZ.mp hm with z|z
    ·exact absurd z.symm e
    ·exact z
   by_cases e2:q=k'
   ·rw[if_pos e2,if_pos e2,if_neg (fun z=>e (e2.trans z))]
   ·rw[if_neg e2,if_neg e2,Za1 (by simpa using h) hm2]
theorem Zd8 {k k':List Key}{y:PV}:∀{ks:List (List Key)}{xs:List PV},ks.length=xs.length->k ∉ ks->atK (ks++[k]) (xs++[y]) k'=if k'=k then some y else atK ks xs k'
 |[],[],_,_=>by
  show (if k=k' then some y else none)=_
  by_cases e:k'=k
  ·rw[if_pos e,if_pos e.symm]
  ·rw[if_neg e,if_neg (Ne.symm e)];rfl
 |[],_::_,h,_=>by simp at h
 |_::_,[],h,_=>by simp at h
 |q::ks,x::xs,h,hm=>by
  have e:q≠k:=fun z=>hm (by simp[z])
  show (if q=k' then some x else atK (ks++[k]) (xs++[y]) k')=if k'=k then some y else if q=k' then some x else atK ks xs k'
  rw[Zd8 (by simpa using h) fun z=>hm (by simp[z])]
  by_cases e2:q=k'
  ·rw[if_pos e2,if_pos e2,if_neg (fun z=>e (e2.trans z))]
  ·rw[if_neg e2,if_neg e2]
theorem Zj9 {ks:List (List Key)}{xs:List PV}{k k':List Key}{y:PV} (h:ks.length=xs.length):atK (Ug ks k) (putXs ks xs k y) k'=if k'=k then some y else atK ks xs k':=by
 unfold Ug putXs
 by_cases hm:k∈ks
 ·rw[if_pos hm,if_pos hm,Za1 h hm]
 ·rw[if_neg hm,if_neg hm,Zd8 h hm]
theorem Zks {ks:List (List Key)}{xs:List PV}{k:List Key}{y:PV} (h:ks.length=xs.length):(putXs ks xs k y).length<=xs.length+1:=by
 unfold putXs
 split
 ·rw[Zag h,h];omega
 ·simp
theorem ZaO {g:Bool->Bool}{n:Nat}{x:PV} (h:Dat n x) (hn:n<=64:=by decide):ZbK g x x=.ok (.bl (g true)):=by
 unfold ZbK
 rw[h.ok hn,Bool.and_self,if_pos rfl,PySem.SeqAt.eqv_refl _ h.can]
theorem Zlb {α:Type}{q:α->PV}{L:List α}{d:α}{i:Nat}{x:PV} (h:(V3 (L.map q))[i]?=some x):i<L.length/\x=.tup [.int i,q (L.getD i d)]:=by
 unfold V3 at h
 rw[ZtL,Ztb] at h
 by_cases hi:i<L.length
 ·rw[ZsR hi] at h
  refine⟨hi, ?_⟩
  rw[ZsQ,ZsR hi]
  simpa using h.symm
 ·rw[Ztd (by omega)] at h
  simp at h
theorem Zcj {α:Type}{q:α->PV}{L:List α}{h:Int} (h0:0<=h):Zj4 (L.map q) none (some h)=(L.take h.toNat).map q:=by
 unfold Zj4 HT.sIx
 simp only[ZsS,List.drop_zero,Nat.sub_zero]
 rw[if_neg (by omega),<- Zuf]
 congr 1
 rw[List.take_eq_take_iff];omega
end My
namespace My
open L2
noncomputable abbrev JA:=PySem.Str×Int
noncomputable def ZE (d:JA):PV:=.tup [.str d.1,.int d.2]
noncomputable def Zci (w:PySem.Str):Bool:=w==("sow":PySem.Str) || w==("back":PySem.Str)
noncomputable def QI (b:List Int) (d:JA):Bool:=Zci d.1&&(decide (0<=d.2/\d.2<(b.length:Int))&&decide (0<b.getD d.2.toNat 0))
noncomputable def JK (b:List Int) (d:JA):List Int×Int:=if d.1=("sow":PySem.Str) then ZaF (b,d.2) else tbS (b,d.2)
theorem JS {b:List Int}{d:JA} (B:Jp b) (h:QI b d=true):Jd b d.2:=by
 unfold QI at h
 simp only[Bool.and_eq_true,decide_eq_true_eq] at h
 exact⟨B,h.2.1.1,h.2.1.2,h.2.2⟩
theorem Zce {b:List Int}{d:JA} (h:Jd b d.2):Jp (JK b d).1:=by
 unfold JK
 split
 ·exact ZaE h
 ·exact(Zab h).bd
theorem Zbi (b:List Int) (d:JA):(JK b d).1.length=b.length:=by
 unfold JK
 split
 ·exact J4 _ _
 ·exact Je _ _
theorem VX {α:Type}{l m:List α}{i:Nat}{x:α} (h:i<l.length):(l++m).getD i x=l.getD i x:=by
 rw[ZsQ,ZsQ,Zte h]
noncomputable def Vc (b:List Int) (ds:List JA):Nat->List Int
 |0=>b
 |i+1=>(JK (Vc b ds i) (ds.getD i ("",0))).1
noncomputable def Jx (b:List Int) (ds:List JA) (i:Nat):Bool:=QI (Vc b ds i) (ds.getD i ("",0))
noncomputable def wkF (b:List Int) (ds:List JA):Option Nat:=(List.range ds.length).find? fun i=>!Jx b ds i
theorem Zg3 {b:List Int}{ds:List JA}{k:Nat} (h:wkF b ds=some k):k<ds.length/\Jx b ds k=false/\∀j,j<k->Jx b ds j=true:=by
 obtain⟨h1,h2,h3⟩:=List.find?_range_eq_some.mp h
 exact⟨ZtC.mp h2,by simpa using h1,fun j hj=>by simpa using h3 j hj⟩
theorem Zg4 {b:List Int}{ds:List JA} (h:wkF b ds=none):∀j,j<ds.length->Jx b ds j=true:=fun j hj=>by
 have:=List.find?_range_eq_none.mp h j hj
 simpa using this
theorem Zb1 {b:List Int}{ds:List JA} (h:∀j,j<ds.length->Jx b ds j=true):wkF b ds=none:=
 List.find?_range_eq_none.mpr fun j hj=>by simp[h j hj]
theorem V7 (b:List Int) (ds:List JA) (i:Nat):(Vc b ds i).length=b.length:=by
 induction i with
 |zero=>rfl
 |succ i ih=>simp only[Vc];rw[Zbi,ih]
theorem Jz {b:List Int}{ds:List JA} (B:Jp b):∀{i:Nat},(∀j,j<i->Jx b ds j=true)->Jp (Vc b ds i)
 |0,_=>B
 |i+1,h=>Zce (JS (Jz B fun j hj=>h j (by omega)) (h i (by omega)))
theorem Vu {b:List Int}{ds es:List JA}:∀{i:Nat},i<=ds.length->Vc b (ds++es) i=Vc b ds i
 |0,_=>rfl
 |i+1,h=>by
  simp only[Vc]
  rw[Vu (i:=i) (by omega),VX (by omega)]
theorem Zbo {b:List Int}{ds es:List JA}{i:Nat} (h:i<ds.length):Jx b (ds++es) i=Jx b ds i:=by
 unfold Jx
 rw[Vu (by omega),VX h]
theorem Zej {b:List Int}{ds:List JA}{d:JA}:Jx b (ds++[d]) ds.length=QI (Vc b ds ds.length) d:=by
 unfold Jx
 rw[Vu (ZsV _)]
 simp
theorem Zer {b:List Int}{ds:List JA}{d:JA}:Vc b (ds++[d]) (ds.length+1)=(JK (Vc b ds ds.length) d).1:=by
 simp only[Vc]
 rw[Vu (ZsV _)]
 simp
end My
namespace My
open PySem L2
noncomputable def Zl6 (d:Dd):JA:=(d.1,d.2.1)
noncomputable abbrev plO (ds:List Dd):List JA:=ds.map Zl6
noncomputable def mvD (b:List Int) (d:JA):Int:=if d.1=("sow":Str) then b.getD d.2.toNat 0 else -(JK b d).1.getD (JK b d).2.toNat 0
structure Zd9 (b0:List Int) (bs:List (List Int)) (ds:List Dd):Prop where
 len:bs.length=ds.length+1
 wk:∀i,i<bs.length->bs.getD i []=Vc b0 (plO ds) i
 can:∀i,i<ds.length->Jx b0 (plO ds) i=true
 mv:∀i,i<ds.length->(ds.getD i ("",0,0)).2.2=mvD (Vc b0 (plO ds) i) (Zl6 (ds.getD i ("",0,0)))
theorem Zd9.new (b0:List Int):Zd9 b0 [b0] []:=⟨rfl,fun i hi=>by
 have:i=0:=by simpa using hi
 subst this;rfl,fun i hi=>by simp at hi,fun i hi=>by simp at hi⟩
theorem Zbd {α:Type}{l:List α}{x d:α}:(l++[x]).getD l.length d=x:=by simp
theorem Zd9.last {b0:List Int}{bs:List (List Int)}{ds:List Dd} (h:Zd9 b0 bs ds):bs.getD (bs.length-1) []=Vc b0 (plO ds) ds.length:=by
 have:=h.wk (bs.length-1) (by have:=h.len;omega)
 rw[this]
 congr 1
 have:=h.len
 omega
theorem Zd9.snoc {b0 b:List Int}{bs:List (List Int)}{ds:List Dd} (h:Zd9 b0 bs ds) (d:JA) (hb:b=Vc b0 (plO ds) ds.length) (hc:QI b d=true):Zd9 b0 (bs++[(JK b d).1]) (ds++[(d.1,d.2,mvD b d)]):=by
 have hl:=h.len
 have hm:plO (ds++[(d.1,d.2,mvD b d)])=plO ds++[d]:=by simp[plO,Zl6]
 have hpl:(plO ds).length=ds.length:=ZsS ..
 have hap:∀i,i<=ds.length->Vc b0 (plO ds++[d]) i=Vc b0 (plO ds) i:=fun i hi=>Vu (by omega)
 refine⟨by simp[hl],fun i hi=>?_,fun i hi=>?_,fun i hi=>?_⟩
 ·rw[hm]
  rw[Ztl,ZtG] at hi
  by_cases q:i<bs.length
  ·rw[VX q,h.wk i q,hap i (by omega)]
  ·have e:i=bs.length:=by omega
   subst e
   rw[Zbd,hl]
   have:=Zer (b:=b0) (ds:=plO ds) (d:=d)
   rw[hpl,<- hb] at this
   exact this.symm
 ·rw[hm]
  rw[Ztl,ZtG] at hi
  by_cases q:i<ds.length
  ·rw[Zbo (by omega)];exact h.can i q
  ·have e:i=(plO ds).length:=by omega
   rw[e,Zej,hpl,<- hb];exact hc
 ·rw[hm]
  rw[Ztl,ZtG] at hi
  by_cases q:i<ds.length
  ·rw[VX q,hap i (by omega)];exact h.mv i q
  ·have e:i=ds.length:=by omega
   subst e
   rw[Zbd,hap _ (ZsV _),<- hb];rfl
theorem Zbc {α:Type}{l:List α}{n i:Nat}{d:α} (h:i<n):(l.take n).getD i d=l.getD i d:=by
 rw[ZsQ,ZsQ,List.getElem?_take_of_lt h]
theorem UK {b:List Int}{ds:List JA}{n i:Nat} (h:i<=n) (hn:n<=ds.length):Vc b (ds.take n) i=Vc b ds i:=by
 conv=>rhs;rw[<- List.take_append_drop n ds]
 exact(Vu (by rw[Ztf];omega)).symm
theorem QX {b:List Int}{ds:List JA}{n i:Nat} (h:i<n) (hn:n<=ds.length):Jx b (ds.take n) i=Jx b ds i:=by
 conv=>rhs;rw[<- List.take_append_drop n ds]
 exact(Zbo (by rw[Ztf];omega)).symm
theorem Zd9.take {b0:List Int}{bs:List (List Int)}{ds:List Dd} (h:Zd9 b0 bs ds) {n:Nat} (hn:n<=ds.length):Zd9 b0 (bs.take (n+1)) (ds.take n):=by
 have hl:=h.len
 have hpl:(plO ds).length=ds.length:=ZsS ..
 have hm:plO (ds.take n)=(plO ds).take n:=Zuf
 refine⟨by rw[Ztf,Ztf];omega,fun i hi=>?_,fun i hi=>?_,fun i hi=>?_⟩
 ·rw[Ztf] at hi
  rw[Zbc (by omega),h.wk i (by omega),hm,UK (by omega) (by omega)]
 ·rw[Ztf] at hi
  rw[hm,QX (by omega) (by omega)];exact h.can i (by omega)
 ·rw[Ztf] at hi
  rw[hm,Zbc (by omega),UK (by omega) (by omega)];exact h.mv i (by omega)
structure Bw (b0:List Int) (k:Bk):Prop where
 bd:Jp b0
 kl:k.bs.length=k.ds.length+1
 all:Zd9 b0 (k.bs++(k.us.map (·.2)).reverse) (k.ds++(k.us.map (·.1)).reverse)
noncomputable def Jf (k:Bk):List Int:=k.bs.getD (k.bs.length-1) []
theorem Bw.hist {b0:List Int}{k:Bk} (h:Bw b0 k):Zd9 b0 k.bs k.ds:=by
 have hk:=h.kl
 have:=h.all.take (n:=k.ds.length) (by rw[Ztl];omega)
 rw[List.take_left',List.take_left'] at this
 ·exact this
 ·rfl
 ·omega
theorem Bw.new {b0:List Int} (h:Jp b0):Bw b0 ⟨[b0],[],[]⟩:=⟨h,rfl,Zd9.new b0⟩
theorem Bw.last {b0:List Int}{k:Bk} (h:Bw b0 k):Jf k=Vc b0 (plO k.ds) k.ds.length:=h.hist.last
theorem Bw.lbd {b0:List Int}{k:Bk} (h:Bw b0 k):Jp (Jf k):=by
 rw[h.last]
 exact Jz h.bd fun j hj=>h.hist.can j hj
theorem Bw.llen {b0:List Int}{k:Bk} (h:Bw b0 k):(Jf k).length=b0.length:=by rw[h.last,V7]
theorem Bw.add {b0:List Int}{k:Bk} (h:Bw b0 k) (d:JA) (hc:QI (Jf k) d=true):Bw b0 ⟨k.bs++[(JK (Jf k) d).1],k.ds++[(d.1,d.2,mvD (Jf k) d)],[]⟩:=
 ⟨h.bd,by have:=h.kl;simp[this],by simpa using h.hist.snoc d h.last hc⟩
theorem UG {α:Type}{l:List α}{d:α} (h:l.length≠0):l.dropLast++[l.getD (l.length-1) d]=l:=by
 have hne:l≠[]:=fun z=>h (by simp[z])
 conv=>rhs;rw[<- List.dropLast_concat_getLast hne]
 congr 2
 rw[ZsQ,ZsR (by omega),List.getLast_eq_getElem];rfl
theorem Bw.undo {b0:List Int}{k:Bk} (h:Bw b0 k) (h1:k.ds.length≠0):Bw b0 ⟨k.bs.dropLast,k.ds.dropLast,k.us++[(k.ds.getD (k.ds.length-1) ("",0,0),k.bs.getD (k.bs.length-1) [])]⟩:=by
 have hk:=h.kl
 refine⟨h.bd,by simp only[List.length_dropLast];omega, ?_⟩
 have e1:=UG (l:=k.bs) (d:=[]) (by omega)
 have e2:=UG (l:=k.ds) (d:=("",0,0)) h1
 have:=h.all
 rw[<- e1,<- e2] at this
 simpa using this
theorem QU {m:Nat}:∀{n:Nat},m<n->(List.range n).filter (fun k=>decide (k=m))=[m]
 |0,h=>by omega
 |n+1,h=>by
  rw[List.range_succ,List.filter_append]
  by_cases e:n=m
  ·subst e
   rw[List.filter_eq_nil_iff.mpr fun k hk=>by
    have:=ZtC.mp hk
    simp;omega]
   simp
  ·rw[QU (by omega)]
   simp[e]
theorem Zg9 {b:List Int}{p:Int} (st:Jd b p):((List.range b.length).filter fun(k:Nat)=>decide (b.getD k 0<(tbS (b,p)).1.getD k 0)).map (fun(k:Nat)=>(tbS (b,p)).1.getD k 0)=[(tbS (b,p)).1.getD (tbS (b,p)).2.toNat 0]:=by
 have s2:Jd (tbS (b,p)).1 (tbS (b,p)).2:=Qp (a:=(b,p)) (.inr rfl) st 1
 have e:=Zkj (a:=(b,p)) st
 have hl:(tbS (b,p)).1.length=b.length:=Je b p
 generalize hc:tbS (b,p)=c at *
 obtain⟨c,q⟩:=c
 simp only at s2 hl
 have e1:b=QC c q:=(congrArg Prod.fst e).symm
 have l0:=s2.lo
 have l1:=s2.hi
 have lp:=s2.pos
 have l2:=s2.bd.lo
 have at_:∀k:Nat,k<b.length->b.getD k 0=Uy c q (c.getD q.toNat 0%c.length) k:=fun k hk=>by
  rw[e1]
  unfold QC
  exact JT (by omega)
 have one:∀k:Nat,k<b.length->(b.getD k 0<c.getD k 0 ↔ k=q.toNat):=fun k hk=>by
  rw[at_ k hk]
  unfold Uy
  by_cases z:k=q.toNat
  ·have z':(k:Int)=q:=by omega
   rw[QL z',JJ (by rw[z',Zuo,Zug];omega)]
   have:c.getD q.toNat 0/(c.length:Int)<c.getD q.toNat 0:=by
    refine Int.ediv_lt_of_lt_mul (by omega) ?_
    have:c.getD q.toNat 0*2<=c.getD q.toNat 0*(c.length:Int):=Int.mul_le_mul_of_nonneg_left (by omega) (by omega)
    omega
   exact⟨fun _=>z,fun _=>by rw[z];omega⟩
  ·have h0:0<=c.getD q.toNat 0/(c.length:Int):=Int.ediv_nonneg (by omega) (by omega)
   have h1:=Zae c.length q (c.getD q.toNat 0%c.length) k
   have h2:ZgA c q k=c.getD k 0+c.getD q.toNat 0/c.length:=by unfold ZgA;rw[if_neg (by omega)]
   exact⟨fun y=>by omega,fun y=>absurd y z⟩
 have hf:((List.range b.length).filter fun(k:Nat)=>decide (b.getD k 0<c.getD k 0))=[q.toNat]:=by
  have:((List.range b.length).filter fun(k:Nat)=>decide (b.getD k 0<c.getD k 0))=(List.range b.length).filter fun(k:Nat)=>decide (k=q.toNat):=by
   refine List.filter_congr fun k hk=>?_
   exact decide_eq_decide.mpr (one k (ZtC.mp hk))
  rw[this]
  exact QU (by omega)
 rw[hf];rfl
set_option hygiene false
local macro_rules | `(tactic| walk_at "pu")=>`(tactic| try simp -implicitDefEqProofs only[ZbV,ZbW,List.set_cons_zero,Zud,List.cons_append,Zub,Zts,List.replicate_zero,ZtA,Rr.bind_ok,Rr.bind_exc,Rr.bind_bad,Rr.thenS_ok,Rr.thenS_exc,RS.seq_next,RS.seq_ret,RS.seq_exc,RS.out_next,RS.out_ret,RS.out_exc,
 Zfg,ZeV,Zid,Zif,Zil,Zim,ZfG,Ziy,Zi4,Zgs,Zgt,Zik,Zij,Zii,ZeX,Zih,Zig,Zdl,Zdm,Zdk,Zdj,Zfc,ZcQ,ZaM,ZaL,Ztj,Zt3,Bool.not_true,Bool.not_false,Bool.false_eq_true,if_true,if_false,Nat.reduceAdd,Nat.reduceSub,id,Ztc,Zt7,Int.reduceToNat,QP,VA,Zk7,Zis,Zir,Zdo,ZcY,Nat.reduceLeDiff,ZsV,Int.reduceLT,Int.reduceLE,Int.reduceEq,decide_true,decide_false])
set_option hygiene true
seal PE PT PA PS PSs DE DT DAA DAF DS
noncomputable abbrev Zs:List Str:=["boards", "deeds", "undone"]
noncomputable def top (i:Nat):Stmt:=PySem.Challenge.pw_sowring_k61_whole_books_walked.main.body.getD i (.Pass ⟨0,0,0,0⟩)
noncomputable abbrev ZoG:Stmt:=top 32
theorem Zsv:Zu ["script", "k"] ["script", "k"] (Zd ZoG):=⟨rfl,rfl,rfl,by decide +kernel,rfl,by decide +kernel,by decide +kernel⟩
theorem Zs1:Z2 "_law_at" ZoG ["script", "k"]:=fun _ _ _ _ _ _ us hl=>by obtain⟨_,_,rfl⟩:=us2 hl;rfl
noncomputable abbrev ZnY:Stmt:=top 33
theorem ZoD:Zu ["script", "many", "numbers", "k", "at"] ["script", "many"] (Zd ZnY):=⟨rfl,rfl,rfl,by decide +kernel,rfl,by decide +kernel,by decide +kernel⟩
theorem Zr3:Z2 "_law_folded" ZnY ["script", "many"]:=fun _ _ _ _ _ _ us hl=>by obtain⟨_,_,rfl⟩:=us2 hl;rfl
noncomputable abbrev Zoh:Stmt:=top 34
theorem Zoj:Zu ["script", "pits", "way", "board", "number", "held"] ["script", "pits", "way"] (Zd Zoh):=⟨rfl,rfl,rfl,by decide +kernel,rfl,by decide +kernel,by decide +kernel⟩
theorem ZrP:Z2 "_law_board" Zoh ["script", "pits", "way"]:=fun _ _ _ _ _ _ us hl=>by obtain⟨_,_,_,rfl⟩:=us3 hl;rfl
noncomputable abbrev Zo2:Stmt:=top 12
theorem Zsl:Zu ["value"] ["value"] (Zd Zo2):=⟨rfl,rfl,rfl,by decide +kernel,rfl,by decide +kernel,by decide +kernel⟩
theorem Zsq:Z2 "is_whole" Zo2 ["value"]:=fun _ _ _ _ _ _ us hl=>by obtain⟨_,rfl⟩:=us1 hl;rfl
noncomputable abbrev ZnK:Stmt:=top 13
theorem ZqU:Zu ["value", "least"] ["value", "least"] (Zd ZnK):=⟨rfl,rfl,rfl,by decide +kernel,rfl,by decide +kernel,by decide +kernel⟩
theorem ZpM:Z2 "is_whole_from" ZnK ["value", "least"]:=fun _ _ _ _ _ _ us hl=>by obtain⟨_,_,rfl⟩:=us2 hl;rfl
noncomputable abbrev Znx:Stmt:=top 14
theorem ZoC:Zu ["values"] ["values"] (Zd Znx):=⟨rfl,rfl,rfl,by decide +kernel,rfl,by decide +kernel,by decide +kernel⟩
theorem ZpU:Z2 "is_list_from_nought" Znx ["values"]:=fun _ _ _ _ _ _ us hl=>by obtain⟨_,rfl⟩:=us1 hl;rfl
noncomputable abbrev Zof:Stmt:=top 11
theorem Zr8:Zu [] [] (Zd Zof):=⟨rfl,rfl,rfl,by decide +kernel,rfl,by decide +kernel,by decide +kernel⟩
theorem ZrN:Z2 "most_seeds" Zof []:=fun _ _ _ _ _ _ us hl=>match us,hl with | [],_=>rfl
noncomputable abbrev Zo3:Stmt:=top 15
theorem Zsm:Zu ["board"] ["board"] (Zd Zo3):=⟨rfl,rfl,rfl,by decide +kernel,rfl,by decide +kernel,by decide +kernel⟩
theorem Zsr:Z2 "is_board" Zo3 ["board"]:=fun _ _ _ _ _ _ us hl=>by obtain⟨_,rfl⟩:=us1 hl;rfl
noncomputable abbrev ZnW:Stmt:=top 16
theorem Zrw:Zu ["board"] ["board"] (Zd ZnW):=⟨rfl,rfl,rfl,by decide +kernel,rfl,by decide +kernel,by decide +kernel⟩
theorem Zph:Z2 "check_board" ZnW ["board"]:=fun _ _ _ _ _ _ us hl=>by obtain⟨_,rfl⟩:=us1 hl;rfl
noncomputable abbrev Znv:Stmt:=J7 (top 26) 0
theorem Zq2:Zu ["self", "board"] ["self", "board"] (Zd Znv):=⟨rfl,rfl,rfl,by decide +kernel,rfl,by decide +kernel,by decide +kernel⟩
theorem Zq4:∀(kV doc pm:Value) (an:Option Addr) (cdv ct:Value) (us:List Value),us.length=(["self", "board"]:List Str).length->bindArgs (PySem.W.fnOf "__init__" "RingBook.__init__" (Zq Znv) (Zo Znv) (Zd Znv) .none kV doc pm an cdv ct) ⟨us,[]⟩=pure ((["self", "board"]:List Str).zip us):=fun _ _ _ _ _ _ us hl=>by obtain⟨_,_,rfl⟩:=us2 hl;rfl
noncomputable abbrev Zn7:Stmt:=J7 (top 26) 7
theorem ZpC:Zu ["self"] ["self"] (Zd Zn7):=⟨rfl,rfl,rfl,by decide +kernel,rfl,by decide +kernel,by decide +kernel⟩
theorem ZpP:∀(kV doc pm:Value) (an:Option Addr) (cdv ct:Value) (us:List Value),us.length=(["self"]:List Str).length->bindArgs (PySem.W.fnOf "plan" "RingBook.plan" (Zq Zn7) (Zo Zn7) (Zd Zn7) .none kV doc pm an cdv ct) ⟨us,[]⟩=pure ((["self"]:List Str).zip us):=fun _ _ _ _ _ _ us hl=>by obtain⟨_,rfl⟩:=us1 hl;rfl
noncomputable abbrev Znu:Stmt:=J7 (top 26) 9
theorem Zn3:Zu ["self", "places", "pairs", "place", "found", "key"] ["self"] (Zd Znu):=⟨rfl,rfl,rfl,by decide +kernel,rfl,by decide +kernel,by decide +kernel⟩
theorem ZpV:∀(kV doc pm:Value) (an:Option Addr) (cdv ct:Value) (us:List Value),us.length=(["self"]:List Str).length->bindArgs (PySem.W.fnOf "came_again" "RingBook.came_again" (Zq Znu) (Zo Znu) (Zd Znu) .none kV doc pm an cdv ct) ⟨us,[]⟩=pure ((["self"]:List Str).zip us):=fun _ _ _ _ _ _ us hl=>by obtain⟨_,rfl⟩:=us1 hl;rfl
noncomputable abbrev Zn6:Stmt:=J7 (top 26) 5
theorem ZpB:Zu ["self", "again"] ["self"] (Zd Zn6):=⟨rfl,rfl,rfl,by decide +kernel,rfl,by decide +kernel,by decide +kernel⟩
theorem ZpO:∀(kV doc pm:Value) (an:Option Addr) (cdv ct:Value) (us:List Value),us.length=(["self"]:List Str).length->bindArgs (PySem.W.fnOf "redo" "RingBook.redo" (Zq Zn6) (Zo Zn6) (Zd Zn6) .none kV doc pm an cdv ct) ⟨us,[]⟩=pure ((["self"]:List Str).zip us):=fun _ _ _ _ _ _ us hl=>by obtain⟨_,rfl⟩:=us1 hl;rfl
noncomputable abbrev Zn5:Stmt:=J7 (top 26) 4
theorem ZqV:Zu ["self"] ["self"] (Zd Zn5):=⟨rfl,rfl,rfl,by decide +kernel,rfl,by decide +kernel,by decide +kernel⟩
theorem ZpN:∀(kV doc pm:Value) (an:Option Addr) (cdv ct:Value) (us:List Value),us.length=(["self"]:List Str).length->bindArgs (PySem.W.fnOf "undo" "RingBook.undo" (Zq Zn5) (Zo Zn5) (Zd Zn5) .none kV doc pm an cdv ct) ⟨us,[]⟩=pure ((["self"]:List Str).zip us):=fun _ _ _ _ _ _ us hl=>by obtain⟨_,rfl⟩:=us1 hl;rfl
noncomputable abbrev Zn0:Stmt:=J7 (top 26) 6
theorem ZqK:Zu ["self"] ["self"] (Zd Zn0):=⟨rfl,rfl,rfl,by decide +kernel,rfl,by decide +kernel,by decide +kernel⟩
theorem Zpt:∀(kV doc pm:Value) (an:Option Addr) (cdv ct:Value) (us:List Value),us.length=(["self"]:List Str).length->bindArgs (PySem.W.fnOf "board" "RingBook.board" (Zq Zn0) (Zo Zn0) (Zd Zn0) .none kV doc pm an cdv ct) ⟨us,[]⟩=pure ((["self"]:List Str).zip us):=fun _ _ _ _ _ _ us hl=>by obtain⟨_,rfl⟩:=us1 hl;rfl
noncomputable abbrev Zpc:Stmt:=top 17
theorem Zs4:Zu ["board", "pit"] ["board", "pit"] (Zd Zpc):=⟨rfl,rfl,rfl,by decide +kernel,rfl,by decide +kernel,by decide +kernel⟩
theorem Zsf:Z2 "is_pit" Zpc ["board", "pit"]:=fun _ _ _ _ _ _ us hl=>by obtain⟨_,_,rfl⟩:=us2 hl;rfl
noncomputable abbrev ZnX:Stmt:=top 29
theorem Zrx:Zu ["board", "deed"] ["board", "deed"] (Zd ZnX):=⟨rfl,rfl,rfl,by decide +kernel,rfl,by decide +kernel,by decide +kernel⟩
theorem Zr2:Z2 "can_be_done" ZnX ["board", "deed"]:=fun _ _ _ _ _ _ us hl=>by obtain⟨_,_,rfl⟩:=us2 hl;rfl
noncomputable abbrev ZnR:Stmt:=top 24
theorem ZnJ:Zu ["board", "pit", "pits", "rounds", "other", "taken", "place"] ["board", "pit"] (Zd ZnR):=⟨rfl,rfl,rfl,by decide +kernel,rfl,by decide +kernel,by decide +kernel⟩
theorem Zqu:Z2 "take_back_at" ZnR ["board", "pit"]:=fun _ _ _ _ _ _ us hl=>by obtain⟨_,_,rfl⟩:=us2 hl;rfl
noncomputable abbrev ZoE:Stmt:=top 23
theorem Zo1:Zu ["board", "pit", "pits", "rounds", "over", "other", "last", "step"] ["board", "pit"] (Zd ZoE):=⟨rfl,rfl,rfl,by decide +kernel,rfl,by decide +kernel,by decide +kernel⟩
theorem Zr6:Z2 "sow_pit" ZoE ["board", "pit"]:=fun _ _ _ _ _ _ us hl=>by obtain⟨_,_,rfl⟩:=us2 hl;rfl
noncomputable abbrev ZoF:Stmt:=top 30
theorem Zsu:Zu ["board", "deed"] ["board", "deed"] (Zd ZoF):=⟨rfl,rfl,rfl,by decide +kernel,rfl,by decide +kernel,by decide +kernel⟩
theorem Zs0:Z2 "do_deed" ZoF ["board", "deed"]:=fun _ _ _ _ _ _ us hl=>by obtain⟨_,_,rfl⟩:=us2 hl;rfl
noncomputable abbrev Zpb:Stmt:=top 28
theorem ZpX:Zu ["board", "plan", "now", "place", "deed"] ["board", "plan"] (Zd Zpb):=⟨rfl,rfl,rfl,by decide +kernel,rfl,by decide +kernel,by decide +kernel⟩
theorem Zrp:Z2 "walked" Zpb ["board", "plan"]:=fun _ _ _ _ _ _ us hl=>by obtain⟨_,_,rfl⟩:=us2 hl;rfl
noncomputable abbrev Zn2:Stmt:=top 36
theorem Zoz:Zu ["book", "first", "plan", "k"] ["book", "first", "plan"] (Zd Zn2):=⟨rfl,rfl,rfl,by decide +kernel,rfl,by decide +kernel,by decide +kernel⟩
theorem ZqC:Z2 "_law_walked_back" Zn2 ["book", "first", "plan"]:=fun _ _ _ _ _ _ us hl=>by obtain⟨_,_,_,rfl⟩:=us3 hl;rfl
noncomputable abbrev Znt:Stmt:=J7 (top 26) 8
theorem Zo5:Zu ["self"] ["self"] (Zd Znt):=⟨rfl,rfl,rfl,by decide +kernel,rfl,by decide +kernel,by decide +kernel⟩
theorem Zp6:∀(kV doc pm:Value) (an:Option Addr) (cdv ct:Value) (us:List Value),us.length=(["self"]:List Str).length->bindArgs (PySem.W.fnOf "sown_in_all" "RingBook.sown_in_all" (Zq Znt) (Zo Znt) (Zd Znt) .none kV doc pm an cdv ct) ⟨us,[]⟩=pure ((["self"]:List Str).zip us):=fun _ _ _ _ _ _ us hl=>by obtain⟨_,rfl⟩:=us1 hl;rfl
noncomputable abbrev Zog:Stmt:=top 35
theorem ZnI:Zu ["first", "plan", "moved", "board", "deed", "after_it", "grown"] ["first", "plan"] (Zd Zog):=⟨rfl,rfl,rfl,by decide +kernel,rfl,by decide +kernel,by decide +kernel⟩
theorem ZrO:Z2 "_law_moved" Zog ["first", "plan"]:=fun _ _ _ _ _ _ us hl=>by obtain⟨_,_,rfl⟩:=us2 hl;rfl
noncomputable abbrev Zor:Stmt:=top 18
theorem ZrV:Zu ["board", "pit"] ["board", "pit"] (Zd Zor):=⟨rfl,rfl,rfl,by decide +kernel,rfl,by decide +kernel,by decide +kernel⟩
theorem Zsg:Z2 "check_pit" Zor ["board", "pit"]:=fun _ _ _ _ _ _ us hl=>by obtain⟨_,_,rfl⟩:=us2 hl;rfl
noncomputable abbrev ZnF:Stmt:=top 19
theorem ZqI:Zu ["board", "pit"] ["board", "pit"] (Zd ZnF):=⟨rfl,rfl,rfl,by decide +kernel,rfl,by decide +kernel,by decide +kernel⟩
theorem Zpr:Z2 "check_standing" ZnF ["board", "pit"]:=fun _ _ _ _ _ _ us hl=>by obtain⟨_,_,rfl⟩:=us2 hl;rfl
noncomputable abbrev ZqT:Stmt:=top 21
theorem ZsD:Zu ["board", "pit"] ["board", "pit"] (Zd ZqT):=⟨rfl,rfl,rfl,by decide +kernel,rfl,by decide +kernel,by decide +kernel⟩
theorem ZsJ:Z2 "sown" ZqT ["board", "pit"]:=fun _ _ _ _ _ _ us hl=>by obtain⟨_,_,rfl⟩:=us2 hl;rfl
noncomputable abbrev Znz:Stmt:=J7 (top 26) 3
theorem ZqJ:Zu ["self", "deed", "board"] ["self", "deed", "board"] (Zd Znz):=⟨rfl,rfl,rfl,by decide +kernel,rfl,by decide +kernel,by decide +kernel⟩
theorem Zps:∀(kV doc pm:Value) (an:Option Addr) (cdv ct:Value) (us:List Value),us.length=(["self", "deed", "board"]:List Str).length->bindArgs (PySem.W.fnOf "enter" "RingBook.enter" (Zq Znz) (Zo Znz) (Zd Znz) .none kV doc pm an cdv ct) ⟨us,[]⟩=pure ((["self", "deed", "board"]:List Str).zip us):=fun _ _ _ _ _ _ us hl=>by obtain⟨_,_,_,rfl⟩:=us3 hl;rfl
noncomputable abbrev ZnC:Stmt:=J7 (top 26) 1
theorem ZpY:Zu ["self", "pit", "behind"] ["self", "pit"] (Zd ZnC):=⟨rfl,rfl,rfl,by decide +kernel,rfl,by decide +kernel,by decide +kernel⟩
theorem Zrq:∀(kV doc pm:Value) (an:Option Addr) (cdv ct:Value) (us:List Value),us.length=(["self", "pit"]:List Str).length->bindArgs (PySem.W.fnOf "sow" "RingBook.sow" (Zq ZnC) (Zo ZnC) (Zd ZnC) .none kV doc pm an cdv ct) ⟨us,[]⟩=pure ((["self", "pit"]:List Str).zip us):=fun _ _ _ _ _ _ us hl=>by obtain⟨_,_,rfl⟩:=us2 hl;rfl
noncomputable abbrev Zoe:Stmt:=top 22
theorem Zr7:Zu ["board", "pit"] ["board", "pit"] (Zd Zoe):=⟨rfl,rfl,rfl,by decide +kernel,rfl,by decide +kernel,by decide +kernel⟩
theorem ZrM:Z2 "taken_back" Zoe ["board", "pit"]:=fun _ _ _ _ _ _ us hl=>by obtain⟨_,_,rfl⟩:=us2 hl;rfl
noncomputable abbrev Zn8:Stmt:=J7 (top 26) 2
theorem ZpD:Zu ["self", "pit", "behind"] ["self", "pit"] (Zd Zn8):=⟨rfl,rfl,rfl,by decide +kernel,rfl,by decide +kernel,by decide +kernel⟩
theorem ZqY:∀(kV doc pm:Value) (an:Option Addr) (cdv ct:Value) (us:List Value),us.length=(["self", "pit"]:List Str).length->bindArgs (PySem.W.fnOf "back" "RingBook.back" (Zq Zn8) (Zo Zn8) (Zd Zn8) .none kV doc pm an cdv ct) ⟨us,[]⟩=pure ((["self", "pit"]:List Str).zip us):=fun _ _ _ _ _ _ us hl=>by obtain⟨_,_,rfl⟩:=us2 hl;rfl
noncomputable abbrev ZrW:Stmt:=top 37
theorem Zpa:Zu ["script", "head", "pits", "first", "book", "cell", "pit", "some", "k", "plan", "earlier", "later"] ["script"] (Zd ZrW):=⟨rfl,rfl,rfl,by decide +kernel,rfl,by decide +kernel,by decide +kernel⟩
theorem ZsN:Z2 "law" ZrW ["script"]:=fun _ _ _ _ _ _ us hl=>by obtain⟨_,rfl⟩:=us1 hl;rfl
noncomputable abbrev XN:List Str:=["SowError", "BadBoard", "BadPit", "NoSeeds", "BadPlan", "NoDeed"]
noncomputable abbrev Zcs:List (Str×Str×Bool):=[("SowError", "SowError",true),("BadBoard", "SowError",true),("BadPit", "SowError",true),("NoSeeds", "SowError",true),("BadPlan", "SowError",true),("NoDeed", "SowError",true)]
noncomputable abbrev Zct:List (Str×Str×Bool):=[("SowError", "BadBoard",false),("BadBoard", "BadBoard",true),("BadPit", "BadBoard",false),("NoSeeds", "BadBoard",false),("BadPlan", "BadBoard",false),("NoDeed", "BadBoard",false)]
noncomputable abbrev Zgw:List (Str×Str×Bool):=[("SowError", "BadPit",false),("BadBoard", "BadPit",false),("BadPit", "BadPit",true),("NoSeeds", "BadPit",false),("BadPlan", "BadPit",false),("NoDeed", "BadPit",false)]
noncomputable abbrev Zem:List (Str×Str×Bool):=[("SowError", "NoSeeds",false),("BadBoard", "NoSeeds",false),("BadPit", "NoSeeds",false),("NoSeeds", "NoSeeds",true),("BadPlan", "NoSeeds",false),("NoDeed", "NoSeeds",false)]
noncomputable abbrev Zen:List (Str×Str×Bool):=[("SowError", "BadPlan",false),("BadBoard", "BadPlan",false),("BadPit", "BadPlan",false),("NoSeeds", "BadPlan",false),("BadPlan", "BadPlan",true),("NoDeed", "BadPlan",false)]
noncomputable abbrev Zgv:List (Str×Str×Bool):=[("SowError", "NoDeed",false),("BadBoard", "NoDeed",false),("BadPit", "NoDeed",false),("NoSeeds", "NoDeed",false),("BadPlan", "NoDeed",false),("NoDeed", "NoDeed",true)]
noncomputable abbrev XS:List (Str×Str×Bool):=Zcs++Zct++Zgw++Zem++Zen++Zgv
noncomputable abbrev XR:List Str:=["SowError", "BadBoard", "BadPit", "NoSeeds", "NoDeed"]
noncomputable abbrev XA:List Str:=["BadPlan"]
noncomputable abbrev J0:Stmt:=J7 (top 6) 0
theorem Zb7:Zu ["self", "words", "at"] ["self", "words", "at"] (Zd J0):=⟨rfl,rfl,rfl,by decide +kernel,rfl,by decide +kernel,by decide +kernel⟩
structure Txt (K:PySem.W.Frag) (mg:Str->Option Value):Prop where
 Zs9:Dfn K mg "_law_at" ZoG
 ZrL:Dfn K mg "_law_folded" ZnY
 Zsd:Dfn K mg "_law_board" Zoh
 Zsy:Dfn K mg "is_whole" Zo2
 Zqm:Dfn K mg "is_whole_from" ZnK
 Zqn:Dfn K mg "is_list_from_nought" Znx
 Zsb:Dfn K mg "most_seeds" Zof
 Zsz:Dfn K mg "is_board" Zo3
 Zp5:Dfn K mg "check_board" ZnW
 Zst:Dfn K mg "is_pit" Zpc
 ZrK:Dfn K mg "can_be_done" ZnX
 Zq5:Dfn K mg "take_back_at" ZnR
 Zsa:Dfn K mg "sow_pit" ZoE
 Zs8:Dfn K mg "do_deed" ZoF
 ZrJ:Dfn K mg "walked" Zpb
 ZqF:Dfn K mg "_law_walked_back" Zn2
 Zsc:Dfn K mg "_law_moved" Zog
 Zsp:Dfn K mg "check_pit" Zor
 ZpI:Dfn K mg "check_standing" ZnF
 ZsM:Dfn K mg "sown" ZqT
 ZrZ:Dfn K mg "taken_back" Zoe
 ZsP:Dfn K mg "law" ZrW
 c_FEWEST_PITS:∃t,mg "FEWEST_PITS"=some (.int 2 t)
 c_MOST_PITS:∃t,mg "MOST_PITS"=some (.int 24 t)
 z_all:mg "all"=none
 z_bool:mg "bool"=none
 z_enumerate:mg "enumerate"=none
 z_int:mg "int"=none
 z_isinstance:mg "isinstance"=none
 z_len:mg "len"=none
 z_list:mg "list"=none
 z_min:mg "min"=none
 z_range:mg "range"=none
 z_sorted:mg "sorted"=none
 z_sum:mg "sum"=none
 z_tuple:mg "tuple"=none
 x_tab:Zm7 K XN XS=true
 x_exc:Zi9 K XR=true
 x_at:(XA.all (Zlx K))=true
 x_mg:∀n C,UJ K n C->mg n=some (.ref C)
 i_BadPlan:ZmX K "BadPlan" "SowError" "BadPlan.__init__" J0
 ZqA:Zeq K "RingBook" "__init__" "RingBook.__init__" Znv
 Zqq:Zeq K "RingBook" "plan" "RingBook.plan" Zn7
 Zqr:Zeq K "RingBook" "came_again" "RingBook.came_again" Znu
 Zqp:Zeq K "RingBook" "redo" "RingBook.redo" Zn6
 Zqo:Zeq K "RingBook" "undo" "RingBook.undo" Zn5
 ZpK:Zeq K "RingBook" "board" "RingBook.board" Zn0
 ZpS:Zeq K "RingBook" "sown_in_all" "RingBook.sown_in_all" Znt
 ZpJ:Zeq K "RingBook" "enter" "RingBook.enter" Znz
 Zr0:Zeq K "RingBook" "sow" "RingBook.sow" ZnC
 Zrl:Zeq K "RingBook" "back" "RingBook.back" Zn8
 o_RingBook:Q5 K "RingBook" Zs=true
section
variable {P:Program}{w:World}{K:W.Frag}{mg:Str->Option Value}{base:Heap}
theorem ZbT (T:Txt K mg):Zm6 P w K mg base 1 "BadPlan":=by
 obtain⟨C,f,fd,S,h1,h2,h3,h4,h5,F,h7,h8⟩:=T.i_BadPlan
 obtain⟨oI,k1,k2⟩:=Zb4 h5
 refine⟨C,f,fd,oI,h1,h2,h3,k1,k2,Zjn (k:=0) F Zb7 (fun cdv A outer s H E hr=>?_),F.binds (fun _ _ _ _ _ _ us hl=>match us,hl with | [_,_,_],_=>rfl)⟩
 exact Ze (ZF (ZgJ h2 h8 rfl (T.x_mg _ _ h7) (Zb (pv 0) (Zb (pv 1) Zh)))) (Zj (ZiK rfl h4 (pv 0) (pv 2)))
theorem Zit:PyData.canLay0 (.str "sow")=true:=by rw[PyData.canLay0];decide +kernel
theorem ZdW {g:Bool->Bool}:ZbK g (.str "sow") (.str "sow")=.ok (.bl (g true)):=ZbJ Zit Zit
set_option hygiene false
local macro_rules | `(tactic| walk_at "pd")=>`(tactic| try simp -implicitDefEqProofs (disch:=first|omega|(simp only[ZsS,Ztl,Zt2,List.length_replicate,Ztj,Zt3,Ztf,List.length_drop,List.length_range,Jl,US];omega)|decide) only[ZbV,ZbW,List.set_cons_zero,Zud,List.cons_append,Zub,ZeD,ZeC,ZtA,Rr.bind_ok,Rr.bind_exc,Rr.bind_bad,Rr.thenS_ok,Rr.thenS_exc,RS.seq_next,RS.seq_ret,RS.seq_exc,RS.out_next,RS.out_ret,RS.out_exc,
 Zfg,ZeV,Zid,Zif,Zil,Zim,ZfG,Ziy,Zhr,Zhs,Zi4,Zgs,Zk3,Zgt,Zik,Zij,Zii,ZeX,Zih,Zig,Zdl,Zdm,Zdk,Zdj,Zfc,ZcQ,ZaM,ZiU,ZaL,Ztj,Zt3,Bool.not_true,Bool.not_false,Bool.false_eq_true,if_true,if_false,Nat.reduceAdd,Nat.reduceSub,id,Ztc,Zt7,Int.reduceToNat,QP,VA,Zk7,Zis,Zir,Zk2,ZgU,Zm3,Zdo,ZcY,Nat.reduceLeDiff,ZsV,Int.reduceLT,Int.reduceLE,Int.reduceEq,decide_true,decide_false,
 ZI,JO,ZaP,ZgS,ZcO,ZcN,ZgO,ZbP,ZdP,Qh,Zln,ZeF,Zha,ZgZ,ZgX,beq_self_eq_true,Bool.and_true,Bool.true_and,Bool.and_false,Bool.false_and,ZdW])
set_option hygiene true
noncomputable def Zo4:Pm:=⟨List Int×Int,fun a=>[.lst (a.1.map PV.int),.int a.2],fun a=>0<=a.2,fun a=>.ok (.int (a.1.getD a.2.toNat 0))⟩
theorem Zsx (T:Txt K mg) {f:Addr}{fd:FuncData} (F:Fun K "_law_at" "_law_at" ZoG f fd):Jk P w K mg base CX0 1 f fd ["script", "k"] (spF K 2 .P W0 Zo4.fn):=by
 refine F.okP Zsv rfl rfl (fun cdv A outer s H E hr=>?_)
 have hu:=hr.units
 refine⟨_,_,⟨[],[],[],.P⟩,rfl,(Ze (J5 (ZC Zhb (pv 1) (Z1 (ZK (K:=K)) rfl T.z_len JI (Zb (pv 0) Zh)) (ZJ _)) (Zj (Z8 (ZO (Zt (K:=K)) (pv 0) (pv 1) (fun _ _=>rfl)))) ZM)
   (Zj (Z8 Zl))),
   (Zm (Γm:=[.S,.S]) (J8 (ZB (DE.toA (Zh9 (Zc (i:=1) (m:=.S) rfl (by decide)) (DE.toA (JH (Za (Zc (i:=0) (m:=.S) rfl (by decide)) Zf))))))
   (ZZ (DE.grd (Z3 (te:=tC .non) (Zc (i:=0) (m:=.S) rfl (by decide)) (Zc (i:=1) (m:=.S) rfl (by decide)))))
   ZP)
   (ZZ Zk)), ?_⟩
 refine Pm.ref Zo4 (g:=fun xs=>_) ?_
 rintro⟨ns,k⟩ (hk:0<=k)
 simp only[Zo4]
 walk_at "pu"
 by_cases h:k<ns.length
 ·rw[if_pos (decide_eq_true h),ZI hk h]
  walk_at "pu"
 ·rw[if_neg (by simpa using h)]
  walk_at "pu"
  rw[ZsQ,Ztd (by omega)];rfl
theorem Zqs {ns:List Int}{k:Int} (h:0<=k):Zo4.fn [.lst (ns.map PV.int),.int k]=.ok (.int (ns.getD k.toNat 0)):=Pm.fn_eq Zo4 (ns,k) h fun(a:List Int×Int) e=>by (simp only[Zo4,List.cons.injEq,PV.lst.injEq,PV.int.injEq,PV.str.injEq,PV.bl.injEq,PV.tup.injEq,Vz,and_true] at e ⊢;first|(simp only[e];done)|(subst e;rfl)|(rw[e]))
noncomputable def ZnT:Pm:=⟨List Int×Int,fun a=>[.lst (a.1.map PV.int),.int a.2],fun a=>a.1.length<=63/\1<=a.2/\a.2<=24,fun a=>.ok (.lst ((Vf a.1 a.2).map PV.int))⟩
theorem Zrz (T:Txt K mg) {f:Addr}{fd:FuncData} (F:Fun K "_law_folded" "_law_folded" ZnY f fd):Jk P w K mg base CX0 1 f fd ["script", "many"] (spF K 2 .F W0 ZnT.fn):=by
 refine F.okP ZoD rfl rfl (fun cdv A outer s H E hr=>?_)
 have hu:=hr.units
 refine⟨_,_,⟨[],[],[],.F⟩,rfl,(Ze (Z4 (i:=2) ZoD.nd rfl (by first|exact Or.inl rfl|exact Or.inr rfl) (ZG Zk8 (VS (Zb Zl Zh)) (pv 1)))
   (Ze (Ve PassesOwn.never rfl (ZeO rfl T.z_range (Zb Zl (Zb (Z1 (ZK (K:=K)) rfl T.z_len JI (Zb (pv 0) Zh)) Zh))) (Jc (i:=3) ZoD.nd rfl (by first|exact Or.inl rfl|exact Or.inr rfl)) (Ze (Z4 (i:=4) ZoD.nd rfl (by first|exact Or.inl rfl|exact Or.inr rfl) (ZG Js (ZG ZcS (pv 3) Zl) (pv 1)))
   (Zj (ZcI (ZG Js (ZG Qe (ZG Zfi (ZO (Zt (K:=K)) (pv 2) (pv 4) (fun _ _=>rfl)) Zl) (ZO (Zt (K:=K)) (pv 0) (pv 3) (fun _ _=>rfl))) (ZG Zin Zl Zl)) (ZcL (pv 2) (pv 4) Vv)))))
   (Zj (Z8 (pv 2))))),
   (Zm (Γm:=[.S,.S,.O,.U,.U]) (Jn (i:=2) (Zjv (Za (DE.toA Zk) Zf) (Zc (i:=1) (m:=.S) rfl (by decide))) (by decide))
   (Zm (Γm:=[.S,.S,.O,.U,.U]) (Vg (Γl:=[.S,.S,.O,.U,.U]) (Zju (Za (DE.toA Zk) (Za (DE.toA (JH (Za (Zc (i:=0) (m:=.S) rfl (by decide)) Zf))) Zf))) rfl (Zcd (i:=3) (by decide))
   (DS.out (Y:=⟨[.S,.S,.O,.P,.P],[.S,.S,.O,.U,.U],[.S,.S,.O,.U,.U],.F⟩) (Y':=⟨[.S,.S,.O,.U,.U],[.S,.S,.O,.U,.U],[.S,.S,.O,.U,.U],.F⟩) (Zm (Γm:=[.S,.S,.O,.P,.P]) (Z6 (i:=4) (Jt (DE.toA (Zdz (DE.toA (Zi (i:=3) rfl)) (DE.toA Zk))) (Zc (i:=1) (m:=.S) rfl (by decide))) (by decide))
   (VY (i:=2) rfl (Jt (DE.toA (Q3 (DE.toA (Zi0 (Z3 (te:=tC .non) (Zc (i:=2) (m:=.O) rfl (by decide)) (DE.toA (Zi (i:=4) rfl))) (DE.toA Zk))) (Z3 (te:=tC .non) (Zc (i:=0) (m:=.S) rfl (by decide)) (DE.toA (Zi (i:=3) rfl))))) (DE.toA (Ziz (DE.toA Zk) (DE.toA Zk)))) (DE.toA (Zi (i:=4) rfl)))) rfl rfl rfl rfl))
   (Ju (Uo (i:=2) rfl)))), ?_⟩
 refine Pm.ref ZnT (g:=fun xs=>_) ?_
 rintro⟨ns,m⟩ ⟨hn,hm1,hm2⟩
 simp only at hn hm1 hm2
 simp only[ZnT]
 walk_at "pu"
 have e0:Zk1 [PV.int 0] (.int m)=.ok (.lst ((VD ns m 0).map PV.int)):=by
  have:=ZeW (ns:=[0]) (k:=m) (by simp;omega) (by omega) (by omega)
  simp only[Ztc,Zt7] at this
  rw[this,List.flatten_replicate_singleton];rfl
 rw[e0]
 walk_at "pu"
 rw[ZcN (by omega) (by omega)]
 walk_at "pu"
 generalize hb:(fun(x:PV) (ρ:List PV)=>_)=body
 obtain⟨ρ',h1,h2⟩:=UI (b:=body) (xs:=Zb8 1 ((ns.length:Int)-1).toNat) (ρ:=[.lst (ns.map PV.int),.int m,.lst ((VD ns m 0).map PV.int),.non,.non]) (fun i ρ=>∃v3 v4,ρ=[.lst (ns.map PV.int),.int m,.lst ((VD ns m i).map PV.int),v3,v4]) ⟨_,_,rfl⟩ (by
  rintro i x ρ hx ⟨v3,v4,rfl⟩
  obtain⟨hi,rfl⟩:=VQ hx
  subst hb
  have a0:=Ztn (i:Int) (show m≠0 by omega)
  have a1:=Ztm (i:Int) (show 0<m by omega)
  have e1:(1:Int)+i-1=i:=by omega
  have hl:=JE ns m i
  walk_at "pu"
  rw[VA (by omega)]
  walk_at "pu"
  rw[e1,ZI a0 (by omega),ZI (by omega) (by omega)]
  walk_at "pu"
  have hb:=JY ns m i ((VD ns m i).getD ((i:Int)%m).toNat 0) (ZT (by omega))
  rw[ZeY (Zgd 60 2 (by omega) (by decide))]
  walk_at "pu"
  rw[VA (by decide)]
  walk_at "pu"
  rw[JO a0 (by omega)]
  walk_at "pu"
  rw[show (1+(i:Int)).toNat=i+1 by omega,<- Zed]
  exact JB ⟨_,_,rfl⟩)
 obtain⟨v3,v4,rfl⟩:=h2
 rw[h1]
 walk_at "pu"
 rw[Jl]
 unfold Vf
 rw[show ((ns.length:Int)-1).toNat=ns.length-1 by omega]
theorem Zo9 {ns:List Int}{m:Int} (h:ns.length<=63/\1<=m/\m<=24):ZnT.fn [.lst (ns.map PV.int),.int m]=.ok (.lst ((Vf ns m).map PV.int)):=
 Pm.fn_eq ZnT (ns,m) h fun⟨ns',k'⟩ e=>by
  simp only[ZnT,List.cons.injEq,PV.lst.injEq,PV.int.injEq,and_true] at e ⊢
  rw[Z9 e.1,e.2]
noncomputable def Zoa:Pm:=⟨List Int×Int×Int,fun a=>[.lst (a.1.map PV.int),.int a.2.1,.int a.2.2],fun a=>a.1.length<=63/\2<=a.2.1/\a.2.1<=24,fun a=>.ok (.lst ((JW a.1 a.2.1 a.2.2).map PV.int))⟩
theorem ZrG (T:Txt K mg) {f:Addr}{fd:FuncData} (F:Fun K "_law_board" "_law_board" Zoh f fd):Jk P w K mg base CX0 2 f fd ["script", "pits", "way"] (spF K 3 .F W0 Zoa.fn):=by
 have ZrU:=Zan (P:=P) (w:=w) (base:=base) T.ZrL Zr3 (fun F=>Zrz T F)
 refine F.okP Zoj rfl rfl (fun cdv A outer s H E hr=>?_)
 have hu:=hr.units
 refine⟨_,_,⟨[],[],[],.F⟩,rfl,(Ze (Z4 (i:=3) Zoj.nd rfl (by first|exact Or.inl rfl|exact Or.inr rfl) (VS Zh))
   (Ze (Ve PassesOwn.never rfl (Jv (K:=K) (ZD ZrU (hr.mono (by decide)) rfl (Zb (pv 0) (Zb (pv 1) Zh)))) (Jc (i:=4) Zoj.nd rfl (by first|exact Or.inl rfl|exact Or.inr rfl)) (Ze (Z4 (i:=5) Zoj.nd rfl (by first|exact Or.inl rfl|exact Or.inr rfl) (ZG Js (ZG Jb (pv 4) Zl) Zl))
   (Ze (J5 (ZC (JP (K:=K) hu) (pv 2) Zl (ZJ _)) (Zj (Z4 (i:=5) Zoj.nd rfl (by first|exact Or.inl rfl|exact Or.inr rfl) (ZG Js (ZG Jb (pv 4) Zl) Zl))) ZM)
   (Ze (J5 (ZC (JP (K:=K) hu) (pv 2) Zl (ZJ _)) (Zj (Z4 (i:=5) Zoj.nd rfl (by first|exact Or.inl rfl|exact Or.inr rfl) (ZG Jb (pv 4) Zl))) ZM)
   (Ze (J5 (ZC (JP (K:=K) hu) (pv 2) Zl (ZJ _)) (Zj (Z4 (i:=5) Zoj.nd rfl (by first|exact Or.inl rfl|exact Or.inr rfl) (ZO (Zt (K:=K)) (VS (Zb Zl (Zb Zl (Zb (ZG Jb (pv 4) Zl) (Zb (pv 1) Zh))))) (ZG Js (ZG Jb (pv 4) Zl) Zl) (fun _ _=>rfl)))) ZM)
   (Zj (ZF (ZbG PySem.F.plainAttrs_list PySem.F.slot_list_append PySem.F.type_list_append J6 (pv 3) (Zb (pv 5) Zh)))))))))
   (Zj (Z8 (pv 3))))),
   (Zm (Γm:=[.S,.S,.S,.O,.U,.U]) (Jn (i:=3) (Vt JL) (by decide))
   (Zm (Γm:=[.S,.S,.S,.O,.U,.U]) (Vg (Γl:=[.S,.S,.S,.O,.U,.U]) (JZ (DE.FZ (Zep (Zg (Zg Zp)) (Za (Zc (i:=0) (m:=.S) rfl (by decide)) (Za (Zc (i:=1) (m:=.S) rfl (by decide)) Zf))))) rfl (Zcd (i:=4) (by decide))
   (DS.out (Y:=⟨[.S,.S,.S,.O,.P,.P],[.S,.S,.S,.O,.U,.U],[.S,.S,.S,.O,.U,.U],.F⟩) (Y':=⟨[.S,.S,.S,.O,.U,.U],[.S,.S,.S,.O,.U,.U],[.S,.S,.S,.O,.U,.U],.F⟩) (Zm (Γm:=[.S,.S,.S,.O,.P,.P]) (Z6 (i:=5) (Jt (DE.toA (Vh (DE.toA (Zi (i:=4) rfl)) (DE.toA Zk))) (DE.toA Zk)) (by decide))
   (Zm (Γm:=[.S,.S,.S,.O,.P,.P]) (J8 (ZB (DE.toA (Ji (g:=id) (Zc (i:=2) (m:=.S) rfl (by decide)) (DE.toA Zk))))
   (Z6 (i:=5) (Jt (DE.toA (Vh (DE.toA (Zi (i:=4) rfl)) (DE.toA Zk))) (DE.toA Zk)) (by decide))
   ZP)
   (Zm (Γm:=[.S,.S,.S,.O,.P,.P]) (J8 (ZB (DE.toA (Ji (g:=id) (Zc (i:=2) (m:=.S) rfl (by decide)) (DE.toA Zk))))
   (Z6 (i:=5) (Vh (DE.toA (Zi (i:=4) rfl)) (DE.toA Zk)) (by decide))
   ZP)
   (Zm (Γm:=[.S,.S,.S,.O,.P,.P]) (J8 (ZB (DE.toA (Ji (g:=id) (Zc (i:=2) (m:=.S) rfl (by decide)) (DE.toA Zk))))
   (Z6 (i:=5) (DE.grd (Z3 (te:=tC .non) (DE.toA (Vt (Jr (DE.PF Zk) (Jr (DE.PF Zk) (Jr (DE.PF (Vh (DE.toA (Zi (i:=4) rfl)) (DE.toA Zk))) (Jr (DE.PF (DE.grd (Zc (i:=1) (m:=.S) rfl (by decide)))) JL)))))) (DE.toA (Jt (DE.toA (Vh (DE.toA (Zi (i:=4) rfl)) (DE.toA Zk))) (DE.toA Zk))))) (by decide))
   ZP)
   (ZfN (i:=3) rfl rfl (DE.PF (Zi (i:=5) rfl))))))) rfl rfl rfl rfl))
   (Ju (Uo (i:=3) rfl)))), ?_⟩
 refine Pm.ref Zoa (g:=fun xs=>_) ?_
 rintro⟨ns,m,way⟩ ⟨hn,hm1,hm2⟩
 simp only at hn hm1 hm2
 simp only[Zoa]
 walk_at "pu"
 rw[Zo9 ⟨hn,by omega,hm2⟩]
 walk_at "pu"
 have hfl:(Vf ns m).length=m.toNat:=JE ns m _
 generalize hb:(fun(x:PV) (ρ:List PV)=>_)=body
 obtain⟨ρ',h1,h2⟩:=UI (b:=body) (xs:=(Vf ns m).map PV.int) (ρ:=[.lst (ns.map PV.int),.int m,.int way,.lst [],.non,.non])
  (fun i ρ=>∃v4 v5,ρ=[.lst (ns.map PV.int),.int m,.int way,.lst ((((Vf ns m).take i).map (Uz m way)).map PV.int),v4,v5]) ⟨_,_,rfl⟩ (by
  rintro i x ρ hx ⟨v4,v5,rfl⟩
  obtain⟨z,rfl,hz,hi⟩:=Zhn hx
  obtain⟨z0,z1⟩:=JY ns m _ z (Ztx hz)
  have tk:(Vf ns m).take (i+1)=(Vf ns m).take i++[z]:=by
   rw[List.take_succ,hz];rfl
  have app:∀v,v=Uz m way z->pApp (.lst ((((Vf ns m).take i).map (Uz m way)).map PV.int)) (.int v)=.ok (.lst ((((Vf ns m).take (i+1)).map (Uz m way)).map PV.int)):=fun v hv=>by
   rw[ZaP (by simp;omega),hv,tk]
   simp
  subst hb
  by_cases w3:way=3
  ·subst w3
   have e:pIx (.lst [.int 0,.int 1,.int (z/24),.int m]) (.int (z/7%4))=.ok (.int ([0,1,z/24,m].getD (z/7%4).toNat 0)):=ZI (ns:=[0,1,z/24,m]) (by omega) (by simp only[Ztj,Zt3];omega)
   walk_at "pu"
   rw[e]
   walk_at "pu"
   rw[app _ (by unfold Uz;rw[if_pos rfl])]
   walk_at "pu"
   exact JB ⟨_,_,rfl⟩
  ·by_cases w2:way=2
   ·subst w2
    walk_at "pu"
    rw[app _ (by unfold Uz;rw[if_neg (by decide),if_pos rfl])]
    walk_at "pu"
    exact JB ⟨_,_,rfl⟩
   ·by_cases w1:way=1
    ·subst w1
     walk_at "pu"
     rw[app _ (by unfold Uz;rw[if_neg (by decide),if_neg (by decide),if_pos rfl])]
     walk_at "pu"
     exact JB ⟨_,_,rfl⟩
    ·walk_at "pu"
     rw[decide_eq_false w1]
     walk_at "pu"
     rw[decide_eq_false w2]
     walk_at "pu"
     rw[decide_eq_false w3]
     walk_at "pu"
     rw[app _ (by unfold Uz;rw[if_neg w3,if_neg w2,if_neg w1])]
     walk_at "pu"
     exact JB ⟨_,_,rfl⟩)
 obtain⟨v4,v5,rfl⟩:=h2
 rw[h1]
 walk_at "pu"
 rw[ZsS,List.take_of_length_le (ZsV _)]
 rfl
theorem ZoK {ns:List Int}{m way:Int} (h:ns.length<=63/\2<=m/\m<=24):Zoa.fn [.lst (ns.map PV.int),.int m,.int way]=.ok (.lst ((JW ns m way).map PV.int)):=
 Pm.fn_eq Zoa (ns,m,way) h fun⟨ns',k',w'⟩ e=>by
  simp only[Zoa,List.cons.injEq,PV.lst.injEq,PV.int.injEq,and_true] at e ⊢
  obtain⟨e1,e2,e3⟩:=e
  rw[Z9 e1,e2,e3]
noncomputable def Zo0:Pm:=⟨Int,fun i=>[.int i],fun _=>True,fun _=>.ok (.bl true)⟩
theorem Zsn (T:Txt K mg) {f:Addr}{fd:FuncData} (F:Fun K "is_whole" "is_whole" Zo2 f fd):Jk P w K mg base CX0 1 f fd ["value"] (spF K 1 .P W0 Zo0.fn):=by
 refine F.okP Zsl rfl rfl (fun cdv A outer s H E hr=>?_)
 have hu:=hr.units
 refine⟨_,_,⟨[],[],[],.P⟩,rfl,(Zj (Z8 (Qa (Z1 (Uc (K:=K) (n := "int") rfl) rfl T.z_isinstance Jy (Zb (pv 0) (Zb (Zal (v:=.ty "int") rfl T.z_int Zlo rfl) Zh))) (QO (Zky (Z1 (Uc (K:=K) (n := "bool") rfl) rfl T.z_isinstance Jy (Zb (pv 0) (Zb (Zal (v:=.ty "bool") rfl T.z_bool Zj6 rfl) Zh)))))))),
   (ZZ (Q2 (DE.toA (Zd0 (Zc (i:=0) (m:=.S) rfl (by decide)))) (Zlg (DE.toA (Zd0 (Zc (i:=0) (m:=.S) rfl (by decide))))))), ?_⟩
 refine Pm.ref Zo0 (g:=fun xs=>_) ?_
 intro (i:Int) _
 simp only[Zo0]
 walk_at "pd"
theorem Zpo {i:Int}:Zo0.fn [.int i]=.ok (.bl true):=Pm.fn_eq Zo0 i trivial fun _ _=>rfl
noncomputable def ZnG:Pm:=⟨Int×Int,fun a=>[.int a.1,.int a.2],fun _=>True,fun a=>.ok (.bl (decide (a.2<=a.1)))⟩
theorem ZpE (T:Txt K mg) {f:Addr}{fd:FuncData} (F:Fun K "is_whole_from" "is_whole_from" ZnK f fd):Jk P w K mg base CX0 2 f fd ["value", "least"] (spF K 2 .P W0 ZnG.fn):=by
 have Zs2:=Zan (P:=P) (w:=w) (base:=base) T.Zsy Zsq (fun F=>Zsn T F)
 refine F.okP ZqU rfl rfl (fun cdv A outer s H E hr=>?_)
 have hu:=hr.units
 refine⟨_,_,⟨[],[],[],.P⟩,rfl,(Zj (Z8 (Qa (ZD Zs2 (hr.mono (by decide)) rfl (Zb (pv 0) Zh)) (QO (V9 ZlY (pv 0) (pv 1) (ZJ _)))))),
   (ZZ (Q2 (DE.toA (ZhB (Zg Zp) (Za (Zc (i:=0) (m:=.S) rfl (by decide)) Zf))) (Zmk (Zc (i:=0) (m:=.S) rfl (by decide)) (Zc (i:=1) (m:=.S) rfl (by decide))))), ?_⟩
 refine Pm.ref ZnG (g:=fun xs=>_) ?_
 rintro⟨i,j⟩ _
 simp only[ZnG]
 walk_at "pd"
 rw[Zpo]
 walk_at "pd"
theorem Zod {i j:Int}:ZnG.fn [.int i,.int j]=.ok (.bl (decide (j<=i))):=Pm.fn_eq ZnG (i,j) trivial fun(a:Int×Int) e=>by (simp only[ZnG,List.cons.injEq,PV.lst.injEq,PV.int.injEq,PV.str.injEq,PV.bl.injEq,PV.tup.injEq,Vz,and_true] at e ⊢;first|(simp only[e];done)|(subst e;rfl)|(rw[e]))
noncomputable def Znw:Pm:=⟨List Int,fun ns=>[.lst (ns.map PV.int)],fun ns=>ns.length<=1000000,fun ns=>.ok (.bl (decide (∀x∈ns,0<=x)))⟩
theorem ZpQ (T:Txt K mg) {f:Addr}{fd:FuncData} (F:Fun K "is_list_from_nought" "is_list_from_nought" Znx f fd):Jk P w K mg base CX0 3 f fd ["values"] (spF K 1 .P W0 Znw.fn):=by
 have ZoX:=Zan (P:=P) (w:=w) (base:=base) T.Zqm ZpM (fun F=>ZpE T F)
 refine F.okP ZoC rfl rfl (fun cdv A outer s H E hr=>?_)
 have hu:=hr.units
 refine⟨_,_,⟨[],[],[],.P⟩,rfl,(Zj (Z8 (Qa (Z1 (Uc (K:=K) (n := "list") rfl) rfl T.z_isinstance Jy (Zb (pv 0) (Zb (Zal (v:=.ty "list") rfl T.z_list J9 rfl) Zh))) (QO (Z1 (Zgk (K:=K) rfl) rfl T.z_all Zlw (Zb (Zak (Jv (K:=K) (pv 0)) (fun _ _ _ _=>(ZD ZoX (hr.mono (by decide)) rfl (Zb (pv 1) (Zb Zl Zh)))) ZoC.nd rfl) Zh)))))),
   (ZZ (Q2 (DE.toA (Zd0 (Zc (i:=0) (m:=.S) rfl (by decide)))) (Zll (Za (DE.toA (Ua (DI.c (JZ (Vs (i:=0) rfl))) (DE.PF (ZhB (Zg (Zg Zp)) (Za (Zc (i:=1) (m:=.S) rfl (by decide)) (Za (DE.toA Zk) Zf)))))) Zf)))), ?_⟩
 refine Pm.ref Znw (g:=fun xs=>_) ?_
 intro (ns:List Int) (hn:ns.length<=1000000)
 simp only[Znw]
 walk_at "pd"
 rw[Zjc (g:=fun z=>decide (0<=z)) (fun z _=>Zod)]
 walk_at "pd"
 rw[ZjB]
theorem ZnL {ns:List Int} (h:ns.length<=1000000):Znw.fn [.lst (ns.map PV.int)]=.ok (.bl (decide (∀x∈ns,0<=x))):=Pm.fn_eq Znw ns h fun(a:List Int) e=>by (simp only[Znw,List.cons.injEq,PV.lst.injEq,PV.int.injEq,PV.str.injEq,PV.bl.injEq,PV.tup.injEq,Vz,and_true] at e ⊢;first|(simp only[e];done)|(subst e;rfl)|(rw[e]))
noncomputable def Zok:Pm:=⟨Unit,fun _=>[],fun _=>True,fun _=>.ok (.int (10^60))⟩
theorem ZrE (T:Txt K mg) {f:Addr}{fd:FuncData} (F:Fun K "most_seeds" "most_seeds" Zof f fd):Jk P w K mg base CX0 1 f fd [] (spF K 0 .P W0 Zok.fn):=by
 refine F.okP Zr8 rfl rfl (fun cdv A outer s H E hr=>?_)
 have hu:=hr.units
 refine⟨_,_,⟨[],[],[],.P⟩,rfl,(Zj (Z8 (ZG Zin Zl Zl))),
   (ZZ (Ziz (DE.toA Zk) (DE.toA Zk))), ?_⟩
 refine Pm.ref Zok (g:=fun xs=>_) ?_
 rintro _ _
 simp only[Zok]
 walk_at "pd"
theorem ZoI:Zok.fn []=.ok (.int (10^60)):=Pm.fn_eq Zok () trivial fun _ _=>rfl
noncomputable def Zoc:Pm:=⟨List Int,fun ns=>[.lst (ns.map PV.int)],fun ns=>ns.length<=1000,fun ns=>.ok (.bl (Jj ns))⟩
theorem Zso (T:Txt K mg) {f:Addr}{fd:FuncData} (F:Fun K "is_board" "is_board" Zo3 f fd):Jk P w K mg base CX0 4 f fd ["board"] (spF K 1 .P W0 Zoc.fn):=by
 have Zqz:=Zan (P:=P) (w:=w) (base:=base) T.Zqn ZpU (fun F=>ZpQ T F)
 have Zsi:=Zan (P:=P) (w:=w) (base:=base) T.Zsb ZrN (fun F=>ZrE T F)
 refine F.okP Zsm rfl rfl (fun cdv A outer s H E hr=>?_)
 have hu:=hr.units
 refine⟨_,_,⟨[],[],[],.P⟩,rfl,(Ze (J5 (ZaK (ZaJ (ZD Zqz (hr.mono (by decide)) rfl (Zb (pv 0) Zh)))) (Zj (Z8 ZdL)) ZM)
   (Ze (J5 (PW.pt (ZiJ (ZC Zhb (Z1 (ZK (K:=K)) rfl T.z_len JI (Zb (pv 0) Zh)) (ZcM T.c_FEWEST_PITS rfl) (ZJ _)) (ZeH (ZC Zfj (Z1 (ZK (K:=K)) rfl T.z_len JI (Zb (pv 0) Zh)) (ZcM T.c_MOST_PITS rfl) (ZJ _))))) (Zj (Z8 ZdL)) ZM)
   (Zj (Z8 (V9 ZlX (Z1 (Q7 (K:=K) rfl) rfl T.z_sum Zgq (Zb (pv 0) Zh)) (ZeQ Zsi (hr.mono (by decide)) rfl) (ZJ _)))))),
   (Zm (Γm:=[.S]) (J8 (Zbh (ZjL (DE.toA (ZhB (Zg Zp) (Za (Zc (i:=0) (m:=.S) rfl (by decide)) Zf)))))
   (ZZ Zeh)
   ZP)
   (Zm (Γm:=[.S]) (J8 (Zjq (ZB (DE.toA (Zh9 (DE.toA (JH (Za (Zc (i:=0) (m:=.S) rfl (by decide)) Zf))) (DE.toA Zk)))) (ZB (DE.toA (ZfW (DE.toA (JH (Za (Zc (i:=0) (m:=.S) rfl (by decide)) Zf))) (DE.toA Zk)))))
   (ZZ Zeh)
   ZP)
   (ZZ (Zmj (DE.toA (ZfU (Za (Zc (i:=0) (m:=.S) rfl (by decide)) Zf))) (DE.toA (ZhB Zp Zf)))))), ?_⟩
 refine Pm.ref Zoc (g:=fun xs=>_) ?_
 intro (ns:List Int) (hn:ns.length<=1000)
 simp only[Zoc]
 walk_at "pd"
 rw[ZnL (by omega)]
 walk_at "pd"
 by_cases h3:∀x∈ns,0<=x
 ·rw[decide_eq_true h3]
  walk_at "pd"
  by_cases h1:(ns.length:Int)<2
  ·rw[decide_eq_true h1]
   walk_at "pd"
   rw[show Jj ns=false from decide_eq_false (by omega)]
  rw[decide_eq_false h1]
  walk_at "pd"
  by_cases h2:(24:Int)<ns.length
  ·rw[decide_eq_true h2]
   walk_at "pd"
   rw[show Jj ns=false from decide_eq_false (by omega)]
  rw[decide_eq_false h2]
  walk_at "pd"
  rw[ZoI]
  walk_at "pd"
  by_cases h4:ns.sum<=10^60
  ·rw[decide_eq_true h4,J3.mpr ⟨by omega,by omega,h3,h4⟩]
  ·rw[decide_eq_false h4,show Jj ns=false from decide_eq_false (fun z=>h4 z.2.2.2)]
 ·rw[decide_eq_false h3]
  walk_at "pd"
  rw[show Jj ns=false from decide_eq_false (fun z=>h3 z.2.2.1)]
theorem Zpp {ns:List Int} (h:ns.length<=1000):Zoc.fn [.lst (ns.map PV.int)]=.ok (.bl (Jj ns)):=Pm.fn_eq Zoc ns h fun(a:List Int) e=>by (simp only[Zoc,List.cons.injEq,PV.lst.injEq,PV.int.injEq,PV.str.injEq,PV.bl.injEq,PV.tup.injEq,Vz,and_true] at e ⊢;first|(simp only[e];done)|(subst e;rfl)|(rw[e]))
theorem ZbH:Zoc.calm:=fun a q h=>by (simp only[Zoc] at h;cases h)
noncomputable def ZnS:Pm:=⟨List Int,fun ns=>[.lst (ns.map PV.int)],fun ns=>ns.length<=1000,fun ns=>orX (if Jj ns=true then none else some "BadBoard") .non⟩
theorem Zpf (T:Txt K mg) {f:Addr}{fd:FuncData} (F:Fun K "check_board" "check_board" ZnW f fd):Jk P w K mg base (CX1 P w) 5 f fd ["board"] (spF K 1 .P (W1 K) ZnS.fn):=by
 have Zs3:=Zan (P:=P) (w:=w) (base:=base) T.Zsz Zsr (fun F=>Zso T F)
 obtain⟨C_BadBoard,hC_BadBoard,hQ_BadBoard⟩:=QZ T.x_exc (n := "BadBoard") (by decide)
 refine F.okX Zrw rfl rfl (fun cdv A outer s H E hr=>?_)
 have hu:=hr.units
 refine⟨_,_,⟨[.S],[],[],.P⟩,rfl,(Zj (J5 (ZaK (ZaJ (ZD Zs3 (hr.mono (by decide)) rfl (Zb (pv 0) Zh)))) (Zj (Zai ZbO hQ_BadBoard rfl (T.x_mg _ _ hC_BadBoard) rfl (Zb V5 Zh))) ZM)),
   (J8 (Zbh (ZjL (DE.toA (Zme (Zg Zp) (Pm.calm_fn ZbH) (Za (Zc (i:=0) (m:=.S) rfl (by decide)) Zf)))))
   (Zav hC_BadBoard (Zg Zp) (by decide) (Za (DE.toA V6) Zf))
   ZP), ?_⟩
 refine Pm.ref ZnS (g:=fun xs=>_) ?_
 intro (ns:List Int) (hn:ns.length<=1000)
 simp only[ZnS]
 walk_at "pu"
 rw[Zpp hn]
 walk_at "pu"
 by_cases h:Jj ns=true
 ·rw[h];walk_at "pu";rfl
 ·rw[Bool.not_eq_true] at h
  rw[h];walk_at "pu";rfl
theorem Zol {ns:List Int} (h:ns.length<=1000):ZnS.fn [.lst (ns.map PV.int)]=orX (if Jj ns=true then none else some "BadBoard") .non:=Pm.fn_eq ZnS ns h fun a e=>by
 simp only[ZnS,List.cons.injEq,PV.lst.injEq,and_true] at e ⊢
 rw[Z9 e]
noncomputable def ZnE:Pm:=⟨List Int,fun ns=>[.box none (.ob "RingBook" []) [],.lst (ns.map PV.int)],fun ns=>Jj ns=true/\ns.length<=1000,fun ns=>.ok (.tup [.non,bkP none ⟨[ns],[],[]⟩])⟩
theorem Zq3 (T:Txt K mg) {f:Addr}{fd:FuncData} (F:Fun K "__init__" "RingBook.__init__" Znv f fd):Jk P w K mg base CX0 6 f fd ["self", "board"] (spM K 1 0 ZnE.fnM):=by
 have ZoB:=Qg (P:=P) (w:=w) (base:=base) T.Zp5 Zph (fun F=>Zpf T F)
 refine F.okM (n:=1) (j:=0) Zq2 rfl rfl (by decide) (fun cdv A outer s H E hr=>?_)
 have hu:=hr.units
 refine⟨_,_,⟨[.O,.S],[],[],.N⟩,rfl,rfl,(Ze (ZF (ZY ZoB (hr.mono (by decide)) rfl Vn (Zb (pv 1) Zh)))
   (Ze (Zaj (pv 0) (VS (Zb (ZbF (ZX (ZU (K:=K)) rfl T.z_list J9 (Zb (pv 1) Zh))) Zh)))
   (Ze (Zaj (pv 0) (VS Zh))
   (Zj (Zaj (pv 0) (VS Zh)))))),
   (Zm (Γm:=[.O,.S]) (Um (DE.toA (Zni (Zg Zp) (Za (Zc (i:=1) (m:=.S) rfl (by decide)) Zf))))
   (Zm (Γm:=[.O,.S]) (VZ (i:=0) (fs:=Zs) (n := "RingBook") (fl := "boards") (Zz T.o_RingBook) (by decide) rfl (Vt (Jr (DE.PF (Zcf (Jq (Za (Zc (i:=1) (m:=.S) rfl (by decide)) Zf)))) JL)))
   (Zm (Γm:=[.O,.S]) (VZ (i:=0) (fs:=Zs) (n := "RingBook") (fl := "deeds") (Zz T.o_RingBook) (by decide) rfl (Vt JL))
   (VZ (i:=0) (fs:=Zs) (n := "RingBook") (fl := "undone") (Zz T.o_RingBook) (by decide) rfl (Vt JL))))), ?_⟩
 refine Pm.refM2 ZnE ?_
 rintro(ns:List Int) ⟨h0,h1⟩ a b' xs e
 cases e
 simp only[ZnE]
 simp only[ins,ZgI]
 walk_at "pd"
 rw[Zol h1,if_pos h0]
 walk_at "pd"
 rw[Zhu,Zdp]
 walk_at "pd"
 rw[Zmp]
 walk_at "pd"
 rw[Zmo]
 walk_at "pd"
 rw[Zmn]
 walk_at "pd"
 rfl
theorem ZqB {ns:List Int} (h0:Jj ns=true) (h1:ns.length<=1000):ZkF "RingBook" ZnE.fnM [.lst (ns.map PV.int)]=.ok (bkP none ⟨[ns],[],[]⟩):=
 Zjb (Pm.fn_eq ZnE ns ⟨h0,h1⟩ fun(b:List Int) e=>by
  simp only[ZnE,List.cons.injEq,PV.lst.injEq,and_true,true_and] at e ⊢
  rw[Z9 e])
noncomputable def ZnO:Pm:=⟨Bk,fun k=>[bkP none k],fun k=>k.ds.length<=1000,fun k=>.ok (.lst ((plO k.ds).map ZE))⟩
theorem ZpH (T:Txt K mg) {f:Addr}{fd:FuncData} (F:Fun K "plan" "RingBook.plan" Zn7 f fd):Jk P w K mg base CX0 1 f fd ["self"] (spF K 1 .F W0 ZnO.fn):=by
 refine F.okP ZpC rfl rfl (fun cdv A outer s H E hr=>?_)
 have hu:=hr.units
 refine⟨_,_,⟨[],[],[],.F⟩,rfl,(Zj (Z8 (Zak (Jv (K:=K) (ZW (pv 0))) (fun _ _ _ _=>(Uu (Zb (ZO (Zt (K:=K)) (pv 1) Zl (fun _ _=>rfl)) (Zb (ZO (Zt (K:=K)) (pv 1) Zl (fun _ _=>rfl)) Zh)))) ZpC.nd rfl))),
   (Ju (Ua (DI.c (JZ (Zcg (fs:=Zs) (n := "RingBook") (Zz T.o_RingBook) (by decide) (Vs (i:=0) rfl)))) (DE.PF (DE.grd (Q0 (Za (Z3 (te:=tC .non) (Zc (i:=1) (m:=.S) rfl (by decide)) (DE.toA Zk)) (Za (Z3 (te:=tC .non) (Zc (i:=1) (m:=.S) rfl (by decide)) (DE.toA Zk)) Zf))))))), ?_⟩
 refine Pm.ref ZnO (g:=fun xs=>_) ?_
 rintro(k:Bk) (h:k.ds.length<=1000)
 simp only[ZnO]
 walk_at "pd"
 rw[ZjN]
 walk_at "pd"
 rw[show Zb0 _ (k.ds.map dd3)=.ok (k.ds.map fun d=>ZE (Zl6 d)) from ZkG fun d _=>by simp only[dd3];walk_at "pd";rfl]
 walk_at "pd"
 rw[Zum];rfl
theorem ZoV {k:Bk} (h:k.ds.length<=1000):ZnO.fn [bkP none k]=.ok (.lst ((plO k.ds).map ZE)):=
 Pm.fn_eq ZnO k h fun(k':Bk) e=>by
  simp only[ZnO,List.cons.injEq,and_true] at e ⊢
  rw[JM e]
noncomputable def Zn4:Pm:=⟨Bk,fun k=>[bkP none k],fun k=>k.bs.length<=63/\∀b∈k.bs,b.length<=1000,fun k=>.ok (.lst ((ZhY (Za5 k.bs k.bs.length)).map VL))⟩
theorem ZpR (T:Txt K mg) {f:Addr}{fd:FuncData} (F:Fun K "came_again" "RingBook.came_again" Znu f fd):Jk P w K mg base CX0 1 f fd ["self"] (spF K 1 .F W0 Zn4.fn):=by
 refine F.okP Zn3 rfl rfl (fun cdv A outer s H E hr=>?_)
 have hu:=hr.units
 refine⟨_,_,⟨[],[],[],.F⟩,rfl,(Ze (Z4 (i:=1) Zn3.nd rfl (by first|exact Or.inl rfl|exact Or.inr rfl) ZgL)
   (Ze (Z4 (i:=2) Zn3.nd rfl (by first|exact Or.inl rfl|exact Or.inr rfl) (VS Zh))
   (Ze (Ve PassesOwn.never rfl (ZcK (K:=K) rfl T.z_enumerate (Zb (ZW (pv 0)) Zh)) (ZeP rfl (Vw (Jc (i:=3) Zn3.nd rfl (by first|exact Or.inl rfl|exact Or.inr rfl)) (Vw (Jc (i:=4) Zn3.nd rfl (by first|exact Or.inl rfl|exact Or.inr rfl)) ZbD))) (Ze (Z4 (i:=5) Zn3.nd rfl (by first|exact Or.inl rfl|exact Or.inr rfl) (ZX (Zcn (K:=K)) rfl T.z_tuple Zgm (Zb (pv 4) Zh)))
   (Ze (J5 (Zkt (Zk0 (hu1 hu) (pv 5) (pv 1))) (Zj (ZF (ZbG PySem.F.plainAttrs_list PySem.F.slot_list_append PySem.F.type_list_append J6 (pv 2) (Zb (Uu (Zb (ZiR (hu1 hu) (pv 1) (pv 5) (fun _ _=>rfl)) (Zb (pv 3) Zh))) Zh)))) ZM)
   (Zj (ZiL (hu1 hu) (pv 1) (pv 5) (pv 3) rfl)))))
   (Zj (Z8 (Z1 (Zbp (K:=K)) rfl T.z_sorted Zgr (Zb (pv 2) Zh))))))),
   (Zm (Γm:=[.S,.O,.U,.U,.U,.U]) (Jn (i:=1) ZhA (by decide))
   (Zm (Γm:=[.S,.O,.O,.U,.U,.U]) (Jn (i:=2) (Vt JL) (by decide))
   (Zm (Γm:=[.S,.O,.O,.U,.U,.U]) (Vg (Γl:=[.S,.O,.O,.U,.U,.U]) (ZfO (Zd3 (Zcg (fs:=Zs) (n := "RingBook") (Zz T.o_RingBook) (by decide) (Vs (i:=0) rfl)) ZfY)) rfl (ZfP (n:=2) (V0 (Zcd (i:=3) (by decide)) (V0 (Zcd (i:=4) (by decide)) Zcc)))
   (DS.out (Y:=⟨[.S,.O,.O,.P,.P,.P],[.S,.O,.O,.U,.U,.U],[.S,.O,.O,.U,.U,.U],.F⟩) (Y':=⟨[.S,.O,.O,.U,.U,.U],[.S,.O,.O,.U,.U,.U],[.S,.O,.O,.U,.U,.U],.F⟩) (Zm (Γm:=[.S,.O,.O,.P,.P,.P]) (Z6 (i:=5) (DE.grd (Zh6 (Za (QV (DE.toA (Zi (i:=4) rfl))) Zf))) (by decide))
   (Zm (Γm:=[.S,.O,.O,.P,.P,.P]) (J8 (ZjL (DE.toA (Zlk (DE.toA (Zi (i:=5) rfl)) (Zc (i:=1) (m:=.O) rfl (by decide)))))
   (ZfN (i:=2) rfl rfl (DE.PF (DE.grd (Q0 (Za (Zjy (Zc (i:=1) (m:=.O) rfl (by decide)) (DE.toA (Zi (i:=5) rfl))) (Za (DE.toA (Zi (i:=3) rfl)) Zf))))))
   ZP)
   (Zh3 (i:=1) rfl (DE.PF (Zi (i:=3) rfl)) (DE.toA (Zi (i:=5) rfl))))) rfl rfl rfl rfl))
   (Ju (ZfV (Za (Zc (i:=2) (m:=.O) rfl (by decide)) Zf)))))), ?_⟩
 refine Pm.ref Zn4 (g:=fun xs=>_) ?_
 rintro(k:Bk) ⟨h0,h1⟩
 simp only[Zn4]
 walk_at "pd"
 rw[Zi2]
 walk_at "pd"
 generalize hw:QD _ _ _=W
 obtain⟨ρ',rfl,ks,xs,v1,v2,v3,rfl,g1,g2,g3⟩:=Jh hw (fun i ρ=>∃ks xs v1 v2 v3,ρ=[bkP none k,.box none (.dt ks) xs,.lst ((Za5 k.bs i).map VL),v1,v2,v3]/\ks.length=xs.length/\xs.length<=i/\∀b,atK ks xs (tI b)=(QG k.bs b i).map fun(j:Nat)=>PV.int (j:Int)) ⟨[],[],_,_,_,rfl,rfl,ZsV _,fun b=>rfl⟩ (by
  rintro i x ρ hx ⟨ks,xs,v1,v2,v3,rfl,g1,g2,g3⟩
  obtain⟨hi,rfl⟩:=Zlb (d:=[]) hx
  generalize hb:k.bs.getD i []=b
  have hbl:b.length<=1000:=by
   refine h1 b (hb▸?_)
   rw[ZsQ,ZsR hi]
   exact Zui ..
  have hlen:=Zaz (bs:=k.bs) (n:=i)
  have last:(∀b',atK (Ug ks (tI b)) (putXs ks xs (tI b) (.int i)) (tI b')=(QG k.bs b' (i+1)).map fun(j:Nat)=>PV.int (j:Int)):=fun b'=>by
   rw[Zj9 g1,QG,hb]
   by_cases e:b'=b
   ·rw[if_pos (by rw[e]),if_pos e.symm];rfl
   ·rw[if_neg fun z=>e (Zkd z),if_neg (Ne.symm e)];exact g3 b'
  have hput:Zff (.box none (.dt ks) xs) (VL b) (.int i)=.ok (.box none (.dt (Ug ks (tI b))) (putXs ks xs (tI b) (.int i))):=ZiX rfl (by omega)
  have hpl:=Zks (k:=tI b) (y:=PV.int i) g1
  walk_at "pd"
  rw[Zdp]
  walk_at "pd"
  rw[Uf,show ZeU [PV.lst (b.map PV.int)]=.ok (VL b) from rfl]
  walk_at "pd"
  rw[show grd (VL b)=.ok (VL b) from ZfF]
  walk_at "pd"
  rw[Zk5,g3 b]
  cases hl:QG k.bs b i with
  |none =>
   simp only[Option.map_none,Option.isSome_none,id]
   walk_at "pd"
   rw[hput]
   walk_at "pd"
   rw[show Za5 k.bs (i+1)=Za5 k.bs i by rw[Za5,hb,hl];simp[ZiM]]
   exact JB ⟨_,_,_,_,_,rfl,Zah g1,by omega,last⟩
  |some j =>
   have hg:=g3 b
   rw[hl] at hg
   simp only[Option.map_some,Option.isSome_some,id]
   walk_at "pd"
   rw[ZiY hg]
   walk_at "pd"
   rw[ZgW (by rw[ZsS];omega)]
   walk_at "pd"
   rw[hput]
   walk_at "pd"
   rw[show Za5 k.bs (i+1)=Za5 k.bs i++[[(j:Int),(i:Int)]] by rw[Za5,hb,hl];simp[ZiM],ZtH]
   exact JB ⟨_,_,_,_,_,rfl,Zah g1,by omega,last⟩)
 walk_at "pd"
 rw[show (V3 (k.bs.map fzI)).length=k.bs.length by unfold V3;simp]
 have hlen:=Zaz (bs:=k.bs) (n:=k.bs.length)
 rw[ZdO ⟨Zj5,by omega⟩,ZcZ ZfJ (by rw[(ZaC _).length_eq];omega)]
 walk_at "pd"
theorem Zqt {k:Bk} (h:k.bs.length<=63/\∀b∈k.bs,b.length<=1000):Zn4.fn [bkP none k]=.ok (.lst ((ZhY (Za5 k.bs k.bs.length)).map VL)):=
 Pm.fn_eq Zn4 k h fun(k':Bk) e=>by
  simp only[Zn4,List.cons.injEq,and_true] at e ⊢
  rw[JM e]
noncomputable def bkR (k:Bk):Bk:=⟨k.bs++[(k.us.getD (k.us.length-1) (("",0,0),[])).2],k.ds++[(k.us.getD (k.us.length-1) (("",0,0),[])).1],k.us.dropLast⟩
noncomputable def ZnN:Pm:=⟨Bk,fun k=>[bkP none k],fun k=>k.us.length≠0/\k.us.length<1000000/\k.bs.length<1000000/\k.ds.length<1000000,fun k=>.ok (.tup [.non,bkP none (bkR k)])⟩
theorem ZpG (T:Txt K mg) {f:Addr}{fd:FuncData} (F:Fun K "redo" "RingBook.redo" Zn6 f fd):Jk P w K mg base CX0 1 f fd ["self"] (spM K 0 0 ZnN.fnM):=by
 refine F.okM (n:=0) (j:=0) ZpB rfl rfl (by decide) (fun cdv A outer s H E hr=>?_)
 have hu:=hr.units
 refine⟨_,_,⟨[.O,.P],[],[],.N⟩,rfl,rfl,(Ze (J5 (ZC (JP (K:=K) hu) (Z1 (ZK (K:=K)) rfl T.z_len JI (Zb (ZW (pv 0)) Zh)) Zl (ZJ _)) (Zj ZcH) ZM)
   (Ze (Z4 (i:=1) ZpB.nd rfl (by first|exact Or.inl rfl|exact Or.inr rfl) (ZeR PySem.F.plainAttrs_list PySem.F.slot_list_pop PySem.F.type_list_pop Zfo (ZW (pv 0))))
   (Ze (ZF (ZbG PySem.F.plainAttrs_list PySem.F.slot_list_append PySem.F.type_list_append J6 (ZW (pv 0)) (Zb (ZO (Zt (K:=K)) (pv 1) Zl (fun _ _=>rfl)) Zh)))
   (Zj (ZF (ZbG PySem.F.plainAttrs_list PySem.F.slot_list_append PySem.F.type_list_append J6 (ZW (pv 0)) (Zb (ZO (Zt (K:=K)) (pv 1) Zl (fun _ _=>rfl)) Zh))))))),
   (Zm (Γm:=[.O,.U]) (J8 (ZB (DE.toA (Ji (g:=id) (DE.toA (JH (Za (Uq (fs:=Zs) (n := "RingBook") (Zz T.o_RingBook) (by decide) (Zc (i:=0) (m:=.O) rfl (by decide))) Zf))) (DE.toA Zk))))
   Zdv
   ZP)
   (Zm (Γm:=[.O,.P]) (Zh1 (l:=1) (DMf.dm (Zca (i:=0) (fs:=Zs) (n := "RingBook") (fl := "undone") (Zz T.o_RingBook) (by decide) rfl)) (by decide))
   (Zm (Γm:=[.O,.P]) (Qw (i:=0) (fs:=Zs) (n := "RingBook") (fl := "deeds") (Zz T.o_RingBook) (by decide) rfl (Zdx (DE.grd (Z3 (te:=tC .non) (DE.toA (Zi (i:=1) rfl)) (DE.toA Zk)))))
   (Qw (i:=0) (fs:=Zs) (n := "RingBook") (fl := "boards") (Zz T.o_RingBook) (by decide) rfl (Zdx (DE.grd (Z3 (te:=tC .non) (DE.toA (Zi (i:=1) rfl)) (DE.toA Zk)))))))), ?_⟩
 refine Pm.refM2 ZnN ?_
 rintro(k:Bk) ⟨h0,h1,h2,h3⟩ a b' xs e
 cases e
 simp only[ZnN]
 rw[show ZgI a (bkP none k)=bkP (some a) k from rfl]
 simp only[ins]
 walk_at "pd"
 rw[ZlB]
 walk_at "pd"
 rw[VU,ZsS]
 walk_at "pd"
 rw[if_neg (by intro z;have:=of_decide_eq_true z;omega)]
 walk_at "pd"
 rw[Zmq h0]
 generalize hu:k.us.getD (k.us.length-1) (("",0,0),[])=u
 obtain⟨d,ns⟩:=u
 walk_at "pd"
 rw[show grd (Zev (d,ns))=.ok (.tup [dd3 d,fzI ns]) by unfold grd;rw[if_pos (VJ _)];rfl]
 walk_at "pd"
 rw[Zls,show grd (dd3 d)=.ok (dd3 d) from rfl]
 walk_at "pd"
 rw[Zlu (k:=⟨k.bs,k.ds,k.us.dropLast⟩) h3]
 walk_at "pd"
 rw[Zlt,Zdp]
 walk_at "pd"
 rw[Zlv (k:=⟨k.bs,k.ds++[d],k.us.dropLast⟩) h2]
 walk_at "pd"
 simp only[bkR,hu]
 rfl
theorem Zrn {k:Bk} (h0:k.us.length≠0) (h1:k.us.length<1000000) (h2:k.bs.length<1000000) (h3:k.ds.length<1000000):ZnN.fnM (bkP none k) []=.ok (.tup [.non,bkP none (bkR k)]):=
 Pm.fn_eq ZnN k ⟨h0,h1,h2,h3⟩ fun(k':Bk) e=>by
  simp only[ZnN,List.cons.injEq,and_true] at e ⊢
  rw[JM e]
theorem Vj {q:Option Addr}{k:Bk} (h0:k.us.length≠0) (h1:k.us.length<1000000) (h2:k.bs.length<1000000) (h3:k.ds.length<1000000):U2 ZnN.fnM (bkP q k) []=.ok (.non,bkP q (bkR k)):=by
 unfold U2
 rw[if_pos (by simp[PV.flats,PV.flat])]
 exact V1 (Zrn h0 h1 h2 h3)
noncomputable def bkU (k:Bk):Bk:=⟨k.bs.dropLast,k.ds.dropLast,k.us++[(k.ds.getD (k.ds.length-1) ("",0,0),k.bs.getD (k.bs.length-1) [])]⟩
noncomputable def ZnM:Pm:=⟨Bk,fun k=>[bkP none k],fun k=>k.bs.length≠0/\k.ds.length≠0/\k.ds.length<1000000/\k.us.length<1000000,fun k=>.ok (.tup [.non,bkP none (bkU k)])⟩
theorem ZpF (T:Txt K mg) {f:Addr}{fd:FuncData} (F:Fun K "undo" "RingBook.undo" Zn5 f fd):Jk P w K mg base CX0 1 f fd ["self"] (spM K 0 0 ZnM.fnM):=by
 refine F.okM (n:=0) (j:=0) ZqV rfl rfl (by decide) (fun cdv A outer s H E hr=>?_)
 have hu:=hr.units
 refine⟨_,_,⟨[.O],[],[],.N⟩,rfl,rfl,(Ze (J5 (ZC (JP (K:=K) hu) (Z1 (ZK (K:=K)) rfl T.z_len JI (Zb (ZW (pv 0)) Zh)) Zl (ZJ _)) (Zj ZcH) ZM)
   (Zj (ZF (ZbG PySem.F.plainAttrs_list PySem.F.slot_list_append PySem.F.type_list_append J6 (ZW (pv 0)) (Zb (Uu (Zb (ZeR PySem.F.plainAttrs_list PySem.F.slot_list_pop PySem.F.type_list_pop Zfo (ZW (pv 0))) (Zb (ZeR PySem.F.plainAttrs_list PySem.F.slot_list_pop PySem.F.type_list_pop Zfo (ZW (pv 0))) Zh))) Zh))))),
   (Zm (Γm:=[.O]) (J8 (ZB (DE.toA (Ji (g:=id) (DE.toA (JH (Za (Uq (fs:=Zs) (n := "RingBook") (Zz T.o_RingBook) (by decide) (Zc (i:=0) (m:=.O) rfl (by decide))) Zf))) (DE.toA Zk))))
   Zdv
   ZP)
   (Qw (i:=0) (fs:=Zs) (n := "RingBook") (fl := "undone") (Zz T.o_RingBook) (by decide) rfl (Zh4 (Zca (i:=0) (fs:=Zs) (n := "RingBook") (fl := "deeds") (Zz T.o_RingBook) (by decide) rfl) (Zca (i:=0) (fs:=Zs) (n := "RingBook") (fl := "boards") (Zz T.o_RingBook) (by decide) rfl)))), ?_⟩
 refine Pm.refM2 ZnM ?_
 rintro(k:Bk) ⟨h0,h1,h2,h3⟩ a b' xs e
 cases e
 simp only[ZnM]
 rw[show ZgI a (bkP none k)=bkP (some a) k from rfl]
 simp only[ins]
 walk_at "pd"
 rw[ZjN]
 walk_at "pd"
 rw[VU,ZsS]
 walk_at "pd"
 rw[if_neg (by intro z;have:=of_decide_eq_true z;omega)]
 walk_at "pd"
 rw[Zmx]
 walk_at "pd"
 rw[Zmr h1]
 walk_at "pd"
 rw[Zms (k:=⟨k.bs,k.ds.dropLast,k.us⟩) h0]
 walk_at "pd"
 rw[show PV.tup [dd3 (k.ds.getD (k.ds.length-1) ("",0,0)),fzI (k.bs.getD (k.bs.length-1) [])]=Zev (k.ds.getD (k.ds.length-1) ("",0,0),k.bs.getD (k.bs.length-1) []) from rfl,Zm1 (k:=⟨k.bs.dropLast,k.ds.dropLast,k.us⟩) h3]
 walk_at "pd"
 rfl
theorem Zrm {k:Bk} (h0:k.bs.length≠0) (h1:k.ds.length≠0) (h2:k.ds.length<1000000) (h3:k.us.length<1000000):ZnM.fnM (bkP none k) []=.ok (.tup [.non,bkP none (bkU k)]):=
 Pm.fn_eq ZnM k ⟨h0,h1,h2,h3⟩ fun(k':Bk) e=>by
  simp only[ZnM,List.cons.injEq,and_true] at e ⊢
  rw[JM e]
theorem Vi {q:Option Addr}{k:Bk} (h0:k.bs.length≠0) (h1:k.ds.length≠0) (h2:k.ds.length<1000000) (h3:k.us.length<1000000):U2 ZnM.fnM (bkP q k) []=.ok (.non,bkP q (bkU k)):=by
 unfold U2
 rw[if_pos (by simp[PV.flats,PV.flat])]
 exact V1 (Zrm h0 h1 h2 h3)
noncomputable def ZnB:Pm:=⟨Bk,fun k=>[bkP none k],fun k=>k.bs.length≠0/\(Jf k).length<=1000,fun k=>.ok (.lst ((Jf k).map PV.int))⟩
theorem Zpm (T:Txt K mg) {f:Addr}{fd:FuncData} (F:Fun K "board" "RingBook.board" Zn0 f fd):Jk P w K mg base CX0 1 f fd ["self"] (spF K 1 .F W0 ZnB.fn):=by
 refine F.okP ZqK rfl rfl (fun cdv A outer s H E hr=>?_)
 have hu:=hr.units
 refine⟨_,_,⟨[],[],[],.F⟩,rfl,(Zj (Z8 (ZX (ZU (K:=K)) rfl T.z_list J9 (Zb (ZO (Zt (K:=K)) (ZW (pv 0)) (ZbE UM Zl) (fun _ _=>rfl)) Zh)))),
   (Ju (Jq (Za (QV (Z3 (te:=tC .non) (Uq (fs:=Zs) (n := "RingBook") (Zz T.o_RingBook) (by decide) (Zc (i:=0) (m:=.S) rfl (by decide))) (DE.toA (Q1 (DE.toA Zk))))) Zf))), ?_⟩
 refine Pm.ref ZnB (g:=fun xs=>_) ?_
 rintro(k:Bk) ⟨h0,h1⟩
 simp only[ZnB]
 walk_at "pd"
 rw[Zi2]
 walk_at "pd"
 rw[ZcP (d:=[]) h0]
 walk_at "pd"
 rw[Uf,show k.bs.getD (k.bs.length-1) []=Jf k from rfl]
 walk_at "pd"
theorem ZpL {k:Bk} (h0:k.bs.length≠0) (h1:(Jf k).length<=1000):ZnB.fn [bkP none k]=.ok (.lst ((Jf k).map PV.int)):=
 Pm.fn_eq ZnB k ⟨h0,h1⟩ fun(k':Bk) e=>by
  simp only[ZnB,List.cons.injEq,and_true] at e ⊢
  rw[JM e]
noncomputable def Zox:Pm:=⟨List Int×Int,fun a=>[.lst (a.1.map PV.int),.int a.2],fun _=>True,fun a=>.ok (.bl (decide (0<=a.2/\a.2<a.1.length)))⟩
theorem ZrX (T:Txt K mg) {f:Addr}{fd:FuncData} (F:Fun K "is_pit" "is_pit" Zpc f fd):Jk P w K mg base CX0 3 f fd ["board", "pit"] (spF K 2 .P W0 Zox.fn):=by
 have ZoX:=Zan (P:=P) (w:=w) (base:=base) T.Zqm ZpM (fun F=>ZpE T F)
 refine F.okP Zs4 rfl rfl (fun cdv A outer s H E hr=>?_)
 have hu:=hr.units
 refine⟨_,_,⟨[],[],[],.P⟩,rfl,(Zj (Z8 (Qa (ZD ZoX (hr.mono (by decide)) rfl (Zb (pv 1) (Zb Zl Zh))) (QO (V9 Zhb (pv 1) (Z1 (ZK (K:=K)) rfl T.z_len JI (Zb (pv 0) Zh)) (ZJ _)))))),
   (ZZ (Q2 (DE.toA (ZhB (Zg (Zg Zp)) (Za (Zc (i:=1) (m:=.S) rfl (by decide)) (Za (DE.toA Zk) Zf)))) (Zh9 (Zc (i:=1) (m:=.S) rfl (by decide)) (DE.toA (JH (Za (Zc (i:=0) (m:=.S) rfl (by decide)) Zf)))))), ?_⟩
 refine Pm.ref Zox (g:=fun xs=>_) ?_
 rintro⟨ns,p⟩ -
 simp only[Zox]
 walk_at "pd"
 rw[Zod]
 walk_at "pd"
 by_cases h0:0<=p
 ·rw[decide_eq_true h0]
  walk_at "pd"
  by_cases h1:p<ns.length
  ·rw[decide_eq_true h1,show decide (0<=p/\p<(ns.length:Int))=true from decide_eq_true ⟨h0,h1⟩]
  ·rw[decide_eq_false h1,show decide (0<=p/\p<(ns.length:Int))=false from decide_eq_false (fun z=>h1 z.2)]
 ·rw[decide_eq_false h0,show decide (0<=p/\p<(ns.length:Int))=false from decide_eq_false (fun z=>h0 z.1)]
  walk_at "pd"
theorem Zq1 {ns:List Int}{p:Int}:Zox.fn [.lst (ns.map PV.int),.int p]=.ok (.bl (decide (0<=p/\p<ns.length))):=Pm.fn_eq Zox (ns,p) trivial fun(a:List Int×Int) e=>by (simp only[Zox,List.cons.injEq,PV.lst.injEq,PV.int.injEq,PV.str.injEq,PV.bl.injEq,PV.tup.injEq,Vz,and_true] at e ⊢;first|(simp only[e];done)|(subst e;rfl)|(rw[e]))
theorem ZeS:Zox.calm:=fun a q h=>by (simp only[Zox] at h;cases h)
theorem Zft:PyData.canLay0 (.str "sow")=true:=by rw[PyData.canLay0];decide +kernel
theorem Zhg:PyData.canLay0 (.str "back")=true:=by rw[PyData.canLay0];decide +kernel
theorem okE_str {w:Str} (h:PyData.canLay0 (.str w)=true):okE (.str w)=true:=by simp[okE,PV.noX,PV.dat,h,PyData.depth]
theorem ZiV {w:Str} (h:PyData.canLay0 (.str w)=true):ZjI id (.str w) (.tup [.str (Str.ofString "sow"),.str (Str.ofString "back")])=.ok (.bl (Zci w)):=by
 have e:∀{a b:Str},(a==b)=(b==a):=fun {a b}=>by rw[Bool.eq_iff_iff,beq_iff_eq,beq_iff_eq];exact eq_comm
 have h1:okE (.str (Str.ofString "sow"))=true:=okE_str Zft
 have h2:okE (.str (Str.ofString "back"))=true:=okE_str Zhg
 unfold ZjI
 simp only[okE_str h,h1,h2,List.all_cons,List.all_nil,Bool.and_self,if_true,ZtJ,List.any_nil,PV.dat,PyData.eqv,Bool.or_false,id]
 unfold Zci
 rw[e (a:=w),e (a:=w) (b := "back")]
noncomputable def ZnD:Pm:=⟨List Int×(Str×Int),fun a=>[.lst (a.1.map PV.int),ZE a.2],fun a=>PyData.canLay0 (.str a.2.1)=true,fun a=>.ok (.bl (QI a.1 a.2))⟩
theorem Zry (T:Txt K mg) {f:Addr}{fd:FuncData} (F:Fun K "can_be_done" "can_be_done" ZnX f fd):Jk P w K mg base CX0 4 f fd ["board", "deed"] (spF K 2 .P W0 ZnD.fn):=by
 have ZrS:=Zan (P:=P) (w:=w) (base:=base) T.Zst Zsf (fun F=>ZrX T F)
 refine F.okP Zrx rfl rfl (fun cdv A outer s H E hr=>?_)
 have hu:=hr.units
 refine⟨_,_,⟨[],[],[],.P⟩,rfl,(Ze (J5 (PW.pt (ZiJ (ZaK (ZaJ (Z1 (Uc (K:=K) (n := "tuple") rfl) rfl T.z_isinstance Jy (Zb (pv 1) (Zb (Zal (v:=.ty "tuple") rfl T.z_tuple ZhI rfl) Zh))))) (ZeH (ZC (ZaQ (K:=K) hu) (Z1 (ZK (K:=K)) rfl T.z_len JI (Zb (pv 1) Zh)) Zl (ZJ _))))) (Zj (Z8 ZdL)) ZM)
   (Zj (Z8 (Qa (V9 (Zk9 (K:=K) hu) (ZO (Zt (K:=K)) (pv 1) Zl (fun _ _=>rfl)) (Uu (Zb V5 (Zb V5 Zh))) rfl) (Qa (ZD ZrS (hr.mono (by decide)) rfl (Zb (pv 0) (Zb (ZO (Zt (K:=K)) (pv 1) Zl (fun _ _=>rfl)) Zh))) (QO (V9 Zfj (ZO (Zt (K:=K)) (pv 0) (ZO (Zt (K:=K)) (pv 1) Zl (fun _ _=>rfl)) (fun _ _=>rfl)) Zl (ZJ _)))))))),
   (Zm (Γm:=[.S,.S]) (J8 (Zjq (Zbh (ZjL (DE.toA (Zd0 (Zc (i:=1) (m:=.S) rfl (by decide)))))) (ZB (DE.toA (Ji (g:=(!·)) (DE.toA (JH (Za (Zc (i:=1) (m:=.S) rfl (by decide)) Zf))) (DE.toA Zk)))))
   (ZZ Zeh)
   ZP)
   (ZZ (Q2 (DE.toA (Zlj (g:=id) (Z3 (te:=tC .non) (Zc (i:=1) (m:=.S) rfl (by decide)) (DE.toA Zk)) (Q0 (Za (DE.toA V6) (Za (DE.toA V6) Zf))))) (Q2 (DE.toA (ZhB (Zg (Zg Zp)) (Za (Zc (i:=0) (m:=.S) rfl (by decide)) (Za (Z3 (te:=tC .non) (Zc (i:=1) (m:=.S) rfl (by decide)) (DE.toA Zk)) Zf)))) (ZfW (Z3 (te:=tC .non) (Zc (i:=0) (m:=.S) rfl (by decide)) (Z3 (te:=tC .non) (Zc (i:=1) (m:=.S) rfl (by decide)) (DE.toA Zk))) (DE.toA Zk)))))), ?_⟩
 refine Pm.ref ZnD (g:=fun xs=>_) ?_
 rintro⟨b,w,p⟩ (hw:PyData.canLay0 (.str w)=true)
 simp only[ZnD,ZE]
 walk_at "pd"
 rw[ZiV hw]
 walk_at "pd"
 unfold QI
 cases hd:Zci w with
 |false=>walk_at "pd"
 |true =>
  walk_at "pd"
  rw[Zq1]
  walk_at "pd"
  by_cases hp:0<=p/\p<(b.length:Int)
  ·rw[decide_eq_true hp]
   walk_at "pd"
   try rw[ZI hp.1 hp.2]
   try walk_at "pd"
  ·rw[decide_eq_false hp]
   walk_at "pd"
theorem Zom {b:List Int}{d:Str×Int} (h:PyData.canLay0 (.str d.1)=true):ZnD.fn [.lst (b.map PV.int),ZE d]=.ok (.bl (QI b d)):=Pm.fn_eq ZnD (b,d) h fun⟨b',w',p'⟩ e=>by
 obtain⟨w,p⟩:=d
 simp only[ZnD,ZE,List.cons.injEq,PV.lst.injEq,PV.tup.injEq,PV.str.injEq,PV.int.injEq,and_true] at e ⊢
 rw[Z9 e.1,e.2.1,e.2.2]
theorem QE:ZnD.calm:=fun a q h=>by (simp only[ZnD] at h;cases h)
noncomputable def Zn9:Pm:=⟨List Int×Int,fun a=>[.lst (a.1.map PV.int),.int a.2],fun a=>0<=a.2/\a.2<a.1.length/\a.1.length<=1000/\∀x∈a.1,0<=x/\x<=10^60,fun a=>.ok (VT (tbS a))⟩
theorem Zqh (T:Txt K mg) {f:Addr}{fd:FuncData} (F:Fun K "take_back_at" "take_back_at" ZnR f fd):Jk P w K mg base CX0 1 f fd ["board", "pit"] (spF K 2 .F W0 Zn9.fn):=by
 refine F.okP ZnJ rfl rfl (fun cdv A outer s H E hr=>?_)
 have hu:=hr.units
 refine⟨_,_,⟨[],[],[],.F⟩,rfl,(Ze (Z4 (i:=2) ZnJ.nd rfl (by first|exact Or.inl rfl|exact Or.inr rfl) (Z1 (ZK (K:=K)) rfl T.z_len JI (Zb (pv 0) Zh)))
   (Ze (Z4 (i:=3) ZnJ.nd rfl (by first|exact Or.inl rfl|exact Or.inr rfl) (Z1 (Zek (K:=K) rfl) rfl T.z_min Zi3 (Zb (pv 0) Zh)))
   (Ze (UW (i:=4) ZnJ.nd rfl (Jv (K:=K) (pv 0)) (fun _ _ _ _=>(ZG ZcS (pv 7) (pv 3))) rfl)
   (Ze (Z4 (i:=5) ZnJ.nd rfl (by first|exact Or.inl rfl|exact Or.inr rfl) (ZG Zfi (pv 3) (pv 2)))
   (Ze (Z4 (i:=6) ZnJ.nd rfl (by first|exact Or.inl rfl|exact Or.inr rfl) (pv 1))
   (Ze (ZcG PassesOwn.never (ZC Zfj (ZO (Zt (K:=K)) (pv 4) (pv 6) (fun _ _=>rfl)) Zl (ZJ _)) (Ze (ZeK (pv 4) (pv 6) (Zbb (K:=K)) Zl ZkR Vv)
   (Ze (Zkv (i:=5) ZnJ.nd rfl (by first|exact Or.inl rfl|exact Or.inr rfl) Zl Ziu)
   (Zj (Z4 (i:=6) ZnJ.nd rfl (by first|exact Or.inl rfl|exact Or.inr rfl) (ZG Js (ZG ZcS (pv 6) Zl) (pv 2)))))))
   (Ze (ZcI (pv 5) (ZcL (pv 4) (pv 6) Vv))
   (Zj (Z8 (Uu (Zb (pv 4) (Zb (pv 6) Zh)))))))))))),
   (Zm (Γm:=[.S,.S,.P,.U,.U,.U,.U]) (Z6 (i:=2) (JH (Za (Zc (i:=0) (m:=.S) rfl (by decide)) Zf)) (by decide))
   (Zm (Γm:=[.S,.S,.P,.P,.U,.U,.U]) (Z6 (i:=3) (Zlh (Za (Zc (i:=0) (m:=.S) rfl (by decide)) Zf)) (by decide))
   (Zm (Γm:=[.S,.S,.P,.P,.O,.U,.U]) (VE (i:=4) (Ua (DI.c (JZ (Vs (i:=0) rfl))) (DE.PF (Zdz (Zc (i:=7) (m:=.S) rfl (by decide)) (DE.toA (Zi (i:=3) rfl))))) (by decide))
   (Zm (Γm:=[.S,.S,.P,.P,.O,.P,.U]) (Z6 (i:=5) (Zi0 (DE.toA (Zi (i:=3) rfl)) (DE.toA (Zi (i:=2) rfl))) (by decide))
   (Zm (Γm:=[.S,.S,.P,.P,.O,.P,.P]) (Z6 (i:=6) (DE.grd (Zc (i:=1) (m:=.S) rfl (by decide))) (by decide))
   (Zm (Γm:=[.S,.S,.P,.P,.O,.P,.P]) (Zdu (Γ:=[.S,.S,.P,.P,.O,.P,.P]) (ZB (DE.toA (ZfW (Z3 (te:=tC .non) (Zc (i:=4) (m:=.O) rfl (by decide)) (DE.toA (Zi (i:=6) rfl))) (DE.toA Zk))))
   (Zm (Γm:=[.S,.S,.P,.P,.O,.P,.P]) (Zdw (i:=4) rfl rfl (DE.toA (Zi (i:=6) rfl)) (DE.toA Zk))
   (Zm (Γm:=[.S,.S,.P,.P,.O,.P,.P]) (Zjr (i:=5) rfl (DE.toA Zk))
   (Z6 (i:=6) (Jt (DE.toA (Zdz (DE.toA (Zi (i:=6) rfl)) (DE.toA Zk))) (DE.toA (Zi (i:=2) rfl))) (by decide)))))
   (Zm (Γm:=[.S,.S,.P,.P,.O,.P,.P]) (VY (i:=4) rfl (Zi (i:=5) rfl) (DE.toA (Zi (i:=6) rfl)))
   (Ju (ZfT (Jr (Uo (i:=4) rfl) (Jr (DE.PF (Zi (i:=6) rfl)) JL))))))))))), ?_⟩
 refine Pm.ref Zn9 (g:=fun xs=>_) ?_
 rintro⟨ns,q⟩ ⟨h0,h1,h2,h3⟩
 simp only at h0 h1 h2 h3
 simp only[Zn9]
 have hne:ns≠[]:=by intro e;rw[e] at h1;simp at h1;omega
 have hm:=h3 _ (Vx hne)
 obtain⟨j1,j2,j3⟩:=Zac h0 h1
 walk_at "pu"
 rw[ZeZ hne]
 walk_at "pu"
 rw[ZbP (by simp;omega)]
 walk_at "pu"
 have hc:Zb0 (fun x=>ZlS x (.int (Uh ns))) (ns.map PV.int)=.ok ((tab ns.length (tbF ns q 0)).map PV.int):=by
  have e:tab ns.length (tbF ns q 0)=ns.map fun z=>z-Uh ns:=by
   refine(UN (by simp) fun x hx=>?_).symm
   have b:=Ztn (q-(x:Int)) (show (ns.length:Int)≠0 by omega)
   unfold tbF
   rw[if_neg (by omega)]
   simp[ZsQ,ZsR hx]
  rw[e,ZbN (g:=fun x=>match x with|.int z=>PV.int (z-Uh ns)|_=>.non)]
  ·simp[Function.comp_def]
  ·intro x hx
   obtain⟨z,_,rfl⟩:=ZtP.mp hx
   rfl
 rw[hc]
 walk_at "pu"
 rw[ZeY (Zgd 60 3 (by omega) (by omega))]
 walk_at "pu"
 generalize hcd:(fun(ρ:List PV)=>((pIx (gv 4 ρ) (gv 6 ρ)).bind _).bind asB)=cond
 generalize hb:(fun(ρ:List PV)=>RS.seq _ _)=body
 have key:=Zes (c:=cond) (b:=body) (fun ρ=>∃i:Nat,i<=tbJ ns q/\ρ=[.lst (ns.map PV.int),.int q,.int ns.length,.int (Uh ns),.lst ((tab ns.length (tbF ns q i)).map PV.int),.int (Uh ns*ns.length+i),.int ((q-i)%ns.length)])
  (fun ρ=>match gv 5 ρ with|.int t=>(Uh ns*ns.length+ns.length-t).toNat|_=>0)
  (r:=.next [.lst (ns.map PV.int),.int q,.int ns.length,.int (Uh ns),.lst ((tab ns.length (tbF ns q (tbJ ns q))).map PV.int),.int (tbT ns q),.int (tbP ns q)]) (by
  rintro ρ ⟨i,hi,rfl⟩
  have m1:=ZL (n:=ns.length) h0 h1 (show (0:Int)<=i by omega) (by omega)
  have b:0<=(q-(i:Int))%ns.length/\(q-(i:Int))%ns.length<ns.length:=by rw[m1];split<;>omega
  have ix:pIx (.lst ((tab ns.length (tbF ns q i)).map PV.int)) (.int ((q-(i:Int))%ns.length))=.ok (.int (tbG ns q i)):=by
   rw[ZI b.1 (by rw[Z7];exact b.2),JT (by omega),ZhR h0 h1 (by omega)]
  by_cases hij:i=tbJ ns q
  ·left
   subst hij
   constructor
   ·subst hcd
    walk_at "pu"
    rw[ix]
    walk_at "pu"
    rw[j3]
    rfl
   ·rfl
  ·right
   have hlt:i<tbJ ns q:=by omega
   constructor
   ·subst hcd
    walk_at "pu"
    rw[ix]
    walk_at "pu"
    rw[decide_eq_true (j2 i hlt)]
   ·left
    have hst:=ZiB h0 h1 (i:=i) (by omega)
    rw[ZhR h0 h1 (by omega)] at hst
    have hset:=JO (ns:=tab ns.length (tbF ns q i)) (k:=(q-(i:Int))%ns.length) (y:=tbG ns q i-1) b.1 (by rw[Z7];exact b.2)
    rw[hst] at hset
    have e2:((q-(i:Int))%ns.length-1)%ns.length=(q-((i+1:Nat):Int))%ns.length:=by
     rw[Int.emod_sub_emod];congr 1;omega
    refine⟨[.lst (ns.map PV.int),.int q,.int ns.length,.int (Uh ns),.lst ((tab ns.length (tbF ns q (i+1))).map PV.int),.int (Uh ns*ns.length+(i+1:Nat)),.int ((q-(i+1:Nat))%ns.length)],.inl ?_,⟨i+1,by omega,rfl⟩, ?_⟩
    ·subst hb
     walk_at "pu"
     rw[ix]
     walk_at "pu"
     rw[hset]
     walk_at "pu"
     walk_at "pu"
     rw[VA (by omega)]
     walk_at "pu"
     rw[e2,show Uh ns*(ns.length:Int)+i+1=Uh ns*ns.length+(i+1:Nat) by omega]
    ·simp only[ZbW,ZbV]
     omega) _ ⟨0,by omega,by rw[ZtO,Zup,Int.sub_zero,Ztq h0 h1]⟩
 rw[key]
 have hb2:=Za9 (ns:=ns) (q:=q) (by omega)
 walk_at "pu"
 rw[JO hb2.1 (by rw[Z7];exact hb2.2)]
 walk_at "pu"
 rfl
theorem Zoq {ns:List Int}{q:Int} (h:0<=q/\q<ns.length/\ns.length<=1000/\∀x∈ns,0<=x/\x<=10^60):Zn9.fn [.lst (ns.map PV.int),.int q]=.ok (VT (tbS (ns,q))):=
 Pm.fn_eq Zn9 (ns,q) h fun⟨ns',k'⟩ e=>by
  simp only[Zn9,List.cons.injEq,PV.lst.injEq,PV.int.injEq,and_true] at e ⊢
  rw[Z9 e.1,e.2]
theorem Qb:Zn9.calm:=fun a q h=>by (simp only[Zn9] at h;cases h)
noncomputable def Zoo:Pm:=⟨List Int×Int,fun a=>[.lst (a.1.map PV.int),.int a.2],fun a=>0<=a.2/\a.2<a.1.length/\a.1.length<=1000,fun a=>.ok (VT (ZaF a))⟩
theorem Zr5 (T:Txt K mg) {f:Addr}{fd:FuncData} (F:Fun K "sow_pit" "sow_pit" ZoE f fd):Jk P w K mg base CX0 1 f fd ["board", "pit"] (spF K 2 .F W0 Zoo.fn):=by
 refine F.okP Zo1 rfl rfl (fun cdv A outer s H E hr=>?_)
 have hu:=hr.units
 refine⟨_,_,⟨[],[],[],.F⟩,rfl,(Ze (Z4 (i:=2) Zo1.nd rfl (by first|exact Or.inl rfl|exact Or.inr rfl) (Z1 (ZK (K:=K)) rfl T.z_len JI (Zb (pv 0) Zh)))
   (Ze (Z4 (i:=3) Zo1.nd rfl (by first|exact Or.inl rfl|exact Or.inr rfl) (ZG Jb (ZO (Zt (K:=K)) (pv 0) (pv 1) (fun _ _=>rfl)) (pv 2)))
   (Ze (Z4 (i:=4) Zo1.nd rfl (by first|exact Or.inl rfl|exact Or.inr rfl) (ZG Js (ZO (Zt (K:=K)) (pv 0) (pv 1) (fun _ _=>rfl)) (pv 2)))
   (Ze (UW (i:=5) Zo1.nd rfl (Jv (K:=K) (pv 0)) (fun _ _ _ _=>(ZG Qe (pv 8) (pv 3))) rfl)
   (Ze (ZcI (pv 3) (ZcL (pv 5) (pv 1) Vv))
   (Ze (Z4 (i:=6) Zo1.nd rfl (by first|exact Or.inl rfl|exact Or.inr rfl) (pv 1))
   (Ze (Ve PassesOwn.never rfl (Vm rfl T.z_range (Zb (pv 4) Zh)) (Jc (i:=7) Zo1.nd rfl (by first|exact Or.inl rfl|exact Or.inr rfl)) (Ze (Z4 (i:=6) Zo1.nd rfl (by first|exact Or.inl rfl|exact Or.inr rfl) (ZG Js (ZG Qe (pv 6) Zl) (pv 2)))
   (Zj (ZeK (pv 5) (pv 6) (Zbb (K:=K)) Zl Ziu Vv))))
   (Zj (Z8 (Uu (Zb (pv 5) (Zb (pv 6) Zh)))))))))))),
   (Zm (Γm:=[.S,.S,.P,.U,.U,.U,.U,.U]) (Z6 (i:=2) (JH (Za (Zc (i:=0) (m:=.S) rfl (by decide)) Zf)) (by decide))
   (Zm (Γm:=[.S,.S,.P,.P,.U,.U,.U,.U]) (Z6 (i:=3) (Vh (Z3 (te:=tC .non) (Zc (i:=0) (m:=.S) rfl (by decide)) (Zc (i:=1) (m:=.S) rfl (by decide))) (DE.toA (Zi (i:=2) rfl))) (by decide))
   (Zm (Γm:=[.S,.S,.P,.P,.P,.U,.U,.U]) (Z6 (i:=4) (Jt (Z3 (te:=tC .non) (Zc (i:=0) (m:=.S) rfl (by decide)) (Zc (i:=1) (m:=.S) rfl (by decide))) (DE.toA (Zi (i:=2) rfl))) (by decide))
   (Zm (Γm:=[.S,.S,.P,.P,.P,.O,.U,.U]) (VE (i:=5) (Ua (DI.c (JZ (Vs (i:=0) rfl))) (DE.PF (Q3 (Zc (i:=8) (m:=.S) rfl (by decide)) (DE.toA (Zi (i:=3) rfl))))) (by decide))
   (Zm (Γm:=[.S,.S,.P,.P,.P,.O,.U,.U]) (VY (i:=5) rfl (Zi (i:=3) rfl) (Zc (i:=1) (m:=.S) rfl (by decide)))
   (Zm (Γm:=[.S,.S,.P,.P,.P,.O,.P,.U]) (Z6 (i:=6) (DE.grd (Zc (i:=1) (m:=.S) rfl (by decide))) (by decide))
   (Zm (Γm:=[.S,.S,.P,.P,.P,.O,.P,.U]) (Vg (Γl:=[.S,.S,.P,.P,.P,.O,.P,.U]) (Qz (Za (DE.toA (Zi (i:=4) rfl)) Zf)) rfl (Zcd (i:=7) (by decide))
   (DS.out (Y:=⟨[.S,.S,.P,.P,.P,.O,.P,.P],[.S,.S,.P,.P,.P,.O,.P,.U],[.S,.S,.P,.P,.P,.O,.P,.U],.F⟩) (Y':=⟨[.S,.S,.P,.P,.P,.O,.P,.U],[.S,.S,.P,.P,.P,.O,.P,.U],[.S,.S,.P,.P,.P,.O,.P,.U],.F⟩) (Zm (Γm:=[.S,.S,.P,.P,.P,.O,.P,.P]) (Z6 (i:=6) (Jt (DE.toA (Q3 (DE.toA (Zi (i:=6) rfl)) (DE.toA Zk))) (DE.toA (Zi (i:=2) rfl))) (by decide))
   (Zdw (i:=5) rfl rfl (DE.toA (Zi (i:=6) rfl)) (DE.toA Zk))) rfl rfl rfl rfl))
   (Ju (ZfT (Jr (Uo (i:=5) rfl) (Jr (DE.PF (Zi (i:=6) rfl)) JL))))))))))), ?_⟩
 refine Pm.ref Zoo (g:=fun xs=>_) ?_
 rintro⟨ns,p⟩ ⟨h0,h1,h2⟩
 simp only at h0 h1 h2
 simp only[Zoo]
 walk_at "pu"
 rw[ZI h0 h1]
 walk_at "pu"
 rw[Zfe (Zgf 3 (by omega) (by omega))]
 walk_at "pu"
 rw[ZI h0 h1]
 walk_at "pu"
 rw[VA (show (0:Int)<ns.length by omega)]
 walk_at "pu"
 rw[ZbP (by simp;omega)]
 walk_at "pu"
 have hc:Zb0 (fun x=>ZlW x (.int (ns.getD p.toNat 0/ns.length))) (ns.map PV.int)=.ok ((ns.map fun z=>z+ns.getD p.toNat 0/ns.length).map PV.int):=by
  rw[ZbN (g:=fun x=>match x with|.int z=>PV.int (z+ns.getD p.toNat 0/ns.length)|_=>.non)]
  ·simp[Function.comp_def]
  ·intro x hx
   obtain⟨z,_,rfl⟩:=ZtP.mp hx
   rfl
 rw[hc]
 walk_at "pu"
 rw[JO h0 (by simp;omega),Zc5 h0 h1]
 walk_at "pu"
 have o0:=Ztn (ns.getD p.toNat 0) (show (ns.length:Int)≠0 by omega)
 have o1:=Ztm (ns.getD p.toNat 0) (show (0:Int)<ns.length by omega)
 rw[ZcO (by omega)]
 walk_at "pu"
 generalize hs:ns.getD p.toNat 0/ns.length=rounds
 generalize ho:ns.getD p.toNat 0%ns.length=over at o0 o1
 generalize hb:(fun(x:PV) (ρ:List PV)=>_)=body
 obtain⟨ρ',e1,e2⟩:=UI (b:=body) (xs:=Zb8 0 over.toNat) (ρ:=[.lst (ns.map PV.int),.int p,.int ns.length,.int rounds,.int over,.lst ((tab ns.length (Uy ns p 0)).map PV.int),.int p,.non])
  (fun i ρ=>∃v,ρ=[.lst (ns.map PV.int),.int p,.int ns.length,.int rounds,.int over,.lst ((tab ns.length (Uy ns p i)).map PV.int),.int ((p+i)%ns.length),v]) ⟨_,by rw[ZtO,Zup,Ztq h0 h1]⟩ (by
  rintro i x ρ hx ⟨v,rfl⟩
  obtain⟨hi,rfl⟩:=VQ hx
  subst hb
  have m1:=Vo h0 h1 (show (0:Int)<=i by omega) (by omega)
  have m2:=Vo h0 h1 (show (0:Int)<=(i:Int)+1 by omega) (by omega)
  have e:((p+(i:Int))%ns.length+1)%ns.length=(p+((i:Int)+1))%ns.length:=by
   rw[m1,m2]
   split
   ·rw[show p+(i:Int)+1=p+((i:Int)+1) by omega,m2]
   ·rw[Ztq (by omega) (by omega)];split<;>omega
  have b:0<=(p+((i:Int)+1))%ns.length/\(p+((i:Int)+1))%ns.length<ns.length:=by rw[m2];split<;>omega
  walk_at "pu"
  rw[VA (by omega)]
  walk_at "pu"
  rw[e,ZI b.1 (by rw[Z7];exact b.2)]
  walk_at "pu"
  rw[JT (by omega)]
  have hst:=Zc6 h0 h1 (i:=i) (by omega)
  have hset:=JO (ns:=tab ns.length (Uy ns p i)) (k:=(p+((i:Int)+1))%ns.length) (y:=Uy ns p i ((p+((i:Int)+1))%ns.length).toNat+1) b.1 (by rw[Z7];exact b.2)
  rw[hst] at hset
  rw[hset]
  walk_at "pu"
  exact JB ⟨_,by rw[show ((i+1:Nat):Int)=(i:Int)+1 by omega]⟩)
 obtain⟨v,rfl⟩:=e2
 rw[e1]
 walk_at "pu"
 rw[Jl,Ztt o0]
 show Rr.ok (PV.tup _)=Rr.ok (PV.tup _)
 unfold ZaF QC V8
 rw[ho]
theorem Zpn {ns:List Int}{p:Int} (h:0<=p/\p<ns.length/\ns.length<=1000):Zoo.fn [.lst (ns.map PV.int),.int p]=.ok (VT (ZaF (ns,p))):=
 Pm.fn_eq Zoo (ns,p) h fun⟨ns',k'⟩ e=>by
  simp only[Zoo,List.cons.injEq,PV.lst.injEq,PV.int.injEq,and_true] at e ⊢
  rw[Z9 e.1,e.2]
theorem ZdM:Zoo.calm:=fun a q h=>by (simp only[Zoo] at h;cases h)
noncomputable def Zop:Pm:=⟨List Int×JA,fun a=>[.lst (a.1.map PV.int),ZE a.2],fun a=>Jd a.1 a.2.2/\PyData.canLay0 (.str a.2.1)=true,fun a=>.ok (VT (JK a.1 a.2))⟩
theorem Zsw (T:Txt K mg) {f:Addr}{fd:FuncData} (F:Fun K "do_deed" "do_deed" ZoF f fd):Jk P w K mg base CX0 2 f fd ["board", "deed"] (spF K 2 .F W0 Zop.fn):=by
 have Zpj:=Zan (P:=P) (w:=w) (base:=base) T.Zq5 Zqu (fun F=>Zqh T F)
 have Zru:=Zan (P:=P) (w:=w) (base:=base) T.Zsa Zr6 (fun F=>Zr5 T F)
 refine F.okP Zsu rfl rfl (fun cdv A outer s H E hr=>?_)
 have hu:=hr.units
 refine⟨_,_,⟨[],[],[],.F⟩,rfl,(Ze (J5 (ZC (JP (K:=K) hu) (ZO (Zt (K:=K)) (pv 1) Zl (fun _ _=>rfl)) V5 (ZJ _)) (Zj (Z8 (ZD Zru (hr.mono (by decide)) rfl (Zb (pv 0) (Zb (ZO (Zt (K:=K)) (pv 1) Zl (fun _ _=>rfl)) Zh))))) ZM)
   (Zj (Z8 (ZD Zpj (hr.mono (by decide)) rfl (Zb (pv 0) (Zb (ZO (Zt (K:=K)) (pv 1) Zl (fun _ _=>rfl)) Zh)))))),
   (Zm (Γm:=[.S,.S]) (J8 (ZB (DE.toA (Ji (g:=id) (Z3 (te:=tC .non) (Zc (i:=1) (m:=.S) rfl (by decide)) (DE.toA Zk)) (DE.toA V6))))
   (Ju (Zep (Zg (Zg Zp)) (Za (Zc (i:=0) (m:=.S) rfl (by decide)) (Za (Z3 (te:=tC .non) (Zc (i:=1) (m:=.S) rfl (by decide)) (DE.toA Zk)) Zf))))
   ZP)
   (Ju (Zep (Zg (Zg Zp)) (Za (Zc (i:=0) (m:=.S) rfl (by decide)) (Za (Z3 (te:=tC .non) (Zc (i:=1) (m:=.S) rfl (by decide)) (DE.toA Zk)) Zf))))), ?_⟩
 refine Pm.ref Zop (g:=fun xs=>_) ?_
 rintro⟨b,w,p⟩ ⟨hs,hw⟩
 simp only at hs hw
 simp only[Zop,ZE]
 walk_at "pd"
 rw[ZbJ hw Zft]
 unfold JK
 by_cases h:w = "sow"
 ·rw[if_pos h,show (w==Str.ofString "sow")=true from beq_iff_eq.mpr h]
  walk_at "pd"
  rw[Zpn hs.sowOk]
  walk_at "pd"
 ·rw[if_neg h,show (w==Str.ofString "sow")=false from beq_eq_false_iff_ne.mpr h]
  walk_at "pd"
  rw[Zoq hs.tbOk]
  walk_at "pd"
theorem Zpq {b:List Int}{d:JA} (h:Jd b d.2/\PyData.canLay0 (.str d.1)=true):Zop.fn [.lst (b.map PV.int),ZE d]=.ok (VT (JK b d)):=Pm.fn_eq Zop (b,d) h fun⟨b',w',p'⟩ e=>by
 obtain⟨w,p⟩:=d
 simp only[Zop,ZE,List.cons.injEq,PV.lst.injEq,PV.tup.injEq,PV.str.injEq,PV.int.injEq,and_true] at e ⊢
 rw[Z9 e.1,e.2.1,e.2.2]
theorem ZdN:Zop.calm:=fun a q h=>by (simp only[Zop] at h;cases h)
noncomputable def wkO (b:List Int) (ds:List JA):Rr PV:=if Jj b=true then (match wkF b ds with|some k=>.exc ("BadPlan",.int (k:Nat))|none=>.ok (.lst ((Vc b ds ds.length).map PV.int))) else .exc ("BadBoard",.non)
theorem Zbj {ds es:List JA} (h:ds.map ZE=es.map ZE):ds=es:=by
 induction ds generalizing es with
 |nil=>cases es with|nil=>rfl|cons e es=>simp at h
 |cons d ds ih =>
  cases es with
  |nil=>simp at h
  |cons e es =>
   obtain⟨w,p⟩:=d
   obtain⟨w',p'⟩:=e
   simp only[Ztc,List.cons.injEq,ZE,PV.tup.injEq,PV.str.injEq,PV.int.injEq,and_true] at h
   rw[h.1.1,h.1.2,ih h.2]
noncomputable def Zon:Pm:=⟨List Int×List JA,fun a=>[.lst (a.1.map PV.int),.lst (a.2.map ZE)],fun a=>a.1.length<=1000/\a.2.length<=1000/\∀d∈a.2,PyData.canLay0 (.str d.1)=true,fun a=>wkO a.1 a.2⟩
theorem ZfL {xs:List PV}{i:Nat}{x:PV} (h:(V3 xs)[i]?=some x):∃y,xs[i]?=some y/\x=.tup [.int (i:Nat),y]:=by
 unfold V3 at h
 rw[ZtL] at h
 obtain⟨y,h1,h2⟩:=Zt4.mp h
 exact⟨y,h1,h2.symm⟩
theorem Zrg (T:Txt K mg) {f:Addr}{fd:FuncData} (F:Fun K "walked" "walked" Zpb f fd):Jk P w K mg base (CX1 P w) 6 f fd ["board", "plan"] (spF K 2 .F (W1 K) Zon.fn):=by
 have ZoB:=Qg (P:=P) (w:=w) (base:=base) T.Zp5 Zph (fun F=>Zpf T F)
 have ZrT:=Zan (P:=P) (w:=w) (base:=base) T.ZrK Zr2 (fun F=>Zry T F)
 have ZsB:=Zan (P:=P) (w:=w) (base:=base) T.Zs8 Zs0 (fun F=>Zsw T F)
 obtain⟨C_BadPlan,f_BadPlan,fd_BadPlan,o_BadPlan,hC_BadPlan,hQ_BadPlan,hK_BadPlan,hL_BadPlan,hF_BadPlan,hN_BadPlan,hB_BadPlan⟩:=ZbT (P:=P) (w:=w) (base:=base) T
 refine F.okX ZpX rfl rfl (fun cdv A outer s H E hr=>?_)
 have hu:=hr.units
 refine⟨_,_,⟨[],[],[],.F⟩,rfl,(Ze (ZF (ZY ZoB (hr.mono (by decide)) rfl Qc (Zb (pv 0) Zh)))
   (Ze (Z4 (i:=2) ZpX.nd rfl (by first|exact Or.inl rfl|exact Or.inr rfl) (ZX (ZU (K:=K)) rfl T.z_list J9 (Zb (pv 0) Zh)))
   (Ze (Ve PassesOwn.leaving rfl (ZcK (K:=K) rfl T.z_enumerate (Zb (pv 1) Zh)) (ZeP rfl (Vw (Jc (i:=3) ZpX.nd rfl (by first|exact Or.inl rfl|exact Or.inr rfl)) (Vw (Jc (i:=4) ZpX.nd rfl (by first|exact Or.inl rfl|exact Or.inr rfl)) ZbD))) (Ze (J5 (ZaK (ZaJ (ZD ZrT (hr.mono (by decide)) rfl (Zb (pv 2) (Zb (pv 4) Zh))))) (Zj (ZeJ Zhf hQ_BadPlan hK_BadPlan hL_BadPlan hF_BadPlan rfl (T.x_mg _ _ hC_BadPlan) rfl rfl hN_BadPlan (hr.mono (by decide)) hB_BadPlan (Zb V5 (Zb (pv 3) Zh)))) ZM)
   (Zj (Z4 (i:=2) ZpX.nd rfl (by first|exact Or.inl rfl|exact Or.inr rfl) (ZO (Zt (K:=K)) (ZD ZsB (hr.mono (by decide)) rfl (Zb (pv 2) (Zb (pv 4) Zh))) Zl (fun _ _=>rfl))))))
   (Zj (Z8 (pv 2)))))),
   (Zm (Γm:=[.S,.S,.U,.U,.U]) (Um (DE.toA (Zlc (Zg Zp) (Za (Zc (i:=0) (m:=.S) rfl (by decide)) Zf))))
   (Zm (Γm:=[.S,.S,.O,.U,.U]) (Jn (i:=2) (Jq (Za (Zc (i:=0) (m:=.S) rfl (by decide)) Zf)) (by decide))
   (Zm (Γm:=[.S,.S,.O,.U,.U]) (Vg (Γl:=[.S,.S,.O,.U,.U]) (ZfO (Zd3 (Vs (i:=1) rfl) ZfY)) rfl (ZfP (n:=2) (V0 (Zcd (i:=3) (by decide)) (V0 (Zcd (i:=4) (by decide)) Zcc)))
   (DS.out (Y:=⟨[.S,.S,.O,.P,.P],[.S,.S,.O,.U,.U],[.S,.S,.O,.U,.U],.F⟩) (Y':=⟨[.S,.S,.O,.U,.U],[.S,.S,.O,.U,.U],[.S,.S,.O,.U,.U],.F⟩) (Zm (Γm:=[.S,.S,.O,.P,.P]) (J8 (Zbh (ZjL (DE.toA (Zme (Zg (Zg Zp)) (Pm.calm_fn QE) (Za (Zc (i:=2) (m:=.O) rfl (by decide)) (Za (DE.toA (Zi (i:=4) rfl)) Zf))))))
   (ZfM hC_BadPlan (Za (DE.toA V6) (Za (DE.toA (Zi (i:=3) rfl)) Zf)))
   ZP)
   (Jn (i:=2) (Zli (te:=tC .non) (Zmf (Zg (Zg Zp)) (Pm.calm_fn ZdN) (Za (Zc (i:=2) (m:=.O) rfl (by decide)) (Za (DE.toA (Zi (i:=4) rfl)) Zf))) (DE.toA Zk)) (by decide))) rfl rfl rfl rfl))
   (Ju (Uo (i:=2) rfl))))), ?_⟩
 refine Pm.ref Zon (g:=fun xs=>_) ?_
 rintro⟨b,ds⟩ ⟨hb,hds,hl⟩
 simp only at hb hds hl
 simp only[Zon]
 walk_at "pd"
 rw[Zol hb]
 unfold wkO
 by_cases h1:Jj b=true
 ·rw[if_pos h1,if_pos h1]
  have B:=J3.mp h1
  walk_at "pd"
  generalize hw:QD _ _ _=W
  have hg:∀d,grd (ZE d)=.ok (ZE d):=fun d=>rfl
  have get:∀{i:Nat}{x:PV},(V3 (ds.map ZE))[i]?=some x->i<ds.length/\x=.tup [.int (i:Nat),ZE (ds.getD i ("",0))]:=fun {i x} h=>by
   obtain⟨y,h1,rfl⟩:=ZfL h
   rw[Ztb] at h1
   obtain⟨d,h2,rfl⟩:=Zt4.mp h1
   refine⟨(Zta.mp h2).1, ?_⟩
   rw[ZsQ,h2];rfl
  have lay:∀i,i<ds.length->PyData.canLay0 (.str (ds.getD i ("",0)).1)=true:=fun i hi=>hl _ (by
   rw[ZsQ,ZsR hi];exact Zui hi)
  have step:∀(i:Nat) (x:PV) (v1 v2:PV),(∀j,j<=i->Jx b ds j=true)->(V3 (ds.map ZE))[i]?=some x->True:=fun _ _ _ _ _ _=>trivial
  cases hf:wkF b ds with
  |none =>
   have hc:=Zg4 hf
   obtain⟨ρ',rfl,v1,v2,rfl⟩:=Jh hw (fun i ρ=>∃v1 v2,ρ=[.lst (b.map PV.int),.lst (ds.map ZE),.lst ((Vc b ds i).map PV.int),v1,v2]) ⟨_,_,rfl⟩ (by
    rintro i x ρ hx ⟨v1,v2,rfl⟩
    obtain⟨hi,rfl⟩:=get hx
    walk_at "pd"
    rw[hg]
    walk_at "pd"
    rw[Zom (lay i hi),show QI (Vc b ds i) (ds.getD i ("",0))=true from hc i hi]
    walk_at "pd"
    rw[Zpq ⟨JS (Jz B fun j hj=>hc j (by omega)) (hc i hi),lay i hi⟩]
    unfold VT
    walk_at "pd"
    exact JB ⟨_,_,rfl⟩)
   walk_at "pd"
   rw[show (V3 (ds.map ZE)).length=ds.length by simp[V3]]
  |some k =>
   obtain⟨f1,f2,f3⟩:=Zg3 hf
   have hW:W=.exc ("BadPlan",.int (k:Nat)):=ZfI hw k (fun i ρ=>∃v1 v2,ρ=[.lst (b.map PV.int),.lst (ds.map ZE),.lst ((Vc b ds i).map PV.int),v1,v2]) ⟨_,_,rfl⟩ (by
    rintro i x ρ hik hx ⟨v1,v2,rfl⟩
    obtain⟨hi,rfl⟩:=get hx
    walk_at "pd"
    rw[hg]
    walk_at "pd"
    rw[Zom (lay i hi),show QI (Vc b ds i) (ds.getD i ("",0))=true from f3 i hik]
    walk_at "pd"
    rw[Zpq ⟨JS (Jz B fun j hj=>f3 j (by omega)) (f3 i hik),lay i hi⟩]
    unfold VT
    walk_at "pd"
    exact JB ⟨_,_,rfl⟩) (by simp[V3];exact f1) (by
    rintro x ρ hx ⟨v1,v2,rfl⟩
    obtain⟨hi,rfl⟩:=get hx
    walk_at "pd"
    rw[hg]
    walk_at "pd"
    rw[Zom (lay k hi),show QI (Vc b ds k) (ds.getD k ("",0))=false from f2]
    walk_at "pd")
   rw[hW]
   walk_at "pd"
 ·rw[if_neg h1,if_neg h1]
  walk_at "pd"
theorem ZqG {b:List Int}{ds:List JA} (h:b.length<=1000/\ds.length<=1000/\∀d∈ds,PyData.canLay0 (.str d.1)=true):Zon.fn [.lst (b.map PV.int),.lst (ds.map ZE)]=wkO b ds:=Pm.fn_eq Zon (b,ds) h fun⟨b',ds'⟩ e=>by
 simp only[Zon,List.cons.injEq,PV.lst.injEq,and_true] at e ⊢
 rw[Z9 e.1,Zbj e.2]
theorem Zfx:PyData.canLay0 (.str "sow")=true:=by rw[PyData.canLay0];decide +kernel
theorem Zdf:PyData.canLay0 (.str "back")=true:=by rw[PyData.canLay0];decide +kernel
theorem Zbn {b:List Int}{d:JA} (h:QI b d=true):d.1=("sow":PySem.Str)\/d.1=("back":PySem.Str):=by
 unfold QI Zci at h
 simp only[Bool.and_eq_true,Bool.or_eq_true,beq_iff_eq] at h
 exact h.1
theorem ZhF {b:List Int}{d:JA} (h:QI b d=true):PyData.canLay0 (.str d.1)=true:=by
 rcases Zbn h with e|e<;>rw[e]
 ·exact Zfx
 ·exact Zdf
theorem Zg2 {b:List Int}{ds:List JA} (B:Jp b) (h:∀i,i<ds.length->Jx b ds i=true):wkO b ds=.ok (.lst ((Vc b ds ds.length).map PV.int)):=by
 unfold wkO
 rw[if_pos (J3.mpr B),Zb1 h]
theorem Zfy {b:List Int}{ds:List JA} (h:∀i,i<ds.length->Jx b ds i=true):∀d∈ds,PyData.canLay0 (.str d.1)=true:=fun d hd=>by
 obtain⟨i,hi⟩:=List.getElem?_of_mem hd
 have hl:=(Zta.mp hi).1
 have:=h i hl
 unfold Jx at this
 rw[ZsQ,hi] at this
 exact ZhF this
theorem VH {b:List Int}{ds:List JA} (B:Jp b) (hd:ds.length<=1000) (h:∀i,i<ds.length->Jx b ds i=true):Zon.fn [.lst (b.map PV.int),.lst (ds.map ZE)]=.ok (.lst ((Vc b ds ds.length).map PV.int)):=by
 rw[ZqG ⟨by have:=B.hi;omega,hd,Zfy h⟩,Zg2 B h]
theorem Zel {b:List Int}{d:JA} (B:Jp b) (h:QI b d=true):Zon.fn [.lst (b.map PV.int),.lst [ZE d]]=.ok (.lst ((JK b d).1.map PV.int)):=
 VH (ds:=[d]) B (by simp) fun i hi=>by
  have:i=0:=by simpa using hi
  subst this
  exact h
noncomputable def U3:Nat->Bk->Bk
 |0,k=>k
 |j+1,k=>bkU (U3 j k)
structure Wb (b0:List Int) (k:Bk):Prop where
 w:Bw b0 k
 dl:k.ds.length<=100
 ul:k.us.length<=100
theorem QA (k:Bk):∀j,(U3 j k).ds=k.ds.take (k.ds.length-j)
 |0=>by simp[U3]
 |j+1=>by
  show (U3 j k).ds.dropLast=_
  rw[QA k j,ZtV,List.take_take,Ztf]
  congr 1
  omega
theorem Ur (k:Bk):∀j,(U3 j k).us.length=k.us.length+j
 |0=>rfl
 |j+1=>by
  show ((U3 j k).us++_).length=_
  rw[Ztl,Ur k j];rfl
theorem Zgo {b0:List Int}{k:Bk} (h:Bw b0 k):∀{j},j<=k.ds.length->Bw b0 (U3 j k)
 |0,_=>h
 |j+1,hj=>(Zgo h (j:=j) (by omega)).undo (by rw[QA,Ztf];omega)
theorem ZmV {k:Bk} (h0:k.bs.length≠0) (h1:k.ds.length≠0):bkR (bkU k)=k:=by
 have e1:=UG (l:=k.bs) (d:=[]) h0
 have e2:=UG (l:=k.ds) (d:=("",0,0)) h1
 obtain⟨bs,ds,us⟩:=k
 simp only at e1 e2
 unfold bkR bkU
 simp only
 rw[show (us++[(ds.getD (ds.length-1) ("",0,0),bs.getD (bs.length-1) [])]).getD ((us++[(ds.getD (ds.length-1) ("",0,0),bs.getD (bs.length-1) [])]).length-1) (("",0,0),[])=(ds.getD (ds.length-1) ("",0,0),bs.getD (bs.length-1) []) by simp,e1,e2,List.dropLast_concat]
noncomputable def Zny:Pm:=⟨List Int×Bk,fun a=>[bkP none a.2,.lst (a.1.map PV.int),.lst ((plO a.2.ds).map ZE)],fun a=>Wb a.1 a.2,fun a=>.ok (.tup [.bl true,bkP none a.2])⟩
theorem ZgH (ds:List Dd) (n:Nat):plO (ds.take n)=(plO ds).take n:=Zuf
theorem Bw.walk {b0:List Int}{k:Bk} (h:Bw b0 k):Vc b0 (plO k.ds) (plO k.ds).length=Jf k:=by rw[h.last,ZsS]
theorem ZhC {b:List Int}{ds:List JA} (h:∀i,i<ds.length->Jx b ds i=true):Dat 2 (.lst (ds.map ZE)):=Zj1 fun x hx=>by
 obtain⟨d,hd,rfl⟩:=ZtP.mp hx
 exact Zjz fun y hy=>by
  simp only[ZsZ,List.not_mem_nil,or_false] at hy
  rcases hy with rfl|rfl
  ·exact Zj0 (Zfy h d hd)
  ·exact Zj2 _
theorem Bw.cans {b0:List Int}{k:Bk} (h:Bw b0 k):∀i,i<(plO k.ds).length->Jx b0 (plO k.ds) i=true:=fun i hi=>h.hist.can i (by rw[ZsS] at hi;exact hi)
theorem Zq8 (T:Txt K mg) {f:Addr}{fd:FuncData} (F:Fun K "_law_walked_back" "_law_walked_back" Zn2 f fd):Jk P w K mg base CX0 7 f fd ["book", "first", "plan"] (spM K 2 0 Zny.fnM):=by
 have ZoZ:=JD (P:=P) (w:=w) (mg:=mg) (base:=base) T.o_RingBook T.Zqp ZpO (fun F=>ZpG T F)
 have ZoY:=JD (P:=P) (w:=w) (mg:=mg) (base:=base) T.o_RingBook T.Zqo ZpN (fun F=>ZpF T F)
 have Zow:=JD (P:=P) (w:=w) (mg:=mg) (base:=base) T.o_RingBook T.Zqq ZpP (fun F=>ZpH T F)
 have Zoy:=JD (P:=P) (w:=w) (mg:=mg) (base:=base) T.o_RingBook T.ZpK Zpt (fun F=>Zpm T F)
 have ZpA:=Qg (P:=P) (w:=w) (base:=base) T.ZrJ Zrp (fun F=>Zrg T F)
 refine F.okM (n:=2) (j:=0) Zoz rfl rfl (by decide) (fun cdv A outer s H E hr=>?_)
 have hu:=hr.units
 refine⟨_,_,⟨[.O,.S,.S,.U],[],[],.N⟩,rfl,rfl,(Ze (Ve PassesOwn.never rfl (ZeN rfl T.z_range (Zb (Z1 (ZK (K:=K)) rfl T.z_len JI (Zb (pv 2) Zh)) (Zb (ZbE UM Zl) (Zb (ZbE UM Zl) Zh)))) (Jc (i:=3) Zoz.nd rfl (by first|exact Or.inl rfl|exact Or.inr rfl)) (Ze (J5 (PW.pt (ZiJ (ZC (ZaQ (K:=K) hu) (ZN Zow (hr.mono (by decide)) (pv 0)) (VR (VP (K:=K)) (pv 2) UZ (UY (pv 3))) (ZJ _)) (ZeH (ZC (ZaQ (K:=K) hu) (ZN Zoy (hr.mono (by decide)) (pv 0)) (ZY ZpA (hr.mono (by decide)) rfl Vn (Zb (ZX (ZU (K:=K)) rfl T.z_list J9 (Zb (pv 1) Zh)) (Zb (VR (VP (K:=K)) (pv 2) UZ (UY (pv 3))) Zh))) (ZJ _))))) (Zj (Z8 ZdL)) ZM)
   (Zj (J5 (ZC Zfj (pv 3) Zl (ZJ _)) (Zj (ZF (ZN ZoY (hr.mono (by decide)) (pv 0)))) ZM))))
   (Ze (Ve PassesOwn.never rfl (Vm rfl T.z_range (Zb (Z1 (ZK (K:=K)) rfl T.z_len JI (Zb (pv 2) Zh)) Zh)) (Jc (i:=3) Zoz.nd rfl (by first|exact Or.inl rfl|exact Or.inr rfl)) (Zj (ZF (ZN ZoZ (hr.mono (by decide)) (pv 0)))))
   (Zj (Z8 (Qa (V9 (JP (K:=K) hu) (ZN Zow (hr.mono (by decide)) (pv 0)) (pv 2) (ZJ _)) (QO (V9 (JP (K:=K) hu) (ZN Zoy (hr.mono (by decide)) (pv 0)) (ZY ZpA (hr.mono (by decide)) rfl Vn (Zb (ZX (ZU (K:=K)) rfl T.z_list J9 (Zb (pv 1) Zh)) (Zb (pv 2) Zh))) (ZJ _)))))))),
   (Zm (Γm:=[.O,.S,.S,.U]) (Vg (Γl:=[.O,.S,.S,.U]) (Zjt (Za (DE.toA (JH (Za (Zc (i:=2) (m:=.S) rfl (by decide)) Zf))) (Za (DE.toA (Q1 (DE.toA Zk))) (Za (DE.toA (Q1 (DE.toA Zk))) Zf)))) rfl (Zcd (i:=3) (by decide))
   (DS.out (Y:=⟨[.O,.S,.S,.P],[.O,.S,.S,.U],[.O,.S,.S,.U],.N⟩) (Y':=⟨[.O,.S,.S,.U],[.O,.S,.S,.U],[.O,.S,.S,.U],.N⟩) (Zm (Γm:=[.O,.S,.S,.P]) (J8 (Zjq (ZB (DE.toA (Ji (g:=(!·)) (DE.toA (DE.meth (i:=0) (md:=.O) (n := "RingBook") (m := "plan") rfl (by decide) (Zep (Zg Zp) (Za (Zdy (Zc (i:=0) (m:=.O) rfl (by decide))) Zf)))) (DE.toA (Zbk (Zc (i:=2) (m:=.S) rfl (by decide)) Qy (Qx (DE.toA (Zi (i:=3) rfl)))))))) (ZB (DE.toA (Ji (g:=(!·)) (DE.toA (DE.meth (i:=0) (md:=.O) (n := "RingBook") (m := "board") rfl (by decide) (Zep (Zg Zp) (Za (Zdy (Zc (i:=0) (m:=.O) rfl (by decide))) Zf)))) (DE.toA (Zjp (Zg (Zg Zp)) (Za (DE.toA (Jq (Za (Zc (i:=1) (m:=.S) rfl (by decide)) Zf))) (Za (DE.toA (Zbk (Zc (i:=2) (m:=.S) rfl (by decide)) Qy (Qx (DE.toA (Zi (i:=3) rfl))))) Zf))))))))
   (Zau (j:=0) (DE.PF Zeh) rfl)
   ZP)
   (J8 (ZB (DE.toA (ZfW (DE.toA (Zi (i:=3) rfl)) (DE.toA Zk))))
   (JF (DM.meth (n := "RingBook") (m := "undo") rfl (JG (i:=0) rfl Zp Zf)))
   ZP)) rfl rfl rfl rfl))
   (Zm (Γm:=[.O,.S,.S,.U]) (Vg (Γl:=[.O,.S,.S,.U]) (Qz (Za (DE.toA (JH (Za (Zc (i:=2) (m:=.S) rfl (by decide)) Zf))) Zf)) rfl (Zcd (i:=3) (by decide))
   (DS.out (Y:=⟨[.O,.S,.S,.P],[.O,.S,.S,.U],[.O,.S,.S,.U],.N⟩) (Y':=⟨[.O,.S,.S,.U],[.O,.S,.S,.U],[.O,.S,.S,.U],.N⟩) (JF (DM.meth (n := "RingBook") (m := "redo") rfl (JG (i:=0) rfl Zp Zf))) rfl rfl rfl rfl))
   (Zau (j:=0) (DE.PF (Q2 (DE.toA (Ji (g:=id) (DE.toA (DE.meth (i:=0) (md:=.O) (n := "RingBook") (m := "plan") rfl (by decide) (Zep (Zg Zp) (Za (Zdy (Zc (i:=0) (m:=.O) rfl (by decide))) Zf)))) (Zc (i:=2) (m:=.S) rfl (by decide)))) (Ji (g:=id) (DE.toA (DE.meth (i:=0) (md:=.O) (n := "RingBook") (m := "board") rfl (by decide) (Zep (Zg Zp) (Za (Zdy (Zc (i:=0) (m:=.O) rfl (by decide))) Zf)))) (DE.toA (Zjp (Zg (Zg Zp)) (Za (DE.toA (Jq (Za (Zc (i:=1) (m:=.S) rfl (by decide)) Zf))) (Za (Zc (i:=2) (m:=.S) rfl (by decide)) Zf))))))) rfl))), ?_⟩
 refine Pm.refM2 Zny ?_
 rintro⟨b0,k⟩ (h:Wb b0 k) a b' xs e
 cases e
 simp only[Zny]
 rw[show ZgI a (bkP none k)=bkP (some a) k from rfl]
 simp only[ins]
 have hdl:=h.dl
 have hul:=h.ul
 have hpl:(plO k.ds).length=k.ds.length:=ZsS ..
 walk_at "pd"
 rw[VU,ZsS,hpl]
 walk_at "pd"
 generalize hw:QD _ _ _=W
 have hbd:=h.w.bd
 have hbh:=hbd.hi
 have fl:∀d:JA,(ZE d).flat=true:=fun d=>rfl
 have wj:∀j,j<=k.ds.length->Bw b0 (U3 j k):=fun j hj=>Zgo h.w hj
 have dj:∀j,(plO (U3 j k).ds)=(plO k.ds).take (k.ds.length-j):=fun j=>by rw[QA,ZgH]
 have lj:∀j,j<=k.ds.length->(U3 j k).ds.length=k.ds.length-j:=fun j hj=>by rw[QA,Ztf];omega
 have pj:∀j,j<=k.ds.length->ZnO.fn [bkP none (U3 j k)]=.ok (.lst (((plO k.ds).take (k.ds.length-j)).map ZE)):=fun j hj=>by
  rw[ZoV (by rw[lj j hj];omega),dj j]
 have oj:∀j,j<=k.ds.length->ZnB.fn [bkP none (U3 j k)]=.ok (.lst ((Jf (U3 j k)).map PV.int)):=fun j hj=>ZpL (by have:=(wj j hj).kl;omega) (by rw[(wj j hj).llen];omega)
 have kj:∀j,j<=k.ds.length->Zon.fn [.lst (b0.map PV.int),.lst (((plO k.ds).take (k.ds.length-j)).map ZE)]=.ok (.lst ((Jf (U3 j k)).map PV.int)):=fun j hj=>by
  rw[<- dj j,VH hbd (by rw[ZsS,lj j hj];omega) (wj j hj).cans,(wj j hj).walk]
 have tj:∀j,j<=k.ds.length->Dat 2 (.lst (((plO k.ds).take (k.ds.length-j)).map ZE)):=fun j hj=>by
  rw[<- dj j];exact ZhC (wj j hj).cans
 obtain⟨ρ',rfl,v,rfl⟩:=Jh hw (fun j ρ=>∃v,ρ=[bkP (some a) (U3 (min j k.ds.length) k),.lst (b0.map PV.int),.lst ((plO k.ds).map ZE),v]) ⟨_,by rw[Nat.zero_min];rfl⟩ (by
  rintro j x ρ hx ⟨v,rfl⟩
  obtain⟨hj,rfl⟩:=ZgE hx
  have hj:j<=k.ds.length:=by omega
  rw[Nat.min_eq_left hj,show ((k.ds.length:Int)-j)=((k.ds.length-j:Nat):Int) by omega]
  have:=lj j hj
  have:=Ur k j
  have:=(wj j hj).kl
  walk_at "pd"
  rw[ZhJ,ZhP]
  walk_at "pd"
  rw[pj j hj,Zcj (by omega),Ztu,ZcZ fl (by rw[Ztf];omega)]
  walk_at "pd"
  rw[ZaO (tj j hj)]
  walk_at "pd"
  rw[ZhK]
  walk_at "pd"
  rw[oj j hj]
  walk_at "pd"
  rw[kj j hj]
  walk_at "pd"
  by_cases e:j<k.ds.length
  ·rw[decide_eq_true (show (0:Int)<((k.ds.length-j:Nat):Int) by omega)]
   walk_at "pd"
   rw[Zlp]
   walk_at "pd"
   rw[Vi (by omega) (by omega) (by omega) (by omega)]
   walk_at "pd"
   exact JB ⟨_,by rw[Nat.min_eq_left (show j+1<=k.ds.length by omega)];rfl⟩
  ·rw[decide_eq_false (show ¬(0:Int)<((k.ds.length-j:Nat):Int) by omega)]
   walk_at "pd"
   exact JB ⟨_,by rw[Nat.min_eq_right (show k.ds.length<=j+1 by omega),show j=k.ds.length by omega]⟩)
 rw[US,Nat.min_eq_right (by omega)]
 walk_at "pd"
 rw[VU,ZsS,hpl]
 walk_at "pd"
 generalize hw2:QD _ _ _=W2
 obtain⟨ρ',rfl,v,rfl⟩:=Jh hw2 (fun i ρ=>∃v,ρ=[bkP (some a) (U3 (k.ds.length-i) k),.lst (b0.map PV.int),.lst ((plO k.ds).map ZE),v]) ⟨_,rfl⟩ (by
  rintro i x ρ hx ⟨v,rfl⟩
  obtain⟨hi,rfl⟩:=VQ hx
  rw[Ztu] at hi
  obtain⟨m,hm⟩:∃m,k.ds.length-i=m+1:=⟨k.ds.length-i-1,by omega⟩
  rw[hm,show k.ds.length-(i+1)=m by omega]
  have:=lj (m+1) (by omega)
  have:=lj m (by omega)
  have:=Ur k (m+1)
  have:=(wj (m+1) (by omega)).kl
  have:=(wj m (by omega)).kl
  walk_at "pd"
  rw[Zlq]
  walk_at "pd"
  rw[Vj (by omega) (by omega) (by omega) (by omega),show bkR (U3 (m+1) k)=U3 m k from ZmV (by omega) (by omega)]
  walk_at "pd"
  exact JB ⟨_,rfl⟩)
 rw[Jl,Ztu,Nat.sub_self]
 have p0:=pj 0 (by omega)
 have o0:=oj 0 (by omega)
 have k0:=kj 0 (by omega)
 have t0:=tj 0 (by omega)
 rw[Nat.sub_zero,<- hpl,List.take_length] at p0 k0 t0
 walk_at "pd"
 rw[ZhJ,ZhP]
 walk_at "pd"
 rw[p0]
 walk_at "pd"
 rw[ZaO t0]
 walk_at "pd"
 rw[ZhK]
 walk_at "pd"
 rw[o0]
 walk_at "pd"
 rw[k0]
 walk_at "pd"
 rfl
theorem Zob {b0:List Int}{k:Bk} (h:Wb b0 k):Zny.fnM (bkP none k) [.lst (b0.map PV.int),.lst ((plO k.ds).map ZE)]=.ok (.tup [.bl true,bkP none k]):=
 Pm.fn_eq Zny (b0,k) h fun⟨b',k'⟩ e=>by
  simp only[Zny,List.cons.injEq,and_true] at e ⊢
  rw[JM e.1]
noncomputable def Zn1:Pm:=⟨Bk,fun k=>[bkP none k],fun k=>k.ds.length<=1000,fun k=>.ok (.int (k.ds.map fun d=>d.2.2).sum)⟩
theorem Zp1 (T:Txt K mg) {f:Addr}{fd:FuncData} (F:Fun K "sown_in_all" "RingBook.sown_in_all" Znt f fd):Jk P w K mg base CX0 1 f fd ["self"] (spF K 1 .P W0 Zn1.fn):=by
 refine F.okP Zo5 rfl rfl (fun cdv A outer s H E hr=>?_)
 have hu:=hr.units
 refine⟨_,_,⟨[],[],[],.P⟩,rfl,(Zj (Z8 (Z1 (Q7 (K:=K) rfl) rfl T.z_sum Zgq (Zb (Zak (Jv (K:=K) (ZW (pv 0))) (fun _ _ _ _=>(ZO (Zt (K:=K)) (pv 1) Zl (fun _ _=>rfl))) Zo5.nd rfl) Zh)))),
   (ZZ (ZfU (Za (DE.toA (Ua (DI.c (JZ (Zcg (fs:=Zs) (n := "RingBook") (Zz T.o_RingBook) (by decide) (Vs (i:=0) rfl)))) (DE.PF (DE.grd (Z3 (te:=tC .non) (Zc (i:=1) (m:=.S) rfl (by decide)) (DE.toA Zk)))))) Zf))), ?_⟩
 refine Pm.ref Zn1 (g:=fun xs=>_) ?_
 rintro(k:Bk) (h:k.ds.length<=1000)
 simp only[Zn1]
 walk_at "pd"
 rw[ZjN]
 walk_at "pd"
 rw[show Zb0 _ (k.ds.map dd3)=.ok ((k.ds.map fun d=>d.2.2).map PV.int) from Zmb fun d _=>by simp only[dd3];walk_at "pd"]
 walk_at "pd"
theorem ZpT {k:Bk} (h:k.ds.length<=1000):Zn1.fn [bkP none k]=.ok (.int (k.ds.map fun d=>d.2.2).sum):=
 Pm.fn_eq Zn1 k h fun(k':Bk) e=>by
  simp only[Zn1,List.cons.injEq,and_true] at e ⊢
  rw[JM e]
noncomputable def mvS (b:List Int) (ps:List JA):Nat->Int
 |0=>0
 |i+1=>mvS b ps i+mvD (Vc b ps i) (ps.getD i ("",0))
noncomputable def ZnZ:Pm:=⟨List Int×List JA,fun a=>[.lst (a.1.map PV.int),.lst (a.2.map ZE)],fun a=>Jp a.1/\a.2.length<=1000/\∀i,i<a.2.length->Jx a.1 a.2 i=true,fun a=>.ok (.int (mvS a.1 a.2 a.2.length))⟩
theorem ZrF (T:Txt K mg) {f:Addr}{fd:FuncData} (F:Fun K "_law_moved" "_law_moved" Zog f fd):Jk P w K mg base CX0 7 f fd ["first", "plan"] (spF K 2 .P W0 ZnZ.fn):=by
 have ZpA:=Qg (P:=P) (w:=w) (base:=base) T.ZrJ Zrp (fun F=>Zrg T F)
 refine F.okP ZnI rfl rfl (fun cdv A outer s H E hr=>?_)
 have hu:=hr.units
 refine⟨_,_,⟨[],[],[],.P⟩,rfl,(Ze (Z4 (i:=2) ZnI.nd rfl (by first|exact Or.inl rfl|exact Or.inr rfl) Zl)
   (Ze (Z4 (i:=3) ZnI.nd rfl (by first|exact Or.inl rfl|exact Or.inr rfl) (ZX (ZU (K:=K)) rfl T.z_list J9 (Zb (pv 0) Zh)))
   (Ze (Ve PassesOwn.never rfl (Jv (K:=K) (pv 1)) (Jc (i:=4) ZnI.nd rfl (by first|exact Or.inl rfl|exact Or.inr rfl)) (Ze (Z4 (i:=5) ZnI.nd rfl (by first|exact Or.inl rfl|exact Or.inr rfl) (ZY ZpA (hr.mono (by decide)) rfl Vn (Zb (ZX (ZU (K:=K)) rfl T.z_list J9 (Zb (pv 3) Zh)) (Zb (VS (Zb (pv 4) Zh)) Zh))))
   (Ze (J5 (ZC (JP (K:=K) hu) (ZO (Zt (K:=K)) (pv 4) Zl (fun _ _=>rfl)) V5 (ZJ _)) (Zj (Z4 (i:=2) ZnI.nd rfl (by first|exact Or.inl rfl|exact Or.inr rfl) (ZG Qe (pv 2) (ZO (Zt (K:=K)) (pv 3) (ZO (Zt (K:=K)) (pv 4) Zl (fun _ _=>rfl)) (fun _ _=>rfl))))) (Ze (UX (i:=6) ZnI.nd rfl (Vm rfl T.z_range (Zb (Z1 (ZK (K:=K)) rfl T.z_len JI (Zb (pv 3) Zh)) Zh)) (ZbI ZnI.nd) (fun _ _ _ _=>(Zkz (fun _ _ h=>h) (ZC Zfj (ZO (Zt (K:=K)) (pv 5) (pv 7) (fun _ _=>rfl)) (ZO (Zt (K:=K)) (pv 3) (pv 7) (fun _ _=>rfl)) (ZJ _)))) (fun _ _ _ _=>(ZO (Zt (K:=K)) (pv 5) (pv 7) (fun _ _=>rfl))) hv1 rfl)
   (Zj (Z4 (i:=2) ZnI.nd rfl (by first|exact Or.inl rfl|exact Or.inr rfl) (ZG ZcS (pv 2) (ZO (Zt (K:=K)) (pv 6) Zl (fun _ _=>rfl)))))))
   (Zj (Z4 (i:=3) ZnI.nd rfl (by first|exact Or.inl rfl|exact Or.inr rfl) (pv 5))))))
   (Zj (Z8 (pv 2)))))),
   (Zm (Γm:=[.S,.S,.P,.U,.U,.U,.U]) (Z6 (i:=2) Zk (by decide))
   (Zm (Γm:=[.S,.S,.P,.O,.U,.U,.U]) (Jn (i:=3) (Jq (Za (Zc (i:=0) (m:=.S) rfl (by decide)) Zf)) (by decide))
   (Zm (Γm:=[.S,.S,.P,.O,.U,.U,.U]) (Vg (Γl:=[.S,.S,.P,.O,.U,.U,.U]) (JZ (Vs (i:=1) rfl)) rfl (Zcd (i:=4) (by decide))
   (DS.out (Y:=⟨[.S,.S,.P,.O,.P,.U,.U],[.S,.S,.P,.O,.U,.U,.U],[.S,.S,.P,.O,.U,.U,.U],.P⟩) (Y':=⟨[.S,.S,.P,.O,.U,.U,.U],[.S,.S,.P,.O,.U,.U,.U],[.S,.S,.P,.O,.U,.U,.U],.P⟩) (Zm (Γm:=[.S,.S,.P,.O,.P,.O,.U]) (Jn (i:=5) (Zjp (Zg (Zg Zp)) (Za (DE.toA (Jq (Za (Zc (i:=3) (m:=.O) rfl (by decide)) Zf))) (Za (DE.toA (Vt (Jr (DE.PF (Zi (i:=4) rfl)) JL))) Zf))) (by decide))
   (Zm (Γm:=[.S,.S,.P,.O,.P,.O,.U]) (J8 (ZB (DE.toA (Ji (g:=id) (Z3 (te:=tC .non) (DE.toA (Zi (i:=4) rfl)) (DE.toA Zk)) (DE.toA V6))))
   (Z6 (i:=2) (Q3 (DE.toA (Zi (i:=2) rfl)) (Z3 (te:=tC .non) (Zc (i:=3) (m:=.O) rfl (by decide)) (Z3 (te:=tC .non) (DE.toA (Zi (i:=4) rfl)) (DE.toA Zk)))) (by decide))
   (DS.out (Y:=⟨[.S,.S,.P,.O,.P,.O,.O],[.S,.S,.P,.O,.U,.U,.U],[.S,.S,.P,.O,.U,.U,.U],.P⟩) (Y':=⟨[.S,.S,.P,.O,.P,.O,.U],[.S,.S,.P,.O,.U,.U,.U],[.S,.S,.P,.O,.U,.U,.U],.P⟩) (Zm (Γm:=[.S,.S,.P,.O,.P,.O,.O]) (VE (i:=6) (Zd1 (k:=1) (DI.c (Qz (Za (DE.toA (JH (Za (Zc (i:=3) (m:=.O) rfl (by decide)) Zf))) Zf))) ZmU (ZB (DE.toA (ZfW (Z3 (te:=tC .non) (Zc (i:=5) (m:=.O) rfl (by decide)) (Zc (i:=7) (m:=.S) rfl (by decide))) (Z3 (te:=tC .non) (Zc (i:=3) (m:=.O) rfl (by decide)) (Zc (i:=7) (m:=.S) rfl (by decide)))))) (DE.PF (DE.grd (Z3 (te:=tC .non) (Zc (i:=5) (m:=.O) rfl (by decide)) (Zc (i:=7) (m:=.S) rfl (by decide)))))) (by decide))
   (Z6 (i:=2) (Zdz (DE.toA (Zi (i:=2) rfl)) (Z3 (te:=tC .non) (Zc (i:=6) (m:=.O) rfl (by decide)) (DE.toA Zk))) (by decide))) rfl rfl rfl rfl))
   (Jn (i:=3) (Uo (i:=5) rfl) (by decide)))) rfl rfl rfl rfl))
   (ZZ (Zi (i:=2) rfl))))), ?_⟩
 refine Pm.ref ZnZ (g:=fun xs=>_) ?_
 rintro⟨b,ps⟩ ⟨(B:Jp b),(hl:ps.length<=1000),hc⟩
 simp only at hc
 simp only[ZnZ]
 have hbh:=B.hi
 walk_at "pd"
 generalize hw:QD _ _ _=W
 obtain⟨ρ',rfl,v1,v2,v3,rfl⟩:=Jh hw (fun i ρ=>∃v1 v2 v3,ρ=[.lst (b.map PV.int),.lst (ps.map ZE),.int (mvS b ps i),.lst ((Vc b ps i).map PV.int),v1,v2,v3]) ⟨_,_,_,rfl⟩ (by
  rintro i x ρ hx ⟨v1,v2,v3,rfl⟩
  have hi:i<ps.length:=by
   have:=(Zta.mp hx).1
   simpa using this
  have hx':x=ZE (ps.getD i ("",0)):=by
   rw[Ztb,ZsR hi] at hx
   cases hx
   rw[ZsQ,ZsR hi];rfl
  subst hx'
  have Bi:=Jz (i:=i) B fun j hj=>hc j (by omega)
  have hci:QI (Vc b ps i) (ps.getD i ("",0))=true:=hc i hi
  have hln:=V7 b ps i
  rw[mvS,Vc]
  generalize ps.getD i ("",0)=d at *
  generalize Vc b ps i=c at *
  have st:=JS Bi hci
  walk_at "pd"
  rw[show grd (ZE d)=.ok (ZE d) from rfl]
  walk_at "pd"
  rw[Zel Bi hci]
  walk_at "pd"
  obtain⟨w,p⟩:=d
  simp only[ZE]
  walk_at "pd"
  rcases Zbn hci with e|e
  ·have e:w=("sow":PySem.Str):=e
   subst e
   walk_at "pd"
   rw[ZI st.lo st.hi]
   walk_at "pd"
   exact JB ⟨_,_,_,rfl⟩
  ·have e:w=("back":PySem.Str):=e
   subst e
   rw[ZbJ Zdf Zfx]
   have hne:(PySem.Str.ofString "back" == PySem.Str.ofString "sow")=false:=by decide +kernel
   have nsb:¬PySem.Str.ofString "back"=PySem.Str.ofString "sow":=by decide +kernel
   have hdw:JK c (PySem.Str.ofString "back",p)=tbS (c,p):=if_neg nsb
   have hmv:mvD c (PySem.Str.ofString "back",p)=-(tbS (c,p)).1.getD (tbS (c,p)).2.toNat 0:=by unfold mvD;rw[if_neg (show ¬(PySem.Str.ofString "back",p).1=PySem.Str.ofString "sow" from nsb),hdw]
   rw[hdw,hmv]
   have hg:=Zg9 st
   have hln2:(tbS (c,p)).1.length=c.length:=Je c p
   simp only at hg
   generalize tbS (c,p)=e at *
   walk_at "pd"
   rw[hne]
   walk_at "pd"
   rw[show ZfK _ (Zb8 0 ((c.length:Nat):Int).toNat)=.ok (((List.range ((c.length:Nat):Int).toNat).filter fun(k:Nat)=>decide (c.getD k 0<e.1.getD k 0)).map fun(k:Nat)=>PV.int (e.1.getD k 0)) from Zhy fun k hk=>by
    rw[Ztu] at hk
    rw[Int.zero_add,ZI (by omega) (by omega),ZI (by omega) (by omega),Ztu]
    walk_at "pd"
    by_cases z:c.getD k 0<e.1.getD k 0
    ·rw[decide_eq_true z];rfl
    ·rw[decide_eq_false z];rfl]
   rw[Ztu]
   have hg2:(((List.range c.length).filter fun(k:Nat)=>decide (c.getD k 0<e.1.getD k 0)).map fun(k:Nat)=>PV.int (e.1.getD k 0))=[e.1.getD e.2.toNat 0].map PV.int:=by rw[<- hg,Zum];rfl
   rw[hg2]
   walk_at "pd"
   rw[show pIx (PV.lst [PV.int (e.1.getD e.2.toNat 0)]) (PV.int 0)=.ok (.int (e.1.getD e.2.toNat 0)) from ZI (ns:=[e.1.getD e.2.toNat 0]) (by decide) (by simp)]
   walk_at "pd"
   exact JB ⟨_,_,_,by rw[Int.sub_eq_add_neg]⟩)
 walk_at "pd"
 rw[ZsS]
theorem ZoJ {b:List Int}{ps:List JA} (h:Jp b/\ps.length<=1000/\∀i,i<ps.length->Jx b ps i=true):ZnZ.fn [.lst (b.map PV.int),.lst (ps.map ZE)]=.ok (.int (mvS b ps ps.length)):=
 Pm.fn_eq ZnZ (b,ps) h fun⟨b',ps'⟩ e=>by
  simp only[ZnZ,List.cons.injEq,PV.lst.injEq,and_true] at e ⊢
  rw[Z9 e.1,Zbj e.2]
noncomputable def Zoi:Pm:=⟨List Int×Int,fun a=>[.lst (a.1.map PV.int),.int a.2],fun a=>True,fun a=>orX (Zkw a.1 a.2) .non⟩
theorem ZrY (T:Txt K mg) {f:Addr}{fd:FuncData} (F:Fun K "check_pit" "check_pit" Zor f fd):Jk P w K mg base (CX1 P w) 4 f fd ["board", "pit"] (spF K 2 .P (W1 K) Zoi.fn):=by
 have ZrS:=Zan (P:=P) (w:=w) (base:=base) T.Zst Zsf (fun F=>ZrX T F)
 obtain⟨C_BadPit,hC_BadPit,hQ_BadPit⟩:=QZ T.x_exc (n := "BadPit") (by decide)
 refine F.okX ZrV rfl rfl (fun cdv A outer s H E hr=>?_)
 have hu:=hr.units
 refine⟨_,_,⟨[.S,.S],[],[],.P⟩,rfl,(Zj (J5 (ZaK (ZaJ (ZD ZrS (hr.mono (by decide)) rfl (Zb (pv 0) (Zb (pv 1) Zh))))) (Zj (Zai ZbO hQ_BadPit rfl (T.x_mg _ _ hC_BadPit) rfl (Zb V5 Zh))) ZM)),
   (J8 (Zbh (ZjL (DE.toA (Zme (Zg (Zg Zp)) (Pm.calm_fn ZeS) (Za (Zc (i:=0) (m:=.S) rfl (by decide)) (Za (Zc (i:=1) (m:=.S) rfl (by decide)) Zf))))))
   (Zav hC_BadPit (Zg Zp) (by decide) (Za (DE.toA V6) Zf))
   ZP), ?_⟩
 refine Pm.ref Zoi (g:=fun xs=>_) ?_
 rintro⟨ns,p⟩ -
 simp only[Zoi]
 walk_at "pd"
 rw[Zq1]
 walk_at "pd"
 by_cases h:0<=p/\p<ns.length
 ·rw[decide_eq_true h,show Zkw ns p=none from if_pos h];walk_at "pd" <;> rfl
 ·rw[decide_eq_false h,show Zkw ns p=(some "BadPit":Option Str) from if_neg h];walk_at "pd" <;> rfl
theorem ZoU {ns:List Int}{p:Int}:Zoi.fn [.lst (ns.map PV.int),.int p]=orX (Zkw ns p) .non:=Pm.fn_eq Zoi (ns,p) trivial fun(a:List Int×Int) e=>by (simp only[Zoi,List.cons.injEq,PV.lst.injEq,PV.int.injEq,PV.str.injEq,PV.bl.injEq,PV.tup.injEq,Vz,and_true] at e ⊢;first|(simp only[e];done)|(subst e;rfl)|(rw[e]))
noncomputable def ZnA:Pm:=⟨List Int×Int,fun a=>[.lst (a.1.map PV.int),.int a.2],fun a=>a.1.length<=1000,fun a=>orX (stX a.1 a.2) .non⟩
theorem Zpk (T:Txt K mg) {f:Addr}{fd:FuncData} (F:Fun K "check_standing" "check_standing" ZnF f fd):Jk P w K mg base (CX1 P w) 6 f fd ["board", "pit"] (spF K 2 .P (W1 K) ZnA.fn):=by
 have ZoB:=Qg (P:=P) (w:=w) (base:=base) T.Zp5 Zph (fun F=>Zpf T F)
 have Zss:=Qg (P:=P) (w:=w) (base:=base) T.Zsp Zsg (fun F=>ZrY T F)
 obtain⟨C_NoSeeds,hC_NoSeeds,hQ_NoSeeds⟩:=QZ T.x_exc (n := "NoSeeds") (by decide)
 refine F.okX ZqI rfl rfl (fun cdv A outer s H E hr=>?_)
 have hu:=hr.units
 refine⟨_,_,⟨[.S,.S],[],[],.P⟩,rfl,(Ze (ZF (ZY ZoB (hr.mono (by decide)) rfl Qc (Zb (pv 0) Zh)))
   (Ze (ZF (ZY Zss (hr.mono (by decide)) rfl Qc (Zb (pv 0) (Zb (pv 1) Zh))))
   (Zj (J5 (ZC (JP (K:=K) hu) (ZO (Zt (K:=K)) (pv 0) (pv 1) (fun _ _=>rfl)) Zl (ZJ _)) (Zj (Zai ZbO hQ_NoSeeds rfl (T.x_mg _ _ hC_NoSeeds) rfl (Zb V5 Zh))) ZM)))),
   (Zm (Γm:=[.S,.S]) (Um (DE.toA (Zlc (Zg Zp) (Za (Zc (i:=0) (m:=.S) rfl (by decide)) Zf))))
   (Zm (Γm:=[.S,.S]) (Um (DE.toA (Zlc (Zg (Zg Zp)) (Za (Zc (i:=0) (m:=.S) rfl (by decide)) (Za (Zc (i:=1) (m:=.S) rfl (by decide)) Zf)))))
   (J8 (ZB (DE.toA (Ji (g:=id) (Z3 (te:=tC .non) (Zc (i:=0) (m:=.S) rfl (by decide)) (Zc (i:=1) (m:=.S) rfl (by decide))) (DE.toA Zk))))
   (Zav hC_NoSeeds (Zg Zp) (by decide) (Za (DE.toA V6) Zf))
   ZP))), ?_⟩
 refine Pm.ref ZnA (g:=fun xs=>_) ?_
 rintro⟨ns,p⟩ (hn:ns.length<=1000)
 simp only[ZnA]
 walk_at "pu"
 rw[Zol hn,stX]
 by_cases h:Jj ns=true
 ·rw[if_pos h,if_pos h]
  simp only[orX]
  walk_at "pu"
  rw[ZoU,Zkw]
  by_cases h1:0<=p/\p<ns.length
  ·rw[if_pos h1,if_pos h1]
   simp only[orX]
   walk_at "pu"
   rw[ZI h1.1 h1.2]
   walk_at "pu"
   by_cases h2:ns.getD p.toNat 0=0
   ·rw[decide_eq_true h2,if_pos h2];walk_at "pu"
   ·rw[decide_eq_false h2,if_neg h2];walk_at "pu"
  ·rw[if_neg h1,if_neg h1]
   simp only[orX]
   walk_at "pu"
 ·rw[if_neg h,if_neg h]
  simp only[orX]
  walk_at "pu"
theorem ZnV {ns:List Int}{p:Int} (h:ns.length<=1000):ZnA.fn [.lst (ns.map PV.int),.int p]=orX (stX ns p) .non:=Pm.fn_eq ZnA (ns,p) h fun⟨ns',k'⟩ e=>by
 simp only[ZnA,List.cons.injEq,PV.lst.injEq,PV.int.injEq,and_true] at e ⊢
 rw[Z9 e.1,e.2]
noncomputable def Zpu:Pm:=⟨List Int×Int,fun a=>[.lst (a.1.map PV.int),.int a.2],fun a=>a.1.length<=1000,fun a=>orX (stX a.1 a.2) (VT (ZaF a))⟩
theorem ZsG (T:Txt K mg) {f:Addr}{fd:FuncData} (F:Fun K "sown" "sown" ZqT f fd):Jk P w K mg base (CX1 P w) 7 f fd ["board", "pit"] (spF K 2 .F (W1 K) Zpu.fn):=by
 have ZoP:=Qg (P:=P) (w:=w) (base:=base) T.ZpI Zpr (fun F=>Zpk T F)
 have Zru:=Zan (P:=P) (w:=w) (base:=base) T.Zsa Zr6 (fun F=>Zr5 T F)
 refine F.okX ZsD rfl rfl (fun cdv A outer s H E hr=>?_)
 have hu:=hr.units
 refine⟨_,_,⟨[],[],[],.F⟩,rfl,(Ze (ZF (ZY ZoP (hr.mono (by decide)) rfl Qc (Zb (pv 0) (Zb (pv 1) Zh))))
   (Zj (Z8 (ZD Zru (hr.mono (by decide)) rfl (Zb (pv 0) (Zb (pv 1) Zh)))))),
   (Zm (Γm:=[.S,.S]) (Um (DE.toA (Zlc (Zg (Zg Zp)) (Za (Zc (i:=0) (m:=.S) rfl (by decide)) (Za (Zc (i:=1) (m:=.S) rfl (by decide)) Zf)))))
   (Ju (Zmf (Zg (Zg Zp)) (Pm.calm_fn ZdM) (Za (Zc (i:=0) (m:=.S) rfl (by decide)) (Za (Zc (i:=1) (m:=.S) rfl (by decide)) Zf))))), ?_⟩
 refine Pm.ref Zpu (g:=fun xs=>_) ?_
 rintro⟨ns,p⟩ (hn:ns.length<=1000)
 simp only[Zpu]
 walk_at "pu"
 rw[ZnV hn]
 cases h:stX ns p with
 |some n=>simp only[orX];walk_at "pu"
 |none =>
  simp only[orX]
  walk_at "pu"
  rw[Zpn (U9.mp h).sowOk]
  rfl
theorem Zse {ns:List Int}{p:Int} (h:ns.length<=1000):Zpu.fn [.lst (ns.map PV.int),.int p]=orX (stX ns p) (VT (ZaF (ns,p))):=
 Pm.fn_eq Zpu (ns,p) h fun⟨ns',k'⟩ e=>by
  simp only[Zpu,List.cons.injEq,PV.lst.injEq,PV.int.injEq,and_true] at e ⊢
  rw[Z9 e.1,e.2]
theorem Zgl {ns:List Int}{p:Int} (h:Jd ns p):Zpu.fn [.lst (ns.map PV.int),.int p]=.ok (VT (ZaF (ns,p))):=by
 rw[Zse (by have:=h.bd.hi;omega),U9.mpr h];rfl
noncomputable def Jw (k:Bk):List Int:=k.bs.getD (k.bs.length-1) []
structure ZhO (k:Bk) (p:Int):Prop where
 b:k.bs.length≠0
 st:Jd (Jw k) p
 lb:k.bs.length<1000000
 ld:k.ds.length<1000000
noncomputable def ZnH:Pm:=⟨Bk×Dd×List Int,fun a=>[bkP none a.1,dd3 a.2.1,fzI a.2.2],fun a=>a.1.bs.length<1000000/\a.1.ds.length<1000000,fun a=>.ok (.tup [.non,bkP none ⟨a.1.bs++[a.2.2],a.1.ds++[a.2.1],[]⟩])⟩
theorem Zpl (T:Txt K mg) {f:Addr}{fd:FuncData} (F:Fun K "enter" "RingBook.enter" Znz f fd):Jk P w K mg base CX0 1 f fd ["self", "deed", "board"] (spM K 2 0 ZnH.fnM):=by
 refine F.okM (n:=2) (j:=0) ZqJ rfl rfl (by decide) (fun cdv A outer s H E hr=>?_)
 have hu:=hr.units
 refine⟨_,_,⟨[.O,.S,.S],[],[],.N⟩,rfl,rfl,(Ze (ZF (ZbG PySem.F.plainAttrs_list PySem.F.slot_list_append PySem.F.type_list_append J6 (ZW (pv 0)) (Zb (pv 1) Zh)))
   (Ze (ZF (ZbG PySem.F.plainAttrs_list PySem.F.slot_list_append PySem.F.type_list_append J6 (ZW (pv 0)) (Zb (pv 2) Zh)))
   (Zj (Zaj (pv 0) (VS Zh))))),
   (Zm (Γm:=[.O,.S,.S]) (Qw (i:=0) (fs:=Zs) (n := "RingBook") (fl := "deeds") (Zz T.o_RingBook) (by decide) rfl (Zdx (DE.grd (Zc (i:=1) (m:=.S) rfl (by decide)))))
   (Zm (Γm:=[.O,.S,.S]) (Qw (i:=0) (fs:=Zs) (n := "RingBook") (fl := "boards") (Zz T.o_RingBook) (by decide) rfl (Zdx (DE.grd (Zc (i:=2) (m:=.S) rfl (by decide)))))
   (VZ (i:=0) (fs:=Zs) (n := "RingBook") (fl := "undone") (Zz T.o_RingBook) (by decide) rfl (Vt JL)))), ?_⟩
 refine Pm.refM2 ZnH ?_
 rintro⟨k,d,ns⟩ ⟨h0,h1⟩ a b' xs e
 cases e
 simp only[ZnH]
 rw[show ZgI a (bkP none k)=bkP (some a) k from rfl]
 simp only[ins]
 walk_at "pd"
 rw[Zls,show grd (dd3 d)=.ok (dd3 d) from rfl]
 walk_at "pd"
 rw[Zlu h1]
 walk_at "pd"
 rw[Zlt,Zdp]
 walk_at "pd"
 rw[Zlv (k:=⟨k.bs,k.ds++[d],k.us⟩) h0]
 walk_at "pd"
 rw[Zmm]
 walk_at "pd"
 rfl
theorem ZqX {k:Bk}{d:Dd}{ns:List Int} (h0:k.bs.length<1000000) (h1:k.ds.length<1000000):ZnH.fnM (bkP none k) [dd3 d,fzI ns]=.ok (.tup [.non,bkP none ⟨k.bs++[ns],k.ds++[d],[]⟩]):=
 Pm.fn_eq ZnH (k,d,ns) ⟨h0,h1⟩ fun⟨k',d',ns'⟩ e=>by
  simp only[ZnH,List.cons.injEq,and_true] at e ⊢
  rw[JM e.1,Zch e.2.1,ZbX e.2.2]
theorem JR {q:Option Addr}{k:Bk}{d:Dd}{ns:List Int} (h0:k.bs.length<1000000) (h1:k.ds.length<1000000):U2 ZnH.fnM (bkP q k) [dd3 d,fzI ns]=.ok (.non,bkP q ⟨k.bs++[ns],k.ds++[d],[]⟩):=by
 unfold U2
 rw[if_pos (by simp[PV.flats,Ub,JX])]
 exact V1 (ZqX h0 h1)
noncomputable def bkS (k:Bk) (p:Int):Bk:=⟨k.bs++[(ZaF (Jw k,p)).1],k.ds++[(("sow":PySem.Str),p,(Jw k).getD p.toNat 0)],[]⟩
noncomputable def ZnU:Pm:=⟨Bk×Int,fun a=>[bkP none a.1,.int a.2],fun a=>ZhO a.1 a.2,fun a=>.ok (.tup [.int (ZaF (Jw a.1,a.2)).2,bkP none (bkS a.1 a.2)])⟩
theorem Zrh (T:Txt K mg) {f:Addr}{fd:FuncData} (F:Fun K "sow" "RingBook.sow" ZnC f fd):Jk P w K mg base CX0 8 f fd ["self", "pit"] (spM K 1 0 ZnU.fnM):=by
 have ZsO:=Qg (P:=P) (w:=w) (base:=base) T.ZsM ZsJ (fun F=>ZsG T F)
 have ZoQ:=JD (P:=P) (w:=w) (mg:=mg) (base:=base) T.o_RingBook T.ZpJ Zps (fun F=>Zpl T F)
 refine F.okM (n:=1) (j:=0) ZpY rfl rfl (by decide) (fun cdv A outer s H E hr=>?_)
 have hu:=hr.units
 refine⟨_,_,⟨[.O,.S,.U],[],[],.N⟩,rfl,rfl,(Ze (Z4 (i:=2) ZpY.nd rfl (by first|exact Or.inl rfl|exact Or.inr rfl) (ZbF (ZY ZsO (hr.mono (by decide)) rfl Vn (Zb (ZO (Zt (K:=K)) (ZW (pv 0)) (ZbE UM Zl) (fun _ _=>rfl)) (Zb (pv 1) Zh)))))
   (Ze (ZF (UC ZoQ (hr.mono (by decide)) (pv 0) (Zb (Uu (Zb V5 (Zb (pv 1) (Zb (ZO (Zt (K:=K)) (ZO (Zt (K:=K)) (ZW (pv 0)) (ZbE UM Zl) (fun _ _=>rfl)) (pv 1) (fun _ _=>rfl)) Zh)))) (Zb (ZO (Zt (K:=K)) (pv 2) Zl (fun _ _=>rfl)) Zh))))
   (Zj (Z8 (ZO (Zt (K:=K)) (pv 2) Zl (fun _ _=>rfl)))))),
   (Zm (Γm:=[.O,.S,.P]) (Z6 (i:=2) (Zcf (Zjp (Zg (Zg Zp)) (Za (QV (Z3 (te:=tC .non) (Uq (fs:=Zs) (n := "RingBook") (Zz T.o_RingBook) (by decide) (Zc (i:=0) (m:=.S) rfl (by decide))) (DE.toA (Q1 (DE.toA Zk))))) (Za (Zc (i:=1) (m:=.S) rfl (by decide)) Zf)))) (by decide))
   (Zm (Γm:=[.O,.S,.P]) (JF (DM.meth (n := "RingBook") (m := "enter") rfl (JG (i:=0) rfl (Zg (Zg Zp)) (Za (Q0 (Za (DE.toA V6) (Za (Zc (i:=1) (m:=.S) rfl (by decide)) (Za (Z3 (te:=tC .non) (QV (Z3 (te:=tC .non) (Uq (fs:=Zs) (n := "RingBook") (Zz T.o_RingBook) (by decide) (Zc (i:=0) (m:=.O) rfl (by decide))) (DE.toA (Q1 (DE.toA Zk))))) (Zc (i:=1) (m:=.S) rfl (by decide))) Zf)))) (Za (Z3 (te:=tC .non) (DE.toA (Zi (i:=2) rfl)) (DE.toA Zk)) Zf)))))
   (Zau (j:=0) (DE.PF (DE.grd (Z3 (te:=tC .non) (DE.toA (Zi (i:=2) rfl)) (DE.toA Zk)))) rfl))), ?_⟩
 refine Pm.refM2 ZnU ?_
 rintro⟨k,p⟩ (h:ZhO k p) a b' xs e
 cases e
 simp only[ZnU]
 rw[show ZgI a (bkP none k)=bkP (some a) k from rfl]
 simp only[ins]
 walk_at "pd"
 rw[Zi2]
 walk_at "pd"
 rw[ZcP (d:=[]) h.b]
 walk_at "pd"
 rw[Uf,show k.bs.getD (k.bs.length-1) []=Jw k from rfl,Zgl h.st]
 walk_at "pd"
 rw[Zdr,Zix]
 walk_at "pd"
 rw[Zlr,Zi2]
 walk_at "pd"
 rw[ZcP (d:=[]) h.b]
 walk_at "pd"
 rw[Uf,show k.bs.getD (k.bs.length-1) []=Jw k from rfl,ZI h.st.lo h.st.hi]
 walk_at "pd"
 rw[show PV.tup [PV.str (PySem.Str.ofString "sow"),PV.int p,PV.int ((Jw k).getD p.toNat 0)]=dd3 ("sow",p,(Jw k).getD p.toNat 0) from rfl,JR h.lb h.ld]
 walk_at "pd"
 rfl
theorem Zr1 {k:Bk}{p:Int} (h:ZhO k p):ZnU.fnM (bkP none k) [.int p]=.ok (.tup [.int (ZaF (Jw k,p)).2,bkP none (bkS k p)]):=
 Pm.fn_eq ZnU (k,p) h fun⟨k',p'⟩ e=>by
  simp only[ZnU,List.cons.injEq,PV.int.injEq,and_true] at e ⊢
  rw[JM e.1,e.2]
theorem Q6 {q:Option Addr}{k:Bk}{p:Int} (h:ZhO k p):U2 ZnU.fnM (bkP q k) [.int p]=.ok (.int (ZaF (Jw k,p)).2,bkP q (bkS k p)):=by
 unfold U2
 rw[if_pos (by simp[PV.flats,PV.flat])]
 exact V1 (Zr1 h)
noncomputable def ZnQ:Pm:=⟨List Int×Int,fun a=>[.lst (a.1.map PV.int),.int a.2],fun a=>a.1.length<=1000,fun a=>orX (stX a.1 a.2) (VT (tbS a))⟩
theorem ZrD (T:Txt K mg) {f:Addr}{fd:FuncData} (F:Fun K "taken_back" "taken_back" Zoe f fd):Jk P w K mg base (CX1 P w) 7 f fd ["board", "pit"] (spF K 2 .F (W1 K) ZnQ.fn):=by
 have ZoP:=Qg (P:=P) (w:=w) (base:=base) T.ZpI Zpr (fun F=>Zpk T F)
 have Zpj:=Zan (P:=P) (w:=w) (base:=base) T.Zq5 Zqu (fun F=>Zqh T F)
 refine F.okX Zr7 rfl rfl (fun cdv A outer s H E hr=>?_)
 have hu:=hr.units
 refine⟨_,_,⟨[],[],[],.F⟩,rfl,(Ze (ZF (ZY ZoP (hr.mono (by decide)) rfl Qc (Zb (pv 0) (Zb (pv 1) Zh))))
   (Zj (Z8 (ZD Zpj (hr.mono (by decide)) rfl (Zb (pv 0) (Zb (pv 1) Zh)))))),
   (Zm (Γm:=[.S,.S]) (Um (DE.toA (Zlc (Zg (Zg Zp)) (Za (Zc (i:=0) (m:=.S) rfl (by decide)) (Za (Zc (i:=1) (m:=.S) rfl (by decide)) Zf)))))
   (Ju (Zmf (Zg (Zg Zp)) (Pm.calm_fn Qb) (Za (Zc (i:=0) (m:=.S) rfl (by decide)) (Za (Zc (i:=1) (m:=.S) rfl (by decide)) Zf))))), ?_⟩
 refine Pm.ref ZnQ (g:=fun xs=>_) ?_
 rintro⟨ns,p⟩ (hn:ns.length<=1000)
 simp only[ZnQ]
 walk_at "pu"
 rw[ZnV hn]
 cases h:stX ns p with
 |some n=>simp only[orX];walk_at "pu"
 |none =>
  simp only[orX]
  walk_at "pu"
  rw[Zoq (U9.mp h).tbOk]
  rfl
theorem ZoH {ns:List Int}{p:Int} (h:ns.length<=1000):ZnQ.fn [.lst (ns.map PV.int),.int p]=orX (stX ns p) (VT (tbS (ns,p))):=
 Pm.fn_eq ZnQ (ns,p) h fun⟨ns',k'⟩ e=>by
  simp only[ZnQ,List.cons.injEq,PV.lst.injEq,PV.int.injEq,and_true] at e ⊢
  rw[Z9 e.1,e.2]
theorem Q8 {ns:List Int}{p:Int} (h:Jd ns p):ZnQ.fn [.lst (ns.map PV.int),.int p]=.ok (VT (tbS (ns,p))):=by
 rw[ZoH (by have:=h.bd.hi;omega),U9.mpr h];rfl
noncomputable def bkT (k:Bk) (p:Int):Bk:=⟨k.bs++[(tbS (Jw k,p)).1],k.ds++[(("back":PySem.Str),p,-(tbS (Jw k,p)).1.getD (tbS (Jw k,p)).2.toNat 0)],[]⟩
noncomputable def ZnP:Pm:=⟨Bk×Int,fun a=>[bkP none a.1,.int a.2],fun a=>ZhO a.1 a.2,fun a=>.ok (.tup [.int (tbS (Jw a.1,a.2)).2,bkP none (bkT a.1 a.2)])⟩
theorem ZqW (T:Txt K mg) {f:Addr}{fd:FuncData} (F:Fun K "back" "RingBook.back" Zn8 f fd):Jk P w K mg base CX0 8 f fd ["self", "pit"] (spM K 1 0 ZnP.fnM):=by
 have Zsh:=Qg (P:=P) (w:=w) (base:=base) T.ZrZ ZrM (fun F=>ZrD T F)
 have ZoQ:=JD (P:=P) (w:=w) (mg:=mg) (base:=base) T.o_RingBook T.ZpJ Zps (fun F=>Zpl T F)
 refine F.okM (n:=1) (j:=0) ZpD rfl rfl (by decide) (fun cdv A outer s H E hr=>?_)
 have hu:=hr.units
 refine⟨_,_,⟨[.O,.S,.U],[],[],.N⟩,rfl,rfl,(Ze (Z4 (i:=2) ZpD.nd rfl (by first|exact Or.inl rfl|exact Or.inr rfl) (ZbF (ZY Zsh (hr.mono (by decide)) rfl Vn (Zb (ZO (Zt (K:=K)) (ZW (pv 0)) (ZbE UM Zl) (fun _ _=>rfl)) (Zb (pv 1) Zh)))))
   (Ze (ZF (UC ZoQ (hr.mono (by decide)) (pv 0) (Zb (Uu (Zb V5 (Zb (pv 1) (Zb (ZbE UM (ZO (Zt (K:=K)) (ZO (Zt (K:=K)) (pv 2) Zl (fun _ _=>rfl)) (ZO (Zt (K:=K)) (pv 2) Zl (fun _ _=>rfl)) (fun _ _=>rfl))) Zh)))) (Zb (ZO (Zt (K:=K)) (pv 2) Zl (fun _ _=>rfl)) Zh))))
   (Zj (Z8 (ZO (Zt (K:=K)) (pv 2) Zl (fun _ _=>rfl)))))),
   (Zm (Γm:=[.O,.S,.P]) (Z6 (i:=2) (Zcf (Zjp (Zg (Zg Zp)) (Za (QV (Z3 (te:=tC .non) (Uq (fs:=Zs) (n := "RingBook") (Zz T.o_RingBook) (by decide) (Zc (i:=0) (m:=.S) rfl (by decide))) (DE.toA (Q1 (DE.toA Zk))))) (Za (Zc (i:=1) (m:=.S) rfl (by decide)) Zf)))) (by decide))
   (Zm (Γm:=[.O,.S,.P]) (JF (DM.meth (n := "RingBook") (m := "enter") rfl (JG (i:=0) rfl (Zg (Zg Zp)) (Za (Q0 (Za (DE.toA V6) (Za (Zc (i:=1) (m:=.S) rfl (by decide)) (Za (DE.toA (Q1 (Z3 (te:=tC .non) (QV (Z3 (te:=tC .non) (DE.toA (Zi (i:=2) rfl)) (DE.toA Zk))) (Z3 (te:=tC .non) (DE.toA (Zi (i:=2) rfl)) (DE.toA Zk))))) Zf)))) (Za (Z3 (te:=tC .non) (DE.toA (Zi (i:=2) rfl)) (DE.toA Zk)) Zf)))))
   (Zau (j:=0) (DE.PF (DE.grd (Z3 (te:=tC .non) (DE.toA (Zi (i:=2) rfl)) (DE.toA Zk)))) rfl))), ?_⟩
 refine Pm.refM2 ZnP ?_
 rintro⟨k,p⟩ (h:ZhO k p) a b' xs e
 cases e
 simp only[ZnP]
 rw[show ZgI a (bkP none k)=bkP (some a) k from rfl]
 simp only[ins]
 walk_at "pd"
 rw[Zi2]
 walk_at "pd"
 rw[ZcP (d:=[]) h.b]
 walk_at "pd"
 rw[Uf,show k.bs.getD (k.bs.length-1) []=Jw k from rfl,Q8 h.st]
 walk_at "pd"
 rw[Zdr,Zix]
 walk_at "pd"
 rw[Zlr]
 have hb:Jd (tbS (Jw k,p)).1 (tbS (Jw k,p)).2:=Qp (a:=(Jw k,p)) (.inr rfl) h.st 1
 rw[Uf,ZI hb.lo hb.hi]
 walk_at "pd"
 rw[show PV.tup [PV.str (PySem.Str.ofString "back"),PV.int p,PV.int (-(tbS (Jw k,p)).1.getD (tbS (Jw k,p)).2.toNat 0)]=dd3 ("back",p,-(tbS (Jw k,p)).1.getD (tbS (Jw k,p)).2.toNat 0) from rfl,JR h.lb h.ld]
 walk_at "pd"
 rfl
theorem Zro {k:Bk}{p:Int} (h:ZhO k p):ZnP.fnM (bkP none k) [.int p]=.ok (.tup [.int (tbS (Jw k,p)).2,bkP none (bkT k p)]):=
 Pm.fn_eq ZnP (k,p) h fun⟨k',p'⟩ e=>by
  simp only[ZnP,List.cons.injEq,PV.int.injEq,and_true] at e ⊢
  rw[JM e.1,e.2]
theorem U1 {q:Option Addr}{k:Bk}{p:Int} (h:ZhO k p):U2 ZnP.fnM (bkP q k) [.int p]=.ok (.int (tbS (Jw k,p)).2,bkP q (bkT k p)):=by
 unfold U2
 rw[if_pos (by simp[PV.flats,PV.flat])]
 exact V1 (Zro h)
theorem ZfS {b:List Int}{d:JA} (st:Jd b d.2):(JK b d).1.sum=b.sum:=by
 unfold JK
 split
 ·exact UA st.lo st.hi (Int.le_of_lt st.pos)
 ·exact ZjW st
theorem Zcy {b:List Int}{ds:List JA} (B:Jp b):∀{i:Nat},(∀j,j<i->Jx b ds j=true)->(Vc b ds i).sum=b.sum
 |0,_=>rfl
 |i+1,h=>by
  rw[Vc,ZfS (JS (Jz B fun j hj=>h j (by omega)) (h i (by omega)))]
  exact Zcy B fun j hj=>h j (by omega)
theorem Bw.sum {b0:List Int}{k:Bk} (h:Bw b0 k):(Jf k).sum=b0.sum:=by
 rw[h.last];exact Zcy h.bd fun j hj=>h.hist.can j hj
theorem Zip {b0:List Int}{bs:List (List Int)}{ds:List Dd} (h:Zd9 b0 bs ds):∀{n:Nat},n<=ds.length->((ds.take n).map fun d=>d.2.2).sum=mvS b0 (plO ds) n
 |0,_=>rfl
 |n+1,hn=>by
  have e:ds.take (n+1)=ds.take n++[ds.getD n ("",0,0)]:=by
   rw[List.take_succ,ZsQ,ZsR (by omega)];rfl
  rw[e,ZtH,List.sum_append,Zip h (n:=n) (by omega),mvS]
  simp only[Ztc,Zt7,ZtK,List.sum_nil,Zup]
  rw[h.mv n (by omega)]
  congr 3
  rw[ZsQ,ZsQ,Ztb,ZsR (by omega)];rfl
structure Li (b0:List Int) (i:Nat) (k:Bk):Prop where
 w:Bw b0 k
 dl:k.ds.length<=i
 ul:k.us.length<=3*i
theorem ZdI {b:List Int}{j:Nat}{v:Int} (hB:Jp b) (hz:b.sum=0) (hj:j<b.length) (h0:1<=v) (h1:v<=1000):Jp (b.set j v)/\0<(b.set j v).sum:=by
 have hall:∀x∈b,x=0:=fun x hx=>by have:=Zfw hB.nn hx;have:=hB.nn x hx;omega
 have hsum:(b.set j v).sum=v:=by rw[U7 hj,hz,hall _ (ZT hj)];omega
 refine⟨⟨by rw[Zt2];exact hB.lo,by rw[Zt2];exact hB.hi,fun x hx=>?_,by rw[hsum];omega⟩,by omega⟩
 rcases ZtM hx with z|z
 ·exact hB.nn x z
 ·omega
theorem ZhE {b:List Int}{p:Int} (st:Jd b p):QI b ("sow",p)=true:=by
 unfold QI
 rw[show Zci (PySem.Str.ofString "sow")=true by decide +kernel,decide_eq_true (show 0<=p/\p<(b.length:Int) from ⟨st.lo,st.hi⟩),decide_eq_true st.pos];rfl
theorem Zgg {b:List Int}{p:Int} (st:Jd b p):QI b ("back",p)=true:=by
 unfold QI
 rw[show Zci (PySem.Str.ofString "back")=true by decide +kernel,decide_eq_true (show 0<=p/\p<(b.length:Int) from ⟨st.lo,st.hi⟩),decide_eq_true st.pos];rfl
theorem ZkD:¬("back":PySem.Str)=("sow":PySem.Str):=by decide +kernel
theorem Bw.sow {b0:List Int}{k:Bk}{p:Int} (h:Bw b0 k) (st:Jd (Jf k) p):Bw b0 (bkS k p):=by
 have:=h.add ("sow",p) (ZhE st)
 rw[show JK (Jf k) ("sow",p)=ZaF (Jf k,p) from if_pos rfl,show mvD (Jf k) ("sow",p)=(Jf k).getD p.toNat 0 from if_pos rfl] at this
 exact this
theorem Bw.back {b0:List Int}{k:Bk}{p:Int} (h:Bw b0 k) (st:Jd (Jf k) p):Bw b0 (bkT k p):=by
 have:=h.add ("back",p) (Zgg st)
 rw[show mvD (Jf k) ("back",p)=-(JK (Jf k) ("back",p)).1.getD (JK (Jf k) ("back",p)).2.toNat 0 from if_neg ZkD,show JK (Jf k) ("back",p)=tbS (Jf k,p) from if_neg ZkD] at this
 exact this
noncomputable def ZqZ:Pm:=⟨List Int,fun ns=>[.lst (ns.map PV.int)],fun ns=>ns.length<=63,fun _=>.ok (.bl true)⟩
theorem ZsL (T:Txt K mg) {f:Addr}{fd:FuncData} (F:Fun K "law" "law" ZrW f fd):Jk P w K mg base CX0 9 f fd ["script"] (spF K 1 .P W0 ZqZ.fn):=by
 have ZsC:=Zan (P:=P) (w:=w) (base:=base) T.Zs9 Zs1 (fun F=>Zsx T F)
 have Zsk:=Zan (P:=P) (w:=w) (base:=base) T.Zsd ZrP (fun F=>ZrG T F)
 have ZqE:=ZkB (P:=P) (w:=w) (mg:=mg) (base:=base) T.o_RingBook T.ZqA (T.x_mg _) Zq4 (fun F=>Zq3 T F)
 have Zow:=JD (P:=P) (w:=w) (mg:=mg) (base:=base) T.o_RingBook T.Zqq ZpP (fun F=>ZpH T F)
 have Zq0:=JD (P:=P) (w:=w) (mg:=mg) (base:=base) T.o_RingBook T.Zqr ZpV (fun F=>ZpR T F)
 have ZqH:=Zan (P:=P) (w:=w) (base:=base) T.ZqF ZqC (fun F=>Zq8 T F)
 have ZpW:=JD (P:=P) (w:=w) (mg:=mg) (base:=base) T.o_RingBook T.ZpS Zp6 (fun F=>Zp1 T F)
 have Zsj:=Zan (P:=P) (w:=w) (base:=base) T.Zsc ZrO (fun F=>ZrF T F)
 have Zr4:=JD (P:=P) (w:=w) (mg:=mg) (base:=base) T.o_RingBook T.Zr0 Zrq (fun F=>Zrh T F)
 have ZpA:=Qg (P:=P) (w:=w) (base:=base) T.ZrJ Zrp (fun F=>Zrg T F)
 have Zoy:=JD (P:=P) (w:=w) (mg:=mg) (base:=base) T.o_RingBook T.ZpK Zpt (fun F=>Zpm T F)
 have Zrv:=JD (P:=P) (w:=w) (mg:=mg) (base:=base) T.o_RingBook T.Zrl ZqY (fun F=>ZqW T F)
 have ZoY:=JD (P:=P) (w:=w) (mg:=mg) (base:=base) T.o_RingBook T.Zqo ZpN (fun F=>ZpF T F)
 have ZoZ:=JD (P:=P) (w:=w) (mg:=mg) (base:=base) T.o_RingBook T.Zqp ZpO (fun F=>ZpG T F)
 refine F.okP Zpa rfl rfl (fun cdv A outer s H E hr=>?_)
 have hu:=hr.units
 refine⟨_,_,⟨[],[],[],.P⟩,rfl,(Ze (Z4 (i:=1) Zpa.nd rfl (by first|exact Or.inl rfl|exact Or.inr rfl) (ZD ZsC (hr.mono (by decide)) rfl (Zb (pv 0) (Zb Zl Zh))))
   (Ze (Z4 (i:=2) Zpa.nd rfl (by first|exact Or.inl rfl|exact Or.inr rfl) (ZG Qe Zl (ZG Js (pv 1) Zl)))
   (Ze (Z4 (i:=3) Zpa.nd rfl (by first|exact Or.inl rfl|exact Or.inr rfl) (ZD Zsk (hr.mono (by decide)) rfl (Zb (pv 0) (Zb (pv 2) (Zb (ZG Js (ZG Jb (pv 1) Zl) Zl) Zh)))))
   (Ze (J5 (ZC (JP (K:=K) hu) (Z1 (Q7 (K:=K) rfl) rfl T.z_sum Zgq (Zb (pv 3) Zh)) Zl (ZJ _)) (Zj (ZcI (ZG Qe Zl (ZG Js (ZG Jb (pv 1) Zl) Zl)) (ZcL (pv 3) (ZG Js (ZG Jb (pv 1) Zl) (pv 2)) Vv))) ZM)
   (Ze (Z4 (i:=4) Zpa.nd rfl (by first|exact Or.inl rfl|exact Or.inr rfl) (ZgK ZqE (hr.mono (by decide)) rfl (Zb (ZX (ZU (K:=K)) rfl T.z_list J9 (Zb (pv 3) Zh)) Zh)))
   (Ze (Ve PassesOwn.never rfl (Jv (K:=K) (VR (VP (K:=K)) (pv 0) UZ (UY Zl))) (Jc (i:=5) Zpa.nd rfl (by first|exact Or.inl rfl|exact Or.inr rfl)) (Ze (Z4 (i:=6) Zpa.nd rfl (by first|exact Or.inl rfl|exact Or.inr rfl) (ZG Js (ZG Jb (pv 5) Zl) (pv 2)))
   (Ze (ZcG PassesOwn.never (ZC (JP (K:=K) hu) (ZO (Zt (K:=K)) (ZN Zoy (hr.mono (by decide)) (pv 4)) (pv 6) (fun _ _=>rfl)) Zl (ZJ _)) (Zj (Z4 (i:=6) Zpa.nd rfl (by first|exact Or.inl rfl|exact Or.inr rfl) (ZG Js (ZG Qe (pv 6) Zl) (pv 2)))))
   (Zj (J5 (ZC Zhb (ZG Js (pv 5) Zl) Zl (ZJ _)) (Zj (ZF (UC Zr4 (hr.mono (by decide)) (pv 4) (Zb (pv 6) Zh)))) (Zj (J5 (ZC (JP (K:=K) hu) (ZG Js (pv 5) Zl) Zl (ZJ _)) (Zj (ZF (UC Zrv (hr.mono (by decide)) (pv 4) (Zb (pv 6) Zh)))) (Ze (Z4 (i:=7) Zpa.nd rfl (by first|exact Or.inl rfl|exact Or.inr rfl) (Z1 (Zgi rfl) rfl T.z_min Zi3 (Zb (Z1 (ZK (K:=K)) rfl T.z_len JI (Zb (ZN Zow (hr.mono (by decide)) (pv 4)) Zh)) (Zb (ZG Js (ZG Jb (pv 5) Zl) Zl) Zh))))
   (Ze (Ve PassesOwn.never rfl (Vm rfl T.z_range (Zb (pv 7) Zh)) (Jc (i:=8) Zpa.nd rfl (by first|exact Or.inl rfl|exact Or.inr rfl)) (Zj (ZF (ZN ZoY (hr.mono (by decide)) (pv 4)))))
   (Zj (Ve PassesOwn.never rfl (Vm rfl T.z_range (Zb (ZG Jb (pv 7) Zl) Zh)) (Jc (i:=8) Zpa.nd rfl (by first|exact Or.inl rfl|exact Or.inr rfl)) (Zj (ZF (ZN ZoZ (hr.mono (by decide)) (pv 4)))))))))))))))
   (Ze (Z4 (i:=9) Zpa.nd rfl (by first|exact Or.inl rfl|exact Or.inr rfl) (ZN Zow (hr.mono (by decide)) (pv 4)))
   (Ze (J5 (ZC (ZaQ (K:=K) hu) (ZN ZpW (hr.mono (by decide)) (pv 4)) (ZD Zsj (hr.mono (by decide)) rfl (Zb (pv 3) (Zb (pv 9) Zh))) (ZJ _)) (Zj (Z8 ZdL)) ZM)
   (Ze (Ve PassesOwn.never rfl (Jv (K:=K) (ZN Zq0 (hr.mono (by decide)) (pv 4))) (ZeP rfl (Vw (Jc (i:=10) Zpa.nd rfl (by first|exact Or.inl rfl|exact Or.inr rfl)) (Vw (Jc (i:=11) Zpa.nd rfl (by first|exact Or.inl rfl|exact Or.inr rfl)) ZbD))) (Zj (J5 (ZC (ZaQ (K:=K) hu) (ZY ZpA (hr.mono (by decide)) rfl Vn (Zb (ZX (ZU (K:=K)) rfl T.z_list J9 (Zb (pv 3) Zh)) (Zb (VR (VP (K:=K)) (pv 9) UZ (UY (pv 10))) Zh))) (ZY ZpA (hr.mono (by decide)) rfl Vn (Zb (ZX (ZU (K:=K)) rfl T.z_list J9 (Zb (pv 3) Zh)) (Zb (VR (VP (K:=K)) (pv 9) UZ (UY (pv 11))) Zh))) (ZJ _)) (Zj (Z8 ZdL)) ZM)))
   (Zj (Z8 (ZD ZqH (hr.mono (by decide)) rfl (Zb (pv 4) (Zb (pv 3) (Zb (pv 9) Zh))))))))))))))),
   (Zm (Γm:=[.S,.P,.U,.U,.U,.U,.U,.U,.U,.U,.U,.U]) (Z6 (i:=1) (ZhB (Zg (Zg Zp)) (Za (Zc (i:=0) (m:=.S) rfl (by decide)) (Za (DE.toA Zk) Zf))) (by decide))
   (Zm (Γm:=[.S,.P,.P,.U,.U,.U,.U,.U,.U,.U,.U,.U]) (Z6 (i:=2) (Q3 (DE.toA Zk) (DE.toA (Jt (DE.toA (Zi (i:=1) rfl)) (DE.toA Zk)))) (by decide))
   (Zm (Γm:=[.S,.P,.P,.O,.U,.U,.U,.U,.U,.U,.U,.U]) (Jn (i:=3) (Zep (Zg (Zg (Zg Zp))) (Za (Zc (i:=0) (m:=.S) rfl (by decide)) (Za (DE.toA (Zi (i:=2) rfl)) (Za (DE.toA (Jt (DE.toA (Vh (DE.toA (Zi (i:=1) rfl)) (DE.toA Zk))) (DE.toA Zk))) Zf)))) (by decide))
   (Zm (Γm:=[.S,.P,.P,.O,.U,.U,.U,.U,.U,.U,.U,.U]) (J8 (ZB (DE.toA (Ji (g:=id) (DE.toA (ZfU (Za (Zc (i:=3) (m:=.O) rfl (by decide)) Zf))) (DE.toA Zk))))
   (VY (i:=3) rfl (Q3 (DE.toA Zk) (DE.toA (Jt (DE.toA (Vh (DE.toA (Zi (i:=1) rfl)) (DE.toA Zk))) (DE.toA Zk)))) (DE.toA (Jt (DE.toA (Vh (DE.toA (Zi (i:=1) rfl)) (DE.toA Zk))) (DE.toA (Zi (i:=2) rfl)))))
   ZP)
   (Zm (Γm:=[.S,.P,.P,.O,.O,.U,.U,.U,.U,.U,.U,.U]) (Jn (i:=4) (Zjx (n := "RingBook") (Zg Zp) (Za (DE.toA (Jq (Za (Zc (i:=3) (m:=.O) rfl (by decide)) Zf))) Zf)) (by decide))
   (Zm (Γm:=[.S,.P,.P,.O,.O,.U,.U,.U,.U,.U,.U,.U]) (Vg (Γl:=[.S,.P,.P,.O,.O,.U,.U,.U,.U,.U,.U,.U]) (JZ (DE.FZ (Zbk (Zc (i:=0) (m:=.S) rfl (by decide)) Qy (Qx (DE.toA Zk))))) rfl (Zcd (i:=5) (by decide))
   (DS.out (Y:=⟨[.S,.P,.P,.O,.O,.P,.P,.U,.U,.U,.U,.U],[.S,.P,.P,.O,.O,.U,.U,.U,.U,.U,.U,.U],[.S,.P,.P,.O,.O,.U,.U,.U,.U,.U,.U,.U],.P⟩) (Y':=⟨[.S,.P,.P,.O,.O,.U,.U,.U,.U,.U,.U,.U],[.S,.P,.P,.O,.O,.U,.U,.U,.U,.U,.U,.U],[.S,.P,.P,.O,.O,.U,.U,.U,.U,.U,.U,.U],.P⟩) (Zm (Γm:=[.S,.P,.P,.O,.O,.P,.P,.U,.U,.U,.U,.U]) (Z6 (i:=6) (Jt (DE.toA (Vh (DE.toA (Zi (i:=5) rfl)) (DE.toA Zk))) (DE.toA (Zi (i:=2) rfl))) (by decide))
   (Zm (Γm:=[.S,.P,.P,.O,.O,.P,.P,.U,.U,.U,.U,.U]) (Zdu (Γ:=[.S,.P,.P,.O,.O,.P,.P,.U,.U,.U,.U,.U]) (ZB (DE.toA (Ji (g:=id) (Z3 (te:=tC .non) (DE.toA (DE.meth (i:=4) (md:=.O) (n := "RingBook") (m := "board") rfl (by decide) (Zep (Zg Zp) (Za (Zc (i:=4) (m:=.O) rfl (by decide)) Zf)))) (DE.toA (Zi (i:=6) rfl))) (DE.toA Zk))))
   (Z6 (i:=6) (Jt (DE.toA (Q3 (DE.toA (Zi (i:=6) rfl)) (DE.toA Zk))) (DE.toA (Zi (i:=2) rfl))) (by decide)))
   (J8 (ZB (DE.toA (Zh9 (DE.toA (Jt (DE.toA (Zi (i:=5) rfl)) (DE.toA Zk))) (DE.toA Zk))))
   (JF (DM.meth (n := "RingBook") (m := "sow") rfl (JG (i:=4) rfl (Zg Zp) (Za (DE.toA (Zi (i:=6) rfl)) Zf))))
   (J8 (ZB (DE.toA (Ji (g:=id) (DE.toA (Jt (DE.toA (Zi (i:=5) rfl)) (DE.toA Zk))) (DE.toA Zk))))
   (JF (DM.meth (n := "RingBook") (m := "back") rfl (JG (i:=4) rfl (Zg Zp) (Za (DE.toA (Zi (i:=6) rfl)) Zf))))
   (DS.out (Y:=⟨[.S,.P,.P,.O,.O,.P,.P,.P,.U,.U,.U,.U],[.S,.P,.P,.O,.O,.U,.U,.U,.U,.U,.U,.U],[.S,.P,.P,.O,.O,.U,.U,.U,.U,.U,.U,.U],.P⟩) (Y':=⟨[.S,.P,.P,.O,.O,.P,.P,.U,.U,.U,.U,.U],[.S,.P,.P,.O,.O,.U,.U,.U,.U,.U,.U,.U],[.S,.P,.P,.O,.O,.U,.U,.U,.U,.U,.U,.U],.P⟩) (Zm (Γm:=[.S,.P,.P,.O,.O,.P,.P,.P,.U,.U,.U,.U]) (Z6 (i:=7) (Zjw (Za (DE.toA (JH (Za (DE.toA (DE.meth (i:=4) (md:=.O) (n := "RingBook") (m := "plan") rfl (by decide) (Zep (Zg Zp) (Za (Zc (i:=4) (m:=.O) rfl (by decide)) Zf)))) Zf))) (Za (DE.toA (Jt (DE.toA (Vh (DE.toA (Zi (i:=5) rfl)) (DE.toA Zk))) (DE.toA Zk))) Zf))) (by decide))
   (Zm (Γm:=[.S,.P,.P,.O,.O,.P,.P,.P,.U,.U,.U,.U]) (Vg (Γl:=[.S,.P,.P,.O,.O,.P,.P,.P,.U,.U,.U,.U]) (Qz (Za (DE.toA (Zi (i:=7) rfl)) Zf)) rfl (Zcd (i:=8) (by decide))
   (DS.out (Y:=⟨[.S,.P,.P,.O,.O,.P,.P,.P,.P,.U,.U,.U],[.S,.P,.P,.O,.O,.P,.P,.P,.U,.U,.U,.U],[.S,.P,.P,.O,.O,.P,.P,.P,.U,.U,.U,.U],.P⟩) (Y':=⟨[.S,.P,.P,.O,.O,.P,.P,.P,.U,.U,.U,.U],[.S,.P,.P,.O,.O,.P,.P,.P,.U,.U,.U,.U],[.S,.P,.P,.O,.O,.P,.P,.P,.U,.U,.U,.U],.P⟩) (JF (DM.meth (n := "RingBook") (m := "undo") rfl (JG (i:=4) rfl Zp Zf))) rfl rfl rfl rfl))
   (Vg (Γl:=[.S,.P,.P,.O,.O,.P,.P,.P,.U,.U,.U,.U]) (Qz (Za (DE.toA (Vh (DE.toA (Zi (i:=7) rfl)) (DE.toA Zk))) Zf)) rfl (Zcd (i:=8) (by decide))
   (DS.out (Y:=⟨[.S,.P,.P,.O,.O,.P,.P,.P,.P,.U,.U,.U],[.S,.P,.P,.O,.O,.P,.P,.P,.U,.U,.U,.U],[.S,.P,.P,.O,.O,.P,.P,.P,.U,.U,.U,.U],.P⟩) (Y':=⟨[.S,.P,.P,.O,.O,.P,.P,.P,.U,.U,.U,.U],[.S,.P,.P,.O,.O,.P,.P,.P,.U,.U,.U,.U],[.S,.P,.P,.O,.O,.P,.P,.P,.U,.U,.U,.U],.P⟩) (JF (DM.meth (n := "RingBook") (m := "redo") rfl (JG (i:=4) rfl Zp Zf))) rfl rfl rfl rfl)))) rfl rfl rfl rfl))))) rfl rfl rfl rfl))
   (Zm (Γm:=[.S,.P,.P,.O,.O,.U,.U,.U,.U,.O,.U,.U]) (Jn (i:=9) (DE.meth (i:=4) (md:=.O) (n := "RingBook") (m := "plan") rfl (by decide) (Zep (Zg Zp) (Za (Zc (i:=4) (m:=.O) rfl (by decide)) Zf))) (by decide))
   (Zm (Γm:=[.S,.P,.P,.O,.O,.U,.U,.U,.U,.O,.U,.U]) (J8 (ZB (DE.toA (Ji (g:=(!·)) (DE.toA (DE.meth (i:=4) (md:=.O) (n := "RingBook") (m := "sown_in_all") rfl (by decide) (ZhB (Zg Zp) (Za (Zc (i:=4) (m:=.O) rfl (by decide)) Zf)))) (DE.toA (ZhB (Zg (Zg Zp)) (Za (Zc (i:=3) (m:=.O) rfl (by decide)) (Za (Zc (i:=9) (m:=.O) rfl (by decide)) Zf)))))))
   (ZZ Zeh)
   ZP)
   (Zm (Γm:=[.S,.P,.P,.O,.O,.U,.U,.U,.U,.O,.U,.U]) (Vg (Γl:=[.S,.P,.P,.O,.O,.U,.U,.U,.U,.O,.U,.U]) (JZ (DE.FZ (DE.meth (i:=4) (md:=.O) (n := "RingBook") (m := "came_again") rfl (by decide) (Zep (Zg Zp) (Za (Zc (i:=4) (m:=.O) rfl (by decide)) Zf))))) rfl (ZfP (n:=2) (V0 (Zcd (i:=10) (by decide)) (V0 (Zcd (i:=11) (by decide)) Zcc)))
   (DS.out (Y:=⟨[.S,.P,.P,.O,.O,.U,.U,.U,.U,.O,.P,.P],[.S,.P,.P,.O,.O,.U,.U,.U,.U,.O,.U,.U],[.S,.P,.P,.O,.O,.U,.U,.U,.U,.O,.U,.U],.P⟩) (Y':=⟨[.S,.P,.P,.O,.O,.U,.U,.U,.U,.O,.U,.U],[.S,.P,.P,.O,.O,.U,.U,.U,.U,.O,.U,.U],[.S,.P,.P,.O,.O,.U,.U,.U,.U,.O,.U,.U],.P⟩) (J8 (ZB (DE.toA (Ji (g:=(!·)) (DE.toA (Zjp (Zg (Zg Zp)) (Za (DE.toA (Jq (Za (Zc (i:=3) (m:=.O) rfl (by decide)) Zf))) (Za (DE.toA (Zbk (Zc (i:=9) (m:=.O) rfl (by decide)) Qy (Qx (DE.toA (Zi (i:=10) rfl))))) Zf)))) (DE.toA (Zjp (Zg (Zg Zp)) (Za (DE.toA (Jq (Za (Zc (i:=3) (m:=.O) rfl (by decide)) Zf))) (Za (DE.toA (Zbk (Zc (i:=9) (m:=.O) rfl (by decide)) Qy (Qx (DE.toA (Zi (i:=11) rfl))))) Zf)))))))
   (ZZ Zeh)
   ZP) rfl rfl rfl rfl))
   (Zh2 (Zjs (i:=4) rfl (Zg (Zg Zp)) (ZhD (Zd4 (ZfQ (l:=3) (md:=.O) rfl (by decide)) (Zd4 (ZfQ (l:=9) (md:=.O) rfl (by decide)) Zj3)))))))))))))), ?_⟩
 refine Pm.ref ZqZ (g:=fun xs=>_) ?_
 rintro(ns:List Int) (hn:ns.length<=63)
 simp only[ZqZ]
 walk_at "pd"
 rw[Zqs (by omega)]
 walk_at "pd"
 generalize hh:ns.getD 0 0=h
 rw[ZoK ⟨by omega,by omega,by omega⟩]
 have hB:=QF ns (pits:=2+h%5) (way:=h/5%4) (by omega) (by omega)
 have hl:(JW ns (2+h%5) (h/5%4)).length=(2+h%5).toNat:=by have:=Vq ns (pits:=2+h%5) (way:=h/5%4) (by omega);omega
 generalize JW ns (2+h%5) (h/5%4)=b at *
 generalize hpe:2+h%5=pits at *
 have hp0:2<=pits:=by omega
 have hp1:pits<=6:=by omega
 walk_at "pd"
 generalize hT:(fun ρ:List PV=>RS.seq (Rr.thenS (Rr.bind (Rr.bind (Zfa [gv 3 ρ]) _) _) _) _)=TAIL
 have fin:∀b:List Int,Jp b->0<b.sum->b.length=pits.toNat->(TAIL [.lst (ns.map PV.int),.int h,.int pits,.lst (b.map PV.int),.non,.non,.non,.non,.non,.non,.non,.non]).out=.ok (.bl true):=by
  intro b B hs hbl
  have hbh:=B.hi
  subst hT
  walk_at "pd"
  rw[ZqB (J3.mpr B) (by omega)]
  walk_at "pd"
  generalize hw:QD _ _ _=W
  have h30:(ns.take 30).length<=30:=by rw[Ztf];omega
  obtain⟨ρ',rfl,k,v1,v2,v3,v4,rfl,hI⟩:=Jh hw (fun i ρ=>∃k v1 v2 v3 v4,ρ=[.lst (ns.map PV.int),.int h,.int pits,.lst (b.map PV.int),bkP none k,v1,v2,v3,v4,.non,.non,.non]/\Li b i k) ⟨⟨[b],[],[]⟩,_,_,_,_,rfl,Bw.new B,ZsV _,ZsV _⟩ (by
   rintro i x ρ hx ⟨k,v1,v2,v3,v4,rfl,hI⟩
   have hi:i<(ns.take 30).length:=by
    have:=(Zta.mp hx).1
    simpa using this
   rw[Ztb,ZsR hi] at hx
   cases hx
   generalize (ns.take 30)[i]=c
   have hw':=hI.w
   have hkl:=hw'.kl
   have hdl:=hI.dl
   have hul:=hI.ul
   have hG:=hw'.lbd
   have hLn:((Jf k).length:Int)=pits:=by rw[hw'.llen];omega
   have hS:0<(Jf k).sum:=by rw[hw'.sum];exact hs
   have hbrd:ZnB.fn [bkP none k]=.ok (.lst ((Jf k).map PV.int)):=ZpL (by omega) (by have:=hG.hi;omega)
   walk_at "pd"
   generalize hJ:(fun ρ:List PV=>∃k v1 v2 v3 v4,ρ=[.lst (ns.map PV.int),.int h,.int pits,.lst (b.map PV.int),bkP none k,v1,v2,v3,v4,.non,.non,.non]/\Li b (i+1) k)=J
   have q0:0<=c/4%pits:=Ztn _ (by omega)
   have q1:c/4%pits<pits:=Ztm _ (by omega)
   generalize c/4%pits=p0 at *
   generalize hW:VI _ _ _=W
   obtain⟨N,n1,n2,n3,n4⟩:=ZfD (c:=p0) hG hS
   rw[hLn,Ztq q0 q1] at n3 n4
   have bd:∀m:Nat,0<=(p0+m)%pits/\(p0+m)%pits<pits:=fun m=>⟨Ztn _ (by omega),Ztm _ (by omega)⟩
   obtain⟨ρ',rfl,rfl⟩:=Zb2 hW N (fun m ρ=>ρ=[.lst (ns.map PV.int),.int h,.int pits,.lst (b.map PV.int),bkP none k,.int c,.int ((p0+m)%pits),v3,v4,.non,.non,.non]) (by rw[ZtO,Zup,Ztq q0 q1]) (by
    rintro m ρ hm rfl
    obtain⟨d0,d1⟩:=bd m
    constructor
    ·walk_at "pd"
     rw[ZhK]
     walk_at "pd"
     rw[hbrd]
     walk_at "pd"
     rw[n3 m hm];rfl
    ·walk_at "pd"
     refine JB ?_
     rw[Int.emod_add_emod]
     congr 4
     simp only[List.cons.injEq,PV.int.injEq,and_true,true_and]
     congr 1
     omega) (by
    rintro ρ rfl
    obtain⟨d0,d1⟩:=bd N
    walk_at "pd"
    rw[ZhK]
    walk_at "pd"
    rw[hbrd]
    walk_at "pd"
    rw[decide_eq_false n4])
   obtain⟨d0,d1⟩:=bd N
   have st:Jd (Jf k) ((p0+N)%pits):=⟨hG,d0,by omega,by have:=hG.nn' ((p0+N)%pits).toNat;omega⟩
   generalize (p0+N)%pits=p at *
   have bin:ZhO k p:=⟨by omega,st,by omega,by omega⟩
   walk_at "pd"
   by_cases e1:c%4<2
   ·rw[decide_eq_true e1]
    walk_at "pd"
    rw[Zmt]
    walk_at "pd"
    rw[Q6 bin]
    walk_at "pd"
    subst hJ
    exact JB ⟨bkS k p,_,_,_,_,rfl,hw'.sow st,by simp only[bkS,Ztl,Ztj,Zt3];omega,by simp[bkS]⟩
   ·rw[decide_eq_false e1]
    walk_at "pd"
    by_cases e2:c%4=2
    ·rw[decide_eq_true e2]
     walk_at "pd"
     rw[Zmv]
     walk_at "pd"
     rw[U1 bin]
     walk_at "pd"
     subst hJ
     exact JB ⟨bkT k p,_,_,_,_,rfl,hw'.back st,by simp only[bkT,Ztl,Ztj,Zt3];omega,by simp[bkT]⟩
    ·rw[decide_eq_false e2]
     walk_at "pd"
     rw[ZhJ]
     walk_at "pd"
     rw[ZoV (by omega)]
     walk_at "pd"
     rw[VU,ZsS,ZsS]
     walk_at "pd"
     obtain⟨so,hso,s0,s1⟩:∃so:Nat,(if c/8%4<(k.ds.length:Int) then c/8%4 else (k.ds.length:Int))=(so:Int)/\so<=k.ds.length/\so<=3:=by
      by_cases z:c/8%4<(k.ds.length:Int)
      ·exact⟨(c/8%4).toNat,by rw[if_pos z];omega,by omega,by omega⟩
      ·exact⟨k.ds.length,by rw[if_neg z],ZsV _,by omega⟩
     rw[hso]
     have wj:∀j,j<=k.ds.length->Bw b (U3 j k):=fun j hj=>Zgo hw' hj
     have lj:∀j,j<=k.ds.length->(U3 j k).ds.length=k.ds.length-j:=fun j hj=>by rw[QA,Ztf];omega
     generalize hw2:QD _ _ _=W2
     obtain⟨ρ',rfl,v4,rfl⟩:=Jh hw2 (fun j ρ=>∃v4,ρ=[.lst (ns.map PV.int),.int h,.int pits,.lst (b.map PV.int),bkP none (U3 j k),.int c,.int p,.int so,v4,.non,.non,.non]) ⟨_,rfl⟩ (by
      rintro j x ρ hx ⟨v4,rfl⟩
      obtain⟨hj,rfl⟩:=VQ hx
      rw[Ztu] at hj
      have:=lj j (by omega)
      have:=(wj j (by omega)).kl
      have:=Ur k j
      walk_at "pd"
      rw[Zlp]
      walk_at "pd"
      rw[Vi (by omega) (by omega) (by omega) (by omega)]
      walk_at "pd"
      exact JB ⟨_,rfl⟩)
     rw[Jl,Ztu]
     walk_at "pd"
     generalize hw3:QD _ _ _=W3
     obtain⟨ρ',rfl,v4,rfl⟩:=Jh hw3 (fun j ρ=>∃v4,ρ=[.lst (ns.map PV.int),.int h,.int pits,.lst (b.map PV.int),bkP none (U3 (so-j) k),.int c,.int p,.int so,v4,.non,.non,.non]) ⟨_,rfl⟩ (by
      rintro j x ρ hx ⟨v4,rfl⟩
      obtain⟨hj,rfl⟩:=VQ hx
      obtain⟨m,hm⟩:∃m,so-j=m+1:=⟨so-j-1,by omega⟩
      rw[hm,show so-(j+1)=m by omega]
      have:=lj (m+1) (by omega)
      have:=lj m (by omega)
      have:=Ur k (m+1)
      have:=(wj (m+1) (by omega)).kl
      have:=(wj m (by omega)).kl
      walk_at "pd"
      rw[Zlq]
      walk_at "pd"
      rw[Vj (by omega) (by omega) (by omega) (by omega),show bkR (U3 (m+1) k)=U3 m k from ZmV (by omega) (by omega)]
      walk_at "pd"
      exact JB ⟨_,rfl⟩)
     rw[Jl]
     generalize hj:so-((so:Int)/2).toNat=j
     have hj2:j<=so:=by omega
     subst hJ
     exact JB ⟨U3 j k,_,_,_,_,rfl,wj j (by omega),by rw[lj j (by omega)];omega,by rw[Ur];omega⟩)
  have hw':=hI.w
  have hkl:=hw'.kl
  have hdl:=hI.dl
  have hul:=hI.ul
  rw[ZsS] at hdl hul
  have hH:=hw'.hist
  have hpl:(plO k.ds).length=k.ds.length:=ZsS ..
  have fl:∀d:JA,(ZE d).flat=true:=fun d=>rfl
  have hmv:=Zip hH (ZsV _)
  rw[List.take_length] at hmv
  have wlk:∀j,j<=k.ds.length->Zon.fn [.lst (b.map PV.int),.lst (((plO k.ds).take j).map ZE)]=.ok (.lst ((k.bs.getD j []).map PV.int)):=fun j hj=>by
   have hT:=hH.take hj
   rw[VH B (by rw[Ztf];omega) fun i hi=>?_,Ztf,Nat.min_eq_left (by omega),UK (ZsV _) (by omega),hH.wk j (by omega)]
   rw[Ztf] at hi
   rw[QX (by omega) (by omega)]
   exact hw'.cans i (by omega)
  have hbl2:∀x∈k.bs,x.length<=1000:=fun x hx=>by
   obtain⟨i,hi⟩:=List.getElem?_of_mem hx
   have hl:=(Zta.mp hi).1
   have:=hH.wk i hl
   rw[ZsQ,hi] at this
   have this:x=Vc b (plO k.ds) i:=this
   rw[this,V7];omega
  walk_at "pd"
  rw[ZhJ]
  walk_at "pd"
  rw[ZoV (by omega)]
  walk_at "pd"
  rw[Zmu]
  walk_at "pd"
  rw[ZpT (by omega),ZoJ ⟨B,by omega,hw'.cans⟩,hpl,hmv]
  walk_at "pd"
  rw[Zmw]
  walk_at "pd"
  rw[Zqt ⟨by omega,hbl2⟩]
  walk_at "pd"
  generalize hw4:QD _ _ _=W4
  obtain⟨ρ',rfl,v5,v6,rfl⟩:=Jh hw4 (fun j ρ=>∃v5 v6,ρ=[.lst (ns.map PV.int),.int h,.int pits,.lst (b.map PV.int),bkP none k,v1,v2,v3,v4,.lst ((plO k.ds).map ZE),v5,v6]) ⟨_,_,rfl⟩ (by
   rintro i x ρ hx ⟨v5,v6,rfl⟩
   rw[Ztb] at hx
   cases ht:(ZhY (Za5 k.bs k.bs.length))[i]? with
   |none=>rw[ht] at hx;cases hx
   |some t =>
    rw[ht] at hx
    cases hx
    obtain⟨i,j,rfl,h1,h2,h3,h4⟩:=Zay.mp ((ZaC _).mem_iff.mp (Ztx ht))
    simp only[VL,Ztc,Zt7]
    walk_at "pd"
    rw[Zcj (by omega),Zcj (by omega),Ztu,Ztu,ZcZ fl (by rw[Ztf];omega),ZcZ fl (by rw[Ztf];omega)]
    walk_at "pd"
    rw[wlk i (by omega),wlk j (by omega),h3]
    walk_at "pd"
    exact JB ⟨_,_,rfl⟩)
  walk_at "pd"
  rw[show Zbs Zny.fnM (bkP none k) [PV.lst (b.map PV.int),PV.lst ((plO k.ds).map ZE)]=.ok (.bl true,bkP none k) from V1 (Zob ⟨hw',by omega,by omega⟩)]
  walk_at "pd"
 by_cases hz:b.sum=0
 ·rw[decide_eq_true hz]
  have m0:=Ztn (h/20) (show pits≠0 by omega)
  have m1:=Ztm (h/20) (show 0<pits by omega)
  walk_at "pd"
  obtain⟨q1,q2⟩:=ZdI (j:=(h/20%pits).toNat) (v:=1+h/100%10) hB hz (by omega) (by omega) (by omega)
  exact fin _ q1 q2 (by rw[Zt2];exact hl)
 ·rw[decide_eq_false hz]
  walk_at "pd"
  exact fin b hB (by have:=sum_nn hB.nn;omega) hl
noncomputable def Ze3 (K:W.Frag):Sp:=spF K 1 .P W0 ZqZ.fn
theorem ZkH {l:PySem.W.OpenLaw} (T:Txt K mg) {fa:Addr} (hmg:mg "law"=some (.ref fa)):∃fd:FuncData,(∀(s:Shared) (u:Value),BindsTo s fd ⟨[u],[]⟩ [("script",u)]) /\
  ∀base:Heap,K.In base->base.Ns mainGlobals mg->Jk l.prog w K mg base CX0 9 fa fd ["script"] (Ze3 K):=by
 obtain⟨f,fd,F,hm⟩:=T.ZsP
 rw[hmg] at hm
 cases hm
 refine⟨fd,fun s u=>?_,fun base _ _=>ZsL T F⟩
 obtain⟨oc,od,kV,doc,pm,an,cdv,ct,osl,rfl,lk,hcd⟩:=F.ex
 exact .of_eq (ZsN kV doc pm an cdv ct [u] rfl)
theorem Zfz {H:Hp}{a:Addr}{ns:List Int} (hl:ns.length<=63) (hO:Zlz H) (hS:SqL K H a (ns.map V.int)):Ze3 K [.ref a] H (fun v _=>v=.bl true) fun _ _ _=>False:=
 ZdX (Pm.fn_eq ZqZ ns hl fun _ _=>rfl) hS
end
theorem ZjV {K:W.Frag}{h:Heap}{mg:Str->Option Value}{Zrk Zp4 Zql ZqP ZoT Zou Zqj ZqQ Zp2 ZrI Zp3 Zpg Zri Zrj ZrH Zo8 Zqk Zq9 ZoN Zs7 Zqi ZsH:Addr} (X:K.In h) (G:h.Ns mainGlobals mg)
  {od__law_at an__law_at:Option Addr}{sl__law_at:Array (Option Value)}{oc__law_at kV__law_at dc__law_at Zo4 cd__law_at ct__law_at:Value}
  {od__law_folded an__law_folded:Option Addr}{sl__law_folded:Array (Option Value)}{oc__law_folded kV__law_folded dc__law_folded ZnT cd__law_folded ct__law_folded:Value}
  {od__law_board an__law_board:Option Addr}{sl__law_board:Array (Option Value)}{oc__law_board kV__law_board dc__law_board Zoa cd__law_board ct__law_board:Value}
  {od_is_whole an_is_whole:Option Addr}{sl_is_whole:Array (Option Value)}{oc_is_whole kV_is_whole dc_is_whole Zo0 cd_is_whole ct_is_whole:Value}
  {od_is_whole_from an_is_whole_from:Option Addr}{sl_is_whole_from:Array (Option Value)}{oc_is_whole_from kV_is_whole_from dc_is_whole_from ZnG cd_is_whole_from ct_is_whole_from:Value}
  {od_is_list_from_nought an_is_list_from_nought:Option Addr}{sl_is_list_from_nought:Array (Option Value)}{oc_is_list_from_nought kV_is_list_from_nought dc_is_list_from_nought Znw cd_is_list_from_nought ct_is_list_from_nought:Value}
  {od_most_seeds an_most_seeds:Option Addr}{sl_most_seeds:Array (Option Value)}{oc_most_seeds kV_most_seeds dc_most_seeds Zok cd_most_seeds ct_most_seeds:Value}
  {od_is_board an_is_board:Option Addr}{sl_is_board:Array (Option Value)}{oc_is_board kV_is_board dc_is_board Zoc cd_is_board ct_is_board:Value}
  {od_check_board an_check_board:Option Addr}{sl_check_board:Array (Option Value)}{oc_check_board kV_check_board dc_check_board ZnS cd_check_board ct_check_board:Value}
  {od_is_pit an_is_pit:Option Addr}{sl_is_pit:Array (Option Value)}{oc_is_pit kV_is_pit dc_is_pit Zox cd_is_pit ct_is_pit:Value}
  {od_can_be_done an_can_be_done:Option Addr}{sl_can_be_done:Array (Option Value)}{oc_can_be_done kV_can_be_done dc_can_be_done ZnD cd_can_be_done ct_can_be_done:Value}
  {od_take_back_at an_take_back_at:Option Addr}{sl_take_back_at:Array (Option Value)}{oc_take_back_at kV_take_back_at dc_take_back_at Zn9 cd_take_back_at ct_take_back_at:Value}
  {od_sow_pit an_sow_pit:Option Addr}{sl_sow_pit:Array (Option Value)}{oc_sow_pit kV_sow_pit dc_sow_pit Zoo cd_sow_pit ct_sow_pit:Value}
  {od_do_deed an_do_deed:Option Addr}{sl_do_deed:Array (Option Value)}{oc_do_deed kV_do_deed dc_do_deed Zop cd_do_deed ct_do_deed:Value}
  {od_walked an_walked:Option Addr}{sl_walked:Array (Option Value)}{oc_walked kV_walked dc_walked Zon cd_walked ct_walked:Value}
  {od__law_walked_back an__law_walked_back:Option Addr}{sl__law_walked_back:Array (Option Value)}{oc__law_walked_back kV__law_walked_back dc__law_walked_back Zny cd__law_walked_back ct__law_walked_back:Value}
  {od__law_moved an__law_moved:Option Addr}{sl__law_moved:Array (Option Value)}{oc__law_moved kV__law_moved dc__law_moved ZnZ cd__law_moved ct__law_moved:Value}
  {od_check_pit an_check_pit:Option Addr}{sl_check_pit:Array (Option Value)}{oc_check_pit kV_check_pit dc_check_pit Zoi cd_check_pit ct_check_pit:Value}
  {od_check_standing an_check_standing:Option Addr}{sl_check_standing:Array (Option Value)}{oc_check_standing kV_check_standing dc_check_standing ZnA cd_check_standing ct_check_standing:Value}
  {od_sown an_sown:Option Addr}{sl_sown:Array (Option Value)}{oc_sown kV_sown dc_sown Zpu cd_sown ct_sown:Value}
  {od_taken_back an_taken_back:Option Addr}{sl_taken_back:Array (Option Value)}{oc_taken_back kV_taken_back dc_taken_back ZnQ cd_taken_back ct_taken_back:Value}
  {od_law an_law:Option Addr}{sl_law:Array (Option Value)}{oc_law kV_law dc_law ZqZ cd_law ct_law:Value}
  (Zrt:PySem.W.nsIn K mainGlobals "_law_at"=some (some (.ref Zrk))) (Zrc:K.lookup Zrk=some ⟨oc__law_at,od__law_at,.func (PySem.W.fnOf "_law_at" "_law_at" (Zq ZoG) (Zo ZoG) (Zd ZoG) .none kV__law_at dc__law_at Zo4 an__law_at cd__law_at ct__law_at),sl__law_at⟩) (Zqs:PySem.W.codeIn K cd__law_at "_law_at"=true) (Zrf:PySem.W.keepIn K (.ref Zrk)=true)
  (Zp9:PySem.W.nsIn K mainGlobals "_law_folded"=some (some (.ref Zp4))) (Zpx:K.lookup Zp4=some ⟨oc__law_folded,od__law_folded,.func (PySem.W.fnOf "_law_folded" "_law_folded" (Zq ZnY) (Zo ZnY) (Zd ZnY) .none kV__law_folded dc__law_folded ZnT an__law_folded cd__law_folded ct__law_folded),sl__law_folded⟩) (Zo9:PySem.W.codeIn K cd__law_folded "_law_folded"=true) (Zp0:PySem.W.keepIn K (.ref Zp4)=true)
  (Zqy:PySem.W.nsIn K mainGlobals "_law_board"=some (some (.ref Zql))) (Zqc:K.lookup Zql=some ⟨oc__law_board,od__law_board,.func (PySem.W.fnOf "_law_board" "_law_board" (Zq Zoh) (Zo Zoh) (Zd Zoh) .none kV__law_board dc__law_board Zoa an__law_board cd__law_board ct__law_board),sl__law_board⟩) (ZoK:PySem.W.codeIn K cd__law_board "_law_board"=true) (Zqg:PySem.W.keepIn K (.ref Zql)=true)
  (ZqR:PySem.W.nsIn K mainGlobals "is_whole"=some (some (.ref ZqP))) (ZqL:K.lookup ZqP=some ⟨oc_is_whole,od_is_whole,.func (PySem.W.fnOf "is_whole" "is_whole" (Zq Zo2) (Zo Zo2) (Zd Zo2) .none kV_is_whole dc_is_whole Zo0 an_is_whole cd_is_whole ct_is_whole),sl_is_whole⟩) (Zpo:PySem.W.codeIn K cd_is_whole "is_whole"=true) (ZqN:PySem.W.keepIn K (.ref ZqP)=true)
  (ZoW:PySem.W.nsIn K mainGlobals "is_whole_from"=some (some (.ref ZoT))) (ZoR:K.lookup ZoT=some ⟨oc_is_whole_from,od_is_whole_from,.func (PySem.W.fnOf "is_whole_from" "is_whole_from" (Zq ZnK) (Zo ZnK) (Zd ZnK) .none kV_is_whole_from dc_is_whole_from ZnG an_is_whole_from cd_is_whole_from ct_is_whole_from),sl_is_whole_from⟩) (Zod:PySem.W.codeIn K cd_is_whole_from "is_whole_from"=true) (ZoS:PySem.W.keepIn K (.ref ZoT)=true)
  (Zov:PySem.W.nsIn K mainGlobals "is_list_from_nought"=some (some (.ref Zou))) (Zos:K.lookup Zou=some ⟨oc_is_list_from_nought,od_is_list_from_nought,.func (PySem.W.fnOf "is_list_from_nought" "is_list_from_nought" (Zq Znx) (Zo Znx) (Zd Znx) .none kV_is_list_from_nought dc_is_list_from_nought Znw an_is_list_from_nought cd_is_list_from_nought ct_is_list_from_nought),sl_is_list_from_nought⟩) (ZnL:PySem.W.codeIn K cd_is_list_from_nought "is_list_from_nought"=true) (Zot:PySem.W.keepIn K (.ref Zou)=true)
  (Zqw:PySem.W.nsIn K mainGlobals "most_seeds"=some (some (.ref Zqj))) (Zqa:K.lookup Zqj=some ⟨oc_most_seeds,od_most_seeds,.func (PySem.W.fnOf "most_seeds" "most_seeds" (Zq Zof) (Zo Zof) (Zd Zof) .none kV_most_seeds dc_most_seeds Zok an_most_seeds cd_most_seeds ct_most_seeds),sl_most_seeds⟩) (ZoI:PySem.W.codeIn K cd_most_seeds "most_seeds"=true) (Zqe:PySem.W.keepIn K (.ref Zqj)=true)
  (ZqS:PySem.W.nsIn K mainGlobals "is_board"=some (some (.ref ZqQ))) (ZqM:K.lookup ZqQ=some ⟨oc_is_board,od_is_board,.func (PySem.W.fnOf "is_board" "is_board" (Zq Zo3) (Zo Zo3) (Zd Zo3) .none kV_is_board dc_is_board Zoc an_is_board cd_is_board ct_is_board),sl_is_board⟩) (Zpp:PySem.W.codeIn K cd_is_board "is_board"=true) (ZqO:PySem.W.keepIn K (.ref ZqQ)=true)
  (Zp7:PySem.W.nsIn K mainGlobals "check_board"=some (some (.ref Zp2))) (Zpv:K.lookup Zp2=some ⟨oc_check_board,od_check_board,.func (PySem.W.fnOf "check_board" "check_board" (Zq ZnW) (Zo ZnW) (Zd ZnW) .none kV_check_board dc_check_board ZnS an_check_board cd_check_board ct_check_board),sl_check_board⟩) (Zol:PySem.W.codeIn K cd_check_board "check_board"=true) (Zpy:PySem.W.keepIn K (.ref Zp2)=true)
  (ZrR:PySem.W.nsIn K mainGlobals "is_pit"=some (some (.ref ZrI))) (ZrA:K.lookup ZrI=some ⟨oc_is_pit,od_is_pit,.func (PySem.W.fnOf "is_pit" "is_pit" (Zq Zpc) (Zo Zpc) (Zd Zpc) .none kV_is_pit dc_is_pit Zox an_is_pit cd_is_pit ct_is_pit),sl_is_pit⟩) (Zq1:PySem.W.codeIn K cd_is_pit "is_pit"=true) (ZrC:PySem.W.keepIn K (.ref ZrI)=true)
  (Zp8:PySem.W.nsIn K mainGlobals "can_be_done"=some (some (.ref Zp3))) (Zpw:K.lookup Zp3=some ⟨oc_can_be_done,od_can_be_done,.func (PySem.W.fnOf "can_be_done" "can_be_done" (Zq ZnX) (Zo ZnX) (Zd ZnX) .none kV_can_be_done dc_can_be_done ZnD an_can_be_done cd_can_be_done ct_can_be_done),sl_can_be_done⟩) (Zom:PySem.W.codeIn K cd_can_be_done "can_be_done"=true) (Zpz:PySem.W.keepIn K (.ref Zp3)=true)
  (Zpi:PySem.W.nsIn K mainGlobals "take_back_at"=some (some (.ref Zpg))) (Zpd:K.lookup Zpg=some ⟨oc_take_back_at,od_take_back_at,.func (PySem.W.fnOf "take_back_at" "take_back_at" (Zq ZnR) (Zo ZnR) (Zd ZnR) .none kV_take_back_at dc_take_back_at Zn9 an_take_back_at cd_take_back_at ct_take_back_at),sl_take_back_at⟩) (Zoq:PySem.W.codeIn K cd_take_back_at "take_back_at"=true) (Zpe:PySem.W.keepIn K (.ref Zpg)=true)
  (Zrr:PySem.W.nsIn K mainGlobals "sow_pit"=some (some (.ref Zri))) (Zra:K.lookup Zri=some ⟨oc_sow_pit,od_sow_pit,.func (PySem.W.fnOf "sow_pit" "sow_pit" (Zq ZoE) (Zo ZoE) (Zd ZoE) .none kV_sow_pit dc_sow_pit Zoo an_sow_pit cd_sow_pit ct_sow_pit),sl_sow_pit⟩) (Zpn:PySem.W.codeIn K cd_sow_pit "sow_pit"=true) (Zrd:PySem.W.keepIn K (.ref Zri)=true)
  (Zrs:PySem.W.nsIn K mainGlobals "do_deed"=some (some (.ref Zrj))) (Zrb:K.lookup Zrj=some ⟨oc_do_deed,od_do_deed,.func (PySem.W.fnOf "do_deed" "do_deed" (Zq ZoF) (Zo ZoF) (Zd ZoF) .none kV_do_deed dc_do_deed Zop an_do_deed cd_do_deed ct_do_deed),sl_do_deed⟩) (Zpq:PySem.W.codeIn K cd_do_deed "do_deed"=true) (Zre:PySem.W.keepIn K (.ref Zrj)=true)
  (ZrQ:PySem.W.nsIn K mainGlobals "walked"=some (some (.ref ZrH))) (Zr9:K.lookup ZrH=some ⟨oc_walked,od_walked,.func (PySem.W.fnOf "walked" "walked" (Zq Zpb) (Zo Zpb) (Zd Zpb) .none kV_walked dc_walked Zon an_walked cd_walked ct_walked),sl_walked⟩) (ZqG:PySem.W.codeIn K cd_walked "walked"=true) (ZrB:PySem.W.keepIn K (.ref ZrH)=true)
  (ZoA:PySem.W.nsIn K mainGlobals "_law_walked_back"=some (some (.ref Zo8))) (Zo6:K.lookup Zo8=some ⟨oc__law_walked_back,od__law_walked_back,.func (PySem.W.fnOf "_law_walked_back" "_law_walked_back" (Zq Zn2) (Zo Zn2) (Zd Zn2) .none kV__law_walked_back dc__law_walked_back Zny an__law_walked_back cd__law_walked_back ct__law_walked_back),sl__law_walked_back⟩) (Zob:PySem.W.codeIn K cd__law_walked_back "_law_walked_back"=true) (Zo7:PySem.W.keepIn K (.ref Zo8)=true)
  (Zqx:PySem.W.nsIn K mainGlobals "_law_moved"=some (some (.ref Zqk))) (Zqb:K.lookup Zqk=some ⟨oc__law_moved,od__law_moved,.func (PySem.W.fnOf "_law_moved" "_law_moved" (Zq Zog) (Zo Zog) (Zd Zog) .none kV__law_moved dc__law_moved ZnZ an__law_moved cd__law_moved ct__law_moved),sl__law_moved⟩) (ZoJ:PySem.W.codeIn K cd__law_moved "_law_moved"=true) (Zqf:PySem.W.keepIn K (.ref Zqk)=true)
  (ZqD:PySem.W.nsIn K mainGlobals "check_pit"=some (some (.ref Zq9))) (Zq6:K.lookup Zq9=some ⟨oc_check_pit,od_check_pit,.func (PySem.W.fnOf "check_pit" "check_pit" (Zq Zor) (Zo Zor) (Zd Zor) .none kV_check_pit dc_check_pit Zoi an_check_pit cd_check_pit ct_check_pit),sl_check_pit⟩) (ZoU:PySem.W.codeIn K cd_check_pit "check_pit"=true) (Zq7:PySem.W.keepIn K (.ref Zq9)=true)
  (ZoO:PySem.W.nsIn K mainGlobals "check_standing"=some (some (.ref ZoN))) (ZoL:K.lookup ZoN=some ⟨oc_check_standing,od_check_standing,.func (PySem.W.fnOf "check_standing" "check_standing" (Zq ZnF) (Zo ZnF) (Zd ZnF) .none kV_check_standing dc_check_standing ZnA an_check_standing cd_check_standing ct_check_standing),sl_check_standing⟩) (ZnV:PySem.W.codeIn K cd_check_standing "check_standing"=true) (ZoM:PySem.W.keepIn K (.ref ZoN)=true)
  (ZsA:PySem.W.nsIn K mainGlobals "sown"=some (some (.ref Zs7))) (Zs5:K.lookup Zs7=some ⟨oc_sown,od_sown,.func (PySem.W.fnOf "sown" "sown" (Zq ZqT) (Zo ZqT) (Zd ZqT) .none kV_sown dc_sown Zpu an_sown cd_sown ct_sown),sl_sown⟩) (Zse:PySem.W.codeIn K cd_sown "sown"=true) (Zs6:PySem.W.keepIn K (.ref Zs7)=true)
  (Zqv:PySem.W.nsIn K mainGlobals "taken_back"=some (some (.ref Zqi))) (ZpZ:K.lookup Zqi=some ⟨oc_taken_back,od_taken_back,.func (PySem.W.fnOf "taken_back" "taken_back" (Zq Zoe) (Zo Zoe) (Zd Zoe) .none kV_taken_back dc_taken_back ZnQ an_taken_back cd_taken_back ct_taken_back),sl_taken_back⟩) (ZoH:PySem.W.codeIn K cd_taken_back "taken_back"=true) (Zqd:PySem.W.keepIn K (.ref Zqi)=true)
  (ZsK:PySem.W.nsIn K mainGlobals "law"=some (some (.ref ZsH))) (ZsE:K.lookup ZsH=some ⟨oc_law,od_law,.func (PySem.W.fnOf "law" "law" (Zq ZrW) (Zo ZrW) (Zd ZrW) .none kV_law dc_law ZqZ an_law cd_law ct_law),sl_law⟩) (ZsI:PySem.W.codeIn K cd_law "law"=true) (ZsF:PySem.W.keepIn K (.ref ZsH)=true)
  {t_FEWEST_PITS:Tok} (a_FEWEST_PITS:PySem.W.nsIn K mainGlobals "FEWEST_PITS"=some (some (.int 2 t_FEWEST_PITS)))
  {t_MOST_PITS:Tok} (a_MOST_PITS:PySem.W.nsIn K mainGlobals "MOST_PITS"=some (some (.int 24 t_MOST_PITS)))
  (z_all:PySem.W.nsIn K mainGlobals "all"=some none)
  (z_bool:PySem.W.nsIn K mainGlobals "bool"=some none)
  (z_enumerate:PySem.W.nsIn K mainGlobals "enumerate"=some none)
  (z_int:PySem.W.nsIn K mainGlobals "int"=some none)
  (z_isinstance:PySem.W.nsIn K mainGlobals "isinstance"=some none)
  (z_len:PySem.W.nsIn K mainGlobals "len"=some none)
  (z_list:PySem.W.nsIn K mainGlobals "list"=some none)
  (z_min:PySem.W.nsIn K mainGlobals "min"=some none)
  (z_range:PySem.W.nsIn K mainGlobals "range"=some none)
  (z_sorted:PySem.W.nsIn K mainGlobals "sorted"=some none)
  (z_sum:PySem.W.nsIn K mainGlobals "sum"=some none)
  (z_tuple:PySem.W.nsIn K mainGlobals "tuple"=some none)
  (x_tab:Zm7 K XN XS=true) (x_exc:Zi9 K XR=true) (x_at:(XA.all (Zlx K))=true)
  {CI_BadPlan fi_BadPlan S_BadPlan:Addr}{odi_BadPlan ani_BadPlan:Option Addr}{sli_BadPlan:Array (Option Value)}{oci_BadPlan kVi_BadPlan dci_BadPlan pmi_BadPlan cdi_BadPlan cti_BadPlan:Value}
  (ai_BadPlan:PySem.W.nsIn K mainGlobals "BadPlan"=some (some (.ref CI_BadPlan))) (nsi_BadPlan:PySem.W.findIn K (.ref CI_BadPlan) "__init__"=some (some (.ref fi_BadPlan))) (ki_BadPlan:PySem.W.keepIn K (.ref CI_BadPlan)=true) (ti_BadPlan:PySem.W.typeIn K (.ref fi_BadPlan)=some (.type "function")) (li_BadPlan:K.lookup fi_BadPlan=some ⟨oci_BadPlan,odi_BadPlan,.func (PySem.W.fnOf "__init__" "BadPlan.__init__" (Zq J0) (Zo J0) (Zd J0) .none kVi_BadPlan dci_BadPlan pmi_BadPlan ani_BadPlan cdi_BadPlan cti_BadPlan),sli_BadPlan⟩) (ci_BadPlan:PySem.W.codeIn K cdi_BadPlan "BadPlan.__init__"=true) (kf_BadPlan:PySem.W.keepIn K (.ref fi_BadPlan)=true)
  (as_BadPlan:PySem.W.nsIn K mainGlobals "SowError"=some (some (.ref S_BadPlan))) (xi_BadPlan:Zf9 K "BadPlan" "SowError"=true)
  {C_RingBook___init__ fm_RingBook___init__:Addr}{odm_RingBook___init__ anm_RingBook___init__:Option Addr}{slm_RingBook___init__:Array (Option Value)}{ocm_RingBook___init__ kVm_RingBook___init__ dcm_RingBook___init__ pmm_RingBook___init__ cdm_RingBook___init__ ctm_RingBook___init__:Value}
  (am_RingBook___init__:PySem.W.nsIn K mainGlobals "RingBook"=some (some (.ref C_RingBook___init__))) (fm1_RingBook___init__:PySem.W.findIn K (.ref C_RingBook___init__) "__init__"=some (some (.ref fm_RingBook___init__))) (tm_RingBook___init__:PySem.W.typeIn K (.ref fm_RingBook___init__)=some (.type "function")) (lm_RingBook___init__:K.lookup fm_RingBook___init__=some ⟨ocm_RingBook___init__,odm_RingBook___init__,.func (PySem.W.fnOf "__init__" "RingBook.__init__" (Zq Znv) (Zo Znv) (Zd Znv) .none kVm_RingBook___init__ dcm_RingBook___init__ pmm_RingBook___init__ anm_RingBook___init__ cdm_RingBook___init__ ctm_RingBook___init__),slm_RingBook___init__⟩) (cm_RingBook___init__:PySem.W.codeIn K cdm_RingBook___init__ "RingBook.__init__"=true) (km_RingBook___init__:PySem.W.keepIn K (.ref fm_RingBook___init__)=true)
  {C_RingBook_plan fm_RingBook_plan:Addr}{odm_RingBook_plan anm_RingBook_plan:Option Addr}{slm_RingBook_plan:Array (Option Value)}{ocm_RingBook_plan kVm_RingBook_plan dcm_RingBook_plan pmm_RingBook_plan cdm_RingBook_plan ctm_RingBook_plan:Value}
  (am_RingBook_plan:PySem.W.nsIn K mainGlobals "RingBook"=some (some (.ref C_RingBook_plan))) (fm1_RingBook_plan:PySem.W.findIn K (.ref C_RingBook_plan) "plan"=some (some (.ref fm_RingBook_plan))) (tm_RingBook_plan:PySem.W.typeIn K (.ref fm_RingBook_plan)=some (.type "function")) (lm_RingBook_plan:K.lookup fm_RingBook_plan=some ⟨ocm_RingBook_plan,odm_RingBook_plan,.func (PySem.W.fnOf "plan" "RingBook.plan" (Zq Zn7) (Zo Zn7) (Zd Zn7) .none kVm_RingBook_plan dcm_RingBook_plan pmm_RingBook_plan anm_RingBook_plan cdm_RingBook_plan ctm_RingBook_plan),slm_RingBook_plan⟩) (cm_RingBook_plan:PySem.W.codeIn K cdm_RingBook_plan "RingBook.plan"=true) (km_RingBook_plan:PySem.W.keepIn K (.ref fm_RingBook_plan)=true)
  {C_RingBook_came_again fm_RingBook_came_again:Addr}{odm_RingBook_came_again anm_RingBook_came_again:Option Addr}{slm_RingBook_came_again:Array (Option Value)}{ocm_RingBook_came_again kVm_RingBook_came_again dcm_RingBook_came_again pmm_RingBook_came_again cdm_RingBook_came_again ctm_RingBook_came_again:Value}
  (am_RingBook_came_again:PySem.W.nsIn K mainGlobals "RingBook"=some (some (.ref C_RingBook_came_again))) (fm1_RingBook_came_again:PySem.W.findIn K (.ref C_RingBook_came_again) "came_again"=some (some (.ref fm_RingBook_came_again))) (tm_RingBook_came_again:PySem.W.typeIn K (.ref fm_RingBook_came_again)=some (.type "function")) (lm_RingBook_came_again:K.lookup fm_RingBook_came_again=some ⟨ocm_RingBook_came_again,odm_RingBook_came_again,.func (PySem.W.fnOf "came_again" "RingBook.came_again" (Zq Znu) (Zo Znu) (Zd Znu) .none kVm_RingBook_came_again dcm_RingBook_came_again pmm_RingBook_came_again anm_RingBook_came_again cdm_RingBook_came_again ctm_RingBook_came_again),slm_RingBook_came_again⟩) (cm_RingBook_came_again:PySem.W.codeIn K cdm_RingBook_came_again "RingBook.came_again"=true) (km_RingBook_came_again:PySem.W.keepIn K (.ref fm_RingBook_came_again)=true)
  {C_RingBook_redo fm_RingBook_redo:Addr}{odm_RingBook_redo anm_RingBook_redo:Option Addr}{slm_RingBook_redo:Array (Option Value)}{ocm_RingBook_redo kVm_RingBook_redo dcm_RingBook_redo pmm_RingBook_redo cdm_RingBook_redo ctm_RingBook_redo:Value}
  (am_RingBook_redo:PySem.W.nsIn K mainGlobals "RingBook"=some (some (.ref C_RingBook_redo))) (fm1_RingBook_redo:PySem.W.findIn K (.ref C_RingBook_redo) "redo"=some (some (.ref fm_RingBook_redo))) (tm_RingBook_redo:PySem.W.typeIn K (.ref fm_RingBook_redo)=some (.type "function")) (lm_RingBook_redo:K.lookup fm_RingBook_redo=some ⟨ocm_RingBook_redo,odm_RingBook_redo,.func (PySem.W.fnOf "redo" "RingBook.redo" (Zq Zn6) (Zo Zn6) (Zd Zn6) .none kVm_RingBook_redo dcm_RingBook_redo pmm_RingBook_redo anm_RingBook_redo cdm_RingBook_redo ctm_RingBook_redo),slm_RingBook_redo⟩) (cm_RingBook_redo:PySem.W.codeIn K cdm_RingBook_redo "RingBook.redo"=true) (km_RingBook_redo:PySem.W.keepIn K (.ref fm_RingBook_redo)=true)
  {C_RingBook_undo fm_RingBook_undo:Addr}{odm_RingBook_undo anm_RingBook_undo:Option Addr}{slm_RingBook_undo:Array (Option Value)}{ocm_RingBook_undo kVm_RingBook_undo dcm_RingBook_undo pmm_RingBook_undo cdm_RingBook_undo ctm_RingBook_undo:Value}
  (am_RingBook_undo:PySem.W.nsIn K mainGlobals "RingBook"=some (some (.ref C_RingBook_undo))) (fm1_RingBook_undo:PySem.W.findIn K (.ref C_RingBook_undo) "undo"=some (some (.ref fm_RingBook_undo))) (tm_RingBook_undo:PySem.W.typeIn K (.ref fm_RingBook_undo)=some (.type "function")) (lm_RingBook_undo:K.lookup fm_RingBook_undo=some ⟨ocm_RingBook_undo,odm_RingBook_undo,.func (PySem.W.fnOf "undo" "RingBook.undo" (Zq Zn5) (Zo Zn5) (Zd Zn5) .none kVm_RingBook_undo dcm_RingBook_undo pmm_RingBook_undo anm_RingBook_undo cdm_RingBook_undo ctm_RingBook_undo),slm_RingBook_undo⟩) (cm_RingBook_undo:PySem.W.codeIn K cdm_RingBook_undo "RingBook.undo"=true) (km_RingBook_undo:PySem.W.keepIn K (.ref fm_RingBook_undo)=true)
  {C_RingBook_board fm_RingBook_board:Addr}{odm_RingBook_board anm_RingBook_board:Option Addr}{slm_RingBook_board:Array (Option Value)}{ocm_RingBook_board kVm_RingBook_board dcm_RingBook_board pmm_RingBook_board cdm_RingBook_board ctm_RingBook_board:Value}
  (am_RingBook_board:PySem.W.nsIn K mainGlobals "RingBook"=some (some (.ref C_RingBook_board))) (fm1_RingBook_board:PySem.W.findIn K (.ref C_RingBook_board) "board"=some (some (.ref fm_RingBook_board))) (tm_RingBook_board:PySem.W.typeIn K (.ref fm_RingBook_board)=some (.type "function")) (lm_RingBook_board:K.lookup fm_RingBook_board=some ⟨ocm_RingBook_board,odm_RingBook_board,.func (PySem.W.fnOf "board" "RingBook.board" (Zq Zn0) (Zo Zn0) (Zd Zn0) .none kVm_RingBook_board dcm_RingBook_board pmm_RingBook_board anm_RingBook_board cdm_RingBook_board ctm_RingBook_board),slm_RingBook_board⟩) (cm_RingBook_board:PySem.W.codeIn K cdm_RingBook_board "RingBook.board"=true) (km_RingBook_board:PySem.W.keepIn K (.ref fm_RingBook_board)=true)
  {C_RingBook_sown_in_all fm_RingBook_sown_in_all:Addr}{odm_RingBook_sown_in_all anm_RingBook_sown_in_all:Option Addr}{slm_RingBook_sown_in_all:Array (Option Value)}{ocm_RingBook_sown_in_all kVm_RingBook_sown_in_all dcm_RingBook_sown_in_all pmm_RingBook_sown_in_all cdm_RingBook_sown_in_all ctm_RingBook_sown_in_all:Value}
  (am_RingBook_sown_in_all:PySem.W.nsIn K mainGlobals "RingBook"=some (some (.ref C_RingBook_sown_in_all))) (fm1_RingBook_sown_in_all:PySem.W.findIn K (.ref C_RingBook_sown_in_all) "sown_in_all"=some (some (.ref fm_RingBook_sown_in_all))) (tm_RingBook_sown_in_all:PySem.W.typeIn K (.ref fm_RingBook_sown_in_all)=some (.type "function")) (lm_RingBook_sown_in_all:K.lookup fm_RingBook_sown_in_all=some ⟨ocm_RingBook_sown_in_all,odm_RingBook_sown_in_all,.func (PySem.W.fnOf "sown_in_all" "RingBook.sown_in_all" (Zq Znt) (Zo Znt) (Zd Znt) .none kVm_RingBook_sown_in_all dcm_RingBook_sown_in_all pmm_RingBook_sown_in_all anm_RingBook_sown_in_all cdm_RingBook_sown_in_all ctm_RingBook_sown_in_all),slm_RingBook_sown_in_all⟩) (cm_RingBook_sown_in_all:PySem.W.codeIn K cdm_RingBook_sown_in_all "RingBook.sown_in_all"=true) (km_RingBook_sown_in_all:PySem.W.keepIn K (.ref fm_RingBook_sown_in_all)=true)
  {C_RingBook_enter fm_RingBook_enter:Addr}{odm_RingBook_enter anm_RingBook_enter:Option Addr}{slm_RingBook_enter:Array (Option Value)}{ocm_RingBook_enter kVm_RingBook_enter dcm_RingBook_enter pmm_RingBook_enter cdm_RingBook_enter ctm_RingBook_enter:Value}
  (am_RingBook_enter:PySem.W.nsIn K mainGlobals "RingBook"=some (some (.ref C_RingBook_enter))) (fm1_RingBook_enter:PySem.W.findIn K (.ref C_RingBook_enter) "enter"=some (some (.ref fm_RingBook_enter))) (tm_RingBook_enter:PySem.W.typeIn K (.ref fm_RingBook_enter)=some (.type "function")) (lm_RingBook_enter:K.lookup fm_RingBook_enter=some ⟨ocm_RingBook_enter,odm_RingBook_enter,.func (PySem.W.fnOf "enter" "RingBook.enter" (Zq Znz) (Zo Znz) (Zd Znz) .none kVm_RingBook_enter dcm_RingBook_enter pmm_RingBook_enter anm_RingBook_enter cdm_RingBook_enter ctm_RingBook_enter),slm_RingBook_enter⟩) (cm_RingBook_enter:PySem.W.codeIn K cdm_RingBook_enter "RingBook.enter"=true) (km_RingBook_enter:PySem.W.keepIn K (.ref fm_RingBook_enter)=true)
  {C_RingBook_sow fm_RingBook_sow:Addr}{odm_RingBook_sow anm_RingBook_sow:Option Addr}{slm_RingBook_sow:Array (Option Value)}{ocm_RingBook_sow kVm_RingBook_sow dcm_RingBook_sow pmm_RingBook_sow cdm_RingBook_sow ctm_RingBook_sow:Value}
  (am_RingBook_sow:PySem.W.nsIn K mainGlobals "RingBook"=some (some (.ref C_RingBook_sow))) (fm1_RingBook_sow:PySem.W.findIn K (.ref C_RingBook_sow) "sow"=some (some (.ref fm_RingBook_sow))) (tm_RingBook_sow:PySem.W.typeIn K (.ref fm_RingBook_sow)=some (.type "function")) (lm_RingBook_sow:K.lookup fm_RingBook_sow=some ⟨ocm_RingBook_sow,odm_RingBook_sow,.func (PySem.W.fnOf "sow" "RingBook.sow" (Zq ZnC) (Zo ZnC) (Zd ZnC) .none kVm_RingBook_sow dcm_RingBook_sow pmm_RingBook_sow anm_RingBook_sow cdm_RingBook_sow ctm_RingBook_sow),slm_RingBook_sow⟩) (cm_RingBook_sow:PySem.W.codeIn K cdm_RingBook_sow "RingBook.sow"=true) (km_RingBook_sow:PySem.W.keepIn K (.ref fm_RingBook_sow)=true)
  {C_RingBook_back fm_RingBook_back:Addr}{odm_RingBook_back anm_RingBook_back:Option Addr}{slm_RingBook_back:Array (Option Value)}{ocm_RingBook_back kVm_RingBook_back dcm_RingBook_back pmm_RingBook_back cdm_RingBook_back ctm_RingBook_back:Value}
  (am_RingBook_back:PySem.W.nsIn K mainGlobals "RingBook"=some (some (.ref C_RingBook_back))) (fm1_RingBook_back:PySem.W.findIn K (.ref C_RingBook_back) "back"=some (some (.ref fm_RingBook_back))) (tm_RingBook_back:PySem.W.typeIn K (.ref fm_RingBook_back)=some (.type "function")) (lm_RingBook_back:K.lookup fm_RingBook_back=some ⟨ocm_RingBook_back,odm_RingBook_back,.func (PySem.W.fnOf "back" "RingBook.back" (Zq Zn8) (Zo Zn8) (Zd Zn8) .none kVm_RingBook_back dcm_RingBook_back pmm_RingBook_back anm_RingBook_back cdm_RingBook_back ctm_RingBook_back),slm_RingBook_back⟩) (cm_RingBook_back:PySem.W.codeIn K cdm_RingBook_back "RingBook.back"=true) (km_RingBook_back:PySem.W.keepIn K (.ref fm_RingBook_back)=true)
  (o_RingBook:Q5 K "RingBook" Zs=true)
  :Txt K mg:=by
 refine⟨?_, ?_, ?_, ?_, ?_, ?_, ?_, ?_, ?_, ?_, ?_, ?_, ?_, ?_, ?_, ?_, ?_, ?_, ?_, ?_, ?_, ?_, ?_, ?_, ?_, ?_, ?_, ?_, ?_, ?_, ?_, ?_, ?_, ?_, ?_, ?_,x_tab,x_exc,x_at,fun n C e=>PySem.W.mg_of X G e,Zg1 ai_BadPlan nsi_BadPlan ki_BadPlan ti_BadPlan (ZA (st:=J0) li_BadPlan ci_BadPlan kf_BadPlan) as_BadPlan xi_BadPlan,⟨_,_,_,am_RingBook___init__,fm1_RingBook___init__,tm_RingBook___init__,ZA (st:=Znv) lm_RingBook___init__ cm_RingBook___init__ km_RingBook___init__⟩,⟨_,_,_,am_RingBook_plan,fm1_RingBook_plan,tm_RingBook_plan,ZA (st:=Zn7) lm_RingBook_plan cm_RingBook_plan km_RingBook_plan⟩,⟨_,_,_,am_RingBook_came_again,fm1_RingBook_came_again,tm_RingBook_came_again,ZA (st:=Znu) lm_RingBook_came_again cm_RingBook_came_again km_RingBook_came_again⟩,⟨_,_,_,am_RingBook_redo,fm1_RingBook_redo,tm_RingBook_redo,ZA (st:=Zn6) lm_RingBook_redo cm_RingBook_redo km_RingBook_redo⟩,⟨_,_,_,am_RingBook_undo,fm1_RingBook_undo,tm_RingBook_undo,ZA (st:=Zn5) lm_RingBook_undo cm_RingBook_undo km_RingBook_undo⟩,⟨_,_,_,am_RingBook_board,fm1_RingBook_board,tm_RingBook_board,ZA (st:=Zn0) lm_RingBook_board cm_RingBook_board km_RingBook_board⟩,⟨_,_,_,am_RingBook_sown_in_all,fm1_RingBook_sown_in_all,tm_RingBook_sown_in_all,ZA (st:=Znt) lm_RingBook_sown_in_all cm_RingBook_sown_in_all km_RingBook_sown_in_all⟩,⟨_,_,_,am_RingBook_enter,fm1_RingBook_enter,tm_RingBook_enter,ZA (st:=Znz) lm_RingBook_enter cm_RingBook_enter km_RingBook_enter⟩,⟨_,_,_,am_RingBook_sow,fm1_RingBook_sow,tm_RingBook_sow,ZA (st:=ZnC) lm_RingBook_sow cm_RingBook_sow km_RingBook_sow⟩,⟨_,_,_,am_RingBook_back,fm1_RingBook_back,tm_RingBook_back,ZA (st:=Zn8) lm_RingBook_back cm_RingBook_back km_RingBook_back⟩,o_RingBook⟩
 ·exact⟨_,_,ZA (st:=ZoG) Zrc Zqs Zrf,PySem.W.mg_of X G Zrt⟩
 ·exact⟨_,_,ZA (st:=ZnY) Zpx Zo9 Zp0,PySem.W.mg_of X G Zp9⟩
 ·exact⟨_,_,ZA (st:=Zoh) Zqc ZoK Zqg,PySem.W.mg_of X G Zqy⟩
 ·exact⟨_,_,ZA (st:=Zo2) ZqL Zpo ZqN,PySem.W.mg_of X G ZqR⟩
 ·exact⟨_,_,ZA (st:=ZnK) ZoR Zod ZoS,PySem.W.mg_of X G ZoW⟩
 ·exact⟨_,_,ZA (st:=Znx) Zos ZnL Zot,PySem.W.mg_of X G Zov⟩
 ·exact⟨_,_,ZA (st:=Zof) Zqa ZoI Zqe,PySem.W.mg_of X G Zqw⟩
 ·exact⟨_,_,ZA (st:=Zo3) ZqM Zpp ZqO,PySem.W.mg_of X G ZqS⟩
 ·exact⟨_,_,ZA (st:=ZnW) Zpv Zol Zpy,PySem.W.mg_of X G Zp7⟩
 ·exact⟨_,_,ZA (st:=Zpc) ZrA Zq1 ZrC,PySem.W.mg_of X G ZrR⟩
 ·exact⟨_,_,ZA (st:=ZnX) Zpw Zom Zpz,PySem.W.mg_of X G Zp8⟩
 ·exact⟨_,_,ZA (st:=ZnR) Zpd Zoq Zpe,PySem.W.mg_of X G Zpi⟩
 ·exact⟨_,_,ZA (st:=ZoE) Zra Zpn Zrd,PySem.W.mg_of X G Zrr⟩
 ·exact⟨_,_,ZA (st:=ZoF) Zrb Zpq Zre,PySem.W.mg_of X G Zrs⟩
 ·exact⟨_,_,ZA (st:=Zpb) Zr9 ZqG ZrB,PySem.W.mg_of X G ZrQ⟩
 ·exact⟨_,_,ZA (st:=Zn2) Zo6 Zob Zo7,PySem.W.mg_of X G ZoA⟩
 ·exact⟨_,_,ZA (st:=Zog) Zqb ZoJ Zqf,PySem.W.mg_of X G Zqx⟩
 ·exact⟨_,_,ZA (st:=Zor) Zq6 ZoU Zq7,PySem.W.mg_of X G ZqD⟩
 ·exact⟨_,_,ZA (st:=ZnF) ZoL ZnV ZoM,PySem.W.mg_of X G ZoO⟩
 ·exact⟨_,_,ZA (st:=ZqT) Zs5 Zse Zs6,PySem.W.mg_of X G ZsA⟩
 ·exact⟨_,_,ZA (st:=Zoe) ZpZ ZoH Zqd,PySem.W.mg_of X G Zqv⟩
 ·exact⟨_,_,ZA (st:=ZrW) ZsE ZsI ZsF,PySem.W.mg_of X G ZsK⟩
 ·exact⟨_,PySem.W.mg_of X G a_FEWEST_PITS⟩
 ·exact⟨_,PySem.W.mg_of X G a_MOST_PITS⟩
 ·exact PySem.W.mg_none_of X G z_all
 ·exact PySem.W.mg_none_of X G z_bool
 ·exact PySem.W.mg_none_of X G z_enumerate
 ·exact PySem.W.mg_none_of X G z_int
 ·exact PySem.W.mg_none_of X G z_isinstance
 ·exact PySem.W.mg_none_of X G z_len
 ·exact PySem.W.mg_none_of X G z_list
 ·exact PySem.W.mg_none_of X G z_min
 ·exact PySem.W.mg_none_of X G z_range
 ·exact PySem.W.mg_none_of X G z_sorted
 ·exact PySem.W.mg_none_of X G z_sum
 ·exact PySem.W.mg_none_of X G z_tuple
end My
namespace PySem.W.Fast
noncomputable def tw379479853164074080:=()
noncomputable def tw11175351832466695296:=()
noncomputable def tw146149164338430272:=()
noncomputable def tw3324386843131959744:=()
noncomputable def tw9130929129647489504:=()
noncomputable def tw1780294652472167136:=()
noncomputable def tw9274583862588735681:=()
noncomputable def tw14673263551544819937:=()
noncomputable def tw14530524617663760769:=()
noncomputable def tw28817829868845473:=()
noncomputable def tw7530719908122325505:=()
noncomputable def tw1758815864514981473:=()
noncomputable def tw16860245732117318305:=()
noncomputable def tw17688317441320465057:=()
noncomputable def tw10414847760763838209:=()
noncomputable def tw15825707502480079681:=()
noncomputable def tw7752357591311559553:=()
noncomputable def tw14724997116376290338:=()
noncomputable def tw7851739523247806914:=()
noncomputable def tw761130429704708578:=()
noncomputable def tw5100829215082884802:=()
noncomputable def tw6210818499750380290:=()
noncomputable def tw12908938860851148610:=()
noncomputable def tw11858026163911810243:=()
noncomputable def tw324189109376625027:=()
noncomputable def tw5827735284325348835:=()
noncomputable def tw17747068093330891427:=()
noncomputable def tw2646726699706549987:=()
noncomputable def tw17233005633088081635:=()
noncomputable def tw5266136651663554564:=()
noncomputable def tw16021371875963539524:=()
noncomputable def tw2169797646837219492:=()
noncomputable def tw16526747760894768484:=()
noncomputable def tw2106335849349601764:=()
noncomputable def tw13772875960902442628:=()
noncomputable def tw8275459080264620804:=()
noncomputable def tw17605355442037365540:=()
noncomputable def tw6613679979309440804:=()
noncomputable def tw3354218597485167460:=()
noncomputable def tw5633240442385442660:=()
noncomputable def tw15970765333616356228:=()
noncomputable def tw351136439946238852:=()
noncomputable def tw4423169023077550085:=()
noncomputable def tw2756647551093938597:=()
noncomputable def tw15344005184806706725:=()
noncomputable def tw13655472392724160197:=()
noncomputable def tw16813587690220194533:=()
noncomputable def tw13629243017575946246:=()
noncomputable def tw8969412058749982758:=()
noncomputable def tw12061742897438027846:=()
noncomputable def tw3495594099155720294:=()
noncomputable def tw15258405467034728582:=()
noncomputable def tw14235216998726749382:=()
noncomputable def tw13121846618080453830:=()
noncomputable def tw14331784357431182630:=()
noncomputable def tw9712474388484121894:=()
noncomputable def tw7511346294135917926:=()
noncomputable def tw18105989128778050982:=()
noncomputable def tw6692685340785634918:=()
noncomputable def tw11324376369402635878:=()
noncomputable def tw9608056428644487782:=()
noncomputable def tw7971863786928043718:=()
noncomputable def tw6409936908736538342:=()
noncomputable def tw7273534880890548134:=()
noncomputable def tw15910188094731870150:=()
noncomputable def tw10274700105733837766:=()
noncomputable def tw12447440994815319175:=()
noncomputable def tw16101891518919294119:=()
noncomputable def tw17431029139399274727:=()
noncomputable def tw11698445627012852007:=()
noncomputable def tw7621052915226769703:=()
noncomputable def tw9504359323873432999:=()
noncomputable def tw282498401731628583:=()
noncomputable def tw10427327647517189831:=()
noncomputable def tw4637009590508296935:=()
noncomputable def tw13630133299106985735:=()
noncomputable def tw5289936522477467431:=()
noncomputable def tw567143025040069511:=()
noncomputable def tw5368904727816869928:=()
noncomputable def tw14507142910269618248:=()
noncomputable def tw15446027761569583240:=()
noncomputable def tw3739741912716367080:=()
noncomputable def tw1586436298046967464:=()
noncomputable def tw2284485834075691720:=()
noncomputable def tw651024855236033480:=()
noncomputable def tw13946413185624995881:=()
noncomputable def tw6866537524725410089:=()
noncomputable def tw8039684797286618569:=()
noncomputable def tw3485867793311681065:=()
noncomputable def tw16379609892980347018:=()
noncomputable def tw16872764229344180394:=()
noncomputable def tw17734381000558378442:=()
noncomputable def tw7306581470502062026:=()
noncomputable def tw5661439843740785803:=()
noncomputable def tw17213951045024268427:=()
noncomputable def tw2862588076710862027:=()
noncomputable def tw1476873338148389099:=()
noncomputable def tw3391080654485715211:=()
noncomputable def tw16348154783236054443:=()
noncomputable def tw16454771756579715627:=()
noncomputable def tw498966685919671883:=()
noncomputable def tw17004970675111246475:=()
noncomputable def tw8223156607017684779:=()
noncomputable def tw9849147488015891435:=()
noncomputable def tw4856614556863672492:=()
noncomputable def tw5407834197780584716:=()
noncomputable def tw3147179724098831884:=()
noncomputable def tw17212298915468761644:=()
noncomputable def tw6541556176870744716:=()
noncomputable def tw4152551072732560044:=()
noncomputable def tw18069589787992831692:=()
noncomputable def tw16274863449917924172:=()
noncomputable def tw18241726568022881228:=()
noncomputable def tw11303434717092962317:=()
noncomputable def tw14458309034929977709:=()
noncomputable def tw10905109025627232749:=()
noncomputable def tw5792256799944199757:=()
noncomputable def tw3445894223103096493:=()
noncomputable def tw12859330837012825069:=()
noncomputable def tw11856210506132900974:=()
noncomputable def tw16896158411963463822:=()
noncomputable def tw1695108206976586990:=()
noncomputable def tw18423466041901842862:=()
noncomputable def tw8005476608604009934:=()
noncomputable def tw4633820247843795438:=()
noncomputable def tw18330423775436735022:=()
noncomputable def tw10409927557060388462:=()
noncomputable def tw8109124682372755086:=()
noncomputable def tw10312464037952507726:=()
noncomputable def tw10834444728576012238:=()
noncomputable def tw3026462433033779311:=()
noncomputable def tw6871700341411568911:=()
noncomputable def tw22570391960698255:=()
noncomputable def tw3462373143984685455:=()
noncomputable def tw11326387864196129295:=()
noncomputable def tw15074773245318653487:=()
noncomputable def tw186471028419892879:=()
noncomputable def tw10195046432805253935:=()
noncomputable def tw10876830989414840207:=()
noncomputable def tw12497748763615422383:=()
noncomputable def tw12474523301649696719:=()
noncomputable def tw17465432248068070383:=()
noncomputable def tw2213198007951523888:=()
noncomputable def tw11567005156880780496:=()
noncomputable def tw2763758453345979632:=()
noncomputable def tw1794296278022642000:=()
noncomputable def tw10612302221509806480:=()
noncomputable def tw13848580495073271344:=()
noncomputable def tw3273746804311644720:=()
noncomputable def tw17572524898356517616:=()
noncomputable def tw13945401613267747792:=()
noncomputable def tw12110867662325020689:=()
noncomputable def tw16413785012757777521:=()
noncomputable def tw4928410665170729457:=()
noncomputable def tw520896447726984945:=()
noncomputable def tw3680943202970963729:=()
noncomputable def tw4047122270094368625:=()
noncomputable def tw5675949261090004018:=()
noncomputable def tw15890741288999103666:=()
noncomputable def tw5370459212110203314:=()
noncomputable def tw14916372359771340210:=()
noncomputable def tw10361172935053329842:=()
noncomputable def tw9652314676014250450:=()
noncomputable def tw8564883011501970898:=()
noncomputable def tw8246466874568252946:=()
noncomputable def tw12138010169515230834:=()
noncomputable def tw13296758043149406866:=()
noncomputable def tw15538924736462366610:=()
noncomputable def tw1260411418346694578:=()
noncomputable def tw17969862296596351954:=()
noncomputable def tw8703624326734259315:=()
noncomputable def tw2315054535483297939:=()
noncomputable def tw17224723283060919667:=()
noncomputable def tw16497764343147608435:=()
noncomputable def tw15323971893560816147:=()
noncomputable def tw10792875792715780627:=()
noncomputable def tw5880494357745143379:=()
noncomputable def tw1595087813957649139:=()
noncomputable def tw16751927097920028595:=()
noncomputable def tw3459404548703509588:=()
noncomputable def tw3733752699350057204:=()
noncomputable def tw16825037559649170676:=()
noncomputable def tw13238820003789084948:=()
noncomputable def tw10369725734528052500:=()
noncomputable def tw8923630022993546644:=()
noncomputable def tw12189799562639410676:=()
noncomputable def tw3069580043787109236:=()
noncomputable def tw16916031178977501076:=()
noncomputable def tw113818723543988277:=()
noncomputable def tw17602489222769814741:=()
noncomputable def tw4936965354769638677:=()
noncomputable def tw13132051117254400277:=()
noncomputable def tw5154233008517038421:=()
noncomputable def tw5882981947484518773:=()
noncomputable def tw13524849923282643445:=()
noncomputable def tw8629147262591272885:=()
noncomputable def tw15152963543760003094:=()
noncomputable def tw870204062954978358:=()
noncomputable def tw8594925073087285878:=()
noncomputable def tw14162748740851948246:=()
noncomputable def tw9747696320641579830:=()
noncomputable def tw4505100492070660982:=()
noncomputable def tw16116951170395306359:=()
noncomputable def tw16370127519319207351:=()
noncomputable def tw3481376587133571543:=()
noncomputable def tw3329652199951269367:=()
noncomputable def tw8311564510282707479:=()
noncomputable def tw11539314348878295607:=()
noncomputable def tw7802790791931889303:=()
noncomputable def tw4310813082619375319:=()
noncomputable def tw9148618193485849303:=()
noncomputable def tw9123101521490486103:=()
noncomputable def tw7349394482084888664:=()
noncomputable def tw1162416206383530136:=()
noncomputable def tw15630156831792886936:=()
noncomputable def tw7051884687269597368:=()
noncomputable def tw7344916680604980440:=()
noncomputable def tw3560302965927194936:=()
noncomputable def tw8269327383058501976:=()
noncomputable def tw8968669863990033816:=()
noncomputable def tw5543196172982608344:=()
noncomputable def tw13958297696978453016:=()
noncomputable def tw9053620352410884664:=()
noncomputable def tw8067295747951822424:=()
noncomputable def tw2335886695428087512:=()
noncomputable def tw9668915657527645209:=()
noncomputable def tw11998909015636768857:=()
noncomputable def tw11922906467271041337:=()
noncomputable def tw1199334688952153529:=()
noncomputable def tw11457305011617637881:=()
noncomputable def tw6371097852549998393:=()
noncomputable def tw6661965290752715673:=()
noncomputable def tw9981899317742956473:=()
noncomputable def tw3139882817477795833:=()
noncomputable def tw6130793271210745882:=()
noncomputable def tw7679100091958218778:=()
noncomputable def tw17886429329396792442:=()
noncomputable def tw16861203243585605882:=()
noncomputable def tw6566340725196271194:=()
noncomputable def tw8410834914064284314:=()
noncomputable def tw3462544740096784122:=()
noncomputable def tw8930820728717570010:=()
noncomputable def tw10462655267862923226:=()
noncomputable def tw15121029558798712955:=()
noncomputable def tw14652246385881082043:=()
noncomputable def tw14933724726049894619:=()
noncomputable def tw9996551405424377179:=()
noncomputable def tw11468857577625786779:=()
noncomputable def tw13042153667068608955:=()
noncomputable def tw18019698890128463323:=()
noncomputable def tw6188905615362084347:=()
noncomputable def tw16889036311090008571:=()
noncomputable def tw11456222691525309979:=()
noncomputable def tw13423286495559194267:=()
noncomputable def tw11625258371049449243:=()
noncomputable def tw13689369030261610299:=()
noncomputable def tw17870189561672140828:=()
noncomputable def tw5651108694455128732:=()
noncomputable def tw10816934148712022908:=()
noncomputable def tw16144411438974931005:=()
noncomputable def tw17758713925091566685:=()
noncomputable def tw139160265276719293:=()
noncomputable def tw7706245883145927965:=()
noncomputable def tw15242655373178653053:=()
noncomputable def tw916099316769320445:=()
noncomputable def tw211604435304337181:=()
noncomputable def tw5649973440010932061:=()
noncomputable def tw5323428282184899485:=()
noncomputable def tw10441498834452180957:=()
noncomputable def tw15289044474964783101:=()
noncomputable def tw777336923106407454:=()
noncomputable def tw11817751197580222942:=()
noncomputable def tw18072887878659920350:=()
noncomputable def tw18055071035382110846:=()
noncomputable def tw17127511597223916190:=()
noncomputable def tw10774759422256268958:=()
noncomputable def tw16545001175714798270:=()
noncomputable def tw10064701135309984606:=()
noncomputable def tw9386458348421965855:=()
noncomputable def tw11734077394720159871:=()
noncomputable def tw14187795348334477471:=()
noncomputable def tw1841471680734964959:=()
noncomputable def tw1044438286556064063:=()
noncomputable def tw12597339433948920159:=()
noncomputable def tw12315448662910289439:=()
noncomputable def tw3243778382678690399:=()
noncomputable def tw10658536624053861151:=()
noncomputable def tw13019444430767684415:=()
noncomputable def tw17389742917117548479:=()
noncomputable def tw11348844938904696799:=()
noncomputable def tw8052051506682937443:=()
noncomputable def tw8606184318147949516:=()
noncomputable def tw14742894755774354853:=()
noncomputable def tw2864513165203702390:=()
noncomputable def tw7171511436673890139:=()
noncomputable def tw15149854950150552950:=()
noncomputable def tw17979898496815413971:=()
noncomputable def tw7524916528633096770:=()
end PySem.W.Fast
open PySem PySem.W PyProof.Rows
set_option maxRecDepth 100000 in
set_option maxHeartbeats 0 in
theorem PySem.Challenge.cw_sowring_k61_whole_books_walked_holds : PySem.Challenge.rw_sowring_k61_whole_books_walked.Holds := by
 w_on;o_law;k_head;(case hw=>w_witness2)
 k_fill
 refine L2.Zg5 (l:=PySem.Challenge.rw_sowring_k61_whole_books_walked) (n:=63) (k:=9) (x := "script") (CX:=L2.CX0) (sp:=My.Ze3) rfl (by decide) rfl ⟨rfl,by decide,by decide⟩ (fun w h Y=>by first|exact PySem.W.kIn_of Y|exact PySem.W.km_in_of Y) ?F ?S ?C
 case F =>
  intro w mg fa h KX G hmg
  have T:My.Txt (L2.KOf KX) mg:=by
   dsimp only[L2.KOf]
   refine' My.ZjV KX G ?Zrt ?Zrc ?Zqs ?Zrf ?Zp9 ?Zpx ?Zo9 ?Zp0 ?Zqy ?Zqc ?ZoK ?Zqg ?ZqR ?ZqL ?Zpo ?ZqN ?ZoW ?ZoR ?Zod ?ZoS ?Zov ?Zos ?ZnL ?Zot ?Zqw ?Zqa ?ZoI ?Zqe ?ZqS ?ZqM ?Zpp ?ZqO ?Zp7 ?Zpv ?Zol ?Zpy ?ZrR ?ZrA ?Zq1 ?ZrC ?Zp8 ?Zpw ?Zom ?Zpz ?Zpi ?Zpd ?Zoq ?Zpe ?Zrr ?Zra ?Zpn ?Zrd ?Zrs ?Zrb ?Zpq ?Zre ?ZrQ ?Zr9 ?ZqG ?ZrB ?ZoA ?Zo6 ?Zob ?Zo7 ?Zqx ?Zqb ?ZoJ ?Zqf ?ZqD ?Zq6 ?ZoU ?Zq7 ?ZoO ?ZoL ?ZnV ?ZoM ?ZsA ?Zs5 ?Zse ?Zs6 ?Zqv ?ZpZ ?ZoH ?Zqd ?ZsK ?ZsE ?ZsI ?ZsF ?a_FEWEST_PITS ?a_MOST_PITS ?z_all ?z_bool ?z_enumerate ?z_int ?z_isinstance ?z_len ?z_list ?z_min ?z_range ?z_sorted ?z_sum ?z_tuple ?x_tab ?x_exc ?x_at ?ai_BadPlan ?nsi_BadPlan ?ki_BadPlan ?ti_BadPlan ?li_BadPlan ?ci_BadPlan ?kf_BadPlan ?as_BadPlan ?xi_BadPlan ?am_RingBook___init__ ?fm1_RingBook___init__ ?tm_RingBook___init__ ?lm_RingBook___init__ ?cm_RingBook___init__ ?km_RingBook___init__ ?am_RingBook_plan ?fm1_RingBook_plan ?tm_RingBook_plan ?lm_RingBook_plan ?cm_RingBook_plan ?km_RingBook_plan ?am_RingBook_came_again ?fm1_RingBook_came_again ?tm_RingBook_came_again ?lm_RingBook_came_again ?cm_RingBook_came_again ?km_RingBook_came_again ?am_RingBook_redo ?fm1_RingBook_redo ?tm_RingBook_redo ?lm_RingBook_redo ?cm_RingBook_redo ?km_RingBook_redo ?am_RingBook_undo ?fm1_RingBook_undo ?tm_RingBook_undo ?lm_RingBook_undo ?cm_RingBook_undo ?km_RingBook_undo ?am_RingBook_board ?fm1_RingBook_board ?tm_RingBook_board ?lm_RingBook_board ?cm_RingBook_board ?km_RingBook_board ?am_RingBook_sown_in_all ?fm1_RingBook_sown_in_all ?tm_RingBook_sown_in_all ?lm_RingBook_sown_in_all ?cm_RingBook_sown_in_all ?km_RingBook_sown_in_all ?am_RingBook_enter ?fm1_RingBook_enter ?tm_RingBook_enter ?lm_RingBook_enter ?cm_RingBook_enter ?km_RingBook_enter ?am_RingBook_sow ?fm1_RingBook_sow ?tm_RingBook_sow ?lm_RingBook_sow ?cm_RingBook_sow ?km_RingBook_sow ?am_RingBook_back ?fm1_RingBook_back ?tm_RingBook_back ?lm_RingBook_back ?cm_RingBook_back ?km_RingBook_back ?o_RingBook
   (case Zrt=>k_is)
   (case Zrc=>k_is)
   (case Zqs=>k_is)
   (case Zrf=>k_is)
   (case Zp9=>k_is)
   (case Zpx=>k_is)
   (case Zo9=>k_is)
   (case Zp0=>k_is)
   (case Zqy=>k_is)
   (case Zqc=>k_is)
   (case ZoK=>k_is)
   (case Zqg=>k_is)
   (case ZqR=>k_is)
   (case ZqL=>k_is)
   (case Zpo=>k_is)
   (case ZqN=>k_is)
   (case ZoW=>k_is)
   (case ZoR=>k_is)
   (case Zod=>k_is)
   (case ZoS=>k_is)
   (case Zov=>k_is)
   (case Zos=>k_is)
   (case ZnL=>k_is)
   (case Zot=>k_is)
   (case Zqw=>k_is)
   (case Zqa=>k_is)
   (case ZoI=>k_is)
   (case Zqe=>k_is)
   (case ZqS=>k_is)
   (case ZqM=>k_is)
   (case Zpp=>k_is)
   (case ZqO=>k_is)
   (case Zp7=>k_is)
   (case Zpv=>k_is)
   (case Zol=>k_is)
   (case Zpy=>k_is)
   (case ZrR=>k_is)
   (case ZrA=>k_is)
   (case Zq1=>k_is)
   (case ZrC=>k_is)
   (case Zp8=>k_is)
   (case Zpw=>k_is)
   (case Zom=>k_is)
   (case Zpz=>k_is)
   (case Zpi=>k_is)
   (case Zpd=>k_is)
   (case Zoq=>k_is)
   (case Zpe=>k_is)
   (case Zrr=>k_is)
   (case Zra=>k_is)
   (case Zpn=>k_is)
   (case Zrd=>k_is)
   (case Zrs=>k_is)
   (case Zrb=>k_is)
   (case Zpq=>k_is)
   (case Zre=>k_is)
   (case ZrQ=>k_is)
   (case Zr9=>k_is)
   (case ZqG=>k_is)
   (case ZrB=>k_is)
   (case ZoA=>k_is)
   (case Zo6=>k_is)
   (case Zob=>k_is)
   (case Zo7=>k_is)
   (case Zqx=>k_is)
   (case Zqb=>k_is)
   (case ZoJ=>k_is)
   (case Zqf=>k_is)
   (case ZqD=>k_is)
   (case Zq6=>k_is)
   (case ZoU=>k_is)
   (case Zq7=>k_is)
   (case ZoO=>k_is)
   (case ZoL=>k_is)
   (case ZnV=>k_is)
   (case ZoM=>k_is)
   (case ZsA=>k_is)
   (case Zs5=>k_is)
   (case Zse=>k_is)
   (case Zs6=>k_is)
   (case Zqv=>k_is)
   (case ZpZ=>k_is)
   (case ZoH=>k_is)
   (case Zqd=>k_is)
   (case ZsK=>k_is)
   (case ZsE=>k_is)
   (case ZsI=>k_is)
   (case ZsF=>k_is)
   (case a_FEWEST_PITS=>k_is)
   (case a_MOST_PITS=>k_is)
   (case z_all=>k_is)
   (case z_bool=>k_is)
   (case z_enumerate=>k_is)
   (case z_int=>k_is)
   (case z_isinstance=>k_is)
   (case z_len=>k_is)
   (case z_list=>k_is)
   (case z_min=>k_is)
   (case z_range=>k_is)
   (case z_sorted=>k_is)
   (case z_sum=>k_is)
   (case z_tuple=>k_is)
   (case x_tab=>kernel_rfl)
   (case x_exc=>kernel_rfl)
   (case x_at=>kernel_rfl)
   (case ai_BadPlan=>k_is)
   (case nsi_BadPlan=>k_is)
   (case ki_BadPlan=>k_is)
   (case ti_BadPlan=>k_is)
   (case li_BadPlan=>k_is)
   (case ci_BadPlan=>k_is)
   (case kf_BadPlan=>k_is)
   (case as_BadPlan=>k_is)
   (case xi_BadPlan=>kernel_rfl)
   (case am_RingBook___init__=>k_is)
   (case fm1_RingBook___init__=>k_is)
   (case tm_RingBook___init__=>k_is)
   (case lm_RingBook___init__=>k_is)
   (case cm_RingBook___init__=>k_is)
   (case km_RingBook___init__=>k_is)
   (case am_RingBook_plan=>k_is)
   (case fm1_RingBook_plan=>k_is)
   (case tm_RingBook_plan=>k_is)
   (case lm_RingBook_plan=>k_is)
   (case cm_RingBook_plan=>k_is)
   (case km_RingBook_plan=>k_is)
   (case am_RingBook_came_again=>k_is)
   (case fm1_RingBook_came_again=>k_is)
   (case tm_RingBook_came_again=>k_is)
   (case lm_RingBook_came_again=>k_is)
   (case cm_RingBook_came_again=>k_is)
   (case km_RingBook_came_again=>k_is)
   (case am_RingBook_redo=>k_is)
   (case fm1_RingBook_redo=>k_is)
   (case tm_RingBook_redo=>k_is)
   (case lm_RingBook_redo=>k_is)
   (case cm_RingBook_redo=>k_is)
   (case km_RingBook_redo=>k_is)
   (case am_RingBook_undo=>k_is)
   (case fm1_RingBook_undo=>k_is)
   (case tm_RingBook_undo=>k_is)
   (case lm_RingBook_undo=>k_is)
   (case cm_RingBook_undo=>k_is)
   (case km_RingBook_undo=>k_is)
   (case am_RingBook_board=>k_is)
   (case fm1_RingBook_board=>k_is)
   (case tm_RingBook_board=>k_is)
   (case lm_RingBook_board=>k_is)
   (case cm_RingBook_board=>k_is)
   (case km_RingBook_board=>k_is)
   (case am_RingBook_sown_in_all=>k_is)
   (case fm1_RingBook_sown_in_all=>k_is)
   (case tm_RingBook_sown_in_all=>k_is)
   (case lm_RingBook_sown_in_all=>k_is)
   (case cm_RingBook_sown_in_all=>k_is)
   (case km_RingBook_sown_in_all=>k_is)
   (case am_RingBook_enter=>k_is)
   (case fm1_RingBook_enter=>k_is)
   (case tm_RingBook_enter=>k_is)
   (case lm_RingBook_enter=>k_is)
   (case cm_RingBook_enter=>k_is)
   (case km_RingBook_enter=>k_is)
   (case am_RingBook_sow=>k_is)
   (case fm1_RingBook_sow=>k_is)
   (case tm_RingBook_sow=>k_is)
   (case lm_RingBook_sow=>k_is)
   (case cm_RingBook_sow=>k_is)
   (case km_RingBook_sow=>k_is)
   (case am_RingBook_back=>k_is)
   (case fm1_RingBook_back=>k_is)
   (case tm_RingBook_back=>k_is)
   (case lm_RingBook_back=>k_is)
   (case cm_RingBook_back=>k_is)
   (case km_RingBook_back=>k_is)
   (case o_RingBook=>kernel_rfl)
  exact My.ZkH T hmg
 case S=>exact fun K H a ns hl hO hS=>My.Zfz hl hO hS
 case C=>exact fun _ _ _ _ z=>z
