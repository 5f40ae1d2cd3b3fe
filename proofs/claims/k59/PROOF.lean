import PyProof.Rows.All
import Wide.All
import OpenK.AllK
import Wide.FinOn
import Lean
import PyProof.EqAt
import PyProof.EqKinds
import PyProof.TupleCall
import KE.KTryMore
import PyProof.NsDelKeeps
import PyProof.EnumStmt
import KE.KRevIter
import PyProof.ListNew
import KE.KIntText
import PyProof.ListRange
import PyProof.Rows.Range3
import PyProof.Rows.TupDisplay
import PyProof.DictWalks
import KE.KSortTup
import PyProof.StrBlock2
import PyProof.ExcInit
import PyProof.ExcClass2
import PyProof.Rows.SortRuns
import PyProof.DictTruth
import PySem.Challenge.RW_sowring_k59_books_begun
open List renaming getD_eq_getElem?_getD->Zq5,getElem?_eq_getElem->Zq6,mem_append_right->Zq7,mem_append_left->Zq8,mem_append->Zq9,size_toArray->ZqA,getElem?_set_ne->ZqB,length_map->ZqC,mem_cons->ZqE,getElem?_set_self->ZqF,getElem?_eq_none->ZqH,getElem?_append_left->ZqI,map_cons->ZqJ,mem_cons_of_mem->ZqK,length_cons->ZqL,getElem?_eq_some_iff->ZqM,getElem?_map->ZqO,length_append->ZqP,getElem?_append_right->ZqQ,append_nil->ZqR,lookup_cons->ZqS,getElem?_eq_none_iff->ZqT,mem_of_getElem?->ZqU,all_eq_true->ZqW,replicate_succ->ZqX,mem_cons_self->ZqY,getElem?_cons_zero->Zra,length_set->Zrb,length_nil->Zrc,zip_cons_cons->Zrd,drop_eq_getElem_cons->Zrf,flatten_cons->Zrg,drop_eq_nil_of_le->Zri,mem_singleton->Zrj,map_nil->Zrl,map_append->Zrm,find?_cons->Zrn,not_mem_nil->Zrp,lookup->Zrq,flatten_replicate_singleton->Zrs,mem_map->Zrt,contains_iff_mem->Zru,getElem?_replicate_of_lt->Zrv,getElem?_mapIdx->Zrx,mem_filter->Zry,filterMap_cons->Zrz,nodup_cons->Zr1,getElem?_range->Zr2,mem_filterMap->Zr5,append_assoc->Zr7,ext_getElem?->Zr8,any_cons->ZrA,getElem_mem->ZrC,of_mem_zip->ZrD,nil_append->ZrE,length_zip->ZrF,idxOf_cons->ZrG
open Nat renaming lt_of_lt_of_le->ZqD,le_refl->ZqG,ne_of_lt->ZqN,le_trans->ZqV,lt_irrefl->ZqZ,zero_le->Zre,lt_of_le_of_lt->Zrk,lt_succ_self->Zro,ne_of_gt->Zr4,le_succ->Zr9
open Int renaming emod_eq_of_lt->Zrh,emod_nonneg->Zr3,emod_lt_of_pos->Zr6
open Array renaming length_toList->Zr0
open Option renaming isSome_iff_exists->Zrr,bind_some->Zrw,getD_some->ZrB
set_option Elab.async false
set_option linter.all false
set_option maxRecDepth 100000
namespace L2
open PySem PySem.Spec PyProof.Rows
noncomputable abbrev Key:=Sum Int Str
noncomputable def ZcL:Key->Value->Bool
 |.inl k,v=>Value.isInt k v
 |.inr x,v=>Value.isStrOf x v
noncomputable def Zlp (w:World):Key->Int
 |.inl k=>hashInt k
 |.inr x=>hashStr w x
theorem ZJ:∀{k:Key}{v:Value},ZcL k v=true->(∃i t,k=Sum.inl i/\v=Value.int i t)\/(∃x t,k=Sum.inr x/\v=Value.str x t)
 |.inl i,v,h=>by
  obtain⟨t,e⟩:=Value.isInt_shape (k:=i) (v:=v) h
  exact .inl ⟨i,t,rfl,e⟩
 |.inr x,v,h=>by
  obtain⟨t,e⟩:=Value.isStrOf_shape (x:=x) (v:=v) h
  exact .inr ⟨x,t,rfl,e⟩
theorem Zeg (i:Int) (t:Tok):ZcL (.inl i) (.int i t)=true:=by simp[ZcL,Value.isInt]
theorem Zef (x:Str) (t:Tok):ZcL (.inr x) (.str x t)=true:=by simp[ZcL,Value.isStrOf]
theorem ZiL (a b:Int):decide ((Sum.inl a:Key)=Sum.inl b)=(a==b):=by
 by_cases e:a=b
 ·subst e;simp
 ·have h:¬(Sum.inl a:Key)=Sum.inl b:=fun q=>e (Sum.inl.inj q)
  rw[decide_eq_false h]
  exact(beq_eq_false_iff_ne.mpr e).symm
theorem ZiI (a b:Str):decide ((Sum.inr a:Key)=Sum.inr b)=decide (a=b):=by
 by_cases e:a=b
 ·subst e;simp
 ·have h:¬(Sum.inr a:Key)=Sum.inr b:=fun q=>e (Sum.inr.inj q)
  rw[decide_eq_false h,decide_eq_false e]
theorem ZiK (a:Int) (b:Str):decide ((Sum.inl a:Key)=Sum.inr b)=false:=decide_eq_false (fun q=>nomatch q)
theorem ZiJ (a:Str) (b:Int):decide ((Sum.inr a:Key)=Sum.inl b)=false:=decide_eq_false (fun q=>nomatch q)
noncomputable def Jf (prog:Program) (w:World):PySem.KeyKind prog w Key where
 is:=ZcL
 hash:=Zlp w
 inj:=fun v a b ha hb=>by
  rcases ZJ ha with ⟨i,t,rfl,rfl⟩|⟨x,t,rfl,rfl⟩
  ·rcases ZJ hb with ⟨j,u,rfl,e⟩|⟨y,u,rfl,e⟩
   ·injection e with e1 _;rw[e1]
   ·exact nomatch e
  ·rcases ZJ hb with ⟨j,u,rfl,e⟩|⟨y,u,rfl,e⟩
   ·exact nomatch e
   ·injection e with e1 _;rw[e1]
 byValue:=fun k v h=>by
  rcases ZJ h with ⟨i,t,rfl,rfl⟩|⟨x,t,rfl,rfl⟩<;>rfl
 pyHash:=fun hv h=>by
  rcases ZJ hv with ⟨i,t,rfl,rfl⟩|⟨x,t,rfl,rfl⟩
  ·exact wpAny_pyHash_int h
  ·exact wpAny_pyHash_str h
 eqBool:=fun hu hv h=>by
  rcases ZJ hu with ⟨i,t,rfl,rfl⟩|⟨x,t,rfl,rfl⟩
  ·rcases ZJ hv with ⟨j,u,rfl,rfl⟩|⟨y,u,rfl,rfl⟩
   ·rw[ZiL] at h;exact wpAny_eqBool_int h
   ·rw[ZiK] at h;exact SeqAt.EqAt.int_str i t y u _ _ _ _ h
  ·rcases ZJ hv with ⟨j,u,rfl,rfl⟩|⟨y,u,rfl,rfl⟩
   ·rw[ZiJ] at h;exact SeqAt.EqAt.str_int x t j u _ _ _ _ h
   ·rw[ZiI] at h;exact wpAny_eqBool_str h
 «strs»:=fun k x t v h=>by
  rcases ZJ h with ⟨i,u,rfl,e⟩|⟨y,u,rfl,e⟩
  ·exact nomatch e
  ·injection e with e1 _
   subst e1
   cases v<;>rfl
theorem Zbb (prog:Program) (w:World) (i:Int) (t:Tok):(Jf prog w).is (.inl i) (.int i t)=true:=Zeg i t
theorem Zba (prog:Program) (w:World) (x:Str) (t:Tok):(Jf prog w).is (.inr x) (.str x t)=true:=Zef x t
inductive V where
 |non|bl (b:Bool)|int (i:Int)|str (x:Str)|byt (b:Array UInt8)|flt (b:UInt64)|ref (a:Addr)|ty (n:String)
 deriving DecidableEq
noncomputable def ZY:V->Value->Prop
 |.non,u=>u=Value.none
 |.bl b,u=>u=Value.bool b
 |.int i,u=>∃t,u=Value.int i t
 |.str x,u=>∃t,u=Value.str x t
 |.byt b,u=>∃t,u=Value.bytes b t
 |.flt b,u=>∃t,u=Value.float b t
 |.ref a,u=>u=Value.ref a
 |.ty n,u=>u=Value.type n
noncomputable abbrev ZP:List V->List Value->Prop:=Paired ZY
theorem ZP.length {xs:List V}{us:List Value} (r:ZP xs us):xs.length=us.length:=Paired.length r
theorem ZP.get:∀{xs:List V}{us:List Value}{i:Nat}{x:V},ZP xs us->xs[i]?=some x->∃u,us[i]?=some u/\ZY x u
 |_,_,_,_,.nil,e=>by simp at e
 |_,_,0,_,.cons r _,e=>by simp at e;subst e;exact⟨_,rfl,r⟩
 |_,_,i+1,x,.cons _ t,e=>by
  obtain⟨u,h1,h2⟩:=ZP.get (i:=i) (x:=x) t (by simpa using e)
  exact⟨u,by simpa using h1,h2⟩
theorem ZP.set {x:V}{u:Value} (r:ZY x u):∀{xs:List V}{us:List Value} (i:Nat),ZP xs us->ZP (xs.set i x) (us.set i u)
 |_,_,_,.nil=>.nil
 |_,_,0,.cons _ t=>.cons r t
 |_,_,i+1,.cons q t=>.cons q (ZP.set r i t)
theorem ZP.append:∀{xs ys:List V}{us ws:List Value},ZP xs us->ZP ys ws->ZP (xs++ys) (us++ws)
 |_,_,_,_,.nil,s=>s
 |_,_,_,_,.cons r t,s=>.cons r (ZP.append t s)
noncomputable def QI:Option V->Option Value->Prop
 |some v,some u=>ZY v u
 |none,none=>True
 |_,_=>False
def KV {κ:Type}:List (κ×V)->List (κ×Value)->Prop:=Paired fun(p:κ×V) (q:κ×Value)=>p.1=q.1/\ZY p.2 q.2
noncomputable def kV:Key->V
 |.inl i=>.int i
 |.inr x=>.str x
inductive HO where
  |lst (xs:List V)
  |tup (xs:List V)
  |dK (kvs:List (Key×V))|dT (kvs:List (List Key×V))
  |set (S:Int->Bool) (n:Nat)
  |ins (C dx:Addr) (fs:List (Str×V))
  |own (x:Addr)
  |xd (fs:List (Str×V))
  |met (f x:Addr)
  |rng (lo hi:Int)
  |frz (o:Obj) (u:HO)
  |tbl (ps:Array Value)
  |ext (φ:Heap->Prop)
noncomputable abbrev Hp:=Addr->Option HO
noncomputable def upd (H:Hp) (a:Addr) (o:HO):Hp:=fun b=>if b=a then some o else H b
theorem Zt {H:Hp}{a:Addr}{o:HO}:upd H a o a=some o:=by unfold upd;rw[if_pos rfl]
theorem Zl {H:Hp}{a b:Addr}{o:HO} (h:b≠a):upd H a o b=H b:=by unfold upd;rw[if_neg h]
theorem ZiC {H:Hp}{a b:Addr}{o u:HO} (h:H a=some o) (h':H b=some u) (d:o≠u):a≠b:=by
 intro e;subst e;rw[h] at h';exact d (Option.some.inj h')
theorem Zv {H:Hp}{a b:Addr}{o:HO} (h:H a=some o) (h':H b=none):a≠b:=by
 intro e;subst e;rw[h] at h';cases h'
section
variable (P:Program) (w:World)
noncomputable def Jg (H:Hp) (h:Heap) (a:Addr):HO->Prop
 |.lst xs=>xs.length<=sizeLine/\∃(its:List Value) (n:Nat),ZP xs its/\h.get? a=some { cls:=.type "list",data:=.seq its.toArray n }
 |.tup xs=>xs.length<=sizeLine/\∃its:List Value,ZP xs its/\IsTup h a its.toArray
 |.dK kvs=>kvs.length<=sizeLine/\(a==sysModules)=false/\∃vs,KV kvs vs/\h.DictOf (Jf P w) a vs
 |.dT kvs=>kvs.length<=sizeLine/\(a==sysModules)=false/\∃xs:List (List Key×Addr×Value),
   Paired (fun(p:List Key×V) (q:List Key×Addr×Value)=>p.1=q.1/\H q.2.1=some (.tup (p.1.map kV))/\ZY p.2 q.2.2) kvs xs /\
   ∃o es ep,h.get? a=some o/\o.ExactDict/\o.data=.dict es ep/\es.toList=xs.map (entryOfKey (tupleKind (Jf P w)))/\(xs.map (·.1)).Nodup
 |.set S n=>h.SetOf (intKind P w) a S n
 |.ins C dx fs=>H dx=some (.own a)/\fs.length<=1000/\dx≠a/\h.get? a=some (PySem.W.instObj C dx) /\
   ∃mA,h.Ns1 dx mA/\(∀f,QI (fs.lookup f) (mA f))/\PySem.Within mA (fs.map (·.1))
 |.own _=>∃o,h.get? a=some o
 |.xd fs=>∃mA,h.Ns1 a mA/\∀f,QI (fs.lookup f) (mA f)
 |.rng lo hi=>∃t u v,h.get? a=some { cls:=.type "range",data:=.fields #[.int lo t,.int hi u,.int 1 v] }
 |.frz o u=>h.get? a=some o/\Jg H h a u
 |.tbl ps=>h.get? a=some { cls:=.none,data:=.fields ps }
 |.met f x=>h.get? a=some (PySem.W.methodObj (.ref f) (.ref x))
 |.ext φ=>φ h/\(∃o,h.get? a=some o)/\∀h1 h2:Heap,φ h1->(∀o,h1.get? a=some o->h2.get? a=some o)->φ h2
def HOk (H:Hp) (h:Heap):Prop:=∀a o,H a=some o->Jg P w H h a o
end
section
variable {P:Program}{w:World}{H H':Hp}{h h':Heap}{a:Addr}{o:HO}
theorem Jg.lt (x:Jg P w H h a o):a<h.objs.size:=by
 cases o with
 |lst xs=>obtain⟨_,_,_,_,e⟩:=x;exact Heap.lt_size e
 |tup xs=>obtain⟨_,_,_,p⟩:=x;exact p.lt
 |dK kvs=>obtain⟨_,_,_,_,o,_,_,e,_⟩:=x;exact Heap.lt_size e
 |dT kvs=>obtain⟨_,_,_,_,o,_,_,e,_⟩:=x;exact Heap.lt_size e
 |set S n=>obtain⟨o,_,_,_,e,_⟩:=x;exact Heap.lt_size e
 |ins C dx fs=>obtain⟨_,_,_,e,_⟩:=x;exact Heap.lt_size e
 |own y=>obtain⟨_,e⟩:=x;exact Heap.lt_size e
 |xd fs=>obtain⟨_,⟨_,_,_,e,_⟩,_⟩:=x;exact Heap.lt_size e
 |rng lo hi=>obtain⟨_,_,_,e⟩:=x;exact Heap.lt_size e
 |frz ob u=>obtain⟨e,_⟩:=x;exact Heap.lt_size e
 |tbl ps=>exact Heap.lt_size (show h.get? a=some _ from x)
 |met f y=>exact Heap.lt_size (show h.get? a=some _ from x)
 |ext φ=>obtain⟨_,⟨_,e⟩,_⟩:=x;exact Heap.lt_size e
theorem Paired.mapP {α β:Type}{F G:α->β->Prop}:∀{l₁:List α}{l₂:List β},Paired F l₁ l₂->(∀a b,F a b->G a b)->Paired G l₁ l₂
 |_,_,.nil,_=>.nil
 |_,_,.cons r t,f=>.cons (f _ _ r) (Paired.mapP t f)
theorem Jg.stay (x:Jg P w H h a o) (k:∀b u,(b=a\/H b=some (.own a))->h.get? b=some u->h'.get? b=some u)
  (ho:∀b,H b=some (.own a)->H' b=some (.own a)) (ht:∀b xs,H b=some (.tup xs)->H' b=some (.tup xs)):Jg P w H' h' a o:=by
 induction o with
 |lst xs=>obtain⟨z,its,n,r,e⟩:=x;exact⟨z,its,n,r,k _ _ (.inl rfl) e⟩
 |tup xs=>obtain⟨z,its,r,ob,e,c⟩:=x;exact⟨z,its,r,ob,k _ _ (.inl rfl) e,c⟩
 |dK kvs=>obtain⟨z,y,vs,r,ob,es,ep,e,c⟩:=x;exact⟨z,y,vs,r,ob,es,ep,k _ _ (.inl rfl) e,c⟩
 |dT kvs =>
  obtain⟨z,y,xs,r,ob,es,ep,e,c⟩:=x
  exact⟨z,y,xs,Paired.mapP r fun p q z=>⟨z.1,ht _ _ z.2.1,z.2.2⟩,ob,es,ep,k _ _ (.inl rfl) e,c⟩
 |set S n=>obtain⟨ob,es,ep,t,e,c⟩:=x;exact⟨ob,es,ep,t,k _ _ (.inl rfl) e,c⟩
 |ins C dx fs =>
  obtain⟨d,z,ne,e,mA,⟨od,es,ep,e2,c⟩,r⟩:=x
  exact⟨ho _ d,z,ne,k _ _ (.inl rfl) e,mA,⟨od,es,ep,k _ _ (.inr d) e2,c⟩,r⟩
 |own y=>obtain⟨ob,e⟩:=x;exact⟨ob,k _ _ (.inl rfl) e⟩
 |xd fs=>obtain⟨mA,⟨od,es,ep,e,c⟩,r⟩:=x;exact⟨mA,⟨od,es,ep,k _ _ (.inl rfl) e,c⟩,r⟩
 |rng lo hi=>obtain⟨t,u,v,e⟩:=x;exact⟨t,u,v,k _ _ (.inl rfl) e⟩
 |frz ob u ih=>obtain⟨e,q⟩:=x;exact⟨k _ _ (.inl rfl) e,ih q⟩
 |tbl ps =>
  have e:h.get? a=some { cls:=.none,data:=.fields ps }:=x
  show h'.get? a=some { cls:=.none,data:=.fields ps }
  exact k a _ (.inl rfl) e
 |met f y =>
  have e:h.get? a=some (PySem.W.methodObj (.ref f) (.ref y)):=x
  show h'.get? a=some (PySem.W.methodObj (.ref f) (.ref y))
  exact k a _ (.inl rfl) e
 |ext φ=>obtain⟨p,⟨o,e⟩,st⟩:=x;exact⟨st _ _ p fun o q=>k _ _ (.inl rfl) q,⟨o,k _ _ (.inl rfl) e⟩,st⟩
theorem HOk.lt (x:HOk P w H h) (e:H a=some o):a<h.objs.size:=(x a o e).lt
theorem HOk.fresh (x:HOk P w H h) (e:h.objs.size<=a):H a=none:=by
 cases q:H a with
 |none=>rfl
 |some u=>exact absurd (ZqD (x.lt q) e) (ZqZ _)
theorem HOk.kept (x:HOk P w H h) (k:∀b u,h.get? b=some u->h'.get? b=some u):HOk P w H h':=fun a o e =>
 (x a o e).stay (fun b u _ q=>k b u q) (fun _ q=>q) fun _ _ q=>q
theorem HOk.laid (x:HOk P w H h) (k:∀b u,h.get? b=some u->h'.get? b=some u) (hp:h.objs.size<=a) (new:Jg P w (upd H a o) h' a o):HOk P w (upd H a o) h':=fun b u e=>by
 have hn:=x.fresh hp
 by_cases hb:b=a
 ·subst hb;rw[Zt] at e;cases e;exact new
 ·rw[Zl hb] at e
  exact(x b u e).stay (fun c v _ q=>k c v q) (fun c q=>by rw[Zl (Zv q hn)];exact q) fun c xs q=>by rw[Zl (Zv q hn)];exact q
end
def Rd (H:Hp) (a:Addr) (u:HO):Prop:=H a=some u\/∃o,H a=some (.frz o u)
theorem Rd.ok {P:Program}{w:World}{H:Hp}{h:Heap}{a:Addr}{u:HO} (r:Rd H a u) (x:HOk P w H h):Jg P w H h a u:=by
 rcases r with r|⟨o,r⟩
 ·exact x a u r
 ·obtain⟨_,q⟩:=x a _ r
  exact q
noncomputable def Mut:Option HO->Prop
 |some (.lst _)=>True
 |some (.dK _)=>True
 |some (.dT _)=>True
 |some (.set _ _)=>True
 |some (.ins _ _ _)=>True
 |some (.ext _)=>True
 |_=>False
section
variable {P:Program}{w:World}{H:Hp}{h h':Heap}{x e:Addr}{o':HO}
theorem HOk.write (ok:HOk P w H h) (mu:Mut (H x)) (he:e=x\/H e=some (.own x)) (k:∀b u,b≠e->h.get? b=some u->h'.get? b=some u) (heo:∃u,h'.get? e=some u)
  (new:Jg P w (upd H x o') h' x o'):HOk P w (upd H x o') h':=fun b u q=>by
 have nown:∀c y,H c=some (.own y)->c≠x:=fun c y r z=>by subst z;rw[r] at mu;exact mu
 have ntup:∀c xs,H c=some (.tup xs)->c≠x:=fun c xs r z=>by subst z;rw[r] at mu;exact mu
 by_cases hb:b=x
 ·subst hb;rw[Zt] at q;cases q;exact new
 ·rw[Zl hb] at q
  by_cases hbe:b=e
  ·have q':H b=some (.own x):=by
    rcases he with z|z
    ·exact absurd (hbe.trans z) hb
    ·rw[hbe];exact z
   rw[q] at q';cases q'
   obtain⟨v,hv⟩:=heo
   exact⟨v,by rw[hbe];exact hv⟩
  ·refine(ok b u q).stay (fun c v hc r=>k c v ?_ r) (fun c r=>by rw[Zl (nown c b r)];exact r) fun c xs r=>by rw[Zl (ntup c xs r)];exact r
   rcases hc with rfl|hc
   ·exact hbe
   ·rintro rfl
    rcases he with z|z
    ·exact nown c b hc z
    ·rw[hc] at z;cases z;exact hb rfl
end
structure Un (fs ex:List Addr) (H H':Hp) (h h':Heap):Prop where
 keep:∀b o,h.get? b=some o->H b=none->b ∉ fs->b ∉ ex->h'.get? b=some o
 slot:∀b o,h.get? b=some o->H b=none->b∈fs->b ∉ ex->∃sl,h'.get? b=some { o with slots:=sl }
 free:∀b o,h.get? b=some o->H b=none->b ∉ ex->H' b=none
 there:∀b o,h.get? b=some o->b ∉ ex->∃o',h'.get? b=some o'
 tups:∀b xs,H b=some (.tup xs)->H' b=some (.tup xs)
 frzs:∀b o u,H b=some (.frz o u)->H' b=some (.frz o u)
 tbls:∀b ps,H b=some (.tbl ps)->∃more,H' b=some (.tbl (ps++more))
section
variable {fs ex:List Addr}{H H1:Hp}{h h1 h':Heap}{a x e:Addr}{o:HO}
theorem Un.any (u:Un fs ex H H1 h h1) {b:Addr}{ob:Obj} (q:h.get? b=some ob) (n:H b=none) (hx:b ∉ ex):∃sl,h1.get? b=some { ob with slots:=sl }:=by
 by_cases hb:b∈fs
 ·exact u.slot b ob q n hb hx
 ·exact⟨ob.slots,u.keep b ob q n hb hx⟩
theorem Un.kept (k:∀b u,h.get? b=some u->h'.get? b=some u):Un fs ex H H h h':=
 ⟨fun b ob q _ _ _=>k b ob q,fun b ob q _ _ _=>⟨ob.slots,k b ob q⟩,fun _ _ _ n _=>n,fun b ob q _=>⟨ob,k b ob q⟩,fun _ _ q=>q,fun _ _ _ q=>q,fun _ ps q=>⟨#[],by rw[q];simp⟩⟩
theorem Un.refl:Un fs ex H H h h:=Un.kept fun _ _ q=>q
theorem Un.laid (k:∀b u,h.get? b=some u->h'.get? b=some u) (hp:h.objs.size<=a) (hn:H a=none):Un fs ex H (upd H a o) h h' where
 keep:=fun b u q _ _ _=>k b u q
 slot:=fun b u q _ _ _=>⟨u.slots,k b u q⟩
 free:=fun b u q n _=>by rw[Zl (ZqN (ZqD (Heap.lt_size q) hp))];exact n
 there:=fun b u q _=>⟨u,k b u q⟩
 tups:=fun b xs q=>by rw[Zl (Zv q hn)];exact q
 frzs:=fun b u xs q=>by rw[Zl (Zv q hn)];exact q
 tbls:=fun b ps q=>⟨#[],by rw[Zl (Zv q hn),q];simp⟩
theorem Un.write (mu:Mut (H x)) (he:e=x\/H e=some (.own x)) (k:∀b u,b≠e->h.get? b=some u->h'.get? b=some u) (heo:∃u,h'.get? e=some u):Un fs ex H (upd H x o) h h':=by
 have hx:∀b,H b=none->b≠x:=fun b n z=>by subst z;rw[n] at mu;exact mu
 have hb:∀b,H b=none->b≠e:=fun b n z=>by
  subst z
  rcases he with r|r
  ·exact hx b n r
  ·rw[n] at r;cases r
 have hm:∀b u,H b=some u->¬Mut (some u)->b≠x:=fun b u q nm z=>by subst z;rw[q] at mu;exact nm mu
 refine⟨fun b u q n _ _=>k b u (hb b n) q,fun b u q n _ _=>⟨u.slots,k b u (hb b n) q⟩,fun b u q n _=>by rw[Zl (hx b n)];exact n,fun b u q _=>?_,
  fun b xs q=>by rw[Zl (hm b _ q fun z=>z)];exact q,fun b u xs q=>by rw[Zl (hm b _ q fun z=>z)];exact q,fun b ps q=>⟨#[],by rw[Zl (hm b _ q fun z=>z),q];simp⟩⟩
 by_cases hbe:b=e
 ·subst hbe;exact heo
 ·exact⟨u,k b u hbe q⟩
end
noncomputable def trk (h:Heap) (H:Hp):List Addr:=(List.range h.objs.size).filter fun a=>(H a).isSome
noncomputable def ZfA (h:Heap) (H:Hp):Heap:=PySem.W.hideAll h (trk h H)
theorem Zeo (h:Heap) (H:Hp):(ZfA h H).objs.size=h.objs.size:=PySem.W.hideAll_size _ _
theorem Zf9 {h:Heap}{H:Hp}{b:Addr}{o:Obj} (e:h.get? b=some o) (n:H b=none):(ZfA h H).get? b=some o:=
 PySem.W.hideAll_get _ e fun hm=>by
  have q:(H b).isSome=true:=(Zry.mp hm).2
  rw[n] at q;simp at q
theorem Zhg {h:Heap}{H:Hp}{b:Addr}{o:Obj} (e:(ZfA h H).get? b=some o):h.get? b=some o/\H b=none:=by
 have e':h.get? b=some o:=PySem.W.of_hideAll (trk h H) e
 refine⟨e', ?_⟩
 cases q:H b with
 |none=>rfl
 |some x =>
  have hm:b∈trk h H:=Zry.mpr ⟨List.mem_range.mpr (Heap.lt_size e'),by simp[q]⟩
  have z:(ZfA h H).get? b=none:=PySem.W.hideAll_none (trk h H) hm
  rw[z] at e;cases e
noncomputable def ZhN (g h:Heap) (L:Addr):List (Addr×Obj):=(List.range h.objs.size).filterMap fun a=>if a=L\/(g.get? a).isSome=true then none else (h.get? a).map fun o=>(a,o)
noncomputable def Zgj (g h:Heap) (L d:Addr):List (Addr×Obj):=(ZhN g h L).filter fun p=>decide (p.1≠d)
structure Mod (K:PySem.W.Frag) (mg:Str->Option Value) (base:Heap):Prop where
 kin:K.In base
 glob:base.Ns mainGlobals mg
 blt:∃mb,base.Ns builtinsNs mb/\∀x:Str,x ≠ "__name__"->mb x=bootBuiltins x
 nolimit:base.NoLimit
structure Cx where
 prog:Program
 w:World
 K:PySem.W.Frag
 mg:Str->Option Value
 base:Heap
 A:Around
 N:List Str
 s₀:Shared
 H₀:Hp
 env:Env
 outer:List Env
 stack:List Env
 ex:List Addr
 fn:Str->Bool
 calm:Bool
 pn:List (Addr×Obj)
 xe:Value->Shared->Prop
noncomputable def frs (l:List Env):List Addr:=l.filterMap (·.frame)
noncomputable abbrev Cx.fs (X:Cx):List Addr:=frs X.outer
def Vis (sc:Scope) (x:Str):Prop:=sc.names.lookup x=some .local\/sc.names.lookup x=some .cell\/sc.names.lookup x=some .free
def Loc (sc:Scope) (x:Str):Prop:=sc.names.lookup x=some .local\/sc.names.lookup x=some .cell
def Zlk (env:Env) (h:Heap) (m:Str->Option Value) (x:Str) (u:Value):Prop:=
 (env.kindOf x=some .local/\m x=some u)\/((env.kindOf x=some .cell\/env.kindOf x=some .free)/\∃c,env.cells.lookup x=some c/\h.IsCell c (some u))
structure Cx.Ok (X:Cx):Prop where
 mod:Mod X.K X.mg X.base
 kind:X.env.scope.kind=.function
 glob:X.env.globals=mainGlobals
 blt:X.env.builtins=builtinsNs
 above:X.s₀.heap.objs.size<=X.env.locals
 inj:∀x y c,X.env.cells.lookup x=some c->X.env.cells.lookup y=some c->x=y
 has:∀x,(X.env.kindOf x=some .cell\/X.env.kindOf x=some .free)->∃c,X.env.cells.lookup x=some c
 cab:∀x c,X.fn x=true->X.env.cells.lookup x=some c->X.s₀.heap.objs.size<=c
 hd:X.calm=true->X.A.handled=none
 frames:X.A.frames=some X.stack
 stk:X.stack=X.outer\/(X.stack=X.env::X.outer/\X.env.frame=some X.env.locals)
 exf:∀b∈X.ex,b≠X.env.locals/\∀x c,X.env.cells.lookup x=some c->c≠b
 bs:∀b o,X.base.get? b=some o->X.s₀.heap.get? b=some o/\X.H₀ b=none
 bsz:X.base.objs.size<=X.s₀.heap.objs.size
 noex:∀b o,X.base.get? b=some o->b ∉ X.ex
 exfs:∀b∈X.ex,b ∉ X.fs
 funs:X.s₀.heap.FunFrames X.base X.outer
 frf:∀b∈X.fs,X.H₀ b=none
structure Inv (X:Cx) (pins:List (Addr×Obj)) (σ:List (Option V)) (H:Hp) (s:Shared):Prop where
 ok:X.Ok
 os:s.os=X.s₀.os
 bare:AllBare s.gens
 base:Un X.fs X.ex X.H₀ H X.s₀.heap s.heap
 loc:∃m,s.heap.Ns X.env.locals m/\∀(i:Nat) (x:Str) (v:V),X.N[i]?=some x->σ[i]?=some (some v)->Vis X.env.scope x->∃u,ZY v u/\Zlk X.env s.heap m x u
 cell:∀x c,X.env.cells.lookup x=some c->∃v,s.heap.IsCell c v
 free:H X.env.locals=none
 freeC:∀x c,X.env.cells.lookup x=some c->H c=none
 pin:∀p∈X.pn++pins,s.heap.get? p.1=some p.2/\H p.1=none/\p.1≠X.env.locals/\p.1 ∉ X.fs/\∀v,p.2.data≠.cell v
 hok:HOk X.prog X.w H s.heap
 len:σ.length=X.N.length
section
variable {X:Cx}{pins:List (Addr×Obj)}{σ:List (Option V)}{H H':Hp}{s:Shared}{h':Heap}
theorem Cx.Ok.nofr (ok:X.Ok) {b:Addr}{o:Obj} (e:X.base.get? b=some o):b ∉ X.fs:=fun hb=>by
 have:=(ok.funs.mem hb).1
 rw[e] at this;cases this
theorem Inv.bs (I:Inv X pins σ H s):∀b o,X.base.get? b=some o->s.heap.get? b=some o/\H b=none:=fun b o e =>
 ⟨I.base.keep b o (I.ok.bs b o e).1 (I.ok.bs b o e).2 (I.ok.nofr e) (I.ok.noex b o e),I.base.free b o (I.ok.bs b o e).1 (I.ok.bs b o e).2 (I.ok.noex b o e)⟩
theorem Inv.bk (I:Inv X pins σ H s):∀b o,X.base.get? b=some o->s.heap.get? b=some o:=fun b o e=>(I.bs b o e).1
theorem Inv.mod (I:Inv X pins σ H s):Mod X.K X.mg X.base:=I.ok.mod
theorem Inv.kIn (I:Inv X pins σ H s):X.K.In s.heap:=I.ok.mod.kin.keeps I.bk
theorem Inv.lt (I:Inv X pins σ H s):X.env.locals<s.heap.objs.size:=let ⟨_,hn,_⟩:=I.loc;hn.lt
theorem Inv.sz (I:Inv X pins σ H s):X.s₀.heap.objs.size<=s.heap.objs.size:=ZqV I.ok.above (Nat.le_of_lt I.lt)
theorem Inv.nofs (I:Inv X pins σ H s) {a:Addr} (h:s.heap.objs.size<=a):a ∉ X.fs:=fun hb=>by
 obtain⟨_,o,ho,_⟩:=I.ok.funs.mem hb
 exact absurd (ZqD (Heap.lt_size ho) (ZqV I.sz h)) (ZqZ _)
theorem Inv.cne (I:Inv X pins σ H s):∀x c,X.env.cells.lookup x=some c->c≠X.env.locals:=fun x c e z=>by
 obtain⟨v,o,ho,hd⟩:=I.cell x c e
 obtain⟨m,⟨o',es,ep,ho',hd',_⟩,_⟩:=I.loc
 rw[z,ho'] at ho;cases ho;rw[hd'] at hd;cases hd
theorem Inv.funs (I:Inv X pins σ H s):s.heap.FunFrames X.base X.outer:=by
 have all:∀(l:List Env),(∀b∈frs l,b∈X.fs)->X.s₀.heap.FunFrames X.base l->s.heap.FunFrames X.base l:=by
  intro l
  induction l with
  |nil=>intro _ _;trivial
  |cons env r ih =>
   intro hs hl
   obtain⟨hk,⟨L,o,hf,hn,ho,hd⟩,hr⟩:=hl
   have hL:L∈X.fs:=hs L (by unfold frs;rw[Zrz,hf];exact ZqY)
   obtain⟨sl,e⟩:=I.base.slot L o ho (I.ok.frf L hL) hL fun z=>I.ok.exfs L z hL
   exact⟨hk,⟨L,_,hf,hn,e,hd⟩,ih (fun b hb=>hs b (by unfold frs;rw[Zrz,hf];exact ZqK _ hb)) hr⟩
 exact all X.outer (fun _ hb=>hb) I.ok.funs
theorem Inv.stack (I:Inv X pins σ H s):s.heap.FunFrames X.base X.stack:=by
 rcases I.ok.stk with e|⟨e,hf⟩
 ·rw[e];exact I.funs
 ·rw[e]
  obtain⟨m,hn,_⟩:=I.loc
  refine .cons (by rw[I.ok.kind];decide) hf hn ?_ I.funs
  exact Heap.get?_none_of_le (ZqV I.ok.bsz I.ok.above)
theorem Inv.stkSub (I:Inv X pins σ H s):∀b∈frs X.stack,b∈X.env.locals::X.fs:=fun b hb=>by
 rcases I.ok.stk with e|⟨e,hf⟩
 ·rw[e] at hb;exact ZqK _ hb
 ·rw[e] at hb
  unfold frs at hb
  rw[Zrz,hf] at hb
  exact hb
theorem Inv.stkFree (I:Inv X pins σ H s):∀b∈frs X.stack,H b=none:=fun b hb=>by
 rcases ZqE.mp (I.stkSub b hb) with e|hb
 ·rw[e];exact I.free
 ·obtain⟨_,o,ho,_⟩:=I.ok.funs.mem hb
  exact I.base.free b o ho (I.ok.frf b hb) fun z=>I.ok.exfs b z hb
theorem Inv.step {g':Array GenState}{t':Nat}{d':Drawn}{ch:List Addr} (I:Inv X pins σ H s)
  (hch:∀b∈ch,(b∈X.ex\/X.s₀.heap.objs.size<=b)/\b≠X.env.locals/\(∀x c,X.env.cells.lookup x=some c->c≠b)/\∀p∈X.pn++pins,p.1≠b)
  (keep:∀b o,b≠X.env.locals->b ∉ X.fs->b ∉ ch->s.heap.get? b=some o->H b=none->h'.get? b=some o)
  (slot:∀b o,b≠X.env.locals->b∈X.fs->b ∉ ch->s.heap.get? b=some o->H b=none->∃sl,h'.get? b=some { o with slots:=sl }) (free:∀b o,b ∉ ch->s.heap.get? b=some o->H b=none->H' b=none)
  (there:∀b o,b ∉ ch->s.heap.get? b=some o->∃o',h'.get? b=some o')
  (tups:∀b xs,H b=some (.tup xs)->H' b=some (.tup xs)) (frzs:∀b o u,H b=some (.frz o u)->H' b=some (.frz o u)) (tbls:∀b ps,H b=some (.tbl ps)->∃more,H' b=some (.tbl (ps++more)))
  (ns:∀m,s.heap.Ns X.env.locals m->h'.Ns X.env.locals m) (hok:HOk X.prog X.w H' h') (hg:AllBare g') :
  Inv X pins σ H' { s with heap:=h',gens:=g',drawn:=d',toks:=t' }:=by
 have neL:∀b o,X.s₀.heap.get? b=some o->b≠X.env.locals:=fun b o e=>ZqN (ZqD (Heap.lt_size e) I.ok.above)
 have neC:∀b o,X.s₀.heap.get? b=some o->b ∉ X.ex->b ∉ ch:=fun b o e hx hb=>by
  rcases (hch b hb).1 with z|z
  ·exact hx z
  ·exact absurd (ZqD (Heap.lt_size e) z) (ZqZ _)
 have cellK:∀x c,X.env.cells.lookup x=some c->∀v,s.heap.IsCell c v->h'.IsCell c v:=fun x c e v ⟨o,ho,hd⟩=>by
  have nch:c ∉ ch:=fun z=>(hch c z).2.2.1 x c e rfl
  by_cases hc:c∈X.fs
  ·obtain⟨sl,q⟩:=slot c o (I.cne x c e) hc nch ho (I.freeC x c e)
   exact⟨_,q,hd⟩
  ·exact⟨o,keep c o (I.cne x c e) hc nch ho (I.freeC x c e),hd⟩
 refine⟨I.ok,I.os,hg,⟨fun b o e n hb hx=>?_,fun b o e n hb hx=>?_,fun b o e n hx=>?_,fun b o e hx=>?_,fun b xs e=>tups b xs (I.base.tups b xs e),fun b o xs e=>frzs b o xs (I.base.frzs b o xs e),fun b ps e=>?_⟩, ?_,fun x c e=>?_, ?_,fun x c e=>?_,fun p hp=>?_,hok,I.len⟩
 ·exact keep b o (neL b o e) hb (neC b o e hx) (I.base.keep b o e n hb hx) (I.base.free b o e n hx)
 ·obtain⟨sl,e1⟩:=I.base.slot b o e n hb hx
  obtain⟨sl',e2⟩:=slot b _ (neL b o e) hb (neC b o e hx) e1 (I.base.free b o e n hx)
  exact⟨sl',e2⟩
 ·obtain⟨o',e1⟩:=I.base.there b o e hx
  exact free b o' (neC b o e hx) e1 (I.base.free b o e n hx)
 ·obtain⟨o',e1⟩:=I.base.there b o e hx
  exact there b o' (neC b o e hx) e1
 ·obtain⟨m1,e1⟩:=I.base.tbls b ps e
  obtain⟨m2,e2⟩:=tbls b _ e1
  exact⟨m1++m2,by rw[e2,Array.append_assoc]⟩
 ·obtain⟨m,hn,hl⟩:=I.loc
  refine⟨m,ns m hn,fun i x v e1 e2 e3=>?_⟩
  obtain⟨u,r,l⟩:=hl i x v e1 e2 e3
  refine⟨u,r, ?_⟩
  rcases l with l|⟨k,c,e,z⟩
  ·exact .inl l
  ·exact .inr ⟨k,c,e,cellK x c e _ z⟩
 ·obtain⟨v,z⟩:=I.cell x c e
  exact⟨v,cellK x c e v z⟩
 ·obtain⟨m,⟨o,_,_,ho,_⟩,_⟩:=I.loc
  exact free _ o (fun z=>(hch _ z).2.1 rfl) ho I.free
 ·obtain⟨v,o,ho,hd⟩:=I.cell x c e
  exact free c o (fun z=>(hch c z).2.2.1 x c e rfl) ho (I.freeC x c e)
 ·obtain⟨e,n,ne,nf,d⟩:=I.pin p hp
  have nch:p.1 ∉ ch:=fun z=>(hch p.1 z).2.2.2 p hp rfl
  exact⟨keep p.1 p.2 ne nf nch e n,free p.1 p.2 nch e n,ne,nf,d⟩
theorem Inv.un {t':Nat} (I:Inv X pins σ H s) (u:Un X.fs [] H H' s.heap h') (hok:HOk X.prog X.w H' h'):Inv X pins σ H' { s with heap:=h',toks:=t' }:=by
 obtain⟨m,⟨o,es,ep,ho,r⟩,_⟩:=id I.loc
 obtain⟨sl,hL⟩:=u.any ho I.free (by simp)
 exact I.step (g':=s.gens) (d':=s.drawn) (ch:=[]) (fun _ z=>nomatch z) (fun b o _ hb _ e n=>u.keep b o e n hb (by simp)) (fun b o _ hb _ e n=>u.slot b o e n hb (by simp)) (fun b o _ e n=>u.free b o e n (by simp)) (fun b o _ e=>u.there b o e (by simp)) u.tups u.frzs u.tbls (fun m' hm=>by
  obtain⟨o',es',ep',ho',r'⟩:=hm
  rw[ho] at ho';cases ho'
  exact⟨_,es',ep',hL,r'⟩) hok I.bare
theorem Inv.call {g':Array GenState}{t':Nat}{d':Drawn}{ch:List Addr} (I:Inv X pins σ H s) (u:Un (frs X.stack) ch H H' s.heap h') (hok:HOk X.prog X.w H' h') (hg:AllBare g')
  (hch:∀b∈ch,(b∈X.ex\/X.s₀.heap.objs.size<=b)/\b≠X.env.locals/\(∀x c,X.env.cells.lookup x=some c->c≠b)/\∀p∈X.pn++pins,p.1≠b) :
  Inv X pins σ H' { s with heap:=h',gens:=g',drawn:=d',toks:=t' }:=by
 obtain⟨m,⟨o,es,ep,ho,r⟩,_⟩:=id I.loc
 obtain⟨sl,hL⟩:=u.any ho I.free fun z=>(hch _ z).2.1 rfl
 exact I.step (ch:=ch) hch (fun b o hL hb hc e n=>u.keep b o e n (fun z=>(ZqE.mp (I.stkSub b z)).elim hL hb) hc) (fun b o _ _ hc e n=>u.any e n hc) (fun b o hc e n=>u.free b o e n hc) (fun b o hc e=>u.there b o e hc) u.tups u.frzs u.tbls (fun m' hm=>by
  obtain⟨o',es',ep',ho',r'⟩:=hm
  rw[ho] at ho';cases ho'
  exact⟨_,es',ep',hL,r'⟩) hok hg
theorem Inv.turned {t':Nat}{it:Addr} (I:Inv X pins σ H s) (k:∀b o,b≠it->s.heap.get? b=some o->h'.get? b=some o) (hn:H it=none) (hL:it≠X.env.locals)
  (h1:it∈X.ex\/X.s₀.heap.objs.size<=it) (h2:∀x c,X.env.cells.lookup x=some c->c≠it) (h3:∀p∈X.pn++pins,p.1≠it):Inv X pins σ H { s with heap:=h',toks:=t' }:=by
 have nit:∀b u,H b=some u->b≠it:=fun b u e z=>by rw[z,hn] at e;cases e
 refine I.step (g':=s.gens) (d':=s.drawn) (ch:=[it]) (fun b hb=>?_) (fun b o _ _ hc e _=>k b o (fun z=>hc (by simp[z])) e) (fun b o _ _ hc e _=>⟨o.slots,k b o (fun z=>hc (by simp[z])) e⟩) (fun _ _ _ _ n=>n)
  (fun b o hc e=>⟨o,k b o (fun z=>hc (by simp[z])) e⟩) (fun _ _ e=>e) (fun _ _ _ e=>e) (fun b ps e=>⟨#[],by rw[e];simp⟩) (fun m hm=>?_) (fun b u e=>?_) I.bare
 ·have e:b=it:=by simpa using hb
  subst e
  exact⟨h1,hL,h2,h3⟩
 ·obtain⟨o,es,ep,ho,r⟩:=hm
  exact⟨o,es,ep,k _ o (Ne.symm hL) ho,r⟩
 ·refine(I.hok b u e).stay (fun c v hc q=>k c v ?_ q) (fun _ q=>q) fun _ _ q=>q
  rcases hc with z|z
  ·rw[z];exact nit b u e
  ·exact nit c _ z
theorem Inv.tok (I:Inv X pins σ H s) (t:Nat):Inv X pins σ H { s with toks:=t }:=I.un (h':=s.heap) (t':=t) Un.refl I.hok
theorem Inv.kept {t':Nat} (I:Inv X pins σ H s) (k:∀b u,s.heap.get? b=some u->h'.get? b=some u):Inv X pins σ H { s with heap:=h',toks:=t' }:=I.un (Un.kept k) (I.hok.kept k)
theorem Inv.laid {a:Addr}{o:HO}{t':Nat} (I:Inv X pins σ H s) (k:∀b u,s.heap.get? b=some u->h'.get? b=some u) (hp:s.heap.objs.size<=a) (new:Jg X.prog X.w (upd H a o) h' a o) :
  Inv X pins σ (upd H a o) { s with heap:=h',toks:=t' }:=I.un (Un.laid k hp (I.hok.fresh hp)) (I.hok.laid k hp new)
theorem Inv.write {x e:Addr}{o:HO}{t':Nat} (I:Inv X pins σ H s) (mu:Mut (H x)) (he:e=x\/H e=some (.own x)) (k:∀b u,b≠e->s.heap.get? b=some u->h'.get? b=some u) (heo:∃u,h'.get? e=some u)
  (new:Jg X.prog X.w (upd H x o) h' x o):Inv X pins σ (upd H x o) { s with heap:=h',toks:=t' }:=I.un (Un.write mu he k heo) (I.hok.write mu he k heo new)
theorem Inv.pins_of {pins':List (Addr×Obj)} (I:Inv X pins σ H s) (h:∀p∈pins',s.heap.get? p.1=some p.2/\H p.1=none/\p.1≠X.env.locals/\p.1 ∉ X.fs/\∀v,p.2.data≠.cell v):Inv X pins' σ H s:=
 ⟨I.ok,I.os,I.bare,I.base,I.loc,I.cell,I.free,I.freeC,fun p hp=>(Zq9.mp hp).elim (fun z=>I.pin p (Zq8 _ z)) (h p),I.hok,I.len⟩
theorem Q1 {N:List Str} (hN:N.Nodup) {i j:Nat}{x:Str} (a:N[i]?=some x) (b:N[j]?=some x):i=j:=by
 obtain⟨h1,e1⟩:=ZqM.mp a
 obtain⟨h2,e2⟩:=ZqM.mp b
 exact(List.getElem_inj hN).mp (e1.trans e2.symm)
theorem QR {M:Model}{A:Around}{E:Value->Shared->Prop}{i:Nat}{x:Str}{v:V}{u:Value}{Q:Unit->Shared->Prop} (I:Inv X pins σ H s) (hN:X.N.Nodup) (hi:X.N[i]?=some x) (hx:Loc X.env.scope x) (r:ZY v u)
  (h:∀s',Inv X pins (σ.set i (some v)) H s'->(∃a,Heap.SameBut a s.heap s'.heap/\(a=X.env.locals\/X.env.cells.lookup x=some a))->Q () s') (hf:X.fn x=true\/X.env.scope.names.lookup x=some .local):wpAny M A (storeName X.env x u) Q E s:=by
 obtain⟨m,hn,hl⟩:=id I.loc
 have hcls:(X.env.scope.kind==.class || (X.env.scope.kind==.module&&X.env.locals != X.env.globals))=false:=by rw[I.ok.kind];rfl
 have hiσ:i<σ.length:=by rw[I.len];exact(ZqM.mp hi).1
 have cne:=I.cne
 have tracked:∀{a:Addr}{h':Heap},(∃o,s.heap.get? a=some o/\H a=none)->Heap.SameBut a s.heap h'->HOk X.prog X.w H h':=fun {a h'} ha hs b ob e=>by
  obtain⟨_,_,hfree⟩:=ha
  refine(I.hok b ob e).stay (fun c w' hc q=>(hs.2 c ?_).trans q) (fun _ q=>q) fun _ _ q=>q
  rintro rfl
  rcases hc with rfl|hc
  ·rw[hfree] at e;cases e
  ·rw[hfree] at hc;cases hc
 rcases hx with hk|hk
 ·refine wpAny_storeName_local hk hn (fun h' hn' hs=>?_) hcls
  obtain⟨oL,_,_,hoL,_⟩:=id hn
  refine h _ ⟨I.ok,I.os,I.bare,⟨fun b o e n hb hx=>?_,fun b o e n hb hx=>?_,I.base.free,fun b o e hx=>?_,I.base.tups,I.base.frzs,I.base.tbls⟩,⟨_,hn',fun j y v' e1 e2 e3=>?_⟩,fun y c e=>?_,I.free,I.freeC,fun p hp=>?_,tracked ⟨oL,hoL,I.free⟩ hs,by simpa using I.len⟩ ⟨_,hs,.inl rfl⟩
  ·exact(hs.2 b (ZqN (ZqD (Heap.lt_size e) I.ok.above))).trans (I.base.keep b o e n hb hx)
  ·obtain⟨sl,e1⟩:=I.base.slot b o e n hb hx
   exact⟨sl,(hs.2 b (ZqN (ZqD (Heap.lt_size e) I.ok.above))).trans e1⟩
  ·obtain⟨o',e1⟩:=I.base.there b o e hx
   exact⟨o',(hs.2 b (ZqN (ZqD (Heap.lt_size e) I.ok.above))).trans e1⟩
  ·by_cases hj:j=i
   ·subst hj
    rw[hi] at e1;cases e1
    rw[ZqF hiσ] at e2
    cases e2
    exact⟨u,r,.inl ⟨hk,by simp⟩⟩
   ·rw[ZqB (Ne.symm hj)] at e2
    obtain⟨u',r',q⟩:=hl j y v' e1 e2 e3
    refine⟨u',r', ?_⟩
    rcases q with ⟨k,e⟩|⟨k,c,e,z⟩
    ·refine .inl ⟨k, ?_⟩
     have:y≠x:=fun e=>hj (Q1 hN e1 (e▸hi))
     simp[this,e]
    ·exact .inr ⟨k,c,e,z.sameBut hs (cne y c e)⟩
  ·obtain⟨w',z⟩:=I.cell y c e
   exact⟨w',z.sameBut hs (cne y c e)⟩
  ·obtain⟨e,n,ne,nf,d⟩:=I.pin p hp
   exact⟨(hs.2 p.1 ne).trans e,n,ne,nf,d⟩
 ·have hfn:X.fn x=true:=by
   rcases hf with z|z
   ·exact z
   ·rw[z] at hk;cases hk
  obtain⟨c,hc⟩:=I.ok.has x (.inl hk)
  obtain⟨w',z⟩:=I.cell x c hc
  refine wpAny_storeName_cell I.ok.kind hk hc z (fun h' hc' hs=>?_)
  obtain⟨oc,hoc,hocd⟩:=id z
  refine h { s with heap:=h' } ⟨I.ok,I.os,I.bare,⟨fun b o e n hb hx=>?_,fun b o e n hb hx=>?_,I.base.free,fun b o e hx=>?_,I.base.tups,I.base.frzs,I.base.tbls⟩,⟨m,hn.sameBut hs (Ne.symm (cne x c hc)),fun j y v' e1 e2 e3=>?_⟩,fun y c' e=>?_,I.free,I.freeC,fun p hp=>?_,tracked ⟨oc,hoc,I.freeC x c hc⟩ hs,by simpa using I.len⟩ ⟨c,hs,.inr hc⟩
  ·exact(hs.2 b (ZqN (ZqD (Heap.lt_size e) (I.ok.cab x c hfn hc)))).trans (I.base.keep b o e n hb hx)
  ·obtain⟨sl,e1⟩:=I.base.slot b o e n hb hx
   exact⟨sl,(hs.2 b (ZqN (ZqD (Heap.lt_size e) (I.ok.cab x c hfn hc)))).trans e1⟩
  ·obtain⟨o',e1⟩:=I.base.there b o e hx
   exact⟨o',(hs.2 b (ZqN (ZqD (Heap.lt_size e) (I.ok.cab x c hfn hc)))).trans e1⟩
  ·by_cases hj:j=i
   ·subst hj
    rw[hi] at e1;cases e1
    rw[ZqF hiσ] at e2
    cases e2
    exact⟨u,r,.inr ⟨.inl hk,c,hc,hc'⟩⟩
   ·rw[ZqB (Ne.symm hj)] at e2
    obtain⟨u',r',q⟩:=hl j y v' e1 e2 e3
    refine⟨u',r', ?_⟩
    rcases q with q|⟨k,c',e,z'⟩
    ·exact .inl q
    ·refine .inr ⟨k,c',e,z'.sameBut hs ?_⟩
     rintro rfl
     exact hj (Q1 hN e1 (I.ok.inj _ _ _ e hc▸hi))
  ·by_cases hcc:c'=c
   ·subst hcc;exact⟨_,hc'⟩
   ·obtain⟨w2,z2⟩:=I.cell y c' e
    exact⟨w2,z2.sameBut hs hcc⟩
  ·obtain⟨e,n,ne,nf,d⟩:=I.pin p hp
   refine⟨(hs.2 p.1 ?_).trans e,n,ne,nf,d⟩
   intro q
   rw[q,hoc] at e
   have q':oc=p.2:=Option.some.inj e
   exact d w' (by rw[<- q'];exact hocd)
theorem Uk {M:Model}{A:Around}{E:Value->Shared->Prop}{i:Nat}{x:Str}{v:V}{u:Value}{Q:Unit->Shared->Prop} (I:Inv X pins σ H s) (hN:X.N.Nodup) (hi:X.N[i]?=some x) (hx:Loc X.env.scope x) (r:ZY v u)
  (h:∀s',Inv X pins (σ.set i (some v)) H s'->Q () s') (hf:X.fn x=true\/X.env.scope.names.lookup x=some .local):wpAny M A (storeName X.env x u) Q E s:=
 QR I hN hi hx r (fun s' I' _=>h s' I') hf
theorem Inv.call' {s':Shared}{ch:List Addr} (I:Inv X pins σ H s) (ho:s'.os=s.os) (u:Un (frs X.stack) ch H H' s.heap s'.heap) (hok:HOk X.prog X.w H' s'.heap) (hg:AllBare s'.gens)
  (hch:∀b∈ch,(b∈X.ex\/X.s₀.heap.objs.size<=b)/\b≠X.env.locals/\(∀x c,X.env.cells.lookup x=some c->c≠b)/\∀p∈X.pn++pins,p.1≠b):Inv X pins σ H' s':=by
 obtain⟨h',g',d',t',o'⟩:=s'
 have e:o'=s.os:=ho
 subst e
 exact I.call (g':=g') (t':=t') (d':=d') u hok hg hch
end
noncomputable abbrev XK:=Value->Option Addr->Hp->Prop
noncomputable abbrev St:=List (Option V)
noncomputable abbrev VK:=V->Hp->Prop
noncomputable abbrev TE:=St->Hp->VK->Prop
noncomputable abbrev TT:=St->Hp->(Bool->Hp->Prop)->Prop
noncomputable abbrev TA:=St->Hp->(List V->Hp->Prop)->Prop
structure ZcZ where
 nx:St->Hp->Prop
 rt:VK
 bk:St->Hp->Prop:=fun _ _=>False
 ct:St->Hp->Prop:=fun _ _=>False
noncomputable abbrev TS:=ZcZ->St->Hp->Prop
def EP (X:Cx) (pins:List (Addr×Obj)) (σ:St) (Q:VK) (u:Value) (s':Shared):Prop:=∃v H',Inv X pins σ H' s'/\ZY v u/\Q v H'
def TP (X:Cx) (pins:List (Addr×Obj)) (σ:St) (Q:Bool->Hp->Prop) (b:Bool) (s':Shared):Prop:=∃H',Inv X pins σ H' s'/\Q b H'
def AP (X:Cx) (pins:List (Addr×Obj)) (σ:St) (Q:List V->Hp->Prop) (us:List Value) (s':Shared):Prop:=∃vs H',Inv X pins σ H' s'/\ZP vs us/\Q vs H'
def SP (X:Cx) (pins:List (Addr×Obj)) (D:ZcZ) (f:Flow) (s':Shared):Prop:=
 match f with
 |.next=>∃σ' H',Inv X pins σ' H' s'/\D.nx σ' H'
 |.brk=>∃σ' H',Inv X pins σ' H' s'/\D.bk σ' H'
 |.cont=>∃σ' H',Inv X pins σ' H' s'/\D.ct σ' H'
 |.ret u=>∃v σ' H',Inv X pins σ' H' s'/\ZY v u/\D.rt v H'
def PE (X:Cx) (e:Expr) (t:TE):Prop:=
 ∀(pins:List (Addr×Obj)) (s:Shared) (σ:St) (H:Hp) (Q:VK),Inv X pins σ H s->t σ H Q->wpAny (model X.prog X.w) X.A (eval e X.env) (EP X pins σ Q) X.xe s
def PT (X:Cx) (e:Expr) (t:TT):Prop:=
 ∀(pins:List (Addr×Obj)) (s:Shared) (σ:St) (H:Hp) (Q:Bool->Hp->Prop),Inv X pins σ H s->t σ H Q->wpAny (model X.prog X.w) X.A (isTrue e X.env (eval e X.env)) (TP X pins σ Q) X.xe s
def PW (X:Cx) (e:Expr) (t:TT):Prop:=
 ∀(whole:Sem Value) (pins:List (Addr×Obj)) (s:Shared) (σ:St) (H:Hp) (Q:Bool->Hp->Prop),Inv X pins σ H s->t σ H Q->wpAny (model X.prog X.w) X.A (isTrue e X.env whole) (TP X pins σ Q) X.xe s
theorem PW.pt {X:Cx}{e:Expr}{t:TT} (h:PW X e t):PT X e t:=h _
def PA (X:Cx) (es:List Expr) (t:TA):Prop:=
 ∀(pos:Pos) (pins:List (Addr×Obj)) (s:Shared) (σ:St) (H:Hp) (Q:List V->Hp->Prop),Inv X pins σ H s->t σ H Q->wpAny (model X.prog X.w) X.A (spliced (backTo pos (starEach es X.env))) (AP X pins σ Q) X.xe s
def PS (X:Cx) (st:Stmt) (t:TS):Prop:=
 ∀(pins:List (Addr×Obj)) (s:Shared) (σ:St) (H:Hp) (D:ZcZ),Inv X pins σ H s->t D σ H->wpAny (model X.prog X.w) X.A (exec st X.env) (SP X pins D) X.xe s
def PSs (X:Cx) (st:List Stmt) (t:TS):Prop:=
 ∀(pins:List (Addr×Obj)) (s:Shared) (σ:St) (H:Hp) (D:ZcZ),Inv X pins σ H s->t D σ H->wpAny (model X.prog X.w) X.A (execs st X.env) (SP X pins D) X.xe s
theorem thn {α:Type}{t:Sem α}{Q Q':α->Shared->Prop}{M:Model}{A:Around}{E:Value->Shared->Prop}{s:Shared} (h:wpAny M A t Q E s) (hQ:∀a s,Q a s->Q' a s):wpAny M A t Q' E s:=wpAny_mono h hQ fun _ _ x=>x
section
variable {X:Cx}
noncomputable def VS (i:Nat):TE:=fun σ H Q=>∃v,σ[i]?=some (some v)/\Q v H
noncomputable def tC (v:V):TE:=fun _ H Q=>Q v H
theorem Zi0 {i:Nat}{x:Str}{pos:Pos} (hN:X.N[i]?=some x) (hv:Vis X.env.scope x) (hd:(x==("__debug__":Str))=false:=by decide) (hcd:(x==("__classdict__":Str))=false:=by decide):PE X (.Name x pos) (VS i):=by
 intro pins s σ H Q I h
 obtain⟨v,e,h⟩:=h
 obtain⟨m,hn,hl⟩:=I.loc
 obtain⟨u,r,l⟩:=hl i x v hN e hv
 have fin:EP X pins σ Q u s:=⟨v,H,I,r,h⟩
 rcases l with ⟨hk,hm⟩|⟨hk,c,hc,hcell⟩
 ·exact wpAny_Name (wpAny_loadName_local I.ok.kind hk hn hm fin) hd
 ·rcases hk with hk|hk
  ·exact wpAny_Name (wpAny_loadName_cell I.ok.kind hk hc hcell fin) hd
  ·exact wpAny_Name (wpAny_loadName_free I.ok.kind hk hc hcell fin hcd) hd
theorem Zm {i j pos}:PE X (.Constant (.int i) j pos) (tC (.int i)):=fun _ _ _ H _ I h=>wpAny_Constant_int ⟨.int i,H,I.tok _,⟨_,rfl⟩,h⟩
theorem U3 {b j pos}:PE X (.Constant (.bool b) j pos) (tC (.bl b)):=fun _ _ _ H _ I h=>Constant_bool ⟨.bl b,H,I,rfl,h⟩
theorem ZbG {j pos}:PE X (.Constant .none j pos) (tC .non):=fun _ _ _ H _ I h=>Constant_none ⟨.non,H,I,rfl,h⟩
theorem Jx {x j pos}:PE X (.Constant (.str x) j pos) (tC (.str x)):=fun _ _ _ H _ I h=>Calls.Constant_str ⟨.str x,H,I.tok _,⟨_,rfl⟩,h⟩
def Gl (X:Cx) (x:Str):Prop:=X.env.kindOf x=some .globalImplicit
theorem JI {E:Value->Shared->Prop}{pins:List (Addr×Obj)}{s:Shared}{σ:St}{H:Hp}{x:Str}{u:Value}{pos:Pos}{Q:Value->Shared->Prop} (I:Inv X pins σ H s) (hg:Gl X x) (hm:X.mg x=some u) (h:Q u s)
  (hd:(x==("__debug__":Str))=false:=by decide):wpAny (model X.prog X.w) X.A (eval (.Name x pos) X.env) Q E s:=
 Calls.Name_function_global I.ok.kind hg (Calls.loadGlobal_global (by rw[I.ok.glob];exact I.mod.glob.keeps I.bk) hm h) hd
theorem Qh {E:Value->Shared->Prop}{pins:List (Addr×Obj)}{s:Shared}{σ:St}{H:Hp}{x:Str}{u:Value}{pos:Pos}{Q:Value->Shared->Prop} (I:Inv X pins σ H s) (hg:Gl X x) (hm:X.mg x=none) (hv:bootBuiltins x=some u) (h:Q u s)
  (hn:x ≠ "__name__":=by decide) (hd:(x==("__debug__":Str))=false:=by decide):wpAny (model X.prog X.w) X.A (eval (.Name x pos) X.env) Q E s:=by
 obtain⟨mb,h1,h2⟩:=I.mod.blt
 exact Calls.Name_function_global I.ok.kind hg (Calls.loadGlobal_builtin (by rw[I.ok.glob];exact I.mod.glob.keeps I.bk) hm (by rw[I.ok.blt];exact h1.keeps I.bk) ((h2 x hn).trans hv) h) hd
theorem U2 {x:Str}{v:V}{u:Value}{pos:Pos} (hg:Gl X x) (hm:X.mg x=some u) (r:ZY v u) (hd:(x==("__debug__":Str))=false:=by decide):PE X (.Name x pos) (tC v):=
 fun _ _ _ H _ I h=>JI I hg hm ⟨v,H,I,r,h⟩ hd
theorem Vl {x:Str}{v:V}{u:Value}{pos:Pos} (hg:Gl X x) (hm:X.mg x=none) (hv:bootBuiltins x=some u) (r:ZY v u) (hn:x ≠ "__name__":=by decide) (hd:(x==("__debug__":Str))=false:=by decide):PE X (.Name x pos) (tC v):=
 fun _ _ _ H _ I h=>Qh I hg hm hv ⟨v,H,I,r,h⟩ hn hd
variable {a b:Expr}{ta tb:TE}{pos:Pos}
def PC (X:Cx) (op:CmpOp) (a b:Expr) (t:TE):Prop:=
 ∀(pins:List (Addr×Obj)) (s:Shared) (σ:St) (H:Hp) (Q:VK),Inv X pins σ H s->t σ H Q ->
  wpAny (model X.prog X.w) X.A (eval a X.env) (fun v s₁=>wpAny (model X.prog X.w) X.A (eval b X.env) (fun u s₂=>wpAny (model X.prog X.w) X.A (compareOp op v u) (EP X pins σ Q) X.xe s₂) X.xe s₁) X.xe s
theorem Zf1 (b:Expr) {op:CmpOp} (h:op≠.In) (h2:op≠.NotIn):behindInMarks op b=false:=by
 have e1:(op==CmpOp.In)=false:=by cases op<;>first|rfl|exact absurd rfl h
 have e2:(op==CmpOp.NotIn)=false:=by cases op<;>first|rfl|exact absurd rfl h2
 cases b<;>simp[behindInMarks,e1,e2]
noncomputable def tB (t:TE):TT:=fun σ H Q=>t σ H fun x H1=>∃c,x=.bl c/\Q c H1
theorem Zix {op:CmpOp}{t:TE} (h:PC X op a b t) (h1:behindInMarks op b=false:=by first|exact Zf1 _ (by decide) (by decide)|rfl):PT X (.Compare a [op] [b] pos) (tB t):=by
 intro pins s σ H Q I hw
 refine wpAny_isTrue_Compare1 (thn (h pins s σ H _ I hw) fun v s1 h1=>thn h1 fun u s2 h2=>thn h2 fun c s3 ⟨x,H1,I1,r1,q1⟩=>?_) h1
 obtain⟨d,rfl,q⟩:=q1
 cases r1
 exact wpAny_truthy_bool ⟨H1,I1,q⟩
theorem ZZ {e:Expr}{t:TE} (h:PE X e t) (he:∀whole,isTrue e X.env whole=(do let v <- whole;standAt e.pos;holding [v] (truthy v)):=by exact fun _=>rfl):PT X e (tB t):=by
 intro pins s σ H Q I hw
 refine isTrue_plain (thn (h pins s σ H _ I hw) fun v s1 ⟨x,H1,I1,r1,q1⟩=>?_) (he _)
 obtain⟨d,rfl,q⟩:=q1
 cases r1
 exact wpAny_truthy_bool ⟨H1,I1,q⟩
variable {tA tB':TT}{Zgj:List Expr}
noncomputable def tOr (t u:TT):TT:=fun σ H Q=>t σ H fun c H1=>if c=true then Q true H1 else u σ H1 Q
noncomputable def ZkJ (t:TT):TT:=fun σ H Q=>t σ H fun c H1=>Q (!c) H1
theorem VT (ha:PT X a tA):PW X (.BoolOp .Or [a] pos) tA:=by
 intro wh pins s σ H Q I h
 refine isTrue_or (thn (ha pins s σ H Q I h) fun c s1 e=>?_)
 cases c with
 |false=>exact isTrue_or_nil e
 |true=>exact e
theorem Vk (ha:PT X a tA) (hb:PW X (.BoolOp .Or (b::Zgj) pos) tB'):PW X (.BoolOp .Or (a::b::Zgj) pos) (tOr tA tB'):=by
 intro wh pins s σ H Q I h
 refine isTrue_or (thn (ha pins s σ H _ I h) fun c s1 ⟨H1,I1,q1⟩=>?_)
 cases c with
 |true=>exact⟨H1,I1,q1⟩
 |false=>exact hb wh pins s1 σ H1 Q I1 q1
theorem Jj (ha:PT X a tA):PT X (.UnaryOp .Not a pos) (ZkJ tA):=by
 intro pins s σ H Q I h
 exact isTrue_not (ha pins s σ H (fun c H1=>Q (!c) H1) I h)
noncomputable def Zin (ta tb:TE):TE:=fun σ H Q=>ta σ H fun x H1=>∃c,x=.bl c/\if c=true then tb σ H1 Q else Q (.bl false) H1
noncomputable def Zig (ta:TE):TE:=fun σ H Q=>ta σ H fun x H1=>∃c,x=.bl c/\Q (.bl (!c)) H1
theorem QZ {op}{t:TE} (h:PE X a t):PE X (.BoolOp op [a] pos) t:=fun pins s σ H Q I hw=>BoolOp_one (h pins s σ H Q I hw)
theorem Zac (ha:PE X a ta) (hb:PE X (.BoolOp .And (b::Zgj) pos) tb):PE X (.BoolOp .And (a::b::Zgj) pos) (Zin ta tb):=by
 intro pins s σ H Q I h
 refine BoolOp_and (thn (ha pins s σ H _ I h) fun v s1 ⟨x,H1,I1,r1,q1⟩=>?_)
 obtain⟨c,rfl,q1⟩:=q1
 cases r1
 refine wpAny_truthy_bool ?_
 cases c with
 |true=>exact hb pins s1 σ H1 Q I1 q1
 |false=>exact⟨.bl false,H1,I1,rfl,q1⟩
theorem Zi1 (ha:PE X a ta):PE X (.UnaryOp .Not a pos) (Zig ta):=by
 intro pins s σ H Q I h
 refine UnaryOp_ (thn (ha pins s σ H _ I h) fun v s1 ⟨x,H1,I1,r1,q1⟩=>?_)
 obtain⟨c,rfl,q1⟩:=q1
 cases r1
 exact not_of (wpAny_truthy_bool ⟨.bl (!c),H1,I1,rfl,q1⟩)
end
def SqL (K:W.Frag) (H:Hp) (a:Addr) (xs:List V):Prop:=
 Rd H a (.lst xs) \/
  ∃(o:Obj) (its:Array Value) (n:Nat),K.lookup a=some o/\o.cls=.type "list"/\o.dict=none/\o.data=.seq its n/\its.size<=sizeLine/\ZP xs its.toList
def SqT (K:W.Frag) (H:Hp) (a:Addr) (xs:List V):Prop:=
 Rd H a (.tup xs) \/
  ∃(o:Obj) (its:Array Value) (n:Nat),K.lookup a=some o/\o.cls=.type "tuple"/\o.data=.seq its n/\its.size<=sizeLine/\ZP xs its.toList
noncomputable def Zlw:Value->Option V
 |.none=>some .non
 |.bool b=>some (.bl b)
 |.int i _=>some (.int i)
 |.str x _=>some (.str x)
 |.bytes b _=>some (.byt b)
 |.float b _=>some (.flt b)
 |.ref a=>some (.ref a)
 |.type n=>some (.ty n)
 |_=>none
theorem ZY.abs {x:V}{u:Value} (r:ZY x u):Zlw u=some x:=by
 cases x with
 |non=>cases r;rfl
 |bl _=>cases r;rfl
 |int _=>obtain⟨t,rfl⟩:=r;rfl
 |str _=>obtain⟨t,rfl⟩:=r;rfl
 |byt _=>obtain⟨t,rfl⟩:=r;rfl
 |flt _=>obtain⟨t,rfl⟩:=r;rfl
 |ref _=>cases r;rfl
 |ty _=>cases r;rfl
theorem ZY.inj {x y:V}{u:Value} (r:ZY x u) (q:ZY y u):x=y:=Option.some.inj (r.abs.symm.trans q.abs)
theorem ZP.inj:∀{xs ys:List V}{us:List Value},ZP xs us->ZP ys us->xs=ys
 |_,_,_,.nil,.nil=>rfl
 |_,_,_,.cons r t,.cons r' t'=>by rw[r.inj r',ZP.inj t t']
section
variable {X:Cx}{pins:List (Addr×Obj)}{σ:St}{H:Hp}{s:Shared}{a:Addr}{xs ys:List V}
theorem SqL.of {K:W.Frag} (h:H a=some (.lst xs)):SqL K H a xs:=.inl (.inl h)
theorem Inv.list (I:Inv X pins σ H s) (h:SqL X.K H a xs):∃its:List Value,ZP xs its/\PlainL s.heap a its.toArray/\xs.length<=sizeLine:=by
 rcases h with h|⟨o,its,n,hk,hc,hd,hs,hz,r⟩
 ·obtain⟨z,its,n,r,e⟩:=h.ok I.hok
  exact⟨its,r,⟨_,n,e,rfl,rfl,rfl⟩,z⟩
 ·refine⟨its.toList,r,⟨o,n,I.kIn a o hk,hc,hd,by simpa using hs⟩, ?_⟩
  have e:=r.length
  simp only[Zr0] at e
  omega
theorem Inv.tuple (I:Inv X pins σ H s) (h:SqT X.K H a xs):∃its:List Value,ZP xs its/\IsTup s.heap a its.toArray/\xs.length<=sizeLine:=by
 rcases h with h|⟨o,its,n,hk,hc,hs,hz,r⟩
 ·obtain⟨z,its,r,p⟩:=h.ok I.hok
  exact⟨its,r,p,z⟩
 ·refine⟨its.toList,r,⟨o,I.kIn a o hk,hc,n,by simpa using hs⟩, ?_⟩
  have e:=r.length
  simp only[Zr0] at e
  omega
theorem Inv.list_inj (I:Inv X pins σ H s) (h:SqL X.K H a xs) (h':SqL X.K H a ys):xs=ys:=by
 obtain⟨its,r,⟨o,n,e,_,_,d⟩,_⟩:=I.list h
 obtain⟨its',r',⟨o',n',e',_,_,d'⟩,_⟩:=I.list h'
 rw[e] at e';cases e'
 rw[d] at d'
 injection d' with d1 _
 have:its=its':=by simpa using congrArg Array.toList d1
 subst this
 exact r.inj r'
end
noncomputable abbrev Cx.wish (X:Cx) (E:Value->Shared->Prop):Cx:={ X with xe:=E }
noncomputable abbrev Cx.nox (X:Cx):Cx:=X.wish fun _ _=>False
theorem Cx.Ok.wish {X:Cx} (ok:X.Ok) (E:Value->Shared->Prop):(X.wish E).Ok:=
 ⟨ok.mod,ok.kind,ok.glob,ok.blt,ok.above,ok.inj,ok.has,ok.cab,ok.hd,ok.frames,ok.stk,ok.exf,ok.bs,ok.bsz,ok.noex,ok.exfs,ok.funs,ok.frf⟩
theorem Cx.Ok.unwish {X:Cx}{E:Value->Shared->Prop} (ok:(X.wish E).Ok):X.Ok:=
 ⟨ok.mod,ok.kind,ok.glob,ok.blt,ok.above,ok.inj,ok.has,ok.cab,ok.hd,ok.frames,ok.stk,ok.exf,ok.bs,ok.bsz,ok.noex,ok.exfs,ok.funs,ok.frf⟩
section
variable {X:Cx}{pins:List (Addr×Obj)}{σ:St}{H:Hp}{s:Shared}{E:Value->Shared->Prop}
theorem Inv.wish (I:Inv X pins σ H s) (E:Value->Shared->Prop):Inv (X.wish E) pins σ H s:=⟨I.ok.wish E,I.os,I.bare,I.base,I.loc,I.cell,I.free,I.freeC,I.pin,I.hok,I.len⟩
theorem Inv.unwish (I:Inv (X.wish E) pins σ H s):Inv X pins σ H s:=⟨I.ok.unwish,I.os,I.bare,I.base,I.loc,I.cell,I.free,I.freeC,I.pin,I.hok,I.len⟩
theorem SP.unwish {D:ZcZ}{f:Flow}{s':Shared} (h:SP (X.wish E) pins D f s'):SP X pins D f s':=by
 cases f with
 |next=>obtain⟨σ',H',I,q⟩:=h;exact⟨σ',H',I.unwish,q⟩
 |brk=>obtain⟨σ',H',I,q⟩:=h;exact⟨σ',H',I.unwish,q⟩
 |cont=>obtain⟨σ',H',I,q⟩:=h;exact⟨σ',H',I.unwish,q⟩
 |ret u=>obtain⟨v,σ',H',I,r,q⟩:=h;exact⟨v,σ',H',I.unwish,r,q⟩
theorem PSs.nox {st:List Stmt}{t:TS} (h:PSs X.nox st t):PSs X st t:=fun pins s σ H D I hw =>
 wpAny_mono (h pins s σ H D (I.wish _) hw) (fun _ _ q=>q.unwish) fun _ _ z=>False.elim z
end
section
variable {X:Cx}{st:Stmt}{Zgj:List Stmt}{t u:TS}{e:Expr}{te:TE}{pos:Pos}
noncomputable def Zdh:TS:=fun D σ H=>D.nx σ H
noncomputable def ZkI (t u:TS):TS:=fun D σ H=>t { D with nx:=u D } σ H
theorem Z8:PSs X [] Zdh:=fun _ _ σ H _ I h=>wpAny_execs_nil ⟨σ,H,I,h⟩
theorem Zh (h1:PS X st t) (h2:PSs X Zgj u):PSs X (st::Zgj) (ZkI t u):=by
 intro pins s σ H D I h
 refine wpAny_execs_cons (thn (h1 pins s σ H { D with nx:=u D } I h) fun f s1 q=>?_)
 cases f with
 |next =>
  obtain⟨σ',H',I',q⟩:=q
  exact h2 pins s1 σ' H' D I' q
 |ret v=>exact q
 |brk=>exact q
 |cont=>exact q
theorem Zi (h1:PS X st t):PSs X [st] t:=by
 intro pins s σ H D I h
 refine wpAny_execs_cons (thn (h1 pins s σ H D I h) fun f s1 q=>?_)
 cases f with
 |next=>exact wpAny_execs_nil q
 |ret v=>exact q
 |brk=>exact q
 |cont=>exact q
theorem Inv.quiet {pins:List (Addr×Obj)}{σ:St}{H:Hp}{s:Shared} (I:Inv X pins σ H s):interactive X.env=false:=by simp[interactive,I.ok.kind]
noncomputable def ZaM (te:TE):TS:=fun D σ H=>te σ H fun _ H1=>D.nx σ H1
theorem ZF (he:PE X e te) (hs:swapsWith e none pos.line X.env=pure false:=by rfl):PS X (.Expr e pos) (ZaM te):=by
 intro pins s σ H D I h
 exact wpAny_Expr_any (thn (he pins s σ H _ I h) fun v s1 ⟨x,H1,I1,r1,q1⟩=>⟨σ,H1,I1,q1⟩) I.quiet hs
noncomputable def ZgG (te:TE):TS:=fun D σ H=>te σ H D.rt
theorem Z2 (he:PE X e te):PS X (.Return (some e) pos) (ZgG te):=by
 intro pins s σ H D I h
 exact wpAny_Return_some (thn (he pins s σ H _ I h) fun v s1 ⟨x,H1,I1,r1,q1⟩=>⟨x,σ,H1,I1,r1,q1⟩)
noncomputable def ZhU (c:TT) (t u:TS):TS:=fun D σ H=>c σ H fun b H1=>if b=true then t D σ H1 else u D σ H1
theorem Ji {c:Expr}{a b:List Stmt}{tc:TT} (hc:PT X c tc) (ha:PSs X a t) (hb:PSs X b u):PS X (.If c a b pos) (ZhU tc t u):=by
 intro pins s σ H D I h
 refine wpAny_If (thn (hc pins s σ H _ I h) fun d s1 ⟨H1,I1,q1⟩=>?_)
 cases d with
 |true=>exact ha pins s1 σ H1 D I1 q1
 |false=>exact hb pins s1 σ H1 D I1 q1
noncomputable def Zdi:TS:=fun _ _ _=>False
theorem ZbE:PS X st Zdi:=fun _ _ _ _ _ _ h=>h.elim
theorem U0 {sts:List Stmt}:PSs X sts Zdi:=fun _ _ _ _ _ _ h=>h.elim
end
noncomputable abbrev TG:=V->St->Hp->(St->Hp->Prop)->Prop
noncomputable abbrev TGs:=List V->St->Hp->(St->Hp->Prop)->Prop
def PG (X:Cx) (target:Expr) (t:TG):Prop:=
 ∀(pins:List (Addr×Obj)) (s:Shared) (σ:St) (H:Hp) (v:V) (u:Value) (Q:St->Hp->Prop),Inv X pins σ H s->ZY v u->t v σ H Q ->
  wpAny (model X.prog X.w) X.A (assign target X.env u) (fun _ s'=>∃σ' H',Inv X pins σ' H' s'/\Q σ' H') X.xe s
def PGs (X:Cx) (ts:List Expr) (t:TGs):Prop:=
 ∀(pins:List (Addr×Obj)) (s:Shared) (σ:St) (H:Hp) (vs:List V) (us:List Value) (Q:St->Hp->Prop),Inv X pins σ H s->ZP vs us->t vs σ H Q ->
  wpAny (model X.prog X.w) X.A (assignInOrder ((assignEach ts X.env).map (·.2)) us) (fun _ s'=>∃σ' H',Inv X pins σ' H' s'/\Q σ' H') X.xe s
noncomputable abbrev Zjx:=V->V->V->Hp->(Hp->Prop)->Prop
def ZkB (X:Cx) (t:Zjx):Prop:=
 ∀(pins:List (Addr×Obj)) (s:Shared) (σ:St) (H:Hp) (o i v:V) (ov iv u:Value) (Q:Hp->Prop),Inv X pins σ H s->ZY o ov->ZY i iv->ZY v u->t o i v H Q ->
  wpAny (model X.prog X.w) X.A (setItem ov iv u) (fun _ s'=>∃H',Inv X pins σ H' s'/\Q H') X.xe s
noncomputable abbrev TIp:=V->V->Hp->VK->Prop
def PIp (X:Cx) (op:Operator) (t:TIp):Prop:=
 ∀(pins:List (Addr×Obj)) (s:Shared) (σ:St) (H:Hp) (x y:V) (v u:Value) (Q:VK),Inv X pins σ H s->ZY x v->ZY y u->t x y H Q ->
  wpAny (model X.prog X.w) X.A (inplaceOp op v u) (EP X pins σ Q) X.xe s
section
variable {X:Cx}{pos:Pos}
noncomputable def Ub (i:Nat):TG:=fun v σ H Q=>Q (σ.set i (some v)) H
theorem Jq {i:Nat}{x:Str} (hN:X.N.Nodup) (hi:X.N[i]?=some x) (hx:Loc X.env.scope x) (hf:X.fn x=true\/X.env.scope.names.lookup x=some .local:=by first|exact .inl rfl|exact .inr rfl|assumption):PG X (.Name x pos) (Ub i):=by
 intro pins s σ H v u Q I r h
 exact wpAny_assign_Name (Uk I hN hi hx r (fun s' I'=>⟨_,H,I',h⟩) hf)
noncomputable def Zki:TGs:=fun vs σ H Q=>vs=[]/\Q σ H
noncomputable def Zhu (t:TG) (u:TGs):TGs:=fun vs σ H Q=>∃v r,vs=v::r/\t v σ H fun σ' H'=>u r σ' H' Q
theorem Zd1:PGs X [] Zki:=by
 intro pins s σ H vs us Q I r h
 obtain⟨e,h⟩:=h
 subst e
 cases r
 exact assignInOrder_nil ⟨σ,H,I,h⟩
theorem Ul {e:Expr}{es:List Expr}{t:TG}{u:TGs} (h1:PG X e t) (h2:PGs X es u)
  (hs:(assignEach (e::es) X.env).map (·.2)=assign e X.env::(assignEach es X.env).map (·.2):=by rfl):PGs X (e::es) (Zhu t u):=by
 intro pins s σ H vs us Q I r h
 obtain⟨v,vr,e1,h⟩:=h
 subst e1
 cases r with
 |cons r rr =>
  rw[hs]
  refine assignInOrder_cons (thn (h1 pins s σ H _ _ _ I r h) fun _ s1 ⟨σ1,H1,I1,q1⟩=>?_)
  exact h2 pins s1 σ1 H1 _ _ Q I1 rr q1
noncomputable def Zkh (K:W.Frag) (n:Nat) (t:TGs):TG:=fun v σ H Q=>∃a xs,v=.ref a/\SqT K H a xs/\xs.length=n/\t xs σ H Q
theorem Zgo {es:List Expr}{k:Nat}{t:TGs}{n:Nat} (hc:X.calm=true) (h:PGs X es t)
  (hn:(assignEach es X.env).length=n:=by rfl) (hst:(assignEach es X.env).findIdx? (·.1)=none:=by rfl):PG X (.Tuple es k pos) (Zkh X.K n t):=by
 intro pins s σ H v u Q I r hw
 obtain⟨a,xs,e1,hq,hl,hw⟩:=hw
 subst e1
 cases r
 obtain⟨its,rv,ht,hz⟩:=I.tuple hq
 refine assign_Tuple_tuple (I.ok.hd hc) ht (by simp[hn,<- hl,rv.length]) hst fun h' hx=>?_
 have I1:Inv X pins σ H { s with heap:=h' }:=I.kept (t':=s.toks) fun b o e=>hx b o (ZqN (Heap.lt_size e)) e
 exact h pins _ σ H xs _ Q I1 (by simpa using rv) hw
noncomputable def Zlc (to ti:TE) (t:Zjx):TG:=fun v σ H Q=>to σ H fun o H1=>ti σ H1 fun i H2=>t o i v H2 fun H3=>Q σ H3
theorem Zgp {o i:Expr}{to ti:TE}{t:Zjx} (ho:PE X o to) (hi:PE X i ti) (hs:ZkB X t)
  (ha:∀v,assign (.Subscript o i pos) X.env v=(do
   let ov <- holding [v] (eval o X.env)
   let iv <- holding [v,ov] (eval i X.env)
   standAt pos
   holding [v,ov,iv] (setItem ov iv v)
   release [v,ov,iv] []):=by exact fun _=>rfl):PG X (.Subscript o i pos) (Zlc to ti t):=by
 intro pins s σ H v u Q I r h
 rw[ha]
 refine wpAny_bind (wpAny_holding (thn (ho pins s σ H _ I h) fun ov s1 ⟨x,H1,I1,r1,q1⟩=>?_))
 refine wpAny_bind (wpAny_holding (thn (hi pins s1 σ H1 _ I1 q1) fun iv s2 ⟨y,H2,I2,r2,q2⟩=>?_))
 refine wpAny_bind (wpAny_standAt (wpAny_bind (wpAny_holding (thn (hs pins s2 σ H2 x y v ov iv u _ I2 r1 r2 r q2) fun _ s3 ⟨H3,I3,q3⟩=>?_))))
 exact wpAny_release ⟨σ,H3,I3,q3⟩
noncomputable def ZgH (te:TE) (g:TG):TS:=fun D σ H=>te σ H fun x H1=>g x σ H1 D.nx
theorem Zdy {tg e:Expr}{te:TE}{g:TG} (he:PE X e te) (hg:PG X tg g) (hs:swapsWithSole [tg] e pos.line X.env=pure false:=by rfl) (hw:swappedStores [tg] e X.env=pure none:=by rfl)
  (h1:(assignEach [tg] X.env).map (·.2)=[assign tg X.env]:=by rfl):PS X (.Assign [tg] e pos) (ZgH te g):=by
 intro pins s σ H D I h
 refine wpAny_Assign_stores (thn (he pins s σ H _ I h) fun v s1 ⟨x,H1,I1,r1,q1⟩=>?_) hs hw
 rw[h1]
 exact thn (hg pins s1 σ H1 x v _ I1 r1 q1) fun _ s2 q=>q
theorem ZC {i:Nat}{x:Str}{e:Expr}{te:TE}{pos':Pos} (hN:X.N.Nodup) (hi:X.N[i]?=some x) (hx:Loc X.env.scope x) (he:PE X e te) (hs:swapsWith e (some (.Name x pos')) pos.line X.env=pure false:=by rfl) (hf:X.fn x=true\/X.env.scope.names.lookup x=some .local:=by first|exact .inl rfl|exact .inr rfl|assumption) :
  PS X (.Assign [.Name x pos'] e pos) (ZgH te (Ub i)):=by
 intro pins s σ H D I h
 refine wpAny_Assign_Name (thn (he pins s σ H _ I h) fun v s1 ⟨y,H1,I1,r1,q1⟩=>?_) hs
 exact Uk I1 hN hi hx r1 (fun s2 I2=>⟨_,H1,I2,q1⟩) hf
noncomputable def Zim (to ti te:TE) (tget:V->V->Hp->VK->Prop) (tip:TIp) (tset:Zjx):TS:=fun D σ H=>to σ H fun o H1=>ti σ H1 fun i H2=>tget o i H2 fun x H3=>te σ H3 fun y H4=>tip x y H4 fun z H5=>tset o i z H5 fun H6=>D.nx σ H6
def ZkC (X:Cx) (t:V->V->Hp->VK->Prop):Prop:=
 ∀(pins:List (Addr×Obj)) (s:Shared) (σ:St) (H:Hp) (o i:V) (ov iv:Value) (Q:VK),Inv X pins σ H s->ZY o ov->ZY i iv->t o i H Q ->
  wpAny (model X.prog X.w) X.A (getItem ov iv) (EP X pins σ Q) X.xe s
theorem ZgQ {o i e:Expr}{to ti te:TE}{tget:V->V->Hp->VK->Prop}{tip:TIp}{tset:Zjx}{op:Operator}{tpos:Pos} (ho:PE X o to) (hi:PE X i ti) (hg:ZkC X tget) (he:PE X e te) (hp:PIp X op tip) (hs:ZkB X tset)
  (ha:∀ov iv new,augStore i ov iv new=(do holding [new,ov,iv] (setItem ov iv new);release [new,ov,iv] [];pure .next):=by intros;rfl):PS X (.AugAssign (.Subscript o i tpos) op e pos) (Zim to ti te tget tip tset):=by
 intro pins s σ H D I h
 refine wpAny_AugAssign_SubscriptAny (thn (ho pins s σ H _ I h) fun ov s1 ⟨x1,H1,I1,r1,q1⟩=>?_) ha
 refine thn (hi pins s1 σ H1 _ I1 q1) fun iv s2 ⟨x2,H2,I2,r2,q2⟩=>?_
 refine thn (hg pins s2 σ H2 x1 x2 ov iv _ I2 r1 r2 q2) fun old s3 ⟨x3,H3,I3,r3,q3⟩=>?_
 refine thn (he pins s3 σ H3 _ I3 q3) fun v s4 ⟨x4,H4,I4,r4,q4⟩=>?_
 refine thn (hp pins s4 σ H4 x3 x4 old v _ I4 r3 r4 q4) fun new s5 ⟨x5,H5,I5,r5,q5⟩=>?_
 exact thn (hs pins s5 σ H5 x1 x2 x5 ov iv new _ I5 r1 r2 r5 q5) fun _ s6 ⟨H6,I6,q6⟩=>⟨σ,H6,I6,q6⟩
noncomputable def ipI (f:Int->Int->Int):TIp:=fun x y H Q=>∃i j,x=.int i/\y=.int j/\Q (.int (f i j)) H
theorem ZiR:PIp X .Add (ipI fun i j=>i+j):=by
 intro pins s σ H x y v u Q I r1 r2 h
 obtain⟨i,j,e1,e2,q⟩:=h
 subst e1;subst e2
 obtain⟨t,rfl⟩:=r1
 obtain⟨t',rfl⟩:=r2
 exact iadd_int ⟨.int _,H,I.tok _,⟨_,rfl⟩,q⟩
end
structure It where
 go:Nat->Hp->Prop
 yld:Nat->Hp->V->Hp->Prop
 stop:Nat->Hp->Prop
def Zgb (X:Cx) (pins:List (Addr×Obj)) (H:Hp) (b:Addr):Prop:=
 H b=none/\b≠X.env.locals/\b ∉ X.fs/\(b∈X.ex\/X.s₀.heap.objs.size<=b)/\(∀x c,X.env.cells.lookup x=some c->c≠b)/\∀p∈X.pn++pins,p.1≠b
theorem Inv.fpOk {X:Cx}{pins:List (Addr×Obj)}{σ:St}{H H':Hp}{s:Shared}{b:Addr} (I:Inv X pins σ H s) (hb:s.heap.objs.size<=b) (hn:H' b=none):Zgb X pins H' b:=by
 refine⟨hn,Zr4 (ZqD I.lt hb),I.nofs hb,.inr (ZqV I.sz hb),fun x c e z=>?_,fun p hp z=>?_⟩
 ·obtain⟨v,q⟩:=I.cell x c e
  exact absurd (ZqD q.lt (by rw[z];exact hb)) (ZqZ _)
 ·exact absurd (ZqD (Heap.lt_size (I.pin p hp).1) (by rw[z];exact hb)) (ZqZ _)
structure Zjw (P:Program) (w:World) (K:PySem.W.Frag) (tg:Expr) (J:It) (fp:List Addr) (it:Addr) (tn:Nat->Heap->Prop):Prop where
 mem:it∈fp
 obj:∀i h,tn i h->∀b∈fp,∃o,h.get? b=some o/\∀v,o.data≠.cell v
 keep:∀i h h',tn i h->(∀b∈fp,∀o,h.get? b=some o->h'.get? b=some o)->tn i h'
 item:∀(X:Cx),X.prog=P->X.w=w->X.K=K->X.calm=true->∀(i:Nat) (pins:List (Addr×Obj)) (s:Shared) (σ:St) (H:Hp) (E:Value->Shared->Prop),Inv X pins σ H s->(∀b∈fp,Zgb X pins H b)->tn i s.heap->J.go i H ->
  wpAny (model P w) X.A (pyNext (.ref it)) (fun r s1=>∃u,r=some u /\
   wpAny (model P w) X.A (letOwnedTupleGo tg (.ref it) u) (fun _ s2=>∃x H',Inv X pins σ H' s2/\ZY x u/\J.yld i H x H'/\tn (i+1) s2.heap/\∀b∈fp,H' b=none) E s1) E s
 done:∀(X:Cx),X.prog=P->X.w=w->X.K=K->X.calm=true->∀(i:Nat) (pins:List (Addr×Obj)) (s:Shared) (σ:St) (H:Hp) (E:Value->Shared->Prop),Inv X pins σ H s->(∀b∈fp,Zgb X pins H b)->tn i s.heap->J.stop i H ->
  wpAny (model P w) X.A (pyNext (.ref it)) (fun r s1=>r=none/\Inv X pins σ H s1) E s
 self:∀(A:Around) (i:Nat) (s:Shared) (Q:Value->Shared->Prop) (E:Value->Shared->Prop),tn i s.heap->Q (.ref it) s->wpAny (model P w) A (pyIter (.ref it)) Q E s
noncomputable abbrev TI:=St->Hp->(It->Hp->Prop)->Prop
def PIE (X:Cx) (pins:List (Addr×Obj)) (σ:St) (tg:Expr) (R:It->Hp->Prop) (itv:Value) (s2:Shared):Prop:=
 ∃(it:Addr) (fp:List Addr) (tn:Nat->Heap->Prop) (J:It) (H':Hp),itv=.ref it/\Inv X pins σ H' s2/\Zjw X.prog X.w X.K tg J fp it tn/\tn 0 s2.heap/\(∀b∈fp,Zgb X pins H' b)/\R J H'
def PI (X:Cx) (tg iter:Expr) (wi:TI):Prop:=
 ∀(pins:List (Addr×Obj)) (s:Shared) (σ:St) (H:Hp) (R:It->Hp->Prop),Inv X pins σ H s->wi σ H R ->
  wpAny (model X.prog X.w) X.A (eval iter X.env) (fun v s1=>wpAny (model X.prog X.w) X.A (pyIter v) (PIE X pins σ tg R) X.xe s1) X.xe s
theorem ZiW {M:Model}{A:Around}{E:Value->Shared->Prop}{s:Shared}{tg:Expr}{it:Addr}{u:Value}{o:Obj}{n:String}{vs:Array Value}{Q:Unit->Shared->Prop} (ho:s.heap.get? it=some o) (hc:o.cls=.type n) (hd:o.data=.fields vs)
  (hn:["enumerate", "zip", "dict_itemiterator", "dict_reverseitemiterator", "odict_iterator", "itertools.zip_longest", "itertools.pairwise"].contains n=false) (hQ:Q () s):wpAny M A (letOwnedTupleGo tg (.ref it) u) Q E s:=by
 unfold letOwnedTupleGo
 cases tg<;>first
  |exact wpAny_pure hQ
  |(cases u<;>first
    |exact wpAny_pure hQ
    |(refine wpAny_bind (wpAny_load ho ?_)
      rw[hc,hd]
      show wpAny M A (if (["enumerate", "zip", "dict_itemiterator", "dict_reverseitemiterator", "odict_iterator", "itertools.zip_longest", "itertools.pairwise"].contains n&&vs[0]?==some (rawInt _))=true then _ else _) Q E s
      rw[if_neg (by intro h;rw[hn,Bool.false_and] at h;cases h)]
      exact wpAny_pure hQ))
noncomputable def Itl (K:W.Frag) (a:Addr):It:=
 ⟨fun i H=>∃xs x,SqL K H a xs/\xs[i]?=some x,fun i H x H'=>H'=H/\∀xs,SqL K H a xs->xs[i]?=some x,fun i H=>∃xs,SqL K H a xs/\xs.length<=i⟩
noncomputable def Itr (lo:Int) (n:Nat):It:=⟨fun i _=>i<n,fun i H x H'=>H'=H/\x=.int (lo+i),fun i _=>n<=i⟩
theorem Zde {P:Program}{w:World}{K:W.Frag}{tg:Expr} (a it:Addr):Zjw P w K tg (Itl K a) [it] it (fun i h=>h.IsListIter it a i) where
 mem:=by simp
 obj:=fun i h st b hb=>by
  have e:b=it:=by simpa using hb
  subst e
  obtain⟨o,e,c,d⟩:=st
  exact⟨o,e,fun v z=>by rw[d] at z;cases z⟩
 keep:=fun i h h' st k=>st.at fun o e=>k it (by simp) o e
 item:=by
  intro X hP hw hK hc i pins s σ H E I hf st hg
  subst hP hw hK
  obtain⟨xs,x,hq,hx⟩:=hg
  obtain⟨its,rv,p,hz⟩:=I.list hq
  obtain⟨u,hu,ru⟩:=rv.get hx
  obtain⟨f0,f1,f2,f3,f4,f5⟩:=hf it (by simp)
  refine wpAny_pyNext_list_item st p.isList (x:=u) (by simpa using hu) fun h' st' sb=>?_
  have I1:Inv X pins σ H { s with heap:=h' }:=I.turned (t':=s.toks) (fun b o hb e=>(sb.2 b hb).trans e) f0 f1 f3 f4 f5
  obtain⟨o,e,c,d⟩:=id st'
  exact⟨u,rfl,ZiW (s:={ s with heap:=h' }) e c d (by decide) ⟨x,H,I1,ru,⟨rfl,fun ys hy=>by rw[I.list_inj hy hq];exact hx⟩,st',fun b hb=>(hf b hb).1⟩⟩
 done:=by
  intro X hP hw hK hc i pins s σ H E I hf st hg
  subst hP hw hK
  obtain⟨xs,hq,hx⟩:=hg
  obtain⟨its,rv,p,hz⟩:=I.list hq
  obtain⟨f0,f1,f2,f3,f4,f5⟩:=hf it (by simp)
  have hl:=rv.length
  exact wpAny_pyNext_list_end (I.ok.hd hc) st p.isList (by simp;omega) fun h' eb=>⟨rfl,I.turned (t':=s.toks) (fun b o hb e=>eb b o hb e) f0 f1 f3 f4 f5⟩
 self:=fun _ _ _ _ _ st h=>wpAny_pyIter_listiter st h
theorem Zcx {P:Program}{w:World}{K:W.Frag}{tg:Expr} (it:Addr) (lo:Int) (n:Nat):Zjw P w K tg (Itr lo n) [it] it (fun i h=>IsRangeIter h it (lo+(i:Nat)*1) ((n:Int)-(i:Nat)) 1) where
 mem:=by simp
 obj:=fun i h st b hb=>by
  have e:b=it:=by simpa using hb
  subst e
  exact⟨_,st,fun v z=>by
   have z':Data.fields _=Data.cell v:=z
   cases z'⟩
 keep:=fun i h h' st k=>k it (by simp) _ st
 item:=by
  intro X hP hw hK hc i pins s σ H E I hf st hg
  subst hP hw hK
  obtain⟨f0,f1,f2,f3,f4,f5⟩:=hf it (by simp)
  have W:=Walks.range (prog:=X.prog) (w:=X.w) (I.ok.hd hc) it lo 1 n
  refine W.item i s _ _ hg st fun v h' tk hv st' kk=>?_
  obtain⟨t,rfl⟩:=hv
  have I1:Inv X pins σ H { s with heap:=h',toks:=tk }:=I.turned (fun b o hb e=>kk b o (by simpa using hb) e) f0 f1 f3 f4 f5
  refine⟨_,rfl,ZiW (s:={ s with heap:=h',toks:=tk }) (n := "range_iterator") st' rfl rfl (by decide) ⟨.int (lo+i),H,I1,⟨t, ?_⟩,⟨rfl,rfl⟩,st',fun b hb=>(hf b hb).1⟩⟩
  rw[Int.mul_one]
 done:=by
  intro X hP hw hK hc i pins s σ H E I hf st hg
  subst hP hw hK
  obtain⟨f0,f1,f2,f3,f4,f5⟩:=hf it (by simp)
  exact wpAny_pyNext_range_end (I.ok.hd hc) st (by have:n<=i:=hg;omega) fun h' eb=>⟨rfl,I.turned (t':=s.toks) (fun b o hb e=>eb b o hb e) f0 f1 f3 f4 f5⟩
 self:=fun _ _ _ _ _ st h=>wpAny_pyIter_rangeiter st h
section
variable {X:Cx}{tg:Expr}
noncomputable def Zen (K:W.Frag) (tl:TE):TI:=fun σ H R=>tl σ H fun x H1=>∃a,x=.ref a/\(∃xs,SqL K H1 a xs)/\R (Itl K a) H1
theorem ZgT {l:Expr}{tl:TE} (hl:PE X l tl):PI X tg l (Zen X.K tl):=by
 intro pins s σ H R I h
 refine thn (hl pins s σ H _ I h) fun v s1 ⟨x,H1,I1,r1,q1⟩=>?_
 obtain⟨a,e,⟨xs,hq⟩,q⟩:=q1
 subst e
 cases r1
 obtain⟨its,rv,p,hz⟩:=I1.list hq
 refine wpAny_pyIter_list p.isList ?_
 refine⟨s1.heap.objs.size,[s1.heap.objs.size],_,_,H1,rfl,I1.kept (t':=s1.toks) fun b o e=>Heap.get?_push_of_some _ e,Zde a _,⟨_,Heap.get?_push_size _ rfl,rfl,rfl⟩,fun b hb=>?_,q⟩
 have e:b=s1.heap.objs.size:=by simpa using hb
 subst e
 exact I1.fpOk (ZqG _) (I1.hok.fresh (ZqG _))
theorem ZbB {pins:List (Addr×Obj)}{σ:St}{H:Hp}{s:Shared}{R:It->Hp->Prop}{E:Value->Shared->Prop}{lo hi:Int}{t u v:Tok}{tk:Nat} (I:Inv X pins σ H s) (h1:-(2^62)<=lo) (h2:lo<2^62) (h3:-(2^62)<=hi) (h4:hi<2^62)
  (q:R (Itr lo (hi-lo).toNat) H):wpAny (model X.prog X.w) X.A (pyIter (.ref s.heap.objs.size)) (PIE X pins σ tg R) E { s with heap:=s.heap.push { cls:=.type "range",data:=.fields #[.int lo t,.int hi u,.int 1 v] },toks:=tk }:=by
 refine wpAny_pyIter_range (IsRange.new ..) (small_one h1 h2 h3 h4) ?_
 have I1:Inv X pins σ H { s with heap:=s.heap.push { cls:=.type "range",data:=.fields #[.int lo t,.int hi u,.int 1 v] },toks:=tk }:=I.kept fun b o e=>Heap.get?_push_of_some _ e
 refine⟨(s.heap.push { cls:=.type "range",data:=.fields #[.int lo t,.int hi u,.int 1 v] }).objs.size,[(s.heap.push { cls:=.type "range",data:=.fields #[.int lo t,.int hi u,.int 1 v] }).objs.size],_,_,H,rfl,
  I1.kept (t':=tk) fun b o e=>Heap.get?_push_of_some _ e,Zcx _ lo (hi-lo).toNat, ?_,fun b hb=>?_,q⟩
 ·have e1:lo+((0:Nat):Int)*1=lo:=by simp
  have e2:(((hi-lo).toNat:Nat):Int)-((0:Nat):Int)=Builtin.Range.rangeSize lo hi 1:=by rw[rangeSize_one];split<;>omega
  show IsRangeIter _ _ (lo+((0:Nat):Int)*1) ((((hi-lo).toNat:Nat):Int)-((0:Nat):Int)) 1
  rw[e1,e2]
  exact Heap.get?_push_size _ rfl
 ·have e:b=(s.heap.push { cls:=.type "range",data:=.fields #[.int lo t,.int hi u,.int 1 v] }).objs.size:=by simpa using hb
  subst e
  exact I1.fpOk (ZqG _) (I1.hok.fresh (ZqG _))
noncomputable def ZiT (ta:TA):TI:=fun σ H R=>ta σ H fun vs H1=>∃j:Int,vs=[.int j]/\-(2^62)<=j/\j<2^62/\R (Itr 0 j.toNat) H1
noncomputable def ZiS (ta:TA):TI:=fun σ H R=>ta σ H fun vs H1=>∃i j:Int,vs=[.int i,.int j]/\(-(2^62)<=i/\i<2^62/\-(2^62)<=j/\j<2^62)/\R (Itr i (j-i).toNat) H1
theorem QY {a:Expr}{ta:TA}{p pos:Pos} (hg:Gl X "range") (hm:X.mg "range"=none) (ha:PA X [a] ta) (hs:starEach [a] X.env=[(false,eval a X.env)]:=by rfl):PI X tg (.Call (.Name "range" p) [a] [] pos) (ZiT ta):=by
 intro pins s σ H R I h
 refine Call_ (Qh I hg hm boot_range (PyProof.Rows.callWith_type1 (thn (ha pos pins s σ H _ I h) fun us s1 ⟨vs,H1,I1,r1,q1⟩=>?_) hs rfl))
 obtain⟨j,e,q1,q2,q⟩:=q1
 subst e
 cases r1 with
 |cons r rr =>
  cases rr
  obtain⟨t,rfl⟩:=r
  exact call_range_1 (ZbB I1 (by omega) (by omega) q1 q2 (by simpa using q))
theorem Zd0 {a b:Expr}{ta:TA}{p pos:Pos} (hg:Gl X "range") (hm:X.mg "range"=none) (ha:PA X [a,b] ta) (hs:starEach [a,b] X.env=[(false,eval a X.env),(false,eval b X.env)]:=by rfl) (hs2:starEach [b] X.env=[(false,eval b X.env)]:=by rfl) :
  PI X tg (.Call (.Name "range" p) [a,b] [] pos) (ZiS ta):=by
 intro pins s σ H R I h
 refine Call_ (Qh I hg hm boot_range (PyProof.Rows.callWith_type1 (thn (ha pos pins s σ H _ I h) fun us s1 ⟨vs,H1,I1,r1,q1⟩=>?_) (by rw[hs,hs2]) (by rw[hs2];rfl)))
 obtain⟨i,j,e,⟨q1,q2,q3,q4⟩,q⟩:=q1
 subst e
 cases r1 with
 |cons r rr =>
  cases rr with
  |cons r' rr =>
   cases rr
   obtain⟨t,rfl⟩:=r
   obtain⟨t',rfl⟩:=r'
   exact call_range_2 (ZbB I1 q1 q2 q3 q4 q)
noncomputable def Zj6 (wi:TI) (g:TG) (tb:TS):TS:=fun D σ H=>wi σ H fun J H1=>∃W:Nat->Nat->St->Hp->Prop,(∃m,W 0 m σ H1)/\∀i m σ H,W i m σ H ->
 (J.stop i H/\D.nx σ H)\/(J.go i H/\∃N:St->Hp->Prop,(∀σ' H',N σ' H'->∃m',m'<m/\W (i+1) m' σ' H')/\∀x H',J.yld i H x H'->g x σ H' fun σ2 H2=>tb { D with nx:=N,ct:=N,bk:=D.nx } σ2 H2)
noncomputable def ZbF (fp:List Addr) (h:Heap):List (Addr×Obj):=fp.filterMap fun b=>(h.get? b).map fun o=>(b,o)
theorem JV {fp:List Addr}{h:Heap}{b:Addr}{o:Obj} (hb:b∈fp) (e:h.get? b=some o):(b,o)∈ZbF fp h:=Zr5.mpr ⟨b,hb,by rw[e];rfl⟩
theorem ZdR {fp:List Addr}{h:Heap}{p:Addr×Obj} (hp:p∈ZbF fp h):p.1∈fp/\h.get? p.1=some p.2:=by
 obtain⟨b,hb,e⟩:=Zr5.mp hp
 cases q:h.get? b with
 |none=>rw[q] at e;cases e
 |some o =>
  rw[q] at e
  have e':(b,o)=p:=Option.some.inj e
  subst e'
  exact⟨hb,q⟩
theorem Inv.pinned {pins:List (Addr×Obj)}{σ:St}{H:Hp}{s:Shared}{fp:List Addr} (I:Inv X pins σ H s) (hf:∀b∈fp,Zgb X pins H b) (ho:∀b∈fp,∃o,s.heap.get? b=some o/\∀v,o.data≠.cell v):Inv X (pins++ZbF fp s.heap) σ H s:=
 I.pins_of fun p hp=>(Zq9.mp hp).elim (fun z=>I.pin p (Zq7 _ z)) fun z=>by
  obtain⟨hb,e⟩:=ZdR z
  obtain⟨f0,f1,f2,_⟩:=hf p.1 hb
  obtain⟨o,e',d⟩:=ho p.1 hb
  rw[e] at e';cases e'
  exact⟨e,f0,f1,f2,d⟩
theorem Inv.unpinned {pins pl:List (Addr×Obj)}{σ:St}{H:Hp}{s:Shared} (I:Inv X (pins++pl) σ H s):Inv X pins σ H s:=I.pins_of fun p hp=>I.pin p (Zq7 _ (Zq8 _ hp))
theorem VU {iter:Expr}{body:List Stmt}{wi:TI}{g:TG}{tb:TS}{pos:Pos} (hp:PassesOwn (model X.prog X.w) X.A X.env X.xe) (hc:X.calm=true) (hi:PI X tg iter wi) (hg:PG X tg g) (hb:PSs X body tb)
  (hs:∀x,foldedSetIterable iter X.env x=pure x:=by exact fun _=>rfl):PS X (.For tg iter body [] pos) (Zj6 wi g tb):=by
 intro pins s σ H D I h
 refine wpAny_For (thn (hi pins s σ H _ I h) fun v s1 h1=>thn h1 fun itv s2 h2=>?_) hs
 obtain⟨it,fp,tn,J,H2,e,I2,T,st2,f2,W,⟨m0,w0⟩,turn⟩:=h2
 subst e
 have stat:∀{H':Hp},(∀b∈fp,H' b=none)->∀b∈fp,Zgb X pins H' b:=fun hn b hb=>⟨hn b hb,(f2 b hb).2⟩
 refine codeAny_forLoop_any (fun n s'=>∃i σ' H',Inv X pins σ' H' s'/\tn i s'.heap/\(∀b∈fp,H' b=none)/\W i n σ' H') ?_ m0 ⟨0,σ,H2,I2,st2,fun b hb=>(f2 b hb).1,w0⟩
 rintro n s3 ⟨i,σ3,H3,I3,st3,fr3,w3⟩
 rcases turn i n σ3 H3 w3 with ⟨stop,qn⟩|⟨go,N,hN,step⟩
 ·refine wpAny_passesOwn hp (thn (T.done X rfl rfl rfl hc i pins s3 σ3 H3 X.xe I3 (stat fr3) st3 stop) fun r s4 ⟨hr,I4⟩=>?_)
  subst hr
  exact wpAny_execs_nil ⟨σ3,H3,I4,qn⟩
 ·refine wpAny_passesOwn hp (thn (T.item X rfl rfl rfl hc i pins s3 σ3 H3 X.xe I3 (stat fr3) st3 go) fun r s4 ⟨u,hr,h4⟩=>?_)
  subst hr
  refine wpAny_passesOwn hp (thn h4 fun _ s5 ⟨x,H5,I5,r5,y5,st5,fr5⟩=>?_)
  have I5':=I5.pinned (stat fr5) (T.obj _ _ st5)
  refine wpAny_passesOwn hp (thn (hg _ s5 σ3 H5 x u _ I5' r5 (step x H5 y5)) fun _ s6 ⟨σ6,H6,I6,q6⟩=>?_)
  refine wpAny_passesOwn hp (thn (hb _ s6 σ6 H6 _ I6 q6) fun f s7 q7=>?_)
  have again:∀{σ7:St}{H7:Hp},Inv X (pins++ZbF fp s5.heap) σ7 H7 s7->N σ7 H7->∃m,m<n/\∃i σ' H',Inv X pins σ' H' s7/\tn i s7.heap/\(∀b∈fp,H' b=none)/\W i m σ' H':=fun {σ7 H7} I7 n7=>by
   obtain⟨m',hm,w7⟩:=hN σ7 H7 n7
   refine⟨m',hm,i+1,σ7,H7,I7.unpinned,T.keep _ _ _ st5 fun b hb o e=>(I7.pin (b,o) (Zq7 _ (Zq7 _ (JV hb e)))).1,fun b hb=>?_,w7⟩
   obtain⟨o,e,d⟩:=T.obj _ _ st5 b hb
   exact(I7.pin (b,o) (Zq7 _ (Zq7 _ (JV hb e)))).2.1
  cases f with
  |next=>obtain⟨σ7,H7,I7,n7⟩:=q7;exact again I7 n7
  |cont=>obtain⟨σ7,H7,I7,n7⟩:=q7;exact again I7 n7
  |brk=>obtain⟨σ7,H7,I7,q7⟩:=q7;exact⟨σ7,H7,I7.unpinned,q7⟩
  |ret v=>obtain⟨x7,σ7,H7,I7,r7,q7⟩:=q7;exact⟨x7,σ7,H7,I7.unpinned,r7,q7⟩
end
noncomputable abbrev R2:=V->V->Hp->VK->Prop
def OpR (X:Cx) (f:Value->Value->Sem Value) (r:R2):Prop:=
 ∀(pins:List (Addr×Obj)) (s:Shared) (σ:St) (H:Hp) (x y:V) (v u:Value) (Q:VK),Inv X pins σ H s->ZY x v->ZY y u->r x y H Q ->
  wpAny (model X.prog X.w) X.A (f v u) (EP X pins σ Q) X.xe s
def UnR (X:Cx) (f:Value->Sem Value) (r:V->Hp->VK->Prop):Prop:=
 ∀(pins:List (Addr×Obj)) (s:Shared) (σ:St) (H:Hp) (x:V) (v:Value) (Q:VK),Inv X pins σ H s->ZY x v->r x H Q ->
  wpAny (model X.prog X.w) X.A (f v) (EP X pins σ Q) X.xe s
def JS (X:Cx) (f:Value) (r:List V->Hp->VK->Prop):Prop:=
 ∀(pins:List (Addr×Obj)) (s:Shared) (σ:St) (H:Hp) (xs:List V) (us:List Value) (Q:VK),Inv X pins σ H s->ZP xs us->r xs H Q ->
  wpAny (model X.prog X.w) X.A (call f us) (EP X pins σ Q) X.xe s
noncomputable def tOp (r:R2) (ta tb:TE):TE:=fun σ H Q=>ta σ H fun x H1=>tb σ H1 fun y H2=>r x y H2 Q
noncomputable def tUn (r:V->Hp->VK->Prop) (ta:TE):TE:=fun σ H Q=>ta σ H fun x H1=>r x H1 Q
noncomputable def rI (C:Int->Int->Prop) (g:Int->Int->V):R2:=fun x y H Q=>∃i j,x=.int i/\y=.int j/\C i j/\Q (g i j) H
noncomputable def rI0 (g:Int->Int->V):R2:=fun x y H Q=>∃i j,x=.int i/\y=.int j/\Q (g i j) H
def rU (g:Int->V):V->Hp->VK->Prop:=fun x H Q=>∃i,x=.int i/\Q (g i) H
section
variable {X:Cx}{a b:Expr}{ta tb:TE}{pos:Pos}
theorem Zk9 (ha:PE X a ta) (hb:PE X b tb) {pins:List (Addr×Obj)}{s:Shared}{σ:St}{H:Hp}{R:V->V->Hp->Prop} (I:Inv X pins σ H s)
  (h:ta σ H fun x H1=>tb σ H1 fun y H2=>R x y H2) {Q:Value->Shared->Prop}{f:Value->Value->Sem Value}
  (hf:∀v u s2 x y H2,Inv X pins σ H2 s2->ZY x v->ZY y u->R x y H2->wpAny (model X.prog X.w) X.A (f v u) Q X.xe s2) :
  wpAny (model X.prog X.w) X.A (eval a X.env) (fun v s₁=>wpAny (model X.prog X.w) X.A (eval b X.env) (fun u s₂=>wpAny (model X.prog X.w) X.A (f v u) Q X.xe s₂) X.xe s₁) X.xe s:=by
 refine thn (ha pins s σ H _ I h) fun v s1 ⟨x,H1,I1,r1,q1⟩=>?_
 refine thn (hb pins s1 σ H1 _ I1 q1) fun u s2 ⟨y,H2,I2,r2,q2⟩=>?_
 exact hf v u s2 x y H2 I2 r1 r2 q2
theorem ZT {op:Operator}{r:R2} (ho:OpR X (binaryOp op) r) (ha:PE X a ta) (hb:PE X b tb):PE X (.BinOp a op b pos) (tOp r ta tb):=by
 intro pins s σ H Q I h
 exact wpAny_BinOp (Zk9 ha hb I h fun v u s2 x y H2 I2 rx ry q=>ho pins s2 σ H2 x y v u Q I2 rx ry q)
theorem Zd2 {op:UnaryOp}{r:V->Hp->VK->Prop} (ho:UnR X (unaryOp op) r) (ha:PE X a ta):PE X (.UnaryOp op a pos) (tUn r ta):=by
 intro pins s σ H Q I h
 exact UnaryOp_ (thn (ha pins s σ H _ I h) fun v s1 ⟨x,H1,I1,r1,q1⟩=>ho pins s1 σ H1 x v Q I1 r1 q1)
theorem opI {f:Value->Value->Sem Value}{C:Int->Int->Prop}{g:Int->Int->Int}
  (rule:∀(i j:Int) (t u:Tok) (s:Shared) (Q:Value->Shared->Prop) (E:Value->Shared->Prop),C i j->Q (.int (g i j) s.toks) { s with toks:=s.toks+1 }->wpAny (model X.prog X.w) X.A (f (.int i t) (.int j u)) Q E s) :
  OpR X f (rI C fun i j=>.int (g i j)):=by
 intro pins s σ H x y v u Q I rx ry h
 obtain⟨i,j,rfl,rfl,hc,q⟩:=h
 obtain⟨t,rfl⟩:=rx
 obtain⟨t',rfl⟩:=ry
 exact rule i j t t' s _ _ hc ⟨.int (g i j),H,I.tok _,⟨_,rfl⟩,q⟩
theorem Zla {f:Value->Value->Sem Value}{g:Int->Int->Int}
  (rule:∀(i j:Int) (t u:Tok) (s:Shared) (Q:Value->Shared->Prop) (E:Value->Shared->Prop),Q (.int (g i j) s.toks) { s with toks:=s.toks+1 }->wpAny (model X.prog X.w) X.A (f (.int i t) (.int j u)) Q E s) :
  OpR X f (rI0 fun i j=>.int (g i j)):=by
 intro pins s σ H x y v u Q I rx ry h
 obtain⟨i,j,rfl,rfl,q⟩:=h
 obtain⟨t,rfl⟩:=rx
 obtain⟨t',rfl⟩:=ry
 exact rule i j t t' s _ _ ⟨.int (g i j),H,I.tok _,⟨_,rfl⟩,q⟩
theorem ZjC {f:Value->Value->Sem Value}{g:Int->Int->Bool}
  (rule:∀(i j:Int) (t u:Tok) (s:Shared) (Q:Value->Shared->Prop) (E:Value->Shared->Prop),Q (.bool (g i j)) s->wpAny (model X.prog X.w) X.A (f (.int i t) (.int j u)) Q E s) :
  OpR X f (rI0 fun i j=>.bl (g i j)):=by
 intro pins s σ H x y v u Q I rx ry h
 obtain⟨i,j,rfl,rfl,q⟩:=h
 obtain⟨t,rfl⟩:=rx
 obtain⟨t',rfl⟩:=ry
 exact rule i j t t' s _ _ ⟨.bl (g i j),H,I,rfl,q⟩
def Zib (i j:Int):Prop:=0<=j/\j<=1000000/\i.natAbs<2^64
theorem Zai:OpR X (binaryOp .Add) (rI0 fun i j=>.int (i+j)):=Zla fun _ _ _ _ _ _ _ q=>add_int q
theorem ZdL:OpR X (binaryOp .Sub) (rI0 fun i j=>.int (i-j)):=Zla fun _ _ _ _ _ _ _ q=>sub_int q
theorem Ve:OpR X (binaryOp .Mod) (rI (fun _ j=>0<j) fun i j=>.int (i%j)):=opI fun i j _ _ _ _ _ hc q=>by
 have h1:(0:Int)<j:=hc
 exact mod_int' (by omega) (by rw[Int.fmod_eq_emod_of_nonneg i (by omega)];exact q)
theorem ZbN:OpR X (binaryOp .Pow) (rI Zib fun i j=>.int (i^j.toNat)):=opI fun _ _ _ _ _ _ _ hc q=>pow_int_small hc.1 hc.2.1 hc.2.2 q
theorem unI {f:Value->Sem Value}{g:Int->Int}
  (rule:∀(i:Int) (t:Tok) (s:Shared) (Q:Value->Shared->Prop) (E:Value->Shared->Prop),Q (.int (g i) s.toks) { s with toks:=s.toks+1 }->wpAny (model X.prog X.w) X.A (f (.int i t)) Q E s) :
  UnR X f (rU fun i=>.int (g i)):=by
 intro pins s σ H x v Q I rx h
 obtain⟨i,rfl,q⟩:=h
 obtain⟨t,rfl⟩:=rx
 exact rule i t s _ _ ⟨.int (g i),H,I.tok _,⟨_,rfl⟩,q⟩
theorem QN:UnR X (unaryOp .USub) (rU fun i=>.int (-i)):=unI fun _ _ _ _ _ q=>neg_int q
variable {c:Expr}
theorem Zja {pins:List (Addr×Obj)}{σ:St}{H:Hp}{s:Shared}{Q:VK}{k k':Bool} (I:Inv X pins σ H s) (q:Q (.bl k) H) (e:k=k'):EP X pins σ Q (.bool k') s:=by
 subst e
 exact⟨.bl k,H,I,rfl,q⟩
theorem Zhe:OpR X (compareOp .Lt) (rI0 fun i j=>.bl (decide (i<j))):=ZjC fun _ _ _ _ _ _ _ q=>lt_int q
theorem ZjY:OpR X (compareOp .LtE) (rI0 fun i j=>.bl (decide (i<=j))):=ZjC fun _ _ _ _ _ _ _ q=>le_int q
theorem Zi8:OpR X (compareOp .Gt) (rI0 fun i j=>.bl (decide (j<i))):=ZjC fun _ _ _ _ _ _ _ q=>gt_int q
theorem ZjZ:OpR X (compareOp .GtE) (rI0 fun i j=>.bl (decide (j<=i))):=ZjC fun _ _ _ _ _ _ _ q=>ge_int q
theorem ZdM:OpR X (compareOp .IsNot) (fun x y H Q=>y=.non/\Q (.bl (!decide (x=.non))) H):=by
 intro pins s σ H x y v u Q I rx ry h
 obtain⟨rfl,q⟩:=h
 cases ry
 refine isnot_none_gen (Zja I q ?_)
 cases x<;>first
  |(cases rx;rfl)
  |(obtain⟨t,rfl⟩:=rx;rfl)
theorem ZI (b:Expr) {op:CmpOp} (h:op≠.In:=by decide) (h2:op≠.NotIn:=by decide):behindInMarks op b=false:=by
 have e1:(op==CmpOp.In)=false:=by cases op<;>first|rfl|exact absurd rfl h
 have e2:(op==CmpOp.NotIn)=false:=by cases op<;>first|rfl|exact absurd rfl h2
 cases b<;>simp[behindInMarks,e1,e2]
theorem VL {op:CmpOp}{r:R2} (ho:OpR X (compareOp op) r) (ha:PE X a ta) (hb:PE X b tb) (hm:behindInMarks op b=false):PE X (.Compare a [op] [b] pos) (tOp r ta tb):=by
 intro pins s σ H Q I h
 exact wpAny_Compare1 (Zk9 ha hb I h fun v u s2 x y H2 I2 rx ry q=>ho pins s2 σ H2 x y v u Q I2 rx ry q) hm
noncomputable def Zfb (t:TE):TT:=fun σ H Q=>t σ H fun x H'=>∃k,x=.bl k/\Q k H'
theorem ZE {op:CmpOp}{r:R2} (ho:OpR X (compareOp op) r) (ha:PE X a ta) (hb:PE X b tb) (hm:behindInMarks op b=false):PT X (.Compare a [op] [b] pos) (Zfb (tOp r ta tb)):=by
 intro pins s σ H Q I h
 refine wpAny_isTrue_Compare1 (thn (ha pins s σ H _ I h) fun v s1 ⟨x,H1,I1,r1,q1⟩=>thn (hb pins s1 σ H1 _ I1 q1) fun u s2 ⟨y,H2,I2,r2,q2⟩ =>
  thn (ho pins s2 σ H2 x y v u _ I2 r1 r2 q2) fun c s3 ⟨z,H3,I3,r3,k,e,q3⟩=>?_) hm
 subst e
 cases r3
 exact wpAny_truthy_bool ⟨H3,I3,q3⟩
theorem Qg:(sizeLine:Nat)<2^63:=by rw[sizeLine_eq];decide
theorem Zcw {x:V}{us:List Value} (r:ZP [x] us):∃u,us=[u]/\ZY x u:=by
 cases r with
 |cons r1 r2=>cases r2;exact⟨_,rfl,r1⟩
theorem Zie {x y:V}{us:List Value} (r:ZP [x,y] us):∃u w',us=[u,w']/\ZY x u/\ZY y w':=by
 cases r with
 |cons r1 r2 =>
  cases r2 with
  |cons r3 r4=>cases r4;exact⟨_,_,rfl,r1,r3⟩
end
structure Zg7 (h:Heap) (x dx C:Addr) (mA:Str->Option Value):Prop where
 obj:h.get? x=some (PySem.W.instObj C dx)
 ns:h.Ns1 dx mA
 ne:dx≠x
theorem Zak {h:Heap}{dx:Addr}{mA:Str->Option Value} (n:h.Ns1 dx mA):∃od,h.get? dx=some od/\∀name,PySem.W.lookIn name od=some (mA name):=by
 obtain⟨o,es,ep,ho,hd,hk,_,hm⟩:=n
 refine⟨o,ho,fun name=>?_⟩
 have e:=hm name
 unfold nsFind findBy at e
 rw[<- Array.find?_toList] at e
 unfold PySem.W.lookIn
 rw[hd]
 dsimp only
 split
 ·rename_i y q
  rw[q] at e
  exact congrArg some e
 ·rename_i q
  rw[q] at e
  have a:es.toList.any (·.refKey)=false:=by
   rw[List.any_eq_false]
   intro y hy
   obtain⟨z,t,hkey⟩:=hk y (Array.mem_toList_iff.mp hy)
   simp[DictEntry.refKey,hkey]
  have a':¬es.toList.any (·.refKey)=true:=by rw[a];exact Bool.false_ne_true
  rw[if_neg a']
  exact congrArg some e
theorem Zg7.look {h:Heap}{x dx C:Addr}{mA:Str->Option Value} (I:Zg7 h x dx C mA):∃od,PySem.W.InstAt h x (PySem.W.instObj C dx) C (some od)/\∀name,PySem.W.lookIn name od=some (mA name):=
 let ⟨od,ho,hl⟩:=Zak I.ns
 ⟨od,⟨I.obj,rfl,rfl,ho⟩,hl⟩
section
variable {prog:Program}{w:World}{A:Around}{E:Value->Shared->Prop}{s:Shared}{K:W.Frag}{x dx C f:Addr}{mA:Str->Option Value}{name:Str}{v:Value}
theorem Zht {expr:Bool}{Q:Value->Shared->Prop} (X:K.In s.heap) (I:Zg7 s.heap x dx C mA) (hg:PySem.W.plainGet K C name=true) (hh:PySem.W.hasDictIn K C=true)
  (ha:PySem.W.findIn K (.ref C) name=some none) (hv:mA name=some v) (hv':PySem.W.handedIn v=true) (h:Q v { s with toks:=s.toks+1 }) :
  wpAny (model prog w) A (getAttr (.ref x) name expr) Q E s:=by
 obtain⟨od,J,hl⟩:=I.look
 exact PySem.W.get_value X J (PySem.W.plainGet_of hg).1 (PySem.W.findObj_own hh ha rfl (by rw[hl,hv])) hv' h
theorem Q8 {pl:Sem Bool}{Q:Value×List Value->Shared->Prop} (X:K.In s.heap) (I:Zg7 s.heap x dx C mA) (hg:PySem.W.plainGet K C name=true)
  (hf:PySem.W.findIn K (.ref C) name=some (some (.ref f))) (ht:PySem.W.isFn K (.ref f)=true) (hv:mA name=none) (h:Q (.ref f,[.ref x]) s) :
  wpAny (model prog w) A (getMethod (.ref x) name pl) Q E s:=by
 obtain⟨od,J,hl⟩:=I.look
 exact PySem.W.method_fn X J (PySem.W.plainGet_of hg).1 (PySem.W.plainGet_of hg).2 hf (beq_iff_eq.mp ht) (by show (PySem.W.lookIn name od).map (·.isSome)=some false;rw[hl,hv];rfl) h
theorem ZgM {ns:List Str}{Q:Unit->Shared->Prop} (X:K.In s.heap) (I:Zg7 s.heap x dx C mA)
  (hs:PySem.W.findIn K (.ref C) "__setattr__"=some (some (.builtin "object.__setattr__"))) (hp:PySem.W.plainOver K C=true) (ht:PySem.W.takerIn K C name=some none) (hh:PySem.W.hasDictIn K C=true)
  (hw:PySem.Within mA ns) (hsz:ns.length<=sizeLine)
  (h:∀h',Zg7 h' x dx C (fun y=>if y=name then some v else mA y)->Heap.SameBut dx s.heap h'->Q () { s with heap:=h',toks:=s.toks+2 }) :
  wpAny (model prog w) A (setAttr (.ref x) name v) Q E s:=by
 obtain⟨od,J,hl⟩:=I.look
 refine PySem.W.set_plain X J hs (PySem.W.osa_open (s:={ s with toks:=s.toks+1 }) (r:=none) X J hp ht fun b=>?_)
 obtain⟨cd,hc,hd'⟩:=PySem.W.any_some hh
 have hx:s.heap.get? x=some ⟨.ref C,some dx,.plain,#[]⟩:=I.obj
 refine wpAny_bind (wpAny_pure (wpAny_bind (wpAny_bind (wpAny_loadPart hx (wpAny_bind (PySem.W.Looks.here (s:={ s with toks:=s.toks+1 }) (PySem.W.looks_clsIn X hc) ?_))))))
 rw[hd']
 refine wpAny_pure (a:=some dx) (wpAny_bind (wpAny_pure (wpAny_bind ?_)))
 refine wpAny_nsSet1 (s:={ s with toks:=s.toks+1 }) I.ns fun h' hn2 hs2=>?_
 obtain⟨oD,esD,epD,hoD,hdD,hcD⟩:=hn2.count (PySem.Within.cons name v hw)
 refine wpAny_bind (wpAny_lookBehind hoD (by rw[hdD];exact pastItsLine_dict (ZqV hcD (by rw[ZqL];omega))) ?_)
 exact wpAny_pure (h _ ⟨(hs2.2 _ (Ne.symm I.ne)).trans I.obj,hn2,I.ne⟩ hs2)
theorem ZbW {R:Result->Shared->Prop}{vs:List Value}{kw:List (Str×Value)} (X:K.In s.heap) (hm:PySem.W.makesIn K C=true)
  (hi:PySem.W.findIn K (.ref C) "__init__"=some (some (.ref f))) (hf:PySem.W.typeIn K (.ref f)=some (.type "function"))
  (h:codeAny (model prog w) (A.under (.builtin "type.__call__" ⟨.ref C::vs,kw⟩)) (.call (.ref f) ⟨.ref (s.heap.objs.size+1)::vs,kw⟩) (PySem.W.InitBack (s.heap.objs.size+1) R)
   { s with heap:=(s.heap.push PySem.W.emptyDict).push (PySem.W.instObj C s.heap.objs.size) }) :
  codeAny (model prog w) A (.call (.ref C) ⟨vs,kw⟩) R s:=by
 obtain⟨hh,g,d,t,os⟩:=s
 exact PySem.W.make_core (PySem.W.makes_of X hm) (PySem.W.looks_findIn X hi) (fun self=>PySem.W.bind_fn X self hf) (.inl rfl) h
end
noncomputable def Qd (f:Str) (v:V):List (Str×V)->List (Str×V)
 |[]=>[(f,v)]
 |(g,x)::r=>if g=f then (g,v)::r else (g,x)::Qd f v r
theorem U9 (f g:Str) (v:V):∀fs:List (Str×V),(Qd f v fs).lookup g=if g=f then some v else fs.lookup g
 |[]=>by
  show Zrq g [(f,v)]=_
  by_cases h:g=f
  ·have hb:(g==f)=true:=beq_iff_eq.mpr h
   simp only[Zrq,hb,if_pos h]
  ·have hb:(g==f)=false:=beq_eq_false_iff_ne.mpr h
   simp only[Zrq,hb,if_neg h]
 |(k,x)::r=>by
  have ih:=U9 f g v r
  rw[show Qd f v ((k,x)::r)=(if k=f then (k,v)::r else (k,x)::Qd f v r) from rfl]
  by_cases hk:k=f
  ·rw[if_pos hk]
   by_cases h:g=k
   ·have hb:(g==k)=true:=beq_iff_eq.mpr h
    simp only[Zrq,hb,if_pos (h.trans hk)]
   ·have hb:(g==k)=false:=beq_eq_false_iff_ne.mpr h
    simp only[Zrq,hb,if_neg (fun e:g=f=>h (e.trans hk.symm))]
  ·rw[if_neg hk]
   by_cases h:g=k
   ·have hb:(g==k)=true:=beq_iff_eq.mpr h
    simp only[Zrq,hb,if_neg (fun e:g=f=>hk (h.symm.trans e))]
   ·have hb:(g==k)=false:=beq_eq_false_iff_ne.mpr h
    simp only[Zrq,hb]
    exact ih
theorem UE (f:Str) (v:V):∀fs:List (Str×V),f∈(Qd f v fs).map (·.1)/\∀g,g∈fs.map (·.1)->g∈(Qd f v fs).map (·.1)
 |[]=>⟨by simp[Qd],fun g h=>by simp at h⟩
 |(k,x)::r=>by
  obtain⟨i1,i2⟩:=UE f v r
  rw[show Qd f v ((k,x)::r)=(if k=f then (k,v)::r else (k,x)::Qd f v r) from rfl]
  by_cases hk:k=f
  ·rw[if_pos hk]
   subst hk
   exact⟨by simp,fun g h=>by simpa using h⟩
  ·rw[if_neg hk]
   refine⟨?_,fun g h=>?_⟩
   ·rw[ZqJ]
    exact ZqK _ i1
   ·rw[ZqJ] at h ⊢
    rcases ZqE.mp h with e|e
    ·exact ZqE.mpr (.inl e)
    ·exact ZqK _ (i2 g e)
theorem UB (f:Str) (v:V):∀fs:List (Str×V),(Qd f v fs).length<=fs.length+1
 |[]=>by simp[Qd]
 |(k,x)::r=>by
  have ih:=UB f v r
  rw[show Qd f v ((k,x)::r)=(if k=f then (k,v)::r else (k,x)::Qd f v r) from rfl]
  by_cases hk:k=f
  ·rw[if_pos hk,ZqL,ZqL];omega
  ·rw[if_neg hk,ZqL,ZqL];omega
theorem QI.some_of {v:V}{o:Option Value} (r:QI (some v) o):∃u,o=some u/\ZY v u:=by
 cases o with
 |none=>exact(show False from r).elim
 |some u=>exact⟨u,rfl,r⟩
theorem QI.none_of {o:Option Value} (r:QI none o):o=none:=by
 cases o with
 |none=>rfl
 |some u=>exact(show False from r).elim
theorem Zep {v:V}{u:Value} (r:ZY v u):PySem.W.handedIn u=true:=by
 cases v with
 |non=>cases (show u=Value.none from r);rfl
 |bl b=>cases (show u=Value.bool b from r);rfl
 |int i=>obtain⟨t,e⟩:=(show ∃t,u=Value.int i t from r);cases e;rfl
 |str x=>obtain⟨t,e⟩:=(show ∃t,u=Value.str x t from r);cases e;rfl
 |byt b=>obtain⟨t,e⟩:=(show ∃t,u=Value.bytes b t from r);cases e;rfl
 |flt b=>obtain⟨t,e⟩:=(show ∃t,u=Value.float b t from r);cases e;rfl
 |ref a=>cases (show u=Value.ref a from r);rfl
 |ty n=>cases (show u=Value.type n from r);rfl
section
variable {P:Program}{w:World}{H:Hp}{h:Heap}{a C dx:Addr}{fs:List (Str×V)}
theorem Zhq (hok:HOk P w H h) (e:H a=some (.ins C dx fs)):∃mA,Zg7 h a dx C mA/\(∀f,QI (fs.lookup f) (mA f))/\PySem.Within mA (fs.map (·.1))/\fs.length<=1000/\H dx=some (.own a):=by
 obtain⟨d,z,ne,ob,mA,n,r,q⟩:=(show Jg P w H h a (.ins C dx fs) from hok a _ e)
 exact⟨mA,⟨ob,n,ne⟩,r,q,z,d⟩
end
structure Cls (K:PySem.W.Frag) (C:Addr):Prop where
 pg:PySem.W.plainGet K C Str.empty=true
 hd:PySem.W.hasDictIn K C=true
 po:PySem.W.plainOver K C=true
 sa:PySem.W.findIn K (.ref C) "__setattr__"=some (some (.builtin "object.__setattr__"))
theorem Cls.get {K:W.Frag}{C:Addr} (c:Cls K C) (f:Str):PySem.W.plainGet K C f=true:=c.pg
def UT (K:W.Frag) (C:Addr) (f:Str):Prop:=PySem.W.findIn K (.ref C) f=some none
theorem UT.taker {K:W.Frag}{C:Addr}{f:Str} (n:UT K C f):PySem.W.takerIn K C f=some none:=by
 unfold PySem.W.takerIn
 rw[show PySem.W.findIn K (.ref C) f=some none from n]
 rfl
structure Zlj (K:PySem.W.Frag) (C:Addr) (m:Str) (f:Addr):Prop where
 at_:PySem.W.findIn K (.ref C) m=some (some (.ref f))
 fn:PySem.W.isFn K (.ref f)=true
 kp:PySem.W.keepIn K (.ref f)=true
section
variable {X:Cx}{pins:List (Addr×Obj)}{σ:St}{H:Hp}{s:Shared}{a C dx:Addr}{fs:List (Str×V)}{f:Str}{A:Around}{E:Value->Shared->Prop}
theorem Zcz {y:V}{u:Value}{Q:Unit->Shared->Prop} (I:Inv X pins σ H s) (e:H a=some (.ins C dx fs)) (c:Cls X.K C) (n:UT X.K C f) (hl:fs.length<1000) (ry:ZY y u)
  (h:∀s',Inv X pins σ (upd H a (.ins C dx (Qd f y fs))) s'->Q () s'):wpAny (model X.prog X.w) A (setAttr (.ref a) f u) Q E s:=by
 obtain⟨mA,O,r,wi,_,ho⟩:=Zhq I.hok e
 have hz:(fs.map (·.1)).length<=sizeLine:=by rw[ZqC,sizeLine_eq];omega
 refine ZgM I.kIn O c.sa c.po n.taker c.hd wi hz fun h' O' sb=>h _ ?_
 have hd:∃o,h'.get? dx=some o:=let ⟨o,_,_,e',_⟩:=O'.ns;⟨o,e'⟩
 refine I.write (x:=a) (e:=dx) (by rw[e];exact True.intro) (.inr ho) (fun b q hb z=>(sb.2 b hb).trans z) hd ?_
 refine⟨by rw[Zl O.ne];exact ho, ?_,O.ne,O'.obj,_,O'.ns,fun g=>?_,fun g hg=>?_⟩
 ·have:=UB f y fs;omega
 ·show QI ((Qd f y fs).lookup g) (if g=f then some u else mA g)
  rw[U9]
  by_cases q:g=f
  ·rw[if_pos q,if_pos q];exact ry
  ·rw[if_neg q,if_neg q];exact r g
 ·by_cases q:g=f
  ·rw[q];exact(UE f y fs).1
  ·refine(UE f y fs).2 g (wi g fun z=>hg ?_)
   show (if g=f then some u else mA g)=none
   rw[if_neg q];exact z
theorem Inv.made (I:Inv X pins σ H s):Inv X pins σ (upd (upd H s.heap.objs.size (.own (s.heap.objs.size+1))) (s.heap.objs.size+1) (.ins C s.heap.objs.size []))
  { s with heap:=(s.heap.push PySem.W.emptyDict).push (PySem.W.instObj C s.heap.objs.size) }:=by
 have e1:(s.heap.push PySem.W.emptyDict).get? s.heap.objs.size=some PySem.W.emptyDict:=Heap.get?_push_size s.heap rfl
 have e2:((s.heap.push PySem.W.emptyDict).push (PySem.W.instObj C s.heap.objs.size)).get? (s.heap.objs.size+1)=some (PySem.W.instObj C s.heap.objs.size):=by
  have:=Heap.get?_push_size (s.heap.push PySem.W.emptyDict) (o:=PySem.W.instObj C s.heap.objs.size) rfl
  rwa [Heap.size_push] at this
 have e3:(s.heap.push PySem.W.emptyDict).Ns s.heap.objs.size (fun _=>none):=⟨PySem.W.emptyDict,#[],_,e1,rfl,(fun e he=>absurd he (by simp)),fun _=>rfl⟩
 have I1:=I.laid (a:=s.heap.objs.size) (o:=.own (s.heap.objs.size+1)) (h':=s.heap.push PySem.W.emptyDict) (t':=s.toks) (fun b u q=>Heap.get?_push_of_some _ q) (ZqG _) ⟨_,e1⟩
 refine I1.laid (a:=s.heap.objs.size+1) (o:=.ins C s.heap.objs.size []) (t':=s.toks) (fun b u q=>Heap.get?_push_of_some _ q) (Nat.le_of_eq (Heap.size_push _ _)) ?_
 have ne:s.heap.objs.size≠s.heap.objs.size+1:=ZqN (Zro _)
 refine⟨by rw[Zl ne,Zt],Zre _,ne,e2,fun _=>none,(Heap.Ns1.of_empty e3).at fun o q=>Heap.get?_push_of_some _ q,fun _=>True.intro,fun y hy=>absurd rfl hy⟩
theorem ZhJ {prog:Program}{w:World}{env:Env}{e:Expr}{f:Str}{pos:Pos}{s:Shared}{Q:Value->Shared->Prop} (hb:attributeBase e f env (eval e env)=eval e env)
  (h:wpAny (model prog w) A (eval e env) (fun o s₁=>wpAny (model prog w) A (getAttr o f true) Q E s₁) E s):wpAny (model prog w) A (eval (.Attribute e f pos) env) Q E s:=
 Attribute_any_ h (by rw[arm_eval_Attribute,hb])
end
noncomputable def ZjP (K:W.Frag) (ta tv:TE) (f:Str):TS:=fun D σ H=>tv σ H fun y H1=>ta σ H1 fun x H2=>∃a C dx fs,x=.ref a/\H2 a=some (.ins C dx fs)/\Cls K C/\UT K C f/\fs.length<1000 /\
 D.nx σ (upd H2 a (.ins C dx (Qd f y fs)))
section
variable {X:Cx}{o value:Expr}{f:Str}{pos pos':Pos}{ta tv:TE}
theorem Ziy (ha:PE X o ta) (hv:PE X value tv) (hs:swapsWith value (some (.Attribute o f pos')) pos.line X.env=pure false):PS X (.Assign [.Attribute o f pos'] value pos) (ZjP X.K ta tv f):=by
 intro pins s σ H D I h
 refine plainObj_wpAny_Assign_Attribute (thn (hv pins s σ H _ I h) fun u s1 ⟨y,H1,I1,ry,q⟩=>thn (ha pins s1 σ H1 _ I1 q) fun ov s2 ⟨x,H2,I2,rx,a,C,dx,fs,ex,ea,c,n,l,q2⟩=>?_) hs
 subst ex
 obtain rfl:ov=Value.ref a:=rx
 exact Zcz I2 ea c n l ry fun s3 I3=>⟨σ,_,I3,q2⟩
end
structure JH (k:Nat) (A:Around):Prop where
 hd:A.handled=none
 dp:A.depth+3*k+5<recursionLimit
 un:A.units+16*k+200<cLine
theorem JH.mono {j k:Nat}{A:Around} (r:JH k A) (h:j<=k):JH j A:=⟨r.hd,by have:=r.dp;omega,by have:=r.un;omega⟩
theorem JH.deeper {k:Nat}{A:Around} (r:JH (k+1) A) (env:Env):JH k (A.deeper env):=
 ⟨r.hd,by have:=r.dp;show A.depth+1+3*k+5<_;omega,by have:=r.un;show A.units+3+16*k+200<_;omega⟩
theorem ZcH {A:Around}{C:Addr}{us:List Value}{kw:List (Str×Value)}:(A.under (.builtin "type.__call__" ⟨.ref C::us,kw⟩)).depth=A.depth+1:=by
 first|rfl|simp[Around.under,Code.weight,Code.isCreation,Code.isGuard,Code.isCaller,Code.frames,Code.isFrame,guardIds]
theorem ZcG {A:Around}{C:Addr}{us:List Value}{kw:List (Str×Value)}:(A.under (.builtin "type.__call__" ⟨.ref C::us,kw⟩)).units=A.units+1:=by
 first|rfl|simp[Around.under,Code.cUnits,Code.frames,Code.isFrame]
theorem JH.make {k:Nat}{A:Around} (r:JH (k+1) A) (C:Addr) (us:List Value) (kw:List (Str×Value)):JH k (A.under (.builtin "type.__call__" ⟨.ref C::us,kw⟩)):=
 ⟨r.hd,by have:=r.dp;rw[ZcH];omega,by have:=r.un;rw[ZcG];omega⟩
theorem JH.depth {k:Nat}{A:Around} (r:JH k A):A.depth<recursionLimit:=by have:=r.dp;omega
theorem JH.units {k:Nat}{A:Around} (r:JH k A):A.units+64<cLine:=by have:=r.un;omega
noncomputable def ZaL:TA:=fun _ H Q=>Q [] H
noncomputable def J1 (ta:TE) (tr:TA):TA:=fun σ H Q=>ta σ H fun x H1=>tr σ H1 fun xs H2=>Q (x::xs) H2
section
variable {X:Cx}{e:Expr}{es:List Expr}{te:TE}{t:TA}{pos:Pos}
theorem Zf:PA X [] ZaL:=fun _ _ _ _ H Q I h=>Calls.spliced_nil ⟨[],H,I,.nil,h⟩
theorem Za (ha:PE X e te) (hr:PA X es t) (hs:starEach (e::es) X.env=(false,eval e X.env)::starEach es X.env:=by rfl):PA X (e::es) (J1 te t):=by
 intro pos pins s σ H Q I h
 rw[hs]
 show wpAny _ _ (spliced ((false,eval e X.env)::backTo pos (starEach es X.env))) _ _ s
 refine Calls.spliced_cons (thn (ha pins s σ H _ I h) fun u s1 ⟨x,H1,I1,r1,q1⟩=>?_)
 exact thn (hr pos pins s1 σ H1 _ I1 q1) fun us s2 ⟨xs,H2,I2,r2,q2⟩=>⟨x::xs,H2,I2,.cons r1 r2,q2⟩
noncomputable def Zj5 (t:TA):TE:=fun σ H Q=>t σ H fun xs H1=>xs.length<=sizeLine/\∀p,H1 p=none->Q (.ref p) (upd H1 p (.tup xs))
noncomputable def Zih (t:TA):TE:=fun σ H Q=>t σ H fun xs H1=>xs.length<=sizeLine/\∀p,H1 p=none->Q (.ref p) (upd H1 p (.lst xs))
theorem U1 {x1} (h:PA X es t):PE X (.Tuple es x1 pos) (Zj5 t):=by
 intro pins s σ H Q I hq
 refine wpAny_Tuple_spliced (thn (h pos pins s σ H _ I hq) fun us s1 ⟨xs,H1,I1,r,z,q⟩=>⟨by rw[<- r.length];exact z, ?_⟩)
 have hf:H1 s1.heap.objs.size=none:=I1.hok.fresh (ZqG _)
 refine⟨.ref s1.heap.objs.size,upd H1 s1.heap.objs.size (.tup xs),I1.laid (t':=s1.toks) (fun b u e=>Heap.get?_push_of_some _ e) (ZqG _) ?_,rfl,q _ hf⟩
 exact⟨z,us,r,⟨_,Heap.get?_push_size _ rfl,rfl,_,rfl⟩⟩
theorem ZQ (h:PA X es t):PE X (.List es pos) (Zih t):=by
 intro pins s σ H Q I hq
 refine wpAny_List_spliced (thn (h pos pins s σ H _ I hq) fun us s1 ⟨xs,H1,I1,r,z,q⟩=>⟨by rw[<- r.length];exact z, ?_⟩)
 have hf:H1 s1.heap.objs.size=none:=I1.hok.fresh (ZqG _)
 refine⟨.ref s1.heap.objs.size,upd H1 s1.heap.objs.size (.lst xs),I1.laid (t':=s1.toks) (fun b u e=>Heap.get?_push_of_some _ e) (ZqG _) ?_,rfl,q _ hf⟩
 exact⟨z,us,0,r,Heap.get?_push_size _ rfl⟩
end
noncomputable abbrev Sp:=List V->Hp->VK->XK->Prop
noncomputable abbrev CXT:=List Env->Hp->Shared->XK->Value->Shared->Prop
structure ZhT (P:Program) (w:World) (K:PySem.W.Frag) (mg:Str->Option Value) (base:Heap) (A:Around) (outer:List Env) (s:Shared) (H:Hp):Prop where
 frames:A.frames=some outer
 mod:Mod K mg base
 bs:∀b o,base.get? b=some o->s.heap.get? b=some o/\H b=none
 bsz:base.objs.size<=s.heap.objs.size
 funs:s.heap.FunFrames base outer
 frf:∀b∈frs outer,H b=none
 hok:HOk P w H s.heap
 bare:AllBare s.gens
def CE (outer:List Env) (P:Program) (w:World) (H:Hp) (s:Shared) (Q:VK) (u:Value) (s':Shared):Prop:=
 ∃v H',s'.os=s.os/\AllBare s'.gens/\Un (frs outer) [] H H' s.heap s'.heap/\HOk P w H' s'.heap/\ZY v u/\Q v H'
def CR (CX:CXT) (outer:List Env) (P:Program) (w:World) (H:Hp) (s:Shared) (Q:VK) (E:XK) (r:Result) (s':Shared):Prop:=
 match r with
 |.ok (.ret u)=>CE outer P w H s Q u s'
 |.ok _=>False
 |.error e=>CX outer H s E e s'
structure Jb (P:Program) (w:World) (K:PySem.W.Frag) (mg:Str->Option Value) (base:Heap) (CX:CXT) (k:Nat) (f:Addr) (fd:FuncData) (ps:List Str) (sp:Sp):Prop where
 len:∀vs H Q E,sp vs H Q E->vs.length=ps.length
 run:∀(A:Around) (outer:List Env) (s:Shared) (H:Hp) (args:Args) (us:List Value) (vs:List V) (Q:VK) (E:XK),JH k A->ZhT P w K mg base A outer s H->BindsTo s fd args (ps.zip us)->ZP vs us->sp vs H Q E ->
  codeAny (model P w) A (.call (.ref f) args) (CR CX outer P w H s Q E) s
theorem ZhT.make {P:Program}{w:World}{K:W.Frag}{mg:Str->Option Value}{base:Heap}{A:Around}{outer:List Env}{s:Shared}{H:Hp} (e:ZhT P w K mg base A outer s H) (C:Addr) (us:List Value) (kw:List (Str×Value)) :
  ZhT P w K mg base (A.under (.builtin "type.__call__" ⟨.ref C::us,kw⟩)) outer s H:=⟨by first|exact e.frames|(simpa[Around.under,Code.envs,Code.isFrame,pushEnvs] using e.frames),e.mod,e.bs,e.bsz,e.funs,e.frf,e.hok,e.bare⟩
section
variable {X:Cx}{pins:List (Addr×Obj)}{σ:St}{H:Hp}{s s':Shared}
theorem Inv.env0 (I:Inv X pins σ H s):ZhT X.prog X.w X.K X.mg X.base X.A X.stack s H:=
 ⟨I.ok.frames,I.ok.mod,I.bs,ZqV I.ok.bsz I.sz,I.stack,I.stkFree,I.hok,I.bare⟩
theorem Inv.after {Q:VK}{u:Value} (I:Inv X pins σ H s) (h:CE X.stack X.prog X.w H s Q u s'):EP X pins σ Q u s':=by
 obtain⟨v,H',os,bare,un,hok,r,q⟩:=h
 obtain⟨hh,g,d,t,os'⟩:=s'
 obtain rfl:os'=s.os:=os
 exact⟨v,H',I.call (h':=hh) (g':=g) (d':=d) (t':=t) (ch:=[]) un hok bare (fun b z=>absurd z (by simp)),r,q⟩
end
noncomputable def Zil (sp:Sp) (dvs:List V) (E:XK) (t:TA):TE:=fun σ H Q=>t σ H fun vs H1=>sp (vs++dvs) H1 Q E
def VH (K:W.Frag) (fd:FuncData) (ps:List Str) (ds:List Value):Prop:=
 ∀(s:Shared) (us:List Value),K.In s.heap->(us++ds).length=ps.length->BindsTo s fd ⟨us,[]⟩ (ps.zip (us++ds))
theorem VH.all {K:W.Frag}{fd:FuncData}{ps:List Str} (h:∀us:List Value,us.length=ps.length->bindArgs fd ⟨us,[]⟩=pure (ps.zip us)):VH K fd ps []:=fun s us _ hl=>by
 rw[ZqR] at hl ⊢
 exact .of_eq (h us hl)
def ZaG (CX:CXT) (X:Cx) (E:XK):Prop:=∀(pins:List (Addr×Obj)) (σ:St) (H:Hp) (s:Shared) (e:Value) (s':Shared),Inv X pins σ H s->CX X.stack H s E e s'->X.xe e s'
section
variable {X:Cx}{CX:CXT}{k:Nat}{f C:Addr}{fd:FuncData}{ps:List Str}{sp:Sp}{dvs:List V}{ds:List Value}{E:XK}{x:Str}{p pos:Pos}{e:Expr}{es:List Expr}{t:TA}
theorem QV {pins:List (Addr×Obj)}{σ:St}{H:Hp}{s:Shared}{Q:VK}{us:List Value}{vs:List V} (F:Jb X.prog X.w X.K X.mg X.base CX k f fd ps sp) (hr:JH k X.A) (hb:VH X.K fd ps ds) (hd:ZP dvs ds) (hx:ZaG CX X E)
  (I:Inv X pins σ H s) (r:ZP vs us) (h:sp (vs++dvs) H Q E):wpAny (model X.prog X.w) X.A (call (.ref f) us) (EP X pins σ Q) X.xe s:=by
 have r2:ZP (vs++dvs) (us++ds):=r.append hd
 have hl:(us++ds).length=ps.length:=by rw[<- r2.length];exact F.len _ _ _ _ h
 refine wpAny_call (codeAny_mono (F.run X.A X.stack s H ⟨us,[]⟩ (us++ds) (vs++dvs) Q E hr I.env0 (hb s us I.kIn hl) r2 h) fun r s' hq=>?_)
 cases r with
 |error e=>exact hx pins σ H s e s' I hq
 |ok fl =>
  cases fl with
  |ret u=>exact I.after hq
  |next=>exact False.elim hq
  |brk=>exact False.elim hq
  |cont=>exact False.elim hq
theorem ZgW (F:Jb X.prog X.w X.K X.mg X.base CX k f fd ps sp) (hr:JH k X.A) (hg:Gl X x) (hm:X.mg x=some (.ref f)) (hk:PySem.W.keepIn X.K (.ref f)=true) (hb:VH X.K fd ps ds) (hd:ZP dvs ds) (hx:ZaG CX X E)
  (ha:PA X (e::es) t) (hdb:(x==("__debug__":Str))=false:=by decide) (he:starEach (e::es) X.env=(false,eval e X.env)::starEach es X.env:=by rfl) (hpl:(backTo pos (starEach es X.env)).any (·.1)=false:=by rfl) :
  PE X (.Call (.Name x p) (e::es) [] pos) (Zil sp dvs E t):=by
 intro pins s σ H Q I h
 refine wpAny_Call_Name_kw (JI I hg hm ?_ hdb)
 refine PySem.W.callWith_K (h₀:=X.base) I.ok.mod.kin hk (thn (ha pos pins s σ H _ I h) fun us s1 ⟨vs,H1,I1,r,q⟩=>⟨I1.kIn, ?_⟩) he hpl
 exact QV F hr hb hd hx I1 r q
theorem Zfn (F:Jb X.prog X.w X.K X.mg X.base CX k f fd ps sp) (hr:JH k X.A) (hg:Gl X x) (hm:X.mg x=some (.ref f)) (hk:PySem.W.keepIn X.K (.ref f)=true) (hb:VH X.K fd ps ds) (hd:ZP dvs ds) (hx:ZaG CX X E)
  (hdb:(x==("__debug__":Str))=false:=by decide):PE X (.Call (.Name x p) [] [] pos) (Zil sp dvs E ZaL):=by
 intro pins s σ H Q I h
 refine wpAny_Call_Name_kw (JI I hg hm ?_ hdb)
 exact PySem.W.callWith_K0 I.kIn hk (QV (us:=[]) F hr hb hd hx I .nil h)
structure Mk (K:PySem.W.Frag) (C f:Addr):Prop where
 makes:PySem.W.makesIn K C=true
 init:PySem.W.findIn K (.ref C) "__init__"=some (some (.ref f))
 fn:PySem.W.isFn K (.ref f)=true
 kp:PySem.W.keepIn K (.ref C)=true
theorem Zfh {pins:List (Addr×Obj)}{σ:St}{H:Hp}{s:Shared}{Q:VK}{us:List Value}{vs:List V} (M:Mk X.K C f) (F:Jb X.prog X.w X.K X.mg X.base CX k f fd ps sp) (hr:JH (k+1) X.A) (hb:VH X.K fd ps ds) (hd:ZP dvs ds)
  (hx:ZaG CX X E) (I:Inv X pins σ H s) (r:ZP vs us)
  (h:∀x dx,H x=none->H dx=none->dx≠x->sp (.ref x::(vs++dvs)) (upd (upd H dx (.own x)) x (.ins C dx [])) (fun v H2=>v=.non/\Q (.ref x) H2) E) :
  wpAny (model X.prog X.w) X.A (call (.ref C) us) (EP X pins σ Q) X.xe s:=by
 have hq:=h (s.heap.objs.size+1) s.heap.objs.size (I.hok.fresh (Zr9 _)) (I.hok.fresh (ZqG _)) (ZqN (Zro _))
 have I2:=Inv.made (C:=C) I
 have r2:ZP (V.ref (s.heap.objs.size+1)::(vs++dvs)) (Value.ref (s.heap.objs.size+1)::(us++ds)):=.cons rfl (r.append hd)
 have hl:(Value.ref (s.heap.objs.size+1)::us++ds).length=ps.length:=by
  have e:=r2.length
  rw[F.len _ _ _ _ hq] at e
  exact e.symm
 refine wpAny_call (ZbW (f:=f) I.kIn M.makes M.init (beq_iff_eq.mp M.fn) (codeAny_mono (F.run _ X.stack _ _ ⟨Value.ref (s.heap.objs.size+1)::us,[]⟩ (Value.ref (s.heap.objs.size+1)::(us++ds)) _ _ E (hr.make C us [])
  (I2.env0.make C us []) (hb _ (Value.ref (s.heap.objs.size+1)::us) I2.kIn hl) r2 hq) fun r s' hq'=>?_))
 cases r with
 |error e=>exact hx pins σ _ _ e s' I2 hq'
 |ok fl =>
  cases fl with
  |ret u =>
   obtain⟨v,H',I3,rv,ev,q3⟩:=I2.after hq'
   subst ev
   exact⟨rv,⟨V.ref (s.heap.objs.size+1),H',I3,rfl,q3⟩⟩
  |next=>exact False.elim hq'
  |brk=>exact False.elim hq'
  |cont=>exact False.elim hq'
end
structure Zu (N P:List Str) (sc:Scope):Prop where
 kind:sc.kind=.function
 co:sc.isCoroutine=false
 gen:sc.isGenerator=false
 nd:N.Nodup
 pre:N.take P.length=P
 par:∀x∈P,sc.names.lookup x=some .local\/sc.names.lookup x=some .cell
 nofree:∀y∈sc.names,y.2≠.free
theorem ZaC {kindOf:Str->Option NameKind}{x:Str}:∀{binds:List (Str×Value)}{m:Str->Option Value},(∀v,(x,v) ∉ binds)->bindL kindOf binds m x=m x
 |[],_,_=>rfl
 |(n,v)::r,m,h=>by
  unfold bindL
  rw[ZaC fun w hw=>h w (ZqK _ hw)]
  split
  ·have:x≠n:=by rintro rfl;exact h v ZqY
   simp[this]
  ·rfl
theorem ZaE {kindOf:Str->Option NameKind}{x:Str}:∀{binds:List (Str×Value)}{m:Str->Option Value},(∀v,(x,v) ∉ binds)->bindC kindOf binds m x=m x
 |[],_,_=>rfl
 |(n,v)::r,m,h=>by
  unfold bindC
  rw[ZaE fun w hw=>h w (ZqK _ hw)]
  split
  ·rfl
  ·have:x≠n:=by rintro rfl;exact h v ZqY
   simp[this]
theorem ZaD {kindOf:Str->Option NameKind}{x:Str}{v:Value}:∀{P:List Str}{vs:List Value}{i:Nat}{m:Str->Option Value},P.Nodup->P[i]?=some x->vs[i]?=some v->kindOf x=some .local ->
  bindL kindOf (P.zip vs) m x=some v
 |[],_,_,_,_,h,_,_=>by simp at h
 |_::_,[],_,_,_,_,h,_=>by simp at h
 |p::P,w::vs,0,m,nd,h1,h2,hk=>by
  simp at h1 h2;subst h1;subst h2
  show bindL kindOf ((p,w)::P.zip vs) m p=_
  unfold bindL
  rw[ZaC fun v hv=>(Zr1.mp nd).1 (ZrD hv).1,if_pos hk]
  simp
 |p::P,w::vs,i+1,m,nd,h1,h2,hk=>by
  show bindL kindOf ((p,w)::P.zip vs) m x=_
  unfold bindL
  exact ZaD (i:=i) (Zr1.mp nd).2 (by simpa using h1) (by simpa using h2) hk
theorem ZaF {kindOf:Str->Option NameKind}{x:Str}{v:Value}:∀{P:List Str}{vs:List Value}{i:Nat}{m:Str->Option Value},P.Nodup->P[i]?=some x->vs[i]?=some v->kindOf x≠some .local ->
  bindC kindOf (P.zip vs) m x=some v
 |[],_,_,_,_,h,_,_=>by simp at h
 |_::_,[],_,_,_,_,h,_=>by simp at h
 |p::P,w::vs,0,m,nd,h1,h2,hk=>by
  simp at h1 h2;subst h1;subst h2
  show bindC kindOf ((p,w)::P.zip vs) m p=_
  unfold bindC
  rw[ZaE fun v hv=>(Zr1.mp nd).1 (ZrD hv).1,if_neg hk]
  simp
 |p::P,w::vs,i+1,m,nd,h1,h2,hk=>by
  show bindC kindOf ((p,w)::P.zip vs) m x=_
  unfold bindC
  exact ZaF (i:=i) (Zr1.mp nd).2 (by simpa using h1) (by simpa using h2) hk
noncomputable def Vt (N:List Str) (vs:List V):St:=vs.map some++List.replicate (N.length-vs.length) none
noncomputable def Za6 (CX:CXT) (P:Program) (w:World) (K:W.Frag) (mg:Str->Option Value) (base:Heap) (N:List Str) (qual:Str) (scope:Scope) (f:Addr) (cd:Value) (A:Around) (outer:List Env) (s:Shared) (H:Hp) (E:XK):Cx where
 prog:=P
 w:=w
 K:=K
 mg:=mg
 base:=base
 A:=A.deeper (envOfC qual scope s.heap.objs.size f cd)
 N:=N
 s₀:=s
 H₀:=H
 env:=envOfC qual scope s.heap.objs.size f cd
 outer:=outer
 stack:=envOfC qual scope s.heap.objs.size f cd::outer
 ex:=[]
 calm:=true
 fn:=fun _=>true
 pn:=[]
 xe:=fun e s'=>wpAny (model P w) (A.deeper (envOfC qual scope s.heap.objs.size f cd)) (leaving (envOfC qual scope s.heap.objs.size f cd) e) (fun _ s''=>CX outer H s E e s'') (fun e' s''=>CX outer H s E e' s'') s'
theorem Zcs {sc:Scope}{n:Nat}{x:Str} (h:sc.names.lookup x=some .cell):∃c,(cellsFrom n sc.names []).lookup x=some c:=by
 have q:=PySem.W.cellsFrom_some sc.names n [] (.inl h)
 exact Zrr.mp q
theorem Zek {CX:CXT}{P:Program}{w:World}{K:W.Frag}{mg:Str->Option Value}{base:Heap}{N ps:List Str}{qual:Str}{scope:Scope}{f:Addr}{cd:Value}{A:Around}{outer:List Env}{s s1:Shared}{H:Hp}{E:XK}{us:List Value}{vs:List V}
  (S:Zu N ps scope) (hd:A.handled=none) (e0:ZhT P w K mg base A outer s H) (hl:vs.length=ps.length) (r:ZP vs us)
  (x:InCallC s s.heap.objs.size (bindL (envOfC qual scope s.heap.objs.size f cd).kindOf (ps.zip us) fun _=>none) (cellsFrom (s.heap.objs.size+1) scope.names []) (bindC (envOfC qual scope s.heap.objs.size f cd).kindOf (ps.zip us) fun _=>none) s1) :
  Inv (Za6 CX P w K mg base N qual scope f cd A outer s H E) [] (Vt N vs) H s1:=by
 have hpl:ps.length<=N.length:=by have:=congrArg List.length S.pre;rw[List.length_take] at this;omega
 obtain⟨h1,tk,rfl,hk⟩:=x.done
 have noA:∀b:Addr,b ∉ (Za6 CX P w K mg base N qual scope f cd A outer s H E).ex:=fun b z=>absurd (show b∈([]:List Addr) from z) (by simp)
 refine⟨⟨e0.mod,S.kind,rfl,rfl,ZqG _,fun y z c h1 h2=>?_,fun y hy=>?_,fun y c _ h=>?_,fun _=>hd,Around.frames_deeper e0.frames,.inr ⟨rfl,rfl⟩,fun b z=>absurd z (noA b),e0.bs,e0.bsz,fun b _ _=>noA b,fun b z=>absurd z (noA b),e0.funs,e0.frf⟩,
  rfl,e0.bare,Un.kept hk,⟨_,x.toInCall.ns,fun i y v h1 h2 h3=>?_⟩,fun y c h=>⟨_,x.cell y c h⟩,e0.hok.fresh (ZqG _),fun y c h=>?_,fun p hp=>absurd (show p∈([]:List (Addr×Obj)) from hp) (by simp),e0.hok.kept hk, ?_⟩
 ·exact name_of_addr x.apart (PySem.mem_of_lookup h1) (PySem.mem_of_lookup h2)
 ·have hy:scope.names.lookup y=some .cell\/scope.names.lookup y=some .free:=hy
  rcases hy with hy|hy
  ·exact Zcs hy
  ·exact absurd rfl (S.nofree _ (PySem.mem_of_lookup hy))
 ·exact Nat.le_of_lt (x.above y c (PySem.mem_of_lookup h))
 ·have hi:i<vs.length:=by
   unfold Vt at h2
   by_cases hi:i<vs.length
   ·exact hi
   ·rw[ZqQ (by simpa using hi)] at h2
    rw[List.getElem?_replicate] at h2
    split at h2<;>cases h2
  have ha:vs[i]?=some v:=by
   unfold Vt at h2
   rw[ZqI (by simpa using hi),ZqO] at h2
   cases e:vs[i]? with
   |none=>rw[e] at h2;cases h2
   |some a=>rw[e] at h2;cases h2;rfl
  obtain⟨u,hu,rv⟩:=r.get ha
  have hp:ps[i]?=some y:=by
   rw[<- S.pre,List.getElem?_take_of_lt (by omega)];exact h1
  have ndP:ps.Nodup:=by rw[<- S.pre];exact S.nd.sublist (List.take_sublist _ _)
  refine⟨u,rv, ?_⟩
  rcases S.par y (ZqU hp) with k|k
  ·exact .inl ⟨k,ZaD ndP hp hu k⟩
  ·obtain⟨c,e⟩:=Zcs (n:=s.heap.objs.size+1) k
   refine .inr ⟨.inl k,c,e, ?_⟩
   have q:=x.cell y c e
   rw[ZaF ndP hp hu (by show scope.names.lookup y≠_;rw[k];decide)] at q
   exact q
 ·exact e0.hok.fresh (Nat.le_of_lt (x.above y c (PySem.mem_of_lookup h)))
 ·unfold Vt
  show _=N.length
  rw[ZqP,ZqC,List.length_replicate]
  omega
theorem ZiX {CX:CXT}{P:Program}{w:World}{K:W.Frag}{mg:Str->Option Value}{base:Heap}{k:Nat}{f:Addr}{name qual:Str}{params:Arguments}{body:List Stmt}{scope:Scope}{dV kV doc pm cdv ct oc:Value}{an od:Option Addr}
  {osl:Array (Option Value)}{N ps:List Str}{sp:Sp} (lk:K.lookup f=some ⟨oc,od,.func (PySem.W.fnOf name qual params body scope dV kV doc pm an cdv ct),osl⟩) (hcd:PySem.W.codeIn K cdv qual=true) (S:Zu N ps scope)
  (len:∀vs H Q E,sp vs H Q E->vs.length=ps.length)
  (hbody:∀(A:Around) (outer:List Env) (s:Shared) (H:Hp) (vs:List V) (Q:VK) (E:XK),JH k (A.deeper (envOfC qual scope s.heap.objs.size f cdv))->sp vs H Q E ->
   ∃t,PSs (Za6 CX P w K mg base N qual scope f cdv A outer s H E) body t/\t { nx:=fun _ H'=>Q .non H',rt:=Q } (Vt N vs) H) :
  Jb P w K mg base CX (k+1) f (PySem.W.fnOf name qual params body scope dV kV doc pm an cdv ct) ps sp:=by
 refine⟨len,fun A outer s H args us vs Q E hr e0 hb r hsp=>?_⟩
 have hl:=len _ _ _ _ hsp
 have KX:K.In s.heap:=e0.mod.kin.keeps fun b o e=>(e0.bs b o e).1
 have lim:s.heap.NoLimit:=e0.mod.nolimit.keeps fun b o e=>(e0.bs b o e).1
 have hkind:∀y∈ps.zip us,scope.names.lookup y.1=some .local\/(scope.names.lookup y.1=some .cell/\((cellsFrom (s.heap.objs.size+1) scope.names []).lookup y.1).isSome=true):=fun⟨n,v⟩ hy=>by
  rcases S.par n (ZrD hy).1 with q|q
  ·exact .inl q
  ·exact .inr ⟨q,PySem.W.cellsFrom_some _ _ _ (.inl q)⟩
 refine codeAny_call_function hr.depth (KX _ _ lk) rfl S.co S.gen rfl (PySem.W.codeRec_of KX hcd) (hb _ _ _ _ ?_)
 refine wpAny_newFunctionEnv_cells S.kind hkind fun env he s1 x=>?_
 subst he
 refine⟨lim.keeps x.toInCall.keep,codeAny_func ?_⟩
 obtain⟨t,ht,hq⟩:=hbody A outer s H vs Q E (hr.deeper _) hsp
 have I:Inv (Za6 CX P w K mg base N qual scope f cdv A outer s H E) [] (Vt N vs) H s1:=Zek S hr.hd e0 hl r x
 refine wpAny_mono (ht [] s1 (Vt N vs) H _ I hq) (fun fl s' hs=>?_) fun e s' hs=>hs
 have fin:∀{σ':St}{H':Hp}{v:V}{u:Value},Inv (Za6 CX P w K mg base N qual scope f cdv A outer s H E) [] σ' H' s'->ZY v u->Q v H'->CE outer P w H s Q u s':=
  fun {σ' H' v u} J rv q=>⟨v,H',J.os,J.bare,J.base,J.hok,rv,q⟩
 cases fl with
 |ret u =>
  obtain⟨v,σ',H',J,rv,q⟩:=hs
  exact fin J rv q
 |next =>
  obtain⟨σ',H',J,q⟩:=hs
  exact fin (v:=V.non) (u:=Value.none) J rfl q
 |brk =>
  obtain⟨_,_,_,q⟩:=hs
  exact False.elim q
 |cont =>
  obtain⟨_,_,_,q⟩:=hs
  exact False.elim q
section
variable {X:Cx}{x:Str}{p pos:Pos}{e:Expr}{es:List Expr}{t:TA}{id T:String}{r:List V->Hp->VK->Prop}
noncomputable def tCB (r:List V->Hp->VK->Prop) (t:TA):TE:=fun σ H Q=>t σ H fun vs H1=>r vs H1 Q
theorem Zz (hc:JS X (.builtin id) r) (hg:Gl X x) (hm:X.mg x=none) (hv:bootBuiltins x=some (.builtin id)) (ha:PA X (e::es) t) (hn:x ≠ "__name__":=by decide) (hdb:(x==("__debug__":Str))=false:=by decide)
  (he:starEach (e::es) X.env=(false,eval e X.env)::starEach es X.env:=by rfl) (hpl:(backTo pos (starEach es X.env)).any (·.1)=false:=by rfl):PE X (.Call (.Name x p) (e::es) [] pos) (tCB r t):=by
 intro pins s σ H Q I h
 refine wpAny_Call_Name_kw (Qh I hg hm hv ?_ hn hdb)
 exact PyProof.Rows.callWith_builtin1 (thn (ha pos pins s σ H _ I h) fun us s1 ⟨vs,H1,I1,r1,q1⟩=>hc pins s1 σ H1 vs us Q I1 r1 q1) he hpl
theorem Jr (hc:JS X (.type T) r) (hg:Gl X x) (hm:X.mg x=none) (hv:bootBuiltins x=some (.type T)) (ha:PA X (e::es) t) (hn:x ≠ "__name__":=by decide) (hdb:(x==("__debug__":Str))=false:=by decide)
  (he:starEach (e::es) X.env=(false,eval e X.env)::starEach es X.env:=by rfl) (hpl:(backTo pos (starEach es X.env)).any (·.1)=false:=by rfl):PE X (.Call (.Name x p) (e::es) [] pos) (tCB r t):=by
 intro pins s σ H Q I h
 refine wpAny_Call_Name_kw (Qh I hg hm hv ?_ hn hdb)
 exact PyProof.Rows.callWith_type1 (thn (ha pos pins s σ H _ I h) fun us s1 ⟨vs,H1,I1,r1,q1⟩=>hc pins s1 σ H1 vs us Q I1 r1 q1) he hpl
end
end L2
namespace HT
open PySem PyProof.Rows
noncomputable def Zal:List Int->List Int->Bool
 |[],[]=>false
 |[],_::_=>true
 |_::_,[]=>false
 |x::xs,y::ys=>if x=y then Zal xs ys else decide (x<y)
theorem ZcI (x y:Int) (xs ys:List Int):Zal (x::xs) (y::ys)=if x=y then Zal xs ys else decide (x<y):=rfl
section
open PySem.SeqAt
open PySem.AutoSeq1 (wpAny_loadPart')
open PySem.MeetsSeq PySem.MeetsSeq2 PySem.MeetsSeq3
end
section
end
end HT
namespace L2
open PySem PySem.Spec PyProof.Rows
noncomputable abbrev TO:=St->Hp->(Option Int->Hp->Prop)->Prop
theorem ZcN {ns:List Int}:∀{us:List Value},ZP (ns.map V.int) us->IntsAre us ns:=by
 induction ns with
 |nil=>intro us r;rw[Zrl] at r;cases r;exact .nil
 |cons n ns ih =>
  intro us r
  rw[ZqJ] at r
  cases r with
  |cons r1 r2 =>
   obtain⟨t,e⟩:=r1
   subst e
   exact .cons n t (ih r2)
section
end
noncomputable def ixN (n:Nat) (i:Int):Option Nat:=if 0<=i then (if i<n then some i.toNat else none) else if -(n:Int)<=i then some (i+n).toNat else none
noncomputable def atI {α:Type} (xs:List α) (i:Int):Option α:=(ixN xs.length i).bind fun j=>xs[j]?
theorem UG {n:Nat}{i:Int}{j:Nat} (h:ixN n i=some j):seqIndex? i n=some j/\j<n/\-(n:Int)<=i/\i<n:=by
 unfold ixN at h
 by_cases h0:0<=i
 ·rw[if_pos h0] at h
  by_cases h1:i<n
  ·rw[if_pos h1] at h
   have e:i.toNat=j:=Option.some.inj h
   exact⟨by rw[seqIndex_of h0 h1,e],by omega,by omega,h1⟩
  ·rw[if_neg h1] at h;cases h
 ·rw[if_neg h0] at h
  by_cases h1:-(n:Int)<=i
  ·rw[if_pos h1] at h
   have e:(i+n).toNat=j:=Option.some.inj h
   exact⟨by rw[seqIndex_neg (by omega) h1,e],by omega,h1,by omega⟩
  ·rw[if_neg h1] at h;cases h
theorem QH {α:Type}{xs:List α}{i:Int}{v:α} (h:atI xs i=some v):∃j,seqIndex? i xs.length=some j/\xs[j]?=some v/\j<xs.length/\-(xs.length:Int)<=i/\i<xs.length:=by
 unfold atI at h
 cases e:ixN xs.length i with
 |none=>rw[e] at h;cases h
 |some j =>
  rw[e] at h
  obtain⟨h1,h2,h3,h4⟩:=UG e
  exact⟨j,h1,h,h2,h3,h4⟩
def ZhO (b:Expr):Prop:=∀o i,subscripted b false o i=operate [o,i] (getItem o i)
def IxR (X:Cx) (r:R2):Prop:=
 ∀(value slice:Expr) (pins:List (Addr×Obj)) (s:Shared) (σ:St) (H:Hp) (x y:V) (v u:Value) (Q:VK),Inv X pins σ H s->ZY x v->ZY y u->r x y H Q ->
  subscripted slice false v u=operate [v,u] (getItem v u)->wpAny (model X.prog X.w) X.A (subscriptTail value slice v u) (EP X pins σ Q) X.xe s
def MtR (X:Cx) (id:String) (r:V->List V->Hp->VK->Prop):Prop:=
 ∀(pins:List (Addr×Obj)) (s:Shared) (σ:St) (H:Hp) (x:V) (xs:List V) (v:Value) (us:List Value) (Q:VK),Inv X pins σ H s->ZY x v->ZP xs us->r x xs H Q ->
  wpAny (model X.prog X.w) X.A (call (.builtin id) (v::us)) (EP X pins σ Q) X.xe s
section
variable {X:Cx}{a b:Expr}{ta tb:TE}{pos:Pos}
theorem IxR.or {r r':R2} (h:IxR X r) (h':IxR X r'):IxR X (fun x y H Q=>r x y H Q\/r' x y H Q):=by
 intro value slice pins s σ H x y v u Q I rx ry q hs
 rcases q with q|q
 ·exact h value slice pins s σ H x y v u Q I rx ry q hs
 ·exact h' value slice pins s σ H x y v u Q I rx ry q hs
theorem Jt {r:R2} (hr:IxR X r) (ha:PE X a ta) (hb:PE X b tb) (hs:ZhO b):PE X (.Subscript a b pos) (tOp r ta tb):=by
 intro pins s σ H Q I h
 exact Subscript_ (Zk9 ha hb I h fun v u s2 x y H2 I2 rx ry q=>hr a b pins s2 σ H2 x y v u Q I2 rx ry q (hs _ _))
noncomputable def Ziu (K:W.Frag):R2:=fun x y H Q=>∃p xs i v,x=.ref p/\y=.int i/\SqL K H p xs/\atI xs i=some v/\Q v H
noncomputable def ZkT (K:W.Frag):R2:=fun x y H Q=>∃p xs i v,x=.ref p/\y=.int i/\SqT K H p xs/\atI xs i=some v/\Q v H
noncomputable def ZkU:R2:=fun x y H Q=>∃z i c,x=.str z/\y=.int i/\z.length<=sizeLine/\atI z.cps.toList i=some c/\Q (.str ⟨#[c]⟩) H
theorem Zho:IxR X (Ziu X.K):=by
 intro value slice pins s σ H x y v u Q I rx ry h hs
 obtain⟨p,xs,i,z,rfl,rfl,hq,he,q⟩:=h
 cases rx
 obtain⟨t,rfl⟩:=ry
 obtain⟨its,r,pl,hz⟩:=I.list hq
 obtain⟨j,h1,h2,h3,h4,h5⟩:=QH he
 obtain⟨w,ew,rw'⟩:=r.get h2
 have hl:=r.length
 have hn:=Qg
 have fin:EP X pins σ Q w s:=⟨z,H,I,rw',q⟩
 by_cases h0:0<=i
 ·have hj:i.toNat=j:=by
   rw[seqIndex_of h0 h5] at h1
   exact Option.some.inj h1
  exact item_listR pl.isList h0 (by omega) (by rw[hj];simpa using ew) fin hs
 ·have hj:(i+(its.toArray.size:Int)).toNat=j:=by
   rw[seqIndex_neg (by omega) h4] at h1
   rw[ZqA,<- hl]
   exact Option.some.inj h1
  exact subscriptTail_builtinR (x:=w) pl.isList.typeIs slot_list_getitem.lookup
   (wpAny_getItem_list_neg (Q:=fun r s'=>r=w/\EP X pins σ Q r s') pl.isList (by omega) (by rw[ZqA]<;>omega) (by omega) (by rw[hj];simpa using ew) ⟨rfl,fin⟩) hs
theorem ZiN:IxR X (ZkT X.K):=by
 intro value slice pins s σ H x y v u Q I rx ry h hs
 obtain⟨p,xs,i,z,rfl,rfl,hq,he,q⟩:=h
 cases rx
 obtain⟨t,rfl⟩:=ry
 obtain⟨its,r,pl,hz⟩:=I.tuple hq
 obtain⟨j,h1,h2,h3,h4,h5⟩:=QH he
 obtain⟨w,ew,rw'⟩:=r.get h2
 have hl:=r.length
 have hn:=Qg
 have fin:EP X pins σ Q w s:=⟨z,H,I,rw',q⟩
 exact subscriptTail_builtinR (x:=w) pl.typeIs slot_tuple_getitem.lookup
  (getItem_tuple (j:=j) (Q:=fun r s'=>r=w/\EP X pins σ Q r s') pl (by omega) (by omega) (by rw[ZqA,<- hl];exact h1) (by simpa using ew) ⟨rfl,fin⟩) hs
theorem ZiO:IxR X ZkU:=by
 intro value slice pins s σ H x y v u Q I rx ry h hs
 obtain⟨z,i,c,rfl,rfl,hz,he,q⟩:=h
 obtain⟨t,rfl⟩:=rx
 obtain⟨t',rfl⟩:=ry
 obtain⟨j,h1,h2,h3,h4,h5⟩:=QH he
 have hl:z.cps.toList.length=z.length:=by simp[Str.length]
 rw[hl] at h1 h4 h5
 have hn:=Qg
 exact tail_any (typeIs_str s z t) slot_str_getitem.lookup (getItem_str (c:=c) (by
  have e1:decide (i < -(2^63:Int))=false:=decide_eq_false (by omega)
  have e2:decide (i ≥ 2^63)=false:=decide_eq_false (by omega)
  rw[e1,e2,Bool.or_false]) (by rw[h1];simpa using h2) ⟨.str ⟨#[c]⟩,H,I.tok _,⟨_,rfl⟩,q⟩) hs
noncomputable def rIx (K:W.Frag):R2:=fun x y H Q=>Ziu K x y H Q\/ZkT K x y H Q\/ZkU x y H Q
theorem ZiP:IxR X (rIx X.K):=Zho.or (ZiN.or ZiO)
theorem ZcF (its:List Value) (n j:Nat) (u:Value):Obj.mapSeq (·.setIfInBounds j u) { cls:=.type "list",data:=.seq its.toArray n }={ cls:=.type "list",data:=.seq (its.set j u).toArray n }:=by
 simp[Obj.mapSeq]
theorem Inv.lst {pins:List (Addr×Obj)}{σ:St}{H:Hp}{s:Shared}{p:Addr}{xs:List V} (I:Inv X pins σ H s) (h:H p=some (.lst xs)) :
  ∃(its:List Value) (n:Nat),ZP xs its/\s.heap.get? p=some { cls:=.type "list",data:=.seq its.toArray n }/\xs.length<=sizeLine:=by
 obtain⟨z,its,n,r,e⟩:=I.hok p _ h
 exact⟨its,n,r,e,z⟩
theorem Inv.lstUpd {pins:List (Addr×Obj)}{σ:St}{H:Hp}{s:Shared}{p:Addr}{xs ys:List V}{its its':List Value}{n n':Nat}{f:Obj->Obj} (I:Inv X pins σ H s) (h:H p=some (.lst xs))
  (ho:s.heap.get? p=some { cls:=.type "list",data:=.seq its.toArray n }) (hf:f { cls:=.type "list",data:=.seq its.toArray n }={ cls:=.type "list",data:=.seq its'.toArray n' }) (r:ZP ys its') (hz:ys.length<=sizeLine) (t:Nat) :
  Inv X pins σ (upd H p (.lst ys)) { s with heap:=s.heap.update p f,toks:=t }:=by
 have e:(s.heap.update p f).get? p=some { cls:=.type "list",data:=.seq its'.toArray n' }:=by
  rw[Heap.get?_update_self f ho (by rw[hf]<;>rfl),hf]
 refine I.write (x:=p) (e:=p) (by rw[h];trivial) (.inl rfl) (fun b u hb q=>(Heap.get?_update_other _ _ (Ne.symm hb)).trans q) ⟨_,e⟩ ?_
 exact⟨hz,its',n',r,e⟩
def ZgO:V->V->V->Hp->(Hp->Prop)->Prop:=fun o i v H Q=>∃p xs k j,o=.ref p/\i=.int k/\H p=some (.lst xs)/\ixN xs.length k=some j/\Q (upd H p (.lst (xs.set j v)))
theorem Qu:ZkB X ZgO:=by
 intro pins s σ H o i v ov iv u Q I ro ri rv h
 obtain⟨p,xs,k,j,rfl,rfl,hp,hj,q⟩:=h
 cases ro
 obtain⟨t,rfl⟩:=ri
 obtain⟨its,n,r,ho,hz⟩:=I.lst hp
 obtain⟨h1,h2,h3,h4⟩:=UG hj
 have hl:=r.length
 have hn:=Qg
 have I':Inv X pins σ (upd H p (.lst (xs.set j v))) { s with heap:=s.heap.update p (Obj.mapSeq (·.setIfInBounds j u)) }:=
  I.lstUpd hp ho (ZcF its n j u) (r.set rv j) (by rw[Zrb];exact hz) s.toks
 by_cases h0:0<=k
 ·have hk:k.toNat=j:=by
   rw[seqIndex_of h0 h4] at h1
   exact Option.some.inj h1
  exact PySem.W.ki_setAt ho h0 (by omega) (by rw[ZqA,<- hl];exact h4) (by rw[hk];exact⟨_,I',q⟩)
 ·have hk:(k+(its.toArray.size:Int)).toNat=j:=by
   rw[seqIndex_neg (by omega) h3] at h1
   rw[ZqA,<- hl]
   exact Option.some.inj h1
  exact PySem.W.ki_setBack ho (by omega) (by rw[ZqA,<- hl];exact h3) (by omega) (by rw[hk];exact⟨_,I',q⟩)
theorem Za9:JS X (.builtin "len") (fun xs H Q=>∃p ys,xs=[.ref p]/\(SqL X.K H p ys\/SqT X.K H p ys)/\Q (.int ys.length) H):=by
 intro pins s σ H xs us Q I r h
 obtain⟨p,ys,rfl,hq,q⟩:=h
 obtain⟨u,rfl,rx⟩:=Zcw r
 cases rx
 have hn:=Qg
 rcases hq with hq|hq
 ·obtain⟨its,r',pl,hz⟩:=I.list hq
  have hlen:=r'.length
  exact Calls.call_len_list pl.isList (by simp only[ZqA]<;>omega) ⟨.int ys.length,H,I.tok _,⟨s.toks+1,by rw[ZqA,hlen]⟩,q⟩
 ·obtain⟨its,r',pl,hz⟩:=I.tuple hq
  have hlen:=r'.length
  exact len_tuple pl (by simp only[ZqA]<;>omega) ⟨.int ys.length,H,I.tok _,⟨s.toks+1,by rw[ZqA,hlen]⟩,q⟩
theorem Za8:JS X (.type "list") (fun xs H Q=>∃p ys,xs=[.ref p]/\(SqL X.K H p ys\/SqT X.K H p ys)/\∀l,H l=none->Q (.ref l) (upd H l (.lst ys))):=by
 intro pins s σ H xs us Q I r h
 obtain⟨p,ys,rfl,hq,q⟩:=h
 obtain⟨u,rfl,rx⟩:=Zcw r
 cases rx
 have fin:∀(its:List Value),ZP ys its->ys.length<=sizeLine->∀(h':Heap) (c':Nat),(∀b o',s.heap.get? b=some o'->h'.get? b=some o') ->
   h'.get? s.heap.objs.size=some { cls:=.type "list",dict:=none,data:=.seq its.toArray c',slots:=#[] }->EP X pins σ Q (.ref s.heap.objs.size) { s with heap:=h' }:=fun its r' hz h' c' kp e =>
  ⟨.ref s.heap.objs.size,_,I.laid (t':=s.toks) kp (ZqG _) (show Jg X.prog X.w _ h' _ (.lst ys) from ⟨hz,its,c',r',e⟩),rfl,q _ (I.hok.fresh (ZqG _))⟩
 rcases hq with hq|hq
 ·obtain⟨its,r',pl,hz⟩:=I.list hq
  have hlen:=r'.length
  obtain⟨o,ho,hc,n,hd⟩:=pl.isList
  exact call_list_seq p (.inl rfl) ho hc hd (fun h' c' kp e=>fin its r' hz h' c' kp e) (by simp only[ZqA]<;>omega)
 ·obtain⟨its,r',pl,hz⟩:=I.tuple hq
  have hlen:=r'.length
  obtain⟨o,ho,hc,n,hd⟩:=pl
  exact call_list_seq p (.inr rfl) ho hc hd (fun h' c' kp e=>fin its r' hz h' c' kp e) (by simp only[ZqA]<;>omega)
theorem QF:JS X (.type "tuple") (fun xs H Q=>∃p ys,xs=[.ref p]/\((SqL X.K H p ys/\∀l,H l=none->Q (.ref l) (upd H l (.tup ys)))\/(SqT X.K H p ys/\Q (.ref p) H))):=by
 intro pins s σ H xs us Q I r h
 obtain⟨p,ys,rfl,h⟩:=h
 obtain⟨u,rfl,rx⟩:=Zcw r
 cases rx
 rcases h with ⟨hq,q⟩|⟨hq,q⟩
 ·obtain⟨its,r',pl,hz⟩:=I.list hq
  have hlen:=r'.length
  refine call_tuple_list pl.isList (fun h' kp=>?_) (by simp only[ZqA]<;>omega)
  have I1:Inv X pins σ H { s with heap:=h' }:=I.kept (t':=s.toks) kp
  have I2:Inv X pins σ (upd H h'.objs.size (.tup ys)) { s with heap:=h'.push { cls:=.type "tuple",data:=.seq its.toArray } }:=
   I1.laid (t':=s.toks) (fun b o e=>Heap.get?_push_of_some _ e) (ZqG _) (show Jg X.prog X.w _ _ _ (.tup ys) from ⟨hz,its,r',IsTup.new _ _⟩)
  exact⟨.ref h'.objs.size,_,I2,rfl,q _ (I1.hok.fresh (ZqG _))⟩
 ·obtain⟨its,r',pl,hz⟩:=I.tuple hq
  exact call_tuple_same pl ⟨.ref p,H,I,rfl,q⟩
def tyV (K:W.Frag) (T:String) (x:V) (H:Hp):Prop:=match x with
 |.str _=>T = "str"
 |.int _=>T = "int"
 |.ref p=>(T = "list"/\∃xs,SqL K H p xs)\/(T = "tuple"/\∃o,K.lookup p=some o/\o.cls=.type "tuple"/\o.dict=none) \/
   (T = "dict"/\((∃kvs,H p=some (.dK kvs))\/∃kvs,H p=some (.dT kvs)))\/(T = "set"/\∃S n,H p=some (.set S n))
 |_=>False
theorem Zge {pins:List (Addr×Obj)}{σ:St}{H:Hp}{s:Shared}{T:String}{x:V}{v:Value} (I:Inv X pins σ H s) (r:ZY x v) (ty:tyV X.K T x H) :
  s.TypeIs v T/\∀a,v=.ref a->∃ob,s.heap.get? a=some ob/\ob.dict=none:=by
 cases x with
 |str z =>
  obtain⟨t,rfl⟩:=r
  cases (show T = "str" from ty)
  exact⟨typeIs_str s z t,fun _ e=>nomatch e⟩
 |int i =>
  obtain⟨t,rfl⟩:=r
  cases (show T = "int" from ty)
  exact⟨typeIs_int s i t,fun _ e=>nomatch e⟩
 |ref p =>
  cases r
  rcases ty with ⟨rfl,xs,hq⟩|⟨rfl,o,hk,hc,hd⟩|⟨rfl,hk⟩|⟨rfl,S,n,hk⟩
  ·obtain⟨its,_,pl,_⟩:=I.list hq
   refine⟨pl.isList.typeIs,fun a e=>?_⟩
   cases e
   obtain⟨o,n,e,c,hd,_⟩:=pl
   exact⟨o,e,hd⟩
  ·refine⟨⟨o,I.kIn p o hk,hc⟩,fun a e=>?_⟩
   cases e
   exact⟨o,I.kIn _ o hk,hd⟩
  ·have z:∃o,s.heap.get? p=some o/\o.ExactDict:=by
    rcases hk with ⟨kvs,hk⟩|⟨kvs,hk⟩
    ·obtain⟨_,_,_,_,o,_,_,e,ex,_⟩:=I.hok p _ hk
     exact⟨o,e,ex⟩
    ·obtain⟨_,_,_,_,o,_,_,e,ex,_⟩:=I.hok p _ hk
     exact⟨o,e,ex⟩
   obtain⟨o,e,ex⟩:=z
   refine⟨⟨o,e,ex.1⟩,fun a e2=>?_⟩
   cases e2
   exact⟨o,e,ex.2.1⟩
  ·obtain⟨o,_,_,_,e,ex,_⟩:=I.hok p _ hk
   refine⟨⟨o,e,ex.1⟩,fun a e2=>?_⟩
   cases e2
   exact⟨o,e,ex.2.1⟩
 |_=>exact False.elim ty
noncomputable def ZkL (K:W.Frag) (T:String) (r:V->List V->Hp->VK->Prop) (to:TE):TE:=fun σ H Q=>to σ H fun x H1=>tyV K T x H1/\r x [] H1 Q
noncomputable def tBM (K:W.Frag) (T:String) (r:V->List V->Hp->VK->Prop) (to:TE) (t:TA):TE:=fun σ H Q=>to σ H fun x H1=>tyV K T x H1/\t σ H1 fun xs H2=>r x xs H2 Q
variable {o e:Expr}{es:List Expr}{to:TE}{t:TA}{name:Str}{apos cpos:Pos}{T id:String}{r:V->List V->Hp->VK->Prop}
theorem Zd7 (pa:PlainAttrs T) (slot:Slot T name id) (hty:typeOf (.builtin id)=pure (.type "method_descriptor")) (hm:MtR X id r) (ho:PE X o to)
  (hbase:attributeBase o name X.env (eval o X.env)=eval o X.env:=by rfl) (hline:(apos.endLine==cpos.line)=true:=by rfl):PE X (.Call (.Attribute o name apos) [] [] cpos) (ZkL X.K T r to):=by
 intro pins s σ H Q I h
 refine wpAny_Call_method0_late hbase hline (thn (ho pins s σ H _ I h) fun v s1 ⟨x,H1,I1,r1,ty,q1⟩=>?_)
 obtain⟨h1,h2⟩:=Zge I1 r1 ty
 exact⟨T,id,pa,slot,hty,h1,h2,Calls.callWith_builtin rfl (PySem.evalArgs_none (hm pins s1 σ H1 x [] v [] Q I1 r1 .nil q1))⟩
theorem UW (pa:PlainAttrs T) (slot:Slot T name id) (hty:typeOf (.builtin id)=pure (.type "method_descriptor")) (hm:MtR X id r) (ho:PE X o to) (ha:PA X (e::es) t)
  (hbase:attributeBase o name X.env (eval o X.env)=eval o X.env:=by rfl)
  (hfew:((backTo cpos (starEach (e::es) X.env)).all (fun x=>!x.1)&&(backToKw cpos (keywordEach [] X.env)).all (fun x=>x.1.isSome)
   && decide ((e::es).length+([]:List Keyword).length+(if ([]:List Keyword).isEmpty then 0 else 1)<30))=true:=by rfl)
  (hline:(apos.endLine==cpos.line)=true:=by rfl) (hs:starEach (e::es) X.env=(false,eval e X.env)::starEach es X.env:=by rfl) (hplain:(backTo cpos (starEach es X.env)).any (·.1)=false:=by rfl) :
  PE X (.Call (.Attribute o name apos) (e::es) [] cpos) (tBM X.K T r to t):=by
 intro pins s σ H Q I h
 refine wpAny_Call_method_late hbase hfew hline rfl (thn (ho pins s σ H _ I h) fun v s1 ⟨x,H1,I1,r1,ty,q1⟩=>?_)
 obtain⟨h1,h2⟩:=Zge I1 r1 ty
 refine⟨T,id,pa,slot,hty,h1,h2, ?_⟩
 have hA:=ha cpos pins s1 σ H1 _ I1 q1
 rw[hs] at hA ⊢
 refine Calls.callWith_builtin (by show (false || (backTo cpos (starEach es X.env)).any (·.1))=false;rw[hplain]<;>rfl) (Calls.evalArgs_plain ?_)
 exact thn hA fun us s2 ⟨vs,H2,I2,r2,q2⟩=>hm pins s2 σ H2 x vs v us Q I2 r1 r2 q2
end
def MtM (X:Cx) (id:String) (r:V->List V->Hp->VK->Prop):Prop:=
 ∀(pins:List (Addr×Obj)) (s:Shared) (σ:St) (H:Hp) (x:V) (xs:List V) (v:Value) (us:List Value) (Q:VK),Inv X pins σ H s->ZY x v->ZP xs us->r x xs H Q ->
  wpAny (model X.prog X.w) X.A (call (.builtin id) (v::us)) (EP X pins σ Q) X.xe s
theorem ZP.one:∀{x:V}{us:List Value},ZP [x] us->∃u,us=[u]/\ZY x u
 |_,_,.cons r .nil=>⟨_,rfl,r⟩
theorem ZP.zero:∀{us:List Value},ZP [] us->us=[]
 |_,.nil=>rfl
theorem ZP.dropLast {xs:List V}{us:List Value} (h:ZP xs us):ZP xs.dropLast us.dropLast:=by
 induction h with
 |nil=>exact .nil
 |cons r t ih =>
  cases t with
  |nil=>exact .nil
  |cons q t'=>exact .cons r ih
theorem ZP.rep {xs:List V}{us:List Value} (h:ZP xs us):∀k:Nat,ZP (List.replicate k xs).flatten (List.replicate k us).flatten
 |0=>.nil
 |k+1=>by
  rw[ZqX,ZqX,Zrg,Zrg]
  exact ZP.append h (ZP.rep h k)
theorem ZcQ {α:Type} (l:List α):l.eraseIdx (l.length-1)=l.dropLast:=by
 induction l with
 |nil=>rfl
 |cons a r ih =>
  cases r with
  |nil=>rfl
  |cons b r =>
   have e:(a::b::r).length-1=((b::r).length-1)+1:=by
    have h1:(a::b::r).length=r.length+2:=rfl
    have h2:(b::r).length=r.length+1:=rfl
    omega
   rw[e,List.eraseIdx_cons_succ,ih]
   all_goals rfl
theorem Zau (its:List Value):∀(k:Nat) (acc:List Value),
  List.foldl (fun x1 x2=>x1++x2) acc.toArray (List.replicate k its.toArray)=(acc++(List.replicate k its).flatten).toArray
 |0,acc=>by simp
 |k+1,acc=>by
  have e:acc.toArray++its.toArray=(acc++its).toArray:=by simp
  have e2:(acc++its)++(List.replicate k its).flatten=acc++(List.replicate (k+1) its).flatten:=by
   rw[ZqX,Zrg,Zr7]
  rw[<- e2,<- Zau its k (acc++its),<- e,ZqX,List.foldl_cons]
section
variable {X:Cx}{pins:List (Addr×Obj)}{σ:St}{H:Hp}{s:Shared}{l:Addr}{xs ys:List V}
theorem Inv.lset {its its':List Value}{n:Nat}{f:Array Value->Array Value}{t':Nat} (I:Inv X pins σ H s) (hH:H l=some (.lst xs))
  (e:s.heap.get? l=some { cls:=.type "list",data:=.seq its.toArray n }) (hf:f its.toArray=its'.toArray) (hv:ZP ys its') (hz:ys.length<=sizeLine) :
  Inv X pins σ (upd H l (.lst ys)) { s with heap:=s.heap.update l (Obj.mapSeq f),toks:=t' }:=by
 have q:=PySem.IsL.update e f
 rw[hf] at q
 refine I.write (x:=l) (e:=l) (by rw[hH];exact trivial) (.inl rfl) (fun b' u hb hu=>(Heap.get?_update_other s.heap (Obj.mapSeq f) (Ne.symm hb)).trans hu) ⟨_,q⟩ ?_
 exact⟨hz,its',_,hv,q⟩
theorem Inv.lnew {its:List Value}{t':Nat} (I:Inv X pins σ H s) (hv:ZP ys its) (hz:ys.length<=sizeLine) :
  Inv X pins σ (upd H s.heap.objs.size (.lst ys)) { s with heap:=s.heap.push { cls:=.type "list",data:=.seq its.toArray },toks:=t' }:=
 I.laid (fun _ _ q=>Heap.get?_push_of_some _ q) (ZqG _) ⟨hz,its,0,hv,Heap.get?_push_size _ rfl⟩
theorem Inv.fresh (I:Inv X pins σ H s):H s.heap.objs.size=none:=I.hok.fresh (ZqG _)
theorem Inv.lstM (I:Inv X pins σ H s) (hH:H l=some (.lst xs)):xs.length<=sizeLine/\∃(its:List Value) (n:Nat),ZP xs its/\xs.length=its.length/\s.heap.get? l=some { cls:=.type "list",data:=.seq its.toArray n }:=by
 obtain⟨z,its,n,r,e⟩:=I.hok l _ hH
 exact⟨z,its,n,r,r.length,e⟩
theorem Zf0 {n:Nat} (h:n<=sizeLine):Builtin.List.listTooLong n=false:=by
 unfold Builtin.List.listTooLong
 exact decide_eq_false (by omega)
end
section
variable {X:Cx}
def Uz:V->List V->Hp->VK->Prop:=fun x vs H Q=>∃l xs y,x=.ref l/\vs=[y]/\H l=some (.lst xs)/\xs.length<sizeLine/\Q .non (upd H l (.lst (xs++[y])))
theorem ZU:MtM X "list.append" Uz:=by
 intro pins s σ H x vs v us Q I rx rv h
 obtain⟨l,xs,y,rfl,rfl,hH,hz,q⟩:=h
 cases rx
 obtain⟨u,rfl,ru⟩:=rv.one
 obtain⟨z,its,n,r,hl,e⟩:=I.lstM hH
 refine call_meets F.slot_list_append ⟨_,e,rfl⟩ F.entry_list_append (F.args_list_append_2 _ _) (PySem.list_append l its.toArray n u (by rw[ZqA];omega)) ⟨e, ?_⟩
 refine⟨.non,_,I.lset (its':=its++[u]) hH e (by simp) (r.append (.cons ru .nil)) ?_,rfl,q⟩
 rw[ZqP,List.length_singleton]
 omega
def ZkS:V->List V->Hp->VK->Prop:=fun x vs H Q=>∃l xs y,x=.ref l/\vs=[]/\H l=some (.lst xs)/\xs[xs.length-1]?=some y/\Q y (upd H l (.lst xs.dropLast))
theorem ZdU:MtM X "list.pop" ZkS:=by
 intro pins s σ H x vs v us Q I rx rv h
 obtain⟨l,xs,y,rfl,rfl,hH,hy,q⟩:=h
 cases rx
 have hus:=rv.zero
 subst hus
 obtain⟨z,its,n,r,hl,e⟩:=I.lstM hH
 obtain⟨u,hu,ru⟩:=r.get hy
 have hy':its.toArray[its.toArray.size-1]?=some u:=by
  show its.toArray[its.length-1]?=some u
  rw[<- Array.getElem?_toList,<- hl]
  exact hu
 refine call_meets F.slot_list_pop ⟨_,e,rfl⟩ F.entry_list_pop (F.args_list_pop_1 _) (MeetsSeq.list_pop_last l its.toArray n u hy' (by rw[ZqA];omega)) ⟨e, ?_⟩
 refine⟨y,_,I.lset (its':=its.dropLast) hH e ?_ r.dropLast ?_,ru,q⟩
 ·show its.toArray.eraseIdxIfInBounds (its.toArray.size-1)=its.dropLast.toArray
  rw[ZqA,List.eraseIdxIfInBounds_toArray,ZcQ]
 ·rw[List.length_dropLast]
  omega
noncomputable def ZkR:R2:=fun x y H Q=>∃l k xs,x=.ref l/\y=.int k/\H l=some (.lst xs)/\-(2^63)<=k/\k<2^63/\xs.length*k.toNat<=sizeLine /\
 ∀p,H p=none->Q (.ref p) (upd H p (.lst (List.replicate k.toNat xs).flatten))
theorem Zea {α:Type} (xs:List α) (k:Nat):(List.replicate k xs).flatten.length=k*xs.length:=by
 induction k with
 |zero=>simp
 |succ k ih=>rw[ZqX,Zrg,ZqP,ih,Nat.succ_mul,Nat.add_comm]
theorem Zgy:OpR X (binaryOp .Mult) ZkR:=by
 intro pins s σ H x y v u Q I rx ry h
 obtain⟨l,k,xs,rfl,rfl,hH,h1,h2,hz,q⟩:=h
 cases rx
 obtain⟨t,rfl⟩:=ry
 obtain⟨z,its,n,r,hl,e⟩:=I.lstM hH
 have hlen:its.toArray.size*k.toNat<=sizeLine:=by rw[ZqA,<- hl];exact hz
 have hcap:¬its.toArray.size*k.toNat>(2^63-1)/8:=by
  have:(sizeLine:Nat)<=(2^63-1)/8:=by decide
  omega
 have hfit:¬(!Builtin.List.listFitsIndex k)=true:=by
  rw[fitsIndex_both h1 h2]
  exact Bool.false_ne_true
 have hlong:¬Builtin.List.listTooLong (its.toArray.size*k.toNat)=true:=by
  rw[Zf0 hlen]
  exact Bool.false_ne_true
 have hnew:List.foldl (fun x1 x2=>x1++x2) #[] (List.replicate (if its.toArray.isEmpty=true then 0 else k.toNat) its.toArray)=(List.replicate k.toNat its).flatten.toArray:=by
  have f0:∀m:Nat,List.foldl (fun x1 x2=>x1++x2) #[] (List.replicate m its.toArray)=(List.replicate m its).flatten.toArray:=fun m=>by
   have:=Zau its m []
   rw[ZrE] at this
   exact this
  rw[f0]
  cases its with
  |nil=>simp
  |cons a r'=>rw[if_neg (by simp)]
 refine wpAny_binaryOp_repeat_ref (T := "list") (U := "int") (by decide) ⟨_,e,rfl⟩ (fun s'=>typeIs_int s' k t) noFill_list_mul F.fills_int_mul F.slot_int_rmul repeat_list F.slot_int_index.lookup
  (call_meets F.slot_int_rmul (typeIs_int s k t) F.entry_int_rmul (F.args_int_rmul_2 _ _) (int___rmul___int_list k t l its.toArray n)
   ⟨e,rfl,⟨_,e,rfl⟩,call_meets F.slot_list_mul ⟨_,e,rfl⟩ F.entry_list_mul (F.args_list_mul_2 _ _) (AutoListH.list___mul___list_int_3 l its.toArray n k t hfit hcap hlong) ⟨e, ?_⟩⟩)
 rw[hnew]
 exact⟨.ref _,_,I.lnew (t':=s.toks) (r.rep k.toNat) (by rw[Zea,Nat.mul_comm];exact hz),rfl,q _ I.fresh⟩
end
section
set_option maxRecDepth 100000 in
end
section
end
end L2
namespace Att
open PySem PySem.W PySem.Calls PyProof.Rows
theorem UH {P:Params}{h:Heap}:∀(ns:List Int) (vs:List Value),WellAll P h vs (ns.map WData.int)->IntsAre vs ns:=by
 intro ns
 induction ns with
 |nil =>
  intro vs w
  rw[Zrl] at w
  cases w
  exact .nil
 |cons n ns ih =>
  intro vs w
  rw[ZqJ] at w
  cases w with
  |cons a b =>
   cases a
   exact .cons _ _ (ih _ b)
theorem Zdr {l:OpenLaw}{n:Nat} (hn:l.most=some n) {P:Params}{h:Heap}{args:List WData}{vals:List Value}
  (hpre:l.row.toRowW.claim.pre args=true) (hwl:WellAll P h vals args) :
  ∃a vs ns,vals=[Value.ref a]/\args=[WData.list (ns.map WData.int)]/\h.get? a=some { cls:=.type "list",data:=.seq vs.toArray }/\IntsAre vs ns/\ns.length<=n:=by
 have hsh:WShape.hasAll [] args [.list .int]=true:=(pre_splitW hpre).1
 have hc:l.pre.holds [] { args:=args }=true:=(pre_splitW hpre).2
 obtain⟨d,r,rfl,h1,h2⟩:=hasAllW_cons hsh
 obtain rfl:=hasAllW_nil h2
 obtain⟨xs,rfl,h3⟩:=hasW_list h1
 obtain⟨ns,rfl⟩:=items_int h3
 have hlen:ns.length<=n:=by
  unfold OpenLaw.pre at hc
  have h4:(WTm.not (.lt (.lit (.int (n:Int))) (.len (.arg 0)))).holds [] { args:=[.list (ns.map .int)] }=true:=by
   have h4:=(holds_andW hc).1
   rw[hn] at h4
   exact h4
  have h5:=condW_of h4 (w_not (w_lt w_lit (w_len_list (w_arg rfl))))
  rw[ZqC] at h5
  refine Nat.le_of_not_lt fun q=>?_
  have q':(n:Int)<((ns.length:Nat):Int):=by omega
  first
   |(rw[decide_eq_true q'] at h5;exact absurd h5 (by decide))
   |(simp at h5;omega)
 cases hwl with
 |cons w1 w2 =>
  cases w2
  cases w1 with
  |list ho hall=>exact⟨_,_,ns,rfl,rfl,ho,UH ns _ hall,hlen⟩
theorem Zdz (l:OpenLaw) (args:List WData):l.row.toRowW.claim.post args (.bool true) args=true:=
 postW_of (r:=l.row.toRowW) (X:=(true==true))
  (show WShape.has [] (.bool true) .bool=true by first|rfl|decide|simp[WShape.has,WShape.arms,WShape.armsAll])
  (show (WTm.eq .res (.lit (.bool true))).value [] { args:=args,res:=some (.bool true),after:=args }=some (.bool (true==true)) from w_eq_bool (w_res rfl) w_lit) rfl
theorem Zbs {l:OpenLaw}{n:Nat}{q:Program}{loose:List Str}{XP:(Str->Option Value)->Heap->Prop}{YP:World->Heap->Prop}{d:DefRec}
  (hn:l.most=some n) (hdf:d.params.defaults=[])
  (call:∀(w:World) (s₀ s₁:Shared) (mg mb:Str->Option Value) (fa:Addr) (o:Obj) (pm cd doc:Value) (a:Addr) (vs:List Value) (ns:List Int),
   Ground q loose [] XP w s₀ mg mb s₁.heap->YP w s₁.heap ->
   s₁.heap.get? fa=some o->o.data=.func (docDef d.name d.params d.body d.scope pm cd doc)->s₁.heap.CodeRec cd d.name->mg d.name=some (.ref fa) ->
   s₁.heap.get? a=some { cls:=.type "list",data:=.seq vs.toArray }->IntsAre vs ns->ns.length<=n->s₁.gens=#[] ->
   codeAny (model l.prog w) callerA (.call (.ref fa) ⟨[.ref a],[]⟩) (fun r s'=>r=.ok (.ret (.bool true))/\OldK s₁.heap s'.heap/\s'.os=s₁.os/\AllBare s'.gens) s₁) :
  WalkO q loose XP YP l.row.toRowW d [] (fun f vs=>PySem.call f vs):=by
 intro w s₀ s₁ mg mb G Y fa o pm cd doc dV kV ho hd hcd hD hmg hg args vals as hpre hlay hrd hwl hlo
 obtain rfl:dV=.none:=Dflts.none hD hdf
 obtain rfl:kV=.none:=Dflts.noKw hD
 obtain⟨a,vs,ns,rfl,rfl,hobj,hints,hlen⟩:=Zdr hn hpre hwl
 refine enter_call (codeAny_mono (call w s₀ s₁ mg mb fa o pm cd doc a vs ns G Y ho (fd_plain hd) hcd hmg hobj hints hlen hg) fun r s' hq=>?_)
 obtain⟨rfl,h2,h3,h4⟩:=hq
 exact⟨.inl ⟨.bool true,.bool true,[],rfl,fun _=>rfl,.bool true,Zdz l _,fun _=>⟨List.Pairwise.nil,fun _ hm=>(nomatch hm)⟩⟩,h2,h3,h4⟩
section
end
end Att
namespace L2
open PySem PySem.Spec PyProof.Rows
theorem QM:∀{vs:List Value}{ns:List Int},IntsAre vs ns->ZP (ns.map V.int) vs
 |_,_,.nil=>.nil
 |_,_,.cons n t h=>.cons ⟨t,rfl⟩ (QM h)
def Zjy (H:Hp):Prop:=∀b,H b=none\/∃o xs,H b=some (.frz o (.lst xs))
theorem Zf2 {P:Program}{w:World}{K:W.Frag}{mg mb:Str->Option Value}{CX:CXT}{k:Nat}{fa a:Addr}{fd:FuncData}{x:Str}{sp:Sp}{s₁:Shared}{vs:List Value}{ns:List Int}
  (KX:K.In s₁.heap) (hns:s₁.heap.Ns mainGlobals mg) (hb:s₁.heap.Ns builtinsNs mb) (hbb:∀x:Str,x ≠ "__name__"->mb x=bootBuiltins x) (hlim:s₁.heap.NoLimit) (hg:s₁.gens=#[])
  (ha:s₁.heap.get? a=some { cls:=.type "list",data:=.seq vs.toArray }) (hi:IntsAre vs ns) (hl:ns.length<=sizeLine) (hr:JH k callerA)
  (F:∀base:Heap,K.In base->base.Ns mainGlobals mg->Jb P w K mg base CX k fa fd [x] sp) (hbind:∀(s:Shared) (u:Value),BindsTo s fd ⟨[u],[]⟩ [(x,u)])
  (hsp:∀H:Hp,Zjy H->SqL K H a (ns.map V.int)->sp [.ref a] H (fun v _=>v=.bl true) fun _ _ _=>False)
  (hCX:∀H e s',CX [] H s₁ (fun _ _ _=>False) e s'->False) :
  codeAny (model P w) callerA (.call (.ref fa) ⟨[.ref a],[]⟩) (fun r s'=>r=.ok (.ret (.bool true))/\OldK s₁.heap s'.heap/\s'.os=s₁.os/\AllBare s'.gens) s₁:=by
 have rv:=QM hi
 have lenV:=hi.length
 have core:∀H:Hp,Zjy H->SqL K H a (ns.map V.int)->HOk P w H s₁.heap->(∀b,H b≠none->b=a)->(H a≠none->K.lookup a=none) ->
   codeAny (model P w) callerA (.call (.ref fa) ⟨[.ref a],[]⟩) (fun r s'=>r=.ok (.ret (.bool true))/\OldK s₁.heap s'.heap/\s'.os=s₁.os/\AllBare s'.gens) s₁:=by
  intro H hO hS hok hA hK
  have base_of:∀{b:Addr}{o:Obj},s₁.heap.get? b=some o->H b=none->(ZfA s₁.heap H).get? b=some o:=fun e n=>Zf9 e n
  have noA:∀{b:Addr}{o:Obj}{es:Array DictEntry}{ep:Nat},s₁.heap.get? b=some o->o.data=.dict es ep->H b=none:=fun {b o es ep} e d=>by
   cases q:H b with
   |none=>rfl
   |some u =>
    have e':b=a:=hA b (by rw[q];simp)
    subst e'
    rw[ha] at e;cases e
    have d':Data.seq vs.toArray _=Data.dict es ep:=d
    cases d'
  have nsK:∀{b:Addr}{m:Str->Option Value},s₁.heap.Ns b m->(ZfA s₁.heap H).Ns b m:=fun {b m} ⟨o,es,ep,e,d,r⟩=>⟨o,es,ep,base_of e (noA e d),d,r⟩
  have hKb:K.In (ZfA s₁.heap H):=fun b o e=>base_of (KX b o e) (by
   cases q:H b with
   |none=>rfl
   |some u =>
    have e':b=a:=hA b (by rw[q];simp)
    subst e'
    rw[hK (by rw[q];simp)] at e;cases e)
  have hM:Mod K mg (ZfA s₁.heap H):=⟨hKb,nsK hns,⟨mb,nsK hb,hbb⟩,let ⟨mc,h1,h2⟩:=hlim;⟨mc,nsK h1,h2⟩⟩
  have e0:ZhT P w K mg (ZfA s₁.heap H) callerA [] s₁ H:=⟨rfl,hM,fun b o e=>Zhg e,Nat.le_of_eq (Zeo _ _),trivial,fun b hb=>absurd (show b∈([]:List Addr) from hb) (by simp),hok,.of_eq hg⟩
  refine codeAny_mono ((F _ hKb (nsK hns)).run callerA [] s₁ H ⟨[.ref a],[]⟩ [.ref a] [.ref a] _ _ hr e0 (hbind s₁ (.ref a)) (.cons rfl .nil) (hsp H hO hS)) fun r s' h=>?_
  cases r with
  |error e=>exact(hCX H e s' h).elim
  |ok fl =>
   cases fl with
   |next=>exact False.elim h
   |brk=>exact False.elim h
   |cont=>exact False.elim h
   |ret u =>
    obtain⟨v,H',os,bare,un,hok',r',q⟩:=h
    have q':v=.bl true:=q
    subst q'
    obtain rfl:u=Value.bool true:=r'
    refine⟨rfl,OldK.of_keep fun b o e=>?_,os,bare⟩
    cases q:H b with
    |none=>exact un.keep b o e q (by intro z;exact absurd (show b∈([]:List Addr) from z) (by simp)) (by simp)
    |some u =>
     rcases hO b with z|⟨ob,xs,z⟩
     ·rw[q] at z;cases z
     ·have z2:=un.frzs b ob _ z
      obtain⟨e1,_⟩:=hok b _ z
      obtain⟨e2,_⟩:=hok' b _ z2
      rw[e] at e1;cases e1
      exact e2
 cases hk:K.lookup a with
 |some o =>
  have e:=KX a o hk
  rw[ha] at e
  cases e
  refine core (fun _=>none) (fun _=>.inl rfl) (.inr ⟨_,vs.toArray,_,hk,rfl,rfl,rfl,by rw[ZqA,lenV];exact hl,by simpa using rv⟩) (fun b u z=>by have z':(none:Option HO)=some u:=z;cases z') (fun b z=>absurd rfl z) fun z=>absurd rfl z
 |none =>
  refine core (fun b=>if b=a then some (.frz { cls:=.type "list",data:=.seq vs.toArray } (.lst (ns.map V.int))) else none) (fun b=>?_) (.inl (.inr ⟨{ cls:=.type "list",data:=.seq vs.toArray },if_pos rfl⟩)) (fun b u z=>?_) (fun b z=>?_) fun _=>hk
  ·by_cases hb:b=a
   ·exact .inr ⟨_,_,if_pos hb⟩
   ·exact .inl (if_neg hb)
  ·by_cases hb:b=a
   ·have z':=(if_pos hb).symm.trans z
    cases z'
    subst hb
    exact⟨ha,by rw[ZqC];exact hl,vs,_,rv,ha⟩
   ·have z':=(if_neg hb).symm.trans z
    cases z'
  ·by_cases hb:b=a
   ·exact hb
   ·exact absurd (if_neg hb) z
noncomputable abbrev KOf {K:W.Frag}{h:Heap} (_:K.In h):W.Frag:=K
theorem ZgC {l:PySem.W.OpenLaw}{n k:Nat}{q:Program}{loose:List Str}{XP:(Str->Option Value)->Heap->Prop}{YP:World->Heap->Prop}{d:DefRec}{K:Params->W.Frag}{CX:World->CXT}{sp:World->Sp}{x:Str}
  (hn:l.most=some n) (hn2:n<=sizeLine) (hdf:d.params.defaults=[]) (hr:JH k callerA)
  (hY:∀(w:World) (h:Heap),YP w h->(K w.params).In h)
  (F:∀(w:World) (mg:Str->Option Value) (fa:Addr) (h:Heap),(K w.params).In h->h.Ns mainGlobals mg->mg d.name=some (.ref fa) ->
   ∃fd:FuncData,(∀(s:Shared) (u:Value),BindsTo s fd ⟨[u],[]⟩ [(x,u)]) /\
    ∀base:Heap,(K w.params).In base->base.Ns mainGlobals mg->Jb l.prog w (K w.params) mg base (CX w) k fa fd [x] (sp w))
  (hsp:∀(w:World) (H:Hp) (a:Addr) (ns:List Int),ns.length<=n->Zjy H->SqL (K w.params) H a (ns.map V.int)->sp w [.ref a] H (fun v _=>v=.bl true) fun _ _ _=>False)
  (hCX:∀(w:World) (H:Hp) (s:Shared) (e:Value) (s':Shared),CX w [] H s (fun _ _ _=>False) e s'->False) :
  PySem.W.WalkO q loose XP YP l.row.toRowW d [] (fun f vs=>PySem.call f vs):=by
 refine Att.Zbs hn hdf fun w s₀ s₁ mg mb fa o pm cd doc a vs ns G Y ho hd hcd hmg hobj hints hlen hg=>?_
 have KX:=hY w _ Y
 obtain⟨fd,hb,hF⟩:=F w mg fa _ KX G.T.g hmg
 exact Zf2 KX G.T.g G.T.b G.T.builtins G.T.nolimit hg hobj hints (ZqV hlen hn2) hr hF hb (fun H hO hS=>hsp w H a ns hlen hO hS) fun H e s'=>hCX w H s₁ e s'
theorem ZeX {l:PySem.W.OpenLaw}{n k:Nat}{q:Program}{loose:List Str}{XP:(Str->Option Value)->Heap->Prop}{YP:World->Heap->Prop}{d:DefRec}{K:Params->W.Frag}{CX:CXT}{sp:W.Frag->Sp}{x:Str}
  (hn:l.most=some n) (hn2:n<=sizeLine) (hdf:d.params.defaults=[]) (hr:JH k callerA)
  (hY:∀(w:World) (h:Heap),YP w h->(K w.params).In h)
  (F:∀(w:World) (mg:Str->Option Value) (fa:Addr) (h:Heap),(K w.params).In h->h.Ns mainGlobals mg->mg d.name=some (.ref fa) ->
   ∃fd:FuncData,(∀(s:Shared) (u:Value),BindsTo s fd ⟨[u],[]⟩ [(x,u)]) /\
    ∀base:Heap,(K w.params).In base->base.Ns mainGlobals mg->Jb l.prog w (K w.params) mg base CX k fa fd [x] (sp (K w.params)))
  (hsp:∀(K:PySem.W.Frag) (H:Hp) (a:Addr) (ns:List Int),ns.length<=n->Zjy H->SqL K H a (ns.map V.int)->sp K [.ref a] H (fun v _=>v=.bl true) fun _ _ _=>False)
  (hCX:∀(H:Hp) (s:Shared) (e:Value) (s':Shared),CX [] H s (fun _ _ _=>False) e s'->False) :
  PySem.W.WalkO q loose XP YP l.row.toRowW d [] (fun f vs=>PySem.call f vs):=
 ZgC (K:=K) (CX:=fun _=>CX) (sp:=fun w=>sp (K w.params)) hn hn2 hdf hr hY F (fun w H a ns h1 h2 h3=>hsp (K w.params) H a ns h1 h2 h3) fun _ H s e s'=>hCX H s e s'
noncomputable def ZR (s:Stmt) (j:Nat):Stmt:=match s with
 |.ClassDef _ _ _ body _ _ _ _ _ _ _=>body.getD j (.Pass ⟨0,0,0,0⟩)
 |_=>.Pass ⟨0,0,0,0⟩
noncomputable def Zk (s:Stmt):Arguments:=match s with
 |.FunctionDef _ a _ _ _ _ _ _ _ _=>a
 |_=>{ posonlyargs:=[],args:=[],vararg:=none,kwonlyargs:=[],kw_defaults:=[],kwarg:=none,defaults:=[] }
noncomputable def Zj (s:Stmt):List Stmt:=match s with
 |.FunctionDef _ _ b _ _ _ _ _ _ _=>b
 |_=>[]
noncomputable def Zc (s:Stmt):Scope:=match s with
 |.FunctionDef _ _ _ _ _ _ sc _ _ _=>sc
 |_=>{ kind:=.function,names:=[],isGenerator:=false,isCoroutine:=false }
noncomputable abbrev CX0:CXT:=fun _ _ _ _ _ _=>False
noncomputable abbrev E0:XK:=fun _ _ _=>False
theorem Zc6 {X:Cx}:ZaG CX0 X E0:=fun _ _ _ _ _ _ _ h=>h.elim
structure Fun (K:PySem.W.Frag) (x qual:Str) (st:Stmt) (f:Addr) (fd:FuncData):Prop where
 ex:∃(oc:Value) (od:Option Addr) (kV doc pm:Value) (an:Option Addr) (cdv ct:Value) (osl:Array (Option Value)),
  fd=PySem.W.fnOf x qual (Zk st) (Zj st) (Zc st) .none kV doc pm an cdv ct/\K.lookup f=some ⟨oc,od,.func fd,osl⟩/\PySem.W.codeIn K cdv qual=true
 kp:PySem.W.keepIn K (.ref f)=true
section
variable {P:Program}{w:World}{K:W.Frag}{mg:Str->Option Value}{base:Heap}
theorem Fun.ok {x qual:Str}{st:Stmt}{f:Addr}{fd:FuncData}{N ps:List Str}{k:Nat}{sp:Sp} (F:Fun K x qual st f fd) (S:Zu N ps (Zc st)) (len:∀vs H Q E,sp vs H Q E->vs.length=ps.length)
  (hbody:∀(cdv:Value) (A:Around) (outer:List Env) (s:Shared) (H:Hp) (vs:List V) (Q:VK) (E:XK),JH k (A.deeper (envOfC qual (Zc st) s.heap.objs.size f cdv))->sp vs H Q E ->
   ∃t,PSs (Za6 CX0 P w K mg base N qual (Zc st) f cdv A outer s H E).nox (Zj st) t/\t { nx:=fun _ H'=>Q .non H',rt:=Q } (Vt N vs) H):Jb P w K mg base CX0 (k+1) f fd ps sp:=by
 obtain⟨oc,od,kV,doc,pm,an,cdv,ct,osl,rfl,lk,hcd⟩:=F.ex
 refine ZiX lk hcd S len fun A outer s H vs Q E hr hsp=>?_
 obtain⟨t,h,q⟩:=hbody cdv A outer s H vs Q E hr hsp
 exact⟨t,h.nox,q⟩
theorem Fun.binds {x qual:Str}{st:Stmt}{f:Addr}{fd:FuncData}{ps:List Str} (F:Fun K x qual st f fd)
  (h:∀(kV doc pm:Value) (an:Option Addr) (cdv ct:Value) (us:List Value),us.length=ps.length->bindArgs (PySem.W.fnOf x qual (Zk st) (Zj st) (Zc st) .none kV doc pm an cdv ct) ⟨us,[]⟩=pure (ps.zip us)):VH K fd ps []:=by
 obtain⟨oc,od,kV,doc,pm,an,cdv,ct,osl,rfl,lk,hcd⟩:=F.ex
 exact .all (h kV doc pm an cdv ct)
theorem Z5 {x qual:Str}{st:Stmt}{f:Addr}{oc:Value}{od an:Option Addr}{osl:Array (Option Value)}{kV doc pm cdv ct:Value} (l:K.lookup f=some ⟨oc,od,.func (PySem.W.fnOf x qual (Zk st) (Zj st) (Zc st) .none kV doc pm an cdv ct),osl⟩)
  (c:PySem.W.codeIn K cdv qual=true) (k:PySem.W.keepIn K (.ref f)=true):Fun K x qual st f (PySem.W.fnOf x qual (Zk st) (Zj st) (Zc st) .none kV doc pm an cdv ct):=⟨⟨oc,od,kV,doc,pm,an,cdv,ct,osl,rfl,l,c⟩,k⟩
variable {X:Cx}
theorem pv (i:Nat) {x:Str}{pos:Pos} (hN:X.N[i]?=some x:=by rfl) (hv:Vis X.env.scope x:=by first|exact Or.inl rfl|exact Or.inr (Or.inl rfl)|exact Or.inr (Or.inr rfl)) (hd:(x==("__debug__":Str))=false:=by decide)
  (hcd:(x==("__classdict__":Str))=false:=by decide):PE X (.Name x pos) (VS i):=Zi0 hN hv hd hcd
end
def Zw (H H':Hp):Prop:=∀b o,H b=some o->H' b=some o
theorem Zw.refl (H:Hp):Zw H H:=fun _ _ h=>h
theorem Zw.trans {H H1 H2:Hp} (a:Zw H H1) (b:Zw H1 H2):Zw H H2:=fun c o h=>b c o (a c o h)
theorem Zw.free {H H':Hp} (e:Zw H H') {l:Addr} (h:H' l=Option.none):H l=Option.none:=by
 cases q:H l with
 |none=>rfl
 |some o =>
  rw[e l o q] at h
  cases h
end L2
set_option maxHeartbeats 4000000
namespace L2
open PySem PySem.Spec PyProof.Rows
noncomputable def ZeW (scope:Scope) (env:Env):List (Str×Addr):=
 ((scope.names.filter fun p=>p.2==.free).reverse).map fun p=>(p.1,(env.cells.lookup p.1).getD 0)
theorem V3 {β:Type}:∀{l:List (Str×β)}{a:Str}{b:β},(a,b)∈l->∃c,l.lookup a=some c
 |[],_,_,h=>absurd h (by simp)
 |(n,v)::r,a,b,h=>by
  cases e:a==n with
  |true=>exact⟨v,by simp[ZqS,e]⟩
  |false =>
   rcases ZqE.mp h with z|z
   ·cases z;simp at e
   ·obtain⟨c,hc⟩:=V3 z
    exact⟨c,by simp[ZqS,e,hc]⟩
theorem ZX {env:Env}:∀{names:List (Str×NameKind)}{y:Str}{k:NameKind},(∀p∈names,p.2≠.cell) ->
  (names.map fun(n,k)=>if (k==NameKind.free&&env.scope.kind==.function&&env.kindOf n==some .cell) then (n,NameKind.cell) else (n,k)).lookup y=some k ->
  (k=.local->names.lookup y=some .local)/\(k=.cell\/k=.free->names.lookup y=some .free)
 |[],_,_,_,h=>by simp at h
 |(n,k0)::r,y,k,nc,h=>by
  have ih:=@ZX env r y k (fun p hp=>nc p (ZqK _ hp))
  have nc0:=nc (n,k0) ZqY
  have h':Zrq y ((if (k0==NameKind.free&&env.scope.kind==.function&&env.kindOf n==some .cell)=true then (n,NameKind.cell) else (n,k0))::(r.map fun(n,k)=>if (k==NameKind.free&&env.scope.kind==.function&&env.kindOf n==some .cell) then (n,NameKind.cell) else (n,k)))=some k:=h
  cases hx:y==n with
  |true =>
   by_cases hc:(k0==NameKind.free&&env.scope.kind==.function&&env.kindOf n==some .cell)=true
   ·rw[if_pos hc] at h'
    simp only[ZqS,hx] at h'
    have hk:NameKind.cell=k:=Option.some.inj h'
    subst hk
    have hf:k0=.free:=by
     simp only[Bool.and_eq_true] at hc
     exact beq_iff_eq.mp hc.1.1
    subst hf
    exact⟨(fun z=>nomatch z),fun _=>by simp[ZqS,hx]⟩
   ·rw[if_neg hc] at h'
    simp only[ZqS,hx] at h'
    have hk:k0=k:=Option.some.inj h'
    subst hk
    refine⟨fun z=>by subst z;simp[ZqS,hx],fun z=>?_⟩
    rcases z with z|z
    ·exact absurd z nc0
    ·subst z;simp[ZqS,hx]
  |false =>
   by_cases hc:(k0==NameKind.free&&env.scope.kind==.function&&env.kindOf n==some .cell)=true
   ·rw[if_pos hc] at h'
    simp only[ZqS,hx] at h'
    have:=ih h'
    simpa[ZqS,hx] using this
   ·rw[if_neg hc] at h'
    simp only[ZqS,hx] at h'
    have:=ih h'
    simpa[ZqS,hx] using this
noncomputable def blk (X:Cx) (scope:Scope) (x:Str) (C:Addr) (ex:List Addr) (s₂:Shared) (H₂:Hp):Cx:=
 { X with N:=X.N++[x],s₀:=s₂,H₀:=H₂,env:=compEnvC scope (ZeW scope X.env) C X.env,outer:=X.stack,ex:=ex,fn:=fun _=>false,pn:=[],xe:=fun _ _=>False }
noncomputable def QD (N:List Str) (sc scope:Scope) (x:Str):Bool:=
 (scope.names.all fun p=>!(p.2==.cell))&&(scope.kind==.function)&&(scope.names.all fun p=>!(p.2==.local) || scope.names.lookup p.1==some .local)&&(scope.names.lookup x==some .local)
  && (N.all fun y=>!(scope.names.lookup y==some .local))&&(scope.names.all fun p=>!(p.2==.free) || sc.names.lookup p.1==some .cell || sc.names.lookup p.1==some .free)
structure UU (N:List Str) (sc scope:Scope) (x:Str):Prop where
 nc:∀p∈scope.names,p.2≠.cell
 kind:scope.kind=.function
 locs:∀p∈scope.names,p.2=.local->scope.names.lookup p.1=some .local
 var:scope.names.lookup x=some .local
 noN:∀y∈N,scope.names.lookup y≠some .local
 fr:∀p∈scope.names,p.2=.free->sc.names.lookup p.1=some .cell\/sc.names.lookup p.1=some .free
theorem UU.of {N:List Str}{sc scope:Scope}{x:Str} (h:QD N sc scope x=true):UU N sc scope x:=by
 unfold QD at h
 simp only[Bool.and_eq_true,ZqW,Bool.or_eq_true,Bool.not_eq_true',beq_iff_eq,beq_eq_false_iff_ne] at h
 obtain⟨⟨⟨⟨⟨h1,h2⟩,h3⟩,h4⟩,h5⟩,h6⟩:=h
 refine⟨h1,h2,fun p hp e=>?_,h4,h5,fun p hp e=>?_⟩
 ·rcases h3 p hp with z|z
  ·exact absurd e z
  ·exact z
 ·rcases h6 p hp with (z|z)|z
  ·exact absurd e z
  ·exact .inl z
  ·exact .inr z
section
variable {X:Cx}{pins:List (Addr×Obj)}{σ:St}{H:Hp}{s:Shared}
theorem Inv.adopt {D:Addr}{ys:List V}{its:List Value}{n:Nat} (I:Inv X pins σ H s) (hn:H D=none) (h1:X.s₀.heap.objs.size<=D) (hL:D≠X.env.locals) (hc:∀x c,X.env.cells.lookup x=some c->c≠D)
  (hp:∀p∈X.pn++pins,p.1≠D) (ho:s.heap.get? D=some { cls:=.type "list",data:=.seq its.toArray n }) (r:ZP ys its) (hz:ys.length<=sizeLine):Inv X pins σ (upd H D (.lst ys)) s:=by
 refine I.step (h':=s.heap) (g':=s.gens) (d':=s.drawn) (t':=s.toks) (ch:=[D]) (fun b hb=>?_) (fun b o _ _ _ e _=>e) (fun b o _ _ _ e _=>⟨o.slots,e⟩) (fun b o hb _ e=>?_) (fun b o _ e=>⟨o,e⟩)
  (fun b xs e=>?_) (fun b o u e=>?_) (fun b ps e=>⟨#[], ?_⟩) (fun m hm=>hm) (fun b u e=>?_) I.bare
 ·have e:b=D:=by simpa using hb
  subst e
  exact⟨.inr h1,hL,hc,hp⟩
 ·rw[Zl (by simpa using hb)];exact e
 ·rw[Zl (Zv e hn)];exact e
 ·rw[Zl (Zv e hn)];exact e
 ·rw[Zl (Zv e hn),e];simp
 ·by_cases hb:b=D
  ·subst hb
   rw[Zt] at e;cases e
   exact⟨hz,its,n,r,ho⟩
  ·rw[Zl hb] at e
   exact(I.hok b u e).stay (fun c v _ q=>q) (fun c q=>by rw[Zl (Zv q hn)];exact q) fun c xs q=>by rw[Zl (Zv q hn)];exact q
variable {s₂:Shared}{H₂:Hp}{scope:Scope}{x:Str}{fp:List Addr}
theorem Js {sc:UU X.N X.env.scope scope x} (ok:X.Ok) {y:Str}{c:Addr} (h:(ZeW scope X.env).lookup y=some c):X.env.cells.lookup y=some c:=by
 have hm:=PySem.mem_of_lookup h
 unfold ZeW at hm
 obtain⟨p,hp,e⟩:=Zrt.mp hm
 have hp':=Zry.mp (List.mem_reverse.mp hp)
 obtain⟨e1,e2⟩:=Prod.mk.inj e
 have hk:=sc.fr p hp'.1 (beq_iff_eq.mp hp'.2)
 obtain⟨c',hc'⟩:=ok.has p.1 hk
 rw[hc'] at e2
 rw[<- e1,hc']
 exact congrArg some e2
theorem Zcr {y:Str} (h:scope.names.lookup y=some .free):∃c,(ZeW scope X.env).lookup y=some c:=by
 have hm:=PySem.mem_of_lookup h
 refine V3 (b:=(X.env.cells.lookup y).getD 0) ?_
 unfold ZeW
 exact Zrt.mpr ⟨(y,.free),List.mem_reverse.mpr (Zry.mpr ⟨hm,rfl⟩),rfl⟩
theorem Zjm (I:Inv X pins σ H₂ s₂) (sc:UU X.N X.env.scope scope x) {C:Addr} (hC:s₂.heap.objs.size<=C) (ff:∀b∈fp,Zgb X pins H₂ b) (fo:∀b∈fp,∃o,s₂.heap.get? b=some o):(blk X scope x C fp s₂ H₂).Ok where
 mod:=I.ok.mod
 kind:=sc.kind
 glob:=I.ok.glob
 blt:=I.ok.blt
 above:=hC
 inj:=fun y z c h1 h2=>I.ok.inj y z c (Js (sc:=sc) I.ok h1) (Js (sc:=sc) I.ok h2)
 has:=fun y hy=>by
  have hy':(relabel scope X.env).names.lookup y=some .cell\/(relabel scope X.env).names.lookup y=some .free:=hy
  have hf:scope.names.lookup y=some .free:=by
   rcases hy' with z|z
   ·exact(ZX sc.nc z).2 (.inl rfl)
   ·exact(ZX sc.nc z).2 (.inr rfl)
  exact Zcr hf
 cab:=fun y c h=>by cases h
 hd:=I.ok.hd
 frames:=I.ok.frames
 stk:=.inl rfl
 exf:=fun b hb=>by
  obtain⟨f0,f1,f2,f3,f4,f5⟩:=ff b hb
  obtain⟨o,ho⟩:=fo b hb
  exact⟨ZqN (ZqD (Heap.lt_size ho) hC),fun y c h=>f4 y c (Js (sc:=sc) I.ok h)⟩
 bs:=I.bs
 bsz:=ZqV I.ok.bsz I.sz
 noex:=fun b o e hb=>by
  obtain⟨f0,f1,f2,f3,f4,f5⟩:=ff b hb
  rcases f3 with z|z
  ·exact I.ok.noex b o e z
  ·exact absurd (ZqD (Heap.lt_size e) (ZqV I.ok.bsz z)) (ZqZ _)
 exfs:=fun b hb z=>by
  obtain⟨f0,f1,f2,f3,f4,f5⟩:=ff b hb
  rcases ZqE.mp (I.stkSub b z) with e|e
  ·exact f1 e
  ·exact f2 e
 funs:=I.stack
 frf:=I.stkFree
end
def Zgi (σ:St) (te:TE) (J:It) (H1:Hp) (Q:VK):Prop:=∃W:Nat->Nat->List V->Hp->Prop,(∃m,W 0 m [] H1)/\∀i m ys H2,W i m ys H2->ys.length<=sizeLine /\
 ((J.stop i H2/\∀p,H2 p=none->Q (.ref p) (upd H2 p (.lst ys))) \/
  (J.go i H2/\∃N:List V->Hp->Prop,(∀ys' H',N ys' H'->∃m',m'<m/\W (i+1) m' ys' H')/\∀x H3,J.yld i H2 x H3->te (σ++[some x]) H3 fun y H4=>N (ys++[y]) H4))
noncomputable def Zfc (wi:TI) (te:TE):TE:=fun σ H Q=>wi σ H fun J H1=>Zgi σ te J H1 Q
section
variable {X:Cx}{pins:List (Addr×Obj)}{σ:St}{s₂:Shared}{H₂:Hp}{scope:Scope}{x:Str}{px:Pos}{elt iter:Expr}{pos:Pos}{te:TE}{J:It}{fp:List Addr}{it:Addr}{tn:Nat->Heap->Prop}
theorem Zcq {E:Value->Shared->Prop}{Q:VK}{RR:Value->Addr->Result->Shared->Prop} (I:Inv X pins σ H₂ s₂) (sc:UU X.N X.env.scope scope x) (hNd:X.N.Nodup) (hc:X.calm=true)
  (T:Zjw X.prog X.w X.K (.Name x px) J fp it tn) (st:tn 0 s₂.heap) (ff:∀b∈fp,Zgb X pins H₂ b) (hw:Zgi σ te J H₂ Q)
  (he:∀C s₂ H₂ ex,PE (blk X scope x C ex s₂ H₂) elt te)
  (hRR:∀D C s' H' m',s₂.heap.objs.size<=C->Inv X pins σ H' s'->s'.heap.Ns C m'->H' C=none->Q (.ref D) H'->RR (.ref D) C (.ok .next) s') :
  wpAny (model X.prog X.w) X.A (newList []) (fun acc s₃=>wpAny (model X.prog X.w) X.A (newFunctionEnv scope X.env.globals (ZeW scope X.env) [] X.env.qual none .none (some X.env)) (fun cenv s₄ =>
   codeAny (model X.prog X.w) X.A (.compStart (.ListComp elt [⟨.Name x px,iter,[],0⟩] scope pos) 0 (.ref it) acc { cenv with scope:=relabel scope X.env }) (RR acc cenv.locals) s₄) E s₃) E s₂:=by
 refine wpAny_newObj_type (wpAny_newFunctionEnv sc.nc (by intro y hy;simp at hy) (fun h₁ hns₁ hsb₁=>?_) sc.kind)
 dsimp only at hns₁ hsb₁ ⊢
 generalize hP2:s₂.heap.push { cls:=.type "list",dict:=none,data:=.seq ([]:List Value).toArray }=P2 at hns₁ hsb₁ ⊢
 have hCs:P2.objs.size=s₂.heap.objs.size+1:=by rw[<- hP2,Heap.size_push]
 have hCle:s₂.heap.objs.size<=P2.objs.size:=by rw[hCs];exact Zr9 _
 have hDC:s₂.heap.objs.size≠P2.objs.size:=by rw[hCs];exact ZqN (Zro _)
 generalize hCe:P2.objs.size=C at hns₁ hsb₁ hCs hCle hDC ⊢
 generalize hDe:s₂.heap.objs.size=D at hCs hCle hDC ⊢
 have fo:∀b∈fp,∃o,s₂.heap.get? b=some o:=fun b hb=>let ⟨o,e,_⟩:=T.obj _ _ st b hb;⟨o,e⟩
 have flt:∀b∈fp,b<D:=fun b hb=>by obtain⟨o,e⟩:=fo b hb;rw[<- hDe];exact Heap.lt_size e
 have old:∀b o,s₂.heap.get? b=some o->h₁.get? b=some o:=fun b o e=>by
  have hb:=Heap.lt_size e
  exact hsb₁.extBut b o (ZqN (by rw[hCs];exact Nat.lt_succ_of_lt (hDe▸hb))) (Heap.get?_push_of_some _ (hP2▸Heap.get?_push_of_some _ e))
 have hacc:h₁.get? D=some { cls:=.type "list",data:=.seq ([]:List Value).toArray 0 }:=hsb₁.extBut _ _ hDC (Heap.get?_push_of_some _ (hP2▸hDe▸Heap.get?_push_size _ rfl))
 have okB:=Zjm (x:=x) (C:=C) I sc (by rw[hDe];exact hCle) ff fo
 have hfreshD:H₂ D=none:=I.hok.fresh (by rw[hDe];exact ZqG _)
 have hfreshC:H₂ C=none:=I.hok.fresh (by rw[hDe];exact hCle)
 have hxN:x ∉ X.N:=fun z=>sc.noN x z sc.var
 have ndB:(X.N++[x]).Nodup:=List.nodup_append.mpr ⟨hNd,by simp,fun a ha b hb=>by
  have:b=x:=by simpa using hb
  subst this;rintro rfl;exact hxN ha⟩
 have I0:Inv (blk X scope x C fp s₂ H₂) [(D,{ cls:=.type "list",data:=.seq ([]:List Value).toArray 0 })] (σ++[none]) H₂ { s₂ with heap:=h₁,toks:=s₂.toks+([]:List (Str×Value)).length }:=by
  refine⟨okB,rfl,I.bare,Un.kept old,⟨_,hns₁,fun i y v e1 e2 e3=>?_⟩,fun y c e=>?_,hfreshC,fun y c e=>I.freeC y c (Js (sc:=sc) I.ok e),fun p hp=>?_,I.hok.kept old,by simp[blk,I.len]⟩
  ·have hi:i<σ.length:=by
    by_cases hi:i<σ.length
    ·exact hi
    ·rw[ZqQ (by omega)] at e2
     have:([none]:St)[i-σ.length]?=some (some v):=e2
     cases hj:i-σ.length with
     |zero=>rw[hj] at this;simp at this
     |succ j=>rw[hj] at this;simp at this
   rw[ZqI hi] at e2
   have e1':(X.N++[x])[i]?=some y:=e1
   rw[ZqI (by rw[<- I.len];exact hi)] at e1'
   have yN:y∈X.N:=ZqU e1'
   have e3':(relabel scope X.env).names.lookup y=some .local\/(relabel scope X.env).names.lookup y=some .cell\/(relabel scope X.env).names.lookup y=some .free:=e3
   have hcf:(relabel scope X.env).names.lookup y=some .cell\/(relabel scope X.env).names.lookup y=some .free:=by
    rcases e3' with z|z
    ·exact absurd ((ZX sc.nc z).1 rfl) (sc.noN y yN)
    ·exact z
   have hfree:scope.names.lookup y=some .free:=by
    rcases hcf with z|z
    ·exact(ZX sc.nc z).2 (.inl rfl)
    ·exact(ZX sc.nc z).2 (.inr rfl)
   obtain⟨c,hcl⟩:=Zcr (X:=X) hfree
   have hcx:=Js (sc:=sc) I.ok hcl
   have hvis:=sc.fr _ (PySem.mem_of_lookup hfree) rfl
   obtain⟨m,hn,hl⟩:=I.loc
   obtain⟨u,ru,hlook⟩:=hl i y v e1' e2 (.inr hvis)
   refine⟨u,ru,.inr ⟨hcf,c,hcl, ?_⟩⟩
   rcases hlook with ⟨k,_⟩|⟨k,c',ec,hcell⟩
   ·have k':X.env.scope.names.lookup y=some .local:=k
    have hv':X.env.scope.names.lookup y=some .cell\/X.env.scope.names.lookup y=some .free:=hvis
    rw[k'] at hv'
    rcases hv' with z|z<;>cases z
   ·rw[hcx] at ec;cases ec
    obtain⟨o,ho,hd⟩:=hcell
    exact⟨o,old _ _ ho,hd⟩
  ·obtain⟨v,o,ho,hd⟩:=I.cell y c (Js (sc:=sc) I.ok e)
   exact⟨v,o,old _ _ ho,hd⟩
  ·have e:p=(D,{ cls:=.type "list",data:=.seq ([]:List Value).toArray 0 }):=by simpa[blk] using hp
   subst e
   exact⟨hacc,hfreshD,hDC,(fun z=>by
    rcases ZqE.mp (I.stkSub D z) with e|e
    ·exact absurd I.lt (by rw[<- e,hDe];exact ZqZ _)
    ·exact I.nofs (by rw[hDe];exact ZqG _) e),fun v z=>nomatch z⟩
 obtain⟨W,⟨m0,w0⟩,turn⟩:=hw
 have fpB:∀{H':Hp}{o:Obj},(∀b∈fp,H' b=none)->∀b∈fp,Zgb (blk X scope x C fp s₂ H₂) [(D,o)] H' b:=fun {H' o} hn b hb=>by
  obtain⟨f0,f1,f2,f3,f4,f5⟩:=ff b hb
  obtain⟨g1,g2⟩:=okB.exf b hb
  exact⟨hn b hb,g1,okB.exfs b hb,.inl hb,g2,fun p hp=>by
   have e:p=(D,o):=by simpa[blk] using hp
   subst e
   exact(ZqN (flt b hb)).symm⟩
 have hσ:σ.length=X.N.length:=I.len
 have loop:∀s₃:Shared,s₃={ s₂ with heap:=h₁,toks:=s₂.toks+([]:List (Str×Value)).length } ->
   codeAny (model X.prog X.w) X.A (.compLoop (.ListComp elt [⟨.Name x px,iter,[],0⟩] scope pos) 0 (.ref it) (.ref D) (compEnvC scope (ZeW scope X.env) C X.env)) (RR (.ref D) C) s₃:=by
  rintro s₃ rfl
  refine codeAny_compLoop_tests
   (fun n s'=>∃i ys its k σx H',Inv (blk X scope x C fp s₂ H₂) [(D,{ cls:=.type "list",data:=.seq (List.toArray its) k })] (σ++[σx]) H' s'/\tn i s'.heap/\(∀b∈fp,H' b=none)/\ZP ys its/\W i n ys H') ?_ m0
   ⟨0,[],[],0,none,H₂,I0,T.keep _ _ _ st (fun b hb o e=>old b o e),fun b hb=>(ff b hb).1,.nil,w0⟩
  rintro n s' ⟨i,ys,its,k,σx,H',I',st',fr',rv,w'⟩
  obtain⟨hz,hcase⟩:=turn i n ys H' w'
  have hpinD:=I'.pin (D,{ cls:=.type "list",data:=.seq (List.toArray its) k }) (by simp[blk])
  rcases hcase with ⟨stop,q⟩|⟨go,N,hN,step⟩
  ·refine thn (T.done (blk X scope x C fp s₂ H₂) rfl rfl rfl hc i _ s' _ H' _ I' (fpB fr') st' stop) fun r s4 ⟨hr,I4⟩=>?_
   subst hr
   have pD:=I4.pin (D,{ cls:=.type "list",data:=.seq (List.toArray its) k }) (by simp[blk])
   obtain⟨m4,hn4,_⟩:=I4.loc
   have IX:Inv X pins σ H' s4:=I.call' I4.os I4.base I4.hok I4.bare fun b hb=>by
    obtain⟨f0,f1,f2,f3,f4,f5⟩:=ff b hb
    exact⟨f3,f1,f4,f5⟩
   have IX2:=IX.adopt (D:=D) (ys:=ys) (its:=its) (n:=k) hpinD.2.1 (by rw[<- hDe];exact I.sz) (by rw[<- hDe];exact Zr4 I.lt)
    (fun y c e z=>by
     obtain⟨v,o,ho,hd⟩:=I.cell y c e
     have:=Heap.lt_size ho
     rw[hDe,z] at this
     exact ZqZ _ this)
    (fun p hp z=>by
     have:=Heap.lt_size (I.pin p hp).1
     rw[hDe,z] at this
     exact ZqZ _ this) pD.1 rv hz
   refine hRR D C s4 _ m4 (by rw[hDe];exact hCle) IX2 hn4 ?_ (q D hpinD.2.1)
   rw[Zl (Ne.symm hDC)]
   exact I4.free
  ·refine thn (T.item (blk X scope x C fp s₂ H₂) rfl rfl rfl hc i _ s' _ H' _ I' (fpB fr') st' go) fun r s4 ⟨u,hr,h4⟩=>?_
   subst hr
   show wpAny _ _ (letOwnedTupleGo (.Name x px) (.ref it) u >>= fun _=>assign (.Name x px) (compEnvC scope (ZeW scope X.env) C X.env) u) _ _ s4
   refine wpAny_bind (thn h4 fun _ s5 ⟨y,H5,I5,r5,y5,st5,fr5⟩=>?_)
   have I5':=I5.pinned (fpB fr5) (T.obj _ _ st5)
   refine wpAny_assign_Name ?_
   refine Uk (X:=blk X scope x C fp s₂ H₂) (i:=X.N.length) (x:=x) (v:=y) I5' ndB (by simp[blk]) (.inl (lookup_relabel_local sc.var)) r5 (fun s6 I6=>?_) (.inr (lookup_relabel_local sc.var))
   have eσ:(σ++[σx]).set X.N.length (some y)=σ++[some y]:=by
    rw[<- hσ];simp
   rw[eσ] at I6
   refine wpAny_tests_nil ?_
   simp only[if_true]
   refine wpAny_mono (he C s₂ H₂ fp _ s6 _ H5 _ I6 (step y H5 y5)) (fun u7 s7 h7=>?_) fun _ _ f=>f.elim
   obtain⟨v7,H7,I7,r7,n7⟩:=h7
   have pD7:=I7.pin (D,{ cls:=.type "list",data:=.seq (List.toArray its) k }) (by simp[blk])
   have hlen:=rv.length
   refine append_at (hsz:=by show its.toArray.size<=sizeLine;rw[ZqA,<- hlen];exact hz) pD7.1 fun h8 hs8 hD8=>?_
   obtain⟨m',hm,w8⟩:=hN _ _ n7
   have hD8':h8.get? D=some { cls:=.type "list",data:=.seq (its++[u7]).toArray (k+1) }:=by rw[hD8,List.push_toArray]
   have I8:Inv (blk X scope x C fp s₂ H₂) [] (σ++[some y]) H7 { s7 with heap:=h8 }:=by
    refine(I7.pins_of (pins':=[]) fun p hp=>absurd hp (by simp)).turned (t':=s7.toks) (it:=D) (fun b o hb e=>(hs8.2 b hb).trans e) pD7.2.1 pD7.2.2.1 (.inr (by show s₂.heap.objs.size<=D;rw[hDe];exact ZqG _)) (fun y' c' e' z=>?_) fun p hp=>absurd (show p∈([]:List (Addr×Obj)) from by simpa[blk] using hp) (by simp)
    obtain⟨v,o,ho,hd⟩:=I.cell y' c' (Js (sc:=sc) I.ok e')
    have:=Heap.lt_size ho
    rw[hDe,z] at this
    exact ZqZ _ this
   refine⟨m',hm,i+1,ys++[v7],its++[u7],k+1,some y,H7,I8.pins_of fun p hp=>?_, ?_,fun b hb=>?_,rv.append (.cons r7 .nil),w8⟩
   ·have e:p=(D,{ cls:=.type "list",data:=.seq (its++[u7]).toArray (k+1) }):=by simpa using hp
    subst e
    exact⟨hD8',pD7.2.1,pD7.2.2.1,pD7.2.2.2.1,fun v z=>nomatch z⟩
   ·refine T.keep _ _ _ st5 fun b hb o e=>?_
    have hpb:=I7.pin (b,o) (Zq7 _ (Zq7 _ (JV hb e)))
    exact(hs8.2 b (ZqN (flt b hb))).trans hpb.1
   ·obtain⟨o,e,d⟩:=T.obj _ _ st5 b hb
    exact(I7.pin (b,o) (Zq7 _ (Zq7 _ (JV hb e)))).2.1
 exact codeAny_compStart_list (loop _ rfl) (T.self _ 0 _ _ _ (T.keep _ _ _ st fun b hb o e=>old b o e) (loop _ rfl))
theorem ZaS {wi:TI} (hi:PI X (.Name x px) iter wi) (he:∀C s₂ H₂ ex,PE (blk X scope x C ex s₂ H₂) elt te) (hNd:X.N.Nodup) (hc:X.calm=true)
  (hclos:closureFor scope X.env=pure (ZeW scope X.env):=by rfl) (hchk:QD X.N X.env.scope scope x=true:=by rfl) (hs:∀x,foldedSetIterable iter X.env x=pure x:=by exact fun _=>rfl) :
  PE X (.ListComp elt [⟨.Name x px,iter,[],0⟩] scope pos) (Zfc wi te):=by
 intro pins s σ H Q I h
 have sc:=UU.of hchk
 rw[eval_ListComp]
 refine wpAny_comprehension_free (use:=none) rfl hs hclos sc.kind sc.locs (thn (hi pins s σ H _ I h) fun xv s₁ h₁=>thn h₁ fun itv s₂ h₂=>?_)
 obtain⟨it,fp,tn,J,H2,e,I2,T,st2,f2,q⟩:=h₂
 subst e
 refine Zcq (RR:=fun acc C=>compPost (model X.prog X.w) X.A X.xe none (EP X pins σ Q) acc C) I2 sc hNd hc T st2 f2 q he ?_
 intro D C s' H' m' hC I' hn hC0 hq
 refine⟨m',hn,fun h'' hs''=>⟨.ref D,H', ?_,rfl,hq⟩⟩
 refine I'.turned (t':=s'.toks) (it:=C) (fun b o hb e=>(hs''.2 b hb).trans e) hC0 (Zr4 (ZqD I2.lt hC)) (.inr (ZqV I2.sz hC)) (fun y c e z=>?_) fun p hp z=>?_
 ·obtain⟨v,o,ho,hd⟩:=I2.cell y c e
  exact absurd (Heap.lt_size ho) (Nat.not_lt.mpr (by rw[z];exact hC))
 ·exact absurd (Heap.lt_size (I2.pin p hp).1) (Nat.not_lt.mpr (by rw[z];exact hC))
noncomputable def Zb4 (i:Nat) (wi:TI) (te:TE):TS:=fun D σ H=>Zfc wi te σ H fun v H'=>D.nx (σ.set i (some v)) H'
theorem Zc4 {i:Nat}{y:Str}{py spos:Pos}{wi:TI} (hN:X.N.Nodup) (hi:X.N[i]?=some y) (hit:PI X (.Name x px) iter wi) (he:∀C s₂ H₂ ex,PE (blk X scope x C ex s₂ H₂) elt te) (hc:X.calm=true)
  (hsw:swapsWith (.ListComp elt [⟨.Name x px,iter,[],0⟩] scope pos) (some (.Name y py)) spos.line X.env=pure true:=by rfl) (hy:X.env.scope.names.lookup y=some .local:=by rfl)
  (hclos:closureFor scope X.env=pure (ZeW scope X.env):=by rfl) (hchk:QD X.N X.env.scope scope x=true:=by rfl) (hs:∀x,foldedSetIterable iter X.env x=pure x:=by exact fun _=>rfl) :
  PS X (.Assign [.Name y py] (.ListComp elt [⟨.Name x px,iter,[],0⟩] scope pos) spos) (Zb4 i wi te):=by
 intro pins s σ H D0 I h
 have sc:=UU.of hchk
 rw[exec_Assign_Name_used _ _ _ _ hsw]
 refine wpAny_bind (wpAny_standAt (wpAny_bind ?_))
 show wpAny _ X.A (do let _ <- comprehension (.ListComp elt [⟨.Name x px,iter,[],0⟩] scope pos) scope X.env _ (newList []) false (eval iter X.env) (some (assign (.Name y py) X.env))) _ _ s
 refine wpAny_bind (wpAny_mono (wpAny_comprehension_free (use:=some (assign (.Name y py) X.env)) (Q:=fun _ s'=>SP X pins D0 .next s') rfl hs hclos sc.kind sc.locs
  (thn (hit pins s σ H _ I h) fun xv s₁ h₁=>thn h₁ fun itv s₂ h₂=>?_)) (fun _ s' hq=>wpAny_pure (wpAny_pure hq)) fun _ _ e=>e)
 obtain⟨it,fp,tn,J,H2,e,I2,T,st2,f2,q⟩:=h₂
 subst e
 refine Zcq (RR:=fun acc C=>compPost (model X.prog X.w) X.A X.xe (some (assign (.Name y py) X.env)) (fun _ s'=>SP X pins D0 .next s') acc C) I2 sc hN hc T st2 f2 q he ?_
 intro D C s' H' m' hC I' hn hC0 hq
 show wpAny _ X.A (assign (.Name y py) X.env (.ref D)) _ _ _
 have cellC:∀y c,X.env.cells.lookup y=some c->c≠C:=fun y c e z=>by
  obtain⟨v,o,ho,hd⟩:=I2.cell y c e
  exact absurd (Heap.lt_size ho) (Nat.not_lt.mpr (by rw[z];exact hC))
 have locC:C≠X.env.locals:=Zr4 (ZqD I2.lt hC)
 refine wpAny_assign_Name (QR (i:=i) (v:=.ref D) I' hN hi (.inl hy) rfl (fun s'' I'' ⟨a,hsa,ha⟩=>?_) (.inr hy))
 have hCa:C≠a:=by
  rcases ha with z|z
  ·rw[z];exact locC
  ·exact(cellC _ _ z).symm
 refine⟨m',hn.sameBut hsa hCa,fun h'' hs''=>⟨σ.set i (some (.ref D)),H', ?_,hq⟩⟩
 refine I''.turned (t':=s''.toks) (it:=C) (fun b o hb e=>(hs''.2 b hb).trans e) hC0 locC (.inr (ZqV I2.sz hC)) cellC fun p hp z=>?_
 exact absurd (Heap.lt_size (I2.pin p hp).1) (Nat.not_lt.mpr (by rw[z];exact hC))
end
end L2
namespace HL
open PySem PyProof.Rows
section
open PySem.SeqAt
open PySem.AutoSeq1 (wpAny_loadPart')
open PySem.MeetsSeq PySem.MeetsSeq2 PySem.MeetsSeq3 SeqRoads2
end
section
end
end HL
namespace L2
open PySem PySem.Spec PyProof.Rows
section
variable {X:Cx}
theorem ZfW (hc:X.calm=true):JS X (.builtin "sum") (fun xs H Q=>∃p,∃ns:List Int,xs=[.ref p]/\SqL X.K H p (ns.map V.int)/\Q (.int ns.sum) H):=by
 intro pins s σ H xs us Q I r h
 obtain⟨p,ns,rfl,hq,q⟩:=h
 obtain⟨u,rfl,rx⟩:=Zcw r
 cases rx
 obtain⟨its,r',pl,hz⟩:=I.list hq
 have hi:IntsAre its ns:=ZcN r'
 obtain⟨xs,hx⟩:=hi.allInts.items
 have hl':s.heap.IsList p (intItems xs):=hx▸pl.isList
 refine sum_intListG (I.ok.hd hc) hl' fun h' tk t' hk=>?_
 have e1:ns=xs.toList.map (·.1):=by
  rw[<- nums_intItems,<- hx]
  exact(show numsOf its.toArray.toList=ns from hi.numsOf).symm
 have e2:preSum (numAt xs) xs.size=ns.sum:=by
  rw[preSum_eq,List.take_of_length_le (by simp),e1]
 rw[e2]
 exact⟨.int ns.sum,H,I.kept hk,⟨_,rfl⟩,q⟩
theorem UR:∀{bs:List Bool}{us:List Value},ZP (bs.map V.bl) us->LSm.BoolsAre us bs
 |[],_,.nil=>.nil
 |b::bs,_,.cons r t=>by
  cases r
  exact .cons b (UR t)
theorem ZfX (hc:X.calm=true):JS X (.builtin "all") (fun xs H Q=>∃p,∃bs:List Bool,xs=[.ref p]/\SqL X.K H p (bs.map V.bl)/\Q (.bl (bs.all id)) H):=by
 intro pins s σ H xs us Q I r h
 obtain⟨p,bs,rfl,hq,q⟩:=h
 obtain⟨u,rfl,rx⟩:=Zcw r
 cases rx
 obtain⟨its,r',pl,hz⟩:=I.list hq
 have hb:=UR r'
 have hlt:p<s.heap.objs.size:=by obtain⟨_,e,_⟩:=pl.isList;exact Heap.lt_size e
 refine call_all_walk (wpAny_pyIter_list pl.isList ?_)
 refine⟨s.heap.objs.size,[s.heap.objs.size,p],[s.heap.objs.size],its.toArray.size,_,_,fun i=>(bs[i]?).getD true,rfl,Walks.list (A:=X.A.in1) (I.ok.hd hc) _ p (ZqN hlt) its.toArray,
  ⟨⟨_,Heap.get?_push_size _ rfl,rfl,rfl⟩,pl.isList.push _⟩,fun i v s' Q' E' hP hQ=>?_,fun h' tk hk=>?_⟩
 ·obtain⟨b,e,rfl⟩:=hb.get i v (by simpa using hP)
  dsimp only at hQ
  rw[e,ZrB] at hQ
  exact wpAny_truthy_bool hQ
 ·rw[ZqA,hb.length,LSm.range_all]
  exact⟨.bl (bs.all id),H,I.kept (LSm.kept_iter hk),rfl,q⟩
end
end L2
namespace HL
open PySem PyProof.Rows
section
end
section
open PySem.SeqAt
open PySem.AutoSeq1 (wpAny_loadPart')
open PySem.MeetsSeq PySem.MeetsSeq2 PySem.MeetsSeq3
end
end HL
namespace HL
open PySem
end HL
namespace L2
open PySem PySem.Spec PyProof.Rows
section
end
def Dfn (K:W.Frag) (mg:Str->Option Value) (x:Str) (st:Stmt):Prop:=∃f fd,Fun K x x st f fd/\mg x=some (.ref f)
noncomputable abbrev Z7 (x:Str) (st:Stmt) (ps:List Str):Prop:=∀(kV doc pm:Value) (an:Option Addr) (cdv ct:Value) (us:List Value),us.length=ps.length ->
 bindArgs (PySem.W.fnOf x x (Zk st) (Zj st) (Zc st) .none kV doc pm an cdv ct) ⟨us,[]⟩=pure (ps.zip us)
def Ok (P:Program) (w:World) (K:W.Frag) (mg:Str->Option Value) (base:Heap) (k:Nat) (x:Str) (ps:List Str) (sp:Sp):Prop:=
 ∃f fd,Jb P w K mg base CX0 k f fd ps sp/\mg x=some (.ref f)/\PySem.W.keepIn K (.ref f)=true/\VH K fd ps []
theorem ZbO {P:Program}{w:World}{K:W.Frag}{mg:Str->Option Value}{base:Heap}{k:Nat}{x:Str}{st:Stmt}{ps:List Str}{sp:Sp} (d:Dfn K mg x st) (b:Z7 x st ps)
  (h:∀{f fd},Fun K x x st f fd->Jb P w K mg base CX0 k f fd ps sp):Ok P w K mg base k x ps sp:=by
 obtain⟨f,fd,F,hm⟩:=d
 exact⟨f,fd,h F,hm,F.kp,F.binds b⟩
section
variable {X:Cx}{k:Nat}{x:Str}{ps:List Str}{sp:Sp}{p pos:Pos}{e:Expr}{es:List Expr}{t:TA}
noncomputable def Vd (sp:Sp) (t:TA):TE:=fun σ H Q=>t σ H fun vs H1=>sp vs H1 Q E0
theorem Z6 (G:Ok X.prog X.w X.K X.mg X.base k x ps sp) (hr:JH k X.A) (hg:Gl X x) (ha:PA X (e::es) t) (hdb:(x==("__debug__":Str))=false:=by decide)
  (he:starEach (e::es) X.env=(false,eval e X.env)::starEach es X.env:=by rfl) (hpl:(backTo pos (starEach es X.env)).any (·.1)=false:=by rfl):PE X (.Call (.Name x p) (e::es) [] pos) (Vd sp t):=by
 obtain⟨f,fd,F,hm,hk,hb⟩:=G
 intro pins s σ H Q I h
 refine ZgW (CX:=CX0) (E:=E0) (dvs:=[]) F hr hg hm hk hb .nil Zc6 ha hdb he hpl pins s σ H Q I ?_
 have e:(fun vs H1=>sp (vs++[]) H1 Q E0)=fun vs H1=>sp vs H1 Q E0:=by funext vs H1;rw[ZqR]
 show t σ H (fun vs H1=>sp (vs++[]) H1 Q E0)
 rw[e]
 exact h
theorem Zd6 (G:Ok X.prog X.w X.K X.mg X.base k x ps sp) (hr:JH k X.A) (hg:Gl X x) (hdb:(x==("__debug__":Str))=false:=by decide):PE X (.Call (.Name x p) [] [] pos) (Vd sp ZaL):=by
 obtain⟨f,fd,F,hm,hk,hb⟩:=G
 exact Zfn (CX:=CX0) (E:=E0) (dvs:=[]) F hr hg hm hk hb .nil Zc6 hdb
theorem ZbJ {i:Int} (hm:∃t,X.mg x=some (.int i t)) (hg:Gl X x) (hd:(x==("__debug__":Str))=false:=by decide):PE X (.Name x pos) (tC (.int i)):=by
 obtain⟨t,hm⟩:=hm
 exact U2 (v:=.int i) hg hm ⟨t,rfl⟩ hd
theorem ZfD:ZkC X (Ziu X.K):=by
 intro pins s σ H o i ov iv Q I ro ri h
 obtain⟨p,xs,i,z,rfl,rfl,hq,he,q⟩:=h
 cases ro
 obtain⟨t,rfl⟩:=ri
 obtain⟨its,r,pl,hz⟩:=I.list hq
 obtain⟨j,h1,h2,h3,h4,h5⟩:=QH he
 obtain⟨w,ew,rw'⟩:=r.get h2
 have hl:=r.length
 have hn:=Qg
 have fin:EP X pins σ Q w s:=⟨z,H,I,rw',q⟩
 by_cases h0:0<=i
 ·have hj:i.toNat=j:=by
   rw[seqIndex_of h0 h5] at h1
   exact Option.some.inj h1
  exact wpAny_getItem_list pl.isList h0 (by omega) (by rw[hj];simpa using ew) fin
 ·have hj:(i+(its.toArray.size:Int)).toNat=j:=by
   rw[seqIndex_neg (by omega) h4] at h1
   rw[ZqA,<- hl]
   exact Option.some.inj h1
  exact wpAny_getItem_list_neg pl.isList (by omega) (by rw[ZqA]<;>omega) (by omega) (by rw[hj];simpa using ew) fin
end
theorem ZeH {X:Cx}:JS X (.builtin "len") (fun xs H Q=>∃p ys,xs=[.ref p]/\(SqL X.K H p ys\/SqT X.K H p ys)/\Q (.int ys.length) H):=Za9
theorem Vh:bootBuiltins "len"=some (.builtin "len"):=by decide +kernel
theorem Z1:bootBuiltins "isinstance"=some (.builtin "isinstance"):=by decide +kernel
theorem ZeN:bootBuiltins "sum"=some (.builtin "sum"):=by decide +kernel
theorem Zjv:bootBuiltins "all"=some (.builtin "all"):=by decide +kernel
theorem JP:bootBuiltins "list"=some (.type "list"):=by decide +kernel
theorem Zjl:bootBuiltins "int"=some (.type "int"):=by decide +kernel
theorem ZeK:bootBuiltins "bool"=some (.type "bool"):=by decide +kernel
section
variable {X:Cx}{K:W.Frag}
theorem ZA (e:X.K=K:=by rfl):IxR X (rIx K):=by subst e;exact ZiP
theorem ZW (e:X.K=K:=by rfl):JS X (.builtin "len") (fun xs H Q=>∃p ys,xs=[.ref p]/\(SqL K H p ys\/SqT K H p ys)/\Q (.int ys.length) H):=by subst e;exact ZeH
theorem UQ (hc:X.calm=true) (e:X.K=K:=by rfl):JS X (.builtin "sum") (fun xs H Q=>∃p,∃ns:List Int,xs=[.ref p]/\SqL K H p (ns.map V.int)/\Q (.int ns.sum) H):=by subst e;exact ZfW hc
theorem ZeI (hc:X.calm=true) (e:X.K=K:=by rfl):JS X (.builtin "all") (fun xs H Q=>∃p,∃bs:List Bool,xs=[.ref p]/\SqL K H p (bs.map V.bl)/\Q (.bl (bs.all id)) H):=by subst e;exact ZfX hc
theorem Jo (e:X.K=K:=by rfl):JS X (.type "list") (fun xs H Q=>∃p ys,xs=[.ref p]/\(SqL K H p ys\/SqT K H p ys)/\∀l,H l=none->Q (.ref l) (upd H l (.lst ys))):=by subst e;exact Za8
theorem Zeu (e:X.K=K:=by rfl):ZkC X (Ziu K):=by subst e;exact ZfD
theorem Jw {tg l:Expr}{tl:TE} (hl:PE X l tl) (e:X.K=K:=by rfl):PI X tg l (Zen K tl):=by subst e;exact ZgT hl
variable {u:TS}{H:Hp}{b:TA}
theorem Zca {n:Nat}{k:Int} (h0:0<=k) (h1:k<n):ixN n k=some k.toNat:=by unfold ixN;rw[if_pos h0,if_pos h1]
theorem Zw.upd {H H':Hp}{p:Addr}{o:HO} (h:Zw H H') (hp:H p=none):Zw H (upd H' p o):=fun b u e=>by
 rw[Zl (Zv e hp)]
 exact h b u e
theorem Zw.new {H:Hp}{p:Addr}{o:HO} (hp:H p=none):Zw H (L2.upd H p o):=Zw.upd (Zw.refl H) hp
theorem V4 {n:Nat} (h:n<=1000):n<=sizeLine:=ZqV h (by decide)
end
inductive Sh where
 |dk (ks:List Key)|dt (ks:List (List Key))|ob (n:Str) (fs:List Str)
  |jk
inductive PV where
 |non|bl (b:Bool)|int (i:Int)|str (x:Str)|lst (xs:List PV)|tup (xs:List PV)
  |exc (n:Str)
  |exa (n:Str) (i:Int)
  |box (p:Option Addr) (s:Sh) (xs:List PV)
  |fz (xs:List PV)
mutual
noncomputable def PV.flat:PV->Bool
 |.lst _=>false
 |.tup xs=>PV.flats xs
 |.non=>true
 |.bl _=>true
 |.int _=>true
 |.str _=>true
 |.exc _=>true
 |.exa _ _=>true
 |.box _ _ _=>false
 |.fz xs=>PV.flats xs
noncomputable def PV.flats:List PV->Bool
 |[]=>true
 |x::xs=>x.flat&&PV.flats xs
end
def KL (K:W.Frag) (a:Addr) (xs:List V):Prop:=
 ∃(o:Obj) (its:Array Value) (n:Nat),K.lookup a=some o/\o.cls=.type "list"/\o.dict=none/\o.data=.seq its n/\its.size<=sizeLine/\ZP xs its.toList
noncomputable def ImO:HO->Prop
 |.tup _=>True
 |.frz _ _=>True
 |.xd _=>True
 |_=>False
def Im (K:W.Frag) (H:Hp) (a:Addr) (u:HO):Prop:=H a=some u/\ImO u
noncomputable def Lvo:HO->Prop
 |.lst _=>True
 |.dK _=>True
 |.dT _=>True
 |.ins _ _ _=>True
 |_=>False
noncomputable abbrev LvO:={ u:HO // Lvo u }
def JR (K:W.Frag) (n:Str) (C:Addr):Prop:=PySem.W.nsIn K mainGlobals n=some (some (.ref C))
def ZhR (K:W.Frag) (H:Hp) (n:Str) (v:V):Prop:=∃a o C,v=.ref a/\Im K H a (.frz o (.own a))/\o.cls=.ref C/\o.dict=none/\PySem.W.notCls o=true/\JR K n C
def ZhS (K:W.Frag) (H:Hp) (n:Str) (i:Int) (v:V):Prop:=∃a o C d fs,v=.ref a/\Im K H a (.frz o (.own a))/\Im K H d (.xd fs)/\o.cls=.ref C/\o.dict=some d/\PySem.W.notCls o=true/\JR K n C/\fs=[(("at":Str),V.int i)]
noncomputable def Zic (K:W.Frag):Sh->List V->HO->Prop
 |.dk ks,vs,u=>ks.length=vs.length/\u=.dK (ks.zip vs)
 |.dt ks,vs,u=>ks.length=vs.length/\u=.dT (ks.zip vs)
 |.ob n fs,vs,u=>fs.length=vs.length/\∃C dx,u=.ins C dx (fs.zip vs)/\JR K n C
 |.jk,vs,u=>vs=[]/\∃ws,u=.lst ws
def ZjI (p:Option Addr) (a:Addr):Prop:=match p with
 |none=>True
 |some b=>a=b
theorem Zic.lv {K:W.Frag}{s:Sh}{vs:List V}{u:HO} (h:Zic K s vs u):Lvo u:=by
 cases s with
 |dk ks=>obtain⟨_,rfl⟩:=h;trivial
 |dt ks=>obtain⟨_,rfl⟩:=h;trivial
 |ob n fs=>obtain⟨_,C,dx,rfl,_⟩:=h;trivial
 |jk=>obtain⟨_,ws,rfl⟩:=h;trivial
theorem Uq {u o:HO} (h:Lvo u) (h':ImO o):o≠u:=by
 intro e;subst e
 cases o<;>first|exact h|exact h'
def FzL (K:W.Frag) (H:Hp) (a:Addr) (vs:List V):Prop:=∃o,Im K H a (.frz o (.lst vs))
mutual
noncomputable def Rep (K:W.Frag) (H:Hp) (S:Addr->Prop):PV->V->Prop
 |.non,v=>v=.non
 |.bl b,v=>v=.bl b
 |.int i,v=>v=.int i
 |.str x,v=>v=.str x
 |.exc n,v=>ZhR K H n v
 |.exa n i,v=>ZhS K H n i v
 |.box p s xs,v=>∃a vs u,v=.ref a/\(Rd H a u/\S a)/\(ZjI p a/\Zic K s vs u)/\Reps K H S xs vs
 |.lst xs,v=>∃a vs,v=.ref a/\((Rd H a (.lst vs)/\S a)\/KL K a vs)/\Reps K H S xs vs
 |.tup xs,v=>∃a vs,v=.ref a/\Im K H a (.tup vs)/\Reps K H S xs vs
 |.fz xs,v=>∃a vs,v=.ref a/\FzL K H a vs/\Reps K H S xs vs
noncomputable def Reps (K:W.Frag) (H:Hp) (S:Addr->Prop):List PV->List V->Prop
 |[],vs=>vs=[]
 |x::xs,vs=>∃v r,vs=v::r/\Rep K H S x v/\Reps K H S xs r
end
mutual
noncomputable def ZD (K:W.Frag) (H:Hp):PV->V->List Addr->Prop
 |.non,v,F=>v=.non/\F=[]
 |.bl b,v,F=>v=.bl b/\F=[]
 |.int i,v,F=>v=.int i/\F=[]
 |.str x,v,F=>v=.str x/\F=[]
 |.exc n,v,F=>ZhR K H n v/\F=[]
 |.exa n i,v,F=>ZhS K H n i v/\F=[]
 |.box p s xs,v,F=>∃a vs u G,v=.ref a/\H a=some u/\(ZjI p a/\Zic K s vs u)/\Trees K H xs vs G/\a ∉ G/\F=a::G
 |.lst xs,v,F=>∃a vs G,v=.ref a/\H a=some (.lst vs)/\Trees K H xs vs G/\a ∉ G/\F=a::G
 |.tup xs,v,F=>∃a vs,v=.ref a/\Im K H a (.tup vs)/\Trees K H xs vs F
 |.fz xs,v,F=>∃a vs,v=.ref a/\FzL K H a vs/\Trees K H xs vs F
noncomputable def Trees (K:W.Frag) (H:Hp):List PV->List V->List Addr->Prop
 |[],vs,F=>vs=[]/\F=[]
 |x::xs,vs,F=>∃v r G1 G2,vs=v::r/\ZD K H x v G1/\Trees K H xs r G2/\(∀a∈G1,a ∉ G2)/\F=G1++G2
end
section
variable {K:W.Frag}{H H':Hp}{S S':Addr->Prop}
mutual
theorem Rep.mono (h1:∀a u,S a->Rd H a u->Rd H' a u/\S' a) (h2:∀a u,Im K H a u->Im K H' a u):∀{x:PV}{v:V},Rep K H S x v->Rep K H' S' x v
 |.non,_,h=>h
 |.bl _,_,h=>h
 |.int _,_,h=>h
 |.str _,_,h=>h
 |.exc n,_,h=>let ⟨a,o,C,e1,e2,e3⟩:=h;⟨a,o,C,e1,h2 a _ e2,e3⟩
 |.exa n i,_,h=>let ⟨a,o,C,d,fs,e1,e2,e2',e3⟩:=h;⟨a,o,C,d,fs,e1,h2 a _ e2,h2 d _ e2',e3⟩
 |.box p s xs,_,h=>by
  obtain⟨a,vs,u,rfl,⟨n1,n2⟩,hb,hr⟩:=h
  exact⟨a,vs,u,rfl,h1 a u n2 n1,hb,Reps.mono h1 h2 hr⟩
 |.lst xs,_,h=>by
  obtain⟨a,vs,rfl,hn,hr⟩:=h
  refine⟨a,vs,rfl, ?_,Reps.mono h1 h2 hr⟩
  rcases hn with ⟨n1,n2⟩|n
  ·exact .inl (h1 a _ n2 n1)
  ·exact .inr n
 |.tup xs,_,h=>by
  obtain⟨a,vs,rfl,hn,hr⟩:=h
  exact⟨a,vs,rfl,h2 a _ hn,Reps.mono h1 h2 hr⟩
 |.fz xs,_,h=>by
  obtain⟨a,vs,rfl,⟨o,hn⟩,hr⟩:=h
  exact⟨a,vs,rfl,⟨o,h2 a _ hn⟩,Reps.mono h1 h2 hr⟩
theorem Reps.mono (h1:∀a u,S a->Rd H a u->Rd H' a u/\S' a) (h2:∀a u,Im K H a u->Im K H' a u):∀{xs:List PV}{vs:List V},Reps K H S xs vs->Reps K H' S' xs vs
 |[],_,h=>h
 |x::xs,_,h=>by
  obtain⟨v,r,rfl,h3,h4⟩:=h
  exact⟨v,r,rfl,Rep.mono h1 h2 h3,Reps.mono h1 h2 h4⟩
end
mutual
theorem ZD.mono:∀{x:PV}{v:V}{F:List Addr},(∀a∈F,∀o,H a=some o->H' a=some o)->(∀a vs,Im K H a vs->Im K H' a vs)->ZD K H x v F->ZD K H' x v F
 |.non,_,_,_,_,h=>h
 |.bl _,_,_,_,_,h=>h
 |.int _,_,_,_,_,h=>h
 |.str _,_,_,_,_,h=>h
 |.exc n,_,_,_,h2,h=>let ⟨⟨a,o,C,e1,e2,e3⟩,e4⟩:=h;⟨⟨a,o,C,e1,h2 a _ e2,e3⟩,e4⟩
 |.exa n i,_,_,_,h2,h=>let ⟨⟨a,o,C,d,fs,e1,e2,e2',e3⟩,e4⟩:=h;⟨⟨a,o,C,d,fs,e1,h2 a _ e2,h2 d _ e2',e3⟩,e4⟩
 |.box p s xs,_,_,h1,h2,h=>by
  obtain⟨a,vs,u,G,rfl,ha,hb,ht,hn,rfl⟩:=h
  exact⟨a,vs,u,G,rfl,h1 a (by simp) _ ha,hb,Trees.mono (fun b hb o e=>h1 b (by simp[hb]) o e) h2 ht,hn,rfl⟩
 |.lst xs,_,_,h1,h2,h=>by
  obtain⟨a,vs,G,rfl,ha,ht,hn,rfl⟩:=h
  exact⟨a,vs,G,rfl,h1 a (by simp) _ ha,Trees.mono (fun b hb o e=>h1 b (by simp[hb]) o e) h2 ht,hn,rfl⟩
 |.tup xs,_,_,h1,h2,h=>by
  obtain⟨a,vs,rfl,ha,ht⟩:=h
  exact⟨a,vs,rfl,h2 a _ ha,Trees.mono h1 h2 ht⟩
 |.fz xs,_,_,h1,h2,h=>by
  obtain⟨a,vs,rfl,⟨o,ha⟩,ht⟩:=h
  exact⟨a,vs,rfl,⟨o,h2 a _ ha⟩,Trees.mono h1 h2 ht⟩
theorem Trees.mono:∀{xs:List PV}{vs:List V}{F:List Addr},(∀a∈F,∀o,H a=some o->H' a=some o)->(∀a vs,Im K H a vs->Im K H' a vs)->Trees K H xs vs F->Trees K H' xs vs F
 |[],_,_,_,_,h=>h
 |x::xs,_,_,h1,h2,h=>by
  obtain⟨v,r,G1,G2,rfl,h3,h4,hd,rfl⟩:=h
  exact⟨v,r,G1,G2,rfl,ZD.mono (fun b hb o e=>h1 b (by simp[hb]) o e) h2 h3,Trees.mono (fun b hb o e=>h1 b (by simp[hb]) o e) h2 h4,hd,rfl⟩
end
mutual
theorem ZD.rep:∀{x:PV}{v:V}{F:List Addr},(∀a∈F,S a)->ZD K H x v F->Rep K H S x v
 |.non,_,_,_,h=>h.1
 |.bl _,_,_,_,h=>h.1
 |.int _,_,_,_,h=>h.1
 |.str _,_,_,_,h=>h.1
 |.exc _,_,_,_,h=>h.1
 |.exa _ _,_,_,_,h=>h.1
 |.box p s xs,_,_,h1,h=>by
  obtain⟨a,vs,u,G,rfl,ha,hb,ht,hn,rfl⟩:=h
  exact⟨a,vs,u,rfl,⟨.inl ha,h1 a (by simp)⟩,hb,Trees.reps (fun b hb=>h1 b (by simp[hb])) ht⟩
 |.lst xs,_,_,h1,h=>by
  obtain⟨a,vs,G,rfl,ha,ht,hn,rfl⟩:=h
  exact⟨a,vs,rfl,.inl ⟨.inl ha,h1 a (by simp)⟩,Trees.reps (fun b hb=>h1 b (by simp[hb])) ht⟩
 |.tup xs,_,_,h1,h=>by
  obtain⟨a,vs,rfl,ha,ht⟩:=h
  exact⟨a,vs,rfl,ha,Trees.reps h1 ht⟩
 |.fz xs,_,_,h1,h=>by
  obtain⟨a,vs,rfl,ha,ht⟩:=h
  exact⟨a,vs,rfl,ha,Trees.reps h1 ht⟩
theorem Trees.reps:∀{xs:List PV}{vs:List V}{F:List Addr},(∀a∈F,S a)->Trees K H xs vs F->Reps K H S xs vs
 |[],_,_,_,h=>h.1
 |x::xs,_,_,h1,h=>by
  obtain⟨v,r,G1,G2,rfl,h3,h4,hd,rfl⟩:=h
  exact⟨v,r,rfl,ZD.rep (fun b hb=>h1 b (by simp[hb])) h3,Trees.reps (fun b hb=>h1 b (by simp[hb])) h4⟩
end
mutual
theorem ZD.alive:∀{x:PV}{v:V}{F:List Addr},ZD K H x v F->∀a∈F,∃vs:LvO,H a=some vs.1
 |.non,_,_,h=>by rw[h.2];simp
 |.bl _,_,_,h=>by rw[h.2];simp
 |.int _,_,_,h=>by rw[h.2];simp
 |.str _,_,_,h=>by rw[h.2];simp
 |.exc _,_,_,h=>by rw[h.2];simp
 |.exa _ _,_,_,h=>by rw[h.2];simp
 |.box p s xs,_,_,h=>by
  obtain⟨a,vs,u,G,rfl,ha,hb,ht,hn,rfl⟩:=h
  intro b hb'
  rcases ZqE.mp hb' with rfl|hb'
  ·exact⟨⟨u,hb.2.lv⟩,ha⟩
  ·exact Trees.alive ht b hb'
 |.lst xs,_,_,h=>by
  obtain⟨a,vs,G,rfl,ha,ht,hn,rfl⟩:=h
  intro b hb
  rcases ZqE.mp hb with rfl|hb
  ·exact⟨⟨.lst vs,trivial⟩,ha⟩
  ·exact Trees.alive ht b hb
 |.tup xs,_,_,h=>by
  obtain⟨a,vs,rfl,ha,ht⟩:=h
  exact Trees.alive ht
 |.fz xs,_,_,h=>by
  obtain⟨a,vs,rfl,ha,ht⟩:=h
  exact Trees.alive ht
theorem Trees.alive:∀{xs:List PV}{vs:List V}{F:List Addr},Trees K H xs vs F->∀a∈F,∃vs:LvO,H a=some vs.1
 |[],_,_,h=>by rw[h.2];simp
 |x::xs,_,_,h=>by
  obtain⟨v,r,G1,G2,rfl,h3,h4,hd,rfl⟩:=h
  intro b hb
  rcases Zq9.mp hb with hb|hb
  ·exact ZD.alive h3 b hb
  ·exact Trees.alive h4 b hb
end
mutual
theorem Rep.tree:∀{x:PV}{v:V},x.flat=true->Rep K H S x v->ZD K H x v []
 |.non,_,_,h=>⟨h,rfl⟩
 |.bl _,_,_,h=>⟨h,rfl⟩
 |.int _,_,_,h=>⟨h,rfl⟩
 |.str _,_,_,h=>⟨h,rfl⟩
 |.exc _,_,_,h=>⟨h,rfl⟩
 |.exa _ _,_,_,h=>⟨h,rfl⟩
 |.box p s xs,_,f,_=>by simp[PV.flat] at f
 |.lst xs,_,f,_=>by simp[PV.flat] at f
 |.tup xs,_,f,h=>by
  obtain⟨a,vs,rfl,ha,ht⟩:=h
  exact⟨a,vs,rfl,ha,Reps.trees (by simpa[PV.flat] using f) ht⟩
 |.fz xs,_,f,h=>by
  obtain⟨a,vs,rfl,ha,ht⟩:=h
  exact⟨a,vs,rfl,ha,Reps.trees (by simpa[PV.flat] using f) ht⟩
theorem Reps.trees:∀{xs:List PV}{vs:List V},PV.flats xs=true->Reps K H S xs vs->Trees K H xs vs []
 |[],_,_,h=>⟨h,rfl⟩
 |x::xs,_,f,h=>by
  obtain⟨v,r,rfl,h3,h4⟩:=h
  simp only[PV.flats,Bool.and_eq_true] at f
  exact⟨v,r,[],[],rfl,Rep.tree f.1 h3,Reps.trees f.2 h4,by simp,rfl⟩
end
theorem Rep.any (h:Rep K H S x v):Rep K H (fun _=>True) x v:=Rep.mono (fun a vs _ r=>⟨r,trivial⟩) (fun a vs r=>r) h
theorem Reps.any (h:Reps K H S xs vs):Reps K H (fun _=>True) xs vs:=Reps.mono (fun a vs _ r=>⟨r,trivial⟩) (fun a vs r=>r) h
theorem Rep.flatS {x:PV}{v:V} (f:x.flat=true) (h:Rep K H S x v):Rep K H S' x v:=ZD.rep (F:=[]) (by simp) (Rep.tree f h)
theorem Reps.flatS {xs:List PV}{vs:List V} (f:PV.flats xs=true) (h:Reps K H S xs vs):Reps K H S' xs vs:=Trees.reps (F:=[]) (by simp) (Reps.trees f h)
theorem Reps.length:∀{xs:List PV}{vs:List V},Reps K H S xs vs->vs.length=xs.length
 |[],_,h=>by rw[h];rfl
 |x::xs,_,h=>by
  obtain⟨v,r,rfl,h3,h4⟩:=h
  simp[Reps.length h4]
theorem Trees.length {xs:List PV}{vs:List V}{F:List Addr} (h:Trees K H xs vs F):vs.length=xs.length:=(Trees.reps (S:=fun _=>True) (fun _ _=>trivial) h).length
theorem Reps.get:∀{xs:List PV}{vs:List V}{i:Nat}{x:PV},Reps K H S xs vs->xs[i]?=some x->∃v,vs[i]?=some v/\Rep K H S x v
 |[],_,_,_,_,e=>by simp at e
 |y::xs,_,0,x,h,e=>by
  obtain⟨v,r,rfl,h3,h4⟩:=h
  simp at e;subst e
  exact⟨v,rfl,h3⟩
 |y::xs,_,i+1,x,h,e=>by
  obtain⟨v,r,rfl,h3,h4⟩:=h
  obtain⟨w,e1,e2⟩:=Reps.get (i:=i) h4 (by simpa using e)
  exact⟨w,by simpa using e1,e2⟩
theorem Reps.append:∀{xs ys:List PV}{vs ws:List V},Reps K H S xs vs->Reps K H S ys ws->Reps K H S (xs++ys) (vs++ws)
 |[],_,_,_,h,h'=>by rw[h];exact h'
 |x::xs,_,_,_,h,h'=>by
  obtain⟨v,r,rfl,h3,h4⟩:=h
  exact⟨v,r++_,rfl,h3,Reps.append h4 h'⟩
theorem Reps.one {x:PV}{v:V} (h:Rep K H S x v):Reps K H S [x] [v]:=⟨v,[],rfl,h,rfl⟩
theorem Reps.take:∀{xs:List PV}{vs:List V} (n:Nat),Reps K H S xs vs->Reps K H S (xs.take n) (vs.take n)
 |_,_,0,_=>by simp[Reps]
 |[],_,n+1,h=>by rw[h];rfl
 |y::xs,_,n+1,h=>by
  obtain⟨w,r,rfl,h3,h4⟩:=h
  exact⟨w,r.take n,rfl,h3,Reps.take n h4⟩
theorem Trees.append:∀{xs ys:List PV}{vs ws:List V}{F G:List Addr},Trees K H xs vs F->Trees K H ys ws G->(∀a∈F,a ∉ G)->Trees K H (xs++ys) (vs++ws) (F++G)
 |[],_,_,_,_,_,h,h',_=>by rw[h.1,h.2];exact h'
 |x::xs,_,_,_,_,_,h,h',hd=>by
  obtain⟨v,r,G1,G2,rfl,h3,h4,hd',rfl⟩:=h
  refine⟨v,r++_,G1,G2++_,rfl,h3,Trees.append h4 h' (fun a ha=>hd a (by simp[ha])),fun a ha z=>?_,by simp⟩
  rcases Zq9.mp z with z|z
  ·exact hd' a ha z
  ·exact hd a (by simp[ha]) z
theorem Trees.one {x:PV}{v:V}{F:List Addr} (h:ZD K H x v F):Trees K H [x] [v] F:=⟨v,[],F,[],rfl,h,⟨rfl,rfl⟩,by simp,by simp⟩
theorem PV.flats_all:∀{xs:List PV},PV.flats xs=true ↔ ∀x∈xs,x.flat=true
 |[]=>by simp[PV.flats]
 |x::xs=>by simp[PV.flats,PV.flats_all (xs:=xs)]
theorem PV.flats_ints (ns:List Int):PV.flats (ns.map PV.int)=true:=PV.flats_all.mpr (by simp[PV.flat])
theorem PV.flats_append {xs ys:List PV}:PV.flats (xs++ys)=(PV.flats xs&&PV.flats ys):=by
 induction xs with
 |nil=>simp[PV.flats]
 |cons x xs ih=>simp[PV.flats,ih,Bool.and_assoc]
theorem Rd.same (e:Zw H H') (h:Rd H a u):Rd H' a u:=by
 rcases h with h|⟨o,h⟩
 ·exact .inl (e _ _ h)
 ·exact .inr ⟨o,e _ _ h⟩
theorem Zw.im (e:Zw H H') {k:HO} (h:Im K H a k):Im K H' a k:=⟨e _ _ h.1,h.2⟩
theorem Im.sqT {vs:List V} (h:Im K H a (.tup vs)):SqT K H a vs:=.inl (.inl h.1)
theorem Rep.same (e:Zw H H') (h:Rep K H S x v):Rep K H' S x v:=Rep.mono (fun a vs s r=>⟨r.same e,s⟩) (fun a vs r=>e.im r) h
theorem Reps.same (e:Zw H H') (h:Reps K H S xs vs):Reps K H' S xs vs:=Reps.mono (fun a vs s r=>⟨r.same e,s⟩) (fun a vs r=>e.im r) h
theorem ZD.same (e:Zw H H') (h:ZD K H x v F):ZD K H' x v F:=ZD.mono (fun a _ o q=>e a o q) (fun a vs r=>e.im r) h
theorem Trees.same (e:Zw H H') (h:Trees K H xs vs F):Trees K H' xs vs F:=Trees.mono (fun a _ o q=>e a o q) (fun a vs r=>e.im r) h
theorem Im.putL {p:Addr}{us:LvO}{o:HO}{k:HO} (hp:H p=some us.1) (h:Im K H a k):Im K (upd H p o) a k:=
 ⟨by rw[Zl (ZiC h.1 hp (Uq us.2 h.2))];exact h.1,h.2⟩
theorem Im.put {p:Addr}{us:List V}{o:HO}{k:HO} (hp:H p=some (.lst us)) (h:Im K H a k):Im K (upd H p o) a k:=Im.putL (us:=⟨.lst us,trivial⟩) hp h
theorem SqT.put {p:Addr}{us:List V}{o:HO} (hp:H p=some (.lst us)) (h:Im K H a (.tup vs)):Im K (upd H p o) a (.tup vs):=Im.put hp h
theorem ZD.putL {p:Addr}{us:LvO}{o:HO} (hp:H p=some us.1) (hS:p ∉ F) (h:ZD K H x v F):ZD K (upd H p o) x v F:=
 ZD.mono (fun a ha o q=>by
  have hne:a≠p:=fun z=>hS (z▸ha)
  rw[Zl hne];exact q) (fun a vs r=>Im.putL hp r) h
theorem Trees.putL {p:Addr}{us:LvO}{o:HO} (hp:H p=some us.1) (hS:p ∉ F) (h:Trees K H xs vs F):Trees K (upd H p o) xs vs F:=
 Trees.mono (fun a ha o q=>by
  have hne:a≠p:=fun z=>hS (z▸ha)
  rw[Zl hne];exact q) (fun a vs r=>Im.putL hp r) h
theorem ZD.put {p:Addr}{us:List V}{o:HO} (hp:H p=some (.lst us)) (hS:p ∉ F) (h:ZD K H x v F):ZD K (upd H p o) x v F:=ZD.putL (us:=⟨.lst us,trivial⟩) hp hS h
theorem Trees.put {p:Addr}{us:List V}{o:HO} (hp:H p=some (.lst us)) (hS:p ∉ F) (h:Trees K H xs vs F):Trees K (upd H p o) xs vs F:=Trees.putL (us:=⟨.lst us,trivial⟩) hp hS h
end
inductive Md|U|P|S|T|O
 deriving DecidableEq
def NO (B:Addr->Prop) (F:Nat->List Addr) (R:List Addr) (a:Addr):Prop:=B a/\a ∉ R/\∀i,a ∉ F i
def Vi (K:W.Frag) (H:Hp) (S:Addr->Prop) (m:Md) (x:PV) (o:Option (Option V)) (G:List Addr):Prop:=match m with
 |.U=>G=[]
 |.P=>G=[]/\∃v,o=some (some v)/\x.flat=true/\Rep K H (fun _=>True) x v
 |.S=>G=[]/\∃v,o=some (some v)/\Rep K H S x v
 |.T=>∃a vs xs,o=some (some (.ref a))/\x=.lst xs/\H a=some (.lst vs)/\Reps K H S xs vs/\G=[a]
 |.O=>∃v,o=some (some v)/\ZD K H x v G
structure Ag (K:PySem.W.Frag) (B:Addr->Prop) (H0 H:Hp) (σ:St) (Γ:List Md) (ρ:List PV) (F:Nat->List Addr) (R:List Addr):Prop where
 same:Zw H0 H
 own:∀a,H0 a=none->B a
 young:∀i,∀a∈F i,H0 a=none
 youngR:∀a∈R,H0 a=none
 live:∀i,∀a∈F i,∃vs:LvO,H a=some vs.1
 liveR:∀a∈R,∃vs:LvO,H a=some vs.1
 disj:∀i j,i≠j->∀a∈F i,a ∉ F j
 disjR:∀i,∀a∈F i,a ∉ R
 lenS:σ.length=Γ.length
 lenR:ρ.length=Γ.length
 slot:∀i,Vi K H (NO B F R) (Γ.getD i .U) (ρ.getD i .non) σ[i]? (F i)
theorem Vi.mono {K:W.Frag}{H H':Hp}{S S':Addr->Prop}{m:Md}{x:PV}{o:Option (Option V)}{G:List Addr} (h:Vi K H S m x o G) (h1:∀a u,S a->Rd H a u->Rd H' a u/\S' a)
  (h2:∀a u,Im K H a u->Im K H' a u) (h3:∀a∈G,∀u,H a=some u->H' a=some u):Vi K H' S' m x o G:=by
 cases m with
 |U=>exact h
 |P =>
  obtain⟨e,v,h4,h5,h6⟩:=h
  exact⟨e,v,h4,h5,ZD.rep (F:=[]) (by simp) (ZD.mono (by simp) h2 (Rep.tree h5 h6))⟩
 |S =>
  obtain⟨e,v,h4,h5⟩:=h
  exact⟨e,v,h4,Rep.mono h1 h2 h5⟩
 |T =>
  obtain⟨a,vs,xs,h4,h5,h6,h7,rfl⟩:=h
  exact⟨a,vs,xs,h4,h5,h3 a (by simp) _ h6,Reps.mono h1 h2 h7,rfl⟩
 |O =>
  obtain⟨v,h4,h5⟩:=h
  exact⟨v,h4,ZD.mono (fun a ha o q=>h3 a ha o q) h2 h5⟩
section
variable {K:W.Frag}{B:Addr->Prop}{H0 H H':Hp}{σ:St}{Γ:List Md}{ρ:List PV}{F:Nat->List Addr}{R R':List Addr}
theorem Ag.grow (A:Ag K B H0 H σ Γ ρ F R) (e:Zw H H'):Ag K B H0 H' σ Γ ρ F R:=
 ⟨A.same.trans e,A.own,A.young,A.youngR,fun i a ha=>let ⟨vs,q⟩:=A.live i a ha;⟨vs,e _ _ q⟩,fun a ha=>let ⟨vs,q⟩:=A.liveR a ha;⟨vs,e _ _ q⟩,A.disj,A.disjR,A.lenS,A.lenR,
  fun i=>(A.slot i).mono (fun a vs s r=>⟨r.same e,s⟩) (fun a vs r=>e.im r) fun a ha vs q=>e _ _ q⟩
theorem Ag.less (A:Ag K B H0 H σ Γ ρ F R) (h:∀a∈R',a∈R):Ag K B H0 H σ Γ ρ F R':=
 ⟨A.same,A.own,A.young,fun a ha=>A.youngR a (h a ha),A.live,fun a ha=>A.liveR a (h a ha),A.disj,fun i a ha z=>A.disjR i a ha (h a z),A.lenS,A.lenR,
  fun i=>(A.slot i).mono (fun a vs s r=>⟨r,s.1,fun z=>s.2.1 (h a z),s.2.2⟩) (fun a vs r=>r) fun a ha vs q=>q⟩
theorem Ag.more {G:List Addr} (A:Ag K B H0 H σ Γ ρ F R) (e:Zw H H') (hf:∀a∈G,H a=none) (hl:∀a∈G,∃vs:LvO,H' a=some vs.1):Ag K B H0 H' σ Γ ρ F (G++R):=by
 refine⟨A.same.trans e,A.own,A.young,fun a ha=>?_,fun i a ha=>let ⟨vs,q⟩:=A.live i a ha;⟨vs,e _ _ q⟩,fun a ha=>?_,A.disj,fun i a ha z=>?_,A.lenS,A.lenR,fun i=>?_⟩
 ·rcases Zq9.mp ha with z|z
  ·exact A.same.free (hf a z)
  ·exact A.youngR a z
 ·rcases Zq9.mp ha with z|z
  ·exact hl a z
  ·obtain⟨vs,q⟩:=A.liveR a z
   exact⟨vs,e _ _ q⟩
 ·rcases Zq9.mp z with z|z
  ·obtain⟨vs,q⟩:=A.live i a ha
   rw[hf a z] at q;cases q
  ·exact A.disjR i a ha z
 ·refine(A.slot i).mono (fun a vs s r=>⟨r.same e,s.1,fun z=>?_,s.2.2⟩) (fun a vs r=>e.im r) fun a ha vs q=>e _ _ q
  rcases Zq9.mp z with z|z
  ·have:=hf a z
   rcases r with r|⟨o,r⟩<;>(rw[this] at r;cases r)
  ·exact s.2.1 z
theorem Ag.fresh (A:Ag K B H0 H σ Γ ρ F R) {p:Addr} (hp:H p=none):p ∉ R/\(∀i,p ∉ F i)/\H0 p=none/\B p:=by
 refine⟨fun z=>?_,fun i z=>?_,A.same.free hp,A.own p (A.same.free hp)⟩
 ·obtain⟨vs,q⟩:=A.liveR p z
  rw[hp] at q;cases q
 ·obtain⟨vs,q⟩:=A.live i p z
  rw[hp] at q;cases q
theorem Ag.new {p:Addr}{xs:List V} (A:Ag K B H0 H σ Γ ρ F R) (hp:H p=none):Ag K B H0 (upd H p (.lst xs)) σ Γ ρ F (p::R):=
 A.more (G:=[p]) (Zw.new hp) (fun a ha=>by rw[Zrj.mp ha];exact hp) fun a ha=>⟨⟨.lst xs,trivial⟩,by rw[Zrj.mp ha,Zt]⟩
theorem Ag.newB {p:Addr}{u:HO} (hu:Lvo u) (A:Ag K B H0 H σ Γ ρ F R) (hp:H p=none):Ag K B H0 (upd H p u) σ Γ ρ F (p::R):=
 A.more (G:=[p]) (Zw.new hp) (fun a ha=>by rw[Zrj.mp ha];exact hp) fun a ha=>⟨⟨u,hu⟩,by rw[Zrj.mp ha,Zt]⟩
theorem Ag.getO {i:Nat} (A:Ag K B H0 H σ Γ ρ F R) (h:Γ[i]?=some .O):∃v,σ[i]?=some (some v)/\ZD K H (ρ.getD i .non) v (F i):=by
 have:=A.slot i
 rw[Zq5,h] at this
 exact this
theorem Ag.getT {i:Nat} (A:Ag K B H0 H σ Γ ρ F R) (h:Γ[i]?=some .T):∃a vs xs,σ[i]?=some (some (.ref a))/\ρ.getD i .non=.lst xs/\H a=some (.lst vs)/\Reps K H (NO B F R) xs vs/\F i=[a]:=by
 have:=A.slot i
 rw[Zq5 (l:=Γ),h] at this
 exact this
theorem Ag.getS {i:Nat} (A:Ag K B H0 H σ Γ ρ F R) (h:Γ[i]?=some .S):∃v,σ[i]?=some (some v)/\Rep K H (NO B F R) (ρ.getD i .non) v:=by
 have:=A.slot i
 rw[Zq5 (l:=Γ),h] at this
 exact this.2
theorem Ag.getP {i:Nat} (A:Ag K B H0 H σ Γ ρ F R) (h:Γ[i]?=some .P):∃v,σ[i]?=some (some v)/\(ρ.getD i .non).flat=true/\Rep K H (fun _=>True) (ρ.getD i .non) v:=by
 have:=A.slot i
 rw[Zq5 (l:=Γ),h] at this
 exact this.2
theorem Ag.getA {i:Nat}{m:Md} (A:Ag K B H0 H σ Γ ρ F R) (h:Γ[i]?=some m) (hm:m≠.U):∃v,σ[i]?=some (some v)/\Rep K H (fun _=>True) (ρ.getD i .non) v:=by
 cases m with
 |U=>exact absurd rfl hm
 |P=>obtain⟨v,h1,h2,h3⟩:=A.getP h;exact⟨v,h1,h3⟩
 |S=>obtain⟨v,h1,h2⟩:=A.getS h;exact⟨v,h1,h2.any⟩
 |T =>
  obtain⟨a,vs,xs,h1,h2,h3,h4,h5⟩:=A.getT h
  exact⟨_,h1,by rw[h2];exact⟨a,vs,rfl,.inl ⟨.inl h3,trivial⟩,h4.any⟩⟩
 |O=>obtain⟨v,h1,h2⟩:=A.getO h;exact⟨v,h1,h2.rep (fun _ _=>trivial)⟩
theorem Ag.lt {i:Nat}{m:Md} (A:Ag K B H0 H σ Γ ρ F R) (h:Γ[i]?=some m):i<Γ.length:=(ZqM.mp h).1
noncomputable def Jy (F:Nat->List Addr) (i:Nat) (G:List Addr):Nat->List Addr:=fun j=>if j=i then G else F j
theorem Zs {i:Nat}{G:List Addr}:Jy F i G i=G:=if_pos rfl
theorem Zx {i j:Nat}{G:List Addr} (h:j≠i):Jy F i G j=F j:=if_neg h
theorem Ag.put {i:Nat}{m:Md}{x:PV}{v:V}{G:List Addr} (A:Ag K B H0 H σ Γ ρ F (G++R)) (hi:i<Γ.length) (hG:∀a∈G,a ∉ R) (hs:Vi K H (NO B (Jy F i G) R) m x (some (some v)) G) :
  Ag K B H0 H (σ.set i (some v)) (Γ.set i m) (ρ.set i x) (Jy F i G) R:=by
 refine⟨A.same,A.own,fun j a ha=>?_,fun a ha=>A.youngR a (Zq7 _ ha),fun j a ha=>?_,fun a ha=>A.liveR a (Zq7 _ ha),fun j k hjk a ha z=>?_,fun j a ha z=>?_,by simp[A.lenS],by simp[A.lenR],fun j=>?_⟩
 ·by_cases h:j=i
  ·subst h;rw[Zs] at ha;exact A.youngR a (Zq8 _ ha)
  ·rw[Zx h] at ha;exact A.young j a ha
 ·by_cases h:j=i
  ·subst h;rw[Zs] at ha;exact A.liveR a (Zq8 _ ha)
  ·rw[Zx h] at ha;exact A.live j a ha
 ·by_cases h:j=i
  ·subst h
   rw[Zs] at ha
   rw[Zx (Ne.symm hjk)] at z
   exact A.disjR k a z (Zq8 _ ha)
  ·rw[Zx h] at ha
   by_cases h':k=i
   ·subst h'
    rw[Zs] at z
    exact A.disjR j a ha (Zq8 _ z)
   ·rw[Zx h'] at z
    exact A.disj j k hjk a ha z
 ·by_cases h:j=i
  ·subst h;rw[Zs] at ha;exact hG a ha z
  ·rw[Zx h] at ha;exact A.disjR j a ha (Zq7 _ z)
 ·by_cases h:j=i
  ·subst h
   rw[Zs,Zq5,Zq5,ZqF hi,ZqF (by rw[A.lenR];exact hi),ZqF (by rw[A.lenS];exact hi)]
   exact hs
  ·rw[Zx h,Zq5,Zq5,ZqB (Ne.symm h),ZqB (Ne.symm h),ZqB (Ne.symm h),<- Zq5,<- Zq5]
   refine(A.slot j).mono (fun a vs s r=>⟨r,s.1,fun z=>s.2.1 (Zq7 _ z),fun k z=>?_⟩) (fun a vs r=>r) fun a ha vs q=>q
   by_cases h':k=i
   ·subst h';rw[Zs] at z;exact s.2.1 (Zq8 _ z)
   ·rw[Zx h'] at z;exact s.2.2 k z
theorem Ag.turn {i:Nat}{m m':Md}{G:List Addr} (A:Ag K B H0 H σ Γ ρ F R) (h:Γ[i]?=some m) (hG:∀a∈G,a∈F i) (hs:Vi K H (NO B (Jy F i []) (G++R)) m' (ρ.getD i .non) σ[i]? []) :
  Ag K B H0 H σ (Γ.set i m') ρ (Jy F i []) (G++R):=by
 have hi:=A.lt h
 refine⟨A.same,A.own,fun j a ha=>?_,fun a ha=>?_,fun j a ha=>?_,fun a ha=>?_,fun j k hjk a ha z=>?_,fun j a ha z=>?_,by simp[A.lenS],by simp[A.lenR],fun j=>?_⟩
 ·by_cases h:j=i
  ·subst h;rw[Zs] at ha;simp at ha
  ·rw[Zx h] at ha;exact A.young j a ha
 ·rcases Zq9.mp ha with z|z
  ·exact A.young i a (hG a z)
  ·exact A.youngR a z
 ·by_cases h:j=i
  ·subst h;rw[Zs] at ha;simp at ha
  ·rw[Zx h] at ha;exact A.live j a ha
 ·rcases Zq9.mp ha with z|z
  ·exact A.live i a (hG a z)
  ·exact A.liveR a z
 ·by_cases h:j=i
  ·subst h;rw[Zs] at ha;simp at ha
  ·by_cases h':k=i
   ·subst h';rw[Zs] at z;simp at z
   ·rw[Zx h] at ha;rw[Zx h'] at z;exact A.disj j k hjk a ha z
 ·by_cases h:j=i
  ·subst h;rw[Zs] at ha;simp at ha
  ·rw[Zx h] at ha
   rcases Zq9.mp z with z|z
   ·exact A.disj j i h a ha (hG a z)
   ·exact A.disjR j a ha z
 ·by_cases h:j=i
  ·subst h
   rw[Zs,Zq5 (l:=Γ.set _ _),ZqF hi]
   exact hs
  ·rw[Zx h,Zq5 (l:=Γ.set _ _),ZqB (Ne.symm h),<- Zq5]
   refine(A.slot j).mono (fun a vs s r=>⟨r,s.1,fun z=>?_,fun k z=>?_⟩) (fun a vs r=>r) fun a ha vs q=>q
   ·rcases Zq9.mp z with z|z
    ·exact s.2.2 i (hG a z)
    ·exact s.2.1 z
   ·by_cases h':k=i
    ·subst h';rw[Zs] at z;simp at z
    ·rw[Zx h'] at z;exact s.2.2 k z
theorem Ag.noF (A:Ag K B H0 H σ Γ ρ F R) {i:Nat}{a:Addr} (ha:a∈F i):NO B (Jy F i []) R a:=⟨A.own a (A.young i a ha),A.disjR i a ha,fun j z=>by
 by_cases h:j=i
 ·subst h;rw[Zs] at z;simp at z
 ·rw[Zx h] at z;exact A.disj j i h a z ha⟩
theorem Ag.freeze {i:Nat}{m:Md} (A:Ag K B H0 H σ Γ ρ F R) (h:Γ[i]?=some m) (hm:m≠.U):Ag K B H0 H σ (Γ.set i .S) ρ (Jy F i []) R:=by
 refine A.turn (G:=[]) h (by simp) ?_
 show Vi K H (NO B (Jy F i []) R) .S (ρ.getD i .non) σ[i]? []
 have up:∀{a vs},NO B F R a->Rd H a vs->Rd H a vs/\NO B (Jy F i []) R a:=fun {a vs} s r=>⟨r,s.1,s.2.1,fun j z=>by
  by_cases h:j=i
  ·subst h;rw[Zs] at z;simp at z
  ·rw[Zx h] at z;exact s.2.2 j z⟩
 cases m with
 |U=>exact absurd rfl hm
 |P=>obtain⟨v,h1,h2,h3⟩:=A.getP h;exact⟨rfl,v,h1,h3.flatS h2⟩
 |S=>obtain⟨v,h1,h2⟩:=A.getS h;exact⟨rfl,v,h1,Rep.mono (fun a vs s r=>up s r) (fun a vs r=>r) h2⟩
 |T =>
  obtain⟨a,vs,xs,h1,h2,h3,h4,h5⟩:=A.getT h
  refine⟨rfl,_,h1, ?_⟩
  rw[h2]
  exact⟨a,vs,rfl,.inl ⟨.inl h3,A.noF (by rw[h5];simp)⟩,Reps.mono (fun a vs s r=>up s r) (fun a vs r=>r) h4⟩
 |O =>
  obtain⟨v,h1,h2⟩:=A.getO h
  exact⟨rfl,v,h1,h2.rep fun a ha=>A.noF ha⟩
theorem Ag.move {i:Nat} (A:Ag K B H0 H σ Γ ρ F R) (h:Γ[i]?=some .O):Ag K B H0 H σ (Γ.set i .U) ρ (Jy F i []) (F i++R):=A.turn (G:=F i) h (fun a ha=>ha) rfl
end
noncomputable abbrev PX:=Str×PV
inductive Rr (α:Type) where
 |ok (a:α)|exc (e:PX)|bad
noncomputable def Rr.bind {α β:Type}:Rr α->(α->Rr β)->Rr β
 |.ok a,f=>f a
 |.exc e,_=>.exc e
 |.bad,_=>.bad
def Dn {α:Type} (r:Rr α) (ok:α->Prop) (ex:PX->Prop):Prop:=match r with
 |.ok a=>ok a
 |.exc e=>ex e
 |.bad=>False
theorem Dn.bind {α β:Type}{r:Rr α}{f:α->Rr β}{ok:β->Prop}{ex:PX->Prop} (h:Dn (r.bind f) ok ex):Dn r (fun a=>Dn (f a) ok ex) ex:=by
 cases r with
 |ok a=>exact h
 |exc e=>exact h
 |bad=>exact h
theorem Dn.imp {α:Type}{r:Rr α}{ok ok':α->Prop}{ex ex':PX->Prop} (h:Dn r ok ex) (h1:∀a,r=.ok a->ok a->ok' a) (h2:∀e,ex e->ex' e):Dn r ok' ex':=by
 cases r with
 |ok a=>exact h1 a rfl h
 |exc e=>exact h2 e h
 |bad=>exact h
@[simp] theorem Rr.bind_ok {α β:Type}{a:α}{f:α->Rr β}:(Rr.ok a).bind f=f a:=rfl
@[simp] theorem Rr.bind_exc {α β:Type}{e:PX}{f:α->Rr β}:(Rr.exc e:Rr α).bind f=.exc e:=rfl
@[simp] theorem Rr.bind_bad {α β:Type}{f:α->Rr β}:(Rr.bad:Rr α).bind f=.bad:=rfl
inductive Kd|P|F|T|Z|A|N
def Res (K:W.Frag) (B:Addr->Prop) (H0 H:Hp) (σ:St) (Γ':List Md) (ρ:List PV) (F:Nat->List Addr) (R:List Addr) (k:Kd) (x:PV) (v:V) (H':Hp):Prop:=
 ∃F',(∀i,∀a∈F' i,a∈F i)/\match k with
 |.P=>x.flat=true/\Rep K H' (fun _=>True) x v/\Ag K B H0 H' σ Γ' ρ F' R
 |.F=>∃G,ZD K H' x v G/\(∀a∈G,a ∉ R/\(H a=none\/∃i,a∈F i))/\Ag K B H0 H' σ Γ' ρ F' (G++R)
 |.T=>∃a vs xs,x=.lst xs/\v=.ref a/\H' a=some (.lst vs)/\Reps K H' (NO B F' (a::R)) xs vs/\a ∉ R/\(H a=none\/∃i,a∈F i)/\Ag K B H0 H' σ Γ' ρ F' (a::R)
 |.Z=>Rep K H' (NO B F' R) x v/\Ag K B H0 H' σ Γ' ρ F' R
 |.A=>Rep K H' (fun _=>True) x v/\Ag K B H0 H' σ Γ' ρ F' R
 |.N=>False
def DE (K:W.Frag) (EX:PX->Hp->Prop) (Γ Γ':List Md) (k:Kd) (te:TE) (f:List PV->Rr PV):Prop:=
 ∀(B:Addr->Prop) (H0 H:Hp) (σ:St) (ρ:List PV) (F:Nat->List Addr) (R:List Addr) (Q:VK),Ag K B H0 H σ Γ ρ F R ->
  Dn (f ρ) (fun x=>∀v H',Zw H H'->Res K B H0 H σ Γ' ρ F R k x v H'->Q v H') (fun e=>∀H',Zw H0 H'->EX e H')->te σ H Q
def DT (K:W.Frag) (EX:PX->Hp->Prop) (Γ Γ':List Md) (tt:TT) (f:List PV->Rr Bool):Prop:=
 ∀(B:Addr->Prop) (H0 H:Hp) (σ:St) (ρ:List PV) (F:Nat->List Addr) (R:List Addr) (Q:Bool->Hp->Prop),Ag K B H0 H σ Γ ρ F R ->
  Dn (f ρ) (fun b=>∀H' F',Zw H H'->(∀i,∀a∈F' i,a∈F i)->Ag K B H0 H' σ Γ' ρ F' R->Q b H') (fun e=>∀H',Zw H0 H'->EX e H')->tt σ H Q
section
variable {K:W.Frag}{B:Addr->Prop}{EX:PX->Hp->Prop}{H0 H H':Hp}{σ:St}{Γ Γ' Γ1 Γ2:List Md}{ρ:List PV}{F F':Nat->List Addr}{R:List Addr}{k:Kd}{x:PV}{v:V}{te ta tb:TE}{f fa fb:List PV->Rr PV}
theorem Res.ag (h:Res K B H0 H σ Γ' ρ F R k x v H'):∃F',(∀i,∀a∈F' i,a∈F i)/\Rep K H' (fun _=>True) x v/\Ag K B H0 H' σ Γ' ρ F' R:=by
 obtain⟨F',hF,h⟩:=h
 refine⟨F',hF, ?_⟩
 cases k with
 |P=>exact⟨h.2.1,h.2.2⟩
 |F=>obtain⟨G,h1,h2,h3⟩:=h;exact⟨h1.rep fun _ _=>trivial,h3.less fun a ha=>Zq7 _ ha⟩
 |T=>obtain⟨a,vs,xs,rfl,rfl,h1,h2,h3,h4,h5⟩:=h;exact⟨⟨a,vs,rfl,.inl ⟨.inl h1,trivial⟩,h2.any⟩,h5.less fun a ha=>ZqK _ ha⟩
 |Z=>exact⟨h.1.any,h.2⟩
 |A=>exact h
 |N=>exact h.elim
theorem Res.toA (h:Res K B H0 H σ Γ' ρ F R k x v H'):Res K B H0 H σ Γ' ρ F R .A x v H':=let ⟨F',a,b,c⟩:=h.ag;⟨F',a,b,c⟩
theorem Res.PF (h:Res K B H0 H σ Γ' ρ F R .P x v H'):Res K B H0 H σ Γ' ρ F R .F x v H':=by
 obtain⟨F',hF,h1,h2,h3⟩:=h
 exact⟨F',hF,[],h2.tree h1,by simp,h3⟩
theorem Res.FZ (h:Res K B H0 H σ Γ' ρ F R .F x v H'):Res K B H0 H σ Γ' ρ F R .Z x v H':=by
 obtain⟨F',hF,G,h1,h2,h3⟩:=h
 exact⟨F',hF,h1.rep fun a ha=>⟨h3.own a (h3.youngR a (Zq8 _ ha)),(h2 a ha).1,fun i z=>h3.disjR i a z (Zq8 _ ha)⟩,h3.less fun a ha=>Zq7 _ ha⟩
theorem DE.imp {k':Kd} (h:DE K EX Γ Γ' k te f) (hr:∀{B:Addr->Prop}{H0 H H':Hp}{σ:St}{ρ:List PV}{F:Nat->List Addr}{R:List Addr}{x:PV}{v:V},Res K B H0 H σ Γ' ρ F R k x v H'->Res K B H0 H σ Γ' ρ F R k' x v H'):DE K EX Γ Γ' k' te f:=
 fun B H0 H σ ρ F R Q A d=>h B H0 H σ ρ F R Q A (d.imp (fun x _ q v H' s r=>q v H' s (hr r)) fun e q=>q)
theorem DE.toA (h:DE K EX Γ Γ' k te f):DE K EX Γ Γ' .A te f:=h.imp Res.toA
theorem DE.PF (h:DE K EX Γ Γ' .P te f):DE K EX Γ Γ' .F te f:=h.imp Res.PF
theorem DE.FZ (h:DE K EX Γ Γ' .F te f):DE K EX Γ Γ' .Z te f:=h.imp Res.FZ
noncomputable def grd (x:PV):Rr PV:=if x.flat=true then .ok x else .bad
theorem DE.grd (h:DE K EX Γ Γ' .A te f):DE K EX Γ Γ' .P te (fun ρ=>(f ρ).bind grd):=fun B H0 H σ ρ F R Q A d=>by
 refine h B H0 H σ ρ F R Q A (d.bind.imp (fun x _ q v H' s r=>?_) fun e q=>q)
 unfold L2.grd at q
 by_cases hx:x.flat=true
 ·rw[if_pos hx] at q
  obtain⟨F',h1,h2,h3⟩:=r
  exact q v H' s ⟨F',h1,hx,h2,h3⟩
 ·rw[if_neg hx] at q;exact q.elim
theorem ZjH {v:V} (hf:x.flat=true) (hr:∀H,Rep K H (fun _=>True) x v):DE K EX Γ Γ .P (tC v) (fun _=>.ok x):=fun B H0 H σ ρ F R Q A d =>
 d v H (Zw.refl H) ⟨F,fun _ _ h=>h,hf,hr H,A⟩
theorem Zn {i:Int}:DE K EX Γ Γ .P (tC (.int i)) (fun _=>.ok (.int i)):=ZjH rfl fun _=>rfl
theorem QC {b:Bool}:DE K EX Γ Γ .P (tC (.bl b)) (fun _=>.ok (.bl b)):=ZjH rfl fun _=>rfl
theorem Zg4:DE K EX Γ Γ .P (tC .non) (fun _=>.ok .non):=ZjH rfl fun _=>rfl
theorem J0 {x:Str}:DE K EX Γ Γ .P (tC (.str x)) (fun _=>.ok (.str x)):=ZjH rfl fun _=>rfl
noncomputable def gv (i:Nat) (ρ:List PV):PV:=ρ.getD i .non
theorem Zd {i:Nat}{m:Md} (h:Γ[i]?=some m) (hm:m≠.U):DE K EX Γ Γ .A (VS i) (fun ρ=>.ok (gv i ρ)):=fun B H0 H σ ρ F R Q A d=>by
 obtain⟨v,h1,h2⟩:=A.getA h hm
 exact⟨v,h1,d v H (Zw.refl H) ⟨F,fun _ _ h=>h,h2,A⟩⟩
theorem Zq {i:Nat} (h:Γ[i]?=some .P):DE K EX Γ Γ .P (VS i) (fun ρ=>.ok (gv i ρ)):=fun B H0 H σ ρ F R Q A d=>by
 obtain⟨v,h1,h2,h3⟩:=A.getP h
 exact⟨v,h1,d v H (Zw.refl H) ⟨F,fun _ _ h=>h,h2,h3,A⟩⟩
theorem UM {i:Nat} (h:Γ[i]?=some .S):DE K EX Γ Γ .Z (VS i) (fun ρ=>.ok (gv i ρ)):=fun B H0 H σ ρ F R Q A d=>by
 obtain⟨v,h1,h2⟩:=A.getS h
 exact⟨v,h1,d v H (Zw.refl H) ⟨F,fun _ _ h=>h,h2,A⟩⟩
theorem Jm {i:Nat}{F:Nat->List Addr}:∀j,∀a∈Jy F i [] j,a∈F j:=fun j a ha=>by
 by_cases h:j=i
 ·subst h;rw[Zs] at ha;simp at ha
 ·rw[Zx h] at ha;exact ha
theorem Zbl {i:Nat} (h:Γ[i]?=some .O):DE K EX Γ (Γ.set i .U) .F (VS i) (fun ρ=>.ok (gv i ρ)):=fun B H0 H σ ρ F R Q A d=>by
 obtain⟨v,h1,h2⟩:=A.getO h
 exact⟨v,h1,d v H (Zw.refl H) ⟨Jy F i [],Jm,F i,h2,fun a ha=>⟨A.disjR i a ha,.inr ⟨i,ha⟩⟩,A.move h⟩⟩
def OpP (K:W.Frag) (r:R2) (o:PV->PV->Rr PV):Prop:=∀{H:Hp}{x y:PV}{v w:V}{Q:VK},Rep K H (fun _=>True) x v->Rep K H (fun _=>True) y w ->
 (∃z,o x y=.ok z/\(z.flat=true->∀u,Rep K H (fun _=>True) z u->Q u H))->r v w H Q
theorem Dn.bind2 {α β γ:Type}{r:Rr α}{q:Rr β}{f:α->β->Rr γ}{ok:γ->Prop}{ex:PX->Prop} (h:Dn (r.bind fun a=>q.bind fun b=>f a b) ok ex):Dn r (fun a=>Dn q (fun b=>Dn (f a b) ok ex) ex) ex:=
 h.bind.imp (fun a _ h=>h.bind) fun e h=>h
theorem two {Q:V->V->Hp->Prop}{ok:PV->PV->Prop} (ha:DE K EX Γ Γ1 .A ta fa) (hb:DE K EX Γ1 Γ2 .A tb fb) (A:Ag K B H0 H σ Γ ρ F R)
  (d:Dn (fa ρ) (fun x=>Dn (fb ρ) (fun y=>ok x y) (fun e=>∀H',Zw H0 H'->EX e H')) (fun e=>∀H',Zw H0 H'->EX e H'))
  (hq:∀x y v w H' F',ok x y->Zw H H'->(∀i,∀a∈F' i,a∈F i)->Rep K H' (fun _=>True) x v->Rep K H' (fun _=>True) y w->Ag K B H0 H' σ Γ2 ρ F' R->Q v w H') :
  ta σ H fun v H1=>tb σ H1 fun w H2=>Q v w H2:=by
 refine ha B H0 H σ ρ F R _ A (d.imp (fun x _ d v H1 s1 r1=>?_) fun e q=>q)
 obtain⟨F1,f1,p1,A1⟩:=r1
 refine hb B H0 H1 σ ρ F1 R _ A1 (d.imp (fun y _ q w H2 s2 r2=>?_) fun e q=>q)
 obtain⟨F2,f2,p2,A2⟩:=r2
 exact hq x y v w H2 F2 q (s1.trans s2) (fun i a h=>f1 i a (f2 i a h)) (p1.same s2) p2 A2
theorem Zh8 {r:R2}{o:PV->PV->Rr PV} (hr:OpP K r o) (ho:∀x y z,o x y=.ok z->z.flat=true) (hx:∀x y e,o x y≠.exc e) (ha:DE K EX Γ Γ1 .A ta fa) (hb:DE K EX Γ1 Γ2 .A tb fb) :
  DE K EX Γ Γ2 .P (tOp r ta tb) (fun ρ=>(fa ρ).bind fun x=>(fb ρ).bind fun y=>o x y):=fun B H0 H σ ρ F R Q A d=>by
 refine two ha hb A d.bind2 fun x y v w H' F' d s hF p1 p2 A'=>?_
 cases e:o x y with
 |ok z=>rw[e] at d;exact hr p1 p2 ⟨z,e,fun hf u hu=>d u H' s ⟨F',hF,hf,hu,A'⟩⟩
 |exc q=>exact absurd e (hx x y q)
 |bad=>rw[e] at d;exact d.elim
def UnP (K:W.Frag) (r:V->Hp->VK->Prop) (o:PV->Rr PV):Prop:=∀{H:Hp}{x:PV}{v:V}{Q:VK},Rep K H (fun _=>True) x v->(∃z,o x=.ok z/\(z.flat=true->∀u,Rep K H (fun _=>True) z u->Q u H))->r v H Q
theorem Zkn {r:V->Hp->VK->Prop}{o:PV->Rr PV} (hr:UnP K r o) (hx:∀x e,o x≠.exc e) (ha:DE K EX Γ Γ1 .A ta fa):DE K EX Γ Γ1 .P (tUn r ta) (fun ρ=>(fa ρ).bind o):=fun B H0 H σ ρ F R Q A d=>by
 refine ha B H0 H σ ρ F R _ A (d.bind.imp (fun x _ d v H1 s1 r1=>?_) fun e q=>q)
 obtain⟨F1,f1,p1,A1⟩:=r1
 cases e:o x with
 |ok z=>rw[e] at d;exact hr p1 ⟨z,e,fun hf u hu=>d u H1 s1 ⟨F1,f1,hf,hu,A1⟩⟩
 |exc q=>exact absurd e (hx x q)
 |bad=>rw[e] at d;exact d.elim
noncomputable def oI (C:Int->Int->Bool) (g:Int->Int->PV) (x y:PV):Rr PV:=match x,y with
 |.int i,.int j=>if C i j=true then .ok (g i j) else .bad
 |_,_=>.bad
theorem ZbR {C:Int->Int->Bool}{g:Int->Int->PV}{i j:Int} (h:C i j=true):oI C g (.int i) (.int j)=.ok (g i j):=if_pos h
theorem Zlo {C:Int->Int->Bool}{D:Int->Int->Prop}{g:Int->Int->PV}{g':Int->Int->V} (hC:∀i j,C i j=true->D i j) (hg:∀H i j,Rep K H (fun _=>True) (g i j) (g' i j)) (hf:∀i j,(g i j).flat=true):OpP K (rI D g') (oI C g):=by
 intro H x y v w Q rx ry ⟨z,e,q⟩
 cases x<;>cases y<;>first|(simp only[oI] at e;cases e;done)|skip
 rename_i i j
 simp only[oI] at e
 by_cases h:C i j=true
 ·rw[if_pos h] at e;cases e
  cases rx;cases ry
  exact⟨i,j,rfl,rfl,hC i j h,q (hf i j) _ (hg H i j)⟩
 ·rw[if_neg h] at e;cases e
theorem Zka {g:Int->Int->PV}{g':Int->Int->V} (hg:∀H i j,Rep K H (fun _=>True) (g i j) (g' i j)) (hf:∀i j,(g i j).flat=true):OpP K (rI0 g') (oI (fun _ _=>true) g):=by
 intro H x y v w Q rx ry ⟨z,e,q⟩
 cases x<;>cases y<;>first|(simp only[oI] at e;cases e;done)|skip
 rename_i i j
 simp only[oI,if_true] at e
 cases e;cases rx;cases ry
 exact⟨i,j,rfl,rfl,q (hf i j) _ (hg H i j)⟩
theorem ZbQ {C:Int->Int->Bool}{g:Int->Int->PV} (x y:PV) (e:PX):oI C g x y≠.exc e:=by
 cases x<;>cases y<;>first|(intro h;simp only[oI] at h;cases h;done)|skip
 intro h
 simp only[oI] at h
 split at h<;>cases h
theorem ZdS {C:Int->Int->Bool}{g:Int->Int->PV} (hf:∀i j,(g i j).flat=true) (x y z:PV) (h:oI C g x y=.ok z):z.flat=true:=by
 cases x<;>cases y<;>first|(simp only[oI] at h;cases h;done)|skip
 simp only[oI] at h
 split at h
 ·cases h;exact hf _ _
 ·cases h
end
mutual
noncomputable def PV.noX:PV->Bool
 |.exc _=>false
 |.exa _ _=>false
 |.box _ _ _=>false
 |.fz xs=>PV.noXs xs
 |.lst xs=>PV.noXs xs
 |.tup xs=>PV.noXs xs
 |.non=>true
 |.bl _=>true
 |.int _=>true
 |.str _=>true
noncomputable def PV.noXs:List PV->Bool
 |[]=>true
 |x::xs=>x.noX&&PV.noXs xs
end
theorem PV.noXs_ints:∀(ns:List Int),PV.noXs (ns.map PV.int)=true
 |[]=>rfl
 |n::ns=>by simp[PV.noXs,PV.noX,PV.noXs_ints ns]
mutual
noncomputable def PV.dat:PV->PyData
 |.non=>.none
 |.bl b=>.bool b
 |.int i=>.int i
 |.str x=>.str x
 |.exc _=>.none
 |.exa _ _=>.none
 |.box _ _ _=>.none
 |.fz xs=>.list (PV.dats xs)
 |.lst xs=>.list (PV.dats xs)
 |.tup xs=>.tuple (PV.dats xs)
noncomputable def PV.dats:List PV->List PyData
 |[]=>[]
 |x::xs=>x.dat::PV.dats xs
end
section
variable {X:Cx}{pins:List (Addr×Obj)}{σ:St}{H:Hp}{s:Shared}{S:Addr->Prop}
theorem JG {K:W.Frag}{a:Addr}{vs:List V} (h:(Rd H a (.lst vs)/\S a)\/KL K a vs):SqL K H a vs:=by
 rcases h with h|h
 ·exact .inl h.1
 ·exact .inr h
mutual
theorem Rep.reads (I:Inv X pins σ H s):∀{x:PV}{v:V}{u:Value},x.noX=true->Rep X.K H S x v->ZY v u->∃as,Reads s.heap u x.dat as
 |.non,_,_,_,h,r=>by cases h;cases r;exact⟨_,.none⟩
 |.bl _,_,_,_,h,r=>by cases h;cases r;exact⟨_,.bool _⟩
 |.int _,_,_,_,h,r=>by cases h;obtain⟨t,rfl⟩:=r;exact⟨_,.int _ _⟩
 |.str _,_,_,_,h,r=>by cases h;obtain⟨t,rfl⟩:=r;exact⟨_,.str _ _⟩
 |.exc _,_,_,z,_,_=>by simp[PV.noX] at z
 |.exa _ _,_,_,z,_,_=>by simp[PV.noX] at z
 |.box _ _ _,_,_,z,_,_=>by simp[PV.noX] at z
 |.fz xs,_,_,z,h,r=>by
  obtain⟨a,vs,rfl,⟨o,hn⟩,hr⟩:=h
  cases r
  obtain⟨its,rv,pl,_⟩:=I.list (JG (S:=fun _=>True) (.inl ⟨.inr ⟨o,hn.1⟩,trivial⟩))
  obtain⟨as,ra⟩:=Reps.reads I (by simpa[PV.noX] using z) hr rv
  obtain⟨o,ho,hc,n,hd⟩:=pl.isList
  exact⟨_,.list ho hc hd (by simpa using ra)⟩
 |.lst xs,_,_,z,h,r=>by
  obtain⟨a,vs,rfl,hn,hr⟩:=h
  cases r
  obtain⟨its,rv,pl,_⟩:=I.list (JG hn)
  obtain⟨as,ra⟩:=Reps.reads I (by simpa[PV.noX] using z) hr rv
  obtain⟨o,ho,hc,n,hd⟩:=pl.isList
  exact⟨_,.list ho hc hd (by simpa using ra)⟩
 |.tup xs,_,_,z,h,r=>by
  obtain⟨a,vs,rfl,hn,hr⟩:=h
  cases r
  obtain⟨its,rv,⟨o,ho,hc,n,hd⟩,_⟩:=I.tuple hn.sqT
  obtain⟨as,ra⟩:=Reps.reads I (by simpa[PV.noX] using z) hr rv
  exact⟨_,.tuple ho hc hd (by simpa using ra)⟩
theorem Reps.reads (I:Inv X pins σ H s):∀{xs:List PV}{vs:List V}{us:List Value},PV.noXs xs=true->Reps X.K H S xs vs->ZP vs us->∃as,ReadsAll s.heap us (PV.dats xs) as
 |[],_,_,_,h,r=>by rw[h] at r;cases r;exact⟨_,.nil⟩
 |x::xs,_,_,z,h,r=>by
  simp only[PV.noXs,Bool.and_eq_true] at z
  obtain⟨v,vs,rfl,h1,h2⟩:=h
  cases r with
  |cons r1 r2 =>
   obtain⟨as,a1⟩:=Rep.reads I z.1 h1 r1
   obtain⟨bs,b1⟩:=Reps.reads I z.2 h2 r2
   exact⟨_,.cons a1 b1⟩
end
noncomputable def okD (x:PV):Bool:=x.noX&&x.dat.canLay0&&decide (x.dat.depth<=64)
noncomputable def Zj8 (K:W.Frag) (g:Bool->Bool):R2:=fun x y H Q=>∃p q,Rep K H (fun _=>True) p x/\Rep K H (fun _=>True) q y/\okD p=true/\okD q=true/\Q (.bl (g (PyData.eqv p.dat q.dat))) H
theorem JE {K:W.Frag} (hu:X.A.units+64<cLine) (e:X.K=K:=by rfl):OpR X (compareOp .Eq) (Zj8 K id):=by
 subst e
 intro pins s σ H x y v u Q I rx ry h
 obtain⟨p,q,h1,h2,h3,h4,hq⟩:=h
 simp only[okD,Bool.and_eq_true,decide_eq_true_eq] at h3 h4
 obtain⟨as,ra⟩:=h1.reads I h3.1.1 rx
 obtain⟨bs,rb⟩:=h2.reads I h4.1.1 ry
 exact SeqAt.rcAt_reads ra rb h3.1.2 h4.1.2 (by have:=Nat.min_le_left p.dat.depth q.dat.depth;omega) _ _ _ _ ⟨.bl (PyData.eqv p.dat q.dat),H,I,rfl,hq⟩
theorem Zah {K:W.Frag} (hu:X.A.units+64<cLine) (e:X.K=K:=by rfl):OpR X (compareOp .NotEq) (Zj8 K (!·)):=by
 subst e
 intro pins s σ H x y v u Q I rx ry h
 obtain⟨p,q,h1,h2,h3,h4,hq⟩:=h
 simp only[okD,Bool.and_eq_true,decide_eq_true_eq] at h3 h4
 obtain⟨as,ra⟩:=h1.reads I h3.1.1 rx
 obtain⟨bs,rb⟩:=h2.reads I h4.1.1 ry
 exact SeqAt.rcNeAt_reads ra rb h3.1.2 h4.1.2 (by have:=Nat.min_le_left p.dat.depth q.dat.depth;omega) _ _ _ _ ⟨.bl (!PyData.eqv p.dat q.dat),H,I,rfl,hq⟩
end
noncomputable def QJ (g:Bool->Bool) (x y:PV):Rr PV:=if (okD x&&okD y)=true then .ok (.bl (g (PyData.eqv x.dat y.dat))) else .bad
def Zbw (i j:Int):Prop:=i.natAbs<2^60000/\j.natAbs<2^60000
def Zbx (i j:Int):Prop:=0<j/\j.natAbs<2^9000
noncomputable instance (i j:Int):Decidable (Zbw i j):=by unfold Zbw;infer_instance
noncomputable instance (i j:Int):Decidable (Zbx i j):=by unfold Zbx;infer_instance
noncomputable instance (i j:Int):Decidable (Zib i j):=by unfold Zib;infer_instance
theorem ZeM {i:Int}{n:Nat} (h:i.natAbs<2^n):Builtin.Int.intBits i<=n:=by
 unfold Builtin.Int.intBits
 split
 ·exact Zre _
 ·rename_i h0
  have:i.natAbs≠0:=by simpa using h0
  exact Nat.succ_le_of_lt ((Nat.log2_lt this).mpr h)
section
variable {X:Cx}
theorem Zhd:OpR X (binaryOp .Mult) (rI Zbw fun i j=>.int (i*j)):=opI fun _ _ _ _ _ _ _ hc q=>mul_int q (PyProof.Rows.mulOk_of_bits (ZeM hc.1) (ZeM hc.2) (by decide))
theorem J8:OpR X (binaryOp .FloorDiv) (rI Zbx fun i j=>.int (i/j)):=opI fun i j _ _ _ _ _ hc q=>by
 refine floordiv_int (by have:=hc.1;omega) ?_ (.inl (PyProof.noPylong_of_log2 ?_))
 ·rw[Int.fdiv_eq_ediv_of_nonneg _ (by have:=hc.1;omega)];exact q
 ·have h0:j.natAbs≠0:=by have:=hc.1;omega
  exact(Nat.log2_lt h0).mpr hc.2
variable {K:W.Frag}{B:Addr->Prop}{EX:PX->Hp->Prop}{H0 H:Hp}{σ:St}{Γ Γ' Γ1 Γ2:List Md}{ρ:List PV}{F:Nat->List Addr}{R:List Addr}{k:Kd}{x:PV}{v:V}{ta tb:TE}{fa fb fc:List PV->Rr PV}
noncomputable abbrev ZjX:PV->PV->Rr PV:=oI (fun _ _=>true) fun i j=>.int (i+j)
noncomputable abbrev ZkX:PV->PV->Rr PV:=oI (fun _ _=>true) fun i j=>.int (i-j)
noncomputable abbrev ZkY:PV->PV->Rr PV:=oI (fun i j=>decide (Zbw i j)) fun i j=>.int (i*j)
noncomputable abbrev ZjW:PV->PV->Rr PV:=oI (fun i j=>decide (Zbx i j)) fun i j=>.int (i/j)
noncomputable abbrev ZkZ:PV->PV->Rr PV:=oI (fun _ j=>decide (0<j)) fun i j=>.int (i%j)
noncomputable abbrev ZjV:PV->PV->Rr PV:=oI (fun i j=>decide (Zib i j)) fun i j=>.int (i^j.toNat)
noncomputable abbrev pLt:PV->PV->Rr PV:=oI (fun _ _=>true) fun i j=>.bl (decide (i<j))
noncomputable abbrev pLe:PV->PV->Rr PV:=oI (fun _ _=>true) fun i j=>.bl (decide (i<=j))
noncomputable abbrev pGt:PV->PV->Rr PV:=oI (fun _ _=>true) fun i j=>.bl (decide (j<i))
noncomputable abbrev pGe:PV->PV->Rr PV:=oI (fun _ _=>true) fun i j=>.bl (decide (j<=i))
theorem ZfS {D:Int->Int->Prop}{C:Int->Int->Bool}{g:Int->Int->PV}{g':Int->Int->V} (hC:∀i j,C i j=true->D i j) (hg:∀H i j,Rep K H (fun _=>True) (g i j) (g' i j)) (hf:∀i j,(g i j).flat=true)
  (ha:DE K EX Γ Γ1 .A ta fa) (hb:DE K EX Γ1 Γ2 .A tb fb):DE K EX Γ Γ2 .P (tOp (rI D g') ta tb) (fun ρ=>(fa ρ).bind fun x=>(fb ρ).bind fun y=>oI C g x y):=
 Zh8 (Zlo hC hg hf) (ZdS hf) ZbQ ha hb
theorem Qn {g:Int->Int->PV}{g':Int->Int->V} (hg:∀H i j,Rep K H (fun _=>True) (g i j) (g' i j)) (hf:∀i j,(g i j).flat=true)
  (ha:DE K EX Γ Γ1 .A ta fa) (hb:DE K EX Γ1 Γ2 .A tb fb):DE K EX Γ Γ2 .P (tOp (rI0 g') ta tb) (fun ρ=>(fa ρ).bind fun x=>(fb ρ).bind fun y=>oI (fun _ _=>true) g x y):=
 Zh8 (Zka hg hf) (ZdS hf) ZbQ ha hb
theorem Za4 (ha:DE K EX Γ Γ1 .A ta fa) (hb:DE K EX Γ1 Γ2 .A tb fb):DE K EX Γ Γ2 .P (tOp (rI0 fun i j=>.int (i+j)) ta tb) (fun ρ=>(fa ρ).bind fun x=>(fb ρ).bind fun y=>ZjX x y):=Qn (fun _ _ _=>rfl) (fun _ _=>rfl) ha hb
theorem Ze4 (ha:DE K EX Γ Γ1 .A ta fa) (hb:DE K EX Γ1 Γ2 .A tb fb):DE K EX Γ Γ2 .P (tOp (rI0 fun i j=>.int (i-j)) ta tb) (fun ρ=>(fa ρ).bind fun x=>(fb ρ).bind fun y=>ZkX x y):=Qn (fun _ _ _=>rfl) (fun _ _=>rfl) ha hb
theorem Zh9 (ha:DE K EX Γ Γ1 .A ta fa) (hb:DE K EX Γ1 Γ2 .A tb fb):DE K EX Γ Γ2 .P (tOp (rI0 fun i j=>.bl (decide (i<j))) ta tb) (fun ρ=>(fa ρ).bind fun x=>(fb ρ).bind fun y=>pLt x y):=Qn (fun _ _ _=>rfl) (fun _ _=>rfl) ha hb
theorem Zko (ha:DE K EX Γ Γ1 .A ta fa) (hb:DE K EX Γ1 Γ2 .A tb fb):DE K EX Γ Γ2 .P (tOp (rI0 fun i j=>.bl (decide (i<=j))) ta tb) (fun ρ=>(fa ρ).bind fun x=>(fb ρ).bind fun y=>pLe x y):=Qn (fun _ _ _=>rfl) (fun _ _=>rfl) ha hb
theorem Zjg (ha:DE K EX Γ Γ1 .A ta fa) (hb:DE K EX Γ1 Γ2 .A tb fb):DE K EX Γ Γ2 .P (tOp (rI0 fun i j=>.bl (decide (j<i))) ta tb) (fun ρ=>(fa ρ).bind fun x=>(fb ρ).bind fun y=>pGt x y):=Qn (fun _ _ _=>rfl) (fun _ _=>rfl) ha hb
theorem Zkp (ha:DE K EX Γ Γ1 .A ta fa) (hb:DE K EX Γ1 Γ2 .A tb fb):DE K EX Γ Γ2 .P (tOp (rI0 fun i j=>.bl (decide (j<=i))) ta tb) (fun ρ=>(fa ρ).bind fun x=>(fb ρ).bind fun y=>pGe x y):=Qn (fun _ _ _=>rfl) (fun _ _=>rfl) ha hb
theorem Zjf (ha:DE K EX Γ Γ1 .A ta fa) (hb:DE K EX Γ1 Γ2 .A tb fb):DE K EX Γ Γ2 .P (tOp (rI Zbw fun i j=>.int (i*j)) ta tb) (fun ρ=>(fa ρ).bind fun x=>(fb ρ).bind fun y=>ZkY x y):=ZfS (fun _ _ h=>of_decide_eq_true h) (fun _ _ _=>rfl) (fun _ _=>rfl) ha hb
theorem UO (ha:DE K EX Γ Γ1 .A ta fa) (hb:DE K EX Γ1 Γ2 .A tb fb):DE K EX Γ Γ2 .P (tOp (rI Zbx fun i j=>.int (i/j)) ta tb) (fun ρ=>(fa ρ).bind fun x=>(fb ρ).bind fun y=>ZjW x y):=ZfS (fun _ _ h=>of_decide_eq_true h) (fun _ _ _=>rfl) (fun _ _=>rfl) ha hb
theorem Vf (ha:DE K EX Γ Γ1 .A ta fa) (hb:DE K EX Γ1 Γ2 .A tb fb):DE K EX Γ Γ2 .P (tOp (rI (fun _ j=>0<j) fun i j=>.int (i%j)) ta tb) (fun ρ=>(fa ρ).bind fun x=>(fb ρ).bind fun y=>ZkZ x y):=ZfS (fun _ _ h=>of_decide_eq_true h) (fun _ _ _=>rfl) (fun _ _=>rfl) ha hb
theorem Zcm (ha:DE K EX Γ Γ1 .A ta fa) (hb:DE K EX Γ1 Γ2 .A tb fb):DE K EX Γ Γ2 .P (tOp (rI Zib fun i j=>.int (i^j.toNat)) ta tb) (fun ρ=>(fa ρ).bind fun x=>(fb ρ).bind fun y=>ZjV x y):=ZfS (fun _ _ h=>of_decide_eq_true h) (fun _ _ _=>rfl) (fun _ _=>rfl) ha hb
noncomputable def Zj9 (x:PV):Rr PV:=match x with
 |.int i=>.ok (.int (-i))
 |_=>.bad
theorem Za0 (ha:DE K EX Γ Γ1 .A ta fa):DE K EX Γ Γ1 .P (tUn (rU fun i=>.int (-i)) ta) (fun ρ=>(fa ρ).bind Zj9):=by
 refine Zkn (fun {H x v Q} rx ⟨z,e,q⟩=>?_) (fun x e h=>?_) ha
 ·cases x<;>first|(simp only[Zj9] at e;cases e;done)|skip
  cases e;cases rx
  exact⟨_,rfl,q rfl _ rfl⟩
 ·cases x<;>(simp only[Zj9] at h;cases h)
theorem Qe {g:Bool->Bool} (x y:PV) (e:PX):QJ g x y≠.exc e:=by
 unfold QJ
 intro h
 split at h<;>cases h
theorem ZdH {g:Bool->Bool} (x y z:PV) (h:QJ g x y=.ok z):z.flat=true:=by
 unfold QJ at h
 split at h
 ·cases h;rfl
 ·cases h
theorem Jl {g:Bool->Bool} (ha:DE K EX Γ Γ1 .A ta fa) (hb:DE K EX Γ1 Γ2 .A tb fb):DE K EX Γ Γ2 .P (tOp (Zj8 K g) ta tb) (fun ρ=>(fa ρ).bind fun x=>(fb ρ).bind fun y=>QJ g x y):=by
 refine Zh8 (fun {H x y v w Q} rx ry ⟨z,e,q⟩=>?_) ZdH Qe ha hb
 unfold QJ at e
 by_cases h:(okD x&&okD y)=true
 ·rw[if_pos h] at e;cases e
  rw[Bool.and_eq_true] at h
  exact⟨x,y,rx,ry,h.1,h.2,q rfl _ rfl⟩
 ·rw[if_neg h] at e;cases e
noncomputable def Zi4 (g:Bool->Bool) (x:PV):Rr PV:=match x with
 |.non=>.ok (.bl (g true))
 |_=>.ok (.bl (g false))
theorem ZgN {x:PV}{v:V}{S:Addr->Prop} (h:Rep K H S x v):decide (v=.non)=match x with|.non=>true|_=>false:=by
 cases x<;>first|(cases h;rfl)|(obtain⟨a,vs,rfl,_⟩:=h;rfl)|(obtain⟨a,vs,c,rfl,_⟩:=h;rfl)|(obtain⟨a,o,c,d,fs,rfl,_⟩:=h;rfl)
noncomputable def asB (x:PV):Rr Bool:=match x with
 |.bl b=>.ok b
 |_=>.bad
theorem Dn.asB {x:PV}{ok:Bool->Prop}{ex:PX->Prop} (d:Dn (asB x) ok ex):∃b,x=.bl b/\ok b:=by
 cases x with
 |bl b=>exact⟨b,rfl,d⟩
 |_=>exact d.elim
theorem Zje (ha:DE K EX Γ Γ1 .A ta fa):DE K EX Γ Γ1 .P (Zig ta) (fun ρ=>(fa ρ).bind fun x=>(asB x).bind fun b=>.ok (.bl (!b))):=fun B H0 H σ ρ F R Q A d=>by
 refine ha B H0 H σ ρ F R _ A (d.bind.imp (fun x _ d v H1 s1 r1=>?_) fun e q=>q)
 obtain⟨b,rfl,d⟩:=d.bind.asB
 obtain⟨F1,f1,p1,A1⟩:=r1
 cases p1
 exact⟨b,rfl,d _ H1 s1 ⟨F1,f1,rfl,rfl,A1⟩⟩
theorem Res.shift {H1:Hp}{F1:Nat->List Addr}{k:Kd}{Γ2:List Md}{y:PV}{w:V}{H2:Hp} (s1:Zw H H1) (f1:∀i,∀a∈F1 i,a∈F i) (h:Res K B H0 H1 σ Γ2 ρ F1 R k y w H2):Res K B H0 H σ Γ2 ρ F R k y w H2:=by
 obtain⟨F2,f2,h⟩:=h
 refine⟨F2,fun i a ha=>f1 i a (f2 i a ha), ?_⟩
 have org:∀a,(H1 a=none\/∃i,a∈F1 i)->(H a=none\/∃i,a∈F i):=fun a h=>h.elim (fun z=>.inl (s1.free z)) fun⟨i,z⟩=>.inr ⟨i,f1 i a z⟩
 cases k with
 |P=>exact h
 |F=>obtain⟨G,h1,h2,h3⟩:=h;exact⟨G,h1,fun a ha=>⟨(h2 a ha).1,org a (h2 a ha).2⟩,h3⟩
 |T=>obtain⟨a,vs,xs,h1,h2,h3,h4,h5,h6,h7⟩:=h;exact⟨a,vs,xs,h1,h2,h3,h4,h5,org a h6,h7⟩
 |Z=>exact h
 |A=>exact h
 |N=>exact h.elim
theorem Za3 (ha:DE K EX Γ Γ .A ta fa) (hb:DE K EX Γ Γ .P tb fb):DE K EX Γ Γ .P (Zin ta tb) (fun ρ=>(fa ρ).bind fun x=>(asB x).bind fun b=>if b=true then fb ρ else .ok (.bl false)):=fun B H0 H σ ρ F R Q A d=>by
 refine ha B H0 H σ ρ F R _ A (d.bind.imp (fun x _ d v H1 s1 r1=>?_) fun e q=>q)
 obtain⟨b,rfl,d⟩:=d.bind.asB
 obtain⟨F1,f1,p1,A1⟩:=r1
 cases p1
 refine⟨b,rfl, ?_⟩
 cases b with
 |true=>exact hb B H0 H1 σ ρ F1 R _ A1 (d.imp (fun y _ q w H2 s2 r2=>q w H2 (s1.trans s2) (r2.shift s1 f1)) fun e q=>q)
 |false=>exact d _ H1 s1 ⟨F1,f1,rfl,rfl,A1⟩
theorem ZO (ha:DE K EX Γ Γ' .A ta fa):DT K EX Γ Γ' (Zfb ta) (fun ρ=>(fa ρ).bind asB):=fun B H0 H σ ρ F R Q A d=>by
 refine ha B H0 H σ ρ F R _ A (d.bind.imp (fun x _ d v H1 s1 r1=>?_) fun e q=>q)
 obtain⟨b,rfl,d⟩:=d.asB
 obtain⟨F1,f1,p1,A1⟩:=r1
 cases p1
 exact⟨b,rfl,d H1 F1 s1 f1 A1⟩
theorem Ql (ha:DE K EX Γ Γ' .A ta fa):DT K EX Γ Γ' (tB ta) (fun ρ=>(fa ρ).bind asB):=ZO ha
theorem Uc {c d:TT}{fc fd:List PV->Rr Bool} (hc:DT K EX Γ Γ c fc) (hd:DT K EX Γ Γ d fd):DT K EX Γ Γ (tOr c d) (fun ρ=>(fc ρ).bind fun b=>if b=true then .ok true else fd ρ):=fun B H0 H σ ρ F R Q A dn=>by
 refine hc B H0 H σ ρ F R _ A (dn.bind.imp (fun b _ dn H1 F1 s1 f1 A1=>?_) fun e q=>q)
 cases b with
 |false=>exact hd B H0 H1 σ ρ F1 R _ A1 (dn.imp (fun y _ q H2 F2 s2 f2 A2=>q H2 F2 (s1.trans s2) (fun i a h=>f1 i a (f2 i a h)) A2) fun e q=>q)
 |true=>exact dn H1 F1 s1 f1 A1
theorem Jk {c:TT}{fc:List PV->Rr Bool} (hc:DT K EX Γ Γ' c fc):DT K EX Γ Γ' (ZkJ c) (fun ρ=>(fc ρ).bind fun b=>.ok (!b)):=fun B H0 H σ ρ F R Q A dn =>
 hc B H0 H σ ρ F R _ A (dn.bind.imp (fun b _ dn H1 F1 s1 f1 A1=>dn H1 F1 s1 f1 A1) fun e q=>q)
end
def DAA (K:W.Frag) (EX:PX->Hp->Prop) (Γ Γ':List Md) (ta:TA) (f:List PV->Rr (List PV)):Prop:=
 ∀(B:Addr->Prop) (H0 H:Hp) (σ:St) (ρ:List PV) (F:Nat->List Addr) (R:List Addr) (Q:List V->Hp->Prop),Ag K B H0 H σ Γ ρ F R ->
  Dn (f ρ) (fun xs=>∀vs H' F',Zw H H'->(∀i,∀a∈F' i,a∈F i)->Reps K H' (fun _=>True) xs vs->Ag K B H0 H' σ Γ' ρ F' R->Q vs H') (fun e=>∀H',Zw H0 H'->EX e H')->ta σ H Q
def DAF (K:W.Frag) (EX:PX->Hp->Prop) (Γ Γ':List Md) (ta:TA) (f:List PV->Rr (List PV)):Prop:=
 ∀(B:Addr->Prop) (H0 H:Hp) (σ:St) (ρ:List PV) (F:Nat->List Addr) (R:List Addr) (Q:List V->Hp->Prop),Ag K B H0 H σ Γ ρ F R ->
  Dn (f ρ) (fun xs=>∀vs H' F' G,Zw H H'->(∀i,∀a∈F' i,a∈F i)->Trees K H' xs vs G->(∀a∈G,a ∉ R/\(H a=none\/∃i,a∈F i))->Ag K B H0 H' σ Γ' ρ F' (G++R)->Q vs H') (fun e=>∀H',Zw H0 H'->EX e H')->ta σ H Q
def DAZ (K:W.Frag) (EX:PX->Hp->Prop) (Γ Γ':List Md) (ta:TA) (f:List PV->Rr (List PV)):Prop:=
 ∀(B:Addr->Prop) (H0 H:Hp) (σ:St) (ρ:List PV) (F:Nat->List Addr) (R:List Addr) (Q:List V->Hp->Prop),Ag K B H0 H σ Γ ρ F R ->
  Dn (f ρ) (fun xs=>∀vs H' F',Zw H H'->(∀i,∀a∈F' i,a∈F i)->Reps K H' (NO B F' R) xs vs->Ag K B H0 H' σ Γ' ρ F' R->Q vs H') (fun e=>∀H',Zw H0 H'->EX e H')->ta σ H Q
section
variable {K:W.Frag}{B:Addr->Prop}{EX:PX->Hp->Prop}{H0 H H':Hp}{σ:St}{Γ Γ' Γ1 Γ2:List Md}{ρ:List PV}{F F':Nat->List Addr}{R:List Addr}{x:PV}{v:V}{te tb:TE}{ta:TA}{f fb:List PV->Rr PV}{fa:List PV->Rr (List PV)}
theorem Zg:DAA K EX Γ Γ ZaL (fun _=>.ok []):=fun B H0 H σ ρ F R Q A d=>d [] H F (Zw.refl H) (fun _ _ h=>h) rfl A
theorem Zb (he:DE K EX Γ Γ1 .A te f) (ha:DAA K EX Γ1 Γ2 ta fa):DAA K EX Γ Γ2 (J1 te ta) (fun ρ=>(f ρ).bind fun x=>(fa ρ).bind fun xs=>.ok (x::xs)):=fun B H0 H σ ρ F R Q A d=>by
 refine he B H0 H σ ρ F R _ A (d.bind.imp (fun x _ d v H1 s1 r1=>?_) fun e q=>q)
 obtain⟨F1,f1,p1,A1⟩:=r1
 refine ha B H0 H1 σ ρ F1 R _ A1 (d.bind.imp (fun xs _ d vs H2 F2 s2 f2 p2 A2=>?_) fun e q=>q)
 exact d (v::vs) H2 F2 (s1.trans s2) (fun i a h=>f1 i a (f2 i a h)) ⟨v,vs,rfl,p1.same s2,p2⟩ A2
theorem ZH:DAF K EX Γ Γ ZaL (fun _=>.ok []):=fun B H0 H σ ρ F R Q A d=>d [] H F [] (Zw.refl H) (fun _ _ h=>h) ⟨rfl,rfl⟩ (by simp) A
theorem Z0 (he:DE K EX Γ Γ1 .F te f) (ha:DAF K EX Γ1 Γ2 ta fa):DAF K EX Γ Γ2 (J1 te ta) (fun ρ=>(f ρ).bind fun x=>(fa ρ).bind fun xs=>.ok (x::xs)):=fun B H0 H σ ρ F R Q A d=>by
 refine he B H0 H σ ρ F R _ A (d.bind.imp (fun x _ d v H1 s1 r1=>?_) fun e q=>q)
 obtain⟨F1,f1,G1,p1,o1,A1⟩:=r1
 refine ha B H0 H1 σ ρ F1 (G1++R) _ A1 (d.bind.imp (fun xs _ d vs H2 F2 G2 s2 f2 p2 o2 A2=>?_) fun e q=>q)
 refine d (v::vs) H2 F2 (G1++G2) (s1.trans s2) (fun i a h=>f1 i a (f2 i a h)) ⟨v,vs,G1,G2,rfl,p1.same s2,p2,fun a ha z=>(o2 a z).1 (Zq8 _ ha),rfl⟩ (fun a ha=>?_) (A2.less fun a ha=>?_)
 ·rcases Zq9.mp ha with z|z
  ·exact o1 a z
  ·obtain⟨o3,o4⟩:=o2 a z
   exact⟨fun q=>o3 (Zq7 _ q),o4.elim (fun q=>.inl (s1.free q)) fun⟨i,q⟩=>.inr ⟨i,f1 i a q⟩⟩
 ·simp only[Zq9] at ha ⊢
  rcases ha with (z|z)|z
  ·exact .inr (.inl z)
  ·exact .inl z
  ·exact .inr (.inr z)
theorem ZhC:DAZ K EX Γ Γ ZaL (fun _=>.ok []):=fun B H0 H σ ρ F R Q A d=>d [] H F (Zw.refl H) (fun _ _ h=>h) rfl A
theorem ZfV (he:DE K EX Γ Γ1 .Z te f) (ha:DAZ K EX Γ1 Γ2 ta fa):DAZ K EX Γ Γ2 (J1 te ta) (fun ρ=>(f ρ).bind fun x=>(fa ρ).bind fun xs=>.ok (x::xs)):=fun B H0 H σ ρ F R Q A d=>by
 refine he B H0 H σ ρ F R _ A (d.bind.imp (fun x _ d v H1 s1 r1=>?_) fun e q=>q)
 obtain⟨F1,f1,p1,A1⟩:=r1
 refine ha B H0 H1 σ ρ F1 R _ A1 (d.bind.imp (fun xs _ d vs H2 F2 s2 f2 p2 A2=>?_) fun e q=>q)
 refine d (v::vs) H2 F2 (s1.trans s2) (fun i a h=>f1 i a (f2 i a h)) ⟨v,vs,rfl, ?_,p2⟩ A2
 exact Rep.mono (fun a us s r=>⟨r.same s2,s.1,s.2.1,fun i z=>s.2.2 i (f2 i a z)⟩) (fun a us r=>s2.im r) p1
noncomputable def mkT (xs:List PV):Rr PV:=if xs.length<=1000 then .ok (.tup xs) else .bad
noncomputable def mkL (xs:List PV):Rr PV:=if xs.length<=1000 then .ok (.lst xs) else .bad
theorem Dn.mkT {xs:List PV}{ok:PV->Prop}{ex:PX->Prop} (d:Dn (mkT xs) ok ex):xs.length<=1000/\ok (.tup xs):=by
 unfold L2.mkT at d
 by_cases h:xs.length<=1000
 ·rw[if_pos h] at d;exact⟨h,d⟩
 ·rw[if_neg h] at d;exact d.elim
theorem Dn.mkL {xs:List PV}{ok:PV->Prop}{ex:PX->Prop} (d:Dn (mkL xs) ok ex):xs.length<=1000/\ok (.lst xs):=by
 unfold L2.mkL at d
 by_cases h:xs.length<=1000
 ·rw[if_pos h] at d;exact⟨h,d⟩
 ·rw[if_neg h] at d;exact d.elim
theorem Zh7 (ha:DAF K EX Γ Γ' ta fa):DE K EX Γ Γ' .F (Zj5 ta) (fun ρ=>(fa ρ).bind mkT):=fun B H0 H σ ρ F R Q A d=>by
 refine ha B H0 H σ ρ F R _ A (d.bind.imp (fun xs _ d vs H1 F1 G s1 f1 p1 o1 A1=>?_) fun e q=>q)
 obtain⟨hl,d⟩:=d.mkT
 refine⟨by rw[p1.length];exact V4 hl,fun p hp=>?_⟩
 have e:Zw H1 (upd H1 p (.tup vs)):=Zw.new hp
 exact d _ _ (s1.trans e) ⟨F1,f1,G,⟨p,vs,rfl,⟨Zt,trivial⟩,p1.same e⟩,o1,A1.grow e⟩
theorem UN (ha:DAA K EX Γ Γ' ta fa):DE K EX Γ Γ' .A (Zj5 ta) (fun ρ=>(fa ρ).bind mkT):=fun B H0 H σ ρ F R Q A d=>by
 refine ha B H0 H σ ρ F R _ A (d.bind.imp (fun xs _ d vs H1 F1 s1 f1 p1 A1=>?_) fun e q=>q)
 obtain⟨hl,d⟩:=d.mkT
 refine⟨by rw[p1.length];exact V4 hl,fun p hp=>?_⟩
 have e:Zw H1 (upd H1 p (.tup vs)):=Zw.new hp
 exact d _ _ (s1.trans e) ⟨F1,f1,⟨p,vs,rfl,⟨Zt,trivial⟩,p1.same e⟩,A1.grow e⟩
theorem Res.newF {H1:Hp}{F1:Nat->List Addr}{G:List Addr}{xs:List PV}{vs:List V}{p:Addr} (s1:Zw H H1) (f1:∀i,∀a∈F1 i,a∈F i) (p1:Trees K H1 xs vs G) (o1:∀a∈G,a ∉ R/\(H a=none\/∃i,a∈F i)) (A1:Ag K B H0 H1 σ Γ' ρ F1 (G++R)) (hp:H1 p=none) :
  Res K B H0 H σ Γ' ρ F R .F (.lst xs) (.ref p) (upd H1 p (.lst vs)):=by
 have e:Zw H1 (upd H1 p (.lst vs)):=Zw.new hp
 have hf:=A1.fresh hp
 refine⟨F1,f1,p::G,⟨p,vs,G,rfl,Zt,p1.same e,fun z=>hf.1 (Zq8 _ z),rfl⟩,fun a ha=>?_,A1.new hp⟩
 rcases ZqE.mp ha with rfl|z
 ·exact⟨fun z=>hf.1 (Zq7 _ z),.inl (s1.free hp)⟩
 ·exact o1 a z
theorem Res.newP {H1:Hp}{F1:Nat->List Addr}{xs:List PV}{vs:List V}{p:Addr}{S:Addr->Prop} (s1:Zw H H1) (f1:∀i,∀a∈F1 i,a∈F i) (p1:Reps K H1 S xs vs) (hx:PV.flats xs=true) (A1:Ag K B H0 H1 σ Γ' ρ F1 R) (hp:H1 p=none) :
  Res K B H0 H σ Γ' ρ F R .F (.lst xs) (.ref p) (upd H1 p (.lst vs)):=Res.newF (G:=[]) s1 f1 (p1.trees hx) (by simp) A1 hp
theorem ZM (ha:DAF K EX Γ Γ' ta fa):DE K EX Γ Γ' .F (Zih ta) (fun ρ=>(fa ρ).bind mkL):=fun B H0 H σ ρ F R Q A d=>by
 refine ha B H0 H σ ρ F R _ A (d.bind.imp (fun xs _ d vs H1 F1 G s1 f1 p1 o1 A1=>?_) fun e q=>q)
 obtain⟨hl,d⟩:=d.mkL
 refine⟨by rw[p1.length];exact V4 hl,fun p hp=>d _ _ (s1.trans (Zw.new hp)) (Res.newF s1 f1 p1 o1 A1 hp)⟩
noncomputable def pIx (x y:PV):Rr PV:=match x,y with
 |.lst xs,.int i=>match atI xs i with
  |some z=>.ok z
  |none=>.bad
 |.tup xs,.int i=>match atI xs i with
  |some z=>.ok z
  |none=>.bad
 |_,_=>.bad
theorem Zdu {S:Addr->Prop}{xs:List PV}{vs:List V}{i:Int}{z:PV} (h:Reps K H S xs vs) (e:atI xs i=some z):∃u,atI vs i=some u/\Rep K H S z u:=by
 unfold atI at e ⊢
 rw[h.length]
 cases q:ixN xs.length i with
 |none=>rw[q] at e;cases e
 |some j =>
  rw[q] at e
  obtain⟨u,e1,e2⟩:=h.get e
  exact⟨u,e1,e2⟩
theorem Zis {S:Addr->Prop}{x y z:PV}{v w:V}{Q:VK} (hx:Rep K H S x v) (hy:Rep K H (fun _=>True) y w) (e:pIx x y=.ok z) (q:∀u,Rep K H S z u->Q u H):rIx K v w H Q:=by
 cases x<;>cases y<;>first|(simp only[pIx] at e;cases e;done)|skip
 ·rename_i xs i
  obtain⟨a,vs,rfl,hn,hr⟩:=hx
  cases hy
  simp only[pIx] at e
  cases e1:atI xs i with
  |none=>rw[e1] at e;cases e
  |some z' =>
   rw[e1] at e;cases e
   obtain⟨u,e2,e3⟩:=Zdu hr e1
   exact .inl ⟨a,vs,i,u,rfl,rfl,JG hn,e2,q u e3⟩
 ·rename_i xs i
  obtain⟨a,vs,rfl,hn,hr⟩:=hx
  cases hy
  simp only[pIx] at e
  cases e1:atI xs i with
  |none=>rw[e1] at e;cases e
  |some z' =>
   rw[e1] at e;cases e
   obtain⟨u,e2,e3⟩:=Zdu hr e1
   exact .inr (.inl ⟨a,vs,i,u,rfl,rfl,hn.sqT,e2,q u e3⟩)
theorem ZdC (x y:PV) (e:PX):pIx x y≠.exc e:=by
 cases x<;>cases y<;>first|(intro h;simp only[pIx] at h;cases h;done)|skip
 all_goals
  intro h
  simp only[pIx] at h
  split at h<;>cases h
theorem Dn.pIx {x y:PV}{ok:PV->Prop}{ex:PX->Prop} (d:Dn (pIx x y) ok ex):∃z,pIx x y=.ok z/\ok z:=by
 cases e:L2.pIx x y with
 |ok z=>rw[e] at d;exact⟨z,rfl,d⟩
 |exc q=>exact absurd e (ZdC x y q)
 |bad=>rw[e] at d;exact d.elim
theorem Ja {te ta':TE}{fa':List PV->Rr PV} (ha:DE K EX Γ Γ1 .A ta' fa') (hb:DE K EX Γ1 Γ2 .A tb fb):DE K EX Γ Γ2 .A (tOp (rIx K) ta' tb) (fun ρ=>(fa' ρ).bind fun x=>(fb ρ).bind fun y=>pIx x y):=fun B H0 H σ ρ F R Q A d=>by
 refine two ha hb A d.bind2 fun x y v w H' F' d s hF p1 p2 A'=>?_
 obtain⟨z,e,d⟩:=d.pIx
 exact Zis p1 p2 e fun u hu=>d u H' s ⟨F',hF,hu,A'⟩
def CbP (K:W.Frag) (r:List V->Hp->VK->Prop) (o:List PV->Rr PV):Prop:=∀{H:Hp}{xs:List PV}{vs:List V}{Q:VK},Reps K H (fun _=>True) xs vs->∀z,o xs=.ok z->z.flat=true/\((∀u,Rep K H (fun _=>True) z u->Q u H)->r vs H Q)
theorem ZhB {r:List V->Hp->VK->Prop}{o:List PV->Rr PV} (hr:CbP K r o) (hx:∀xs e,o xs≠.exc e) (ha:DAA K EX Γ Γ' ta fa):DE K EX Γ Γ' .P (tCB r ta) (fun ρ=>(fa ρ).bind o):=fun B H0 H σ ρ F R Q A d=>by
 refine ha B H0 H σ ρ F R _ A (d.bind.imp (fun xs _ d vs H1 F1 s1 f1 p1 A1=>?_) fun e q=>q)
 cases e:o xs with
 |ok z =>
  rw[e] at d
  obtain⟨hf,h⟩:=hr (Q:=Q) p1 z e
  exact h fun u hu=>d u H1 s1 ⟨F1,f1,hf,hu,A1⟩
 |exc q=>exact absurd e (hx xs q)
 |bad=>rw[e] at d;exact d.elim
noncomputable def ZgZ (xs:List PV):Rr PV:=match xs with
 |[.lst ys]=>.ok (.int ys.length)
 |[.tup ys]=>.ok (.int ys.length)
 |_=>.bad
theorem UV {S:Addr->Prop}{x:PV}{vs:List V} (h:Reps K H S [x] vs):∃v,vs=[v]/\Rep K H S x v:=by
 obtain⟨v,r,rfl,h1,h2⟩:=h
 cases h2
 exact⟨v,rfl,h1⟩
theorem ZjQ {S:Addr->Prop}{x y:PV}{vs:List V} (h:Reps K H S [x,y] vs):∃v w,vs=[v,w]/\Rep K H S x v/\Rep K H S y w:=by
 obtain⟨v,r,rfl,h1,w,r',rfl,h2,h3⟩:=h
 cases h3
 exact⟨v,w,rfl,h1,h2⟩
theorem Vg (ha:DAA K EX Γ Γ' ta fa):DE K EX Γ Γ' .P (tCB (fun xs H Q=>∃p ys,xs=[.ref p]/\(SqL K H p ys\/SqT K H p ys)/\Q (.int ys.length) H) ta) (fun ρ=>(fa ρ).bind ZgZ):=by
 refine ZhB (fun {H xs vs Q} h z e=>?_) (fun xs e h=>?_) ha
 ·unfold ZgZ at e
  split at e<;>first|(cases e;done)|skip
  all_goals
   cases e
   refine⟨rfl,fun q=>?_⟩
   obtain⟨v,rfl,a,ws,rfl,hn,hr⟩:=UV h
   refine⟨a,ws,rfl, ?_,by rw[hr.length];exact q _ rfl⟩
   first|exact .inl (JG (S:=fun _=>True) hn)|exact .inr hn.sqT
 ·unfold ZgZ at h;split at h<;>cases h
noncomputable def VW:List PV->Option (List Int)
 |[]=>some []
 |.int i::xs=>(VW xs).map (i::·)
 |_::_=>none
@[simp] theorem ZhX (ns:List Int):VW (ns.map PV.int)=some ns:=by
 induction ns with
 |nil=>rfl
 |cons n ns ih=>simp[VW,ih]
theorem Zaq:∀{xs:List PV}{ns:List Int},VW xs=some ns->xs=ns.map PV.int
 |[],_,h=>by cases h;rfl
 |.int i::xs,ns,h=>by
  simp only[VW] at h
  cases e:VW xs with
  |none=>rw[e] at h;cases h
  |some ms=>rw[e] at h;cases h;rw[Zaq e];rfl
 |.non::_,_,h=>by cases h
 |.bl _::_,_,h=>by cases h
 |.str _::_,_,h=>by cases h
 |.exc _::_,_,h=>by cases h
 |.exa _ _::_,_,h=>by cases h
 |.box _ _ _::_,_,h=>by cases h
 |.fz _::_,_,h=>by cases h
 |.lst _::_,_,h=>by cases h
 |.tup _::_,_,h=>by cases h
theorem Uy {S:Addr->Prop}:∀{ns:List Int}{vs:List V},Reps K H S (ns.map PV.int) vs->vs=ns.map V.int
 |[],_,h=>h
 |n::ns,_,h=>by
  obtain⟨v,r,rfl,h1,h2⟩:=h
  cases h1
  rw[Uy h2];rfl
theorem Zap {S:Addr->Prop}:∀(ns:List Int),Reps K H S (ns.map PV.int) (ns.map V.int)
 |[]=>rfl
 |n::ns=>⟨_,_,rfl,rfl,Zap ns⟩
theorem Zfi {S:Addr->Prop}{ns:List Int}{v:V} (h:Rep K H S (.lst (ns.map PV.int)) v):∃a,v=.ref a/\SqL K H a (ns.map V.int):=by
 obtain⟨a,vs,rfl,hn,hr⟩:=h
 rw[Uy hr] at hn
 exact⟨a,rfl,JG hn⟩
noncomputable def ZcB (g:List Int->Rr PV) (xs:List PV):Rr PV:=match xs with
 |[.lst ys]=>match VW ys with
  |some ns=>g ns
  |none=>.bad
 |_=>.bad
theorem Rr.ints {g:List Int->Rr PV}{xs:List PV}{z:PV} (e:ZcB g xs=.ok z):∃ns,xs=[.lst (ns.map PV.int)]/\g ns=.ok z:=by
 unfold ZcB at e
 split at e
 ·split at e
  ·rename_i ns h
   exact⟨ns,by rw[Zaq h],e⟩
  ·cases e
 ·cases e
theorem ZaV {g:List Int->Rr PV} (hg:∀ns e,g ns≠.exc e) (xs:List PV) (e:PX):ZcB g xs≠.exc e:=by
 intro h
 unfold ZcB at h
 split at h
 ·split at h
  ·exact hg _ _ h
  ·cases h
 ·cases h
noncomputable abbrev ZjU:=ZcB fun ns=>.ok (.int ns.sum)
theorem Ze3 (ha:DAA K EX Γ Γ' ta fa):DE K EX Γ Γ' .P (tCB (fun xs H Q=>∃p,∃ns:List Int,xs=[.ref p]/\SqL K H p (ns.map V.int)/\Q (.int ns.sum) H) ta) (fun ρ=>(fa ρ).bind ZjU):=by
 refine ZhB (fun {H xs vs Q} h z e=>?_) (ZaV fun ns e h=>by cases h) ha
 obtain⟨ns,rfl,e'⟩:=Rr.ints e
 cases e'
 obtain⟨v,rfl,h1⟩:=UV h
 obtain⟨a,rfl,h2⟩:=Zfi h1
 exact⟨rfl,fun q=>⟨a,ns,rfl,h2,q _ rfl⟩⟩
noncomputable def ZjE:List Int->Int
 |[]=>0
 |[n]=>n
 |n::ns=>min n (ZjE ns)
noncomputable def Zbr:List PV->Option (List Bool)
 |[]=>some []
 |.bl i::xs=>(Zbr xs).map (i::·)
 |_::_=>none
@[simp] theorem ZeL (ns:List Bool):Zbr (ns.map PV.bl)=some ns:=by
 induction ns with
 |nil=>rfl
 |cons n ns ih=>simp[Zbr,ih]
theorem Zcu:∀{xs:List PV}{ns:List Bool},Zbr xs=some ns->xs=ns.map PV.bl
 |[],_,h=>by cases h;rfl
 |.bl i::xs,ns,h=>by
  simp only[Zbr] at h
  cases e:Zbr xs with
  |none=>rw[e] at h;cases h
  |some ms=>rw[e] at h;cases h;rw[Zcu e];rfl
 |.non::_,_,h=>by cases h
 |.int _::_,_,h=>by cases h
 |.str _::_,_,h=>by cases h
 |.exc _::_,_,h=>by cases h
 |.exa _ _::_,_,h=>by cases h
 |.box _ _ _::_,_,h=>by cases h
 |.fz _::_,_,h=>by cases h
 |.lst _::_,_,h=>by cases h
 |.tup _::_,_,h=>by cases h
theorem Zb9 {S:Addr->Prop}:∀{ns:List Bool}{vs:List V},Reps K H S (ns.map PV.bl) vs->vs=ns.map V.bl
 |[],_,h=>h
 |n::ns,_,h=>by
  obtain⟨v,r,rfl,h1,h2⟩:=h
  cases h1
  rw[Zb9 h2];rfl
noncomputable def Zi6 (xs:List PV):Rr PV:=match xs with
 |[.lst ys]=>match Zbr ys with
  |some bs=>.ok (.bl (bs.all id))
  |none=>.bad
 |_=>.bad
theorem Zji (ha:DAA K EX Γ Γ' ta fa):DE K EX Γ Γ' .P (tCB (fun xs H Q=>∃p,∃bs:List Bool,xs=[.ref p]/\SqL K H p (bs.map V.bl)/\Q (.bl (bs.all id)) H) ta) (fun ρ=>(fa ρ).bind Zi6):=by
 refine ZhB (fun {H xs vs Q} h z e=>?_) (fun xs e h=>?_) ha
 ·unfold Zi6 at e
  split at e
  ·split at e
   ·rename_i bs hb
    cases e
    rw[Zcu hb] at h
    obtain⟨v,rfl,a,ws,rfl,hn,hr⟩:=UV h
    rw[Zb9 hr] at hn
    exact⟨rfl,fun q=>⟨a,bs,rfl,JG (S:=fun _=>True) hn,q _ rfl⟩⟩
   ·cases e
  ·cases e
 ·unfold Zi6 at h
  split at h
  ·split at h<;>cases h
  ·cases h
end
theorem Q3 {n:Nat} (h:n<=1000000):n<=sizeLine:=ZqV h (by decide)
def LX (K:W.Frag) (H:Hp) (a:Addr) (vs:List V):Prop:=Rd H a (.lst vs)\/KL K a vs
noncomputable def Ziv (K:W.Frag):R2:=fun x y H Q=>∃l b xs zs,x=.ref l/\y=.ref b/\LX K H l xs/\LX K H b zs/\xs.length+zs.length<=sizeLine/\∀p,H p=none->Q (.ref p) (upd H p (.lst (xs++zs)))
section
variable {X:Cx}{K:W.Frag}
theorem ZiF {H:Hp}{S:Addr->Prop}{a:Addr}{vs:List V} (h:(Rd H a (.lst vs)/\S a)\/KL K a vs):LX K H a vs:=h.elim (fun z=>.inl z.1) .inr
theorem ZdN (e:X.K=K:=by rfl):OpR X (binaryOp .Add) (Ziv K):=by
 subst e
 intro pins s σ H x y v u Q I rx ry h
 obtain⟨l,b,xs,zs,rfl,rfl,hH,hB,hz,q⟩:=h
 cases rx
 cases ry
 obtain⟨its,r,pl,_⟩:=I.list (show SqL X.K H l xs from hH)
 obtain⟨its2,r2,pl2,_⟩:=I.list (show SqL X.K H b zs from hB)
 have hl:=r.length
 have hl2:=r2.length
 obtain⟨⟨cls,dd,data,sl⟩,ho,hc,n,hd⟩:=pl.isList
 obtain⟨⟨cls2,dd2,data2,sl2⟩,ho2,hc2,n2,hd2⟩:=pl2.isList
 simp only at hc hd hc2 hd2
 subst hc hd hc2 hd2
 have ea:its.toArray++its2.toArray=(its++its2).toArray:=by simp
 refine concat_meets ⟨_,ho,rfl⟩ ⟨_,ho2,rfl⟩ noFill_list_add seq_list_add PySem.F.slot_list_add PySem.F.entry_list_add (PySem.F.args_list_add_2 _ _) (list_addW l b its.toArray its2.toArray n n2 dd dd2 sl sl2 (by rw[ZqA,ZqA];omega)) ⟨ho,ho2, ?_⟩
 rw[ea]
 exact⟨.ref _,_,I.lnew (t':=s.toks) (r.append r2) (by rw[ZqP];omega),rfl,q _ I.fresh⟩
end
def Frm (H:Hp) (F:Nat->List Addr) (H':Hp) (F':Nat->List Addr):Prop:=∀a o,H a=some o->(∀i,a ∉ F i)->H' a=some o/\∀i,a ∉ F' i
theorem Frm.refl {H:Hp}{F:Nat->List Addr}:Frm H F H F:=fun a o h n=>⟨h,n⟩
theorem Frm.trans {H H1 H2:Hp}{F F1 F2:Nat->List Addr} (h1:Frm H F H1 F1) (h2:Frm H1 F1 H2 F2):Frm H F H2 F2:=fun a o h n=>let ⟨h3,n3⟩:=h1 a o h n;h2 a o h3 n3
theorem Frm.of {H H':Hp}{F F':Nat->List Addr} (s:Zw H H') (f:∀i,∀a∈F' i,a∈F i):Frm H F H' F':=fun a o h n=>⟨s a o h,fun i z=>n i (f i a z)⟩
def ItP (K:W.Frag) (S:Addr->Prop) (J:It) (xs:List PV) (H:Hp):Prop:=
 ∀i,(∀x,xs[i]?=some x->J.go i H/\∀v H',J.yld i H v H'->Zw H H'/\Rep K H' S x v)/\(xs[i]?=none->J.stop i H)
def DI (K:W.Frag) (EX:PX->Hp->Prop) (Γ Γ':List Md) (wi:TI) (f:List PV->Rr (List PV)):Prop:=
 ∀(B:Addr->Prop) (H0 H:Hp) (σ:St) (ρ:List PV) (F:Nat->List Addr) (R:List Addr) (Q:It->Hp->Prop),Ag K B H0 H σ Γ ρ F R ->
  Dn (f ρ) (fun xs=>∀J H' F',Zw H H'->(∀i,∀a∈F' i,a∈F i)->Ag K B H0 H' σ Γ' ρ F' R->(∀H2 F2,Frm H' F' H2 F2->ItP K (fun a=>NO B F2 R a/\H' a≠none/\∀i,a ∉ F' i) J xs H2)->Q J H') (fun e=>∀H',Zw H0 H'->EX e H')->wi σ H Q
def DIc (K:W.Frag) (EX:PX->Hp->Prop) (Γ Γ':List Md) (wi:TI) (f:List PV->Rr (List PV)):Prop:=
 ∀(B:Addr->Prop) (H0 H:Hp) (σ:St) (ρ:List PV) (F:Nat->List Addr) (R:List Addr) (Q:It->Hp->Prop),Ag K B H0 H σ Γ ρ F R ->
  Dn (f ρ) (fun xs=>∀J H' F',Zw H H'->(∀i,∀a∈F' i,a∈F i)->Ag K B H0 H' σ Γ' ρ F' R->(∀H2 F2,Zw H' H2->(∀i,∀a∈F2 i,a∈F' i)->ItP K (fun a=>NO B F2 R a/\H' a≠none/\∀i,a ∉ F' i) J xs H2)->Q J H') (fun e=>∀H',Zw H0 H'->EX e H')->wi σ H Q
theorem DI.c {K:W.Frag}{EX:PX->Hp->Prop}{Γ Γ':List Md}{wi:TI}{f:List PV->Rr (List PV)} (h:DI K EX Γ Γ' wi f):DIc K EX Γ Γ' wi f:=fun B H0 H σ ρ F R Q A d =>
 h B H0 H σ ρ F R Q A (d.imp (fun xs _ d J H' F' s1 f1 A1 it=>d J H' F' s1 f1 A1 fun H2 F2 s2 f2=>it H2 F2 (Frm.of s2 f2)) fun e q=>q)
section
variable {K:W.Frag}{B:Addr->Prop}{EX:PX->Hp->Prop}{H0 H H':Hp}{σ:St}{Γ Γ' Γ1 Γ2:List Md}{ρ:List PV}{F F':Nat->List Addr}{R:List Addr}{k:Kd}{x:PV}{v:V}{te tb:TE}{ta:TA}{f fb:List PV->Rr PV}{fa:List PV->Rr (List PV)}
theorem Rep.frm {F2:Nat->List Addr}{H2:Hp} (h:Frm H F H2 F2) (A:Ag K B H0 H σ Γ ρ F R) (r:Rep K H (NO B F R) x v):Rep K H2 (fun a=>NO B F2 R a/\H a≠none/\∀i,a ∉ F i) x v:=by
 refine Rep.mono (fun a us s r=>?_) (fun a us r=>?_) r
 ·rcases r with r|⟨o,r⟩
  ·obtain⟨h1,h2⟩:=h a _ r s.2.2;exact⟨.inl h1,⟨s.1,s.2.1,h2⟩,by rw[r];simp,s.2.2⟩
  ·obtain⟨h1,h2⟩:=h a _ r s.2.2;exact⟨.inr ⟨o,h1⟩,⟨s.1,s.2.1,h2⟩,by rw[r];simp,s.2.2⟩
 ·refine⟨(h a _ r.1 fun i z=>?_).1,r.2⟩
  obtain⟨vs,q⟩:=A.live i a z
  exact Uq vs.2 r.2 (by rw[r.1] at q;exact Option.some.inj q)
noncomputable def Zc3 (lo:Int) (n:Nat):List PV:=(List.range n).map fun(k:Nat)=>PV.int (lo+(k:Int))
theorem Zej {lo:Int}{n:Nat}{S:Addr->Prop}:ItP K S (Itr lo n) (Zc3 lo n) H:=by
 intro i
 constructor
 ·intro x hx
  unfold Zc3 at hx
  rw[ZqO] at hx
  by_cases h:i<n
  ·rw[Zr2 h] at hx
   cases hx
   exact⟨h,fun v H' ⟨e1,e2⟩=>by subst e1 e2;exact⟨Zw.refl _,rfl⟩⟩
  ·rw[ZqH (by simpa using h)] at hx;cases hx
 ·intro hx
  unfold Zc3 at hx
  have:=ZqT.mp hx
  show n<=i
  simpa using this
noncomputable def okR (j:Int):Bool:=decide (-(2^62)<=j/\j<2^62)
noncomputable def Zfp (xs:List PV):Rr (List PV):=match xs with
 |[.int j]=>if okR j=true then .ok (Zc3 0 j.toNat) else .bad
 |_=>.bad
noncomputable def Zfo (xs:List PV):Rr (List PV):=match xs with
 |[.int i,.int j]=>if (okR i&&okR j)=true then .ok (Zc3 i (j-i).toNat) else .bad
 |_=>.bad
theorem Ze2 (ha:DAA K EX Γ Γ' ta fa):DI K EX Γ Γ' (ZiT ta) (fun ρ=>(fa ρ).bind Zfp):=fun B H0 H σ ρ F R Q A d=>by
 refine ha B H0 H σ ρ F R _ A (d.bind.imp (fun xs _ d vs H1 F1 s1 f1 p1 A1=>?_) fun e q=>q)
 unfold Zfp at d
 split at d
 ·rename_i j _
  obtain⟨v,rfl,h1⟩:=UV p1
  cases h1
  by_cases h:okR j=true
  ·rw[if_pos h] at d
   have h':=of_decide_eq_true h
   exact⟨j,rfl,h'.1,h'.2,d _ H1 F1 s1 f1 A1 fun H2 F2 _=>Zej⟩
  ·rw[if_neg h] at d;exact d.elim
 ·exact d.elim
theorem Zh1 (ha:DAA K EX Γ Γ' ta fa):DI K EX Γ Γ' (ZiS ta) (fun ρ=>(fa ρ).bind Zfo):=fun B H0 H σ ρ F R Q A d=>by
 refine ha B H0 H σ ρ F R _ A (d.bind.imp (fun xs _ d vs H1 F1 s1 f1 p1 A1=>?_) fun e q=>q)
 unfold Zfo at d
 split at d
 ·rename_i i j _
  obtain⟨v,w,rfl,h1,h2⟩:=ZjQ p1
  cases h1;cases h2
  by_cases h:(okR i&&okR j)=true
  ·rw[if_pos h] at d
   rw[Bool.and_eq_true] at h
   have h':=of_decide_eq_true h.1
   have h'':=of_decide_eq_true h.2
   exact⟨i,j,rfl,⟨h'.1,h'.2,h''.1,h''.2⟩,d _ H1 F1 s1 f1 A1 fun H2 F2 _=>Zej⟩
  ·rw[if_neg h] at d;exact d.elim
 ·exact d.elim
noncomputable def asL (x:PV):Rr (List PV):=match x with
 |.lst xs=>.ok xs
 |_=>.bad
theorem Zhp {a:Addr}{xs:List PV}{S:Addr->Prop} (h:Rep K H S (.lst xs) (.ref a)):ItP K S (Itl K a) xs H:=by
 obtain⟨a',vs,e,hn,hr⟩:=h
 cases e
 intro i
 constructor
 ·intro x hx
  obtain⟨u,e1,e2⟩:=hr.get hx
  refine⟨⟨vs,u,JG hn,e1⟩,fun v H' ⟨e,y⟩=>?_⟩
  subst e
  have:=y vs (JG hn)
  rw[e1] at this;cases this
  exact⟨Zw.refl _,e2⟩
 ·intro hx
  exact⟨vs,JG hn,by rw[hr.length];exact ZqT.mp hx⟩
theorem VQ (he:DE K EX Γ Γ' .Z te f):DI K EX Γ Γ' (Zen K te) (fun ρ=>(f ρ).bind asL):=fun B H0 H σ ρ F R Q A d=>by
 refine he B H0 H σ ρ F R _ A (d.bind.imp (fun x _ d v H1 s1 r1=>?_) fun e q=>q)
 obtain⟨F1,f1,p1,A1⟩:=r1
 cases x with
 |lst xs =>
  obtain⟨a,vs,rfl,hn,hr⟩:=id p1
  exact⟨a,rfl,⟨vs,JG hn⟩,d _ H1 F1 s1 f1 A1 fun H2 F2 h=>Zhp (p1.frm h A1)⟩
 |_=>exact d.elim
theorem Zav:∀{ns:List Int},PV.flats (ns.map PV.int)=true
 |[]=>rfl
 |n::ns=>by simp only[ZqJ,PV.flats,PV.flat,Zav,Bool.and_self]
noncomputable def newF (xs:List PV):Rr PV:=if (PV.flats xs&&decide (xs.length<=1000000))=true then .ok (.lst xs) else .bad
theorem Dn.newF {xs:List PV}{ok:PV->Prop}{ex:PX->Prop} (d:Dn (newF xs) ok ex):PV.flats xs=true/\xs.length<=1000000/\ok (.lst xs):=by
 unfold L2.newF at d
 by_cases h:(PV.flats xs&&decide (xs.length<=1000000))=true
 ·rw[if_pos h] at d
  rw[Bool.and_eq_true] at h
  exact⟨h.1,of_decide_eq_true h.2,d⟩
 ·rw[if_neg h] at d;exact d.elim
theorem ZeA {tb':TE}{fb':List PV->Rr PV} (ha:DE K EX Γ Γ1 .A te f) (hb:DE K EX Γ1 Γ2 .A tb' fb') :
  DE K EX Γ Γ2 .F (tOp (Ziv K) te tb') (fun ρ=>(f ρ).bind fun x=>(fb' ρ).bind fun y=>(asL x).bind fun xs=>(asL y).bind fun ys=>newF (xs++ys)):=fun B H0 H σ ρ F R Q A d=>by
 refine two ha hb A d.bind2 fun x y v w H' F' d s hF p1 p2 A'=>?_
 cases x with
 |lst xs =>
  cases y with
  |lst ys =>
   obtain⟨h1,h2,d⟩:=Dn.newF d
   obtain⟨a,vs,rfl,hn,hr⟩:=p1
   obtain⟨b,ws,rfl,hn',hr'⟩:=p2
   refine⟨a,b,vs,ws,rfl,rfl,ZiF (S:=fun _=>True) hn,ZiF (S:=fun _=>True) hn', ?_,fun p hp=>?_⟩
   ·rw[hr.length,hr'.length,<- ZqP];exact Q3 h2
   ·exact d _ _ (s.trans (Zw.new hp)) (Res.newP s hF (hr.append hr') h1 A' hp)
  |_=>exact d.elim
 |_=>exact d.elim
noncomputable def ZhV (xs:List PV) (y:PV):Rr PV:=match y with
 |.int k=>if xs.length*k.toNat<=1000000/\-(2^63)<=k/\k<2^63 then newF (List.replicate k.toNat xs).flatten else .bad
 |_=>.bad
theorem Reps.rep {S:Addr->Prop}{xs:List PV}{vs:List V} (h:Reps K H S xs vs):∀n:Nat,Reps K H S (List.replicate n xs).flatten (List.replicate n vs).flatten
 |0=>rfl
 |n+1=>by
  rw[ZqX,ZqX,Zrg,Zrg]
  exact h.append (Reps.rep h n)
theorem Ze6 (ha:DAA K EX Γ Γ1 ta fa) (hb:DE K EX Γ1 Γ2 .A tb fb) :
  DE K EX Γ Γ2 .F (tOp ZkR (Zih ta) tb) (fun ρ=>(fa ρ).bind fun xs=>(mkL xs).bind fun _=>(fb ρ).bind fun y=>ZhV xs y):=fun B H0 H σ ρ F R Q A d=>by
 refine ha B H0 H σ ρ F R _ A (d.bind.imp (fun xs _ d vs H1 F1 s1 f1 p1 A1=>?_) fun e q=>q)
 obtain⟨hl,d⟩:=Dn.mkL d.bind
 refine⟨by rw[p1.length];exact V4 hl,fun p hp=>?_⟩
 have e:Zw H1 (upd H1 p (.lst vs)):=Zw.new hp
 refine hb B H0 _ σ ρ F1 R _ (A1.grow e) (d.bind.imp (fun y _ d w H2 s2 r2=>?_) fun e q=>q)
 obtain⟨F2,f2,p2,A2⟩:=r2
 cases y with
 |int k =>
  cases p2
  simp only[ZhV] at d
  by_cases h:xs.length*k.toNat<=1000000/\-(2^63)<=k/\k<2^63
  ·rw[if_pos h] at d
   obtain⟨h1,h2,d⟩:=Dn.newF d
   refine⟨p,k,vs,rfl,rfl,s2 _ _ Zt,h.2.1,h.2.2,by rw[p1.length];exact Q3 h.1,fun q hq=>?_⟩
   have st:=(s1.trans e).trans s2
   exact d _ _ (st.trans (Zw.new hq)) (Res.newP st (fun i a h=>f1 i a (f2 i a h)) (((p1.same e).same s2).rep k.toNat) h1 A2 hq)
  ·rw[if_neg h] at d;exact d.elim
 |_=>exact d.elim
noncomputable def Zfr (xs:List PV):Rr PV:=match xs with
 |[.lst ys]=>newF ys
 |[.tup ys]=>newF ys
 |_=>.bad
theorem JX (ha:DAA K EX Γ Γ' ta fa):DE K EX Γ Γ' .F (tCB (fun xs H Q=>∃p ys,xs=[.ref p]/\(SqL K H p ys\/SqT K H p ys)/\∀l,H l=none->Q (.ref l) (upd H l (.lst ys))) ta) (fun ρ=>(fa ρ).bind Zfr):=fun B H0 H σ ρ F R Q A d=>by
 refine ha B H0 H σ ρ F R _ A (d.bind.imp (fun xs _ d vs H1 F1 s1 f1 p1 A1=>?_) fun e q=>q)
 unfold Zfr at d
 split at d
 ·obtain⟨h1,h2,d⟩:=Dn.newF d
  obtain⟨v,rfl,a,ws,rfl,hn,hr⟩:=UV p1
  exact⟨a,ws,rfl,.inl (JG (S:=fun _=>True) hn),fun l hl=>d _ _ (s1.trans (Zw.new hl)) (Res.newP s1 f1 hr h1 A1 hl)⟩
 ·obtain⟨h1,h2,d⟩:=Dn.newF d
  obtain⟨v,rfl,a,ws,rfl,hn,hr⟩:=UV p1
  exact⟨a,ws,rfl,.inr hn.sqT,fun l hl=>d _ _ (s1.trans (Zw.new hl)) (Res.newP s1 f1 hr h1 A1 hl)⟩
 ·exact d.elim
noncomputable def Vc:PV->String
 |.non => "NoneType"
 |.bl _ => "bool"
 |.int _ => "int"
 |.str _ => "str"
 |.lst _ => "list"
 |.tup _ => "tuple"
 |.exc _ => "?"
 |.exa _ _ => "?"
 |.box _ (.dk _) _ => "dict"
 |.box _ (.dt _) _ => "dict"
 |.box _ (.ob _ _) _ => "?"
 |.box _ .jk _ => "?"
 |.fz _ => "?"
noncomputable def PV.isX:PV->Bool
 |.exc _=>true
 |.exa _ _=>true
 |.box _ _ _=>true
 |.fz _=>true
 |_=>false
noncomputable def Q5 (t n:String):Bool:=t==n || (t == "bool" && n == "int")
noncomputable def ZjL (n:String):Bool:=n == "int" || n == "bool" || n == "str" || n == "list" || n == "tuple"
theorem ZiH (K:W.Frag) {n:String} (h:ZjL n=true) (x:PV) (hx:x.isX=false):PySem.W.kitOne K (.type (Vc x)) (.type n)=some (Q5 (Vc x) n):=by
 simp only[ZjL,Bool.or_eq_true,beq_iff_eq] at h
 rcases h with (((rfl|rfl)|rfl)|rfl)|rfl<;>cases x<;>first|rfl|cases hx
def ZkV (K:W.Frag) (n:String):List V->Hp->VK->Prop:=fun xs H Q=>∃x p,xs=[x,.ty n]/\Rep K H (fun _=>True) p x/\p.isX=false/\Q (.bl (Q5 (Vc p) n)) H
theorem JO {X:Cx}{n:String} (hn:ZjL n=true) (e:X.K=K:=by rfl):JS X (.builtin "isinstance") (ZkV K n):=by
 subst e
 intro pins s σ H xs us Q I r h
 obtain⟨x,p,rfl,hp,hx,q⟩:=h
 obtain⟨u,w',rfl,rx,rn⟩:=Zie r
 cases rn
 have e:=ZiH X.K hn p hx
 have fin:∀tk,EP X pins σ Q (.bool (Q5 (Vc p) n)) { s with toks:=tk }:=fun tk=>⟨.bl _,H,I.tok _,rfl,q⟩
 cases p with
 |non=>cases hp;cases rx;exact PySem.W.kia_one PySem.W.kitx_none I.kIn True.intro e (fun z=>nomatch z) fin
 |bl y=>cases hp;cases rx;exact PySem.W.kia_one PySem.W.kitx_bool I.kIn True.intro e (fun z=>nomatch z) fin
 |int i=>cases hp;obtain⟨t,rfl⟩:=rx;exact PySem.W.kia_one PySem.W.kitx_int I.kIn True.intro e (fun z=>nomatch z) fin
 |str y=>cases hp;obtain⟨t,rfl⟩:=rx;exact PySem.W.kia_one PySem.W.kitx_str I.kIn True.intro e (fun z=>nomatch z) fin
 |exc y=>cases hx
 |exa y i=>cases hx
 |box p s ps=>cases hx
 |fz ps=>cases hx
 |lst ps =>
  obtain⟨a,vs,rfl,hn',hr⟩:=hp
  cases rx
  obtain⟨its,_,pl,_⟩:=I.list (JG (S:=fun _=>True) hn')
  obtain⟨o,h1,h2,_⟩:=pl.isList
  exact PySem.W.kia_one PySem.W.kitx_list I.kIn ⟨o,h1,h2⟩ e (fun z=>nomatch z) fin
 |tup ps =>
  obtain⟨a,vs,rfl,hn',hr⟩:=hp
  cases rx
  obtain⟨its,_,⟨o,h1,h2,_⟩,_⟩:=I.tuple hn'.sqT
  exact PySem.W.kia_one PySem.W.kitx_tuple I.kIn ⟨o,h1,h2⟩ e (fun z=>nomatch z) fin
noncomputable def ZjA (n:String) (x:PV):Rr PV:=if x.isX=true then .bad else .ok (.bl (Q5 (Vc x) n))
theorem Za1 {n:String} (he:DE K EX Γ Γ' .A te f):DE K EX Γ Γ' .P (tCB (ZkV K n) (J1 te (J1 (tC (.ty n)) ZaL))) (fun ρ=>(f ρ).bind (ZjA n)):=fun B H0 H σ ρ F R Q A d=>by
 refine he B H0 H σ ρ F R _ A (d.bind.imp (fun x _ d v H1 s1 r1=>?_) fun e q=>q)
 obtain⟨F1,f1,p1,A1⟩:=r1
 unfold ZjA at d
 cases hx:x.isX with
 |true=>rw[hx] at d;exact d.elim
 |false=>rw[hx] at d;exact⟨v,x,rfl,p1,hx,d _ H1 s1 ⟨F1,f1,rfl,rfl,A1⟩⟩
def Len (fa:List PV->Rr (List PV)) (n:Nat):Prop:=∀ρ xs,fa ρ=.ok xs->xs.length=n
theorem Zo:Len (fun _=>.ok []) 0:=fun ρ xs h=>by cases h;rfl
theorem Ze {f:List PV->Rr PV}{fa:List PV->Rr (List PV)}{n:Nat} (h:Len fa n):Len (fun ρ=>(f ρ).bind fun x=>(fa ρ).bind fun xs=>.ok (x::xs)) (n+1):=fun ρ xs e=>by
 dsimp only at e
 cases h1:f ρ with
 |ok x =>
  rw[h1] at e
  cases h2:fa ρ with
  |ok ys=>simp only[Rr.bind_ok,h2] at e;cases e;simp[h ρ ys h2]
  |exc q=>simp only[Rr.bind_ok,h2,Rr.bind_exc] at e;cases e
  |bad=>simp only[Rr.bind_ok,h2,Rr.bind_bad] at e;cases e
 |exc q=>rw[h1] at e;cases e
 |bad=>rw[h1] at e;cases e
def Zga (K:W.Frag) (B:Addr->Prop) (H:Hp) (k:Kd) (x:PV) (v:V) (H':Hp):Prop:=match k with
 |.P=>x.flat=true/\Rep K H' (fun _=>True) x v
 |.F=>∃G,ZD K H' x v G/\∀a∈G,H a=none
 |.N=>∃y a s xs G1 G2,x=.tup [y,.box (some a) s xs]/\ZD K H' y v G1/\ZD K H' (.box (some a) s xs) (.ref a) G2/\(∀b∈G1,b ∉ G2)/\(∀b∈G1,H b=none)/\∀b∈G2,H b=none
 |_=>Rep K H' (fun a=>B a\/H a=none) x v
noncomputable def spF (K:PySem.W.Frag) (n:Nat) (k:Kd) (W:PX->XK->Hp->Prop) (m:List PV->Rr PV):Sp:=fun vs H Q E=>∃B xs,Reps K H B xs vs/\xs.length=n /\
 Dn (m xs) (fun x=>∀v H',Zw H H'->Zga K B H k x v H'->Q v H') (fun e=>∀H',Zw H H'->W e E H')
def W0:PX->XK->Hp->Prop:=fun _ _ _=>False
def X0:PX->Hp->Prop:=fun _ _=>False
section
variable {n:Nat}{W:PX->XK->Hp->Prop}{m:List PV->Rr PV}{E:XK}
theorem QB {t:TE} (ht:∀σ H Q,(ta σ H fun vs H1=>spF K n .P W m vs H1 Q E)->t σ H Q) (hW:∀e H',EX e H'->W e E H') (hn:Len fa n) (ha:DAA K EX Γ Γ' ta fa):DE K EX Γ Γ' .P t (fun ρ=>(fa ρ).bind m):=fun B H0 H σ ρ F R Q A d=>by
 refine ht _ _ _ (ha B H0 H σ ρ F R _ A (d.bind.imp (fun xs hx d vs H1 F1 s1 f1 p1 A1=>?_) fun e q=>q))
 exact⟨fun _=>True,xs,p1,hn ρ xs hx,d.imp (fun x _ d v H2 s2 r=>d v H2 (s1.trans s2) ⟨F1,f1,r.1,r.2,A1.grow s2⟩) fun e q H2 s2=>hW e H2 (q H2 (A1.same.trans s2))⟩
theorem Zco {t:TE} (ht:∀σ H Q,(ta σ H fun vs H1=>spF K n .F W m vs H1 Q E)->t σ H Q) (hW:∀e H',EX e H'->W e E H') (hn:Len fa n) (ha:DAA K EX Γ Γ' ta fa):DE K EX Γ Γ' .F t (fun ρ=>(fa ρ).bind m):=fun B H0 H σ ρ F R Q A d=>by
 refine ht _ _ _ (ha B H0 H σ ρ F R _ A (d.bind.imp (fun xs hx d vs H1 F1 s1 f1 p1 A1=>?_) fun e q=>q))
 refine⟨fun _=>True,xs,p1,hn ρ xs hx,d.imp (fun x _ d v H2 s2 r=>?_) fun e q H2 s2=>hW e H2 (q H2 (A1.same.trans s2))⟩
 obtain⟨G,r1,r2⟩:=r
 exact d v H2 (s1.trans s2) ⟨F1,f1,G,r1,fun a ha=>⟨(A1.fresh (r2 a ha)).1,.inl (s1.free (r2 a ha))⟩,A1.more s2 r2 r1.alive⟩
end
end
noncomputable def ZaI {α β:Type} (f:α->Rr β):List α->Rr (List β)
 |[]=>.ok []
 |x::xs=>(f x).bind fun y=>(ZaI f xs).bind fun ys=>.ok (y::ys)
noncomputable def lenM (xs:List PV):Rr Unit:=if xs.length<=1000000 then .ok () else .bad
theorem Dn.lenM {xs:List PV}{ok:Unit->Prop}{ex:PX->Prop} (d:Dn (lenM xs) ok ex):xs.length<=1000000/\ok ():=by
 unfold L2.lenM at d
 by_cases h:xs.length<=1000000
 ·rw[if_pos h] at d;exact⟨h,d⟩
 ·rw[if_neg h] at d;exact d.elim
theorem Rr.assoc {α β γ:Type}{r:Rr α}{f:α->Rr β}{g:β->Rr γ}:(r.bind f).bind g=r.bind fun a=>(f a).bind g:=by cases r<;>rfl
section
variable {K:W.Frag}{B:Addr->Prop}{EX:PX->Hp->Prop}{H0 H H':Hp}{σ:St}{Γ Γ1:List Md}{ρ:List PV}{F:Nat->List Addr}{R:List Addr}{x:PV}{v:V}{te:TE}{fe:List PV->Rr PV}
theorem Ag.outF (A:Ag K B H0 H σ Γ ρ F R) {i:Nat} (h:Γ.length<=i):F i=[]:=by
 have:=A.slot i
 rw[Zq5,ZqH h] at this
 exact this
theorem Ag.push (A:Ag K B H0 H σ Γ ρ F R) (h:Rep K H (NO B F R) x v):Ag K B H0 H (σ++[some v]) (Γ++[.S]) (ρ++[x]) F R:=by
 refine⟨A.same,A.own,A.young,A.youngR,A.live,A.liveR,A.disj,A.disjR,by simp[A.lenS],by simp[A.lenR],fun i=>?_⟩
 by_cases h1:i<Γ.length
 ·have:=A.slot i
  rw[Zq5,Zq5,ZqI h1,ZqI (by rw[A.lenR];exact h1),ZqI (by rw[A.lenS];exact h1),<- Zq5,<- Zq5]
  exact this
 ·by_cases h2:i=Γ.length
  ·subst h2
   rw[Zq5,Zq5,ZqQ (ZqG _),ZqQ (by rw[A.lenR];exact ZqG _),ZqQ (by rw[A.lenS];exact ZqG _),A.lenR,A.lenS]
   simp only[Nat.sub_self,Zra,ZrB]
   exact⟨A.outF (ZqG _),v,rfl,h⟩
  ·rw[Zq5,ZqH (by simp;omega)]
   exact A.outF (by omega)
theorem Ag.pop {o:Option V} (A:Ag K B H0 H (σ++[o]) (Γ++[.S]) (ρ++[x]) F R):Ag K B H0 H σ Γ ρ F R:=by
 have l1:σ.length=Γ.length:=by have:=A.lenS;simpa using this
 have l2:ρ.length=Γ.length:=by have:=A.lenR;simpa using this
 refine⟨A.same,A.own,A.young,A.youngR,A.live,A.liveR,A.disj,A.disjR,l1,l2,fun i=>?_⟩
 have:=A.slot i
 by_cases h1:i<Γ.length
 ·rw[Zq5,Zq5,ZqI h1,ZqI (by rw[l2];exact h1),ZqI (by rw[l1];exact h1),<- Zq5,<- Zq5] at this
  exact this
 ·rw[Zq5,ZqH (by omega)]
  by_cases h2:i=Γ.length
  ·subst h2
   rw[Zq5,ZqQ (ZqG _)] at this
   simp only[Nat.sub_self,Zra,ZrB] at this
   exact this.1
  ·exact A.outF (by simp;omega)
theorem Uu {wi:TI}{fi:List PV->Rr (List PV)} (hi:DIc K EX Γ Γ1 wi fi) (he:DE K EX (Γ1++[.S]) (Γ1++[.S]) .F te fe) :
  DE K EX Γ Γ1 .F (Zfc wi te) (fun ρ=>(fi ρ).bind fun xs=>(lenM xs).bind fun _=>(ZaI (fun x=>fe (ρ++[x])) xs).bind fun ys=>.ok (.lst ys)):=fun B H0 H σ ρ F R Q A d=>by
 refine hi B H0 H σ ρ F R _ A (d.bind.imp (fun xs _ d J H1 F1 s1 f1 A1 it=>?_) fun e q=>q)
 obtain⟨hlen,d⟩:=Dn.lenM d.bind
 refine⟨fun i m ys H2=>∃zs G F2,m=xs.length-i/\i<=xs.length/\ys.length=i/\Zw H1 H2/\Trees K H2 zs ys G/\(∀a∈G,a ∉ R/\(H1 a=none\/∃j,a∈F1 j))/\(∀i,∀a∈F2 i,a∈F1 i)/\Ag K B H0 H2 σ Γ1 ρ F2 (G++R) /\
  Dn ((ZaI (fun x=>fe (ρ++[x])) (xs.drop i)).bind fun ys'=>.ok (.lst (zs++ys'))) (fun x=>∀v H',Zw H H'->Res K B H0 H σ Γ1 ρ F R .F x v H'->Q v H') (fun e=>∀H',Zw H0 H'->EX e H'),
  ⟨xs.length,[],[],F1,by simp,Zre _,rfl,Zw.refl _,⟨rfl,rfl⟩,by simp,fun _ _ h=>h,A1,by simpa using d⟩, ?_⟩
 rintro i m ys H2 ⟨zs,G,F2,rfl,hi',hl,s2,tr,o2,f2,A2,dn⟩
 refine⟨Q3 (by omega), ?_⟩
 have itp:=it H2 F2 s2 f2 i
 cases hx:xs[i]? with
 |none =>
  refine .inl ⟨itp.2 hx,fun p hp=>?_⟩
  have hd:xs.drop i=[]:=Zri (ZqT.mp hx)
  rw[hd] at dn
  have dn':∀v H',Zw H H'->Res K B H0 H σ Γ1 ρ F R .F (.lst (zs++[])) v H'->Q v H':=dn
  rw[ZqR] at dn'
  exact dn' _ _ ((s1.trans s2).trans (Zw.new hp)) (Res.newF (s1.trans s2) (fun i a h=>f1 i a (f2 i a h)) tr (fun a ha=>⟨(o2 a ha).1,(o2 a ha).2.elim (fun z=>.inl (s1.free z)) fun⟨j,z⟩=>.inr ⟨j,f1 j a z⟩⟩) A2 hp)
 |some x =>
  have hlt:i<xs.length:=(ZqM.mp hx).1
  obtain⟨go,yl⟩:=itp.1 x hx
  have hdx:xs.drop i=x::xs.drop (i+1):=by
   rw[Zrf hlt]
   rw[Zq6 hlt] at hx;cases hx;rfl
  rw[hdx] at dn
  simp only[ZaI,Rr.assoc] at dn
  refine .inr ⟨go,fun ys' H'=>∃zs G F2,ys'.length=i+1/\Zw H1 H'/\Trees K H' zs ys' G/\(∀a∈G,a ∉ R/\(H1 a=none\/∃j,a∈F1 j))/\(∀i,∀a∈F2 i,a∈F1 i)/\Ag K B H0 H' σ Γ1 ρ F2 (G++R) /\
   Dn ((ZaI (fun x=>fe (ρ++[x])) (xs.drop (i+1))).bind fun ys'=>.ok (.lst (zs++ys'))) (fun x=>∀v H',Zw H H'->Res K B H0 H σ Γ1 ρ F R .F x v H'->Q v H') (fun e=>∀H',Zw H0 H'->EX e H'),
   fun ys' H' ⟨zs,G,F2,a1,a2,a3,a4,a5,a6,a7⟩=>⟨xs.length-(i+1),by omega,zs,G,F2,rfl,hlt,a1,a2,a3,a4,a5,a6,a7⟩,fun v H3 y=>?_⟩
  obtain⟨s3,rx⟩:=yl v H3 y
  have A3:=(A2.grow s3).push (x:=x) (v:=v) (Rep.mono (fun a us s r=>⟨r,s.1.1,fun z=>by
   rcases Zq9.mp z with z|z
   ·rcases (o2 a z).2 with q|⟨j,q⟩
    ·exact s.2.1 q
    ·exact s.2.2 j q
   ·exact s.1.2.1 z,s.1.2.2⟩) (fun a us r=>r) rx)
  refine he B H0 H3 _ _ F2 (G++R) _ A3 (dn.bind.imp (fun z _ dn w H4 s4 r4=>?_) fun e q=>q)
  obtain⟨F4,f4,G4,t4,o4,A4⟩:=r4
  refine⟨zs++[z],G++G4,F4,by simp[hl],(s2.trans s3).trans s4,Trees.append ((tr.same s3).same s4) (Trees.one t4) (fun a ha z=>(o4 a z).1 (Zq8 _ ha)),fun a ha=>?_,fun i a h=>f2 i a (f4 i a h),A4.pop.less fun a ha=>?_, ?_⟩
  ·rcases Zq9.mp ha with z|z
   ·exact o2 a z
   ·refine⟨fun q=>(o4 a z).1 (Zq7 _ q), ?_⟩
    rcases (o4 a z).2 with q|⟨j,q⟩
    ·exact .inl ((s2.trans s3).free q)
    ·exact .inr ⟨j,f2 j a q⟩
  ·simp only[Zq9] at ha ⊢
   rcases ha with (z|z)|z
   ·exact .inr (.inl z)
   ·exact .inl z
   ·exact .inr (.inr z)
  ·simp only[Rr.assoc,Rr.bind_ok,Zr7,List.singleton_append] at dn ⊢
   exact dn
end
inductive RS where
 |next (ρ:List PV)|ret (x:PV)|brk (ρ:List PV)|cont (ρ:List PV)|exc (e:PX)|bad
noncomputable def Rr.thenS {α:Type}:Rr α->(α->RS)->RS
 |.ok a,f=>f a
 |.exc e,_=>.exc e
 |.bad,_=>.bad
noncomputable def RS.seq:RS->(List PV->RS)->RS
 |.next ρ,f=>f ρ
 |r,_=>r
@[simp] theorem Rr.thenS_ok {α:Type}{a:α}{f:α->RS}:(Rr.ok a).thenS f=f a:=rfl
@[simp] theorem Rr.thenS_exc {α:Type}{e:PX}{f:α->RS}:(Rr.exc e:Rr α).thenS f=.exc e:=rfl
@[simp] theorem RS.seq_next {ρ:List PV}{f:List PV->RS}:(RS.next ρ).seq f=f ρ:=rfl
@[simp] theorem RS.seq_ret {x:PV}{f:List PV->RS}:(RS.ret x).seq f=.ret x:=rfl
@[simp] theorem RS.seq_exc {e:PX}{f:List PV->RS}:(RS.exc e).seq f=.exc e:=rfl
structure Tys where
 n:List Md
 b:List Md
 c:List Md
 r:Kd
def DnS (K:W.Frag) (B:Addr->Prop) (EX:PX->Hp->Prop) (Y:Tys) (H0 H:Hp) (F:Nat->List Addr) (D:ZcZ) (r:RS):Prop:=match r with
 |.next ρ=>∀σ' H' F',Frm H F H' F'->Ag K B H0 H' σ' Y.n ρ F' []->D.nx σ' H'
 |.brk ρ=>∀σ' H' F',Frm H F H' F'->Ag K B H0 H' σ' Y.b ρ F' []->D.bk σ' H'
 |.cont ρ=>∀σ' H' F',Frm H F H' F'->Ag K B H0 H' σ' Y.c ρ F' []->D.ct σ' H'
 |.ret x=>∀v H',Zw H0 H'->Zga K B H0 Y.r x v H'->D.rt v H'
 |.exc e=>∀H',Zw H0 H'->EX e H'
 |.bad=>False
def DS (K:W.Frag) (EX:PX->Hp->Prop) (Γ:List Md) (Y:Tys) (t:TS) (g:List PV->RS):Prop:=
 ∀(B:Addr->Prop) (H0 H:Hp) (σ:St) (ρ:List PV) (F:Nat->List Addr) (D:ZcZ),Ag K B H0 H σ Γ ρ F []->DnS K B EX Y H0 H F D (g ρ)->t D σ H
section
variable {K:W.Frag}{B:Addr->Prop}{EX:PX->Hp->Prop}{H0 H H':Hp}{σ:St}{Γ Γ' Γ1 Γ2 Γ3:List Md}{ρ:List PV}{F F':Nat->List Addr}{R:List Addr}{k:Kd}{x:PV}{v:V}{te:TE}{f fc:List PV->Rr PV}
 {t u:TS}{g g':List PV->RS}{Y:Tys}{D:ZcZ}
theorem DnS.shift {H1:Hp}{F1:Nat->List Addr}{r:RS} (fr:Frm H F H1 F1) (h:DnS K B EX Y H0 H F D r):DnS K B EX Y H0 H1 F1 D r:=by
 cases r with
 |next ρ=>exact fun σ' H' F' fr' A=>h σ' H' F' (fr.trans fr') A
 |brk ρ=>exact fun σ' H' F' fr' A=>h σ' H' F' (fr.trans fr') A
 |cont ρ=>exact fun σ' H' F' fr' A=>h σ' H' F' (fr.trans fr') A
 |ret x=>exact h
 |exc e=>exact h
 |bad=>exact h
theorem DnS.thenS {α:Type}{r:Rr α}{f:α->RS} (h:DnS K B EX Y H0 H F D (r.thenS f)):Dn r (fun a=>DnS K B EX Y H0 H F D (f a)) (fun e=>∀H',Zw H0 H'->EX e H'):=by
 cases r with
 |ok a=>exact h
 |exc e=>exact h
 |bad=>exact h
theorem ZB:DS K EX Γ ⟨Γ,Γ1,Γ2,k⟩ Zdh (fun ρ=>.next ρ):=fun B H0 H σ ρ F D A d=>d σ H F Frm.refl A
theorem Zp {Γm:List Md} (h1:DS K EX Γ ⟨Γm,Y.b,Y.c,Y.r⟩ t g) (h2:DS K EX Γm Y u g'):DS K EX Γ Y (ZkI t u) (fun ρ=>(g ρ).seq g'):=fun B H0 H σ ρ F D A d=>by
 refine h1 B H0 H σ ρ F _ A ?_
 dsimp only at d
 cases e:g ρ with
 |next ρ1 =>
  rw[e] at d
  exact fun σ' H' F' fr A'=>h2 B H0 H' σ' ρ1 F' D A' (DnS.shift fr d)
 |brk ρ1=>rw[e] at d;exact d
 |cont ρ1=>rw[e] at d;exact d
 |ret x=>rw[e] at d;exact d
 |exc q=>rw[e] at d;exact d
 |bad=>rw[e] at d;exact d
noncomputable def mle (m m':Md):Bool:=m==m' || m'==.U || (m'==.S&&m != .U) || (m'==.O&&m==.P)
noncomputable def Q2:List Md->List Md->Bool
 |[],[]=>true
 |m::ms,m'::ms'=>mle m m'&&Q2 ms ms'
 |_,_=>false
theorem ZbU:∀{Γ Γ':List Md},Q2 Γ Γ'=true->Γ.length=Γ'.length/\∀i,mle (Γ.getD i .U) (Γ'.getD i .U)=true
 |[],[],_=>⟨rfl,fun i=>by simp[mle]⟩
 |m::ms,m'::ms',h=>by
  simp only[Q2,Bool.and_eq_true] at h
  obtain⟨h1,h2⟩:=ZbU h.2
  refine⟨by simp[h1],fun i=>?_⟩
  cases i with
  |zero=>simpa using h.1
  |succ i=>simpa using h2 i
 |[],_::_,h=>by cases h
 |_::_,[],h=>by cases h
theorem Ag.weak (A:Ag K B H0 H σ Γ ρ F R) (h:Q2 Γ Γ'=true):∃F',(∀i,∀a∈F' i,a∈F i)/\Ag K B H0 H σ Γ' ρ F' R:=by
 obtain⟨hl,hm⟩:=ZbU h
 let F':Nat->List Addr:=fun i=>if Γ.getD i .U=Γ'.getD i .U then F i else []
 have hF:∀i,∀a∈F' i,a∈F i:=fun i a ha=>by
  by_cases q:Γ.getD i .U=Γ'.getD i .U
  ·simp only[F',if_pos q] at ha;exact ha
  ·simp only[F',if_neg q] at ha;simp at ha
 have up:∀{a},NO B F R a->NO B F' R a:=fun {a} s=>⟨s.1,s.2.1,fun j z=>s.2.2 j (hF j a z)⟩
 refine⟨F',hF,A.same,A.own,fun i a ha=>A.young i a (hF i a ha),A.youngR,fun i a ha=>A.live i a (hF i a ha),A.liveR,fun i j hij a ha z=>A.disj i j hij a (hF i a ha) (hF j a z),fun i a ha=>A.disjR i a (hF i a ha),by rw[A.lenS,hl],by rw[A.lenR,hl],fun i=>?_⟩
 have sl:=A.slot i
 have hmi:=hm i
 by_cases q:Γ.getD i .U=Γ'.getD i .U
 ·simp only[F',if_pos q]
  rw[<- q]
  exact sl.mono (fun a vs s r=>⟨r,up s⟩) (fun a vs r=>r) fun a ha vs r=>r
 ·simp only[F',if_neg q]
  simp only[mle,Bool.or_eq_true,beq_iff_eq,Bool.and_eq_true,bne_iff_ne] at hmi
  rcases hmi with ((z|z)|z)|z
  ·exact absurd z q
  ·rw[z];exact rfl
  rotate_left
  ·rw[z.1]
   rw[z.2] at sl
   obtain⟨e,v,h1,h2,h3⟩:=sl
   exact⟨v,h1,h3.tree h2⟩
  ·rw[z.1]
   have own:∀a∈F i,NO B F' R a:=fun a ha=>⟨A.own a (A.young i a ha),A.disjR i a ha,fun j w=>by
    by_cases hj:j=i
    ·subst hj;simp only[F',if_neg q] at w;simp at w
    ·exact A.disj j i hj a (hF j a w) ha⟩
   cases hmm:Γ.getD i .U with
   |U=>exact absurd hmm z.2
   |P=>rw[hmm] at sl;obtain⟨e,v,h1,h2,h3⟩:=sl;exact⟨rfl,v,h1,h3.flatS h2⟩
   |S=>rw[hmm] at sl;obtain⟨e,v,h1,h2⟩:=sl;exact⟨rfl,v,h1,Rep.mono (fun a vs s r=>⟨r,up s⟩) (fun a vs r=>r) h2⟩
   |T =>
    rw[hmm] at sl
    obtain⟨a,vs,xs,h1,h2,h3,h4,h5⟩:=sl
    refine⟨rfl,_,h1, ?_⟩
    rw[h2]
    exact⟨a,vs,rfl,.inl ⟨.inl h3,own a (by rw[h5];simp)⟩,Reps.mono (fun a vs s r=>⟨r,up s⟩) (fun a vs r=>r) h4⟩
   |O=>rw[hmm] at sl;obtain⟨v,h1,h2⟩:=sl;exact⟨rfl,v,h1,h2.rep own⟩
theorem DS.out {Y':Tys} (h:DS K EX Γ Y t g) (hn:Q2 Y.n Y'.n=true) (hb:Q2 Y.b Y'.b=true) (hc:Q2 Y.c Y'.c=true) (hr:Y.r=Y'.r):DS K EX Γ Y' t g:=fun B H0 H σ ρ F D A d=>by
 refine h B H0 H σ ρ F D A ?_
 cases e:g ρ with
 |next ρ1=>rw[e] at d;exact fun σ' H' F' fr A'=>let ⟨F2,f2,A2⟩:=A'.weak hn;d σ' H' F2 (fr.trans (Frm.of (Zw.refl _) f2)) A2
 |brk ρ1=>rw[e] at d;exact fun σ' H' F' fr A'=>let ⟨F2,f2,A2⟩:=A'.weak hb;d σ' H' F2 (fr.trans (Frm.of (Zw.refl _) f2)) A2
 |cont ρ1=>rw[e] at d;exact fun σ' H' F' fr A'=>let ⟨F2,f2,A2⟩:=A'.weak hc;d σ' H' F2 (fr.trans (Frm.of (Zw.refl _) f2)) A2
 |ret x=>rw[e] at d;exact fun v H' s r=>d v H' s (hr▸r)
 |exc q=>rw[e] at d;exact d
 |bad=>rw[e] at d;exact d
theorem Zbi {H1:Hp}{F1:Nat->List Addr}{i:Nat}{G:List Addr} (s1:Zw H H1) (f1:∀i,∀a∈F1 i,a∈F i) (o:∀a∈G,H a=none\/∃i,a∈F i):Frm H F H1 (Jy F1 i G):=fun a u h n=>by
 refine⟨s1 a u h,fun j z=>?_⟩
 by_cases q:j=i
 ·subst q
  rw[Zs] at z
  rcases o a z with w|⟨l,w⟩
  ·rw[h] at w;cases w
  ·exact n l w
 ·rw[Zx q] at z;exact n j (f1 j a z)
theorem ZL {i:Nat} (he:DE K EX Γ Γ' .P te f) (hi:i<Γ'.length):DS K EX Γ ⟨Γ'.set i .P,Γ1,Γ2,k⟩ (ZgH te (Ub i)) (fun ρ=>(f ρ).thenS fun x=>.next (ρ.set i x)):=fun B H0 H σ ρ F D A d=>by
 refine he B H0 H σ ρ F [] _ A (d.thenS.imp (fun x _ d v H1 s1 r1=>?_) fun e q=>q)
 obtain⟨F1,f1,h1,h2,A1⟩:=r1
 exact d _ H1 _ (Zbi (G:=[]) s1 f1 (by simp)) (Ag.put (G:=[]) (R:=[]) A1 hi (by simp) ⟨rfl,v,rfl,h1,h2⟩)
theorem JC {i:Nat} (he:DE K EX Γ Γ' .F te f) (hi:i<Γ'.length):DS K EX Γ ⟨Γ'.set i .O,Γ1,Γ2,k⟩ (ZgH te (Ub i)) (fun ρ=>(f ρ).thenS fun x=>.next (ρ.set i x)):=fun B H0 H σ ρ F D A d=>by
 refine he B H0 H σ ρ F [] _ A (d.thenS.imp (fun x _ d v H1 s1 r1=>?_) fun e q=>q)
 obtain⟨F1,f1,G,h1,h2,A1⟩:=r1
 exact d _ H1 _ (Zbi s1 f1 fun a ha=>(h2 a ha).2) (Ag.put (R:=[]) A1 hi (by simp) ⟨v,rfl,h1⟩)
theorem JM (he:DE K EX Γ Γ' .A te f):DS K EX Γ ⟨Γ',Γ1,Γ2,k⟩ (ZaM te) (fun ρ=>(f ρ).thenS fun _=>.next ρ):=fun B H0 H σ ρ F D A d=>by
 refine he B H0 H σ ρ F [] _ A (d.thenS.imp (fun x _ d v H1 s1 r1=>?_) fun e q=>q)
 obtain⟨F1,f1,h1,A1⟩:=r1
 exact d σ H1 F1 (Frm.of s1 f1) A1
theorem Z3 (he:DE K EX Γ Γ' .P te f):DS K EX Γ ⟨Γ3,Γ1,Γ2,.P⟩ (ZgG te) (fun ρ=>(f ρ).thenS fun x=>.ret x):=fun B H0 H σ ρ F D A d=>by
 refine he B H0 H σ ρ F [] _ A (d.thenS.imp (fun x _ d v H1 s1 r1=>?_) fun e q=>q)
 obtain⟨F1,f1,h1,h2,A1⟩:=r1
 exact d v H1 A1.same ⟨h1,h2⟩
theorem Vq (he:DE K EX Γ Γ' .F te f):DS K EX Γ ⟨Γ3,Γ1,Γ2,.F⟩ (ZgG te) (fun ρ=>(f ρ).thenS fun x=>.ret x):=fun B H0 H σ ρ F D A d=>by
 refine he B H0 H σ ρ F [] _ A (d.thenS.imp (fun x _ d v H1 s1 r1=>?_) fun e q=>q)
 obtain⟨F1,f1,G,h1,h2,A1⟩:=r1
 exact d v H1 A1.same ⟨G,h1,fun a ha=>A1.youngR a (by simpa using ha)⟩
theorem J4 {c:TT}{fc:List PV->Rr Bool} (hc:DT K EX Γ Γ' c fc) (h1:DS K EX Γ' Y t g) (h2:DS K EX Γ' Y u g'):DS K EX Γ Y (ZhU c t u) (fun ρ=>(fc ρ).thenS fun b=>if b=true then g ρ else g' ρ):=fun B H0 H σ ρ F D A d=>by
 refine hc B H0 H σ ρ F [] _ A (d.thenS.imp (fun b _ d H1 F1 s1 f1 A1=>?_) fun e q=>q)
 cases b with
 |true=>exact h1 B H0 H1 σ ρ F1 D A1 (DnS.shift (Frm.of s1 f1) d)
 |false=>exact h2 B H0 H1 σ ρ F1 D A1 (DnS.shift (Frm.of s1 f1) d)
theorem V9:DS K EX Γ Y Zdi (fun _=>.bad):=fun B H0 H σ ρ F D A d=>d
variable {ti:TE}{fi:List PV->Rr PV}
 {t u:TS}{g g':List PV->RS}{Y:Tys}{D:ZcZ}
theorem Zff {i:Nat}{m:Md} (h:Γ[i]?=some m):Γ.set i m=Γ:=by
 apply Zr8
 intro j
 by_cases q:i=j
 ·subst q;rw[ZqF (ZqM.mp h).1,h]
 ·rw[ZqB q]
theorem Ag.chgB {i:Nat}{m:Md}{a:Addr}{o':HO} (ho:Lvo o') {x':PV}{G G':List Addr} (A:Ag K B H0 H σ Γ ρ F (G++R)) (hm:Γ[i]?=some m) (ha:a∈F i) (hG:∀b∈G',b∈F i\/b∈G) (hGR:∀b∈G,b ∉ R)
  (hs:Vi K (upd H a o') (NO B (Jy F i G') R) m x' σ[i]? G'):Ag K B H0 (upd H a o') σ Γ (ρ.set i x') (Jy F i G') R:=by
 obtain⟨us,hH⟩:=A.live i a ha
 have hi:=A.lt hm
 have liveU:∀b,(∃us:LvO,H b=some us.1)->∃us:LvO,upd H a o' b=some us.1:=fun b ⟨us,q⟩=>by
  by_cases e:b=a
  ·exact⟨⟨o',ho⟩,by rw[e,Zt]⟩
  ·exact⟨us,by rw[Zl e];exact q⟩
 refine⟨A.same.upd (A.young i a ha),A.own,fun j b hb=>?_,fun b hb=>A.youngR b (Zq7 _ hb),fun j b hb=>liveU b ?_,fun b hb=>liveU b (A.liveR b (Zq7 _ hb)),fun j l hjl b hb z=>?_,fun j b hb z=>?_,A.lenS,by simp[A.lenR],fun j=>?_⟩
 ·by_cases q:j=i
  ·subst q;rw[Zs] at hb
   rcases hG b hb with z|z
   ·exact A.young j b z
   ·exact A.youngR b (Zq8 _ z)
  ·rw[Zx q] at hb;exact A.young j b hb
 ·by_cases q:j=i
  ·subst q;rw[Zs] at hb
   rcases hG b hb with z|z
   ·exact A.live j b z
   ·exact A.liveR b (Zq8 _ z)
  ·rw[Zx q] at hb;exact A.live j b hb
 ·by_cases q:j=i
  ·subst q
   rw[Zs] at hb
   rw[Zx (Ne.symm hjl)] at z
   rcases hG b hb with w|w
   ·exact A.disj j l hjl b w z
   ·exact A.disjR l b z (Zq8 _ w)
  ·rw[Zx q] at hb
   by_cases q':l=i
   ·subst q'
    rw[Zs] at z
    rcases hG b z with w|w
    ·exact A.disj j l hjl b hb w
    ·exact A.disjR j b hb (Zq8 _ w)
   ·rw[Zx q'] at z;exact A.disj j l hjl b hb z
 ·by_cases q:j=i
  ·subst q;rw[Zs] at hb
   rcases hG b hb with w|w
   ·exact A.disjR j b w (Zq7 _ z)
   ·exact hGR b w z
  ·rw[Zx q] at hb;exact A.disjR j b hb (Zq7 _ z)
 ·by_cases q:j=i
  ·subst q
   rw[Zs,Zq5,Zq5,hm,ZqF (by rw[A.lenR];exact hi)]
   exact hs
  ·rw[Zx q,Zq5 (l:=ρ.set _ _),ZqB (Ne.symm q),<- Zq5]
   refine(A.slot j).mono (fun b us s r=>?_) (fun b us r=>Im.putL hH r) fun b hb us r=>?_
   ·have hne:b≠a:=fun z=>s.2.2 i (z▸ha)
    refine⟨?_,s.1,fun z=>s.2.1 (Zq7 _ z),fun l z=>?_⟩
    ·rcases r with r|⟨o,r⟩
     ·exact .inl (by rw[Zl hne];exact r)
     ·exact .inr ⟨o,by rw[Zl hne];exact r⟩
    ·by_cases q':l=i
     ·subst q';rw[Zs] at z
      rcases hG b z with w|w
      ·exact s.2.2 l w
      ·exact s.2.1 (Zq8 _ w)
     ·rw[Zx q'] at z;exact s.2.2 l z
   ·have hne:b≠a:=fun z=>A.disj j i q b hb (z▸ha)
    rw[Zl hne];exact r
theorem Ag.chg {i:Nat}{m:Md}{a:Addr}{vs':List V}{x':PV}{G G':List Addr} (A:Ag K B H0 H σ Γ ρ F (G++R)) (hm:Γ[i]?=some m) (ha:a∈F i) (hG:∀b∈G',b∈F i\/b∈G) (hGR:∀b∈G,b ∉ R)
  (hs:Vi K (upd H a (.lst vs')) (NO B (Jy F i G') R) m x' σ[i]? G'):Ag K B H0 (upd H a (.lst vs')) σ Γ (ρ.set i x') (Jy F i G') R:=Ag.chgB (o':=.lst vs') trivial A hm ha hG hGR hs
theorem Vo {H1:Hp}{F1:Nat->List Addr}{i:Nat}{a:Addr}{o:HO}{G':List Addr} (s1:Zw H H1) (f1:∀i,∀b∈F1 i,b∈F i) (ha:a∈F1 i) (hG:∀b∈G',H b=none\/∃j,b∈F j):Frm H F (upd H1 a o) (Jy F1 i G'):=fun b u h n=>by
 have hne:b≠a:=fun z=>n i (f1 i b (z▸ha))
 refine⟨by rw[Zl hne];exact s1 b u h,fun j z=>?_⟩
 by_cases q:j=i
 ·subst q;rw[Zs] at z
  rcases hG b z with w|⟨l,w⟩
  ·rw[h] at w;cases w
  ·exact n l w
 ·rw[Zx q] at z;exact n j (f1 j b z)
theorem Trees.setP:∀{xs:List PV}{vs:List V}{G:List Addr}{j:Nat}{y:PV}{w:V},Trees K H xs vs G->ZD K H y w []->∃G',(∀a∈G',a∈G)/\Trees K H (xs.set j y) (vs.set j w) G'
 |[],_,_,_,_,_,h,_=>⟨[],by simp,by rw[h.1];exact⟨rfl,rfl⟩⟩
 |x::xs,_,_,0,y,w,h,h'=>by
  obtain⟨v,r,G1,G2,rfl,h1,h2,h3,rfl⟩:=h
  exact⟨G2,fun a ha=>by simp[ha],w,r,[],G2,rfl,h',h2,by simp,rfl⟩
 |x::xs,_,_,j+1,y,w,h,h'=>by
  obtain⟨v,r,G1,G2,rfl,h1,h2,h3,rfl⟩:=h
  obtain⟨G',h4,h5⟩:=Trees.setP (j:=j) h2 h'
  refine⟨G1++G',fun a ha=>?_,v,r.set j w,G1,G',rfl,h1,h5,fun a ha z=>h3 a ha (h4 a z),rfl⟩
  rcases Zq9.mp ha with z|z
  ·simp[z]
  ·simp[h4 a z]
noncomputable def pSet (x i y:PV):Rr PV:=match x,i with
 |.lst xs,.int j=>match ixN xs.length j with
  |some n=>.ok (.lst (xs.set n y))
  |none=>.bad
 |_,_=>.bad
theorem Dn.pSet {x i y:PV}{ok:PV->Prop}{ex:PX->Prop} (d:Dn (pSet x i y) ok ex):∃xs j n,x=.lst xs/\i=.int j/\ixN xs.length j=some n/\ok (.lst (xs.set n y)):=by
 unfold L2.pSet at d
 split at d
 ·rename_i xs j
  cases e:ixN xs.length j with
  |none=>rw[e] at d;exact d.elim
  |some n=>rw[e] at d;exact⟨xs,j,n,rfl,rfl,e,d⟩
 ·exact d.elim
theorem Zax {i:Nat} (hm:Γ2[i]?=some .O) (he:DE K EX Γ Γ2 .P te f) (hi:DE K EX Γ2 Γ2 .A ti fi) :
  DS K EX Γ ⟨Γ2,Γ1,Γ3,k⟩ (ZgH te (Zlc (VS i) ti ZgO)) (fun ρ=>(f ρ).thenS fun y=>(fi ρ).thenS fun j=>(pSet (gv i ρ) j y).thenS fun z=>.next (ρ.set i z)):=fun B H0 H σ ρ F D A d=>by
 refine he B H0 H σ ρ F [] _ A (d.thenS.imp (fun y _ d w H1 s1 r1=>?_) fun e q=>q)
 obtain⟨F1,f1,y1,y2,A1⟩:=r1
 obtain⟨v,h1,h2⟩:=A1.getO hm
 refine⟨v,h1,hi B H0 H1 σ ρ F1 [] _ A1 (d.thenS.imp (fun j _ d jv H2 s2 r2=>?_) fun e q=>q)⟩
 obtain⟨F2,f2,p2,A2⟩:=r2
 obtain⟨xs,jj,n,e1,rfl,e2,d⟩:=Dn.pSet d.thenS
 obtain⟨v',h1',h2'⟩:=A2.getO hm
 rw[h1] at h1';cases h1'
 rw[show ρ.getD i .non=.lst xs from e1] at h2'
 obtain⟨a,vs,G,rfl,hH,ht,hn,hF⟩:=h2'
 cases p2
 refine⟨a,vs,jj,n,rfl,rfl,hH,by rw[ht.length];exact e2, ?_⟩
 obtain⟨G',g1,g2⟩:=Trees.setP (j:=n) ht ((y2.same s2).tree y1)
 have haF:a∈F2 i:=by rw[hF];simp
 have hsub:∀b∈a::G',b∈F2 i:=fun b hb=>by
  rw[hF]
  rcases ZqE.mp hb with rfl|hb
  ·simp
  ·simp[g1 b hb]
 refine d σ _ (Jy F2 i (a::G')) (Vo (s1.trans s2) (fun j b hb=>f1 j b (f2 j b hb)) haF fun b hb=>.inr ⟨i,f1 i b (f2 i b (hsub b hb))⟩) (Ag.chg (G:=[]) A2 hm haF (fun b hb=>.inl (hsub b hb)) (by simp) ?_)
 exact⟨_,h1,a,_,G',rfl,Zt,g2.put hH (fun z=>hn (g1 a z)),fun z=>hn (g1 a z),rfl⟩
noncomputable def pApp (x y:PV):Rr PV:=match x with
 |.lst xs=>if xs.length<1000000 then .ok (.lst (xs++[y])) else .bad
 |_=>.bad
theorem Dn.pApp {x y:PV}{ok:PV->Prop}{ex:PX->Prop} (d:Dn (pApp x y) ok ex):∃xs,x=.lst xs/\xs.length<1000000/\ok (.lst (xs++[y])):=by
 unfold L2.pApp at d
 split at d
 ·rename_i xs
  by_cases h:xs.length<1000000
  ·rw[if_pos h] at d;exact⟨xs,rfl,h,d⟩
  ·rw[if_neg h] at d;exact d.elim
 ·exact d.elim
theorem Dn.asL {x:PV}{ok:List PV->Prop}{ex:PX->Prop} (d:Dn (asL x) ok ex):∃xs,x=.lst xs/\ok xs:=by
 cases x with
 |lst xs=>exact⟨xs,rfl,d⟩
 |_=>exact d.elim
theorem Ze1 {i:Nat} (hm:Γ[i]?=some .O) (hm2:Γ2[i]?=some .O) (he:DE K EX Γ Γ2 .F te f) :
  DS K EX Γ ⟨Γ2,Γ1,Γ3,k⟩ (ZaM (tBM K "list" Uz (VS i) (J1 te ZaL))) (fun ρ=>(asL (gv i ρ)).thenS fun xs=>(f ρ).thenS fun y=>(pApp (.lst xs) y).thenS fun z=>.next (ρ.set i z)):=fun B H0 H σ ρ F D A d=>by
 obtain⟨v,h1,h2⟩:=A.getO hm
 refine⟨v,h1, ?_⟩
 obtain⟨xs,e1,d⟩:=Dn.asL d.thenS
 rw[show ρ.getD i .non=.lst xs from e1] at h2
 obtain⟨a,vs,G,rfl,hH,ht,hn,hF⟩:=h2
 refine⟨.inl ⟨rfl,_,SqL.of hH⟩,he B H0 H σ ρ F [] _ A (d.thenS.imp (fun y _ d w H2 s2 r2=>?_) fun e q=>q)⟩
 obtain⟨F2,f2,G2,y1,y2,A2⟩:=r2
 obtain⟨xs',e2,hlen,d⟩:=Dn.pApp d.thenS
 cases e2
 obtain⟨v',h1',h2'⟩:=A2.getO hm2
 rw[h1] at h1';cases h1'
 rw[show ρ.getD i .non=.lst xs from e1] at h2'
 obtain⟨a',vs',G',e,hH',ht',hn',hF'⟩:=h2'
 cases e
 refine⟨a,vs',w,rfl,rfl,hH',by rw[ht'.length];exact ZqD hlen (by decide), ?_⟩
 have haF:a∈F2 i:=by rw[hF'];simp
 have dj:∀b∈G',b ∉ G2:=fun b hb z=>A2.disjR i b (by rw[hF'];simp[hb]) (Zq8 _ z)
 have na:a ∉ G2:=fun z=>A2.disjR i a haF (Zq8 _ z)
 have hsub:∀b∈a::(G'++G2),b∈F2 i\/b∈G2:=fun b hb=>by
  rw[hF']
  rcases ZqE.mp hb with rfl|hb
  ·simp
  ·rcases Zq9.mp hb with z|z
   ·simp[z]
   ·exact .inr z
 have hna:a ∉ G'++G2:=fun z=>(Zq9.mp z).elim hn' na
 refine d σ _ (Jy F2 i (a::(G'++G2))) (Vo s2 f2 haF fun b hb=>?_) (Ag.chg (G:=G2) (R:=[]) A2 hm2 haF hsub (by simp) ?_)
 ·rcases hsub b hb with z|z
  ·exact .inr ⟨i,f2 i b z⟩
  ·exact(y2 b z).2
 ·exact⟨_,h1,a,_,G'++G2,rfl,Zt,(Trees.append ht' (Trees.one y1) dj).put hH' hna,hna,rfl⟩
def DG (K:W.Frag) (EX:PX->Hp->Prop) (Γ Γ':List Md) (g:TG) (h:PV->List PV->Rr (List PV)):Prop:=
 ∀(B:Addr->Prop) (H0 H:Hp) (σ:St) (ρ:List PV) (F:Nat->List Addr) (v:V) (x:PV) (N:St->Hp->Prop),Ag K B H0 H σ Γ ρ F []->Rep K H (NO B F []) x v ->
  Dn (h x ρ) (fun ρ'=>∀σ' F',(∀i,∀a∈F' i,a∈F i)->Ag K B H0 H σ' Γ' ρ' F' []->N σ' H) (fun e=>∀H',Zw H0 H'->EX e H')->g v σ H N
def DGs (K:W.Frag) (EX:PX->Hp->Prop) (Γ Γ':List Md) (g:TGs) (h:List PV->List PV->Rr (List PV)):Prop:=
 ∀(B:Addr->Prop) (H0 H:Hp) (σ:St) (ρ:List PV) (F:Nat->List Addr) (vs:List V) (xs:List PV) (N:St->Hp->Prop),Ag K B H0 H σ Γ ρ F []->Reps K H (NO B F []) xs vs ->
  Dn (h xs ρ) (fun ρ'=>∀σ' F',(∀i,∀a∈F' i,a∈F i)->Ag K B H0 H σ' Γ' ρ' F' []->N σ' H) (fun e=>∀H',Zw H0 H'->EX e H')->g vs σ H N
theorem Zls {i:Nat} (hi:i<Γ.length):DG K EX Γ (Γ.set i .S) (Ub i) (fun x ρ=>.ok (ρ.set i x)):=fun B H0 H σ ρ F v x N A r d =>
 d _ (Jy F i []) Jm (Ag.put (G:=[]) (R:=[]) A hi (by simp) ⟨rfl,v,rfl,Rep.mono (fun a us s r=>⟨r,s.1,s.2.1,fun j z=>s.2.2 j (Jm j a z)⟩) (fun a us r=>r) r⟩)
theorem ZhZ {i:Nat} (hi:i<Γ.length):DG K EX Γ (Γ.set i .P) (Ub i) (fun x ρ=>(grd x).bind fun x=>.ok (ρ.set i x)):=fun B H0 H σ ρ F v x N A r d=>by
 unfold grd at d;dsimp only at d
 by_cases h:x.flat=true
 ·rw[if_pos h] at d
  exact d _ (Jy F i []) Jm (Ag.put (G:=[]) (R:=[]) A hi (by simp) ⟨rfl,v,rfl,h,r.any⟩)
 ·rw[if_neg h] at d;exact d.elim
noncomputable def Zkb (xs ρ:List PV):Rr (List PV):=match xs with
 |[]=>.ok ρ
 |_=>.bad
theorem Zh3:DGs K EX Γ Γ Zki Zkb:=fun B H0 H σ ρ F vs xs N A r d=>by
 cases xs with
 |nil=>exact⟨r,d σ F (fun _ _ h=>h) A⟩
 |cons x xs=>exact d.elim
noncomputable def hdR (h:PV->List PV->Rr (List PV)) (hs:List PV->List PV->Rr (List PV)) (xs:List PV) (ρ:List PV):Rr (List PV):=match xs with
 |x::r=>(h x ρ).bind fun ρ'=>hs r ρ'
 |[]=>.bad
theorem Zck {g:TG}{gs:TGs}{h:PV->List PV->Rr (List PV)}{hs:List PV->List PV->Rr (List PV)} (h1:DG K EX Γ Γ1 g h) (h2:DGs K EX Γ1 Γ2 gs hs):DGs K EX Γ Γ2 (Zhu g gs) (hdR h hs):=fun B H0 H σ ρ F vs xs N A r d=>by
 cases xs with
 |nil=>exact d.elim
 |cons x xs =>
  obtain⟨v,r',rfl,r1,r2⟩:=r
  refine⟨v,r',rfl,h1 B H0 H σ ρ F v x _ A r1 ((show Dn ((h x ρ).bind fun ρ'=>hs xs ρ') _ _ from d).bind.imp (fun ρ' _ d σ' F' f' A'=>?_) fun e q=>q)⟩
  refine h2 B H0 H σ' ρ' F' r' xs _ A' (Reps.mono (fun a us s r=>⟨r,s.1,s.2.1,fun j z=>s.2.2 j (f' j a z)⟩) (fun a us r=>r) r2) (d.imp (fun ρ2 _ d σ2 F2 f2 A2=>d σ2 F2 (fun j a ha=>f' j a (f2 j a ha)) A2) fun e q=>q)
noncomputable def asT (n:Nat) (x:PV):Rr (List PV):=match x with
 |.tup xs=>if xs.length=n then .ok xs else .bad
 |_=>.bad
theorem Dn.asT {n:Nat}{x:PV}{ok:List PV->Prop}{ex:PX->Prop} (d:Dn (asT n x) ok ex):∃xs,x=.tup xs/\xs.length=n/\ok xs:=by
 cases x with
 |tup xs =>
  unfold L2.asT at d
  by_cases h:xs.length=n
  ·simp only[if_pos h] at d;exact⟨xs,rfl,h,d⟩
  ·simp only[if_neg h] at d;exact d.elim
 |_=>exact d.elim
theorem Zjd {n:Nat}{gs:TGs}{hs:List PV->List PV->Rr (List PV)} (h2:DGs K EX Γ Γ2 gs hs):DG K EX Γ Γ2 (Zkh K n gs) (fun x ρ=>(asT n x).bind fun xs=>hs xs ρ):=fun B H0 H σ ρ F v x N A r d=>by
 obtain⟨xs,rfl,hl,d⟩:=Dn.asT d.bind
 obtain⟨a,vs,rfl,hn,hr⟩:=r
 exact⟨a,vs,rfl,hn.sqT,by rw[hr.length];exact hl,h2 B H0 H σ ρ F vs xs N A hr d⟩
def DGF (K:W.Frag) (EX:PX->Hp->Prop) (Γ Γ':List Md) (g:TG) (h:PV->List PV->Rr (List PV)):Prop:=
 ∀(B:Addr->Prop) (H0 H:Hp) (σ:St) (ρ:List PV) (F:Nat->List Addr) (G R:List Addr) (v:V) (x:PV) (N:St->Hp->Prop),Ag K B H0 H σ Γ ρ F (G++R)->(∀a∈G,a ∉ R)->ZD K H x v G ->
  Dn (h x ρ) (fun ρ'=>∀σ' F',(∀i,∀a∈F' i,a∈F i\/a∈G)->Ag K B H0 H σ' Γ' ρ' F' R->N σ' H) (fun e=>∀H',Zw H0 H'->EX e H')->g v σ H N
def ZjJ (K:W.Frag) (EX:PX->Hp->Prop) (Γ Γ':List Md) (g:TGs) (h:List PV->List PV->Rr (List PV)):Prop:=
 ∀(B:Addr->Prop) (H0 H:Hp) (σ:St) (ρ:List PV) (F:Nat->List Addr) (G R:List Addr) (vs:List V) (xs:List PV) (N:St->Hp->Prop),Ag K B H0 H σ Γ ρ F (G++R)->(∀a∈G,a ∉ R)->Trees K H xs vs G ->
  Dn (h xs ρ) (fun ρ'=>∀σ' F',(∀i,∀a∈F' i,a∈F i\/a∈G)->Ag K B H0 H σ' Γ' ρ' F' R->N σ' H) (fun e=>∀H',Zw H0 H'->EX e H')->g vs σ H N
theorem Zkm {i:Nat} (hi:i<Γ.length):DGF K EX Γ (Γ.set i .O) (Ub i) (fun x ρ=>.ok (ρ.set i x)):=fun B H0 H σ ρ F G R v x N A hG r d =>
 d _ (Jy F i G) (fun j a ha=>by
  by_cases q:j=i
  ·subst q;rw[Zs] at ha;exact .inr ha
  ·rw[Zx q] at ha;exact .inl ha) (Ag.put A hi hG ⟨v,rfl,r⟩)
theorem Zkl {i:Nat} (hi:i<Γ.length):DGF K EX Γ (Γ.set i .P) (Ub i) (fun x ρ=>(grd x).bind fun x=>.ok (ρ.set i x)):=fun B H0 H σ ρ F G R v x N A hG r d=>by
 unfold grd at d;dsimp only at d
 by_cases h:x.flat=true
 ·rw[if_pos h] at d
  exact d _ (Jy F i []) (fun j a ha=>.inl (Jm j a ha)) (Ag.put (G:=[]) (A.less fun a ha=>Zq7 _ ha) hi (by simp) ⟨rfl,v,rfl,h,r.rep fun _ _=>trivial⟩)
 ·rw[if_neg h] at d;exact d.elim
theorem ZfQ:ZjJ K EX Γ Γ Zki Zkb:=fun B H0 H σ ρ F G R vs xs N A hG r d=>by
 cases xs with
 |nil=>exact⟨r.1,d σ F (fun _ _ h=>.inl h) (A.less fun a ha=>Zq7 _ ha)⟩
 |cons x xs=>exact d.elim
theorem Zaz {g:TG}{gs:TGs}{h:PV->List PV->Rr (List PV)}{hs:List PV->List PV->Rr (List PV)} (h1:DGF K EX Γ Γ1 g h) (h2:ZjJ K EX Γ1 Γ2 gs hs):ZjJ K EX Γ Γ2 (Zhu g gs) (hdR h hs):=fun B H0 H σ ρ F G R vs xs N A hG r d=>by
 cases xs with
 |nil=>exact d.elim
 |cons x xs =>
  obtain⟨v,r',G1,G2,rfl,r1,r2,dj,rfl⟩:=r
  refine⟨v,r',rfl,h1 B H0 H σ ρ F G1 (G2++R) v x _ (by rw[<- Zr7];exact A) (fun a ha z=>?_) r1 ((show Dn ((h x ρ).bind fun ρ'=>hs xs ρ') _ _ from d).bind.imp (fun ρ' _ d σ' F' f' A'=>?_) fun e q=>q)⟩
  ·rcases Zq9.mp z with z|z
   ·exact dj a ha z
   ·exact hG a (Zq8 _ ha) z
  ·refine h2 B H0 H σ' ρ' F' G2 R r' xs _ A' (fun a ha=>hG a (Zq7 _ ha)) r2 (d.imp (fun ρ2 _ d σ2 F2 f2 A2=>d σ2 F2 (fun j a ha=>?_) A2) fun e q=>q)
   rcases f2 j a ha with z|z
   ·rcases f' j a z with w|w
    ·exact .inl w
    ·exact .inr (Zq8 _ w)
   ·exact .inr (Zq7 _ z)
theorem Zh4 {n:Nat}{gs:TGs}{hs:List PV->List PV->Rr (List PV)} (h2:ZjJ K EX Γ Γ2 gs hs):DGF K EX Γ Γ2 (Zkh K n gs) (fun x ρ=>(asT n x).bind fun xs=>hs xs ρ):=fun B H0 H σ ρ F G R v x N A hG r d=>by
 obtain⟨xs,rfl,hl,d⟩:=Dn.asT d.bind
 obtain⟨a,vs,rfl,hn,hr⟩:=r
 exact⟨a,vs,rfl,hn.sqT,by rw[hr.length];exact hl,h2 B H0 H σ ρ F G R vs xs N A hG hr d⟩
theorem Zhy {gt:TG}{h:PV->List PV->Rr (List PV)} (he:DE K EX Γ Γ1 .F te f) (hg:DGF K EX Γ1 Γ2 gt h):DS K EX Γ ⟨Γ2,Γ3,Γ',k⟩ (ZgH te gt) (fun ρ=>(f ρ).thenS fun x=>(h x ρ).thenS fun ρ'=>.next ρ'):=fun B H0 H σ ρ F D A d=>by
 refine he B H0 H σ ρ F [] _ A (d.thenS.imp (fun x _ d v H1 s1 r1=>?_) fun e q=>q)
 obtain⟨F1,f1,G,h1,h2,A1⟩:=r1
 refine hg B H0 H1 σ ρ F1 G [] v x _ A1 (by simp) h1 (d.thenS.imp (fun ρ' _ d σ' F' f' A'=>d σ' H1 F' (fun a o ho n=>⟨s1 a o ho,fun j z=>?_⟩) A') fun e q=>q)
 rcases f' j a z with w|w
 ·exact n j (f1 j a w)
 ·rcases (h2 a w).2 with q|⟨l,q⟩
  ·rw[ho] at q;cases q
  ·exact n l q
end
noncomputable def RS.turn:RS->(List PV->RS)->RS
 |.next ρ,f=>f ρ
 |.cont ρ,f=>f ρ
 |.brk ρ,_=>.next ρ
 |r,_=>r
noncomputable def UJ (b:PV->List PV->RS):List PV->List PV->RS
 |[],ρ=>.next ρ
 |x::xs,ρ=>(b x ρ).turn (UJ b xs)
section
variable {K:W.Frag}{B:Addr->Prop}{EX:PX->Hp->Prop}{H0 H H':Hp}{σ:St}{Γ Γ1 Γ2 Γ3 Γl Γt:List Md}{ρ:List PV}{F F':Nat->List Addr}{k:Kd}{x:PV}{v:V}{te ti:TE}{f fe:List PV->Rr PV}
 {t u:TS}{g g':List PV->RS}{Y:Tys}{D:ZcZ}
theorem Qm {wi:TI}{gt:TG}{fi:List PV->Rr (List PV)}{h:PV->List PV->Rr (List PV)} (hi:DI K EX Γ Γ1 wi fi) (hw:Q2 Γ1 Γl=true) (hg:DG K EX Γl Γt gt h) (hb:DS K EX Γt ⟨Γl,Γl,Γl,k⟩ t g) :
  DS K EX Γ ⟨Γl,Γ2,Γ3,k⟩ (Zj6 wi gt t) (fun ρ=>(fi ρ).thenS fun xs=>UJ (fun x ρ=>(h x ρ).thenS g) xs ρ):=fun B H0 H σ ρ F D A d=>by
 refine hi B H0 H σ ρ F [] _ A (d.thenS.imp (fun xs _ d J H1 F1 s1 f1 A1 it=>?_) fun e q=>q)
 obtain⟨Fl,fl,Al⟩:=A1.weak hw
 have fr0:Frm H F H1 Fl:=Frm.of s1 fun j a ha=>f1 j a (fl j a ha)
 have fr1:Frm H1 F1 H1 Fl:=Frm.of (Zw.refl _) fl
 refine⟨fun i m σ' H'=>∃ρ' F',m=xs.length-i/\i<=xs.length/\Frm H1 F1 H' F'/\Ag K B H0 H' σ' Γl ρ' F' []/\DnS K B EX ⟨Γl,Γ2,Γ3,k⟩ H0 H' F' D (UJ (fun x ρ=>(h x ρ).thenS g) (xs.drop i) ρ'),
  ⟨xs.length,ρ,Fl,by simp,Zre _,fr1,Al,by simpa using DnS.shift fr0 d⟩, ?_⟩
 rintro i m σ' H' ⟨ρ',F',rfl,hi',fr,A',dn⟩
 have itp:=it H' F' fr i
 cases hx:xs[i]? with
 |none =>
  refine .inl ⟨itp.2 hx, ?_⟩
  have hd:xs.drop i=[]:=Zri (ZqT.mp hx)
  rw[hd] at dn
  exact dn σ' H' F' Frm.refl A'
 |some x =>
  have hlt:i<xs.length:=(ZqM.mp hx).1
  obtain⟨go,yl⟩:=itp.1 x hx
  have hdx:xs.drop i=x::xs.drop (i+1):=by
   rw[Zrf hlt]
   rw[Zq6 hlt] at hx;cases hx;rfl
  rw[hdx] at dn
  simp only[UJ] at dn
  refine .inr ⟨go,fun σ2 H2=>∃ρ2 F2,Frm H1 F1 H2 F2/\Ag K B H0 H2 σ2 Γl ρ2 F2 []/\DnS K B EX ⟨Γl,Γ2,Γ3,k⟩ H0 H2 F2 D (UJ (fun x ρ=>(h x ρ).thenS g) (xs.drop (i+1)) ρ2),
   fun σ2 H2 ⟨ρ2,F2,a1,a2,a3⟩=>⟨xs.length-(i+1),by omega,ρ2,F2,rfl,hlt,a1,a2,a3⟩,fun v H3 y=>?_⟩
  obtain⟨s3,rx⟩:=yl v H3 y
  have fr3:Frm H' F' H3 F':=Frm.of s3 fun _ _ h=>h
  refine hg B H0 H3 σ' ρ' F' v x _ (A'.grow s3) (Rep.mono (fun a us s r=>⟨r,s.1⟩) (fun a us r=>r) rx) ?_
  cases e:h x ρ' with
  |ok ρt =>
   rw[e] at dn
   refine fun σt Ft ft At=>hb B H0 H3 σt ρt Ft _ At ?_
   have frt:Frm H' F' H3 Ft:=Frm.of s3 ft
   simp only[Rr.thenS_ok] at dn
   cases e2:g ρt with
   |next ρ2=>rw[e2] at dn;exact fun σ2 H2 F2 fr2 A2=>⟨ρ2,F2,fr.trans (frt.trans fr2),A2,DnS.shift (frt.trans fr2) dn⟩
   |cont ρ2=>rw[e2] at dn;exact fun σ2 H2 F2 fr2 A2=>⟨ρ2,F2,fr.trans (frt.trans fr2),A2,DnS.shift (frt.trans fr2) dn⟩
   |brk ρ2=>rw[e2] at dn;exact fun σ2 H2 F2 fr2 A2=>dn σ2 H2 F2 (frt.trans fr2) A2
   |ret y=>rw[e2] at dn;exact dn
   |exc q=>rw[e2] at dn;exact dn
   |bad=>rw[e2] at dn;exact dn
  |exc q=>rw[e] at dn;exact dn
  |bad=>rw[e] at dn;exact dn
theorem Trees.get:∀{xs:List PV}{vs:List V}{G:List Addr}{j:Nat}{x:PV},Trees K H xs vs G->xs[j]?=some x->∃v G',vs[j]?=some v/\ZD K H x v G'/\∀a∈G',a∈G
 |[],_,_,_,_,_,e=>by simp at e
 |y::xs,_,_,0,x,h,e=>by
  obtain⟨v,r,G1,G2,rfl,h1,h2,h3,rfl⟩:=h
  simp at e;subst e
  exact⟨v,G1,rfl,h1,fun a ha=>by simp[ha]⟩
 |y::xs,_,_,j+1,x,h,e=>by
  obtain⟨v,r,G1,G2,rfl,h1,h2,h3,rfl⟩:=h
  obtain⟨w,G',e1,e2,e3⟩:=Trees.get (j:=j) h2 (by simpa using e)
  exact⟨w,G',by simpa using e1,e2,fun a ha=>by simp[e3 a ha]⟩
theorem Zfa {xs:List PV}{vs:List V}{G:List Addr}{i:Int}{z:PV} (h:Trees K H xs vs G) (e:atI xs i=some z):∃u G',atI vs i=some u/\ZD K H z u G'/\∀a∈G',a∈G:=by
 unfold atI at e ⊢
 rw[h.length]
 cases q:ixN xs.length i with
 |none=>rw[q] at e;cases e
 |some j=>rw[q] at e;exact h.get e
theorem ZfN {i:Nat}{h:Int->Int->Int} (hm:Γ2[i]?=some .O) (hmΓ:Γ[i]?=some .O) (hi:DE K EX Γ Γ2 .A ti f) (he:DE K EX Γ2 Γ2 .A te fe) :
  DS K EX Γ ⟨Γ2,Γ1,Γ3,k⟩ (Zim (VS i) ti te (Ziu K) (ipI h) ZgO) (fun ρ=>(f ρ).thenS fun j=>(pIx (gv i ρ) j).thenS fun z=>(asL (gv i ρ)).thenS fun _=>(fe ρ).thenS fun y=>(oI (fun _ _=>true) (fun a b=>.int (h a b)) z y).thenS fun w=>(pSet (gv i ρ) j w).thenS fun z=>.next (ρ.set i z)):=fun B H0 H σ ρ F D A d=>by
 obtain⟨v,h1,h2⟩:=A.getO hmΓ
 refine⟨v,h1,hi B H0 H σ ρ F [] _ A (d.thenS.imp (fun j _ d jv H1 s1 r1=>?_) fun e q=>q)⟩
 obtain⟨F1,f1,p1,A1⟩:=r1
 obtain⟨z,ez,d⟩:=Dn.pIx d.thenS
 obtain⟨xs,ex,d⟩:=Dn.asL d.thenS
 rw[ex] at ez
 obtain⟨v',h1',h2'⟩:=A1.getO hm
 rw[h1] at h1';cases h1'
 rw[show ρ.getD i .non=.lst xs from ex] at h2'
 obtain⟨a,vs,G,rfl,hH,ht,hn,hF⟩:=h2'
 obtain⟨j,rfl⟩:∃j',j=PV.int j':=by cases j<;>first|exact⟨_,rfl⟩|(simp only[pIx] at ez;cases ez;done)
 cases p1
 simp only[pIx] at ez
 cases e1:atI xs j with
 |none=>rw[e1] at ez;cases ez
 |some z' =>
  rw[e1] at ez;cases ez
  obtain⟨u,G2,e2,e3,e4⟩:=Zfa ht e1
  refine⟨a,vs,j,u,rfl,rfl,SqL.of hH,e2,he B H0 H1 σ ρ F1 [] _ A1 (d.thenS.imp (fun y _ d w H2 s2 r2=>?_) fun e q=>q)⟩
  obtain⟨F2,f2,p2,A2⟩:=r2
  obtain⟨zi,yi,rfl,rfl⟩:∃zi yi,z=PV.int zi/\y=PV.int yi:=by cases z<;>cases y<;>first|exact⟨_,_,rfl,rfl⟩|(exact d.elim;done)
  obtain⟨e5,_⟩:=e3
  subst e5
  cases p2
  refine⟨zi,yi,rfl,rfl, ?_⟩
  obtain⟨xs',jj,n,ex',e6,e7,d⟩:=Dn.pSet (show DnS _ _ _ _ _ _ _ _ ((pSet (gv i ρ) (.int j) (.int (h zi yi))).thenS _) from d).thenS
  cases e6
  rw[ex] at ex';cases ex'
  obtain⟨v',h1',h2'⟩:=A2.getO hm
  rw[h1] at h1';cases h1'
  rw[show ρ.getD i .non=.lst xs from ex] at h2'
  obtain⟨a',vs',G',e,hH',ht',hn',hF'⟩:=h2'
  cases e
  refine⟨a,vs',j,n,rfl,rfl,hH',by rw[ht'.length];exact e7, ?_⟩
  obtain⟨G'',g1,g2⟩:=Trees.setP (j:=n) (y:=.int (h zi yi)) (w:=.int (h zi yi)) ht' ⟨rfl,rfl⟩
  have haF:a∈F2 i:=by rw[hF'];simp
  have hsub:∀b∈a::G'',b∈F2 i:=fun b hb=>by
   rw[hF']
   rcases ZqE.mp hb with rfl|hb
   ·simp
   ·simp[g1 b hb]
  refine d σ _ (Jy F2 i (a::G'')) (Vo (s1.trans s2) (fun j b hb=>f1 j b (f2 j b hb)) haF fun b hb=>.inr ⟨i,f1 i b (f2 i b (hsub b hb))⟩) (Ag.chg (G:=[]) A2 hm haF (fun b hb=>.inl (hsub b hb)) (by simp) ?_)
  exact⟨_,h1,a,_,G'',rfl,Zt,g2.put hH' (fun z=>hn' (g1 a z)),fun z=>hn' (g1 a z),rfl⟩
end
noncomputable def RS.out:RS->Rr PV
 |.next _=>.ok .non
 |.ret x=>.ok x
 |.exc e=>.exc e
 |.brk _=>.bad
 |.cont _=>.bad
 |.bad=>.bad
@[simp] theorem RS.out_next {ρ:List PV}:(RS.next ρ).out=.ok .non:=rfl
@[simp] theorem RS.out_ret {x:PV}:(RS.ret x).out=.ok x:=rfl
@[simp] theorem RS.out_exc {e:PX}:(RS.exc e).out=.exc e:=rfl
def Ref (r r':Rr PV):Prop:=r=.bad\/r=r'
structure Pm where
 α:Type
 enc:α->List PV
 pre:α->Prop
 out:α->Rr PV
open Classical in
noncomputable def Pm.fn (m:Pm) (xs:List PV):Rr PV:=if h:∃a,m.enc a=xs/\m.pre a then m.out h.choose else .bad
theorem Pm.fn_eq (m:Pm) (a:m.α) (h:m.pre a) (inj:∀b,m.enc b=m.enc a->m.out b=m.out a):m.fn (m.enc a)=m.out a:=by
 unfold Pm.fn
 have hx:∃b,m.enc b=m.enc a/\m.pre b:=⟨a,rfl,h⟩
 rw[dif_pos hx]
 exact inj _ hx.choose_spec.1
theorem Pm.ref (m:Pm) {g:List PV->Rr PV} (h:∀a,m.pre a->g (m.enc a)=m.out a) (xs:List PV):Ref (m.fn xs) (g xs):=by
 unfold Pm.fn
 by_cases hx:∃a,m.enc a=xs/\m.pre a
 ·rw[dif_pos hx]
  have h2:=hx.choose_spec
  right
  have:=h _ h2.2
  rw[h2.1] at this
  exact this.symm
 ·rw[dif_neg hx];exact .inl rfl
section
variable {K:W.Frag}{B:Addr->Prop}{H:Hp}
theorem Ag.init {xs:List PV}{vs:List V}{n:Nat} (h:Reps K H B xs vs):Ag K (fun a=>B a\/H a=none) H H (vs.map some++List.replicate n none) (List.replicate xs.length .S++List.replicate n .U) (xs++List.replicate n .non) (fun _=>[]) []:=by
 refine⟨Zw.refl _,fun a h=>.inr h,by simp,by simp,by simp,by simp,by simp,by simp,by simp[h.length],by simp,fun i=>?_⟩
 by_cases hi:i<xs.length
 ·have e1:(List.replicate xs.length Md.S++List.replicate n Md.U).getD i .U=.S:=by
   rw[Zq5,ZqI (by simpa using hi),Zrv hi];rfl
  have e2:(xs++List.replicate n PV.non).getD i .non=xs[i]:=by
   rw[Zq5,ZqI hi,Zq6 hi];rfl
  rw[e1,e2]
  obtain⟨v,h1,h2⟩:=h.get (Zq6 hi)
  refine⟨rfl,v, ?_,Rep.mono (fun a us s r=>⟨r,.inl s,by simp,by simp⟩) (fun a us r=>r) h2⟩
  rw[ZqI (by rw[ZqC,h.length];exact hi),ZqO,h1];rfl
 ·have e1:(List.replicate xs.length Md.S++List.replicate n Md.U).getD i .U=.U:=by
   rw[Zq5,ZqQ (by simpa using hi)]
   by_cases q:i-(List.replicate xs.length Md.S).length<n
   ·rw[Zrv q];rfl
   ·rw[ZqH (by simpa using q)];rfl
  rw[e1]
  exact rfl
end
section
variable {P:Program}{w:World}{K:W.Frag}{mg:Str->Option Value}{base:Heap}
theorem Fun.okP {x qual:Str}{st:Stmt}{f:Addr}{fd:FuncData}{N ps:List Str}{k n l:Nat}{kd:Kd}{m:List PV->Rr PV} (F:Fun K x qual st f fd) (S:Zu N ps (Zc st)) (hn:ps.length=n) (hl:N.length-n=l)
  (hbody:∀(cdv:Value) (A:Around) (outer:List Env) (s:Shared) (H:Hp) (E:XK),JH k (A.deeper (envOfC qual (Zc st) s.heap.objs.size f cdv)) ->
   ∃t g Y,Y.r=kd/\PSs (Za6 CX0 P w K mg base N qual (Zc st) f cdv A outer s H E).nox (Zj st) t/\DS K X0 (List.replicate n .S++List.replicate l .U) Y t g/\∀xs,Ref (m xs) (g (xs++List.replicate l .non)).out) (hkN:kd≠.N:=by nofun) :
  Jb P w K mg base CX0 (k+1) f fd ps (spF K n kd W0 m):=by
 refine F.ok S (fun vs H Q E h=>?_) (fun cdv A outer s H vs Q E hr h=>?_)
 ·obtain⟨B,xs,h1,h2,_⟩:=h
  rw[h1.length,h2,hn]
 ·obtain⟨B,xs,h1,h2,dn⟩:=h
  obtain⟨t,g,Y,hY,ht,hd,href⟩:=hbody cdv A outer s H E hr
  refine⟨t,ht, ?_⟩
  have A0:=Ag.init (n:=l) h1
  have est:Vt N vs=vs.map some++List.replicate l none:=by
   unfold Vt
   rw[h1.length,h2,hl]
  rw[est]
  rw[h2] at A0
  refine hd _ H H _ _ _ _ A0 ?_
  have hdn:Dn (g (xs++List.replicate l .non)).out (fun x=>∀v H',Zw H H'->Zga K B H kd x v H'->Q v H') (fun e=>∀H',Zw H H'->W0 e E H'):=by
   rcases href xs with e|e
   ·rw[e] at dn;exact dn.elim
   ·rw[<- e];exact dn
  have retK:∀{x v H'},Zga K (fun a=>B a\/H a=none) H kd x v H'->Zga K B H kd x v H':=fun {x v H'} h=>by
   cases kd with
   |P=>exact h
   |F=>exact h
   |T=>exact Rep.mono (fun a us s r=>⟨r,s.elim id .inr⟩) (fun a us r=>r) h
   |Z=>exact Rep.mono (fun a us s r=>⟨r,s.elim id .inr⟩) (fun a us r=>r) h
   |A=>exact Rep.mono (fun a us s r=>⟨r,s.elim id .inr⟩) (fun a us r=>r) h
   |N=>exact h
  cases e:g (xs++List.replicate l .non) with
  |next ρ =>
   rw[e] at hdn
   refine fun σ' H' F' fr A'=>hdn .non H' A'.same ?_
   cases kd with
   |P=>exact⟨rfl,rfl⟩
   |F=>exact⟨[],⟨rfl,rfl⟩,by simp⟩
   |T=>exact rfl
   |Z=>exact rfl
   |A=>exact rfl
   |N=>exact absurd rfl hkN
  |ret x=>rw[e] at hdn;exact fun v H' s r=>hdn v H' s (retK (hY▸r))
  |exc q=>rw[e] at hdn;exact fun H' s=>hdn H' s
  |brk ρ=>rw[e] at hdn;exact hdn.elim
  |cont ρ=>rw[e] at hdn;exact hdn.elim
  |bad=>rw[e] at hdn;exact hdn.elim
end
section
variable {K:W.Frag}{n:Nat}{m:List PV->Rr PV}{e:Expr}{ta:TA}{Γ Γ':List Md}{fa:List PV->Rr (List PV)}
theorem ZeV (hn:Len fa n) (ha:DAA K X0 Γ Γ' ta fa):DE K X0 Γ Γ' .F (Vd (spF K n .F W0 m) ta) (fun ρ=>(fa ρ).bind m):=Zco (E:=E0) (W:=W0) (fun σ H Q h=>h) (fun e H' h=>h) hn ha
theorem QL (hn:Len fa n) (ha:DAA K X0 Γ Γ' ta fa):DE K X0 Γ Γ' .P (Vd (spF K n .P W0 m) ta) (fun ρ=>(fa ρ).bind m):=QB (E:=E0) (W:=W0) (fun σ H Q h=>h) (fun e H' h=>h) hn ha
end
theorem ZcJ {K:W.Frag}{H:Hp}{a:Addr}{ns:List Int}{m:List PV->Rr PV} (hm:m [.lst (ns.map PV.int)]=.ok (.bl true)) (hS:SqL K H a (ns.map V.int)):spF K 1 .P W0 m [.ref a] H (fun v _=>v=.bl true) fun _ _ _=>False:=by
 refine⟨fun _=>True,[.lst (ns.map PV.int)],Reps.one ⟨a,_,rfl,hS.elim (fun h=>.inl ⟨h,trivial⟩) .inr,Zap ns⟩,rfl, ?_⟩
 rw[hm]
 exact fun v H' _ r=>r.2
section
variable {K:W.Frag}{EX:PX->Hp->Prop}{Γ Γ' Γ1 Γ2:List Md}{k:Kd}{te:TE}{f:List PV->Rr PV}
theorem ZcR {i:Nat}{wi:TI} (he:DE K EX Γ Γ' .F (Zfc wi te) f) (hi:i<Γ'.length):DS K EX Γ ⟨Γ'.set i .O,Γ1,Γ2,k⟩ (Zb4 i wi te) (fun ρ=>(f ρ).thenS fun x=>.next (ρ.set i x)):=JC he hi
end
def RS.good (r:RS) (I:List PV->Prop):Prop:=match r with
 |.next ρ=>I ρ
 |.cont ρ=>I ρ
 |_=>False
theorem RS.good_ex {r:RS}{I:List PV->Prop} (h:r.good I):∃ρ',(r=.next ρ'\/r=.cont ρ')/\I ρ':=by
 cases r with
 |next ρ=>exact⟨ρ,.inl rfl,h⟩
 |cont ρ=>exact⟨ρ,.inr rfl,h⟩
 |ret x=>exact h.elim
 |brk ρ=>exact h.elim
 |exc e=>exact h.elim
 |bad=>exact h.elim
theorem Ut {b:PV->List PV->RS}{xs:List PV}{ρ:List PV} (I:Nat->List PV->Prop) (h0:I 0 ρ) (h:∀i x ρ,xs[i]?=some x->I i ρ->(b x ρ).good (I (i+1))) :
  ∃ρ',UJ b xs ρ=.next ρ'/\I xs.length ρ':=by
 have key:∀n i ρ,xs.length=i+n->I i ρ->∃ρ',UJ b (xs.drop i) ρ=.next ρ'/\I xs.length ρ':=by
  intro n
  induction n with
  |zero =>
   intro i ρ hl hI
   rw[Zri (by omega)]
   exact⟨ρ,rfl,by rw[hl];exact hI⟩
  |succ n ih =>
   intro i ρ hl hI
   have hi:i<xs.length:=by omega
   rw[Zrf hi]
   obtain⟨ρ',h1,h2⟩:=RS.good_ex (h i _ ρ (Zq6 hi) hI)
   obtain⟨ρ2,h3,h4⟩:=ih (i+1) ρ' (by omega) h2
   refine⟨ρ2, ?_,h4⟩
   simp only[UJ]
   rcases h1 with h1|h1<;>(rw[h1];exact h3)
 exact key xs.length 0 ρ (by omega) h0
theorem Qw {lo:Int}{n i:Nat}{x:PV} (h:(Zc3 lo n)[i]?=some x):i<n/\x=.int (lo+i):=by
 unfold Zc3 at h
 rw[ZqO] at h
 by_cases hi:i<n
 ·rw[Zr2 hi] at h;cases h;exact⟨hi,rfl⟩
 ·rw[ZqH (by simpa using hi)] at h;cases h
@[simp] theorem Vj {lo:Int}{n:Nat}:(Zc3 lo n).length=n:=by simp[Zc3]
theorem Zf7 {ns:List Int}{i:Nat}{x:PV} (h:(ns.map PV.int)[i]?=some x):∃z,x=.int z/\ns[i]?=some z/\i<ns.length:=by
 rw[ZqO] at h
 cases e:ns[i]? with
 |none=>rw[e] at h;cases h
 |some z=>rw[e] at h;cases h;exact⟨z,rfl,rfl,(ZqM.mp e).1⟩
theorem ZdZ {α β:Type}{f:α->Rr β}{g:α->β}:∀{xs:List α},(∀x∈xs,f x=.ok (g x))->ZaI f xs=.ok (xs.map g)
 |[],_=>rfl
 |x::xs,h=>by
  simp only[ZaI,h x (by simp),Rr.bind_ok,ZdZ (xs:=xs) fun y hy=>h y (by simp[hy]),ZqJ]
@[simp] theorem Zeq {x:PV}{ρ:List PV}:gv 0 (x::ρ)=x:=rfl
@[simp] theorem Zer {x:PV}{ρ:List PV}{i:Nat}:gv (i+1) (x::ρ)=gv i ρ:=rfl
theorem Jh {ns:List Int}{k:Int} (h0:0<=k) (h1:k<ns.length):pIx (.lst (ns.map PV.int)) (.int k)=.ok (.int (ns.getD k.toNat 0)):=by
 have:atI (ns.map PV.int) k=some (.int (ns.getD k.toNat 0)):=by
  unfold atI
  rw[ZqC,Zca h0 h1]
  show (ns.map PV.int)[k.toNat]?=_
  rw[ZqO,Zq6 (by omega),Zq5,Zq6 (by omega)]
  rfl
 simp only[pIx,this]
theorem Vw {ns:List Int}{k y:Int} (h0:0<=k) (h1:k<ns.length):pSet (.lst (ns.map PV.int)) (.int k) (.int y)=.ok (.lst ((ns.set k.toNat y).map PV.int)):=by
 simp only[pSet,ZqC,Zca h0 h1,List.map_set]
theorem Zag {ns:List Int}{y:Int} (h:ns.length<1000000):pApp (.lst (ns.map PV.int)) (.int y)=.ok (.lst ((ns++[y]).map PV.int)):=by
 simp only[pApp,ZqC,if_pos h,Zrm,ZqJ,Zrl]
theorem Vz {ns:List Int} (h:ns.length<=1000000):newF (ns.map PV.int)=.ok (.lst (ns.map PV.int)):=by
 unfold newF
 rw[PV.flats_ints,ZqC,decide_eq_true h];rfl
theorem Za5 (ns:List Int):PV.dats (ns.map PV.int)=ns.map PyData.int:=by
 induction ns with
 |nil=>rfl
 |cons n ns ih=>simp[PV.dats,PV.dat,ih]
theorem Zbo (ns:List Int):PyData.canLayAll0 (ns.map PyData.int)=true:=by
 induction ns with
 |nil=>rfl
 |cons n ns ih=>simp[PyData.canLayAll0,PyData.canLay0,ih]
theorem ZdQ (i:Int):okD (.int i)=true:=by simp[okD,PV.noX,PV.dat,PyData.canLay0,PyData.depth]
theorem ZbP (ns:List Int):okD (.lst (ns.map PV.int))=true:=by
 have hd:PyData.depthAll (ns.map PyData.int)=0:=by
  induction ns with
  |nil=>rfl
  |cons n ns ih=>simp[PyData.depthAll,PyData.depth,ih]
 simp[okD,PV.noX,PV.noXs_ints,PV.dat,Za5,PyData.canLay0,Zbo,PyData.depth,hd]
theorem UK:∀(ns ms:List Int),PyData.eqvAll (ns.map PyData.int) (ms.map PyData.int)=decide (ns=ms)
 |[],[]=>by simp[PyData.eqvAll]
 |[],m::ms=>by simp[PyData.eqvAll]
 |n::ns,[]=>by simp[PyData.eqvAll]
 |n::ns,m::ms=>by
  simp only[ZqJ,PyData.eqvAll,PyData.eqv,UK ns ms,List.cons.injEq,Bool.decide_and]
  rw[Bool.beq_eq_decide_eq]
theorem ZbM {g:Bool->Bool} (ns ms:List Int):QJ g (.lst (ns.map PV.int)) (.lst (ms.map PV.int))=.ok (.bl (g (decide (ns=ms)))):=by
 unfold QJ
 rw[ZbP,ZbP]
 simp only[Bool.and_self,if_true,PV.dat,Za5,PyData.eqv,UK]
theorem ZdG {g:Bool->Bool} (i j:Int):QJ g (.int i) (.int j)=.ok (.bl (g (decide (i=j)))):=by
 unfold QJ
 rw[ZdQ,ZdQ]
 simp only[Bool.and_self,if_true,PV.dat,PyData.eqv]
 rw[Bool.beq_eq_decide_eq]
theorem Zaf (ns:List Int):ZgZ [.lst (ns.map PV.int)]=.ok (.int ns.length):=by simp[ZgZ]
theorem Zad (ns:List Int):ZjU [.lst (ns.map PV.int)]=.ok (.int ns.sum):=by simp[ZjU,ZcB]
theorem Zc9 {ns:List Int} (h:ns.length<=1000000):Zfr [.lst (ns.map PV.int)]=.ok (.lst (ns.map PV.int)):=by
 simp only[Zfr];exact Vz h
theorem ZbT {ns ms:List Int} (h:ns.length+ms.length<=1000000):newF (ns.map PV.int++ms.map PV.int)=.ok (.lst ((ns++ms).map PV.int)):=by
 rw[<- Zrm];exact Vz (by simpa using h)
theorem Zae {ns:List Int}{k:Int} (h0:ns.length*k.toNat<=1000000) (h1:-(2^63)<=k) (h2:k<2^63):ZhV (ns.map PV.int) (.int k)=.ok (.lst ((List.replicate k.toNat ns).flatten.map PV.int)):=by
 simp only[ZhV,ZqC]
 rw[if_pos ⟨h0,h1,h2⟩]
 have e:(List.replicate k.toNat (ns.map PV.int)).flatten=(List.replicate k.toNat ns).flatten.map PV.int:=by
  rw[List.map_flatten,List.map_replicate]
 rw[e]
 refine Vz ?_
 rw[Zea,Nat.mul_comm];exact h0
theorem ZhE {i j:Int} (a b:Nat) (h1:i.natAbs<=10^a) (h2:j.natAbs<=10^b) (ha:a<=4000:=by decide) (hb:b<=4000:=by decide):Zbw i j:=by
 have t:∀c:Nat,c<=4000->(10:Nat)^c<2^60000:=fun c hc=>Zrk (Nat.pow_le_pow_right (by decide) hc) (by decide +kernel)
 exact⟨Zrk h1 (t a ha),Zrk h2 (t b hb)⟩
theorem ZeG {i j:Int} (b:Nat) (h1:0<j) (h2:j.natAbs<=10^b) (hb:b<=2000:=by decide):Zbx i j:=by
 have t:∀c:Nat,c<=2000->(10:Nat)^c<2^9000:=fun c hc=>Zrk (Nat.pow_le_pow_right (by decide) hc) (by decide +kernel)
 exact⟨h1,Zrk h2 (t b hb)⟩
theorem ZdI {i j:Int} (h:Zbx i j):ZjW (.int i) (.int j)=.ok (.int (i/j)):=ZbR (decide_eq_true h)
theorem ZgY {i j:Int} (h:Zbw i j):ZkY (.int i) (.int j)=.ok (.int (i*j)):=ZbR (decide_eq_true h)
theorem VM {i j:Int} (h:0<j):ZkZ (.int i) (.int j)=.ok (.int (i%j)):=ZbR (decide_eq_true h)
theorem ZgX {i j:Int} (h:Zib i j):ZjV (.int i) (.int j)=.ok (.int (i^j.toNat)):=ZbR (decide_eq_true h)
@[simp] theorem ZdK {i j:Int}:ZjX (.int i) (.int j)=.ok (.int (i+j)):=rfl
@[simp] theorem ZdA {i j:Int}:ZkX (.int i) (.int j)=.ok (.int (i-j)):=rfl
@[simp] theorem Zgq {i j:Int}:pLt (.int i) (.int j)=.ok (.bl (decide (i<j))):=rfl
@[simp] theorem Zgr {i j:Int}:pLe (.int i) (.int j)=.ok (.bl (decide (i<=j))):=rfl
@[simp] theorem Zgw {i j:Int}:pGt (.int i) (.int j)=.ok (.bl (decide (j<i))):=rfl
@[simp] theorem Zgx {i j:Int}:pGe (.int i) (.int j)=.ok (.bl (decide (j<=i))):=rfl
@[simp] theorem Zet {i:Int}:grd (.int i)=.ok (.int i):=rfl
@[simp] theorem Zg6 {b:Bool}:asB (.bl b)=.ok b:=rfl
@[simp] theorem ZeP {xs:List PV}:asL (.lst xs)=.ok xs:=rfl
@[simp] theorem Zgv {n:String}{x:Int}:ZjA n (.int x)=.ok (.bl (Q5 (Vc (.int x)) n)):=rfl
@[simp] theorem Zgu {n:String}{x:List PV}:ZjA n (.lst x)=.ok (.bl (Q5 (Vc (.lst x)) n)):=rfl
@[simp] theorem ZdB {i:Int}:Zj9 (.int i)=.ok (.int (-i)):=rfl
@[simp] theorem Zgt {x:PV}{xs:List PV}:pIx (.tup (x::xs)) (.int 0)=.ok x:=by simp[pIx,atI,ixN]
@[simp] theorem Zgs {x y:PV}{xs:List PV}:pIx (.tup (x::y::xs)) (.int 1)=.ok y:=by
 have:atI (x::y::xs) 1=some y:=by unfold atI;rw[Zca (by omega) (by simp only[ZqL];omega)];rfl
 simp only[pIx,this]
theorem ZbL {j:Int} (h:-(2^62)<=j/\j<2^62):Zfp [.int j]=.ok (Zc3 0 j.toNat):=by simp only[Zfp,okR,decide_eq_true h,if_true]
theorem ZbK {i j:Int} (h:-(2^62)<=i/\i<2^62) (h':-(2^62)<=j/\j<2^62):Zfo [.int i,.int j]=.ok (Zc3 i (j-i).toNat):=by simp only[Zfo,okR,decide_eq_true h,decide_eq_true h',Bool.and_self,if_true]
theorem Zeb {xs:List PV} (h:xs.length<=1000000):lenM xs=.ok ():=by simp only[lenM,if_pos h]
@[simp] theorem Zcc:Q5 (Vc (.int i)) "int"=true:=rfl
@[simp] theorem Zcd:Q5 (Vc (.int i)) "bool"=false:=rfl
@[simp] theorem Zcb:Q5 (Vc (.lst xs)) "list"=true:=rfl
theorem VX {I:List PV->Prop}{ρ:List PV} (h:I ρ):(RS.next ρ).good I:=h
theorem Zcf {h:PV->List PV->Rr (List PV)}{hs:List PV->List PV->Rr (List PV)}{x:PV}{xs ρ:List PV}:hdR h hs (x::xs) ρ=(h x ρ).bind fun ρ'=>hs xs ρ':=rfl
theorem ZbS {ρ:List PV}:Zkb [] ρ=.ok ρ:=rfl
theorem ZV {ns ms:List Int} (e:ns.map PV.int=ms.map PV.int):ns=ms:=by
 have:=congrArg VW e
 simpa using this
theorem Qf {i j:Int} (h0:0<j) (h1:j<1000000000000):ZjW (.int i) (.int j)=.ok (.int (i/j)):=ZdI (ZeG 12 h0 (by omega))
theorem Zi7:ZjV (.int 10) (.int 60)=.ok (.int (10^60)):=by rw[ZgX (by decide)];rfl
theorem Zg0 {xs:List PV} (h:xs.length<=1000):mkT xs=.ok (.tup xs):=if_pos h
theorem Zg1 {xs:List PV} (h:xs.length<=1000):mkL xs=.ok (.lst xs):=if_pos h
noncomputable def KD {α:Type}:Sem α->Prop
 |.pure _=>True
 |.raise _=>True
 |.unsupported _=>True
 |.finish _=>True
 |.rule _ k=>KD (k ())
 |.at _ k=>KD (k ())
 |.load _ _ k=>∀o,KD (k o)
 |.update _ _ f k=>(∀o:Obj,(f o).dict=o.dict/\(o.isFreed=false->(f o).isFreed=false))/\KD (k ())
 |.alloc _ k=>∀a,KD (k a)
 |.loadIfAlive _ k=>∀o,KD (k o)
 |.point _ k=>KD (k ())
 |.register _ _=>True
 |.fresh k=>∀t,KD (k t)
 |.ask k=>∀x,KD (k x)
 |.choose _ _ k=>∀n,KD (k n)
 |.os _ _ k=>∀r,KD (k r)
 |.call _ _ _ _ _=>False
 |.handled _ k=>∀x,KD (k x)
 |.newGen _ k=>∀g,KD (k g)
 |.genState _ k=>∀x,KD (k x)
 |.resume _ _ _ _=>False
 |.yield _ _ _ _=>True
 |.stack k=>∀x,KD (k x)
 |.fork _ _=>True
 |.thread k=>∀x,KD (k x)
 |.await _ _ _ _ _=>True
def DK (h h':Heap):Prop:=∀b o,h.get? b=some o->∃o',h'.get? b=some o'/\o'.dict=o.dict
theorem DK.refl (h:Heap):DK h h:=fun b o e=>⟨o,e,rfl⟩
theorem DK.trans {h1 h2 h3:Heap} (a:DK h1 h2) (b:DK h2 h3):DK h1 h3:=fun x o e=>by
 obtain⟨o1,e1,d1⟩:=a x o e
 obtain⟨o2,e2,d2⟩:=b x o1 e1
 exact⟨o2,e2,d2.trans d1⟩
theorem Zkf {M:Model}{Γ:PySem.Ctx}{α:Type}{Q:α->Pos->Shared->Prop}{E:Value->Pos->Shared->Prop}{h0:Heap}:∀(t:Sem α) (p:Pos) (s:Shared),KD t->DK h0 s.heap->Sem.wp M Γ t Q E p s ->
  Sem.wp M Γ t (fun a p' s'=>Q a p' s'/\DK h0 s'.heap) (fun e p' s'=>E e p' s'/\DK h0 s'.heap) p s:=by
 intro t
 induction t with
 |pure a=>intro p s _ d h;exact⟨h,d⟩
 |raise e=>intro p s _ d h;exact⟨h,d⟩
 |unsupported w=>intro p s _ _ h;exact h
 |finish e=>intro p s _ _ h;exact h
 |rule t k ih=>intro p s k d h;exact ih () p s k d h
 |«at» q k ih=>intro p s k d h;exact ih () q s k d h
 |load a q k ih=>intro p s k d h;obtain⟨o,e,h⟩:=h;exact⟨o,e,ih o p s (k o) d h⟩
 |update a q f k ih =>
  intro p s k d h
  refine⟨h.1,ih () p _ k.2 (d.trans fun b o e=>?_) h.2⟩
  by_cases hb:a=b
  ·subst hb
   exact⟨_,Heap.get?_update_self f e ((k.1 o).2 (Heap.get?_some_iff.mp e).2),(k.1 o).1⟩
  ·exact⟨o,(Heap.get?_update_other _ f hb).trans e,rfl⟩
 |alloc o k ih=>intro p s k d h;exact ih _ p _ (k _) (d.trans fun b o' e=>⟨o',Heap.get?_push_of_some _ e,rfl⟩) h
 |loadIfAlive a k ih=>intro p s k d h;exact ih _ p s (k _) d h
 |point l k ih=>intro p s k d h;exact ih () p s k d h
 |register a k ih=>intro p s _ _ h;exact h
 |fresh k ih=>intro p s k d h;exact ih _ p _ (k _) d h
 |ask k ih=>intro p s k d h;exact ih _ p _ (k _) d h
 |choose a n k ih=>intro p s k d h;exact⟨h.1,ih _ p _ (k _) d h.2⟩
 |os q l k ih=>intro p s k d h;exact ih _ p _ (k _) d h
 |call c h g l k ih=>intro p s k d h;exact k.elim
 |handled o k ih=>intro p s k d h;exact ih _ p _ (k _) d h
 |newGen c k ih=>intro p s k d h;exact ih _ p _ (k _) d h
 |genState g k ih=>intro p s k d h;obtain⟨st,e,h⟩:=h;exact⟨st,e,ih _ p s (k _) d h⟩
 |resume g r l k ih=>intro p s k d h;exact k.elim
 |yield v g l k ih=>intro p s _ _ h;exact h
 |stack k ih=>intro p s k d h;exact ih _ p _ (k _) d h
 |fork c k ih=>intro p s _ _ h;exact h
 |thread k ih=>intro p s k d h;exact ih _ p _ (k _) d h
 |await a t d l k ih=>intro p s _ _ h;exact h
theorem Zan {M:Model}{A:Around}{α:Type}{t:Sem α}{Q:α->Shared->Prop}{E:Value->Shared->Prop}{s:Shared} (k:KD t) (h:wpAny M A t Q E s):wpAny M A t (fun a s'=>Q a s'/\DK s.heap s'.heap) (fun e s'=>E e s'/\DK s.heap s'.heap) s:=
 fun Γ p hΓ=>Zkf t p s k (DK.refl _) (h Γ p hΓ)
theorem Z4 {α β:Type}:∀(m:Sem α) {f:α->Sem β},KD m->(∀a,KD (f a))->KD (m >>= f):=by
 intro m f
 show KD m->_->KD (m.bind f)
 induction m with
 |pure a=>intro _ h;exact h a
 |raise e=>intro _ _;trivial
 |unsupported w=>intro _ _;trivial
 |finish e=>intro _ _;trivial
 |rule t k ih=>intro k h;exact ih () k h
 |«at» q k ih=>intro k h;exact ih () k h
 |load a q k ih=>intro k h o;exact ih o (k o) h
 |update a q g k ih=>intro k h;exact⟨k.1,ih () k.2 h⟩
 |alloc o k ih=>intro k h a;exact ih a (k a) h
 |loadIfAlive a k ih=>intro k h o;exact ih o (k o) h
 |point l k ih=>intro k h;exact ih () k h
 |register a k ih=>intro _ _;trivial
 |fresh k ih=>intro k h a;exact ih a (k a) h
 |ask k ih=>intro k h a;exact ih a (k a) h
 |choose a n k ih=>intro k h a;exact ih a (k a) h
 |os q l k ih=>intro k h a;exact ih a (k a) h
 |call c h g l k ih=>intro k h;exact k.elim
 |handled o k ih=>intro k h a;exact ih a (k a) h
 |newGen c k ih=>intro k h a;exact ih a (k a) h
 |genState g k ih=>intro k h a;exact ih a (k a) h
 |resume g r l k ih=>intro k h;exact k.elim
 |yield v g l k ih=>intro _ _;trivial
 |stack k ih=>intro k h a;exact ih a (k a) h
 |fork c k ih=>intro _ _;trivial
 |thread k ih=>intro k h a;exact ih a (k a) h
 |await a t d l k ih=>intro _ _;trivial
theorem ZK {α:Type}{a:α}:KD (pure a:Sem α):=trivial
theorem UY {α:Type}{w:String}:KD (unsupported w:Sem α):=trivial
theorem Zbd {a:Addr}:KD (load a):=fun _=>trivial
theorem ZiM (g:Array Value->Array Value) (o:Obj):(Obj.mapFields g o).dict=o.dict/\(o.isFreed=false->(Obj.mapFields g o).isFreed=false):=by
 obtain⟨c,d,dt,sl⟩:=o
 cases dt<;>exact⟨rfl,fun h=>h⟩
theorem Zbf (v:Value):KD (fieldsOf v):=by
 unfold fieldsOf
 cases v<;>try exact UY
 refine Z4 _ Zbd fun o=>?_
 cases o.data<;>first|exact ZK|exact UY
theorem Ur (v:Value) (i:Nat):KD (field v i):=by
 unfold field
 refine Z4 _ (Zbf v) fun vs=>?_
 cases vs[i]?<;>first|exact ZK|exact UY
theorem Vn (v:Value) (i:Nat) (x:Value):KD (setField v i x):=by
 unfold setField
 cases v<;>try exact UY
 unfold updateField
 refine Z4 _ Zbd fun o=>?_
 cases o.data<;>try exact UY
 dsimp only
 split
 ·exact⟨fun o=>ZiM _ o,trivial⟩
 ·exact UY
theorem JK (e:Value) (f:Option Addr):KD (setFlight e f):=by
 unfold setFlight
 refine Z4 _ (Ur e 1) fun tb=>?_
 split
 ·exact Vn _ _ _
 ·exact ZK
theorem Zam (ty:String) (vs:List Value):KD (newFields ty vs):=by
 unfold newFields newObj newObjAsIs
 dsimp only
 have al:∀(o:Obj),KD (alloc o):=fun _ _=>trivial
 split
 ·exact Z4 _ UY fun _=>Z4 _ (al _) fun _=>ZK
 ·exact Z4 _ (al _) fun _=>ZK
theorem Zei (env:Env) (outer:List Env):KD (behindIsImport env outer):=by
 unfold behindIsImport
 split
 ·exact ZK
 ·split
  ·exact ZK
  ·exact Z4 _ (Ur _ _) fun _=>ZK
theorem Zbe (env:Env) (i:Bool) (outer:List Env):KD (keptBack env i outer):=by
 cases outer with
 |nil =>
  have u:KD underTheClaimsCaller:=by
   unfold underTheClaimsCaller
   exact Z4 _ (show KD stack from fun _=>trivial) fun _=>ZK
  rw[keptBack]
  split
  ·exact ZK
  ·exact Z4 _ u fun _=>ZK
 |cons c r=>unfold keptBack;exact ZK
theorem Zf3 {o:Obj}{sl:Array (Option Value)}:({ o with slots:=sl }:Obj).dict=o.dict/\(o.isFreed=false->({ o with slots:=sl }:Obj).isFreed=false):=by
 obtain⟨c,d,dt,s⟩:=o
 cases dt<;>exact⟨rfl,fun h=>h⟩
theorem ZbZ:∀(l:List Env),KD (readyFrames l)
 |[]=>trivial
 |env::outer=>by
  unfold readyFrames
  cases env.frame with
  |none=>exact UY
  |some f =>
   dsimp only
   refine Z4 _ Zbd fun o=>?_
   split
   ·exact ZK
   ·refine Z4 _ (Zei _ _) fun _=>Z4 _ (Zbe _ _ _) fun _=>Z4 _ ⟨fun o=>Zf3,trivial⟩ fun _=>ZbZ outer
theorem ZcM (env:Env):KD (PySem.frameOf env):=by
 unfold PySem.frameOf
 refine Z4 _ ?_ fun l=>Z4 _ ?_ fun r=>?_
 ·unfold frameEnvs
  exact Z4 _ (fun _=>trivial) fun _=>ZK
 ·cases (List.dropWhile (fun x=>x.frame != env.frame) l) with
  |nil=>exact ZK
  |cons a r=>exact Z4 _ (ZbZ _) fun _=>ZK
 ·cases r<;>first|exact ZK|exact UY
theorem Zf4 (f:Addr) (b:Bool):KD (entryPlaceOf f b):=by
 unfold entryPlaceOf
 refine Z4 _ (show KD stack from fun _=>trivial) fun acts=>?_
 split<;>exact ZK
theorem Zeh (e:Value) (env:Env):KD (noteFrame e env):=by
 unfold noteFrame
 cases env.frame with
 |none=>exact UY
 |some f =>
  dsimp only
  refine Z4 _ (Ur _ _) fun head=>?_
  have tail:∀(hd:Bool),KD (do setField e 1 (<- EntryCells.newEntry head (<- PySem.frameOf env) .none (rawInt f) .none (<- entryPlaceOf f hd))):=fun hd =>
   Z4 _ (ZcM env) fun _=>Z4 _ (Zf4 _ _) fun _=>Z4 _ (Zam _ _) fun _=>Vn _ _ _
  split
  ·refine Z4 _ (Ur _ _) fun x=>?_
   split
   ·exact ZK
   ·exact Z4 _ (Vn _ _ _) fun _=>tail _
  ·exact tail _
theorem Qi (env:Env) (e:Value):KD (leaving env e):=Z4 _ (Zeh e env) fun _=>JK e none
theorem Jg.there {P:Program}{w:World}{H:Hp}{h:Heap}{a:Addr}{o:HO} (x:Jg P w H h a o):∃u,h.get? a=some u:=by
 cases o with
 |lst xs=>obtain⟨_,_,_,_,e⟩:=x;exact⟨_,e⟩
 |tup xs=>obtain⟨_,_,_,_,e,_⟩:=x;exact⟨_,e⟩
 |dK kvs=>obtain⟨_,_,_,_,o,_,_,e,_⟩:=x;exact⟨_,e⟩
 |dT kvs=>obtain⟨_,_,_,_,o,_,_,e,_⟩:=x;exact⟨_,e⟩
 |set S n=>obtain⟨o,_,_,_,e,_⟩:=x;exact⟨_,e⟩
 |ins C dx fs=>obtain⟨_,_,_,e,_⟩:=x;exact⟨_,e⟩
 |own y=>obtain⟨_,e⟩:=x;exact⟨_,e⟩
 |xd fs=>obtain⟨_,⟨_,_,_,e,_⟩,_⟩:=x;exact⟨_,e⟩
 |rng lo hi=>obtain⟨_,_,_,e⟩:=x;exact⟨_,e⟩
 |frz ob u=>exact⟨_,x.1⟩
 |tbl ps=>exact⟨_,x⟩
 |met f y=>exact⟨_,x⟩
 |ext φ=>exact x.2.1
def ZhQ (H:Hp) (ea k:Addr) (o:Obj):Prop:=(o.dict=none/\k=ea)\/(o.dict=some k/\∃fs,H k=some (.xd fs))
structure Fly (P:Program) (w:World) (outer:List Env) (H:Hp) (s:Shared) (ea k:Addr) (cls:Value) (H':Hp) (s':Shared):Prop where
 os:s'.os=s.os
 bare:AllBare s'.gens
 un:Un (frs outer) [] H H' s.heap s'.heap
 hok:HOk P w H' s'.heap
 new:H' ea=none
 dict:∃o,s'.heap.get? ea=some o/\ZhQ H' ea k o
 fly:∃(Bh:Heap) (t:Addr),Heap.FlyingW Bh outer ea cls (.ref t) s'.heap/\(∀b u,H' b=some u->∀o,s'.heap.get? b=some o->Bh.get? b=some o)/\∀b o,s.heap.get? b=some o->b ∉ frs outer->∃o',Bh.get? b=some o'
noncomputable def CX1 (P:Program) (w:World):CXT:=fun outer H s E e s'=>∃ea k cls H',e=.ref ea/\Fly P w outer H s ea k cls H' s'/\E cls (some k) H'
section
variable {P:Program}{w:World}{K:W.Frag}{mg:Str->Option Value}{base:Heap}{N:List Str}{qual:Str}{scope:Scope}{f:Addr}{cd:Value}{A:Around}{outer:List Env}{s:Shared}{H:Hp}{E:XK}
 {pins:List (Addr×Obj)}{σ:St}{H1 H':Hp}{s1 s':Shared}{g h'' Bh:Heap}{ea k t:Addr}{cls:Value}
theorem Zew (I:Inv (Za6 (CX1 P w) P w K mg base N qual scope f cd A outer s H E) pins σ H1 s1) (os:s'.os=s1.os) (bare:AllBare s'.gens) (un:Un (s.heap.objs.size::frs outer) [] H1 H' s1.heap g) (hok:HOk P w H' g) (up:g.UpToSlots h'')
  (fl:Heap.FlyingW Bh outer ea cls (.ref t) h'') (st:Bh.StaysIn g) (c1:∀b u,H' b=some u->∀o,g.get? b=some o->Bh.get? b=some o) (c2:∀b o,s.heap.get? b=some o->b ∉ s.heap.objs.size::frs outer->∃o',Bh.get? b=some o')
  (new:H' ea=none) (dn:∃o,g.get? ea=some o/\ZhQ H' ea k o) (dk:DK g h''):Fly P w outer H s ea k cls H' { s' with heap:=h'' }:=by
 have neL:∀b o,s.heap.get? b=some o->b≠s.heap.objs.size:=fun b o e=>ZqN (Heap.lt_size e)
 have nin:∀b o,s.heap.get? b=some o->b ∉ frs outer->b ∉ s.heap.objs.size::frs outer:=fun b o e n z=>(ZqE.mp z).elim (neL b o e) n
 have b0:Un (frs outer) [] H H1 s.heap s1.heap:=I.base
 have fr0:∀b∈frs outer,H b=none:=I.ok.frf
 have slot:∀b o,s.heap.get? b=some o->H b=none->b∈frs outer->∃sl,h''.get? b=some { o with slots:=sl }:=fun b o q n hb=>by
  obtain⟨s2,e1⟩:=b0.slot b o q n hb (by simp)
  obtain⟨s3,e2⟩:=un.slot b _ e1 (b0.free b o q n (by simp)) (ZqK _ hb) (by simp)
  obtain⟨_,o',ho',hnf⟩:=Heap.FunFrames.mem (show s.heap.FunFrames base outer from I.ok.funs) hb
  rw[q] at ho';cases ho'
  obtain⟨s4,e3⟩:=up b _ e2 hnf
  exact⟨s4,e3⟩
 have keepB:∀b o,s.heap.get? b=some o->H b=none->b ∉ frs outer->Bh.get? b=some o:=fun b o q n hb=>by
  have e1:=b0.keep b o q n hb (by simp)
  have e2:=un.keep b o e1 (b0.free b o q n (by simp)) (nin b o q hb) (by simp)
  obtain⟨o',e3⟩:=c2 b o q (nin b o q hb)
  have e4:=st b o' e3
  rw[e2] at e4;cases e4
  exact e3
 have thereB:∀b o,s.heap.get? b=some o->b ∉ frs outer->∃o',Bh.get? b=some o':=fun b o q hb=>by
  exact c2 b o q (nin b o q hb)
 refine⟨os.trans I.os,bare,⟨fun b o q n hb _=>fl.1 b o (keepB b o q n hb),fun b o q n hb _=>slot b o q n hb,fun b o q n _=>?_,fun b o q _=>?_,fun b xs q=>un.tups b xs (b0.tups b xs q),fun b o xs q=>un.frzs b o xs (b0.frzs b o xs q),fun b ps q=>?_⟩,fun b u e=>?_,new,(let ⟨o,e,d⟩:=dn;let ⟨o',e',d'⟩:=dk ea o e;⟨o',e',by unfold ZhQ at d ⊢;rw[d'];exact d⟩),Bh,t,fl,fun b u e o q=>?_,thereB⟩
 ·obtain⟨o1,e1⟩:=b0.there b o q (by simp)
  exact un.free b o1 e1 (b0.free b o q n (by simp)) (by simp)
 ·by_cases hb:b∈frs outer
  ·obtain⟨sl,e⟩:=slot b o q (fr0 b hb) hb
   exact⟨_,e⟩
  ·obtain⟨o',e⟩:=thereB b o q hb
   exact⟨o',fl.1 b o' e⟩
 ·obtain⟨m1,e1⟩:=b0.tbls b ps q
  obtain⟨m2,e2⟩:=un.tbls b _ e1
  exact⟨m1++m2,by rw[e2,Array.append_assoc]⟩
 ·refine(hok b u e).stay (fun c v hc q=>?_) (fun _ q=>q) fun _ _ q=>q
  rcases hc with rfl|hc
  ·exact fl.1 c v (c1 c u e v q)
  ·exact fl.1 c v (c1 c _ hc v q)
 ·obtain⟨o1,e1⟩:=(hok b u e).there
  have e2:=c1 b u e o1 e1
  have e3:=fl.1 b o1 e2
  rw[e3] at q;cases q
  exact e2
def ZaH (X:Cx) (E:St->XK):Prop:=∀(pins:List (Addr×Obj)) (σ:St) (H:Hp) (s:Shared) (e:Value) (s':Shared),Inv X pins σ H s->CX1 X.prog X.w X.stack H s (E σ) e s'->X.xe e s'
def Zjz (X:Cx) (E:St->XK):Prop:=∀(pins:List (Addr×Obj)) (σ:St) (H:Hp) (s:Shared) (h':Heap) (ea:Addr) (cls:Value) (args:List Value),Inv X pins σ H s->Heap.MadeExcOf s.heap h' ea cls args->E σ cls (some ea) H->X.xe (.ref ea) { s with heap:=h' }
theorem Qz:ZaH (Za6 (CX1 P w) P w K mg base N qual scope f cd A outer s H E) (fun _=>E):=fun pins σ H1 s1 e s' I hq=>by
 obtain⟨ea,k,cls,H',rfl,F,hE⟩:=hq
 obtain⟨Bh,t,fl,c1,c2⟩:=F.fly
 refine wpAny_mono (Zan (Qi _ _) (wpAny_leaves_onW (Q:=fun _ s''=>∃h'',s''={ s' with heap:=h'' }/\Heap.FlyingW Bh outer ea cls (.ref t) h''/\s'.heap.UpToSlots h'') I.ok.frames rfl fl fun h'' fl'' up=>⟨h'',rfl,fl'',up⟩)) (fun _ s'' q=>?_) fun _ _ q=>q.1
 obtain⟨⟨h'',rfl,fl'',up⟩,dk⟩:=q
 exact⟨ea,k,cls,H',rfl,Zew I F.os F.bare F.un F.hok up fl'' fl.1 c1 (fun b o e n=>let ⟨o1,e1⟩:=(show Un (frs outer) [] H H1 s.heap s1.heap from I.base).there b o e (by simp);c2 b o1 e1 n) F.new F.dict dk,hE⟩
theorem U7:Zjz (Za6 (CX1 P w) P w K mg base N qual scope f cd A outer s H E) (fun _=>E):=fun pins σ H1 s1 h' ea cls args I hx hE=>by
 have hin:∀env∈(Za6 (CX1 P w) P w K mg base N qual scope f cd A outer s H E).stack,∀b,env.frame=some b->b∈frs (Za6 (CX1 P w) P w K mg base N qual scope f cd A outer s H E).stack:=fun env he b hb=>Zr5.mpr ⟨env,he,hb⟩
 have trk:∀b u,H1 b=some u->b ∉ frs (Za6 (CX1 P w) P w K mg base N qual scope f cd A outer s H E).stack:=fun b u e z=>by rw[I.stkFree b z] at e;cases e
 have new:H1 ea=none:=by
  cases q:H1 ea with
  |none=>rfl
  |some u=>obtain⟨o,e⟩:=(I.hok ea u q).there;rw[hx.new] at e;cases e
 refine wpAny_mono (Zan (Qi _ _) (wpAny_leaves_madeW (Q:=fun _ s''=>∃h'' t,s''={ s1 with heap:=h'' }/\Heap.FlyingW (PySem.W.hideAll s1.heap (frs (Za6 (CX1 P w) P w K mg base N qual scope f cd A outer s H E).stack)) outer ea cls (.ref t) h''/\h'.UpToSlots h'')
  (base:=PySem.W.hideAll s1.heap (frs (Za6 (CX1 P w) P w K mg base N qual scope f cd A outer s H E).stack)) (h:=s1.heap) I.ok.frames rfl (fun b o q=>PySem.W.of_hideAll _ q) (PySem.W.funFrames_hide I.stack hin) hx fun h'' t fl _ _ up=>⟨h'',t,rfl,fl,up⟩)) (fun _ s'' q=>?_) fun _ _ q=>q.1
 obtain⟨⟨h'',t,rfl,fl,up⟩,dk⟩:=q
 have dn:∃o,h'.get? ea=some o/\ZhQ H1 ea ea o:=by obtain⟨t,e,_⟩:=hx.there;exact⟨_,e,.inl ⟨rfl,rfl⟩⟩
 refine⟨ea,ea,cls,H1,rfl,Zew (g:=h') (t:=t) (s':={ s1 with heap:=h' }) I rfl I.bare (Un.kept hx.keeps) (I.hok.kept hx.keeps) up fl (fun b o q=>hx.keeps b o (PySem.W.of_hideAll _ q)) (fun b u e o q=>?_) (fun b o q n=>let ⟨o1,e1⟩:=(show Un (frs outer) [] H H1 s.heap s1.heap from I.base).there b o q (by simp);⟨o1,PySem.W.hideAll_get _ e1 n⟩) new dn dk,hE⟩
 obtain⟨o1,e1⟩:=(I.hok b u e).there
 have e2:=hx.keeps b o1 e1
 rw[q] at e2;cases e2
 exact PySem.W.hideAll_get _ e1 (trk b u e)
end
noncomputable def Zkt:List Value:=[.type "ValueError",.type "Exception",.type "BaseException",.type "object"]
noncomputable def Zgf (C:Addr) (E:St->XK) (ta:TA):TS:=fun D σ H=>ta σ H fun vs H1=>vs.length<=1000/\∀ea,H1 ea=none->E σ (.ref C) (some ea) H1
theorem Zhv {K:W.Frag}{h₀:Heap}{C:Addr}{bmB:List Value}{newId:String} (X:K.In h₀) (q:PySem.W.excIn K C bmB newId=true) :
  ∃tl N nm qn bs hdct sn sub ab col dd k0 k1 k2 k3 k5 mN,h₀.get? C=some (excClassObj nm qn C N bs tl hdct sn sub ab col dd k0 k1 k2 k3 k5 newId)/\h₀.Ns N mN/\mN "__init__"=none/\OwnTail h₀ bmB tl:=by
 unfold PySem.W.excIn at q
 split at q
 ·rename_i dd cd sl ho
  split at q
  ·rename_i C' bm k0 k1 k2 k3 n k5 hm hs
   simp only[Bool.and_eq_true,beq_iff_eq,Bool.not_eq_true'] at q
   obtain⟨⟨⟨⟨⟨rfl,rfl⟩,hdel⟩,ht⟩,hok⟩,hni⟩:=q
   obtain⟨nm,bs,mro,ns,qn,hd,sn,sub,ab,col,del⟩:=cd
   dsimp only at hm hdel hok hni
   subst hm hdel
   have hsl:sl=#[k0,k1,k2,k3,some (.builtin n),k5]:=by
    obtain⟨l⟩:=sl
    simp only at hs
    rw[hs]
   subst hsl
   exact⟨bm,ns,nm,qn,bs,hd,sn,sub,ab,col,dd,k0,k1,k2,k3,k5,_,X _ _ ho,.of_isNs (PySem.W.isNs_of_in X hok),PySem.W.nsMap_none_of_in X hok hni,PySem.W.tail_of_in X ht⟩
  ·cases q
 ·cases q
section
variable {X:Cx}{E:St->XK}{x:Str}{C:Addr}{np cpos pos:Pos}{e:Expr}{es:List Expr}{ta:TA}
theorem Vv (hM:Zjz X E) (hq:PySem.W.excIn X.K C Zkt "ValueError.__new__"=true) (hg:Gl X x) (hm:X.mg x=some (.ref C)) (hc:X.calm=true) (ha:PA X (e::es) ta) (hdb:(x==("__debug__":Str))=false:=by decide)
  (he:starEach (e::es) X.env=(false,eval e X.env)::starEach es X.env:=by rfl) (hpl:(backTo cpos (starEach es X.env)).any (·.1)=false:=by rfl) :
  PS X (.Raise (some (.Call (.Name x np) (e::es) [] cpos)) none pos) (Zgf C E ta):=by
 intro pins s σ H D I h
 obtain⟨tl,N,nm,q,bs,hdct,sn,sub,ab,col,dd,k0,k1,k2,k3,k5,mN,hC,hN,hni,T⟩:=Zhv I.ok.mod.kin hq
 refine wpAny_Raise_call_subT (C:=C) (nm:=nm) (q:=q) (N:=N) (bs:=bs) (bm:=tl) (hdct:=hdct) (sn:=sn) (sub:=sub) (ab:=ab) (col:=col) (dd:=dd) (k0:=k0) (k1:=k1) (k2:=k2) (k3:=k3) (k5:=k5)
  PySem.F.excBase_ValueError (mN:=mN) (T.hasType PySem.F.excBase_ValueError.hasBase) (I.ok.hd hc) (by rw[he];show (false || (backTo cpos (starEach es X.env)).any (·.1))=false;rw[hpl];rfl) hni (JI I hg hm ⟨rfl, ?_⟩ hdb)
 have h2:=ha cpos pins s σ H _ I h
 rw[he] at h2 ⊢
 refine Calls.evalArgs_plain (wpAny_mono h2 (fun us s₂ z=>?_) fun _ _ y=>y)
 obtain⟨vs,H1,I1,r,hl,hE⟩:=z
 have hnew:∀{h':Heap}{ea:Addr}{args:List Value},Heap.MadeExcOf s₂.heap h' ea (.ref C) args->H1 ea=none:=fun {h' ea args} hx=>by
  cases q:H1 ea with
  |none=>rfl
  |some u=>obtain⟨o,e⟩:=(I1.hok ea u q).there;rw[hx.new] at e;cases e
 exact⟨rfl,ZqV (by rw[<- r.length];exact hl) (by decide),I1.bk _ _ hC,hN.keeps I1.bk,T.keeps I1.bk,fun h' ea hx=>hM pins σ H1 s₂ h' ea _ _ I1 hx (hE ea (hnew hx))⟩
end
theorem ZiY {P:Program}{w:World}{outer:List Env}{H H':Hp}{s s':Shared}{ea k t:Addr}{cls:Value}{Bh h'':Heap} (F:Fly P w outer H s ea k cls H' s') (fl:Heap.FlyingW Bh outer ea cls (.ref t) s'.heap)
  (c1:∀b u,H' b=some u->∀o,s'.heap.get? b=some o->Bh.get? b=some o) (c2:∀b o,s.heap.get? b=some o->b ∉ frs outer->∃o',Bh.get? b=some o') (st:Bh.StaysIn h'') (up:s'.heap.UpToSlots h'') :
  Un (frs outer) [] H H' s.heap h''/\HOk P w H' h'':=by
 refine⟨⟨fun b o q n hb _=>?_,fun b o q n hb _=>?_,fun b o q n hx=>F.un.free b o q n hx,fun b o q _=>?_,F.un.tups,F.un.frzs,F.un.tbls⟩,fun b u e=>?_⟩
 ·have e2:=F.un.keep b o q n hb (by simp)
  obtain⟨o',e3⟩:=c2 b o q hb
  have e4:=fl.1 b o' e3
  rw[e2] at e4;cases e4
  exact st b o e3
 ·obtain⟨s2,e2⟩:=F.un.slot b o q n hb (by simp)
  obtain⟨_,o',ho',hnf⟩:=Heap.FunFrames.mem fl.2.2.1 hb
  rw[e2] at ho';cases ho'
  obtain⟨s3,e3⟩:=up b _ e2 hnf
  exact⟨s3,e3⟩
 ·by_cases hb:b∈frs outer
  ·obtain⟨_,o',ho',hnf⟩:=Heap.FunFrames.mem fl.2.2.1 hb
   obtain⟨sl,e⟩:=up b _ ho' hnf
   exact⟨_,e⟩
  ·obtain⟨o',e⟩:=c2 b o q hb
   exact⟨o',st b o' e⟩
 ·refine(F.hok b u e).stay (fun c v hc q=>?_) (fun _ q=>q) fun _ _ q=>q
  rcases hc with rfl|hc
  ·exact st c v (c1 c u e v q)
  ·exact st c v (c1 c _ hc v q)
section
variable {X:Cx}{pins:List (Addr×Obj)}{σ:St}{H:Hp}{s:Shared}
theorem Inv.track {ea:Addr}{oe:Obj} (I:Inv X pins σ H s) (e:s.heap.get? ea=some oe) (hn:H ea=none) (hL:ea≠X.env.locals) (hC:∀x c,X.env.cells.lookup x=some c->c≠ea) (hp:∀p∈X.pn++pins,p.1≠ea) (h0:X.s₀.heap.get? ea=none) :
  Inv X pins σ (upd H ea (.frz oe (.own ea))) s:=by
 refine⟨I.ok,I.os,I.bare,⟨I.base.keep,I.base.slot,fun b o q n hx=>?_,I.base.there,fun b xs q=>?_,fun b o u q=>?_,fun b ps q=>?_⟩,I.loc,I.cell, ?_,fun x c q=>?_,fun p hq=>?_,fun b u q=>?_,I.len⟩
 ·rw[Zl (fun z=>by rw[z,h0] at q;cases q)];exact I.base.free b o q n hx
 ·have:=I.base.tups b xs q
  rw[Zl (Zv this hn)];exact this
 ·have:=I.base.frzs b o u q
  rw[Zl (Zv this hn)];exact this
 ·obtain⟨m,this⟩:=I.base.tbls b ps q
  exact⟨m,by rw[Zl (Zv this hn)];exact this⟩
 ·rw[Zl (Ne.symm hL)];exact I.free
 ·rw[Zl (hC x c q)];exact I.freeC x c q
 ·obtain⟨a,b,c,d,e⟩:=I.pin p hq
  exact⟨a,by rw[Zl (hp p hq)];exact b,c,d,e⟩
 ·by_cases hb:b=ea
  ·subst hb
   rw[Zt] at q;cases q
   exact⟨e,oe,e⟩
  ·rw[Zl hb] at q
   exact(I.hok b u q).stay (fun c v _ z=>z) (fun c z=>by rw[Zl (Zv z hn)];exact z) fun c xs z=>by rw[Zl (Zv z hn)];exact z
theorem Inv.gone {i:Nat}{n:Str}{m:Str->Option Value}{v:Option Value}{h':Heap}{t':Nat} (I:Inv X pins σ H s) (hN:X.N.Nodup) (hi:X.N[i]?=some n) (hm:∀(j:Nat) (x:Str) (v:V),X.N[j]?=some x->σ[j]?=some (some v)->Vis X.env.scope x->∃u,ZY v u/\Zlk X.env s.heap m x u)
  (hn:h'.Ns X.env.locals (fun x=>if x=n then v else m x)) (hs:Heap.SameBut X.env.locals s.heap h') (hoL:∃o,s.heap.get? X.env.locals=some o):Inv X pins (σ.set i none) H { s with heap:=h',toks:=t' }:=by
 have tracked:HOk X.prog X.w H h':=fun b ob e=>by
  refine(I.hok b ob e).stay (fun c w' hc q=>(hs.2 c ?_).trans q) (fun _ q=>q) fun _ _ q=>q
  intro z
  rw[z] at hc
  rcases hc with hc|hc
  ·rw[<- hc,I.free] at e;cases e
  ·rw[I.free] at hc;cases hc
 have neL:∀b o,X.s₀.heap.get? b=some o->b≠X.env.locals:=fun b o e=>ZqN (ZqD (Heap.lt_size e) I.ok.above)
 refine⟨I.ok,I.os,I.bare,⟨fun b o e n hb hx=>?_,fun b o e n hb hx=>?_,I.base.free,fun b o e hx=>?_,I.base.tups,I.base.frzs,I.base.tbls⟩,⟨_,hn,fun j y v' e1 e2 e3=>?_⟩,fun y c e=>?_,I.free,I.freeC,fun p hp=>?_,tracked,by simpa using I.len⟩
 ·exact(hs.2 b (neL b o e)).trans (I.base.keep b o e n hb hx)
 ·obtain⟨sl,e1⟩:=I.base.slot b o e n hb hx
  exact⟨sl,(hs.2 b (neL b o e)).trans e1⟩
 ·obtain⟨o',e1⟩:=I.base.there b o e hx
  exact⟨o',(hs.2 b (neL b o e)).trans e1⟩
 ·by_cases hj:j=i
  ·subst hj
   rw[List.getElem?_set] at e2
   simp only[if_true] at e2
   split at e2<;>cases e2
  ·rw[ZqB (Ne.symm hj)] at e2
   obtain⟨u',r',q⟩:=hm j y v' e1 e2 e3
   refine⟨u',r', ?_⟩
   rcases q with ⟨k,e⟩|⟨k,c,e,z⟩
   ·refine .inl ⟨k, ?_⟩
    have:y≠n:=fun e=>hj (Q1 hN e1 (e▸hi))
    simp[this,e]
   ·exact .inr ⟨k,c,e,z.sameBut hs (I.cne y c e)⟩
 ·obtain⟨w',z⟩:=I.cell y c e
  exact⟨w',z.sameBut hs (I.cne y c e)⟩
 ·obtain⟨e,n,ne,nf,d⟩:=I.pin p hp
  exact⟨(hs.2 p.1 ne).trans e,n,ne,nf,d⟩
end
noncomputable def unE (D:ZcZ) (i:Nat):ZcZ:=⟨fun σ H=>D.nx (σ.set i none) H,D.rt,fun σ H=>D.bk (σ.set i none) H,fun σ H=>D.ct (σ.set i none) H⟩
noncomputable def ZjF (K:W.Frag) (C:Addr) (i:Nat) (th:TS) (D:ZcZ):St->XK:=fun σ1 cls ea H1=>PySem.W.exmOne K cls (.ref C)=some true/\∃k,ea=some k/\∀(a:Addr) (oe:Obj),H1 a=none->oe.cls=cls->ZhQ H1 a k oe->PySem.W.notCls oe=true->th (unE D i) (σ1.set i (some (.ref a))) (upd H1 a (.frz oe (.own a)))
noncomputable def ZkH (K:W.Frag) (C:Addr) (i:Nat) (tb:(St->XK)->TS) (th:TS):TS:=fun D σ H=>tb (ZjF K C i th D) D σ H
noncomputable abbrev Cx.inTry (X:Cx) (xe:Value->Shared->Prop) (pn:List (Addr×Obj)):Cx:={ X with xe:=xe,pn:=pn }
noncomputable abbrev Cx.inExc (X:Cx) (A:Around):Cx:={ X with A:=A,calm:=false,xe:=fun _ _=>False }
section
variable {X:Cx}{pins:List (Addr×Obj)}{σ:St}{H:Hp}{s:Shared}
theorem Inv.tryIn {xe:Value->Shared->Prop} (I:Inv X pins σ H s):Inv (X.inTry xe (X.pn++pins)) [] σ H s:=
 ⟨⟨I.ok.mod,I.ok.kind,I.ok.glob,I.ok.blt,I.ok.above,I.ok.inj,I.ok.has,I.ok.cab,I.ok.hd,I.ok.frames,I.ok.stk,I.ok.exf,I.ok.bs,I.ok.bsz,I.ok.noex,I.ok.exfs,I.ok.funs,I.ok.frf⟩,I.os,I.bare,I.base,I.loc,I.cell,I.free,I.freeC,fun p hp=>I.pin p (by simpa using hp),I.hok,I.len⟩
theorem Inv.tryOut {xe:Value->Shared->Prop}{pins':List (Addr×Obj)} (I:Inv (X.inTry xe (X.pn++pins)) pins' σ H s):Inv X pins σ H s:=
 ⟨⟨I.ok.mod,I.ok.kind,I.ok.glob,I.ok.blt,I.ok.above,I.ok.inj,I.ok.has,I.ok.cab,I.ok.hd,I.ok.frames,I.ok.stk,I.ok.exf,I.ok.bs,I.ok.bsz,I.ok.noex,I.ok.exfs,I.ok.funs,I.ok.frf⟩,I.os,I.bare,I.base,I.loc,I.cell,I.free,I.freeC,fun p hp=>I.pin p (Zq8 _ hp),I.hok,I.len⟩
theorem Inv.excIn {e:Value} (I:Inv X pins σ H s):Inv (X.inExc (X.A.mark (some e))) pins σ H s:=
 ⟨⟨I.ok.mod,I.ok.kind,I.ok.glob,I.ok.blt,I.ok.above,I.ok.inj,I.ok.has,I.ok.cab,fun z=>(by cases z),I.ok.frames,I.ok.stk,I.ok.exf,I.ok.bs,I.ok.bsz,I.ok.noex,I.ok.exfs,I.ok.funs,I.ok.frf⟩,I.os,I.bare,I.base,I.loc,I.cell,I.free,I.freeC,I.pin,I.hok,I.len⟩
theorem Inv.excOut {e:Value} (h:X.Ok) (I:Inv (X.inExc (X.A.mark (some e))) pins σ H s):Inv X pins σ H s:=⟨h,I.os,I.bare,I.base,I.loc,I.cell,I.free,I.freeC,I.pin,I.hok,I.len⟩
end
section
variable {X:Cx}{C:Addr}{i:Nat}{tb:(St->XK)->TS}{th:TS}{c n:Str}{np hpos pos:Pos}{body suite:List Stmt}{b₀:Stmt}
theorem Zgm (hb:∀(xe:Value->Shared->Prop) (pn:List (Addr×Obj)) (E:St->XK),ZaH (X.inTry xe pn) E->PSs (X.inTry xe pn) body (tb E)) (hh:∀A,PSs (X.inExc A) (b₀::suite) th)
  (hN:X.N.Nodup) (hi:X.N[i]?=some n) (hl:X.env.scope.names.lookup n=some .local) (hg:Gl X c) (hm:X.mg c=some (.ref C)) (hst:X.stack=X.env::X.outer) (hf:X.env.frame=some X.env.locals) (hex:X.ex=[]) (hdb:(c==("__debug__":Str))=false:=by decide) :
  PS X (.Try body [.ExceptHandler (some (.Name c np)) (some n) (b₀::suite) hpos] [] [] pos) (ZkH X.K C i tb th):=by
 intro pins s σ H D I h
 refine wpAny_Try_except ?_
 refine wpAny_mono (hb (fun e s'=>∃σ1 H1 s1,Inv X pins σ1 H1 s1/\CX1 X.prog X.w X.stack H1 s1 (ZjF X.K C i th D σ1) e s') (X.pn++pins) (ZjF X.K C i th D) (fun pins' σ1 H1 s1 e s' I' hq=>⟨σ1,H1,s1,I'.tryOut,hq⟩) [] s σ H D I.tryIn h) (fun f s1 q=>?_) (fun e s1 q=>?_)
 ·cases f with
  |next=>obtain⟨σ',H',I',q⟩:=q;exact wpAny_execs_nil ⟨σ',H',I'.tryOut,q⟩
  |brk=>obtain⟨σ',H',I',q⟩:=q;exact⟨σ',H',I'.tryOut,q⟩
  |cont=>obtain⟨σ',H',I',q⟩:=q;exact⟨σ',H',I'.tryOut,q⟩
  |ret u=>obtain⟨v,σ',H',I',r,q⟩:=q;exact⟨v,σ',H',I'.tryOut,r,q⟩
 ·obtain⟨σ1,H1,s0,I1,ea,kk,cls,H',rfl,F,hx,a,ha,hth⟩:=q
  cases ha
  obtain⟨Bh,t,fl,c1,c2⟩:=F.fly
  have hfr:X.A.frames=some (X.env::X.outer):=by rw[<- hst];exact I.ok.frames
  have fl0:=fl
  rw[hst] at fl
  have new0:s0.heap.get? ea=none:=by
   cases q:s0.heap.get? ea with
   |none=>rfl
   |some o =>
    exfalso
    by_cases hb:ea∈frs X.stack
    ·obtain⟨_,o',ho',hnf⟩:=Heap.FunFrames.mem fl0.2.2.1 hb
     obtain⟨oe,vs,hoe,_,hd,_⟩:=fl0.first
     rw[hoe] at ho';cases ho'
     exact hnf vs hd
    ·obtain⟨o',e⟩:=c2 ea o q hb
     rw[fl0.2.1] at e;cases e
  have neL:ea≠X.env.locals:=fun z=>by
   obtain⟨m,⟨o,_,_,ho,_⟩,_⟩:=I1.loc
   rw[<- z,new0] at ho;cases ho
  have neC:∀x c,X.env.cells.lookup x=some c->c≠ea:=fun x c e z=>by
   obtain⟨v,o,ho,_⟩:=I1.cell x c e
   rw[z,new0] at ho;cases ho
  have neP:∀p∈X.pn++pins,p.1≠ea:=fun p hp z=>by
   have:=(I1.pin p hp).1
   rw[z,new0] at this;cases this
  have new1:X.s₀.heap.get? ea=none:=by
   cases q:X.s₀.heap.get? ea with
   |none=>rfl
   |some o=>obtain⟨o',e⟩:=I1.base.there ea o q (by rw[hex];simp);rw[new0] at e;cases e
  have land:∀{h'':Heap},Bh.StaysIn h''->s1.heap.UpToSlots h''->Inv X pins σ1 H' { s1 with heap:=h'' }:=fun {h''} st up=>by
   obtain⟨u,hok⟩:=ZiY F fl0 c1 c2 st up
   exact I1.call' (s':={ s1 with heap:=h'' }) (ch:=[]) F.os u hok F.bare (fun b z=>absurd z (by simp))
  refine wpAny_mono (Zan (Zeh _ _) (wpAny_looks_onW (Q:=fun _ s''=>∃h4,s''={ s1 with heap:=h4 }/\Heap.HeldW Bh (X.env::X.outer) ea cls (.ref t) X.env.locals h4/\s1.heap.UpToSlots h4) hfr hf fl fun h4 held4 up4=>⟨h4,rfl,held4,up4⟩)) (fun _ s'' q=>?_) fun _ _ q=>q.1
  obtain⟨⟨h4,rfl,held4,up4⟩,dk4⟩:=q
  refine wpAny_mono (Zan (JK _ _) (wpAny_landsW (Q:=fun _ s''=>∃h5,s''={ s1 with heap:=h5 }/\Heap.FlyingW Bh (X.env::X.outer) ea cls (.ref t) h5/\h4.UpToSlots h5) held4 fun h5 fl5 up5=>⟨h5,rfl,fl5,up5⟩)) (fun _ s'' q=>?_) fun _ _ q=>q.1
  obtain⟨⟨h5,rfl,fl5,up5⟩,dk5⟩:=q
  have up5':s1.heap.UpToSlots h5:=up4.trans up5
  have I5:=land fl5.1 up5'
  refine wpAny_handleBy_cons (codeAny_handlers_test ?_) (by intro q;cases q)
  refine JI (X:=X.inExc (X.A.mark (some (.ref ea)))) I5.excIn hg hm ?_ hdb
  obtain⟨oe5,hoe5,hc5⟩:=fl5.there
  have LT:PySem.W.Looks (model X.prog X.w) h5 (typeOf (.ref ea)) cls:=by
   subst hc5
   exact(PySem.W.Looks.ld hoe5).andThen .now
  refine PySem.W.Looks.here (s:={ s1 with heap:=h5 }) (PySem.W.exm_one I5.kIn LT hx) ?_
  refine codeAny_handlers_suite_as ?_
  refine wpAny_mono (Zan (JK _ _) (lands_againW (Q:=fun _ s''=>∃h6,s''={ s1 with heap:=h6 }/\Heap.FlyingW Bh (X.env::X.outer) ea cls (.ref t) h6/\h5.UpToSlots h6) fl5 fun h6 fl6 up6=>⟨h6,rfl,fl6,up6⟩)) (fun _ s'' q=>?_) fun _ _ q=>q.1
  obtain⟨⟨h6,rfl,fl6,up6⟩,dk6⟩:=q
  have I6:=land fl6.1 (up5'.trans up6)
  obtain⟨oe,ws,hoe,hc,hfd,_⟩:=fl6.first
  have hdn:ZhQ H' ea kk oe:=by
   obtain⟨o1,e1,d1⟩:=F.dict
   obtain⟨o2,e2,d2⟩:=dk4 ea o1 e1
   obtain⟨o3,e3,d3⟩:=dk5 ea o2 e2
   obtain⟨o4,e4,d4⟩:=dk6 ea o3 e3
   have e4':h6.get? ea=some o4:=e4
   rw[hoe] at e4';cases e4'
   unfold ZhQ at d1 ⊢
   rw[d4,d3,d2];exact d1
  have hnc:PySem.W.notCls oe=true:=by unfold PySem.W.notCls;rw[hfd]
  have I7:=I6.track (ea:=ea) (oe:=oe) hoe F.new neL neC neP new1
  refine Uk (X:=X) I7 hN hi (.inl hl) (v:=.ref ea) rfl (fun s8 I8=>?_) (.inr hl)
  refine wpAny_mono (hh (X.A.mark (some (.ref ea))) pins s8 _ _ (unE D i) I8.excIn (hth ea oe F.new hc hdn hnc)) (fun f s9 q=>?_) (fun _ _ z=>False.elim z)
  have hcls:(X.env.scope.kind==.class || (X.env.scope.kind==.module&&X.env.locals != X.env.globals))=false:=by rw[I.ok.kind];rfl
  have go:∀{σ9:St}{H9:Hp},Inv (X.inExc (X.A.mark (some (.ref ea)))) pins σ9 H9 s9->∀{Q:Unit->Shared->Prop},(∀s',Inv X pins (σ9.set i none) H9 s'->Q () s') ->
    wpAny (model X.prog X.w) X.A (do bindName X.env n .none;unbindBehindTheSuite X.env n hpos) Q X.xe s9:=fun {σ9 H9} J {Q} hQ=>by
   have J':=Inv.excOut I.ok J
   obtain⟨m,hn,hlook⟩:=id J'.loc
   obtain⟨o,_,_,ho,_⟩:=id hn
   exact wpAny_nameGoes_keeps hl hn hcls fun h' v hn' hs'=>hQ _ (J'.gone hN hi hlook hn' hs' ⟨o,ho⟩)
  cases f with
  |next=>obtain⟨σ',H',I',q⟩:=q;exact go I' fun s' J=>⟨_,_,J,q⟩
  |brk=>obtain⟨σ',H',I',q⟩:=q;exact go I' fun s' J=>⟨_,_,J,q⟩
  |cont=>obtain⟨σ',H',I',q⟩:=q;exact go I' fun s' J=>⟨_,_,J,q⟩
  |ret u=>obtain⟨v,σ',H',I',r,q⟩:=q;exact go I' fun s' J=>⟨v,_,_,J,r,q⟩
end
end L2
namespace PySem.W
open PySem PySem.Spec PySem.Calls PyProof.Rows
section
variable {prog:Program}{w:World}{A:Around}{E:Value->Shared->Prop}{s:Shared}{K:Frag}{x D:Addr}{ox:Obj}{od:Option Obj}
theorem ZcW:Manifest.canonical "BaseException.__getattribute__" = "object.__getattribute__":=by decide +kernel
theorem method_exc {name:Str}{f:Addr}{pl:Sem Bool}{Q:Value×List Value->Shared->Prop} (X:K.In s.heap) (I:InstAt s.heap x ox D od) (hga:findIn K (.ref D) "__getattribute__"=some (some (.builtin "BaseException.__getattribute__"))) (hk:findIn K (.ref D) "__getattr__"=some none) (hown:∀o,od=some o->lookIn name o=some none)
  (hf:findIn K (.ref D) name=some (some (.ref f))) (ht:typeIn K (.ref f)=some (.type "function")) (h:Q (.ref f,[.ref x]) s):wpAny (model prog w) A (getMethod (.ref x) name pl) Q E s:=by
 have hcan:=ZcW
 unfold getMethod specialOf
 refine wpAny_bind (wpAny_bind (I.type.here ((looks_findIn X hga).here ?_)))
 dsimp only
 rw[hcan,if_neg (by decide)]
 refine wpAny_bind (wpAny_bind (I.type.here ((looks_findIn X hk).here ?_)))
 refine wpAny_bind (wpAny_bind (I.type.here ((looks_findIn X hf).here (wpAny_bind ((looks_typeIn X ht).here ?_)))))
 rw[if_neg (by decide +kernel)]
 refine wpAny_bind (wpAny_loadPart I.at_ ?_)
 have hd:=I.dict
 cases e:ox.dict with
 |none=>exact wpAny_bind (wpAny_rule (wpAny_pure h))
 |some dx =>
  rw[e] at hd
  cases od with
  |none=>exact hd.elim
  |some o =>
   dsimp only
   refine wpAny_bind (wpAny_bind (wpAny_loadPart hd ?_))
   rw[nsLook_of (hown o rfl)]
   exact wpAny_pure (wpAny_bind (wpAny_rule (wpAny_pure h)))
theorem ZcV {M:Model}{nameV:Value}{Q:Unit->Shared->Prop} (X:K.In s.heap) (I:InstAt s.heap x ox D od) (hb:mroIn K D (.type "BaseException")=some true) (hq:Q () s):wpAny M A (checkBuiltinCall "BaseException.__getattribute__" ⟨[.ref x,nameV],[]⟩) Q E s:=by
 have hk:builtinKind "BaseException.__getattribute__"=some .slot:=by decide +kernel
 have hsplit:splitId "BaseException.__getattribute__"=some ("BaseException", "__getattribute__"):=by decide +kernel
 have ha:=F.args_bexc_ga (.ref x) nameV
 have L:Looks M s.heap (isInstance (.ref x) (.type "BaseException")) true:=(I.type (M:=M)).andThen (looks_mroIn X hb)
 simp only[checkBuiltinCall,hk,hsplit]
 refine wpAny_bind ?_
 refine L.here ?_
 obtain⟨h,g,d,t,os⟩:=s
 repeat (first|wp_step)
 all_goals exact hq
theorem Zey {Q:Option Value->Shared->Prop} (X:K.In s.heap) (I:InstAt s.heap x ox D od) (hga:findIn K (.ref D) "__getattribute__"=some (some (.builtin "BaseException.__getattribute__"))) (hk:findIn K (.ref D) "__getattr__"=some none)
  (hb:mroIn K D (.type "BaseException")=some true) (hf:findObj K D od "__class__"=some (.bind (.builtin "getset_descriptor.__get__") (.builtin "object.__class__"))) (hm:mroIn K D (.type "object")=some true)
  (h:Q (some (.ref D)) { s with toks:=s.toks+1 }):wpAny (model prog w) A (getAttr? (.ref x) "__class__") Q E s:=by
 obtain⟨hh,g,d,t,os⟩:=s
 have L0:=I.type (M:=model prog w)
 have L1:=looks_findIn (M:=model prog w) X hga
 have L2:=looks_findIn (M:=model prog w) X hk
 have L3:=looks_find (M:=model prog w) X I hf
 unfold getAttr? getAttrBy? getAttrBy
 refine wpAny_bind (wpAny_mkText (wpAny_bind (wpAny_attempt (wpAny_holding (wpAny_bind (L0.at (wpAny_bind (L1.at ?_))))))))
 dsimp only
 have hne:(onTheHeap (Value.ref D)&&Value.builtin "BaseException.__getattribute__" == Value.builtin "object.__getattribute__")=false:=by
  have hx2:(Value.builtin "BaseException.__getattribute__" == Value.builtin "object.__getattribute__")=false:=by decide +kernel
  rw[hx2];rfl
 rw[if_neg (by rw[hne];decide)]
 unfold getAttrByItsOwn hookBefore
 rw[show onTheHeap (Value.ref D)=true from rfl,if_pos rfl]
 refine wpAny_bind (L2.at ?_)
 refine wpAny_bind (wpAny_attempt (wpAny_holding ?_))
 unfold callGetattribute
 rw[if_neg (by decide)]
 unfold boundAndCalled
 refine wpAny_bind (wpAny_of_eq (PySem.F.attrBase_ValueError.ga.bind (.ref x)) ?_)
 refine wpAny_call (codeAny_call_builtin PySem.F.attrBase_ValueError.ga.plain F.entry_bexc_ga (ZcV X I hb ?_))
 unfold Builtin.«object.__getattribute__»
 refine wpAny_bind (wpAny_pure ?_)
 refine wpAny_bind (wpAny_pure ?_)
 refine wpAny_bind (L0.at (wpAny_bind (L3.at ?_)))
 show wpAny _ _ (holding [Value.builtin "object.__class__"] (call (.builtin "getset_descriptor.__get__") [.builtin "object.__class__",.ref x,.ref D]) >>= fun v=>ret v) _ _ _
 refine wpAny_bind (wpAny_holding (wpAny_call (class_get (s:=⟨hh,g,d,t+1,os⟩) (ox:=ox) (od:=od) X I hm ?_)))
 exact wpAny_pure (handed_on rfl (wpAny_pure h))
noncomputable def exOk (K:Frag) (D:Addr):Bool:=(findIn K (.ref D) "__getattribute__" == some (some (.builtin "BaseException.__getattribute__")))&&(findIn K (.ref D) "__getattr__" == some none)&&(mroIn K D (.type "BaseException")==some true)&&(mroIn K D (.type "object")==some true) &&
 (findIn K (.ref D) "__class__" == some (some (.builtin "object.__class__")))&&(specialIn K (.builtin "object.__class__") "__get__" == some (some (.builtin "getset_descriptor.__get__")))&&(takesIn K (.builtin "object.__class__")==some true)&&(clsIn K D).isSome
theorem Zaw {C:Addr}{name:Str}{a g:Value} (hc:(clsIn K C).isSome=true) (ha:findIn K (.ref C) name=some (some a)) (hg:specialIn K a "__get__"=some (some g)) (ht:takesIn K a=some true):findObj K C od name=some (.bind g a):=by
 obtain⟨cd,hc⟩:=Zrr.mp hc
 unfold findObj
 rw[hc,Zrw,ha,Zrw]
 simp only[hg,ht,Zrw]
theorem kitx_exc (h:exOk K D=true):KitX K (.ref x) (.ref D) (fun h=>∃ox od,InstAt h x ox D od):=by
 simp only[exOk,Bool.and_eq_true,beq_iff_eq] at h
 obtain⟨⟨⟨⟨⟨⟨⟨h1,h2⟩,h3⟩,h4⟩,h5⟩,h6⟩,h7⟩,h8⟩:=h
 have hob:∃c' d' cd' sl',K.lookup D=some ⟨c',d',.cls cd',sl'⟩:=by
  obtain⟨cd,e⟩:=Zrr.mp h8
  unfold clsIn at e
  split at e
  ·rename_i c' d' cd' sl' ho;exact⟨_,_,_,_,ho⟩
  ·cases e
 obtain⟨c',d',cd',sl',ho⟩:=hob
 refine⟨fun M h _ ⟨ox,od,I⟩=>I.type,fun M h X _=>?_,fun h tp dd its n sl X htp=>?_,fun X ⟨ox,od,I⟩ k=>Zey X I h1 h2 h3 (Zaw h8 h5 h6 h7) h4 k⟩
 ·intro A' Q' E' s' k q
  unfold isType loadHead
  exact wpAny_bind (wpAny_loadPart (k _ _ (X _ _ ho)) (wpAny_pure q))
 ·refine Bool.eq_false_iff.mpr fun q=>?_
  have e:D=tp:=Value.ref.inj (beq_iff_eq.mp q)
  subst e
  have z:=(X _ _ ho).symm.trans htp
  cases z
end
end PySem.W
namespace L2
open PySem PySem.Spec PyProof.Rows
def OkX (P:Program) (w:World) (K:W.Frag) (mg:Str->Option Value) (base:Heap) (k:Nat) (x:Str) (ps:List Str) (sp:Sp):Prop:=
 ∃f fd,Jb P w K mg base (CX1 P w) k f fd ps sp/\mg x=some (.ref f)/\PySem.W.keepIn K (.ref f)=true/\VH K fd ps []
theorem ZaW {P:Program}{w:World}{K:W.Frag}{mg:Str->Option Value}{base:Heap}{k:Nat}{x:Str}{st:Stmt}{ps:List Str}{sp:Sp} (d:Dfn K mg x st) (b:Z7 x st ps)
  (h:∀{f fd},Fun K x x st f fd->Jb P w K mg base (CX1 P w) k f fd ps sp):OkX P w K mg base k x ps sp:=by
 obtain⟨f,fd,F,hm⟩:=d
 exact⟨f,fd,h F,hm,F.kp,F.binds b⟩
section
variable {X:Cx}{k:Nat}{x:Str}{ps:List Str}{sp:Sp}{p pos:Pos}{e:Expr}{es:List Expr}{t:TA}{E:St->XK}
noncomputable def Zb5 (sp:Sp) (E:St->XK) (t:TA):TE:=fun σ H Q=>t σ H fun vs H1=>sp vs H1 Q (E σ)
theorem J7 (G:OkX X.prog X.w X.K X.mg X.base k x ps sp) (hr:JH k X.A) (hg:Gl X x) (hx:ZaH X E) (ha:PA X (e::es) t) (hdb:(x==("__debug__":Str))=false:=by decide)
  (he:starEach (e::es) X.env=(false,eval e X.env)::starEach es X.env:=by rfl) (hpl:(backTo pos (starEach es X.env)).any (·.1)=false:=by rfl):PE X (.Call (.Name x p) (e::es) [] pos) (Zb5 sp E t):=by
 obtain⟨f,fd,F,hm,hk,hb⟩:=G
 intro pins s σ H Q I h
 refine wpAny_Call_Name_kw (JI I hg hm ?_ hdb)
 refine PySem.W.callWith_K (h₀:=X.base) I.ok.mod.kin hk (thn (ha pos pins s σ H _ I h) fun us s1 ⟨vs,H1,I1,r,q⟩=>⟨I1.kIn, ?_⟩) he hpl
 have hl:(us++[]).length=ps.length:=by rw[ZqR,<- r.length];exact F.len _ _ _ _ q
 have hb':=hb s1 us I1.kIn hl
 rw[ZqR] at hb'
 refine wpAny_call (codeAny_mono (F.run X.A X.stack s1 H1 ⟨us,[]⟩ us vs Q (E σ) hr I1.env0 hb' r q) fun r s' hq=>?_)
 cases r with
 |error e=>exact hx pins σ H1 s1 e s' I1 hq
 |ok fl =>
  cases fl with
  |ret u=>exact I1.after hq
  |next=>exact False.elim hq
  |brk=>exact False.elim hq
  |cont=>exact False.elim hq
end
noncomputable def Zlz:PV->Hp->Addr->Prop
 |.non,H,k=>H k=none
 |.int i,H,k=>∃fs,H k=some (.xd fs)/\fs=[(("at":Str),V.int i)]
 |_,_,_=>False
def W1 (K:W.Frag):PX->XK->Hp->Prop:=fun e E H'=>∀C k,JR K e.1 C->Zlz e.2 H' k->E (.ref C) (some k) H'
section
variable {P:Program}{w:World}{K:W.Frag}{mg:Str->Option Value}{base:Heap}
theorem Fun.okX {x qual:Str}{st:Stmt}{f:Addr}{fd:FuncData}{N ps:List Str}{k n l:Nat}{kd:Kd}{m:List PV->Rr PV} (F:Fun K x qual st f fd) (S:Zu N ps (Zc st)) (hn:ps.length=n) (hl:N.length-n=l)
  (hbody:∀(cdv:Value) (A:Around) (outer:List Env) (s:Shared) (H:Hp) (E:XK),JH k (A.deeper (envOfC qual (Zc st) s.heap.objs.size f cdv)) ->
   ∃t g Y,Y.r=kd/\PSs (Za6 (CX1 P w) P w K mg base N qual (Zc st) f cdv A outer s H E) (Zj st) t/\DS K (fun e H'=>W1 K e E H') (List.replicate n .S++List.replicate l .U) Y t g/\∀xs,Ref (m xs) (g (xs++List.replicate l .non)).out) (hkN:kd≠.N:=by nofun) :
  Jb P w K mg base (CX1 P w) (k+1) f fd ps (spF K n kd (W1 K) m):=by
 obtain⟨oc,od,kV,doc,pm,an,cdv,ct,osl,rfl,lk,hcd⟩:=F.ex
 refine ZiX lk hcd S (fun vs H Q E h=>?_) fun A outer s H vs Q E hr h=>?_
 ·obtain⟨B,xs,h1,h2,_⟩:=h
  rw[h1.length,h2,hn]
 ·obtain⟨B,xs,h1,h2,dn⟩:=h
  obtain⟨t,g,Y,hY,ht,hd,href⟩:=hbody cdv A outer s H E hr
  refine⟨t,ht, ?_⟩
  have A0:=Ag.init (n:=l) h1
  have est:Vt N vs=vs.map some++List.replicate l none:=by
   unfold Vt
   rw[h1.length,h2,hl]
  rw[est]
  rw[h2] at A0
  refine hd _ H H _ _ _ _ A0 ?_
  have hdn:Dn (g (xs++List.replicate l .non)).out (fun x=>∀v H',Zw H H'->Zga K B H kd x v H'->Q v H') (fun e=>∀H',Zw H H'->W1 K e E H'):=by
   rcases href xs with e|e
   ·rw[e] at dn;exact dn.elim
   ·rw[<- e];exact dn
  have retK:∀{x v H'},Zga K (fun a=>B a\/H a=none) H kd x v H'->Zga K B H kd x v H':=fun {x v H'} h=>by
   cases kd with
   |P=>exact h
   |F=>exact h
   |T=>exact Rep.mono (fun a us s r=>⟨r,s.elim id .inr⟩) (fun a us r=>r) h
   |Z=>exact Rep.mono (fun a us s r=>⟨r,s.elim id .inr⟩) (fun a us r=>r) h
   |A=>exact Rep.mono (fun a us s r=>⟨r,s.elim id .inr⟩) (fun a us r=>r) h
   |N=>exact h
  cases e:g (xs++List.replicate l .non) with
  |next ρ =>
   rw[e] at hdn
   refine fun σ' H' F' fr A'=>hdn .non H' A'.same ?_
   cases kd with
   |P=>exact⟨rfl,rfl⟩
   |F=>exact⟨[],⟨rfl,rfl⟩,by simp⟩
   |T=>exact rfl
   |Z=>exact rfl
   |A=>exact rfl
   |N=>exact absurd rfl hkN
  |ret x=>rw[e] at hdn;exact fun v H' s r=>hdn v H' s (retK (hY▸r))
  |exc q=>rw[e] at hdn;exact fun H' s=>hdn H' s
  |brk ρ=>rw[e] at hdn;exact hdn.elim
  |cont ρ=>rw[e] at hdn;exact hdn.elim
  |bad=>rw[e] at hdn;exact hdn.elim
end
section
variable {K:W.Frag}{n:Nat}{m:List PV->Rr PV}{ta:TA}{Γ Γ':List Md}{fa:List PV->Rr (List PV)}{E:XK}
noncomputable abbrev EX1 (K:W.Frag) (E:XK):PX->Hp->Prop:=fun e H'=>W1 K e E H'
theorem ZjG (hn:Len fa n) (ha:DAA K (EX1 K E) Γ Γ' ta fa):DE K (EX1 K E) Γ Γ' .P (Zb5 (spF K n .P (W1 K) m) (fun _=>E) ta) (fun ρ=>(fa ρ).bind m):=QB (E:=E) (W:=W1 K) (fun σ H Q h=>h) (fun e H' h=>h) hn ha
theorem Zlr {EX:PX->Hp->Prop} (hn:Len fa n) (hm:∀xs q,m xs≠.exc q) (ha:DAA K EX Γ Γ' ta fa):DE K EX Γ Γ' .F (Vd (spF K n .F W0 m) ta) (fun ρ=>(fa ρ).bind m):=fun B H0 H σ ρ F R Q A d=>by
 refine ha B H0 H σ ρ F R _ A (d.bind.imp (fun xs hx d vs H1 F1 s1 f1 p1 A1=>?_) fun e q=>q)
 refine⟨fun _=>True,xs,p1,hn ρ xs hx, ?_⟩
 cases e:m xs with
 |ok x =>
  rw[e] at d
  intro v H2 s2 r
  obtain⟨G,r1,r2⟩:=r
  exact d v H2 (s1.trans s2) ⟨F1,f1,G,r1,fun a ha=>⟨(A1.fresh (r2 a ha)).1,.inl (s1.free (r2 a ha))⟩,A1.more s2 r2 r1.alive⟩
 |exc q=>exact(hm xs q e).elim
 |bad=>rw[e] at d;exact d.elim
theorem Zle {EX:PX->Hp->Prop} (hn:Len fa n) (hm:∀xs q,m xs≠.exc q) (ha:DAA K EX Γ Γ' ta fa):DE K EX Γ Γ' .P (Vd (spF K n .P W0 m) ta) (fun ρ=>(fa ρ).bind m):=fun B H0 H σ ρ F R Q A d=>by
 refine ha B H0 H σ ρ F R _ A (d.bind.imp (fun xs hx d vs H1 F1 s1 f1 p1 A1=>?_) fun e q=>q)
 refine⟨fun _=>True,xs,p1,hn ρ xs hx, ?_⟩
 cases e:m xs with
 |ok x=>rw[e] at d;exact fun v H2 s2 r=>d v H2 (s1.trans s2) ⟨F1,f1,r.1,r.2,A1.grow s2⟩
 |exc q=>exact(hm xs q e).elim
 |bad=>rw[e] at d;exact d.elim
def Pm.calm (m:Pm):Prop:=∀a q,m.out a≠.exc q
theorem Pm.calm_fn {m:Pm} (h:m.calm) (xs:List PV) (q:PX):m.fn xs≠.exc q:=by
 unfold Pm.fn
 by_cases hx:∃a,m.enc a=xs/\m.pre a
 ·rw[dif_pos hx];exact h _ q
 ·rw[dif_neg hx];exact fun z=>by cases z
theorem V8 {C:Addr}{x:Str}{Y:Tys} (hC:JR K x C) (hn:Len fa n) (hl:n<=1000) (ha:DAA K (EX1 K E) Γ Γ' ta fa):DS K (EX1 K E) Γ Y (Zgf C (fun _=>E) ta) (fun ρ=>(fa ρ).thenS fun _=>.exc (x,.non)):=fun B H0 H σ ρ F D A d=>by
 refine ha B H0 H σ ρ F [] _ A (d.thenS.imp (fun xs hx d vs H1 F1 s1 f1 p1 A1=>?_) fun e q=>q)
 exact⟨by rw[p1.length,hn ρ xs hx];exact hl,fun ea hea=>d H1 A1.same C ea hC hea⟩
end
noncomputable def Zkr:V->Value
 |.ref a=>.ref a
 |.ty n=>.type n
 |_=>.none
noncomputable def ZiQ:V->Bool
 |.ref _=>true
 |.ty _=>true
 |_=>false
theorem Zjk {c:V}{u:Value} (h:ZiQ c=true) (r:ZY c u):u=Zkr c:=by
 cases c<;>first|exact r|cases h
structure IsT (K:PySem.W.Frag) (c:V) (L:List (Str×Bool)):Prop where
 cls:ZiQ c=true
 non:PySem.W.kitOne K (.type "NoneType") (Zkr c)=some false
 own:∀n b,L.lookup n=some b->∀D,JR K n D->PySem.W.exOk K D=true/\PySem.W.kitOne K (.ref D) (Zkr c)=some b
def Zgc (K:W.Frag) (H:Hp) (n:Str) (v:V):Prop:=ZhR K H n v\/∃i,ZhS K H n i v
theorem Zgc.inst {X:Cx}{pins:List (Addr×Obj)}{σ:St}{H:Hp}{s:Shared}{n:Str}{v:V} (I:Inv X pins σ H s) (h:Zgc X.K H n v):∃a o C od,v=.ref a/\JR X.K n C/\PySem.W.InstAt s.heap a o C od/\∀u,od=some u->PySem.W.lookIn ("called":Str) u=some none:=by
 rcases h with ⟨a,o,C,rfl,h1,h2,h3,h4,h5⟩|⟨i,a,o,C,d,fs,rfl,h1,h1d,h2,h3,h4,h5,rfl⟩
 ·exact⟨a,o,C,none,rfl,h5,⟨(I.hok a _ h1.1).1,h2,h4,by rw[h3];trivial⟩,fun u z=>by cases z⟩
 ·obtain⟨m,n1,n2⟩:=I.hok d _ h1d.1
  obtain⟨ou,hu,hl⟩:=Zak n1
  refine⟨a,o,C,some ou,rfl,h5,⟨(I.hok a _ h1.1).1,h2,h4,by rw[h3];exact hu⟩,fun u z=>?_⟩
  cases z
  rw[hl]
  have z:=n2 ("called":Str)
  cases q:m ("called":Str) with
  |none=>rfl
  |some y=>rw[q] at z;exact z.elim
def ZkW (K:W.Frag) (c:V) (L:List (Str×Bool)):List V->Hp->VK->Prop:=fun xs H Q=>∃x,xs=[x,c]/\((x=.non/\Q (.bl false) H)\/∃n b,Zgc K H n x/\L.lookup n=some b/\Q (.bl b) H)
theorem JY {X:Cx}{K:W.Frag}{c:V}{L:List (Str×Bool)} (T:IsT K c L) (e:X.K=K:=by rfl):JS X (.builtin "isinstance") (ZkW K c L):=by
 subst e
 intro pins s σ H xs us Q I r h
 obtain⟨x,rfl,h⟩:=h
 obtain⟨u,w',rfl,rx,rn⟩:=Zie r
 obtain rfl:=Zjk T.cls rn
 rcases h with ⟨rfl,q⟩|⟨n,b,hx,hb,q⟩
 ·cases rx
  exact PySem.W.kia_one PySem.W.kitx_none I.kIn True.intro T.non (fun z=>nomatch z) fun tk=>⟨.bl false,H,I.tok _,rfl,q⟩
 ·obtain⟨a,o,C,od,rfl,h5,hI,-⟩:=hx.inst I
  cases rx
  obtain⟨t1,t2⟩:=T.own n b hb C h5
  exact PySem.W.kia_one (PySem.W.kitx_exc t1) I.kIn ⟨o,od,hI⟩ t2 (fun z=>nomatch z) fun tk=>⟨.bl b,H,I.tok _,rfl,q⟩
noncomputable def ZdE (L:List (Str×Bool)) (x:PV):Rr PV:=match x with
 |.non=>.ok (.bl false)
 |.exc n=>(match L.lookup n with|some b=>.ok (.bl b)|none=>.bad)
 |.exa n _=>(match L.lookup n with|some b=>.ok (.bl b)|none=>.bad)
 |_=>.bad
section
variable {K:W.Frag}{EX:PX->Hp->Prop}{Γ Γ':List Md}{te:TE}{f:List PV->Rr PV}
theorem Qo {c:V}{L:List (Str×Bool)} (he:DE K EX Γ Γ' .A te f):DE K EX Γ Γ' .P (tCB (ZkW K c L) (J1 te (J1 (tC c) ZaL))) (fun ρ=>(f ρ).bind (ZdE L)):=fun B H0 H σ ρ F R Q A d=>by
 refine he B H0 H σ ρ F R _ A (d.bind.imp (fun x _ d v H1 s1 r1=>?_) fun e q=>q)
 obtain⟨F1,f1,p1,A1⟩:=r1
 cases x with
 |non=>exact⟨v,rfl,.inl ⟨p1,d _ H1 s1 ⟨F1,f1,rfl,rfl,A1⟩⟩⟩
 |exc n =>
  simp only[ZdE] at d
  cases hb:L.lookup n with
  |some b=>rw[hb] at d;exact⟨v,rfl,.inr ⟨n,b,.inl p1,hb,d _ H1 s1 ⟨F1,f1,rfl,rfl,A1⟩⟩⟩
  |none=>rw[hb] at d;exact d.elim
 |exa n i =>
  simp only[ZdE] at d
  cases hb:L.lookup n with
  |some b=>rw[hb] at d;exact⟨v,rfl,.inr ⟨n,b,.inr ⟨i,p1⟩,hb,d _ H1 s1 ⟨F1,f1,rfl,rfl,A1⟩⟩⟩
  |none=>rw[hb] at d;exact d.elim
 |_=>exact d.elim
end
def MOk (P:Program) (w:World) (K:W.Frag) (mg:Str->Option Value) (base:Heap) (k:Nat) (m n:Str):Prop:=
 ∃C f fd,JR K n C/\PySem.W.exOk K C=true/\PySem.W.findIn K (.ref C) m=some (some (.ref f))/\PySem.W.typeIn K (.ref f)=some (.type "function")/\PySem.W.keepIn K (.ref f)=true/\VH K fd ["self"] [] /\
  Jb P w K mg base CX0 k f fd ["self"] (spF K 1 .P W0 fun _=>.ok (.str n))
noncomputable def Zdm (K:W.Frag) (L:List Str) (ta:TE):TE:=fun σ H Q=>ta σ H fun v H1=>∃n,n∈L/\Zgc K H1 n v/\∀H2,Zw H1 H2->Q (.str n) H2
theorem Zab {X:Cx}{k:Nat}{L:List Str}{o:Expr}{ta:TE}{apos pos:Pos}{pl:Sem Bool} (hM:∀n∈L,MOk X.prog X.w X.K X.mg X.base k "called" n) (hr:JH k X.A) (he:PE X o ta)
  (ht:eval (.Call (.Attribute o "called" apos) [] [] pos) X.env=(do
   let ov <- eval o X.env
   standAt apos.atName
   let (f,first) <- holding [ov] (getMethod ov "called" pl)
   callWith pos f first (backTo pos (starEach [] X.env)) (backToKw pos (keywordEach [] X.env))):=by rfl) :
  PE X (.Call (.Attribute o "called" apos) [] [] pos) (Zdm X.K L ta):=by
 intro pins s σ H Q I h
 refine PySem.W.methodCall_KW (pl:=pl) (thn (he pins s σ H _ I h) fun u s1 ⟨x,H1,I1,rx,n,hn,hx,q⟩=>?_) ht
 obtain⟨a,oe,C,od,rfl,h5,hI,hl⟩:=hx.inst I1
 obtain rfl:u=Value.ref a:=rx
 obtain⟨C',f,fd,c1,c2,c3,c4,c5,c6,c7⟩:=hM n hn
 have hCC:C'=C:=by have z:=c1.symm.trans h5;simpa using z
 subst hCC
 simp only[PySem.W.exOk,Bool.and_eq_true,beq_iff_eq] at c2
 obtain⟨⟨⟨⟨⟨⟨⟨d1,d2⟩,d3⟩,d4⟩,d5⟩,d6⟩,d7⟩,d8⟩:=c2
 refine PySem.W.method_exc I1.kIn hI d1 d2 hl c3 c4 ?_
 refine PySem.W.callWith_K0 (first:=[.ref a]) I1.kIn c5 (QV (us:=[.ref a]) (vs:=[.ref a]) (dvs:=[]) (E:=E0) c7 hr c6 .nil Zc6 I1 (.cons rfl .nil) ?_)
 have fin:∀v H',Zw H1 H'->Zga X.K (fun _=>True) H1 .P (.str n) v H'->Q v H':=fun v H' sm r=>by
  obtain rfl:v=.str n:=r.2
  exact q H' sm
 rcases hx with hx|⟨i,hx⟩
 ·exact⟨fun _=>True,[.exc n],⟨_,_,rfl,hx,rfl⟩,rfl,fin⟩
 ·exact⟨fun _=>True,[.exa n i],⟨_,_,rfl,hx,rfl⟩,rfl,fin⟩
noncomputable def Vm (L:List Str) (x:PV):Rr PV:=match x with
 |.exc n=>if n∈L then .ok (.str n) else .bad
 |.exa n _=>if n∈L then .ok (.str n) else .bad
 |_=>.bad
section
variable {K:W.Frag}{EX:PX->Hp->Prop}{Γ Γ':List Md}{te:TE}{f:List PV->Rr PV}
theorem Za2 {L:List Str} (he:DE K EX Γ Γ' .A te f):DE K EX Γ Γ' .P (Zdm K L te) (fun ρ=>(f ρ).bind (Vm L)):=fun B H0 H σ ρ F R Q A d=>by
 refine he B H0 H σ ρ F R _ A (d.bind.imp (fun x _ d v H1 s1 r1=>?_) fun e q=>q)
 obtain⟨F1,f1,p1,A1⟩:=r1
 cases x with
 |exc n =>
  simp only[Vm] at d
  by_cases hn:n∈L
  ·rw[if_pos hn] at d;exact⟨n,hn,.inl p1,fun H2 s2=>d _ H2 (s1.trans s2) ⟨F1,f1,rfl,rfl,A1.grow s2⟩⟩
  ·rw[if_neg hn] at d;exact d.elim
 |exa n i =>
  simp only[Vm] at d
  by_cases hn:n∈L
  ·rw[if_pos hn] at d;exact⟨n,hn,.inr ⟨i,p1⟩,fun H2 s2=>d _ H2 (s1.trans s2) ⟨F1,f1,rfl,rfl,A1.grow s2⟩⟩
  ·rw[if_neg hn] at d;exact d.elim
 |_=>exact d.elim
end
noncomputable def ZiA (Γ:List Md):Bool:=Γ.all fun m=>m==.U || m==.P || m==.S
theorem Zhi {K:W.Frag}{B:Addr->Prop}{H0 H:Hp}{σ:St}{Γ:List Md}{ρ:List PV}{F:Nat->List Addr}{R:List Addr} (h:ZiA Γ=true) (A:Ag K B H0 H σ Γ ρ F R):∀i,F i=[]:=fun i=>by
 have sl:=A.slot i
 by_cases hi:i<Γ.length
 ·have hm:=ZqW.mp h Γ[i] (ZrC hi)
  have e:Γ.getD i .U=Γ[i]:=by rw[Zq5,Zq6 hi];rfl
  rw[e] at sl
  simp only[Bool.or_eq_true,beq_iff_eq] at hm
  rcases hm with (hm|hm)|hm
  ·rw[hm] at sl;exact sl
  ·rw[hm] at sl;exact sl.1
  ·rw[hm] at sl;exact sl.1
 ·have e:Γ.getD i .U=.U:=by rw[Zq5,ZqH (by omega)];rfl
  rw[e] at sl
  exact sl
theorem Ag.near {K:W.Frag}{B:Addr->Prop}{H0 H:Hp}{σ:St}{Γ:List Md}{ρ:List PV}{F:Nat->List Addr} (A:Ag K B H0 H σ Γ ρ F []) (h:∀i,F i=[]):Ag K B H H σ Γ ρ F []:=
 ⟨Zw.refl _,fun a q=>A.own a (A.same.free q),fun i a ha=>by rw[h i] at ha;simp at ha,by simp,A.live,A.liveR,A.disj,A.disjR,A.lenS,A.lenR,A.slot⟩
theorem Ag.far {K:W.Frag}{B:Addr->Prop}{H0 H1 H:Hp}{σ:St}{Γ:List Md}{ρ:List PV}{F:Nat->List Addr} (A:Ag K B H1 H σ Γ ρ F []) (s:Zw H0 H1) (own:∀a,H0 a=none->B a):Ag K B H0 H σ Γ ρ F []:=
 ⟨s.trans A.same,own,fun i a ha=>s.free (A.young i a ha),by simp,A.live,A.liveR,A.disj,A.disjR,A.lenS,A.lenR,A.slot⟩
theorem Zw.newO {H:Hp}{p:Addr}{o:HO} (hp:H p=none):Zw H (L2.upd H p o):=fun b u h=>by rw[L2.Zl (Zv h hp)];exact h
theorem Ag.unset {K:W.Frag}{B:Addr->Prop}{H0 H:Hp}{σ:St}{Γ Γ':List Md}{ρ:List PV}{F:Nat->List Addr} (i:Nat) (A:Ag K B H0 H σ Γ ρ F []) (h:Q2 (Γ.set i .U) Γ'=true) :
  ∃F',(∀i,∀a∈F' i,a∈F i)/\Ag K B H0 H (σ.set i none) Γ' ρ F' []:=by
 have h0:Q2 Γ (Γ.set i .U)=true:=by
  have:∀(Γ:List Md) (i:Nat),Q2 Γ (Γ.set i .U)=true:=fun Γ=>by
   induction Γ with
   |nil=>intro i;rfl
   |cons m ms ih =>
    intro i
    have refl:∀l:List Md,Q2 l l=true:=fun l=>by induction l with|nil=>rfl|cons a l ih=>simp[Q2,mle,ih]
    cases i with
    |zero=>simp[Q2,mle,refl]
    |succ i=>simp[Q2,mle,ih i]
  exact this Γ i
 obtain⟨F1,f1,A1⟩:=A.weak h0
 have hFi:F1 i=[]:=by
  have sl:=A1.slot i
  by_cases hi:i<Γ.length
  ·have e:(Γ.set i .U).getD i .U=.U:=by rw[Zq5,ZqF hi];rfl
   rw[e] at sl;exact sl
  ·have e:(Γ.set i .U).getD i .U=.U:=by rw[Zq5,ZqH (by simp;omega)];rfl
   rw[e] at sl;exact sl
 have A2:Ag K B H0 H (σ.set i none) (Γ.set i .U) ρ F1 []:=⟨A1.same,A1.own,A1.young,A1.youngR,A1.live,A1.liveR,A1.disj,A1.disjR,by simpa using A1.lenS,A1.lenR,fun j=>by
  by_cases hj:j=i
  ·subst hj
   have e:(Γ.set j .U).getD j .U=.U:=by
    by_cases hi:j<Γ.length
    ·rw[Zq5,ZqF hi];rfl
    ·rw[Zq5,ZqH (by simp;omega)];rfl
   rw[e];exact hFi
  ·have sl:=A1.slot j
   rw[ZqB (Ne.symm hj)];exact sl⟩
 obtain⟨F3,f3,A3⟩:=A2.weak h
 exact⟨F3,fun j a ha=>f1 j a (f3 j a ha),A3⟩
noncomputable def ZhY (e:PX):PV:=match e.2 with
 |.int i=>.exa e.1 i
 |_=>.exc e.1
noncomputable def Zj4 (L:List Str) (i:Nat) (gb gh:List PV->RS) (ρ:List PV):RS:=match gb ρ with
 |.exc e=>if e.1∈L then gh (ρ.set i (ZhY e)) else .bad
 |r=>r
section
variable {K:W.Frag}{EX:PX->Hp->Prop}{Γ Γs:List Md}{Y Yh:Tys}{tb:(St->XK)->TS}{th:TS}{gb gh:List PV->RS}{C:Addr}{i:Nat}{L:List Str}
theorem Zg3 (hL:∀n∈L,∀D,JR K n D->PySem.W.exmOne K (.ref D) (.ref C)=some true) (hb:∀E:XK,DS K (EX1 K E) Γs Y (tb fun _=>E) gb) (hloc:∀(E:St->XK) D σ H,tb (fun _=>E σ) D σ H->tb E D σ H)
  (hh:DS K EX (Γs.set i .P) Yh th gh) (hs:Q2 Γ Γs=true) (ho:ZiA Γs=true) (hi:i<Γs.length) (hn:Q2 (Yh.n.set i .U) Y.n=true) (hbk:Q2 (Yh.b.set i .U) Y.b=true) (hct:Q2 (Yh.c.set i .U) Y.c=true) (hr:Yh.r=Y.r) :
  DS K EX Γ Y (ZkH K C i tb th) (Zj4 L i gb gh):=fun B H0 H σ ρ F D A d=>by
 obtain⟨F1,f1,A1⟩:=A.weak hs
 have hF:=Zhi ho A1
 have AN:=A1.near hF
 refine hloc _ D σ H (hb (ZjF K C i th D σ) B H H σ ρ F1 D AN ?_)
 have frm0:∀{H' F'},Frm H F1 H' F'->Frm H F H' F':=fun {H' F'} fr=>(Frm.of (Zw.refl _) f1).trans fr
 unfold Zj4 at d
 cases e:gb ρ with
 |next ρ1=>rw[e] at d;exact fun σ' H' F' fr A'=>d σ' H' F' (frm0 fr) (A'.far A.same A.own)
 |brk ρ1=>rw[e] at d;exact fun σ' H' F' fr A'=>d σ' H' F' (frm0 fr) (A'.far A.same A.own)
 |cont ρ1=>rw[e] at d;exact fun σ' H' F' fr A'=>d σ' H' F' (frm0 fr) (A'.far A.same A.own)
 |ret x =>
  rw[e] at d
  refine fun v H' s r=>d v H' (A.same.trans s) ?_
  cases hk:Y.r with
  |P=>rw[hk] at r;exact r
  |F=>rw[hk] at r;obtain⟨G,r1,r2⟩:=r;exact⟨G,r1,fun a ha=>A.same.free (r2 a ha)⟩
  |T=>rw[hk] at r;exact Rep.mono (fun a us s r=>⟨r,s.elim .inl fun z=>.inr (A.same.free z)⟩) (fun a us r=>r) r
  |Z=>rw[hk] at r;exact Rep.mono (fun a us s r=>⟨r,s.elim .inl fun z=>.inr (A.same.free z)⟩) (fun a us r=>r) r
  |A=>rw[hk] at r;exact Rep.mono (fun a us s r=>⟨r,s.elim .inl fun z=>.inr (A.same.free z)⟩) (fun a us r=>r) r
  |N=>rw[hk] at r;obtain⟨y,a,s,xs,G1,G2,r1,r2,r3,r4,r5,r6⟩:=r;exact⟨y,a,s,xs,G1,G2,r1,r2,r3,r4,fun b hb=>A.same.free (r5 b hb),fun b hb=>A.same.free (r6 b hb)⟩
 |bad=>rw[e] at d;exact d
 |exc q =>
  rw[e] at d
  dsimp only at d
  by_cases hq:q.1∈L
  ·rw[if_pos hq] at d
   intro H' sm C' k hC' hk
   refine⟨hL q.1 hq C' hC',k,rfl,fun ea oe hea hc hdn hnc=>?_⟩
   have s1:Zw H' (upd H' ea (.frz oe (.own ea))):=Zw.newO hea
   have s2:Zw H (upd H' ea (.frz oe (.own ea))):=sm.trans s1
   have A2:Ag K B H0 (upd H' ea (.frz oe (.own ea))) σ Γs ρ F1 []:=A1.grow s2
   have key:∀S:Addr->Prop,PV.flat (ZhY q)=true/\Rep K (upd H' ea (.frz oe (.own ea))) S (ZhY q) (.ref ea):=fun S=>by
    obtain⟨qn,qv⟩:=q
    cases qv with
    |non =>
     have hk:H' k=none:=hk
     rcases hdn with ⟨z,_⟩|⟨_,fs,z⟩
     ·exact⟨rfl,ea,oe,C',rfl,⟨Zt,trivial⟩,hc,z,hnc,hC'⟩
     ·rw[hk] at z;cases z
    |int i =>
     obtain⟨fs,z1,z2⟩:=(show ∃fs,H' k=some (.xd fs)/\fs=[(("at":Str),V.int i)] from hk)
     rcases hdn with ⟨_,z⟩|⟨z,_⟩
     ·rw[z,hea] at z1;cases z1
     ·exact⟨rfl,ea,oe,C',k,fs,rfl,⟨Zt,trivial⟩,⟨s1 _ _ z1,trivial⟩,hc,z,hnc,hC',z2⟩
    |_=>exact hk.elim
   have A3:=Ag.put (i:=i) (m:=.P) (x:=ZhY q) (v:=.ref ea) (G:=[]) (R:=[]) A2 hi (by simp) ⟨rfl,_,rfl,(key fun _=>True).1,(key _).2⟩
   refine hh B H0 _ _ _ _ (unE D i) A3 ?_
   have fr3:Frm H F (upd H' ea (.frz oe (.own ea))) (Jy F1 i []):=frm0 (Zbi (G:=[]) s2 (fun _ _ h=>h) (by simp))
   cases e2:gh (ρ.set i (ZhY q)) with
   |next ρ1 =>
    rw[e2] at d
    intro σ' H2 F2 fr A'
    obtain⟨F4,f4,A4⟩:=A'.unset i hn
    exact d _ H2 F4 (fr3.trans (fr.trans (Frm.of (Zw.refl _) f4))) A4
   |brk ρ1 =>
    rw[e2] at d
    intro σ' H2 F2 fr A'
    obtain⟨F4,f4,A4⟩:=A'.unset i hbk
    exact d _ H2 F4 (fr3.trans (fr.trans (Frm.of (Zw.refl _) f4))) A4
   |cont ρ1 =>
    rw[e2] at d
    intro σ' H2 F2 fr A'
    obtain⟨F4,f4,A4⟩:=A'.unset i hct
    exact d _ H2 F4 (fr3.trans (fr.trans (Frm.of (Zw.refl _) f4))) A4
   |ret x=>rw[e2] at d;exact fun v H2 s r=>d v H2 s (hr▸r)
   |exc q2=>rw[e2] at d;exact d
   |bad=>rw[e2] at d;exact d
  ·rw[if_neg hq] at d;exact d.elim
end
noncomputable def ZkG (K:W.Frag) (n:Str):Bool:=match PySem.W.nsIn K mainGlobals n with
 |some (some (.ref C))=>PySem.W.exOk K C&&(PySem.W.kitOne K (.type "NoneType") (.ref C)==some false)&&(PySem.W.kitOne K (.ref C) (.type "ValueError")==some true)
 |_=>false
noncomputable def ZkF (K:W.Frag) (q:Str×Str×Bool):Bool:=match PySem.W.nsIn K mainGlobals q.1,PySem.W.nsIn K mainGlobals q.2.1 with
 |some (some (.ref D)),some (some (.ref C))=>(PySem.W.kitOne K (.ref D) (.ref C)==some q.2.2)&&(PySem.W.exmOne K (.ref D) (.ref C)==some q.2.2)
 |_,_=>false
noncomputable def ZeU (K:W.Frag) (ns:List Str) (ss:List (Str×Str×Bool)):Bool:=(PySem.W.kitOne K (.type "NoneType") (.type "ValueError")==some false)&&(ns.all (ZkG K)&&ss.all (ZkF K))
section
variable {K:W.Frag}{ns:List Str}{ss:List (Str×Str×Bool)}{n c:Str}
theorem Jv (h:ZeU K ns ss=true) (hn:n∈ns):∃C,JR K n C/\True/\PySem.W.exOk K C=true/\PySem.W.kitOne K (.type "NoneType") (.ref C)=some false/\PySem.W.kitOne K (.ref C) (.type "ValueError")=some true:=by
 simp only[ZeU,Bool.and_eq_true] at h
 have:=ZqW.mp h.2.1 n hn
 unfold ZkG at this
 split at this
 ·rename_i C e
  simp only[Bool.and_eq_true,beq_iff_eq] at this
  exact⟨C,e,trivial,this.1.1,this.1.2,this.2⟩
 ·cases this
noncomputable def ZgB (K:W.Frag) (ns:List Str):Bool:=ns.all fun n=>match PySem.W.nsIn K mainGlobals n with
 |some (some (.ref C))=>PySem.W.excIn K C Zkt "ValueError.__new__"
 |_=>false
theorem J5 (h:ZgB K ns=true) (hn:n∈ns):∃C,JR K n C/\PySem.W.excIn K C Zkt "ValueError.__new__"=true:=by
 have:=ZqW.mp h n hn
 split at this
 ·rename_i C e
  exact⟨C,e,this⟩
 ·cases this
theorem JR.inj {C D:Addr} (a:JR K n C) (b:JR K n D):C=D:=by have z:=a.symm.trans b;simpa using z
theorem Zbz (h:ZeU K ns ss=true) {b:Bool} (hm:(n,c,b)∈ss) {D C:Addr} (hD:JR K n D) (hC:JR K c C):PySem.W.kitOne K (.ref D) (.ref C)=some b/\PySem.W.exmOne K (.ref D) (.ref C)=some b:=by
 simp only[ZeU,Bool.and_eq_true] at h
 have:=ZqW.mp h.2.2 _ hm
 unfold ZkF at this
 have hD':PySem.W.nsIn K mainGlobals n=some (some (.ref D)):=hD
 have hC':PySem.W.nsIn K mainGlobals c=some (some (.ref C)):=hC
 simp only[hD',hC',Bool.and_eq_true,beq_iff_eq] at this
 exact this
theorem U6 {L:List (Str×Bool)}{b:Bool} (h:L.lookup n=some b):(n,b)∈L:=PySem.mem_of_lookup h
theorem Uh {L:List (Str×Bool)} (h:ZeU K ns ss=true) (hc:c∈ns) (hL:(L.all fun p=>ns.contains p.1&&ss.contains (p.1,c,p.2))=true):∃C,JR K c C/\IsT K (.ref C) L:=by
 obtain⟨C,e,_,_,e2,_⟩:=Jv h hc
 refine⟨C,e,rfl,e2,fun n b hb D hD=>?_⟩
 have:=ZqW.mp hL _ (U6 hb)
 simp only[Bool.and_eq_true,Zru] at this
 obtain⟨D',d1,_,d2,_⟩:=Jv h this.1
 obtain rfl:=d1.inj hD
 exact⟨d2,(Zbz h this.2 hD e).1⟩
theorem Zb0 {L:List (Str×Bool)} (h:ZeU K ns ss=true) (hL:(L.all fun p=>ns.contains p.1&&p.2)=true):IsT K (.ty "ValueError") L:=by
 have h0:=h
 simp only[ZeU,Bool.and_eq_true,beq_iff_eq] at h0
 refine⟨rfl,h0.1,fun n b hb D hD=>?_⟩
 have:=ZqW.mp hL _ (U6 hb)
 simp only[Bool.and_eq_true,Zru] at this
 obtain⟨D',d1,_,d2,_,d3⟩:=Jv h this.1
 obtain rfl:=d1.inj hD
 have hb':b=true:=this.2
 rw[hb']
 exact⟨d2,d3⟩
theorem Zb1 {L:List Str}{C:Addr} (h:ZeU K ns ss=true) (hC:JR K c C) (hL:(L.all fun n=>ss.contains (n,c,true))=true):∀n∈L,∀D,JR K n D->PySem.W.exmOne K (.ref D) (.ref C)=some true:=fun n hn D hD=>by
 have:=ZqW.mp hL n hn
 exact(Zbz h (Zru.mp this) hD hC).2
end
def UZ (K:W.Frag) (n m qual:Str) (st:Stmt):Prop:=∃C f fd,JR K n C/\PySem.W.findIn K (.ref C) m=some (some (.ref f))/\PySem.W.typeIn K (.ref f)=some (.type "function")/\Fun K m qual st f fd
theorem VE:bootBuiltins "ValueError"=some (.type "ValueError"):=by decide +kernel
theorem ZaU {X:Cx}:ZaH X (fun _=>E0):=fun _ _ _ _ _ _ _ h=>by obtain⟨_,_,_,_,_,_,q⟩:=h;exact q.elim
section
variable {K:W.Frag}{n:Nat}{m:List PV->Rr PV}{ta:TA}{Γ Γ':List Md}{fa:List PV->Rr (List PV)}
theorem Zld (hn:Len fa n) (ha:DAA K X0 Γ Γ' ta fa):DE K X0 Γ Γ' .F (Zb5 (spF K n .F (W1 K) m) (fun _=>E0) ta) (fun ρ=>(fa ρ).bind m):=Zco (E:=E0) (W:=W1 K) (fun σ H Q h=>h) (fun e H' h=>h.elim) hn ha
theorem Zlq (hn:Len fa n) (ha:DAA K X0 Γ Γ' ta fa):DE K X0 Γ Γ' .P (Zb5 (spF K n .P (W1 K) m) (fun _=>E0) ta) (fun ρ=>(fa ρ).bind m):=QB (E:=E0) (W:=W1 K) (fun σ H Q h=>h) (fun e H' h=>h.elim) hn ha
end
noncomputable def Zj3 (L:List Str) (i:Nat) (gh:List PV->RS) (ρ:List PV) (r:RS):RS:=match r with
 |.exc e=>if e.1∈L then gh (ρ.set i (ZhY e)) else .bad
 |r=>r
@[simp] theorem ZgE {L:List Str}{i:Nat}{gb gh:List PV->RS}{ρ:List PV}:Zj4 L i gb gh ρ=Zj3 L i gh ρ (gb ρ):=by
 unfold Zj4 Zj3
 cases gb ρ<;>rfl
@[simp] theorem ZeZ {L:List Str}{i:Nat}{gh:List PV->RS}{ρ:List PV}{n:Str}:Zj3 L i gh ρ (.exc (n,.non))=if n∈L then gh (ρ.set i (.exc n)) else .bad:=rfl
theorem JT {L:List (Str×Bool)}{n:Str}{b:Bool} (h:L.lookup n=some b):ZdE L (.exc n)=.ok (.bl b):=by unfold ZdE;simp only[h]
theorem U5 {L:List Str}{n:Str} (h:n∈L):Vm L (.exc n)=.ok (.str n):=by unfold Vm;simp only[if_pos h]
section
end
theorem ZdP {x:Str} (h:PyData.canLay0 (.str x)=true):okD (.str x)=true:=by simp[okD,PV.noX,PV.dat,PyData.depth,h]
theorem ZdF {g:Bool->Bool}{a b:Str} (ha:PyData.canLay0 (.str a)=true) (hb:PyData.canLay0 (.str b)=true):QJ g (.str a) (.str b)=.ok (.bl (g (a==b))):=by
 unfold QJ
 rw[ZdP ha,ZdP hb]
 simp only[Bool.and_self,if_true,PV.dat,PyData.eqv]
section
end
theorem JW {ns ms:List Int}:ns.map PV.int=ms.map PV.int ↔ ns=ms:=⟨ZV,fun h=>by rw[h]⟩
noncomputable def orX (o:Option Str) (x:PV):Rr PV:=match o with
 |none=>.ok x
 |some n=>.exc (n,.non)
theorem V6 {b:PV->List PV->RS}{xs:List PV}{ρ:List PV}{W:RS} (hw:UJ b xs ρ=W) (I:Nat->List PV->Prop) (h0:I 0 ρ) (h:∀i x ρ,xs[i]?=some x->I i ρ->(b x ρ).good (I (i+1))) :
  ∃ρ',W=.next ρ'/\I xs.length ρ':=by
 obtain⟨ρ',h1,h2⟩:=Ut I h0 h
 exact⟨ρ',hw.symm.trans h1,h2⟩
theorem Zhm {f:PV->Rr PV}{g:Int->Bool}{ns:List Int} (h:∀z∈ns,f (.int z)=.ok (.bl (g z))):ZaI f (ns.map PV.int)=.ok ((ns.map g).map PV.bl):=by
 induction ns with
 |nil=>rfl
 |cons n ns ih =>
  simp only[ZqJ,ZaI,h n (by simp),Rr.bind_ok,ih fun z hz=>h z (by simp[hz])]
theorem Zfw (bs:List Bool):Zi6 [.lst (bs.map PV.bl)]=.ok (.bl (bs.all id)):=by simp only[Zi6,ZeL]
theorem ZhM {ns:List Int}{p:Int->Prop} [DecidablePred p]:(ns.map fun z=>decide (p z)).all id=decide (∀x∈ns,p x):=by
 rw[Bool.eq_iff_iff,ZqW,decide_eq_true_iff]
 simp
theorem Zfq {k:Int}{z:Int} (h1:-(2^63)<=k) (h2:k<=1000000):ZhV [.int z] (.int k)=.ok (.lst ((List.replicate k.toNat z).map PV.int)):=by
 have:=Zae (ns:=[z]) (k:=k) (by simp;omega) h1 (by omega)
 simp only[ZqJ,Zrl] at this
 rw[this,Zrs]
theorem Zfz {x:PV}:orX none x=.ok x:=rfl
theorem Zfy {x:PV}{n:Str}:orX (some n) x=.exc (n,.non):=rfl
theorem ZdT {ns:List Int}{z:Int} (h:ns.length<1000000):newF (ns.map PV.int++[.int z])=.ok (.lst ((ns++[z]).map PV.int)):=ZbT (ms:=[z]) (by simp only[ZqL,Zrc,ZqP];omega)
theorem ZgD {L:List Str}{i:Nat}{gh:List PV->RS}{ρ:List PV}{n:Str} (h:n∈L):Zj3 L i gh ρ (.exc (n,.non))=gh (ρ.set i (.exc n)):=by rw[ZeZ,if_pos h]
theorem Zdw {n:Nat}:List.replicate (n+1) PV.non=PV.non::List.replicate n PV.non:=rfl
theorem Zdv:List.replicate 0 PV.non=[]:=rfl
section
end
theorem ZfB {a:Str}{b:Int}:grd (.tup [.str a,.int b])=.ok (.tup [.str a,.int b]):=rfl
theorem ZfC {a b:Int}:grd (.tup [.int a,.int b])=.ok (.tup [.int a,.int b]):=rfl
theorem Zfs {g:Bool->Bool}:Zi4 g .non=.ok (.bl (g true)):=rfl
section
variable {X:Cx}{pins:List (Addr×Obj)}{σ:St}{H:Hp}{s:Shared}{h':Heap}
theorem Inv.turned2 {t':Nat}{it e:Addr} (I:Inv X pins σ H s) (k:∀b o,b≠e->b≠it->s.heap.get? b=some o->h'.get? b=some o)
  (f:∀b,b=e\/b=it->H b=none/\b≠X.env.locals/\(b∈X.ex\/X.s₀.heap.objs.size<=b)/\(∀x c,X.env.cells.lookup x=some c->c≠b)/\∀p∈X.pn++pins,p.1≠b):Inv X pins σ H { s with heap:=h',toks:=t' }:=by
 have nit:∀b u,H b=some u->b≠e/\b≠it:=fun b u q=>by
  refine⟨fun z=>?_,fun z=>?_⟩
  ·rw[z,(f e (.inl rfl)).1] at q;cases q
  ·rw[z,(f it (.inr rfl)).1] at q;cases q
 refine I.step (g':=s.gens) (d':=s.drawn) (ch:=[e,it]) (fun b hb=>?_) (fun b o _ _ hc q _=>k b o (fun z=>hc (by simp[z])) (fun z=>hc (by simp[z])) q) (fun b o _ _ hc q _=>⟨o.slots,k b o (fun z=>hc (by simp[z])) (fun z=>hc (by simp[z])) q⟩) (fun _ _ _ _ n=>n)
  (fun b o hc q=>⟨o,k b o (fun z=>hc (by simp[z])) (fun z=>hc (by simp[z])) q⟩) (fun _ _ q=>q) (fun _ _ _ q=>q) (fun b ps q=>⟨#[],by rw[q];simp⟩) (fun m hm=>?_) (fun b u q=>?_) I.bare
 ·obtain⟨g0,g1,g2,g3,g4⟩:=f b (by simpa using hb)
  exact⟨g2,g1,g3,g4⟩
 ·obtain⟨o,es,ep,ho,r⟩:=hm
  exact⟨o,es,ep,k _ o (Ne.symm (f e (.inl rfl)).2.1) (Ne.symm (f it (.inr rfl)).2.1) ho,r⟩
 ·refine(I.hok b u q).stay (fun c v hc q2=>?_) (fun _ q2=>q2) fun _ _ q2=>q2
  have:c≠e/\c≠it:=by
   rcases hc with z|z
   ·rw[z];exact nit b u q
   ·exact nit c _ z
  exact k c v this.1 this.2 q2
theorem Inv.adoptT {D:Addr}{ys:List V}{its:List Value} (I:Inv X pins σ H s) (hn:H D=none) (h1:X.s₀.heap.objs.size<=D) (hL:D≠X.env.locals) (hc:∀x c,X.env.cells.lookup x=some c->c≠D)
  (hp:∀p∈X.pn++pins,p.1≠D) (ho:s.heap.get? D=some { cls:=.type "tuple",data:=.seq its.toArray }) (r:ZP ys its) (hz:ys.length<=sizeLine):Inv X pins σ (upd H D (.tup ys)) s:=by
 refine I.step (h':=s.heap) (g':=s.gens) (d':=s.drawn) (t':=s.toks) (ch:=[D]) (fun b hb=>?_) (fun b o _ _ _ e _=>e) (fun b o _ _ _ e _=>⟨o.slots,e⟩) (fun b o hb _ e=>?_) (fun b o _ e=>⟨o,e⟩)
  (fun b xs e=>?_) (fun b o u e=>?_) (fun b ps e=>⟨#[], ?_⟩) (fun m hm=>hm) (fun b u e=>?_) I.bare
 ·have e:b=D:=by simpa using hb
  subst e
  exact⟨.inr h1,hL,hc,hp⟩
 ·rw[Zl (by simpa using hb)];exact e
 ·rw[Zl (Zv e hn)];exact e
 ·rw[Zl (Zv e hn)];exact e
 ·rw[Zl (Zv e hn),e];simp
 ·by_cases hb:b=D
  ·subst hb
   rw[Zt] at e;cases e
   exact⟨hz,its,r,_,ho,rfl,_,rfl⟩
  ·rw[Zl hb] at e
   exact(I.hok b u e).stay (fun c v _ q=>q) (fun c q=>by rw[Zl (Zv q hn)];exact q) fun c xs q=>by rw[Zl (Zv q hn)];exact q
end
noncomputable def Ite (K:W.Frag) (a:Addr):It:=
 ⟨fun i H=>∃xs x,SqL K H a xs/\xs[i]?=some x,fun i H v H'=>∃t x,v=.ref t/\H t=none/\H'=upd H t (.tup [.int i,x])/\∀xs,SqL K H a xs->xs[i]?=some x,fun i H=>∃xs,SqL K H a xs/\xs.length<=i⟩
theorem Zdf {P:Program}{w:World}{K:W.Frag}{elts:List Expr}{x1:Nat}{tpos:Pos} (a e it:Addr) (hne:e≠it):Zjw P w K (.Tuple elts x1 tpos) (Ite K a) [e,it] e (fun i h=>∃old,IsEnum h e it i old/\h.IsListIter it a i) where
 mem:=by simp
 obj:=fun i h ⟨old,s1,s2⟩ b hb=>by
  rcases ZqE.mp hb with z|z
  ·subst z
   exact⟨_,s1,fun v z=>by
    have z':Data.fields _=Data.cell v:=z
    cases z'⟩
  ·have z:b=it:=by simpa using z
   subst z
   obtain⟨o,e,c,d⟩:=s2
   exact⟨o,e,fun v z=>by rw[d] at z;cases z⟩
 keep:=fun i h h' ⟨old,s1,s2⟩ k=>⟨old,k e (by simp) _ s1,s2.at fun o q=>k it (by simp) o q⟩
 item:=by
  intro X hP hw hK hc i pins s σ H E I hf ⟨old,s1,s2⟩ hg
  subst hP hw hK
  obtain⟨xs,x,hq,hx⟩:=hg
  obtain⟨its,rv,p,hz⟩:=I.list hq
  obtain⟨u,hu,ru⟩:=rv.get hx
  have fz:∀b,b=e\/b=it->H b=none/\b≠X.env.locals/\(b∈X.ex\/X.s₀.heap.objs.size<=b)/\(∀x c,X.env.cells.lookup x=some c->c≠b)/\∀p∈X.pn++pins,p.1≠b:=fun b hb=>by
   obtain⟨f0,f1,f2,f3,f4,f5⟩:=hf b (by simpa using hb)
   exact⟨f0,f1,f3,f4,f5⟩
  refine wpAny_pyNext_enum_item s1 s2 p.isList (x:=u) (by simpa using hu) hne fun h1 e1 i1 t1 z1 k1=>?_
  refine⟨_,rfl, ?_⟩
  refine wpAny_letOwnedTupleGo_enum e1 fun h2 e2 sb2=>?_
  have I2:Inv X pins σ H { s with heap:=h2,toks:=s.toks+1 }:=I.turned2 (fun b o n1 n2 q=>sb2.extBut b o n1 (k1 b o n1 n2 q)) fz
  have hfr:=I.hok.fresh (ZqG s.heap.objs.size)
  have het:s.heap.objs.size≠e:=Zr4 (Heap.lt_size s1)
  have fsz:=I.fpOk (H':=H) (ZqG s.heap.objs.size) hfr
  obtain⟨g0,g1,g2,g3,g4,g5⟩:=fsz
  have I3:=I2.adoptT (D:=s.heap.objs.size) (ys:=[.int i,x]) (its:=[.int i s.toks,u]) hfr I.sz g1 g4 g5 (sb2.extBut _ _ het t1) (.cons ⟨_,rfl⟩ (.cons ru .nil)) (show 2<=sizeLine by decide)
  refine⟨.ref s.heap.objs.size,_,I3,rfl,⟨_,x,rfl,hfr,rfl,fun ys hy=>by rw[I.list_inj hy hq];exact hx⟩,⟨u,by
   have:((i+1:Nat):Int)=(i:Int)+1:=by omega
   rw[this];exact e2,i1.extBut sb2.extBut (Ne.symm hne)⟩,fun b hb=>?_⟩
  have hbn:b≠s.heap.objs.size:=by
   rcases ZqE.mp hb with z|z
   ·rw[z];exact het.symm
   ·have z:b=it:=by simpa using z
    obtain⟨o,q,_⟩:=s2
    rw[z];exact ZqN (Heap.lt_size q)
  rw[Zl hbn]
  exact(hf b hb).1
 done:=by
  intro X hP hw hK hc i pins s σ H E I hf ⟨old,s1,s2⟩ hg
  subst hP hw hK
  obtain⟨xs,hq,hx⟩:=hg
  obtain⟨its,rv,p,hz⟩:=I.list hq
  obtain⟨f0,f1,f2,f3,f4,f5⟩:=hf it (by simp)
  have hl:=rv.length
  exact wpAny_pyNext_enum_end (I.ok.hd hc) s1 s2 p.isList (by simp;omega) fun h' eb=>⟨rfl,I.turned (t':=s.toks) (fun b o hb q=>eb b o hb q) f0 f1 f3 f4 f5⟩
 self:=fun _ _ _ _ _ ⟨old,st,_⟩ h=>wpAny_pyIter_enum st h
section
variable {X:Cx}{elts:List Expr}{x1:Nat}{tpos:Pos}
noncomputable def Zhr (K:W.Frag) (tl:TA):TI:=fun σ H R=>tl σ H fun vs H1=>∃a,vs=[.ref a]/\(∃xs,SqL K H1 a xs)/\R (Ite K a) H1
theorem ZaB:bootBuiltins "enumerate"=some (.type "enumerate"):=by decide +kernel
theorem ZgU {l:Expr}{tl:TA}{p pos:Pos} (hg:Gl X "enumerate") (hm:X.mg "enumerate"=none) (ha:PA X [l] tl) (hs:starEach [l] X.env=[(false,eval l X.env)]:=by rfl):PI X (.Tuple elts x1 tpos) (.Call (.Name "enumerate" p) [l] [] pos) (Zhr X.K tl):=by
 intro pins s σ H R I h
 refine Call_ (Qh I hg hm ZaB (PyProof.Rows.callWith_type1 (thn (ha pos pins s σ H _ I h) fun us s1 ⟨vs,H1,I1,r1,q1⟩=>?_) hs rfl))
 obtain⟨a,e,⟨xs,hq⟩,q⟩:=q1
 subst e
 cases r1 with
 |cons r rr =>
  cases rr
  cases r
  obtain⟨its,rv,pl,hz⟩:=I1.list hq
  refine call_enumerate_list pl.isList fun h' e1 i1 z1 k1=>?_
  refine wpAny_pyIter_enum e1 ?_
  have I2:Inv X pins σ H1 { s1 with heap:=h' }:=I1.kept (t':=s1.toks) k1
  refine⟨s1.heap.objs.size+1,[s1.heap.objs.size+1,s1.heap.objs.size],_,_,H1,rfl,I2,Zdf a _ _ (Nat.succ_ne_self _),⟨_,e1,i1⟩,fun b hb=>?_,q⟩
  have hb':s1.heap.objs.size<=b:=by
   rcases ZqE.mp hb with z|z
   ·rw[z];exact Zr9 _
   ·have z:b=s1.heap.objs.size:=by simpa using z
    rw[z];exact ZqG _
  exact I1.fpOk hb' (I1.hok.fresh hb')
theorem Zfk {K:W.Frag}{l:Expr}{tl:TA}{p pos:Pos} (hg:Gl X "enumerate") (hm:X.mg "enumerate"=none) (ha:PA X [l] tl) (hs:starEach [l] X.env=[(false,eval l X.env)]:=by rfl) (e:X.K=K:=by rfl):PI X (.Tuple elts x1 tpos) (.Call (.Name "enumerate" p) [l] [] pos) (Zhr K tl):=by subst e;exact ZgU hg hm ha hs
end
noncomputable def QA (xs:List PV):List PV:=xs.mapIdx fun i x=>.tup [.int (i:Nat),x]
section
variable {K:W.Frag}{H:Hp}{EX:PX->Hp->Prop}{Γ Γ':List Md}
theorem Zf6 {a:Addr}{xs:List PV}{S:Addr->Prop} (h:Rep K H S (.lst xs) (.ref a)):ItP K S (Ite K a) (QA xs) H:=by
 obtain⟨a',vs,e,hn,hr⟩:=h
 cases e
 intro i
 constructor
 ·intro x hx
  unfold QA at hx
  rw[Zrx] at hx
  cases hxi:xs[i]? with
  |none=>rw[hxi] at hx;cases hx
  |some y =>
   rw[hxi] at hx
   cases hx
   obtain⟨u,e1,e2⟩:=hr.get hxi
   refine⟨⟨vs,u,JG hn,e1⟩,fun v H' ⟨t,z,e3,e4,e5,e6⟩=>?_⟩
   have:=e6 vs (JG hn)
   rw[e1] at this;cases this
   subst e3 e5
   have sm:Zw H (upd H t (.tup [.int i,u])):=Zw.upd (Zw.refl H) e4
   exact⟨sm,t,_,rfl,⟨Zt,trivial⟩,⟨_,_,rfl,rfl,_,_,rfl,e2.same sm,rfl⟩⟩
 ·intro hx
  unfold QA at hx
  rw[Zrx] at hx
  have:xs[i]?=none:=by cases hxi:xs[i]? with
   |none=>rfl
   |some y=>rw[hxi] at hx;cases hx
  exact⟨vs,JG hn,by rw[hr.length];exact ZqT.mp this⟩
noncomputable def Zha (xs:List PV):Rr (List PV):=match xs with
 |[.lst ys]=>.ok (QA ys)
 |_=>.bad
theorem Zh2 {ta:TA}{fa:List PV->Rr (List PV)} (ha:DAZ K EX Γ Γ' ta fa):DI K EX Γ Γ' (Zhr K ta) (fun ρ=>(fa ρ).bind Zha):=fun B H0 H σ ρ F R Q A d=>by
 refine ha B H0 H σ ρ F R _ A (d.bind.imp (fun xs _ d vs H1 F1 s1 f1 p1 A1=>?_) fun e q=>q)
 unfold Zha at d
 split at d
 ·rename_i ys
  obtain⟨v,rfl,h1⟩:=UV p1
  obtain⟨a,us,rfl,hn,hr⟩:=id h1
  exact⟨a,rfl,⟨us,JG hn⟩,d _ H1 F1 s1 f1 A1 fun H2 F2 h=>Zf6 (h1.frm h A1)⟩
 ·exact d.elim
theorem Zft {ys:List PV}:Zha [.lst ys]=.ok (QA ys):=rfl
end
noncomputable def Zkg (xs:List Str) (y:Str):Str:=if xs.contains y then "" else y
noncomputable abbrev TB:=V->Hp->List V->Prop
section
end
theorem Zfv {xs:List PV}{y:PV} (h:xs.length<1000000):pApp (.lst xs) y=.ok (.lst (xs++[y])):=if_pos h
theorem ZkA {a b:PV}:asT 2 (.tup [a,b])=.ok [a,b]:=rfl
noncomputable def Zlm:Nat:=4000000
def Zj0 (i j:Int):Prop:=i.natAbs<2^Zlm/\j.natAbs<2^Zlm
noncomputable instance (i j:Int):Decidable (Zj0 i j):=by unfold Zj0;infer_instance
end L2
namespace Att
open PySem PySem.W PySem.Calls PyProof.Rows
end Att
namespace L2
open PySem PySem.Spec PyProof.Rows
section
end
theorem Zi3 {x y z:PV}{xs:List PV}:pIx (.tup (x::y::z::xs)) (.int 2)=.ok z:=by
 have:atI (x::y::z::xs) 2=some z:=by unfold atI;rw[Zca (by omega) (by simp only[ZqL];omega)];rfl
 simp only[pIx,this]
section
end
theorem Um {xs:List PV}:ZgZ [.lst xs]=.ok (.int xs.length):=by simp[ZgZ]
section
end
structure Dat (n:Nat) (x:PV):Prop where
 nx:x.noX=true
 can:x.dat.canLay0=true
 dep:x.dat.depth<=n
theorem Dat.ok {n:Nat}{x:PV} (h:Dat n x) (hn:n<=64:=by decide):okD x=true:=by
 unfold okD
 rw[h.nx,h.can,decide_eq_true (ZqV h.dep hn)];rfl
theorem ZhD (i:Int):Dat 0 (.int i):=⟨rfl,by simp[PV.dat,PyData.canLay0],by simp[PV.dat,PyData.depth]⟩
theorem Zcp {n:Nat}:∀{xs:List PV},(∀x∈xs,Dat n x)->PV.noXs xs=true/\PyData.canLayAll0 (PV.dats xs)=true/\PyData.depthAll (PV.dats xs)<=n
 |[],_=>⟨rfl,rfl,Zre _⟩
 |x::xs,h=>by
  obtain⟨h1,h2,h3⟩:=Zcp (xs:=xs) fun y hy=>h y (by simp[hy])
  have hx:=h x (by simp)
  refine⟨by simp[PV.noXs,hx.nx,h1],by simp[PV.dats,PyData.canLayAll0,hx.can,h2], ?_⟩
  simp only[PV.dats,PyData.depthAll]
  exact Nat.max_le.mpr ⟨hx.dep,h3⟩
theorem ZeB {n:Nat}{xs:List PV} (h:∀x∈xs,Dat n x):Dat (n+1) (.lst xs):=by
 obtain⟨h1,h2,h3⟩:=Zcp h
 exact⟨by simp[PV.noX,h1],by simp[PV.dat,PyData.canLay0,h2],by simp only[PV.dat,PyData.depth];omega⟩
theorem VC (ns:List Int):Dat 1 (.lst (ns.map PV.int)):=ZeB fun x hx=>by
 obtain⟨i,_,rfl⟩:=Zrt.mp hx
 exact ZhD i
theorem Zkd {α:Type}{f:PV->Rr PV}{q:α->PV}{g:α->Int}{L:List α} (h:∀x∈L,f (q x)=.ok (.int (g x))):ZaI f (L.map q)=.ok ((L.map g).map PV.int):=by
 induction L with
 |nil=>rfl
 |cons n ns ih =>
  simp only[ZqJ,ZaI,h n (by simp),Rr.bind_ok,ih fun z hz=>h z (by simp[hz])]
theorem ZiE {α:Type}{f:PV->Rr PV}{q g:α->PV}{L:List α} (h:∀x∈L,f (q x)=.ok (g x)):ZaI f (L.map q)=.ok (L.map g):=by
 induction L with
 |nil=>rfl
 |cons n ns ih =>
  simp only[ZqJ,ZaI,h n (by simp),Rr.bind_ok,ih fun z hz=>h z (by simp[hz])]
section
end
theorem us1 {α:Type}{us:List α} (h:us.length=1):∃a,us=[a]:=match us,h with | [a],_=>⟨a,rfl⟩
theorem us2 {α:Type}{us:List α} (h:us.length=2):∃a b,us=[a,b]:=match us,h with | [a,b],_=>⟨a,b,rfl⟩
theorem us3 {α:Type}{us:List α} (h:us.length=3):∃a b c,us=[a,b,c]:=match us,h with | [a,b,c],_=>⟨a,b,c,rfl⟩
section
end
noncomputable abbrev PL2:=Addr×List Int
section
end
noncomputable def Zlb (t:List Int):PV:=.lst (t.map PV.int)
section
end
noncomputable def minus (H:Hp) (G:List Addr):Hp:=fun a=>if a∈G then none else H a
theorem ZbV {H:Hp}{G:List Addr}{a:Addr} (h:a∈G):minus H G a=none:=if_pos h
theorem Z9 {H:Hp}{G:List Addr}{a:Addr} (h:a ∉ G):minus H G a=H a:=if_neg h
theorem ZcE {H:Hp}{G:List Addr}:Zw (minus H G) H:=fun a o h=>by
 unfold minus at h
 split at h
 ·cases h
 ·exact h
theorem Rd.minus {H:Hp}{G:List Addr}{a:Addr}{u:HO} (h:Rd H a u) (n:a ∉ G):Rd (minus H G) a u:=by
 rcases h with h|⟨o,h⟩
 ·exact .inl (by rw[Z9 n];exact h)
 ·exact .inr ⟨o,by rw[Z9 n];exact h⟩
theorem Im.minus {K:W.Frag}{H:Hp}{G:List Addr}{a:Addr}{k:HO} (hG:∀b∈G,∃vs:LvO,H b=some vs.1) (h:Im K H a k):Im K (minus H G) a k:=by
 refine⟨?_,h.2⟩
 rw[Z9 fun z=>?_]
 ·exact h.1
 ·obtain⟨vs,q⟩:=hG a z
  exact Uq vs.2 h.2 (by rw[h.1] at q;exact Option.some.inj q)
section
variable {K:W.Frag}{B:Addr->Prop}{H0 H H':Hp}{σ:St}{Γ:List Md}{ρ:List PV}{F:Nat->List Addr}
theorem Ag.lost {G:List Addr} (A:Ag K B H0 H σ Γ ρ F (G++[])) (s:Zw (minus H G) H'):Ag K B H0 H' σ Γ ρ F []:=by
 have hG:∀b∈G,∃vs:LvO,H b=some vs.1:=fun b hb=>A.liveR b (by simp[hb])
 refine⟨fun a o h=>s a o ?_,A.own,A.young,by simp,fun i a ha=>?_,by simp,A.disj,by simp,A.lenS,A.lenR,fun i=>?_⟩
 ·rw[Z9 (fun z=>by have:=A.youngR a (by simp[z]);rw[h] at this;cases this)]
  exact A.same a o h
 ·obtain⟨vs,q⟩:=A.live i a ha
  exact⟨vs,s _ _ (by rw[Z9 (fun z=>A.disjR i a ha (by simp[z]))];exact q)⟩
 ·refine(A.slot i).mono (fun a vs n r=>⟨(r.minus (fun z=>n.2.1 (by simp[z]))).same s,n.1,by simp,n.2.2⟩) (fun a vs r=>s.im (r.minus hG)) fun a ha vs q=>s _ _ (by rw[Z9 (fun z=>A.disjR i a ha (by simp[z]))];exact q)
end
noncomputable def pGo (f:PV->Rr PV):PV->List Int->Rr PV
 |x,[]=>f x
 |.lst xs,c::cs=>match ixN xs.length c with
  |some n=>(pGo f (xs.getD n .non) cs).bind fun z=>.ok (.lst (xs.set n z))
  |none=>.bad
 |.tup xs,c::cs=>match ixN xs.length c with
  |some n=>(pGo f (xs.getD n .non) cs).bind fun z=>.ok (.tup (xs.set n z))
  |none=>.bad
 |_,_::_=>.bad
noncomputable def AtP (K:W.Frag) (H:Hp):V->List Int->V->Prop
 |v,[],u=>u=v
 |v,c::cs,u=>∃a vs w,v=.ref a/\(SqL K H a vs\/SqT K H a vs)/\atI vs c=some w/\AtP K H w cs u
section
variable {K:W.Frag}{H:Hp}
theorem AtP.snoc {u:V}{c:Int}:∀{cs:List Int}{v:V},AtP K H v (cs++[c]) u->∃w,AtP K H v cs w/\AtP K H w [c] u
 |[],v,h=>⟨v,rfl,h⟩
 |_::cs,v,h=>by
  obtain⟨a,vs,w,rfl,h1,h2,h3⟩:=h
  obtain⟨z,h4,h5⟩:=AtP.snoc h3
  exact⟨z,⟨a,vs,w,rfl,h1,h2,h4⟩,h5⟩
theorem Trees.part:∀{xs:List PV}{vs:List V}{G:List Addr}{j:Nat}{y:PV},Trees K H xs vs G->xs[j]?=some y->∃v G2,vs[j]?=some v/\ZD K H y v G2/\(∀a∈G2,a∈G) /\
  ∀(p:Addr) (us:List V) (o:HO) (y':PV) (G3:List Addr),H p=some (.lst us)->p∈G2->(∀a∈G3,a∈G2)->ZD K (upd H p o) y' v G3->∃G',(∀a∈G',a∈G)/\Trees K (upd H p o) (xs.set j y') vs G'
 |[],_,_,_,_,_,e=>by simp at e
 |x::xs,_,_,0,y,h,e=>by
  obtain⟨w,r,G1,G2,rfl,h1,h2,h3,rfl⟩:=h
  simp at e;subst e
  refine⟨w,G1,rfl,h1,fun a ha=>by simp[ha],fun p us o y' G3 hp hpG hs ht=>⟨G3++G2,fun a ha=>?_,w,r,G3,G2,rfl,ht,Trees.put hp (h3 p hpG) h2,fun a ha=>h3 a (hs a ha),rfl⟩⟩
  rcases Zq9.mp ha with z|z
  ·simp[hs a z]
  ·simp[z]
 |x::xs,_,_,j+1,y,h,e=>by
  obtain⟨w,r,G1,G2,rfl,h1,h2,h3,rfl⟩:=h
  obtain⟨v,G4,e1,e2,e3,e4⟩:=Trees.part h2 (j:=j) (by simpa using e)
  refine⟨v,G4,by simpa using e1,e2,fun a ha=>by simp[e3 a ha],fun p us o y' G3 hp hpG hs ht=>?_⟩
  obtain⟨G',c2,c3⟩:=e4 p us o y' G3 hp hpG hs ht
  refine⟨G1++G',fun a ha=>?_,w,r,G1,G',rfl,ZD.put hp (fun z=>h3 p z (e3 p hpG)) h1,c3,fun a ha z=>h3 a ha (c2 a z),rfl⟩
  rcases Zq9.mp ha with z|z
  ·simp[z]
  ·simp[c2 a z]
theorem ZD.chgP {j:Int}:∀{cs:List Int}{x x':PV}{v:V}{G:List Addr},ZD K H x v G->pGo (fun z=>pApp z (.int j)) x cs=.ok x' ->
  ∃p us,AtP K H v cs (.ref p)/\H p=some (.lst us)/\us.length<sizeLine/\p∈G/\∃G',(∀a∈G',a∈G)/\ZD K (upd H p (.lst (us++[.int j]))) x' v G'
 |[],x,x',v,G,h,e=>by
  have d:Dn (pApp x (.int j)) (fun y=>y=x') (fun _=>False):=by
   have e:pApp x (.int j)=.ok x':=by cases x<;>exact e
   rw[e];exact rfl
  obtain⟨ys,rfl,hlen,rfl⟩:=Dn.pApp d
  obtain⟨p,us,G4,rfl,hH,hu,hn,rfl⟩:=h
  refine⟨p,us,rfl,hH,by rw[hu.length];exact ZqD hlen (by decide),by simp,p::G4,fun b hb=>hb,p,_,G4,rfl,Zt, ?_,hn,rfl⟩
  have:=Trees.append (Trees.put (o:=.lst (us++[.int j])) hH hn hu) (Trees.one (x:=.int j) (v:=.int j) (F:=[]) ⟨rfl,rfl⟩) (by simp)
  rw[ZqR] at this
  exact this
 |c::cs,.lst xs,x',v,G,h,e=>by
  simp only[pGo] at e
  cases en:ixN xs.length c with
  |none=>rw[en] at e;cases e
  |some n =>
   rw[en] at e
   dsimp only at e
   cases ez:pGo (fun z=>pApp z (.int j)) (xs.getD n .non) cs with
   |bad=>rw[ez] at e;cases e
   |exc q=>rw[ez] at e;cases e
   |ok z =>
    rw[ez] at e
    cases e
    have hnl:=(UG en).2.1
    have hx:xs[n]?=some (xs.getD n .non):=by rw[Zq5,Zq6 hnl];rfl
    obtain⟨a,vs,G1,rfl,ha,ht,hna,rfl⟩:=h
    obtain⟨w,G2,e1,e2,e3,e4⟩:=ht.part hx
    obtain⟨p,us,p1,p2,p3,p4,G3,p5,p6⟩:=ZD.chgP e2 ez
    obtain⟨G',c2,c3⟩:=e4 p us _ _ G3 p2 p4 p5 p6
    refine⟨p,us,⟨a,vs,w,rfl,.inl (SqL.of ha),by unfold atI;rw[ht.length,en];exact e1,p1⟩,p2,p3,by simp[e3 p p4],a::G',fun b hb=>?_,a,vs,G',rfl, ?_,c3,fun z=>hna (c2 a z),rfl⟩
    ·rcases ZqE.mp hb with rfl|hb
     ·simp
     ·simp[c2 b hb]
    ·rw[Zl (fun z=>hna (by rw[z];exact e3 p p4))];exact ha
 |c::cs,.tup xs,x',v,G,h,e=>by
  simp only[pGo] at e
  cases en:ixN xs.length c with
  |none=>rw[en] at e;cases e
  |some n =>
   rw[en] at e
   dsimp only at e
   cases ez:pGo (fun z=>pApp z (.int j)) (xs.getD n .non) cs with
   |bad=>rw[ez] at e;cases e
   |exc q=>rw[ez] at e;cases e
   |ok z =>
    rw[ez] at e
    cases e
    have hnl:=(UG en).2.1
    have hx:xs[n]?=some (xs.getD n .non):=by rw[Zq5,Zq6 hnl];rfl
    obtain⟨a,vs,rfl,ha,ht⟩:=h
    obtain⟨w,G2,e1,e2,e3,e4⟩:=ht.part hx
    obtain⟨p,us,p1,p2,p3,p4,G3,p5,p6⟩:=ZD.chgP e2 ez
    obtain⟨G',c2,c3⟩:=e4 p us _ _ G3 p2 p4 p5 p6
    exact⟨p,us,⟨a,vs,w,rfl,.inr ha.sqT,by unfold atI;rw[ht.length,en];exact e1,p1⟩,p2,p3,e3 p p4,G',c2,a,vs,rfl,SqT.put p2 ha,c3⟩
 |_::_,.non,_,_,_,_,e=>by cases e
 |_::_,.bl _,_,_,_,_,e=>by cases e
 |_::_,.int _,_,_,_,_,e=>by cases e
 |_::_,.str _,_,_,_,_,e=>by cases e
 |_::_,.exc _,_,_,_,_,e=>by cases e
 |_::_,.exa _ _,_,_,_,_,e=>by cases e
 |_::_,.box _ _ _,_,_,_,_,e=>by cases e
 |_::_,.fz _,_,_,_,_,e=>by cases e
theorem ZcC (x y:PV) (e:PX):pApp x y≠.exc e:=by
 unfold pApp
 intro h
 split at h
 ·split at h<;>cases h
 ·cases h
theorem U4 {f:PV->Rr PV} (hf:∀x e,f x≠.exc e):∀(cs:List Int) (x:PV) (e:PX),pGo f x cs≠.exc e
 |[],x,e=>by
  have:pGo f x []=f x:=by cases x<;>rfl
  rw[this];exact hf x e
 |c::cs,x,e=>by
  intro h
  cases x with
  |lst xs =>
   simp only[pGo] at h
   split at h
   ·rename_i n _
    cases ez:pGo f (xs.getD n .non) cs with
    |ok z=>rw[ez] at h;cases h
    |bad=>rw[ez] at h;cases h
    |exc q=>exact U4 hf cs _ _ ez
   ·cases h
  |tup xs =>
   simp only[pGo] at h
   split at h
   ·rename_i n _
    cases ez:pGo f (xs.getD n .non) cs with
    |ok z=>rw[ez] at h;cases h
    |bad=>rw[ez] at h;cases h
    |exc q=>exact U4 hf cs _ _ ez
   ·cases h
  |_=>cases h
def DPa (K:W.Frag) (Γ:List Md) (i:Nat) (tp:TE) (ix:List PV->Rr (List Int)):Prop:=(∀ρ e,ix ρ≠.exc e) /\
 ∀(B:Addr->Prop) (H0 H:Hp) (σ:St) (ρ:List PV) (F:Nat->List Addr) (R:List Addr) (cs:List Int) (v u:V) (Q:VK),Ag K B H0 H σ Γ ρ F R->ix ρ=.ok cs->σ[i]?=some (some v)->AtP K H v cs u->Q u H->tp σ H Q
variable {Γ Γ1 Γ2:List Md}{i:Nat}{tp:TE}{ix:List PV->Rr (List Int)}{EX:PX->Hp->Prop}{k:Kd}
theorem Zhz:DPa K Γ i (VS i) (fun _=>.ok []):=⟨fun ρ e h=>(by cases h),fun B H0 H σ ρ F R cs v u Q A e hv h q=>by
 cases e
 cases h
 exact⟨v,hv,q⟩⟩
theorem Zgl {w u:V}{c:Int}{Q:VK} (h:AtP K H w [c] u) (q:Q u H):rIx K w (.int c) H Q:=by
 obtain⟨a,vs,z,rfl,hs,ha,rfl⟩:=h
 rcases hs with hs|hs
 ·exact .inl ⟨a,vs,c,u,rfl,rfl,hs,ha,q⟩
 ·exact .inr (.inl ⟨a,vs,c,u,rfl,rfl,hs,ha,q⟩)
theorem Zh0 {c:Int} (h:DPa K Γ i tp ix):DPa K Γ i (tOp (rIx K) tp (tC (.int c))) (fun ρ=>(ix ρ).bind fun cs=>.ok (cs++[c])):=by
 refine⟨fun ρ e z=>?_,fun B H0 H σ ρ F R cs v u Q A e hv ha q=>?_⟩
 ·dsimp only at z
  cases ec:ix ρ with
  |bad=>rw[ec] at z;cases z
  |exc q=>exact h.1 ρ q ec
  |ok ds=>rw[ec] at z;cases z
 dsimp only at e
 cases ec:ix ρ with
 |bad=>rw[ec] at e;cases e
 |exc q=>rw[ec] at e;cases e
 |ok ds =>
  rw[ec] at e
  cases e
  obtain⟨w,h1,h2⟩:=ha.snoc
  exact h.2 B H0 H σ ρ F R ds v w _ A ec hv h1 (Zgl h2 q)
theorem ZcU {j:Int} (hm:Γ[i]?=some .O) (hp:DPa K Γ i tp ix):DS K EX Γ ⟨Γ,Γ1,Γ2,k⟩ (ZaM (tBM K "list" Uz tp (J1 (tC (.int j)) ZaL)))
  (fun ρ=>(ix ρ).thenS fun cs=>(pGo (fun z=>pApp z (.int j)) (gv i ρ) cs).thenS fun w=>.next (ρ.set i w)):=fun B H0 H σ ρ F D A d=>by
 have d1:=d.thenS
 cases ec:ix ρ with
 |bad=>rw[ec] at d1;exact d1.elim
 |exc q=>exact(hp.1 ρ q ec).elim
 |ok cs =>
  rw[ec] at d1
  have d2:=DnS.thenS d1
  obtain⟨v,h1,h2⟩:=A.getO hm
  cases ep:pGo (fun z=>pApp z (.int j)) (gv i ρ) cs with
  |bad=>rw[ep] at d2;exact d2.elim
  |exc q=>exact(U4 (fun x e=>ZcC _ _ e) _ _ _ ep).elim
  |ok w =>
   rw[ep] at d2
   obtain⟨p,us,p1,p2,p3,c1,G',c2,c3⟩:=ZD.chgP h2 ep
   refine hp.2 B H0 H σ ρ F [] cs v (.ref p) _ A ec h1 p1 ⟨.inl ⟨rfl,_,SqL.of p2⟩,p,us,.int j,rfl,rfl,p2,p3, ?_⟩
   exact d2 σ _ (Jy F i G') (Vo (Zw.refl _) (fun _ _ h=>h) c1 fun b hb=>.inr ⟨i,c2 b hb⟩) (Ag.chg (G:=[]) A hm c1 (fun b hb=>.inl (c2 b hb)) (by simp) ⟨_,h1,c3⟩)
end
noncomputable def frz (m:Md):Md:=if m=.O\/m=.T then .S else m
section
variable {K:W.Frag}{B:Addr->Prop}{H0 H:Hp}{σ:St}{Γ:List Md}{ρ:List PV}{F:Nat->List Addr}{R:List Addr}
theorem Ag.freezeAll (A:Ag K B H0 H σ Γ ρ F R):Ag K B H0 H σ (Γ.map frz) ρ (fun _=>[]) R:=by
 refine⟨A.same,A.own,by simp,A.youngR,by simp,A.liveR,by simp,by simp,by simp[A.lenS],by simp[A.lenR],fun i=>?_⟩
 have sl:=A.slot i
 have e:(Γ.map frz).getD i .U=frz (Γ.getD i .U):=by
  rw[Zq5,Zq5,ZqO]
  cases Γ[i]?<;>rfl
 rw[e]
 have up:∀{a},NO B F R a->NO B (fun _=>[]) R a:=fun {a} s=>⟨s.1,s.2.1,by simp⟩
 have ow:∀a∈F i,NO B (fun _=>[]) R a:=fun a ha=>⟨A.own a (A.young i a ha),A.disjR i a ha,by simp⟩
 cases hm:Γ.getD i .U with
 |U=>exact rfl
 |P=>rw[hm] at sl;exact⟨rfl,sl.2⟩
 |S =>
  rw[hm] at sl
  obtain⟨_,v,h1,h2⟩:=sl
  exact⟨rfl,v,h1,Rep.mono (fun a vs s r=>⟨r,up s⟩) (fun a vs r=>r) h2⟩
 |T =>
  rw[hm] at sl
  obtain⟨a,vs,xs,h1,h2,h3,h4,h5⟩:=sl
  refine⟨rfl,.ref a,h1, ?_⟩
  rw[h2]
  exact⟨a,vs,rfl,.inl ⟨.inl h3,ow a (by rw[h5];simp)⟩,Reps.mono (fun a vs s r=>⟨r,up s⟩) (fun a vs r=>r) h4⟩
 |O =>
  rw[hm] at sl
  obtain⟨v,h1,h2⟩:=sl
  exact⟨rfl,v,h1,h2.rep ow⟩
end
end L2
namespace HL
open PySem PyProof.Rows
section
open PySem.SeqAt
open PySem.AutoSeq1 (wpAny_loadPart')
open PySem.MeetsSeq PySem.MeetsSeq2 PySem.MeetsSeq3 SeqRoads2
end
section
end
end HL
namespace L2
open PySem PySem.Spec PyProof.Rows
section
variable {K:W.Frag}{B:Addr->Prop}{H0 H:Hp}{σ:St}{Γ:List Md}{ρ:List PV}{F:Nat->List Addr}{R:List Addr}
theorem Ag.setU {j:Nat}{o:Option V}{y:PV} (A:Ag K B H0 H σ Γ ρ F R) (h:Γ[j]?=some .U):Ag K B H0 H (σ.set j o) Γ (ρ.set j y) F R:=by
 refine⟨A.same,A.own,A.young,A.youngR,A.live,A.liveR,A.disj,A.disjR,by simp[A.lenS],by simp[A.lenR],fun i=>?_⟩
 have sl:=A.slot i
 by_cases e:i=j
 ·subst e
  have hU:Γ.getD i .U=.U:=by rw[Zq5,h];rfl
  rw[hU] at sl ⊢
  exact sl
 ·rw[ZqB (fun z=>e z.symm),Zq5 (l:=ρ.set j y),ZqB (fun z=>e z.symm),<- Zq5]
  exact sl
end
def G0 (K:W.Frag) (B:Addr->Prop) (H0 H:Hp) (σ:St) (Γb:List Md) (ρ:List PV) (L v:Nat) (a:Addr) (vs:List V) (xs:List PV) (G Gx:List Addr):Prop:=
 Ag K B H0 H σ Γb ρ (fun _=>[]) (a::(G++Gx))/\σ[L]?=some (some (.ref a))/\gv L ρ=.lst xs/\H a=some (.lst vs)/\Trees K H xs vs G/\a ∉ G/\∃w,σ[v]?=some (some w)/\vs[0]?=some w/\xs[0]?=some (gv v ρ)
section
end
structure CkC (N:List Str) (sc scope:Scope) (x:Str):Prop where
 one:((scope.names.filter fun p=>p.2==.cell).map fun p=>p.1)=[x]
 kind:scope.kind=.function
 locs:∀p∈scope.names,p.2=.local->scope.names.lookup p.1=some .local
 var:scope.names.lookup x=some .cell
 nd:(N.map (Zkg [x])++[x]).Nodup
 noN:∀y∈N,y ∉ [x]->scope.names.lookup y≠some .local/\scope.names.lookup y≠some .cell
 noE:scope.names.lookup (Str.ofString "")=none
 fr:∀p∈scope.names,p.2=.free->sc.names.lookup p.1=some .cell\/sc.names.lookup p.1=some .free
section
end
section
open Builtin Builtin.Str
end
section
variable {K:W.Frag}{B:Addr->Prop}{EX:PX->Hp->Prop}{H0 H:Hp}{σ:St}{Γ Γ':List Md}{ρ:List PV}{F:Nat->List Addr}{R:List Addr}
theorem Ze8 {ta:TA}{fa:List PV->Rr (List PV)} (ha:DAA K EX Γ Γ' ta fa):DE K EX Γ Γ' .A (Zih ta) (fun ρ=>(fa ρ).bind mkL):=fun B H0 H σ ρ F R Q A d=>by
 refine ha B H0 H σ ρ F R _ A (d.bind.imp (fun xs _ d vs H1 F1 s1 f1 p1 A1=>?_) fun e q=>q)
 obtain⟨hl,d⟩:=Dn.mkL d
 refine⟨by rw[p1.length];exact V4 hl,fun p hp=>?_⟩
 have e:=Zw.new (H:=H1) (o:=.lst vs) hp
 exact d _ _ (s1.trans e) ⟨F1,f1,⟨p,vs,rfl,.inl ⟨.inl Zt,trivial⟩,p1.same e⟩,A1.grow e⟩
end
section
variable {κ:Type} [DecidableEq κ]
noncomputable def Zdc (kvs:List (κ×V)) (k:κ):Option V:=(kvs.find? fun kv=>decide (kv.1=k)).map (·.2)
noncomputable def Zdb (kvs:List (κ×V)) (k:κ) (v:V):List (κ×V):=
 if (kvs.any fun kv=>decide (kv.1=k))=true then kvs.map (fun kv=>if kv.1=k then (kv.1,v) else kv) else kvs++[(k,v)]
theorem Ui {p:κ×V}{r:List (κ×V)}{k:κ} (e:p.1=k):Zdc (p::r) k=some p.2:=by simp[Zdc,Zrn,e]
theorem Uj {p:κ×V}{r:List (κ×V)}{k:κ} (e:¬p.1=k):Zdc (p::r) k=Zdc r k:=by simp[Zdc,Zrn,e]
theorem Zb2 (k:κ):∀kvs:List (κ×V),(kvs.any fun kv=>decide (kv.1=k))=(Zdc kvs k).isSome
 |[]=>rfl
 |p::r=>by
  rw[ZrA]
  by_cases e:p.1=k
  ·simp only[Ui e,decide_eq_true e,Bool.true_or,Option.isSome_some]
  ·rw[Uj e,decide_eq_false e,Bool.false_or];exact Zb2 k r
theorem UA (kvs:List (κ×V)) (k:κ) (v:V):(Zdb kvs k v).length<=kvs.length+1:=by
 unfold Zdb
 split
 ·rw[ZqC];omega
 ·rw[ZqP,ZqL,Zrc];omega
theorem QI.isSome_eq {o:Option V}{u:Option Value} (r:QI o u):o.isSome=u.isSome:=by
 cases o with
 |none=>cases u with
  |none=>rfl
  |some _=>exact(show False from r).elim
 |some _=>cases u with
  |none=>exact(show False from r).elim
  |some _=>rfl
theorem KV.val {kvs:List (κ×V)}{vs:List (κ×Value)} (r:KV kvs vs) (k:κ):QI (Zdc kvs k) (valueAt vs k):=by
 unfold KV at r
 induction r with
 |nil=>exact True.intro
 |@cons p q ps qs h t ih =>
  obtain⟨h1,h2⟩:=h
  by_cases e:p.1=k
  ·have e':q.1=k:=h1.symm.trans e
   have b:valueAt (q::qs) k=some q.2:=by simp[valueAt,Zrn,e']
   rw[Ui e,b];exact h2
  ·have e':¬q.1=k:=fun z=>e (h1.trans z)
   have b:valueAt (q::qs) k=valueAt qs k:=by simp[valueAt,Zrn,e']
   rw[Uj e,b];exact ih
theorem KV.any {kvs:List (κ×V)}{vs:List (κ×Value)} (r:KV kvs vs) (k:κ):(kvs.any fun kv=>decide (kv.1=k))=vs.any fun kv=>decide (kv.1=k):=by
 unfold KV at r
 induction r with
 |nil=>rfl
 |cons h t ih=>rw[ZrA,ZrA,ih,h.1]
theorem KV.repl {kvs:List (κ×V)}{vs:List (κ×Value)} (r:KV kvs vs) (k:κ) {y:V}{u:Value} (ry:ZY y u) :
  KV (kvs.map fun kv=>if kv.1=k then (kv.1,y) else kv) (vs.map fun kv=>if kv.1=k then (kv.1,u) else kv):=by
 unfold KV at r ⊢
 induction r with
 |nil=>exact .nil
 |@cons p q ps qs h t ih =>
  rw[ZqJ,ZqJ]
  refine .cons ?_ ih
  obtain⟨h1,h2⟩:=h
  by_cases e:p.1=k
  ·rw[if_pos e,if_pos (h1.symm.trans e)];exact⟨h1,ry⟩
  ·rw[if_neg e,if_neg (fun z=>e (h1.trans z))];exact⟨h1,h2⟩
theorem KV.put {kvs:List (κ×V)}{vs:List (κ×Value)} (r:KV kvs vs) (k:κ) {y:V}{u:Value} (ry:ZY y u):KV (Zdb kvs k y) (stored vs k u):=by
 unfold Zdb stored
 rw[r.any k]
 by_cases e:(vs.any fun kv=>decide (kv.1=k))=true
 ·rw[if_pos e,if_pos e];exact r.repl k ry
 ·rw[if_neg e,if_neg e];exact Paired.snoc r ⟨rfl,ry⟩
theorem KV.length {kvs:List (κ×V)}{vs:List (κ×Value)} (r:KV kvs vs):kvs.length=vs.length:=Paired.length r
end
theorem Zf5 {P:Program}{w:World}{k:Key}{u:Value} (r:ZY (kV k) u):(Jf P w).is k u=true:=by
 cases k with
 |inl i=>obtain⟨t,e⟩:=(show ∃t,u=Value.int i t from r);subst e;exact Zbb P w i t
 |inr x=>obtain⟨t,e⟩:=(show ∃t,u=Value.str x t from r);subst e;exact Zba P w x t
theorem Zao {P:Program}{w:World}:∀{ks:List Key}{us:List Value},ZP (ks.map kV) us->ItemsAre (Jf P w) ks us
 |[],_,r=>by rw[Zrl] at r;cases r;exact .nil
 |k::ks,_,r=>by
  rw[ZqJ] at r
  cases r with
  |cons h t=>exact .cons (Zf5 h) (Zao t)
noncomputable abbrev KT (H:Hp):List (List Key×V)->List (List Key×Addr×Value)->Prop:=Paired fun p q=>p.1=q.1/\H q.2.1=some (.tup (p.1.map kV))/\ZY p.2 q.2.2
theorem KT.val {H:Hp}{kvs:List (List Key×V)}{xs:List (List Key×Addr×Value)} (r:KT H kvs xs) (k:List Key):QI (Zdc kvs k) ((atKey xs k).map (·.2)):=by
 induction r with
 |nil=>exact True.intro
 |@cons p q ps qs h t ih =>
  obtain⟨h1,_,h2⟩:=h
  by_cases e:p.1=k
  ·have e':q.1=k:=h1.symm.trans e
   have b:atKey (q::qs) k=some q.2:=by simp[atKey,Zrn,e']
   rw[Ui e,b];exact h2
  ·have e':¬q.1=k:=fun z=>e (h1.trans z)
   have b:atKey (q::qs) k=atKey qs k:=by simp[atKey,Zrn,e']
   rw[Uj e,b];exact ih
theorem KT.repl {H:Hp}{kvs:List (List Key×V)}{xs:List (List Key×Addr×Value)} (r:KT H kvs xs) (k:List Key) {y:V}{u:Value} (ry:ZY y u) :
  KT H (kvs.map fun kv=>if kv.1=k then (kv.1,y) else kv) (xs.map (putAt k u)):=by
 induction r with
 |nil=>exact .nil
 |@cons p q ps qs h t ih =>
  rw[ZqJ,ZqJ]
  refine .cons ?_ ih
  obtain⟨h1,h2,h3⟩:=h
  unfold putAt
  by_cases e:p.1=k
  ·rw[if_pos e,if_pos (h1.symm.trans e)];exact⟨h1,h2,ry⟩
  ·rw[if_neg e,if_neg (fun z=>e (h1.trans z))];exact⟨h1,h2,h3⟩
theorem KT.put {H:Hp}{kvs:List (List Key×V)}{xs:List (List Key×Addr×Value)} (r:KT H kvs xs) (k:List Key) {b:Addr}{y:V}{u:Value} (hb:H b=some (.tup (k.map kV))) (ry:ZY y u) :
  KT H (Zdb kvs k y) (storedH xs k b u):=by
 have e:(kvs.any fun kv=>decide (kv.1=k))=(atKey xs k).isSome:=by
  rw[Zb2,(r.val k).isSome_eq,Option.isSome_map]
 unfold Zdb storedH
 rw[e]
 by_cases q:(atKey xs k).isSome=true
 ·rw[if_pos q,if_pos q];exact r.repl k ry
 ·rw[if_neg q,if_neg q];exact Paired.snoc r ⟨rfl,hb,ry⟩
theorem KT.keeps {H H':Hp}{kvs:List (List Key×V)}{xs:List (List Key×Addr×Value)} (r:KT H kvs xs) (ht:∀b ys,H b=some (.tup ys)->H' b=some (.tup ys)):KT H' kvs xs:=
 Paired.mapP r fun _ _ z=>⟨z.1,ht _ _ z.2.1,z.2.2⟩
section
variable {P:Program}{w:World}{H:Hp}{h:Heap}{a:Addr}
theorem Zit {u:HO} (ok:HOk P w H h) (e:Rd H a u):Jg P w H h a u:=e.ok ok
theorem ZfP {kvs:List (Key×V)} (ok:HOk P w H h) (e:Rd H a (.dK kvs)):kvs.length<=sizeLine/\(a==sysModules)=false/\∃vs,KV kvs vs/\h.DictOf (Jf P w) a vs:=
 show Jg P w H h a (.dK kvs) from Zit ok e
theorem Zkk {kvs:List (Key×V)} (ok:HOk P w H h) (e:H a=some (.dK kvs)):kvs.length<=sizeLine/\(a==sysModules)=false/\∃vs,KV kvs vs/\h.DictOf (Jf P w) a vs:=ZfP ok (.inl e)
theorem ZbY {ks:List Key} (ok:HOk P w H h) (e:H a=some (.tup (ks.map kV))):(tupleKind (Jf P w)).is h ks a:=by
 obtain⟨_,its,r,o,h1,h2,n,h3⟩:=(show Jg P w H h a (.tup (ks.map kV)) from ok a _ e)
 exact⟨o,its.toArray,n,h1,h2,h3,by simpa using Zao r⟩
theorem ZfJ {kvs:List (List Key×V)} (ok:HOk P w H h) (e:Rd H a (.dT kvs)):kvs.length<=sizeLine/\(a==sysModules)=false /\
  ∃xs,KT H kvs xs/\h.DictOfH (tupleKind (Jf P w)) a xs:=by
 obtain⟨z,y,xs,r,o,es,ep,h1,h2,h3,h4,h5⟩:=(show Jg P w H h a (.dT kvs) from Zit ok e)
 refine⟨z,y,xs,r,o,es,ep,h1,h2,h3,h4,fun x hx=>?_,h5⟩
 have all:∀{l:List (List Key×V)}{m:List (List Key×Addr×Value)},KT H l m->∀x∈m,(tupleKind (Jf P w)).is h x.1 x.2.1:=by
  intro l m q
  induction q with
  |nil=>intro x hx;exact nomatch hx
  |@cons p q ps qs hq t ih =>
   intro x hx
   rcases ZqE.mp hx with e|hx
   ·subst e
    exact ZbY ok (by rw[<- hq.1];exact hq.2.1)
   ·exact ih x hx
 exact all r x hx
theorem Zkj {kvs:List (List Key×V)} (ok:HOk P w H h) (e:H a=some (.dT kvs)):kvs.length<=sizeLine/\(a==sysModules)=false /\
  ∃xs,KT H kvs xs/\h.DictOfH (tupleKind (Jf P w)) a xs:=ZfJ ok (.inl e)
end
def Zia (H:Hp) (a:Addr) (y:V) (r:Option V):Prop:=
 (∃kvs k,Rd H a (.dK kvs)/\y=kV k/\r=Zdc kvs k)\/∃kvs k b,Rd H a (.dT kvs)/\y=.ref b/\H b=some (.tup (k.map kV))/\r=Zdc kvs k
def Zll (H:Hp) (a:Addr) (y v:V) (H':Hp):Prop:=
 (∃kvs k,H a=some (.dK kvs)/\y=kV k/\kvs.length<sizeLine/\H'=upd H a (.dK (Zdb kvs k v))) \/
 ∃kvs k b,H a=some (.dT kvs)/\y=.ref b/\H b=some (.tup (k.map kV))/\kvs.length<sizeLine/\H'=upd H a (.dT (Zdb kvs k v))
section
variable {X:Cx}{pins:List (Addr×Obj)}{σ:St}{H:Hp}{s:Shared}{a:Addr}{y v:V}{u r:Value}{o:Option V}{A:Around}{E:Value->Shared->Prop}
theorem Inv.big (I:Inv X pins σ H s):sysModules<s.heap.objs.size:=by
 have h:mainGlobals<s.heap.objs.size:=(I.mod.glob.keeps I.bk).lt
 exact Nat.lt_trans (by decide) h
theorem ZeE {Q:Value->Shared->Prop} (hu:A.units+1<cLine) (I:Inv X pins σ H s) (g:Zia H a y (some v)) (ry:ZY y u) (h:∀w' s',Inv X pins σ H s'->ZY v w'->Q w' s') :
  wpAny (model X.prog X.w) A (getItem (.ref a) u) Q E s:=by
 rcases g with ⟨kvs,k,e,ey,l⟩|⟨kvs,k,b,e,ey,eb,l⟩
 ·subst ey
  obtain⟨z,hd,vs,rel,dd⟩:=ZfP I.hok e
  obtain⟨w',hw,rw'⟩:=QI.some_of (v:=v) (o:=valueAt vs k) (by rw[l];exact rel.val k)
  exact wpAny_getItem_of (Zf5 ry) dd.mapOf hw (h w' _ (I.tok _) rw')
 ·subst ey
  cases (show u=Value.ref b from ry)
  obtain⟨z,hd,xs,rel,dd⟩:=ZfJ I.hok e
  obtain⟨w',hw,rw'⟩:=QI.some_of (v:=v) (o:=(atKey xs k).map (·.2)) (by rw[l];exact rel.val k)
  obtain⟨p,hp,hp2⟩:=Option.map_eq_some_iff.mp hw
  refine wpAny_getItem_heap (tupleKind_room_in1 hu) (ZbY I.hok eb) dd hp ?_
  rw[hp2]
  exact h w' _ (I.tok _) rw'
theorem Zlt {Q:Value->Shared->Prop} (hu:A.units+1<cLine) (I:Inv X pins σ H s) (g:Zia H a y o) (ry:ZY y u) (h:∀s',Inv X pins σ H s'->Q (.bool o.isSome) s') :
  wpAny (model X.prog X.w) A (compareOp .In u (.ref a)) Q E s:=by
 rcases g with ⟨kvs,k,e,ey,l⟩|⟨kvs,k,b,e,ey,eb,l⟩
 ·subst ey
  obtain⟨z,hd,vs,rel,dd⟩:=ZfP I.hok e
  refine wpAny_in_of (Zf5 ry) hd dd.mapOf ?_
  rw[<- (rel.val k).isSome_eq,<- l]
  exact h _ (I.tok _)
 ·subst ey
  cases (show u=Value.ref b from ry)
  obtain⟨z,hd,xs,rel,dd⟩:=ZfJ I.hok e
  refine wpAny_in_heap (tupleKind_room_in1 hu) (ZbY I.hok eb) hd dd ?_
  have q:=(rel.val k).isSome_eq
  rw[Option.isSome_map] at q
  rw[<- q,<- l]
  exact h _ (I.tok _)
theorem ZeC {h':Heap}{t':Nat}{ob:HO} (I:Inv X pins σ H s) (mu:Mut (H a)) (hs:Heap.SameBut a s.heap h') (he:∃q,h'.get? a=some q) (new:Jg X.prog X.w (upd H a ob) h' a ob) :
  Inv X pins σ (upd H a ob) { s with heap:=h',toks:=t' }:=
 I.write (x:=a) (e:=a) mu (.inl rfl) (fun b q hb z=>(hs.2 b hb).trans z) he new
theorem Zjc {P:Program}{w:World}{H':Hp}{h':Heap}{kvs:List (Key×V)}{vs:List (Key×Value)} (z:kvs.length<=sizeLine) (hd:(a==sysModules)=false) (rel:KV kvs vs) (dd:h'.DictOf (Jf P w) a vs) :
  Jg P w H' h' a (.dK kvs):=⟨z,hd,vs,rel,dd⟩
theorem ZeD {H':Hp}{Q:Unit->Shared->Prop} (hu:A.units+1<cLine) (I:Inv X pins σ H s) (g:Zll H a y v H') (ry:ZY y u) (rv:ZY v r) (h:∀s',Inv X pins σ H' s'->Q () s') :
  wpAny (model X.prog X.w) A (setItem (.ref a) u r) Q E s:=by
 rcases g with ⟨kvs,k,e,ey,l,eH⟩|⟨kvs,k,b,e,ey,eb,l,eH⟩
 ·subst ey eH
  obtain⟨z,hd,vs,rel,dd⟩:=Zkk I.hok e
  have hz:vs.length<=sizeLine:=by rw[<- rel.length];exact z
  have hl:(Zdb kvs k v).length<=sizeLine:=by have:=UA kvs k v;omega
  refine wpAny_setItem_pairs (hsz:=hz) (Zf5 ry) dd fun h' dd' hs=>h _ ?_
  have he:∃q,h'.get? a=some q:=let ⟨q,_,_,hq,_⟩:=dd';⟨q,hq⟩
  exact ZeC I (by rw[e];exact True.intro) hs he (Zjc hl hd (rel.put k rv) dd')
 ·subst ey eH
  cases (show u=Value.ref b from ry)
  obtain⟨z,hd,xs,rel,dd⟩:=Zkj I.hok e
  have hz:xs.length<=sizeLine:=by rw[<- Paired.length rel];exact z
  have hl:(Zdb kvs k v).length<=sizeLine:=by have:=UA kvs k v;omega
  refine wpAny_setItem_heap (hsz:=hz) (tupleKind_room_in1 hu) (ZbY I.hok eb) dd fun h' dd' hs=>h _ ?_
  obtain⟨q,es,ep,hq,h2,h3,h4,_,h5⟩:=dd'
  refine ZeC I (by rw[e];exact True.intro) hs ⟨q,hq⟩ ⟨hl,hd,_,(rel.put k eb rv).keeps fun c ys ec=>?_,q,es,ep,hq,h2,h3,h4,h5⟩
  rw[Zl (ZiC ec e (fun z=>nomatch z))]
  exact ec
end
def Zli (i:Expr):Prop:=∀ov iv,subscripted i false ov iv=operate [ov,iv] (getItem ov iv)
theorem ZgI {prog:Program}{w:World}{A:Around}{E:Value->Shared->Prop}{s:Shared}{env:Env}{value slice:Expr}{pos:Pos}{T id:String}{Q:Value->Shared->Prop}
  (hl:typeLookup (.type T) "__getitem__"=pure (some (.builtin id))) (hs:Zli slice)
  (h:wpAny (model prog w) A (eval value env) (fun o s₁=>wpAny (model prog w) A (eval slice env) (fun i s₂=>s₂.TypeIs o T/\wpAny (model prog w) A (getItem o i) Q E s₂) E s₁) E s) :
  wpAny (model prog w) A (eval (.Subscript value slice pos) env) Q E s:=by
 refine Subscript_ (wpAny_mono h (fun o s₁ h₁=>wpAny_mono h₁ (fun i s₂ h₂=>?_) fun _ _ x=>x) fun _ _ x=>x)
 obtain⟨hT,h₂⟩:=h₂
 unfold subscriptTail
 refine wpAny_bind ?_
 rw[getitemInPython_of_ne hT.not_modules]
 refine wpAny_bind (wpAny_specialOf hT hl ?_)
 have fin:wpAny (model prog w) A (subscripted slice false o i) (fun r s₃=>wpAny (model prog w) A (letTemporaryGo value o r >>= fun _=>pure r) Q E s₃) E s₂:=by
  rw[hs o i]
  exact wpAny_operating (wpAny_mono h₂ (fun r s₃ h₃=>wpAny_bind (wpAny_letTemporaryGo (wpAny_pure h₃))) fun _ _ x=>x)
 first
  |exact wpAny_pure (wpAny_bind fin)
  |exact wpAny_bind (wpAny_pure (wpAny_bind fin))
  |exact wpAny_bind fin
theorem Zbk {X:Cx}{pins:List (Addr×Obj)}{σ:St}{H:Hp}{s:Shared}{a:Addr}{y:V}{o:Option V} (I:Inv X pins σ H s) (g:Zia H a y o):s.TypeIs (.ref a) "dict":=by
 rcases g with ⟨kvs,k,e,_,_⟩|⟨kvs,k,b,e,_,_,_⟩
 ·obtain⟨_,_,vs,_,dd⟩:=ZfP I.hok e
  exact dd.typeIs
 ·obtain⟨_,_,xs,_,dd⟩:=ZfJ I.hok e
  exact dd.typeIs
noncomputable def Zik (td ty:TE):TE:=fun σ H Q=>td σ H fun x H1=>ty σ H1 fun y H2=>∃a v,x=.ref a/\Zia H2 a y (some v)/\Q v H2
noncomputable def ZkK (ty td:TE):TE:=fun σ H Q=>ty σ H fun y H1=>td σ H1 fun x H2=>∃a o,x=.ref a/\Zia H2 a y o/\Q (.bl o.isSome) H2
noncomputable def Zir (td ty tv:TE):TS:=fun D σ H=>tv σ H fun v H1=>td σ H1 fun x H2=>ty σ H2 fun y H3=>∃a H4,x=.ref a/\Zll H3 a y v H4/\D.nx σ H4
section
variable {X:Cx}{o i value:Expr}{pos pos':Pos}{td ty tv:TE}
theorem ZgV (hu:X.A.units+1<cLine) (ho:PE X o td) (hi:PE X i ty) (hs:Zli i):PE X (.Subscript o i pos) (Zik td ty):=by
 intro pins s σ H Q I h
 refine ZgI PySem.F.slot_dict_getitem.lookup hs (thn (ho pins s σ H _ I h) fun u s1 ⟨x,H1,I1,rx,q1⟩=>thn (hi pins s1 σ H1 _ I1 q1) fun iv s2 ⟨y,H2,I2,ry,a,v,ex,g,q2⟩=>?_)
 subst ex
 obtain rfl:u=Value.ref a:=rx
 exact⟨Zbk I2 g,ZeE hu I2 g ry fun w' s3 I3 rw'=>⟨v,H2,I3,rw',q2⟩⟩
theorem Zi2 (hu:X.A.units+1<cLine) (hi:PE X i ty) (ho:PE X o td):PC X .In i o (ZkK ty td):=by
 intro pins s σ H Q I h
 refine thn (hi pins s σ H _ I h) fun iv s1 ⟨y,H1,I1,ry,q1⟩=>thn (ho pins s1 σ H1 _ I1 q1) fun u s2 ⟨x,H2,I2,rx,a,ov,ex,g,q2⟩=>?_
 subst ex
 obtain rfl:u=Value.ref a:=rx
 exact Zlt hu I2 g ry fun s3 I3=>⟨.bl ov.isSome,H2,I3,rfl,q2⟩
theorem ZgP (hu:X.A.units+1<cLine) (ho:PE X o td) (hi:PE X i ty) (hv:PE X value tv) (hs:swapsWith value (some (.Subscript o i pos')) pos.line X.env=pure false) :
  PS X (.Assign [.Subscript o i pos'] value pos) (Zir td ty tv):=by
 intro pins s σ H D I h
 refine wpAny_Assign_Subscript (thn (hv pins s σ H _ I h) fun r s1 ⟨v,H1,I1,rv,q1⟩=>thn (ho pins s1 σ H1 _ I1 q1) fun u s2 ⟨x,H2,I2,rx,q2⟩=>thn (hi pins s2 σ H2 _ I2 q2) fun iv s3 ⟨y,H3,I3,ry,a,H4,ex,g,q3⟩=>?_) hs
 subst ex
 obtain rfl:u=Value.ref a:=rx
 exact ZeD hu I3 g ry rv fun s4 I4=>⟨σ,H4,I4,q3⟩
end
theorem ZfK {P:Program}{w:World}{H:Hp} (h:Heap) (hb:sysModules<h.objs.size):Jg P w H (h.push { cls:=.type "dict",data:=.dict #[] }) h.objs.size (.dT []):=
 ⟨Zre _,beq_eq_false_iff_ne.mpr (Ne.symm (ZqN hb)),[],.nil,_,#[],0,Heap.get?_push_size _ rfl,⟨rfl,rfl,rfl⟩,rfl,rfl,List.nodup_nil⟩
noncomputable def Zgh:TE:=fun _ H Q=>∀p,H p=none->Q (.ref p) (upd H p (.dT []))
section
variable {X:Cx}{pos:Pos}
theorem Zfm:PE X (.Dict [] [] pos) Zgh:=fun pins s σ H Q I h =>
 wpAny_Dict_empty ⟨.ref s.heap.objs.size,_,I.laid (a:=s.heap.objs.size) (o:=.dT []) (t':=s.toks) (fun _ _ q=>Heap.get?_push_of_some _ q) (ZqG _) (ZfK s.heap I.big),rfl,h _ (I.hok.fresh (ZqG _))⟩
end
noncomputable def Zhn:Key->PV
 |.inl i=>.int i
 |.inr x=>.str x
noncomputable def ZcK:PV->Option Key
 |.int i=>some (.inl i)
 |.str x=>some (.inr x)
 |_=>none
noncomputable def VV:List PV->Option (List Key)
 |[]=>some []
 |x::xs=>match ZcK x,VV xs with
  |some k,some ks=>some (k::ks)
  |_,_=>none
theorem Q4 {x:PV}{k:Key} (h:ZcK x=some k):x=Zhn k:=by
 cases x<;>first|(cases h;rfl)|cases h
theorem UF:∀{xs:List PV}{ks:List Key},VV xs=some ks->xs=ks.map Zhn
 |[],ks,h=>by cases h;rfl
 |x::xs,ks,h=>by
  unfold VV at h
  split at h
  ·rename_i k ks' h1 h2
   cases h
   rw[Q4 h1,UF h2];rfl
  ·cases h
@[simp] theorem ZhW (k:Key):ZcK (Zhn k)=some k:=by cases k<;>rfl
@[simp] theorem VO:∀ks:List Key,VV (ks.map Zhn)=some ks
 |[]=>rfl
 |k::ks=>by simp[VV,VO ks]
section
variable {K:W.Frag}{H:Hp}{S:Addr->Prop}
theorem ZaP {k:Key}{v:V} (h:Rep K H S (Zhn k) v):v=kV k:=by cases k<;>exact h
theorem Ux:∀{ks:List Key}{vs:List V},Reps K H S (ks.map Zhn) vs->vs=ks.map kV
 |[],_,h=>h
 |k::ks,_,h=>by
  obtain⟨v,r,rfl,h1,h2⟩:=h
  rw[ZaP h1,Ux h2];rfl
end
section
variable {κ:Type} [DecidableEq κ] {α:Type}
noncomputable def atK:List κ->List α->κ->Option α
 |k'::ks,x::xs,k=>if k'=k then some x else atK ks xs k
 |_,_,_=>none
noncomputable def Zc0:List κ->List α->κ->α->List α
 |k'::ks,x::xs,k,y=>(if k'=k then y else x)::Zc0 ks xs k y
 |_,_,_,_=>[]
noncomputable def Zkc (k:κ) (ks:List κ):Bool:=decide (k∈ks)
theorem ZdY {k:κ}{ks:List κ} (h:Zkc k ks=false):k ∉ ks:=of_decide_eq_false h
noncomputable def VJ (ks:List κ) (k:κ):List κ:=if k∈ks then ks else ks++[k]
noncomputable def putXs (ks:List κ) (xs:List α) (k:κ) (y:α):List α:=if k∈ks then Zc0 ks xs k y else xs++[y]
theorem Qv:∀{ks:List κ}{xs:List α}{k:κ}{y:α},ks.length=xs.length->(Zc0 ks xs k y).length=ks.length
 |[],[],_,_,_=>rfl
 |k'::ks,x::xs,k,y,h=>by simp[Zc0,Qv (ks:=ks) (xs:=xs) (k:=k) (y:=y) (by simpa using h)]
 |[],_::_,_,_,h=>by simp at h
 |_::_,[],_,_,h=>by simp at h
theorem Qx {ks:List κ}{xs:List α}{k:κ}{y:α} (h:ks.length=xs.length):(VJ ks k).length=(putXs ks xs k y).length:=by
 unfold VJ putXs
 split
 ·rw[Qv h]
 ·simp[h]
theorem Qq:∀{ks:List κ}{vs:List V}{k:κ},ks.length=vs.length->Zdc (ks.zip vs) k=atK ks vs k
 |[],[],_,_=>rfl
 |k'::ks,v::vs,k,h=>by
  rw[Zrd]
  unfold atK
  by_cases e:k'=k
  ·rw[Ui e,if_pos e]
  ·rw[Uj e,if_neg e,Qq (by simpa using h)]
 |[],_::_,_,h=>by simp at h
 |_::_,[],_,h=>by simp at h
theorem Zbt:∀{ks:List κ}{vs:List V}{k:κ},ks.length=vs.length->(((ks.zip vs).any fun kv=>decide (kv.1=k))=true ↔ k∈ks)
 |[],[],_,_=>by simp
 |k'::ks,v::vs,k,h=>by
  rw[Zrd,ZrA,Bool.or_eq_true,Zbt (by simpa using h),ZqE,decide_eq_true_eq]
  exact⟨fun z=>z.imp Eq.symm id,fun z=>z.imp Eq.symm id⟩
 |[],_::_,_,h=>by simp at h
 |_::_,[],_,h=>by simp at h
theorem Zdq:∀{ks:List κ}{vs:List V}{k:κ}{y:V},ks.length=vs.length->((ks.zip vs).map fun kv=>if kv.1=k then (kv.1,y) else kv)=ks.zip (Zc0 ks vs k y)
 |[],[],_,_,_=>rfl
 |k'::ks,v::vs,k,y,h=>by
  rw[Zrd,ZqJ,Zdq (by simpa using h)]
  show _=(k'::ks).zip ((if k'=k then y else v)::Zc0 ks vs k y)
  by_cases e:k'=k
  ·rw[if_pos e,if_pos e];rfl
  ·rw[if_neg e,if_neg e];rfl
 |[],_::_,_,_,h=>by simp at h
 |_::_,[],_,_,h=>by simp at h
theorem ZbC {ks:List κ}{vs:List V}{k:κ}{y:V} (h:ks.length=vs.length):Zdb (ks.zip vs) k y=(VJ ks k).zip (putXs ks vs k y):=by
 unfold Zdb VJ putXs
 by_cases c:k∈ks
 ·rw[if_pos ((Zbt h).mpr c),if_pos c,if_pos c,Zdq h]
 ·rw[if_neg (fun z=>c ((Zbt h).mp z)),if_neg c,if_neg c,List.zip_append h];rfl
end
section
variable {κ:Type} [DecidableEq κ] {K:W.Frag}{H:Hp}{S:Addr->Prop}
theorem ZbA:∀{ks:List κ}{xs:List PV}{vs:List V}{k:κ},Reps K H S xs vs->match atK ks xs k with
  |some y=>∃v,atK ks vs k=some v/\Rep K H S y v
  |none=>atK ks vs k=none
 |[],xs,vs,k,h=>by simp[atK]
 |k'::ks,[],vs,k,h=>by rw[h];simp[atK]
 |k'::ks,x::xs,vs,k,h=>by
  obtain⟨v,r,rfl,h1,h2⟩:=h
  unfold atK
  by_cases e:k'=k
  ·rw[if_pos e,if_pos e];exact⟨v,rfl,h1⟩
  ·rw[if_neg e,if_neg e];exact ZbA h2
theorem Qb:∀{ks:List κ}{xs:List PV}{vs:List V}{G:List Addr}{k:κ}{y:PV}{w:V},ks.length=xs.length->Trees K H xs vs G->ZD K H y w []->∃G',(∀a∈G',a∈G)/\Trees K H (Zc0 ks xs k y) (Zc0 ks vs k w) G'
 |[],[],vs,G,k,y,w,_,h,_=>⟨[],by simp,by rw[h.1];exact⟨rfl,rfl⟩⟩
 |k'::ks,x::xs,vs,G,k,y,w,hl,h,hy=>by
  obtain⟨v,r,G1,G2,rfl,h1,h2,h3,rfl⟩:=h
  obtain⟨G',g1,g2⟩:=Qb (ks:=ks) (k:=k) (y:=y) (w:=w) (by simpa using hl) h2 hy
  unfold Zc0
  by_cases e:k'=k
  ·rw[if_pos e,if_pos e]
   exact⟨G',fun a ha=>Zq7 _ (g1 a ha),w,_,[],G',rfl,hy,g2,by simp,rfl⟩
  ·rw[if_neg e,if_neg e]
   refine⟨G1++G',fun a ha=>?_,v,_,G1,G',rfl,h1,g2,fun a ha z=>h3 a ha (g1 a z),rfl⟩
   rcases Zq9.mp ha with z|z
   ·exact Zq8 _ z
   ·exact Zq7 _ (g1 a z)
 |[],_::_,_,_,_,_,_,hl,_,_=>by simp at hl
 |_::_,[],_,_,_,_,_,hl,_,_=>by simp at hl
theorem ZD.flatG {x:PV}{v:V}{G:List Addr} (f:x.flat=true) (h:ZD K H x v G):ZD K H x v []:=Rep.tree f (h.rep (S:=fun _=>True) fun _ _=>trivial)
end
section
variable {K:W.Frag}{B:Addr->Prop}{EX:PX->Hp->Prop}{H0 H H':Hp}{σ:St}{Γ Γ' Γ1 Γ2 Γ3:List Md}{ρ:List PV}{F F':Nat->List Addr}{R:List Addr}{ta tb:TE}{f fa fb:List PV->Rr PV}{k:Kd}
theorem Res.newBox {H1:Hp}{F1:Nat->List Addr}{s:Sh}{xs:List PV}{vs:List V}{u:HO}{p:Addr}{S:Addr->Prop} (s1:Zw H H1) (f1:∀i,∀a∈F1 i,a∈F i) (hb:Zic K s vs u) (p1:Reps K H1 S xs vs) (hx:PV.flats xs=true) (A1:Ag K B H0 H1 σ Γ' ρ F1 R) (hp:H1 p=none) :
  Res K B H0 H σ Γ' ρ F R .F (.box none s xs) (.ref p) (upd H1 p u):=by
 have e:Zw H1 (upd H1 p u):=Zw.new hp
 refine⟨F1,f1,[p],⟨p,vs,u,[],rfl,Zt,⟨trivial,hb⟩,(Reps.trees hx p1).same e,by simp,rfl⟩,fun a ha=>?_,A1.newB hb.lv hp⟩
 rw[Zrj.mp ha]
 exact⟨(A1.fresh hp).1,.inl (s1.free hp)⟩
theorem ZfU:DE K EX Γ Γ .F Zgh (fun _=>.ok (.box none (.dt []) [])):=fun B H0 H σ ρ F R Q A d p hp =>
 d _ _ (Zw.new hp) (Res.newBox (S:=fun _=>True) (vs:=[]) (Zw.refl _) (fun _ _ h=>h) ⟨rfl,rfl⟩ rfl rfl A hp)
noncomputable def dAt (x y:PV):Option (Option PV):=match x,y with
 |.box _ (.dk ks) xs,y=>(ZcK y).map fun k=>atK ks xs k
 |.box _ (.dt ks) xs,.tup ys=>(VV ys).map fun k=>atK ks xs k
 |_,_=>none
noncomputable def ZjB (g:Bool->Bool) (y x:PV):Rr PV:=match dAt x y with
 |some o=>.ok (.bl (g o.isSome))
 |none=>.bad
noncomputable def Zfu (x y:PV):Rr PV:=match dAt x y with
 |some (some z)=>.ok z
 |_=>.bad
theorem ZeF {x y:PV}{v w:V}{o:Option PV}{S:Addr->Prop} (hx:Rep K H S x v) (hy:Rep K H (fun _=>True) y w) (e:dAt x y=some o) :
  ∃a r,v=.ref a/\Zia H a w r/\r.isSome=o.isSome/\∀z,o=some z->∃u,r=some u/\Rep K H S z u:=by
 have fin:∀{κ:Type} [DecidableEq κ] {ks:List κ}{xs:List PV}{vs:List V}{k:κ},Reps K H S xs vs->o=atK ks xs k->(atK ks vs k).isSome=o.isSome/\∀z,o=some z->∃u,atK ks vs k=some u/\Rep K H S z u:=fun {κ} _ {ks xs vs k} h e=>by
  have:=ZbA (ks:=ks) (k:=k) h
  rw[<- e] at this
  cases o with
  |none=>exact⟨by rw[this];rfl,fun z q=>by cases q⟩
  |some z =>
   obtain⟨u,e1,e2⟩:=this
   exact⟨by rw[e1];rfl,fun z' q=>by cases q;exact⟨u,e1,e2⟩⟩
 unfold dAt at e
 split at e
 ·rename_i p ks xs
  obtain⟨a,vs,u,rfl,hr,⟨_,hl,rfl⟩,hxs⟩:=hx
  cases ek:ZcK y with
  |none=>rw[ek] at e;cases e
  |some k =>
   rw[ek] at e
   cases e
   rw[Q4 ek] at hy
   obtain⟨g1,g2⟩:=fin (ks:=ks) (k:=k) hxs rfl
   exact⟨a,atK ks vs k,rfl,.inl ⟨_,k,hr.1,ZaP hy,(Qq hl).symm⟩,g1,g2⟩
 ·rename_i p ks xs ys
  obtain⟨a,vs,u,rfl,hr,⟨_,hl,rfl⟩,hxs⟩:=hx
  cases ek:VV ys with
  |none=>rw[ek] at e;cases e
  |some k =>
   rw[ek] at e
   cases e
   rw[UF ek] at hy
   obtain⟨b,ws,rfl,hb,hws⟩:=hy
   rw[Ux hws] at hb
   obtain⟨g1,g2⟩:=fin (ks:=ks) (k:=k) hxs rfl
   exact⟨a,atK ks vs k,rfl,.inr ⟨_,k,b,hr.1,rfl,hb.1,(Qq hl).symm⟩,g1,g2⟩
 ·cases e
theorem Zjh (ha:DE K EX Γ Γ1 .A ta fa) (hb:DE K EX Γ1 Γ2 .A tb fb):DE K EX Γ Γ2 .P (ZkK ta tb) (fun ρ=>(fa ρ).bind fun y=>(fb ρ).bind fun x=>ZjB id y x):=fun B H0 H σ ρ F R Q A d=>by
 refine two ha hb A d.bind2 fun y x w v H' F' d s f py px A'=>?_
 unfold ZjB at d
 cases e:dAt x y with
 |none=>rw[e] at d;exact d.elim
 |some o =>
  rw[e] at d
  obtain⟨a,r,rfl,g1,g2,_⟩:=ZeF px py e
  exact⟨a,r,rfl,g1,by rw[g2];exact d _ _ s ⟨F',f,rfl,rfl,A'⟩⟩
theorem ZhA (ha:DE K EX Γ Γ1 .A ta fa) (hb:DE K EX Γ1 Γ2 .A tb fb):DE K EX Γ Γ2 .A (Zik ta tb) (fun ρ=>(fa ρ).bind fun x=>(fb ρ).bind fun y=>Zfu x y):=fun B H0 H σ ρ F R Q A d=>by
 refine two ha hb A d.bind2 fun x y v w H' F' d s f px py A'=>?_
 unfold Zfu at d
 cases e:dAt x y with
 |none=>rw[e] at d;exact d.elim
 |some o =>
  rw[e] at d
  cases o with
  |none=>exact d.elim
  |some z =>
   obtain⟨a,r,rfl,g1,_,g3⟩:=ZeF px py e
   obtain⟨u,rfl,hu⟩:=g3 z rfl
   exact⟨a,u,rfl,g1,d _ _ s ⟨F',f,hu,A'⟩⟩
noncomputable def ZdJ (x y z:PV):Rr PV:=match x,y with
 |.box p (.dk ks) xs,y=>match ZcK y with
  |some k=>if xs.length<1000000/\(Zkc k ks=false\/z.flat=true) then .ok (.box p (.dk (VJ ks k)) (putXs ks xs k z)) else .bad
  |none=>.bad
 |.box p (.dt ks) xs,.tup ys=>match VV ys with
  |some k=>if xs.length<1000000/\(Zkc k ks=false\/z.flat=true) then .ok (.box p (.dt (VJ ks k)) (putXs ks xs k z)) else .bad
  |none=>.bad
 |_,_=>.bad
theorem QP {κ:Type} [DecidableEq κ] {ks:List κ}{xs:List PV}{vs:List V}{k:κ}{y:PV}{w:V}{G G2:List Addr} (hl:ks.length=xs.length) (h:Trees K H xs vs G) (hy:ZD K H y w G2) (hd:∀a∈G,a ∉ G2) (hk:k∈ks->y.flat=true) :
  ∃G',(∀a∈G',a∈G\/a∈G2)/\Trees K H (putXs ks xs k y) (putXs ks vs k w) G':=by
 unfold putXs
 by_cases c:k∈ks
 ·rw[if_pos c,if_pos c]
  obtain⟨G',g1,g2⟩:=Qb (k:=k) hl h (hy.flatG (hk c))
  exact⟨G',fun a ha=>.inl (g1 a ha),g2⟩
 ·rw[if_neg c,if_neg c]
  exact⟨G++G2,fun a ha=>Zq9.mp ha,Trees.append h (Trees.one hy) hd⟩
theorem ZfM {i:Nat}{tv:TE}{fv:List PV->Rr PV} (hm:Γ1[i]?=some .O) (hv:DE K EX Γ Γ1 .F tv fv) (hk:DE K EX Γ1 Γ1 .A tb fb) :
  DS K EX Γ ⟨Γ1,Γ2,Γ3,k⟩ (Zir (VS i) tb tv) (fun ρ=>(fv ρ).thenS fun z=>(fb ρ).thenS fun y=>(ZdJ (gv i ρ) y z).thenS fun x=>.next (ρ.set i x)):=fun B H0 H σ ρ F D A d=>by
 refine hv B H0 H σ ρ F [] _ A (d.thenS.imp (fun z _ d w H1 s1 r1=>?_) fun e q=>q)
 obtain⟨F1,f1,G2,t1,o1,A1⟩:=r1
 obtain⟨v,h1,h2⟩:=A1.getO hm
 refine⟨v,h1,hk B H0 H1 σ ρ F1 (G2++[]) _ A1 (d.thenS.imp (fun y _ d yv H2 s2 r2=>?_) fun e q=>q)⟩
 obtain⟨F2,f2,p2,A2⟩:=r2
 obtain⟨v',h1',h2'⟩:=A2.getO hm
 rw[h1] at h1';cases h1'
 have d:=d.thenS
 have t2:=t1.same s2
 have core:∀{p:Option Addr}{s s':Sh}{xs xs':List PV}{a:Addr}{vs vs':List V}{u u':HO}{G G':List Addr},ρ.getD i .non=.box p s xs->H2 a=some u->ZjI p a->Trees K H2 xs vs G->a ∉ G->F2 i=a::G->Zic K s' vs' u'->Trees K H2 xs' vs' G'->(∀b∈G',b∈G\/b∈G2) ->
   σ[i]?=some (some (.ref a))->DnS K B EX ⟨Γ1,Γ2,Γ3,k⟩ H0 H F D (.next (ρ.set i (.box p s' xs')))->D.nx σ (upd H2 a u'):=fun {p s s' xs xs' a vs vs' u u' G G'} er hH hpn ht hn hF hb ht' hsub hσ d=>by
  have haF:a∈F2 i:=by rw[hF];simp
  have na2:a ∉ G2:=fun z=>A2.disjR i a haF (Zq8 _ z)
  have hna:a ∉ G':=fun z=>(hsub a z).elim hn na2
  have hsub2:∀b∈a::G',b∈F2 i\/b∈G2:=fun b hb=>by
   rcases ZqE.mp hb with rfl|hb
   ·exact .inl haF
   ·rcases hsub b hb with z|z
    ·exact .inl (by rw[hF];simp[z])
    ·exact .inr z
  obtain⟨lv,hlv⟩:=A2.live i a haF
  refine d σ _ (Jy F2 i (a::G')) (Vo (s1.trans s2) (fun j b hb=>f1 j b (f2 j b hb)) haF fun b hb=>?_) (Ag.chgB hb.lv (G:=G2) (R:=[]) A2 hm haF hsub2 (by simp) ?_)
  ·rcases hsub2 b hb with z|z
   ·exact .inr ⟨i,f1 i b (f2 i b z)⟩
   ·exact(o1 b z).2
  ·exact⟨_,hσ,a,vs',u',G',rfl,Zt,⟨hpn,hb⟩,Trees.putL hlv hna ht',hna,rfl⟩
 unfold ZdJ at d
 split at d
 ·rename_i p ks xs er _ _
  rw[show ρ.getD i .non=.box p (.dk ks) xs from er] at h2'
  obtain⟨a,vs,u,G,rfl,hH,⟨hpn,hl,rfl⟩,ht,hn,hF⟩:=h2'
  split at d
  ·rename_i kk ek
   split at d
   ·rename_i hc
    rw[Q4 ek] at p2
    have hl':ks.length=xs.length:=by rw[hl,ht.length]
    have dj:∀b∈G,b ∉ G2:=fun b hb z=>A2.disjR i b (by rw[hF];simp[hb]) (Zq8 _ z)
    obtain⟨G',g1,g2⟩:=QP (k:=kk) hl' ht t2 dj (fun c=>hc.2.resolve_left (fun z=>ZdY z c))
    refine⟨a,_,rfl,.inl ⟨_,kk,hH,ZaP p2, ?_,rfl⟩,core er hH hpn ht hn hF (s':=.dk (VJ ks kk)) (vs':=putXs ks vs kk w) ⟨Qx hl, ?_⟩ g2 g1 h1 d⟩
    ·rw[ZrF,hl,Nat.min_self,ht.length];exact ZqD hc.1 (by decide)
    ·rw[ZbC hl]
   ·exact d.elim
  ·exact d.elim
 ·rename_i p ks xs ys er _ _
  rw[show ρ.getD i .non=.box p (.dt ks) xs from er] at h2'
  obtain⟨a,vs,u,G,rfl,hH,⟨hpn,hl,rfl⟩,ht,hn,hF⟩:=h2'
  split at d
  ·rename_i kk ek
   split at d
   ·rename_i hc
    rw[UF ek] at p2
    obtain⟨b,ws,rfl,hb,hws⟩:=p2
    rw[Ux hws] at hb
    have hl':ks.length=xs.length:=by rw[hl,ht.length]
    have dj:∀b∈G,b ∉ G2:=fun b hb z=>A2.disjR i b (by rw[hF];simp[hb]) (Zq8 _ z)
    obtain⟨G',g1,g2⟩:=QP (k:=kk) hl' ht t2 dj (fun c=>hc.2.resolve_left (fun z=>ZdY z c))
    refine⟨a,_,rfl,.inr ⟨_,kk,b,hH,rfl,hb.1, ?_,rfl⟩,core er hH hpn ht hn hF (s':=.dt (VJ ks kk)) (vs':=putXs ks vs kk w) ⟨Qx hl, ?_⟩ g2 g1 h1 d⟩
    ·rw[ZrF,hl,Nat.min_self,ht.length];exact ZqD hc.1 (by decide)
    ·rw[ZbC hl]
   ·exact d.elim
  ·exact d.elim
 ·exact d.elim
end
section
variable {X:Cx}{K:W.Frag}
def Zgk (K:W.Frag):List V->Hp->VK->Prop:=fun xs H Q=>∃p ys,xs=[.ref p]/\((SqL K H p ys/\∀l,H l=none->Q (.ref l) (upd H l (.tup ys)))\/(SqT K H p ys/\Q (.ref p) H))
theorem Zbp (e:X.K=K:=by rfl):JS X (.type "tuple") (Zgk K):=by subst e;exact QF
theorem ZeJ:bootBuiltins "tuple"=some (.type "tuple"):=by decide +kernel
variable {B:Addr->Prop}{EX:PX->Hp->Prop}{H0 H:Hp}{σ:St}{Γ Γ':List Md}{ρ:List PV}{F:Nat->List Addr}{R:List Addr}{ta:TA}{fa:List PV->Rr (List PV)}
noncomputable def Zd9 (xs:List PV):Rr PV:=match xs with
 |[.lst ys]=>.ok (.tup ys)
 |[.tup ys]=>.ok (.tup ys)
 |_=>.bad
theorem ZfR (ha:DAA K EX Γ Γ' ta fa):DE K EX Γ Γ' .A (tCB (Zgk K) ta) (fun ρ=>(fa ρ).bind Zd9):=fun B H0 H σ ρ F R Q A d=>by
 refine ha B H0 H σ ρ F R _ A (d.bind.imp (fun xs _ d vs H1 F1 s1 f1 p1 A1=>?_) fun e q=>q)
 unfold Zd9 at d
 split at d
 ·obtain⟨v,rfl,a,ws,rfl,hn,hr⟩:=UV p1
  refine⟨a,ws,rfl,.inl ⟨JG (S:=fun _=>True) hn,fun l hl=>?_⟩⟩
  have e:=Zw.new (H:=H1) (o:=.tup ws) hl
  exact d _ _ (s1.trans e) ⟨F1,f1,⟨l,ws,rfl,⟨Zt,trivial⟩,hr.same e⟩,A1.grow e⟩
 ·obtain⟨v,rfl,a,ws,rfl,hn,hr⟩:=UV p1
  exact⟨a,ws,rfl,.inr ⟨hn.sqT,d _ _ s1 ⟨F1,f1,⟨a,ws,rfl,hn,hr⟩,A1⟩⟩⟩
 ·exact d.elim
end
noncomputable def ins {α:Type}:Nat->α->List α->List α
 |0,v,us=>v::us
 |_+1,v,[]=>[v]
 |j+1,v,u::us=>u::ins j v us
theorem JL {α:Type}:∀{j:Nat}{v:α}{us:List α},(ins j v us).length=us.length+1
 |0,_,_=>rfl
 |_+1,_,[]=>rfl
 |j+1,v,u::us=>by simp[ins,JL (j:=j) (v:=v) (us:=us)]
theorem V5 {α:Type}:∀{j:Nat}{v:α}{us:List α} (i:Nat),j<=us.length->(ins j v us)[i]?=if i<j then us[i]? else if i=j then some v else us[i-1]?
 |0,v,us,0,_=>rfl
 |0,v,us,i+1,_=>by simp[ins]
 |j+1,v,[],_,h=>by simp at h
 |j+1,v,u::us,0,_=>rfl
 |j+1,v,u::us,i+1,h=>by
  have:=V5 (j:=j) (v:=v) (us:=us) i (by simpa using h)
  rw[ins,List.getElem?_cons_succ,this]
  by_cases c:i<j
  ·rw[if_pos c,if_pos (show i+1<j+1 by omega)];rfl
  ·by_cases e:i=j
   ·rw[if_neg c,if_pos e,if_neg (show ¬i+1<j+1 by omega),if_pos (show i+1=j+1 by omega)]
   ·rw[if_neg c,if_neg e,if_neg (show ¬i+1<j+1 by omega),if_neg (show ¬i+1=j+1 by omega)]
    obtain⟨m,rfl⟩:∃m,i=m+1:=⟨i-1,by omega⟩
    rfl
theorem Zar {α β:Type}{f:α->β}:∀{j:Nat}{v:α}{us:List α},(ins j v us).map f=ins j (f v) (us.map f)
 |0,_,_=>rfl
 |_+1,_,[]=>rfl
 |j+1,v,u::us=>by simp[ins,Zar (j:=j) (v:=v) (us:=us)]
theorem Zas {α:Type}{r:List α}:∀{j:Nat}{v:α}{us:List α},j<=us.length->ins j v us++r=ins j v (us++r)
 |0,_,_,_=>rfl
 |_+1,_,[],h=>by simp at h
 |j+1,v,u::us,h=>by
  show u::(ins j v us++r)=u::ins j v (us++r)
  rw[Zas (by simpa using h)]
section
variable {K:W.Frag}{H:Hp}
theorem ZD.pin {p:Option Addr}{s:Sh}{ys:List PV}{a:Addr}{G:List Addr} (h:ZD K H (.box p s ys) (.ref a) G):ZD K H (.box (some a) s ys) (.ref a) G:=by
 obtain⟨a',vs,u,G',e,h1,h2,h3⟩:=h
 cases e
 exact⟨a,vs,u,G',rfl,h1,⟨rfl,h2.2⟩,h3⟩
theorem ZD.unpin {p:Option Addr}{s:Sh}{ys:List PV}{v:V}{G:List Addr} (h:ZD K H (.box p s ys) v G):ZD K H (.box none s ys) v G:=by
 obtain⟨a',vs,u,G',e,h1,h2,h3⟩:=h
 exact⟨a',vs,u,G',e,h1,⟨trivial,h2.2⟩,h3⟩
theorem ZD.repin {p:Option Addr}{s:Sh}{ys:List PV}{a:Addr}{G:List Addr} (hp:ZjI p a) (h:ZD K H (.box none s ys) (.ref a) G):ZD K H (.box p s ys) (.ref a) G:=by
 obtain⟨a',vs,u,G',e,h1,h2,h3⟩:=h
 cases e
 exact⟨a,vs,u,G',rfl,h1,⟨hp,h2.2⟩,h3⟩
theorem ZD.pinned {b:Addr}{s:Sh}{ys:List PV}{v:V}{G:List Addr} (h:ZD K H (.box (some b) s ys) v G):v=.ref b:=by
 obtain⟨a',vs,u,G',e,h1,h2,h3⟩:=h
 rw[e,show a'=b from h2.1]
end
noncomputable def spM (K:W.Frag) (n j:Nat) (m:PV->List PV->Rr PV):Sp:=fun vs H Q E=>∃(B:Addr->Prop) (xs:List PV) (us:List V) (a:Addr) (s:Sh) (ys:List PV) (G:List Addr),
 vs=ins j (.ref a) us/\xs.length=n/\Reps K H B xs us/\ZD K H (.box none s ys) (.ref a) G/\(∀b,B b->b ∉ G) /\
 Dn (m (.box none s ys) xs) (fun r=>∃y s' ys',r=.tup [y,.box none s' ys']/\∀u H' G1 G2,Zw (minus H G) H'->ZD K H' y u G1->ZD K H' (.box none s' ys') (.ref a) G2->(∀b∈G1,b ∉ G2)->(∀b∈G1,minus H G b=none)->(∀b∈G2,minus H G b=none)->Q u H') (fun _=>False)
noncomputable def ZgS (a:Addr) (b:PV):PV:=match b with
 |.box _ s ys=>.box (some a) s ys
 |x=>x
noncomputable def ZjS (a:Addr) (r:Rr PV):Rr PV:=match r with
 |.ok (.tup [y,.box _ s ys])=>.ok (.tup [y,.box (some a) s ys])
 |.ok _=>.bad
 |.exc e=>.exc e
 |.bad=>.bad
noncomputable def RS.outN (j:Nat) (r:RS):Rr PV:=match r with
 |.next ρ=>.ok (.tup [.non,gv j ρ])
 |.ret x=>.ok x
 |.exc e=>.exc e
 |_=>.bad
section
variable {K:W.Frag}{B:Addr->Prop}{EX:PX->Hp->Prop}{H0 H:Hp}{σ:St}{Γ Γ' Γ1 Γ2 Γ3:List Md}{ρ:List PV}{F:Nat->List Addr}
theorem Ag.initM {s:Sh}{ys:List PV}{a:Addr}{G:List Addr}{xs:List PV}{us:List V}{j l:Nat} (ht:ZD K H (.box none s ys) (.ref a) G) (h:Reps K H B xs us) (hB:∀b,B b->b ∉ G) (hj:j<=xs.length) :
  Ag K (fun b=>B b\/minus H G b=none) (minus H G) H (ins j (some (.ref a)) (us.map some++List.replicate l none)) (ins j .O (List.replicate xs.length .S++List.replicate l .U)) (ins j (.box (some a) s ys) (xs++List.replicate l .non)) (Jy (fun _=>[]) j G) []:=by
 have fin:∀i,∀b∈Jy (fun _=>[]) j G i,i=j/\b∈G:=fun i b hb=>by
  unfold Jy at hb
  split at hb
  ·exact⟨by assumption,hb⟩
  ·simp at hb
 have A:=Ag.init (n:=l) h
 refine⟨ZcE,fun b h=>.inr h,fun i b hb=>ZbV (fin i b hb).2,by simp,fun i b hb=>ht.alive b (fin i b hb).2,by simp,fun i k hik b hb z=>hik ((fin i b hb).1.trans (fin k b z).1.symm),by simp,by simp[JL,h.length],by simp[JL],fun i=>?_⟩
 have hjs:j<=(us.map some++List.replicate l (none:Option V)).length:=by simp[h.length];omega
 have hjg:j<=(List.replicate xs.length Md.S++List.replicate l Md.U).length:=by simp;omega
 have hjr:j<=(xs++List.replicate l PV.non).length:=by simp;omega
 rw[Zq5,Zq5,V5 i hjs,V5 i hjg,V5 i hjr]
 have go:∀q,q≠j\/True->Vi K H (NO (fun b=>B b\/minus H G b=none) (Jy (fun _=>[]) j G) []) ((List.replicate xs.length Md.S++List.replicate l Md.U)[q]?.getD .U) ((xs++List.replicate l PV.non)[q]?.getD .non) (us.map some++List.replicate l none)[q]? []:=fun q _=>by
  have sl:=A.slot q
  rw[Zq5,Zq5] at sl
  refine sl.mono (fun b u s r=>⟨r, ?_,by simp,fun k z=>?_⟩) (fun b u r=>r) (fun b hb=>by cases hb)
  ·rcases s.1 with s|s
   ·exact .inl s
   ·exact .inr (by
     by_cases q:b∈G
     ·exact ZbV q
     ·rw[Z9 q];exact s)
  ·have z:=(fin k b z).2
   rcases s.1 with s|s
   ·exact hB b s z
   ·obtain⟨vs,q⟩:=ht.alive b z
    rw[s] at q;cases q
 by_cases c:i<j
 ·rw[if_pos c,if_pos c,if_pos c,Zx (by omega)]
  exact go i (.inr trivial)
 ·rw[if_neg c,if_neg c,if_neg c]
  by_cases e:i=j
  ·rw[if_pos e,if_pos e,if_pos e]
   subst e
   rw[Zs]
   exact⟨_,rfl,ht.pin⟩
  ·rw[if_neg e,if_neg e,if_neg e,Zx e]
   exact go (i-1) (.inr trivial)
noncomputable def ZkQ (y x:PV):RS:=match x with
 |.box (some a) s xs=>.ret (.tup [y,.box (some a) s xs])
 |_=>.bad
theorem Zhx {j:Nat}{te:TE}{f:List PV->Rr PV} (he:DE K EX Γ Γ' .F te f) (hm:Γ'[j]?=some .O):DS K EX Γ ⟨Γ3,Γ1,Γ2,.N⟩ (ZgG te) (fun ρ=>(f ρ).thenS fun y=>ZkQ y (gv j ρ)):=fun B H0 H σ ρ F D A d=>by
 refine he B H0 H σ ρ F [] _ A (d.thenS.imp (fun y _ d v H1 s1 r1=>?_) fun e q=>q)
 obtain⟨F1,f1,G,h1,h2,A1⟩:=r1
 unfold ZkQ at d
 split at d
 ·rename_i a s xs ex
  obtain⟨w,w1,w2⟩:=A1.getO hm
  rw[show ρ.getD j .non=.box (some a) s xs from ex] at w2
  have:=w2.pinned
  subst this
  exact d v H1 A1.same ⟨y,a,s,xs,G,F1 j,rfl,h1,w2,fun b hb z=>A1.disjR j b z (Zq8 _ hb),fun b hb=>A1.youngR b (Zq8 _ hb),fun b hb=>A1.young j b hb⟩
 ·exact d.elim
end
section
variable {P:Program}{w:World}{K:W.Frag}{mg:Str->Option Value}{base:Heap}
theorem Fun.okM {x qual:Str}{st:Stmt}{f:Addr}{fd:FuncData}{N ps:List Str}{k n l j:Nat}{m:PV->List PV->Rr PV} (F:Fun K x qual st f fd) (S:Zu N ps (Zc st)) (hn:ps.length=n+1) (hl:N.length-(n+1)=l) (hj:j<=n)
  (hbody:∀(cdv:Value) (A:Around) (outer:List Env) (s:Shared) (H:Hp) (E:XK),JH k (A.deeper (envOfC qual (Zc st) s.heap.objs.size f cdv)) ->
   ∃t g Y,Y.r=.N/\Y.n[j]?=some .O/\PSs (Za6 CX0 P w K mg base N qual (Zc st) f cdv A outer s H E).nox (Zj st) t/\DS K X0 (ins j .O (List.replicate n .S++List.replicate l .U)) Y t g /\
    ∀a b xs,Ref (ZjS a (m b xs)) ((g (ins j (ZgS a b) (xs++List.replicate l .non))).outN j)) :
  Jb P w K mg base CX0 (k+1) f fd ps (spM K n j m):=by
 refine F.ok S (fun vs H Q E h=>?_) (fun cdv A outer s H vs Q E hr h=>?_)
 ·obtain⟨B,xs,us,a,s,ys,G,rfl,h1,h2,_⟩:=h
  rw[JL,h2.length,h1,hn]
 ·obtain⟨B,xs,us,a,s',ys,G,rfl,h1,h2,h3,h4,dn⟩:=h
  obtain⟨t,g,Y,hY,hYn,ht,hd,href⟩:=hbody cdv A outer s H E hr
  refine⟨t,ht, ?_⟩
  have A0:=Ag.initM (l:=l) h3 h2 h4 (show j<=xs.length by omega)
  have est:Vt N (ins j (.ref a) us)=ins j (some (.ref a)) (us.map some++List.replicate l none):=by
   unfold Vt
   rw[JL,h2.length,h1,hl,Zar,Zas (by rw[ZqC,h2.length];omega)]
  rw[est]
  rw[h1] at A0
  refine hd _ (minus H G) H _ _ _ _ A0 ?_
  have hr:=href a (.box none s' ys) xs
  rw[show ZgS a (.box none s' ys)=.box (some a) s' ys from rfl] at hr
  cases em:m (.box none s' ys) xs with
  |bad=>rw[em] at dn;exact dn.elim
  |exc q=>rw[em] at dn;exact dn.elim
  |ok r =>
   rw[em] at dn hr
   obtain⟨y,s2,ys2,rfl,q⟩:=dn
   have ho:(g (ins j (.box (some a) s' ys) (xs++List.replicate l .non))).outN j=.ok (.tup [y,.box (some a) s2 ys2]):=by
    rcases hr with e|e
    ·cases e
    ·exact e.symm
   cases e:g (ins j (.box (some a) s' ys) (xs++List.replicate l .non)) with
   |next ρ =>
    rw[e] at ho
    have hy:PV.tup [.non,gv j ρ]=.tup [y,.box (some a) s2 ys2]:=by simpa[RS.outN] using ho
    simp only[PV.tup.injEq,List.cons.injEq,and_true] at hy
    obtain⟨rfl,hb⟩:=hy
    refine fun σ' H' F' fr A'=>?_
    obtain⟨v,w1,w2⟩:=A'.getO hYn
    rw[show ρ.getD j .non=.box (some a) s2 ys2 from hb] at w2
    have:=w2.pinned
    subst this
    exact q .non H' [] (F' j) A'.same ⟨rfl,rfl⟩ w2.unpin (by simp) (by simp) fun b hb=>A'.young j b hb
   |ret z =>
    rw[e] at ho
    have hy:z=.tup [y,.box (some a) s2 ys2]:=by simpa[RS.outN] using ho
    subst hy
    refine fun v H' s r=>?_
    rw[hY] at r
    obtain⟨y',a',s3,xs3,G1,G2,e1,r1,r2,r3,r4,r5⟩:=r
    simp only[PV.tup.injEq,List.cons.injEq,and_true,PV.box.injEq,Option.some.injEq] at e1
    obtain⟨rfl,rfl,rfl,rfl⟩:=e1
    exact q v H' G1 G2 s r1 r2.unpin r3 r4 r5
   |exc q=>rw[e] at ho;cases ho
   |brk ρ=>rw[e] at ho;cases ho
   |cont ρ=>rw[e] at ho;cases ho
   |bad=>rw[e] at ho;cases ho
end
theorem bind_ok {α β:Type}{r:Rr α}{g:α->Rr β}{y:β} (h:r.bind g=.ok y):∃x,r=.ok x/\g x=.ok y:=by
 cases r with
 |ok x=>exact⟨x,rfl,h⟩
 |exc e=>cases h
 |bad=>cases h
section
variable {K:W.Frag}{B:Addr->Prop}{EX:PX->Hp->Prop}{H0 H H':Hp}{σ:St}{Γ Γ1 Γ2:List Md}{ρ:List PV}{F F':Nat->List Addr}{R:List Addr}{te:TE}{i j n:Nat}{m:PV->List PV->Rr PV}
def DM (K:W.Frag) (EX:PX->Hp->Prop) (Γ:List Md) (i:Nat) (te:TE) (fm:List PV->Rr (PV×PV)):Prop:=
 ∀(B:Addr->Prop) (H0 H:Hp) (σ:St) (ρ:List PV) (F:Nat->List Addr) (Q:VK),Ag K B H0 H σ Γ ρ F [] ->
  Dn (fm ρ) (fun r=>∀v H' F' G,Frm H F H' F'->ZD K H' r.1 v G->(∀b∈G,H b=none\/∃l,b∈F l)->Ag K B H0 H' σ Γ (ρ.set i r.2) F' (G++[])->Q v H') (fun e=>∀H',Zw H0 H'->EX e H')->te σ H Q
noncomputable def ZfY (m:PV->List PV->Rr PV) (x:PV) (xs:List PV):Rr (PV×PV):=match x with
 |.box p s ys=>match m (.box none s ys) xs with
  |.ok (.tup [y,.box none s' ys'])=>.ok (y,.box p s' ys')
  |_=>.bad
 |_=>.bad
theorem Ziq {α:Type}{l:List α}{i:Nat}{v:α} (h:l[i]?=some v):l.set i v=l:=by
 apply Zr8
 intro q
 by_cases e:i=q
 ·subst e;rw[ZqF (ZqM.mp h).1,h]
 ·rw[ZqB e]
variable {fm:List PV->Rr (PV×PV)}{k:Kd}{l:Nat}
theorem Q9 {F1:Nat->List Addr}{G:List Addr} (fr:Frm H F H' F1) (hG:∀a∈G,H a=none\/∃j,a∈F j):Frm H F H' (Jy F1 l G):=fun b o h n=>by
 obtain⟨h1,h2⟩:=fr b o h n
 refine⟨h1,fun q z=>?_⟩
 by_cases e:q=l
 ·subst e;rw[Zs] at z
  rcases hG b z with w|⟨c,w⟩
  ·rw[h] at w;cases w
  ·exact n c w
 ·rw[Zx e] at z;exact h2 q z
theorem ZfL (he:DM K EX Γ i te fm) (hl:l<Γ.length):DS K EX Γ ⟨Γ.set l .P,Γ1,Γ2,k⟩ (ZgH te (Ub l)) (fun ρ=>(fm ρ).thenS fun r=>(grd r.1).thenS fun y=>.next ((ρ.set i r.2).set l y)):=fun B H0 H σ ρ F D A d=>by
 refine he B H0 H σ ρ F _ A (d.thenS.imp (fun r _ d v H1 F1 G fr t1 h1 A1=>?_) fun e q=>q)
 unfold grd at d
 split at d
 ·rename_i hf
  exact d _ H1 _ (Q9 (G:=[]) fr (by simp)) (Ag.put (G:=[]) (R:=[]) (A1.less (by simp)) hl (by simp) ⟨rfl,v,rfl,hf,t1.rep fun _ _=>trivial⟩)
 ·exact d.elim
theorem Zci (he:DM K EX Γ i te fm):DS K EX Γ ⟨Γ,Γ1,Γ2,k⟩ (ZaM te) (fun ρ=>(fm ρ).thenS fun r=>.next (ρ.set i r.2)):=fun B H0 H σ ρ F D A d=>by
 refine he B H0 H σ ρ F _ A (d.thenS.imp (fun r _ d v H1 F1 G fr t1 h1 A1=>?_) fun e q=>q)
 exact d _ H1 _ fr (A1.less (by simp))
end
noncomputable def Pm.fnM (m:Pm) (b:PV) (xs:List PV):Rr PV:=m.fn (b::xs)
theorem hu1 {n c:Nat} (h:n+64<c):n+1<c:=by omega
theorem Uv {m:PV->List PV->Rr PV}{p:Option Addr}{s s':Sh}{ys ys' xs:List PV}{y:PV} (h:m (.box none s ys) xs=.ok (.tup [y,.box none s' ys'])):ZfY m (.box p s ys) xs=.ok (y,.box p s' ys'):=by
 unfold ZfY
 simp only[h]
section
variable {X:Cx}{pins:List (Addr×Obj)}{σ:St}{H:Hp}{s:Shared}
theorem Inv.swapO {a:Addr}{u u':HO} (I:Inv X pins σ H s) (ha:H a=some u) (n1:∀b,u≠.own b) (n2:∀xs,u≠.tup xs) (m1:∀xs,X.H₀ a≠some (.tup xs)) (m2:∀o v,X.H₀ a≠some (.frz o v)) (m3:∀ps,X.H₀ a≠some (.tbl ps))
  (h0:∀o,X.s₀.heap.get? a=some o->X.H₀ a=none->a∈X.ex) (ok:Jg X.prog X.w (upd H a u') s.heap a u'):Inv X pins σ (upd H a u') s:=by
 have nn:∀{b},H b=none->b≠a:=fun {b} e z=>by rw[z,ha] at e;cases e
 refine⟨I.ok,I.os,I.bare,⟨I.base.keep,I.base.slot,fun b o q n hx=>?_,I.base.there,fun b xs q=>?_,fun b o v q=>?_,fun b ps q=>?_⟩,I.loc,I.cell, ?_,fun x c q=>?_,fun p hq=>?_,fun b v q=>?_,I.len⟩
 ·have e:=I.base.free b o q n hx
  rw[Zl (nn e)];exact e
 ·rw[Zl (fun z=>m1 xs (by rw[<- z];exact q))];exact I.base.tups b xs q
 ·rw[Zl (fun z=>m2 o v (by rw[<- z];exact q))];exact I.base.frzs b o v q
 ·obtain⟨m,e⟩:=I.base.tbls b ps q
  exact⟨m,by rw[Zl (fun z=>m3 ps (by rw[<- z];exact q))];exact e⟩
 ·rw[Zl (nn I.free)];exact I.free
 ·rw[Zl (nn (I.freeC x c q))];exact I.freeC x c q
 ·obtain⟨a1,b1,c1⟩:=I.pin p hq
  exact⟨a1,by rw[Zl (nn b1)];exact b1,c1⟩
 ·by_cases hb:b=a
  ·subst hb
   rw[Zt] at q;cases q
   exact ok
  ·rw[Zl hb] at q
   refine(I.hok b v q).stay (fun c w' _ z=>z) (fun c z=>?_) fun c xs z=>?_
   ·rw[Zl (fun y=>by rw[y,ha] at z;cases z;exact n1 _ rfl)];exact z
   ·rw[Zl (fun y=>by rw[y,ha] at z;cases z;exact n2 _ rfl)];exact z
end
noncomputable def evK {α:Type} (lt:Nat->Nat->Bool):PySem.W.KasT α->α
 |.ret a=>a
 |.ask i j k=>evK lt (k (lt i j))
noncomputable def InK {α:Type} (n:Nat) (P:α->Prop):PySem.W.KasT α->Prop
 |.ret a=>P a
 |.ask i j k=>i<n/\j<n/\∀b,InK n P (k b)
section
variable {α β:Type}{n:Nat}{P:α->Prop}{R:β->Prop}
theorem InK.bind {f:α->PySem.W.KasT β}:∀{t:PySem.W.KasT α},InK n P t->(∀a,P a->InK n R (f a))->InK n R (t.bind f)
 |.ret a,h,k=>k a h
 |.ask i j c,h,k=>⟨h.1,h.2.1,fun b=>InK.bind (h.2.2 b) k⟩
theorem InK.out {lt:Nat->Nat->Bool}:∀{t:PySem.W.KasT α},InK n P t->P (evK lt t)
 |.ret a,h=>h
 |.ask i j c,h=>(InK.out (t:=c (lt i j)) (h.2.2 (lt i j)):P (evK lt (c (lt i j))))
theorem InK.wp {lt:Nat->Nat->Bool}{s:Shared}{cmp:Nat->Nat->(Bool->Shared->Prop)->Shared->Prop} (hc:∀i j C,i<n->j<n->C (lt i j) s->cmp i j C s) {G:α->Shared->Prop} :
  ∀{t:PySem.W.KasT α},InK n P t->G (evK lt t) s->t.kasWp cmp G s
 |.ret a,_,g=>g
 |.ask i j c,h,g=>hc i j _ h.1 h.2.1 (InK.wp hc (h.2.2 (lt i j)) g)
end
def Gp (n:Nat) (p:Array Nat):Prop:=p.Perm (List.toArray (List.range n))
theorem Gp.lt {n:Nat}{p:Array Nat} (h:Gp n p) (hn:0<n) (k:Nat):p.getD k 0<n:=by
 unfold Array.getD
 split
 ·rename_i hk
  have:p[k]∈List.toArray (List.range n):=h.mem_iff.mp (Array.getElem_mem hk)
  simpa using this
 ·exact hn
theorem Gp.rev {n:Nat}{p:Array Nat} (h:Gp n p) (i j:Nat):Gp n (PySem.W.kas_rev p i j):=(mirror_perm p i j _).trans h
theorem Gp.bub {n:Nat}{p:Array Nat} (h:Gp n p) (i j:Nat):Gp n (bubble p i j):=(bubble_perm p i j).trans h
section
variable {n:Nat}
theorem Zem {p:Array Nat} (hn:0<n) (h:Gp n p):∀f m,InK n (fun _=>True) (PySem.W.kas_asc p f m)
 |0,m=>trivial
 |f+1,m=>⟨h.lt hn _,h.lt hn _,fun b=>by
  cases b
  ·exact Zem hn h f (m+1)
  ·exact trivial⟩
theorem Q7 (hn:0<n):∀f p m q,Gp n p->InK n (fun r=>Gp n r.1) (PySem.W.kas_desc f p m q)
 |0,p,m,q,h=>h
 |f+1,p,m,q,h=>⟨h.lt hn _,h.lt hn _,fun b=>by
  cases b
  ·refine⟨h.lt hn _,h.lt hn _,fun d=>?_⟩
   cases d
   ·exact Q7 hn f p _ _ h
   ·exact h
  ·show InK n _ (if q>0 then _ else _)
   split
   ·exact Q7 hn f _ _ _ (h.rev _ _)
   ·exact Q7 hn f _ _ _ h⟩
theorem Zce {p:Array Nat} (hn:0<n) (h:Gp n p) (a b:Nat):InK n (fun r=>Gp n r.2) (PySem.W.kas_tail3 a b p):=InK.bind (Zem hn (h.rev _ _) _ _) fun _ _=>h.rev _ _
theorem UI {p:Array Nat} (hn:0<n) (h:Gp n p) (a b:Nat):InK n (fun r=>Gp n r.2) (PySem.W.kas_descPart a b p):=InK.bind (Q7 hn _ _ _ _ h) fun r hr=>by
 split
 ·exact Zce hn (hr.rev _ _) _ _
 ·exact Zce hn hr _ _
theorem Zf8 {p:Array Nat} (hn:0<n) (h:Gp n p) (b:Nat):InK n (fun r=>Gp n r.2) (PySem.W.kas_count b p):=InK.bind (Zem hn h _ _) fun m _=>by
 split
 ·exact h
 ·split
  ·refine⟨h.lt hn _,h.lt hn _,fun c=>?_⟩
   cases c
   ·exact UI hn (h.rev _ _) _ _
   ·exact h
  ·exact UI hn h _ _
theorem Q6 {p:Array Nat} (hn:0<n) (h:Gp n p) (k:Nat):∀f l r,InK n (fun _=>True) (PySem.W.kas_place p k f l r)
 |0,l,r=>trivial
 |f+1,l,r=>by
  unfold PySem.W.kas_place
  split
  ·trivial
  ·refine⟨h.lt hn _,h.lt hn _,fun c=>?_⟩
   cases c
   ·exact Q6 hn h k f _ _
   ·exact Q6 hn h k f _ _
theorem Zg2 (hn:0<n):∀f p k,Gp n p->InK n (Gp n) (PySem.W.kas_bin f p k)
 |0,p,k,h=>h
 |f+1,p,k,h=>InK.bind (Q6 hn h k _ _ _) fun l _=>Zg2 hn f _ _ (h.bub _ _)
theorem Zel (hn:0<n):InK n (Gp n) (PySem.W.kas_sort n):=InK.bind (Zf8 hn (Array.Perm.refl _) _) fun r hr=>by
 split
 ·exact Zg2 hn _ _ _ hr
 ·exact hr
end
noncomputable def Vu (n:Nat) (lt:Nat->Nat->Bool):List Nat:=if n<2 then List.range n else (evK lt (PySem.W.kas_sort n)).toList
theorem J6 (n:Nat) (lt:Nat->Nat->Bool):(Vu n lt).Perm (List.range n):=by
 unfold Vu
 split
 ·exact List.Perm.refl _
 ·have:Gp n (evK lt (PySem.W.kas_sort n)):=InK.out (Zel (by omega))
  simpa using this.toList
theorem Qc {α:Type}{vs:List α}{d:α}:(List.range vs.length).map (fun i=>vs.getD i d)=vs:=by
 refine List.ext_getElem (by simp) fun i h1 h2=>?_
 simp[Zq5,h2]
section
variable {prog:Program}{w:World}{A:Around}{E:Value->Shared->Prop}{s:Shared}
theorem Zdp {a:Addr}{vs:List Value}{n:Nat}{P:PySem.Fin->Shared->Prop} (κ:SortKind) (lt:Nat->Nat->Bool) (ho:s.heap.get? a=some (seqObj "list" vs.toArray n)) (h64:vs.length<64)
  (hk:2<=vs.length->∀(s1:Shared) (Q:SortKind->Shared->Prop),(∀b o,b≠a->s.heap.get? b=some o->s1.heap.get? b=some o)->Q κ s1->wpAny (model prog w) A (keyKind' vs.toArray) Q E s1)
  (hc:∀(s1:Shared) i j C,i<vs.length->j<vs.length->(∀b o,b≠a->s.heap.get? b=some o->s1.heap.get? b=some o)->C (lt i j) s1->PySem.W.kas_ask prog w A κ vs i j C s1)
  (hq:∀h' c,(∀b o,b≠a->s.heap.get? b=some o->h'.get? b=some o)->h'.get? a=some (seqObj "list" (List.toArray ((Vu vs.length lt).map fun i=>vs.getD i Value.none)) c)->P (.done (.ret .none)) { s with heap:=h' }) :
  wpAny (model prog w) A (Builtin.«list.sort» ⟨[.ref a],[]⟩) P E s:=by
 have la:a<s.heap.objs.size:=Heap.lt_size ho
 obtain⟨e1,ho1⟩:∃c,(s.heap.update a (Obj.mapSeq fun _=>(#[]:Array Value))).get? a=some (seqObj "list" #[] c):=⟨_,get?_update_seq ho _⟩
 rw[list_sort_plain]
 refine wpAny_bind (listItems_at ho rfl (wpAny_bind (listUpdate_at ho rfl (wpAny_bind (seqEpoch_at ho1 rfl (wpAny_bind (wpAny_newTuple (wpAny_bind (wpAny_newList (wpAny_holding ?_) (Zre _))) ?_)))) ?_ (Zre _))))
 rotate_left
 ·show vs.length<=_;rw[sizeLine_eq];omega
 ·rw[ZqA,sizeLine_eq];omega
 generalize eh:((s.heap.update a (Obj.mapSeq fun _=>(#[]:Array Value))).push (seqObj "tuple" vs.toArray 0)).push (seqObj "list" #[] 0)=h3
 have k3:∀b o,b≠a->s.heap.get? b=some o->h3.get? b=some o:=fun b o nb q=>by
  subst eh
  exact Heap.get?_push_of_some _ (Heap.get?_push_of_some _ ((Heap.get?_update_ne _ _ _ _ nb).trans q))
 have a3:h3.get? a=some (seqObj "list" #[] e1):=by subst eh;exact Heap.get?_push_of_some _ (Heap.get?_push_of_some _ ho1)
 show wpAny _ _ _ P E { s with heap:=h3 }
 have fin:∀(out:List Value) (st:SortSt),(arrOf st).map (·.2)=List.toArray out->failedOf st=none->out.length=vs.length->out=(Vu vs.length lt).map (fun i=>vs.getD i Value.none) ->
   wpAny (model prog w) A (do
    let sorted:=(arrOf st).map (·.2)
    let touched:=(<- seqEpoch a) != e1
    Builtin.List.listUpdate (.ref a) fun _=>sorted
    if let some e:=failedOf st then rule "list.sort.comparison-raised";throw e
    if touched then rule "list.sort.modified";raiseError "ValueError" "list modified during sort"
    ret .none) P E { s with heap:=h3 }:=fun out st ho hf hl hout=>by
  dsimp only
  rw[ho,hf]
  obtain⟨c2,hc2⟩:∃c,(h3.update a (Obj.mapSeq fun _=>List.toArray out)).get? a=some (seqObj "list" (List.toArray out) c):=⟨_,get?_update_seq a3 _⟩
  refine wpAny_bind (seqEpoch_at a3 rfl (wpAny_bind (listUpdate_at a3 rfl ?_ (Zre _) ?_)))
  ·simp only[bne_self_eq_false,Bool.false_eq_true,if_false]
   refine wpAny_pure (hq _ c2 (fun b o nb q=>(Heap.get?_update_ne _ _ _ _ nb).trans (k3 b o nb q)) ?_)
   rw[<- hout];exact hc2
  ·show (List.toArray out).size<=_
   rw[ZqA,hl,sizeLine_eq];omega
 dsimp only
 by_cases h2:vs.length<2
 ·have e2:vs.toArray.size<2:=by rw[ZqA];exact h2
  rw[if_pos e2,if_pos e2]
  refine wpAny_bind (wpAny_pure (wpAny_bind (wpAny_pure ?_)))
  refine fin vs _ ?_ rfl rfl ?_
  ·show ((vs.toArray.zip vs.toArray).map (·.2))=_
   apply Array.toList_inj.mp
   simp only[Array.toList_map,Array.toList_zip]
   exact List.map_snd_zip (ZqG _)
  ·unfold Vu
   rw[if_pos h2,Qc]
 ·have e2:¬vs.toArray.size<2:=by rw[ZqA];exact h2
  rw[if_neg e2,if_neg e2]
  refine wpAny_bind (hk (by omega) _ _ k3 ?_)
  refine wpAny_bind (wpAny_mono (PySem.W.kat_run (κ:=κ) (ks:=vs) (vs:=vs) (s:={ s with heap:=h3 }) (Q:=fun st s'=>s'={ s with heap:=h3 }/\∃p:Array Nat,p=evK lt (PySem.W.kas_sort vs.length)/\p.size=vs.length/\arrOf st=p.map (PySem.W.kas_item (vs.toArray.zip vs.toArray))/\failedOf st=none)
   (G:=fun p s'=>s'={ s with heap:=h3 }/\p=evK lt (PySem.W.kas_sort vs.length)) rfl (by omega) h64 (fun p st s' a1 a2 a3 a4=>⟨a4.1,p,a4.2,a1,a2,a3⟩) ?_) ?_ fun _ _ e=>e)
  ·exact InK.wp (lt:=lt) (fun i j C hi hj q=>hc _ i j C hi hj k3 q) (Zel (by omega)) ⟨rfl,rfl⟩
  ·rintro⟨⟨⟩,st⟩ s' ⟨rfl,p,e,hp,har,hf⟩
   have hs:=PySem.W.kat_snds (ks:=vs) (vs:=vs) rfl har
   refine fin _ st hs hf ?_ ?_
   ·rw[ZqC,Zr0,hp]
   ·unfold Vu
    rw[if_neg h2,e]
theorem Zcy {l:Addr}{vs:List Value}{Q:Value->Shared->Prop} (κ:SortKind) (lt:Nat->Nat->Bool) (hl:s.heap.IsList l vs.toArray) (h64:vs.length<64)
  (hk:2<=vs.length->∀(s1:Shared) (Q:SortKind->Shared->Prop),(∀b o,s.heap.get? b=some o->s1.heap.get? b=some o)->Q κ s1->wpAny (model prog w) A.in1.in1 (keyKind' vs.toArray) Q E s1)
  (hc:∀(s1:Shared) i j C,i<vs.length->j<vs.length->(∀b o,s.heap.get? b=some o->s1.heap.get? b=some o)->C (lt i j) s1->PySem.W.kas_ask prog w A.in1.in1 κ vs i j C s1)
  (hq:∀D h' c,(∀b o,s.heap.get? b=some o->h'.get? b=some o)->s.heap.objs.size<=D->h'.get? D=some (seqObj "list" (List.toArray ((Vu vs.length lt).map fun i=>vs.getD i Value.none)) c)->Q (.ref D) { s with heap:=h' }) :
  wpAny (model prog w) A (call (.builtin "sorted") [.ref l]) Q E s:=by
 refine Calls.call_function_entry kind_sorted plain_sorted entry_sorted (args_sorted1 _) ?_
 unfold Builtin.«sorted»
 have hz:vs.length<=sizeLine:=by rw[sizeLine_eq];omega
 refine wpAny_bind (m:=checkCount "sorted" 1 1 _) (wpAny_pure (wpAny_bind (collect_list hl (wpAny_bind (wpAny_newList ?_ hz)) hz)))
 generalize eg:(s.heap.push (seqObj "list" #[] 0)).update s.heap.objs.size (Obj.mapSeq (·++vs.toArray))=h1
 have z1:h1.objs.size=s.heap.objs.size+1:=by subst eg;rw[Heap.size_update,size_push']
 have k1:∀b o,s.heap.get? b=some o->h1.get? b=some o:=fun b o q=>by
  have lb:=Heap.lt_size q
  subst eg
  rw[Heap.get?_update_ne _ _ _ _ (ZqN lb)]
  exact Heap.get?_push_of_some _ q
 have hD:(h1.push (seqObj "list" vs.toArray 0)).get? h1.objs.size=some (seqObj "list" vs.toArray 0):=Heap.get?_push_size _ rfl
 show wpAny _ _ _ _ _ { s with heap:=h1.push (seqObj "list" vs.toArray 0) }
 have up:∀(h2:Heap),(∀b o,b≠h1.objs.size->(h1.push (seqObj "list" vs.toArray 0)).get? b=some o->h2.get? b=some o)->∀b o,s.heap.get? b=some o->h2.get? b=some o:=fun h2 k b o q =>
  k b o (ZqN (by rw[z1];exact Nat.lt_succ_of_lt (Heap.lt_size q))) (Heap.get?_push_of_some _ (k1 b o q))
 refine wpAny_bind (wpAny_holding (wpAny_call_entry slot_list_sort ⟨_,hD,rfl⟩ entry_list_sort (Zdp (s:={ s with heap:=h1.push (seqObj "list" vs.toArray 0) }) κ lt hD h64 (fun h2 s1 Q k q=>hk h2 s1 Q (up _ k) q) (fun s1 i j C hi hj k q=>hc s1 i j C hi hj (up _ k) q) fun h' c k e=>?_) (args_list_sort _)))
 exact⟨_,rfl,wpAny_pure ⟨_,rfl,hq _ h' c (up _ k) (by rw[z1];exact Zr9 _) e⟩⟩
theorem ZbX {fin:Bool}{Q:Bool->Shared->Prop}:∀{ns ms:List Int}{vs ws:List Value}{i:Nat},ZP (ns.map V.int) vs->ZP (ms.map V.int) ws->fin=decide (vs.length<ws.length)->Q (HT.Zal ns ms) s ->
  PySem.W.KatLex prog w A true fin Q (vs.zip ws) i s
 |[],[],_,_,i,.nil,.nil,e,q=>by subst e;exact q
 |[],m::ms,_,_,i,.nil,.cons r t,e,q=>by
  have:fin=true:=by rw[e];simp
  subst this
  exact q
 |n::ns,[],_,_,i,.cons r t,.nil,e,q=>by
  have:fin=false:=by rw[e];simp
  subst this
  exact q
 |n::ns,m::ms,_,_,i,.cons r t,.cons r' t',e,q=>by
  obtain⟨k,rfl⟩:=r
  obtain⟨k',rfl⟩:=r'
  rw[Zrd]
  refine PySem.W.kat_cons (wpAny_eqBool_int ?_)
  rw[HT.ZcI] at q
  by_cases h:n=m
  ·subst h
   rw[if_pos rfl] at q
   simp only[beq_self_eq_true]
   exact PySem.W.kat_yes (ZbX t t' (by rw[e];simp) q)
  ·rw[if_neg h] at q
   have hb:(n==m)=false:=by simpa using h
   rw[hb]
   refine PySem.W.kat_no ?_
   cases i with
   |zero=>exact oneLt_int q
   |succ i=>exact PySem.W.kat_one _ _ (PyProof.Rows.lt_int q)
end
section
variable {X:Cx}
noncomputable def Zb7 (ts:List (List Int)):List Nat:=Vu ts.length fun i j=>HT.Zal (ts.getD i []) (ts.getD j [])
def ZaQ (K:W.Frag):List V->Hp->VK->Prop:=fun xs H Q=>∃p,∃ts:List PL2,xs=[.ref p]/\SqL K H p (ts.map fun t=>V.ref t.1) /\
  (∀t∈ts,SqT K H t.1 (t.2.map V.int)/\t.2≠[])/\ts.length<64/\∀l,H l=none->Q (.ref l) (upd H l (.lst ((Zb7 (ts.map (·.2))).map fun i=>V.ref (ts.getD i (0,[])).1)))
theorem Zbq:JS X (.builtin "sorted") (ZaQ X.K):=by
 intro pins s σ H xs us Q I r h
 obtain⟨p,ts,rfl,hq,hall,h64,q⟩:=h
 obtain⟨u,rfl,rx⟩:=Zcw r
 cases rx
 obtain⟨its,r',pl,hz⟩:=I.list hq
 have hlen:=r'.length
 rw[ZqC] at hlen
 have item:∀i,i<its.length->∃t:PL2,ts[i]?=some t/\its[i]?=some (Value.ref t.1):=fun i hi=>by
  have hx:(ts.map fun t=>V.ref t.1)[i]?=some (V.ref (ts[i]'(by omega)).1):=by simp[Zq6 (show i<ts.length by omega)]
  obtain⟨w,hw,rw'⟩:=r'.get hx
  exact⟨ts[i]'(by omega),Zq6 (by omega),by rw[hw];exact congrArg some rw'⟩
 have tup:∀(s1:Shared),(∀b o,s.heap.get? b=some o->s1.heap.get? b=some o)->∀t∈ts,∃vs:List Value,ZP (t.2.map V.int) vs/\IsTup s1.heap t.1 vs.toArray:=fun s1 k t ht=>by
  have I':Inv X pins σ H { s with heap:=s1.heap,toks:=s1.toks }:=I.kept k
  obtain⟨vs,rv,pt,_⟩:=I'.tuple (hall t ht).1
  exact⟨vs,rv,pt⟩
 refine Zcy (tuples' true) (fun i j=>HT.Zal ((ts.map (·.2)).getD i []) ((ts.map (·.2)).getD j [])) pl.isList (by omega) (fun h2 s1 Q' k q'=>?_) (fun s1 i j C hi hj k q'=>?_) fun D h' c k hD e=>?_
 ·have:∀(ts:List PL2) (its:List Value),(∀t∈ts,t.2≠[]/\∃vs:List Value,ZP (t.2.map V.int) vs/\IsTup s1.heap t.1 vs.toArray)->ZP (ts.map fun t=>V.ref t.1) its->∃fs:List Value,fs.length=ts.length/\PySem.W.KatTups s1.heap its fs/\∀v∈fs,∃n t,v=Value.int n t:=by
   intro ts
   induction ts with
   |nil =>
    intro its _ rv
    cases rv
    exact⟨[],rfl,trivial,by simp⟩
   |cons t ts ih =>
    intro its ht rv
    cases rv with
    |cons rv tv =>
     obtain⟨fs,e1,e2,e3⟩:=ih _ (fun t' h'=>ht t' (ZqK _ h')) tv
     obtain⟨hne,vs,rvs,ob,eo,oc,k,od⟩:=ht t (ZqY ..)
     obtain⟨n,ns,en⟩:=List.exists_cons_of_ne_nil hne
     rw[en] at rvs
     cases rvs with
     |cons rn tn =>
      obtain⟨tk,rfl⟩:=rn
      have rv':_=Value.ref t.1:=rv
      subst rv'
      exact⟨.int n tk::fs,by simp[e1],⟨⟨t.1,ob,_,k,rfl,eo,oc,od,rfl⟩,e2⟩,fun v hv=>(ZqE.mp hv).elim (fun z=>⟨n,tk,z⟩) (e3 v)⟩
  obtain⟨fs,e1,e2,e3⟩:=this ts its (fun t ht=>⟨(hall t ht).2,tup s1 k t ht⟩) r'
  exact PySem.W.kat_kind (T:=.type "int") e2 (by omega) (fun v hv=>by obtain⟨n,t,rfl⟩:=e3 v hv;exact PySem.W.Looks.of_pure rfl) rfl q'
 ·obtain⟨t,et,ei⟩:=item i hi
  obtain⟨t',et',ej⟩:=item j hj
  obtain⟨vs,rv,ob,eo,oc,k1,od⟩:=tup s1 k t (ZqU et)
  obtain⟨vs',rv',ob',eo',oc',k1',od'⟩:=tup s1 k t' (ZqU et')
  unfold PySem.W.kas_ask
  rw[Zq5,ei,Zq5,ej]
  refine PySem.W.kat_lt eo od eo' od' (ZbX rv rv' ?_ ?_)
  ·simp
  ·rw[Zq5,Zq5,ZqO,ZqO,et,et'] at q'
   exact q'
 ·have I1:Inv X pins σ (upd H D (.lst ((Zb7 (ts.map (·.2))).map fun i=>V.ref (ts.getD i (0,[])).1))) { s with heap:=h' }:=by
   have el:Vu its.length (fun i j=>HT.Zal ((ts.map (·.2)).getD i []) ((ts.map (·.2)).getD j []))=Zb7 (ts.map (·.2)):=by unfold Zb7;rw[ZqC,hlen]
   rw[el] at e
   have lt:∀i∈Zb7 (ts.map (·.2)),i<its.length:=fun i hi=>by
    have:=(J6 _ _).mem_iff.mp hi
    rw[List.mem_range,ZqC] at this
    omega
   refine I.laid (t':=s.toks) k hD ⟨?_,_,c, ?_,e⟩
   ·rw[ZqC,Zb7,(J6 _ _).length_eq,List.length_range,ZqC,sizeLine_eq];omega
   ·revert lt
    generalize Zb7 (ts.map (·.2))=L
    intro lt
    induction L with
    |nil=>exact .nil
    |cons i L ih =>
     refine .cons ?_ (ih fun j hj=>lt j (ZqK _ hj))
     obtain⟨t,et,ei⟩:=item i (lt i (ZqY ..))
     show ZY (V.ref (ts.getD i (0,[])).1) (its.getD i Value.none)
     rw[Zq5,et,Zq5,ei]
     rfl
  exact⟨.ref D,_,I1,rfl,q D (I.hok.fresh hD)⟩
theorem Za7 {K:W.Frag} (e:X.K=K:=by rfl):JS X (.builtin "sorted") (ZaQ K):=by subst e;exact Zbq
end
noncomputable def VI (t:List Int):PV:=.tup (t.map PV.int)
theorem QO:∀{a b:List (List Int)},a.map VI=b.map VI->a=b
 |[],[],_=>rfl
 |[],y::b,h=>by simp at h
 |x::a,[],h=>by simp at h
 |x::a,y::b,h=>by
  simp only[ZqJ,List.cons.injEq,VI,PV.tup.injEq] at h
  rw[ZV h.1,QO h.2]
noncomputable def ZgJ (ts:List (List Int)):List (List Int):=(Zb7 ts).map fun i=>ts.getD i []
theorem QS (ts:List (List Int)):(ZgJ ts).Perm ts:=by
 have:=(J6 ts.length fun i j=>HT.Zal (ts.getD i []) (ts.getD j [])).map fun i=>ts.getD i []
 rw[Qc] at this
 exact this
def OkS (ts:List (List Int)):Prop:=(∀t∈ts,t≠[])/\ts.length<64
open Classical in
noncomputable def Q0 (xs:List PV):Rr PV:=if h:∃ts:List (List Int),xs=[.lst (ts.map VI)]/\OkS ts then newF ((ZgJ h.choose).map VI) else .bad
theorem Zc8 {ts:List (List Int)} (h:OkS ts):Q0 [.lst (ts.map VI)]=newF ((ZgJ ts).map VI):=by
 have hex:∃us:List (List Int),[PV.lst (ts.map VI)]=[.lst (us.map VI)]/\OkS us:=⟨ts,rfl,h⟩
 unfold Q0
 rw[dif_pos hex]
 have hs:ts.map VI=hex.choose.map VI:=PV.lst.inj (List.cons.inj hex.choose_spec.1).1
 have e:hex.choose=ts:=(QO hs).symm
 rw[e]
section
variable {K:W.Frag}{B:Addr->Prop}{EX:PX->Hp->Prop}{H0 H:Hp}{σ:St}{Γ Γ':List Md}{ρ:List PV}{F:Nat->List Addr}{R:List Addr}{ta:TA}{fa:List PV->Rr (List PV)}
theorem QW {S:Addr->Prop}:∀{ts:List (List Int)}{vs:List V},Reps K H S (ts.map VI) vs->∃qs:List PL2,vs=(qs.map fun t=>V.ref t.1)/\(qs.map fun t=>t.2)=ts/\∀t∈qs,SqT K H t.1 (t.2.map V.int)
 |[],vs,h=>⟨[],h,rfl,by simp⟩
 |ns::ts,vs,h=>by
  obtain⟨v,r,rfl,h1,h2⟩:=h
  obtain⟨qs,rfl,e2,e3⟩:=QW h2
  obtain⟨a,ws,rfl,hn,hr⟩:=h1
  have:=Uy hr
  subst this
  refine⟨(a,ns)::qs,rfl,by rw[ZqJ,e2],fun t ht=>?_⟩
  rcases ZqE.mp ht with rfl|ht
  ·exact hn.sqT
  ·exact e3 t ht
theorem QX {S:Addr->Prop}{xs:List PV}{vs:List V} (h:Reps K H S xs vs):∀L:List Nat,(∀i∈L,i<xs.length)->Reps K H S (L.map fun i=>xs.getD i .non) (L.map fun i=>vs.getD i .non)
 |[],_=>rfl
 |i::L,hL=>by
  have hi:=hL i (ZqY ..)
  obtain⟨w,hw,hr⟩:=h.get (Zq6 hi)
  refine⟨w,_, ?_, ?_,QX h L fun j hj=>hL j (ZqK _ hj)⟩
  ·show (vs.getD i .non::_)=_
   rw[Zq5,hw];rfl
  ·show Rep K H S (xs.getD i .non) w
   rw[Zq5,Zq6 hi];exact hr
theorem Ze5 (ha:DAA K EX Γ Γ' ta fa):DE K EX Γ Γ' .F (tCB (ZaQ K) ta) (fun ρ=>(fa ρ).bind Q0):=fun B H0 H σ ρ F R Q A d=>by
 refine ha B H0 H σ ρ F R _ A (d.bind.imp (fun xs _ d vs H1 F1 s1 f1 p1 A1=>?_) fun e q=>q)
 unfold Q0 at d
 split at d
 ·rename_i hex
  have hs:=hex.choose_spec
  generalize hex.choose=ts at d hs
  obtain⟨rfl,hne,hl⟩:=hs
  obtain⟨h1,h2,d⟩:=Dn.newF d
  obtain⟨v,rfl,a,ws,rfl,hn,hr⟩:=UV p1
  have hr0:=hr
  obtain⟨qs,rfl,rfl,e3⟩:=QW hr
  refine⟨a,qs,rfl,JG (S:=fun _=>True) hn,fun t ht=>⟨e3 t ht,hne _ (List.mem_map_of_mem ht)⟩,by simpa using hl,fun l hz=>?_⟩
  have lt:∀i∈Zb7 (qs.map (·.2)),i<qs.length:=fun i hi=>by
   have:=(J6 _ _).mem_iff.mp hi
   rw[List.mem_range,ZqC] at this
   exact this
  have pr:=QX hr0 (Zb7 (qs.map (·.2))) (by simpa using lt)
  have c1:((Zb7 (qs.map (·.2))).map fun i=>((qs.map fun t=>t.2).map VI).getD i .non)=(ZgJ (qs.map fun t=>t.2)).map VI:=by
   unfold ZgJ
   rw[List.map_map (l:=Zb7 _)]
   refine List.map_congr_left fun i hi=>?_
   simp[Zq5,Zq6 (lt i hi)]
  have c2:((Zb7 (qs.map (·.2))).map fun i=>(qs.map fun t=>V.ref t.1).getD i .non)=(Zb7 (qs.map (·.2))).map fun i=>V.ref (qs.getD i (0,[])).1:=by
   refine List.map_congr_left fun i hi=>?_
   simp[Zq5,Zq6 (lt i hi)]
  rw[c1,c2] at pr
  exact d _ _ (s1.trans (Zw.new hz)) (Res.newP s1 f1 pr h1 A1 hz)
 ·exact d.elim
end
theorem Pm.refM2 (m:Pm) {r:Addr->PV->List PV->Rr PV} (h:∀i,m.pre i->∀a b xs,m.enc i=b::xs->r a b xs=ZjS a (m.out i)):∀a b xs,Ref (ZjS a (m.fnM b xs)) (r a b xs):=fun a b xs=>by
 unfold Pm.fnM Pm.fn
 by_cases hx:∃i,m.enc i=b::xs/\m.pre i
 ·rw[dif_pos hx]
  exact .inr (h _ hx.choose_spec.2 a b xs hx.choose_spec.1).symm
 ·rw[dif_neg hx];exact .inl rfl
theorem ZeO:bootBuiltins "sorted"=some (.builtin "sorted"):=by decide +kernel
mutual
noncomputable def QK:PV->PV
 |.lst xs=>.fz (frzPs xs)
 |.tup xs=>.tup (frzPs xs)
 |.fz xs=>.fz (frzPs xs)
 |.non=>.non
 |.bl b=>.bl b
 |.int i=>.int i
 |.str x=>.str x
 |.exc n=>.exc n
 |.exa n i=>.exa n i
 |.box p s xs=>.box p s xs
noncomputable def frzPs:List PV->List PV
 |[]=>[]
 |x::xs=>QK x::frzPs xs
end
theorem VP:∀(ns:List Int),frzPs (ns.map PV.int)=ns.map PV.int
 |[]=>rfl
 |n::ns=>by simp only[ZqJ,frzPs,QK,VP ns]
def ZeT (G:List Addr) (H H2:Hp):Prop:=(∀a,a ∉ G->H2 a=H a)/\∀a∈G,∀vs,H a=some (.lst vs)->∃o,H2 a=some (.frz o (.lst vs))
def ZhP (H:Hp) (G:List Addr):Prop:=∀a∈G,∃vs,H a=some (.lst vs)
section
variable {K:W.Frag}{H H2:Hp}{G':List Addr}
theorem Im.frzTo (hL:ZhP H G') (h:ZeT G' H H2) {a:Addr}{u:HO} (i:Im K H a u):Im K H2 a u:=by
 have hn:a ∉ G':=fun z=>by
  obtain⟨vs,e⟩:=hL a z
  rw[i.1] at e;cases e;exact i.2
 exact⟨by rw[h.1 a hn];exact i.1,i.2⟩
mutual
theorem ZD.lists:∀{x:PV}{v:V}{G:List Addr},(QK x).flat=true->ZD K H x v G->ZhP H G
 |.non,_,_,_,h=>by rw[h.2];intro a ha;simp at ha
 |.bl _,_,_,_,h=>by rw[h.2];intro a ha;simp at ha
 |.int _,_,_,_,h=>by rw[h.2];intro a ha;simp at ha
 |.str _,_,_,_,h=>by rw[h.2];intro a ha;simp at ha
 |.exc _,_,_,_,h=>by rw[h.2];intro a ha;simp at ha
 |.exa _ _,_,_,_,h=>by rw[h.2];intro a ha;simp at ha
 |.box _ _ _,_,_,f,_=>by simp[QK,PV.flat] at f
 |.lst xs,_,_,f,h=>by
  obtain⟨a,vs,G,rfl,ha,ht,hn,rfl⟩:=h
  intro b hb
  rcases ZqE.mp hb with rfl|hb
  ·exact⟨vs,ha⟩
  ·exact Trees.lists (by simpa[QK,PV.flat] using f) ht b hb
 |.tup xs,_,_,f,h=>by
  obtain⟨a,vs,rfl,ha,ht⟩:=h
  exact Trees.lists (by simpa[QK,PV.flat] using f) ht
 |.fz xs,_,_,f,h=>by
  obtain⟨a,vs,rfl,ha,ht⟩:=h
  exact Trees.lists (by simpa[QK,PV.flat] using f) ht
theorem Trees.lists:∀{xs:List PV}{vs:List V}{G:List Addr},PV.flats (frzPs xs)=true->Trees K H xs vs G->ZhP H G
 |[],_,_,_,h=>by rw[h.2];intro a ha;simp at ha
 |x::xs,_,_,f,h=>by
  obtain⟨v,r,G1,G2,rfl,h3,h4,hd,rfl⟩:=h
  simp only[frzPs,PV.flats,Bool.and_eq_true] at f
  intro b hb
  rcases Zq9.mp hb with hb|hb
  ·exact ZD.lists f.1 h3 b hb
  ·exact Trees.lists f.2 h4 b hb
end
mutual
theorem ZD.frz (hL:ZhP H G') (hF:ZeT G' H H2):∀{x:PV}{v:V}{G:List Addr},(QK x).flat=true->ZD K H x v G->(∀a∈G,a∈G')->ZD K H2 (QK x) v []
 |.non,_,_,_,h,_=>⟨h.1,rfl⟩
 |.bl _,_,_,_,h,_=>⟨h.1,rfl⟩
 |.int _,_,_,_,h,_=>⟨h.1,rfl⟩
 |.str _,_,_,_,h,_=>⟨h.1,rfl⟩
 |.exc n,_,_,_,h,_=>let ⟨a,o,C,e1,e2,e3⟩:=h.1;⟨⟨a,o,C,e1,Im.frzTo hL hF e2,e3⟩,rfl⟩
 |.exa n i,_,_,_,h,_=>let ⟨a,o,C,d,fs,e1,e2,e2',e3⟩:=h.1;⟨⟨a,o,C,d,fs,e1,Im.frzTo hL hF e2,Im.frzTo hL hF e2',e3⟩,rfl⟩
 |.box _ _ _,_,_,f,_,_=>by simp[QK,PV.flat] at f
 |.lst xs,_,_,f,h,hG=>by
  obtain⟨a,vs,G,rfl,ha,ht,hn,rfl⟩:=h
  obtain⟨o,e⟩:=hF.2 a (hG a (by simp)) vs ha
  exact⟨a,vs,rfl,⟨o,e,trivial⟩,Trees.frz hL hF (by simpa[QK,PV.flat] using f) ht fun b hb=>hG b (by simp[hb])⟩
 |.tup xs,_,_,f,h,hG=>by
  obtain⟨a,vs,rfl,ha,ht⟩:=h
  exact⟨a,vs,rfl,Im.frzTo hL hF ha,Trees.frz hL hF (by simpa[QK,PV.flat] using f) ht hG⟩
 |.fz xs,_,_,f,h,hG=>by
  obtain⟨a,vs,rfl,⟨o,ha⟩,ht⟩:=h
  exact⟨a,vs,rfl,⟨o,Im.frzTo hL hF ha⟩,Trees.frz hL hF (by simpa[QK,PV.flat] using f) ht hG⟩
theorem Trees.frz (hL:ZhP H G') (hF:ZeT G' H H2):∀{xs:List PV}{vs:List V}{G:List Addr},PV.flats (frzPs xs)=true->Trees K H xs vs G->(∀a∈G,a∈G')->Trees K H2 (frzPs xs) vs []
 |[],_,_,_,h,_=>⟨h.1,rfl⟩
 |x::xs,_,_,f,h,hG=>by
  obtain⟨v,r,G1,G2,rfl,h3,h4,hd,rfl⟩:=h
  simp only[frzPs,PV.flats,Bool.and_eq_true] at f
  exact⟨v,r,[],[],rfl,ZD.frz hL hF f.1 h3 fun a ha=>hG a (by simp[ha]),Trees.frz hL hF f.2 h4 fun a ha=>hG a (by simp[ha]),by simp,rfl⟩
end
end
section
variable {X:Cx}{pins:List (Addr×Obj)}{σ:St}{s:Shared}
theorem Inv.frzAll:∀(G:List Addr) {H:Hp},Inv X pins σ H s->ZhP H G->∃H2,ZeT G H H2/\Inv X pins σ H2 s
 |[],H,I,_=>⟨H,⟨fun _ _=>rfl,by simp⟩,I⟩
 |a::G,H,I,hL=>by
  obtain⟨H2,h2,I2⟩:=Inv.frzAll G I fun b hb=>hL b (by simp[hb])
  by_cases hm:a∈G
  ·refine⟨H2,⟨fun b hb=>h2.1 b fun z=>hb (by simp[z]),fun b hb=>?_⟩,I2⟩
   rcases ZqE.mp hb with rfl|hb
   ·exact h2.2 b hm
   ·exact h2.2 b hb
  ·obtain⟨kvs,ha0⟩:=hL a (by simp)
   have ha:H2 a=some (.lst kvs):=by rw[h2.1 a hm];exact ha0
   have ok0:Jg X.prog X.w H2 s.heap a (.lst kvs):=I2.hok a _ ha
   obtain⟨o,ho⟩:∃o,s.heap.get? a=some o:=by obtain⟨_,its,n,_,e⟩:=ok0;exact⟨_,e⟩
   have m1:∀xs,X.H₀ a≠some (.tup xs):=fun xs z=>by have:=I2.base.tups a xs z;rw[ha] at this;cases this
   have m2:∀o v,X.H₀ a≠some (.frz o v):=fun o v z=>by have:=I2.base.frzs a o v z;rw[ha] at this;cases this
   have m3:∀ps,X.H₀ a≠some (.tbl ps):=fun ps z=>by obtain⟨m,this⟩:=I2.base.tbls a ps z;rw[ha] at this;cases this
   have h0:∀o,X.s₀.heap.get? a=some o->X.H₀ a=none->a∈X.ex:=fun o q n=>by
    by_cases hx:a∈X.ex
    ·exact hx
    ·have:=I2.base.free a o q n hx;rw[ha] at this;cases this
   refine⟨_,⟨fun b hb=>?_,fun b hb vs e=>?_⟩,I2.swapO (u':=.frz o (.lst kvs)) ha (fun _ z=>by cases z) (fun _ z=>by cases z) m1 m2 m3 h0 ⟨ho,ok0⟩⟩
   ·have hb':b≠a:=fun z=>hb (by simp[z])
    rw[Zl hb']
    exact h2.1 b fun z=>hb (by simp[z])
   ·by_cases hb':b=a
    ·subst hb'
     rw[ha0] at e;cases e
     exact⟨o,Zt⟩
    ·rw[Zl hb']
     rcases ZqE.mp hb with z|z
     ·exact absurd z hb'
     ·exact h2.2 b z vs e
noncomputable def Zij (te:TE):TE:=fun σ H Q=>te σ H fun v H1=>∃G,ZhP H1 G/\∀H2,ZeT G H1 H2->Q v H2
theorem Zd5 {e:Expr}{te:TE} (he:PE X e te):PE X e (Zij te):=by
 intro pins s σ H Q I h
 refine thn (he pins s σ H _ I h) fun v s1 ⟨x,H1,I1,r,G,hL,q⟩=>?_
 obtain⟨H2,h2,I2⟩:=Inv.frzAll G I1 hL
 exact⟨x,H2,I2,r,q H2 h2⟩
variable {K:W.Frag}{B:Addr->Prop}{EX:PX->Hp->Prop}{H0 H H2:Hp}{Γ Γ':List Md}{ρ:List PV}{F:Nat->List Addr}{R G:List Addr}{te:TE}{f:List PV->Rr PV}
theorem Ze9 (he:DE K EX (Γ.map frz) (Γ.map frz) .F te f):DE K EX Γ Γ .P (Zij te) (fun ρ=>(f ρ).bind fun x=>grd (QK x)):=fun B H0 H σ ρ F R Q A d=>by
 refine he B H0 H σ ρ _ R _ A.freezeAll (d.bind.imp (fun x _ d v H1 s1 r=>?_) fun e q=>q)
 obtain⟨F1,f1,G,t1,o1,_⟩:=r
 have fr:∀a∈G,H a=none:=fun a ha=>by
  rcases (o1 a ha).2 with q|⟨j,q⟩
  ·exact q
  ·simp at q
 unfold grd at d
 split at d
 ·rename_i hf
  refine⟨G,t1.lists hf,fun H2 h2=>?_⟩
  have s2:Zw H H2:=fun a o e=>by
   rw[h2.1 a fun z=>by rw[fr a z] at e;cases e]
   exact s1 a o e
  exact d v H2 s2 ⟨F,fun _ _ h=>h,hf,(ZD.frz (t1.lists hf) h2 hf t1 fun a ha=>ha).rep (by simp),A.grow s2⟩
 ·exact d.elim
noncomputable def thw (x:PV):PV:=match x with
 |.fz xs=>.lst xs
 |x=>x
theorem Rep.thw {S:Addr->Prop}{x:PV}{v:V} (hS:∀a o vs,H a=some (.frz o (.lst vs))->S a) (h:Rep K H S x v):Rep K H S (thw x) v:=by
 cases x with
 |fz xs =>
  obtain⟨a,vs,rfl,⟨o,ha⟩,hr⟩:=h
  exact⟨a,vs,rfl,.inl ⟨.inr ⟨o,ha.1⟩,hS a o vs ha.1⟩,hr⟩
 |_=>exact h
theorem Zcl (he:DE K EX Γ Γ' .A te f):DE K EX Γ Γ' .A te (fun ρ=>(f ρ).bind fun x=>.ok (thw x)):=fun B H0 H σ ρ F R Q A d=>by
 refine he B H0 H σ ρ F R _ A (d.bind.imp (fun x _ d v H1 s1 r=>?_) fun e q=>q)
 obtain⟨F1,f1,p1,A1⟩:=r
 exact d v H1 s1 ⟨F1,f1,p1.thw fun _ _ _ _=>trivial,A1⟩
end
section
variable {X:Cx}{pins:List (Addr×Obj)}{σ:St}{H:Hp}{s:Shared}{a C dx:Addr}{fs:List (Str×V)}{f:Str}
theorem Us (I:Inv X pins σ H s) (e:Rd H a (.ins C dx fs)):∃mA,Zg7 s.heap a dx C mA/\(∀f,QI (fs.lookup f) (mA f)):=by
 obtain⟨d,z,ne,ob,mA,n,r,q⟩:=(show Jg X.prog X.w H s.heap a (.ins C dx fs) from e.ok I.hok)
 exact⟨mA,⟨ob,n,ne⟩,r⟩
end
noncomputable def Zdl (K:W.Frag) (ta:TE) (f:Str):TE:=fun σ H Q=>ta σ H fun x H1=>∃a C dx fs v,x=.ref a/\Rd H1 a (.ins C dx fs)/\Cls K C/\UT K C f/\fs.lookup f=some v/\Q v H1
noncomputable def QQ (K:W.Frag) (n m:Str) (sp:Sp) (ta:TE) (t:TA):TE:=fun σ H Q=>ta σ H fun x H1=>∃a C dx fs,x=.ref a/\Rd H1 a (.ins C dx fs)/\JR K n C/\fs.lookup m=none/\t σ H1 fun vs H2=>sp (x::vs) H2 Q E0
def OkM (P:Program) (w:World) (K:W.Frag) (mg:Str->Option Value) (base:Heap) (k:Nat) (n m:Str) (ps:List Str) (sp:Sp):Prop:=
 ∃C f fd,JR K n C/\Cls K C/\Zlj K C m f/\Jb P w K mg base CX0 k f fd ps sp/\VH K fd ps []
section
variable {X:Cx}{K:W.Frag}{e o:Expr}{es:List Expr}{f n m:Str}{pos apos:Pos}{ta:TE}{t:TA}{k:Nat}{ps:List Str}{sp:Sp}
theorem ZN (he:PE X e ta) (eK:X.K=K:=by rfl) (hb:attributeBase e f X.env (eval e X.env)=eval e X.env:=by rfl):PE X (.Attribute e f pos) (Zdl K ta f):=by
 subst eK
 intro pins s σ H Q I h
 refine ZhJ hb (thn (he pins s σ H _ I h) fun u s1 ⟨x,H1,I1,rx,a,C,dx,fs,v,ex,ea,c,n,l,q⟩=>?_)
 subst ex
 obtain rfl:u=Value.ref a:=rx
 obtain⟨mA,O,r⟩:=Us I1 ea
 obtain⟨u,hu,ru⟩:=QI.some_of (v:=v) (o:=mA f) (by rw[<- l];exact r f)
 exact Zht I1.kIn O (c.get f) c.hd n hu (Zep ru) ⟨v,H1,I1.tok _,ru,q⟩
theorem ZbH {pl:Sem Bool} (G:OkM X.prog X.w X.K X.mg X.base k n m ps sp) (hr:JH k X.A) (he:PE X o ta) (ha:PA X (e::es) t)
  (hst:starEach (e::es) X.env=(false,eval e X.env)::starEach es X.env:=by rfl) (hpl:(backTo pos (starEach es X.env)).any (·.1)=false:=by rfl)
  (ht:eval (.Call (.Attribute o m apos) (e::es) [] pos) X.env=(do
   let ov <- eval o X.env
   standAt apos.atName
   let (f,first) <- holding [ov] (getMethod ov m pl)
   callWith pos f first (backTo pos (starEach (e::es) X.env)) (backToKw pos (keywordEach [] X.env))):=by rfl) :
  PE X (.Call (.Attribute o m apos) (e::es) [] pos) (QQ X.K n m sp ta t):=by
 obtain⟨C,f,fd,hC,c,hm,F,hb⟩:=G
 intro pins s σ H Q I h
 refine PySem.W.methodCall_KW (pl:=pl) (thn (he pins s σ H _ I h) fun u s1 ⟨x,H1,I1,rx,a,C',dx,fs,ex,ea,hC',l,q⟩=>?_) ht
 subst ex
 obtain rfl:=hC.inj hC'
 obtain rfl:u=Value.ref a:=rx
 obtain⟨mA,O,r⟩:=Us I1 ea
 refine Q8 I1.kIn O (c.get m) hm.at_ hm.fn (QI.none_of (by rw[<- l];exact r m)) ?_
 refine PySem.W.callWith_K (first:=[.ref a]) (h₀:=X.base) I.ok.mod.kin hm.kp (thn (ha pos pins s1 σ H1 _ I1 q) fun us s2 ⟨vs,H2,I2,r,q2⟩=>⟨I2.kIn, ?_⟩) hst hpl
 exact QV (us:=.ref a::us) (vs:=.ref a::vs) (dvs:=[]) F hr hb .nil Zc6 I2 (.cons rfl r) (by rw[ZqR];exact q2)
theorem ZG {pl:Sem Bool} (G:OkM X.prog X.w X.K X.mg X.base k n m ps sp) (hr:JH k X.A) (he:PE X o ta)
  (ht:eval (.Call (.Attribute o m apos) [] [] pos) X.env=(do
   let ov <- eval o X.env
   standAt apos.atName
   let (f,first) <- holding [ov] (getMethod ov m pl)
   callWith pos f first (backTo pos (starEach [] X.env)) (backToKw pos (keywordEach [] X.env))):=by rfl) :
  PE X (.Call (.Attribute o m apos) [] [] pos) (QQ X.K n m sp ta ZaL):=by
 obtain⟨C,f,fd,hC,c,hm,F,hb⟩:=G
 intro pins s σ H Q I h
 refine PySem.W.methodCall_KW (pl:=pl) (thn (he pins s σ H _ I h) fun u s1 ⟨x,H1,I1,rx,a,C',dx,fs,ex,ea,hC',l,q⟩=>?_) ht
 subst ex
 obtain rfl:=hC.inj hC'
 obtain rfl:u=Value.ref a:=rx
 obtain⟨mA,O,r⟩:=Us I1 ea
 refine Q8 I1.kIn O (c.get m) hm.at_ hm.fn (QI.none_of (by rw[<- l];exact r m)) ?_
 exact PySem.W.callWith_K0 (first:=[.ref a]) I1.kIn hm.kp (QV (us:=[.ref a]) (vs:=[.ref a]) (dvs:=[]) F hr hb .nil Zc6 I1 (.cons rfl .nil) q)
def OkC (P:Program) (w:World) (K:W.Frag) (mg:Str->Option Value) (base:Heap) (k:Nat) (n:Str) (ps:List Str) (sp:Sp):Prop:=
 ∃C f fd,JR K n C/\mg n=some (.ref C)/\Mk K C f/\Jb P w K mg base CX0 k f fd ps sp/\VH K fd ps []
noncomputable def Zgg (K:W.Frag) (n:Str) (sp:Sp) (t:TA):TE:=fun σ H Q=>t σ H fun vs H1=>∀x dx C,JR K n C->H1 x=none->H1 dx=none->dx≠x ->
 sp (.ref x::vs) (upd (upd H1 dx (.own x)) x (.ins C dx [])) (fun v H2=>v=.non/\Q (.ref x) H2) E0
theorem ZbI {p:Pos} (G:OkC X.prog X.w X.K X.mg X.base k n ps sp) (hr:JH (k+1) X.A) (hg:Gl X n) (ha:PA X (e::es) t) (hdb:(n==("__debug__":Str))=false:=by decide)
  (he:starEach (e::es) X.env=(false,eval e X.env)::starEach es X.env:=by rfl) (hpl:(backTo pos (starEach es X.env)).any (·.1)=false:=by rfl) :
  PE X (.Call (.Name n p) (e::es) [] pos) (Zgg X.K n sp t):=by
 obtain⟨C,f,fd,hC,hm,M,F,hb⟩:=G
 intro pins s σ H Q I h
 refine wpAny_Call_Name_kw (JI I hg hm ?_ hdb)
 refine PySem.W.callWith_K (h₀:=X.base) I.ok.mod.kin M.kp (thn (ha pos pins s σ H _ I h) fun us s1 ⟨vs,H1,I1,r,q⟩=>⟨I1.kIn, ?_⟩) he hpl
 exact Zfh (dvs:=[]) M F hr hb .nil Zc6 I1 r fun x dx h1 h2 h3=>by rw[ZqR];exact q x dx C hC h1 h2 h3
end
theorem Ug {α:Type}{f:Str}:∀{gs:List Str}{vs:List α},gs.length=vs.length->(gs.zip vs).lookup f=vs[gs.idxOf f]?
 |[],[],_=>rfl
 |[],_::_,h=>by simp at h
 |_::_,[],h=>by simp at h
 |g::gs,v::vs,h=>by
  have ih:=Ug (f:=f) (gs:=gs) (vs:=vs) (by simpa using h)
  rw[Zrd,ZqS,ZrG]
  by_cases e:g=f
  ·subst e;simp
  ·have e1:(f==g)=false:=beq_eq_false_iff_ne.mpr (Ne.symm e)
   have e2:(g==f)=false:=beq_eq_false_iff_ne.mpr e
   rw[e1,e2]
   simpa using ih
noncomputable def pFld (n f:Str) (x:PV):Rr PV:=match x with
 |.box _ (.ob m gs) xs=>if m=n then match xs[gs.idxOf f]? with
  |some y=>.ok y
  |none=>.bad
  else .bad
 |_=>.bad
noncomputable def obG (n m:Str) (x:PV):Rr PV:=match x with
 |.box _ (.ob k gs) _=>if k=n/\m ∉ gs then .ok .non else .bad
 |_=>.bad
theorem Dn.pFld {n f:Str}{x:PV}{ok:PV->Prop}{ex:PX->Prop} (d:Dn (pFld n f x) ok ex):∃p gs xs y,x=.box p (.ob n gs) xs/\xs[gs.idxOf f]?=some y/\ok y:=by
 unfold L2.pFld at d
 split at d
 ·rename_i p m gs xs
  split at d
  ·rename_i e
   subst e
   split at d
   ·rename_i y ey
    exact⟨p,gs,xs,y,rfl,ey,d⟩
   ·exact d.elim
  ·exact d.elim
 ·exact d.elim
theorem Dn.obG {n m:Str}{x:PV}{ok:PV->Prop}{ex:PX->Prop} (d:Dn (obG n m x) ok ex):∃p gs xs,x=.box p (.ob n gs) xs/\m ∉ gs/\ok .non:=by
 unfold L2.obG at d
 split at d
 ·rename_i p k gs xs
  split at d
  ·rename_i e
   obtain⟨rfl,e⟩:=e
   exact⟨p,gs,xs,rfl,e,d⟩
  ·exact d.elim
 ·exact d.elim
def ObC (K:W.Frag) (n:Str) (fs:List Str):Prop:=∃C,JR K n C/\Cls K C/\∀f∈fs,UT K C f
theorem Zby {α:Type}{f:Str}{gs:List Str}{vs:List α} (h:gs.length=vs.length) (hf:f ∉ gs):(gs.zip vs).lookup f=none:=by
 rw[Ug h,ZqH]
 rw[<- h,List.idxOf_eq_length hf]
 exact ZqG _
section
variable {K:W.Frag}{B:Addr->Prop}{EX:PX->Hp->Prop}{H0 H H':Hp}{σ:St}{Γ Γ':List Md}{ρ:List PV}{F:Nat->List Addr}{R:List Addr}{te:TE}{ta t:TA}{f:List PV->Rr PV}{fa:List PV->Rr (List PV)}{fs:List Str}{n fl m:Str}{i:Nat}{k:Kd}{sp:Sp}
theorem Rep.fld {S:Addr->Prop}{p:Option Addr}{gs:List Str}{xs:List PV}{v:V}{y:PV} (h:Rep K H S (.box p (.ob n gs) xs) v) (e:xs[gs.idxOf fl]?=some y):∃a C dx fs w,v=.ref a/\Rd H a (.ins C dx fs)/\JR K n C/\fs.lookup fl=some w/\Rep K H S y w:=by
 obtain⟨a,vs,u,rfl,⟨rd,_⟩,⟨_,hl,C,dx,rfl,hC⟩,hr⟩:=h
 obtain⟨w,e1,e2⟩:=hr.get e
 exact⟨a,C,dx,_,w,rfl,rd,hC,by rw[Ug hl];exact e1,e2⟩
theorem Vr (O:ObC K n fs) (hf:fl∈fs) (he:DE K EX Γ Γ' .A te f):DE K EX Γ Γ' .A (Zdl K te fl) (fun ρ=>(f ρ).bind (pFld n fl)):=fun B H0 H σ ρ F R Q A d=>by
 obtain⟨C,hC,c,na⟩:=O
 refine he B H0 H σ ρ F R _ A (d.bind.imp (fun x _ d v H1 s1 r=>?_) fun e q=>q)
 obtain⟨F1,f1,p1,A1⟩:=r
 obtain⟨p,gs,xs,y,rfl,ey,d⟩:=Dn.pFld d
 obtain⟨a,C',dx,fs',w,rfl,rd,hC',l,ry⟩:=p1.fld ey
 obtain rfl:=hC.inj hC'
 exact⟨a,C,dx,fs',w,rfl,rd,c,na _ hf,l,d w H1 s1 ⟨F1,f1,ry,A1⟩⟩
theorem Zbm (O:ObC K n fs) (hf:fl∈fs) (he:DE K EX Γ Γ' .Z te f):DE K EX Γ Γ' .Z (Zdl K te fl) (fun ρ=>(f ρ).bind (pFld n fl)):=fun B H0 H σ ρ F R Q A d=>by
 obtain⟨C,hC,c,na⟩:=O
 refine he B H0 H σ ρ F R _ A (d.bind.imp (fun x _ d v H1 s1 r=>?_) fun e q=>q)
 obtain⟨F1,f1,p1,A1⟩:=r
 obtain⟨p,gs,xs,y,rfl,ey,d⟩:=Dn.pFld d
 obtain⟨a,C',dx,fs',w,rfl,rd,hC',l,ry⟩:=p1.fld ey
 obtain rfl:=hC.inj hC'
 exact⟨a,C,dx,fs',w,rfl,rd,c,na _ hf,l,d w H1 s1 ⟨F1,f1,ry,A1⟩⟩
theorem ZdX {Q:VK}{md:Md} (hi:Γ[i]?=some md) (hmd:md≠.U) (A:Ag K B H0 H σ Γ ρ F R) {p:Option Addr}{gs:List Str}{xs:List PV} (e:ρ.getD i .non=.box p (.ob n gs) xs) (hm:m ∉ gs) (h:Vd sp (J1 (VS i) t) σ H Q):QQ K n m sp (VS i) t σ H Q:=by
 obtain⟨v,h1,h2⟩:=A.getA hi hmd
 rw[e] at h2
 obtain⟨a,vs,u,rfl,⟨rd,_⟩,⟨_,hl,C,dx,rfl,hC⟩,hr⟩:=h2
 obtain⟨v',h1',h⟩:=h
 rw[h1] at h1';cases h1'
 exact⟨.ref a,h1,a,C,dx,_,rfl,rd,hC,Zby hl hm,h⟩
theorem DE.meth {md:Md} (hi:Γ[i]?=some md) (hmd:md≠.U) (h:DE K EX Γ Γ' k (Vd sp (J1 (VS i) t)) f):DE K EX Γ Γ' k (QQ K n m sp (VS i) t) (fun ρ=>(obG n m (gv i ρ)).bind fun _=>f ρ):=fun B H0 H σ ρ F R Q A d=>by
 obtain⟨p,gs,xs,e,hm,d⟩:=Dn.obG d.bind
 exact ZdX hi hmd A e hm (h B H0 H σ ρ F R Q A d)
theorem DM.meth {fm:List PV->Rr (PV×PV)} (hi:Γ[i]?=some .O) (h:DM K EX Γ i (Vd sp (J1 (VS i) t)) fm):DM K EX Γ i (QQ K n m sp (VS i) t) (fun ρ=>(obG n m (gv i ρ)).bind fun _=>fm ρ):=fun B H0 H σ ρ F Q A d=>by
 obtain⟨p,gs,xs,e,hm,d⟩:=Dn.obG d.bind
 exact ZdX hi (by decide) A e hm (h B H0 H σ ρ F Q A d)
noncomputable def ZiD (n:Str) (m:PV->List PV->Rr PV) (xs:List PV):Rr PV:=match m (.box none (.ob n []) []) xs with
 |.ok (.tup [.non,.box none s ys])=>.ok (.box none s ys)
 |_=>.bad
theorem Zhl {m:PV->List PV->Rr PV}{xs ys:List PV}{s:Sh} (h:m (.box none (.ob n []) []) xs=.ok (.tup [.non,.box none s ys])):ZiD n m xs=.ok (.box none s ys):=by
 unfold ZiD;simp only[h]
theorem Ze7 {l:Nat}{mm:PV->List PV->Rr PV} (hn:Len fa l) (ha:DAA K EX Γ Γ' ta fa):DE K EX Γ Γ' .F (Zgg K n (spM K l 0 mm) ta) (fun ρ=>(fa ρ).bind (ZiD n mm)):=fun B H0 H σ ρ F R Q A d=>by
 refine ha B H0 H σ ρ F R _ A (d.bind.imp (fun xs ex d vs H1 F1 s1 f1 p1 A1 x dx C hC hx hdx hne=>?_) fun e q=>q)
 unfold ZiD at d
 split at d
 ·rename_i s ys em
  have s2:Zw H1 (upd (upd H1 dx (.own x)) x (.ins C dx [])):=(Zw.newO hdx).trans (Zw.newO (by rw[Zl (Ne.symm hne)];exact hx))
  have nx:∀{a u},Rd H1 a u->a≠x:=fun {a u} r z=>by
   rw[z] at r
   rcases r with r|⟨o,r⟩<;>(rw[hx] at r;cases r)
  refine⟨fun a=>a≠x,xs,vs,x,.ob n [],[],[x],rfl,hn ρ xs ex,Reps.mono (fun a u _ r=>⟨r.same s2,nx r⟩) (fun a u r=>s2.im r) p1,⟨x,[],_,[],rfl,Zt,⟨trivial,rfl,C,dx,rfl,hC⟩,⟨rfl,rfl⟩,by simp,rfl⟩,fun b hb z=>hb (by simpa using z), ?_⟩
  rw[em]
  refine⟨.non,s,ys,rfl,fun u H' G1 G2 sm t1 t2 dj n1 n2=>⟨t1.1, ?_⟩⟩
  have s3:Zw H1 H':=fun a o e=>by
   have ne:a≠x:=fun z=>by rw[z,hx] at e;cases e
   refine sm a o ?_
   rw[Z9 (by simpa using ne)]
   exact s2 a o e
  have fr:∀b∈G2,H1 b=none:=fun b hb=>by
   have:=n2 b hb
   by_cases q:b=x
   ·rw[q];exact hx
   ·rw[Z9 (by simpa using q),Zl q] at this
    by_cases q2:b=dx
    ·rw[q2];exact hdx
    ·rw[Zl q2] at this;exact this
  refine d _ H' (s1.trans s3) ⟨F1,f1,G2,t2,fun b hb=>⟨(A1.fresh (fr b hb)).1,.inl (s1.free (fr b hb))⟩,A1.more s3 fr t2.alive⟩
 ·exact d.elim
noncomputable def Uf (m:PV->List PV->Rr PV) (x:PV) (xs:List PV):Rr (PV×PV):=if PV.flats xs=true then ZfY m x xs else .bad
theorem VA {l:Nat}{mm:PV->List PV->Rr PV} (hm:Γ[i]?=some .O) (hn:Len fa l) (ha:DAA K EX Γ Γ ta fa):DM K EX Γ i (Vd (spM K l 0 mm) (J1 (VS i) ta)) (fun ρ=>(fa ρ).bind fun xs=>Uf mm (gv i ρ) xs):=fun B H0 H σ ρ F Q A d=>by
 obtain⟨v0,h10,_⟩:=A.getO hm
 refine⟨v0,h10,ha B H0 H σ ρ F [] _ A (d.bind.imp (fun xs ea d vs H1 F1 s1 f1 p1 A1=>?_) fun e q=>q)⟩
 unfold Uf at d
 split at d
 rotate_left
 ·exact d.elim
 rename_i hfl
 obtain⟨v,h1,h2⟩:=A1.getO hm
 rw[h10] at h1;cases h1
 have hi:=A1.lt hm
 unfold ZfY at d
 split at d
 rotate_left
 ·exact d.elim
 rename_i p s ys er
 rw[show ρ.getD i .non=.box p s ys from er] at h2
 split at d
 rotate_left
 ·exact d.elim
 rename_i y s2 ys2 em
 obtain⟨a,ws,u0,G0,rfl,hH,hb,ht,hna,hF⟩:=id h2
 refine⟨fun b=>b ∉ F1 i,xs,vs,a,s,ys,F1 i,rfl,hn ρ xs ea,p1.flatS hfl,h2.unpin,fun b hb z=>hb z, ?_⟩
 rw[em]
 refine⟨y,s2,ys2,rfl,fun u H' G1 G2 sm t1 t2 dj n1 n2=>?_⟩
 have AL:=(A1.move hm).lost sm
 have nw:∀b,minus H1 (F1 i) b=none->(∀l,b ∉ Jy F1 i [] l)/\H0 b=none:=fun b hb=>by
  refine⟨fun l z=>?_, ?_⟩
  ·by_cases q:l=i
   ·subst q;rw[Zs] at z;simp at z
   ·rw[Zx q] at z
    rw[Z9 (fun w=>A1.disj l i q b z w)] at hb
    obtain⟨o,e⟩:=A1.live l b z
    rw[hb] at e;cases e
  ·by_cases q:b∈F1 i
   ·exact A1.young i b q
   ·rw[Z9 q] at hb
    exact A1.same.free hb
 have AM:Ag K B H0 H' σ (Γ.set i .U) ρ (Jy F1 i []) (G2++(G1++[])):=by
  refine⟨AL.same,AL.own,AL.young,fun b hb=>?_,AL.live,fun b hb=>?_,AL.disj,fun l b hb z=>?_,AL.lenS,AL.lenR,fun l=>?_⟩
  ·rcases Zq9.mp hb with z|z
   ·exact(nw b (n2 b z)).2
   ·exact(nw b (n1 b (by simpa using z))).2
  ·rcases Zq9.mp hb with z|z
   ·exact t2.alive b z
   ·exact t1.alive b (by simpa using z)
  ·rcases Zq9.mp z with z|z
   ·exact(nw b (n2 b z)).1 l hb
   ·exact(nw b (n1 b (by simpa using z))).1 l hb
  ·refine((A1.move hm).slot l).mono (fun b o s r=>⟨(r.minus (fun z=>s.2.1 (by simp[z]))).same sm,s.1,fun z=>?_,s.2.2⟩) (fun b o r=>sm.im (r.minus fun c hc=>A1.live i c hc)) fun b hb o q=>sm _ _ ?_
   ·have hb:minus H1 (F1 i) b≠none:=by
     rw[Z9 (fun z=>s.2.1 (by simp[z]))]
     rcases r with r|⟨o',r⟩<;>(rw[r];simp)
    rcases Zq9.mp z with z|z
    ·exact hb (n2 b z)
    ·exact hb (n1 b (by simpa using z))
   ·rw[Z9 (fun z=>(A1.move hm).disjR l b hb (by simp[z]))];exact q
 have AP:=Ag.put (i:=i) (m:=.O) (x:=.box p s2 ys2) (v:=.ref a) (G:=G2) (R:=G1++[]) AM (by rw[Zrb];exact hi) (fun b hb z=>dj b (by simpa using z) hb) ⟨.ref a,rfl,t2.repin hb.1⟩
 rw[Ziq h10,List.set_set,Zff hm] at AP
 refine d u H' _ G1 ((Frm.of s1 f1).trans fun b o h n=>?_) t1 (fun b hb=>?_) AP
 ·have e:minus H1 (F1 i) b=some o:=by rw[Z9 (n i)];exact h
  refine⟨sm _ _ e,fun l z=>?_⟩
  by_cases q:l=i
  ·subst q
   rw[Zs] at z
   rw[n2 b z] at e;cases e
  ·rw[Zx q,Zx q] at z
   exact n l z
 ·have:=n1 b hb
  by_cases q:b∈F1 i
  ·exact .inr ⟨i,f1 i b q⟩
  ·rw[Z9 q] at this;exact .inl (s1.free this)
end
section
variable {K:W.Frag}{H:Hp}
mutual
theorem ZD.flat_nil:∀{x:PV}{v:V}{G:List Addr},x.flat=true->ZD K H x v G->G=[]
 |.non,_,_,_,h=>h.2
 |.bl _,_,_,_,h=>h.2
 |.int _,_,_,_,h=>h.2
 |.str _,_,_,_,h=>h.2
 |.exc _,_,_,_,h=>h.2
 |.exa _ _,_,_,_,h=>h.2
 |.box _ _ _,_,_,f,_=>by simp[PV.flat] at f
 |.lst _,_,_,f,_=>by simp[PV.flat] at f
 |.tup xs,_,_,f,h=>by
  obtain⟨a,vs,rfl,ha,ht⟩:=h
  exact Trees.flat_nil (by simpa[PV.flat] using f) ht
 |.fz xs,_,_,f,h=>by
  obtain⟨a,vs,rfl,ha,ht⟩:=h
  exact Trees.flat_nil (by simpa[PV.flat] using f) ht
theorem Trees.flat_nil:∀{xs:List PV}{vs:List V}{G:List Addr},PV.flats xs=true->Trees K H xs vs G->G=[]
 |[],_,_,_,h=>h.2
 |x::xs,_,_,f,h=>by
  obtain⟨v,r,G1,G2,rfl,h3,h4,hd,rfl⟩:=h
  simp only[PV.flats,Bool.and_eq_true] at f
  rw[ZD.flat_nil f.1 h3,Trees.flat_nil f.2 h4];rfl
end
theorem Trees.upL {ys:List PV} (hf:PV.flats ys=true):∀{xs:List PV}{vs:List V}{G:List Addr}{j:Nat},Trees K H xs vs G->xs[j]?=some (.lst ys) ->
  ∃l ws,vs[j]?=some (.ref l)/\H l=some (.lst ws)/\Reps K H (fun _=>True) ys ws/\l∈G/\∀ys' ws',PV.flats ys'=true->Reps K H (fun _=>True) ys' ws'->Trees K (upd H l (.lst ws')) (xs.set j (.lst ys')) vs G
 |[],_,_,_,_,e=>by simp at e
 |x::xs,_,_,0,h,e=>by
  obtain⟨v,r,G1,G2,rfl,h3,h4,hd,rfl⟩:=h
  simp only[Zra,Option.some.injEq] at e
  subst e
  obtain⟨l,ws,G,rfl,hl,ht,hn,rfl⟩:=h3
  have hG:=Trees.flat_nil hf ht
  subst hG
  refine⟨l,ws,rfl,hl,ht.reps fun _ _=>trivial,by simp,fun ys' ws' f r'=>⟨.ref l,r,[l],G2,rfl,⟨l,ws',[],rfl,Zt,(Reps.trees f r').put hl (by simp),by simp,rfl⟩,h4.put hl (hd l (by simp)),hd,rfl⟩⟩
 |x::xs,_,_,j+1,h,e=>by
  obtain⟨v,r,G1,G2,rfl,h3,h4,hd,rfl⟩:=h
  obtain⟨l,ws,e1,hl,hr,hm,up⟩:=Trees.upL hf (j:=j) h4 (by simpa using e)
  exact⟨l,ws,by simpa using e1,hl,hr,by simp[hm],fun ys' ws' f r'=>⟨v,r,G1,G2,rfl,h3.put hl (fun z=>hd l z hm),up ys' ws' f r',hd,rfl⟩⟩
end
theorem Zfx {F:Nat->List Addr}{i:Nat}:Jy F i (F i)=F:=by
 funext j
 by_cases q:j=i
 ·subst q;exact Zs
 ·exact Zx q
theorem Zfg {ρ:List PV}{i:Nat}:ρ.set i (gv i ρ)=ρ:=by
 apply Zr8
 intro q
 by_cases e:i=q
 ·subst e
  by_cases h:i<ρ.length
  ·rw[ZqF h,gv,Zq5,Zq6 h];rfl
  ·rw[ZqH (by simpa using h),ZqH (by simpa using h)]
 ·rw[ZqB e]
section
variable {K:W.Frag}{B:Addr->Prop}{EX:PX->Hp->Prop}{H0 H H':Hp}{σ:St}{Γ Γ1 Γ2:List Md}{ρ:List PV}{F F':Nat->List Addr}{R:List Addr}{te tb:TE}{f:List PV->Rr PV}{fm fm2:List PV->Rr (PV×PV)}{fs:List Str}{n fl m:Str}{i l:Nat}{k:Kd}
theorem Ag.fldL {p:Option Addr}{gs:List Str}{xs ys:List PV} (A:Ag K B H0 H σ Γ ρ F R) (hm:Γ[i]?=some .O) (e:ρ.getD i .non=.box p (.ob n gs) xs) (hj:xs[gs.idxOf fl]?=some (.lst ys)) (hf:PV.flats ys=true) :
  ∃a C dx fs l ws,σ[i]?=some (some (.ref a))/\H a=some (.ins C dx fs)/\JR K n C/\fs.lookup fl=some (.ref l)/\H l=some (.lst ws)/\l≠a/\Reps K H (fun _=>True) ys ws/\l∈F i /\
   ∀ys' ws',PV.flats ys'=true->Reps K H (fun _=>True) ys' ws'->Ag K B H0 (upd H l (.lst ws')) σ Γ (ρ.set i (.box p (.ob n gs) (xs.set (gs.idxOf fl) (.lst ys')))) F R:=by
 obtain⟨v,h1,h2⟩:=A.getO hm
 rw[e] at h2
 obtain⟨a,vs,u,G,rfl,ha,⟨hp,hl,C,dx,rfl,hC⟩,ht,hn,hF⟩:=h2
 obtain⟨q,ws,e1,e2,e3,e4,up⟩:=Trees.upL hf ht hj
 have hqa:q≠a:=fun z=>hn (z▸e4)
 have hqF:q∈F i:=by rw[hF];simp[e4]
 refine⟨a,C,dx,_,q,ws,h1,ha,hC,by rw[Ug hl];exact e1,e2,hqa,e3,hqF,fun ys' ws' f r=>?_⟩
 have AC:=Ag.chg (G:=[]) (G':=F i) (R:=R) (x':=.box p (.ob n gs) (xs.set (gs.idxOf fl) (.lst ys'))) (vs':=ws') A hm hqF (fun b hb=>.inl hb) (by simp) ⟨_,h1,a,vs,_,G,rfl,by rw[Zl (Ne.symm hqa)];exact ha,⟨hp,hl,C,dx,rfl,hC⟩,up ys' ws' f r,hn,hF⟩
 rw[Zfx] at AC
 exact AC
def DMf (K:W.Frag) (EX:PX->Hp->Prop) (Γ:List Md) (i:Nat) (te:TE) (fm:List PV->Rr (PV×PV)):Prop:=
 ∀(B:Addr->Prop) (H0 H:Hp) (σ:St) (ρ:List PV) (F:Nat->List Addr) (Q:VK),Ag K B H0 H σ Γ ρ F [] ->
  Dn (fm ρ) (fun r=>∀v H' F',Frm H F H' F'->(∀a C dx fs,H a=some (.ins C dx fs)->H' a=some (.ins C dx fs))->r.1.flat=true->Rep K H' (fun _=>True) r.1 v->Ag K B H0 H' σ Γ (ρ.set i r.2) F' []->Q v H') (fun e=>∀H',Zw H0 H'->EX e H')->te σ H Q
theorem DMf.dm (h:DMf K EX Γ i te fm):DM K EX Γ i te fm:=fun B H0 H σ ρ F Q A d =>
 h B H0 H σ ρ F Q A (d.imp (fun r _ q v H' F' fr _ hf rp A'=>q v H' F' [] fr (rp.tree hf) (by simp) A') fun e q=>q)
theorem Zcj (he:DE K EX Γ Γ .P te f):DMf K EX Γ i te (fun ρ=>(f ρ).bind fun x=>.ok (x,gv i ρ)):=fun B H0 H σ ρ F Q A d=>by
 refine he B H0 H σ ρ F [] _ A (d.bind.imp (fun x _ d v H1 s1 r=>?_) fun e q=>q)
 obtain⟨F1,f1,hf,p1,A1⟩:=r
 exact d v H1 F1 (Frm.of s1 f1) (fun a C dx fs e=>s1 _ _ e) hf p1 (by rw[Zfg];exact A1)
noncomputable def popL (ys:List PV):Rr (PV×List PV):=if PV.flats ys=true/\ys.length≠0 then .ok (ys.getD (ys.length-1) .non,ys.dropLast) else .bad
theorem Dn.popL {ys:List PV}{ok:PV×List PV->Prop}{ex:PX->Prop} (d:Dn (popL ys) ok ex):PV.flats ys=true/\0<ys.length/\ok (ys.getD (ys.length-1) .non,ys.dropLast):=by
 unfold L2.popL at d
 split at d
 ·rename_i h
  exact⟨h.1,by omega,d⟩
 ·exact d.elim
noncomputable def Uw (n fl:Str) (x:PV) (ys:List PV):Rr PV:=match x with
 |.box p (.ob m gs) xs=>.ok (.box p (.ob m gs) (xs.set (gs.idxOf fl) (.lst ys)))
 |_=>.bad
noncomputable def ZgR (n fl:Str) (x:PV):Rr (PV×PV):=(pFld n fl x).bind fun y=>(asL y).bind fun ys=>(popL ys).bind fun r=>(Uw n fl x r.2).bind fun z=>.ok (r.1,z)
theorem Qj {ys:List PV} (h:PV.flats ys=true) (h0:0<ys.length):(ys.getD (ys.length-1) .non).flat=true:=by
 have hx:ys[ys.length-1]?=some (ys.getD (ys.length-1) .non):=by rw[Zq5,Zq6 (by omega)];rfl
 exact PV.flats_all.mp h _ (ZqU hx)
theorem ZcP {ys:List PV} (h:PV.flats ys=true):PV.flats ys.dropLast=true:=PV.flats_all.mpr fun x hx=>PV.flats_all.mp h x (List.dropLast_subset _ hx)
theorem Zdt {S:Addr->Prop}{ys:List PV}{ws:List V} (h:Reps K H S ys ws):Reps K H S ys.dropLast ws.dropLast:=by
 rw[List.dropLast_eq_take,List.dropLast_eq_take,h.length];exact h.take _
theorem Zds {S:Addr->Prop}{ys:List PV}{ws:List V} (h:Reps K H S ys ws) (h0:0<ys.length):∃w,ws[ws.length-1]?=some w/\Rep K H S (ys.getD (ys.length-1) .non) w:=by
 have hx:ys[ys.length-1]?=some (ys.getD (ys.length-1) .non):=by rw[Zq5,Zq6 (by omega)];rfl
 obtain⟨w,e1,e2⟩:=h.get hx
 exact⟨w,by rw[h.length];exact e1,e2⟩
theorem ZfG {x:PV}{v:V}{q:Addr}{ws:List V}{o:HO} (hq:H q=some (.lst ws)) (hf:x.flat=true) (h:Rep K H (fun _=>True) x v):Rep K (upd H q o) (fun _=>True) x v:=((h.tree hf).put hq (by simp)).rep (by simp)
theorem Zev {q:Addr}{o:HO} (hq:q∈F i):Frm H F (upd H q o) F:=fun b u h n=>⟨by rw[Zl (fun z=>n i (by rw[z];exact hq))];exact h,n⟩
theorem Zbj (O:ObC K n fs) (hf:fl∈fs) (hm:Γ[i]?=some .O):DMf K EX Γ i (ZkL K "list" ZkS (Zdl K (VS i) fl)) (fun ρ=>ZgR n fl (gv i ρ)):=fun B H0 H σ ρ F Q A d=>by
 obtain⟨C,hC,c,na⟩:=O
 obtain⟨p,gs,xs,y,e,ey,d⟩:=Dn.pFld d.bind
 obtain⟨ys,ye,d⟩:=Dn.asL d.bind
 rw[ye] at ey
 obtain⟨hfl,h0,d⟩:=Dn.popL d.bind
 have e':ρ.getD i .non=.box p (.ob n gs) xs:=e
 obtain⟨a,C',dx,fs',q,ws,h1,ha,hC',lk,hq,hqa,hr,hqF,up⟩:=A.fldL hm e' ey hfl
 obtain rfl:=hC.inj hC'
 dsimp only at d
 rw[e] at d
 have d:(∀v H' F',_):=d
 obtain⟨w,hw,rw'⟩:=Zds hr h0
 refine⟨.ref a,h1,a,C,dx,fs',.ref q,rfl,.inl ha,c,na _ hf,lk,.inl ⟨rfl,_,SqL.of hq⟩,q,ws,w,rfl,rfl,hq,hw, ?_⟩
 refine d w _ F (Zev hqF) (fun b D ex gs' hb=>?_) (Qj hfl h0) (ZfG hq (Qj hfl h0) rw') (up _ _ (ZcP hfl) (Zdt hr))
 rw[Zl (fun z=>by rw[z,hq] at hb;cases hb)];exact hb
theorem ZfI {x:PV}{v:V} (A:Ag K B H0 H σ Γ ρ F R) (fr:Frm H F H' F') (hf:x.flat=true) (h:Rep K H (fun _=>True) x v):Rep K H' (fun _=>True) x v:=by
 refine ZD.rep (F:=[]) (by simp) (ZD.mono (by simp) (fun a u im=>?_) (h.tree hf))
 refine⟨(fr a u im.1 fun j z=>?_).1,im.2⟩
 obtain⟨vs,q⟩:=A.live j a z
 rw[im.1] at q
 exact Uq vs.2 im.2 (Option.some.inj q)
theorem ZfO (h1:DMf K EX Γ i te fm) (h2:DMf K EX Γ i tb fm2):DMf K EX Γ i (Zj5 (J1 te (J1 tb ZaL))) (fun ρ=>(fm ρ).bind fun r=>(fm2 (ρ.set i r.2)).bind fun q=>.ok (.tup [r.1,q.1],q.2)):=fun B H0 H σ ρ F Q A d=>by
 refine h1 B H0 H σ ρ F _ A (d.bind.imp (fun r _ d v H1 F1 fr1 k1 hf1 p1 A1=>?_) fun e q=>q)
 refine h2 B H0 H1 σ _ F1 _ A1 (d.bind.imp (fun q _ d w H2 F2 fr2 k2 hf2 p2 A2=>?_) fun e q=>q)
 refine⟨by show 2<=_;rw[sizeLine_eq];decide,fun p hp=>?_⟩
 have s3:Zw H2 (upd H2 p (.tup [v,w])):=Zw.new hp
 have A3:=A2.grow s3
 rw[List.set_set] at A3
 have p1':=ZfI A1 fr2 hf1 p1
 exact d _ _ F2 ((fr1.trans fr2).trans (Frm.of s3 fun _ _ h=>h)) (fun a C dx fs e=>s3 _ _ (k2 _ _ _ _ (k1 _ _ _ _ e))) (by simp[PV.flat,PV.flats,hf1,hf2]) ⟨p,_,rfl,⟨Zt,trivial⟩,v,_,rfl,p1'.same s3,w,_,rfl,p2.same s3,rfl⟩ A3
noncomputable def ZhL (n fl:Str) (x y:PV):Rr PV:=(pFld n fl x).bind fun z=>(asL z).bind fun ys=>if PV.flats ys=true/\ys.length<1000000 then Uw n fl x (ys++[y]) else .bad
noncomputable def Zhs (n fl:Str) (x:PV):Rr PV:=(pFld n fl x).bind fun z=>(asL z).bind fun ys=>if PV.flats ys=true then .ok .non else .bad
theorem UL (O:ObC K n fs) (hf:fl∈fs) (hm:Γ[i]?=some .O) (he:DMf K EX Γ i te fm):DS K EX Γ ⟨Γ,Γ1,Γ2,k⟩ (ZaM (tBM K "list" Uz (Zdl K (VS i) fl) (J1 te ZaL)))
  (fun ρ=>(Zhs n fl (gv i ρ)).thenS fun _=>(fm ρ).thenS fun r=>(ZhL n fl r.2 r.1).thenS fun z=>.next (ρ.set i z)):=fun B H0 H σ ρ F D A d=>by
 obtain⟨C,hC,c,na⟩:=O
 have d:=d.thenS
 obtain⟨p,gs,xs,y,e,ey,d⟩:=Dn.pFld d.bind
 obtain⟨ys,ye,d⟩:=Dn.asL d.bind
 rw[ye] at ey
 split at d
 rotate_left
 ·exact d.elim
 rename_i hfl
 have e':ρ.getD i .non=.box p (.ob n gs) xs:=e
 obtain⟨a,C',dx,fs',q,ws,h1,ha,hC',lk,hq,hqa,hr,hqF,up⟩:=A.fldL hm e' ey hfl
 obtain rfl:=hC.inj hC'
 refine⟨.ref a,h1,a,C,dx,fs',.ref q,rfl,.inl ha,c,na _ hf,lk,.inl ⟨rfl,_,SqL.of hq⟩, ?_⟩
 refine he B H0 H σ ρ F _ A ((show DnS _ _ _ _ _ _ _ _ _ from d).thenS.imp (fun r _ d v H1 F1 fr1 k1 hf1 p1 A1=>?_) fun e q=>q)
 have d:=d.thenS
 obtain⟨p2,gs2,xs2,y2,e2,ey2,d⟩:=Dn.pFld d.bind
 obtain⟨ys2,ye2,d⟩:=Dn.asL d.bind
 rw[ye2] at ey2
 split at d
 rotate_left
 ·exact d.elim
 rename_i hfl2
 have hi:=A.lt hm
 have e3:(ρ.set i r.2).getD i .non=.box p2 (.ob n gs2) xs2:=by
  rw[Zq5,ZqF (by rw[A.lenR];exact hi)];exact e2
 obtain⟨a2,C2,dx2,fs2,q2,ws2,h12,ha2,hC2,lk2,hq2,hqa2,hr2,hqF2,up2⟩:=A1.fldL hm e3 ey2 hfl2.1
 rw[h1] at h12;cases h12
 have hk:=k1 _ _ _ _ ha
 rw[ha2] at hk;cases hk
 rw[lk] at lk2;cases lk2
 rw[e2] at d
 refine⟨q,ws2,v,rfl,rfl,hq2,by rw[hr2.length];exact ZqD hfl2.2 (by rw[sizeLine_eq];decide), ?_⟩
 have A4:=up2 (ys2++[r.1]) (ws2++[v]) (by rw[PV.flats_append,hfl2.1];simp[PV.flats,hf1]) (hr2.append (Reps.one p1))
 rw[List.set_set] at A4
 exact(show ∀σ' H' F',_ from d) σ _ F1 (fr1.trans (Zev hqF2)) A4
end
noncomputable def Zdx (f:Str) (gs:List Str):List Str:=if f∈gs then gs else gs++[f]
noncomputable def ZaR {α:Type} (f:Str) (gs:List Str) (xs:List α) (y:α):List α:=if f∈gs then xs.set (gs.idxOf f) y else xs++[y]
theorem ZbD {f:Str}{v:V}:∀{gs:List Str}{vs:List V},gs.length=vs.length->Qd f v (gs.zip vs)=(Zdx f gs).zip (ZaR f gs vs v)
 |[],[],_=>by simp[Qd,Zdx,ZaR]
 |[],_::_,h=>by simp at h
 |_::_,[],h=>by simp at h
 |g::gs,w::vs,h=>by
  have ih:=ZbD (f:=f) (v:=v) (gs:=gs) (vs:=vs) (by simpa using h)
  unfold Zdx ZaR at ih ⊢
  rw[Zrd,Qd]
  by_cases e:g=f
  ·subst e
   simp[ZrG]
  ·have e2:(g==f)=false:=beq_eq_false_iff_ne.mpr e
   rw[if_neg e,ih]
   by_cases hm:f∈gs
   ·rw[if_pos hm,if_pos hm,if_pos (by simp[hm]),if_pos (by simp[hm]),ZrG,e2]
    simp
   ·have hm':f ∉ g::gs:=by simp[hm,Ne.symm e]
    rw[if_neg hm,if_neg hm,if_neg hm',if_neg hm']
    simp
theorem Zfj {α:Type}{f:Str}{gs:List Str}{vs:List α}{v:α} (h:gs.length=vs.length):(Zdx f gs).length=(ZaR f gs vs v).length:=by
 unfold Zdx ZaR
 split<;>simp[h]
noncomputable def pSetF (n f:Str) (x y:PV):Rr PV:=match x with
 |.box p (.ob m gs) xs=>if m=n/\gs.length<1000 then .ok (.box p (.ob m (Zdx f gs)) (ZaR f gs xs y)) else .bad
 |_=>.bad
theorem Dn.pSetF {n f:Str}{x y:PV}{ok:PV->Prop}{ex:PX->Prop} (d:Dn (pSetF n f x y) ok ex):∃p gs xs,x=.box p (.ob n gs) xs/\gs.length<1000/\ok (.box p (.ob n (Zdx f gs)) (ZaR f gs xs y)):=by
 unfold L2.pSetF at d
 split at d
 ·rename_i p m gs xs
  split at d
  ·rename_i h
   obtain⟨rfl,h⟩:=h
   exact⟨p,gs,xs,rfl,h,d⟩
  ·exact d.elim
 ·exact d.elim
section
variable {K:W.Frag}{B:Addr->Prop}{EX:PX->Hp->Prop}{H0 H H':Hp}{σ:St}{Γ Γ' Γ1 Γ2:List Md}{ρ:List PV}{F F':Nat->List Addr}{R:List Addr}{te:TE}{f:List PV->Rr PV}{fs:List Str}{n fl:Str}{i:Nat}{k:Kd}
theorem Trees.setN:∀{xs:List PV}{vs:List V}{G G1:List Addr}{j:Nat}{y:PV}{w:V},Trees K H xs vs G->ZD K H y w G1->(∀a∈G,a ∉ G1)->∃G',(∀a∈G',a∈G\/a∈G1)/\Trees K H (xs.set j y) (vs.set j w) G'
 |[],_,_,_,_,_,_,h,_,_=>⟨[],by simp,by rw[h.1];exact⟨rfl,rfl⟩⟩
 |x::xs,_,_,G3,0,y,w,h,h',hd=>by
  obtain⟨v,r,G1,G2,rfl,h1,h2,h3,rfl⟩:=h
  refine⟨G3++G2,fun a ha=>?_,w,r,G3,G2,rfl,h',h2,fun a ha z=>hd a (by simp[z]) ha,rfl⟩
  rcases Zq9.mp ha with z|z
  ·exact .inr z
  ·exact .inl (by simp[z])
 |x::xs,_,_,G3,j+1,y,w,h,h',hd=>by
  obtain⟨v,r,G1,G2,rfl,h1,h2,h3,rfl⟩:=h
  obtain⟨G',h4,h5⟩:=Trees.setN (j:=j) h2 h' fun a ha=>hd a (by simp[ha])
  refine⟨G1++G',fun a ha=>?_,v,r.set j w,G1,G',rfl,h1,h5,fun a ha z=>?_,rfl⟩
  ·rcases Zq9.mp ha with z|z
   ·exact .inl (by simp[z])
   ·rcases h4 a z with q|q
    ·exact .inl (by simp[q])
    ·exact .inr q
  ·rcases h4 a z with q|q
   ·exact h3 a ha q
   ·exact hd a (by simp[ha]) q
theorem Trees.putXs {xs:List PV}{vs:List V}{G G1:List Addr}{y:PV}{w:V}{gs:List Str} (h:Trees K H xs vs G) (h':ZD K H y w G1) (hd:∀a∈G,a ∉ G1):∃G',(∀a∈G',a∈G\/a∈G1)/\Trees K H (ZaR fl gs xs y) (ZaR fl gs vs w) G':=by
 unfold ZaR
 split
 ·exact Trees.setN h h' hd
 ·exact⟨G++G1,fun a ha=>Zq9.mp ha,Trees.append h (Trees.one h') hd⟩
theorem V7 (O:ObC K n fs) (hf:fl∈fs) (hm:Γ'[i]?=some .O) (he:DE K EX Γ Γ' .F te f):DS K EX Γ ⟨Γ',Γ1,Γ2,k⟩ (ZjP K (VS i) te fl) (fun ρ=>(f ρ).thenS fun y=>(pSetF n fl (gv i ρ) y).thenS fun z=>.next (ρ.set i z)):=fun B H0 H σ ρ F D A d=>by
 obtain⟨C,hC,c,na⟩:=O
 refine he B H0 H σ ρ F [] _ A (d.thenS.imp (fun y _ d v H1 s1 r=>?_) fun e q=>q)
 obtain⟨F1,f1,G1,t1,o1,A1⟩:=r
 obtain⟨p,gs,xs,e,hl,d⟩:=Dn.pSetF d.thenS
 obtain⟨w,h1,h2⟩:=A1.getO hm
 rw[show ρ.getD i .non=.box p (.ob n gs) xs from e] at h2
 obtain⟨a,vs,u,G,rfl,ha,⟨hp,hlen,C',dx,rfl,hC'⟩,ht,hn,hF⟩:=h2
 obtain rfl:=hC.inj hC'
 have haF:a∈F1 i:=by rw[hF];simp
 have dj:∀b∈G,b ∉ G1:=fun b hb z=>A1.disjR i b (by rw[hF];simp[hb]) (Zq8 _ z)
 have na1:a ∉ G1:=fun z=>A1.disjR i a haF (Zq8 _ z)
 obtain⟨G',g1,g2⟩:=Trees.putXs (fl:=fl) (gs:=gs) ht t1 dj
 have naG:a ∉ G':=fun z=>(g1 a z).elim hn na1
 refine⟨.ref a,h1,a,C,dx,_,rfl,ha,c,na _ hf,by rw[ZrF];omega, ?_⟩
 have hsub:∀b∈a::G',b∈F1 i\/b∈G1:=fun b hb=>by
  rw[hF]
  rcases ZqE.mp hb with rfl|hb
  ·simp
  ·rcases g1 b hb with z|z
   ·simp[z]
   ·exact .inr z
 refine(show ∀σ' H' F',_ from d) σ _ (Jy F1 i (a::G')) (Vo s1 f1 haF fun b hb=>?_) (Ag.chgB (o':=.ins C dx (Qd fl v (gs.zip vs))) (G:=G1) (R:=[]) trivial A1 hm haF hsub (by simp) ?_)
 ·rcases hsub b hb with z|z
  ·exact .inr ⟨i,f1 i b z⟩
  ·exact(o1 b z).2
 ·exact⟨_,h1,a,ZaR fl gs vs v,_,G',rfl,Zt,⟨hp,Zfj hlen,C,dx,by rw[ZbD hlen],hC⟩,g2.putL (us:=⟨.ins C dx (gs.zip vs),trivial⟩) ha naG,naG,rfl⟩
end
section
variable {X:Cx}{K:W.Frag}{o value:Expr}{f:Str}{pos pos':Pos}{ta tv:TE}
theorem Qy (ha:PE X o ta) (hv:PE X value tv) (eK:X.K=K:=by rfl) (hs:swapsWith value (some (.Attribute o f pos')) pos.line X.env=pure false:=by rfl):PS X (.Assign [.Attribute o f pos'] value pos) (ZjP K ta tv f):=by
 subst eK;exact Ziy ha hv hs
end
noncomputable def unp (x:PV):PV:=match x with
 |.box _ s xs=>.box none s xs
 |x=>x
section
end
noncomputable def VD (K:W.Frag) (n:Str) (fs:List Str):Bool:=match PySem.W.nsIn K mainGlobals n with
 |some (some (.ref C))=>PySem.W.plainGet K C Str.empty&&PySem.W.hasDictIn K C&&PySem.W.plainOver K C&&PySem.W.makesIn K C&&PySem.W.keepIn K (.ref C)&&(PySem.W.findIn K (.ref C) "__setattr__" == some (some (.builtin "object.__setattr__")))&&fs.all (fun f=>PySem.W.findIn K (.ref C) f==some none)
 |_=>false
theorem JN {K:W.Frag}{n:Str}{fs:List Str} (h:VD K n fs=true):∃C,JR K n C/\Cls K C/\(∀f∈fs,UT K C f)/\PySem.W.makesIn K C=true/\PySem.W.keepIn K (.ref C)=true:=by
 unfold VD at h
 split at h
 ·rename_i C e
  simp only[Bool.and_eq_true,ZqW,beq_iff_eq] at h
  obtain⟨⟨⟨⟨⟨⟨h1,h2⟩,h3⟩,h4⟩,h5⟩,h6⟩,h7⟩:=h
  exact⟨C,e,⟨h1,h2,h3,h6⟩,h7,h4,h5⟩
 ·cases h
theorem Zy {K:W.Frag}{n:Str}{fs:List Str} (h:VD K n fs=true):ObC K n fs:=let ⟨C,a,b,c,_⟩:=JN h;⟨C,a,b,c⟩
section
variable {P:Program}{w:World}{K:W.Frag}{mg:Str->Option Value}{base:Heap}{k:Nat}{n m qual:Str}{st:Stmt}{ps fs:List Str}{sp:Sp}
theorem Vy (h:VD K n fs=true) (d:UZ K n m qual st) (b:∀(kV doc pm:Value) (an:Option Addr) (cdv ct:Value) (us:List Value),us.length=ps.length->bindArgs (PySem.W.fnOf m qual (Zk st) (Zj st) (Zc st) .none kV doc pm an cdv ct) ⟨us,[]⟩=pure (ps.zip us))
  (hf:∀{f fd},Fun K m qual st f fd->Jb P w K mg base CX0 k f fd ps sp):OkM P w K mg base k n m ps sp:=by
 obtain⟨C,a,c,_,_⟩:=JN h
 obtain⟨C',f,fd,hC,h1,h2,F⟩:=d
 obtain rfl:=a.inj hC
 exact⟨C,f,fd,a,c,⟨h1,by unfold PySem.W.isFn;rw[h2];rfl,F.kp⟩,hf F,F.binds b⟩
theorem Zi9 (h:VD K n fs=true) (d:UZ K n "__init__" qual st) (hg:∀C,JR K n C->mg n=some (.ref C)) (b:∀(kV doc pm:Value) (an:Option Addr) (cdv ct:Value) (us:List Value),us.length=ps.length->bindArgs (PySem.W.fnOf "__init__" qual (Zk st) (Zj st) (Zc st) .none kV doc pm an cdv ct) ⟨us,[]⟩=pure (ps.zip us))
  (hf:∀{f fd},Fun K "__init__" qual st f fd->Jb P w K mg base CX0 k f fd ps sp):OkC P w K mg base k n ps sp:=by
 obtain⟨C,a,c,_,mk,kp⟩:=JN h
 obtain⟨C',f,fd,hC,h1,h2,F⟩:=d
 obtain rfl:=a.inj hC
 exact⟨C,f,fd,a,hg C a,⟨mk,h1,by unfold PySem.W.isFn;rw[h2];rfl,kp⟩,hf F,F.binds b⟩
end
noncomputable def Zdj (K:W.Frag) (n m:Str) (sp:Sp) (E:St->XK) (ta:TE):TE:=fun σ H Q=>ta σ H fun x H1=>∃a C dx fs,x=.ref a/\Rd H1 a (.ins C dx fs)/\JR K n C/\fs.lookup m=none/\sp [x] H1 Q (E σ)
def ZkD (P:Program) (w:World) (K:W.Frag) (mg:Str->Option Value) (base:Heap) (k:Nat) (n m:Str) (ps:List Str) (sp:Sp):Prop:=
 ∃C f fd,JR K n C/\Cls K C/\Zlj K C m f/\Jb P w K mg base (CX1 P w) k f fd ps sp/\VH K fd ps []
section
variable {X:Cx}{o:Expr}{n m:Str}{pos apos:Pos}{ta:TE}{k:Nat}{ps:List Str}{sp:Sp}{E:St->XK}
theorem Zd3 {pl:Sem Bool} (G:ZkD X.prog X.w X.K X.mg X.base k n m ps sp) (hr:JH k X.A) (hx:ZaH X E) (he:PE X o ta)
  (ht:eval (.Call (.Attribute o m apos) [] [] pos) X.env=(do
   let ov <- eval o X.env
   standAt apos.atName
   let (f,first) <- holding [ov] (getMethod ov m pl)
   callWith pos f first (backTo pos (starEach [] X.env)) (backToKw pos (keywordEach [] X.env))):=by rfl) :
  PE X (.Call (.Attribute o m apos) [] [] pos) (Zdj X.K n m sp E ta):=by
 obtain⟨C,f,fd,hC,c,hm,F,hb⟩:=G
 intro pins s σ H Q I h
 refine PySem.W.methodCall_KW (pl:=pl) (thn (he pins s σ H _ I h) fun u s1 ⟨x,H1,I1,rx,a,C',dx,fs,ex,ea,hC',l,q⟩=>?_) ht
 subst ex
 obtain rfl:=hC.inj hC'
 obtain rfl:u=Value.ref a:=rx
 obtain⟨mA,O,r⟩:=Us I1 ea
 refine Q8 I1.kIn O (c.get m) hm.at_ hm.fn (QI.none_of (by rw[<- l];exact r m)) ?_
 refine PySem.W.callWith_K0 (first:=[.ref a]) I1.kIn hm.kp ?_
 have rv:ZP [V.ref a] [Value.ref a]:=.cons rfl .nil
 have hl:(([Value.ref a]:List Value)++[]).length=ps.length:=by rw[ZqR,<- rv.length];exact F.len _ _ _ _ q
 have hb':=hb s1 [.ref a] I1.kIn hl
 rw[ZqR] at hb'
 refine wpAny_call (codeAny_mono (F.run X.A X.stack s1 H1 ⟨[.ref a],[]⟩ [.ref a] [.ref a] Q (E σ) hr I1.env0 hb' rv q) fun r s' hq=>?_)
 cases r with
 |error e=>exact hx pins σ H1 s1 e s' I1 hq
 |ok fl =>
  cases fl with
  |ret u=>exact I1.after hq
  |next=>exact False.elim hq
  |brk=>exact False.elim hq
  |cont=>exact False.elim hq
end
section
variable {K:PySem.W.Frag}{EX:PX->Hp->Prop}{Γ Γ':List Md}{te:TE}{f:List PV->Rr PV}{n m:Str}{W:PX->XK->Hp->Prop}{E:XK}{mm:List PV->Rr PV}
theorem Zcn (hW:∀e H',EX e H'->W e E H') (he:DE K EX Γ Γ' .A te f):DE K EX Γ Γ' .P (Zdj K n m (spF K 1 .P W mm) (fun _=>E) te) (fun ρ=>(f ρ).bind fun x=>(obG n m x).bind fun _=>mm [unp x]):=fun B H0 H σ ρ F R Q A d=>by
 refine he B H0 H σ ρ F R _ A (d.bind.imp (fun x _ d v H1 s1 r=>?_) fun e q=>q)
 obtain⟨F1,f1,p1,A1⟩:=r
 obtain⟨p,gs,xs,rfl,hm,d⟩:=Dn.obG d.bind
 obtain⟨a,vs,u,rfl,⟨rd,hS⟩,⟨hp,hl,C,dx,rfl,hC⟩,hr⟩:=p1
 refine⟨a,C,dx,_,rfl,rd,hC,Zby hl hm,fun _=>True,[.box none (.ob n gs) xs],⟨_,_,rfl,⟨a,vs,_,rfl,⟨rd,hS⟩,⟨trivial,hl,C,dx,rfl,hC⟩,hr⟩,rfl⟩,rfl, ?_⟩
 exact d.imp (fun x _ d v H2 s2 r=>d v H2 (s1.trans s2) ⟨F1,f1,r.1,r.2,A1.grow s2⟩) fun e q H2 s2=>hW e H2 (q H2 (A1.same.trans s2))
end
section
variable {P:Program}{w:World}{K:W.Frag}{mg:Str->Option Value}{base:Heap}{k:Nat}{n m qual:Str}{st:Stmt}{ps fs:List Str}{sp:Sp}
theorem ZdO (h:VD K n fs=true) (d:UZ K n m qual st) (b:∀(kV doc pm:Value) (an:Option Addr) (cdv ct:Value) (us:List Value),us.length=ps.length->bindArgs (PySem.W.fnOf m qual (Zk st) (Zj st) (Zc st) .none kV doc pm an cdv ct) ⟨us,[]⟩=pure (ps.zip us))
  (hf:∀{f fd},Fun K m qual st f fd->Jb P w K mg base (CX1 P w) k f fd ps sp):ZkD P w K mg base k n m ps sp:=by
 obtain⟨C,a,c,_,_⟩:=JN h
 obtain⟨C',f,fd,hC,h1,h2,F⟩:=d
 obtain rfl:=a.inj hC
 exact⟨C,f,fd,a,c,⟨h1,by unfold PySem.W.isFn;rw[h2];rfl,F.kp⟩,hf F,F.binds b⟩
end
end L2
namespace L2
open PySem PyProof.Rows
structure Zl2 (prog:Program) (w:World) (A:Around) (s:Shared) (κ:SortKind) (U:Keyed->Prop) (R:Keyed->Keyed->Bool) (Ok:Keyed->Keyed->Prop):Prop where
 ask:∀x y,U x->U y->Ok x y->∀(Q:Bool->Shared->Prop),Q (R x y) s->wpAny (model prog w) A (keyLt' κ x.1 y.1) Q (fun _ _=>False) s
 asy:∀x y,U x->U y->R x y=true->R y x=false
 tr:∀x y z,U x->U y->U z->R y x=false->R z y=false->R z x=false
section
variable {U:Keyed->Prop}{R:Keyed->Keyed->Bool}{Ok:Keyed->Keyed->Prop}
structure Zlh (U:Keyed->Prop) (R:Keyed->Keyed->Bool) (Ok:Keyed->Keyed->Prop) (left:Bool) (key:Keyed) (arr:Array Keyed) (base n:Nat) (P:Nat->Bool):Prop where
 uk:U key
 it:∀i,i<n->∃x,arr[base+i]?=some x/\U x/\(if left=true then Ok x key else Ok key x)/\P i=(if left=true then R x key else !R key x)
 mono:∀i j,i<=j->j<n->P j=true->P i=true
end
def Srt (R:Keyed->Keyed->Bool) (l:List Keyed):Prop:=l.Pairwise fun x y=>R y x=false
structure MI (R:Keyed->Keyed->Bool) (a b o:List Keyed) (i j:Nat):Prop where
 perm:o.Perm (a.take i++b.take j)
 srt:Srt R o
 ga:∀x∈o,∀y∈a.drop i,R y x=false
 gb:∀x∈o,∀y∈b.drop j,R y x=false
 hi:i<=a.length
 hj:j<=b.length
section
variable {U:Keyed->Prop}{R:Keyed->Keyed->Bool}{Ok:Keyed->Keyed->Prop}
structure MLo (U:Keyed->Prop) (R:Keyed->Keyed->Bool) (Ok:Keyed->Keyed->Prop) (a b:Array Keyed):Prop where
 ua:∀x∈a.toList,U x
 ub:∀x∈b.toList,U x
 ok:∀x∈b.toList,∀y∈a.toList,Ok x y
 sa:Srt R a.toList
 sb:Srt R b.toList
 na:0<a.size
 nb:0<b.size
 fst:∀x y,b.toList[0]?=some x->a.toList[0]?=some y->R y x=false
 lst:∀x∈b.toList,∀y,a.toList[a.size-1]?=some y->R y x=false
end
section
section
end
end
structure MH (R:Keyed->Keyed->Bool) (a b q:List Keyed) (i j:Nat):Prop where
 perm:q.Perm (a.drop i++b.drop j)
 srt:Srt R q
 ga:∀x∈a.take i,∀y∈q,R y x=false
 gb:∀x∈b.take j,∀y∈q,R y x=false
 hi:i<=a.length
 hj:j<=b.length
section
end
section
section
end
end
section
end
noncomputable def gA (X:Array Keyed) (i:Nat):Keyed:=X.getD i (.none,.none)
def Up (R:Keyed->Keyed->Bool) (X:Array Keyed) (lo m:Nat):Prop:=∀i j,i<j->j<m->R (gA X (lo+j)) (gA X (lo+i))=false
def Dn' (R:Keyed->Keyed->Bool) (X:Array Keyed) (lo m:Nat):Prop:=∀i j,i<j->j<m->R (gA X (lo+i)) (gA X (lo+j))=false
structure Zlx (X Y:Array Keyed) (lo m:Nat):Prop where
 perm:Y.Perm X
 out:∀k,k<lo\/lo+m<=k->Y[k]?=X[k]?
def Sep (Ok:Keyed->Keyed->Prop) (X:Array Keyed) (e:Nat):Prop:=∀p q,p<e->e<=q->q<X.size->Ok (gA X q) (gA X p)
section
variable {U:Keyed->Prop}
def Zl1 (U:Keyed->Prop) (X:Array Keyed):Prop:=∀i,i<X.size->U (gA X i)
variable {R0 R:Keyed->Keyed->Bool}{Ok:Keyed->Keyed->Prop}
def Eqv (R:Keyed->Keyed->Bool) (X:Array Keyed) (lo a b:Nat):Prop:=∀i j,a<=i->i<b->a<=j->j<b->R (gA X (lo+i)) (gA X (lo+j))=false
structure Zl3 (R0 R:Keyed->Keyed->Bool) (Ok:Keyed->Keyed->Prop):Prop where
 up:∀x y,R0 x y=true->R x y=true
 ok:∀x y,Ok x y->R x y=R0 x y
structure Fal (R0 R:Keyed->Keyed->Bool) (X Y:Array Keyed) (lo q k:Nat):Prop where
 t:Zlx X Y lo q
 d:Dn' R Y lo q
 e:Eqv R0 Y lo q k
 st:∀i j,i<q->q<=j->j<k->R0 (gA Y (lo+j)) (gA Y (lo+i))=true
 qk:q<k
end
noncomputable abbrev Zly:=Nat×Nat×Nat
def UpS (R:Keyed->Keyed->Bool) (Ok:Keyed->Keyed->Prop) (X:Array Keyed) (c n:Nat):Prop:=Up R X c n/\Sep Ok X c
noncomputable def Zlg (R:Keyed->Keyed->Bool) (Ok:Keyed->Keyed->Prop) (X:Array Keyed):Nat->List Zly->Nat->Prop
 |s,[],e=>s=e
 |s,(c,n,_)::r,e=>c=s/\0<n/\UpS R Ok X c n/\Zlg R Ok X (s+n) r e
section
variable {κ:SortKind}{U:Keyed->Prop}{R:Keyed->Keyed->Bool}{Ok:Keyed->Keyed->Prop}
structure RSt (κ:SortKind) (U:Keyed->Prop) (R:Keyed->Keyed->Bool) (Ok:Keyed->Keyed->Prop) (X:Array Keyed) (lo hi:Nat) (st':SortSt):Prop where
 kd:kindOf st'=κ
 fl:failedOf st'=none
 pm:(arrOf st').Perm X
 us:Zl1 U (arrOf st')
 rn:Zlg R Ok (arrOf st') 0 (pendingOf st').toList lo
 le:lo<=X.size
 lh:lo<=hi
 sp:∀e,e=lo\/hi<=e->Sep Ok (arrOf st') e
end
end L2
namespace L2
open PySem PySem.Spec PyProof.Rows
section
variable {K:W.Frag}{EX:PX->Hp->Prop}{Γ Γ1 Γ2 Γt:List Md}{tt:TT}{c:List PV->Rr Bool}
theorem ZcS {i l:Nat} (hm:Γ[i]?=some .O) (hl:Γ[l]?=some .U) (hil:l≠i) (ht:DT K EX ((Γ.set i .S).set l .S) Γt tt c) :
  DS K EX Γ ⟨Γ,Γ1,Γ2,.P⟩ (Zj6 (Zen K (VS i)) (Ub l) (ZhU tt (ZgG (tC (.bl false))) Zdh)) (fun ρ=>(asL (gv i ρ)).thenS fun xs=>UJ (fun x ρ=>(c (ρ.set l x)).thenS fun b=>if b=true then .ret (.bl false) else .next (ρ.set l x)) xs ρ):=fun B H0 H σ ρ F D A d=>by
 obtain⟨xs,exs,d⟩:=Dn.asL d.thenS
 obtain⟨v,h1,h2⟩:=A.getO hm
 rw[show ρ.getD i .non=.lst xs from exs] at h2
 obtain⟨a,vs,G,rfl,hH,htr,hn,hF⟩:=h2
 have hlen:vs.length=xs.length:=htr.length
 refine⟨.ref a,h1,a,rfl,⟨_,SqL.of hH⟩,fun j m σ' H'=>∃ρ',m=xs.length-j/\j<=xs.length/\Zw H H'/\Ag K B H0 H' σ' Γ ρ' F []/\gv i ρ'=.lst xs/\σ'[i]?=some (some (.ref a))/\DnS K B EX ⟨Γ,Γ1,Γ2,.P⟩ H0 H' F D (UJ (fun x ρ=>(c (ρ.set l x)).thenS fun b=>if b=true then .ret (.bl false) else .next (ρ.set l x)) (xs.drop j) ρ'),
  ⟨xs.length,ρ,by simp,Zre _,Zw.refl H,A,exs,h1,by simpa using d⟩, ?_⟩
 rintro j m σ' H' ⟨ρ',rfl,hj,sm,A',ex',hs',dn⟩
 have hH':H' a=some (.lst vs):=sm a _ hH
 have tr':Trees K H' xs vs G:=htr.same sm
 cases hx:xs[j]? with
 |none =>
  have hd:xs.drop j=[]:=Zri (ZqT.mp hx)
  rw[hd] at dn
  refine .inl ⟨⟨vs,SqL.of hH',by have:=ZqT.mp hx;omega⟩,dn σ' H' F Frm.refl A'⟩
 |some x =>
  have hlt:j<xs.length:=(ZqM.mp hx).1
  have hdx:xs.drop j=x::xs.drop (j+1):=by
   rw[Zrf hlt]
   rw[Zq6 hlt] at hx;cases hx;rfl
  rw[hdx] at dn
  simp only[UJ] at dn
  have hGi:∀b∈G,b∈F i:=fun b hb=>by rw[hF];simp[hb]
  have rp:Reps K H' (NO B (Jy F i []) []) xs vs:=tr'.reps fun b hb=>A'.noF (hGi b hb)
  obtain⟨w,hw,hr⟩:=rp.get hx
  refine .inr ⟨⟨vs,w,SqL.of hH',hw⟩,fun σ2 H2=>∃ρ2,Zw H H2/\Ag K B H0 H2 σ2 Γ ρ2 F []/\gv i ρ2=.lst xs/\σ2[i]?=some (some (.ref a))/\DnS K B EX ⟨Γ,Γ1,Γ2,.P⟩ H0 H2 F D (UJ (fun x ρ=>(c (ρ.set l x)).thenS fun b=>if b=true then .ret (.bl false) else .next (ρ.set l x)) (xs.drop (j+1)) ρ2),
   fun σ2 H2 ⟨ρ2,a1,a2,a3,a4,a5⟩=>⟨xs.length-(j+1),by omega,ρ2,rfl,hlt,a1,a2,a3,a4,a5⟩,fun u H3 y=>?_⟩
  obtain⟨e3,yl⟩:=y
  subst e3
  have eu:=yl vs (SqL.of hH')
  rw[hw] at eu;cases eu
  have Af:=A'.freeze hm (by decide)
  have hll:l<(Γ.set i .S).length:=by rw[Zrb];exact A'.lt hl
  have At:=Ag.put (i:=l) (m:=.S) (x:=x) (v:=w) (G:=[]) (R:=[]) Af hll (by simp) ⟨rfl,w,rfl,Rep.mono (fun a us s r=>⟨r,s.1,s.2.1,fun j z=>s.2.2 j (Jm j a z)⟩) (fun a us r=>r) hr⟩
  refine ht B H0 H3 _ _ _ [] _ At ?_
  cases e:c (ρ'.set l x) with
  |bad=>rw[e] at dn;exact dn.elim
  |exc q=>rw[e] at dn;exact dn
  |ok b =>
   rw[e] at dn
   simp only[Rr.thenS_ok] at dn
   intro H4 F4 s4 _ A4
   cases b with
   |true =>
    simp only[if_true] at dn ⊢
    exact dn (.bl false) H4 A4.same ⟨rfl,rfl⟩
   |false =>
    simp only[Bool.false_eq_true,if_false] at dn ⊢
    refine⟨ρ'.set l x,sm.trans s4,(A'.setU (o:=some w) (y:=x) hl).grow s4, ?_, ?_,DnS.shift (Frm.of s4 fun _ _ h=>h) dn⟩
    ·show (ρ'.set l x).getD i .non=_
     rw[Zq5,ZqB hil,<- Zq5];exact ex'
    ·rw[ZqB hil];exact hs'
end
noncomputable def Zdk (K:W.Frag) (n:Str) (sp:Sp) (E:St->XK) (t:TA):TE:=fun σ H Q=>t σ H fun vs H1=>∀x dx C,JR K n C->H1 x=none->H1 dx=none->dx≠x ->
 sp (.ref x::vs) (upd (upd H1 dx (.own x)) x (.ins C dx [])) (fun v H2=>v=.non/\Q (.ref x) H2) (E σ)
def ZkE (P:Program) (w:World) (K:W.Frag) (mg:Str->Option Value) (base:Heap) (k:Nat) (n:Str) (ps:List Str) (sp:Sp):Prop:=
 ∃C f fd,JR K n C/\mg n=some (.ref C)/\Mk K C f/\Jb P w K mg base (CX1 P w) k f fd ps sp/\VH K fd ps []
section
variable {X:Cx}{e:Expr}{es:List Expr}{n:Str}{pos:Pos}{t:TA}{k:Nat}{ps:List Str}{sp:Sp}{E:St->XK}
theorem Zfl {p:Pos} (G:ZkE X.prog X.w X.K X.mg X.base k n ps sp) (hr:JH (k+1) X.A) (hg:Gl X n) (hx:ZaH X E) (ha:PA X (e::es) t) (hdb:(n==("__debug__":Str))=false:=by decide)
  (he:starEach (e::es) X.env=(false,eval e X.env)::starEach es X.env:=by rfl) (hpl:(backTo pos (starEach es X.env)).any (·.1)=false:=by rfl) :
  PE X (.Call (.Name n p) (e::es) [] pos) (Zdk X.K n sp E t):=by
 obtain⟨C,f,fd,hC,hm,M,F,hb⟩:=G
 intro pins s σ H Q I h
 refine wpAny_Call_Name_kw (JI I hg hm ?_ hdb)
 refine PySem.W.callWith_K (h₀:=X.base) I.ok.mod.kin M.kp (thn (ha pos pins s σ H _ I h) fun us s1 ⟨vs,H1,I1,r,q⟩=>⟨I1.kIn, ?_⟩) he hpl
 have hq:=q (s1.heap.objs.size+1) s1.heap.objs.size C hC (I1.hok.fresh (Zr9 _)) (I1.hok.fresh (ZqG _)) (ZqN (Zro _))
 have I2:=Inv.made (C:=C) I1
 have r2:ZP (V.ref (s1.heap.objs.size+1)::vs) (Value.ref (s1.heap.objs.size+1)::us):=.cons rfl r
 have hl:(Value.ref (s1.heap.objs.size+1)::us++[]).length=ps.length:=by
  have e:=r2.length
  rw[F.len _ _ _ _ hq] at e
  rw[ZqR];exact e.symm
 have hb':=hb _ (Value.ref (s1.heap.objs.size+1)::us) I2.kIn hl
 rw[ZqR] at hb'
 refine wpAny_call (ZbW (f:=f) I1.kIn M.makes M.init (beq_iff_eq.mp M.fn) (codeAny_mono (F.run _ X.stack _ _ ⟨Value.ref (s1.heap.objs.size+1)::us,[]⟩ (Value.ref (s1.heap.objs.size+1)::us) _ _ (E σ) (hr.make C us []) (I2.env0.make C us []) hb' r2 hq) fun r s' hq'=>?_))
 cases r with
 |error e=>exact hx pins σ _ _ e s' I2 hq'
 |ok fl =>
  cases fl with
  |ret u =>
   obtain⟨v,H',I3,rv,ev,q3⟩:=I2.after hq'
   subst ev
   exact⟨rv,⟨V.ref (s1.heap.objs.size+1),H',I3,rfl,q3⟩⟩
  |next=>exact False.elim hq'
  |brk=>exact False.elim hq'
  |cont=>exact False.elim hq'
variable {K:W.Frag}{o:Expr}{m:Str}{apos:Pos}{ta:TE}
theorem Zd4 {p:Pos} (G:ZkE X.prog X.w K X.mg X.base k n ps sp) (hr:JH (k+1) X.A) (hg:Gl X n) (hx:ZaH X E) (ha:PA X (e::es) t) (eK:X.K=K:=by rfl) (hdb:(n==("__debug__":Str))=false:=by decide)
  (he:starEach (e::es) X.env=(false,eval e X.env)::starEach es X.env:=by rfl) (hpl:(backTo pos (starEach es X.env)).any (·.1)=false:=by rfl) :
  PE X (.Call (.Name n p) (e::es) [] pos) (Zdk K n sp E t):=by
 subst eK;exact Zfl G hr hg hx ha hdb he hpl
theorem Zaa {pl:Sem Bool} (G:ZkD X.prog X.w K X.mg X.base k n m ps sp) (hr:JH k X.A) (hx:ZaH X E) (he:PE X o ta) (eK:X.K=K:=by rfl)
  (ht:eval (.Call (.Attribute o m apos) [] [] pos) X.env=(do
   let ov <- eval o X.env
   standAt apos.atName
   let (f,first) <- holding [ov] (getMethod ov m pl)
   callWith pos f first (backTo pos (starEach [] X.env)) (backToKw pos (keywordEach [] X.env))):=by rfl) :
  PE X (.Call (.Attribute o m apos) [] [] pos) (Zdj K n m sp E ta):=by
 subst eK;exact Zd3 G hr hx he ht
end
section
variable {K:PySem.W.Frag}{EX:PX->Hp->Prop}{Γ Γ':List Md}{ta:TA}{fa:List PV->Rr (List PV)}{n:Str}{W:PX->XK->Hp->Prop}{E:XK}{mm:List PV->Rr PV}{l:Nat}
theorem ZfT (hW:∀e H',EX e H'->W e E H') (hn:Len fa l) (ha:DAA K EX Γ Γ' ta fa):DE K EX Γ Γ' .P (Zdk K n (spF K (l+1) .P W mm) (fun _=>E) ta) (fun ρ=>(fa ρ).bind fun xs=>(mm (.box none (.ob n []) []::xs)).bind fun _=>.bad):=fun B H0 H σ ρ F R Q A d=>by
 refine ha B H0 H σ ρ F R _ A (d.bind.imp (fun xs ex d vs H1 F1 s1 f1 p1 A1 x dx C hC hx hdx hne=>?_) fun e q=>q)
 have s2:Zw H1 (upd (upd H1 dx (.own x)) x (.ins C dx [])):=(Zw.newO hdx).trans (Zw.newO (by rw[Zl (Ne.symm hne)];exact hx))
 refine⟨fun _=>True,.box none (.ob n []) []::xs,⟨_,_,rfl,⟨x,[],_,rfl,⟨.inl Zt,trivial⟩,⟨trivial,rfl,C,dx,rfl,hC⟩,rfl⟩,Reps.mono (fun a u _ r=>⟨r.same s2,trivial⟩) (fun a u r=>s2.im r) p1⟩,by rw[ZqL,hn ρ xs ex], ?_⟩
 exact d.bind.imp (fun x _ d=>d.elim) fun e q H2 s3=>hW e H2 (q H2 (A1.same.trans (s2.trans s3)))
end
section
variable {P:Program}{w:World}{K:W.Frag}{mg:Str->Option Value}{base:Heap}{k:Nat}{n qual:Str}{st:Stmt}{ps fs:List Str}{sp:Sp}
theorem Zhf (h:VD K n fs=true) (d:UZ K n "__init__" qual st) (hg:∀C,JR K n C->mg n=some (.ref C)) (b:∀(kV doc pm:Value) (an:Option Addr) (cdv ct:Value) (us:List Value),us.length=ps.length->bindArgs (PySem.W.fnOf "__init__" qual (Zk st) (Zj st) (Zc st) .none kV doc pm an cdv ct) ⟨us,[]⟩=pure (ps.zip us))
  (hf:∀{f fd},Fun K "__init__" qual st f fd->Jb P w K mg base (CX1 P w) k f fd ps sp):ZkE P w K mg base k n ps sp:=by
 obtain⟨C,a,c,_,mk,kp⟩:=JN h
 obtain⟨C',f,fd,hC,h1,h2,F⟩:=d
 obtain rfl:=a.inj hC
 exact⟨C,f,fd,a,hg C a,⟨mk,h1,by unfold PySem.W.isFn;rw[h2];rfl,kp⟩,hf F,F.binds b⟩
end
def DTM (K:W.Frag) (EX:PX->Hp->Prop) (Γ:List Md) (i:Nat) (tt:TT) (fm:List PV->Rr (Bool×PV)):Prop:=
 ∀(B:Addr->Prop) (H0 H:Hp) (σ:St) (ρ:List PV) (F:Nat->List Addr) (Q:Bool->Hp->Prop),Ag K B H0 H σ Γ ρ F [] ->
  Dn (fm ρ) (fun r=>∀H' F',Frm H F H' F'->Ag K B H0 H' σ Γ (ρ.set i r.2) F' []->Q r.1 H') (fun e=>∀H',Zw H0 H'->EX e H')->tt σ H Q
section
variable {K:W.Frag}{EX:PX->Hp->Prop}{Γ:List Md}{Y:Tys}{te:TE}{tt td:TT}{t u:TS}{g g':List PV->RS}{fm:List PV->Rr (PV×PV)}{fc:List PV->Rr (Bool×PV)}{fd:List PV->Rr Bool}{i l:Nat}
noncomputable def rB (r:Rr PV) (y:PV):Rr (Bool×PV):=(r.bind asB).bind fun b=>.ok (b,y)
theorem Dn.rB {r:Rr PV}{y:PV}{ok:Bool×PV->Prop}{ex:PX->Prop} (hr:∀e,r≠.exc e) (d:Dn (rB r y) ok ex):∃b,r=.ok (.bl b)/\ok (b,y):=by
 unfold L2.rB at d
 cases r with
 |bad=>exact d.elim
 |exc e=>exact absurd rfl (hr e)
 |ok x =>
  have d1:Dn ((L2.asB x).bind fun b=>.ok (b,y)) ok ex:=d
  obtain⟨b,rfl,d2⟩:=d1.bind.asB
  exact⟨b,rfl,d2⟩
theorem Zhw {h:Bool->Bool}{md:Md} (he:DM K EX Γ i te fm) (hl:Γ[l]?=some md) (hmd:md≠.U) (hil:l≠i):DTM K EX Γ i (Zfb (tOp (Zj8 K h) te (VS l))) (fun ρ=>(fm ρ).bind fun r=>rB (QJ h r.1 (gv l ρ)) r.2):=fun B H0 H σ ρ F Q A d=>by
 refine he B H0 H σ ρ F _ A (d.bind.imp (fun r _ d v H1 F1 G fr t1 h1 A1=>?_) fun e q=>q)
 obtain⟨b,eb,d⟩:=Dn.rB (Qe _ _) d
 obtain⟨w,w1,w2⟩:=A1.getA hl hmd
 rw[show (ρ.set i r.2).getD l .non=gv l ρ by unfold gv;rw[Zq5,ZqB (Ne.symm hil),<- Zq5]] at w2
 unfold QJ at eb
 by_cases hk:(okD r.1&&okD (gv l ρ))=true
 ·rw[if_pos hk] at eb;cases eb
  rw[Bool.and_eq_true] at hk
  exact⟨w,w1,r.1,gv l ρ,t1.rep fun _ _=>trivial,w2,hk.1,hk.2,_,rfl,d H1 F1 fr (A1.less (by simp))⟩
 ·rw[if_neg hk] at eb;cases eb
theorem ZcA (h:Bool->Bool) (x:PV) (e:PX):Zi4 h x≠.exc e:=by
 unfold Zi4;split<;>exact fun z=>by cases z
theorem Zch (he:DM K EX Γ i te fm):DTM K EX Γ i (Zfb (tOp (fun x y H Q=>y=.non/\Q (.bl (!decide (x=.non))) H) te (tC .non))) (fun ρ=>(fm ρ).bind fun r=>rB (Zi4 (!·) r.1) r.2):=fun B H0 H σ ρ F Q A d=>by
 refine he B H0 H σ ρ F _ A (d.bind.imp (fun r _ d v H1 F1 G fr t1 h1 A1=>?_) fun e q=>q)
 obtain⟨b,eb,d⟩:=Dn.rB (ZcA _ _) d
 have e:=ZgN (t1.rep (S:=fun _=>True) fun _ _=>trivial)
 refine⟨rfl,b, ?_,d H1 F1 fr (A1.less (by simp))⟩
 rw[e]
 obtain⟨x,y⟩:=r
 dsimp only at eb ⊢
 cases x<;>(cases eb;rfl)
theorem Zez (hc:DTM K EX Γ i tt fc) (hd:DT K EX Γ Γ td fd):DTM K EX Γ i (tOr tt td) (fun ρ=>(fc ρ).bind fun r=>if r.1=true then .ok (true,r.2) else (fd (ρ.set i r.2)).bind fun b=>.ok (b,r.2)):=fun B H0 H σ ρ F Q A d=>by
 refine hc B H0 H σ ρ F _ A (d.bind.imp (fun r _ d H1 F1 fr A1=>?_) fun e q=>q)
 obtain⟨b,y⟩:=r
 cases b with
 |true=>exact(show ∀H' F',_ from d) H1 F1 fr A1
 |false =>
  have d:Dn ((fd (ρ.set i y)).bind fun b=>.ok (b,y)) _ _:=d
  refine hd B H0 H1 σ _ F1 [] _ A1 (d.bind.imp (fun b _ d H2 F2 s2 f2 A2=>?_) fun e q=>q)
  exact(show ∀H' F',_ from d) H2 F2 (fr.trans (Frm.of s2 f2)) A2
theorem Ze0 (hc:DTM K EX Γ i tt fc) (h1:DS K EX Γ Y t g) (h2:DS K EX Γ Y u g'):DS K EX Γ Y (ZhU tt t u) (fun ρ=>(fc ρ).thenS fun r=>if r.1=true then g (ρ.set i r.2) else g' (ρ.set i r.2)):=fun B H0 H σ ρ F D A d=>by
 refine hc B H0 H σ ρ F _ A (d.thenS.imp (fun r _ d H1 F1 fr A1=>?_) fun e q=>q)
 obtain⟨b,y⟩:=r
 cases b with
 |true=>exact h1 B H0 H1 σ _ F1 D A1 (DnS.shift fr d)
 |false=>exact h2 B H0 H1 σ _ F1 D A1 (DnS.shift fr d)
end
section
variable {K:W.Frag}{EX:PX->Hp->Prop}{Γ Γ1 Γ2 Γt:List Md}{tt:TT}{c:List PV->Rr Bool}
theorem ZcT {i j l:Nat} (hm:Γ[i]?=some .O) (hm':Γ[j]?=some .O) (hl:Γ[l]?=some .U) (hil:l≠i) (hjl:l≠j) (hij:i≠j) (ht:DT K EX (((Γ.set i .S).set j .S).set l .S) Γt tt c) :
  DS K EX Γ ⟨Γ,Γ1,Γ2,.P⟩ (Zj6 (Zen K (Zih (J1 (VS i) (J1 (VS j) ZaL)))) (Ub l) (ZhU tt (ZgG (tC (.bl false))) Zdh)) (fun ρ=>UJ (fun x ρ=>(c (ρ.set l x)).thenS fun b=>if b=true then .ret (.bl false) else .next (ρ.set l x)) [gv i ρ,gv j ρ] ρ):=fun B H0 H σ ρ F D A d=>by
 obtain⟨v,h1,_⟩:=A.getO hm
 obtain⟨v',h1',_⟩:=A.getO hm'
 refine⟨v,h1,v',h1',(by decide:2<=sizeLine),fun a0 hf=>⟨a0,rfl,⟨_,SqL.of Zt⟩,fun q m σ' H'=>∃ρ',m=2-q/\q<=2/\Zw (upd H a0 (.lst [v,v'])) H'/\Ag K B H0 H' σ' Γ ρ' F []/\gv i ρ'=gv i ρ/\gv j ρ'=gv j ρ/\σ'[i]?=some (some v)/\σ'[j]?=some (some v')/\DnS K B EX ⟨Γ,Γ1,Γ2,.P⟩ H0 H' F D (UJ (fun x ρ=>(c (ρ.set l x)).thenS fun b=>if b=true then .ret (.bl false) else .next (ρ.set l x)) ([gv i ρ,gv j ρ].drop q) ρ'),
  ⟨2,ρ,by simp,Zre _,Zw.refl _,A.grow (Zw.new hf),rfl,rfl,h1,h1',DnS.shift (Frm.of (Zw.new hf) fun _ _ h=>h) (by simpa using d)⟩, ?_⟩⟩
 rintro q m σ' H' ⟨ρ',rfl,hq,sm,A',e1,e2,s1,s2,dn⟩
 have hH':H' a0=some (.lst [v,v']):=sm a0 _ Zt
 have A1:=A'.freeze hm (by decide)
 have A2:=A1.freeze (i:=j) (m:=.O) (by rw[ZqB hij];exact hm') (by decide)
 have hsub:∀q b,b∈Jy (Jy F i []) j [] q->b∈F q:=fun q b z=>Jm q b (Jm q b z)
 have step:∀(x:PV) (w:V),q<2->[gv i ρ,gv j ρ].drop q=x::[gv i ρ,gv j ρ].drop (q+1)->[v,v'][q]?=some w->Rep K H' (NO B (Jy (Jy F i []) j []) []) x w ->
   ((Itl K a0).stop q H'/\D.nx σ' H')\/((Itl K a0).go q H'/\∃N:St->Hp->Prop,(∀σ2 H2,N σ2 H2->∃m',m'<2-q/\∃ρ2,m'=2-(q+1)/\q+1<=2/\Zw (upd H a0 (.lst [v,v'])) H2/\Ag K B H0 H2 σ2 Γ ρ2 F []/\gv i ρ2=gv i ρ/\gv j ρ2=gv j ρ/\σ2[i]?=some (some v)/\σ2[j]?=some (some v')/\DnS K B EX ⟨Γ,Γ1,Γ2,.P⟩ H0 H2 F D (UJ (fun x ρ=>(c (ρ.set l x)).thenS fun b=>if b=true then .ret (.bl false) else .next (ρ.set l x)) ([gv i ρ,gv j ρ].drop (q+1)) ρ2)) /\
    ∀u H3,(Itl K a0).yld q H' u H3->Ub l u σ' H3 fun σ2 H2=>ZhU tt (ZgG (tC (.bl false))) Zdh { D with nx:=N,ct:=N,bk:=D.nx } σ2 H2):=fun x w hlt hd hw hr=>by
  rw[hd] at dn
  simp only[UJ] at dn
  refine .inr ⟨⟨[v,v'],w,SqL.of hH',hw⟩,fun σ2 H2=>∃ρ2,Zw (upd H a0 (.lst [v,v'])) H2/\Ag K B H0 H2 σ2 Γ ρ2 F []/\gv i ρ2=gv i ρ/\gv j ρ2=gv j ρ/\σ2[i]?=some (some v)/\σ2[j]?=some (some v')/\DnS K B EX ⟨Γ,Γ1,Γ2,.P⟩ H0 H2 F D (UJ (fun x ρ=>(c (ρ.set l x)).thenS fun b=>if b=true then .ret (.bl false) else .next (ρ.set l x)) ([gv i ρ,gv j ρ].drop (q+1)) ρ2),
   fun σ2 H2 ⟨ρ2,a1,a2,a3,a4,a5,a6,a7⟩=>⟨2-(q+1),by omega,ρ2,rfl,hlt,a1,a2,a3,a4,a5,a6,a7⟩,fun u H3 y=>?_⟩
  obtain⟨e3,yl⟩:=y
  subst e3
  have eu:=yl [v,v'] (SqL.of hH')
  rw[hw] at eu;cases eu
  have hll:l<((Γ.set i .S).set j .S).length:=by rw[Zrb,Zrb];exact A'.lt hl
  have At:=Ag.put (i:=l) (m:=.S) (x:=x) (v:=w) (G:=[]) (R:=[]) A2 hll (by simp) ⟨rfl,w,rfl,Rep.mono (fun a us s r=>⟨r,s.1,s.2.1,fun j z=>s.2.2 j (Jm j a z)⟩) (fun a us r=>r) hr⟩
  refine ht B H0 H3 _ _ _ [] _ At ?_
  cases e:c (ρ'.set l x) with
  |bad=>rw[e] at dn;exact dn.elim
  |exc q=>rw[e] at dn;exact dn
  |ok b =>
   rw[e] at dn
   simp only[Rr.thenS_ok] at dn
   intro H4 F4 s4 _ A4
   cases b with
   |true =>
    simp only[if_true] at dn ⊢
    exact dn (.bl false) H4 A4.same ⟨rfl,rfl⟩
   |false =>
    simp only[Bool.false_eq_true,if_false] at dn ⊢
    have gs:∀{p:Nat},l≠p->gv p (ρ'.set l x)=gv p ρ':=fun {p} hp=>by
     show (ρ'.set l x).getD p .non=ρ'.getD p .non
     rw[Zq5,ZqB hp,<- Zq5]
    refine⟨ρ'.set l x,sm.trans s4,(A'.setU (o:=some w) (y:=x) hl).grow s4,by rw[gs hil,e1],by rw[gs hjl,e2], ?_, ?_,DnS.shift (Frm.of s4 fun _ _ h=>h) dn⟩
    ·rw[ZqB hil];exact s1
    ·rw[ZqB hjl];exact s2
 match q,hq with
 |0,_ =>
  obtain⟨w,w1,w2⟩:=A2.getS (i:=i) (by rw[ZqB (Ne.symm hij),ZqF (A'.lt hm)])
  rw[s1] at w1;cases w1
  exact step (gv i ρ) v (by omega) rfl rfl (e1▸w2)
 |1,_ =>
  obtain⟨w,w1,w2⟩:=A2.getS (i:=j) (by rw[ZqF (by rw[Zrb];exact A'.lt hm')])
  rw[s2] at w1;cases w1
  exact step (gv j ρ) v' (by omega) rfl rfl (e2▸w2)
 |2,_=>exact .inl ⟨⟨[v,v'],SqL.of hH',by simp⟩,dn σ' H' F Frm.refl A'⟩
end
section
variable {K:W.Frag}{EX:PX->Hp->Prop}{Γ Γ1 Γ2:List Md}{te:TE}{fy:List PV->Rr PV}{i:Nat}{k:Kd}{c:Int}
noncomputable def pAppAt (x:PV) (c:Int) (y:PV):Rr PV:=match x with
 |.lst xs=>match ixN xs.length c with
  |some n=>(pApp (xs.getD n .non) y).bind fun z=>.ok (.lst (xs.set n z))
  |none=>.bad
 |_=>.bad
theorem Dn.pAppAt {x y:PV}{c:Int}{ok:PV->Prop}{ex:PX->Prop} (d:Dn (pAppAt x c y) ok ex):∃xs n zs,x=.lst xs/\ixN xs.length c=some n/\xs.getD n .non=.lst zs/\zs.length<1000000/\ok (.lst (xs.set n (.lst (zs++[y])))):=by
 unfold L2.pAppAt at d
 split at d
 ·rename_i xs
  split at d
  ·rename_i n en
   obtain⟨zs,ez,hl,d⟩:=Dn.pApp d.bind
   exact⟨xs,n,zs,rfl,en,ez,hl,d⟩
  ·exact d.elim
 ·exact d.elim
theorem Zay (hm:Γ[i]?=some .O) (he:DE K EX Γ Γ .P te fy):DS K EX Γ ⟨Γ,Γ1,Γ2,k⟩ (ZaM (tBM K "list" Uz (tOp (rIx K) (VS i) (tC (.int c))) (J1 te ZaL)))
  (fun ρ=>(pAppAt (gv i ρ) c .non).thenS fun _=>(fy ρ).thenS fun y=>(pAppAt (gv i ρ) c y).thenS fun w=>.next (ρ.set i w)):=fun B H0 H σ ρ F D A d=>by
 obtain⟨xs,n,zs,ex,en,ez,hl,d⟩:=Dn.pAppAt d.thenS
 obtain⟨v,h1,h2⟩:=A.getO hm
 rw[show ρ.getD i .non=.lst xs from ex] at h2
 obtain⟨a,vs,G,rfl,hH,ht,hn,hF⟩:=h2
 have hnl:=(UG en).2.1
 have hx:xs[n]?=some (.lst zs):=by rw[<- ez,Zq5,Zq6 hnl];rfl
 obtain⟨w,G2,p1,p2,p3,_⟩:=ht.part hx
 obtain⟨p,us,G4,rfl,hp,hu,hnp,rfl⟩:=p2
 refine⟨.ref a,h1,Zgl (c:=c) (u:=.ref p) ⟨a,vs,_,rfl,.inl (SqL.of hH),by unfold atI;rw[ht.length,en];exact p1,rfl⟩ ⟨.inl ⟨rfl,_,SqL.of hp⟩, ?_⟩⟩
 refine he B H0 H σ ρ F [] _ A (d.thenS.imp (fun y _ d w H1 s1 r=>?_) fun e q=>q)
 obtain⟨F1,f1,fl,p1',A1⟩:=r
 obtain⟨xs',n',zs',ex',en',ez',hl',d⟩:=Dn.pAppAt d.thenS
 rw[ex] at ex';cases ex'
 rw[en] at en';cases en'
 rw[ez] at ez';cases ez'
 obtain⟨v1,h1',h2'⟩:=A1.getO hm
 rw[h1] at h1';cases h1'
 rw[show ρ.getD i .non=.lst xs from ex] at h2'
 obtain⟨a',vs',G',ea,hH1,ht1,hn1,hF1⟩:=h2'
 cases ea
 rw[s1 _ _ hH] at hH1;cases hH1
 obtain⟨w2,G2',q1,q2,q3,q4⟩:=ht1.part hx
 rw[p1] at q1;cases q1
 obtain⟨p',us',G4',ep,hp1,hu1,hnp1,rfl⟩:=q2
 cases ep
 rw[s1 _ _ hp] at hp1;cases hp1
 have tt:ZD K (upd H1 p (.lst (us++[w]))) (.lst (zs++[y])) (.ref p) (p::G4'):=by
  refine⟨p,_,G4',rfl,Zt, ?_,hnp1,rfl⟩
  have:=Trees.append (Trees.put (o:=.lst (us++[w])) (s1 _ _ hp) hnp1 hu1) (Trees.one (x:=y) (v:=w) (F:=[]) (ZD.put (s1 _ _ hp) (by simp) (p1'.tree fl))) (by simp)
  rw[ZqR] at this
  exact this
 obtain⟨G6,c2,c3⟩:=q4 p us (.lst (us++[w])) _ (p::G4') (s1 _ _ hp) (by simp) (fun a h=>h) tt
 have hap:a≠p:=fun z=>hn1 (by rw[z];exact q3 p (by simp))
 have hpF:p∈F1 i:=by rw[hF1];exact ZqK _ (q3 p (by simp))
 have hsub:∀b∈a::G6,b∈F1 i:=fun b hb=>by
  rw[hF1]
  rcases ZqE.mp hb with rfl|hb
  ·simp
  ·simp[c2 b hb]
 refine⟨p,us,w,rfl,rfl,s1 _ _ hp,by rw[hu.length];exact ZqD hl (by decide), ?_⟩
 exact(show ∀σ' H' F',_ from d) σ _ (Jy F1 i (a::G6)) (Vo s1 f1 hpF fun b hb=>.inr ⟨i,f1 i b (hsub b hb)⟩) (Ag.chg (G:=[]) (R:=[]) A1 hm hpF (fun b hb=>.inl (hsub b hb)) (by simp) ⟨_,h1,a,vs,G6,rfl,by rw[Zl hap];exact s1 _ _ hH,c3,fun z=>hn1 (c2 a z),rfl⟩)
end
end L2
namespace My
open L2
noncomputable def tab (n:Nat) (f:Nat->Int):List Int:=(List.range n).map f
theorem Jc (n:Nat) (f:Nat->Int):(tab n f).length=n:=by simp[tab]
theorem ZaJ {n:Nat}{f:Nat->Int}{x:Nat} (h:x<n):(tab n f).getD x 0=f x:=by
 rw[Zq5,tab,ZqO,Zr2 h];rfl
theorem ZaK {n:Nat}{f:Nat->Int}{l:List Int} (hl:l.length=n) (h:∀x,x<n->l.getD x 0=f x):l=tab n f:=by
 apply List.ext_getElem
 ·rw[hl,Jc]
 ·intro i h1 h2
  have:=h i (by omega)
  rw[Zq5,Zq6 h1] at this
  simp only[tab,List.getElem_map,List.getElem_range]
  exact this
theorem getD_set {l:List Int}{j x:Nat}{v:Int} (h:j<l.length):(l.set j v).getD x 0=if x=j then v else l.getD x 0:=by
 rw[Zq5,Zq5]
 by_cases e:x=j
 ·subst e;rw[ZqF h,if_pos rfl];rfl
 ·rw[ZqB (Ne.symm e),if_neg e]
theorem ZgF {n:Nat}{f:Nat->Int}{j:Nat}{v:Int} (h:j<n):(tab n f).set j v=tab n fun x=>if x=j then v else f x:=by
 refine ZaK (by rw[Zrb,Jc]) fun x hx=>?_
 rw[getD_set (by rw[Jc];exact h)]
 by_cases e:x=j
 ·rw[if_pos e,if_pos e]
 ·rw[if_neg e,if_neg e,ZaJ hx]
theorem Zdg {n:Nat}{f g:Nat->Int} (h:∀x,x<n->f x=g x):tab n f=tab n g:=ZaK (Jc _ _) fun x hx=>by rw[ZaJ hx,h x hx]
theorem Zat {l:List Int}{x:Nat} (h:x<l.length):l.getD x 0∈l:=by
 rw[Zq5,Zq6 h];exact ZrC h
theorem Zhk {n a b:Int} (ha:0<=a) (ha':a<n) (hb:0<=b) (hb':b<n):(a-b)%n=if b<=a then a-b else a-b+n:=by
 by_cases h:b<=a
 ·rw[if_pos h,Zrh (by omega) (by omega)]
 ·rw[if_neg h,<- Int.add_emod_right,Zrh (by omega) (by omega)]
theorem ZaX {n a b:Int} (ha:0<=a) (ha':a<n) (hb:0<=b) (hb':b<n):(a+b)%n=if a+b<n then a+b else a+b-n:=by
 by_cases h:a+b<n
 ·rw[if_pos h,Zrh (by omega) (by omega)]
 ·rw[if_neg h,<- Int.sub_emod_right,Zrh (by omega) (by omega)]
structure Qa (ns:List Int):Prop where
 lo:2<=ns.length
 hi:ns.length<=24
 nn:∀x∈ns,0<=x
 sm:ns.sum<=10^60
theorem Qa.nn' {ns:List Int} (h:Qa ns) (x:Nat):0<=ns.getD x 0:=by
 by_cases hx:x<ns.length
 ·exact h.nn _ (Zat hx)
 ·rw[Zq5,ZqH (by omega)];exact Int.le_refl _
noncomputable def Zip (ns:List Int) (p:Int) (x:Nat):Int:=(if (x:Int)=p then 0 else ns.getD x 0)+ns.getD p.toNat 0/ns.length
noncomputable def ZjO (n:Int) (p:Int) (i:Int) (x:Nat):Int:=if 1<=((x:Int)-p)%n/\((x:Int)-p)%n<=i then 1 else 0
noncomputable def Zda (ns:List Int) (p:Int) (i:Int) (x:Nat):Int:=Zip ns p x+ZjO ns.length p i x
theorem Qs {n p i:Int}{x:Nat} (h:1<=((x:Int)-p)%n/\((x:Int)-p)%n<=i):ZjO n p i x=1:=if_pos h
theorem Qt {n p i:Int}{x:Nat} (h:¬(1<=((x:Int)-p)%n/\((x:Int)-p)%n<=i)):ZjO n p i x=0:=if_neg h
theorem Zio {ns:List Int}{p:Int}{x:Nat} (h:(x:Int)=p):Zip ns p x=ns.getD p.toNat 0/ns.length:=by unfold Zip;rw[if_pos h];omega
theorem ZgL {ns:List Int}{p:Int}{x:Nat} (h:(x:Int)≠p):Zip ns p x=ns.getD x 0+ns.getD p.toNat 0/ns.length:=by unfold Zip;rw[if_neg h]
noncomputable def Zj7 (ns:List Int) (p:Int):List Int:=tab ns.length (Zda ns p (ns.getD p.toNat 0%ns.length))
noncomputable def ZkM (ns:List Int) (p:Int):Int:=(p+ns.getD p.toNat 0%ns.length)%ns.length
theorem ZaN (ns:List Int) (p:Int):(Zj7 ns p).length=ns.length:=Jc _ _
section
variable {ns:List Int}{p:Int}
theorem Zfd (h0:0<=p) (h1:p<ns.length):(ns.map fun v=>v+ns.getD p.toNat 0/ns.length).set p.toNat (ns.getD p.toNat 0/ns.length)=tab ns.length (Zda ns p 0):=by
 refine ZaK (by simp) fun x hx=>?_
 rw[getD_set (by simp;omega)]
 unfold Zda
 rw[Qt (by omega)]
 by_cases e:x=p.toNat
 ·rw[if_pos e,Zio (by omega)];omega
 ·rw[if_neg e,ZgL (by omega)]
  simp[Zq5,Zq6 hx]
theorem Zfe (h0:0<=p) (h1:p<ns.length) {i:Nat} (hi:(i:Int)+1<ns.length) :
  (tab ns.length (Zda ns p i)).set ((p+(i+1))%ns.length).toNat (Zda ns p i ((p+(i+1))%ns.length).toNat+1)=tab ns.length (Zda ns p ((i+1:Nat):Int)):=by
 have m1:=ZaX h0 h1 (show (0:Int)<=(i:Int)+1 by omega) hi
 have hlt:((p+((i:Int)+1))%ns.length).toNat<ns.length:=by
  rw[m1];split<;>omega
 rw[ZgF hlt]
 refine Zdg fun x hx=>?_
 have m2:=Zhk (n:=ns.length) (show (0:Int)<=(x:Int) by omega) (by omega) h0 h1
 by_cases e:x=((p+((i:Int)+1))%ns.length).toNat
 ·rw[if_pos e,<- e]
  unfold Zda
  have hd:((x:Int)-p)%ns.length=i+1:=by
   rw[m2]
   rw[m1] at e
   split at e<;>split<;>omega
  rw[Qt (by omega),Qs (by omega)];omega
 ·rw[if_neg e]
  unfold Zda
  have hd:((x:Int)-p)%ns.length≠i+1:=by
   intro z
   apply e
   rw[m2] at z
   rw[m1]
   split at z<;>split<;>omega
  by_cases q:1<=((x:Int)-p)%ns.length/\((x:Int)-p)%ns.length<=i
  ·rw[Qs q,Qs (by omega)]
  ·rw[Qt q,Qt (by omega)]
end
noncomputable def run (f:Nat->Int):Nat->Nat->Nat
 |0,i=>i
 |k+1,i=>if 0<f i then run f k (i+1) else i
noncomputable def tbG (ns:List Int) (q:Int) (i:Nat):Int:=ns.getD ((q-i)%ns.length).toNat 0-ZjE ns
noncomputable def tbJ (ns:List Int) (q:Int):Nat:=run (tbG ns q) ns.length 0
noncomputable def tbF (ns:List Int) (q:Int) (i:Nat) (x:Nat):Int:=ns.getD x 0-ZjE ns-(if (q-x)%(ns.length:Int)<i then 1 else 0)
noncomputable def tbP (ns:List Int) (q:Int):Int:=(q-tbJ ns q)%ns.length
noncomputable def tbT (ns:List Int) (q:Int):Int:=ZjE ns*ns.length+tbJ ns q
noncomputable def tbB (ns:List Int) (q:Int):List Int:=(tab ns.length (tbF ns q (tbJ ns q))).set (tbP ns q).toNat (tbT ns q)
section
end
structure ZcY (ns:List Int) (p:Int):Prop where
 bd:Qa ns
 lo:0<=p
 hi:p<ns.length
 pos:0<ns.getD p.toNat 0
noncomputable def Zb8 (a:List Int×Int):List Int×Int:=(Zj7 a.1 a.2,ZkM a.1 a.2)
noncomputable def tbS (a:List Int×Int):List Int×Int:=(tbB a.1 a.2,tbP a.1 a.2)
noncomputable def its {α:Type} (f:α->α):Nat->α->α
 |0,a=>a
 |n+1,a=>f (its f n a)
section
end
end My
namespace My
open PySem L2
noncomputable abbrev Zc7 (a:List Int×Int):PV:=.tup [.lst (a.1.map PV.int),.int a.2]
noncomputable def Vp (ns:List Int) (m:Int):Nat->List Int
 |0=>List.replicate m.toNat 0
 |i+1=>(Vp ns m i).set ((i:Int)%m).toNat (((Vp ns m i).getD ((i:Int)%m).toNat 0*31+ns.getD (i+1) 0)%10^60)
theorem ZcO (ns:List Int) (m:Int) (i:Nat):Vp ns m (i+1)=(Vp ns m i).set ((i:Int)%m).toNat (((Vp ns m i).getD ((i:Int)%m).toNat 0*31+ns.getD (i+1) 0)%10^60):=by rw[Vp]
noncomputable def JF (ns:List Int) (m:Int):List Int:=Vp ns m (ns.length-1)
theorem Jz (ns:List Int) (m:Int):∀i,(Vp ns m i).length=m.toNat
 |0=>by simp[Vp]
 |i+1=>by simp[Vp,Jz ns m i]
theorem JB (ns:List Int) (m:Int):∀i,∀x∈Vp ns m i,0<=x/\x<10^60
 |0=>fun x hx=>by rw[List.eq_of_mem_replicate hx];decide
 |i+1=>fun x hx=>by
  rcases List.mem_or_eq_of_mem_set hx with z|z
  ·exact JB ns m i x z
  ·rw[z];exact⟨Zr3 _ (by decide),Zr6 _ (by decide)⟩
noncomputable def Ua (pits way number:Int):Int:=if way=3 then [0,1,number/24,pits].getD (number/7%4).toNat 0 else if way=2 then number/24 else if way=1 then number/11%30 else number/11%4
noncomputable def J9 (ns:List Int) (pits way:Int):List Int:=(JF ns pits).map (Ua pits way)
noncomputable def BB:Int:=41666666666666666666666666666666666666666666666666666666666
theorem Zbg {pits way z:Int} (h1:2<=pits) (h2:pits<=24) (z0:0<=z) (z1:z<10^60):0<=Ua pits way z/\Ua pits way z<=BB:=by
 unfold Ua BB
 split
 ·have c4:z/7%4=0\/z/7%4=1\/z/7%4=2\/z/7%4=3:=by omega
  rcases c4 with e|e|e|e<;>rw[e]
  ·exact⟨by show (0:Int)<=0;decide,by show (0:Int)<=41666666666666666666666666666666666666666666666666666666666;decide⟩
  ·exact⟨by show (0:Int)<=1;decide,by show (1:Int)<=41666666666666666666666666666666666666666666666666666666666;decide⟩
  ·exact⟨by show 0<=z/24;omega,by show z/24<=_;omega⟩
  ·exact⟨by show 0<=pits;omega,by show pits<=_;omega⟩
 ·split
  ·omega
  ·split<;>omega
theorem Zdn (ns:List Int) (h:∀x∈ns,x<=BB):ns.sum<=ns.length*BB:=by
 induction ns with
 |nil=>simp
 |cons x xs ih =>
  have h1:=h x (by simp)
  have h2:=ih fun y hy=>h y (by simp[hy])
  simp only[List.sum_cons,ZqL]
  rw[Int.natCast_add,Int.add_mul]
  omega
theorem Qa.of {ns:List Int} (h1:2<=ns.length) (h2:ns.length<=24) (h:∀x∈ns,0<=x/\x<=BB):Qa ns:=by
 refine⟨h1,h2,fun x hx=>(h x hx).1, ?_⟩
 have a:=Zdn ns fun x hx=>(h x hx).2
 have b:(ns.length:Int)*BB<=24*BB:=Int.mul_le_mul_of_nonneg_right (by omega) (by decide)
 have c:(24:Int)*BB<=10^60:=by decide
 omega
theorem JJ (ns:List Int) {pits way:Int} (h:0<=pits):((J9 ns pits way).length:Int)=pits:=by
 unfold J9 JF
 rw[ZqC,Jz];omega
theorem UX (ns:List Int) {pits way:Int} (h1:2<=pits) (h2:pits<=24):Qa (J9 ns pits way):=by
 have hl:=JJ ns (way:=way) (show 0<=pits by omega)
 refine Qa.of (by omega) (by omega) fun x hx=>?_
 obtain⟨z,hz,rfl⟩:=Zrt.mp hx
 obtain⟨z0,z1⟩:=JB ns pits _ z hz
 exact Zbg h1 h2 z0 z1
noncomputable def ZS (ns:List Int):Bool:=decide (2<=ns.length/\ns.length<=24/\(∀x∈ns,0<=x)/\ns.sum<=10^60)
theorem Jp {ns:List Int}:ZS ns=true ↔ Qa ns:=by
 unfold ZS
 rw[decide_eq_true_iff]
 exact⟨fun⟨a,b,c,d⟩=>⟨a,b,c,d⟩,fun h=>⟨h.lo,h.hi,h.nn,h.sm⟩⟩
theorem ZcY.sowOk {ns:List Int}{p:Int} (h:ZcY ns p):0<=p/\p<ns.length/\ns.length<=1000:=⟨h.lo,h.hi,by have:=h.bd.hi;omega⟩
noncomputable def Ziz (ns:List Int) (p:Int):Option Str:=if 0<=p/\p<ns.length then none else some "BadPit"
noncomputable def stX (ns:List Int) (p:Int):Option Str:=if ZS ns=true then (if 0<=p/\p<ns.length then (if ns.getD p.toNat 0=0 then some "NoSeeds" else none) else some "BadPit") else some "BadBoard"
theorem Zb6 {ns:List Int}{p:Int}:stX ns p=none ↔ ZcY ns p:=by
 unfold stX
 by_cases h:ZS ns=true
 ·have hB:=Jp.mp h
  rw[if_pos h]
  by_cases h1:0<=p/\p<ns.length
  ·rw[if_pos h1]
   by_cases h2:ns.getD p.toNat 0=0
   ·rw[if_pos h2];exact⟨fun z=>(by cases z),fun z=>(by have:=z.pos;omega)⟩
   ·rw[if_neg h2];exact⟨fun _=>⟨hB,h1.1,h1.2,by have:=hB.nn' p.toNat;omega⟩,fun _=>rfl⟩
  ·rw[if_neg h1];exact⟨fun z=>(by cases z),fun z=>(h1 ⟨z.lo,z.hi⟩).elim⟩
 ·rw[if_neg h];exact⟨fun z=>(by cases z),fun z=>(h (Jp.mpr z.bd)).elim⟩
end My
namespace L2
open PySem
noncomputable def fzI (ns:List Int):PV:=.fz (ns.map PV.int)
noncomputable abbrev Dd:=Str×Int×Int
noncomputable def dd3 (d:Dd):PV:=.tup [.str d.1,.int d.2.1,.int d.2.2]
noncomputable def Zdd (u:Dd×List Int):PV:=.tup [dd3 u.1,fzI u.2]
structure Bk where
 bs:List (List Int)
 ds:List Dd
 us:List (Dd×List Int)
noncomputable def Ju (p:Option Addr) (b d u:List PV):PV:=.box p (.ob "RingBook" ["boards", "deeds", "undone"]) [.lst b,.lst d,.lst u]
noncomputable def bkP (p:Option Addr) (k:Bk):PV:=Ju p (k.bs.map fzI) (k.ds.map dd3) (k.us.map Zdd)
theorem Zbh {a b:List Int} (h:fzI a=fzI b):a=b:=ZV (PV.fz.inj h)
theorem Zbn {a b:Dd} (h:dd3 a=dd3 b):a=b:=by
 simp only[dd3,PV.tup.injEq,List.cons.injEq,PV.str.injEq,PV.int.injEq,and_true] at h
 exact Prod.ext h.1 (Prod.ext h.2.1 h.2.2)
theorem ZeY {a b:Dd×List Int} (h:Zdd a=Zdd b):a=b:=by
 simp only[Zdd,PV.tup.injEq,List.cons.injEq,and_true] at h
 exact Prod.ext (Zbn h.1) (Zbh h.2)
theorem Uo {α:Type}{q:α->PV} (hq:∀a b,q a=q b->a=b):∀{l m:List α},l.map q=m.map q->l=m
 |[],[],_=>rfl
 |[],_::_,h=>by simp at h
 |_::_,[],h=>by simp at h
 |a::l,b::m,h=>by
  simp only[ZqJ,List.cons.injEq] at h
  rw[hq a b h.1,Uo hq h.2]
theorem JQ {p:Option Addr}{a b:Bk} (h:bkP p a=bkP p b):a=b:=by
 simp only[bkP,Ju,PV.box.injEq,List.cons.injEq,PV.lst.injEq,and_true,true_and] at h
 obtain⟨h1,h2,h3⟩:=h
 have e1:=Uo (fun _ _=>Zbh) h1
 have e2:=Uo (fun _ _=>Zbn) h2
 have e3:=Uo (fun _ _=>ZeY) h3
 cases a;cases b
 simp only at e1 e2 e3
 rw[e1,e2,e3]
theorem flats_map {α:Type}{q:α->PV} (h:∀a,(q a).flat=true) (l:List α):PV.flats (l.map q)=true:=PV.flats_all.mpr fun x hx=>by
 obtain⟨a,_,rfl⟩:=Zrt.mp hx
 exact h a
theorem JA (ns:List Int):(fzI ns).flat=true:=PV.flats_ints ns
theorem VB (d:Dd):(dd3 d).flat=true:=rfl
theorem Vs (u:Dd×List Int):(Zdd u).flat=true:=by simp[Zdd,PV.flat,PV.flats,VB,JA]
theorem ix0:(["boards", "deeds", "undone"]:List Str).idxOf ("boards":Str)=0:=by decide +kernel
theorem ix1:(["boards", "deeds", "undone"]:List Str).idxOf ("deeds":Str)=1:=by decide +kernel
theorem ix2:(["boards", "deeds", "undone"]:List Str).idxOf ("undone":Str)=2:=by decide +kernel
section
variable {p:Option Addr}{k:Bk}{b d u:List PV}
theorem Zk7:pFld "RingBook" "boards" (Ju p b d u)=.ok (.lst b):=by simp only[pFld,Ju,ix0,if_pos];rfl
theorem Zk6:pFld "RingBook" "deeds" (Ju p b d u)=.ok (.lst d):=by simp only[pFld,Ju,ix1,if_pos];rfl
theorem Zk5:pFld "RingBook" "undone" (Ju p b d u)=.ok (.lst u):=by simp only[pFld,Ju,ix2,if_pos];rfl
theorem ZhI:pFld "RingBook" "boards" (bkP p k)=.ok (.lst (k.bs.map fzI)):=Zk7
theorem ZhH:pFld "RingBook" "deeds" (bkP p k)=.ok (.lst (k.ds.map dd3)):=Zk6
theorem Zjn:pFld "RingBook" "undone" (bkP p k)=.ok (.lst (k.us.map Zdd)):=Zk5
theorem Zg5 {m:Str} (h:m ∉ (["boards", "deeds", "undone"]:List Str)):obG "RingBook" m (bkP p k)=.ok .non:=by
 unfold bkP Ju obG
 exact if_pos ⟨rfl,h⟩
theorem Zk1:obG "RingBook" "sow" (bkP p k)=.ok .non:=Zg5 (by decide +kernel)
theorem Zk3:obG "RingBook" "enter" (bkP p k)=.ok .non:=Zg5 (by decide +kernel)
theorem ZhG:obG "RingBook" "undo" (bkP p k)=.ok .non:=Zg5 (by decide +kernel)
theorem Zjo:obG "RingBook" "redo" (bkP p k)=.ok .non:=Zg5 (by decide +kernel)
theorem ZfZ:obG "RingBook" "board" (bkP p k)=.ok .non:=Zg5 (by decide +kernel)
theorem Zjp:obG "RingBook" "plan" (bkP p k)=.ok .non:=Zg5 (by decide +kernel)
theorem Zk2:obG "RingBook" "sown_in_all" (bkP p k)=.ok .non:=Zg5 (by decide +kernel)
theorem Zjq:obG "RingBook" "came_again" (bkP p k)=.ok .non:=Zg5 (by decide +kernel)
theorem Zjs:Zhs "RingBook" "boards" (bkP p k)=.ok .non:=by unfold Zhs;rw[ZhI];exact if_pos (flats_map JA _)
theorem Zjr:Zhs "RingBook" "deeds" (bkP p k)=.ok .non:=by unfold Zhs;rw[ZhH];exact if_pos (flats_map VB _)
theorem Zk4:Zhs "RingBook" "undone" (bkP p k)=.ok .non:=by unfold Zhs;rw[Zjn];exact if_pos (flats_map Vs _)
theorem ZkP {y:List PV}:Uw "RingBook" "boards" (Ju p b d u) y=.ok (Ju p y d u):=by unfold Uw Ju;simp only[ix0];rfl
theorem ZkO {y:List PV}:Uw "RingBook" "deeds" (Ju p b d u) y=.ok (Ju p b y u):=by unfold Uw Ju;simp only[ix1];rfl
theorem ZkN {y:List PV}:Uw "RingBook" "undone" (Ju p b d u) y=.ok (Ju p b d y):=by unfold Uw Ju;simp only[ix2];rfl
theorem Zju {ns:List Int} (h:k.bs.length<1000000):ZhL "RingBook" "boards" (bkP p k) (fzI ns)=.ok (bkP p ⟨k.bs++[ns],k.ds,k.us⟩):=by
 unfold ZhL
 rw[ZhI]
 show (if _ then _ else _)=_
 rw[if_pos ⟨flats_map JA _,by rw[ZqC];exact h⟩]
 show Uw _ _ (Ju p _ _ _) _=_
 rw[ZkP]
 unfold bkP
 rw[Zrm];rfl
theorem Zjt {x:Dd} (h:k.ds.length<1000000):ZhL "RingBook" "deeds" (bkP p k) (dd3 x)=.ok (bkP p ⟨k.bs,k.ds++[x],k.us⟩):=by
 unfold ZhL
 rw[ZhH]
 show (if _ then _ else _)=_
 rw[if_pos ⟨flats_map VB _,by rw[ZqC];exact h⟩]
 show Uw _ _ (Ju p _ _ _) _=_
 rw[ZkO]
 unfold bkP
 rw[Zrm];rfl
theorem Zk8 {x:Dd×List Int} (h:k.us.length<1000000):ZhL "RingBook" "undone" (bkP p k) (Zdd x)=.ok (bkP p ⟨k.bs,k.ds,k.us++[x]⟩):=by
 unfold ZhL
 rw[Zjn]
 show (if _ then _ else _)=_
 rw[if_pos ⟨flats_map Vs _,by rw[ZqC];exact h⟩]
 show Uw _ _ (Ju p _ _ _) _=_
 rw[ZkN]
 unfold bkP
 rw[Zrm];rfl
theorem Zke {α:Type}{q:α->PV}{L:List α}{d:α} (h:L.length≠0):(L.map q).getD ((L.map q).length-1) .non=q (L.getD (L.length-1) d):=by
 rw[ZqC,Zq5,Zq5,ZqO,Zq6 (by omega)];rfl
theorem ZjR {α:Type}{q:α->PV} (hq:∀a,(q a).flat=true) {L:List α} (d:α) (h:L.length≠0):popL (L.map q)=.ok (q (L.getD (L.length-1) d),L.dropLast.map q):=by
 unfold popL
 rw[if_pos ⟨flats_map hq _,by rw[ZqC];exact h⟩,Zke (d:=d) h,List.map_dropLast]
theorem Zk0 (h:k.bs.length≠0):ZgR "RingBook" "boards" (bkP p k)=.ok (fzI (k.bs.getD (k.bs.length-1) []),bkP p ⟨k.bs.dropLast,k.ds,k.us⟩):=by
 unfold ZgR
 rw[ZhI]
 show (popL _).bind _=_
 rw[ZjR JA [] h]
 simp only[Rr.bind_ok]
 unfold bkP
 rw[ZkP];rfl
theorem Zkz (h:k.ds.length≠0):ZgR "RingBook" "deeds" (bkP p k)=.ok (dd3 (k.ds.getD (k.ds.length-1) ("",0,0)),bkP p ⟨k.bs,k.ds.dropLast,k.us⟩):=by
 unfold ZgR
 rw[ZhH]
 show (popL _).bind _=_
 rw[ZjR VB ("",0,0) h]
 simp only[Rr.bind_ok]
 unfold bkP
 rw[ZkO];rfl
theorem Zky (h:k.us.length≠0):ZgR "RingBook" "undone" (bkP p k)=.ok (Zdd (k.us.getD (k.us.length-1) (("",0,0),[])),bkP p ⟨k.bs,k.ds,k.us.dropLast⟩):=by
 unfold ZgR
 rw[Zjn]
 show (popL _).bind _=_
 rw[ZjR Vs (("",0,0),[]) h]
 simp only[Rr.bind_ok]
 unfold bkP
 rw[ZkN];rfl
theorem Zku:pSetF "RingBook" "undone" (bkP p k) (.lst [])=.ok (bkP p ⟨k.bs,k.ds,[]⟩):=by
 unfold bkP Ju
 simp only[pSetF]
 rw[if_pos ⟨trivial,by decide⟩,show Zdx ("undone":Str) (["boards", "deeds", "undone"]:List Str)=(["boards", "deeds", "undone"]:List Str) by decide +kernel]
 unfold ZaR
 rw[if_pos (by decide +kernel),ix2];rfl
theorem Zkx {y:PV}:pSetF "RingBook" "boards" (.box p (.ob "RingBook" []) []) y=.ok (.box p (.ob "RingBook" ["boards"]) [y]):=by
 simp only[pSetF]
 rw[if_pos ⟨trivial,by decide⟩,show Zdx ("boards":Str) ([]:List Str)=(["boards"]:List Str) by decide +kernel]
 unfold ZaR
 rw[if_neg (by decide +kernel)];rfl
theorem Zkw {x y:PV}:pSetF "RingBook" "deeds" (.box p (.ob "RingBook" ["boards"]) [x]) y=.ok (.box p (.ob "RingBook" ["boards", "deeds"]) [x,y]):=by
 simp only[pSetF]
 rw[if_pos ⟨trivial,by decide⟩,show Zdx ("deeds":Str) (["boards"]:List Str)=(["boards", "deeds"]:List Str) by decide +kernel]
 unfold ZaR
 rw[if_neg (by decide +kernel)];rfl
theorem Zkv {x y z:PV}:pSetF "RingBook" "undone" (.box p (.ob "RingBook" ["boards", "deeds"]) [x,y]) z=.ok (.box p (.ob "RingBook" ["boards", "deeds", "undone"]) [x,y,z]):=by
 simp only[pSetF]
 rw[if_pos ⟨trivial,by decide⟩,show Zdx ("undone":Str) (["boards", "deeds"]:List Str)=(["boards", "deeds", "undone"]:List Str) by decide +kernel]
 unfold ZaR
 rw[if_neg (by decide +kernel)];rfl
end
theorem ZdD {α:Type}{q:α->PV}{L:List α}{d:α} (h:L.length≠0):pIx (.lst (L.map q)) (.int (-1))=.ok (q (L.getD (L.length-1) d)):=by
 have e:ixN (L.map q).length (-1)=some (L.length-1):=by
  unfold ixN
  rw[ZqC,if_neg (by decide),if_pos (by omega)]
  congr 1
  omega
 unfold pIx atI
 simp only[e,Zrw]
 rw[ZqO,Zq5,Zq6 (by omega)];rfl
theorem ZfE {a:List Int×Int}:QK (.tup [.lst (a.1.map PV.int),.int a.2])=.tup [fzI a.1,.int a.2]:=by
 simp only[QK,frzPs,VP];rfl
theorem Zcg {ns:List Int}:grd (fzI ns)=.ok (fzI ns):=by unfold grd;rw[if_pos (JA ns)]
theorem ZiV {ns:List Int}{i:Int}:grd (.tup [fzI ns,.int i])=.ok (.tup [fzI ns,.int i]):=by
 unfold grd;rw[if_pos (by simp[PV.flat,PV.flats,JA])]
theorem Zgd {p:Option Addr}{k:Bk}:unp (bkP p k)=bkP none k:=rfl
theorem Qr {ns:List Int}:thw (fzI ns)=.lst (ns.map PV.int):=rfl
theorem ZfF {ns:List Int}:QK (.lst (ns.map PV.int))=fzI ns:=by simp only[QK,VP];rfl
end L2
namespace L2
noncomputable def ZiU (p s:Int):Int:=p*s%(p+1)
noncomputable def Zlf (p s:Int):Int:=p*s/(p+1)
noncomputable def ZgK (s:Int):Nat->Int
 |0=>s
 |k+1=>Zlf (k+1) (ZgK s k)
noncomputable def ZiZ (s:Int) (n:Nat):List Int:=(List.range n).map fun(k:Nat)=>ZiU (k+1) (ZgK s k)
noncomputable def Zid (s:Int):Nat->Nat->Nat
 |0,k=>k
 |n+1,k=>if 0<ZgK s k then Zid s n (k+1) else k
noncomputable def Zln (s:Int):Nat:=Zid s s.toNat 0
noncomputable def ZjK (s:Int):List Int:=ZiZ s (Zln s)
def ZeQ (ns:List Int):Prop:=(∀x∈ns,0<=x)/\ns.length<=200/\ns.sum<=10000/\(ns=[]\/ns.getD (ns.length-1) 0≠0)
noncomputable instance (ns:List Int):Decidable (ZeQ ns):=by unfold ZeQ;infer_instance
def Zg9 (ns:List Int):Prop:=ZeQ ns/\ns=ZjK ns.sum
noncomputable instance (ns:List Int):Decidable (Zg9 ns):=by unfold Zg9;infer_instance
noncomputable def s2 (ns:List Int) (r:Nat):Nat->Int
 |0=>0
 |i+1=>s2 ns r i+if i%2=r then ns.getD i 0 else 0
noncomputable def hs:Nat->Nat->Int->List Int
 |_,0,_=>[]
 |k,m+1,l=>ZiU (k+1) l::hs (k+1) m (Zlf (k+1) l)
noncomputable def s3 (ns:List Int) (r:Nat):Nat->Int
 |0=>0
 |i+1=>s3 ns r i+if i%3=r then ns.getD i 0 else 0
def Zg8 (ns:List Int):Prop:=(∀x∈ns,0<=x)/\ns.length<=100/\ns.sum<=100/\(ns=[]\/(ns.getD 0 0≠0/\ns.getD (ns.length-1) 0≠0))
noncomputable instance (ns:List Int):Decidable (Zg8 ns):=by unfold Zg8;infer_instance
theorem getD_set {l:List Int}{i j:Nat}{v:Int} (h:i<l.length):(l.set i v).getD j 0=if i=j then v else l.getD j 0:=by
 simp only[Zq5,List.getElem?_set,if_pos h]
 split<;>rfl
end L2
namespace My
open L2
noncomputable def ZjN (ns:List Int) (k:Int):List Int:=tab ns.length fun x=>ns.getD (((x:Int)-k)%ns.length).toNat 0
noncomputable def ZjM (a:List Int×Int) (s:Nat):Int:=((its Zb8 s a).2-a.2)%a.1.length
def isT (a:List Int×Int) (s:Nat):Prop:=(its Zb8 s a).1=ZjN a.1 (ZjM a s)
noncomputable instance (a:List Int×Int) (s:Nat):Decidable (isT a s):=by unfold isT;infer_instance
section
end
end My
namespace My
open PySem PySem.Spec PyProof.Rows L2
theorem ZfH {xs:List PV}:PV.flat (.tup xs)=PV.flats xs:=by simp[PV.flat]
theorem Qk {ns:List Int}:PV.flat (.tup (ns.map PV.int))=true:=by rw[ZfH];exact Zav
theorem Zes {ns:List Int}:grd (.tup (ns.map PV.int))=.ok (.tup (ns.map PV.int)):=by unfold grd;rw[Qk];rfl
noncomputable def tI (b:List Int):List Key:=b.map Sum.inl
theorem Zb3 (b:List Int):VI b=.tup ((tI b).map Zhn):=by unfold VI tI;rw[List.map_map];rfl
theorem flats_map {α:Type}{q:α->PV} (h:∀a,PV.flat (q a)=true):∀L:List α,PV.flats (L.map q)=true
 |[]=>by simp[PV.flats]
 |a::L=>by
  rw[ZqJ]
  simp only[PV.flats,h a,flats_map h L,Bool.and_self]
theorem Zhj {xs:List PV} (h:PV.flats xs=true) (hl:xs.length<=1000000):newF xs=.ok (.lst xs):=by
 unfold newF
 rw[h,decide_eq_true hl];rfl
theorem ZiB {α:Type}{q:α->PV}{L:List α} (h:∀a,PV.flat (q a)=true) (hl:L.length<=1000000):newF (L.map q)=.ok (.lst (L.map q)):=Zhj (flats_map h L) (by simpa using hl)
theorem Zex (t:List Int):PV.flat (VI t)=true:=Qk
theorem Zii {a b:List Int} (h:tI a=tI b):a=b:=by
 unfold tI at h
 exact(List.map_inj_right fun x y h=>Sum.inl.inj h).mp h
section
variable {κ:Type} [DecidableEq κ]
end
section
variable {ks:List (List Key)}{xs:List PV}{p:Option PySem.Addr}{g:List Int}{v:PV}
theorem Zjj:dAt (.box p (.dt ks) xs) (VI g)=some (atK ks xs (tI g)):=by
 rw[Zb3]
 simp only[dAt,VO,Option.map_some]
theorem Zhc (h:atK ks xs (tI g)=some v):Zfu (.box p (.dt ks) xs) (VI g)=.ok v:=by
 unfold Zfu
 rw[Zjj,h]
theorem Zi5 {f:Bool->Bool}:ZjB f (VI g) (.box p (.dt ks) xs)=.ok (.bl (f (atK ks xs (tI g)).isSome)):=by
 unfold ZjB
 rw[Zjj]
theorem Zhb (hv:v.flat=true) (hl:xs.length<1000000):ZdJ (.box p (.dt ks) xs) (VI g) v=.ok (.box p (.dt (VJ ks (tI g))) (putXs ks xs (tI g) v)):=by
 rw[Zb3]
 unfold ZdJ
 simp only[VO]
 rw[if_pos ⟨hl,.inr hv⟩]
end
end My
namespace My
open PySem L2
noncomputable def UC (bs:List (List Int)) (b:List Int):Nat->Option Nat
 |0=>none
 |i+1=>if bs.getD i []=b then some i else UC bs b i
theorem VN {bs:List (List Int)}{b:List Int}{i:Nat}:∀{n:Nat},UC bs b n=some i ↔ i<n/\bs.getD i []=b/\∀m,i<m->m<n->bs.getD m []≠b
 |0=>by simp[UC]
 |n+1=>by
  unfold UC
  by_cases e:bs.getD n []=b
  ·rw[if_pos e]
   constructor
   ·intro h
    cases h
    exact⟨Zro _,e,fun m h1 h2=>by omega⟩
   ·rintro⟨h1,h2,h3⟩
    by_cases q:i=n
    ·rw[q]
    ·exact absurd e (h3 n (by omega) (by omega))
  ·rw[if_neg e,VN]
   constructor
   ·rintro⟨h1,h2,h3⟩
    refine⟨by omega,h2,fun m q1 q2=>?_⟩
    by_cases q:m=n
    ·rw[q];exact e
    ·exact h3 m q1 (by omega)
   ·rintro⟨h1,h2,h3⟩
    refine⟨?_,h2,fun m q1 q2=>h3 m q1 (by omega)⟩
    by_cases q:i=n
    ·rw[q] at h2;exact absurd h2 e
    ·omega
noncomputable def Zgn (o:Option Nat) (j:Nat):List (List Int):=match o with
 |some i=>[[(i:Int),(j:Int)]]
 |none=>[]
noncomputable def Qp (bs:List (List Int)):Nat->List (List Int)
 |0=>[]
 |j+1=>Qp bs j++Zgn (UC bs (bs.getD j []) j) j
def PrC (bs:List (List Int)) (n:Nat) (x:List Int):Prop:=∃i j:Nat,x=[(i:Int),(j:Int)]/\i<j/\j<n/\bs.getD i []=bs.getD j []/\∀m,i<m->m<j->bs.getD m []≠bs.getD j []
theorem Zct {bs:List (List Int)}{x:List Int}:∀{n:Nat},x∈Qp bs n ↔ PrC bs n x
 |0=>by
  simp only[Qp,Zrp,false_iff]
  rintro⟨i,j,_,_,h,_⟩
  omega
 |n+1=>by
  unfold Qp
  rw[Zq9,Zct]
  constructor
  ·rintro(⟨i,j,h1,h2,h3,h4⟩|h)
   ·exact⟨i,j,h1,h2,by omega,h4⟩
   ·unfold Zgn at h
    split at h
    ·rename_i i e
     obtain⟨e1,e2,e3⟩:=VN.mp e
     exact⟨i,n,by simpa using h,e1,by omega,e2,e3⟩
    ·simp at h
  ·rintro⟨i,j,rfl,h2,h3,h4,h5⟩
   by_cases q:j=n
   ·subst q
    refine .inr ?_
    rw[VN.mpr ⟨h2,h4,h5⟩]
    simp[Zgn]
   ·exact .inl ⟨i,j,rfl,h2,by omega,h4,h5⟩
theorem QE {bs:List (List Int)}:∀{n:Nat},(Qp bs n).length<=n
 |0=>by simp[Qp]
 |n+1=>by
  unfold Qp
  have:=QE (bs:=bs) (n:=n)
  rw[ZqP]
  have:(Zgn (UC bs (bs.getD n []) n) n).length<=1:=by unfold Zgn;split<;>simp
  omega
theorem ZhF {bs:List (List Int)}{n:Nat}:∀t∈Qp bs n,t≠[]:=fun t ht=>by
 obtain⟨i,j,rfl,_⟩:=Zct.mp ht
 simp
theorem QG {k k':List Key}{y:PV}:∀{ks:List (List Key)}{xs:List PV},ks.length=xs.length->k∈ks->atK ks (Zc0 ks xs k y) k'=if k'=k then some y else atK ks xs k'
 |[],_,_,h=>by simp at h
 |_::_,[],h,_=>by simp at h
 |q::ks,x::xs,h,hm=>by
  unfold Zc0 atK
  by_cases e:q=k
  ·subst e
   rw[if_pos rfl]
   by_cases e2:k'=q
   ·subst e2;rw[if_pos rfl,if_pos rfl]
   ·rw[if_neg (Ne.symm e2),if_neg e2,if_neg (Ne.symm e2)]
    by_cases hm2:q∈ks
    ·rw[QG (by simpa using h) hm2,if_neg e2]
    ·clear hm
     have:∀{ks:List (List Key)}{xs:List PV},ks.length=xs.length->q ∉ ks->atK ks (Zc0 ks xs q y) k'=atK ks xs k':=by
      intro ks
      induction ks with
      |nil=>intro xs _ _;rfl
      |cons a ks ih =>
       intro xs hl hn
       cases xs with
       |nil=>simp at hl
       |cons x xs =>
        have hn':a≠q:=fun z=>hn (by simp[z])
        simp only[Zc0,atK]
        rw[if_neg hn',ih (by simpa using hl) fun z=>hn (by simp[z])]
     exact this (by simpa using h) hm2
  ·rw[if_neg e]
   have hm2:k∈ks:=by
    rcases ZqE.mp hm with z|z
    ·exact absurd z.symm e
    ·exact z
   by_cases e2:q=k'
   ·rw[if_pos e2,if_pos e2,if_neg (fun z=>e (e2.trans z))]
   ·rw[if_neg e2,if_neg e2,QG (by simpa using h) hm2]
theorem Zcv {k k':List Key}{y:PV}:∀{ks:List (List Key)}{xs:List PV},ks.length=xs.length->k ∉ ks->atK (ks++[k]) (xs++[y]) k'=if k'=k then some y else atK ks xs k'
 |[],[],_,_=>by
  show (if k=k' then some y else none)=_
  by_cases e:k'=k
  ·rw[if_pos e,if_pos e.symm]
  ·rw[if_neg e,if_neg (Ne.symm e)];rfl
 |[],_::_,h,_=>by simp at h
 |_::_,[],h,_=>by simp at h
 |q::ks,x::xs,h,hm=>by
  have e:q≠k:=fun z=>hm (by simp[z])
  show (if q=k' then some x else atK (ks++[k]) (xs++[y]) k')=if k'=k then some y else if q=k' then some x else atK ks xs k'
  rw[Zcv (by simpa using h) fun z=>hm (by simp[z])]
  by_cases e2:q=k'
  ·rw[if_pos e2,if_pos e2,if_neg (fun z=>e (e2.trans z))]
  ·rw[if_neg e2,if_neg e2]
theorem ZhK {ks:List (List Key)}{xs:List PV}{k k':List Key}{y:PV} (h:ks.length=xs.length):atK (VJ ks k) (putXs ks xs k y) k'=if k'=k then some y else atK ks xs k':=by
 unfold VJ putXs
 by_cases hm:k∈ks
 ·rw[if_pos hm,if_pos hm,QG h hm]
 ·rw[if_neg hm,if_neg hm,Zcv h hm]
theorem Ziw {ks:List (List Key)}{xs:List PV}{k:List Key}{y:PV} (h:ks.length=xs.length):(putXs ks xs k y).length<=xs.length+1:=by
 unfold putXs
 split
 ·rw[Qv h,h];omega
 ·simp
theorem Vx {g:Bool->Bool}{n:Nat}{x:PV} (h:Dat n x) (hn:n<=64:=by decide):QJ g x x=.ok (.bl (g true)):=by
 unfold QJ
 rw[h.ok hn,Bool.and_self,if_pos rfl,PySem.SeqAt.eqv_refl _ h.can]
theorem Zjb {α:Type}{q:α->PV}{L:List α}{d:α}{i:Nat}{x:PV} (h:(QA (L.map q))[i]?=some x):i<L.length/\x=.tup [.int i,q (L.getD i d)]:=by
 unfold QA at h
 rw[Zrx,ZqO] at h
 by_cases hi:i<L.length
 ·rw[Zq6 hi] at h
  refine⟨hi, ?_⟩
  rw[Zq5,Zq6 hi]
  simpa using h.symm
 ·rw[ZqH (by omega)] at h
  simp at h
end My
namespace My
open L2
noncomputable abbrev ZgA:=PySem.Str×Int
noncomputable def Zh6 (d:ZgA):PV:=.tup [.str d.1,.int d.2]
noncomputable def Zkq (w:PySem.Str):Bool:=w==("sow":PySem.Str) || w==("back":PySem.Str)
noncomputable def Zlu (b:List Int) (d:ZgA):Bool:=Zkq d.1&&(decide (0<=d.2/\d.2<(b.length:Int))&&decide (0<b.getD d.2.toNat 0))
noncomputable def Zh5 (b:List Int) (d:ZgA):List Int×Int:=if d.1=("sow":PySem.Str) then Zb8 (b,d.2) else tbS (b,d.2)
noncomputable def Zj2 (b:List Int) (ds:List ZgA):Nat->List Int
 |0=>b
 |i+1=>(Zh5 (Zj2 b ds i) (ds.getD i ("",0))).1
noncomputable def Zks (b:List Int) (ds:List ZgA) (i:Nat):Bool:=Zlu (Zj2 b ds i) (ds.getD i ("",0))
end My
namespace My
open PySem L2
noncomputable def ZjT (d:Dd):ZgA:=(d.1,d.2.1)
noncomputable abbrev plO (ds:List Dd):List ZgA:=ds.map ZjT
noncomputable def mvD (b:List Int) (d:ZgA):Int:=if d.1=("sow":Str) then b.getD d.2.toNat 0 else -(Zh5 b d).1.getD (Zh5 b d).2.toNat 0
structure Zl0 (b0:List Int) (bs:List (List Int)) (ds:List Dd):Prop where
 len:bs.length=ds.length+1
 wk:∀i,i<bs.length->bs.getD i []=Zj2 b0 (plO ds) i
 can:∀i,i<ds.length->Zks b0 (plO ds) i=true
 mv:∀i,i<ds.length->(ds.getD i ("",0,0)).2.2=mvD (Zj2 b0 (plO ds) i) (ZjT (ds.getD i ("",0,0)))
structure Bw (b0:List Int) (k:Bk):Prop where
 bd:Qa b0
 kl:k.bs.length=k.ds.length+1
 all:Zl0 b0 (k.bs++(k.us.map (·.2)).reverse) (k.ds++(k.us.map (·.1)).reverse)
noncomputable def Zee (k:Bk):List Int:=k.bs.getD (k.bs.length-1) []
set_option hygiene false
local macro_rules | `(tactic| walk_at "pu")=>`(tactic| try simp -implicitDefEqProofs only[Zeq,Zer,List.set_cons_zero,List.set_cons_succ,List.cons_append,ZrE,ZqX,List.replicate_zero,Zra,Rr.bind_ok,Rr.bind_exc,Rr.bind_bad,Rr.thenS_ok,Rr.thenS_exc,RS.seq_next,RS.seq_ret,RS.seq_exc,RS.out_next,RS.out_ret,RS.out_exc,
 ZdK,ZdA,Zgq,Zgr,Zgw,Zgx,Zet,Zg6,ZeP,Zgv,Zgu,ZdB,Zgt,Zgs,Zcc,Zcd,Zcb,ZdG,ZbM,Zaf,Zad,ZqL,Zrc,Bool.not_true,Bool.not_false,Bool.false_eq_true,if_true,if_false,Nat.reduceAdd,Nat.reduceSub,id,ZqJ,Zrl,Int.reduceToNat,Qf,VM,Zi7,Zg1,Zg0,Zcf,ZbS,Nat.reduceLeDiff,ZqG,Int.reduceLT,Int.reduceLE,Int.reduceEq,decide_true,decide_false])
set_option hygiene true
seal PE PT PA PS PSs DE DT DAA DAF DS
noncomputable abbrev Zr:List Str:=["boards", "deeds", "undone"]
noncomputable def top (i:Nat):Stmt:=PySem.Challenge.pw_sowring_k59_books_begun.main.body.getD i (.Pass ⟨0,0,0,0⟩)
noncomputable abbrev ZmJ:Stmt:=top 26
theorem ZpW:Zu ["script", "k"] ["script", "k"] (Zc ZmJ):=⟨rfl,rfl,rfl,by decide +kernel,rfl,by decide +kernel,by decide +kernel⟩
theorem Zqc:Z7 "_law_at" ZmJ ["script", "k"]:=fun _ _ _ _ _ _ us hl=>by obtain⟨_,_,rfl⟩:=us2 hl;rfl
noncomputable abbrev Zmg:Stmt:=top 27
theorem ZmG:Zu ["script", "many", "numbers", "k", "at"] ["script", "many"] (Zc Zmg):=⟨rfl,rfl,rfl,by decide +kernel,rfl,by decide +kernel,by decide +kernel⟩
theorem Zpz:Z7 "_law_folded" Zmg ["script", "many"]:=fun _ _ _ _ _ _ us hl=>by obtain⟨_,_,rfl⟩:=us2 hl;rfl
noncomputable abbrev Zmo:Stmt:=top 28
theorem Zmr:Zu ["script", "pits", "way", "board", "number", "held"] ["script", "pits", "way"] (Zc Zmo):=⟨rfl,rfl,rfl,by decide +kernel,rfl,by decide +kernel,by decide +kernel⟩
theorem ZpA:Z7 "_law_board" Zmo ["script", "pits", "way"]:=fun _ _ _ _ _ _ us hl=>by obtain⟨_,_,_,rfl⟩:=us3 hl;rfl
noncomputable abbrev Zm7:Stmt:=top 10
theorem ZpO:Zu ["value"] ["value"] (Zc Zm7):=⟨rfl,rfl,rfl,by decide +kernel,rfl,by decide +kernel,by decide +kernel⟩
theorem ZpT:Z7 "is_whole" Zm7 ["value"]:=fun _ _ _ _ _ _ us hl=>by obtain⟨_,rfl⟩:=us1 hl;rfl
noncomputable abbrev ZlU:Stmt:=top 11
theorem ZoJ:Zu ["value", "least"] ["value", "least"] (Zc ZlU):=⟨rfl,rfl,rfl,by decide +kernel,rfl,by decide +kernel,by decide +kernel⟩
theorem Zn9:Z7 "is_whole_from" ZlU ["value", "least"]:=fun _ _ _ _ _ _ us hl=>by obtain⟨_,_,rfl⟩:=us2 hl;rfl
noncomputable abbrev Zl9:Stmt:=top 12
theorem ZmE:Zu ["values"] ["values"] (Zc Zl9):=⟨rfl,rfl,rfl,by decide +kernel,rfl,by decide +kernel,by decide +kernel⟩
theorem ZnG:Z7 "is_list_from_nought" Zl9 ["values"]:=fun _ _ _ _ _ _ us hl=>by obtain⟨_,rfl⟩:=us1 hl;rfl
noncomputable abbrev Zmn:Stmt:=top 9
theorem Zp1:Zu [] [] (Zc Zmn):=⟨rfl,rfl,rfl,by decide +kernel,rfl,by decide +kernel,by decide +kernel⟩
theorem Zp9:Z7 "most_seeds" Zmn []:=fun _ _ _ _ _ _ us hl=>match us,hl with | [],_=>rfl
noncomputable abbrev Zm8:Stmt:=top 13
theorem ZpP:Zu ["board"] ["board"] (Zc Zm8):=⟨rfl,rfl,rfl,by decide +kernel,rfl,by decide +kernel,by decide +kernel⟩
theorem ZpU:Z7 "is_board" Zm8 ["board"]:=fun _ _ _ _ _ _ us hl=>by obtain⟨_,rfl⟩:=us1 hl;rfl
noncomputable abbrev Zmf:Stmt:=top 14
theorem Zpu:Zu ["board"] ["board"] (Zc Zmf):=⟨rfl,rfl,rfl,by decide +kernel,rfl,by decide +kernel,by decide +kernel⟩
theorem Znk:Z7 "check_board" Zmf ["board"]:=fun _ _ _ _ _ _ us hl=>by obtain⟨_,rfl⟩:=us1 hl;rfl
noncomputable abbrev Zl7:Stmt:=ZR (top 24) 0
theorem Zoi:Zu ["self", "board"] ["self", "board"] (Zc Zl7):=⟨rfl,rfl,rfl,by decide +kernel,rfl,by decide +kernel,by decide +kernel⟩
theorem Zok:∀(kV doc pm:Value) (an:Option Addr) (cdv ct:Value) (us:List Value),us.length=(["self", "board"]:List Str).length->bindArgs (PySem.W.fnOf "__init__" "RingBook.__init__" (Zk Zl7) (Zj Zl7) (Zc Zl7) .none kV doc pm an cdv ct) ⟨us,[]⟩=pure ((["self", "board"]:List Str).zip us):=fun _ _ _ _ _ _ us hl=>by obtain⟨_,_,rfl⟩:=us2 hl;rfl
noncomputable abbrev ZlF:Stmt:=ZR (top 24) 6
theorem Zoz:Zu ["self"] ["self"] (Zc ZlF):=⟨rfl,rfl,rfl,by decide +kernel,rfl,by decide +kernel,by decide +kernel⟩
theorem Znp:∀(kV doc pm:Value) (an:Option Addr) (cdv ct:Value) (us:List Value),us.length=(["self"]:List Str).length->bindArgs (PySem.W.fnOf "board" "RingBook.board" (Zk ZlF) (Zj ZlF) (Zc ZlF) .none kV doc pm an cdv ct) ⟨us,[]⟩=pure ((["self"]:List Str).zip us):=fun _ _ _ _ _ _ us hl=>by obtain⟨_,rfl⟩:=us1 hl;rfl
noncomputable abbrev ZlJ:Stmt:=ZR (top 24) 7
theorem Zn5:Zu ["self"] ["self"] (Zc ZlJ):=⟨rfl,rfl,rfl,by decide +kernel,rfl,by decide +kernel,by decide +kernel⟩
theorem ZoV:∀(kV doc pm:Value) (an:Option Addr) (cdv ct:Value) (us:List Value),us.length=(["self"]:List Str).length->bindArgs (PySem.W.fnOf "plan" "RingBook.plan" (Zk ZlJ) (Zj ZlJ) (Zc ZlJ) .none kV doc pm an cdv ct) ⟨us,[]⟩=pure ((["self"]:List Str).zip us):=fun _ _ _ _ _ _ us hl=>by obtain⟨_,rfl⟩:=us1 hl;rfl
noncomputable abbrev Zl5:Stmt:=ZR (top 24) 9
theorem ZlG:Zu ["self", "places", "pairs", "place", "found", "key"] ["self"] (Zc Zl5):=⟨rfl,rfl,rfl,by decide +kernel,rfl,by decide +kernel,by decide +kernel⟩
theorem ZnH:∀(kV doc pm:Value) (an:Option Addr) (cdv ct:Value) (us:List Value),us.length=(["self"]:List Str).length->bindArgs (PySem.W.fnOf "came_again" "RingBook.came_again" (Zk Zl5) (Zj Zl5) (Zc Zl5) .none kV doc pm an cdv ct) ⟨us,[]⟩=pure ((["self"]:List Str).zip us):=fun _ _ _ _ _ _ us hl=>by obtain⟨_,rfl⟩:=us1 hl;rfl
noncomputable abbrev Zl4:Stmt:=ZR (top 24) 8
theorem ZmB:Zu ["self"] ["self"] (Zc Zl4):=⟨rfl,rfl,rfl,by decide +kernel,rfl,by decide +kernel,by decide +kernel⟩
theorem Zn0:∀(kV doc pm:Value) (an:Option Addr) (cdv ct:Value) (us:List Value),us.length=(["self"]:List Str).length->bindArgs (PySem.W.fnOf "sown_in_all" "RingBook.sown_in_all" (Zk Zl4) (Zj Zl4) (Zc Zl4) .none kV doc pm an cdv ct) ⟨us,[]⟩=pure ((["self"]:List Str).zip us):=fun _ _ _ _ _ _ us hl=>by obtain⟨_,rfl⟩:=us1 hl;rfl
noncomputable abbrev Zmp:Stmt:=top 31
theorem Znq:Zu ["book", "board", "told", "one"] ["book", "board"] (Zc Zmp):=⟨rfl,rfl,rfl,by decide +kernel,rfl,by decide +kernel,by decide +kernel⟩
theorem ZpB:Z7 "_law_begun" Zmp ["book", "board"]:=fun _ _ _ _ _ _ us hl=>by obtain⟨_,_,rfl⟩:=us2 hl;rfl
noncomputable abbrev Zl6:Stmt:=ZR (top 24) 0
theorem ZnA:Zu ["self", "board"] ["self", "board"] (Zc Zl6):=⟨rfl,rfl,rfl,by decide +kernel,rfl,by decide +kernel,by decide +kernel⟩
theorem ZnI:∀(kV doc pm:Value) (an:Option Addr) (cdv ct:Value) (us:List Value),us.length=(["self", "board"]:List Str).length->bindArgs (PySem.W.fnOf "__init__" "RingBook.__init__" (Zk Zl6) (Zj Zl6) (Zc Zl6) .none kV doc pm an cdv ct) ⟨us,[]⟩=pure ((["self", "board"]:List Str).zip us):=fun _ _ _ _ _ _ us hl=>by obtain⟨_,_,rfl⟩:=us2 hl;rfl
noncomputable abbrev ZlV:Stmt:=top 30
theorem Zm4:Zu ["board", "caught", "e"] ["board"] (Zc ZlV):=⟨rfl,rfl,rfl,by decide +kernel,rfl,by decide +kernel,by decide +kernel⟩
theorem ZoS:Z7 "_law_no_board" ZlV ["board"]:=fun _ _ _ _ _ _ us hl=>by obtain⟨_,rfl⟩:=us1 hl;rfl
noncomputable abbrev Znf:Stmt:=top 15
theorem Zqf:Zu ["board", "pit"] ["board", "pit"] (Zc Znf):=⟨rfl,rfl,rfl,by decide +kernel,rfl,by decide +kernel,by decide +kernel⟩
theorem Zqo:Z7 "is_pit" Znf ["board", "pit"]:=fun _ _ _ _ _ _ us hl=>by obtain⟨_,_,rfl⟩:=us2 hl;rfl
noncomputable abbrev Zmx:Stmt:=top 16
theorem ZpE:Zu ["board", "pit"] ["board", "pit"] (Zc Zmx):=⟨rfl,rfl,rfl,by decide +kernel,rfl,by decide +kernel,by decide +kernel⟩
theorem ZpL:Z7 "check_pit" Zmx ["board", "pit"]:=fun _ _ _ _ _ _ us hl=>by obtain⟨_,_,rfl⟩:=us2 hl;rfl
noncomputable abbrev ZlO:Stmt:=top 17
theorem Zox:Zu ["board", "pit"] ["board", "pit"] (Zc ZlO):=⟨rfl,rfl,rfl,by decide +kernel,rfl,by decide +kernel,by decide +kernel⟩
theorem ZoC:Z7 "check_standing" ZlO ["board", "pit"]:=fun _ _ _ _ _ _ us hl=>by obtain⟨_,_,rfl⟩:=us2 hl;rfl
noncomputable abbrev ZmI:Stmt:=top 21
theorem Zm6:Zu ["board", "pit", "pits", "rounds", "over", "other", "last", "step"] ["board", "pit"] (Zc ZmI):=⟨rfl,rfl,rfl,by decide +kernel,rfl,by decide +kernel,by decide +kernel⟩
theorem Zqb:Z7 "sow_pit" ZmI ["board", "pit"]:=fun _ _ _ _ _ _ us hl=>by obtain⟨_,_,rfl⟩:=us2 hl;rfl
noncomputable abbrev ZoI:Stmt:=top 19
theorem Zqw:Zu ["board", "pit"] ["board", "pit"] (Zc ZoI):=⟨rfl,rfl,rfl,by decide +kernel,rfl,by decide +kernel,by decide +kernel⟩
theorem Zqn:Z7 "sown" ZoI ["board", "pit"]:=fun _ _ _ _ _ _ us hl=>by obtain⟨_,_,rfl⟩:=us2 hl;rfl
noncomputable abbrev ZlH:Stmt:=ZR (top 24) 4
theorem ZoK:Zu ["self"] ["self"] (Zc ZlH):=⟨rfl,rfl,rfl,by decide +kernel,rfl,by decide +kernel,by decide +kernel⟩
theorem ZoT:∀(kV doc pm:Value) (an:Option Addr) (cdv ct:Value) (us:List Value),us.length=(["self"]:List Str).length->bindArgs (PySem.W.fnOf "undo" "RingBook.undo" (Zk ZlH) (Zj ZlH) (Zc ZlH) .none kV doc pm an cdv ct) ⟨us,[]⟩=pure ((["self"]:List Str).zip us):=fun _ _ _ _ _ _ us hl=>by obtain⟨_,rfl⟩:=us1 hl;rfl
noncomputable abbrev ZlB:Stmt:=ZR (top 24) 4
theorem Zoq:Zu ["self"] ["self"] (Zc ZlB):=⟨rfl,rfl,rfl,by decide +kernel,rfl,by decide +kernel,by decide +kernel⟩
theorem Zov:∀(kV doc pm:Value) (an:Option Addr) (cdv ct:Value) (us:List Value),us.length=(["self"]:List Str).length->bindArgs (PySem.W.fnOf "undo" "RingBook.undo" (Zk ZlB) (Zj ZlB) (Zc ZlB) .none kV doc pm an cdv ct) ⟨us,[]⟩=pure ((["self"]:List Str).zip us):=fun _ _ _ _ _ _ us hl=>by obtain⟨_,rfl⟩:=us1 hl;rfl
noncomputable abbrev ZlC:Stmt:=ZR (top 24) 5
theorem Zor:Zu ["self", "again"] ["self"] (Zc ZlC):=⟨rfl,rfl,rfl,by decide +kernel,rfl,by decide +kernel,by decide +kernel⟩
theorem Zow:∀(kV doc pm:Value) (an:Option Addr) (cdv ct:Value) (us:List Value),us.length=(["self"]:List Str).length->bindArgs (PySem.W.fnOf "redo" "RingBook.redo" (Zk ZlC) (Zj ZlC) (Zc ZlC) .none kV doc pm an cdv ct) ⟨us,[]⟩=pure ((["self"]:List Str).zip us):=fun _ _ _ _ _ _ us hl=>by obtain⟨_,rfl⟩:=us1 hl;rfl
noncomputable abbrev ZlZ:Stmt:=top 29
theorem ZmA:Zu ["book", "way", "caught", "e"] ["book", "way"] (Zc ZlZ):=⟨rfl,rfl,rfl,by decide +kernel,rfl,by decide +kernel,by decide +kernel⟩
theorem Zpo:Z7 "_law_no_deed" ZlZ ["book", "way"]:=fun _ _ _ _ _ _ us hl=>by obtain⟨_,_,rfl⟩:=us2 hl;rfl
noncomputable abbrev ZlE:Stmt:=ZR (top 24) 3
theorem Zoy:Zu ["self", "deed", "board"] ["self", "deed", "board"] (Zc ZlE):=⟨rfl,rfl,rfl,by decide +kernel,rfl,by decide +kernel,by decide +kernel⟩
theorem ZoD:∀(kV doc pm:Value) (an:Option Addr) (cdv ct:Value) (us:List Value),us.length=(["self", "deed", "board"]:List Str).length->bindArgs (PySem.W.fnOf "enter" "RingBook.enter" (Zk ZlE) (Zj ZlE) (Zc ZlE) .none kV doc pm an cdv ct) ⟨us,[]⟩=pure ((["self", "deed", "board"]:List Str).zip us):=fun _ _ _ _ _ _ us hl=>by obtain⟨_,_,_,rfl⟩:=us3 hl;rfl
noncomputable abbrev ZlM:Stmt:=ZR (top 24) 1
theorem ZnJ:Zu ["self", "pit", "behind"] ["self", "pit"] (Zc ZlM):=⟨rfl,rfl,rfl,by decide +kernel,rfl,by decide +kernel,by decide +kernel⟩
theorem Zpp:∀(kV doc pm:Value) (an:Option Addr) (cdv ct:Value) (us:List Value),us.length=(["self", "pit"]:List Str).length->bindArgs (PySem.W.fnOf "sow" "RingBook.sow" (Zk ZlM) (Zj ZlM) (Zc ZlM) .none kV doc pm an cdv ct) ⟨us,[]⟩=pure ((["self", "pit"]:List Str).zip us):=fun _ _ _ _ _ _ us hl=>by obtain⟨_,_,rfl⟩:=us2 hl;rfl
noncomputable abbrev ZlI:Stmt:=ZR (top 24) 5
theorem Zn4:Zu ["self", "again"] ["self"] (Zc ZlI):=⟨rfl,rfl,rfl,by decide +kernel,rfl,by decide +kernel,by decide +kernel⟩
theorem ZoU:∀(kV doc pm:Value) (an:Option Addr) (cdv ct:Value) (us:List Value),us.length=(["self"]:List Str).length->bindArgs (PySem.W.fnOf "redo" "RingBook.redo" (Zk ZlI) (Zj ZlI) (Zc ZlI) .none kV doc pm an cdv ct) ⟨us,[]⟩=pure ((["self"]:List Str).zip us):=fun _ _ _ _ _ _ us hl=>by obtain⟨_,rfl⟩:=us1 hl;rfl
noncomputable abbrev ZpF:Stmt:=top 32
theorem Zn3:Zu ["script", "head", "pits", "board", "far", "odd", "one", "other", "book", "pit", "made", "last"] ["script"] (Zc ZpF):=⟨rfl,rfl,rfl,by decide +kernel,rfl,by decide +kernel,by decide +kernel⟩
theorem Zq3:Z7 "law" ZpF ["script"]:=fun _ _ _ _ _ _ us hl=>by obtain⟨_,rfl⟩:=us1 hl;rfl
noncomputable abbrev XN:List Str:=["SowError", "BadBoard", "BadPit", "NoSeeds", "NoDeed"]
noncomputable abbrev Zbu:List (Str×Str×Bool):=[("SowError", "SowError",true),("BadBoard", "SowError",true),("BadPit", "SowError",true),("NoSeeds", "SowError",true),("NoDeed", "SowError",true)]
noncomputable abbrev Zbv:List (Str×Str×Bool):=[("SowError", "BadBoard",false),("BadBoard", "BadBoard",true),("BadPit", "BadBoard",false),("NoSeeds", "BadBoard",false),("NoDeed", "BadBoard",false)]
noncomputable abbrev ZeS:List (Str×Str×Bool):=[("SowError", "BadPit",false),("BadBoard", "BadPit",false),("BadPit", "BadPit",true),("NoSeeds", "BadPit",false),("NoDeed", "BadPit",false)]
noncomputable abbrev ZcX:List (Str×Str×Bool):=[("SowError", "NoSeeds",false),("BadBoard", "NoSeeds",false),("BadPit", "NoSeeds",false),("NoSeeds", "NoSeeds",true),("NoDeed", "NoSeeds",false)]
noncomputable abbrev ZeR:List (Str×Str×Bool):=[("SowError", "NoDeed",false),("BadBoard", "NoDeed",false),("BadPit", "NoDeed",false),("NoSeeds", "NoDeed",false),("NoDeed", "NoDeed",true)]
noncomputable abbrev XS:List (Str×Str×Bool):=Zbu++Zbv++ZeS++ZcX++ZeR
noncomputable abbrev XR:List Str:=["SowError", "BadBoard", "BadPit", "NoSeeds", "NoDeed"]
noncomputable abbrev US:List (Str×Bool):=[("SowError",true),("BadBoard",true),("BadPit",true),("NoSeeds",true),("NoDeed",true)]
noncomputable abbrev JD:List (Str×Bool):=[("SowError",false),("BadBoard",true),("BadPit",false),("NoSeeds",false),("NoDeed",false)]
noncomputable abbrev VG:List (Str×Bool):=[("SowError",false),("BadBoard",false),("BadPit",false),("NoSeeds",false),("NoDeed",true)]
noncomputable abbrev VF:List (Str×Bool):=[("SowError",true),("BadBoard",true),("BadPit",true),("NoSeeds",true),("NoDeed",true)]
noncomputable abbrev Jd:Stmt:=ZR (top 1) 0
theorem QT:Zu ["self"] ["self"] (Zc Jd):=⟨rfl,rfl,rfl,by decide +kernel,rfl,by decide +kernel,by decide +kernel⟩
noncomputable abbrev Je:Stmt:=ZR (top 2) 0
theorem QU:Zu ["self"] ["self"] (Zc Je):=⟨rfl,rfl,rfl,by decide +kernel,rfl,by decide +kernel,by decide +kernel⟩
noncomputable abbrev J3:Stmt:=ZR (top 3) 0
theorem Zc2:Zu ["self"] ["self"] (Zc J3):=⟨rfl,rfl,rfl,by decide +kernel,rfl,by decide +kernel,by decide +kernel⟩
noncomputable abbrev Jn:Stmt:=ZR (top 4) 0
theorem ZaO:Zu ["self"] ["self"] (Zc Jn):=⟨rfl,rfl,rfl,by decide +kernel,rfl,by decide +kernel,by decide +kernel⟩
noncomputable abbrev J2:Stmt:=ZR (top 5) 0
theorem Zc1:Zu ["self"] ["self"] (Zc J2):=⟨rfl,rfl,rfl,by decide +kernel,rfl,by decide +kernel,by decide +kernel⟩
structure Txt (K:PySem.W.Frag) (mg:Str->Option Value):Prop where
 Zqm:Dfn K mg "_law_at" ZmJ
 Zp8:Dfn K mg "_law_folded" Zmg
 ZpI:Dfn K mg "_law_board" Zmo
 ZpZ:Dfn K mg "is_whole" Zm7
 ZnT:Dfn K mg "is_whole_from" ZlU
 ZnU:Dfn K mg "is_list_from_nought" Zl9
 ZpH:Dfn K mg "most_seeds" Zmn
 Zqa:Dfn K mg "is_board" Zm8
 Znz:Dfn K mg "check_board" Zmf
 ZpJ:Dfn K mg "_law_begun" Zmp
 Zph:Dfn K mg "_law_no_board" ZlV
 Zqt:Dfn K mg "is_pit" Znf
 ZpS:Dfn K mg "check_pit" Zmx
 ZoP:Dfn K mg "check_standing" ZlO
 Zql:Dfn K mg "sow_pit" ZmI
 Zqv:Dfn K mg "sown" ZoI
 Zpw:Dfn K mg "_law_no_deed" ZlZ
 Zq4:Dfn K mg "law" ZpF
 c_FEWEST_PITS:∃t,mg "FEWEST_PITS"=some (.int 2 t)
 c_MOST_PITS:∃t,mg "MOST_PITS"=some (.int 24 t)
 z_ValueError:mg "ValueError"=none
 z_all:mg "all"=none
 z_bool:mg "bool"=none
 z_enumerate:mg "enumerate"=none
 z_int:mg "int"=none
 z_isinstance:mg "isinstance"=none
 z_len:mg "len"=none
 z_list:mg "list"=none
 z_range:mg "range"=none
 z_sorted:mg "sorted"=none
 z_sum:mg "sum"=none
 z_tuple:mg "tuple"=none
 x_tab:ZeU K XN XS=true
 x_exc:ZgB K XR=true
 x_mg:∀n C,JR K n C->mg n=some (.ref C)
 m_SowError:UZ K "SowError" "called" "SowError.called" Jd
 m_BadBoard:UZ K "BadBoard" "called" "BadBoard.called" Je
 m_BadPit:UZ K "BadPit" "called" "BadPit.called" J3
 m_NoSeeds:UZ K "NoSeeds" "called" "NoSeeds.called" Jn
 m_NoDeed:UZ K "NoDeed" "called" "NoDeed.called" J2
 Zoo:UZ K "RingBook" "__init__" "RingBook.__init__" Zl7
 Zn7:UZ K "RingBook" "board" "RingBook.board" ZlF
 Zpk:UZ K "RingBook" "plan" "RingBook.plan" ZlJ
 ZnV:UZ K "RingBook" "came_again" "RingBook.came_again" Zl5
 ZnE:UZ K "RingBook" "sown_in_all" "RingBook.sown_in_all" Zl4
 ZnW:UZ K "RingBook" "__init__" "RingBook.__init__" Zl6
 Zpi:UZ K "RingBook" "undo" "RingBook.undo" ZlH
 Zo8:UZ K "RingBook" "undo" "RingBook.undo" ZlB
 Zo9:UZ K "RingBook" "redo" "RingBook.redo" ZlC
 ZoQ:UZ K "RingBook" "enter" "RingBook.enter" ZlE
 Zpx:UZ K "RingBook" "sow" "RingBook.sow" ZlM
 Zpj:UZ K "RingBook" "redo" "RingBook.redo" ZlI
 o_RingBook:VD K "RingBook" Zr=true
section
variable {P:Program}{w:World}{K:W.Frag}{mg:Str->Option Value}{base:Heap}
theorem ZaY (T:Txt K mg):MOk P w K mg base 1 "called" "SowError":=by
 obtain⟨C,f,fd,h1,h2,h3,F⟩:=T.m_SowError
 obtain⟨C2,c1,_,c2,_⟩:=Jv T.x_tab (n := "SowError") (by decide)
 obtain rfl:=c1.inj h1
 refine⟨C2,f,fd,h1,c2,h2,h3,F.kp,F.binds (fun _ _ _ _ _ _ us hl=>match us,hl with | [_],_=>rfl), ?_⟩
 exact F.okP QT rfl rfl (fun cdv A outer s H E hr=>⟨_,_,⟨[],[],[],.P⟩,rfl,Zi (Z2 Jx),Z3 J0,fun xs=>.inr rfl⟩)
theorem ZaZ (T:Txt K mg):MOk P w K mg base 1 "called" "BadBoard":=by
 obtain⟨C,f,fd,h1,h2,h3,F⟩:=T.m_BadBoard
 obtain⟨C2,c1,_,c2,_⟩:=Jv T.x_tab (n := "BadBoard") (by decide)
 obtain rfl:=c1.inj h1
 refine⟨C2,f,fd,h1,c2,h2,h3,F.kp,F.binds (fun _ _ _ _ _ _ us hl=>match us,hl with | [_],_=>rfl), ?_⟩
 exact F.okP QU rfl rfl (fun cdv A outer s H E hr=>⟨_,_,⟨[],[],[],.P⟩,rfl,Zi (Z2 Jx),Z3 J0,fun xs=>.inr rfl⟩)
theorem ZdW (T:Txt K mg):MOk P w K mg base 1 "called" "BadPit":=by
 obtain⟨C,f,fd,h1,h2,h3,F⟩:=T.m_BadPit
 obtain⟨C2,c1,_,c2,_⟩:=Jv T.x_tab (n := "BadPit") (by decide)
 obtain rfl:=c1.inj h1
 refine⟨C2,f,fd,h1,c2,h2,h3,F.kp,F.binds (fun _ _ _ _ _ _ us hl=>match us,hl with | [_],_=>rfl), ?_⟩
 exact F.okP Zc2 rfl rfl (fun cdv A outer s H E hr=>⟨_,_,⟨[],[],[],.P⟩,rfl,Zi (Z2 Jx),Z3 J0,fun xs=>.inr rfl⟩)
theorem ZcD (T:Txt K mg):MOk P w K mg base 1 "called" "NoSeeds":=by
 obtain⟨C,f,fd,h1,h2,h3,F⟩:=T.m_NoSeeds
 obtain⟨C2,c1,_,c2,_⟩:=Jv T.x_tab (n := "NoSeeds") (by decide)
 obtain rfl:=c1.inj h1
 refine⟨C2,f,fd,h1,c2,h2,h3,F.kp,F.binds (fun _ _ _ _ _ _ us hl=>match us,hl with | [_],_=>rfl), ?_⟩
 exact F.okP ZaO rfl rfl (fun cdv A outer s H E hr=>⟨_,_,⟨[],[],[],.P⟩,rfl,Zi (Z2 Jx),Z3 J0,fun xs=>.inr rfl⟩)
theorem ZdV (T:Txt K mg):MOk P w K mg base 1 "called" "NoDeed":=by
 obtain⟨C,f,fd,h1,h2,h3,F⟩:=T.m_NoDeed
 obtain⟨C2,c1,_,c2,_⟩:=Jv T.x_tab (n := "NoDeed") (by decide)
 obtain rfl:=c1.inj h1
 refine⟨C2,f,fd,h1,c2,h2,h3,F.kp,F.binds (fun _ _ _ _ _ _ us hl=>match us,hl with | [_],_=>rfl), ?_⟩
 exact F.okP Zc1 rfl rfl (fun cdv A outer s H E hr=>⟨_,_,⟨[],[],[],.P⟩,rfl,Zi (Z2 Jx),Z3 J0,fun xs=>.inr rfl⟩)
theorem Zgz (T:Txt K mg):∀n∈XN,MOk P w K mg base 1 "called" n:=fun n hn=>by
 simp only[XN,ZqE,Zrp,or_false] at hn
 rcases hn with rfl|rfl|rfl|rfl|rfl
 ·exact ZaY T
 ·exact ZaZ T
 ·exact ZdW T
 ·exact ZcD T
 ·exact ZdV T
theorem JZ:ZdE US (.exc "BadBoard")=.ok (.bl true):=JT (by decide)
theorem V0:ZdE US (.exc "NoDeed")=.ok (.bl true):=JT (by decide)
theorem Va:ZdE JD (.exc "BadBoard")=.ok (.bl true):=JT (by decide)
theorem V2:ZdE JD (.exc "NoDeed")=.ok (.bl false):=JT (by decide)
theorem V1:ZdE VG (.exc "BadBoard")=.ok (.bl false):=JT (by decide)
theorem VY:ZdE VG (.exc "NoDeed")=.ok (.bl true):=JT (by decide)
theorem Zbc:Vm XN (.exc "BadBoard")=.ok (.str "BadBoard"):=U5 (by decide)
theorem Zec:Vm XN (.exc "NoDeed")=.ok (.str "NoDeed"):=U5 (by decide)
theorem U8:PyData.canLay0 (.str "BadBoard")=true:=by rw[PyData.canLay0];decide +kernel
theorem Zaj:PyData.canLay0 (.str "NoDeed")=true:=by rw[PyData.canLay0];decide +kernel
theorem Vb {g:Bool->Bool}:QJ g (.str "BadBoard") (.str "BadBoard")=.ok (.bl (g true)):=ZdF U8 U8
theorem VZ {g:Bool->Bool}:QJ g (.str "NoDeed") (.str "NoDeed")=.ok (.bl (g true)):=ZdF Zaj Zaj
set_option hygiene false
local macro_rules | `(tactic| walk_at "pd")=>`(tactic| try simp -implicitDefEqProofs (disch:=first|omega|(simp only[ZqC,ZqP,Zrb,List.length_replicate,ZqL,Zrc,List.length_take,List.length_drop,List.length_range,Vj];omega)|decide) only[Zeq,Zer,List.set_cons_zero,List.set_cons_succ,List.cons_append,ZrE,Zdw,Zdv,Zra,Rr.bind_ok,Rr.bind_exc,Rr.bind_bad,Rr.thenS_ok,Rr.thenS_exc,RS.seq_next,RS.seq_ret,RS.seq_exc,RS.out_next,RS.out_ret,RS.out_exc,
 ZdK,ZdA,Zgq,Zgr,Zgw,Zgx,Zet,ZfB,ZfC,Zg6,ZeP,Zgv,Zgu,Zfs,ZdB,Zgt,Zgs,Zcc,Zcd,Zcb,ZdG,ZbM,Zaf,Zad,ZqL,Zrc,Bool.not_true,Bool.not_false,Bool.false_eq_true,if_true,if_false,Nat.reduceAdd,Nat.reduceSub,id,ZqJ,Zrl,Int.reduceToNat,Qf,VM,Zi7,Zg1,Zg0,Zi3,Zft,ZkA,Zcf,ZbS,Nat.reduceLeDiff,ZqG,Int.reduceLT,Int.reduceLE,Int.reduceEq,decide_true,decide_false,
 Jh,Vw,Zag,ZbL,ZbK,Zeb,Zc9,Vz,ZbT,Zfq,ZgE,ZgD,Zfz,Zfy,ZdT,Zfw,beq_self_eq_true,Bool.and_true,Bool.true_and,Bool.and_false,Bool.false_and,JZ,V0,Va,V2,V1,VY,Zbc,Zec,Vb,VZ])
set_option hygiene true
noncomputable def Zm9:Pm:=⟨List Int×Int,fun a=>[.lst (a.1.map PV.int),.int a.2],fun a=>0<=a.2,fun a=>.ok (.int (a.1.getD a.2.toNat 0))⟩
theorem ZpY (T:Txt K mg) {f:Addr}{fd:FuncData} (F:Fun K "_law_at" "_law_at" ZmJ f fd):Jb P w K mg base CX0 1 f fd ["script", "k"] (spF K 2 .P W0 Zm9.fn):=by
 refine F.okP ZpW rfl rfl (fun cdv A outer s H E hr=>?_)
 have hu:=hr.units
 refine⟨_,_,⟨[],[],[],.P⟩,rfl,(Zh (Ji (ZE Zhe (pv 1) (Zz (ZW (K:=K)) rfl T.z_len Vh (Za (pv 0) Zf)) (ZI _)) (Zi (Z2 (Jt (ZA (K:=K)) (pv 0) (pv 1) (fun _ _=>rfl)))) Z8)
   (Zi (Z2 Zm))),
   (Zp (Γm:=[.S,.S]) (J4 (ZO (DE.toA (Zh9 (Zd (i:=1) (m:=.S) rfl (by decide)) (DE.toA (Vg (Zb (Zd (i:=0) (m:=.S) rfl (by decide)) Zg))))))
   (Z3 (DE.grd (Ja (te:=tC .non) (Zd (i:=0) (m:=.S) rfl (by decide)) (Zd (i:=1) (m:=.S) rfl (by decide)))))
   ZB)
   (Z3 Zn)), ?_⟩
 refine Pm.ref Zm9 (g:=fun xs=>_) ?_
 rintro⟨ns,k⟩ (hk:0<=k)
 simp only[Zm9]
 walk_at "pu"
 by_cases h:k<ns.length
 ·rw[if_pos (decide_eq_true h),Jh hk h]
  walk_at "pu"
 ·rw[if_neg (by simpa using h)]
  walk_at "pu"
  rw[Zq5,ZqH (by omega)];rfl
theorem ZnY {ns:List Int}{k:Int} (h:0<=k):Zm9.fn [.lst (ns.map PV.int),.int k]=.ok (.int (ns.getD k.toNat 0)):=Pm.fn_eq Zm9 (ns,k) h fun(a:List Int×Int) e=>by (simp only[Zm9,List.cons.injEq,PV.lst.injEq,PV.int.injEq,PV.str.injEq,PV.bl.injEq,PV.tup.injEq,JW,and_true] at e ⊢;first|(simp only[e];done)|(subst e;rfl)|(rw[e]))
noncomputable def Zmb:Pm:=⟨List Int×Int,fun a=>[.lst (a.1.map PV.int),.int a.2],fun a=>a.1.length<=63/\1<=a.2/\a.2<=24,fun a=>.ok (.lst ((JF a.1 a.2).map PV.int))⟩
theorem Zpv (T:Txt K mg) {f:Addr}{fd:FuncData} (F:Fun K "_law_folded" "_law_folded" Zmg f fd):Jb P w K mg base CX0 1 f fd ["script", "many"] (spF K 2 .F W0 Zmb.fn):=by
 refine F.okP ZmG rfl rfl (fun cdv A outer s H E hr=>?_)
 have hu:=hr.units
 refine⟨_,_,⟨[],[],[],.F⟩,rfl,(Zh (ZC (i:=2) ZmG.nd rfl (by first|exact Or.inl rfl|exact Or.inr rfl) (ZT Zgy (ZQ (Za Zm Zf)) (pv 1)))
   (Zh (VU PassesOwn.never rfl (Zd0 rfl T.z_range (Za Zm (Za (Zz (ZW (K:=K)) rfl T.z_len Vh (Za (pv 0) Zf)) Zf))) (Jq (i:=3) ZmG.nd rfl (by first|exact Or.inl rfl|exact Or.inr rfl)) (Zh (ZC (i:=4) ZmG.nd rfl (by first|exact Or.inl rfl|exact Or.inr rfl) (ZT Ve (ZT ZdL (pv 3) Zm) (pv 1)))
   (Zi (Zdy (ZT Ve (ZT Zai (ZT Zhd (Jt (ZA (K:=K)) (pv 2) (pv 4) (fun _ _=>rfl)) Zm) (Jt (ZA (K:=K)) (pv 0) (pv 3) (fun _ _=>rfl))) (ZT ZbN Zm Zm)) (Zgp (pv 2) (pv 4) Qu)))))
   (Zi (Z2 (pv 2))))),
   (Zp (Γm:=[.S,.S,.O,.U,.U]) (JC (i:=2) (Ze6 (Zb (DE.toA Zn) Zg) (Zd (i:=1) (m:=.S) rfl (by decide))) (by decide))
   (Zp (Γm:=[.S,.S,.O,.U,.U]) (Qm (Γl:=[.S,.S,.O,.U,.U]) (Zh1 (Zb (DE.toA Zn) (Zb (DE.toA (Vg (Zb (Zd (i:=0) (m:=.S) rfl (by decide)) Zg))) Zg))) rfl (ZhZ (i:=3) (by decide))
   (DS.out (Y:=⟨[.S,.S,.O,.P,.P],[.S,.S,.O,.U,.U],[.S,.S,.O,.U,.U],.F⟩) (Y':=⟨[.S,.S,.O,.U,.U],[.S,.S,.O,.U,.U],[.S,.S,.O,.U,.U],.F⟩) (Zp (Γm:=[.S,.S,.O,.P,.P]) (ZL (i:=4) (Vf (DE.toA (Ze4 (DE.toA (Zq (i:=3) rfl)) (DE.toA Zn))) (Zd (i:=1) (m:=.S) rfl (by decide))) (by decide))
   (Zax (i:=2) rfl (Vf (DE.toA (Za4 (DE.toA (Zjf (Ja (te:=tC .non) (Zd (i:=2) (m:=.O) rfl (by decide)) (DE.toA (Zq (i:=4) rfl))) (DE.toA Zn))) (Ja (te:=tC .non) (Zd (i:=0) (m:=.S) rfl (by decide)) (DE.toA (Zq (i:=3) rfl))))) (DE.toA (Zcm (DE.toA Zn) (DE.toA Zn)))) (DE.toA (Zq (i:=4) rfl)))) rfl rfl rfl rfl))
   (Vq (Zbl (i:=2) rfl)))), ?_⟩
 refine Pm.ref Zmb (g:=fun xs=>_) ?_
 rintro⟨ns,m⟩ ⟨hn,hm1,hm2⟩
 simp only at hn hm1 hm2
 simp only[Zmb]
 walk_at "pu"
 have e0:ZhV [PV.int 0] (.int m)=.ok (.lst ((Vp ns m 0).map PV.int)):=by
  have:=Zae (ns:=[0]) (k:=m) (by simp;omega) (by omega) (by omega)
  simp only[ZqJ,Zrl] at this
  rw[this,Zrs];rfl
 rw[e0]
 walk_at "pu"
 rw[ZbK (by omega) (by omega)]
 walk_at "pu"
 generalize hb:(fun(x:PV) (ρ:List PV)=>_)=body
 obtain⟨ρ',h1,h2⟩:=Ut (b:=body) (xs:=Zc3 1 ((ns.length:Int)-1).toNat) (ρ:=[.lst (ns.map PV.int),.int m,.lst ((Vp ns m 0).map PV.int),.non,.non]) (fun i ρ=>∃v3 v4,ρ=[.lst (ns.map PV.int),.int m,.lst ((Vp ns m i).map PV.int),v3,v4]) ⟨_,_,rfl⟩ (by
  rintro i x ρ hx ⟨v3,v4,rfl⟩
  obtain⟨hi,rfl⟩:=Qw hx
  subst hb
  have a0:=Zr3 (i:Int) (show m≠0 by omega)
  have a1:=Zr6 (i:Int) (show 0<m by omega)
  have e1:(1:Int)+i-1=i:=by omega
  have hl:=Jz ns m i
  walk_at "pu"
  rw[VM (by omega)]
  walk_at "pu"
  rw[e1,Jh a0 (by omega),Jh (by omega) (by omega)]
  walk_at "pu"
  have hb:=JB ns m i ((Vp ns m i).getD ((i:Int)%m).toNat 0) (Zat (by omega))
  rw[ZgY (ZhE 60 2 (by omega) (by decide))]
  walk_at "pu"
  rw[VM (by decide)]
  walk_at "pu"
  rw[Vw a0 (by omega)]
  walk_at "pu"
  rw[show (1+(i:Int)).toNat=i+1 by omega,<- ZcO]
  exact VX ⟨_,_,rfl⟩)
 obtain⟨v3,v4,rfl⟩:=h2
 rw[h1]
 walk_at "pu"
 rw[Vj]
 unfold JF
 rw[show ((ns.length:Int)-1).toNat=ns.length-1 by omega]
theorem ZmC {ns:List Int}{m:Int} (h:ns.length<=63/\1<=m/\m<=24):Zmb.fn [.lst (ns.map PV.int),.int m]=.ok (.lst ((JF ns m).map PV.int)):=
 Pm.fn_eq Zmb (ns,m) h fun⟨ns',k'⟩ e=>by
  simp only[Zmb,List.cons.injEq,PV.lst.injEq,PV.int.injEq,and_true] at e ⊢
  rw[ZV e.1,e.2]
noncomputable def Zmh:Pm:=⟨List Int×Int×Int,fun a=>[.lst (a.1.map PV.int),.int a.2.1,.int a.2.2],fun a=>a.1.length<=63/\2<=a.2.1/\a.2.1<=24,fun a=>.ok (.lst ((J9 a.1 a.2.1 a.2.2).map PV.int))⟩
theorem Zp5 (T:Txt K mg) {f:Addr}{fd:FuncData} (F:Fun K "_law_board" "_law_board" Zmo f fd):Jb P w K mg base CX0 2 f fd ["script", "pits", "way"] (spF K 3 .F W0 Zmh.fn):=by
 have ZpD:=ZbO (P:=P) (w:=w) (base:=base) T.Zp8 Zpz (fun F=>Zpv T F)
 refine F.okP Zmr rfl rfl (fun cdv A outer s H E hr=>?_)
 have hu:=hr.units
 refine⟨_,_,⟨[],[],[],.F⟩,rfl,(Zh (ZC (i:=3) Zmr.nd rfl (by first|exact Or.inl rfl|exact Or.inr rfl) (ZQ Zf))
   (Zh (VU PassesOwn.never rfl (Jw (K:=K) (Z6 ZpD (hr.mono (by decide)) rfl (Za (pv 0) (Za (pv 1) Zf)))) (Jq (i:=4) Zmr.nd rfl (by first|exact Or.inl rfl|exact Or.inr rfl)) (Zh (ZC (i:=5) Zmr.nd rfl (by first|exact Or.inl rfl|exact Or.inr rfl) (ZT Ve (ZT J8 (pv 4) Zm) Zm))
   (Zh (Ji (ZE (JE (K:=K) hu) (pv 2) Zm (ZI _)) (Zi (ZC (i:=5) Zmr.nd rfl (by first|exact Or.inl rfl|exact Or.inr rfl) (ZT Ve (ZT J8 (pv 4) Zm) Zm))) Z8)
   (Zh (Ji (ZE (JE (K:=K) hu) (pv 2) Zm (ZI _)) (Zi (ZC (i:=5) Zmr.nd rfl (by first|exact Or.inl rfl|exact Or.inr rfl) (ZT J8 (pv 4) Zm))) Z8)
   (Zh (Ji (ZE (JE (K:=K) hu) (pv 2) Zm (ZI _)) (Zi (ZC (i:=5) Zmr.nd rfl (by first|exact Or.inl rfl|exact Or.inr rfl) (Jt (ZA (K:=K)) (ZQ (Za Zm (Za Zm (Za (ZT J8 (pv 4) Zm) (Za (pv 1) Zf))))) (ZT Ve (ZT J8 (pv 4) Zm) Zm) (fun _ _=>rfl)))) Z8)
   (Zi (ZF (UW PySem.F.plainAttrs_list PySem.F.slot_list_append PySem.F.type_list_append ZU (pv 3) (Za (pv 5) Zf)))))))))
   (Zi (Z2 (pv 3))))),
   (Zp (Γm:=[.S,.S,.S,.O,.U,.U]) (JC (i:=3) (ZM ZH) (by decide))
   (Zp (Γm:=[.S,.S,.S,.O,.U,.U]) (Qm (Γl:=[.S,.S,.S,.O,.U,.U]) (VQ (DE.FZ (ZeV (Ze (Ze Zo)) (Zb (Zd (i:=0) (m:=.S) rfl (by decide)) (Zb (Zd (i:=1) (m:=.S) rfl (by decide)) Zg))))) rfl (ZhZ (i:=4) (by decide))
   (DS.out (Y:=⟨[.S,.S,.S,.O,.P,.P],[.S,.S,.S,.O,.U,.U],[.S,.S,.S,.O,.U,.U],.F⟩) (Y':=⟨[.S,.S,.S,.O,.U,.U],[.S,.S,.S,.O,.U,.U],[.S,.S,.S,.O,.U,.U],.F⟩) (Zp (Γm:=[.S,.S,.S,.O,.P,.P]) (ZL (i:=5) (Vf (DE.toA (UO (DE.toA (Zq (i:=4) rfl)) (DE.toA Zn))) (DE.toA Zn)) (by decide))
   (Zp (Γm:=[.S,.S,.S,.O,.P,.P]) (J4 (ZO (DE.toA (Jl (g:=id) (Zd (i:=2) (m:=.S) rfl (by decide)) (DE.toA Zn))))
   (ZL (i:=5) (Vf (DE.toA (UO (DE.toA (Zq (i:=4) rfl)) (DE.toA Zn))) (DE.toA Zn)) (by decide))
   ZB)
   (Zp (Γm:=[.S,.S,.S,.O,.P,.P]) (J4 (ZO (DE.toA (Jl (g:=id) (Zd (i:=2) (m:=.S) rfl (by decide)) (DE.toA Zn))))
   (ZL (i:=5) (UO (DE.toA (Zq (i:=4) rfl)) (DE.toA Zn)) (by decide))
   ZB)
   (Zp (Γm:=[.S,.S,.S,.O,.P,.P]) (J4 (ZO (DE.toA (Jl (g:=id) (Zd (i:=2) (m:=.S) rfl (by decide)) (DE.toA Zn))))
   (ZL (i:=5) (DE.grd (Ja (te:=tC .non) (DE.toA (ZM (Z0 (DE.PF Zn) (Z0 (DE.PF Zn) (Z0 (DE.PF (UO (DE.toA (Zq (i:=4) rfl)) (DE.toA Zn))) (Z0 (DE.PF (DE.grd (Zd (i:=1) (m:=.S) rfl (by decide)))) ZH)))))) (DE.toA (Vf (DE.toA (UO (DE.toA (Zq (i:=4) rfl)) (DE.toA Zn))) (DE.toA Zn))))) (by decide))
   ZB)
   (Ze1 (i:=3) rfl rfl (DE.PF (Zq (i:=5) rfl))))))) rfl rfl rfl rfl))
   (Vq (Zbl (i:=3) rfl)))), ?_⟩
 refine Pm.ref Zmh (g:=fun xs=>_) ?_
 rintro⟨ns,m,way⟩ ⟨hn,hm1,hm2⟩
 simp only at hn hm1 hm2
 simp only[Zmh]
 walk_at "pu"
 rw[ZmC ⟨hn,by omega,hm2⟩]
 walk_at "pu"
 have hfl:(JF ns m).length=m.toNat:=Jz ns m _
 generalize hb:(fun(x:PV) (ρ:List PV)=>_)=body
 obtain⟨ρ',h1,h2⟩:=Ut (b:=body) (xs:=(JF ns m).map PV.int) (ρ:=[.lst (ns.map PV.int),.int m,.int way,.lst [],.non,.non])
  (fun i ρ=>∃v4 v5,ρ=[.lst (ns.map PV.int),.int m,.int way,.lst ((((JF ns m).take i).map (Ua m way)).map PV.int),v4,v5]) ⟨_,_,rfl⟩ (by
  rintro i x ρ hx ⟨v4,v5,rfl⟩
  obtain⟨z,rfl,hz,hi⟩:=Zf7 hx
  obtain⟨z0,z1⟩:=JB ns m _ z (ZqU hz)
  have tk:(JF ns m).take (i+1)=(JF ns m).take i++[z]:=by
   rw[List.take_succ,hz];rfl
  have app:∀v,v=Ua m way z->pApp (.lst ((((JF ns m).take i).map (Ua m way)).map PV.int)) (.int v)=.ok (.lst ((((JF ns m).take (i+1)).map (Ua m way)).map PV.int)):=fun v hv=>by
   rw[Zag (by simp;omega),hv,tk]
   simp
  subst hb
  by_cases w3:way=3
  ·subst w3
   have e:pIx (.lst [.int 0,.int 1,.int (z/24),.int m]) (.int (z/7%4))=.ok (.int ([0,1,z/24,m].getD (z/7%4).toNat 0)):=Jh (ns:=[0,1,z/24,m]) (by omega) (by simp only[ZqL,Zrc];omega)
   walk_at "pu"
   rw[e]
   walk_at "pu"
   rw[app _ (by unfold Ua;rw[if_pos rfl])]
   walk_at "pu"
   exact VX ⟨_,_,rfl⟩
  ·by_cases w2:way=2
   ·subst w2
    walk_at "pu"
    rw[app _ (by unfold Ua;rw[if_neg (by decide),if_pos rfl])]
    walk_at "pu"
    exact VX ⟨_,_,rfl⟩
   ·by_cases w1:way=1
    ·subst w1
     walk_at "pu"
     rw[app _ (by unfold Ua;rw[if_neg (by decide),if_neg (by decide),if_pos rfl])]
     walk_at "pu"
     exact VX ⟨_,_,rfl⟩
    ·walk_at "pu"
     rw[decide_eq_false w1]
     walk_at "pu"
     rw[decide_eq_false w2]
     walk_at "pu"
     rw[decide_eq_false w3]
     walk_at "pu"
     rw[app _ (by unfold Ua;rw[if_neg w3,if_neg w2,if_neg w1])]
     walk_at "pu"
     exact VX ⟨_,_,rfl⟩)
 obtain⟨v4,v5,rfl⟩:=h2
 rw[h1]
 walk_at "pu"
 rw[ZqC,List.take_of_length_le (ZqG _)]
 rfl
theorem ZmL {ns:List Int}{m way:Int} (h:ns.length<=63/\2<=m/\m<=24):Zmh.fn [.lst (ns.map PV.int),.int m,.int way]=.ok (.lst ((J9 ns m way).map PV.int)):=
 Pm.fn_eq Zmh (ns,m,way) h fun⟨ns',k',w'⟩ e=>by
  simp only[Zmh,List.cons.injEq,PV.lst.injEq,PV.int.injEq,and_true] at e ⊢
  obtain⟨e1,e2,e3⟩:=e
  rw[ZV e1,e2,e3]
noncomputable def Zm5:Pm:=⟨Int,fun i=>[.int i],fun _=>True,fun _=>.ok (.bl true)⟩
theorem ZpQ (T:Txt K mg) {f:Addr}{fd:FuncData} (F:Fun K "is_whole" "is_whole" Zm7 f fd):Jb P w K mg base CX0 1 f fd ["value"] (spF K 1 .P W0 Zm5.fn):=by
 refine F.okP ZpO rfl rfl (fun cdv A outer s H E hr=>?_)
 have hu:=hr.units
 refine⟨_,_,⟨[],[],[],.P⟩,rfl,(Zi (Z2 (Zac (Zz (JO (K:=K) (n := "int") rfl) rfl T.z_isinstance Z1 (Za (pv 0) (Za (Vl (v:=.ty "int") rfl T.z_int Zjl rfl) Zf))) (QZ (Zi1 (Zz (JO (K:=K) (n := "bool") rfl) rfl T.z_isinstance Z1 (Za (pv 0) (Za (Vl (v:=.ty "bool") rfl T.z_bool ZeK rfl) Zf)))))))),
   (Z3 (Za3 (DE.toA (Za1 (Zd (i:=0) (m:=.S) rfl (by decide)))) (Zje (DE.toA (Za1 (Zd (i:=0) (m:=.S) rfl (by decide))))))), ?_⟩
 refine Pm.ref Zm5 (g:=fun xs=>_) ?_
 intro (i:Int) _
 simp only[Zm5]
 walk_at "pd"
theorem Znn {i:Int}:Zm5.fn [.int i]=.ok (.bl true):=Pm.fn_eq Zm5 i trivial fun _ _=>rfl
noncomputable def ZlP:Pm:=⟨Int×Int,fun a=>[.int a.1,.int a.2],fun _=>True,fun a=>.ok (.bl (decide (a.2<=a.1)))⟩
theorem Zn6 (T:Txt K mg) {f:Addr}{fd:FuncData} (F:Fun K "is_whole_from" "is_whole_from" ZlU f fd):Jb P w K mg base CX0 2 f fd ["value", "least"] (spF K 2 .P W0 ZlP.fn):=by
 have Zqd:=ZbO (P:=P) (w:=w) (base:=base) T.ZpZ ZpT (fun F=>ZpQ T F)
 refine F.okP ZoJ rfl rfl (fun cdv A outer s H E hr=>?_)
 have hu:=hr.units
 refine⟨_,_,⟨[],[],[],.P⟩,rfl,(Zi (Z2 (Zac (Z6 Zqd (hr.mono (by decide)) rfl (Za (pv 0) Zf)) (QZ (VL ZjZ (pv 0) (pv 1) (ZI _)))))),
   (Z3 (Za3 (DE.toA (QL (Ze Zo) (Zb (Zd (i:=0) (m:=.S) rfl (by decide)) Zg))) (Zkp (Zd (i:=0) (m:=.S) rfl (by decide)) (Zd (i:=1) (m:=.S) rfl (by decide))))), ?_⟩
 refine Pm.ref ZlP (g:=fun xs=>_) ?_
 rintro⟨i,j⟩ _
 simp only[ZlP]
 walk_at "pd"
 rw[Znn]
 walk_at "pd"
theorem Zmm {i j:Int}:ZlP.fn [.int i,.int j]=.ok (.bl (decide (j<=i))):=Pm.fn_eq ZlP (i,j) trivial fun(a:Int×Int) e=>by (simp only[ZlP,List.cons.injEq,PV.lst.injEq,PV.int.injEq,PV.str.injEq,PV.bl.injEq,PV.tup.injEq,JW,and_true] at e ⊢;first|(simp only[e];done)|(subst e;rfl)|(rw[e]))
noncomputable def Zl8:Pm:=⟨List Int,fun ns=>[.lst (ns.map PV.int)],fun ns=>ns.length<=1000000,fun ns=>.ok (.bl (decide (∀x∈ns,0<=x)))⟩
theorem ZnB (T:Txt K mg) {f:Addr}{fd:FuncData} (F:Fun K "is_list_from_nought" "is_list_from_nought" Zl9 f fd):Jb P w K mg base CX0 3 f fd ["values"] (spF K 1 .P W0 Zl8.fn):=by
 have Znd:=ZbO (P:=P) (w:=w) (base:=base) T.ZnT Zn9 (fun F=>Zn6 T F)
 refine F.okP ZmE rfl rfl (fun cdv A outer s H E hr=>?_)
 have hu:=hr.units
 refine⟨_,_,⟨[],[],[],.P⟩,rfl,(Zi (Z2 (Zac (Zz (JO (K:=K) (n := "list") rfl) rfl T.z_isinstance Z1 (Za (pv 0) (Za (Vl (v:=.ty "list") rfl T.z_list JP rfl) Zf))) (QZ (Zz (ZeI (K:=K) rfl) rfl T.z_all Zjv (Za (ZaS (Jw (K:=K) (pv 0)) (fun _ _ _ _=>(Z6 Znd (hr.mono (by decide)) rfl (Za (pv 1) (Za Zm Zf)))) ZmE.nd rfl) Zf)))))),
   (Z3 (Za3 (DE.toA (Za1 (Zd (i:=0) (m:=.S) rfl (by decide)))) (Zji (Zb (DE.toA (Uu (DI.c (VQ (UM (i:=0) rfl))) (DE.PF (QL (Ze (Ze Zo)) (Zb (Zd (i:=1) (m:=.S) rfl (by decide)) (Zb (DE.toA Zn) Zg)))))) Zg)))), ?_⟩
 refine Pm.ref Zl8 (g:=fun xs=>_) ?_
 intro (ns:List Int) (hn:ns.length<=1000000)
 simp only[Zl8]
 walk_at "pd"
 rw[Zhm (g:=fun z=>decide (0<=z)) (fun z _=>Zmm)]
 walk_at "pd"
 rw[ZhM]
theorem ZlW {ns:List Int} (h:ns.length<=1000000):Zl8.fn [.lst (ns.map PV.int)]=.ok (.bl (decide (∀x∈ns,0<=x))):=Pm.fn_eq Zl8 ns h fun(a:List Int) e=>by (simp only[Zl8,List.cons.injEq,PV.lst.injEq,PV.int.injEq,PV.str.injEq,PV.bl.injEq,PV.tup.injEq,JW,and_true] at e ⊢;first|(simp only[e];done)|(subst e;rfl)|(rw[e]))
noncomputable def Zms:Pm:=⟨Unit,fun _=>[],fun _=>True,fun _=>.ok (.int (10^60))⟩
theorem Zp4 (T:Txt K mg) {f:Addr}{fd:FuncData} (F:Fun K "most_seeds" "most_seeds" Zmn f fd):Jb P w K mg base CX0 1 f fd [] (spF K 0 .P W0 Zms.fn):=by
 refine F.okP Zp1 rfl rfl (fun cdv A outer s H E hr=>?_)
 have hu:=hr.units
 refine⟨_,_,⟨[],[],[],.P⟩,rfl,(Zi (Z2 (ZT ZbN Zm Zm))),
   (Z3 (Zcm (DE.toA Zn) (DE.toA Zn))), ?_⟩
 refine Pm.ref Zms (g:=fun xs=>_) ?_
 rintro _ _
 simp only[Zms]
 walk_at "pd"
theorem ZmK:Zms.fn []=.ok (.int (10^60)):=Pm.fn_eq Zms () trivial fun _ _=>rfl
noncomputable def Zml:Pm:=⟨List Int,fun ns=>[.lst (ns.map PV.int)],fun ns=>ns.length<=1000,fun ns=>.ok (.bl (ZS ns))⟩
theorem ZpR (T:Txt K mg) {f:Addr}{fd:FuncData} (F:Fun K "is_board" "is_board" Zm8 f fd):Jb P w K mg base CX0 4 f fd ["board"] (spF K 1 .P W0 Zml.fn):=by
 have Zoe:=ZbO (P:=P) (w:=w) (base:=base) T.ZnU ZnG (fun F=>ZnB T F)
 have ZpM:=ZbO (P:=P) (w:=w) (base:=base) T.ZpH Zp9 (fun F=>Zp4 T F)
 refine F.okP ZpP rfl rfl (fun cdv A outer s H E hr=>?_)
 have hu:=hr.units
 refine⟨_,_,⟨[],[],[],.P⟩,rfl,(Zh (Ji (Jj (ZZ (Z6 Zoe (hr.mono (by decide)) rfl (Za (pv 0) Zf)))) (Zi (Z2 U3)) Z8)
   (Zh (Ji (PW.pt (Vk (ZE Zhe (Zz (ZW (K:=K)) rfl T.z_len Vh (Za (pv 0) Zf)) (ZbJ T.c_FEWEST_PITS rfl) (ZI _)) (VT (ZE Zi8 (Zz (ZW (K:=K)) rfl T.z_len Vh (Za (pv 0) Zf)) (ZbJ T.c_MOST_PITS rfl) (ZI _))))) (Zi (Z2 U3)) Z8)
   (Zi (Z2 (VL ZjY (Zz (UQ (K:=K) rfl) rfl T.z_sum ZeN (Za (pv 0) Zf)) (Zd6 ZpM (hr.mono (by decide)) rfl) (ZI _)))))),
   (Zp (Γm:=[.S]) (J4 (Jk (Ql (DE.toA (QL (Ze Zo) (Zb (Zd (i:=0) (m:=.S) rfl (by decide)) Zg)))))
   (Z3 QC)
   ZB)
   (Zp (Γm:=[.S]) (J4 (Uc (ZO (DE.toA (Zh9 (DE.toA (Vg (Zb (Zd (i:=0) (m:=.S) rfl (by decide)) Zg))) (DE.toA Zn)))) (ZO (DE.toA (Zjg (DE.toA (Vg (Zb (Zd (i:=0) (m:=.S) rfl (by decide)) Zg))) (DE.toA Zn)))))
   (Z3 QC)
   ZB)
   (Z3 (Zko (DE.toA (Ze3 (Zb (Zd (i:=0) (m:=.S) rfl (by decide)) Zg))) (DE.toA (QL Zo Zg)))))), ?_⟩
 refine Pm.ref Zml (g:=fun xs=>_) ?_
 intro (ns:List Int) (hn:ns.length<=1000)
 simp only[Zml]
 walk_at "pd"
 rw[ZlW (by omega)]
 walk_at "pd"
 by_cases h3:∀x∈ns,0<=x
 ·rw[decide_eq_true h3]
  walk_at "pd"
  by_cases h1:(ns.length:Int)<2
  ·rw[decide_eq_true h1]
   walk_at "pd"
   rw[show ZS ns=false from decide_eq_false (by omega)]
  rw[decide_eq_false h1]
  walk_at "pd"
  by_cases h2:(24:Int)<ns.length
  ·rw[decide_eq_true h2]
   walk_at "pd"
   rw[show ZS ns=false from decide_eq_false (by omega)]
  rw[decide_eq_false h2]
  walk_at "pd"
  rw[ZmK]
  walk_at "pd"
  by_cases h4:ns.sum<=10^60
  ·rw[decide_eq_true h4,Jp.mpr ⟨by omega,by omega,h3,h4⟩]
  ·rw[decide_eq_false h4,show ZS ns=false from decide_eq_false (fun z=>h4 z.2.2.2)]
 ·rw[decide_eq_false h3]
  walk_at "pd"
  rw[show ZS ns=false from decide_eq_false (fun z=>h3 z.2.2.1)]
theorem Zno {ns:List Int} (h:ns.length<=1000):Zml.fn [.lst (ns.map PV.int)]=.ok (.bl (ZS ns)):=Pm.fn_eq Zml ns h fun(a:List Int) e=>by (simp only[Zml,List.cons.injEq,PV.lst.injEq,PV.int.injEq,PV.str.injEq,PV.bl.injEq,PV.tup.injEq,JW,and_true] at e ⊢;first|(simp only[e];done)|(subst e;rfl)|(rw[e]))
theorem ZaT:Zml.calm:=fun a q h=>by (simp only[Zml] at h;cases h)
noncomputable def Zma:Pm:=⟨List Int,fun ns=>[.lst (ns.map PV.int)],fun ns=>ns.length<=1000,fun ns=>orX (if ZS ns=true then none else some "BadBoard") .non⟩
theorem Zni (T:Txt K mg) {f:Addr}{fd:FuncData} (F:Fun K "check_board" "check_board" Zmf f fd):Jb P w K mg base (CX1 P w) 5 f fd ["board"] (spF K 1 .P (W1 K) Zma.fn):=by
 have Zqe:=ZbO (P:=P) (w:=w) (base:=base) T.Zqa ZpU (fun F=>ZpR T F)
 obtain⟨C_BadBoard,hC_BadBoard,hQ_BadBoard⟩:=J5 T.x_exc (n := "BadBoard") (by decide)
 refine F.okX Zpu rfl rfl (fun cdv A outer s H E hr=>?_)
 have hu:=hr.units
 refine⟨_,_,⟨[.S],[],[],.P⟩,rfl,(Zi (Ji (Jj (ZZ (Z6 Zqe (hr.mono (by decide)) rfl (Za (pv 0) Zf)))) (Zi (Vv U7 hQ_BadBoard rfl (T.x_mg _ _ hC_BadBoard) rfl (Za Jx Zf))) Z8)),
   (J4 (Jk (Ql (DE.toA (Zle (Ze Zo) (Pm.calm_fn ZaT) (Zb (Zd (i:=0) (m:=.S) rfl (by decide)) Zg)))))
   (V8 hC_BadBoard (Ze Zo) (by decide) (Zb (DE.toA J0) Zg))
   ZB), ?_⟩
 refine Pm.ref Zma (g:=fun xs=>_) ?_
 intro (ns:List Int) (hn:ns.length<=1000)
 simp only[Zma]
 walk_at "pu"
 rw[Zno hn]
 walk_at "pu"
 by_cases h:ZS ns=true
 ·rw[h];walk_at "pu";rfl
 ·rw[Bool.not_eq_true] at h
  rw[h];walk_at "pu";rfl
theorem Zmt {ns:List Int} (h:ns.length<=1000):Zma.fn [.lst (ns.map PV.int)]=orX (if ZS ns=true then none else some "BadBoard") .non:=Pm.fn_eq Zma ns h fun a e=>by
 simp only[Zma,List.cons.injEq,PV.lst.injEq,and_true] at e ⊢
 rw[ZV e]
noncomputable def ZlN:Pm:=⟨List Int,fun ns=>[.box none (.ob "RingBook" []) [],.lst (ns.map PV.int)],fun ns=>ZS ns=true/\ns.length<=1000,fun ns=>.ok (.tup [.non,bkP none ⟨[ns],[],[]⟩])⟩
theorem Zoj (T:Txt K mg) {f:Addr}{fd:FuncData} (F:Fun K "__init__" "RingBook.__init__" Zl7 f fd):Jb P w K mg base CX0 6 f fd ["self", "board"] (spM K 1 0 ZlN.fnM):=by
 have ZmD:=ZaW (P:=P) (w:=w) (base:=base) T.Znz Znk (fun F=>Zni T F)
 refine F.okM (n:=1) (j:=0) Zoi rfl rfl (by decide) (fun cdv A outer s H E hr=>?_)
 have hu:=hr.units
 refine⟨_,_,⟨[.O,.S],[],[],.N⟩,rfl,rfl,(Zh (ZF (J7 ZmD (hr.mono (by decide)) rfl ZaU (Za (pv 1) Zf)))
   (Zh (Qy (pv 0) (ZQ (Za (Zd5 (Jr (Jo (K:=K)) rfl T.z_list JP (Za (pv 1) Zf))) Zf)))
   (Zh (Qy (pv 0) (ZQ Zf))
   (Zi (Qy (pv 0) (ZQ Zf)))))),
   (Zp (Γm:=[.O,.S]) (JM (DE.toA (Zlq (Ze Zo) (Zb (Zd (i:=1) (m:=.S) rfl (by decide)) Zg))))
   (Zp (Γm:=[.O,.S]) (V7 (i:=0) (fs:=Zr) (n := "RingBook") (fl := "boards") (Zy T.o_RingBook) (by decide) rfl (ZM (Z0 (DE.PF (Ze9 (JX (Zb (Zd (i:=1) (m:=.S) rfl (by decide)) Zg)))) ZH)))
   (Zp (Γm:=[.O,.S]) (V7 (i:=0) (fs:=Zr) (n := "RingBook") (fl := "deeds") (Zy T.o_RingBook) (by decide) rfl (ZM ZH))
   (V7 (i:=0) (fs:=Zr) (n := "RingBook") (fl := "undone") (Zy T.o_RingBook) (by decide) rfl (ZM ZH))))), ?_⟩
 refine Pm.refM2 ZlN ?_
 rintro(ns:List Int) ⟨h0,h1⟩ a b' xs e
 cases e
 simp only[ZlN]
 simp only[ins,ZgS]
 walk_at "pd"
 rw[Zmt h1,if_pos h0]
 walk_at "pd"
 rw[ZfF,Zcg]
 walk_at "pd"
 rw[Zkx]
 walk_at "pd"
 rw[Zkw]
 walk_at "pd"
 rw[Zkv]
 walk_at "pd"
 rfl
theorem Zna {ns:List Int} (h0:ZS ns=true) (h1:ns.length<=1000):ZiD "RingBook" ZlN.fnM [.lst (ns.map PV.int)]=.ok (bkP none ⟨[ns],[],[]⟩):=
 Zhl (Pm.fn_eq ZlN ns ⟨h0,h1⟩ fun(b:List Int) e=>by
  simp only[ZlN,List.cons.injEq,PV.lst.injEq,and_true,true_and] at e ⊢
  rw[ZV e])
noncomputable def ZlL:Pm:=⟨Bk,fun k=>[bkP none k],fun k=>k.bs.length≠0/\(Zee k).length<=1000,fun k=>.ok (.lst ((Zee k).map PV.int))⟩
theorem Znm (T:Txt K mg) {f:Addr}{fd:FuncData} (F:Fun K "board" "RingBook.board" ZlF f fd):Jb P w K mg base CX0 1 f fd ["self"] (spF K 1 .F W0 ZlL.fn):=by
 refine F.okP Zoz rfl rfl (fun cdv A outer s H E hr=>?_)
 have hu:=hr.units
 refine⟨_,_,⟨[],[],[],.F⟩,rfl,(Zi (Z2 (Jr (Jo (K:=K)) rfl T.z_list JP (Za (Jt (ZA (K:=K)) (ZN (pv 0)) (Zd2 QN Zm) (fun _ _=>rfl)) Zf)))),
   (Vq (JX (Zb (Zcl (Ja (te:=tC .non) (Vr (fs:=Zr) (n := "RingBook") (Zy T.o_RingBook) (by decide) (Zd (i:=0) (m:=.S) rfl (by decide))) (DE.toA (Za0 (DE.toA Zn))))) Zg))), ?_⟩
 refine Pm.ref ZlL (g:=fun xs=>_) ?_
 rintro(k:Bk) ⟨h0,h1⟩
 simp only[ZlL]
 walk_at "pd"
 rw[ZhI]
 walk_at "pd"
 rw[ZdD (d:=[]) h0]
 walk_at "pd"
 rw[Qr,show k.bs.getD (k.bs.length-1) []=Zee k from rfl]
 walk_at "pd"
theorem Zn8 {k:Bk} (h0:k.bs.length≠0) (h1:(Zee k).length<=1000):ZlL.fn [bkP none k]=.ok (.lst ((Zee k).map PV.int)):=
 Pm.fn_eq ZlL k ⟨h0,h1⟩ fun(k':Bk) e=>by
  simp only[ZlL,List.cons.injEq,and_true] at e ⊢
  rw[JQ e]
noncomputable def ZlY:Pm:=⟨Bk,fun k=>[bkP none k],fun k=>k.ds.length<=1000,fun k=>.ok (.lst ((plO k.ds).map Zh6))⟩
theorem ZoO (T:Txt K mg) {f:Addr}{fd:FuncData} (F:Fun K "plan" "RingBook.plan" ZlJ f fd):Jb P w K mg base CX0 1 f fd ["self"] (spF K 1 .F W0 ZlY.fn):=by
 refine F.okP Zn5 rfl rfl (fun cdv A outer s H E hr=>?_)
 have hu:=hr.units
 refine⟨_,_,⟨[],[],[],.F⟩,rfl,(Zi (Z2 (ZaS (Jw (K:=K) (ZN (pv 0))) (fun _ _ _ _=>(U1 (Za (Jt (ZA (K:=K)) (pv 1) Zm (fun _ _=>rfl)) (Za (Jt (ZA (K:=K)) (pv 1) Zm (fun _ _=>rfl)) Zf)))) Zn5.nd rfl))),
   (Vq (Uu (DI.c (VQ (Zbm (fs:=Zr) (n := "RingBook") (Zy T.o_RingBook) (by decide) (UM (i:=0) rfl)))) (DE.PF (DE.grd (UN (Zb (Ja (te:=tC .non) (Zd (i:=1) (m:=.S) rfl (by decide)) (DE.toA Zn)) (Zb (Ja (te:=tC .non) (Zd (i:=1) (m:=.S) rfl (by decide)) (DE.toA Zn)) Zg))))))), ?_⟩
 refine Pm.ref ZlY (g:=fun xs=>_) ?_
 rintro(k:Bk) (h:k.ds.length<=1000)
 simp only[ZlY]
 walk_at "pd"
 rw[ZhH]
 walk_at "pd"
 rw[show ZaI _ (k.ds.map dd3)=.ok (k.ds.map fun d=>Zh6 (ZjT d)) from ZiE fun d _=>by simp only[dd3];walk_at "pd";rfl]
 walk_at "pd"
 rw[List.map_map];rfl
theorem Zpn {k:Bk} (h:k.ds.length<=1000):ZlY.fn [bkP none k]=.ok (.lst ((plO k.ds).map Zh6)):=
 Pm.fn_eq ZlY k h fun(k':Bk) e=>by
  simp only[ZlY,List.cons.injEq,and_true] at e ⊢
  rw[JQ e]
noncomputable def ZlD:Pm:=⟨Bk,fun k=>[bkP none k],fun k=>k.bs.length<=63/\∀b∈k.bs,b.length<=1000,fun k=>.ok (.lst ((ZgJ (Qp k.bs k.bs.length)).map VI))⟩
theorem ZnC (T:Txt K mg) {f:Addr}{fd:FuncData} (F:Fun K "came_again" "RingBook.came_again" Zl5 f fd):Jb P w K mg base CX0 1 f fd ["self"] (spF K 1 .F W0 ZlD.fn):=by
 refine F.okP ZlG rfl rfl (fun cdv A outer s H E hr=>?_)
 have hu:=hr.units
 refine⟨_,_,⟨[],[],[],.F⟩,rfl,(Zh (ZC (i:=1) ZlG.nd rfl (by first|exact Or.inl rfl|exact Or.inr rfl) Zfm)
   (Zh (ZC (i:=2) ZlG.nd rfl (by first|exact Or.inl rfl|exact Or.inr rfl) (ZQ Zf))
   (Zh (VU PassesOwn.never rfl (Zfk (K:=K) rfl T.z_enumerate (Za (ZN (pv 0)) Zf)) (Zgo rfl (Ul (Jq (i:=3) ZlG.nd rfl (by first|exact Or.inl rfl|exact Or.inr rfl)) (Ul (Jq (i:=4) ZlG.nd rfl (by first|exact Or.inl rfl|exact Or.inr rfl)) Zd1))) (Zh (ZC (i:=5) ZlG.nd rfl (by first|exact Or.inl rfl|exact Or.inr rfl) (Jr (Zbp (K:=K)) rfl T.z_tuple ZeJ (Za (pv 4) Zf)))
   (Zh (Ji (Zix (Zi2 (hu1 hu) (pv 5) (pv 1))) (Zi (ZF (UW PySem.F.plainAttrs_list PySem.F.slot_list_append PySem.F.type_list_append ZU (pv 2) (Za (U1 (Za (ZgV (hu1 hu) (pv 1) (pv 5) (fun _ _=>rfl)) (Za (pv 3) Zf))) Zf)))) Z8)
   (Zi (ZgP (hu1 hu) (pv 1) (pv 5) (pv 3) rfl)))))
   (Zi (Z2 (Zz (Za7 (K:=K)) rfl T.z_sorted ZeO (Za (pv 2) Zf))))))),
   (Zp (Γm:=[.S,.O,.U,.U,.U,.U]) (JC (i:=1) ZfU (by decide))
   (Zp (Γm:=[.S,.O,.O,.U,.U,.U]) (JC (i:=2) (ZM ZH) (by decide))
   (Zp (Γm:=[.S,.O,.O,.U,.U,.U]) (Qm (Γl:=[.S,.O,.O,.U,.U,.U]) (Zh2 (ZfV (Zbm (fs:=Zr) (n := "RingBook") (Zy T.o_RingBook) (by decide) (UM (i:=0) rfl)) ZhC)) rfl (Zjd (n:=2) (Zck (ZhZ (i:=3) (by decide)) (Zck (ZhZ (i:=4) (by decide)) Zh3)))
   (DS.out (Y:=⟨[.S,.O,.O,.P,.P,.P],[.S,.O,.O,.U,.U,.U],[.S,.O,.O,.U,.U,.U],.F⟩) (Y':=⟨[.S,.O,.O,.U,.U,.U],[.S,.O,.O,.U,.U,.U],[.S,.O,.O,.U,.U,.U],.F⟩) (Zp (Γm:=[.S,.O,.O,.P,.P,.P]) (ZL (i:=5) (DE.grd (ZfR (Zb (Zcl (DE.toA (Zq (i:=4) rfl))) Zg))) (by decide))
   (Zp (Γm:=[.S,.O,.O,.P,.P,.P]) (J4 (Ql (DE.toA (Zjh (DE.toA (Zq (i:=5) rfl)) (Zd (i:=1) (m:=.O) rfl (by decide)))))
   (Ze1 (i:=2) rfl rfl (DE.PF (DE.grd (UN (Zb (ZhA (Zd (i:=1) (m:=.O) rfl (by decide)) (DE.toA (Zq (i:=5) rfl))) (Zb (DE.toA (Zq (i:=3) rfl)) Zg))))))
   ZB)
   (ZfM (i:=1) rfl (DE.PF (Zq (i:=3) rfl)) (DE.toA (Zq (i:=5) rfl))))) rfl rfl rfl rfl))
   (Vq (Ze5 (Zb (Zd (i:=2) (m:=.O) rfl (by decide)) Zg)))))), ?_⟩
 refine Pm.ref ZlD (g:=fun xs=>_) ?_
 rintro(k:Bk) ⟨h0,h1⟩
 simp only[ZlD]
 walk_at "pd"
 rw[ZhI]
 walk_at "pd"
 generalize hw:UJ _ _ _=W
 obtain⟨ρ',rfl,ks,xs,v1,v2,v3,rfl,g1,g2,g3⟩:=V6 hw (fun i ρ=>∃ks xs v1 v2 v3,ρ=[bkP none k,.box none (.dt ks) xs,.lst ((Qp k.bs i).map VI),v1,v2,v3]/\ks.length=xs.length/\xs.length<=i/\∀b,atK ks xs (tI b)=(UC k.bs b i).map fun(j:Nat)=>PV.int (j:Int)) ⟨[],[],_,_,_,rfl,rfl,ZqG _,fun b=>rfl⟩ (by
  rintro i x ρ hx ⟨ks,xs,v1,v2,v3,rfl,g1,g2,g3⟩
  obtain⟨hi,rfl⟩:=Zjb (d:=[]) hx
  generalize hb:k.bs.getD i []=b
  have hbl:b.length<=1000:=by
   refine h1 b (hb▸?_)
   rw[Zq5,Zq6 hi]
   exact ZrC ..
  have hlen:=QE (bs:=k.bs) (n:=i)
  have last:(∀b',atK (VJ ks (tI b)) (putXs ks xs (tI b) (.int i)) (tI b')=(UC k.bs b' (i+1)).map fun(j:Nat)=>PV.int (j:Int)):=fun b'=>by
   rw[ZhK g1,UC,hb]
   by_cases e:b'=b
   ·rw[if_pos (by rw[e]),if_pos e.symm];rfl
   ·rw[if_neg fun z=>e (Zii z),if_neg (Ne.symm e)];exact g3 b'
  have hput:ZdJ (.box none (.dt ks) xs) (VI b) (.int i)=.ok (.box none (.dt (VJ ks (tI b))) (putXs ks xs (tI b) (.int i))):=Zhb rfl (by omega)
  have hpl:=Ziw (k:=tI b) (y:=PV.int i) g1
  walk_at "pd"
  rw[Zcg]
  walk_at "pd"
  rw[Qr,show Zd9 [PV.lst (b.map PV.int)]=.ok (VI b) from rfl]
  walk_at "pd"
  rw[show grd (VI b)=.ok (VI b) from Zes]
  walk_at "pd"
  rw[Zi5,g3 b]
  cases hl:UC k.bs b i with
  |none =>
   simp only[Option.map_none,Option.isSome_none,id]
   walk_at "pd"
   rw[hput]
   walk_at "pd"
   rw[show Qp k.bs (i+1)=Qp k.bs i by rw[Qp,hb,hl];simp[Zgn]]
   exact VX ⟨_,_,_,_,_,rfl,Qx g1,by omega,last⟩
  |some j =>
   have hg:=g3 b
   rw[hl] at hg
   simp only[Option.map_some,Option.isSome_some,id]
   walk_at "pd"
   rw[Zhc hg]
   walk_at "pd"
   rw[Zfv (by rw[ZqC];omega)]
   walk_at "pd"
   rw[hput]
   walk_at "pd"
   rw[show Qp k.bs (i+1)=Qp k.bs i++[[(j:Int),(i:Int)]] by rw[Qp,hb,hl];simp[Zgn],Zrm]
   exact VX ⟨_,_,_,_,_,rfl,Qx g1,by omega,last⟩)
 walk_at "pd"
 rw[show (QA (k.bs.map fzI)).length=k.bs.length by unfold QA;simp]
 have hlen:=QE (bs:=k.bs) (n:=k.bs.length)
 rw[Zc8 ⟨ZhF,by omega⟩,ZiB Zex (by rw[(QS _).length_eq];omega)]
 walk_at "pd"
theorem ZnZ {k:Bk} (h:k.bs.length<=63/\∀b∈k.bs,b.length<=1000):ZlD.fn [bkP none k]=.ok (.lst ((ZgJ (Qp k.bs k.bs.length)).map VI)):=
 Pm.fn_eq ZlD k h fun(k':Bk) e=>by
  simp only[ZlD,List.cons.injEq,and_true] at e ⊢
  rw[JQ e]
noncomputable def ZlA:Pm:=⟨Bk,fun k=>[bkP none k],fun k=>k.ds.length<=1000,fun k=>.ok (.int (k.ds.map fun d=>d.2.2).sum)⟩
theorem Znw (T:Txt K mg) {f:Addr}{fd:FuncData} (F:Fun K "sown_in_all" "RingBook.sown_in_all" Zl4 f fd):Jb P w K mg base CX0 1 f fd ["self"] (spF K 1 .P W0 ZlA.fn):=by
 refine F.okP ZmB rfl rfl (fun cdv A outer s H E hr=>?_)
 have hu:=hr.units
 refine⟨_,_,⟨[],[],[],.P⟩,rfl,(Zi (Z2 (Zz (UQ (K:=K) rfl) rfl T.z_sum ZeN (Za (ZaS (Jw (K:=K) (ZN (pv 0))) (fun _ _ _ _=>(Jt (ZA (K:=K)) (pv 1) Zm (fun _ _=>rfl))) ZmB.nd rfl) Zf)))),
   (Z3 (Ze3 (Zb (DE.toA (Uu (DI.c (VQ (Zbm (fs:=Zr) (n := "RingBook") (Zy T.o_RingBook) (by decide) (UM (i:=0) rfl)))) (DE.PF (DE.grd (Ja (te:=tC .non) (Zd (i:=1) (m:=.S) rfl (by decide)) (DE.toA Zn)))))) Zg))), ?_⟩
 refine Pm.ref ZlA (g:=fun xs=>_) ?_
 rintro(k:Bk) (h:k.ds.length<=1000)
 simp only[ZlA]
 walk_at "pd"
 rw[ZhH]
 walk_at "pd"
 rw[show ZaI _ (k.ds.map dd3)=.ok ((k.ds.map fun d=>d.2.2).map PV.int) from Zkd fun d _=>by simp only[dd3];walk_at "pd"]
 walk_at "pd"
theorem ZnF {k:Bk} (h:k.ds.length<=1000):ZlA.fn [bkP none k]=.ok (.int (k.ds.map fun d=>d.2.2).sum):=
 Pm.fn_eq ZlA k h fun(k':Bk) e=>by
  simp only[ZlA,List.cons.injEq,and_true] at e ⊢
  rw[JQ e]
noncomputable def bk1 (b:List Int) (us:List (Dd×List Int)):Bk:=⟨[b],[],us⟩
theorem Zlv (b:List Int):Qp [b] 1=[]:=by simp[Qp,UC,Zgn]
noncomputable def Zmi:Pm:=⟨List Int×List (Dd×List Int),fun a=>[bkP none (bk1 a.1 a.2),.lst (a.1.map PV.int)],fun a=>a.1.length<=24,fun _=>.ok (.bl true)⟩
theorem Zp6 (T:Txt K mg) {f:Addr}{fd:FuncData} (F:Fun K "_law_begun" "_law_begun" Zmp f fd):Jb P w K mg base CX0 2 f fd ["book", "board"] (spF K 2 .P W0 Zmi.fn):=by
 have Zmv:=Vy (P:=P) (w:=w) (mg:=mg) (base:=base) T.o_RingBook T.Zn7 Znp (fun F=>Znm T F)
 have Zog:=Vy (P:=P) (w:=w) (mg:=mg) (base:=base) T.o_RingBook T.Zpk ZoV (fun F=>ZoO T F)
 have ZmO:=Vy (P:=P) (w:=w) (mg:=mg) (base:=base) T.o_RingBook T.ZnV ZnH (fun F=>ZnC T F)
 have ZmF:=Vy (P:=P) (w:=w) (mg:=mg) (base:=base) T.o_RingBook T.ZnE Zn0 (fun F=>Znw T F)
 refine F.okP Znq rfl rfl (fun cdv A outer s H E hr=>?_)
 have hu:=hr.units
 refine⟨_,_,⟨[],[],[],.P⟩,rfl,(Zh (ZC (i:=2) Znq.nd rfl (by first|exact Or.inl rfl|exact Or.inr rfl) (ZQ (Za (ZG Zmv (hr.mono (by decide)) (pv 0)) (Za (ZG Zog (hr.mono (by decide)) (pv 0)) (Za (ZG ZmO (hr.mono (by decide)) (pv 0)) Zf)))))
   (Zh (VU PassesOwn.never rfl (Jw (K:=K) (pv 2)) (Jq (i:=3) Znq.nd rfl (by first|exact Or.inl rfl|exact Or.inr rfl)) (Zi (Ji (Jj (ZZ (Zz (JO (K:=K) (n := "list") rfl) rfl T.z_isinstance Z1 (Za (pv 3) (Za (Vl (v:=.ty "list") rfl T.z_list JP rfl) Zf))))) (Zi (Z2 U3)) Z8)))
   (Zh (Ji (PW.pt (Vk (ZE (Zah (K:=K) hu) (pv 2) (ZQ (Za (pv 1) (Za (ZQ Zf) (Za (ZQ Zf) Zf)))) (ZI _)) (Vk (ZE (Zah (K:=K) hu) (ZG ZmF (hr.mono (by decide)) (pv 0)) Zm (ZI _)) (VT (ZZ (Zz (JO (K:=K) (n := "bool") rfl) rfl T.z_isinstance Z1 (Za (ZG ZmF (hr.mono (by decide)) (pv 0)) (Za (Vl (v:=.ty "bool") rfl T.z_bool ZeK rfl) Zf)))))))) (Zi (Z2 U3)) Z8)
   (Zh (ZF (UW PySem.F.plainAttrs_list PySem.F.slot_list_append PySem.F.type_list_append ZU (Jt (ZA (K:=K)) (pv 2) Zm (fun _ _=>rfl)) (Za Zm Zf)))
   (Zh (ZF (UW PySem.F.plainAttrs_list PySem.F.slot_list_append PySem.F.type_list_append ZU (Jt (ZA (K:=K)) (pv 2) Zm (fun _ _=>rfl)) (Za (U1 (Za Jx (Za Zm Zf))) Zf)))
   (Zh (ZF (UW PySem.F.plainAttrs_list PySem.F.slot_list_append PySem.F.type_list_append ZU (Jt (ZA (K:=K)) (pv 2) Zm (fun _ _=>rfl)) (Za (U1 (Za Zm (Za Zm Zf))) Zf)))
   (Zi (Z2 (VL (JE (K:=K) hu) (ZQ (Za (ZG Zmv (hr.mono (by decide)) (pv 0)) (Za (ZG Zog (hr.mono (by decide)) (pv 0)) (Za (ZG ZmO (hr.mono (by decide)) (pv 0)) Zf)))) (ZQ (Za (pv 1) (Za (ZQ Zf) (Za (ZQ Zf) Zf)))) (ZI _)))))))))),
   (Zp (Γm:=[.S,.S,.O,.U]) (JC (i:=2) (ZM (Z0 (DE.meth (i:=0) (md:=.S) (n := "RingBook") (m := "board") rfl (by decide) (ZeV (Ze Zo) (Zb (Zd (i:=0) (m:=.S) rfl (by decide)) Zg))) (Z0 (DE.meth (i:=0) (md:=.S) (n := "RingBook") (m := "plan") rfl (by decide) (ZeV (Ze Zo) (Zb (Zd (i:=0) (m:=.S) rfl (by decide)) Zg))) (Z0 (DE.meth (i:=0) (md:=.S) (n := "RingBook") (m := "came_again") rfl (by decide) (ZeV (Ze Zo) (Zb (Zd (i:=0) (m:=.S) rfl (by decide)) Zg))) ZH)))) (by decide))
   (Zp (Γm:=[.S,.S,.O,.U]) (ZcS (i:=2) (l:=3) rfl rfl (by decide) (Jk (Ql (DE.toA (Za1 (Zd (i:=3) (m:=.S) rfl (by decide)))))))
   (Zp (Γm:=[.S,.S,.O,.U]) (J4 (Uc (ZO (DE.toA (Jl (g:=(!·)) (Zd (i:=2) (m:=.O) rfl (by decide)) (Ze8 (Zb (Zd (i:=1) (m:=.S) rfl (by decide)) (Zb (DE.toA (ZM ZH)) (Zb (DE.toA (ZM ZH)) Zg))))))) (Uc (ZO (DE.toA (Jl (g:=(!·)) (DE.toA (DE.meth (i:=0) (md:=.S) (n := "RingBook") (m := "sown_in_all") rfl (by decide) (QL (Ze Zo) (Zb (Zd (i:=0) (m:=.S) rfl (by decide)) Zg)))) (DE.toA Zn)))) (Ql (DE.toA (Za1 (DE.toA (DE.meth (i:=0) (md:=.S) (n := "RingBook") (m := "sown_in_all") rfl (by decide) (QL (Ze Zo) (Zb (Zd (i:=0) (m:=.S) rfl (by decide)) Zg)))))))))
   (Z3 QC)
   ZB)
   (Zp (Γm:=[.S,.S,.O,.U]) (ZcU (i:=2) rfl (Zh0 Zhz))
   (Zp (Γm:=[.S,.S,.O,.U]) (Zay (i:=2) rfl (DE.grd (UN (Zb (DE.toA J0) (Zb (DE.toA Zn) Zg)))))
   (Zp (Γm:=[.S,.S,.O,.U]) (Zay (i:=2) rfl (DE.grd (UN (Zb (DE.toA Zn) (Zb (DE.toA Zn) Zg)))))
   (Z3 (Jl (g:=id) (DE.toA (ZM (Z0 (DE.meth (i:=0) (md:=.S) (n := "RingBook") (m := "board") rfl (by decide) (ZeV (Ze Zo) (Zb (Zd (i:=0) (m:=.S) rfl (by decide)) Zg))) (Z0 (DE.meth (i:=0) (md:=.S) (n := "RingBook") (m := "plan") rfl (by decide) (ZeV (Ze Zo) (Zb (Zd (i:=0) (m:=.S) rfl (by decide)) Zg))) (Z0 (DE.meth (i:=0) (md:=.S) (n := "RingBook") (m := "came_again") rfl (by decide) (ZeV (Ze Zo) (Zb (Zd (i:=0) (m:=.S) rfl (by decide)) Zg))) ZH))))) (Ze8 (Zb (Zd (i:=1) (m:=.S) rfl (by decide)) (Zb (DE.toA (ZM ZH)) (Zb (DE.toA (ZM ZH)) Zg)))))))))))), ?_⟩
 refine Pm.ref Zmi (g:=fun xs=>_) ?_
 rintro⟨b,us⟩ (h:b.length<=24)
 simp only[Zmi]
 have hB:ZlL.fn [bkP none (bk1 b us)]=.ok (.lst (b.map PV.int)):=Zn8 (k:=bk1 b us) (by simp[bk1]) (show b.length<=1000 by omega)
 have hP:ZlY.fn [bkP none (bk1 b us)]=.ok (.lst []):=Zpn (k:=bk1 b us) (by simp[bk1])
 have hC:ZlD.fn [bkP none (bk1 b us)]=.ok (.lst []):=by
  rw[ZnZ (k:=bk1 b us) ⟨by simp[bk1],fun x hx=>by rw[show x=b by simpa[bk1] using hx];omega⟩,show Qp (bk1 b us).bs (bk1 b us).bs.length=[] from Zlv b,List.perm_nil.mp (QS [])];rfl
 have hS:ZlA.fn [bkP none (bk1 b us)]=.ok (.int 0):=ZnF (k:=bk1 b us) (by simp[bk1])
 have dD:Dat 2 (.lst [.lst (b.map PV.int),.lst [],.lst []]):=ZeB fun x hx=>by
  simp only[ZqE,Zrp,or_false] at hx
  rcases hx with rfl|rfl|rfl
  ·exact VC b
  ·exact VC []
  ·exact VC []
 walk_at "pd"
 rw[ZfZ]
 walk_at "pd"
 rw[hB]
 walk_at "pd"
 rw[Zjp]
 walk_at "pd"
 rw[hP]
 walk_at "pd"
 rw[Zjq]
 walk_at "pd"
 rw[hC]
 walk_at "pd"
 simp only[UJ]
 walk_at "pd"
 try simp only[RS.turn]
 walk_at "pd"
 try simp only[RS.turn]
 walk_at "pd"
 try simp only[RS.turn]
 walk_at "pd"
 rw[Vx dD]
 walk_at "pd"
 rw[Zk2]
 walk_at "pd"
 rw[hS]
 walk_at "pd"
 have hA:pApp (.lst (b.map PV.int)) (.int 0)=.ok (.lst (b.map PV.int++[.int 0])):=if_pos (by rw[ZqC];omega)
 rw[show pGo (fun z=>pApp z (.int 0)) (.lst [.lst (b.map PV.int),.lst [],.lst []]) [0]=.ok (.lst [.lst (b.map PV.int++[.int 0]),.lst [],.lst []]) from by
  show (pApp (.lst (b.map PV.int)) (.int 0)).bind (fun z=>Rr.ok (PV.lst [z,PV.lst [],PV.lst []]))=_
  rw[hA];rfl]
 walk_at "pd"
 rw[show ∀x z:PV,pAppAt (.lst [x,.lst [],z]) 1 .non=.ok (.lst [x,.lst [.non],z]) from fun _ _=>rfl,show ∀x y z:PV,pAppAt (.lst [x,.lst [],z]) 1 y=.ok (.lst [x,.lst [y],z]) from fun _ _ _=>rfl]
 walk_at "pd"
 rw[show ∀x z:PV,pAppAt (.lst [x,z,.lst []]) 2 .non=.ok (.lst [x,z,.lst [.non]]) from fun _ _=>rfl,show ∀x y z:PV,pAppAt (.lst [x,z,.lst []]) 2 y=.ok (.lst [x,z,.lst [y]]) from fun _ _ _=>rfl]
 walk_at "pd"
 rw[ZfZ]
 walk_at "pd"
 rw[hB]
 walk_at "pd"
 rw[Zjp]
 walk_at "pd"
 rw[hP]
 walk_at "pd"
 rw[Zjq]
 walk_at "pd"
 rw[hC]
 walk_at "pd"
 rw[Vx dD]
 walk_at "pd"
theorem ZmM {b:List Int}{us:List (Dd×List Int)} (h:b.length<=24):Zmi.fn [bkP none (bk1 b us),.lst (b.map PV.int)]=.ok (.bl true):=Pm.fn_eq Zmi (b,us) h fun _ _=>rfl
noncomputable def ZlS:Pm:=⟨List Int,fun ns=>[.box none (.ob "RingBook" []) [],.lst (ns.map PV.int)],fun ns=>ZS ns=false/\ns.length<=1000,fun _=>.exc ("BadBoard",.non)⟩
theorem ZnD (T:Txt K mg) {f:Addr}{fd:FuncData} (F:Fun K "__init__" "RingBook.__init__" Zl6 f fd):Jb P w K mg base (CX1 P w) 6 f fd ["self", "board"] (spF K 2 .P (W1 K) ZlS.fn):=by
 have ZmD:=ZaW (P:=P) (w:=w) (base:=base) T.Znz Znk (fun F=>Zni T F)
 refine F.okX ZnA rfl rfl (fun cdv A outer s H E hr=>?_)
 have hu:=hr.units
 refine⟨_,_,⟨[],[],[],.P⟩,rfl,(Zh (ZF (J7 ZmD (hr.mono (by decide)) rfl Qz (Za (pv 1) Zf)))
   U0),
   (Zp (Γm:=[.S,.S]) (JM (DE.toA (ZjG (Ze Zo) (Zb (Zd (i:=1) (m:=.S) rfl (by decide)) Zg))))
   V9), ?_⟩
 refine Pm.ref ZlS (g:=fun xs=>_) ?_
 rintro(ns:List Int) ⟨h0,h1⟩
 simp only[ZlS]
 walk_at "pd"
 rw[Zmt h1,if_neg (by rw[h0];decide)]
 walk_at "pd"
theorem Zoa {ns:List Int} (h0:ZS ns=false) (h1:ns.length<=1000):ZlS.fn [.box none (.ob "RingBook" []) [],.lst (ns.map PV.int)]=.exc ("BadBoard",.non):=Pm.fn_eq ZlS ns ⟨h0,h1⟩ fun _ _=>rfl
noncomputable def ZlX:Pm:=⟨List Int,fun ns=>[.lst (ns.map PV.int)],fun ns=>ZS ns=false/\ns.length<=1000,fun _=>.ok (.bl true)⟩
theorem ZoL (T:Txt K mg) {f:Addr}{fd:FuncData} (F:Fun K "_law_no_board" "_law_no_board" ZlV f fd):Jb P w K mg base CX0 8 f fd ["board"] (spF K 1 .P W0 ZlX.fn):=by
 have Zoh:=Zhf (P:=P) (w:=w) (mg:=mg) (base:=base) T.o_RingBook T.ZnW (T.x_mg _) ZnI (fun F=>ZnD T F)
 obtain⟨C_SowError,hC_SowError,hQ_SowError⟩:=J5 T.x_exc (n := "SowError") (by decide)
 obtain⟨I_NoDeed,hI_NoDeed,hT_NoDeed⟩:=Uh T.x_tab (c := "NoDeed") (L:=VG) (by decide) (by decide)
 have hT_V:=Zb0 T.x_tab (L:=VF) (by decide)
 obtain⟨I_BadBoard,hI_BadBoard,hT_BadBoard⟩:=Uh T.x_tab (c := "BadBoard") (L:=JD) (by decide) (by decide)
 refine F.okP Zm4 rfl rfl (fun cdv A outer s H E hr=>?_)
 have hu:=hr.units
 refine⟨_,_,⟨[],[],[],.P⟩,rfl,(Zh (ZC (i:=1) Zm4.nd rfl (by first|exact Or.inl rfl|exact Or.inr rfl) ZbG)
   (Zh (Zgm (fun xe pn E hx=>(Zi (ZF (Zd4 (K:=K) Zoh (hr.mono (by decide)) rfl hx (Za (pv 0) Zf))))) (fun A=>(Zi (ZC (i:=1) Zm4.nd rfl (by first|exact Or.inl rfl|exact Or.inr rfl) (pv 2)))) Zm4.nd rfl rfl rfl (T.x_mg _ _ hC_SowError) rfl rfl rfl)
   (Zh (Ji (PW.pt (Vk (Jj (ZZ (Zz (JY (K:=K) hT_BadBoard) rfl T.z_isinstance Z1 (Za (pv 1) (Za (U2 (v:=.ref I_BadBoard) rfl (T.x_mg _ _ hI_BadBoard) rfl) Zf))))) (Vk (Jj (ZZ (Zz (JY (K:=K) hT_V) rfl T.z_isinstance Z1 (Za (pv 1) (Za (Vl (v:=.ty "ValueError") rfl T.z_ValueError VE rfl) Zf))))) (VT (ZZ (Zz (JY (K:=K) hT_NoDeed) rfl T.z_isinstance Z1 (Za (pv 1) (Za (U2 (v:=.ref I_NoDeed) rfl (T.x_mg _ _ hI_NoDeed) rfl) Zf)))))))) (Zi (Z2 U3)) Z8)
   (Zi (Z2 (VL (JE (K:=K) hu) (Zab (k:=1) (L:=XN) (Zgz T) (hr.mono (by decide)) (pv 1)) Jx (ZI _))))))),
   (Zp (Γm:=[.S,.P,.U]) (ZL (i:=1) Zg4 (by decide))
   (Zp (Γm:=[.S,.P,.U]) (Zg3 (i:=2) (Γs:=[.S,.P,.U]) (Y:=⟨[.S,.P,.U],[],[],.P⟩) (Yh:=⟨[.S,.P,.P],[],[],.P⟩) (L:=["SowError", "BadBoard", "BadPit", "NoSeeds", "NoDeed"]) (Zb1 T.x_tab hC_SowError (by decide)) (fun E=>(JM (DE.toA (ZfT (n := "RingBook") (fun e H' h=>h) (Ze Zo) (Zb (Zd (i:=0) (m:=.S) rfl (by decide)) Zg))))) (fun E D σ H h=>h) (show DS K _ [.S,.P,.P] _ _ _ from (ZL (i:=1) (Zq (i:=2) rfl) (by decide))) rfl rfl (by decide) rfl rfl rfl rfl)
   (Zp (Γm:=[.S,.P,.U]) (J4 (Uc (Jk (Ql (DE.toA (Qo (DE.toA (Zq (i:=1) rfl)))))) (Uc (Jk (Ql (DE.toA (Qo (DE.toA (Zq (i:=1) rfl)))))) (Ql (DE.toA (Qo (DE.toA (Zq (i:=1) rfl)))))))
   (Z3 QC)
   ZB)
   (Z3 (Jl (g:=id) (DE.toA (Za2 (DE.toA (Zq (i:=1) rfl)))) (DE.toA J0)))))), ?_⟩
 refine Pm.ref ZlX (g:=fun xs=>_) ?_
 rintro(ns:List Int) ⟨h0,h1⟩
 simp only[ZlX]
 walk_at "pd"
 rw[Zoa h0 h1]
 walk_at "pd"
theorem Zm1 {ns:List Int} (h:ZS ns=false/\ns.length<=1000):ZlX.fn [.lst (ns.map PV.int)]=.ok (.bl true):=Pm.fn_eq ZlX ns h fun _ _=>rfl
noncomputable def Zm3:Pm:=⟨List Int×Int,fun a=>[.lst (a.1.map PV.int),.int a.2],fun _=>True,fun a=>.ok (.bl (decide (0<=a.2/\a.2<a.1.length)))⟩
theorem Zqj (T:Txt K mg) {f:Addr}{fd:FuncData} (F:Fun K "is_pit" "is_pit" Znf f fd):Jb P w K mg base CX0 3 f fd ["board", "pit"] (spF K 2 .P W0 Zm3.fn):=by
 have Znd:=ZbO (P:=P) (w:=w) (base:=base) T.ZnT Zn9 (fun F=>Zn6 T F)
 refine F.okP Zqf rfl rfl (fun cdv A outer s H E hr=>?_)
 have hu:=hr.units
 refine⟨_,_,⟨[],[],[],.P⟩,rfl,(Zi (Z2 (Zac (Z6 Znd (hr.mono (by decide)) rfl (Za (pv 1) (Za Zm Zf))) (QZ (VL Zhe (pv 1) (Zz (ZW (K:=K)) rfl T.z_len Vh (Za (pv 0) Zf)) (ZI _)))))),
   (Z3 (Za3 (DE.toA (QL (Ze (Ze Zo)) (Zb (Zd (i:=1) (m:=.S) rfl (by decide)) (Zb (DE.toA Zn) Zg)))) (Zh9 (Zd (i:=1) (m:=.S) rfl (by decide)) (DE.toA (Vg (Zb (Zd (i:=0) (m:=.S) rfl (by decide)) Zg)))))), ?_⟩
 refine Pm.ref Zm3 (g:=fun xs=>_) ?_
 rintro⟨ns,p⟩ -
 simp only[Zm3]
 walk_at "pd"
 rw[Zmm]
 walk_at "pd"
 by_cases h0:0<=p
 ·rw[decide_eq_true h0]
  walk_at "pd"
  by_cases h1:p<ns.length
  ·rw[decide_eq_true h1,show decide (0<=p/\p<(ns.length:Int))=true from decide_eq_true ⟨h0,h1⟩]
  ·rw[decide_eq_false h1,show decide (0<=p/\p<(ns.length:Int))=false from decide_eq_false (fun z=>h1 z.2)]
 ·rw[decide_eq_false h0,show decide (0<=p/\p<(ns.length:Int))=false from decide_eq_false (fun z=>h0 z.1)]
  walk_at "pd"
theorem Zou {ns:List Int}{p:Int}:Zm3.fn [.lst (ns.map PV.int),.int p]=.ok (.bl (decide (0<=p/\p<ns.length))):=Pm.fn_eq Zm3 (ns,p) trivial fun(a:List Int×Int) e=>by (simp only[Zm3,List.cons.injEq,PV.lst.injEq,PV.int.injEq,PV.str.injEq,PV.bl.injEq,PV.tup.injEq,JW,and_true] at e ⊢;first|(simp only[e];done)|(subst e;rfl)|(rw[e]))
theorem Zd8:Zm3.calm:=fun a q h=>by (simp only[Zm3] at h;cases h)
noncomputable def Zmq:Pm:=⟨List Int×Int,fun a=>[.lst (a.1.map PV.int),.int a.2],fun a=>True,fun a=>orX (Ziz a.1 a.2) .non⟩
theorem ZpG (T:Txt K mg) {f:Addr}{fd:FuncData} (F:Fun K "check_pit" "check_pit" Zmx f fd):Jb P w K mg base (CX1 P w) 4 f fd ["board", "pit"] (spF K 2 .P (W1 K) Zmq.fn):=by
 have Zqu:=ZbO (P:=P) (w:=w) (base:=base) T.Zqt Zqo (fun F=>Zqj T F)
 obtain⟨C_BadPit,hC_BadPit,hQ_BadPit⟩:=J5 T.x_exc (n := "BadPit") (by decide)
 refine F.okX ZpE rfl rfl (fun cdv A outer s H E hr=>?_)
 have hu:=hr.units
 refine⟨_,_,⟨[.S,.S],[],[],.P⟩,rfl,(Zi (Ji (Jj (ZZ (Z6 Zqu (hr.mono (by decide)) rfl (Za (pv 0) (Za (pv 1) Zf))))) (Zi (Vv U7 hQ_BadPit rfl (T.x_mg _ _ hC_BadPit) rfl (Za Jx Zf))) Z8)),
   (J4 (Jk (Ql (DE.toA (Zle (Ze (Ze Zo)) (Pm.calm_fn Zd8) (Zb (Zd (i:=0) (m:=.S) rfl (by decide)) (Zb (Zd (i:=1) (m:=.S) rfl (by decide)) Zg))))))
   (V8 hC_BadPit (Ze Zo) (by decide) (Zb (DE.toA J0) Zg))
   ZB), ?_⟩
 refine Pm.ref Zmq (g:=fun xs=>_) ?_
 rintro⟨ns,p⟩ -
 simp only[Zmq]
 walk_at "pd"
 rw[Zou]
 walk_at "pd"
 by_cases h:0<=p/\p<ns.length
 ·rw[decide_eq_true h,show Ziz ns p=none from if_pos h];walk_at "pd" <;> rfl
 ·rw[decide_eq_false h,show Ziz ns p=(some "BadPit":Option Str) from if_neg h];walk_at "pd" <;> rfl
theorem ZmZ {ns:List Int}{p:Int}:Zmq.fn [.lst (ns.map PV.int),.int p]=orX (Ziz ns p) .non:=Pm.fn_eq Zmq (ns,p) trivial fun(a:List Int×Int) e=>by (simp only[Zmq,List.cons.injEq,PV.lst.injEq,PV.int.injEq,PV.str.injEq,PV.bl.injEq,PV.tup.injEq,JW,and_true] at e ⊢;first|(simp only[e];done)|(subst e;rfl)|(rw[e]))
noncomputable def ZlK:Pm:=⟨List Int×Int,fun a=>[.lst (a.1.map PV.int),.int a.2],fun a=>a.1.length<=1000,fun a=>orX (stX a.1 a.2) .non⟩
theorem Zo4 (T:Txt K mg) {f:Addr}{fd:FuncData} (F:Fun K "check_standing" "check_standing" ZlO f fd):Jb P w K mg base (CX1 P w) 6 f fd ["board", "pit"] (spF K 2 .P (W1 K) ZlK.fn):=by
 have ZmD:=ZaW (P:=P) (w:=w) (base:=base) T.Znz Znk (fun F=>Zni T F)
 have ZpV:=ZaW (P:=P) (w:=w) (base:=base) T.ZpS ZpL (fun F=>ZpG T F)
 obtain⟨C_NoSeeds,hC_NoSeeds,hQ_NoSeeds⟩:=J5 T.x_exc (n := "NoSeeds") (by decide)
 refine F.okX Zox rfl rfl (fun cdv A outer s H E hr=>?_)
 have hu:=hr.units
 refine⟨_,_,⟨[.S,.S],[],[],.P⟩,rfl,(Zh (ZF (J7 ZmD (hr.mono (by decide)) rfl Qz (Za (pv 0) Zf)))
   (Zh (ZF (J7 ZpV (hr.mono (by decide)) rfl Qz (Za (pv 0) (Za (pv 1) Zf))))
   (Zi (Ji (ZE (JE (K:=K) hu) (Jt (ZA (K:=K)) (pv 0) (pv 1) (fun _ _=>rfl)) Zm (ZI _)) (Zi (Vv U7 hQ_NoSeeds rfl (T.x_mg _ _ hC_NoSeeds) rfl (Za Jx Zf))) Z8)))),
   (Zp (Γm:=[.S,.S]) (JM (DE.toA (ZjG (Ze Zo) (Zb (Zd (i:=0) (m:=.S) rfl (by decide)) Zg))))
   (Zp (Γm:=[.S,.S]) (JM (DE.toA (ZjG (Ze (Ze Zo)) (Zb (Zd (i:=0) (m:=.S) rfl (by decide)) (Zb (Zd (i:=1) (m:=.S) rfl (by decide)) Zg)))))
   (J4 (ZO (DE.toA (Jl (g:=id) (Ja (te:=tC .non) (Zd (i:=0) (m:=.S) rfl (by decide)) (Zd (i:=1) (m:=.S) rfl (by decide))) (DE.toA Zn))))
   (V8 hC_NoSeeds (Ze Zo) (by decide) (Zb (DE.toA J0) Zg))
   ZB))), ?_⟩
 refine Pm.ref ZlK (g:=fun xs=>_) ?_
 rintro⟨ns,p⟩ (hn:ns.length<=1000)
 simp only[ZlK]
 walk_at "pu"
 rw[Zmt hn,stX]
 by_cases h:ZS ns=true
 ·rw[if_pos h,if_pos h]
  simp only[orX]
  walk_at "pu"
  rw[ZmZ,Ziz]
  by_cases h1:0<=p/\p<ns.length
  ·rw[if_pos h1,if_pos h1]
   simp only[orX]
   walk_at "pu"
   rw[Jh h1.1 h1.2]
   walk_at "pu"
   by_cases h2:ns.getD p.toNat 0=0
   ·rw[decide_eq_true h2,if_pos h2];walk_at "pu"
   ·rw[decide_eq_false h2,if_neg h2];walk_at "pu"
  ·rw[if_neg h1,if_neg h1]
   simp only[orX]
   walk_at "pu"
 ·rw[if_neg h,if_neg h]
  simp only[orX]
  walk_at "pu"
theorem Zmu {ns:List Int}{p:Int} (h:ns.length<=1000):ZlK.fn [.lst (ns.map PV.int),.int p]=orX (stX ns p) .non:=Pm.fn_eq ZlK (ns,p) h fun⟨ns',k'⟩ e=>by
 simp only[ZlK,List.cons.injEq,PV.lst.injEq,PV.int.injEq,and_true] at e ⊢
 rw[ZV e.1,e.2]
noncomputable def Zmw:Pm:=⟨List Int×Int,fun a=>[.lst (a.1.map PV.int),.int a.2],fun a=>0<=a.2/\a.2<a.1.length/\a.1.length<=1000,fun a=>.ok (Zc7 (Zb8 a))⟩
theorem ZpX (T:Txt K mg) {f:Addr}{fd:FuncData} (F:Fun K "sow_pit" "sow_pit" ZmI f fd):Jb P w K mg base CX0 1 f fd ["board", "pit"] (spF K 2 .F W0 Zmw.fn):=by
 refine F.okP Zm6 rfl rfl (fun cdv A outer s H E hr=>?_)
 have hu:=hr.units
 refine⟨_,_,⟨[],[],[],.F⟩,rfl,(Zh (ZC (i:=2) Zm6.nd rfl (by first|exact Or.inl rfl|exact Or.inr rfl) (Zz (ZW (K:=K)) rfl T.z_len Vh (Za (pv 0) Zf)))
   (Zh (ZC (i:=3) Zm6.nd rfl (by first|exact Or.inl rfl|exact Or.inr rfl) (ZT J8 (Jt (ZA (K:=K)) (pv 0) (pv 1) (fun _ _=>rfl)) (pv 2)))
   (Zh (ZC (i:=4) Zm6.nd rfl (by first|exact Or.inl rfl|exact Or.inr rfl) (ZT Ve (Jt (ZA (K:=K)) (pv 0) (pv 1) (fun _ _=>rfl)) (pv 2)))
   (Zh (Zc4 (i:=5) Zm6.nd rfl (Jw (K:=K) (pv 0)) (fun _ _ _ _=>(ZT Zai (pv 8) (pv 3))) rfl)
   (Zh (Zdy (pv 3) (Zgp (pv 5) (pv 1) Qu))
   (Zh (ZC (i:=6) Zm6.nd rfl (by first|exact Or.inl rfl|exact Or.inr rfl) (pv 1))
   (Zh (VU PassesOwn.never rfl (QY rfl T.z_range (Za (pv 4) Zf)) (Jq (i:=7) Zm6.nd rfl (by first|exact Or.inl rfl|exact Or.inr rfl)) (Zh (ZC (i:=6) Zm6.nd rfl (by first|exact Or.inl rfl|exact Or.inr rfl) (ZT Ve (ZT Zai (pv 6) Zm) (pv 2)))
   (Zi (ZgQ (pv 5) (pv 6) (Zeu (K:=K)) Zm ZiR Qu))))
   (Zi (Z2 (U1 (Za (pv 5) (Za (pv 6) Zf)))))))))))),
   (Zp (Γm:=[.S,.S,.P,.U,.U,.U,.U,.U]) (ZL (i:=2) (Vg (Zb (Zd (i:=0) (m:=.S) rfl (by decide)) Zg)) (by decide))
   (Zp (Γm:=[.S,.S,.P,.P,.U,.U,.U,.U]) (ZL (i:=3) (UO (Ja (te:=tC .non) (Zd (i:=0) (m:=.S) rfl (by decide)) (Zd (i:=1) (m:=.S) rfl (by decide))) (DE.toA (Zq (i:=2) rfl))) (by decide))
   (Zp (Γm:=[.S,.S,.P,.P,.P,.U,.U,.U]) (ZL (i:=4) (Vf (Ja (te:=tC .non) (Zd (i:=0) (m:=.S) rfl (by decide)) (Zd (i:=1) (m:=.S) rfl (by decide))) (DE.toA (Zq (i:=2) rfl))) (by decide))
   (Zp (Γm:=[.S,.S,.P,.P,.P,.O,.U,.U]) (ZcR (i:=5) (Uu (DI.c (VQ (UM (i:=0) rfl))) (DE.PF (Za4 (Zd (i:=8) (m:=.S) rfl (by decide)) (DE.toA (Zq (i:=3) rfl))))) (by decide))
   (Zp (Γm:=[.S,.S,.P,.P,.P,.O,.U,.U]) (Zax (i:=5) rfl (Zq (i:=3) rfl) (Zd (i:=1) (m:=.S) rfl (by decide)))
   (Zp (Γm:=[.S,.S,.P,.P,.P,.O,.P,.U]) (ZL (i:=6) (DE.grd (Zd (i:=1) (m:=.S) rfl (by decide))) (by decide))
   (Zp (Γm:=[.S,.S,.P,.P,.P,.O,.P,.U]) (Qm (Γl:=[.S,.S,.P,.P,.P,.O,.P,.U]) (Ze2 (Zb (DE.toA (Zq (i:=4) rfl)) Zg)) rfl (ZhZ (i:=7) (by decide))
   (DS.out (Y:=⟨[.S,.S,.P,.P,.P,.O,.P,.P],[.S,.S,.P,.P,.P,.O,.P,.U],[.S,.S,.P,.P,.P,.O,.P,.U],.F⟩) (Y':=⟨[.S,.S,.P,.P,.P,.O,.P,.U],[.S,.S,.P,.P,.P,.O,.P,.U],[.S,.S,.P,.P,.P,.O,.P,.U],.F⟩) (Zp (Γm:=[.S,.S,.P,.P,.P,.O,.P,.P]) (ZL (i:=6) (Vf (DE.toA (Za4 (DE.toA (Zq (i:=6) rfl)) (DE.toA Zn))) (DE.toA (Zq (i:=2) rfl))) (by decide))
   (ZfN (i:=5) rfl rfl (DE.toA (Zq (i:=6) rfl)) (DE.toA Zn))) rfl rfl rfl rfl))
   (Vq (Zh7 (Z0 (Zbl (i:=5) rfl) (Z0 (DE.PF (Zq (i:=6) rfl)) ZH))))))))))), ?_⟩
 refine Pm.ref Zmw (g:=fun xs=>_) ?_
 rintro⟨ns,p⟩ ⟨h0,h1,h2⟩
 simp only at h0 h1 h2
 simp only[Zmw]
 walk_at "pu"
 rw[Jh h0 h1]
 walk_at "pu"
 rw[ZdI (ZeG 3 (by omega) (by omega))]
 walk_at "pu"
 rw[Jh h0 h1]
 walk_at "pu"
 rw[VM (show (0:Int)<ns.length by omega)]
 walk_at "pu"
 rw[Zeb (by simp;omega)]
 walk_at "pu"
 have hc:ZaI (fun x=>ZjX x (.int (ns.getD p.toNat 0/ns.length))) (ns.map PV.int)=.ok ((ns.map fun z=>z+ns.getD p.toNat 0/ns.length).map PV.int):=by
  rw[ZdZ (g:=fun x=>match x with|.int z=>PV.int (z+ns.getD p.toNat 0/ns.length)|_=>.non)]
  ·simp[Function.comp_def]
  ·intro x hx
   obtain⟨z,_,rfl⟩:=Zrt.mp hx
   rfl
 rw[hc]
 walk_at "pu"
 rw[Vw h0 (by simp;omega),Zfd h0 h1]
 walk_at "pu"
 have o0:=Zr3 (ns.getD p.toNat 0) (show (ns.length:Int)≠0 by omega)
 have o1:=Zr6 (ns.getD p.toNat 0) (show (0:Int)<ns.length by omega)
 rw[ZbL (by omega)]
 walk_at "pu"
 generalize hs:ns.getD p.toNat 0/ns.length=rounds
 generalize ho:ns.getD p.toNat 0%ns.length=over at o0 o1
 generalize hb:(fun(x:PV) (ρ:List PV)=>_)=body
 obtain⟨ρ',e1,e2⟩:=Ut (b:=body) (xs:=Zc3 0 over.toNat) (ρ:=[.lst (ns.map PV.int),.int p,.int ns.length,.int rounds,.int over,.lst ((tab ns.length (Zda ns p 0)).map PV.int),.int p,.non])
  (fun i ρ=>∃v,ρ=[.lst (ns.map PV.int),.int p,.int ns.length,.int rounds,.int over,.lst ((tab ns.length (Zda ns p i)).map PV.int),.int ((p+i)%ns.length),v]) ⟨_,by rw[Int.natCast_zero,Int.add_zero,Zrh h0 h1]⟩ (by
  rintro i x ρ hx ⟨v,rfl⟩
  obtain⟨hi,rfl⟩:=Qw hx
  subst hb
  have m1:=ZaX h0 h1 (show (0:Int)<=i by omega) (by omega)
  have m2:=ZaX h0 h1 (show (0:Int)<=(i:Int)+1 by omega) (by omega)
  have e:((p+(i:Int))%ns.length+1)%ns.length=(p+((i:Int)+1))%ns.length:=by
   rw[m1,m2]
   split
   ·rw[show p+(i:Int)+1=p+((i:Int)+1) by omega,m2]
   ·rw[Zrh (by omega) (by omega)];split<;>omega
  have b:0<=(p+((i:Int)+1))%ns.length/\(p+((i:Int)+1))%ns.length<ns.length:=by rw[m2];split<;>omega
  walk_at "pu"
  rw[VM (by omega)]
  walk_at "pu"
  rw[e,Jh b.1 (by rw[Jc];exact b.2)]
  walk_at "pu"
  rw[ZaJ (by omega)]
  have hst:=Zfe h0 h1 (i:=i) (by omega)
  have hset:=Vw (ns:=tab ns.length (Zda ns p i)) (k:=(p+((i:Int)+1))%ns.length) (y:=Zda ns p i ((p+((i:Int)+1))%ns.length).toNat+1) b.1 (by rw[Jc];exact b.2)
  rw[hst] at hset
  rw[hset]
  walk_at "pu"
  exact VX ⟨_,by rw[show ((i+1:Nat):Int)=(i:Int)+1 by omega]⟩)
 obtain⟨v,rfl⟩:=e2
 rw[e1]
 walk_at "pu"
 rw[Vj,Int.toNat_of_nonneg o0]
 show Rr.ok (PV.tup _)=Rr.ok (PV.tup _)
 unfold Zb8 Zj7 ZkM
 rw[ho]
theorem ZnX {ns:List Int}{p:Int} (h:0<=p/\p<ns.length/\ns.length<=1000):Zmw.fn [.lst (ns.map PV.int),.int p]=.ok (Zc7 (Zb8 (ns,p))):=
 Pm.fn_eq Zmw (ns,p) h fun⟨ns',k'⟩ e=>by
  simp only[Zmw,List.cons.injEq,PV.lst.injEq,PV.int.injEq,and_true] at e ⊢
  rw[ZV e.1,e.2]
theorem Zc5:Zmw.calm:=fun a q h=>by (simp only[Zmw] at h;cases h)
noncomputable def Znr:Pm:=⟨List Int×Int,fun a=>[.lst (a.1.map PV.int),.int a.2],fun a=>a.1.length<=1000,fun a=>orX (stX a.1 a.2) (Zc7 (Zb8 a))⟩
theorem Zqi (T:Txt K mg) {f:Addr}{fd:FuncData} (F:Fun K "sown" "sown" ZoI f fd):Jb P w K mg base (CX1 P w) 7 f fd ["board", "pit"] (spF K 2 .F (W1 K) Znr.fn):=by
 have ZoW:=ZaW (P:=P) (w:=w) (base:=base) T.ZoP ZoC (fun F=>Zo4 T F)
 have Zqr:=ZbO (P:=P) (w:=w) (base:=base) T.Zql Zqb (fun F=>ZpX T F)
 refine F.okX Zqw rfl rfl (fun cdv A outer s H E hr=>?_)
 have hu:=hr.units
 refine⟨_,_,⟨[],[],[],.F⟩,rfl,(Zh (ZF (J7 ZoW (hr.mono (by decide)) rfl Qz (Za (pv 0) (Za (pv 1) Zf))))
   (Zi (Z2 (Z6 Zqr (hr.mono (by decide)) rfl (Za (pv 0) (Za (pv 1) Zf)))))),
   (Zp (Γm:=[.S,.S]) (JM (DE.toA (ZjG (Ze (Ze Zo)) (Zb (Zd (i:=0) (m:=.S) rfl (by decide)) (Zb (Zd (i:=1) (m:=.S) rfl (by decide)) Zg)))))
   (Vq (Zlr (Ze (Ze Zo)) (Pm.calm_fn Zc5) (Zb (Zd (i:=0) (m:=.S) rfl (by decide)) (Zb (Zd (i:=1) (m:=.S) rfl (by decide)) Zg))))), ?_⟩
 refine Pm.ref Znr (g:=fun xs=>_) ?_
 rintro⟨ns,p⟩ (hn:ns.length<=1000)
 simp only[Znr]
 walk_at "pu"
 rw[Zmu hn]
 cases h:stX ns p with
 |some n=>simp only[orX];walk_at "pu"
 |none =>
  simp only[orX]
  walk_at "pu"
  rw[ZnX (Zb6.mp h).sowOk]
  rfl
theorem ZpK {ns:List Int}{p:Int} (h:ns.length<=1000):Znr.fn [.lst (ns.map PV.int),.int p]=orX (stX ns p) (Zc7 (Zb8 (ns,p))):=
 Pm.fn_eq Znr (ns,p) h fun⟨ns',k'⟩ e=>by
  simp only[Znr,List.cons.injEq,PV.lst.injEq,PV.int.injEq,and_true] at e ⊢
  rw[ZV e.1,e.2]
theorem ZaA {ns:List Int}{p:Int} (h:ZcY ns p):Znr.fn [.lst (ns.map PV.int),.int p]=.ok (Zc7 (Zb8 (ns,p))):=by
 rw[ZpK (by have:=h.bd.hi;omega),Zb6.mpr h];rfl
noncomputable def bkU (k:Bk):Bk:=⟨k.bs.dropLast,k.ds.dropLast,k.us++[(k.ds.getD (k.ds.length-1) ("",0,0),k.bs.getD (k.bs.length-1) [])]⟩
noncomputable def ZlQ:Pm:=⟨Bk,fun k=>[bkP none k],fun k=>k.bs.length≠0/\k.ds.length≠0/\k.ds.length<1000000/\k.us.length<1000000,fun k=>.ok (.tup [.non,bkP none (bkU k)])⟩
theorem ZoM (T:Txt K mg) {f:Addr}{fd:FuncData} (F:Fun K "undo" "RingBook.undo" ZlH f fd):Jb P w K mg base CX0 1 f fd ["self"] (spM K 0 0 ZlQ.fnM):=by
 refine F.okM (n:=0) (j:=0) ZoK rfl rfl (by decide) (fun cdv A outer s H E hr=>?_)
 have hu:=hr.units
 refine⟨_,_,⟨[.O],[],[],.N⟩,rfl,rfl,(Zh (Ji (ZE (JE (K:=K) hu) (Zz (ZW (K:=K)) rfl T.z_len Vh (Za (ZN (pv 0)) Zf)) Zm (ZI _)) (Zi ZbE) Z8)
   (Zi (ZF (UW PySem.F.plainAttrs_list PySem.F.slot_list_append PySem.F.type_list_append ZU (ZN (pv 0)) (Za (U1 (Za (Zd7 PySem.F.plainAttrs_list PySem.F.slot_list_pop PySem.F.type_list_pop ZdU (ZN (pv 0))) (Za (Zd7 PySem.F.plainAttrs_list PySem.F.slot_list_pop PySem.F.type_list_pop ZdU (ZN (pv 0))) Zf))) Zf))))),
   (Zp (Γm:=[.O]) (J4 (ZO (DE.toA (Jl (g:=id) (DE.toA (Vg (Zb (Vr (fs:=Zr) (n := "RingBook") (Zy T.o_RingBook) (by decide) (Zd (i:=0) (m:=.O) rfl (by decide))) Zg))) (DE.toA Zn))))
   V9
   ZB)
   (UL (i:=0) (fs:=Zr) (n := "RingBook") (fl := "undone") (Zy T.o_RingBook) (by decide) rfl (ZfO (Zbj (i:=0) (fs:=Zr) (n := "RingBook") (fl := "deeds") (Zy T.o_RingBook) (by decide) rfl) (Zbj (i:=0) (fs:=Zr) (n := "RingBook") (fl := "boards") (Zy T.o_RingBook) (by decide) rfl)))), ?_⟩
 refine Pm.refM2 ZlQ ?_
 rintro(k:Bk) ⟨h0,h1,h2,h3⟩ a b' xs e
 cases e
 simp only[ZlQ]
 rw[show ZgS a (bkP none k)=bkP (some a) k from rfl]
 simp only[ins]
 walk_at "pd"
 rw[ZhH]
 walk_at "pd"
 rw[Um,ZqC]
 walk_at "pd"
 rw[if_neg (by intro z;have:=of_decide_eq_true z;omega)]
 walk_at "pd"
 rw[Zk4]
 walk_at "pd"
 rw[Zkz h1]
 walk_at "pd"
 rw[Zk0 (k:=⟨k.bs,k.ds.dropLast,k.us⟩) h0]
 walk_at "pd"
 rw[show PV.tup [dd3 (k.ds.getD (k.ds.length-1) ("",0,0)),fzI (k.bs.getD (k.bs.length-1) [])]=Zdd (k.ds.getD (k.ds.length-1) ("",0,0),k.bs.getD (k.bs.length-1) []) from rfl,Zk8 (k:=⟨k.bs.dropLast,k.ds.dropLast,k.us⟩) h3]
 walk_at "pd"
 rfl
theorem Zpl {k:Bk} (h0:k.bs.length≠0) (h1:k.ds.length≠0) (h2:k.ds.length<1000000) (h3:k.us.length<1000000):ZlQ.fnM (bkP none k) []=.ok (.tup [.non,bkP none (bkU k)]):=
 Pm.fn_eq ZlQ k ⟨h0,h1,h2,h3⟩ fun(k':Bk) e=>by
  simp only[ZlQ,List.cons.injEq,and_true] at e ⊢
  rw[JQ e]
theorem Ud {q:Option Addr}{k:Bk} (h0:k.bs.length≠0) (h1:k.ds.length≠0) (h2:k.ds.length<1000000) (h3:k.us.length<1000000):Uf ZlQ.fnM (bkP q k) []=.ok (.non,bkP q (bkU k)):=by
 unfold Uf
 rw[if_pos (by simp[PV.flats,PV.flat])]
 exact Uv (Zpl h0 h1 h2 h3)
noncomputable def Zmj:Pm:=⟨Bk,fun k=>[bkP none k],fun k=>k.ds=[],fun _=>.exc ("NoDeed",.non)⟩
theorem Zos (T:Txt K mg) {f:Addr}{fd:FuncData} (F:Fun K "undo" "RingBook.undo" ZlB f fd):Jb P w K mg base (CX1 P w) 1 f fd ["self"] (spF K 1 .P (W1 K) Zmj.fn):=by
 obtain⟨C_NoDeed,hC_NoDeed,hQ_NoDeed⟩:=J5 T.x_exc (n := "NoDeed") (by decide)
 refine F.okX Zoq rfl rfl (fun cdv A outer s H E hr=>?_)
 have hu:=hr.units
 refine⟨_,_,⟨[],[],[],.P⟩,rfl,(Zh (Ji (ZE (JE (K:=K) hu) (Zz (ZW (K:=K)) rfl T.z_len Vh (Za (ZN (pv 0)) Zf)) Zm (ZI _)) (Zi (Vv U7 hQ_NoDeed rfl (T.x_mg _ _ hC_NoDeed) rfl (Za Jx Zf))) Z8)
   U0),
   (Zp (Γm:=[.S]) (J4 (ZO (DE.toA (Jl (g:=id) (DE.toA (Vg (Zb (Vr (fs:=Zr) (n := "RingBook") (Zy T.o_RingBook) (by decide) (Zd (i:=0) (m:=.S) rfl (by decide))) Zg))) (DE.toA Zn))))
   (V8 hC_NoDeed (Ze Zo) (by decide) (Zb (DE.toA J0) Zg))
   ZB)
   V9), ?_⟩
 refine Pm.ref Zmj (g:=fun xs=>_) ?_
 rintro(k:Bk) (h:k.ds=[])
 simp only[Zmj]
 walk_at "pd"
 rw[ZhH,h]
 walk_at "pd"
 rw[Um]
 walk_at "pd"
 rfl
theorem ZoA {k:Bk} (h:k.ds=[]):Zmj.fn [bkP none k]=.exc ("NoDeed",.non):=Pm.fn_eq Zmj k h fun _ _=>rfl
noncomputable def Zmk:Pm:=⟨Bk,fun k=>[bkP none k],fun k=>k.us=[],fun _=>.exc ("NoDeed",.non)⟩
theorem Zot (T:Txt K mg) {f:Addr}{fd:FuncData} (F:Fun K "redo" "RingBook.redo" ZlC f fd):Jb P w K mg base (CX1 P w) 1 f fd ["self"] (spF K 1 .P (W1 K) Zmk.fn):=by
 obtain⟨C_NoDeed,hC_NoDeed,hQ_NoDeed⟩:=J5 T.x_exc (n := "NoDeed") (by decide)
 refine F.okX Zor rfl rfl (fun cdv A outer s H E hr=>?_)
 have hu:=hr.units
 refine⟨_,_,⟨[],[],[],.P⟩,rfl,(Zh (Ji (ZE (JE (K:=K) hu) (Zz (ZW (K:=K)) rfl T.z_len Vh (Za (ZN (pv 0)) Zf)) Zm (ZI _)) (Zi (Vv U7 hQ_NoDeed rfl (T.x_mg _ _ hC_NoDeed) rfl (Za Jx Zf))) Z8)
   U0),
   (Zp (Γm:=[.S,.U]) (J4 (ZO (DE.toA (Jl (g:=id) (DE.toA (Vg (Zb (Vr (fs:=Zr) (n := "RingBook") (Zy T.o_RingBook) (by decide) (Zd (i:=0) (m:=.S) rfl (by decide))) Zg))) (DE.toA Zn))))
   (V8 hC_NoDeed (Ze Zo) (by decide) (Zb (DE.toA J0) Zg))
   ZB)
   V9), ?_⟩
 refine Pm.ref Zmk (g:=fun xs=>_) ?_
 rintro(k:Bk) (h:k.us=[])
 simp only[Zmk]
 walk_at "pd"
 rw[Zjn,h]
 walk_at "pd"
 rw[Um]
 walk_at "pd"
 rfl
theorem ZoB {k:Bk} (h:k.us=[]):Zmk.fn [bkP none k]=.exc ("NoDeed",.non):=Pm.fn_eq Zmk k h fun _ _=>rfl
noncomputable def Zmd:Pm:=⟨Bk×Int,fun a=>[bkP none a.1,.int a.2],fun a=>if a.2=0 then a.1.ds=[] else a.1.us=[],fun _=>.ok (.bl true)⟩
theorem Zpd (T:Txt K mg) {f:Addr}{fd:FuncData} (F:Fun K "_law_no_deed" "_law_no_deed" ZlZ f fd):Jb P w K mg base CX0 2 f fd ["book", "way"] (spF K 2 .P W0 Zmd.fn):=by
 have ZoG:=ZdO (P:=P) (w:=w) (mg:=mg) (base:=base) T.o_RingBook T.Zo8 Zov (fun F=>Zos T F)
 have ZoH:=ZdO (P:=P) (w:=w) (mg:=mg) (base:=base) T.o_RingBook T.Zo9 Zow (fun F=>Zot T F)
 obtain⟨C_SowError,hC_SowError,hQ_SowError⟩:=J5 T.x_exc (n := "SowError") (by decide)
 obtain⟨I_BadBoard,hI_BadBoard,hT_BadBoard⟩:=Uh T.x_tab (c := "BadBoard") (L:=JD) (by decide) (by decide)
 have hT_V:=Zb0 T.x_tab (L:=VF) (by decide)
 obtain⟨I_NoDeed,hI_NoDeed,hT_NoDeed⟩:=Uh T.x_tab (c := "NoDeed") (L:=VG) (by decide) (by decide)
 refine F.okP ZmA rfl rfl (fun cdv A outer s H E hr=>?_)
 have hu:=hr.units
 refine⟨_,_,⟨[],[],[],.P⟩,rfl,(Zh (ZC (i:=2) ZmA.nd rfl (by first|exact Or.inl rfl|exact Or.inr rfl) ZbG)
   (Zh (Zgm (fun xe pn E hx=>(Zi (Ji (ZE (JE (K:=K) hu) (pv 1) Zm (ZI _)) (Zi (ZF (Zaa (K:=K) ZoG (hr.mono (by decide)) hx (pv 0)))) (Zi (ZF (Zaa (K:=K) ZoH (hr.mono (by decide)) hx (pv 0))))))) (fun A=>(Zi (ZC (i:=2) ZmA.nd rfl (by first|exact Or.inl rfl|exact Or.inr rfl) (pv 3)))) ZmA.nd rfl rfl rfl (T.x_mg _ _ hC_SowError) rfl rfl rfl)
   (Zh (Ji (PW.pt (Vk (Jj (ZZ (Zz (JY (K:=K) hT_NoDeed) rfl T.z_isinstance Z1 (Za (pv 2) (Za (U2 (v:=.ref I_NoDeed) rfl (T.x_mg _ _ hI_NoDeed) rfl) Zf))))) (Vk (Jj (ZZ (Zz (JY (K:=K) hT_V) rfl T.z_isinstance Z1 (Za (pv 2) (Za (Vl (v:=.ty "ValueError") rfl T.z_ValueError VE rfl) Zf))))) (VT (ZZ (Zz (JY (K:=K) hT_BadBoard) rfl T.z_isinstance Z1 (Za (pv 2) (Za (U2 (v:=.ref I_BadBoard) rfl (T.x_mg _ _ hI_BadBoard) rfl) Zf)))))))) (Zi (Z2 U3)) Z8)
   (Zi (Z2 (VL (JE (K:=K) hu) (Zab (k:=1) (L:=XN) (Zgz T) (hr.mono (by decide)) (pv 2)) Jx (ZI _))))))),
   (Zp (Γm:=[.S,.S,.P,.U]) (ZL (i:=2) Zg4 (by decide))
   (Zp (Γm:=[.S,.S,.P,.U]) (Zg3 (i:=3) (Γs:=[.S,.S,.P,.U]) (Y:=⟨[.S,.S,.P,.U],[],[],.P⟩) (Yh:=⟨[.S,.S,.P,.P],[],[],.P⟩) (L:=["SowError", "BadBoard", "BadPit", "NoSeeds", "NoDeed"]) (Zb1 T.x_tab hC_SowError (by decide)) (fun E=>(J4 (ZO (DE.toA (Jl (g:=id) (Zd (i:=1) (m:=.S) rfl (by decide)) (DE.toA Zn))))
   (JM (DE.toA (Zcn (n := "RingBook") (m := "undo") (fun e H' h=>h) (Zd (i:=0) (m:=.S) rfl (by decide)))))
   (JM (DE.toA (Zcn (n := "RingBook") (m := "redo") (fun e H' h=>h) (Zd (i:=0) (m:=.S) rfl (by decide))))))) (fun E D σ H h=>h) (show DS K _ [.S,.S,.P,.P] _ _ _ from (ZL (i:=2) (Zq (i:=3) rfl) (by decide))) rfl rfl (by decide) rfl rfl rfl rfl)
   (Zp (Γm:=[.S,.S,.P,.U]) (J4 (Uc (Jk (Ql (DE.toA (Qo (DE.toA (Zq (i:=2) rfl)))))) (Uc (Jk (Ql (DE.toA (Qo (DE.toA (Zq (i:=2) rfl)))))) (Ql (DE.toA (Qo (DE.toA (Zq (i:=2) rfl)))))))
   (Z3 QC)
   ZB)
   (Z3 (Jl (g:=id) (DE.toA (Za2 (DE.toA (Zq (i:=2) rfl)))) (DE.toA J0)))))), ?_⟩
 refine Pm.ref Zmd (g:=fun xs=>_) ?_
 rintro⟨k,w⟩ (h:if w=0 then k.ds=[] else k.us=[])
 simp only[Zmd]
 walk_at "pd"
 by_cases e:w=0
 ·rw[if_pos e] at h
  rw[decide_eq_true e]
  walk_at "pd"
  rw[ZhG]
  walk_at "pd"
  rw[Zgd,ZoA h]
  walk_at "pd"
 ·rw[if_neg e] at h
  rw[decide_eq_false e]
  walk_at "pd"
  rw[Zjo]
  walk_at "pd"
  rw[Zgd,ZoB h]
  walk_at "pd"
theorem Zmc {k:Bk}{w:Int} (h:if w=0 then k.ds=[] else k.us=[]):Zmd.fn [bkP none k,.int w]=.ok (.bl true):=Pm.fn_eq Zmd (k,w) h fun _ _=>rfl
noncomputable def UD (k:Bk):List Int:=k.bs.getD (k.bs.length-1) []
structure Zj1 (k:Bk) (p:Int):Prop where
 b:k.bs.length≠0
 st:ZcY (UD k) p
 lb:k.bs.length<1000000
 ld:k.ds.length<1000000
noncomputable def ZlT:Pm:=⟨Bk×Dd×List Int,fun a=>[bkP none a.1,dd3 a.2.1,fzI a.2.2],fun a=>a.1.bs.length<1000000/\a.1.ds.length<1000000,fun a=>.ok (.tup [.non,bkP none ⟨a.1.bs++[a.2.2],a.1.ds++[a.2.1],[]⟩])⟩
theorem Zo5 (T:Txt K mg) {f:Addr}{fd:FuncData} (F:Fun K "enter" "RingBook.enter" ZlE f fd):Jb P w K mg base CX0 1 f fd ["self", "deed", "board"] (spM K 2 0 ZlT.fnM):=by
 refine F.okM (n:=2) (j:=0) Zoy rfl rfl (by decide) (fun cdv A outer s H E hr=>?_)
 have hu:=hr.units
 refine⟨_,_,⟨[.O,.S,.S],[],[],.N⟩,rfl,rfl,(Zh (ZF (UW PySem.F.plainAttrs_list PySem.F.slot_list_append PySem.F.type_list_append ZU (ZN (pv 0)) (Za (pv 1) Zf)))
   (Zh (ZF (UW PySem.F.plainAttrs_list PySem.F.slot_list_append PySem.F.type_list_append ZU (ZN (pv 0)) (Za (pv 2) Zf)))
   (Zi (Qy (pv 0) (ZQ Zf))))),
   (Zp (Γm:=[.O,.S,.S]) (UL (i:=0) (fs:=Zr) (n := "RingBook") (fl := "deeds") (Zy T.o_RingBook) (by decide) rfl (Zcj (DE.grd (Zd (i:=1) (m:=.S) rfl (by decide)))))
   (Zp (Γm:=[.O,.S,.S]) (UL (i:=0) (fs:=Zr) (n := "RingBook") (fl := "boards") (Zy T.o_RingBook) (by decide) rfl (Zcj (DE.grd (Zd (i:=2) (m:=.S) rfl (by decide)))))
   (V7 (i:=0) (fs:=Zr) (n := "RingBook") (fl := "undone") (Zy T.o_RingBook) (by decide) rfl (ZM ZH)))), ?_⟩
 refine Pm.refM2 ZlT ?_
 rintro⟨k,d,ns⟩ ⟨h0,h1⟩ a b' xs e
 cases e
 simp only[ZlT]
 rw[show ZgS a (bkP none k)=bkP (some a) k from rfl]
 simp only[ins]
 walk_at "pd"
 rw[Zjr,show grd (dd3 d)=.ok (dd3 d) from rfl]
 walk_at "pd"
 rw[Zjt h1]
 walk_at "pd"
 rw[Zjs,Zcg]
 walk_at "pd"
 rw[Zju (k:=⟨k.bs,k.ds++[d],k.us⟩) h0]
 walk_at "pd"
 rw[Zku]
 walk_at "pd"
 rfl
theorem ZoR {k:Bk}{d:Dd}{ns:List Int} (h0:k.bs.length<1000000) (h1:k.ds.length<1000000):ZlT.fnM (bkP none k) [dd3 d,fzI ns]=.ok (.tup [.non,bkP none ⟨k.bs++[ns],k.ds++[d],[]⟩]):=
 Pm.fn_eq ZlT (k,d,ns) ⟨h0,h1⟩ fun⟨k',d',ns'⟩ e=>by
  simp only[ZlT,List.cons.injEq,and_true] at e ⊢
  rw[JQ e.1,Zbn e.2.1,Zbh e.2.2]
theorem VR {q:Option Addr}{k:Bk}{d:Dd}{ns:List Int} (h0:k.bs.length<1000000) (h1:k.ds.length<1000000):Uf ZlT.fnM (bkP q k) [dd3 d,fzI ns]=.ok (.non,bkP q ⟨k.bs++[ns],k.ds++[d],[]⟩):=by
 unfold Uf
 rw[if_pos (by simp[PV.flats,VB,JA])]
 exact Uv (ZoR h0 h1)
noncomputable def bkS (k:Bk) (p:Int):Bk:=⟨k.bs++[(Zb8 (UD k,p)).1],k.ds++[(("sow":PySem.Str),p,(UD k).getD p.toNat 0)],[]⟩
noncomputable def Zme:Pm:=⟨Bk×Int,fun a=>[bkP none a.1,.int a.2],fun a=>Zj1 a.1 a.2,fun a=>.ok (.tup [.int (Zb8 (UD a.1,a.2)).2,bkP none (bkS a.1 a.2)])⟩
theorem Zpe (T:Txt K mg) {f:Addr}{fd:FuncData} (F:Fun K "sow" "RingBook.sow" ZlM f fd):Jb P w K mg base CX0 8 f fd ["self", "pit"] (spM K 1 0 Zme.fnM):=by
 have Zqq:=ZaW (P:=P) (w:=w) (base:=base) T.Zqv Zqn (fun F=>Zqi T F)
 have ZoX:=Vy (P:=P) (w:=w) (mg:=mg) (base:=base) T.o_RingBook T.ZoQ ZoD (fun F=>Zo5 T F)
 refine F.okM (n:=1) (j:=0) ZnJ rfl rfl (by decide) (fun cdv A outer s H E hr=>?_)
 have hu:=hr.units
 refine⟨_,_,⟨[.O,.S,.U],[],[],.N⟩,rfl,rfl,(Zh (ZC (i:=2) ZnJ.nd rfl (by first|exact Or.inl rfl|exact Or.inr rfl) (Zd5 (J7 Zqq (hr.mono (by decide)) rfl ZaU (Za (Jt (ZA (K:=K)) (ZN (pv 0)) (Zd2 QN Zm) (fun _ _=>rfl)) (Za (pv 1) Zf)))))
   (Zh (ZF (ZbH ZoX (hr.mono (by decide)) (pv 0) (Za (U1 (Za Jx (Za (pv 1) (Za (Jt (ZA (K:=K)) (Jt (ZA (K:=K)) (ZN (pv 0)) (Zd2 QN Zm) (fun _ _=>rfl)) (pv 1) (fun _ _=>rfl)) Zf)))) (Za (Jt (ZA (K:=K)) (pv 2) Zm (fun _ _=>rfl)) Zf))))
   (Zi (Z2 (Jt (ZA (K:=K)) (pv 2) Zm (fun _ _=>rfl)))))),
   (Zp (Γm:=[.O,.S,.P]) (ZL (i:=2) (Ze9 (Zld (Ze (Ze Zo)) (Zb (Zcl (Ja (te:=tC .non) (Vr (fs:=Zr) (n := "RingBook") (Zy T.o_RingBook) (by decide) (Zd (i:=0) (m:=.S) rfl (by decide))) (DE.toA (Za0 (DE.toA Zn))))) (Zb (Zd (i:=1) (m:=.S) rfl (by decide)) Zg)))) (by decide))
   (Zp (Γm:=[.O,.S,.P]) (Zci (DM.meth (n := "RingBook") (m := "enter") rfl (VA (i:=0) rfl (Ze (Ze Zo)) (Zb (UN (Zb (DE.toA J0) (Zb (Zd (i:=1) (m:=.S) rfl (by decide)) (Zb (Ja (te:=tC .non) (Zcl (Ja (te:=tC .non) (Vr (fs:=Zr) (n := "RingBook") (Zy T.o_RingBook) (by decide) (Zd (i:=0) (m:=.O) rfl (by decide))) (DE.toA (Za0 (DE.toA Zn))))) (Zd (i:=1) (m:=.S) rfl (by decide))) Zg)))) (Zb (Ja (te:=tC .non) (DE.toA (Zq (i:=2) rfl)) (DE.toA Zn)) Zg)))))
   (Zhx (j:=0) (DE.PF (DE.grd (Ja (te:=tC .non) (DE.toA (Zq (i:=2) rfl)) (DE.toA Zn)))) rfl))), ?_⟩
 refine Pm.refM2 Zme ?_
 rintro⟨k,p⟩ (h:Zj1 k p) a b' xs e
 cases e
 simp only[Zme]
 rw[show ZgS a (bkP none k)=bkP (some a) k from rfl]
 simp only[ins]
 walk_at "pd"
 rw[ZhI]
 walk_at "pd"
 rw[ZdD (d:=[]) h.b]
 walk_at "pd"
 rw[Qr,show k.bs.getD (k.bs.length-1) []=UD k from rfl,ZaA h.st]
 walk_at "pd"
 rw[ZfE,ZiV]
 walk_at "pd"
 rw[Zk3,ZhI]
 walk_at "pd"
 rw[ZdD (d:=[]) h.b]
 walk_at "pd"
 rw[Qr,show k.bs.getD (k.bs.length-1) []=UD k from rfl,Jh h.st.lo h.st.hi]
 walk_at "pd"
 rw[show PV.tup [PV.str (PySem.Str.ofString "sow"),PV.int p,PV.int ((UD k).getD p.toNat 0)]=dd3 ("sow",p,(UD k).getD p.toNat 0) from rfl,VR h.lb h.ld]
 walk_at "pd"
 rfl
theorem Zpy {k:Bk}{p:Int} (h:Zj1 k p):Zme.fnM (bkP none k) [.int p]=.ok (.tup [.int (Zb8 (UD k,p)).2,bkP none (bkS k p)]):=
 Pm.fn_eq Zme (k,p) h fun⟨k',p'⟩ e=>by
  simp only[Zme,List.cons.injEq,PV.int.injEq,and_true] at e ⊢
  rw[JQ e.1,e.2]
theorem UP {q:Option Addr}{k:Bk}{p:Int} (h:Zj1 k p):Uf Zme.fnM (bkP q k) [.int p]=.ok (.int (Zb8 (UD k,p)).2,bkP q (bkS k p)):=by
 unfold Uf
 rw[if_pos (by simp[PV.flats,PV.flat])]
 exact Uv (Zpy h)
noncomputable def bkR (k:Bk):Bk:=⟨k.bs++[(k.us.getD (k.us.length-1) (("",0,0),[])).2],k.ds++[(k.us.getD (k.us.length-1) (("",0,0),[])).1],k.us.dropLast⟩
noncomputable def ZlR:Pm:=⟨Bk,fun k=>[bkP none k],fun k=>k.us.length≠0/\k.us.length<1000000/\k.bs.length<1000000/\k.ds.length<1000000,fun k=>.ok (.tup [.non,bkP none (bkR k)])⟩
theorem ZoN (T:Txt K mg) {f:Addr}{fd:FuncData} (F:Fun K "redo" "RingBook.redo" ZlI f fd):Jb P w K mg base CX0 1 f fd ["self"] (spM K 0 0 ZlR.fnM):=by
 refine F.okM (n:=0) (j:=0) Zn4 rfl rfl (by decide) (fun cdv A outer s H E hr=>?_)
 have hu:=hr.units
 refine⟨_,_,⟨[.O,.P],[],[],.N⟩,rfl,rfl,(Zh (Ji (ZE (JE (K:=K) hu) (Zz (ZW (K:=K)) rfl T.z_len Vh (Za (ZN (pv 0)) Zf)) Zm (ZI _)) (Zi ZbE) Z8)
   (Zh (ZC (i:=1) Zn4.nd rfl (by first|exact Or.inl rfl|exact Or.inr rfl) (Zd7 PySem.F.plainAttrs_list PySem.F.slot_list_pop PySem.F.type_list_pop ZdU (ZN (pv 0))))
   (Zh (ZF (UW PySem.F.plainAttrs_list PySem.F.slot_list_append PySem.F.type_list_append ZU (ZN (pv 0)) (Za (Jt (ZA (K:=K)) (pv 1) Zm (fun _ _=>rfl)) Zf)))
   (Zi (ZF (UW PySem.F.plainAttrs_list PySem.F.slot_list_append PySem.F.type_list_append ZU (ZN (pv 0)) (Za (Jt (ZA (K:=K)) (pv 1) Zm (fun _ _=>rfl)) Zf))))))),
   (Zp (Γm:=[.O,.U]) (J4 (ZO (DE.toA (Jl (g:=id) (DE.toA (Vg (Zb (Vr (fs:=Zr) (n := "RingBook") (Zy T.o_RingBook) (by decide) (Zd (i:=0) (m:=.O) rfl (by decide))) Zg))) (DE.toA Zn))))
   V9
   ZB)
   (Zp (Γm:=[.O,.P]) (ZfL (l:=1) (DMf.dm (Zbj (i:=0) (fs:=Zr) (n := "RingBook") (fl := "undone") (Zy T.o_RingBook) (by decide) rfl)) (by decide))
   (Zp (Γm:=[.O,.P]) (UL (i:=0) (fs:=Zr) (n := "RingBook") (fl := "deeds") (Zy T.o_RingBook) (by decide) rfl (Zcj (DE.grd (Ja (te:=tC .non) (DE.toA (Zq (i:=1) rfl)) (DE.toA Zn)))))
   (UL (i:=0) (fs:=Zr) (n := "RingBook") (fl := "boards") (Zy T.o_RingBook) (by decide) rfl (Zcj (DE.grd (Ja (te:=tC .non) (DE.toA (Zq (i:=1) rfl)) (DE.toA Zn)))))))), ?_⟩
 refine Pm.refM2 ZlR ?_
 rintro(k:Bk) ⟨h0,h1,h2,h3⟩ a b' xs e
 cases e
 simp only[ZlR]
 rw[show ZgS a (bkP none k)=bkP (some a) k from rfl]
 simp only[ins]
 walk_at "pd"
 rw[Zjn]
 walk_at "pd"
 rw[Um,ZqC]
 walk_at "pd"
 rw[if_neg (by intro z;have:=of_decide_eq_true z;omega)]
 walk_at "pd"
 rw[Zky h0]
 generalize hu:k.us.getD (k.us.length-1) (("",0,0),[])=u
 obtain⟨d,ns⟩:=u
 walk_at "pd"
 rw[show grd (Zdd (d,ns))=.ok (.tup [dd3 d,fzI ns]) by unfold grd;rw[if_pos (Vs _)];rfl]
 walk_at "pd"
 rw[Zjr,show grd (dd3 d)=.ok (dd3 d) from rfl]
 walk_at "pd"
 rw[Zjt (k:=⟨k.bs,k.ds,k.us.dropLast⟩) h3]
 walk_at "pd"
 rw[Zjs,Zcg]
 walk_at "pd"
 rw[Zju (k:=⟨k.bs,k.ds++[d],k.us.dropLast⟩) h2]
 walk_at "pd"
 simp only[bkR,hu]
 rfl
theorem Zpm {k:Bk} (h0:k.us.length≠0) (h1:k.us.length<1000000) (h2:k.bs.length<1000000) (h3:k.ds.length<1000000):ZlR.fnM (bkP none k) []=.ok (.tup [.non,bkP none (bkR k)]):=
 Pm.fn_eq ZlR k ⟨h0,h1,h2,h3⟩ fun(k':Bk) e=>by
  simp only[ZlR,List.cons.injEq,and_true] at e ⊢
  rw[JQ e]
theorem Ue {q:Option Addr}{k:Bk} (h0:k.us.length≠0) (h1:k.us.length<1000000) (h2:k.bs.length<1000000) (h3:k.ds.length<1000000):Uf ZlR.fnM (bkP q k) []=.ok (.non,bkP q (bkR k)):=by
 unfold Uf
 rw[if_pos (by simp[PV.flats,PV.flat])]
 exact Uv (Zpm h0 h1 h2 h3)
theorem JU {q:List Int} (h:¬Qa q):ZS q=false:=by
 cases e:ZS q with
 |true=>exact absurd (Jp.mp e) h
 |false=>rfl
noncomputable def ZjD (b:List Int) (far:Int):List (List Int):=[[],[far],List.replicate 25 0,b++[-1-far],b++[10^60+1-b.sum],[0,0,-1]]
theorem Zhh {b:List Int}{far:Int} (h0:0<=far) (hb:b.length<=24):∀q∈ZjD b far,ZS q=false/\q.length<=1000:=fun q hq=>by
 simp only[ZjD,ZqE,Zrp,or_false] at hq
 rcases hq with rfl|rfl|rfl|rfl|rfl|rfl
 ·exact⟨JU fun z=>by have:=z.lo;simp at this,by simp⟩
 ·exact⟨JU fun z=>by have:=z.lo;simp at this,by simp⟩
 ·exact⟨JU fun z=>by have:=z.hi;simp at this,by simp⟩
 ·exact⟨JU fun z=>by have:=z.nn (-1-far) (by simp);omega,by rw[ZqP];simp only[ZqL,Zrc];omega⟩
 ·exact⟨JU fun z=>by have:=z.sm;rw[List.sum_append] at this;simp only[List.sum_cons,List.sum_nil] at this;omega,by rw[ZqP];simp only[ZqL,Zrc];omega⟩
 ·exact⟨JU fun z=>by have:=z.nn (-1) (by simp);omega,by simp⟩
noncomputable def ZoY:Pm:=⟨List Int,fun ns=>[.lst (ns.map PV.int)],fun ns=>ns.length<=63,fun _=>.ok (.bl true)⟩
theorem Zq2 (T:Txt K mg) {f:Addr}{fd:FuncData} (F:Fun K "law" "law" ZpF f fd):Jb P w K mg base CX0 9 f fd ["script"] (spF K 1 .P W0 ZoY.fn):=by
 have Zqs:=ZbO (P:=P) (w:=w) (base:=base) T.Zqm Zqc (fun F=>ZpY T F)
 have ZpN:=ZbO (P:=P) (w:=w) (base:=base) T.ZpI ZpA (fun F=>Zp5 T F)
 have Zne:=Zi9 (P:=P) (w:=w) (mg:=mg) (base:=base) T.o_RingBook T.Zoo (T.x_mg _) Zok (fun F=>Zoj T F)
 have ZmN:=ZbO (P:=P) (w:=w) (base:=base) T.ZpJ ZpB (fun F=>Zp6 T F)
 have Zps:=ZbO (P:=P) (w:=w) (base:=base) T.Zph ZoS (fun F=>ZoL T F)
 have Zqq:=ZaW (P:=P) (w:=w) (base:=base) T.Zqv Zqn (fun F=>Zqi T F)
 have Zof:=Vy (P:=P) (w:=w) (mg:=mg) (base:=base) T.o_RingBook T.Zpi ZoT (fun F=>ZoM T F)
 have ZmH:=ZbO (P:=P) (w:=w) (base:=base) T.Zpw Zpo (fun F=>Zpd T F)
 have Zp0:=Vy (P:=P) (w:=w) (mg:=mg) (base:=base) T.o_RingBook T.Zpx Zpp (fun F=>Zpe T F)
 have Zmv:=Vy (P:=P) (w:=w) (mg:=mg) (base:=base) T.o_RingBook T.Zn7 Znp (fun F=>Znm T F)
 have Zpt:=Vy (P:=P) (w:=w) (mg:=mg) (base:=base) T.o_RingBook T.Zpj ZoU (fun F=>ZoN T F)
 refine F.okP Zn3 rfl rfl (fun cdv A outer s H E hr=>?_)
 have hu:=hr.units
 refine⟨_,_,⟨[],[],[],.P⟩,rfl,(Zh (ZC (i:=1) Zn3.nd rfl (by first|exact Or.inl rfl|exact Or.inr rfl) (Z6 Zqs (hr.mono (by decide)) rfl (Za (pv 0) (Za Zm Zf))))
   (Zh (ZC (i:=2) Zn3.nd rfl (by first|exact Or.inl rfl|exact Or.inr rfl) (ZT Zai Zm (ZT Ve (pv 1) Zm)))
   (Zh (ZC (i:=3) Zn3.nd rfl (by first|exact Or.inl rfl|exact Or.inr rfl) (Z6 ZpN (hr.mono (by decide)) rfl (Za (pv 0) (Za (pv 2) (Za (ZT Ve (ZT J8 (pv 1) Zm) Zm) Zf)))))
   (Zh (ZC (i:=4) Zn3.nd rfl (by first|exact Or.inl rfl|exact Or.inr rfl) (ZT Ve (pv 1) (ZT ZbN Zm Zm)))
   (Zh (VU PassesOwn.never rfl (Jw (K:=K) (ZQ (Za (ZQ Zf) (Za (ZQ (Za (pv 4) Zf)) (Za (ZT Zgy (ZQ (Za Zm Zf)) Zm) (Za (ZT (ZdN (K:=K)) (pv 3) (ZQ (Za (ZT ZdL (Zd2 QN Zm) (pv 4)) Zf))) (Za (ZT (ZdN (K:=K)) (pv 3) (ZQ (Za (ZT ZdL (ZT Zai (ZT ZbN Zm Zm) Zm) (Zz (UQ (K:=K) rfl) rfl T.z_sum ZeN (Za (pv 3) Zf))) Zf))) (Za (ZQ (Za Zm (Za Zm (Za (Zd2 QN Zm) Zf)))) Zf)))))))) (Jq (i:=5) Zn3.nd rfl (by first|exact Or.inl rfl|exact Or.inr rfl)) (Zi (Ji (Jj (ZZ (Z6 Zps (hr.mono (by decide)) rfl (Za (Jr (Jo (K:=K)) rfl T.z_list JP (Za (pv 5) Zf)) Zf)))) (Zi (Z2 U3)) Z8)))
   (Zh (ZC (i:=6) Zn3.nd rfl (by first|exact Or.inl rfl|exact Or.inr rfl) (ZbI Zne (hr.mono (by decide)) rfl (Za (Jr (Jo (K:=K)) rfl T.z_list JP (Za (pv 3) Zf)) Zf)))
   (Zh (ZC (i:=7) Zn3.nd rfl (by first|exact Or.inl rfl|exact Or.inr rfl) (ZbI Zne (hr.mono (by decide)) rfl (Za (Jr (Jo (K:=K)) rfl T.z_list JP (Za (pv 3) Zf)) Zf)))
   (Zh (VU PassesOwn.never rfl (Jw (K:=K) (ZQ (Za (pv 6) (Za (pv 7) Zf)))) (Jq (i:=8) Zn3.nd rfl (by first|exact Or.inl rfl|exact Or.inr rfl)) (Zi (Ji (PW.pt (Vk (Jj (ZZ (Z6 ZmN (hr.mono (by decide)) rfl (Za (pv 8) (Za (pv 3) Zf))))) (Vk (Jj (ZZ (Z6 ZmH (hr.mono (by decide)) rfl (Za (pv 8) (Za Zm Zf))))) (VT (Jj (ZZ (Z6 ZmH (hr.mono (by decide)) rfl (Za (pv 8) (Za Zm Zf))))))))) (Zi (Z2 U3)) Z8)))
   (Zh (VU PassesOwn.never rfl (QY rfl T.z_range (Za (pv 2) Zf)) (Jq (i:=9) Zn3.nd rfl (by first|exact Or.inl rfl|exact Or.inr rfl)) (Zi (Ji (ZE Zi8 (Jt (ZA (K:=K)) (pv 3) (pv 9) (fun _ _=>rfl)) Zm (ZI _)) (Zh (Zdy (J7 Zqq (hr.mono (by decide)) rfl ZaU (Za (Jr (Jo (K:=K)) rfl T.z_list JP (Za (pv 3) Zf)) (Za (pv 9) Zf))) (Zgo rfl (Ul (Jq (i:=10) Zn3.nd rfl (by first|exact Or.inl rfl|exact Or.inr rfl)) (Ul (Jq (i:=11) Zn3.nd rfl (by first|exact Or.inl rfl|exact Or.inr rfl)) Zd1))))
   (Zh (Ji (PW.pt (Vk (ZE (Zah (K:=K) hu) (ZbH Zp0 (hr.mono (by decide)) (pv 6) (Za (pv 9) Zf)) (pv 11) (ZI _)) (Vk (ZE (Zah (K:=K) hu) (ZG Zmv (hr.mono (by decide)) (pv 6)) (pv 10) (ZI _)) (VT (Jj (ZZ (Z6 ZmN (hr.mono (by decide)) rfl (Za (pv 7) (Za (pv 3) Zf))))))))) (Zi (Z2 U3)) Z8)
   (Zh (Ji (PW.pt (Vk (ZE ZdM (ZG Zof (hr.mono (by decide)) (pv 6)) ZbG (ZI _)) (Vk (Jj (ZZ (Z6 ZmN (hr.mono (by decide)) rfl (Za (pv 6) (Za (pv 3) Zf))))) (VT (Jj (ZZ (Z6 ZmH (hr.mono (by decide)) rfl (Za (pv 6) (Za Zm Zf))))))))) (Zi (Z2 U3)) Z8)
   (Zh (Ji (PW.pt (Vk (ZE ZdM (ZG Zpt (hr.mono (by decide)) (pv 6)) ZbG (ZI _)) (Vk (ZE (Zah (K:=K) hu) (ZG Zmv (hr.mono (by decide)) (pv 6)) (pv 10) (ZI _)) (VT (Jj (ZZ (Z6 ZmH (hr.mono (by decide)) rfl (Za (pv 6) (Za Zm Zf))))))))) (Zi (Z2 U3)) Z8)
   (Zi (ZF (ZG Zof (hr.mono (by decide)) (pv 6)))))))) Z8)))
   (Zi (Z2 (Zac (Z6 ZmN (hr.mono (by decide)) rfl (Za (pv 6) (Za (pv 3) Zf))) (QZ (Z6 ZmN (hr.mono (by decide)) rfl (Za (pv 7) (Za (pv 3) Zf)))))))))))))))),
   (Zp (Γm:=[.S,.P,.U,.U,.U,.U,.U,.U,.U,.U,.U,.U]) (ZL (i:=1) (QL (Ze (Ze Zo)) (Zb (Zd (i:=0) (m:=.S) rfl (by decide)) (Zb (DE.toA Zn) Zg))) (by decide))
   (Zp (Γm:=[.S,.P,.P,.U,.U,.U,.U,.U,.U,.U,.U,.U]) (ZL (i:=2) (Za4 (DE.toA Zn) (DE.toA (Vf (DE.toA (Zq (i:=1) rfl)) (DE.toA Zn)))) (by decide))
   (Zp (Γm:=[.S,.P,.P,.O,.U,.U,.U,.U,.U,.U,.U,.U]) (JC (i:=3) (ZeV (Ze (Ze (Ze Zo))) (Zb (Zd (i:=0) (m:=.S) rfl (by decide)) (Zb (DE.toA (Zq (i:=2) rfl)) (Zb (DE.toA (Vf (DE.toA (UO (DE.toA (Zq (i:=1) rfl)) (DE.toA Zn))) (DE.toA Zn))) Zg)))) (by decide))
   (Zp (Γm:=[.S,.P,.P,.O,.P,.U,.U,.U,.U,.U,.U,.U]) (ZL (i:=4) (Vf (DE.toA (Zq (i:=1) rfl)) (DE.toA (Zcm (DE.toA Zn) (DE.toA Zn)))) (by decide))
   (Zp (Γm:=[.S,.P,.P,.O,.P,.U,.U,.U,.U,.U,.U,.U]) (Qm (Γl:=[.S,.P,.P,.O,.P,.U,.U,.U,.U,.U,.U,.U]) (VQ (DE.FZ (ZM (Z0 (ZM ZH) (Z0 (ZM (Z0 (DE.PF (Zq (i:=4) rfl)) ZH)) (Z0 (Ze6 (Zb (DE.toA Zn) Zg) (DE.toA Zn)) (Z0 (ZeA (Zd (i:=3) (m:=.O) rfl (by decide)) (DE.toA (ZM (Z0 (DE.PF (Ze4 (DE.toA (Za0 (DE.toA Zn))) (DE.toA (Zq (i:=4) rfl)))) ZH)))) (Z0 (ZeA (Zd (i:=3) (m:=.O) rfl (by decide)) (DE.toA (ZM (Z0 (DE.PF (Ze4 (DE.toA (Za4 (DE.toA (Zcm (DE.toA Zn) (DE.toA Zn))) (DE.toA Zn))) (DE.toA (Ze3 (Zb (Zd (i:=3) (m:=.O) rfl (by decide)) Zg))))) ZH)))) (Z0 (ZM (Z0 (DE.PF Zn) (Z0 (DE.PF Zn) (Z0 (DE.PF (Za0 (DE.toA Zn))) ZH)))) ZH))))))))) rfl (Zls (i:=5) (by decide))
   (DS.out (Y:=⟨[.S,.P,.P,.O,.P,.S,.U,.U,.U,.U,.U,.U],[.S,.P,.P,.O,.P,.U,.U,.U,.U,.U,.U,.U],[.S,.P,.P,.O,.P,.U,.U,.U,.U,.U,.U,.U],.P⟩) (Y':=⟨[.S,.P,.P,.O,.P,.U,.U,.U,.U,.U,.U,.U],[.S,.P,.P,.O,.P,.U,.U,.U,.U,.U,.U,.U],[.S,.P,.P,.O,.P,.U,.U,.U,.U,.U,.U,.U],.P⟩) (J4 (Jk (Ql (DE.toA (QL (Ze Zo) (Zb (DE.toA (JX (Zb (Zd (i:=5) (m:=.S) rfl (by decide)) Zg))) Zg)))))
   (Z3 QC)
   ZB) rfl rfl rfl rfl))
   (Zp (Γm:=[.S,.P,.P,.O,.P,.U,.O,.U,.U,.U,.U,.U]) (JC (i:=6) (Ze7 (n := "RingBook") (Ze Zo) (Zb (DE.toA (JX (Zb (Zd (i:=3) (m:=.O) rfl (by decide)) Zg))) Zg)) (by decide))
   (Zp (Γm:=[.S,.P,.P,.O,.P,.U,.O,.O,.U,.U,.U,.U]) (JC (i:=7) (Ze7 (n := "RingBook") (Ze Zo) (Zb (DE.toA (JX (Zb (Zd (i:=3) (m:=.O) rfl (by decide)) Zg))) Zg)) (by decide))
   (Zp (Γm:=[.S,.P,.P,.O,.P,.U,.O,.O,.U,.U,.U,.U]) (ZcT (i:=6) (j:=7) (l:=8) rfl rfl rfl (by decide) (by decide) (by decide) (Uc (Jk (Ql (DE.toA (QL (Ze (Ze Zo)) (Zb (Zd (i:=8) (m:=.S) rfl (by decide)) (Zb (Zd (i:=3) (m:=.O) rfl (by decide)) Zg)))))) (Uc (Jk (Ql (DE.toA (QL (Ze (Ze Zo)) (Zb (Zd (i:=8) (m:=.S) rfl (by decide)) (Zb (DE.toA Zn) Zg)))))) (Jk (Ql (DE.toA (QL (Ze (Ze Zo)) (Zb (Zd (i:=8) (m:=.S) rfl (by decide)) (Zb (DE.toA Zn) Zg)))))))))
   (Zp (Γm:=[.S,.P,.P,.O,.P,.U,.O,.O,.U,.U,.U,.U]) (Qm (Γl:=[.S,.P,.P,.O,.P,.U,.O,.O,.U,.U,.U,.U]) (Ze2 (Zb (DE.toA (Zq (i:=2) rfl)) Zg)) rfl (ZhZ (i:=9) (by decide))
   (DS.out (Y:=⟨[.S,.P,.P,.O,.P,.U,.O,.O,.U,.P,.U,.U],[.S,.P,.P,.O,.P,.U,.O,.O,.U,.U,.U,.U],[.S,.P,.P,.O,.P,.U,.O,.O,.U,.U,.U,.U],.P⟩) (Y':=⟨[.S,.P,.P,.O,.P,.U,.O,.O,.U,.U,.U,.U],[.S,.P,.P,.O,.P,.U,.O,.O,.U,.U,.U,.U],[.S,.P,.P,.O,.P,.U,.O,.O,.U,.U,.U,.U],.P⟩) (J4 (ZO (DE.toA (Zjg (Ja (te:=tC .non) (Zd (i:=3) (m:=.O) rfl (by decide)) (DE.toA (Zq (i:=9) rfl))) (DE.toA Zn))))
   (DS.out (Y:=⟨[.S,.P,.P,.O,.P,.U,.O,.O,.U,.P,.O,.P],[.S,.P,.P,.O,.P,.U,.O,.O,.U,.U,.U,.U],[.S,.P,.P,.O,.P,.U,.O,.O,.U,.U,.U,.U],.P⟩) (Y':=⟨[.S,.P,.P,.O,.P,.U,.O,.O,.U,.P,.U,.U],[.S,.P,.P,.O,.P,.U,.O,.O,.U,.U,.U,.U],[.S,.P,.P,.O,.P,.U,.O,.O,.U,.U,.U,.U],.P⟩) (Zp (Γm:=[.S,.P,.P,.O,.P,.U,.O,.O,.U,.P,.O,.P]) (Zhy (Zld (Ze (Ze Zo)) (Zb (DE.toA (JX (Zb (Zd (i:=3) (m:=.O) rfl (by decide)) Zg))) (Zb (DE.toA (Zq (i:=9) rfl)) Zg))) (Zh4 (n:=2) (Zaz (Zkm (i:=10) (by decide)) (Zaz (Zkl (i:=11) (by decide)) ZfQ))))
   (Zp (Γm:=[.S,.P,.P,.O,.P,.U,.O,.O,.U,.P,.O,.P]) (Ze0 (Zez (Zhw (h:=(!·)) (i:=6) (l:=11) (md:=.P) (DM.meth (n := "RingBook") (m := "sow") rfl (VA (i:=6) rfl (Ze Zo) (Zb (DE.toA (Zq (i:=9) rfl)) Zg))) rfl (by decide) (by decide)) (Uc (ZO (DE.toA (Jl (g:=(!·)) (DE.toA (DE.meth (i:=6) (md:=.O) (n := "RingBook") (m := "board") rfl (by decide) (ZeV (Ze Zo) (Zb (Zd (i:=6) (m:=.O) rfl (by decide)) Zg)))) (Zd (i:=10) (m:=.O) rfl (by decide))))) (Jk (Ql (DE.toA (QL (Ze (Ze Zo)) (Zb (Zd (i:=7) (m:=.O) rfl (by decide)) (Zb (Zd (i:=3) (m:=.O) rfl (by decide)) Zg))))))))
   (Z3 QC)
   ZB)
   (Zp (Γm:=[.S,.P,.P,.O,.P,.U,.O,.O,.U,.P,.O,.P]) (Ze0 (Zez (Zch (DM.meth (n := "RingBook") (m := "undo") rfl (VA (i:=6) rfl Zo Zg))) (Uc (Jk (Ql (DE.toA (QL (Ze (Ze Zo)) (Zb (Zd (i:=6) (m:=.O) rfl (by decide)) (Zb (Zd (i:=3) (m:=.O) rfl (by decide)) Zg)))))) (Jk (Ql (DE.toA (QL (Ze (Ze Zo)) (Zb (Zd (i:=6) (m:=.O) rfl (by decide)) (Zb (DE.toA Zn) Zg))))))))
   (Z3 QC)
   ZB)
   (Zp (Γm:=[.S,.P,.P,.O,.P,.U,.O,.O,.U,.P,.O,.P]) (Ze0 (Zez (Zch (DM.meth (n := "RingBook") (m := "redo") rfl (VA (i:=6) rfl Zo Zg))) (Uc (ZO (DE.toA (Jl (g:=(!·)) (DE.toA (DE.meth (i:=6) (md:=.O) (n := "RingBook") (m := "board") rfl (by decide) (ZeV (Ze Zo) (Zb (Zd (i:=6) (m:=.O) rfl (by decide)) Zg)))) (Zd (i:=10) (m:=.O) rfl (by decide))))) (Jk (Ql (DE.toA (QL (Ze (Ze Zo)) (Zb (Zd (i:=6) (m:=.O) rfl (by decide)) (Zb (DE.toA Zn) Zg))))))))
   (Z3 QC)
   ZB)
   (Zci (DM.meth (n := "RingBook") (m := "undo") rfl (VA (i:=6) rfl Zo Zg))))))) rfl rfl rfl rfl)
   ZB) rfl rfl rfl rfl))
   (Z3 (Za3 (DE.toA (QL (Ze (Ze Zo)) (Zb (Zd (i:=6) (m:=.O) rfl (by decide)) (Zb (Zd (i:=3) (m:=.O) rfl (by decide)) Zg)))) (QL (Ze (Ze Zo)) (Zb (Zd (i:=7) (m:=.O) rfl (by decide)) (Zb (Zd (i:=3) (m:=.O) rfl (by decide)) Zg)))))))))))))), ?_⟩
 refine Pm.ref ZoY (g:=fun xs=>_) ?_
 rintro(ns:List Int) (hn:ns.length<=63)
 simp only[ZoY]
 walk_at "pd"
 rw[ZnY (by omega)]
 walk_at "pd"
 generalize hh:ns.getD 0 0=h
 rw[ZmL ⟨by omega,by omega,by omega⟩]
 have hB:=UX ns (pits:=2+h%5) (way:=h/5%4) (by omega) (by omega)
 have hl:(J9 ns (2+h%5) (h/5%4)).length=(2+h%5).toNat:=by have:=JJ ns (pits:=2+h%5) (way:=h/5%4) (by omega);omega
 generalize J9 ns (2+h%5) (h/5%4)=b at *
 generalize hpe:2+h%5=pits at *
 have hp0:2<=pits:=by omega
 have hp1:pits<=6:=by omega
 walk_at "pd"
 have hbl:b.length<=24:=hB.hi
 have hno:=Zhh (b:=b) (far:=h%10^60) (Zr3 _ (by decide)) hbl
 generalize hw:UJ _ _ _=W
 obtain⟨ρ',rfl,v5,rfl⟩:=V6 hw (fun i ρ=>∃v5,ρ=[.lst (ns.map PV.int),.int h,.int pits,.lst (b.map PV.int),.int (h%10^60),v5,.non,.non,.non,.non,.non,.non]) ⟨_,rfl⟩ (by
  rintro i x ρ hx ⟨v5,rfl⟩
  have hx:((ZjD b (h%10^60)).map Zlb)[i]?=some x:=hx
  rw[ZqO] at hx
  cases hq:(ZjD b (h%10^60))[i]? with
  |none=>rw[hq] at hx;cases hx
  |some q =>
   rw[hq] at hx
   cases hx
   obtain⟨e1,e2⟩:=hno q (ZqU hq)
   unfold Zlb
   walk_at "pd"
   rw[Zm1 ⟨e1,e2⟩]
   walk_at "pd"
   exact VX ⟨_,rfl⟩)
 walk_at "pd"
 rw[Zna (Jp.mpr hB) (by omega)]
 walk_at "pd"
 rw[Zna (Jp.mpr hB) (by omega),show bkP none ⟨[b],[],[]⟩=bkP none (bk1 b []) from rfl]
 walk_at "pd"
 have hgo:∀us,Zmi.fn [bkP none (bk1 b us),.lst (b.map PV.int)]=.ok (.bl true):=fun us=>ZmM hbl
 generalize hw2:UJ _ _ _=W2
 obtain⟨ρ',rfl,v8,rfl⟩:=V6 hw2 (fun i ρ=>∃v8,ρ=[.lst (ns.map PV.int),.int h,.int pits,.lst (b.map PV.int),.int (h%10^60),v5,bkP none (bk1 b []),bkP none (bk1 b []),v8,.non,.non,.non]) ⟨_,rfl⟩ (by
  rintro i x ρ hx ⟨v8,rfl⟩
  obtain rfl:x=bkP none (bk1 b []):=by
   have:=ZqU hx
   simp only[ZqE,Zrp,or_false,or_self] at this
   exact this
  walk_at "pd"
  rw[hgo]
  walk_at "pd"
  rw[Zmc (by rw[if_pos rfl];rfl)]
  walk_at "pd"
  rw[Zmc (by rw[if_neg (by decide)];rfl)]
  walk_at "pd"
  exact VX ⟨_,rfl⟩)
 walk_at "pd"
 generalize hw3:UJ _ _ _=W3
 obtain⟨ρ',rfl,us,v8',v9,v10,v11,rfl⟩:=V6 hw3 (fun i ρ=>∃us v8 v9 v10 v11,ρ=[.lst (ns.map PV.int),.int h,.int pits,.lst (b.map PV.int),.int (h%10^60),v5,bkP none (bk1 b us),bkP none (bk1 b []),v8,v9,v10,v11]) ⟨[],_,_,_,_,rfl⟩ (by
  rintro i x ρ hx ⟨us,v8,v9,v10,v11,rfl⟩
  obtain⟨hi,rfl⟩:=Qw hx
  rw[Int.zero_add]
  have hi2:(i:Int)<b.length:=by omega
  walk_at "pd"
  rw[Int.toNat_natCast]
  by_cases hz:0<b.getD i 0
  rotate_left
  ·rw[decide_eq_false hz]
   walk_at "pd"
   exact VX ⟨_,_,_,_,_,rfl⟩
  have st:ZcY b (i:Int):=⟨hB,Int.natCast_nonneg i,hi2,by rw[Int.toNat_natCast];exact hz⟩
  have hlast:∀us,UD (bk1 b us)=b:=fun _=>rfl
  have hin:Zj1 (bk1 b us) i:=⟨by simp[bk1],st,by simp[bk1],by simp[bk1]⟩
  rw[decide_eq_true hz]
  walk_at "pd"
  rw[ZaA st]
  generalize hm:Zb8 (b,(i:Int))=m
  obtain⟨mb,ml⟩:=m
  simp only[Zc7]
  walk_at "pd"
  rw[Zk1]
  walk_at "pd"
  generalize hd:(("sow":PySem.Str),(i:Int),b.getD (i:Int).toNat 0)=d
  have hk:bkS (bk1 b us) i=⟨[b,mb],[d],[]⟩:=by unfold bkS;rw[hlast,hm,hd];rfl
  have hmb:mb.length<=1000:=by
   have e:mb=Zj7 b i:=by have:=congrArg Prod.fst hm;exact this.symm
   rw[e,ZaN];omega
  have e1:∀y,rB (.ok (.bl false)) y=.ok (false,y):=fun y=>rfl
  have e2:ZlL.fn [bkP none ⟨[b,mb],[d],[]⟩]=.ok (.lst (mb.map PV.int)):=Zn8 (k:=⟨[b,mb],[d],[]⟩) (by simp) hmb
  have e3:Uf ZlQ.fnM (bkP none ⟨[b,mb],[d],[]⟩) []=.ok (.non,bkP none (bk1 b [(d,mb)])):=Ud (k:=⟨[b,mb],[d],[]⟩) (by simp) (by simp) (by simp) (by simp)
  have e4:Uf ZlR.fnM (bkP none (bk1 b [(d,mb)])) []=.ok (.non,bkP none ⟨[b,mb],[d],[]⟩):=Ue (k:=bk1 b [(d,mb)]) (by simp[bk1]) (by simp[bk1]) (by simp[bk1]) (by simp[bk1])
  have e5:∀y,rB (Zi4 (fun x=>!x) .non) y=.ok (false,y):=fun y=>rfl
  rw[UP hin,hlast,hm,hk]
  walk_at "pd"
  rw[e1]
  walk_at "pd"
  rw[ZfZ]
  walk_at "pd"
  rw[e2]
  walk_at "pd"
  try rw[Vx (VC mb)]
  walk_at "pd"
  rw[hgo]
  walk_at "pd"
  rw[ZhG]
  walk_at "pd"
  rw[e3]
  walk_at "pd"
  first|rw[e5]|rw[e1]
  walk_at "pd"
  rw[hgo]
  walk_at "pd"
  rw[Zmc (by rw[if_pos rfl];rfl)]
  walk_at "pd"
  rw[Zjo]
  walk_at "pd"
  rw[e4]
  walk_at "pd"
  first|rw[e5]|rw[e1]
  walk_at "pd"
  rw[ZfZ]
  walk_at "pd"
  rw[e2]
  walk_at "pd"
  try rw[Vx (VC mb)]
  walk_at "pd"
  rw[Zmc (by rw[if_neg (by decide)])]
  walk_at "pd"
  rw[ZhG]
  walk_at "pd"
  rw[e3]
  walk_at "pd"
  exact VX ⟨_,_,_,_,_,rfl⟩)
 walk_at "pd"
 rw[hgo]
 walk_at "pd"
 rw[hgo]
 walk_at "pd"
noncomputable def Zdo (K:W.Frag):Sp:=spF K 1 .P W0 ZoY.fn
theorem ZiG {l:PySem.W.OpenLaw} (T:Txt K mg) {fa:Addr} (hmg:mg "law"=some (.ref fa)):∃fd:FuncData,(∀(s:Shared) (u:Value),BindsTo s fd ⟨[u],[]⟩ [("script",u)]) /\
  ∀base:Heap,K.In base->base.Ns mainGlobals mg->Jb l.prog w K mg base CX0 9 fa fd ["script"] (Zdo K):=by
 obtain⟨f,fd,F,hm⟩:=T.Zq4
 rw[hmg] at hm
 cases hm
 refine⟨fd,fun s u=>?_,fun base _ _=>Zq2 T F⟩
 obtain⟨oc,od,kV,doc,pm,an,cdv,ct,osl,rfl,lk,hcd⟩:=F.ex
 exact .of_eq (Zq3 kV doc pm an cdv ct [u] rfl)
theorem Zed {H:Hp}{a:Addr}{ns:List Int} (hl:ns.length<=63) (hO:Zjy H) (hS:SqL K H a (ns.map V.int)):Zdo K [.ref a] H (fun v _=>v=.bl true) fun _ _ _=>False:=
 ZcJ (Pm.fn_eq ZoY ns hl fun _ _=>rfl) hS
end
theorem Zif {K:W.Frag}{h:Heap}{mg:Str->Option Value}{Zpg Zny ZnR Zo6 ZmX Zm0 ZnQ Zo7 Znx ZnS ZmY Zp7 Zon ZmR Zpf Zqk Znj Zqz:Addr} (X:K.In h) (G:h.Ns mainGlobals mg)
  {od__law_at an__law_at:Option Addr}{sl__law_at:Array (Option Value)}{oc__law_at kV__law_at dc__law_at Zm9 cd__law_at ct__law_at:Value}
  {od__law_folded an__law_folded:Option Addr}{sl__law_folded:Array (Option Value)}{oc__law_folded kV__law_folded dc__law_folded Zmb cd__law_folded ct__law_folded:Value}
  {od__law_board an__law_board:Option Addr}{sl__law_board:Array (Option Value)}{oc__law_board kV__law_board dc__law_board Zmh cd__law_board ct__law_board:Value}
  {od_is_whole an_is_whole:Option Addr}{sl_is_whole:Array (Option Value)}{oc_is_whole kV_is_whole dc_is_whole Zm5 cd_is_whole ct_is_whole:Value}
  {od_is_whole_from an_is_whole_from:Option Addr}{sl_is_whole_from:Array (Option Value)}{oc_is_whole_from kV_is_whole_from dc_is_whole_from ZlP cd_is_whole_from ct_is_whole_from:Value}
  {od_is_list_from_nought an_is_list_from_nought:Option Addr}{sl_is_list_from_nought:Array (Option Value)}{oc_is_list_from_nought kV_is_list_from_nought dc_is_list_from_nought Zl8 cd_is_list_from_nought ct_is_list_from_nought:Value}
  {od_most_seeds an_most_seeds:Option Addr}{sl_most_seeds:Array (Option Value)}{oc_most_seeds kV_most_seeds dc_most_seeds Zms cd_most_seeds ct_most_seeds:Value}
  {od_is_board an_is_board:Option Addr}{sl_is_board:Array (Option Value)}{oc_is_board kV_is_board dc_is_board Zml cd_is_board ct_is_board:Value}
  {od_check_board an_check_board:Option Addr}{sl_check_board:Array (Option Value)}{oc_check_board kV_check_board dc_check_board Zma cd_check_board ct_check_board:Value}
  {od__law_begun an__law_begun:Option Addr}{sl__law_begun:Array (Option Value)}{oc__law_begun kV__law_begun dc__law_begun Zmi cd__law_begun ct__law_begun:Value}
  {od__law_no_board an__law_no_board:Option Addr}{sl__law_no_board:Array (Option Value)}{oc__law_no_board kV__law_no_board dc__law_no_board ZlX cd__law_no_board ct__law_no_board:Value}
  {od_is_pit an_is_pit:Option Addr}{sl_is_pit:Array (Option Value)}{oc_is_pit kV_is_pit dc_is_pit Zm3 cd_is_pit ct_is_pit:Value}
  {od_check_pit an_check_pit:Option Addr}{sl_check_pit:Array (Option Value)}{oc_check_pit kV_check_pit dc_check_pit Zmq cd_check_pit ct_check_pit:Value}
  {od_check_standing an_check_standing:Option Addr}{sl_check_standing:Array (Option Value)}{oc_check_standing kV_check_standing dc_check_standing ZlK cd_check_standing ct_check_standing:Value}
  {od_sow_pit an_sow_pit:Option Addr}{sl_sow_pit:Array (Option Value)}{oc_sow_pit kV_sow_pit dc_sow_pit Zmw cd_sow_pit ct_sow_pit:Value}
  {od_sown an_sown:Option Addr}{sl_sown:Array (Option Value)}{oc_sown kV_sown dc_sown Znr cd_sown ct_sown:Value}
  {od__law_no_deed an__law_no_deed:Option Addr}{sl__law_no_deed:Array (Option Value)}{oc__law_no_deed kV__law_no_deed dc__law_no_deed Zmd cd__law_no_deed ct__law_no_deed:Value}
  {od_law an_law:Option Addr}{sl_law:Array (Option Value)}{oc_law kV_law dc_law ZoY cd_law ct_law:Value}
  (Zpr:PySem.W.nsIn K mainGlobals "_law_at"=some (some (.ref Zpg))) (Zpa:K.lookup Zpg=some ⟨oc__law_at,od__law_at,.func (PySem.W.fnOf "_law_at" "_law_at" (Zk ZmJ) (Zj ZmJ) (Zc ZmJ) .none kV__law_at dc__law_at Zm9 an__law_at cd__law_at ct__law_at),sl__law_at⟩) (ZnY:PySem.W.codeIn K cd__law_at "_law_at"=true) (Zpc:PySem.W.keepIn K (.ref Zpg)=true)
  (Zn2:PySem.W.nsIn K mainGlobals "_law_folded"=some (some (.ref Zny))) (Znt:K.lookup Zny=some ⟨oc__law_folded,od__law_folded,.func (PySem.W.fnOf "_law_folded" "_law_folded" (Zk Zmg) (Zj Zmg) (Zc Zmg) .none kV__law_folded dc__law_folded Zmb an__law_folded cd__law_folded ct__law_folded),sl__law_folded⟩) (ZmC:PySem.W.codeIn K cd__law_folded "_law_folded"=true) (Znv:PySem.W.keepIn K (.ref Zny)=true)
  (Zoc:PySem.W.nsIn K mainGlobals "_law_board"=some (some (.ref ZnR))) (ZnL:K.lookup ZnR=some ⟨oc__law_board,od__law_board,.func (PySem.W.fnOf "_law_board" "_law_board" (Zk Zmo) (Zj Zmo) (Zc Zmo) .none kV__law_board dc__law_board Zmh an__law_board cd__law_board ct__law_board),sl__law_board⟩) (ZmL:PySem.W.codeIn K cd__law_board "_law_board"=true) (ZnO:PySem.W.keepIn K (.ref ZnR)=true)
  (ZoE:PySem.W.nsIn K mainGlobals "is_whole"=some (some (.ref Zo6))) (Zo0:K.lookup Zo6=some ⟨oc_is_whole,od_is_whole,.func (PySem.W.fnOf "is_whole" "is_whole" (Zk Zm7) (Zj Zm7) (Zc Zm7) .none kV_is_whole dc_is_whole Zm5 an_is_whole cd_is_whole ct_is_whole),sl_is_whole⟩) (Znn:PySem.W.codeIn K cd_is_whole "is_whole"=true) (Zo2:PySem.W.keepIn K (.ref Zo6)=true)
  (Znb:PySem.W.nsIn K mainGlobals "is_whole_from"=some (some (.ref ZmX))) (ZmT:K.lookup ZmX=some ⟨oc_is_whole_from,od_is_whole_from,.func (PySem.W.fnOf "is_whole_from" "is_whole_from" (Zk ZlU) (Zj ZlU) (Zc ZlU) .none kV_is_whole_from dc_is_whole_from ZlP an_is_whole_from cd_is_whole_from ct_is_whole_from),sl_is_whole_from⟩) (Zmm:PySem.W.codeIn K cd_is_whole_from "is_whole_from"=true) (ZmV:PySem.W.keepIn K (.ref ZmX)=true)
  (Zm2:PySem.W.nsIn K mainGlobals "is_list_from_nought"=some (some (.ref Zm0))) (Zmy:K.lookup Zm0=some ⟨oc_is_list_from_nought,od_is_list_from_nought,.func (PySem.W.fnOf "is_list_from_nought" "is_list_from_nought" (Zk Zl9) (Zj Zl9) (Zc Zl9) .none kV_is_list_from_nought dc_is_list_from_nought Zl8 an_is_list_from_nought cd_is_list_from_nought ct_is_list_from_nought),sl_is_list_from_nought⟩) (ZlW:PySem.W.codeIn K cd_is_list_from_nought "is_list_from_nought"=true) (Zmz:PySem.W.keepIn K (.ref Zm0)=true)
  (Zob:PySem.W.nsIn K mainGlobals "most_seeds"=some (some (.ref ZnQ))) (ZnK:K.lookup ZnQ=some ⟨oc_most_seeds,od_most_seeds,.func (PySem.W.fnOf "most_seeds" "most_seeds" (Zk Zmn) (Zj Zmn) (Zc Zmn) .none kV_most_seeds dc_most_seeds Zms an_most_seeds cd_most_seeds ct_most_seeds),sl_most_seeds⟩) (ZmK:PySem.W.codeIn K cd_most_seeds "most_seeds"=true) (ZnN:PySem.W.keepIn K (.ref ZnQ)=true)
  (ZoF:PySem.W.nsIn K mainGlobals "is_board"=some (some (.ref Zo7))) (Zo1:K.lookup Zo7=some ⟨oc_is_board,od_is_board,.func (PySem.W.fnOf "is_board" "is_board" (Zk Zm8) (Zj Zm8) (Zc Zm8) .none kV_is_board dc_is_board Zml an_is_board cd_is_board ct_is_board),sl_is_board⟩) (Zno:PySem.W.codeIn K cd_is_board "is_board"=true) (Zo3:PySem.W.keepIn K (.ref Zo7)=true)
  (Zn1:PySem.W.nsIn K mainGlobals "check_board"=some (some (.ref Znx))) (Zns:K.lookup Znx=some ⟨oc_check_board,od_check_board,.func (PySem.W.fnOf "check_board" "check_board" (Zk Zmf) (Zj Zmf) (Zc Zmf) .none kV_check_board dc_check_board Zma an_check_board cd_check_board ct_check_board),sl_check_board⟩) (Zmt:PySem.W.codeIn K cd_check_board "check_board"=true) (Znu:PySem.W.keepIn K (.ref Znx)=true)
  (Zod:PySem.W.nsIn K mainGlobals "_law_begun"=some (some (.ref ZnS))) (ZnM:K.lookup ZnS=some ⟨oc__law_begun,od__law_begun,.func (PySem.W.fnOf "_law_begun" "_law_begun" (Zk Zmp) (Zj Zmp) (Zc Zmp) .none kV__law_begun dc__law_begun Zmi an__law_begun cd__law_begun ct__law_begun),sl__law_begun⟩) (ZmM:PySem.W.codeIn K cd__law_begun "_law_begun"=true) (ZnP:PySem.W.keepIn K (.ref ZnS)=true)
  (Znc:PySem.W.nsIn K mainGlobals "_law_no_board"=some (some (.ref ZmY))) (ZmU:K.lookup ZmY=some ⟨oc__law_no_board,od__law_no_board,.func (PySem.W.fnOf "_law_no_board" "_law_no_board" (Zk ZlV) (Zj ZlV) (Zc ZlV) .none kV__law_no_board dc__law_no_board ZlX an__law_no_board cd__law_no_board ct__law_no_board),sl__law_no_board⟩) (Zm1:PySem.W.codeIn K cd__law_no_board "_law_no_board"=true) (ZmW:PySem.W.keepIn K (.ref ZmY)=true)
  (ZpC:PySem.W.nsIn K mainGlobals "is_pit"=some (some (.ref Zp7))) (Zp2:K.lookup Zp7=some ⟨oc_is_pit,od_is_pit,.func (PySem.W.fnOf "is_pit" "is_pit" (Zk Znf) (Zj Znf) (Zc Znf) .none kV_is_pit dc_is_pit Zm3 an_is_pit cd_is_pit ct_is_pit),sl_is_pit⟩) (Zou:PySem.W.codeIn K cd_is_pit "is_pit"=true) (Zp3:PySem.W.keepIn K (.ref Zp7)=true)
  (Zop:PySem.W.nsIn K mainGlobals "check_pit"=some (some (.ref Zon))) (Zol:K.lookup Zon=some ⟨oc_check_pit,od_check_pit,.func (PySem.W.fnOf "check_pit" "check_pit" (Zk Zmx) (Zj Zmx) (Zc Zmx) .none kV_check_pit dc_check_pit Zmq an_check_pit cd_check_pit ct_check_pit),sl_check_pit⟩) (ZmZ:PySem.W.codeIn K cd_check_pit "check_pit"=true) (Zom:PySem.W.keepIn K (.ref Zon)=true)
  (ZmS:PySem.W.nsIn K mainGlobals "check_standing"=some (some (.ref ZmR))) (ZmP:K.lookup ZmR=some ⟨oc_check_standing,od_check_standing,.func (PySem.W.fnOf "check_standing" "check_standing" (Zk ZlO) (Zj ZlO) (Zc ZlO) .none kV_check_standing dc_check_standing ZlK an_check_standing cd_check_standing ct_check_standing),sl_check_standing⟩) (Zmu:PySem.W.codeIn K cd_check_standing "check_standing"=true) (ZmQ:PySem.W.keepIn K (.ref ZmR)=true)
  (Zpq:PySem.W.nsIn K mainGlobals "sow_pit"=some (some (.ref Zpf))) (ZoZ:K.lookup Zpf=some ⟨oc_sow_pit,od_sow_pit,.func (PySem.W.fnOf "sow_pit" "sow_pit" (Zk ZmI) (Zj ZmI) (Zc ZmI) .none kV_sow_pit dc_sow_pit Zmw an_sow_pit cd_sow_pit ct_sow_pit),sl_sow_pit⟩) (ZnX:PySem.W.codeIn K cd_sow_pit "sow_pit"=true) (Zpb:PySem.W.keepIn K (.ref Zpf)=true)
  (Zqp:PySem.W.nsIn K mainGlobals "sown"=some (some (.ref Zqk))) (Zqg:K.lookup Zqk=some ⟨oc_sown,od_sown,.func (PySem.W.fnOf "sown" "sown" (Zk ZoI) (Zj ZoI) (Zc ZoI) .none kV_sown dc_sown Znr an_sown cd_sown ct_sown),sl_sown⟩) (ZpK:PySem.W.codeIn K cd_sown "sown"=true) (Zqh:PySem.W.keepIn K (.ref Zqk)=true)
  (Znl:PySem.W.nsIn K mainGlobals "_law_no_deed"=some (some (.ref Znj))) (Zng:K.lookup Znj=some ⟨oc__law_no_deed,od__law_no_deed,.func (PySem.W.fnOf "_law_no_deed" "_law_no_deed" (Zk ZlZ) (Zj ZlZ) (Zc ZlZ) .none kV__law_no_deed dc__law_no_deed Zmd an__law_no_deed cd__law_no_deed ct__law_no_deed),sl__law_no_deed⟩) (Zmc:PySem.W.codeIn K cd__law_no_deed "_law_no_deed"=true) (Znh:PySem.W.keepIn K (.ref Znj)=true)
  (Zq1:PySem.W.nsIn K mainGlobals "law"=some (some (.ref Zqz))) (Zqx:K.lookup Zqz=some ⟨oc_law,od_law,.func (PySem.W.fnOf "law" "law" (Zk ZpF) (Zj ZpF) (Zc ZpF) .none kV_law dc_law ZoY an_law cd_law ct_law),sl_law⟩) (Zq0:PySem.W.codeIn K cd_law "law"=true) (Zqy:PySem.W.keepIn K (.ref Zqz)=true)
  {t_FEWEST_PITS:Tok} (a_FEWEST_PITS:PySem.W.nsIn K mainGlobals "FEWEST_PITS"=some (some (.int 2 t_FEWEST_PITS)))
  {t_MOST_PITS:Tok} (a_MOST_PITS:PySem.W.nsIn K mainGlobals "MOST_PITS"=some (some (.int 24 t_MOST_PITS)))
  (z_ValueError:PySem.W.nsIn K mainGlobals "ValueError"=some none)
  (z_all:PySem.W.nsIn K mainGlobals "all"=some none)
  (z_bool:PySem.W.nsIn K mainGlobals "bool"=some none)
  (z_enumerate:PySem.W.nsIn K mainGlobals "enumerate"=some none)
  (z_int:PySem.W.nsIn K mainGlobals "int"=some none)
  (z_isinstance:PySem.W.nsIn K mainGlobals "isinstance"=some none)
  (z_len:PySem.W.nsIn K mainGlobals "len"=some none)
  (z_list:PySem.W.nsIn K mainGlobals "list"=some none)
  (z_range:PySem.W.nsIn K mainGlobals "range"=some none)
  (z_sorted:PySem.W.nsIn K mainGlobals "sorted"=some none)
  (z_sum:PySem.W.nsIn K mainGlobals "sum"=some none)
  (z_tuple:PySem.W.nsIn K mainGlobals "tuple"=some none)
  (x_tab:ZeU K XN XS=true) (x_exc:ZgB K XR=true)
  {C_SowError fm_SowError:Addr}{odm_SowError anm_SowError:Option Addr}{slm_SowError:Array (Option Value)}{ocm_SowError kVm_SowError dcm_SowError pmm_SowError cdm_SowError ctm_SowError:Value}
  (am_SowError:PySem.W.nsIn K mainGlobals "SowError"=some (some (.ref C_SowError))) (fm1_SowError:PySem.W.findIn K (.ref C_SowError) "called"=some (some (.ref fm_SowError))) (tm_SowError:PySem.W.typeIn K (.ref fm_SowError)=some (.type "function")) (lm_SowError:K.lookup fm_SowError=some ⟨ocm_SowError,odm_SowError,.func (PySem.W.fnOf "called" "SowError.called" (Zk Jd) (Zj Jd) (Zc Jd) .none kVm_SowError dcm_SowError pmm_SowError anm_SowError cdm_SowError ctm_SowError),slm_SowError⟩) (cm_SowError:PySem.W.codeIn K cdm_SowError "SowError.called"=true) (km_SowError:PySem.W.keepIn K (.ref fm_SowError)=true)
  {C_BadBoard fm_BadBoard:Addr}{odm_BadBoard anm_BadBoard:Option Addr}{slm_BadBoard:Array (Option Value)}{ocm_BadBoard kVm_BadBoard dcm_BadBoard pmm_BadBoard cdm_BadBoard ctm_BadBoard:Value}
  (am_BadBoard:PySem.W.nsIn K mainGlobals "BadBoard"=some (some (.ref C_BadBoard))) (fm1_BadBoard:PySem.W.findIn K (.ref C_BadBoard) "called"=some (some (.ref fm_BadBoard))) (tm_BadBoard:PySem.W.typeIn K (.ref fm_BadBoard)=some (.type "function")) (lm_BadBoard:K.lookup fm_BadBoard=some ⟨ocm_BadBoard,odm_BadBoard,.func (PySem.W.fnOf "called" "BadBoard.called" (Zk Je) (Zj Je) (Zc Je) .none kVm_BadBoard dcm_BadBoard pmm_BadBoard anm_BadBoard cdm_BadBoard ctm_BadBoard),slm_BadBoard⟩) (cm_BadBoard:PySem.W.codeIn K cdm_BadBoard "BadBoard.called"=true) (km_BadBoard:PySem.W.keepIn K (.ref fm_BadBoard)=true)
  {C_BadPit fm_BadPit:Addr}{odm_BadPit anm_BadPit:Option Addr}{slm_BadPit:Array (Option Value)}{ocm_BadPit kVm_BadPit dcm_BadPit pmm_BadPit cdm_BadPit ctm_BadPit:Value}
  (am_BadPit:PySem.W.nsIn K mainGlobals "BadPit"=some (some (.ref C_BadPit))) (fm1_BadPit:PySem.W.findIn K (.ref C_BadPit) "called"=some (some (.ref fm_BadPit))) (tm_BadPit:PySem.W.typeIn K (.ref fm_BadPit)=some (.type "function")) (lm_BadPit:K.lookup fm_BadPit=some ⟨ocm_BadPit,odm_BadPit,.func (PySem.W.fnOf "called" "BadPit.called" (Zk J3) (Zj J3) (Zc J3) .none kVm_BadPit dcm_BadPit pmm_BadPit anm_BadPit cdm_BadPit ctm_BadPit),slm_BadPit⟩) (cm_BadPit:PySem.W.codeIn K cdm_BadPit "BadPit.called"=true) (km_BadPit:PySem.W.keepIn K (.ref fm_BadPit)=true)
  {C_NoSeeds fm_NoSeeds:Addr}{odm_NoSeeds anm_NoSeeds:Option Addr}{slm_NoSeeds:Array (Option Value)}{ocm_NoSeeds kVm_NoSeeds dcm_NoSeeds pmm_NoSeeds cdm_NoSeeds ctm_NoSeeds:Value}
  (am_NoSeeds:PySem.W.nsIn K mainGlobals "NoSeeds"=some (some (.ref C_NoSeeds))) (fm1_NoSeeds:PySem.W.findIn K (.ref C_NoSeeds) "called"=some (some (.ref fm_NoSeeds))) (tm_NoSeeds:PySem.W.typeIn K (.ref fm_NoSeeds)=some (.type "function")) (lm_NoSeeds:K.lookup fm_NoSeeds=some ⟨ocm_NoSeeds,odm_NoSeeds,.func (PySem.W.fnOf "called" "NoSeeds.called" (Zk Jn) (Zj Jn) (Zc Jn) .none kVm_NoSeeds dcm_NoSeeds pmm_NoSeeds anm_NoSeeds cdm_NoSeeds ctm_NoSeeds),slm_NoSeeds⟩) (cm_NoSeeds:PySem.W.codeIn K cdm_NoSeeds "NoSeeds.called"=true) (km_NoSeeds:PySem.W.keepIn K (.ref fm_NoSeeds)=true)
  {C_NoDeed fm_NoDeed:Addr}{odm_NoDeed anm_NoDeed:Option Addr}{slm_NoDeed:Array (Option Value)}{ocm_NoDeed kVm_NoDeed dcm_NoDeed pmm_NoDeed cdm_NoDeed ctm_NoDeed:Value}
  (am_NoDeed:PySem.W.nsIn K mainGlobals "NoDeed"=some (some (.ref C_NoDeed))) (fm1_NoDeed:PySem.W.findIn K (.ref C_NoDeed) "called"=some (some (.ref fm_NoDeed))) (tm_NoDeed:PySem.W.typeIn K (.ref fm_NoDeed)=some (.type "function")) (lm_NoDeed:K.lookup fm_NoDeed=some ⟨ocm_NoDeed,odm_NoDeed,.func (PySem.W.fnOf "called" "NoDeed.called" (Zk J2) (Zj J2) (Zc J2) .none kVm_NoDeed dcm_NoDeed pmm_NoDeed anm_NoDeed cdm_NoDeed ctm_NoDeed),slm_NoDeed⟩) (cm_NoDeed:PySem.W.codeIn K cdm_NoDeed "NoDeed.called"=true) (km_NoDeed:PySem.W.keepIn K (.ref fm_NoDeed)=true)
  {C_RingBook___init__ fm_RingBook___init__:Addr}{odm_RingBook___init__ anm_RingBook___init__:Option Addr}{slm_RingBook___init__:Array (Option Value)}{ocm_RingBook___init__ kVm_RingBook___init__ dcm_RingBook___init__ pmm_RingBook___init__ cdm_RingBook___init__ ctm_RingBook___init__:Value}
  (am_RingBook___init__:PySem.W.nsIn K mainGlobals "RingBook"=some (some (.ref C_RingBook___init__))) (fm1_RingBook___init__:PySem.W.findIn K (.ref C_RingBook___init__) "__init__"=some (some (.ref fm_RingBook___init__))) (tm_RingBook___init__:PySem.W.typeIn K (.ref fm_RingBook___init__)=some (.type "function")) (lm_RingBook___init__:K.lookup fm_RingBook___init__=some ⟨ocm_RingBook___init__,odm_RingBook___init__,.func (PySem.W.fnOf "__init__" "RingBook.__init__" (Zk Zl7) (Zj Zl7) (Zc Zl7) .none kVm_RingBook___init__ dcm_RingBook___init__ pmm_RingBook___init__ anm_RingBook___init__ cdm_RingBook___init__ ctm_RingBook___init__),slm_RingBook___init__⟩) (cm_RingBook___init__:PySem.W.codeIn K cdm_RingBook___init__ "RingBook.__init__"=true) (km_RingBook___init__:PySem.W.keepIn K (.ref fm_RingBook___init__)=true)
  {C_RingBook_board fm_RingBook_board:Addr}{odm_RingBook_board anm_RingBook_board:Option Addr}{slm_RingBook_board:Array (Option Value)}{ocm_RingBook_board kVm_RingBook_board dcm_RingBook_board pmm_RingBook_board cdm_RingBook_board ctm_RingBook_board:Value}
  (am_RingBook_board:PySem.W.nsIn K mainGlobals "RingBook"=some (some (.ref C_RingBook_board))) (fm1_RingBook_board:PySem.W.findIn K (.ref C_RingBook_board) "board"=some (some (.ref fm_RingBook_board))) (tm_RingBook_board:PySem.W.typeIn K (.ref fm_RingBook_board)=some (.type "function")) (lm_RingBook_board:K.lookup fm_RingBook_board=some ⟨ocm_RingBook_board,odm_RingBook_board,.func (PySem.W.fnOf "board" "RingBook.board" (Zk ZlF) (Zj ZlF) (Zc ZlF) .none kVm_RingBook_board dcm_RingBook_board pmm_RingBook_board anm_RingBook_board cdm_RingBook_board ctm_RingBook_board),slm_RingBook_board⟩) (cm_RingBook_board:PySem.W.codeIn K cdm_RingBook_board "RingBook.board"=true) (km_RingBook_board:PySem.W.keepIn K (.ref fm_RingBook_board)=true)
  {C_RingBook_plan fm_RingBook_plan:Addr}{odm_RingBook_plan anm_RingBook_plan:Option Addr}{slm_RingBook_plan:Array (Option Value)}{ocm_RingBook_plan kVm_RingBook_plan dcm_RingBook_plan pmm_RingBook_plan cdm_RingBook_plan ctm_RingBook_plan:Value}
  (am_RingBook_plan:PySem.W.nsIn K mainGlobals "RingBook"=some (some (.ref C_RingBook_plan))) (fm1_RingBook_plan:PySem.W.findIn K (.ref C_RingBook_plan) "plan"=some (some (.ref fm_RingBook_plan))) (tm_RingBook_plan:PySem.W.typeIn K (.ref fm_RingBook_plan)=some (.type "function")) (lm_RingBook_plan:K.lookup fm_RingBook_plan=some ⟨ocm_RingBook_plan,odm_RingBook_plan,.func (PySem.W.fnOf "plan" "RingBook.plan" (Zk ZlJ) (Zj ZlJ) (Zc ZlJ) .none kVm_RingBook_plan dcm_RingBook_plan pmm_RingBook_plan anm_RingBook_plan cdm_RingBook_plan ctm_RingBook_plan),slm_RingBook_plan⟩) (cm_RingBook_plan:PySem.W.codeIn K cdm_RingBook_plan "RingBook.plan"=true) (km_RingBook_plan:PySem.W.keepIn K (.ref fm_RingBook_plan)=true)
  {C_RingBook_came_again fm_RingBook_came_again:Addr}{odm_RingBook_came_again anm_RingBook_came_again:Option Addr}{slm_RingBook_came_again:Array (Option Value)}{ocm_RingBook_came_again kVm_RingBook_came_again dcm_RingBook_came_again pmm_RingBook_came_again cdm_RingBook_came_again ctm_RingBook_came_again:Value}
  (am_RingBook_came_again:PySem.W.nsIn K mainGlobals "RingBook"=some (some (.ref C_RingBook_came_again))) (fm1_RingBook_came_again:PySem.W.findIn K (.ref C_RingBook_came_again) "came_again"=some (some (.ref fm_RingBook_came_again))) (tm_RingBook_came_again:PySem.W.typeIn K (.ref fm_RingBook_came_again)=some (.type "function")) (lm_RingBook_came_again:K.lookup fm_RingBook_came_again=some ⟨ocm_RingBook_came_again,odm_RingBook_came_again,.func (PySem.W.fnOf "came_again" "RingBook.came_again" (Zk Zl5) (Zj Zl5) (Zc Zl5) .none kVm_RingBook_came_again dcm_RingBook_came_again pmm_RingBook_came_again anm_RingBook_came_again cdm_RingBook_came_again ctm_RingBook_came_again),slm_RingBook_came_again⟩) (cm_RingBook_came_again:PySem.W.codeIn K cdm_RingBook_came_again "RingBook.came_again"=true) (km_RingBook_came_again:PySem.W.keepIn K (.ref fm_RingBook_came_again)=true)
  {C_RingBook_sown_in_all fm_RingBook_sown_in_all:Addr}{odm_RingBook_sown_in_all anm_RingBook_sown_in_all:Option Addr}{slm_RingBook_sown_in_all:Array (Option Value)}{ocm_RingBook_sown_in_all kVm_RingBook_sown_in_all dcm_RingBook_sown_in_all pmm_RingBook_sown_in_all cdm_RingBook_sown_in_all ctm_RingBook_sown_in_all:Value}
  (am_RingBook_sown_in_all:PySem.W.nsIn K mainGlobals "RingBook"=some (some (.ref C_RingBook_sown_in_all))) (fm1_RingBook_sown_in_all:PySem.W.findIn K (.ref C_RingBook_sown_in_all) "sown_in_all"=some (some (.ref fm_RingBook_sown_in_all))) (tm_RingBook_sown_in_all:PySem.W.typeIn K (.ref fm_RingBook_sown_in_all)=some (.type "function")) (lm_RingBook_sown_in_all:K.lookup fm_RingBook_sown_in_all=some ⟨ocm_RingBook_sown_in_all,odm_RingBook_sown_in_all,.func (PySem.W.fnOf "sown_in_all" "RingBook.sown_in_all" (Zk Zl4) (Zj Zl4) (Zc Zl4) .none kVm_RingBook_sown_in_all dcm_RingBook_sown_in_all pmm_RingBook_sown_in_all anm_RingBook_sown_in_all cdm_RingBook_sown_in_all ctm_RingBook_sown_in_all),slm_RingBook_sown_in_all⟩) (cm_RingBook_sown_in_all:PySem.W.codeIn K cdm_RingBook_sown_in_all "RingBook.sown_in_all"=true) (km_RingBook_sown_in_all:PySem.W.keepIn K (.ref fm_RingBook_sown_in_all)=true)
  {C_RingBook___init___x fm_RingBook___init___x:Addr}{odm_RingBook___init___x anm_RingBook___init___x:Option Addr}{slm_RingBook___init___x:Array (Option Value)}{ocm_RingBook___init___x kVm_RingBook___init___x dcm_RingBook___init___x pmm_RingBook___init___x cdm_RingBook___init___x ctm_RingBook___init___x:Value}
  (am_RingBook___init___x:PySem.W.nsIn K mainGlobals "RingBook"=some (some (.ref C_RingBook___init___x))) (fm1_RingBook___init___x:PySem.W.findIn K (.ref C_RingBook___init___x) "__init__"=some (some (.ref fm_RingBook___init___x))) (tm_RingBook___init___x:PySem.W.typeIn K (.ref fm_RingBook___init___x)=some (.type "function")) (lm_RingBook___init___x:K.lookup fm_RingBook___init___x=some ⟨ocm_RingBook___init___x,odm_RingBook___init___x,.func (PySem.W.fnOf "__init__" "RingBook.__init__" (Zk Zl6) (Zj Zl6) (Zc Zl6) .none kVm_RingBook___init___x dcm_RingBook___init___x pmm_RingBook___init___x anm_RingBook___init___x cdm_RingBook___init___x ctm_RingBook___init___x),slm_RingBook___init___x⟩) (cm_RingBook___init___x:PySem.W.codeIn K cdm_RingBook___init___x "RingBook.__init__"=true) (km_RingBook___init___x:PySem.W.keepIn K (.ref fm_RingBook___init___x)=true)
  {C_RingBook_undo fm_RingBook_undo:Addr}{odm_RingBook_undo anm_RingBook_undo:Option Addr}{slm_RingBook_undo:Array (Option Value)}{ocm_RingBook_undo kVm_RingBook_undo dcm_RingBook_undo pmm_RingBook_undo cdm_RingBook_undo ctm_RingBook_undo:Value}
  (am_RingBook_undo:PySem.W.nsIn K mainGlobals "RingBook"=some (some (.ref C_RingBook_undo))) (fm1_RingBook_undo:PySem.W.findIn K (.ref C_RingBook_undo) "undo"=some (some (.ref fm_RingBook_undo))) (tm_RingBook_undo:PySem.W.typeIn K (.ref fm_RingBook_undo)=some (.type "function")) (lm_RingBook_undo:K.lookup fm_RingBook_undo=some ⟨ocm_RingBook_undo,odm_RingBook_undo,.func (PySem.W.fnOf "undo" "RingBook.undo" (Zk ZlH) (Zj ZlH) (Zc ZlH) .none kVm_RingBook_undo dcm_RingBook_undo pmm_RingBook_undo anm_RingBook_undo cdm_RingBook_undo ctm_RingBook_undo),slm_RingBook_undo⟩) (cm_RingBook_undo:PySem.W.codeIn K cdm_RingBook_undo "RingBook.undo"=true) (km_RingBook_undo:PySem.W.keepIn K (.ref fm_RingBook_undo)=true)
  {C_RingBook_undo_x fm_RingBook_undo_x:Addr}{odm_RingBook_undo_x anm_RingBook_undo_x:Option Addr}{slm_RingBook_undo_x:Array (Option Value)}{ocm_RingBook_undo_x kVm_RingBook_undo_x dcm_RingBook_undo_x pmm_RingBook_undo_x cdm_RingBook_undo_x ctm_RingBook_undo_x:Value}
  (am_RingBook_undo_x:PySem.W.nsIn K mainGlobals "RingBook"=some (some (.ref C_RingBook_undo_x))) (fm1_RingBook_undo_x:PySem.W.findIn K (.ref C_RingBook_undo_x) "undo"=some (some (.ref fm_RingBook_undo_x))) (tm_RingBook_undo_x:PySem.W.typeIn K (.ref fm_RingBook_undo_x)=some (.type "function")) (lm_RingBook_undo_x:K.lookup fm_RingBook_undo_x=some ⟨ocm_RingBook_undo_x,odm_RingBook_undo_x,.func (PySem.W.fnOf "undo" "RingBook.undo" (Zk ZlB) (Zj ZlB) (Zc ZlB) .none kVm_RingBook_undo_x dcm_RingBook_undo_x pmm_RingBook_undo_x anm_RingBook_undo_x cdm_RingBook_undo_x ctm_RingBook_undo_x),slm_RingBook_undo_x⟩) (cm_RingBook_undo_x:PySem.W.codeIn K cdm_RingBook_undo_x "RingBook.undo"=true) (km_RingBook_undo_x:PySem.W.keepIn K (.ref fm_RingBook_undo_x)=true)
  {C_RingBook_redo_x fm_RingBook_redo_x:Addr}{odm_RingBook_redo_x anm_RingBook_redo_x:Option Addr}{slm_RingBook_redo_x:Array (Option Value)}{ocm_RingBook_redo_x kVm_RingBook_redo_x dcm_RingBook_redo_x pmm_RingBook_redo_x cdm_RingBook_redo_x ctm_RingBook_redo_x:Value}
  (am_RingBook_redo_x:PySem.W.nsIn K mainGlobals "RingBook"=some (some (.ref C_RingBook_redo_x))) (fm1_RingBook_redo_x:PySem.W.findIn K (.ref C_RingBook_redo_x) "redo"=some (some (.ref fm_RingBook_redo_x))) (tm_RingBook_redo_x:PySem.W.typeIn K (.ref fm_RingBook_redo_x)=some (.type "function")) (lm_RingBook_redo_x:K.lookup fm_RingBook_redo_x=some ⟨ocm_RingBook_redo_x,odm_RingBook_redo_x,.func (PySem.W.fnOf "redo" "RingBook.redo" (Zk ZlC) (Zj ZlC) (Zc ZlC) .none kVm_RingBook_redo_x dcm_RingBook_redo_x pmm_RingBook_redo_x anm_RingBook_redo_x cdm_RingBook_redo_x ctm_RingBook_redo_x),slm_RingBook_redo_x⟩) (cm_RingBook_redo_x:PySem.W.codeIn K cdm_RingBook_redo_x "RingBook.redo"=true) (km_RingBook_redo_x:PySem.W.keepIn K (.ref fm_RingBook_redo_x)=true)
  {C_RingBook_enter fm_RingBook_enter:Addr}{odm_RingBook_enter anm_RingBook_enter:Option Addr}{slm_RingBook_enter:Array (Option Value)}{ocm_RingBook_enter kVm_RingBook_enter dcm_RingBook_enter pmm_RingBook_enter cdm_RingBook_enter ctm_RingBook_enter:Value}
  (am_RingBook_enter:PySem.W.nsIn K mainGlobals "RingBook"=some (some (.ref C_RingBook_enter))) (fm1_RingBook_enter:PySem.W.findIn K (.ref C_RingBook_enter) "enter"=some (some (.ref fm_RingBook_enter))) (tm_RingBook_enter:PySem.W.typeIn K (.ref fm_RingBook_enter)=some (.type "function")) (lm_RingBook_enter:K.lookup fm_RingBook_enter=some ⟨ocm_RingBook_enter,odm_RingBook_enter,.func (PySem.W.fnOf "enter" "RingBook.enter" (Zk ZlE) (Zj ZlE) (Zc ZlE) .none kVm_RingBook_enter dcm_RingBook_enter pmm_RingBook_enter anm_RingBook_enter cdm_RingBook_enter ctm_RingBook_enter),slm_RingBook_enter⟩) (cm_RingBook_enter:PySem.W.codeIn K cdm_RingBook_enter "RingBook.enter"=true) (km_RingBook_enter:PySem.W.keepIn K (.ref fm_RingBook_enter)=true)
  {C_RingBook_sow fm_RingBook_sow:Addr}{odm_RingBook_sow anm_RingBook_sow:Option Addr}{slm_RingBook_sow:Array (Option Value)}{ocm_RingBook_sow kVm_RingBook_sow dcm_RingBook_sow pmm_RingBook_sow cdm_RingBook_sow ctm_RingBook_sow:Value}
  (am_RingBook_sow:PySem.W.nsIn K mainGlobals "RingBook"=some (some (.ref C_RingBook_sow))) (fm1_RingBook_sow:PySem.W.findIn K (.ref C_RingBook_sow) "sow"=some (some (.ref fm_RingBook_sow))) (tm_RingBook_sow:PySem.W.typeIn K (.ref fm_RingBook_sow)=some (.type "function")) (lm_RingBook_sow:K.lookup fm_RingBook_sow=some ⟨ocm_RingBook_sow,odm_RingBook_sow,.func (PySem.W.fnOf "sow" "RingBook.sow" (Zk ZlM) (Zj ZlM) (Zc ZlM) .none kVm_RingBook_sow dcm_RingBook_sow pmm_RingBook_sow anm_RingBook_sow cdm_RingBook_sow ctm_RingBook_sow),slm_RingBook_sow⟩) (cm_RingBook_sow:PySem.W.codeIn K cdm_RingBook_sow "RingBook.sow"=true) (km_RingBook_sow:PySem.W.keepIn K (.ref fm_RingBook_sow)=true)
  {C_RingBook_redo fm_RingBook_redo:Addr}{odm_RingBook_redo anm_RingBook_redo:Option Addr}{slm_RingBook_redo:Array (Option Value)}{ocm_RingBook_redo kVm_RingBook_redo dcm_RingBook_redo pmm_RingBook_redo cdm_RingBook_redo ctm_RingBook_redo:Value}
  (am_RingBook_redo:PySem.W.nsIn K mainGlobals "RingBook"=some (some (.ref C_RingBook_redo))) (fm1_RingBook_redo:PySem.W.findIn K (.ref C_RingBook_redo) "redo"=some (some (.ref fm_RingBook_redo))) (tm_RingBook_redo:PySem.W.typeIn K (.ref fm_RingBook_redo)=some (.type "function")) (lm_RingBook_redo:K.lookup fm_RingBook_redo=some ⟨ocm_RingBook_redo,odm_RingBook_redo,.func (PySem.W.fnOf "redo" "RingBook.redo" (Zk ZlI) (Zj ZlI) (Zc ZlI) .none kVm_RingBook_redo dcm_RingBook_redo pmm_RingBook_redo anm_RingBook_redo cdm_RingBook_redo ctm_RingBook_redo),slm_RingBook_redo⟩) (cm_RingBook_redo:PySem.W.codeIn K cdm_RingBook_redo "RingBook.redo"=true) (km_RingBook_redo:PySem.W.keepIn K (.ref fm_RingBook_redo)=true)
  (o_RingBook:VD K "RingBook" Zr=true)
  :Txt K mg:=by
 refine⟨?_, ?_, ?_, ?_, ?_, ?_, ?_, ?_, ?_, ?_, ?_, ?_, ?_, ?_, ?_, ?_, ?_, ?_, ?_, ?_, ?_, ?_, ?_, ?_, ?_, ?_, ?_, ?_, ?_, ?_, ?_, ?_,x_tab,x_exc,fun n C e=>PySem.W.mg_of X G e,⟨_,_,_,am_SowError,fm1_SowError,tm_SowError,Z5 (st:=Jd) lm_SowError cm_SowError km_SowError⟩,⟨_,_,_,am_BadBoard,fm1_BadBoard,tm_BadBoard,Z5 (st:=Je) lm_BadBoard cm_BadBoard km_BadBoard⟩,⟨_,_,_,am_BadPit,fm1_BadPit,tm_BadPit,Z5 (st:=J3) lm_BadPit cm_BadPit km_BadPit⟩,⟨_,_,_,am_NoSeeds,fm1_NoSeeds,tm_NoSeeds,Z5 (st:=Jn) lm_NoSeeds cm_NoSeeds km_NoSeeds⟩,⟨_,_,_,am_NoDeed,fm1_NoDeed,tm_NoDeed,Z5 (st:=J2) lm_NoDeed cm_NoDeed km_NoDeed⟩,⟨_,_,_,am_RingBook___init__,fm1_RingBook___init__,tm_RingBook___init__,Z5 (st:=Zl7) lm_RingBook___init__ cm_RingBook___init__ km_RingBook___init__⟩,⟨_,_,_,am_RingBook_board,fm1_RingBook_board,tm_RingBook_board,Z5 (st:=ZlF) lm_RingBook_board cm_RingBook_board km_RingBook_board⟩,⟨_,_,_,am_RingBook_plan,fm1_RingBook_plan,tm_RingBook_plan,Z5 (st:=ZlJ) lm_RingBook_plan cm_RingBook_plan km_RingBook_plan⟩,⟨_,_,_,am_RingBook_came_again,fm1_RingBook_came_again,tm_RingBook_came_again,Z5 (st:=Zl5) lm_RingBook_came_again cm_RingBook_came_again km_RingBook_came_again⟩,⟨_,_,_,am_RingBook_sown_in_all,fm1_RingBook_sown_in_all,tm_RingBook_sown_in_all,Z5 (st:=Zl4) lm_RingBook_sown_in_all cm_RingBook_sown_in_all km_RingBook_sown_in_all⟩,⟨_,_,_,am_RingBook___init___x,fm1_RingBook___init___x,tm_RingBook___init___x,Z5 (st:=Zl6) lm_RingBook___init___x cm_RingBook___init___x km_RingBook___init___x⟩,⟨_,_,_,am_RingBook_undo,fm1_RingBook_undo,tm_RingBook_undo,Z5 (st:=ZlH) lm_RingBook_undo cm_RingBook_undo km_RingBook_undo⟩,⟨_,_,_,am_RingBook_undo_x,fm1_RingBook_undo_x,tm_RingBook_undo_x,Z5 (st:=ZlB) lm_RingBook_undo_x cm_RingBook_undo_x km_RingBook_undo_x⟩,⟨_,_,_,am_RingBook_redo_x,fm1_RingBook_redo_x,tm_RingBook_redo_x,Z5 (st:=ZlC) lm_RingBook_redo_x cm_RingBook_redo_x km_RingBook_redo_x⟩,⟨_,_,_,am_RingBook_enter,fm1_RingBook_enter,tm_RingBook_enter,Z5 (st:=ZlE) lm_RingBook_enter cm_RingBook_enter km_RingBook_enter⟩,⟨_,_,_,am_RingBook_sow,fm1_RingBook_sow,tm_RingBook_sow,Z5 (st:=ZlM) lm_RingBook_sow cm_RingBook_sow km_RingBook_sow⟩,⟨_,_,_,am_RingBook_redo,fm1_RingBook_redo,tm_RingBook_redo,Z5 (st:=ZlI) lm_RingBook_redo cm_RingBook_redo km_RingBook_redo⟩,o_RingBook⟩
 ·exact⟨_,_,Z5 (st:=ZmJ) Zpa ZnY Zpc,PySem.W.mg_of X G Zpr⟩
 ·exact⟨_,_,Z5 (st:=Zmg) Znt ZmC Znv,PySem.W.mg_of X G Zn2⟩
 ·exact⟨_,_,Z5 (st:=Zmo) ZnL ZmL ZnO,PySem.W.mg_of X G Zoc⟩
 ·exact⟨_,_,Z5 (st:=Zm7) Zo0 Znn Zo2,PySem.W.mg_of X G ZoE⟩
 ·exact⟨_,_,Z5 (st:=ZlU) ZmT Zmm ZmV,PySem.W.mg_of X G Znb⟩
 ·exact⟨_,_,Z5 (st:=Zl9) Zmy ZlW Zmz,PySem.W.mg_of X G Zm2⟩
 ·exact⟨_,_,Z5 (st:=Zmn) ZnK ZmK ZnN,PySem.W.mg_of X G Zob⟩
 ·exact⟨_,_,Z5 (st:=Zm8) Zo1 Zno Zo3,PySem.W.mg_of X G ZoF⟩
 ·exact⟨_,_,Z5 (st:=Zmf) Zns Zmt Znu,PySem.W.mg_of X G Zn1⟩
 ·exact⟨_,_,Z5 (st:=Zmp) ZnM ZmM ZnP,PySem.W.mg_of X G Zod⟩
 ·exact⟨_,_,Z5 (st:=ZlV) ZmU Zm1 ZmW,PySem.W.mg_of X G Znc⟩
 ·exact⟨_,_,Z5 (st:=Znf) Zp2 Zou Zp3,PySem.W.mg_of X G ZpC⟩
 ·exact⟨_,_,Z5 (st:=Zmx) Zol ZmZ Zom,PySem.W.mg_of X G Zop⟩
 ·exact⟨_,_,Z5 (st:=ZlO) ZmP Zmu ZmQ,PySem.W.mg_of X G ZmS⟩
 ·exact⟨_,_,Z5 (st:=ZmI) ZoZ ZnX Zpb,PySem.W.mg_of X G Zpq⟩
 ·exact⟨_,_,Z5 (st:=ZoI) Zqg ZpK Zqh,PySem.W.mg_of X G Zqp⟩
 ·exact⟨_,_,Z5 (st:=ZlZ) Zng Zmc Znh,PySem.W.mg_of X G Znl⟩
 ·exact⟨_,_,Z5 (st:=ZpF) Zqx Zq0 Zqy,PySem.W.mg_of X G Zq1⟩
 ·exact⟨_,PySem.W.mg_of X G a_FEWEST_PITS⟩
 ·exact⟨_,PySem.W.mg_of X G a_MOST_PITS⟩
 ·exact PySem.W.mg_none_of X G z_ValueError
 ·exact PySem.W.mg_none_of X G z_all
 ·exact PySem.W.mg_none_of X G z_bool
 ·exact PySem.W.mg_none_of X G z_enumerate
 ·exact PySem.W.mg_none_of X G z_int
 ·exact PySem.W.mg_none_of X G z_isinstance
 ·exact PySem.W.mg_none_of X G z_len
 ·exact PySem.W.mg_none_of X G z_list
 ·exact PySem.W.mg_none_of X G z_range
 ·exact PySem.W.mg_none_of X G z_sorted
 ·exact PySem.W.mg_none_of X G z_sum
 ·exact PySem.W.mg_none_of X G z_tuple
end My
namespace PySem.W.Fast
noncomputable def tw13500736723376190464:=()
noncomputable def tw5489045313525009568:=()
noncomputable def tw14626731307289553056:=()
noncomputable def tw17661959072862213440:=()
noncomputable def tw11537828950353756544:=()
noncomputable def tw1431051329878726080:=()
noncomputable def tw15835604103829064128:=()
noncomputable def tw4359755661910481472:=()
noncomputable def tw10176417948363160160:=()
noncomputable def tw13098603482442227360:=()
noncomputable def tw14281521509715782464:=()
noncomputable def tw7109414453425043264:=()
noncomputable def tw15318547693480947809:=()
noncomputable def tw12675680273559192929:=()
noncomputable def tw14420237764845778337:=()
noncomputable def tw7550339426827756033:=()
noncomputable def tw5528018088051307265:=()
noncomputable def tw12284149940756210593:=()
noncomputable def tw5326371843182266402:=()
noncomputable def tw6667573245581559970:=()
noncomputable def tw13079133503682335042:=()
noncomputable def tw17707595696736251234:=()
noncomputable def tw17836359636767656482:=()
noncomputable def tw5651624232200780322:=()
noncomputable def tw18397575709902755394:=()
noncomputable def tw13050131659269327522:=()
noncomputable def tw17422828615308123970:=()
noncomputable def tw8311232798894525282:=()
noncomputable def tw2000631340927052738:=()
noncomputable def tw14344893528695575715:=()
noncomputable def tw18193585813903105379:=()
noncomputable def tw7731692774325421539:=()
noncomputable def tw4021579691640355331:=()
noncomputable def tw6527677198287975107:=()
noncomputable def tw5974760885644087075:=()
noncomputable def tw6301141016447088515:=()
noncomputable def tw17714207193149908867:=()
noncomputable def tw17811005099652285379:=()
noncomputable def tw9519045942772206660:=()
noncomputable def tw17151755666283711908:=()
noncomputable def tw13157029700170878468:=()
noncomputable def tw17692821295750282820:=()
noncomputable def tw17960951404628016740:=()
noncomputable def tw15596016127657004804:=()
noncomputable def tw9363026009939181348:=()
noncomputable def tw1423612398000263269:=()
noncomputable def tw11288760779646992517:=()
noncomputable def tw10314064260006006981:=()
noncomputable def tw9252767744217977061:=()
noncomputable def tw12562431529933986085:=()
noncomputable def tw16159380366444273413:=()
noncomputable def tw1011877751205183333:=()
noncomputable def tw5889709788391694245:=()
noncomputable def tw2766844517637201926:=()
noncomputable def tw1556805046397218982:=()
noncomputable def tw3644865953902981638:=()
noncomputable def tw4431353773003022886:=()
noncomputable def tw7262265382326545958:=()
noncomputable def tw12583583210294161958:=()
noncomputable def tw11993872334962159302:=()
noncomputable def tw1404148683112821542:=()
noncomputable def tw17333593026888826758:=()
noncomputable def tw4987932328231646439:=()
noncomputable def tw11805059636838589799:=()
noncomputable def tw643041253559352743:=()
noncomputable def tw5333427799589656231:=()
noncomputable def tw6795486547206919975:=()
noncomputable def tw311642955661590343:=()
noncomputable def tw12052026742166976391:=()
noncomputable def tw4167656032494553128:=()
noncomputable def tw17591005266398577832:=()
noncomputable def tw5913069714917381992:=()
noncomputable def tw14149419422451668105:=()
noncomputable def tw17520696724107646121:=()
noncomputable def tw14768591916735130121:=()
noncomputable def tw5654412303161613929:=()
noncomputable def tw4723554242295884521:=()
noncomputable def tw13953774808007889737:=()
noncomputable def tw11074667319618405225:=()
noncomputable def tw172062749202561929:=()
noncomputable def tw9575415984222413737:=()
noncomputable def tw8464260915789590730:=()
noncomputable def tw15429557307078762762:=()
noncomputable def tw1419679076523479370:=()
noncomputable def tw2100563261620145674:=()
noncomputable def tw7114396581280724586:=()
noncomputable def tw1525548247715671722:=()
noncomputable def tw17642975567830765482:=()
noncomputable def tw16290813001084840906:=()
noncomputable def tw17704967614824710475:=()
noncomputable def tw204412637411878283:=()
noncomputable def tw4314004227755629995:=()
noncomputable def tw14495761797840795243:=()
noncomputable def tw2125882508729414251:=()
noncomputable def tw4971828089915037355:=()
noncomputable def tw13509245456613766059:=()
noncomputable def tw131200520038476844:=()
noncomputable def tw2717024551665164428:=()
noncomputable def tw431483064791458988:=()
noncomputable def tw3468616345228183820:=()
noncomputable def tw7627188236263124300:=()
noncomputable def tw15193742920168538700:=()
noncomputable def tw14179400080491092652:=()
noncomputable def tw7051580873847552876:=()
noncomputable def tw15014642272203587629:=()
noncomputable def tw16395153774885251501:=()
noncomputable def tw7438537890738318765:=()
noncomputable def tw2399095698562152973:=()
noncomputable def tw744822746274827821:=()
noncomputable def tw18054253460089569965:=()
noncomputable def tw4749673461837226701:=()
noncomputable def tw4997464460175677133:=()
noncomputable def tw12350183743569198925:=()
noncomputable def tw11981468854135102381:=()
noncomputable def tw17616992243353166765:=()
noncomputable def tw5333228235663389677:=()
noncomputable def tw13350355933262988430:=()
noncomputable def tw11918514488927985870:=()
noncomputable def tw11390945070222617838:=()
noncomputable def tw6902541803111083534:=()
noncomputable def tw11541628919677669934:=()
noncomputable def tw10319223349086375566:=()
noncomputable def tw3426976896024641326:=()
noncomputable def tw540504936078023598:=()
noncomputable def tw15099173967871007023:=()
noncomputable def tw6860902204456930639:=()
noncomputable def tw6772326629280150127:=()
noncomputable def tw13729995559319833231:=()
noncomputable def tw2997120084223936367:=()
noncomputable def tw18284397263746586575:=()
noncomputable def tw5025345306104747088:=()
noncomputable def tw16665827215670620304:=()
noncomputable def tw16537497500417696976:=()
noncomputable def tw1148287820583331568:=()
noncomputable def tw10158378505010331697:=()
noncomputable def tw7957948133150266449:=()
noncomputable def tw2569851218337439281:=()
noncomputable def tw2789067628501499441:=()
noncomputable def tw13651480290520562289:=()
noncomputable def tw13456244070295152369:=()
noncomputable def tw11631022847120628689:=()
noncomputable def tw5737119088037935122:=()
noncomputable def tw16814516225849125938:=()
noncomputable def tw15664206038610900690:=()
noncomputable def tw1606340437450347442:=()
noncomputable def tw7579989351855415379:=()
noncomputable def tw3712961263851499827:=()
noncomputable def tw13527508025756803124:=()
noncomputable def tw2954738707886728276:=()
noncomputable def tw8426853815909269620:=()
noncomputable def tw1734315337307373876:=()
noncomputable def tw7027672229469796660:=()
noncomputable def tw4230083627072038196:=()
noncomputable def tw5807170914017889620:=()
noncomputable def tw15018849291667391892:=()
noncomputable def tw17045647442793626036:=()
noncomputable def tw118728766791774676:=()
noncomputable def tw18040608551243767252:=()
noncomputable def tw14520590629548331604:=()
noncomputable def tw8863724209265520244:=()
noncomputable def tw12573680072074543732:=()
noncomputable def tw8755259366111390516:=()
noncomputable def tw14083250646873790452:=()
noncomputable def tw4145338863276832756:=()
noncomputable def tw9869075271140316245:=()
noncomputable def tw317622705745831061:=()
noncomputable def tw5222752074517644469:=()
noncomputable def tw3830436890476314901:=()
noncomputable def tw6412107853416058133:=()
noncomputable def tw6968831809793706485:=()
noncomputable def tw14255638743828193941:=()
noncomputable def tw9172100771411968757:=()
noncomputable def tw15983867427282371509:=()
noncomputable def tw13667975407574830069:=()
noncomputable def tw9270014588547624022:=()
noncomputable def tw3309756091502201014:=()
noncomputable def tw625548138009663670:=()
noncomputable def tw8306325745789639926:=()
noncomputable def tw17719308090623943990:=()
noncomputable def tw15670970469189533046:=()
noncomputable def tw11110424977908772246:=()
noncomputable def tw2997216026700722582:=()
noncomputable def tw1983292292124726742:=()
noncomputable def tw15146061930620631510:=()
noncomputable def tw9084341110358248374:=()
noncomputable def tw10012632401331122327:=()
noncomputable def tw11506168186358170391:=()
noncomputable def tw3099287283117837303:=()
noncomputable def tw2423940072407263384:=()
noncomputable def tw9961041369695368504:=()
noncomputable def tw15048142012512813432:=()
noncomputable def tw18213708757786293944:=()
noncomputable def tw215350841033205496:=()
noncomputable def tw18130974422147235001:=()
noncomputable def tw318028966986467609:=()
noncomputable def tw3057108727236300121:=()
noncomputable def tw15651346830401087865:=()
noncomputable def tw12871066428672077433:=()
noncomputable def tw3902437816107453241:=()
noncomputable def tw12841909635470999385:=()
noncomputable def tw11622365173563715481:=()
noncomputable def tw9446416751478040505:=()
noncomputable def tw12726262484497976281:=()
noncomputable def tw1166391405287068730:=()
noncomputable def tw2527274373307913338:=()
noncomputable def tw2955962862409971898:=()
noncomputable def tw3696724481674969306:=()
noncomputable def tw1025743731737160954:=()
noncomputable def tw5135436331043124666:=()
noncomputable def tw16681692021565380090:=()
noncomputable def tw12789891366633937466:=()
noncomputable def tw11718501694774815322:=()
noncomputable def tw3637216403532924538:=()
noncomputable def tw18302626491525795642:=()
noncomputable def tw16983323105559188314:=()
noncomputable def tw4115371975157357723:=()
noncomputable def tw6861264381623195163:=()
noncomputable def tw2077075458353054459:=()
noncomputable def tw12327905151769017243:=()
noncomputable def tw11845643756853085244:=()
noncomputable def tw14581879721365027932:=()
noncomputable def tw14409791806386165948:=()
noncomputable def tw13336669519538962844:=()
noncomputable def tw9406907034555111996:=()
noncomputable def tw16997840150149724924:=()
noncomputable def tw12181898135555112796:=()
noncomputable def tw7761845896582495196:=()
noncomputable def tw12048361997073418333:=()
noncomputable def tw11767703673642667261:=()
noncomputable def tw15740967199056826685:=()
noncomputable def tw17342158409231601053:=()
noncomputable def tw16006299345015489021:=()
noncomputable def tw9822898410802085565:=()
noncomputable def tw15893888315486725981:=()
noncomputable def tw10113513256612956029:=()
noncomputable def tw10478838029233737725:=()
noncomputable def tw7196571281738120350:=()
noncomputable def tw2411093734433004894:=()
noncomputable def tw7534910892083589470:=()
noncomputable def tw13538766302582908542:=()
noncomputable def tw10978577147375131646:=()
noncomputable def tw14901831319358370975:=()
noncomputable def tw7169871101751841023:=()
noncomputable def tw4349046434687396127:=()
noncomputable def tw9339737634784807263:=()
noncomputable def tw12849546678512073087:=()
noncomputable def tw9889436973581624767:=()
noncomputable def tw8620892497684265439:=()
noncomputable def tw5486868221951888895:=()
noncomputable def tw11705375193258705567:=()
noncomputable def tw578302580225271583:=()
noncomputable def tw13285860208526243711:=()
noncomputable def tw8169111396937478015:=()
noncomputable def tw4431128722410898367:=()
noncomputable def tw13344398584328785988:=()
noncomputable def tw1441906341248512272:=()
noncomputable def tw7362252902478947561:=()
noncomputable def tw12482308051284058980:=()
noncomputable def tw17030418974919975404:=()
noncomputable def tw14806117232852462509:=()
noncomputable def tw63895714659456475:=()
end PySem.W.Fast
open PySem PySem.W PyProof.Rows
set_option maxRecDepth 100000 in
set_option maxHeartbeats 0 in
theorem PySem.Challenge.cw_sowring_k59_books_begun_holds : PySem.Challenge.rw_sowring_k59_books_begun.Holds := by
 w_on;o_law;k_head;(case hw=>w_witness2)
 k_fill
 refine L2.ZeX (l:=PySem.Challenge.rw_sowring_k59_books_begun) (n:=63) (k:=9) (x := "script") (CX:=L2.CX0) (sp:=My.Zdo) rfl (by decide) rfl ⟨rfl,by decide,by decide⟩ (fun w h Y=>by first|exact PySem.W.kIn_of Y|exact PySem.W.km_in_of Y) ?F ?S ?C
 case F =>
  intro w mg fa h KX G hmg
  have T:My.Txt (L2.KOf KX) mg:=by
   dsimp only[L2.KOf]
   refine' My.Zif KX G ?Zpr ?Zpa ?ZnY ?Zpc ?Zn2 ?Znt ?ZmC ?Znv ?Zoc ?ZnL ?ZmL ?ZnO ?ZoE ?Zo0 ?Znn ?Zo2 ?Znb ?ZmT ?Zmm ?ZmV ?Zm2 ?Zmy ?ZlW ?Zmz ?Zob ?ZnK ?ZmK ?ZnN ?ZoF ?Zo1 ?Zno ?Zo3 ?Zn1 ?Zns ?Zmt ?Znu ?Zod ?ZnM ?ZmM ?ZnP ?Znc ?ZmU ?Zm1 ?ZmW ?ZpC ?Zp2 ?Zou ?Zp3 ?Zop ?Zol ?ZmZ ?Zom ?ZmS ?ZmP ?Zmu ?ZmQ ?Zpq ?ZoZ ?ZnX ?Zpb ?Zqp ?Zqg ?ZpK ?Zqh ?Znl ?Zng ?Zmc ?Znh ?Zq1 ?Zqx ?Zq0 ?Zqy ?a_FEWEST_PITS ?a_MOST_PITS ?z_ValueError ?z_all ?z_bool ?z_enumerate ?z_int ?z_isinstance ?z_len ?z_list ?z_range ?z_sorted ?z_sum ?z_tuple ?x_tab ?x_exc ?am_SowError ?fm1_SowError ?tm_SowError ?lm_SowError ?cm_SowError ?km_SowError ?am_BadBoard ?fm1_BadBoard ?tm_BadBoard ?lm_BadBoard ?cm_BadBoard ?km_BadBoard ?am_BadPit ?fm1_BadPit ?tm_BadPit ?lm_BadPit ?cm_BadPit ?km_BadPit ?am_NoSeeds ?fm1_NoSeeds ?tm_NoSeeds ?lm_NoSeeds ?cm_NoSeeds ?km_NoSeeds ?am_NoDeed ?fm1_NoDeed ?tm_NoDeed ?lm_NoDeed ?cm_NoDeed ?km_NoDeed ?am_RingBook___init__ ?fm1_RingBook___init__ ?tm_RingBook___init__ ?lm_RingBook___init__ ?cm_RingBook___init__ ?km_RingBook___init__ ?am_RingBook_board ?fm1_RingBook_board ?tm_RingBook_board ?lm_RingBook_board ?cm_RingBook_board ?km_RingBook_board ?am_RingBook_plan ?fm1_RingBook_plan ?tm_RingBook_plan ?lm_RingBook_plan ?cm_RingBook_plan ?km_RingBook_plan ?am_RingBook_came_again ?fm1_RingBook_came_again ?tm_RingBook_came_again ?lm_RingBook_came_again ?cm_RingBook_came_again ?km_RingBook_came_again ?am_RingBook_sown_in_all ?fm1_RingBook_sown_in_all ?tm_RingBook_sown_in_all ?lm_RingBook_sown_in_all ?cm_RingBook_sown_in_all ?km_RingBook_sown_in_all ?am_RingBook___init___x ?fm1_RingBook___init___x ?tm_RingBook___init___x ?lm_RingBook___init___x ?cm_RingBook___init___x ?km_RingBook___init___x ?am_RingBook_undo ?fm1_RingBook_undo ?tm_RingBook_undo ?lm_RingBook_undo ?cm_RingBook_undo ?km_RingBook_undo ?am_RingBook_undo_x ?fm1_RingBook_undo_x ?tm_RingBook_undo_x ?lm_RingBook_undo_x ?cm_RingBook_undo_x ?km_RingBook_undo_x ?am_RingBook_redo_x ?fm1_RingBook_redo_x ?tm_RingBook_redo_x ?lm_RingBook_redo_x ?cm_RingBook_redo_x ?km_RingBook_redo_x ?am_RingBook_enter ?fm1_RingBook_enter ?tm_RingBook_enter ?lm_RingBook_enter ?cm_RingBook_enter ?km_RingBook_enter ?am_RingBook_sow ?fm1_RingBook_sow ?tm_RingBook_sow ?lm_RingBook_sow ?cm_RingBook_sow ?km_RingBook_sow ?am_RingBook_redo ?fm1_RingBook_redo ?tm_RingBook_redo ?lm_RingBook_redo ?cm_RingBook_redo ?km_RingBook_redo ?o_RingBook
   (case Zpr=>k_is)
   (case Zpa=>k_is)
   (case ZnY=>k_is)
   (case Zpc=>k_is)
   (case Zn2=>k_is)
   (case Znt=>k_is)
   (case ZmC=>k_is)
   (case Znv=>k_is)
   (case Zoc=>k_is)
   (case ZnL=>k_is)
   (case ZmL=>k_is)
   (case ZnO=>k_is)
   (case ZoE=>k_is)
   (case Zo0=>k_is)
   (case Znn=>k_is)
   (case Zo2=>k_is)
   (case Znb=>k_is)
   (case ZmT=>k_is)
   (case Zmm=>k_is)
   (case ZmV=>k_is)
   (case Zm2=>k_is)
   (case Zmy=>k_is)
   (case ZlW=>k_is)
   (case Zmz=>k_is)
   (case Zob=>k_is)
   (case ZnK=>k_is)
   (case ZmK=>k_is)
   (case ZnN=>k_is)
   (case ZoF=>k_is)
   (case Zo1=>k_is)
   (case Zno=>k_is)
   (case Zo3=>k_is)
   (case Zn1=>k_is)
   (case Zns=>k_is)
   (case Zmt=>k_is)
   (case Znu=>k_is)
   (case Zod=>k_is)
   (case ZnM=>k_is)
   (case ZmM=>k_is)
   (case ZnP=>k_is)
   (case Znc=>k_is)
   (case ZmU=>k_is)
   (case Zm1=>k_is)
   (case ZmW=>k_is)
   (case ZpC=>k_is)
   (case Zp2=>k_is)
   (case Zou=>k_is)
   (case Zp3=>k_is)
   (case Zop=>k_is)
   (case Zol=>k_is)
   (case ZmZ=>k_is)
   (case Zom=>k_is)
   (case ZmS=>k_is)
   (case ZmP=>k_is)
   (case Zmu=>k_is)
   (case ZmQ=>k_is)
   (case Zpq=>k_is)
   (case ZoZ=>k_is)
   (case ZnX=>k_is)
   (case Zpb=>k_is)
   (case Zqp=>k_is)
   (case Zqg=>k_is)
   (case ZpK=>k_is)
   (case Zqh=>k_is)
   (case Znl=>k_is)
   (case Zng=>k_is)
   (case Zmc=>k_is)
   (case Znh=>k_is)
   (case Zq1=>k_is)
   (case Zqx=>k_is)
   (case Zq0=>k_is)
   (case Zqy=>k_is)
   (case a_FEWEST_PITS=>k_is)
   (case a_MOST_PITS=>k_is)
   (case z_ValueError=>k_is)
   (case z_all=>k_is)
   (case z_bool=>k_is)
   (case z_enumerate=>k_is)
   (case z_int=>k_is)
   (case z_isinstance=>k_is)
   (case z_len=>k_is)
   (case z_list=>k_is)
   (case z_range=>k_is)
   (case z_sorted=>k_is)
   (case z_sum=>k_is)
   (case z_tuple=>k_is)
   (case x_tab=>kernel_rfl)
   (case x_exc=>kernel_rfl)
   (case am_SowError=>k_is)
   (case fm1_SowError=>k_is)
   (case tm_SowError=>k_is)
   (case lm_SowError=>k_is)
   (case cm_SowError=>k_is)
   (case km_SowError=>k_is)
   (case am_BadBoard=>k_is)
   (case fm1_BadBoard=>k_is)
   (case tm_BadBoard=>k_is)
   (case lm_BadBoard=>k_is)
   (case cm_BadBoard=>k_is)
   (case km_BadBoard=>k_is)
   (case am_BadPit=>k_is)
   (case fm1_BadPit=>k_is)
   (case tm_BadPit=>k_is)
   (case lm_BadPit=>k_is)
   (case cm_BadPit=>k_is)
   (case km_BadPit=>k_is)
   (case am_NoSeeds=>k_is)
   (case fm1_NoSeeds=>k_is)
   (case tm_NoSeeds=>k_is)
   (case lm_NoSeeds=>k_is)
   (case cm_NoSeeds=>k_is)
   (case km_NoSeeds=>k_is)
   (case am_NoDeed=>k_is)
   (case fm1_NoDeed=>k_is)
   (case tm_NoDeed=>k_is)
   (case lm_NoDeed=>k_is)
   (case cm_NoDeed=>k_is)
   (case km_NoDeed=>k_is)
   (case am_RingBook___init__=>k_is)
   (case fm1_RingBook___init__=>k_is)
   (case tm_RingBook___init__=>k_is)
   (case lm_RingBook___init__=>k_is)
   (case cm_RingBook___init__=>k_is)
   (case km_RingBook___init__=>k_is)
   (case am_RingBook_board=>k_is)
   (case fm1_RingBook_board=>k_is)
   (case tm_RingBook_board=>k_is)
   (case lm_RingBook_board=>k_is)
   (case cm_RingBook_board=>k_is)
   (case km_RingBook_board=>k_is)
   (case am_RingBook_plan=>k_is)
   (case fm1_RingBook_plan=>k_is)
   (case tm_RingBook_plan=>k_is)
   (case lm_RingBook_plan=>k_is)
   (case cm_RingBook_plan=>k_is)
   (case km_RingBook_plan=>k_is)
   (case am_RingBook_came_again=>k_is)
   (case fm1_RingBook_came_again=>k_is)
   (case tm_RingBook_came_again=>k_is)
   (case lm_RingBook_came_again=>k_is)
   (case cm_RingBook_came_again=>k_is)
   (case km_RingBook_came_again=>k_is)
   (case am_RingBook_sown_in_all=>k_is)
   (case fm1_RingBook_sown_in_all=>k_is)
   (case tm_RingBook_sown_in_all=>k_is)
   (case lm_RingBook_sown_in_all=>k_is)
   (case cm_RingBook_sown_in_all=>k_is)
   (case km_RingBook_sown_in_all=>k_is)
   (case am_RingBook___init___x=>k_is)
   (case fm1_RingBook___init___x=>k_is)
   (case tm_RingBook___init___x=>k_is)
   (case lm_RingBook___init___x=>k_is)
   (case cm_RingBook___init___x=>k_is)
   (case km_RingBook___init___x=>k_is)
   (case am_RingBook_undo=>k_is)
   (case fm1_RingBook_undo=>k_is)
   (case tm_RingBook_undo=>k_is)
   (case lm_RingBook_undo=>k_is)
   (case cm_RingBook_undo=>k_is)
   (case km_RingBook_undo=>k_is)
   (case am_RingBook_undo_x=>k_is)
   (case fm1_RingBook_undo_x=>k_is)
   (case tm_RingBook_undo_x=>k_is)
   (case lm_RingBook_undo_x=>k_is)
   (case cm_RingBook_undo_x=>k_is)
   (case km_RingBook_undo_x=>k_is)
   (case am_RingBook_redo_x=>k_is)
   (case fm1_RingBook_redo_x=>k_is)
   (case tm_RingBook_redo_x=>k_is)
   (case lm_RingBook_redo_x=>k_is)
   (case cm_RingBook_redo_x=>k_is)
   (case km_RingBook_redo_x=>k_is)
   (case am_RingBook_enter=>k_is)
   (case fm1_RingBook_enter=>k_is)
   (case tm_RingBook_enter=>k_is)
   (case lm_RingBook_enter=>k_is)
   (case cm_RingBook_enter=>k_is)
   (case km_RingBook_enter=>k_is)
   (case am_RingBook_sow=>k_is)
   (case fm1_RingBook_sow=>k_is)
   (case tm_RingBook_sow=>k_is)
   (case lm_RingBook_sow=>k_is)
   (case cm_RingBook_sow=>k_is)
   (case km_RingBook_sow=>k_is)
   (case am_RingBook_redo=>k_is)
   (case fm1_RingBook_redo=>k_is)
   (case tm_RingBook_redo=>k_is)
   (case lm_RingBook_redo=>k_is)
   (case cm_RingBook_redo=>k_is)
   (case km_RingBook_redo=>k_is)
   (case o_RingBook=>kernel_rfl)
  exact My.ZiG T hmg
 case S=>exact fun K H a ns hl hO hS=>My.Zed hl hO hS
 case C=>exact fun _ _ _ _ z=>z
