import PyProof.Rows.All
import Wide.All
import OpenK.AllK
import Wide.FinOn
import Lean
import PyProof.EqAt
import PyProof.EqKinds
import PyProof.TupleCall
import KE.KTryMore
import PyProof.NsDelKeeps
import PyProof.EnumStmt
import KE.KRevIter
import PyProof.ListNew
import KE.KIntText
import PyProof.ListRange
import PyProof.Rows.Range3
import PyProof.Rows.TupDisplay
import KE.KSortTup
import PyProof.StrBlock2
import PyProof.ExcInit
import PyProof.ExcClass2
import PySem.Challenge.RW_sowring_k18_plans_walked
set_option Elab.async false
set_option linter.all false
set_option maxRecDepth 100000
namespace L2
open PySem PySem.Spec PyProof.Rows
noncomputable abbrev Key:=Sum Int Str
noncomputable def keyIs:Key→Value→Bool
  | .inl k,v=>Value.isInt k v
  | .inr x,v=>Value.isStrOf x v
noncomputable def keyH (w:World):Key→Int
  | .inl k=>hashInt k
  | .inr x=>hashStr w x
theorem keyIs_shape:∀ {k:Key} {v:Value},keyIs k v=true→(∃ i t,k=Sum.inl i∧v=Value.int i t) ∨ (∃ x t,k=Sum.inr x∧v=Value.str x t)
  | .inl i,v,h=>by
    obtain ⟨t,e⟩:=Value.isInt_shape (k:=i) (v:=v) h
    exact .inl ⟨i,t,rfl,e⟩
  | .inr x,v,h=>by
    obtain ⟨t,e⟩:=Value.isStrOf_shape (x:=x) (v:=v) h
    exact .inr ⟨x,t,rfl,e⟩
theorem key_ll (a b:Int):decide ((Sum.inl a:Key)=Sum.inl b)=(a == b):=by
  by_cases e:a=b
  · subst e; simp
  · have h:¬ (Sum.inl a:Key)=Sum.inl b:=fun q=>e (Sum.inl.inj q)
    rw [decide_eq_false h]
    exact (beq_eq_false_iff_ne.mpr e).symm
theorem key_rr (a b:Str):decide ((Sum.inr a:Key)=Sum.inr b)=decide (a=b):=by
  by_cases e:a=b
  · subst e; simp
  · have h:¬ (Sum.inr a:Key)=Sum.inr b:=fun q=>e (Sum.inr.inj q)
    rw [decide_eq_false h,decide_eq_false e]
theorem key_lr (a:Int) (b:Str):decide ((Sum.inl a:Key)=Sum.inr b)=false:=decide_eq_false (fun q=>nomatch q)
theorem key_rl (a:Str) (b:Int):decide ((Sum.inr a:Key)=Sum.inl b)=false:=decide_eq_false (fun q=>nomatch q)
noncomputable def mixKind (prog:Program) (w:World):PySem.KeyKind prog w Key where
  is:=keyIs
  hash:=keyH w
  inj:=fun v a b ha hb=>by
    rcases keyIs_shape ha with ⟨i,t,rfl,rfl⟩ | ⟨x,t,rfl,rfl⟩
    · rcases keyIs_shape hb with ⟨j,u,rfl,e⟩ | ⟨y,u,rfl,e⟩
      · injection e with e1 _; rw [e1]
      · exact nomatch e
    · rcases keyIs_shape hb with ⟨j,u,rfl,e⟩ | ⟨y,u,rfl,e⟩
      · exact nomatch e
      · injection e with e1 _; rw [e1]
  byValue:=fun k v h=>by
    rcases keyIs_shape h with ⟨i,t,rfl,rfl⟩ | ⟨x,t,rfl,rfl⟩ <;> rfl
  pyHash:=fun hv h=>by
    rcases keyIs_shape hv with ⟨i,t,rfl,rfl⟩ | ⟨x,t,rfl,rfl⟩
    · exact wpAny_pyHash_int h
    · exact wpAny_pyHash_str h
  eqBool:=fun hu hv h=>by
    rcases keyIs_shape hu with ⟨i,t,rfl,rfl⟩ | ⟨x,t,rfl,rfl⟩
    · rcases keyIs_shape hv with ⟨j,u,rfl,rfl⟩ | ⟨y,u,rfl,rfl⟩
      · rw [key_ll] at h; exact wpAny_eqBool_int h
      · rw [key_lr] at h; exact SeqAt.EqAt.int_str i t y u _ _ _ _ h
    · rcases keyIs_shape hv with ⟨j,u,rfl,rfl⟩ | ⟨y,u,rfl,rfl⟩
      · rw [key_rl] at h; exact SeqAt.EqAt.str_int x t j u _ _ _ _ h
      · rw [key_rr] at h; exact wpAny_eqBool_str h
  «strs»:=fun k x t v h=>by
    rcases keyIs_shape h with ⟨i,u,rfl,e⟩ | ⟨y,u,rfl,e⟩
    · exact nomatch e
    · injection e with e1 _
      subst e1
      cases v <;> rfl
end L2
namespace L2
open PySem PySem.Spec PyProof.Rows
inductive V where
  | non | bl (b:Bool) | int (i:Int) | str (x:Str) | byt (b:Array UInt8) | flt (b:UInt64) | ref (a:Addr) | ty (n:String)
  deriving DecidableEq
noncomputable def RelV:V→Value→Prop
  | .non,u=>u=Value.none
  | .bl b,u=>u=Value.bool b
  | .int i,u=>∃ t,u=Value.int i t
  | .str x,u=>∃ t,u=Value.str x t
  | .byt b,u=>∃ t,u=Value.bytes b t
  | .flt b,u=>∃ t,u=Value.float b t
  | .ref a,u=>u=Value.ref a
  | .ty n,u=>u=Value.type n
noncomputable abbrev Vals:List V→List Value→Prop:=Paired RelV
theorem Vals.length {xs:List V} {us:List Value} (r:Vals xs us):xs.length=us.length:=Paired.length r
theorem Vals.get:∀ {xs:List V} {us:List Value} {i:Nat} {x:V},Vals xs us→xs[i]?=some x→∃ u,us[i]?=some u∧RelV x u
  | _,_,_,_,.nil,e=>by simp at e
  | _,_,0,_,.cons r _,e=>by simp at e; subst e; exact ⟨_,rfl,r⟩
  | _,_,i + 1,x,.cons _ t,e=>by
    obtain ⟨u,h1,h2⟩:=Vals.get (i:=i) (x:=x) t (by simpa using e)
    exact ⟨u,by simpa using h1,h2⟩
theorem Vals.set {x:V} {u:Value} (r:RelV x u):∀ {xs:List V} {us:List Value} (i:Nat),Vals xs us→Vals (xs.set i x) (us.set i u)
  | _,_,_,.nil=>.nil
  | _,_,0,.cons _ t=>.cons r t
  | _,_,i + 1,.cons q t=>.cons q (Vals.set r i t)
theorem Vals.append:∀ {xs ys:List V} {us ws:List Value},Vals xs us→Vals ys ws→Vals (xs ++ ys) (us ++ ws)
  | _,_,_,_,.nil,s=>s
  | _,_,_,_,.cons r t,s=>.cons r (Vals.append t s)
theorem Vals.take:∀ {xs:List V} {us:List Value} (n:Nat),Vals xs us→Vals (xs.take n) (us.take n)
  | _,_,0,_=>.nil
  | _,_,_ + 1,.nil=>.nil
  | _,_,n + 1,.cons r t=>.cons r (Vals.take n t)
theorem Vals.drop:∀ {xs:List V} {us:List Value} (n:Nat),Vals xs us→Vals (xs.drop n) (us.drop n)
  | _,_,0,r=>r
  | _,_,_ + 1,.nil=>.nil
  | _,_,n + 1,.cons _ t=>Vals.drop n t
noncomputable def RelO:Option V→Option Value→Prop
  | some v,some u=>RelV v u
  | none,none=>True
  | _,_=>False
noncomputable def KV {κ:Type}:List (κ × V)→List (κ × Value)→Prop:=Paired fun (p:κ × V) (q:κ × Value)=>p.1=q.1∧RelV p.2 q.2
noncomputable def kV:Key→V
  | .inl i=>.int i
  | .inr x=>.str x
inductive HO where
    | lst (xs:List V)
    | tup (xs:List V)
    | dK (kvs:List (Key × V)) | dT (kvs:List (List Key × V))
    | set (S:Int→Bool) (n:Nat)
    | ins (C dx:Addr) (fs:List (Str × V))
    | own (x:Addr)
    | xd (fs:List (Str × V))
    | met (f x:Addr)
    | rng (lo hi:Int)
    | frz (o:Obj) (u:HO)
    | tbl (ps:Array Value)
    | ext (φ:Heap→Prop)
noncomputable abbrev Hp:=Addr→Option HO
noncomputable def upd (H:Hp) (a:Addr) (o:HO):Hp:=fun b=>if b=a then some o else H b
theorem upd_same {H:Hp} {a:Addr} {o:HO}:upd H a o a=some o:=by unfold upd; rw [if_pos rfl]
theorem upd_ne {H:Hp} {a b:Addr} {o:HO} (h:b≠a):upd H a o b=H b:=by unfold upd; rw [if_neg h]
theorem ne_of {H:Hp} {a b:Addr} {o u:HO} (h:H a=some o) (h':H b=some u) (d:o≠u):a≠b:=by
  intro e; subst e; rw [h] at h'; exact d (Option.some.inj h')
theorem ne_of_none {H:Hp} {a b:Addr} {o:HO} (h:H a=some o) (h':H b=none):a≠b:=by
  intro e; subst e; rw [h] at h'; cases h'
section
variable (P:Program) (w:World)
noncomputable def ObjOk (H:Hp) (h:Heap) (a:Addr):HO→Prop
  | .lst xs=>xs.length≤sizeLine∧∃ (its:List Value) (n:Nat),Vals xs its∧h.get? a=some { cls:=.type "list",data:=.seq its.toArray n }
  | .tup xs=>xs.length≤sizeLine∧∃ its:List Value,Vals xs its∧IsTup h a its.toArray
  | .dK kvs=>kvs.length≤sizeLine∧(a == sysModules)=false∧∃ vs,KV kvs vs∧h.DictOf (mixKind P w) a vs
  | .dT kvs=>kvs.length≤sizeLine∧(a == sysModules)=false∧∃ xs:List (List Key × Addr × Value),
      Paired (fun (p:List Key × V) (q:List Key × Addr × Value)=>p.1=q.1∧H q.2.1=some (.tup (p.1.map kV))∧RelV p.2 q.2.2) kvs xs ∧
      ∃ o es ep,h.get? a=some o∧o.ExactDict∧o.data=.dict es ep∧es.toList=xs.map (entryOfKey (tupleKind (mixKind P w)))∧(xs.map (·.1)).Nodup
  | .set S n=>h.SetOf (intKind P w) a S n
  | .ins C dx fs=>H dx=some (.own a)∧fs.length≤1000∧dx≠a∧h.get? a=some (PySem.W.instObj C dx) ∧
      ∃ mA,h.Ns1 dx mA∧(∀ f,RelO (fs.lookup f) (mA f))∧PySem.Within mA (fs.map (·.1))
  | .own _=>∃ o,h.get? a=some o
  | .xd fs=>∃ mA,h.Ns1 a mA∧∀ f,RelO (fs.lookup f) (mA f)
  | .rng lo hi=>∃ t u v,h.get? a=some { cls:=.type "range",data:=.fields #[.int lo t,.int hi u,.int 1 v] }
  | .frz o u=>h.get? a=some o∧ObjOk H h a u
  | .tbl ps=>h.get? a=some { cls:=.none,data:=.fields ps }
  | .met f x=>h.get? a=some (PySem.W.methodObj (.ref f) (.ref x))
  | .ext φ=>φ h∧(∃ o,h.get? a=some o)∧∀ h1 h2:Heap,φ h1→(∀ o,h1.get? a=some o→h2.get? a=some o)→φ h2
noncomputable def HOk (H:Hp) (h:Heap):Prop:=∀ a o,H a=some o→ObjOk P w H h a o
end
section
variable {P:Program} {w:World} {H H':Hp} {h h':Heap} {a:Addr} {o:HO}
theorem ObjOk.lt (x:ObjOk P w H h a o):a < h.objs.size:=by
  cases o with
  | lst xs=>obtain ⟨_,_,_,_,e⟩:=x; exact Heap.lt_size e
  | tup xs=>obtain ⟨_,_,_,p⟩:=x; exact p.lt
  | dK kvs=>obtain ⟨_,_,_,_,o,_,_,e,_⟩:=x; exact Heap.lt_size e
  | dT kvs=>obtain ⟨_,_,_,_,o,_,_,e,_⟩:=x; exact Heap.lt_size e
  | set S n=>obtain ⟨o,_,_,_,e,_⟩:=x; exact Heap.lt_size e
  | ins C dx fs=>obtain ⟨_,_,_,e,_⟩:=x; exact Heap.lt_size e
  | own y=>obtain ⟨_,e⟩:=x; exact Heap.lt_size e
  | xd fs=>obtain ⟨_,⟨_,_,_,e,_⟩,_⟩:=x; exact Heap.lt_size e
  | rng lo hi=>obtain ⟨_,_,_,e⟩:=x; exact Heap.lt_size e
  | frz ob u=>obtain ⟨e,_⟩:=x; exact Heap.lt_size e
  | tbl ps=>exact Heap.lt_size (show h.get? a=some _ from x)
  | met f y=>exact Heap.lt_size (show h.get? a=some _ from x)
  | ext φ=>obtain ⟨_,⟨_,e⟩,_⟩:=x; exact Heap.lt_size e
theorem Paired.mapP {α β:Type} {F G:α→β→Prop}:∀ {l₁:List α} {l₂:List β},Paired F l₁ l₂→(∀ a b,F a b→G a b)→Paired G l₁ l₂
  | _,_,.nil,_=>.nil
  | _,_,.cons r t,f=>.cons (f _ _ r) (Paired.mapP t f)
theorem ObjOk.stay (x:ObjOk P w H h a o) (k:∀ b u,(b=a ∨ H b=some (.own a))→h.get? b=some u→h'.get? b=some u)
    (ho:∀ b,H b=some (.own a)→H' b=some (.own a)) (ht:∀ b xs,H b=some (.tup xs)→H' b=some (.tup xs)):ObjOk P w H' h' a o:=by
  induction o with
  | lst xs=>obtain ⟨z,its,n,r,e⟩:=x; exact ⟨z,its,n,r,k _ _ (.inl rfl) e⟩
  | tup xs=>obtain ⟨z,its,r,ob,e,c⟩:=x; exact ⟨z,its,r,ob,k _ _ (.inl rfl) e,c⟩
  | dK kvs=>obtain ⟨z,y,vs,r,ob,es,ep,e,c⟩:=x; exact ⟨z,y,vs,r,ob,es,ep,k _ _ (.inl rfl) e,c⟩
  | dT kvs =>
    obtain ⟨z,y,xs,r,ob,es,ep,e,c⟩:=x
    exact ⟨z,y,xs,Paired.mapP r fun p q z=>⟨z.1,ht _ _ z.2.1,z.2.2⟩,ob,es,ep,k _ _ (.inl rfl) e,c⟩
  | set S n=>obtain ⟨ob,es,ep,t,e,c⟩:=x; exact ⟨ob,es,ep,t,k _ _ (.inl rfl) e,c⟩
  | ins C dx fs =>
    obtain ⟨d,z,ne,e,mA,⟨od,es,ep,e2,c⟩,r⟩:=x
    exact ⟨ho _ d,z,ne,k _ _ (.inl rfl) e,mA,⟨od,es,ep,k _ _ (.inr d) e2,c⟩,r⟩
  | own y=>obtain ⟨ob,e⟩:=x; exact ⟨ob,k _ _ (.inl rfl) e⟩
  | xd fs=>obtain ⟨mA,⟨od,es,ep,e,c⟩,r⟩:=x; exact ⟨mA,⟨od,es,ep,k _ _ (.inl rfl) e,c⟩,r⟩
  | rng lo hi=>obtain ⟨t,u,v,e⟩:=x; exact ⟨t,u,v,k _ _ (.inl rfl) e⟩
  | frz ob u ih=>obtain ⟨e,q⟩:=x; exact ⟨k _ _ (.inl rfl) e,ih q⟩
  | tbl ps =>
    have e:h.get? a=some { cls:=.none,data:=.fields ps }:=x
    show h'.get? a=some { cls:=.none,data:=.fields ps }
    exact k a _ (.inl rfl) e
  | met f y =>
    have e:h.get? a=some (PySem.W.methodObj (.ref f) (.ref y)):=x
    show h'.get? a=some (PySem.W.methodObj (.ref f) (.ref y))
    exact k a _ (.inl rfl) e
  | ext φ=>obtain ⟨p,⟨o,e⟩,st⟩:=x; exact ⟨st _ _ p fun o q=>k _ _ (.inl rfl) q,⟨o,k _ _ (.inl rfl) e⟩,st⟩
theorem HOk.lt (x:HOk P w H h) (e:H a=some o):a < h.objs.size:=(x a o e).lt
theorem HOk.fresh (x:HOk P w H h) (e:h.objs.size≤a):H a=none:=by
  cases q:H a with
  | none=>rfl
  | some u=>exact absurd (Nat.lt_of_lt_of_le (x.lt q) e) (Nat.lt_irrefl _)
theorem HOk.kept (x:HOk P w H h) (k:∀ b u,h.get? b=some u→h'.get? b=some u):HOk P w H h':=fun a o e =>
  (x a o e).stay (fun b u _ q=>k b u q) (fun _ q=>q) fun _ _ q=>q
theorem HOk.laid (x:HOk P w H h) (k:∀ b u,h.get? b=some u→h'.get? b=some u) (hp:h.objs.size≤a) (new:ObjOk P w (upd H a o) h' a o):HOk P w (upd H a o) h':=fun b u e=>by
  have hn:=x.fresh hp
  by_cases hb:b=a
  · subst hb; rw [upd_same] at e; cases e; exact new
  · rw [upd_ne hb] at e
    exact (x b u e).stay (fun c v _ q=>k c v q) (fun c q=>by rw [upd_ne (ne_of_none q hn)]; exact q) fun c xs q=>by rw [upd_ne (ne_of_none q hn)]; exact q
end
noncomputable def Rd (H:Hp) (a:Addr) (u:HO):Prop:=H a=some u ∨ ∃ o,H a=some (.frz o u)
theorem Rd.ok {P:Program} {w:World} {H:Hp} {h:Heap} {a:Addr} {u:HO} (r:Rd H a u) (x:HOk P w H h):ObjOk P w H h a u:=by
  rcases r with r | ⟨o,r⟩
  · exact x a u r
  · obtain ⟨_,q⟩:=x a _ r
    exact q
noncomputable def Mut:Option HO→Prop
  | some (.lst _)=>True
  | some (.dK _)=>True
  | some (.dT _)=>True
  | some (.set _ _)=>True
  | some (.ins _ _ _)=>True
  | some (.ext _)=>True
  | _=>False
section
variable {P:Program} {w:World} {H:Hp} {h h':Heap} {x e:Addr} {o':HO}
theorem HOk.write (ok:HOk P w H h) (mu:Mut (H x)) (he:e=x ∨ H e=some (.own x)) (k:∀ b u,b≠e→h.get? b=some u→h'.get? b=some u) (heo:∃ u,h'.get? e=some u)
    (new:ObjOk P w (upd H x o') h' x o'):HOk P w (upd H x o') h':=fun b u q=>by
  have nown:∀ c y,H c=some (.own y)→c≠x:=fun c y r z=>by subst z; rw [r] at mu; exact mu
  have ntup:∀ c xs,H c=some (.tup xs)→c≠x:=fun c xs r z=>by subst z; rw [r] at mu; exact mu
  by_cases hb:b=x
  · subst hb; rw [upd_same] at q; cases q; exact new
  · rw [upd_ne hb] at q
    by_cases hbe:b=e
    · have q':H b=some (.own x):=by
        rcases he with z | z
        · exact absurd (hbe.trans z) hb
        · rw [hbe]; exact z
      rw [q] at q'; cases q'
      obtain ⟨v,hv⟩:=heo
      exact ⟨v,by rw [hbe]; exact hv⟩
    · refine (ok b u q).stay (fun c v hc r=>k c v ?_ r) (fun c r=>by rw [upd_ne (nown c b r)]; exact r) fun c xs r=>by rw [upd_ne (ntup c xs r)]; exact r
      rcases hc with rfl | hc
      · exact hbe
      · rintro rfl
        rcases he with z | z
        · exact nown c b hc z
        · rw [hc] at z; cases z; exact hb rfl
end
structure Un (fs ex:List Addr) (H H':Hp) (h h':Heap):Prop where
  keep:∀ b o,h.get? b=some o→H b=none→b ∉ fs→b ∉ ex→h'.get? b=some o
  slot:∀ b o,h.get? b=some o→H b=none→b∈fs→b ∉ ex→∃ sl,h'.get? b=some { o with slots:=sl }
  free:∀ b o,h.get? b=some o→H b=none→b ∉ ex→H' b=none
  there:∀ b o,h.get? b=some o→b ∉ ex→∃ o',h'.get? b=some o'
  tups:∀ b xs,H b=some (.tup xs)→H' b=some (.tup xs)
  frzs:∀ b o u,H b=some (.frz o u)→H' b=some (.frz o u)
  tbls:∀ b ps,H b=some (.tbl ps)→∃ more,H' b=some (.tbl (ps ++ more))
section
variable {fs fs' ex ex':List Addr} {H H1 H2:Hp} {h h1 h2 h':Heap} {a x e:Addr} {o:HO}
theorem Un.any (u:Un fs ex H H1 h h1) {b:Addr} {ob:Obj} (q:h.get? b=some ob) (n:H b=none) (hx:b ∉ ex):∃ sl,h1.get? b=some { ob with slots:=sl }:=by
  by_cases hb:b∈fs
  · exact u.slot b ob q n hb hx
  · exact ⟨ob.slots,u.keep b ob q n hb hx⟩
theorem Un.kept (k:∀ b u,h.get? b=some u→h'.get? b=some u):Un fs ex H H h h' :=
  ⟨fun b ob q _ _ _=>k b ob q,fun b ob q _ _ _=>⟨ob.slots,k b ob q⟩,fun _ _ _ n _=>n,fun b ob q _=>⟨ob,k b ob q⟩,fun _ _ q=>q,fun _ _ _ q=>q,fun _ ps q=>⟨#[],by rw [q]; simp⟩⟩
theorem Un.refl:Un fs ex H H h h:=Un.kept fun _ _ q=>q
theorem Un.laid (k:∀ b u,h.get? b=some u→h'.get? b=some u) (hp:h.objs.size≤a) (hn:H a=none):Un fs ex H (upd H a o) h h' where
  keep:=fun b u q _ _ _=>k b u q
  slot:=fun b u q _ _ _=>⟨u.slots,k b u q⟩
  free:=fun b u q n _=>by rw [upd_ne (Nat.ne_of_lt (Nat.lt_of_lt_of_le (Heap.lt_size q) hp))]; exact n
  there:=fun b u q _=>⟨u,k b u q⟩
  tups:=fun b xs q=>by rw [upd_ne (ne_of_none q hn)]; exact q
  frzs:=fun b u xs q=>by rw [upd_ne (ne_of_none q hn)]; exact q
  tbls:=fun b ps q=>⟨#[],by rw [upd_ne (ne_of_none q hn),q]; simp⟩
theorem Un.write (mu:Mut (H x)) (he:e=x ∨ H e=some (.own x)) (k:∀ b u,b≠e→h.get? b=some u→h'.get? b=some u) (heo:∃ u,h'.get? e=some u):Un fs ex H (upd H x o) h h':=by
  have hx:∀ b,H b=none→b≠x:=fun b n z=>by subst z; rw [n] at mu; exact mu
  have hb:∀ b,H b=none→b≠e:=fun b n z=>by
    subst z
    rcases he with r | r
    · exact hx b n r
    · rw [n] at r; cases r
  have hm:∀ b u,H b=some u→¬ Mut (some u)→b≠x:=fun b u q nm z=>by subst z; rw [q] at mu; exact nm mu
  refine ⟨fun b u q n _ _=>k b u (hb b n) q,fun b u q n _ _=>⟨u.slots,k b u (hb b n) q⟩,fun b u q n _=>by rw [upd_ne (hx b n)]; exact n,fun b u q _=>?_,
    fun b xs q=>by rw [upd_ne (hm b _ q fun z=>z)]; exact q,fun b u xs q=>by rw [upd_ne (hm b _ q fun z=>z)]; exact q,fun b ps q=>⟨#[],by rw [upd_ne (hm b _ q fun z=>z),q]; simp⟩⟩
  by_cases hbe:b=e
  · subst hbe; exact heo
  · exact ⟨u,k b u hbe q⟩
end
noncomputable def trk (h:Heap) (H:Hp):List Addr:=(List.range h.objs.size).filter fun a=>(H a).isSome
noncomputable def hidT (h:Heap) (H:Hp):Heap:=PySem.W.hideAll h (trk h H)
theorem hidT_size (h:Heap) (H:Hp):(hidT h H).objs.size=h.objs.size:=PySem.W.hideAll_size _ _
theorem hidT_get {h:Heap} {H:Hp} {b:Addr} {o:Obj} (e:h.get? b=some o) (n:H b=none):(hidT h H).get? b=some o :=
  PySem.W.hideAll_get _ e fun hm=>by
    have q:(H b).isSome=true:=(List.mem_filter.mp hm).2
    rw [n] at q; simp at q
theorem of_hidT {h:Heap} {H:Hp} {b:Addr} {o:Obj} (e:(hidT h H).get? b=some o):h.get? b=some o∧H b=none:=by
  have e':h.get? b=some o:=PySem.W.of_hideAll (trk h H) e
  refine ⟨e', ?_⟩
  cases q:H b with
  | none=>rfl
  | some x =>
    have hm:b∈trk h H:=List.mem_filter.mpr ⟨List.mem_range.mpr (Heap.lt_size e'),by simp [q]⟩
    have z:(hidT h H).get? b=none:=PySem.W.hideAll_none (trk h H) hm
    rw [z] at e; cases e
noncomputable def allNews (g h:Heap) (L:Addr):List (Addr × Obj):=(List.range h.objs.size).filterMap fun a=>if a=L ∨ (g.get? a).isSome=true then none else (h.get? a).map fun o=>(a,o)
noncomputable def rest (g h:Heap) (L d:Addr):List (Addr × Obj):=(allNews g h L).filter fun p=>decide (p.1≠d)
end L2
namespace L2
open PySem PySem.Spec PyProof.Rows
structure Mod (K:PySem.W.Frag) (mg:Str→Option Value) (base:Heap):Prop where
  kin:K.In base
  glob:base.Ns mainGlobals mg
  blt:∃ mb,base.Ns builtinsNs mb∧∀ x:Str,x ≠ "__name__"→mb x=bootBuiltins x
  nolimit:base.NoLimit
structure Cx where
  prog:Program
  w:World
  K:PySem.W.Frag
  mg:Str→Option Value
  base:Heap
  A:Around
  N:List Str
  s₀:Shared
  H₀:Hp
  env:Env
  outer:List Env
  stack:List Env
  ex:List Addr
  fn:Str→Bool
  calm:Bool
  pn:List (Addr × Obj)
  xe:Value→Shared→Prop
noncomputable def frs (l:List Env):List Addr:=l.filterMap (·.frame)
noncomputable abbrev Cx.fs (X:Cx):List Addr:=frs X.outer
noncomputable def Vis (sc:Scope) (x:Str):Prop:=sc.names.lookup x=some .local ∨ sc.names.lookup x=some .cell ∨ sc.names.lookup x=some .free
noncomputable def Loc (sc:Scope) (x:Str):Prop:=sc.names.lookup x=some .local ∨ sc.names.lookup x=some .cell
noncomputable def Look (env:Env) (h:Heap) (m:Str→Option Value) (x:Str) (u:Value):Prop :=
  (env.kindOf x=some .local∧m x=some u) ∨ ((env.kindOf x=some .cell ∨ env.kindOf x=some .free)∧∃ c,env.cells.lookup x=some c∧h.IsCell c (some u))
structure Cx.Ok (X:Cx):Prop where
  mod:Mod X.K X.mg X.base
  kind:X.env.scope.kind=.function
  glob:X.env.globals=mainGlobals
  blt:X.env.builtins=builtinsNs
  above:X.s₀.heap.objs.size≤X.env.locals
  inj:∀ x y c,X.env.cells.lookup x=some c→X.env.cells.lookup y=some c→x=y
  has:∀ x,(X.env.kindOf x=some .cell ∨ X.env.kindOf x=some .free)→∃ c,X.env.cells.lookup x=some c
  cab:∀ x c,X.fn x=true→X.env.cells.lookup x=some c→X.s₀.heap.objs.size≤c
  hd:X.calm=true→X.A.handled=none
  frames:X.A.frames=some X.stack
  stk:X.stack=X.outer ∨ (X.stack=X.env :: X.outer∧X.env.frame=some X.env.locals)
  exf:∀ b∈X.ex,b≠X.env.locals∧∀ x c,X.env.cells.lookup x=some c→c≠b
  bs:∀ b o,X.base.get? b=some o→X.s₀.heap.get? b=some o∧X.H₀ b=none
  bsz:X.base.objs.size≤X.s₀.heap.objs.size
  noex:∀ b o,X.base.get? b=some o→b ∉ X.ex
  exfs:∀ b∈X.ex,b ∉ X.fs
  funs:X.s₀.heap.FunFrames X.base X.outer
  frf:∀ b∈X.fs,X.H₀ b=none
structure Inv (X:Cx) (pins:List (Addr × Obj)) (σ:List (Option V)) (H:Hp) (s:Shared):Prop where
  ok:X.Ok
  os:s.os=X.s₀.os
  bare:AllBare s.gens
  base:Un X.fs X.ex X.H₀ H X.s₀.heap s.heap
  loc:∃ m,s.heap.Ns X.env.locals m∧∀ (i:Nat) (x:Str) (v:V),X.N[i]?=some x→σ[i]?=some (some v)→Vis X.env.scope x→∃ u,RelV v u∧Look X.env s.heap m x u
  cell:∀ x c,X.env.cells.lookup x=some c→∃ v,s.heap.IsCell c v
  free:H X.env.locals=none
  freeC:∀ x c,X.env.cells.lookup x=some c→H c=none
  pin:∀ p∈X.pn ++ pins,s.heap.get? p.1=some p.2∧H p.1=none∧p.1≠X.env.locals∧p.1 ∉ X.fs∧∀ v,p.2.data≠.cell v
  hok:HOk X.prog X.w H s.heap
  len:σ.length=X.N.length
section
variable {X:Cx} {pins:List (Addr × Obj)} {σ:List (Option V)} {H H':Hp} {s:Shared} {h':Heap}
theorem Cx.Ok.nofr (ok:X.Ok) {b:Addr} {o:Obj} (e:X.base.get? b=some o):b ∉ X.fs:=fun hb=>by
  have:=(ok.funs.mem hb).1
  rw [e] at this; cases this
theorem Inv.bs (I:Inv X pins σ H s):∀ b o,X.base.get? b=some o→s.heap.get? b=some o∧H b=none:=fun b o e =>
  ⟨I.base.keep b o (I.ok.bs b o e).1 (I.ok.bs b o e).2 (I.ok.nofr e) (I.ok.noex b o e),I.base.free b o (I.ok.bs b o e).1 (I.ok.bs b o e).2 (I.ok.noex b o e)⟩
theorem Inv.bk (I:Inv X pins σ H s):∀ b o,X.base.get? b=some o→s.heap.get? b=some o:=fun b o e=>(I.bs b o e).1
theorem Inv.mod (I:Inv X pins σ H s):Mod X.K X.mg X.base:=I.ok.mod
theorem Inv.kIn (I:Inv X pins σ H s):X.K.In s.heap:=I.ok.mod.kin.keeps I.bk
theorem Inv.lt (I:Inv X pins σ H s):X.env.locals < s.heap.objs.size:=let ⟨_,hn,_⟩:=I.loc; hn.lt
theorem Inv.sz (I:Inv X pins σ H s):X.s₀.heap.objs.size≤s.heap.objs.size:=Nat.le_trans I.ok.above (Nat.le_of_lt I.lt)
theorem Inv.nofs (I:Inv X pins σ H s) {a:Addr} (h:s.heap.objs.size≤a):a ∉ X.fs:=fun hb=>by
  obtain ⟨_,o,ho,_⟩:=I.ok.funs.mem hb
  exact absurd (Nat.lt_of_lt_of_le (Heap.lt_size ho) (Nat.le_trans I.sz h)) (Nat.lt_irrefl _)
theorem Inv.cne (I:Inv X pins σ H s):∀ x c,X.env.cells.lookup x=some c→c≠X.env.locals:=fun x c e z=>by
  obtain ⟨v,o,ho,hd⟩:=I.cell x c e
  obtain ⟨m,⟨o',es,ep,ho',hd',_⟩,_⟩:=I.loc
  rw [z,ho'] at ho; cases ho; rw [hd'] at hd; cases hd
theorem Inv.funs (I:Inv X pins σ H s):s.heap.FunFrames X.base X.outer:=by
  have all:∀ (l:List Env),(∀ b∈frs l,b∈X.fs)→X.s₀.heap.FunFrames X.base l→s.heap.FunFrames X.base l:=by
    intro l
    induction l with
    | nil=>intro _ _; trivial
    | cons env r ih =>
      intro hs hl
      obtain ⟨hk,⟨L,o,hf,hn,ho,hd⟩,hr⟩:=hl
      have hL:L∈X.fs:=hs L (by unfold frs; rw [List.filterMap_cons,hf]; exact List.mem_cons_self)
      obtain ⟨sl,e⟩:=I.base.slot L o ho (I.ok.frf L hL) hL fun z=>I.ok.exfs L z hL
      exact ⟨hk,⟨L,_,hf,hn,e,hd⟩,ih (fun b hb=>hs b (by unfold frs; rw [List.filterMap_cons,hf]; exact List.mem_cons_of_mem _ hb)) hr⟩
  exact all X.outer (fun _ hb=>hb) I.ok.funs
theorem Inv.stack (I:Inv X pins σ H s):s.heap.FunFrames X.base X.stack:=by
  rcases I.ok.stk with e | ⟨e,hf⟩
  · rw [e]; exact I.funs
  · rw [e]
    obtain ⟨m,hn,_⟩:=I.loc
    refine .cons (by rw [I.ok.kind]; decide) hf hn ?_ I.funs
    exact Heap.get?_none_of_le (Nat.le_trans I.ok.bsz I.ok.above)
theorem Inv.stkSub (I:Inv X pins σ H s):∀ b∈frs X.stack,b∈X.env.locals :: X.fs:=fun b hb=>by
  rcases I.ok.stk with e | ⟨e,hf⟩
  · rw [e] at hb; exact List.mem_cons_of_mem _ hb
  · rw [e] at hb
    unfold frs at hb
    rw [List.filterMap_cons,hf] at hb
    exact hb
theorem Inv.stkFree (I:Inv X pins σ H s):∀ b∈frs X.stack,H b=none:=fun b hb=>by
  rcases List.mem_cons.mp (I.stkSub b hb) with e | hb
  · rw [e]; exact I.free
  · obtain ⟨_,o,ho,_⟩:=I.ok.funs.mem hb
    exact I.base.free b o ho (I.ok.frf b hb) fun z=>I.ok.exfs b z hb
theorem Inv.step {g':Array GenState} {t':Nat} {d':Drawn} {ch:List Addr} (I:Inv X pins σ H s)
    (hch:∀ b∈ch,(b∈X.ex ∨ X.s₀.heap.objs.size≤b)∧b≠X.env.locals∧(∀ x c,X.env.cells.lookup x=some c→c≠b)∧∀ p∈X.pn ++ pins,p.1≠b)
    (keep:∀ b o,b≠X.env.locals→b ∉ X.fs→b ∉ ch→s.heap.get? b=some o→H b=none→h'.get? b=some o)
    (slot:∀ b o,b≠X.env.locals→b∈X.fs→b ∉ ch→s.heap.get? b=some o→H b=none→∃ sl,h'.get? b=some { o with slots:=sl }) (free:∀ b o,b ∉ ch→s.heap.get? b=some o→H b=none→H' b=none)
    (there:∀ b o,b ∉ ch→s.heap.get? b=some o→∃ o',h'.get? b=some o')
    (tups:∀ b xs,H b=some (.tup xs)→H' b=some (.tup xs)) (frzs:∀ b o u,H b=some (.frz o u)→H' b=some (.frz o u)) (tbls:∀ b ps,H b=some (.tbl ps)→∃ more,H' b=some (.tbl (ps ++ more)))
    (ns:∀ m,s.heap.Ns X.env.locals m→h'.Ns X.env.locals m) (hok:HOk X.prog X.w H' h') (hg:AllBare g') :
    Inv X pins σ H' { s with heap:=h',gens:=g',drawn:=d',toks:=t' }:=by
  have neL:∀ b o,X.s₀.heap.get? b=some o→b≠X.env.locals:=fun b o e=>Nat.ne_of_lt (Nat.lt_of_lt_of_le (Heap.lt_size e) I.ok.above)
  have neC:∀ b o,X.s₀.heap.get? b=some o→b ∉ X.ex→b ∉ ch:=fun b o e hx hb=>by
    rcases (hch b hb).1 with z | z
    · exact hx z
    · exact absurd (Nat.lt_of_lt_of_le (Heap.lt_size e) z) (Nat.lt_irrefl _)
  have cellK:∀ x c,X.env.cells.lookup x=some c→∀ v,s.heap.IsCell c v→h'.IsCell c v:=fun x c e v ⟨o,ho,hd⟩=>by
    have nch:c ∉ ch:=fun z=>(hch c z).2.2.1 x c e rfl
    by_cases hc:c∈X.fs
    · obtain ⟨sl,q⟩:=slot c o (I.cne x c e) hc nch ho (I.freeC x c e)
      exact ⟨_,q,hd⟩
    · exact ⟨o,keep c o (I.cne x c e) hc nch ho (I.freeC x c e),hd⟩
  refine ⟨I.ok,I.os,hg,⟨fun b o e n hb hx=>?_,fun b o e n hb hx=>?_,fun b o e n hx=>?_,fun b o e hx=>?_,fun b xs e=>tups b xs (I.base.tups b xs e),fun b o xs e=>frzs b o xs (I.base.frzs b o xs e),fun b ps e=>?_⟩, ?_,fun x c e=>?_, ?_,fun x c e=>?_,fun p hp=>?_,hok,I.len⟩
  · exact keep b o (neL b o e) hb (neC b o e hx) (I.base.keep b o e n hb hx) (I.base.free b o e n hx)
  · obtain ⟨sl,e1⟩:=I.base.slot b o e n hb hx
    obtain ⟨sl',e2⟩:=slot b _ (neL b o e) hb (neC b o e hx) e1 (I.base.free b o e n hx)
    exact ⟨sl',e2⟩
  · obtain ⟨o',e1⟩:=I.base.there b o e hx
    exact free b o' (neC b o e hx) e1 (I.base.free b o e n hx)
  · obtain ⟨o',e1⟩:=I.base.there b o e hx
    exact there b o' (neC b o e hx) e1
  · obtain ⟨m1,e1⟩:=I.base.tbls b ps e
    obtain ⟨m2,e2⟩:=tbls b _ e1
    exact ⟨m1 ++ m2,by rw [e2,Array.append_assoc]⟩
  · obtain ⟨m,hn,hl⟩:=I.loc
    refine ⟨m,ns m hn,fun i x v e1 e2 e3=>?_⟩
    obtain ⟨u,r,l⟩:=hl i x v e1 e2 e3
    refine ⟨u,r, ?_⟩
    rcases l with l | ⟨k,c,e,z⟩
    · exact .inl l
    · exact .inr ⟨k,c,e,cellK x c e _ z⟩
  · obtain ⟨v,z⟩:=I.cell x c e
    exact ⟨v,cellK x c e v z⟩
  · obtain ⟨m,⟨o,_,_,ho,_⟩,_⟩:=I.loc
    exact free _ o (fun z=>(hch _ z).2.1 rfl) ho I.free
  · obtain ⟨v,o,ho,hd⟩:=I.cell x c e
    exact free c o (fun z=>(hch c z).2.2.1 x c e rfl) ho (I.freeC x c e)
  · obtain ⟨e,n,ne,nf,d⟩:=I.pin p hp
    have nch:p.1 ∉ ch:=fun z=>(hch p.1 z).2.2.2 p hp rfl
    exact ⟨keep p.1 p.2 ne nf nch e n,free p.1 p.2 nch e n,ne,nf,d⟩
theorem Inv.un {t':Nat} (I:Inv X pins σ H s) (u:Un X.fs [] H H' s.heap h') (hok:HOk X.prog X.w H' h'):Inv X pins σ H' { s with heap:=h',toks:=t' }:=by
  obtain ⟨m,⟨o,es,ep,ho,r⟩,_⟩:=id I.loc
  obtain ⟨sl,hL⟩:=u.any ho I.free (by simp)
  exact I.step (g':=s.gens) (d':=s.drawn) (ch:=[]) (fun _ z=>nomatch z) (fun b o _ hb _ e n=>u.keep b o e n hb (by simp)) (fun b o _ hb _ e n=>u.slot b o e n hb (by simp)) (fun b o _ e n=>u.free b o e n (by simp)) (fun b o _ e=>u.there b o e (by simp)) u.tups u.frzs u.tbls (fun m' hm=>by
    obtain ⟨o',es',ep',ho',r'⟩:=hm
    rw [ho] at ho'; cases ho'
    exact ⟨_,es',ep',hL,r'⟩) hok I.bare
theorem Inv.call {g':Array GenState} {t':Nat} {d':Drawn} {ch:List Addr} (I:Inv X pins σ H s) (u:Un (frs X.stack) ch H H' s.heap h') (hok:HOk X.prog X.w H' h') (hg:AllBare g')
    (hch:∀ b∈ch,(b∈X.ex ∨ X.s₀.heap.objs.size≤b)∧b≠X.env.locals∧(∀ x c,X.env.cells.lookup x=some c→c≠b)∧∀ p∈X.pn ++ pins,p.1≠b) :
    Inv X pins σ H' { s with heap:=h',gens:=g',drawn:=d',toks:=t' }:=by
  obtain ⟨m,⟨o,es,ep,ho,r⟩,_⟩:=id I.loc
  obtain ⟨sl,hL⟩:=u.any ho I.free fun z=>(hch _ z).2.1 rfl
  exact I.step (ch:=ch) hch (fun b o hL hb hc e n=>u.keep b o e n (fun z=>(List.mem_cons.mp (I.stkSub b z)).elim hL hb) hc) (fun b o _ _ hc e n=>u.any e n hc) (fun b o hc e n=>u.free b o e n hc) (fun b o hc e=>u.there b o e hc) u.tups u.frzs u.tbls (fun m' hm=>by
    obtain ⟨o',es',ep',ho',r'⟩:=hm
    rw [ho] at ho'; cases ho'
    exact ⟨_,es',ep',hL,r'⟩) hok hg
theorem Inv.turned {t':Nat} {it:Addr} (I:Inv X pins σ H s) (k:∀ b o,b≠it→s.heap.get? b=some o→h'.get? b=some o) (hn:H it=none) (hL:it≠X.env.locals)
    (h1:it∈X.ex ∨ X.s₀.heap.objs.size≤it) (h2:∀ x c,X.env.cells.lookup x=some c→c≠it) (h3:∀ p∈X.pn ++ pins,p.1≠it):Inv X pins σ H { s with heap:=h',toks:=t' }:=by
  have nit:∀ b u,H b=some u→b≠it:=fun b u e z=>by rw [z,hn] at e; cases e
  refine I.step (g':=s.gens) (d':=s.drawn) (ch:=[it]) (fun b hb=>?_) (fun b o _ _ hc e _=>k b o (fun z=>hc (by simp [z])) e) (fun b o _ _ hc e _=>⟨o.slots,k b o (fun z=>hc (by simp [z])) e⟩) (fun _ _ _ _ n=>n)
    (fun b o hc e=>⟨o,k b o (fun z=>hc (by simp [z])) e⟩) (fun _ _ e=>e) (fun _ _ _ e=>e) (fun b ps e=>⟨#[],by rw [e]; simp⟩) (fun m hm=>?_) (fun b u e=>?_) I.bare
  · have e:b=it:=by simpa using hb
    subst e
    exact ⟨h1,hL,h2,h3⟩
  · obtain ⟨o,es,ep,ho,r⟩:=hm
    exact ⟨o,es,ep,k _ o (Ne.symm hL) ho,r⟩
  · refine (I.hok b u e).stay (fun c v hc q=>k c v ?_ q) (fun _ q=>q) fun _ _ q=>q
    rcases hc with z | z
    · rw [z]; exact nit b u e
    · exact nit c _ z
theorem Inv.tok (I:Inv X pins σ H s) (t:Nat):Inv X pins σ H { s with toks:=t }:=I.un (h':=s.heap) (t':=t) Un.refl I.hok
theorem Inv.kept {t':Nat} (I:Inv X pins σ H s) (k:∀ b u,s.heap.get? b=some u→h'.get? b=some u):Inv X pins σ H { s with heap:=h',toks:=t' }:=I.un (Un.kept k) (I.hok.kept k)
theorem Inv.laid {a:Addr} {o:HO} {t':Nat} (I:Inv X pins σ H s) (k:∀ b u,s.heap.get? b=some u→h'.get? b=some u) (hp:s.heap.objs.size≤a) (new:ObjOk X.prog X.w (upd H a o) h' a o) :
    Inv X pins σ (upd H a o) { s with heap:=h',toks:=t' }:=I.un (Un.laid k hp (I.hok.fresh hp)) (I.hok.laid k hp new)
theorem Inv.write {x e:Addr} {o:HO} {t':Nat} (I:Inv X pins σ H s) (mu:Mut (H x)) (he:e=x ∨ H e=some (.own x)) (k:∀ b u,b≠e→s.heap.get? b=some u→h'.get? b=some u) (heo:∃ u,h'.get? e=some u)
    (new:ObjOk X.prog X.w (upd H x o) h' x o):Inv X pins σ (upd H x o) { s with heap:=h',toks:=t' }:=I.un (Un.write mu he k heo) (I.hok.write mu he k heo new)
theorem Inv.pins_of {pins':List (Addr × Obj)} (I:Inv X pins σ H s) (h:∀ p∈pins',s.heap.get? p.1=some p.2∧H p.1=none∧p.1≠X.env.locals∧p.1 ∉ X.fs∧∀ v,p.2.data≠.cell v):Inv X pins' σ H s :=
  ⟨I.ok,I.os,I.bare,I.base,I.loc,I.cell,I.free,I.freeC,fun p hp=>(List.mem_append.mp hp).elim (fun z=>I.pin p (List.mem_append_left _ z)) (h p),I.hok,I.len⟩
theorem nodup_ix {N:List Str} (hN:N.Nodup) {i j:Nat} {x:Str} (a:N[i]?=some x) (b:N[j]?=some x):i=j:=by
  obtain ⟨h1,e1⟩:=List.getElem?_eq_some_iff.mp a
  obtain ⟨h2,e2⟩:=List.getElem?_eq_some_iff.mp b
  exact (List.getElem_inj hN).mp (e1.trans e2.symm)
theorem store_ok2 {M:Model} {A:Around} {E:Value→Shared→Prop} {i:Nat} {x:Str} {v:V} {u:Value} {Q:Unit→Shared→Prop} (I:Inv X pins σ H s) (hN:X.N.Nodup) (hi:X.N[i]?=some x) (hx:Loc X.env.scope x) (r:RelV v u)
    (h:∀ s',Inv X pins (σ.set i (some v)) H s'→(∃ a,Heap.SameBut a s.heap s'.heap∧(a=X.env.locals ∨ X.env.cells.lookup x=some a))→Q () s') (hf:X.fn x=true ∨ X.env.scope.names.lookup x=some .local):wpAny M A (storeName X.env x u) Q E s:=by
  obtain ⟨m,hn,hl⟩:=id I.loc
  have hcls:(X.env.scope.kind == .class || (X.env.scope.kind == .module && X.env.locals != X.env.globals))=false:=by rw [I.ok.kind]; rfl
  have hiσ:i < σ.length:=by rw [I.len]; exact (List.getElem?_eq_some_iff.mp hi).1
  have cne:=I.cne
  have tracked:∀ {a:Addr} {h':Heap},(∃ o,s.heap.get? a=some o∧H a=none)→Heap.SameBut a s.heap h'→HOk X.prog X.w H h':=fun {a h'} ha hs b ob e=>by
    obtain ⟨_,_,hfree⟩:=ha
    refine (I.hok b ob e).stay (fun c w' hc q=>(hs.2 c ?_).trans q) (fun _ q=>q) fun _ _ q=>q
    rintro rfl
    rcases hc with rfl | hc
    · rw [hfree] at e; cases e
    · rw [hfree] at hc; cases hc
  rcases hx with hk | hk
  · refine wpAny_storeName_local hk hn (fun h' hn' hs=>?_) hcls
    obtain ⟨oL,_,_,hoL,_⟩:=id hn
    refine h _ ⟨I.ok,I.os,I.bare,⟨fun b o e n hb hx=>?_,fun b o e n hb hx=>?_,I.base.free,fun b o e hx=>?_,I.base.tups,I.base.frzs,I.base.tbls⟩,⟨_,hn',fun j y v' e1 e2 e3=>?_⟩,fun y c e=>?_,I.free,I.freeC,fun p hp=>?_,tracked ⟨oL,hoL,I.free⟩ hs,by simpa using I.len⟩ ⟨_,hs,.inl rfl⟩
    · exact (hs.2 b (Nat.ne_of_lt (Nat.lt_of_lt_of_le (Heap.lt_size e) I.ok.above))).trans (I.base.keep b o e n hb hx)
    · obtain ⟨sl,e1⟩:=I.base.slot b o e n hb hx
      exact ⟨sl,(hs.2 b (Nat.ne_of_lt (Nat.lt_of_lt_of_le (Heap.lt_size e) I.ok.above))).trans e1⟩
    · obtain ⟨o',e1⟩:=I.base.there b o e hx
      exact ⟨o',(hs.2 b (Nat.ne_of_lt (Nat.lt_of_lt_of_le (Heap.lt_size e) I.ok.above))).trans e1⟩
    · by_cases hj:j=i
      · subst hj
        rw [hi] at e1; cases e1
        rw [List.getElem?_set_self hiσ] at e2
        cases e2
        exact ⟨u,r,.inl ⟨hk,by simp⟩⟩
      · rw [List.getElem?_set_ne (Ne.symm hj)] at e2
        obtain ⟨u',r',q⟩:=hl j y v' e1 e2 e3
        refine ⟨u',r', ?_⟩
        rcases q with ⟨k,e⟩ | ⟨k,c,e,z⟩
        · refine .inl ⟨k, ?_⟩
          have:y≠x:=fun e=>hj (nodup_ix hN e1 (e ▸ hi))
          simp [this,e]
        · exact .inr ⟨k,c,e,z.sameBut hs (cne y c e)⟩
    · obtain ⟨w',z⟩:=I.cell y c e
      exact ⟨w',z.sameBut hs (cne y c e)⟩
    · obtain ⟨e,n,ne,nf,d⟩:=I.pin p hp
      exact ⟨(hs.2 p.1 ne).trans e,n,ne,nf,d⟩
  · have hfn:X.fn x=true:=by
      rcases hf with z | z
      · exact z
      · rw [z] at hk; cases hk
    obtain ⟨c,hc⟩:=I.ok.has x (.inl hk)
    obtain ⟨w',z⟩:=I.cell x c hc
    refine wpAny_storeName_cell I.ok.kind hk hc z (fun h' hc' hs=>?_)
    obtain ⟨oc,hoc,hocd⟩:=id z
    refine h { s with heap:=h' } ⟨I.ok,I.os,I.bare,⟨fun b o e n hb hx=>?_,fun b o e n hb hx=>?_,I.base.free,fun b o e hx=>?_,I.base.tups,I.base.frzs,I.base.tbls⟩,⟨m,hn.sameBut hs (Ne.symm (cne x c hc)),fun j y v' e1 e2 e3=>?_⟩,fun y c' e=>?_,I.free,I.freeC,fun p hp=>?_,tracked ⟨oc,hoc,I.freeC x c hc⟩ hs,by simpa using I.len⟩ ⟨c,hs,.inr hc⟩
    · exact (hs.2 b (Nat.ne_of_lt (Nat.lt_of_lt_of_le (Heap.lt_size e) (I.ok.cab x c hfn hc)))).trans (I.base.keep b o e n hb hx)
    · obtain ⟨sl,e1⟩:=I.base.slot b o e n hb hx
      exact ⟨sl,(hs.2 b (Nat.ne_of_lt (Nat.lt_of_lt_of_le (Heap.lt_size e) (I.ok.cab x c hfn hc)))).trans e1⟩
    · obtain ⟨o',e1⟩:=I.base.there b o e hx
      exact ⟨o',(hs.2 b (Nat.ne_of_lt (Nat.lt_of_lt_of_le (Heap.lt_size e) (I.ok.cab x c hfn hc)))).trans e1⟩
    · by_cases hj:j=i
      · subst hj
        rw [hi] at e1; cases e1
        rw [List.getElem?_set_self hiσ] at e2
        cases e2
        exact ⟨u,r,.inr ⟨.inl hk,c,hc,hc'⟩⟩
      · rw [List.getElem?_set_ne (Ne.symm hj)] at e2
        obtain ⟨u',r',q⟩:=hl j y v' e1 e2 e3
        refine ⟨u',r', ?_⟩
        rcases q with q | ⟨k,c',e,z'⟩
        · exact .inl q
        · refine .inr ⟨k,c',e,z'.sameBut hs ?_⟩
          rintro rfl
          exact hj (nodup_ix hN e1 (I.ok.inj _ _ _ e hc ▸ hi))
    · by_cases hcc:c'=c
      · subst hcc; exact ⟨_,hc'⟩
      · obtain ⟨w2,z2⟩:=I.cell y c' e
        exact ⟨w2,z2.sameBut hs hcc⟩
    · obtain ⟨e,n,ne,nf,d⟩:=I.pin p hp
      refine ⟨(hs.2 p.1 ?_).trans e,n,ne,nf,d⟩
      intro q
      rw [q,hoc] at e
      have q':oc=p.2:=Option.some.inj e
      exact d w' (by rw [← q']; exact hocd)
theorem store_ok {M:Model} {A:Around} {E:Value→Shared→Prop} {i:Nat} {x:Str} {v:V} {u:Value} {Q:Unit→Shared→Prop} (I:Inv X pins σ H s) (hN:X.N.Nodup) (hi:X.N[i]?=some x) (hx:Loc X.env.scope x) (r:RelV v u)
    (h:∀ s',Inv X pins (σ.set i (some v)) H s'→Q () s') (hf:X.fn x=true ∨ X.env.scope.names.lookup x=some .local):wpAny M A (storeName X.env x u) Q E s :=
  store_ok2 I hN hi hx r (fun s' I' _=>h s' I') hf
theorem Inv.call' {s':Shared} {ch:List Addr} (I:Inv X pins σ H s) (ho:s'.os=s.os) (u:Un (frs X.stack) ch H H' s.heap s'.heap) (hok:HOk X.prog X.w H' s'.heap) (hg:AllBare s'.gens)
    (hch:∀ b∈ch,(b∈X.ex ∨ X.s₀.heap.objs.size≤b)∧b≠X.env.locals∧(∀ x c,X.env.cells.lookup x=some c→c≠b)∧∀ p∈X.pn ++ pins,p.1≠b):Inv X pins σ H' s':=by
  obtain ⟨h',g',d',t',o'⟩:=s'
  have e:o'=s.os:=ho
  subst e
  exact I.call (g':=g') (t':=t') (d':=d') u hok hg hch
end
noncomputable abbrev XK:=Value→Option Addr→Hp→Prop
noncomputable abbrev St:=List (Option V)
noncomputable abbrev VK:=V→Hp→Prop
noncomputable abbrev TE:=St→Hp→VK→Prop
noncomputable abbrev TT:=St→Hp→(Bool→Hp→Prop)→Prop
noncomputable abbrev TA:=St→Hp→(List V→Hp→Prop)→Prop
structure Ends where
  nx:St→Hp→Prop
  rt:VK
  bk:St→Hp→Prop:=fun _ _=>False
  ct:St→Hp→Prop:=fun _ _=>False
noncomputable abbrev TS:=Ends→St→Hp→Prop
noncomputable def EP (X:Cx) (pins:List (Addr × Obj)) (σ:St) (Q:VK) (u:Value) (s':Shared):Prop:=∃ v H',Inv X pins σ H' s'∧RelV v u∧Q v H'
noncomputable def TP (X:Cx) (pins:List (Addr × Obj)) (σ:St) (Q:Bool→Hp→Prop) (b:Bool) (s':Shared):Prop:=∃ H',Inv X pins σ H' s'∧Q b H'
noncomputable def AP (X:Cx) (pins:List (Addr × Obj)) (σ:St) (Q:List V→Hp→Prop) (us:List Value) (s':Shared):Prop:=∃ vs H',Inv X pins σ H' s'∧Vals vs us∧Q vs H'
noncomputable def SP (X:Cx) (pins:List (Addr × Obj)) (D:Ends) (f:Flow) (s':Shared):Prop :=
  match f with
  | .next=>∃ σ' H',Inv X pins σ' H' s'∧D.nx σ' H'
  | .brk=>∃ σ' H',Inv X pins σ' H' s'∧D.bk σ' H'
  | .cont=>∃ σ' H',Inv X pins σ' H' s'∧D.ct σ' H'
  | .ret u=>∃ v σ' H',Inv X pins σ' H' s'∧RelV v u∧D.rt v H'
noncomputable def PE (X:Cx) (e:Expr) (t:TE):Prop :=
  ∀ (pins:List (Addr × Obj)) (s:Shared) (σ:St) (H:Hp) (Q:VK),Inv X pins σ H s→t σ H Q→wpAny (model X.prog X.w) X.A (eval e X.env) (EP X pins σ Q) X.xe s
noncomputable def PT (X:Cx) (e:Expr) (t:TT):Prop :=
  ∀ (pins:List (Addr × Obj)) (s:Shared) (σ:St) (H:Hp) (Q:Bool→Hp→Prop),Inv X pins σ H s→t σ H Q→wpAny (model X.prog X.w) X.A (isTrue e X.env (eval e X.env)) (TP X pins σ Q) X.xe s
noncomputable def PW (X:Cx) (e:Expr) (t:TT):Prop :=
  ∀ (whole:Sem Value) (pins:List (Addr × Obj)) (s:Shared) (σ:St) (H:Hp) (Q:Bool→Hp→Prop),Inv X pins σ H s→t σ H Q→wpAny (model X.prog X.w) X.A (isTrue e X.env whole) (TP X pins σ Q) X.xe s
theorem PW.pt {X:Cx} {e:Expr} {t:TT} (h:PW X e t):PT X e t:=h _
noncomputable def PA (X:Cx) (es:List Expr) (t:TA):Prop :=
  ∀ (pos:Pos) (pins:List (Addr × Obj)) (s:Shared) (σ:St) (H:Hp) (Q:List V→Hp→Prop),Inv X pins σ H s→t σ H Q→wpAny (model X.prog X.w) X.A (spliced (backTo pos (starEach es X.env))) (AP X pins σ Q) X.xe s
noncomputable def PS (X:Cx) (st:Stmt) (t:TS):Prop :=
  ∀ (pins:List (Addr × Obj)) (s:Shared) (σ:St) (H:Hp) (D:Ends),Inv X pins σ H s→t D σ H→wpAny (model X.prog X.w) X.A (exec st X.env) (SP X pins D) X.xe s
noncomputable def PSs (X:Cx) (st:List Stmt) (t:TS):Prop :=
  ∀ (pins:List (Addr × Obj)) (s:Shared) (σ:St) (H:Hp) (D:Ends),Inv X pins σ H s→t D σ H→wpAny (model X.prog X.w) X.A (execs st X.env) (SP X pins D) X.xe s
theorem thn {α:Type} {t:Sem α} {Q Q':α→Shared→Prop} {M:Model} {A:Around} {E:Value→Shared→Prop} {s:Shared} (h:wpAny M A t Q E s) (hQ:∀ a s,Q a s→Q' a s):wpAny M A t Q' E s:=wpAny_mono h hQ fun _ _ x=>x
end L2
namespace L2
open PySem PySem.Spec PyProof.Rows
section
variable {X:Cx}
noncomputable def tVar (i:Nat):TE:=fun σ H Q=>∃ v,σ[i]?=some (some v)∧Q v H
noncomputable def tC (v:V):TE:=fun _ H Q=>Q v H
theorem pe_var {i:Nat} {x:Str} {pos:Pos} (hN:X.N[i]?=some x) (hv:Vis X.env.scope x) (hd:(x == ("__debug__":Str))=false:=by decide) (hcd:(x == ("__classdict__":Str))=false:=by decide):PE X (.Name x pos) (tVar i):=by
  intro pins s σ H Q I h
  obtain ⟨v,e,h⟩:=h
  obtain ⟨m,hn,hl⟩:=I.loc
  obtain ⟨u,r,l⟩:=hl i x v hN e hv
  have fin:EP X pins σ Q u s:=⟨v,H,I,r,h⟩
  rcases l with ⟨hk,hm⟩ | ⟨hk,c,hc,hcell⟩
  · exact wpAny_Name (wpAny_loadName_local I.ok.kind hk hn hm fin) hd
  · rcases hk with hk | hk
    · exact wpAny_Name (wpAny_loadName_cell I.ok.kind hk hc hcell fin) hd
    · exact wpAny_Name (wpAny_loadName_free I.ok.kind hk hc hcell fin hcd) hd
theorem pe_int {i j pos}:PE X (.Constant (.int i) j pos) (tC (.int i)):=fun _ _ _ H _ I h=>wpAny_Constant_int ⟨.int i,H,I.tok _,⟨_,rfl⟩,h⟩
theorem pe_bl {b j pos}:PE X (.Constant (.bool b) j pos) (tC (.bl b)):=fun _ _ _ H _ I h=>Constant_bool ⟨.bl b,H,I,rfl,h⟩
theorem pe_non {j pos}:PE X (.Constant .none j pos) (tC .non):=fun _ _ _ H _ I h=>Constant_none ⟨.non,H,I,rfl,h⟩
theorem pe_str {x j pos}:PE X (.Constant (.str x) j pos) (tC (.str x)):=fun _ _ _ H _ I h=>Calls.Constant_str ⟨.str x,H,I.tok _,⟨_,rfl⟩,h⟩
noncomputable def Gl (X:Cx) (x:Str):Prop:=X.env.kindOf x=some .globalImplicit
theorem ld_glob {E:Value→Shared→Prop} {pins:List (Addr × Obj)} {s:Shared} {σ:St} {H:Hp} {x:Str} {u:Value} {pos:Pos} {Q:Value→Shared→Prop} (I:Inv X pins σ H s) (hg:Gl X x) (hm:X.mg x=some u) (h:Q u s)
    (hd:(x == ("__debug__":Str))=false:=by decide):wpAny (model X.prog X.w) X.A (eval (.Name x pos) X.env) Q E s :=
  Calls.Name_function_global I.ok.kind hg (Calls.loadGlobal_global (by rw [I.ok.glob]; exact I.mod.glob.keeps I.bk) hm h) hd
theorem ld_blt {E:Value→Shared→Prop} {pins:List (Addr × Obj)} {s:Shared} {σ:St} {H:Hp} {x:Str} {u:Value} {pos:Pos} {Q:Value→Shared→Prop} (I:Inv X pins σ H s) (hg:Gl X x) (hm:X.mg x=none) (hv:bootBuiltins x=some u) (h:Q u s)
    (hn:x ≠ "__name__":=by decide) (hd:(x == ("__debug__":Str))=false:=by decide):wpAny (model X.prog X.w) X.A (eval (.Name x pos) X.env) Q E s:=by
  obtain ⟨mb,h1,h2⟩:=I.mod.blt
  exact Calls.Name_function_global I.ok.kind hg (Calls.loadGlobal_builtin (by rw [I.ok.glob]; exact I.mod.glob.keeps I.bk) hm (by rw [I.ok.blt]; exact h1.keeps I.bk) ((h2 x hn).trans hv) h) hd
theorem pe_glob {x:Str} {v:V} {u:Value} {pos:Pos} (hg:Gl X x) (hm:X.mg x=some u) (r:RelV v u) (hd:(x == ("__debug__":Str))=false:=by decide):PE X (.Name x pos) (tC v) :=
  fun _ _ _ H _ I h=>ld_glob I hg hm ⟨v,H,I,r,h⟩ hd
theorem pe_bltn {x:Str} {v:V} {u:Value} {pos:Pos} (hg:Gl X x) (hm:X.mg x=none) (hv:bootBuiltins x=some u) (r:RelV v u) (hn:x ≠ "__name__":=by decide) (hd:(x == ("__debug__":Str))=false:=by decide):PE X (.Name x pos) (tC v) :=
  fun _ _ _ H _ I h=>ld_blt I hg hm hv ⟨v,H,I,r,h⟩ hn hd
variable {a b:Expr} {ta tb:TE} {pos:Pos}
noncomputable def tB (t:TE):TT:=fun σ H Q=>t σ H fun x H1=>∃ c,x=.bl c∧Q c H1
theorem pt_val {e:Expr} {t:TE} (h:PE X e t) (he:∀ whole,isTrue e X.env whole=(do let v ← whole; standAt e.pos; holding [v] (truthy v)):=by exact fun _=>rfl):PT X e (tB t):=by
  intro pins s σ H Q I hw
  refine isTrue_plain (thn (h pins s σ H _ I hw) fun v s1 ⟨x,H1,I1,r1,q1⟩=>?_) (he _)
  obtain ⟨d,rfl,q⟩:=q1
  cases r1
  exact wpAny_truthy_bool ⟨H1,I1,q⟩
variable {tA tB':TT} {rest:List Expr}
noncomputable def tAnd (t u:TT):TT:=fun σ H Q=>t σ H fun c H1=>if c=true then u σ H1 Q else Q false H1
noncomputable def tOr (t u:TT):TT:=fun σ H Q=>t σ H fun c H1=>if c=true then Q true H1 else u σ H1 Q
noncomputable def tNot (t:TT):TT:=fun σ H Q=>t σ H fun c H1=>Q (!c) H1
theorem pw_and1 (ha:PT X a tA):PW X (.BoolOp .And [a] pos) tA:=by
  intro wh pins s σ H Q I h
  refine isTrue_and (thn (ha pins s σ H Q I h) fun c s1 e=>?_)
  cases c with
  | true=>exact isTrue_and_nil e
  | false=>exact e
theorem pw_or1 (ha:PT X a tA):PW X (.BoolOp .Or [a] pos) tA:=by
  intro wh pins s σ H Q I h
  refine isTrue_or (thn (ha pins s σ H Q I h) fun c s1 e=>?_)
  cases c with
  | false=>exact isTrue_or_nil e
  | true=>exact e
theorem pw_and (ha:PT X a tA) (hb:PW X (.BoolOp .And (b :: rest) pos) tB'):PW X (.BoolOp .And (a :: b :: rest) pos) (tAnd tA tB'):=by
  intro wh pins s σ H Q I h
  refine isTrue_and (thn (ha pins s σ H _ I h) fun c s1 ⟨H1,I1,q1⟩=>?_)
  cases c with
  | true=>exact hb wh pins s1 σ H1 Q I1 q1
  | false=>exact ⟨H1,I1,q1⟩
theorem pw_or (ha:PT X a tA) (hb:PW X (.BoolOp .Or (b :: rest) pos) tB'):PW X (.BoolOp .Or (a :: b :: rest) pos) (tOr tA tB'):=by
  intro wh pins s σ H Q I h
  refine isTrue_or (thn (ha pins s σ H _ I h) fun c s1 ⟨H1,I1,q1⟩=>?_)
  cases c with
  | true=>exact ⟨H1,I1,q1⟩
  | false=>exact hb wh pins s1 σ H1 Q I1 q1
theorem pt_not (ha:PT X a tA):PT X (.UnaryOp .Not a pos) (tNot tA):=by
  intro pins s σ H Q I h
  exact isTrue_not (ha pins s σ H (fun c H1=>Q (!c) H1) I h)
noncomputable def tAndV (ta tb:TE):TE:=fun σ H Q=>ta σ H fun x H1=>∃ c,x=.bl c∧if c=true then tb σ H1 Q else Q (.bl false) H1
noncomputable def tNotV (ta:TE):TE:=fun σ H Q=>ta σ H fun x H1=>∃ c,x=.bl c∧Q (.bl (!c)) H1
theorem pe_one {op} {t:TE} (h:PE X a t):PE X (.BoolOp op [a] pos) t:=fun pins s σ H Q I hw=>BoolOp_one (h pins s σ H Q I hw)
theorem pe_and (ha:PE X a ta) (hb:PE X (.BoolOp .And (b :: rest) pos) tb):PE X (.BoolOp .And (a :: b :: rest) pos) (tAndV ta tb):=by
  intro pins s σ H Q I h
  refine BoolOp_and (thn (ha pins s σ H _ I h) fun v s1 ⟨x,H1,I1,r1,q1⟩=>?_)
  obtain ⟨c,rfl,q1⟩:=q1
  cases r1
  refine wpAny_truthy_bool ?_
  cases c with
  | true=>exact hb pins s1 σ H1 Q I1 q1
  | false=>exact ⟨.bl false,H1,I1,rfl,q1⟩
theorem pe_not (ha:PE X a ta):PE X (.UnaryOp .Not a pos) (tNotV ta):=by
  intro pins s σ H Q I h
  refine UnaryOp_ (thn (ha pins s σ H _ I h) fun v s1 ⟨x,H1,I1,r1,q1⟩=>?_)
  obtain ⟨c,rfl,q1⟩:=q1
  cases r1
  exact not_of (wpAny_truthy_bool ⟨.bl (!c),H1,I1,rfl,q1⟩)
end
end L2
namespace L2
open PySem PySem.Spec PyProof.Rows
noncomputable def SqL (K:PySem.W.Frag) (H:Hp) (a:Addr) (xs:List V):Prop :=
  Rd H a (.lst xs) ∨
    ∃ (o:Obj) (its:Array Value) (n:Nat),K.lookup a=some o∧o.cls=.type "list"∧o.dict=none∧o.data=.seq its n∧its.size≤sizeLine∧Vals xs its.toList
noncomputable def SqT (K:PySem.W.Frag) (H:Hp) (a:Addr) (xs:List V):Prop :=
  Rd H a (.tup xs) ∨
    ∃ (o:Obj) (its:Array Value) (n:Nat),K.lookup a=some o∧o.cls=.type "tuple"∧o.data=.seq its n∧its.size≤sizeLine∧Vals xs its.toList
noncomputable def absV:Value→Option V
  | .none=>some .non
  | .bool b=>some (.bl b)
  | .int i _=>some (.int i)
  | .str x _=>some (.str x)
  | .bytes b _=>some (.byt b)
  | .float b _=>some (.flt b)
  | .ref a=>some (.ref a)
  | .type n=>some (.ty n)
  | _=>none
theorem RelV.abs {x:V} {u:Value} (r:RelV x u):absV u=some x:=by
  cases x with
  | non=>cases r; rfl
  | bl _=>cases r; rfl
  | int _=>obtain ⟨t,rfl⟩:=r; rfl
  | str _=>obtain ⟨t,rfl⟩:=r; rfl
  | byt _=>obtain ⟨t,rfl⟩:=r; rfl
  | flt _=>obtain ⟨t,rfl⟩:=r; rfl
  | ref _=>cases r; rfl
  | ty _=>cases r; rfl
theorem RelV.inj {x y:V} {u:Value} (r:RelV x u) (q:RelV y u):x=y:=Option.some.inj (r.abs.symm.trans q.abs)
theorem Vals.inj:∀ {xs ys:List V} {us:List Value},Vals xs us→Vals ys us→xs=ys
  | _,_,_,.nil,.nil=>rfl
  | _,_,_,.cons r t,.cons r' t'=>by rw [r.inj r',Vals.inj t t']
section
variable {X:Cx} {pins:List (Addr × Obj)} {σ:St} {H:Hp} {s:Shared} {a:Addr} {xs ys:List V}
theorem SqL.of {K:PySem.W.Frag} (h:H a=some (.lst xs)):SqL K H a xs:=.inl (.inl h)
theorem SqT.of {K:PySem.W.Frag} (h:H a=some (.tup xs)):SqT K H a xs:=.inl (.inl h)
theorem Inv.list (I:Inv X pins σ H s) (h:SqL X.K H a xs):∃ its:List Value,Vals xs its∧PlainL s.heap a its.toArray∧xs.length≤sizeLine:=by
  rcases h with h | ⟨o,its,n,hk,hc,hd,hs,hz,r⟩
  · obtain ⟨z,its,n,r,e⟩:=h.ok I.hok
    exact ⟨its,r,⟨_,n,e,rfl,rfl,rfl⟩,z⟩
  · refine ⟨its.toList,r,⟨o,n,I.kIn a o hk,hc,hd,by simpa using hs⟩, ?_⟩
    have e:=r.length
    simp only [Array.length_toList] at e
    omega
theorem Inv.tuple (I:Inv X pins σ H s) (h:SqT X.K H a xs):∃ its:List Value,Vals xs its∧IsTup s.heap a its.toArray∧xs.length≤sizeLine:=by
  rcases h with h | ⟨o,its,n,hk,hc,hs,hz,r⟩
  · obtain ⟨z,its,r,p⟩:=h.ok I.hok
    exact ⟨its,r,p,z⟩
  · refine ⟨its.toList,r,⟨o,I.kIn a o hk,hc,n,by simpa using hs⟩, ?_⟩
    have e:=r.length
    simp only [Array.length_toList] at e
    omega
theorem Inv.list_inj (I:Inv X pins σ H s) (h:SqL X.K H a xs) (h':SqL X.K H a ys):xs=ys:=by
  obtain ⟨its,r,⟨o,n,e,_,_,d⟩,_⟩:=I.list h
  obtain ⟨its',r',⟨o',n',e',_,_,d'⟩,_⟩:=I.list h'
  rw [e] at e'; cases e'
  rw [d] at d'
  injection d' with d1 _
  have:its=its':=by simpa using congrArg Array.toList d1
  subst this
  exact r.inj r'
end
noncomputable abbrev Cx.wish (X:Cx) (E:Value→Shared→Prop):Cx:={ X with xe:=E }
noncomputable abbrev Cx.nox (X:Cx):Cx:=X.wish fun _ _=>False
theorem Cx.Ok.wish {X:Cx} (ok:X.Ok) (E:Value→Shared→Prop):(X.wish E).Ok :=
  ⟨ok.mod,ok.kind,ok.glob,ok.blt,ok.above,ok.inj,ok.has,ok.cab,ok.hd,ok.frames,ok.stk,ok.exf,ok.bs,ok.bsz,ok.noex,ok.exfs,ok.funs,ok.frf⟩
theorem Cx.Ok.unwish {X:Cx} {E:Value→Shared→Prop} (ok:(X.wish E).Ok):X.Ok :=
  ⟨ok.mod,ok.kind,ok.glob,ok.blt,ok.above,ok.inj,ok.has,ok.cab,ok.hd,ok.frames,ok.stk,ok.exf,ok.bs,ok.bsz,ok.noex,ok.exfs,ok.funs,ok.frf⟩
section
variable {X:Cx} {pins:List (Addr × Obj)} {σ:St} {H:Hp} {s:Shared} {E:Value→Shared→Prop}
theorem Inv.wish (I:Inv X pins σ H s) (E:Value→Shared→Prop):Inv (X.wish E) pins σ H s:=⟨I.ok.wish E,I.os,I.bare,I.base,I.loc,I.cell,I.free,I.freeC,I.pin,I.hok,I.len⟩
theorem Inv.unwish (I:Inv (X.wish E) pins σ H s):Inv X pins σ H s:=⟨I.ok.unwish,I.os,I.bare,I.base,I.loc,I.cell,I.free,I.freeC,I.pin,I.hok,I.len⟩
theorem SP.unwish {D:Ends} {f:Flow} {s':Shared} (h:SP (X.wish E) pins D f s'):SP X pins D f s':=by
  cases f with
  | next=>obtain ⟨σ',H',I,q⟩:=h; exact ⟨σ',H',I.unwish,q⟩
  | brk=>obtain ⟨σ',H',I,q⟩:=h; exact ⟨σ',H',I.unwish,q⟩
  | cont=>obtain ⟨σ',H',I,q⟩:=h; exact ⟨σ',H',I.unwish,q⟩
  | ret u=>obtain ⟨v,σ',H',I,r,q⟩:=h; exact ⟨v,σ',H',I.unwish,r,q⟩
theorem PSs.nox {st:List Stmt} {t:TS} (h:PSs X.nox st t):PSs X st t:=fun pins s σ H D I hw =>
  wpAny_mono (h pins s σ H D (I.wish _) hw) (fun _ _ q=>q.unwish) fun _ _ z=>False.elim z
end
section
variable {X:Cx} {st:Stmt} {rest:List Stmt} {t u:TS} {e:Expr} {te:TE} {pos:Pos}
noncomputable def tNext:TS:=fun D σ H=>D.nx σ H
noncomputable def tSeq (t u:TS):TS:=fun D σ H=>t { D with nx:=u D } σ H
theorem pss_nil:PSs X [] tNext:=fun _ _ σ H _ I h=>wpAny_execs_nil ⟨σ,H,I,h⟩
theorem pss_cons (h1:PS X st t) (h2:PSs X rest u):PSs X (st :: rest) (tSeq t u):=by
  intro pins s σ H D I h
  refine wpAny_execs_cons (thn (h1 pins s σ H { D with nx:=u D } I h) fun f s1 q=>?_)
  cases f with
  | next =>
    obtain ⟨σ',H',I',q⟩:=q
    exact h2 pins s1 σ' H' D I' q
  | ret v=>exact q
  | brk=>exact q
  | cont=>exact q
theorem pss_one (h1:PS X st t):PSs X [st] t:=by
  intro pins s σ H D I h
  refine wpAny_execs_cons (thn (h1 pins s σ H D I h) fun f s1 q=>?_)
  cases f with
  | next=>exact wpAny_execs_nil q
  | ret v=>exact q
  | brk=>exact q
  | cont=>exact q
theorem Inv.quiet {pins:List (Addr × Obj)} {σ:St} {H:Hp} {s:Shared} (I:Inv X pins σ H s):interactive X.env=false:=by simp [interactive,I.ok.kind]
noncomputable def tDrop (te:TE):TS:=fun D σ H=>te σ H fun _ H1=>D.nx σ H1
theorem ps_expr (he:PE X e te) (hs:swapsWith e none pos.line X.env=pure false:=by rfl):PS X (.Expr e pos) (tDrop te):=by
  intro pins s σ H D I h
  exact wpAny_Expr_any (thn (he pins s σ H _ I h) fun v s1 ⟨x,H1,I1,r1,q1⟩=>⟨σ,H1,I1,q1⟩) I.quiet hs
noncomputable def tRet (te:TE):TS:=fun D σ H=>te σ H D.rt
theorem ps_ret (he:PE X e te):PS X (.Return (some e) pos) (tRet te):=by
  intro pins s σ H D I h
  exact wpAny_Return_some (thn (he pins s σ H _ I h) fun v s1 ⟨x,H1,I1,r1,q1⟩=>⟨x,σ,H1,I1,r1,q1⟩)
noncomputable def tIfS (c:TT) (t u:TS):TS:=fun D σ H=>c σ H fun b H1=>if b=true then t D σ H1 else u D σ H1
theorem ps_if {c:Expr} {a b:List Stmt} {tc:TT} (hc:PT X c tc) (ha:PSs X a t) (hb:PSs X b u):PS X (.If c a b pos) (tIfS tc t u):=by
  intro pins s σ H D I h
  refine wpAny_If (thn (hc pins s σ H _ I h) fun d s1 ⟨H1,I1,q1⟩=>?_)
  cases d with
  | true=>exact ha pins s1 σ H1 D I1 q1
  | false=>exact hb pins s1 σ H1 D I1 q1
end
noncomputable abbrev TG:=V→St→Hp→(St→Hp→Prop)→Prop
noncomputable abbrev TGs:=List V→St→Hp→(St→Hp→Prop)→Prop
noncomputable def PG (X:Cx) (target:Expr) (t:TG):Prop :=
  ∀ (pins:List (Addr × Obj)) (s:Shared) (σ:St) (H:Hp) (v:V) (u:Value) (Q:St→Hp→Prop),Inv X pins σ H s→RelV v u→t v σ H Q →
    wpAny (model X.prog X.w) X.A (assign target X.env u) (fun _ s'=>∃ σ' H',Inv X pins σ' H' s'∧Q σ' H') X.xe s
noncomputable def PGs (X:Cx) (ts:List Expr) (t:TGs):Prop :=
  ∀ (pins:List (Addr × Obj)) (s:Shared) (σ:St) (H:Hp) (vs:List V) (us:List Value) (Q:St→Hp→Prop),Inv X pins σ H s→Vals vs us→t vs σ H Q →
    wpAny (model X.prog X.w) X.A (assignInOrder ((assignEach ts X.env).map (·.2)) us) (fun _ s'=>∃ σ' H',Inv X pins σ' H' s'∧Q σ' H') X.xe s
noncomputable abbrev TSet:=V→V→V→Hp→(Hp→Prop)→Prop
noncomputable def PSet (X:Cx) (t:TSet):Prop :=
  ∀ (pins:List (Addr × Obj)) (s:Shared) (σ:St) (H:Hp) (o i v:V) (ov iv u:Value) (Q:Hp→Prop),Inv X pins σ H s→RelV o ov→RelV i iv→RelV v u→t o i v H Q →
    wpAny (model X.prog X.w) X.A (setItem ov iv u) (fun _ s'=>∃ H',Inv X pins σ H' s'∧Q H') X.xe s
noncomputable abbrev TIp:=V→V→Hp→VK→Prop
noncomputable def PIp (X:Cx) (op:Operator) (t:TIp):Prop :=
  ∀ (pins:List (Addr × Obj)) (s:Shared) (σ:St) (H:Hp) (x y:V) (v u:Value) (Q:VK),Inv X pins σ H s→RelV x v→RelV y u→t x y H Q →
    wpAny (model X.prog X.w) X.A (inplaceOp op v u) (EP X pins σ Q) X.xe s
section
variable {X:Cx} {pos:Pos}
noncomputable def gName (i:Nat):TG:=fun v σ H Q=>Q (σ.set i (some v)) H
theorem pg_name {i:Nat} {x:Str} (hN:X.N.Nodup) (hi:X.N[i]?=some x) (hx:Loc X.env.scope x) (hf:X.fn x=true ∨ X.env.scope.names.lookup x=some .local:=by first | exact .inl rfl | exact .inr rfl | assumption):PG X (.Name x pos) (gName i):=by
  intro pins s σ H v u Q I r h
  exact wpAny_assign_Name (store_ok I hN hi hx r (fun s' I'=>⟨_,H,I',h⟩) hf)
noncomputable def gNil:TGs:=fun vs σ H Q=>vs=[]∧Q σ H
noncomputable def gCons (t:TG) (u:TGs):TGs:=fun vs σ H Q=>∃ v r,vs=v :: r∧t v σ H fun σ' H'=>u r σ' H' Q
theorem pgs_nil:PGs X [] gNil:=by
  intro pins s σ H vs us Q I r h
  obtain ⟨e,h⟩:=h
  subst e
  cases r
  exact assignInOrder_nil ⟨σ,H,I,h⟩
theorem pgs_cons {e:Expr} {es:List Expr} {t:TG} {u:TGs} (h1:PG X e t) (h2:PGs X es u)
    (hs:(assignEach (e :: es) X.env).map (·.2)=assign e X.env :: (assignEach es X.env).map (·.2):=by rfl):PGs X (e :: es) (gCons t u):=by
  intro pins s σ H vs us Q I r h
  obtain ⟨v,vr,e1,h⟩:=h
  subst e1
  cases r with
  | cons r rr =>
    rw [hs]
    refine assignInOrder_cons (thn (h1 pins s σ H _ _ _ I r h) fun _ s1 ⟨σ1,H1,I1,q1⟩=>?_)
    exact h2 pins s1 σ1 H1 _ _ Q I1 rr q1
noncomputable def gTup (K:PySem.W.Frag) (n:Nat) (t:TGs):TG:=fun v σ H Q=>∃ a xs,v=.ref a∧SqT K H a xs∧xs.length=n∧t xs σ H Q
theorem pg_tup {es:List Expr} {k:Nat} {t:TGs} {n:Nat} (hc:X.calm=true) (h:PGs X es t)
    (hn:(assignEach es X.env).length=n:=by rfl) (hst:(assignEach es X.env).findIdx? (·.1)=none:=by rfl):PG X (.Tuple es k pos) (gTup X.K n t):=by
  intro pins s σ H v u Q I r hw
  obtain ⟨a,xs,e1,hq,hl,hw⟩:=hw
  subst e1
  cases r
  obtain ⟨its,rv,ht,hz⟩:=I.tuple hq
  refine assign_Tuple_tuple (I.ok.hd hc) ht (by simp [hn,← hl,rv.length]) hst fun h' hx=>?_
  have I1:Inv X pins σ H { s with heap:=h' }:=I.kept (t':=s.toks) fun b o e=>hx b o (Nat.ne_of_lt (Heap.lt_size e)) e
  exact h pins _ σ H xs _ Q I1 (by simpa using rv) hw
noncomputable def gSub (to ti:TE) (t:TSet):TG:=fun v σ H Q=>to σ H fun o H1=>ti σ H1 fun i H2=>t o i v H2 fun H3=>Q σ H3
theorem pg_sub {o i:Expr} {to ti:TE} {t:TSet} (ho:PE X o to) (hi:PE X i ti) (hs:PSet X t)
    (ha:∀ v,assign (.Subscript o i pos) X.env v=(do
      let ov ← holding [v] (eval o X.env)
      let iv ← holding [v,ov] (eval i X.env)
      standAt pos
      holding [v,ov,iv] (setItem ov iv v)
      release [v,ov,iv] []):=by exact fun _=>rfl):PG X (.Subscript o i pos) (gSub to ti t):=by
  intro pins s σ H v u Q I r h
  rw [ha]
  refine wpAny_bind (wpAny_holding (thn (ho pins s σ H _ I h) fun ov s1 ⟨x,H1,I1,r1,q1⟩=>?_))
  refine wpAny_bind (wpAny_holding (thn (hi pins s1 σ H1 _ I1 q1) fun iv s2 ⟨y,H2,I2,r2,q2⟩=>?_))
  refine wpAny_bind (wpAny_standAt (wpAny_bind (wpAny_holding (thn (hs pins s2 σ H2 x y v ov iv u _ I2 r1 r2 r q2) fun _ s3 ⟨H3,I3,q3⟩=>?_))))
  exact wpAny_release ⟨σ,H3,I3,q3⟩
noncomputable def tAsg (te:TE) (g:TG):TS:=fun D σ H=>te σ H fun x H1=>g x σ H1 D.nx
theorem ps_asg {tg e:Expr} {te:TE} {g:TG} (he:PE X e te) (hg:PG X tg g) (hs:swapsWithSole [tg] e pos.line X.env=pure false:=by rfl) (hw:swappedStores [tg] e X.env=pure none:=by rfl)
    (h1:(assignEach [tg] X.env).map (·.2)=[assign tg X.env]:=by rfl):PS X (.Assign [tg] e pos) (tAsg te g):=by
  intro pins s σ H D I h
  refine wpAny_Assign_stores (thn (he pins s σ H _ I h) fun v s1 ⟨x,H1,I1,r1,q1⟩=>?_) hs hw
  rw [h1]
  exact thn (hg pins s1 σ H1 x v _ I1 r1 q1) fun _ s2 q=>q
theorem ps_set {i:Nat} {x:Str} {e:Expr} {te:TE} {pos':Pos} (hN:X.N.Nodup) (hi:X.N[i]?=some x) (hx:Loc X.env.scope x) (he:PE X e te) (hs:swapsWith e (some (.Name x pos')) pos.line X.env=pure false:=by rfl) (hf:X.fn x=true ∨ X.env.scope.names.lookup x=some .local:=by first | exact .inl rfl | exact .inr rfl | assumption) :
    PS X (.Assign [.Name x pos'] e pos) (tAsg te (gName i)):=by
  intro pins s σ H D I h
  refine wpAny_Assign_Name (thn (he pins s σ H _ I h) fun v s1 ⟨y,H1,I1,r1,q1⟩=>?_) hs
  exact store_ok I1 hN hi hx r1 (fun s2 I2=>⟨_,H1,I2,q1⟩) hf
noncomputable def tAug (i:Nat) (te:TE) (ti:TIp):TS:=fun D σ H=>∃ x,σ[i]?=some (some x)∧te σ H fun y H1=>ti x y H1 fun z H2=>D.nx (σ.set i (some z)) H2
theorem ps_aug {i:Nat} {x:Str} {e:Expr} {te:TE} {op:Operator} {ti:TIp} {pos':Pos} (hN:X.N.Nodup) (hi:X.N[i]?=some x) (hx:Loc X.env.scope x) (he:PE X e te) (ho:PIp X op ti) (hf:X.fn x=true ∨ X.env.scope.names.lookup x=some .local:=by first | exact .inl rfl | exact .inr rfl | assumption) :
    PS X (.AugAssign (.Name x pos') op e pos) (tAug i te ti):=by
  intro pins s σ H D I h
  obtain ⟨v,e1,h⟩:=h
  obtain ⟨m,hn,hl⟩:=I.loc
  have vis:Vis X.env.scope x:=by rcases hx with k | k; exact .inl k; exact .inr (.inl k)
  obtain ⟨u,r,l⟩:=hl i x v hi e1 vis
  refine wpAny_AugAssign_Name ?_
  have go:wpAny (model X.prog X.w) X.A (eval e X.env) (fun w s₂=>wpAny (model X.prog X.w) X.A (inplaceOp op u w) (fun r s₃=>wpAny (model X.prog X.w) X.A (storeName X.env x r) (fun _=>SP X pins D .next) X.xe s₃) X.xe s₂) X.xe s:=by
    refine thn (he pins s σ H _ I h) fun w s1 ⟨y,H1,I1,r1,q1⟩=>?_
    refine thn (ho pins s1 σ H1 v y u w _ I1 r r1 q1) fun z s2 ⟨zv,H2,I2,r2,q2⟩=>?_
    exact store_ok I2 hN hi hx r2 (fun s3 I3=>⟨_,H2,I3,q2⟩) hf
  rcases l with ⟨hk,hm⟩ | ⟨hk,c,hc,hcell⟩
  · exact wpAny_loadName_local I.ok.kind hk hn hm go
  · rcases hk with hk | hk
    · exact wpAny_loadName_cell I.ok.kind hk hc hcell go
    · rcases hx with k | k
      · have:X.env.scope.names.lookup x=some .free:=hk
        rw [k] at this; cases this
      · have:X.env.scope.names.lookup x=some .free:=hk
        rw [k] at this; cases this
noncomputable def tAugS (to ti te:TE) (tget:V→V→Hp→VK→Prop) (tip:TIp) (tset:TSet):TS:=fun D σ H=>to σ H fun o H1=>ti σ H1 fun i H2=>tget o i H2 fun x H3=>te σ H3 fun y H4=>tip x y H4 fun z H5=>tset o i z H5 fun H6=>D.nx σ H6
noncomputable def PGet (X:Cx) (t:V→V→Hp→VK→Prop):Prop :=
  ∀ (pins:List (Addr × Obj)) (s:Shared) (σ:St) (H:Hp) (o i:V) (ov iv:Value) (Q:VK),Inv X pins σ H s→RelV o ov→RelV i iv→t o i H Q →
    wpAny (model X.prog X.w) X.A (getItem ov iv) (EP X pins σ Q) X.xe s
theorem ps_augS {o i e:Expr} {to ti te:TE} {tget:V→V→Hp→VK→Prop} {tip:TIp} {tset:TSet} {op:Operator} {tpos:Pos} (ho:PE X o to) (hi:PE X i ti) (hg:PGet X tget) (he:PE X e te) (hp:PIp X op tip) (hs:PSet X tset)
    (ha:∀ ov iv new,augStore i ov iv new=(do holding [new,ov,iv] (setItem ov iv new); release [new,ov,iv] []; pure .next):=by intros; rfl):PS X (.AugAssign (.Subscript o i tpos) op e pos) (tAugS to ti te tget tip tset):=by
  intro pins s σ H D I h
  refine wpAny_AugAssign_SubscriptAny (thn (ho pins s σ H _ I h) fun ov s1 ⟨x1,H1,I1,r1,q1⟩=>?_) ha
  refine thn (hi pins s1 σ H1 _ I1 q1) fun iv s2 ⟨x2,H2,I2,r2,q2⟩=>?_
  refine thn (hg pins s2 σ H2 x1 x2 ov iv _ I2 r1 r2 q2) fun old s3 ⟨x3,H3,I3,r3,q3⟩=>?_
  refine thn (he pins s3 σ H3 _ I3 q3) fun v s4 ⟨x4,H4,I4,r4,q4⟩=>?_
  refine thn (hp pins s4 σ H4 x3 x4 old v _ I4 r3 r4 q4) fun new s5 ⟨x5,H5,I5,r5,q5⟩=>?_
  exact thn (hs pins s5 σ H5 x1 x2 x5 ov iv new _ I5 r1 r2 r5 q5) fun _ s6 ⟨H6,I6,q6⟩=>⟨σ,H6,I6,q6⟩
noncomputable def ipI (f:Int→Int→Int):TIp:=fun x y H Q=>∃ i j,x=.int i∧y=.int j∧Q (.int (f i j)) H
theorem ip_add:PIp X .Add (ipI fun i j=>i + j):=by
  intro pins s σ H x y v u Q I r1 r2 h
  obtain ⟨i,j,e1,e2,q⟩:=h
  subst e1; subst e2
  obtain ⟨t,rfl⟩:=r1
  obtain ⟨t',rfl⟩:=r2
  exact iadd_int ⟨.int _,H,I.tok _,⟨_,rfl⟩,q⟩
theorem ip_sub:PIp X .Sub (ipI fun i j=>i - j):=by
  intro pins s σ H x y v u Q I r1 r2 h
  obtain ⟨i,j,e1,e2,q⟩:=h
  subst e1; subst e2
  obtain ⟨t,rfl⟩:=r1
  obtain ⟨t',rfl⟩:=r2
  exact isub_int ⟨.int _,H,I.tok _,⟨_,rfl⟩,q⟩
end
section
variable {X:Cx} {pos:Pos}
noncomputable def tWhile (c:TT) (tb:TS):TS:=fun D σ H=>∃ W:Nat→St→Hp→Prop,(∃ m,W m σ H)∧∀ m σ H,W m σ H →
  c σ H fun b H1=>if b=true then ∃ N:St→Hp→Prop,(∀ σ' H',N σ' H'→∃ m',m' < m∧W m' σ' H')∧tb { D with nx:=N,ct:=N,bk:=D.nx } σ H1 else D.nx σ H1
theorem ps_while {c:Expr} {body:List Stmt} {tc:TT} {tb:TS} (hp:PassesOwn (model X.prog X.w) X.A X.env X.xe) (hc:PT X c tc) (hb:PSs X body tb):PS X (.While c body [] pos) (tWhile tc tb):=by
  intro pins s σ H D I h
  obtain ⟨W,⟨m0,w0⟩,turn⟩:=h
  refine wpAny_While (codeAny_whileLoop (fun n s'=>∃ σ' H',Inv X pins σ' H' s'∧W n σ' H') ?_ m0 ⟨σ,H,I,w0⟩)
  rintro n s1 ⟨σ1,H1,I1,w1⟩
  refine wpAny_passesOwn hp (thn (hc pins s1 σ1 H1 _ I1 (turn n σ1 H1 w1)) fun b s2 ⟨H2,I2,q2⟩=>?_)
  cases b with
  | true =>
    obtain ⟨N,hN,q2⟩:=q2
    rw [if_pos rfl]
    refine wpAny_passesOwn hp (thn (hb pins s2 σ1 H2 _ I2 q2) fun f s3 q3=>?_)
    cases f with
    | next =>
      obtain ⟨σ3,H3,I3,n3⟩:=q3
      obtain ⟨m',hm,w3⟩:=hN σ3 H3 n3
      exact ⟨m',hm,σ3,H3,I3,w3⟩
    | cont =>
      obtain ⟨σ3,H3,I3,n3⟩:=q3
      obtain ⟨m',hm,w3⟩:=hN σ3 H3 n3
      exact ⟨m',hm,σ3,H3,I3,w3⟩
    | brk=>exact q3
    | ret v=>exact q3
  | false =>
    rw [if_neg Bool.false_ne_true]
    exact wpAny_execs_nil ⟨σ1,H2,I2,q2⟩
end
structure It where
  go:Nat→Hp→Prop
  yld:Nat→Hp→V→Hp→Prop
  stop:Nat→Hp→Prop
noncomputable def FpOk (X:Cx) (pins:List (Addr × Obj)) (H:Hp) (b:Addr):Prop :=
  H b=none∧b≠X.env.locals∧b ∉ X.fs∧(b∈X.ex ∨ X.s₀.heap.objs.size≤b)∧(∀ x c,X.env.cells.lookup x=some c→c≠b)∧∀ p∈X.pn ++ pins,p.1≠b
theorem Inv.fpOk {X:Cx} {pins:List (Addr × Obj)} {σ:St} {H H':Hp} {s:Shared} {b:Addr} (I:Inv X pins σ H s) (hb:s.heap.objs.size≤b) (hn:H' b=none):FpOk X pins H' b:=by
  refine ⟨hn,Nat.ne_of_gt (Nat.lt_of_lt_of_le I.lt hb),I.nofs hb,.inr (Nat.le_trans I.sz hb),fun x c e z=>?_,fun p hp z=>?_⟩
  · obtain ⟨v,q⟩:=I.cell x c e
    exact absurd (Nat.lt_of_lt_of_le q.lt (by rw [z]; exact hb)) (Nat.lt_irrefl _)
  · exact absurd (Nat.lt_of_lt_of_le (Heap.lt_size (I.pin p hp).1) (by rw [z]; exact hb)) (Nat.lt_irrefl _)
structure Turn (P:Program) (w:World) (K:PySem.W.Frag) (tg:Expr) (J:It) (fp:List Addr) (it:Addr) (tn:Nat→Heap→Prop):Prop where
  mem:it∈fp
  obj:∀ i h,tn i h→∀ b∈fp,∃ o,h.get? b=some o∧∀ v,o.data≠.cell v
  keep:∀ i h h',tn i h→(∀ b∈fp,∀ o,h.get? b=some o→h'.get? b=some o)→tn i h'
  item:∀ (X:Cx),X.prog=P→X.w=w→X.K=K→X.calm=true→∀ (i:Nat) (pins:List (Addr × Obj)) (s:Shared) (σ:St) (H:Hp) (E:Value→Shared→Prop),Inv X pins σ H s→(∀ b∈fp,FpOk X pins H b)→tn i s.heap→J.go i H →
    wpAny (model P w) X.A (pyNext (.ref it)) (fun r s1=>∃ u,r=some u ∧
      wpAny (model P w) X.A (letOwnedTupleGo tg (.ref it) u) (fun _ s2=>∃ x H',Inv X pins σ H' s2∧RelV x u∧J.yld i H x H'∧tn (i + 1) s2.heap∧∀ b∈fp,H' b=none) E s1) E s
  done:∀ (X:Cx),X.prog=P→X.w=w→X.K=K→X.calm=true→∀ (i:Nat) (pins:List (Addr × Obj)) (s:Shared) (σ:St) (H:Hp) (E:Value→Shared→Prop),Inv X pins σ H s→(∀ b∈fp,FpOk X pins H b)→tn i s.heap→J.stop i H →
    wpAny (model P w) X.A (pyNext (.ref it)) (fun r s1=>r=none∧Inv X pins σ H s1) E s
  self:∀ (A:Around) (i:Nat) (s:Shared) (Q:Value→Shared→Prop) (E:Value→Shared→Prop),tn i s.heap→Q (.ref it) s→wpAny (model P w) A (pyIter (.ref it)) Q E s
noncomputable abbrev TI:=St→Hp→(It→Hp→Prop)→Prop
noncomputable def PIE (X:Cx) (pins:List (Addr × Obj)) (σ:St) (tg:Expr) (R:It→Hp→Prop) (itv:Value) (s2:Shared):Prop :=
  ∃ (it:Addr) (fp:List Addr) (tn:Nat→Heap→Prop) (J:It) (H':Hp),itv=.ref it∧Inv X pins σ H' s2∧Turn X.prog X.w X.K tg J fp it tn∧tn 0 s2.heap∧(∀ b∈fp,FpOk X pins H' b)∧R J H'
noncomputable def PI (X:Cx) (tg iter:Expr) (wi:TI):Prop :=
  ∀ (pins:List (Addr × Obj)) (s:Shared) (σ:St) (H:Hp) (R:It→Hp→Prop),Inv X pins σ H s→wi σ H R →
    wpAny (model X.prog X.w) X.A (eval iter X.env) (fun v s1=>wpAny (model X.prog X.w) X.A (pyIter v) (PIE X pins σ tg R) X.xe s1) X.xe s
theorem go_of {M:Model} {A:Around} {E:Value→Shared→Prop} {s:Shared} {tg:Expr} {it:Addr} {u:Value} {o:Obj} {n:String} {vs:Array Value} {Q:Unit→Shared→Prop} (ho:s.heap.get? it=some o) (hc:o.cls=.type n) (hd:o.data=.fields vs)
    (hn:["enumerate", "zip", "dict_itemiterator", "dict_reverseitemiterator", "odict_iterator", "itertools.zip_longest", "itertools.pairwise"].contains n=false) (hQ:Q () s):wpAny M A (letOwnedTupleGo tg (.ref it) u) Q E s:=by
  unfold letOwnedTupleGo
  cases tg <;> first
    | exact wpAny_pure hQ
    | (cases u <;> first
        | exact wpAny_pure hQ
        | (refine wpAny_bind (wpAny_load ho ?_)
           rw [hc,hd]
           show wpAny M A (if (["enumerate", "zip", "dict_itemiterator", "dict_reverseitemiterator", "odict_iterator", "itertools.zip_longest", "itertools.pairwise"].contains n && vs[0]? == some (rawInt _))=true then _ else _) Q E s
           rw [if_neg (by intro h; rw [hn,Bool.false_and] at h; cases h)]
           exact wpAny_pure hQ))
noncomputable def Itl (K:PySem.W.Frag) (a:Addr):It :=
  ⟨fun i H=>∃ xs x,SqL K H a xs∧xs[i]?=some x,fun i H x H'=>H'=H∧∀ xs,SqL K H a xs→xs[i]?=some x,fun i H=>∃ xs,SqL K H a xs∧xs.length≤i⟩
noncomputable def Itr (lo:Int) (n:Nat):It:=⟨fun i _=>i < n,fun i H x H'=>H'=H∧x=.int (lo + i),fun i _=>n≤i⟩
theorem turn_list {P:Program} {w:World} {K:PySem.W.Frag} {tg:Expr} (a it:Addr):Turn P w K tg (Itl K a) [it] it (fun i h=>h.IsListIter it a i) where
  mem:=by simp
  obj:=fun i h st b hb=>by
    have e:b=it:=by simpa using hb
    subst e
    obtain ⟨o,e,c,d⟩:=st
    exact ⟨o,e,fun v z=>by rw [d] at z; cases z⟩
  keep:=fun i h h' st k=>st.at fun o e=>k it (by simp) o e
  item:=by
    intro X hP hw hK hc i pins s σ H E I hf st hg
    subst hP hw hK
    obtain ⟨xs,x,hq,hx⟩:=hg
    obtain ⟨its,rv,p,hz⟩:=I.list hq
    obtain ⟨u,hu,ru⟩:=rv.get hx
    obtain ⟨f0,f1,f2,f3,f4,f5⟩:=hf it (by simp)
    refine wpAny_pyNext_list_item st p.isList (x:=u) (by simpa using hu) fun h' st' sb=>?_
    have I1:Inv X pins σ H { s with heap:=h' }:=I.turned (t':=s.toks) (fun b o hb e=>(sb.2 b hb).trans e) f0 f1 f3 f4 f5
    obtain ⟨o,e,c,d⟩:=id st'
    exact ⟨u,rfl,go_of (s:={ s with heap:=h' }) e c d (by decide) ⟨x,H,I1,ru,⟨rfl,fun ys hy=>by rw [I.list_inj hy hq]; exact hx⟩,st',fun b hb=>(hf b hb).1⟩⟩
  done:=by
    intro X hP hw hK hc i pins s σ H E I hf st hg
    subst hP hw hK
    obtain ⟨xs,hq,hx⟩:=hg
    obtain ⟨its,rv,p,hz⟩:=I.list hq
    obtain ⟨f0,f1,f2,f3,f4,f5⟩:=hf it (by simp)
    have hl:=rv.length
    exact wpAny_pyNext_list_end (I.ok.hd hc) st p.isList (by simp; omega) fun h' eb=>⟨rfl,I.turned (t':=s.toks) (fun b o hb e=>eb b o hb e) f0 f1 f3 f4 f5⟩
  self:=fun _ _ _ _ _ st h=>wpAny_pyIter_listiter st h
theorem turn_range {P:Program} {w:World} {K:PySem.W.Frag} {tg:Expr} (it:Addr) (lo:Int) (n:Nat):Turn P w K tg (Itr lo n) [it] it (fun i h=>IsRangeIter h it (lo + (i:Nat) * 1) ((n:Int) - (i:Nat)) 1) where
  mem:=by simp
  obj:=fun i h st b hb=>by
    have e:b=it:=by simpa using hb
    subst e
    exact ⟨_,st,fun v z=>by
      have z':Data.fields _=Data.cell v:=z
      cases z'⟩
  keep:=fun i h h' st k=>k it (by simp) _ st
  item:=by
    intro X hP hw hK hc i pins s σ H E I hf st hg
    subst hP hw hK
    obtain ⟨f0,f1,f2,f3,f4,f5⟩:=hf it (by simp)
    have W:=Walks.range (prog:=X.prog) (w:=X.w) (I.ok.hd hc) it lo 1 n
    refine W.item i s _ _ hg st fun v h' tk hv st' kk=>?_
    obtain ⟨t,rfl⟩:=hv
    have I1:Inv X pins σ H { s with heap:=h',toks:=tk }:=I.turned (fun b o hb e=>kk b o (by simpa using hb) e) f0 f1 f3 f4 f5
    refine ⟨_,rfl,go_of (s:={ s with heap:=h',toks:=tk }) (n := "range_iterator") st' rfl rfl (by decide) ⟨.int (lo + i),H,I1,⟨t, ?_⟩,⟨rfl,rfl⟩,st',fun b hb=>(hf b hb).1⟩⟩
    rw [Int.mul_one]
  done:=by
    intro X hP hw hK hc i pins s σ H E I hf st hg
    subst hP hw hK
    obtain ⟨f0,f1,f2,f3,f4,f5⟩:=hf it (by simp)
    exact wpAny_pyNext_range_end (I.ok.hd hc) st (by have:n≤i:=hg; omega) fun h' eb=>⟨rfl,I.turned (t':=s.toks) (fun b o hb e=>eb b o hb e) f0 f1 f3 f4 f5⟩
  self:=fun _ _ _ _ _ st h=>wpAny_pyIter_rangeiter st h
end L2
namespace L2
open PySem PySem.Spec PyProof.Rows
section
variable {X:Cx} {tg:Expr}
noncomputable def iList (K:PySem.W.Frag) (tl:TE):TI:=fun σ H R=>tl σ H fun x H1=>∃ a,x=.ref a∧(∃ xs,SqL K H1 a xs)∧R (Itl K a) H1
theorem pi_list {l:Expr} {tl:TE} (hl:PE X l tl):PI X tg l (iList X.K tl):=by
  intro pins s σ H R I h
  refine thn (hl pins s σ H _ I h) fun v s1 ⟨x,H1,I1,r1,q1⟩=>?_
  obtain ⟨a,e,⟨xs,hq⟩,q⟩:=q1
  subst e
  cases r1
  obtain ⟨its,rv,p,hz⟩:=I1.list hq
  refine wpAny_pyIter_list p.isList ?_
  refine ⟨s1.heap.objs.size,[s1.heap.objs.size],_,_,H1,rfl,I1.kept (t':=s1.toks) fun b o e=>Heap.get?_push_of_some _ e,turn_list a _,⟨_,Heap.get?_push_size _ rfl,rfl,rfl⟩,fun b hb=>?_,q⟩
  have e:b=s1.heap.objs.size:=by simpa using hb
  subst e
  exact I1.fpOk (Nat.le_refl _) (I1.hok.fresh (Nat.le_refl _))
theorem range_it {pins:List (Addr × Obj)} {σ:St} {H:Hp} {s:Shared} {R:It→Hp→Prop} {E:Value→Shared→Prop} {lo hi:Int} {t u v:Tok} {tk:Nat} (I:Inv X pins σ H s) (h1:-(2 ^ 62)≤lo) (h2:lo < 2 ^ 62) (h3:-(2 ^ 62)≤hi) (h4:hi < 2 ^ 62)
    (q:R (Itr lo (hi - lo).toNat) H):wpAny (model X.prog X.w) X.A (pyIter (.ref s.heap.objs.size)) (PIE X pins σ tg R) E { s with heap:=s.heap.push { cls:=.type "range",data:=.fields #[.int lo t,.int hi u,.int 1 v] },toks:=tk }:=by
  refine wpAny_pyIter_range (IsRange.new ..) (small_one h1 h2 h3 h4) ?_
  have I1:Inv X pins σ H { s with heap:=s.heap.push { cls:=.type "range",data:=.fields #[.int lo t,.int hi u,.int 1 v] },toks:=tk }:=I.kept fun b o e=>Heap.get?_push_of_some _ e
  refine ⟨(s.heap.push { cls:=.type "range",data:=.fields #[.int lo t,.int hi u,.int 1 v] }).objs.size,[(s.heap.push { cls:=.type "range",data:=.fields #[.int lo t,.int hi u,.int 1 v] }).objs.size],_,_,H,rfl,
    I1.kept (t':=tk) fun b o e=>Heap.get?_push_of_some _ e,turn_range _ lo (hi - lo).toNat, ?_,fun b hb=>?_,q⟩
  · have e1:lo + ((0:Nat):Int) * 1=lo:=by simp
    have e2:(((hi - lo).toNat:Nat):Int) - ((0:Nat):Int)=Builtin.Range.rangeSize lo hi 1:=by rw [rangeSize_one]; split <;> omega
    show IsRangeIter _ _ (lo + ((0:Nat):Int) * 1) ((((hi - lo).toNat:Nat):Int) - ((0:Nat):Int)) 1
    rw [e1,e2]
    exact Heap.get?_push_size _ rfl
  · have e:b=(s.heap.push { cls:=.type "range",data:=.fields #[.int lo t,.int hi u,.int 1 v] }).objs.size:=by simpa using hb
    subst e
    exact I1.fpOk (Nat.le_refl _) (I1.hok.fresh (Nat.le_refl _))
noncomputable def iRng1 (ta:TA):TI:=fun σ H R=>ta σ H fun vs H1=>∃ j:Int,vs=[.int j]∧-(2 ^ 62)≤j∧j < 2 ^ 62∧R (Itr 0 j.toNat) H1
noncomputable def iRng2 (ta:TA):TI:=fun σ H R=>ta σ H fun vs H1=>∃ i j:Int,vs=[.int i,.int j]∧(-(2 ^ 62)≤i∧i < 2 ^ 62∧-(2 ^ 62)≤j∧j < 2 ^ 62)∧R (Itr i (j - i).toNat) H1
theorem pi_range1 {a:Expr} {ta:TA} {p pos:Pos} (hg:Gl X "range") (hm:X.mg "range"=none) (ha:PA X [a] ta) (hs:starEach [a] X.env=[(false,eval a X.env)]:=by rfl):PI X tg (.Call (.Name "range" p) [a] [] pos) (iRng1 ta):=by
  intro pins s σ H R I h
  refine Call_ (ld_blt I hg hm boot_range (PyProof.Rows.callWith_type1 (thn (ha pos pins s σ H _ I h) fun us s1 ⟨vs,H1,I1,r1,q1⟩=>?_) hs rfl))
  obtain ⟨j,e,q1,q2,q⟩:=q1
  subst e
  cases r1 with
  | cons r rr =>
    cases rr
    obtain ⟨t,rfl⟩:=r
    exact call_range_1 (range_it I1 (by omega) (by omega) q1 q2 (by simpa using q))
theorem pi_range2 {a b:Expr} {ta:TA} {p pos:Pos} (hg:Gl X "range") (hm:X.mg "range"=none) (ha:PA X [a,b] ta) (hs:starEach [a,b] X.env=[(false,eval a X.env),(false,eval b X.env)]:=by rfl) (hs2:starEach [b] X.env=[(false,eval b X.env)]:=by rfl) :
    PI X tg (.Call (.Name "range" p) [a,b] [] pos) (iRng2 ta):=by
  intro pins s σ H R I h
  refine Call_ (ld_blt I hg hm boot_range (PyProof.Rows.callWith_type1 (thn (ha pos pins s σ H _ I h) fun us s1 ⟨vs,H1,I1,r1,q1⟩=>?_) (by rw [hs,hs2]) (by rw [hs2]; rfl)))
  obtain ⟨i,j,e,⟨q1,q2,q3,q4⟩,q⟩:=q1
  subst e
  cases r1 with
  | cons r rr =>
    cases rr with
    | cons r' rr =>
      cases rr
      obtain ⟨t,rfl⟩:=r
      obtain ⟨t',rfl⟩:=r'
      exact call_range_2 (range_it I1 q1 q2 q3 q4 q)
noncomputable def tFor (wi:TI) (g:TG) (tb:TS):TS:=fun D σ H=>wi σ H fun J H1=>∃ W:Nat→Nat→St→Hp→Prop,(∃ m,W 0 m σ H1)∧∀ i m σ H,W i m σ H →
  (J.stop i H∧D.nx σ H) ∨ (J.go i H∧∃ N:St→Hp→Prop,(∀ σ' H',N σ' H'→∃ m',m' < m∧W (i + 1) m' σ' H')∧∀ x H',J.yld i H x H'→g x σ H' fun σ2 H2=>tb { D with nx:=N,ct:=N,bk:=D.nx } σ2 H2)
noncomputable def pinsAt (fp:List Addr) (h:Heap):List (Addr × Obj):=fp.filterMap fun b=>(h.get? b).map fun o=>(b,o)
theorem mem_pinsAt {fp:List Addr} {h:Heap} {b:Addr} {o:Obj} (hb:b∈fp) (e:h.get? b=some o):(b,o)∈pinsAt fp h:=List.mem_filterMap.mpr ⟨b,hb,by rw [e]; rfl⟩
theorem of_pinsAt {fp:List Addr} {h:Heap} {p:Addr × Obj} (hp:p∈pinsAt fp h):p.1∈fp∧h.get? p.1=some p.2:=by
  obtain ⟨b,hb,e⟩:=List.mem_filterMap.mp hp
  cases q:h.get? b with
  | none=>rw [q] at e; cases e
  | some o =>
    rw [q] at e
    have e':(b,o)=p:=Option.some.inj e
    subst e'
    exact ⟨hb,q⟩
theorem Inv.pinned {pins:List (Addr × Obj)} {σ:St} {H:Hp} {s:Shared} {fp:List Addr} (I:Inv X pins σ H s) (hf:∀ b∈fp,FpOk X pins H b) (ho:∀ b∈fp,∃ o,s.heap.get? b=some o∧∀ v,o.data≠.cell v):Inv X (pins ++ pinsAt fp s.heap) σ H s :=
  I.pins_of fun p hp=>(List.mem_append.mp hp).elim (fun z=>I.pin p (List.mem_append_right _ z)) fun z=>by
    obtain ⟨hb,e⟩:=of_pinsAt z
    obtain ⟨f0,f1,f2,_⟩:=hf p.1 hb
    obtain ⟨o,e',d⟩:=ho p.1 hb
    rw [e] at e'; cases e'
    exact ⟨e,f0,f1,f2,d⟩
theorem Inv.unpinned {pins pl:List (Addr × Obj)} {σ:St} {H:Hp} {s:Shared} (I:Inv X (pins ++ pl) σ H s):Inv X pins σ H s:=I.pins_of fun p hp=>I.pin p (List.mem_append_right _ (List.mem_append_left _ hp))
theorem ps_for {iter:Expr} {body:List Stmt} {wi:TI} {g:TG} {tb:TS} {pos:Pos} (hp:PassesOwn (model X.prog X.w) X.A X.env X.xe) (hc:X.calm=true) (hi:PI X tg iter wi) (hg:PG X tg g) (hb:PSs X body tb)
    (hs:∀ x,foldedSetIterable iter X.env x=pure x:=by exact fun _=>rfl):PS X (.For tg iter body [] pos) (tFor wi g tb):=by
  intro pins s σ H D I h
  refine wpAny_For (thn (hi pins s σ H _ I h) fun v s1 h1=>thn h1 fun itv s2 h2=>?_) hs
  obtain ⟨it,fp,tn,J,H2,e,I2,T,st2,f2,W,⟨m0,w0⟩,turn⟩:=h2
  subst e
  have stat:∀ {H':Hp},(∀ b∈fp,H' b=none)→∀ b∈fp,FpOk X pins H' b:=fun hn b hb=>⟨hn b hb,(f2 b hb).2⟩
  refine codeAny_forLoop_any (fun n s'=>∃ i σ' H',Inv X pins σ' H' s'∧tn i s'.heap∧(∀ b∈fp,H' b=none)∧W i n σ' H') ?_ m0 ⟨0,σ,H2,I2,st2,fun b hb=>(f2 b hb).1,w0⟩
  rintro n s3 ⟨i,σ3,H3,I3,st3,fr3,w3⟩
  rcases turn i n σ3 H3 w3 with ⟨stop,qn⟩ | ⟨go,N,hN,step⟩
  · refine wpAny_passesOwn hp (thn (T.done X rfl rfl rfl hc i pins s3 σ3 H3 X.xe I3 (stat fr3) st3 stop) fun r s4 ⟨hr,I4⟩=>?_)
    subst hr
    exact wpAny_execs_nil ⟨σ3,H3,I4,qn⟩
  · refine wpAny_passesOwn hp (thn (T.item X rfl rfl rfl hc i pins s3 σ3 H3 X.xe I3 (stat fr3) st3 go) fun r s4 ⟨u,hr,h4⟩=>?_)
    subst hr
    refine wpAny_passesOwn hp (thn h4 fun _ s5 ⟨x,H5,I5,r5,y5,st5,fr5⟩=>?_)
    have I5':=I5.pinned (stat fr5) (T.obj _ _ st5)
    refine wpAny_passesOwn hp (thn (hg _ s5 σ3 H5 x u _ I5' r5 (step x H5 y5)) fun _ s6 ⟨σ6,H6,I6,q6⟩=>?_)
    refine wpAny_passesOwn hp (thn (hb _ s6 σ6 H6 _ I6 q6) fun f s7 q7=>?_)
    have again:∀ {σ7:St} {H7:Hp},Inv X (pins ++ pinsAt fp s5.heap) σ7 H7 s7→N σ7 H7→∃ m,m < n∧∃ i σ' H',Inv X pins σ' H' s7∧tn i s7.heap∧(∀ b∈fp,H' b=none)∧W i m σ' H':=fun {σ7 H7} I7 n7=>by
      obtain ⟨m',hm,w7⟩:=hN σ7 H7 n7
      refine ⟨m',hm,i + 1,σ7,H7,I7.unpinned,T.keep _ _ _ st5 fun b hb o e=>(I7.pin (b,o) (List.mem_append_right _ (List.mem_append_right _ (mem_pinsAt hb e)))).1,fun b hb=>?_,w7⟩
      obtain ⟨o,e,d⟩:=T.obj _ _ st5 b hb
      exact (I7.pin (b,o) (List.mem_append_right _ (List.mem_append_right _ (mem_pinsAt hb e)))).2.1
    cases f with
    | next=>obtain ⟨σ7,H7,I7,n7⟩:=q7; exact again I7 n7
    | cont=>obtain ⟨σ7,H7,I7,n7⟩:=q7; exact again I7 n7
    | brk=>obtain ⟨σ7,H7,I7,q7⟩:=q7; exact ⟨σ7,H7,I7.unpinned,q7⟩
    | ret v=>obtain ⟨x7,σ7,H7,I7,r7,q7⟩:=q7; exact ⟨x7,σ7,H7,I7.unpinned,r7,q7⟩
end
end L2
namespace L2
open PySem PySem.Spec PyProof.Rows
noncomputable abbrev R2:=V→V→Hp→VK→Prop
noncomputable def OpR (X:Cx) (f:Value→Value→Sem Value) (r:R2):Prop :=
  ∀ (pins:List (Addr × Obj)) (s:Shared) (σ:St) (H:Hp) (x y:V) (v u:Value) (Q:VK),Inv X pins σ H s→RelV x v→RelV y u→r x y H Q →
    wpAny (model X.prog X.w) X.A (f v u) (EP X pins σ Q) X.xe s
noncomputable def UnR (X:Cx) (f:Value→Sem Value) (r:V→Hp→VK→Prop):Prop :=
  ∀ (pins:List (Addr × Obj)) (s:Shared) (σ:St) (H:Hp) (x:V) (v:Value) (Q:VK),Inv X pins σ H s→RelV x v→r x H Q →
    wpAny (model X.prog X.w) X.A (f v) (EP X pins σ Q) X.xe s
noncomputable def CallR (X:Cx) (f:Value) (r:List V→Hp→VK→Prop):Prop :=
  ∀ (pins:List (Addr × Obj)) (s:Shared) (σ:St) (H:Hp) (xs:List V) (us:List Value) (Q:VK),Inv X pins σ H s→Vals xs us→r xs H Q →
    wpAny (model X.prog X.w) X.A (call f us) (EP X pins σ Q) X.xe s
noncomputable def tOp (r:R2) (ta tb:TE):TE:=fun σ H Q=>ta σ H fun x H1=>tb σ H1 fun y H2=>r x y H2 Q
noncomputable def tUn (r:V→Hp→VK→Prop) (ta:TE):TE:=fun σ H Q=>ta σ H fun x H1=>r x H1 Q
noncomputable def rI (C:Int→Int→Prop) (g:Int→Int→V):R2:=fun x y H Q=>∃ i j,x=.int i∧y=.int j∧C i j∧Q (g i j) H
noncomputable def rI0 (g:Int→Int→V):R2:=fun x y H Q=>∃ i j,x=.int i∧y=.int j∧Q (g i j) H
noncomputable def rU (g:Int→V):V→Hp→VK→Prop:=fun x H Q=>∃ i,x=.int i∧Q (g i) H
section
variable {X:Cx} {a b c:Expr} {ta tb tc:TE} {pos:Pos}
theorem binT (ha:PE X a ta) (hb:PE X b tb) {pins:List (Addr × Obj)} {s:Shared} {σ:St} {H:Hp} {R:V→V→Hp→Prop} (I:Inv X pins σ H s)
    (h:ta σ H fun x H1=>tb σ H1 fun y H2=>R x y H2) {Q:Value→Shared→Prop} {f:Value→Value→Sem Value}
    (hf:∀ v u s2 x y H2,Inv X pins σ H2 s2→RelV x v→RelV y u→R x y H2→wpAny (model X.prog X.w) X.A (f v u) Q X.xe s2) :
    wpAny (model X.prog X.w) X.A (eval a X.env) (fun v s₁=>wpAny (model X.prog X.w) X.A (eval b X.env) (fun u s₂=>wpAny (model X.prog X.w) X.A (f v u) Q X.xe s₂) X.xe s₁) X.xe s:=by
  refine thn (ha pins s σ H _ I h) fun v s1 ⟨x,H1,I1,r1,q1⟩=>?_
  refine thn (hb pins s1 σ H1 _ I1 q1) fun u s2 ⟨y,H2,I2,r2,q2⟩=>?_
  exact hf v u s2 x y H2 I2 r1 r2 q2
theorem pe_op {op:Operator} {r:R2} (ho:OpR X (binaryOp op) r) (ha:PE X a ta) (hb:PE X b tb):PE X (.BinOp a op b pos) (tOp r ta tb):=by
  intro pins s σ H Q I h
  exact wpAny_BinOp (binT ha hb I h fun v u s2 x y H2 I2 rx ry q=>ho pins s2 σ H2 x y v u Q I2 rx ry q)
theorem pe_un {op:UnaryOp} {r:V→Hp→VK→Prop} (ho:UnR X (unaryOp op) r) (ha:PE X a ta):PE X (.UnaryOp op a pos) (tUn r ta):=by
  intro pins s σ H Q I h
  exact UnaryOp_ (thn (ha pins s σ H _ I h) fun v s1 ⟨x,H1,I1,r1,q1⟩=>ho pins s1 σ H1 x v Q I1 r1 q1)
theorem opI {f:Value→Value→Sem Value} {C:Int→Int→Prop} {g:Int→Int→Int}
    (rule:∀ (i j:Int) (t u:Tok) (s:Shared) (Q:Value→Shared→Prop) (E:Value→Shared→Prop),C i j→Q (.int (g i j) s.toks) { s with toks:=s.toks + 1 }→wpAny (model X.prog X.w) X.A (f (.int i t) (.int j u)) Q E s) :
    OpR X f (rI C fun i j=>.int (g i j)):=by
  intro pins s σ H x y v u Q I rx ry h
  obtain ⟨i,j,rfl,rfl,hc,q⟩:=h
  obtain ⟨t,rfl⟩:=rx
  obtain ⟨t',rfl⟩:=ry
  exact rule i j t t' s _ _ hc ⟨.int (g i j),H,I.tok _,⟨_,rfl⟩,q⟩
theorem opI0 {f:Value→Value→Sem Value} {g:Int→Int→Int}
    (rule:∀ (i j:Int) (t u:Tok) (s:Shared) (Q:Value→Shared→Prop) (E:Value→Shared→Prop),Q (.int (g i j) s.toks) { s with toks:=s.toks + 1 }→wpAny (model X.prog X.w) X.A (f (.int i t) (.int j u)) Q E s) :
    OpR X f (rI0 fun i j=>.int (g i j)):=by
  intro pins s σ H x y v u Q I rx ry h
  obtain ⟨i,j,rfl,rfl,q⟩:=h
  obtain ⟨t,rfl⟩:=rx
  obtain ⟨t',rfl⟩:=ry
  exact rule i j t t' s _ _ ⟨.int (g i j),H,I.tok _,⟨_,rfl⟩,q⟩
theorem opB0 {f:Value→Value→Sem Value} {g:Int→Int→Bool}
    (rule:∀ (i j:Int) (t u:Tok) (s:Shared) (Q:Value→Shared→Prop) (E:Value→Shared→Prop),Q (.bool (g i j)) s→wpAny (model X.prog X.w) X.A (f (.int i t) (.int j u)) Q E s) :
    OpR X f (rI0 fun i j=>.bl (g i j)):=by
  intro pins s σ H x y v u Q I rx ry h
  obtain ⟨i,j,rfl,rfl,q⟩:=h
  obtain ⟨t,rfl⟩:=rx
  obtain ⟨t',rfl⟩:=ry
  exact rule i j t t' s _ _ ⟨.bl (g i j),H,I,rfl,q⟩
noncomputable def CPow (i j:Int):Prop:=0≤j∧j≤1000000∧i.natAbs < 2 ^ 64
theorem op_add:OpR X (binaryOp .Add) (rI0 fun i j=>.int (i + j)):=opI0 fun _ _ _ _ _ _ _ q=>add_int q
theorem op_sub:OpR X (binaryOp .Sub) (rI0 fun i j=>.int (i - j)):=opI0 fun _ _ _ _ _ _ _ q=>sub_int q
theorem op_mod:OpR X (binaryOp .Mod) (rI (fun _ j=>0 < j) fun i j=>.int (i % j)):=opI fun i j _ _ _ _ _ hc q=>by
  have h1:(0:Int) < j:=hc
  exact mod_int' (by omega) (by rw [Int.fmod_eq_emod_of_nonneg i (by omega)]; exact q)
theorem op_pow:OpR X (binaryOp .Pow) (rI CPow fun i j=>.int (i ^ j.toNat)):=opI fun _ _ _ _ _ _ _ hc q=>pow_int_small hc.1 hc.2.1 hc.2.2 q
theorem unI {f:Value→Sem Value} {g:Int→Int}
    (rule:∀ (i:Int) (t:Tok) (s:Shared) (Q:Value→Shared→Prop) (E:Value→Shared→Prop),Q (.int (g i) s.toks) { s with toks:=s.toks + 1 }→wpAny (model X.prog X.w) X.A (f (.int i t)) Q E s) :
    UnR X f (rU fun i=>.int (g i)):=by
  intro pins s σ H x v Q I rx h
  obtain ⟨i,rfl,q⟩:=h
  obtain ⟨t,rfl⟩:=rx
  exact rule i t s _ _ ⟨.int (g i),H,I.tok _,⟨_,rfl⟩,q⟩
theorem un_neg:UnR X (unaryOp .USub) (rU fun i=>.int (-i)):=unI fun _ _ _ _ _ q=>neg_int q
end
section
variable {X:Cx} {a b c:Expr} {ta tb tc:TE} {pos:Pos}
theorem fin_bl {pins:List (Addr × Obj)} {σ:St} {H:Hp} {s:Shared} {Q:VK} {k k':Bool} (I:Inv X pins σ H s) (q:Q (.bl k) H) (e:k=k'):EP X pins σ Q (.bool k') s:=by
  subst e
  exact ⟨.bl k,H,I,rfl,q⟩
theorem op_lt:OpR X (compareOp .Lt) (rI0 fun i j=>.bl (decide (i < j))):=opB0 fun _ _ _ _ _ _ _ q=>lt_int q
theorem op_le:OpR X (compareOp .LtE) (rI0 fun i j=>.bl (decide (i≤j))):=opB0 fun _ _ _ _ _ _ _ q=>le_int q
theorem op_gt:OpR X (compareOp .Gt) (rI0 fun i j=>.bl (decide (j < i))):=opB0 fun _ _ _ _ _ _ _ q=>gt_int q
theorem op_ge:OpR X (compareOp .GtE) (rI0 fun i j=>.bl (decide (j≤i))):=opB0 fun _ _ _ _ _ _ _ q=>ge_int q
theorem op_isN:OpR X (compareOp .Is) (fun x y H Q=>y=.non∧Q (.bl (decide (x=.non))) H):=by
  intro pins s σ H x y v u Q I rx ry h
  obtain ⟨rfl,q⟩:=h
  cases ry
  refine is_none_gen (fin_bl I q ?_)
  cases x <;> first
    | (cases rx; rfl)
    | (obtain ⟨t,rfl⟩:=rx; rfl)
theorem nomark (b:Expr) {op:CmpOp} (h:op≠.In:=by decide) (h2:op≠.NotIn:=by decide):behindInMarks op b=false:=by
  have e1:(op == CmpOp.In)=false:=by cases op <;> first | rfl | exact absurd rfl h
  have e2:(op == CmpOp.NotIn)=false:=by cases op <;> first | rfl | exact absurd rfl h2
  cases b <;> simp [behindInMarks,e1,e2]
theorem pe_cmpR {op:CmpOp} {r:R2} (ho:OpR X (compareOp op) r) (ha:PE X a ta) (hb:PE X b tb) (hm:behindInMarks op b=false):PE X (.Compare a [op] [b] pos) (tOp r ta tb):=by
  intro pins s σ H Q I h
  exact wpAny_Compare1 (binT ha hb I h fun v u s2 x y H2 I2 rx ry q=>ho pins s2 σ H2 x y v u Q I2 rx ry q) hm
noncomputable def tTest (t:TE):TT:=fun σ H Q=>t σ H fun x H'=>∃ k,x=.bl k∧Q k H'
theorem pt_cmpR {op:CmpOp} {r:R2} (ho:OpR X (compareOp op) r) (ha:PE X a ta) (hb:PE X b tb) (hm:behindInMarks op b=false):PT X (.Compare a [op] [b] pos) (tTest (tOp r ta tb)):=by
  intro pins s σ H Q I h
  refine wpAny_isTrue_Compare1 (thn (ha pins s σ H _ I h) fun v s1 ⟨x,H1,I1,r1,q1⟩=>thn (hb pins s1 σ H1 _ I1 q1) fun u s2 ⟨y,H2,I2,r2,q2⟩ =>
    thn (ho pins s2 σ H2 x y v u _ I2 r1 r2 q2) fun c s3 ⟨z,H3,I3,r3,k,e,q3⟩=>?_) hm
  subst e
  cases r3
  exact wpAny_truthy_bool ⟨H3,I3,q3⟩
noncomputable def tChain (r r':R2) (ta tb tc:TE):TE:=fun σ H Q=>ta σ H fun x H1=>tb σ H1 fun y H2=>r x y H2 fun z H3=>∃ k,z=.bl k ∧
  (if k=true then tc σ H3 fun w' H4=>r' y w' H4 Q else Q (.bl false) H3)
theorem pt_chain {op op':CmpOp} {r r':R2} (ho:OpR X (compareOp op) r) (ho':OpR X (compareOp op') r') (ha:PE X a ta) (hb:PE X b tb) (hc:PE X c tc)
    (hm:lastMarks [op,op'] [b,c]=false:=by with_unfolding_all rfl):PT X (.Compare a [op,op'] [b,c] pos) (tTest (tChain r r' ta tb tc)):=by
  intro pins s σ H Q I h
  refine isTrue_chain (thn (ha pins s σ H _ I h) fun v s1 ⟨x,H1,I1,r1,q1⟩=>test_link (thn (hb pins s1 σ H1 _ I1 q1) fun u s2 ⟨y,H2,I2,r2,q2⟩ =>
    thn (ho pins s2 σ H2 x y v u _ I2 r1 r2 q2) fun d s3 ⟨z,H3,I3,r3,k,e,q3⟩=>?_)) hm
  subst e
  cases r3
  refine wpAny_truthy_bool ?_
  cases k with
  | false =>
    obtain ⟨k',e',q'⟩:=q3
    cases e'
    exact ite_ff ⟨H3,I3,q'⟩
  | true =>
    refine ite_tt (test_last (thn (hc pins s3 σ H3 _ I3 q3) fun w' s4 ⟨z',H4,I4,r4,q4⟩=>thn (ho' pins s4 σ H4 y z' u w' _ I4 r2 r4 q4) fun d' s5 ⟨z2,H5,I5,r5,k2,e2,q5⟩=>?_))
    subst e2
    cases r5
    exact wpAny_truthy_bool ⟨H5,I5,q5⟩
theorem line63:(sizeLine:Nat) < 2 ^ 63:=by rw [sizeLine_eq]; decide
theorem vals1 {x:V} {us:List Value} (r:Vals [x] us):∃ u,us=[u]∧RelV x u:=by
  cases r with
  | cons r1 r2=>cases r2; exact ⟨_,rfl,r1⟩
theorem vals2 {x y:V} {us:List Value} (r:Vals [x,y] us):∃ u w',us=[u,w']∧RelV x u∧RelV y w':=by
  cases r with
  | cons r1 r2 =>
    cases r2 with
    | cons r3 r4=>cases r4; exact ⟨_,_,rfl,r1,r3⟩
theorem call_max2 (hc:X.calm=true):CallR X (.builtin "max") (fun xs H Q=>∃ i j,xs=[.int i,.int j]∧Q (.int (if j > i then j else i)) H):=by
  intro pins s σ H xs us Q I r h
  obtain ⟨i,j,rfl,q⟩:=h
  obtain ⟨u,w',rfl,⟨t,rfl⟩,⟨t',rfl⟩⟩:=vals2 r
  refine max_two_ints (I.ok.hd hc) fun h' tk k=>⟨_,H,I.kept k, ?_,q⟩
  by_cases hj:j > i
  · rw [if_pos hj,if_pos hj]; exact ⟨_,rfl⟩
  · rw [if_neg hj,if_neg hj]; exact ⟨_,rfl⟩
theorem call_int1:CallR X (.type "int") (fun xs H Q=>(∃ i,xs=[.int i]∧Q (.int i) H) ∨ ∃ k,xs=[.bl k]∧Q (.int (if k then 1 else 0)) H):=by
  intro pins s σ H xs us Q I r h
  rcases h with ⟨i,rfl,q⟩ | ⟨k,rfl,q⟩
  · obtain ⟨u,rfl,t,rfl⟩:=vals1 r
    exact call_int_int ⟨.int i,H,I,⟨_,rfl⟩,q⟩
  · obtain ⟨u,rfl,r1⟩:=vals1 r
    cases r1
    exact call_int_bool ⟨.int (if k then 1 else 0),H,I.tok _,⟨_,rfl⟩,q⟩
end
end L2
namespace L2
open PySem PySem.Spec PyProof.Rows
theorem lookIn_ns {h:Heap} {dx:Addr} {mA:Str→Option Value} (n:h.Ns1 dx mA):∃ od,h.get? dx=some od∧∀ name,PySem.W.lookIn name od=some (mA name):=by
  obtain ⟨o,es,ep,ho,hd,hk,_,hm⟩:=n
  refine ⟨o,ho,fun name=>?_⟩
  have e:=hm name
  unfold nsFind findBy at e
  rw [← Array.find?_toList] at e
  unfold PySem.W.lookIn
  rw [hd]
  dsimp only
  split
  · rename_i y q
    rw [q] at e
    exact congrArg some e
  · rename_i q
    rw [q] at e
    have a:es.toList.any (·.refKey)=false:=by
      rw [List.any_eq_false]
      intro y hy
      obtain ⟨z,t,hkey⟩:=hk y (Array.mem_toList_iff.mp hy)
      simp [DictEntry.refKey,hkey]
    have a':¬ es.toList.any (·.refKey)=true:=by rw [a]; exact Bool.false_ne_true
    rw [if_neg a']
    exact congrArg some e
section
variable {prog:Program} {w:World} {A:Around} {E:Value→Shared→Prop} {s:Shared} {K:PySem.W.Frag} {x dx C f:Addr} {mA:Str→Option Value} {name:Str} {v:Value}
end
theorem RelO.some_of {v:V} {o:Option Value} (r:RelO (some v) o):∃ u,o=some u∧RelV v u:=by
  cases o with
  | none=>exact (show False from r).elim
  | some u=>exact ⟨u,rfl,r⟩
theorem handed_of {v:V} {u:Value} (r:RelV v u):PySem.W.handedIn u=true:=by
  cases v with
  | non=>cases (show u=Value.none from r); rfl
  | bl b=>cases (show u=Value.bool b from r); rfl
  | int i=>obtain ⟨t,e⟩:=(show ∃ t,u=Value.int i t from r); cases e; rfl
  | str x=>obtain ⟨t,e⟩:=(show ∃ t,u=Value.str x t from r); cases e; rfl
  | byt b=>obtain ⟨t,e⟩:=(show ∃ t,u=Value.bytes b t from r); cases e; rfl
  | flt b=>obtain ⟨t,e⟩:=(show ∃ t,u=Value.float b t from r); cases e; rfl
  | ref a=>cases (show u=Value.ref a from r); rfl
  | ty n=>cases (show u=Value.type n from r); rfl
section
variable {P:Program} {w:World} {H H':Hp} {h h':Heap} {a C dx:Addr} {fs fs':List (Str × V)}
end
structure Cls (K:PySem.W.Frag) (C:Addr):Prop where
  pg:PySem.W.plainGet K C Str.empty=true
  hd:PySem.W.hasDictIn K C=true
  po:PySem.W.plainOver K C=true
  sa:PySem.W.findIn K (.ref C) "__setattr__"=some (some (.builtin "object.__setattr__"))
section
variable {X:Cx} {pins:List (Addr × Obj)} {σ:St} {H:Hp} {s:Shared} {a C dx:Addr} {fs:List (Str × V)} {f:Str} {v:V} {A:Around} {E:Value→Shared→Prop}
theorem attr_of {prog:Program} {w:World} {env:Env} {e:Expr} {f:Str} {pos:Pos} {s:Shared} {Q:Value→Shared→Prop} (hb:attributeBase e f env (eval e env)=eval e env)
    (h:wpAny (model prog w) A (eval e env) (fun o s₁=>wpAny (model prog w) A (getAttr o f true) Q E s₁) E s):wpAny (model prog w) A (eval (.Attribute e f pos) env) Q E s :=
  Attribute_any_ h (by rw [arm_eval_Attribute,hb])
end
section
variable {X:Cx} {o e value:Expr} {f:Str} {pos pos' tpos:Pos} {ta tv:TE}
end
section
variable {X:Cx} {pins:List (Addr × Obj)} {σ:St} {H:Hp} {s:Shared} {A:Around} {E:Value→Shared→Prop} {Q:Value→Shared→Prop} {c:Value} {b:Bool}
end
end L2
namespace L2
open PySem PySem.Spec PyProof.Rows
structure Room (k:Nat) (A:Around):Prop where
  hd:A.handled=none
  dp:A.depth + 3 * k + 5 < recursionLimit
  un:A.units + 16 * k + 200 < cLine
theorem Room.mono {j k:Nat} {A:Around} (r:Room k A) (h:j≤k):Room j A:=⟨r.hd,by have:=r.dp; omega,by have:=r.un; omega⟩
theorem Room.deeper {k:Nat} {A:Around} (r:Room (k + 1) A) (env:Env):Room k (A.deeper env) :=
  ⟨r.hd,by have:=r.dp; show A.depth + 1 + 3 * k + 5 < _; omega,by have:=r.un; show A.units + 3 + 16 * k + 200 < _; omega⟩
theorem make_depth {A:Around} {C:Addr} {us:List Value} {kw:List (Str × Value)}:(A.under (.builtin "type.__call__" ⟨.ref C :: us,kw⟩)).depth=A.depth + 1:=by
  first | rfl | simp [Around.under,Code.weight,Code.isCreation,Code.isGuard,Code.isCaller,Code.frames,Code.isFrame,guardIds]
theorem make_units {A:Around} {C:Addr} {us:List Value} {kw:List (Str × Value)}:(A.under (.builtin "type.__call__" ⟨.ref C :: us,kw⟩)).units=A.units + 1:=by
  first | rfl | simp [Around.under,Code.cUnits,Code.frames,Code.isFrame]
theorem Room.make {k:Nat} {A:Around} (r:Room (k + 1) A) (C:Addr) (us:List Value) (kw:List (Str × Value)):Room k (A.under (.builtin "type.__call__" ⟨.ref C :: us,kw⟩)) :=
  ⟨r.hd,by have:=r.dp; rw [make_depth]; omega,by have:=r.un; rw [make_units]; omega⟩
theorem Room.depth {k:Nat} {A:Around} (r:Room k A):A.depth < recursionLimit:=by have:=r.dp; omega
theorem Room.units {k:Nat} {A:Around} (r:Room k A):A.units + 64 < cLine:=by have:=r.un; omega
noncomputable def tNil:TA:=fun _ H Q=>Q [] H
noncomputable def tCons (ta:TE) (tr:TA):TA:=fun σ H Q=>ta σ H fun x H1=>tr σ H1 fun xs H2=>Q (x :: xs) H2
section
variable {X:Cx} {e:Expr} {es:List Expr} {te:TE} {t:TA} {pos:Pos}
theorem pa_nil:PA X [] tNil:=fun _ _ _ _ H Q I h=>Calls.spliced_nil ⟨[],H,I,.nil,h⟩
theorem pa_cons (ha:PE X e te) (hr:PA X es t) (hs:starEach (e :: es) X.env=(false,eval e X.env) :: starEach es X.env:=by rfl):PA X (e :: es) (tCons te t):=by
  intro pos pins s σ H Q I h
  rw [hs]
  show wpAny _ _ (spliced ((false,eval e X.env) :: backTo pos (starEach es X.env))) _ _ s
  refine Calls.spliced_cons (thn (ha pins s σ H _ I h) fun u s1 ⟨x,H1,I1,r1,q1⟩=>?_)
  exact thn (hr pos pins s1 σ H1 _ I1 q1) fun us s2 ⟨xs,H2,I2,r2,q2⟩=>⟨x :: xs,H2,I2,.cons r1 r2,q2⟩
noncomputable def tTup (t:TA):TE:=fun σ H Q=>t σ H fun xs H1=>xs.length≤sizeLine∧∀ p,H1 p=none→Q (.ref p) (upd H1 p (.tup xs))
noncomputable def tLst (t:TA):TE:=fun σ H Q=>t σ H fun xs H1=>xs.length≤sizeLine∧∀ p,H1 p=none→Q (.ref p) (upd H1 p (.lst xs))
theorem pe_tup {x1} (h:PA X es t):PE X (.Tuple es x1 pos) (tTup t):=by
  intro pins s σ H Q I hq
  refine wpAny_Tuple_spliced (thn (h pos pins s σ H _ I hq) fun us s1 ⟨xs,H1,I1,r,z,q⟩=>⟨by rw [← r.length]; exact z, ?_⟩)
  have hf:H1 s1.heap.objs.size=none:=I1.hok.fresh (Nat.le_refl _)
  refine ⟨.ref s1.heap.objs.size,upd H1 s1.heap.objs.size (.tup xs),I1.laid (t':=s1.toks) (fun b u e=>Heap.get?_push_of_some _ e) (Nat.le_refl _) ?_,rfl,q _ hf⟩
  exact ⟨z,us,r,⟨_,Heap.get?_push_size _ rfl,rfl,_,rfl⟩⟩
theorem pe_lst (h:PA X es t):PE X (.List es pos) (tLst t):=by
  intro pins s σ H Q I hq
  refine wpAny_List_spliced (thn (h pos pins s σ H _ I hq) fun us s1 ⟨xs,H1,I1,r,z,q⟩=>⟨by rw [← r.length]; exact z, ?_⟩)
  have hf:H1 s1.heap.objs.size=none:=I1.hok.fresh (Nat.le_refl _)
  refine ⟨.ref s1.heap.objs.size,upd H1 s1.heap.objs.size (.lst xs),I1.laid (t':=s1.toks) (fun b u e=>Heap.get?_push_of_some _ e) (Nat.le_refl _) ?_,rfl,q _ hf⟩
  exact ⟨z,us,0,r,Heap.get?_push_size _ rfl⟩
end
noncomputable abbrev Sp:=List V→Hp→VK→XK→Prop
noncomputable abbrev CXT:=List Env→Hp→Shared→XK→Value→Shared→Prop
structure Env0 (P:Program) (w:World) (K:PySem.W.Frag) (mg:Str→Option Value) (base:Heap) (A:Around) (outer:List Env) (s:Shared) (H:Hp):Prop where
  frames:A.frames=some outer
  mod:Mod K mg base
  bs:∀ b o,base.get? b=some o→s.heap.get? b=some o∧H b=none
  bsz:base.objs.size≤s.heap.objs.size
  funs:s.heap.FunFrames base outer
  frf:∀ b∈frs outer,H b=none
  hok:HOk P w H s.heap
  bare:AllBare s.gens
noncomputable def CE (outer:List Env) (P:Program) (w:World) (H:Hp) (s:Shared) (Q:VK) (u:Value) (s':Shared):Prop :=
  ∃ v H',s'.os=s.os∧AllBare s'.gens∧Un (frs outer) [] H H' s.heap s'.heap∧HOk P w H' s'.heap∧RelV v u∧Q v H'
noncomputable def CR (CX:CXT) (outer:List Env) (P:Program) (w:World) (H:Hp) (s:Shared) (Q:VK) (E:XK) (r:Result) (s':Shared):Prop :=
  match r with
  | .ok (.ret u)=>CE outer P w H s Q u s'
  | .ok _=>False
  | .error e=>CX outer H s E e s'
structure FnOk (P:Program) (w:World) (K:PySem.W.Frag) (mg:Str→Option Value) (base:Heap) (CX:CXT) (k:Nat) (f:Addr) (fd:FuncData) (ps:List Str) (sp:Sp):Prop where
  len:∀ vs H Q E,sp vs H Q E→vs.length=ps.length
  run:∀ (A:Around) (outer:List Env) (s:Shared) (H:Hp) (args:Args) (us:List Value) (vs:List V) (Q:VK) (E:XK),Room k A→Env0 P w K mg base A outer s H→BindsTo s fd args (ps.zip us)→Vals vs us→sp vs H Q E →
    codeAny (model P w) A (.call (.ref f) args) (CR CX outer P w H s Q E) s
theorem Env0.make {P:Program} {w:World} {K:PySem.W.Frag} {mg:Str→Option Value} {base:Heap} {A:Around} {outer:List Env} {s:Shared} {H:Hp} (e:Env0 P w K mg base A outer s H) (C:Addr) (us:List Value) (kw:List (Str × Value)) :
    Env0 P w K mg base (A.under (.builtin "type.__call__" ⟨.ref C :: us,kw⟩)) outer s H:=⟨by first | exact e.frames | (simpa [Around.under,Code.envs,Code.isFrame,pushEnvs] using e.frames),e.mod,e.bs,e.bsz,e.funs,e.frf,e.hok,e.bare⟩
section
variable {X:Cx} {pins:List (Addr × Obj)} {σ:St} {H:Hp} {s s':Shared}
theorem Inv.env0 (I:Inv X pins σ H s):Env0 X.prog X.w X.K X.mg X.base X.A X.stack s H :=
  ⟨I.ok.frames,I.ok.mod,I.bs,Nat.le_trans I.ok.bsz I.sz,I.stack,I.stkFree,I.hok,I.bare⟩
theorem Inv.after {Q:VK} {u:Value} (I:Inv X pins σ H s) (h:CE X.stack X.prog X.w H s Q u s'):EP X pins σ Q u s':=by
  obtain ⟨v,H',os,bare,un,hok,r,q⟩:=h
  obtain ⟨hh,g,d,t,os'⟩:=s'
  obtain rfl:os'=s.os:=os
  exact ⟨v,H',I.call (h':=hh) (g':=g) (d':=d) (t':=t) (ch:=[]) un hok bare (fun b z=>absurd z (by simp)),r,q⟩
end
noncomputable def tCall (sp:Sp) (dvs:List V) (E:XK) (t:TA):TE:=fun σ H Q=>t σ H fun vs H1=>sp (vs ++ dvs) H1 Q E
noncomputable def Binds (K:PySem.W.Frag) (fd:FuncData) (ps:List Str) (ds:List Value):Prop :=
  ∀ (s:Shared) (us:List Value),K.In s.heap→(us ++ ds).length=ps.length→BindsTo s fd ⟨us,[]⟩ (ps.zip (us ++ ds))
theorem Binds.all {K:PySem.W.Frag} {fd:FuncData} {ps:List Str} (h:∀ us:List Value,us.length=ps.length→bindArgs fd ⟨us,[]⟩=pure (ps.zip us)):Binds K fd ps []:=fun s us _ hl=>by
  rw [List.append_nil] at hl ⊢
  exact .of_eq (h us hl)
noncomputable def Passes (CX:CXT) (X:Cx) (E:XK):Prop:=∀ (pins:List (Addr × Obj)) (σ:St) (H:Hp) (s:Shared) (e:Value) (s':Shared),Inv X pins σ H s→CX X.stack H s E e s'→X.xe e s'
section
variable {X:Cx} {CX:CXT} {k:Nat} {f C:Addr} {fd:FuncData} {ps:List Str} {sp:Sp} {dvs:List V} {ds:List Value} {E:XK} {x m:Str} {p pos apos:Pos} {e o:Expr} {es:List Expr} {ta:TE} {t:TA}
theorem run_fn {pins:List (Addr × Obj)} {σ:St} {H:Hp} {s:Shared} {Q:VK} {us:List Value} {vs:List V} (F:FnOk X.prog X.w X.K X.mg X.base CX k f fd ps sp) (hr:Room k X.A) (hb:Binds X.K fd ps ds) (hd:Vals dvs ds) (hx:Passes CX X E)
    (I:Inv X pins σ H s) (r:Vals vs us) (h:sp (vs ++ dvs) H Q E):wpAny (model X.prog X.w) X.A (call (.ref f) us) (EP X pins σ Q) X.xe s:=by
  have r2:Vals (vs ++ dvs) (us ++ ds):=r.append hd
  have hl:(us ++ ds).length=ps.length:=by rw [← r2.length]; exact F.len _ _ _ _ h
  refine wpAny_call (codeAny_mono (F.run X.A X.stack s H ⟨us,[]⟩ (us ++ ds) (vs ++ dvs) Q E hr I.env0 (hb s us I.kIn hl) r2 h) fun r s' hq=>?_)
  cases r with
  | error e=>exact hx pins σ H s e s' I hq
  | ok fl =>
    cases fl with
    | ret u=>exact I.after hq
    | next=>exact False.elim hq
    | brk=>exact False.elim hq
    | cont=>exact False.elim hq
theorem pe_call (F:FnOk X.prog X.w X.K X.mg X.base CX k f fd ps sp) (hr:Room k X.A) (hg:Gl X x) (hm:X.mg x=some (.ref f)) (hk:PySem.W.keepIn X.K (.ref f)=true) (hb:Binds X.K fd ps ds) (hd:Vals dvs ds) (hx:Passes CX X E)
    (ha:PA X (e :: es) t) (hdb:(x == ("__debug__":Str))=false:=by decide) (he:starEach (e :: es) X.env=(false,eval e X.env) :: starEach es X.env:=by rfl) (hpl:(backTo pos (starEach es X.env)).any (·.1)=false:=by rfl) :
    PE X (.Call (.Name x p) (e :: es) [] pos) (tCall sp dvs E t):=by
  intro pins s σ H Q I h
  refine wpAny_Call_Name_kw (ld_glob I hg hm ?_ hdb)
  refine PySem.W.callWith_K (h₀:=X.base) I.ok.mod.kin hk (thn (ha pos pins s σ H _ I h) fun us s1 ⟨vs,H1,I1,r,q⟩=>⟨I1.kIn, ?_⟩) he hpl
  exact run_fn F hr hb hd hx I1 r q
theorem pe_call0 (F:FnOk X.prog X.w X.K X.mg X.base CX k f fd ps sp) (hr:Room k X.A) (hg:Gl X x) (hm:X.mg x=some (.ref f)) (hk:PySem.W.keepIn X.K (.ref f)=true) (hb:Binds X.K fd ps ds) (hd:Vals dvs ds) (hx:Passes CX X E)
    (hdb:(x == ("__debug__":Str))=false:=by decide):PE X (.Call (.Name x p) [] [] pos) (tCall sp dvs E tNil):=by
  intro pins s σ H Q I h
  refine wpAny_Call_Name_kw (ld_glob I hg hm ?_ hdb)
  exact PySem.W.callWith_K0 I.kIn hk (run_fn (us:=[]) F hr hb hd hx I .nil h)
end
section
variable {X:Cx} {CX:CXT} {k:Nat} {f C:Addr} {fd:FuncData} {ps ks:List Str} {sp:Sp} {E:XK} {x m:Str} {p pos apos kpos:Pos} {e o:Expr} {es:List Expr} {kws:List Keyword} {te ta:TE} {t tk:TA} {nm:Option Str}
variable {g:List Value→List Value→List Value} {gV:List V→List V→List V}
end
structure FnScope (N P:List Str) (sc:Scope):Prop where
  kind:sc.kind=.function
  co:sc.isCoroutine=false
  gen:sc.isGenerator=false
  nd:N.Nodup
  pre:N.take P.length=P
  par:∀ x∈P,sc.names.lookup x=some .local ∨ sc.names.lookup x=some .cell
  nofree:∀ y∈sc.names,y.2≠.free
theorem bindL_out {kindOf:Str→Option NameKind} {x:Str}:∀ {binds:List (Str × Value)} {m:Str→Option Value},(∀ v,(x,v) ∉ binds)→bindL kindOf binds m x=m x
  | [],_,_=>rfl
  | (n,v) :: r,m,h=>by
    unfold bindL
    rw [bindL_out fun w hw=>h w (List.mem_cons_of_mem _ hw)]
    split
    · have:x≠n:=by rintro rfl; exact h v List.mem_cons_self
      simp [this]
    · rfl
theorem bindC_out {kindOf:Str→Option NameKind} {x:Str}:∀ {binds:List (Str × Value)} {m:Str→Option Value},(∀ v,(x,v) ∉ binds)→bindC kindOf binds m x=m x
  | [],_,_=>rfl
  | (n,v) :: r,m,h=>by
    unfold bindC
    rw [bindC_out fun w hw=>h w (List.mem_cons_of_mem _ hw)]
    split
    · rfl
    · have:x≠n:=by rintro rfl; exact h v List.mem_cons_self
      simp [this]
theorem bindL_get {kindOf:Str→Option NameKind} {x:Str} {v:Value}:∀ {P:List Str} {vs:List Value} {i:Nat} {m:Str→Option Value},P.Nodup→P[i]?=some x→vs[i]?=some v→kindOf x=some .local →
    bindL kindOf (P.zip vs) m x=some v
  | [],_,_,_,_,h,_,_=>by simp at h
  | _ :: _,[],_,_,_,_,h,_=>by simp at h
  | p :: P,w :: vs,0,m,nd,h1,h2,hk=>by
    simp at h1 h2; subst h1; subst h2
    show bindL kindOf ((p,w) :: P.zip vs) m p=_
    unfold bindL
    rw [bindL_out fun v hv=>(List.nodup_cons.mp nd).1 (List.of_mem_zip hv).1,if_pos hk]
    simp
  | p :: P,w :: vs,i + 1,m,nd,h1,h2,hk=>by
    show bindL kindOf ((p,w) :: P.zip vs) m x=_
    unfold bindL
    exact bindL_get (i:=i) (List.nodup_cons.mp nd).2 (by simpa using h1) (by simpa using h2) hk
theorem bindC_get {kindOf:Str→Option NameKind} {x:Str} {v:Value}:∀ {P:List Str} {vs:List Value} {i:Nat} {m:Str→Option Value},P.Nodup→P[i]?=some x→vs[i]?=some v→kindOf x≠some .local →
    bindC kindOf (P.zip vs) m x=some v
  | [],_,_,_,_,h,_,_=>by simp at h
  | _ :: _,[],_,_,_,_,h,_=>by simp at h
  | p :: P,w :: vs,0,m,nd,h1,h2,hk=>by
    simp at h1 h2; subst h1; subst h2
    show bindC kindOf ((p,w) :: P.zip vs) m p=_
    unfold bindC
    rw [bindC_out fun v hv=>(List.nodup_cons.mp nd).1 (List.of_mem_zip hv).1,if_neg hk]
    simp
  | p :: P,w :: vs,i + 1,m,nd,h1,h2,hk=>by
    show bindC kindOf ((p,w) :: P.zip vs) m x=_
    unfold bindC
    exact bindC_get (i:=i) (List.nodup_cons.mp nd).2 (by simpa using h1) (by simpa using h2) hk
noncomputable def start (N:List Str) (vs:List V):St:=vs.map some ++ List.replicate (N.length - vs.length) none
noncomputable def cxOf (CX:CXT) (P:Program) (w:World) (K:PySem.W.Frag) (mg:Str→Option Value) (base:Heap) (N:List Str) (qual:Str) (scope:Scope) (f:Addr) (cd:Value) (A:Around) (outer:List Env) (s:Shared) (H:Hp) (E:XK):Cx where
  prog:=P
  w:=w
  K:=K
  mg:=mg
  base:=base
  A:=A.deeper (envOfC qual scope s.heap.objs.size f cd)
  N:=N
  s₀:=s
  H₀:=H
  env:=envOfC qual scope s.heap.objs.size f cd
  outer:=outer
  stack:=envOfC qual scope s.heap.objs.size f cd :: outer
  ex:=[]
  calm:=true
  fn:=fun _=>true
  pn:=[]
  xe:=fun e s'=>wpAny (model P w) (A.deeper (envOfC qual scope s.heap.objs.size f cd)) (leaving (envOfC qual scope s.heap.objs.size f cd) e) (fun _ s''=>CX outer H s E e s'') (fun e' s''=>CX outer H s E e' s'') s'
theorem cell_has {sc:Scope} {n:Nat} {x:Str} (h:sc.names.lookup x=some .cell):∃ c,(cellsFrom n sc.names []).lookup x=some c:=by
  have q:=PySem.W.cellsFrom_some sc.names n [] (.inl h)
  exact Option.isSome_iff_exists.mp q
theorem inv_start {CX:CXT} {P:Program} {w:World} {K:PySem.W.Frag} {mg:Str→Option Value} {base:Heap} {N ps:List Str} {qual:Str} {scope:Scope} {f:Addr} {cd:Value} {A:Around} {outer:List Env} {s s1:Shared} {H:Hp} {E:XK} {us:List Value} {vs:List V}
    (S:FnScope N ps scope) (hd:A.handled=none) (e0:Env0 P w K mg base A outer s H) (hl:vs.length=ps.length) (r:Vals vs us)
    (x:InCallC s s.heap.objs.size (bindL (envOfC qual scope s.heap.objs.size f cd).kindOf (ps.zip us) fun _=>none) (cellsFrom (s.heap.objs.size + 1) scope.names []) (bindC (envOfC qual scope s.heap.objs.size f cd).kindOf (ps.zip us) fun _=>none) s1) :
    Inv (cxOf CX P w K mg base N qual scope f cd A outer s H E) [] (start N vs) H s1:=by
  have hpl:ps.length≤N.length:=by have:=congrArg List.length S.pre; rw [List.length_take] at this; omega
  obtain ⟨h1,tk,rfl,hk⟩:=x.done
  have noA:∀ b:Addr,b ∉ (cxOf CX P w K mg base N qual scope f cd A outer s H E).ex:=fun b z=>absurd (show b∈([]:List Addr) from z) (by simp)
  refine ⟨⟨e0.mod,S.kind,rfl,rfl,Nat.le_refl _,fun y z c h1 h2=>?_,fun y hy=>?_,fun y c _ h=>?_,fun _=>hd,Around.frames_deeper e0.frames,.inr ⟨rfl,rfl⟩,fun b z=>absurd z (noA b),e0.bs,e0.bsz,fun b _ _=>noA b,fun b z=>absurd z (noA b),e0.funs,e0.frf⟩,
    rfl,e0.bare,Un.kept hk,⟨_,x.toInCall.ns,fun i y v h1 h2 h3=>?_⟩,fun y c h=>⟨_,x.cell y c h⟩,e0.hok.fresh (Nat.le_refl _),fun y c h=>?_,fun p hp=>absurd (show p∈([]:List (Addr × Obj)) from hp) (by simp),e0.hok.kept hk, ?_⟩
  · exact name_of_addr x.apart (PySem.mem_of_lookup h1) (PySem.mem_of_lookup h2)
  · have hy:scope.names.lookup y=some .cell ∨ scope.names.lookup y=some .free:=hy
    rcases hy with hy | hy
    · exact cell_has hy
    · exact absurd rfl (S.nofree _ (PySem.mem_of_lookup hy))
  · exact Nat.le_of_lt (x.above y c (PySem.mem_of_lookup h))
  · have hi:i < vs.length:=by
      unfold start at h2
      by_cases hi:i < vs.length
      · exact hi
      · rw [List.getElem?_append_right (by simpa using hi)] at h2
        rw [List.getElem?_replicate] at h2
        split at h2 <;> cases h2
    have ha:vs[i]?=some v:=by
      unfold start at h2
      rw [List.getElem?_append_left (by simpa using hi),List.getElem?_map] at h2
      cases e:vs[i]? with
      | none=>rw [e] at h2; cases h2
      | some a=>rw [e] at h2; cases h2; rfl
    obtain ⟨u,hu,rv⟩:=r.get ha
    have hp:ps[i]?=some y:=by
      rw [← S.pre,List.getElem?_take_of_lt (by omega)]; exact h1
    have ndP:ps.Nodup:=by rw [← S.pre]; exact S.nd.sublist (List.take_sublist _ _)
    refine ⟨u,rv, ?_⟩
    rcases S.par y (List.mem_of_getElem? hp) with k | k
    · exact .inl ⟨k,bindL_get ndP hp hu k⟩
    · obtain ⟨c,e⟩:=cell_has (n:=s.heap.objs.size + 1) k
      refine .inr ⟨.inl k,c,e, ?_⟩
      have q:=x.cell y c e
      rw [bindC_get ndP hp hu (by show scope.names.lookup y≠_; rw [k]; decide)] at q
      exact q
  · exact e0.hok.fresh (Nat.le_of_lt (x.above y c (PySem.mem_of_lookup h)))
  · unfold start
    show _=N.length
    rw [List.length_append,List.length_map,List.length_replicate]
    omega
theorem fn_of {CX:CXT} {P:Program} {w:World} {K:PySem.W.Frag} {mg:Str→Option Value} {base:Heap} {k:Nat} {f:Addr} {name qual:Str} {params:Arguments} {body:List Stmt} {scope:Scope} {dV kV doc pm cdv ct oc:Value} {an od:Option Addr}
    {osl:Array (Option Value)} {N ps:List Str} {sp:Sp} (lk:K.lookup f=some ⟨oc,od,.func (PySem.W.fnOf name qual params body scope dV kV doc pm an cdv ct),osl⟩) (hcd:PySem.W.codeIn K cdv qual=true) (S:FnScope N ps scope)
    (len:∀ vs H Q E,sp vs H Q E→vs.length=ps.length)
    (hbody:∀ (A:Around) (outer:List Env) (s:Shared) (H:Hp) (vs:List V) (Q:VK) (E:XK),Room k (A.deeper (envOfC qual scope s.heap.objs.size f cdv))→sp vs H Q E →
      ∃ t,PSs (cxOf CX P w K mg base N qual scope f cdv A outer s H E) body t∧t { nx:=fun _ H'=>Q .non H',rt:=Q } (start N vs) H) :
    FnOk P w K mg base CX (k + 1) f (PySem.W.fnOf name qual params body scope dV kV doc pm an cdv ct) ps sp:=by
  refine ⟨len,fun A outer s H args us vs Q E hr e0 hb r hsp=>?_⟩
  have hl:=len _ _ _ _ hsp
  have KX:K.In s.heap:=e0.mod.kin.keeps fun b o e=>(e0.bs b o e).1
  have lim:s.heap.NoLimit:=e0.mod.nolimit.keeps fun b o e=>(e0.bs b o e).1
  have hkind:∀ y∈ps.zip us,scope.names.lookup y.1=some .local ∨ (scope.names.lookup y.1=some .cell∧((cellsFrom (s.heap.objs.size + 1) scope.names []).lookup y.1).isSome=true):=fun ⟨n,v⟩ hy=>by
    rcases S.par n (List.of_mem_zip hy).1 with q | q
    · exact .inl q
    · exact .inr ⟨q,PySem.W.cellsFrom_some _ _ _ (.inl q)⟩
  refine codeAny_call_function hr.depth (KX _ _ lk) rfl S.co S.gen rfl (PySem.W.codeRec_of KX hcd) (hb _ _ _ _ ?_)
  refine wpAny_newFunctionEnv_cells S.kind hkind fun env he s1 x=>?_
  subst he
  refine ⟨lim.keeps x.toInCall.keep,codeAny_func ?_⟩
  obtain ⟨t,ht,hq⟩:=hbody A outer s H vs Q E (hr.deeper _) hsp
  have I:Inv (cxOf CX P w K mg base N qual scope f cdv A outer s H E) [] (start N vs) H s1:=inv_start S hr.hd e0 hl r x
  refine wpAny_mono (ht [] s1 (start N vs) H _ I hq) (fun fl s' hs=>?_) fun e s' hs=>hs
  have fin:∀ {σ':St} {H':Hp} {v:V} {u:Value},Inv (cxOf CX P w K mg base N qual scope f cdv A outer s H E) [] σ' H' s'→RelV v u→Q v H'→CE outer P w H s Q u s' :=
    fun {σ' H' v u} J rv q=>⟨v,H',J.os,J.bare,J.base,J.hok,rv,q⟩
  cases fl with
  | ret u =>
    obtain ⟨v,σ',H',J,rv,q⟩:=hs
    exact fin J rv q
  | next =>
    obtain ⟨σ',H',J,q⟩:=hs
    exact fin (v:=V.non) (u:=Value.none) J rfl q
  | brk =>
    obtain ⟨_,_,_,q⟩:=hs
    exact False.elim q
  | cont =>
    obtain ⟨_,_,_,q⟩:=hs
    exact False.elim q
end L2
namespace L2
open PySem PySem.Spec PyProof.Rows
section
variable {X:Cx} {x:Str} {p pos:Pos} {e:Expr} {es:List Expr} {t:TA} {id T:String} {r:List V→Hp→VK→Prop}
noncomputable def tCB (r:List V→Hp→VK→Prop) (t:TA):TE:=fun σ H Q=>t σ H fun vs H1=>r vs H1 Q
theorem pe_callB (hc:CallR X (.builtin id) r) (hg:Gl X x) (hm:X.mg x=none) (hv:bootBuiltins x=some (.builtin id)) (ha:PA X (e :: es) t) (hn:x ≠ "__name__":=by decide) (hdb:(x == ("__debug__":Str))=false:=by decide)
    (he:starEach (e :: es) X.env=(false,eval e X.env) :: starEach es X.env:=by rfl) (hpl:(backTo pos (starEach es X.env)).any (·.1)=false:=by rfl):PE X (.Call (.Name x p) (e :: es) [] pos) (tCB r t):=by
  intro pins s σ H Q I h
  refine wpAny_Call_Name_kw (ld_blt I hg hm hv ?_ hn hdb)
  exact PyProof.Rows.callWith_builtin1 (thn (ha pos pins s σ H _ I h) fun us s1 ⟨vs,H1,I1,r1,q1⟩=>hc pins s1 σ H1 vs us Q I1 r1 q1) he hpl
theorem pe_callTy (hc:CallR X (.type T) r) (hg:Gl X x) (hm:X.mg x=none) (hv:bootBuiltins x=some (.type T)) (ha:PA X (e :: es) t) (hn:x ≠ "__name__":=by decide) (hdb:(x == ("__debug__":Str))=false:=by decide)
    (he:starEach (e :: es) X.env=(false,eval e X.env) :: starEach es X.env:=by rfl) (hpl:(backTo pos (starEach es X.env)).any (·.1)=false:=by rfl):PE X (.Call (.Name x p) (e :: es) [] pos) (tCB r t):=by
  intro pins s σ H Q I h
  refine wpAny_Call_Name_kw (ld_blt I hg hm hv ?_ hn hdb)
  exact PyProof.Rows.callWith_type1 (thn (ha pos pins s σ H _ I h) fun us s1 ⟨vs,H1,I1,r1,q1⟩=>hc pins s1 σ H1 vs us Q I1 r1 q1) he hpl
end
end L2
namespace HT
open PySem PyProof.Rows
section
open PySem.SeqAt
open PySem.AutoSeq1 (wpAny_loadPart')
open PySem.MeetsSeq PySem.MeetsSeq2 PySem.MeetsSeq3
end
section
variable {prog:Program} {w:World} {A:Around} {E:Value→Shared→Prop} {s:Shared}
noncomputable def sIx (n d:Nat):Option Int→Nat
  | none=>d
  | some v=>if v < 0 then (v + (n:Int)).toNat else min v.toNat n
end
end HT
namespace L2
open PySem PySem.Spec PyProof.Rows
noncomputable abbrev TO:=St→Hp→(Option Int→Hp→Prop)→Prop
noncomputable def PO (X:Cx) (e:Option Expr) (t:TO):Prop :=
  ∀ (pins:List (Addr × Obj)) (s:Shared) (σ:St) (H:Hp) (Q:Option Int→Hp→Prop),Inv X pins σ H s→t σ H Q →
    wpAny (model X.prog X.w) X.A (evalPart e X.env) (fun u s'=>∃ o H',Inv X pins σ H' s'∧IsPart u o∧Q o H') X.xe s
noncomputable def tNoPart:TO:=fun _ H Q=>Q none H
noncomputable def tPart (t:TE):TO:=fun σ H Q=>t σ H fun x H1=>∃ i,x=.int i∧Q (some i) H1
theorem intsAre_of {ns:List Int}:∀ {us:List Value},Vals (ns.map V.int) us→IntsAre us ns:=by
  induction ns with
  | nil=>intro us r; rw [List.map_nil] at r; cases r; exact .nil
  | cons n ns ih =>
    intro us r
    rw [List.map_cons] at r
    cases r with
    | cons r1 r2 =>
      obtain ⟨t,e⟩:=r1
      subst e
      exact .cons n t (ih r2)
section
variable {X:Cx} {e:Expr} {te:TE} {lo hi:Option Expr} {tl th:TO} {pos p2:Pos}
theorem po_none:PO X none tNoPart:=by
  intro pins s σ H Q I h
  rw [evalPart_none]
  exact wpAny_pure ⟨none,H,I,.none,h⟩
theorem po_some (h:PE X e te):PO X (some e) (tPart te):=by
  intro pins s σ H Q I hw
  rw [evalPart_some]
  refine thn (h pins s σ H _ I hw) fun u s1 ⟨x,H1,I1,r1,q1⟩=>?_
  obtain ⟨i,rfl,q⟩:=q1
  obtain ⟨t,rfl⟩:=r1
  exact ⟨some i,H1,I1,.int i t,q⟩
noncomputable def SlR (X:Cx) (r:V→Option Int→Option Int→Hp→VK→Prop):Prop :=
  ∀ (pins:List (Addr × Obj)) (s:Shared) (σ:St) (H:Hp) (x:V) (v vl vu:Value) (lo hi:Option Int) (sl:Addr) (Q:VK),Inv X pins σ H s→RelV x v→s.heap.IsSliceOf sl vl vu .none→IsPart vl lo→IsPart vu hi→r x lo hi H Q →
    ∃ T id,typeLookup (.type T) "__getitem__"=pure (some (.builtin id))∧s.TypeIs v T∧wpAny (model X.prog X.w) X.A (getItem v (.ref sl)) (EP X pins σ Q) X.xe s
noncomputable def tSl (r:V→Option Int→Option Int→Hp→VK→Prop) (te:TE) (tl th:TO):TE:=fun σ H Q=>te σ H fun x H1=>tl σ H1 fun l H2=>th σ H2 fun u H3=>r x l u H3 Q
theorem pe_slice {r:V→Option Int→Option Int→Hp→VK→Prop} (hr:SlR X r) (he:PE X e te) (hl:PO X lo tl) (hu:PO X hi th):PE X (.Subscript e (.Slice lo hi none p2) pos) (tSl r te tl th):=by
  intro pins s σ H Q I h
  refine Subscript_ (thn (he pins s σ H _ I h) fun v s1 ⟨x,H1,I1,r1,q1⟩=>?_)
  refine wpAny_Slice (thn (hl pins s1 σ H1 _ I1 q1) fun vl s2 ⟨l,H2,I2,pl,q2⟩=>thn (hu pins s2 σ H2 _ I2 q2) fun vu s3 ⟨u,H3,I3,pu,q3⟩=>?_)
  rw [evalPart_none]
  refine wpAny_pure ?_
  have I4:Inv X pins σ H3 { s3 with heap:=s3.heap.push { cls:=.type "slice",data:=.fields #[vl,vu,.none] } }:=I3.kept (t':=s3.toks) fun b ob q=>Heap.get?_push_of_some _ q
  obtain ⟨T,id,hT,ht,hg⟩:=hr pins { s3 with heap:=s3.heap.push { cls:=.type "slice",data:=.fields #[vl,vu,.none] } } σ H3 x v vl vu l u s3.heap.objs.size Q I4 r1 (Heap.IsSliceOf.new ..) pl pu q3
  show wpAny (model X.prog X.w) X.A (subscriptTail e (.Slice lo hi none p2) v (.ref s3.heap.objs.size)) (EP X pins σ Q) X.xe { s3 with heap:=s3.heap.push { cls:=.type "slice",data:=.fields #[vl,vu,.none] } }
  exact tail_any (ops:=[.ref s3.heap.objs.size,v]) ht hT hg (by with_unfolding_all rfl)
noncomputable def cutV (xs:List V) (lo hi:Option Int):List V:=(xs.drop (HT.sIx xs.length 0 lo)).take (HT.sIx xs.length xs.length hi - HT.sIx xs.length 0 lo)
theorem cutV_length (xs:List V) (lo hi:Option Int):(cutV xs lo hi).length≤xs.length:=by
  unfold cutV
  rw [List.length_take,List.length_drop]
  omega
end
end L2
namespace L2
open PySem PySem.Spec PyProof.Rows
noncomputable def ixN (n:Nat) (i:Int):Option Nat:=if 0≤i then (if i < n then some i.toNat else none) else if -(n:Int)≤i then some (i + n).toNat else none
noncomputable def atI {α:Type} (xs:List α) (i:Int):Option α:=(ixN xs.length i).bind fun j=>xs[j]?
theorem ixN_seq {n:Nat} {i:Int} {j:Nat} (h:ixN n i=some j):seqIndex? i n=some j∧j < n∧-(n:Int)≤i∧i < n:=by
  unfold ixN at h
  by_cases h0:0≤i
  · rw [if_pos h0] at h
    by_cases h1:i < n
    · rw [if_pos h1] at h
      have e:i.toNat=j:=Option.some.inj h
      exact ⟨by rw [seqIndex_of h0 h1,e],by omega,by omega,h1⟩
    · rw [if_neg h1] at h; cases h
  · rw [if_neg h0] at h
    by_cases h1:-(n:Int)≤i
    · rw [if_pos h1] at h
      have e:(i + n).toNat=j:=Option.some.inj h
      exact ⟨by rw [seqIndex_neg (by omega) h1,e],by omega,h1,by omega⟩
    · rw [if_neg h1] at h; cases h
theorem atI_get {α:Type} {xs:List α} {i:Int} {v:α} (h:atI xs i=some v):∃ j,seqIndex? i xs.length=some j∧xs[j]?=some v∧j < xs.length∧-(xs.length:Int)≤i∧i < xs.length:=by
  unfold atI at h
  cases e:ixN xs.length i with
  | none=>rw [e] at h; cases h
  | some j =>
    rw [e] at h
    obtain ⟨h1,h2,h3,h4⟩:=ixN_seq e
    exact ⟨j,h1,h,h2,h3,h4⟩
noncomputable def PlainIx (b:Expr):Prop:=∀ o i,subscripted b false o i=operate [o,i] (getItem o i)
noncomputable def IxR (X:Cx) (r:R2):Prop :=
  ∀ (value slice:Expr) (pins:List (Addr × Obj)) (s:Shared) (σ:St) (H:Hp) (x y:V) (v u:Value) (Q:VK),Inv X pins σ H s→RelV x v→RelV y u→r x y H Q →
    subscripted slice false v u=operate [v,u] (getItem v u)→wpAny (model X.prog X.w) X.A (subscriptTail value slice v u) (EP X pins σ Q) X.xe s
noncomputable def MtR (X:Cx) (id:String) (r:V→List V→Hp→VK→Prop):Prop :=
  ∀ (pins:List (Addr × Obj)) (s:Shared) (σ:St) (H:Hp) (x:V) (xs:List V) (v:Value) (us:List Value) (Q:VK),Inv X pins σ H s→RelV x v→Vals xs us→r x xs H Q →
    wpAny (model X.prog X.w) X.A (call (.builtin id) (v :: us)) (EP X pins σ Q) X.xe s
section
variable {X:Cx} {a b:Expr} {ta tb:TE} {pos:Pos}
theorem IxR.or {r r':R2} (h:IxR X r) (h':IxR X r'):IxR X (fun x y H Q=>r x y H Q ∨ r' x y H Q):=by
  intro value slice pins s σ H x y v u Q I rx ry q hs
  rcases q with q | q
  · exact h value slice pins s σ H x y v u Q I rx ry q hs
  · exact h' value slice pins s σ H x y v u Q I rx ry q hs
theorem pe_ix {r:R2} (hr:IxR X r) (ha:PE X a ta) (hb:PE X b tb) (hs:PlainIx b):PE X (.Subscript a b pos) (tOp r ta tb):=by
  intro pins s σ H Q I h
  exact Subscript_ (binT ha hb I h fun v u s2 x y H2 I2 rx ry q=>hr a b pins s2 σ H2 x y v u Q I2 rx ry q (hs _ _))
noncomputable def rIxL (K:PySem.W.Frag):R2:=fun x y H Q=>∃ p xs i v,x=.ref p∧y=.int i∧SqL K H p xs∧atI xs i=some v∧Q v H
noncomputable def rIxT (K:PySem.W.Frag):R2:=fun x y H Q=>∃ p xs i v,x=.ref p∧y=.int i∧SqT K H p xs∧atI xs i=some v∧Q v H
noncomputable def rIxS:R2:=fun x y H Q=>∃ z i c,x=.str z∧y=.int i∧z.length≤sizeLine∧atI z.cps.toList i=some c∧Q (.str ⟨#[c]⟩) H
theorem ix_list:IxR X (rIxL X.K):=by
  intro value slice pins s σ H x y v u Q I rx ry h hs
  obtain ⟨p,xs,i,z,rfl,rfl,hq,he,q⟩:=h
  cases rx
  obtain ⟨t,rfl⟩:=ry
  obtain ⟨its,r,pl,hz⟩:=I.list hq
  obtain ⟨j,h1,h2,h3,h4,h5⟩:=atI_get he
  obtain ⟨w,ew,rw'⟩:=r.get h2
  have hl:=r.length
  have hn:=line63
  have fin:EP X pins σ Q w s:=⟨z,H,I,rw',q⟩
  by_cases h0:0≤i
  · have hj:i.toNat=j:=by
      rw [seqIndex_of h0 h5] at h1
      exact Option.some.inj h1
    exact item_listR pl.isList h0 (by omega) (by rw [hj]; simpa using ew) fin hs
  · have hj:(i + (its.toArray.size:Int)).toNat=j:=by
      rw [seqIndex_neg (by omega) h4] at h1
      rw [List.size_toArray,← hl]
      exact Option.some.inj h1
    exact subscriptTail_builtinR (x:=w) pl.isList.typeIs slot_list_getitem.lookup
      (wpAny_getItem_list_neg (Q:=fun r s'=>r=w∧EP X pins σ Q r s') pl.isList (by omega) (by rw [List.size_toArray] <;> omega) (by omega) (by rw [hj]; simpa using ew) ⟨rfl,fin⟩) hs
theorem ix_tup:IxR X (rIxT X.K):=by
  intro value slice pins s σ H x y v u Q I rx ry h hs
  obtain ⟨p,xs,i,z,rfl,rfl,hq,he,q⟩:=h
  cases rx
  obtain ⟨t,rfl⟩:=ry
  obtain ⟨its,r,pl,hz⟩:=I.tuple hq
  obtain ⟨j,h1,h2,h3,h4,h5⟩:=atI_get he
  obtain ⟨w,ew,rw'⟩:=r.get h2
  have hl:=r.length
  have hn:=line63
  have fin:EP X pins σ Q w s:=⟨z,H,I,rw',q⟩
  exact subscriptTail_builtinR (x:=w) pl.typeIs slot_tuple_getitem.lookup
    (getItem_tuple (j:=j) (Q:=fun r s'=>r=w∧EP X pins σ Q r s') pl (by omega) (by omega) (by rw [List.size_toArray,← hl]; exact h1) (by simpa using ew) ⟨rfl,fin⟩) hs
theorem ix_str:IxR X rIxS:=by
  intro value slice pins s σ H x y v u Q I rx ry h hs
  obtain ⟨z,i,c,rfl,rfl,hz,he,q⟩:=h
  obtain ⟨t,rfl⟩:=rx
  obtain ⟨t',rfl⟩:=ry
  obtain ⟨j,h1,h2,h3,h4,h5⟩:=atI_get he
  have hl:z.cps.toList.length=z.length:=by simp [Str.length]
  rw [hl] at h1 h4 h5
  have hn:=line63
  exact tail_any (typeIs_str s z t) slot_str_getitem.lookup (getItem_str (c:=c) (by
    have e1:decide (i < -(2 ^ 63:Int))=false:=decide_eq_false (by omega)
    have e2:decide (i ≥ 2 ^ 63)=false:=decide_eq_false (by omega)
    rw [e1,e2,Bool.or_false]) (by rw [h1]; simpa using h2) ⟨.str ⟨#[c]⟩,H,I.tok _,⟨_,rfl⟩,q⟩) hs
noncomputable def rIx (K:PySem.W.Frag):R2:=fun x y H Q=>rIxL K x y H Q ∨ rIxT K x y H Q ∨ rIxS x y H Q
theorem ix_seq:IxR X (rIx X.K):=ix_list.or (ix_tup.or ix_str)
theorem mapSeq_set (its:List Value) (n j:Nat) (u:Value):Obj.mapSeq (·.setIfInBounds j u) { cls:=.type "list",data:=.seq its.toArray n }={ cls:=.type "list",data:=.seq (its.set j u).toArray n }:=by
  simp [Obj.mapSeq]
theorem Inv.lst {pins:List (Addr × Obj)} {σ:St} {H:Hp} {s:Shared} {p:Addr} {xs:List V} (I:Inv X pins σ H s) (h:H p=some (.lst xs)) :
    ∃ (its:List Value) (n:Nat),Vals xs its∧s.heap.get? p=some { cls:=.type "list",data:=.seq its.toArray n }∧xs.length≤sizeLine:=by
  obtain ⟨z,its,n,r,e⟩:=I.hok p _ h
  exact ⟨its,n,r,e,z⟩
theorem Inv.lstUpd {pins:List (Addr × Obj)} {σ:St} {H:Hp} {s:Shared} {p:Addr} {xs ys:List V} {its its':List Value} {n n':Nat} {f:Obj→Obj} (I:Inv X pins σ H s) (h:H p=some (.lst xs))
    (ho:s.heap.get? p=some { cls:=.type "list",data:=.seq its.toArray n }) (hf:f { cls:=.type "list",data:=.seq its.toArray n }={ cls:=.type "list",data:=.seq its'.toArray n' }) (r:Vals ys its') (hz:ys.length≤sizeLine) (t:Nat) :
    Inv X pins σ (upd H p (.lst ys)) { s with heap:=s.heap.update p f,toks:=t }:=by
  have e:(s.heap.update p f).get? p=some { cls:=.type "list",data:=.seq its'.toArray n' }:=by
    rw [Heap.get?_update_self f ho (by rw [hf] <;> rfl),hf]
  refine I.write (x:=p) (e:=p) (by rw [h]; trivial) (.inl rfl) (fun b u hb q=>(Heap.get?_update_other _ _ (Ne.symm hb)).trans q) ⟨_,e⟩ ?_
  exact ⟨hz,its',n',r,e⟩
noncomputable def rSetL:V→V→V→Hp→(Hp→Prop)→Prop:=fun o i v H Q=>∃ p xs k j,o=.ref p∧i=.int k∧H p=some (.lst xs)∧ixN xs.length k=some j∧Q (upd H p (.lst (xs.set j v)))
theorem set_list:PSet X rSetL:=by
  intro pins s σ H o i v ov iv u Q I ro ri rv h
  obtain ⟨p,xs,k,j,rfl,rfl,hp,hj,q⟩:=h
  cases ro
  obtain ⟨t,rfl⟩:=ri
  obtain ⟨its,n,r,ho,hz⟩:=I.lst hp
  obtain ⟨h1,h2,h3,h4⟩:=ixN_seq hj
  have hl:=r.length
  have hn:=line63
  have I':Inv X pins σ (upd H p (.lst (xs.set j v))) { s with heap:=s.heap.update p (Obj.mapSeq (·.setIfInBounds j u)) } :=
    I.lstUpd hp ho (mapSeq_set its n j u) (r.set rv j) (by rw [List.length_set]; exact hz) s.toks
  by_cases h0:0≤k
  · have hk:k.toNat=j:=by
      rw [seqIndex_of h0 h4] at h1
      exact Option.some.inj h1
    exact PySem.W.ki_setAt ho h0 (by omega) (by rw [List.size_toArray,← hl]; exact h4) (by rw [hk]; exact ⟨_,I',q⟩)
  · have hk:(k + (its.toArray.size:Int)).toNat=j:=by
      rw [seqIndex_neg (by omega) h3] at h1
      rw [List.size_toArray,← hl]
      exact Option.some.inj h1
    exact PySem.W.ki_setBack ho (by omega) (by rw [List.size_toArray,← hl]; exact h3) (by omega) (by rw [hk]; exact ⟨_,I',q⟩)
theorem slice_bounds (lo hi:Option Int) (n:Nat):(sliceBounds lo hi none n).1=((HT.sIx n 0 lo:Nat):Int)∧(sliceBounds lo hi none n).2.1=((HT.sIx n n hi:Nat):Int)∧(sliceBounds lo hi none n).2.2=1:=by
  refine ⟨?_, ?_,rfl⟩
  · cases lo with
    | none=>simp [sliceBounds,HT.sIx]
    | some i =>
      simp only [sliceBounds,HT.sIx,Option.getD_none,show (1:Int) > 0 by decide,if_true]
      by_cases h:i < 0
      · simp only [h,if_true] <;> omega
      · simp only [h,if_false] <;> omega
  · cases hi with
    | none=>simp [sliceBounds,HT.sIx]
    | some i =>
      simp only [sliceBounds,HT.sIx,Option.getD_none,show (1:Int) > 0 by decide,if_true]
      by_cases h:i < 0
      · simp only [h,if_true] <;> omega
      · simp only [h,if_false] <;> omega
theorem slicePick_cut (its:List Value) (lo hi:Option Int):slicePick its.toArray lo hi none=((its.drop (HT.sIx its.length 0 lo)).take (HT.sIx its.length its.length hi - HT.sIx its.length 0 lo)).toArray:=by
  obtain ⟨h1,h2,h3⟩:=slice_bounds lo hi its.toArray.size
  unfold slicePick
  rw [h1,h2,h3]
  simp only [sliceRange_one,pick_run,List.size_toArray] <;> rfl
noncomputable def rSlL (K:PySem.W.Frag):V→Option Int→Option Int→Hp→VK→Prop:=fun x lo hi H Q=>∃ a xs,x=.ref a∧SqL K H a xs∧∀ p,H p=none→Q (.ref p) (upd H p (.lst (cutV xs lo hi)))
theorem sl_list:SlR X (rSlL X.K):=by
  intro pins s σ H x v vl vu lo hi sl Q I rx hs pl pu h
  obtain ⟨a,xs,rfl,hx,q⟩:=h
  cases rx
  obtain ⟨its,r,ht,hz⟩:=I.list hx
  have hlen:=r.length
  refine ⟨"list",_,slot_list_getitem.lookup,ht.isList.typeIs, ?_⟩
  refine wpAny_getItem_list_slice ht.isList hs pl pu .none (by simp) ?_ (by rw [List.size_toArray] <;> omega)
  rw [slicePick_cut,← hlen]
  refine ⟨.ref s.heap.objs.size,_,I.laid (t':=s.toks) (o:=.lst (cutV xs lo hi)) (fun b ob q=>Heap.get?_push_of_some _ q) (Nat.le_refl _) ?_,rfl,q _ (I.hok.fresh (Nat.le_refl _))⟩
  exact ⟨Nat.le_trans (cutV_length xs lo hi) hz,_,0,(r.drop (HT.sIx xs.length 0 lo)).take (HT.sIx xs.length xs.length hi - HT.sIx xs.length 0 lo),Heap.get?_push_size _ rfl⟩
theorem call_len_seq:CallR X (.builtin "len") (fun xs H Q=>∃ p ys,xs=[.ref p]∧(SqL X.K H p ys ∨ SqT X.K H p ys)∧Q (.int ys.length) H):=by
  intro pins s σ H xs us Q I r h
  obtain ⟨p,ys,rfl,hq,q⟩:=h
  obtain ⟨u,rfl,rx⟩:=vals1 r
  cases rx
  have hn:=line63
  rcases hq with hq | hq
  · obtain ⟨its,r',pl,hz⟩:=I.list hq
    have hlen:=r'.length
    exact Calls.call_len_list pl.isList (by simp only [List.size_toArray] <;> omega) ⟨.int ys.length,H,I.tok _,⟨s.toks + 1,by rw [List.size_toArray,hlen]⟩,q⟩
  · obtain ⟨its,r',pl,hz⟩:=I.tuple hq
    have hlen:=r'.length
    exact len_tuple pl (by simp only [List.size_toArray] <;> omega) ⟨.int ys.length,H,I.tok _,⟨s.toks + 1,by rw [List.size_toArray,hlen]⟩,q⟩
theorem call_list_of:CallR X (.type "list") (fun xs H Q=>∃ p ys,xs=[.ref p]∧(SqL X.K H p ys ∨ SqT X.K H p ys)∧∀ l,H l=none→Q (.ref l) (upd H l (.lst ys))):=by
  intro pins s σ H xs us Q I r h
  obtain ⟨p,ys,rfl,hq,q⟩:=h
  obtain ⟨u,rfl,rx⟩:=vals1 r
  cases rx
  have fin:∀ (its:List Value),Vals ys its→ys.length≤sizeLine→∀ (h':Heap) (c':Nat),(∀ b o',s.heap.get? b=some o'→h'.get? b=some o') →
      h'.get? s.heap.objs.size=some { cls:=.type "list",dict:=none,data:=.seq its.toArray c',slots:=#[] }→EP X pins σ Q (.ref s.heap.objs.size) { s with heap:=h' }:=fun its r' hz h' c' kp e =>
    ⟨.ref s.heap.objs.size,_,I.laid (t':=s.toks) kp (Nat.le_refl _) (show ObjOk X.prog X.w _ h' _ (.lst ys) from ⟨hz,its,c',r',e⟩),rfl,q _ (I.hok.fresh (Nat.le_refl _))⟩
  rcases hq with hq | hq
  · obtain ⟨its,r',pl,hz⟩:=I.list hq
    have hlen:=r'.length
    obtain ⟨o,ho,hc,n,hd⟩:=pl.isList
    exact call_list_seq p (.inl rfl) ho hc hd (fun h' c' kp e=>fin its r' hz h' c' kp e) (by simp only [List.size_toArray] <;> omega)
  · obtain ⟨its,r',pl,hz⟩:=I.tuple hq
    have hlen:=r'.length
    obtain ⟨o,ho,hc,n,hd⟩:=pl
    exact call_list_seq p (.inr rfl) ho hc hd (fun h' c' kp e=>fin its r' hz h' c' kp e) (by simp only [List.size_toArray] <;> omega)
noncomputable def tyV (K:PySem.W.Frag) (T:String) (x:V) (H:Hp):Prop:=match x with
  | .str _=>T = "str"
  | .int _=>T = "int"
  | .ref p=>(T = "list"∧∃ xs,SqL K H p xs) ∨ (T = "tuple"∧∃ o,K.lookup p=some o∧o.cls=.type "tuple"∧o.dict=none) ∨
      (T = "dict"∧((∃ kvs,H p=some (.dK kvs)) ∨ ∃ kvs,H p=some (.dT kvs))) ∨ (T = "set"∧∃ S n,H p=some (.set S n))
  | _=>False
theorem tyV_is {pins:List (Addr × Obj)} {σ:St} {H:Hp} {s:Shared} {T:String} {x:V} {v:Value} (I:Inv X pins σ H s) (r:RelV x v) (ty:tyV X.K T x H) :
    s.TypeIs v T∧∀ a,v=.ref a→∃ ob,s.heap.get? a=some ob∧ob.dict=none:=by
  cases x with
  | str z =>
    obtain ⟨t,rfl⟩:=r
    cases (show T = "str" from ty)
    exact ⟨typeIs_str s z t,fun _ e=>nomatch e⟩
  | int i =>
    obtain ⟨t,rfl⟩:=r
    cases (show T = "int" from ty)
    exact ⟨typeIs_int s i t,fun _ e=>nomatch e⟩
  | ref p =>
    cases r
    rcases ty with ⟨rfl,xs,hq⟩ | ⟨rfl,o,hk,hc,hd⟩ | ⟨rfl,hk⟩ | ⟨rfl,S,n,hk⟩
    · obtain ⟨its,_,pl,_⟩:=I.list hq
      refine ⟨pl.isList.typeIs,fun a e=>?_⟩
      cases e
      obtain ⟨o,n,e,c,hd,_⟩:=pl
      exact ⟨o,e,hd⟩
    · refine ⟨⟨o,I.kIn p o hk,hc⟩,fun a e=>?_⟩
      cases e
      exact ⟨o,I.kIn _ o hk,hd⟩
    · have z:∃ o,s.heap.get? p=some o∧o.ExactDict:=by
        rcases hk with ⟨kvs,hk⟩ | ⟨kvs,hk⟩
        · obtain ⟨_,_,_,_,o,_,_,e,ex,_⟩:=I.hok p _ hk
          exact ⟨o,e,ex⟩
        · obtain ⟨_,_,_,_,o,_,_,e,ex,_⟩:=I.hok p _ hk
          exact ⟨o,e,ex⟩
      obtain ⟨o,e,ex⟩:=z
      refine ⟨⟨o,e,ex.1⟩,fun a e2=>?_⟩
      cases e2
      exact ⟨o,e,ex.2.1⟩
    · obtain ⟨o,_,_,_,e,ex,_⟩:=I.hok p _ hk
      refine ⟨⟨o,e,ex.1⟩,fun a e2=>?_⟩
      cases e2
      exact ⟨o,e,ex.2.1⟩
  | _=>exact False.elim ty
noncomputable def tBM (K:PySem.W.Frag) (T:String) (r:V→List V→Hp→VK→Prop) (to:TE) (t:TA):TE:=fun σ H Q=>to σ H fun x H1=>tyV K T x H1∧t σ H1 fun xs H2=>r x xs H2 Q
variable {o e:Expr} {es:List Expr} {to:TE} {t:TA} {name:Str} {apos cpos:Pos} {T id:String} {r:V→List V→Hp→VK→Prop}
theorem pe_bm (pa:PlainAttrs T) (slot:Slot T name id) (hty:typeOf (.builtin id)=pure (.type "method_descriptor")) (hm:MtR X id r) (ho:PE X o to) (ha:PA X (e :: es) t)
    (hbase:attributeBase o name X.env (eval o X.env)=eval o X.env:=by rfl)
    (hfew:((backTo cpos (starEach (e :: es) X.env)).all (fun x=>!x.1) && (backToKw cpos (keywordEach [] X.env)).all (fun x=>x.1.isSome)
      && decide ((e :: es).length + ([]:List Keyword).length + (if ([]:List Keyword).isEmpty then 0 else 1) < 30))=true:=by rfl)
    (hline:(apos.endLine == cpos.line)=true:=by rfl) (hs:starEach (e :: es) X.env=(false,eval e X.env) :: starEach es X.env:=by rfl) (hplain:(backTo cpos (starEach es X.env)).any (·.1)=false:=by rfl) :
    PE X (.Call (.Attribute o name apos) (e :: es) [] cpos) (tBM X.K T r to t):=by
  intro pins s σ H Q I h
  refine wpAny_Call_method_late hbase hfew hline rfl (thn (ho pins s σ H _ I h) fun v s1 ⟨x,H1,I1,r1,ty,q1⟩=>?_)
  obtain ⟨h1,h2⟩:=tyV_is I1 r1 ty
  refine ⟨T,id,pa,slot,hty,h1,h2, ?_⟩
  have hA:=ha cpos pins s1 σ H1 _ I1 q1
  rw [hs] at hA ⊢
  refine Calls.callWith_builtin (by show (false || (backTo cpos (starEach es X.env)).any (·.1))=false; rw [hplain] <;> rfl) (Calls.evalArgs_plain ?_)
  exact thn hA fun us s2 ⟨vs,H2,I2,r2,q2⟩=>hm pins s2 σ H2 x vs v us Q I2 r1 r2 q2
end
end L2
namespace L2
open PySem PySem.Spec PyProof.Rows
noncomputable def MtM (X:Cx) (id:String) (r:V→List V→Hp→VK→Prop):Prop :=
  ∀ (pins:List (Addr × Obj)) (s:Shared) (σ:St) (H:Hp) (x:V) (xs:List V) (v:Value) (us:List Value) (Q:VK),Inv X pins σ H s→RelV x v→Vals xs us→r x xs H Q →
    wpAny (model X.prog X.w) X.A (call (.builtin id) (v :: us)) (EP X pins σ Q) X.xe s
theorem Vals.one:∀ {x:V} {us:List Value},Vals [x] us→∃ u,us=[u]∧RelV x u
  | _,_,.cons r .nil=>⟨_,rfl,r⟩
section
variable {X:Cx} {pins:List (Addr × Obj)} {σ:St} {H:Hp} {s:Shared} {l b:Addr} {xs ys zs:List V}
theorem Inv.lset {its its':List Value} {n:Nat} {f:Array Value→Array Value} {t':Nat} (I:Inv X pins σ H s) (hH:H l=some (.lst xs))
    (e:s.heap.get? l=some { cls:=.type "list",data:=.seq its.toArray n }) (hf:f its.toArray=its'.toArray) (hv:Vals ys its') (hz:ys.length≤sizeLine) :
    Inv X pins σ (upd H l (.lst ys)) { s with heap:=s.heap.update l (Obj.mapSeq f),toks:=t' }:=by
  have q:=PySem.IsL.update e f
  rw [hf] at q
  refine I.write (x:=l) (e:=l) (by rw [hH]; exact trivial) (.inl rfl) (fun b' u hb hu=>(Heap.get?_update_other s.heap (Obj.mapSeq f) (Ne.symm hb)).trans hu) ⟨_,q⟩ ?_
  exact ⟨hz,its',_,hv,q⟩
theorem Inv.lstM (I:Inv X pins σ H s) (hH:H l=some (.lst xs)):xs.length≤sizeLine∧∃ (its:List Value) (n:Nat),Vals xs its∧xs.length=its.length∧s.heap.get? l=some { cls:=.type "list",data:=.seq its.toArray n }:=by
  obtain ⟨z,its,n,r,e⟩:=I.hok l _ hH
  exact ⟨z,its,n,r,r.length,e⟩
end
section
variable {X:Cx}
noncomputable def rAppend:V→List V→Hp→VK→Prop:=fun x vs H Q=>∃ l xs y,x=.ref l∧vs=[y]∧H l=some (.lst xs)∧xs.length < sizeLine∧Q .non (upd H l (.lst (xs ++ [y])))
theorem mt_append:MtM X "list.append" rAppend:=by
  intro pins s σ H x vs v us Q I rx rv h
  obtain ⟨l,xs,y,rfl,rfl,hH,hz,q⟩:=h
  cases rx
  obtain ⟨u,rfl,ru⟩:=rv.one
  obtain ⟨z,its,n,r,hl,e⟩:=I.lstM hH
  refine call_meets F.slot_list_append ⟨_,e,rfl⟩ F.entry_list_append (F.args_list_append_2 _ _) (PySem.list_append l its.toArray n u (by rw [List.size_toArray]; omega)) ⟨e, ?_⟩
  refine ⟨.non,_,I.lset (its':=its ++ [u]) hH e (by simp) (r.append (.cons ru .nil)) ?_,rfl,q⟩
  rw [List.length_append,List.length_singleton]
  omega
end
section
variable {prog:Program} {w:World} {A:Around} {E:Value→Shared→Prop} {s:Shared}
set_option maxRecDepth 100000 in
end
section
variable {X:Cx}
end
end L2
namespace Att
open PySem PySem.W PySem.Calls PyProof.Rows
theorem ints_of_wellAll {P:Params} {h:Heap}:∀ (ns:List Int) (vs:List Value),WellAll P h vs (ns.map WData.int)→IntsAre vs ns:=by
  intro ns
  induction ns with
  | nil =>
    intro vs w
    rw [List.map_nil] at w
    cases w
    exact .nil
  | cons n ns ih =>
    intro vs w
    rw [List.map_cons] at w
    cases w with
    | cons a b =>
      cases a
      exact .cons _ _ (ih _ b)
theorem script_of {l:OpenLaw} {n:Nat} (hn:l.most=some n) {P:Params} {h:Heap} {args:List WData} {vals:List Value}
    (hpre:l.row.toRowW.claim.pre args=true) (hwl:WellAll P h vals args) :
    ∃ a vs ns,vals=[Value.ref a]∧args=[WData.list (ns.map WData.int)]∧h.get? a=some { cls:=.type "list",data:=.seq vs.toArray }∧IntsAre vs ns∧ns.length≤n:=by
  have hsh:WShape.hasAll [] args [.list .int]=true:=(pre_splitW hpre).1
  have hc:l.pre.holds [] { args:=args }=true:=(pre_splitW hpre).2
  obtain ⟨d,r,rfl,h1,h2⟩:=hasAllW_cons hsh
  obtain rfl:=hasAllW_nil h2
  obtain ⟨xs,rfl,h3⟩:=hasW_list h1
  obtain ⟨ns,rfl⟩:=items_int h3
  have hlen:ns.length≤n:=by
    unfold OpenLaw.pre at hc
    have h4:(WTm.not (.lt (.lit (.int (n:Int))) (.len (.arg 0)))).holds [] { args:=[.list (ns.map .int)] }=true:=by
      have h4:=(holds_andW hc).1
      rw [hn] at h4
      exact h4
    have h5:=condW_of h4 (w_not (w_lt w_lit (w_len_list (w_arg rfl))))
    rw [List.length_map] at h5
    refine Nat.le_of_not_lt fun q=>?_
    have q':(n:Int) < ((ns.length:Nat):Int):=by omega
    first
      | (rw [decide_eq_true q'] at h5; exact absurd h5 (by decide))
      | (simp at h5; omega)
  cases hwl with
  | cons w1 w2 =>
    cases w2
    cases w1 with
    | list ho hall=>exact ⟨_,_,ns,rfl,rfl,ho,ints_of_wellAll ns _ hall,hlen⟩
theorem post_true (l:OpenLaw) (args:List WData):l.row.toRowW.claim.post args (.bool true) args=true :=
  postW_of (r:=l.row.toRowW) (X:=(true == true))
    (show WShape.has [] (.bool true) .bool=true by first | rfl | decide | simp [WShape.has,WShape.arms,WShape.armsAll])
    (show (WTm.eq .res (.lit (.bool true))).value [] { args:=args,res:=some (.bool true),after:=args }=some (.bool (true == true)) from w_eq_bool (w_res rfl) w_lit) rfl
theorem attach_call {l:OpenLaw} {n:Nat} {q:Program} {loose:List Str} {XP:(Str→Option Value)→Heap→Prop} {YP:World→Heap→Prop} {d:DefRec}
    (hn:l.most=some n) (hdf:d.params.defaults=[])
    (call:∀ (w:World) (s₀ s₁:Shared) (mg mb:Str→Option Value) (fa:Addr) (o:Obj) (pm cd doc:Value) (a:Addr) (vs:List Value) (ns:List Int),
      Ground q loose [] XP w s₀ mg mb s₁.heap→YP w s₁.heap →
      s₁.heap.get? fa=some o→o.data=.func (docDef d.name d.params d.body d.scope pm cd doc)→s₁.heap.CodeRec cd d.name→mg d.name=some (.ref fa) →
      s₁.heap.get? a=some { cls:=.type "list",data:=.seq vs.toArray }→IntsAre vs ns→ns.length≤n→s₁.gens=#[] →
      codeAny (model l.prog w) callerA (.call (.ref fa) ⟨[.ref a],[]⟩) (fun r s'=>r=.ok (.ret (.bool true))∧OldK s₁.heap s'.heap∧s'.os=s₁.os∧AllBare s'.gens) s₁) :
    WalkO q loose XP YP l.row.toRowW d [] (fun f vs=>PySem.call f vs):=by
  intro w s₀ s₁ mg mb G Y fa o pm cd doc dV kV ho hd hcd hD hmg hg args vals as hpre hlay hrd hwl hlo
  obtain rfl:dV=.none:=Dflts.none hD hdf
  obtain rfl:kV=.none:=Dflts.noKw hD
  obtain ⟨a,vs,ns,rfl,rfl,hobj,hints,hlen⟩:=script_of hn hpre hwl
  refine enter_call (codeAny_mono (call w s₀ s₁ mg mb fa o pm cd doc a vs ns G Y ho (fd_plain hd) hcd hmg hobj hints hlen hg) fun r s' hq=>?_)
  obtain ⟨rfl,h2,h3,h4⟩:=hq
  exact ⟨.inl ⟨.bool true,.bool true,[],rfl,fun _=>rfl,.bool true,post_true l _,fun _=>⟨List.Pairwise.nil,fun _ hm=>(nomatch hm)⟩⟩,h2,h3,h4⟩
section
variable {prog:Program} {w:World} {A:Around} {E:Value→Shared→Prop} {s:Shared} {K:Frag}
end
end Att
namespace L2
open PySem PySem.Spec PyProof.Rows
theorem vals_ints:∀ {vs:List Value} {ns:List Int},IntsAre vs ns→Vals (ns.map V.int) vs
  | _,_,.nil=>.nil
  | _,_,.cons n t h=>.cons ⟨t,rfl⟩ (vals_ints h)
noncomputable def Only (H:Hp):Prop:=∀ b,H b=none ∨ ∃ o xs,H b=some (.frz o (.lst xs))
theorem law_call {P:Program} {w:World} {K:PySem.W.Frag} {mg mb:Str→Option Value} {CX:CXT} {k:Nat} {fa a:Addr} {fd:FuncData} {x:Str} {sp:Sp} {s₁:Shared} {vs:List Value} {ns:List Int}
    (KX:K.In s₁.heap) (hns:s₁.heap.Ns mainGlobals mg) (hb:s₁.heap.Ns builtinsNs mb) (hbb:∀ x:Str,x ≠ "__name__"→mb x=bootBuiltins x) (hlim:s₁.heap.NoLimit) (hg:s₁.gens=#[])
    (ha:s₁.heap.get? a=some { cls:=.type "list",data:=.seq vs.toArray }) (hi:IntsAre vs ns) (hl:ns.length≤sizeLine) (hr:Room k callerA)
    (F:∀ base:Heap,K.In base→base.Ns mainGlobals mg→FnOk P w K mg base CX k fa fd [x] sp) (hbind:∀ (s:Shared) (u:Value),BindsTo s fd ⟨[u],[]⟩ [(x,u)])
    (hsp:∀ H:Hp,Only H→SqL K H a (ns.map V.int)→sp [.ref a] H (fun v _=>v=.bl true) fun _ _ _=>False)
    (hCX:∀ H e s',CX [] H s₁ (fun _ _ _=>False) e s'→False) :
    codeAny (model P w) callerA (.call (.ref fa) ⟨[.ref a],[]⟩) (fun r s'=>r=.ok (.ret (.bool true))∧OldK s₁.heap s'.heap∧s'.os=s₁.os∧AllBare s'.gens) s₁:=by
  have rv:=vals_ints hi
  have lenV:=hi.length
  have core:∀ H:Hp,Only H→SqL K H a (ns.map V.int)→HOk P w H s₁.heap→(∀ b,H b≠none→b=a)→(H a≠none→K.lookup a=none) →
      codeAny (model P w) callerA (.call (.ref fa) ⟨[.ref a],[]⟩) (fun r s'=>r=.ok (.ret (.bool true))∧OldK s₁.heap s'.heap∧s'.os=s₁.os∧AllBare s'.gens) s₁:=by
    intro H hO hS hok hA hK
    have base_of:∀ {b:Addr} {o:Obj},s₁.heap.get? b=some o→H b=none→(hidT s₁.heap H).get? b=some o:=fun e n=>hidT_get e n
    have noA:∀ {b:Addr} {o:Obj} {es:Array DictEntry} {ep:Nat},s₁.heap.get? b=some o→o.data=.dict es ep→H b=none:=fun {b o es ep} e d=>by
      cases q:H b with
      | none=>rfl
      | some u =>
        have e':b=a:=hA b (by rw [q]; simp)
        subst e'
        rw [ha] at e; cases e
        have d':Data.seq vs.toArray _=Data.dict es ep:=d
        cases d'
    have nsK:∀ {b:Addr} {m:Str→Option Value},s₁.heap.Ns b m→(hidT s₁.heap H).Ns b m:=fun {b m} ⟨o,es,ep,e,d,r⟩=>⟨o,es,ep,base_of e (noA e d),d,r⟩
    have hKb:K.In (hidT s₁.heap H):=fun b o e=>base_of (KX b o e) (by
      cases q:H b with
      | none=>rfl
      | some u =>
        have e':b=a:=hA b (by rw [q]; simp)
        subst e'
        rw [hK (by rw [q]; simp)] at e; cases e)
    have hM:Mod K mg (hidT s₁.heap H):=⟨hKb,nsK hns,⟨mb,nsK hb,hbb⟩,let ⟨mc,h1,h2⟩:=hlim; ⟨mc,nsK h1,h2⟩⟩
    have e0:Env0 P w K mg (hidT s₁.heap H) callerA [] s₁ H:=⟨rfl,hM,fun b o e=>of_hidT e,Nat.le_of_eq (hidT_size _ _),trivial,fun b hb=>absurd (show b∈([]:List Addr) from hb) (by simp),hok,.of_eq hg⟩
    refine codeAny_mono ((F _ hKb (nsK hns)).run callerA [] s₁ H ⟨[.ref a],[]⟩ [.ref a] [.ref a] _ _ hr e0 (hbind s₁ (.ref a)) (.cons rfl .nil) (hsp H hO hS)) fun r s' h=>?_
    cases r with
    | error e=>exact (hCX H e s' h).elim
    | ok fl =>
      cases fl with
      | next=>exact False.elim h
      | brk=>exact False.elim h
      | cont=>exact False.elim h
      | ret u =>
        obtain ⟨v,H',os,bare,un,hok',r',q⟩:=h
        have q':v=.bl true:=q
        subst q'
        obtain rfl:u=Value.bool true:=r'
        refine ⟨rfl,OldK.of_keep fun b o e=>?_,os,bare⟩
        cases q:H b with
        | none=>exact un.keep b o e q (by intro z; exact absurd (show b∈([]:List Addr) from z) (by simp)) (by simp)
        | some u =>
          rcases hO b with z | ⟨ob,xs,z⟩
          · rw [q] at z; cases z
          · have z2:=un.frzs b ob _ z
            obtain ⟨e1,_⟩:=hok b _ z
            obtain ⟨e2,_⟩:=hok' b _ z2
            rw [e] at e1; cases e1
            exact e2
  cases hk:K.lookup a with
  | some o =>
    have e:=KX a o hk
    rw [ha] at e
    cases e
    refine core (fun _=>none) (fun _=>.inl rfl) (.inr ⟨_,vs.toArray,_,hk,rfl,rfl,rfl,by rw [List.size_toArray,lenV]; exact hl,by simpa using rv⟩) (fun b u z=>by have z':(none:Option HO)=some u:=z; cases z') (fun b z=>absurd rfl z) fun z=>absurd rfl z
  | none =>
    refine core (fun b=>if b=a then some (.frz { cls:=.type "list",data:=.seq vs.toArray } (.lst (ns.map V.int))) else none) (fun b=>?_) (.inl (.inr ⟨{ cls:=.type "list",data:=.seq vs.toArray },if_pos rfl⟩)) (fun b u z=>?_) (fun b z=>?_) fun _=>hk
    · by_cases hb:b=a
      · exact .inr ⟨_,_,if_pos hb⟩
      · exact .inl (if_neg hb)
    · by_cases hb:b=a
      · have z':=(if_pos hb).symm.trans z
        cases z'
        subst hb
        exact ⟨ha,by rw [List.length_map]; exact hl,vs,_,rv,ha⟩
      · have z':=(if_neg hb).symm.trans z
        cases z'
    · by_cases hb:b=a
      · exact hb
      · exact absurd (if_neg hb) z
end L2
namespace L2
open PySem PySem.Spec PyProof.Rows
noncomputable abbrev KOf {K:PySem.W.Frag} {h:Heap} (_:K.In h):PySem.W.Frag:=K
theorem walk_of {l:PySem.W.OpenLaw} {n k:Nat} {q:Program} {loose:List Str} {XP:(Str→Option Value)→Heap→Prop} {YP:World→Heap→Prop} {d:DefRec} {K:Params→PySem.W.Frag} {CX:World→CXT} {sp:World→Sp} {x:Str}
    (hn:l.most=some n) (hn2:n≤sizeLine) (hdf:d.params.defaults=[]) (hr:Room k callerA)
    (hY:∀ (w:World) (h:Heap),YP w h→(K w.params).In h)
    (F:∀ (w:World) (mg:Str→Option Value) (fa:Addr) (h:Heap),(K w.params).In h→h.Ns mainGlobals mg→mg d.name=some (.ref fa) →
      ∃ fd:FuncData,(∀ (s:Shared) (u:Value),BindsTo s fd ⟨[u],[]⟩ [(x,u)]) ∧
        ∀ base:Heap,(K w.params).In base→base.Ns mainGlobals mg→FnOk l.prog w (K w.params) mg base (CX w) k fa fd [x] (sp w))
    (hsp:∀ (w:World) (H:Hp) (a:Addr) (ns:List Int),ns.length≤n→Only H→SqL (K w.params) H a (ns.map V.int)→sp w [.ref a] H (fun v _=>v=.bl true) fun _ _ _=>False)
    (hCX:∀ (w:World) (H:Hp) (s:Shared) (e:Value) (s':Shared),CX w [] H s (fun _ _ _=>False) e s'→False) :
    PySem.W.WalkO q loose XP YP l.row.toRowW d [] (fun f vs=>PySem.call f vs):=by
  refine Att.attach_call hn hdf fun w s₀ s₁ mg mb fa o pm cd doc a vs ns G Y ho hd hcd hmg hobj hints hlen hg=>?_
  have KX:=hY w _ Y
  obtain ⟨fd,hb,hF⟩:=F w mg fa _ KX G.T.g hmg
  exact law_call KX G.T.g G.T.b G.T.builtins G.T.nolimit hg hobj hints (Nat.le_trans hlen hn2) hr hF hb (fun H hO hS=>hsp w H a ns hlen hO hS) fun H e s'=>hCX w H s₁ e s'
theorem walk_ofK {l:PySem.W.OpenLaw} {n k:Nat} {q:Program} {loose:List Str} {XP:(Str→Option Value)→Heap→Prop} {YP:World→Heap→Prop} {d:DefRec} {K:Params→PySem.W.Frag} {CX:CXT} {sp:PySem.W.Frag→Sp} {x:Str}
    (hn:l.most=some n) (hn2:n≤sizeLine) (hdf:d.params.defaults=[]) (hr:Room k callerA)
    (hY:∀ (w:World) (h:Heap),YP w h→(K w.params).In h)
    (F:∀ (w:World) (mg:Str→Option Value) (fa:Addr) (h:Heap),(K w.params).In h→h.Ns mainGlobals mg→mg d.name=some (.ref fa) →
      ∃ fd:FuncData,(∀ (s:Shared) (u:Value),BindsTo s fd ⟨[u],[]⟩ [(x,u)]) ∧
        ∀ base:Heap,(K w.params).In base→base.Ns mainGlobals mg→FnOk l.prog w (K w.params) mg base CX k fa fd [x] (sp (K w.params)))
    (hsp:∀ (K:PySem.W.Frag) (H:Hp) (a:Addr) (ns:List Int),ns.length≤n→Only H→SqL K H a (ns.map V.int)→sp K [.ref a] H (fun v _=>v=.bl true) fun _ _ _=>False)
    (hCX:∀ (H:Hp) (s:Shared) (e:Value) (s':Shared),CX [] H s (fun _ _ _=>False) e s'→False) :
    PySem.W.WalkO q loose XP YP l.row.toRowW d [] (fun f vs=>PySem.call f vs) :=
  walk_of (K:=K) (CX:=fun _=>CX) (sp:=fun w=>sp (K w.params)) hn hn2 hdf hr hY F (fun w H a ns h1 h2 h3=>hsp (K w.params) H a ns h1 h2 h3) fun _ H s e s'=>hCX H s e s'
end L2
namespace L2
open PySem PySem.Spec PyProof.Rows
noncomputable def inClass (s:Stmt) (j:Nat):Stmt:=match s with
  | .ClassDef _ _ _ body _ _ _ _ _ _ _=>body.getD j (.Pass ⟨0,0,0,0⟩)
  | _=>.Pass ⟨0,0,0,0⟩
noncomputable def defArgs (s:Stmt):Arguments:=match s with
  | .FunctionDef _ a _ _ _ _ _ _ _ _=>a
  | _=>{ posonlyargs:=[],args:=[],vararg:=none,kwonlyargs:=[],kw_defaults:=[],kwarg:=none,defaults:=[] }
noncomputable def defBody (s:Stmt):List Stmt:=match s with
  | .FunctionDef _ _ b _ _ _ _ _ _ _=>b
  | _=>[]
noncomputable def defScope (s:Stmt):Scope:=match s with
  | .FunctionDef _ _ _ _ _ _ sc _ _ _=>sc
  | _=>{ kind:=.function,names:=[],isGenerator:=false,isCoroutine:=false }
noncomputable abbrev CX0:CXT:=fun _ _ _ _ _ _=>False
noncomputable abbrev E0:XK:=fun _ _ _=>False
theorem pass0 {X:Cx}:Passes CX0 X E0:=fun _ _ _ _ _ _ _ h=>h.elim
structure Fun (K:PySem.W.Frag) (x qual:Str) (st:Stmt) (f:Addr) (fd:FuncData):Prop where
  ex:∃ (oc:Value) (od:Option Addr) (kV doc pm:Value) (an:Option Addr) (cdv ct:Value) (osl:Array (Option Value)),
    fd=PySem.W.fnOf x qual (defArgs st) (defBody st) (defScope st) .none kV doc pm an cdv ct∧K.lookup f=some ⟨oc,od,.func fd,osl⟩∧PySem.W.codeIn K cdv qual=true
  kp:PySem.W.keepIn K (.ref f)=true
section
variable {P:Program} {w:World} {K:PySem.W.Frag} {mg:Str→Option Value} {base:Heap}
theorem Fun.ok {x qual:Str} {st:Stmt} {f:Addr} {fd:FuncData} {N ps:List Str} {k:Nat} {sp:Sp} (F:Fun K x qual st f fd) (S:FnScope N ps (defScope st)) (len:∀ vs H Q E,sp vs H Q E→vs.length=ps.length)
    (hbody:∀ (cdv:Value) (A:Around) (outer:List Env) (s:Shared) (H:Hp) (vs:List V) (Q:VK) (E:XK),Room k (A.deeper (envOfC qual (defScope st) s.heap.objs.size f cdv))→sp vs H Q E →
      ∃ t,PSs (cxOf CX0 P w K mg base N qual (defScope st) f cdv A outer s H E).nox (defBody st) t∧t { nx:=fun _ H'=>Q .non H',rt:=Q } (start N vs) H):FnOk P w K mg base CX0 (k + 1) f fd ps sp:=by
  obtain ⟨oc,od,kV,doc,pm,an,cdv,ct,osl,rfl,lk,hcd⟩:=F.ex
  refine fn_of lk hcd S len fun A outer s H vs Q E hr hsp=>?_
  obtain ⟨t,h,q⟩:=hbody cdv A outer s H vs Q E hr hsp
  exact ⟨t,h.nox,q⟩
theorem Fun.binds {x qual:Str} {st:Stmt} {f:Addr} {fd:FuncData} {ps:List Str} (F:Fun K x qual st f fd)
    (h:∀ (kV doc pm:Value) (an:Option Addr) (cdv ct:Value) (us:List Value),us.length=ps.length→bindArgs (PySem.W.fnOf x qual (defArgs st) (defBody st) (defScope st) .none kV doc pm an cdv ct) ⟨us,[]⟩=pure (ps.zip us)):Binds K fd ps []:=by
  obtain ⟨oc,od,kV,doc,pm,an,cdv,ct,osl,rfl,lk,hcd⟩:=F.ex
  exact .all (h kV doc pm an cdv ct)
theorem fun_mk {x qual:Str} {st:Stmt} {f:Addr} {oc:Value} {od an:Option Addr} {osl:Array (Option Value)} {kV doc pm cdv ct:Value} (l:K.lookup f=some ⟨oc,od,.func (PySem.W.fnOf x qual (defArgs st) (defBody st) (defScope st) .none kV doc pm an cdv ct),osl⟩)
    (c:PySem.W.codeIn K cdv qual=true) (k:PySem.W.keepIn K (.ref f)=true):Fun K x qual st f (PySem.W.fnOf x qual (defArgs st) (defBody st) (defScope st) .none kV doc pm an cdv ct):=⟨⟨oc,od,kV,doc,pm,an,cdv,ct,osl,rfl,l,c⟩,k⟩
end
section
variable {X:Cx}
theorem pv (i:Nat) {x:Str} {pos:Pos} (hN:X.N[i]?=some x:=by rfl) (hv:Vis X.env.scope x:=by first | exact Or.inl rfl | exact Or.inr (Or.inl rfl) | exact Or.inr (Or.inr rfl)) (hd:(x == ("__debug__":Str))=false:=by decide)
    (hcd:(x == ("__classdict__":Str))=false:=by decide):PE X (.Name x pos) (tVar i):=pe_var hN hv hd hcd
end
noncomputable def Same (H H':Hp):Prop:=∀ b o,H b=some o→H' b=some o
theorem Same.refl (H:Hp):Same H H:=fun _ _ h=>h
theorem Same.trans {H H1 H2:Hp} (a:Same H H1) (b:Same H1 H2):Same H H2:=fun c o h=>b c o (a c o h)
theorem Same.free {H H':Hp} (e:Same H H') {l:Addr} (h:H' l=Option.none):H l=Option.none:=by
  cases q:H l with
  | none=>rfl
  | some o =>
    rw [e l o q] at h
    cases h
end L2
set_option maxHeartbeats 4000000
namespace L2
open PySem PySem.Spec PyProof.Rows
noncomputable def clOf (scope:Scope) (env:Env):List (Str × Addr) :=
  ((scope.names.filter fun p=>p.2 == .free).reverse).map fun p=>(p.1,(env.cells.lookup p.1).getD 0)
theorem lookup_of_mem {β:Type}:∀ {l:List (Str × β)} {a:Str} {b:β},(a,b)∈l→∃ c,l.lookup a=some c
  | [],_,_,h=>absurd h (by simp)
  | (n,v) :: r,a,b,h=>by
    cases e:a == n with
    | true=>exact ⟨v,by simp [List.lookup_cons,e]⟩
    | false =>
      rcases List.mem_cons.mp h with z | z
      · cases z; simp at e
      · obtain ⟨c,hc⟩:=lookup_of_mem z
        exact ⟨c,by simp [List.lookup_cons,e,hc]⟩
theorem relabel_look {env:Env}:∀ {names:List (Str × NameKind)} {y:Str} {k:NameKind},(∀ p∈names,p.2≠.cell) →
    (names.map fun (n,k)=>if (k == NameKind.free && env.scope.kind == .function && env.kindOf n == some .cell) then (n,NameKind.cell) else (n,k)).lookup y=some k →
    (k=.local→names.lookup y=some .local)∧(k=.cell ∨ k=.free→names.lookup y=some .free)
  | [],_,_,_,h=>by simp at h
  | (n,k0) :: r,y,k,nc,h=>by
    have ih:=@relabel_look env r y k (fun p hp=>nc p (List.mem_cons_of_mem _ hp))
    have nc0:=nc (n,k0) List.mem_cons_self
    have h':List.lookup y ((if (k0 == NameKind.free && env.scope.kind == .function && env.kindOf n == some .cell)=true then (n,NameKind.cell) else (n,k0)) :: (r.map fun (n,k)=>if (k == NameKind.free && env.scope.kind == .function && env.kindOf n == some .cell) then (n,NameKind.cell) else (n,k)))=some k:=h
    cases hx:y == n with
    | true =>
      by_cases hc:(k0 == NameKind.free && env.scope.kind == .function && env.kindOf n == some .cell)=true
      · rw [if_pos hc] at h'
        simp only [List.lookup_cons,hx] at h'
        have hk:NameKind.cell=k:=Option.some.inj h'
        subst hk
        have hf:k0=.free:=by
          simp only [Bool.and_eq_true] at hc
          exact beq_iff_eq.mp hc.1.1
        subst hf
        exact ⟨(fun z=>nomatch z),fun _=>by simp [List.lookup_cons,hx]⟩
      · rw [if_neg hc] at h'
        simp only [List.lookup_cons,hx] at h'
        have hk:k0=k:=Option.some.inj h'
        subst hk
        refine ⟨fun z=>by subst z; simp [List.lookup_cons,hx],fun z=>?_⟩
        rcases z with z | z
        · exact absurd z nc0
        · subst z; simp [List.lookup_cons,hx]
    | false =>
      by_cases hc:(k0 == NameKind.free && env.scope.kind == .function && env.kindOf n == some .cell)=true
      · rw [if_pos hc] at h'
        simp only [List.lookup_cons,hx] at h'
        have:=ih h'
        simpa [List.lookup_cons,hx] using this
      · rw [if_neg hc] at h'
        simp only [List.lookup_cons,hx] at h'
        have:=ih h'
        simpa [List.lookup_cons,hx] using this
noncomputable def blk (X:Cx) (scope:Scope) (x:Str) (C:Addr) (ex:List Addr) (s₂:Shared) (H₂:Hp):Cx :=
  { X with N:=X.N ++ [x],s₀:=s₂,H₀:=H₂,env:=compEnvC scope (clOf scope X.env) C X.env,outer:=X.stack,ex:=ex,fn:=fun _=>false,pn:=[],xe:=fun _ _=>False }
noncomputable def compChk (N:List Str) (sc scope:Scope) (x:Str):Bool :=
  (scope.names.all fun p=>!(p.2 == .cell)) && (scope.kind == .function) && (scope.names.all fun p=>!(p.2 == .local) || scope.names.lookup p.1 == some .local) && (scope.names.lookup x == some .local)
    && (N.all fun y=>!(scope.names.lookup y == some .local)) && (scope.names.all fun p=>!(p.2 == .free) || sc.names.lookup p.1 == some .cell || sc.names.lookup p.1 == some .free)
structure CompSc (N:List Str) (sc scope:Scope) (x:Str):Prop where
  nc:∀ p∈scope.names,p.2≠.cell
  kind:scope.kind=.function
  locs:∀ p∈scope.names,p.2=.local→scope.names.lookup p.1=some .local
  var:scope.names.lookup x=some .local
  noN:∀ y∈N,scope.names.lookup y≠some .local
  fr:∀ p∈scope.names,p.2=.free→sc.names.lookup p.1=some .cell ∨ sc.names.lookup p.1=some .free
theorem CompSc.of {N:List Str} {sc scope:Scope} {x:Str} (h:compChk N sc scope x=true):CompSc N sc scope x:=by
  unfold compChk at h
  simp only [Bool.and_eq_true,List.all_eq_true,Bool.or_eq_true,Bool.not_eq_true',beq_iff_eq,beq_eq_false_iff_ne] at h
  obtain ⟨⟨⟨⟨⟨h1,h2⟩,h3⟩,h4⟩,h5⟩,h6⟩:=h
  refine ⟨h1,h2,fun p hp e=>?_,h4,h5,fun p hp e=>?_⟩
  · rcases h3 p hp with z | z
    · exact absurd e z
    · exact z
  · rcases h6 p hp with (z | z) | z
    · exact absurd e z
    · exact .inl z
    · exact .inr z
section
variable {X:Cx} {pins:List (Addr × Obj)} {σ:St} {H:Hp} {s:Shared}
theorem Inv.adopt {D:Addr} {ys:List V} {its:List Value} {n:Nat} (I:Inv X pins σ H s) (hn:H D=none) (h1:X.s₀.heap.objs.size≤D) (hL:D≠X.env.locals) (hc:∀ x c,X.env.cells.lookup x=some c→c≠D)
    (hp:∀ p∈X.pn ++ pins,p.1≠D) (ho:s.heap.get? D=some { cls:=.type "list",data:=.seq its.toArray n }) (r:Vals ys its) (hz:ys.length≤sizeLine):Inv X pins σ (upd H D (.lst ys)) s:=by
  refine I.step (h':=s.heap) (g':=s.gens) (d':=s.drawn) (t':=s.toks) (ch:=[D]) (fun b hb=>?_) (fun b o _ _ _ e _=>e) (fun b o _ _ _ e _=>⟨o.slots,e⟩) (fun b o hb _ e=>?_) (fun b o _ e=>⟨o,e⟩)
    (fun b xs e=>?_) (fun b o u e=>?_) (fun b ps e=>⟨#[], ?_⟩) (fun m hm=>hm) (fun b u e=>?_) I.bare
  · have e:b=D:=by simpa using hb
    subst e
    exact ⟨.inr h1,hL,hc,hp⟩
  · rw [upd_ne (by simpa using hb)]; exact e
  · rw [upd_ne (ne_of_none e hn)]; exact e
  · rw [upd_ne (ne_of_none e hn)]; exact e
  · rw [upd_ne (ne_of_none e hn),e]; simp
  · by_cases hb:b=D
    · subst hb
      rw [upd_same] at e; cases e
      exact ⟨hz,its,n,r,ho⟩
    · rw [upd_ne hb] at e
      exact (I.hok b u e).stay (fun c v _ q=>q) (fun c q=>by rw [upd_ne (ne_of_none q hn)]; exact q) fun c xs q=>by rw [upd_ne (ne_of_none q hn)]; exact q
end
section
variable {X:Cx} {pins:List (Addr × Obj)} {σ:St} {s₂:Shared} {H₂:Hp} {scope:Scope} {x:Str} {px:Pos} {elt iter:Expr} {pos:Pos} {te:TE} {J:It} {fp:List Addr} {it:Addr} {tn:Nat→Heap→Prop}
theorem clOf_some {sc:CompSc X.N X.env.scope scope x} (ok:X.Ok) {y:Str} {c:Addr} (h:(clOf scope X.env).lookup y=some c):X.env.cells.lookup y=some c:=by
  have hm:=PySem.mem_of_lookup h
  unfold clOf at hm
  obtain ⟨p,hp,e⟩:=List.mem_map.mp hm
  have hp':=List.mem_filter.mp (List.mem_reverse.mp hp)
  obtain ⟨e1,e2⟩:=Prod.mk.inj e
  have hk:=sc.fr p hp'.1 (beq_iff_eq.mp hp'.2)
  obtain ⟨c',hc'⟩:=ok.has p.1 hk
  rw [hc'] at e2
  rw [← e1,hc']
  exact congrArg some e2
theorem clOf_has {y:Str} (h:scope.names.lookup y=some .free):∃ c,(clOf scope X.env).lookup y=some c:=by
  have hm:=PySem.mem_of_lookup h
  refine lookup_of_mem (b:=(X.env.cells.lookup y).getD 0) ?_
  unfold clOf
  exact List.mem_map.mpr ⟨(y,.free),List.mem_reverse.mpr (List.mem_filter.mpr ⟨hm,rfl⟩),rfl⟩
theorem blk_ok (I:Inv X pins σ H₂ s₂) (sc:CompSc X.N X.env.scope scope x) {C:Addr} (hC:s₂.heap.objs.size≤C) (ff:∀ b∈fp,FpOk X pins H₂ b) (fo:∀ b∈fp,∃ o,s₂.heap.get? b=some o):(blk X scope x C fp s₂ H₂).Ok where
  mod:=I.ok.mod
  kind:=sc.kind
  glob:=I.ok.glob
  blt:=I.ok.blt
  above:=hC
  inj:=fun y z c h1 h2=>I.ok.inj y z c (clOf_some (sc:=sc) I.ok h1) (clOf_some (sc:=sc) I.ok h2)
  has:=fun y hy=>by
    have hy':(relabel scope X.env).names.lookup y=some .cell ∨ (relabel scope X.env).names.lookup y=some .free:=hy
    have hf:scope.names.lookup y=some .free:=by
      rcases hy' with z | z
      · exact (relabel_look sc.nc z).2 (.inl rfl)
      · exact (relabel_look sc.nc z).2 (.inr rfl)
    exact clOf_has hf
  cab:=fun y c h=>by cases h
  hd:=I.ok.hd
  frames:=I.ok.frames
  stk:=.inl rfl
  exf:=fun b hb=>by
    obtain ⟨f0,f1,f2,f3,f4,f5⟩:=ff b hb
    obtain ⟨o,ho⟩:=fo b hb
    exact ⟨Nat.ne_of_lt (Nat.lt_of_lt_of_le (Heap.lt_size ho) hC),fun y c h=>f4 y c (clOf_some (sc:=sc) I.ok h)⟩
  bs:=I.bs
  bsz:=Nat.le_trans I.ok.bsz I.sz
  noex:=fun b o e hb=>by
    obtain ⟨f0,f1,f2,f3,f4,f5⟩:=ff b hb
    rcases f3 with z | z
    · exact I.ok.noex b o e z
    · exact absurd (Nat.lt_of_lt_of_le (Heap.lt_size e) (Nat.le_trans I.ok.bsz z)) (Nat.lt_irrefl _)
  exfs:=fun b hb z=>by
    obtain ⟨f0,f1,f2,f3,f4,f5⟩:=ff b hb
    rcases List.mem_cons.mp (I.stkSub b z) with e | e
    · exact f1 e
    · exact f2 e
  funs:=I.stack
  frf:=I.stkFree
end
noncomputable def tCompJ (σ:St) (te:TE) (J:It) (H1:Hp) (Q:VK):Prop:=∃ W:Nat→Nat→List V→Hp→Prop,(∃ m,W 0 m [] H1)∧∀ i m ys H2,W i m ys H2→ys.length≤sizeLine ∧
  ((J.stop i H2∧∀ p,H2 p=none→Q (.ref p) (upd H2 p (.lst ys))) ∨
   (J.go i H2∧∃ N:List V→Hp→Prop,(∀ ys' H',N ys' H'→∃ m',m' < m∧W (i + 1) m' ys' H')∧∀ x H3,J.yld i H2 x H3→te (σ ++ [some x]) H3 fun y H4=>N (ys ++ [y]) H4))
noncomputable def tComp (wi:TI) (te:TE):TE:=fun σ H Q=>wi σ H fun J H1=>tCompJ σ te J H1 Q
section
variable {X:Cx} {pins:List (Addr × Obj)} {σ:St} {s₂:Shared} {H₂:Hp} {scope:Scope} {x:Str} {px:Pos} {elt iter:Expr} {pos:Pos} {te:TE} {J:It} {fp:List Addr} {it:Addr} {tn:Nat→Heap→Prop}
theorem comp_run {E:Value→Shared→Prop} {Q:VK} {RR:Value→Addr→Result→Shared→Prop} (I:Inv X pins σ H₂ s₂) (sc:CompSc X.N X.env.scope scope x) (hNd:X.N.Nodup) (hc:X.calm=true)
    (T:Turn X.prog X.w X.K (.Name x px) J fp it tn) (st:tn 0 s₂.heap) (ff:∀ b∈fp,FpOk X pins H₂ b) (hw:tCompJ σ te J H₂ Q)
    (he:∀ C s₂ H₂ ex,PE (blk X scope x C ex s₂ H₂) elt te)
    (hRR:∀ D C s' H' m',s₂.heap.objs.size≤C→Inv X pins σ H' s'→s'.heap.Ns C m'→H' C=none→Q (.ref D) H'→RR (.ref D) C (.ok .next) s') :
    wpAny (model X.prog X.w) X.A (newList []) (fun acc s₃=>wpAny (model X.prog X.w) X.A (newFunctionEnv scope X.env.globals (clOf scope X.env) [] X.env.qual none .none (some X.env)) (fun cenv s₄ =>
      codeAny (model X.prog X.w) X.A (.compStart (.ListComp elt [⟨.Name x px,iter,[],0⟩] scope pos) 0 (.ref it) acc { cenv with scope:=relabel scope X.env }) (RR acc cenv.locals) s₄) E s₃) E s₂:=by
  refine wpAny_newObj_type (wpAny_newFunctionEnv sc.nc (by intro y hy; simp at hy) (fun h₁ hns₁ hsb₁=>?_) sc.kind)
  dsimp only at hns₁ hsb₁ ⊢
  generalize hP2:s₂.heap.push { cls:=.type "list",dict:=none,data:=.seq ([]:List Value).toArray }=P2 at hns₁ hsb₁ ⊢
  have hCs:P2.objs.size=s₂.heap.objs.size + 1:=by rw [← hP2,Heap.size_push]
  have hCle:s₂.heap.objs.size≤P2.objs.size:=by rw [hCs]; exact Nat.le_succ _
  have hDC:s₂.heap.objs.size≠P2.objs.size:=by rw [hCs]; exact Nat.ne_of_lt (Nat.lt_succ_self _)
  generalize hCe:P2.objs.size=C at hns₁ hsb₁ hCs hCle hDC ⊢
  generalize hDe:s₂.heap.objs.size=D at hCs hCle hDC ⊢
  have fo:∀ b∈fp,∃ o,s₂.heap.get? b=some o:=fun b hb=>let ⟨o,e,_⟩:=T.obj _ _ st b hb; ⟨o,e⟩
  have flt:∀ b∈fp,b < D:=fun b hb=>by obtain ⟨o,e⟩:=fo b hb; rw [← hDe]; exact Heap.lt_size e
  have old:∀ b o,s₂.heap.get? b=some o→h₁.get? b=some o:=fun b o e=>by
    have hb:=Heap.lt_size e
    exact hsb₁.extBut b o (Nat.ne_of_lt (by rw [hCs]; exact Nat.lt_succ_of_lt (hDe ▸ hb))) (Heap.get?_push_of_some _ (hP2 ▸ Heap.get?_push_of_some _ e))
  have hacc:h₁.get? D=some { cls:=.type "list",data:=.seq ([]:List Value).toArray 0 }:=hsb₁.extBut _ _ hDC (Heap.get?_push_of_some _ (hP2 ▸ hDe ▸ Heap.get?_push_size _ rfl))
  have okB:=blk_ok (x:=x) (C:=C) I sc (by rw [hDe]; exact hCle) ff fo
  have hfreshD:H₂ D=none:=I.hok.fresh (by rw [hDe]; exact Nat.le_refl _)
  have hfreshC:H₂ C=none:=I.hok.fresh (by rw [hDe]; exact hCle)
  have hxN:x ∉ X.N:=fun z=>sc.noN x z sc.var
  have ndB:(X.N ++ [x]).Nodup:=List.nodup_append.mpr ⟨hNd,by simp,fun a ha b hb=>by
    have:b=x:=by simpa using hb
    subst this; rintro rfl; exact hxN ha⟩
  have I0:Inv (blk X scope x C fp s₂ H₂) [(D,{ cls:=.type "list",data:=.seq ([]:List Value).toArray 0 })] (σ ++ [none]) H₂ { s₂ with heap:=h₁,toks:=s₂.toks + ([]:List (Str × Value)).length }:=by
    refine ⟨okB,rfl,I.bare,Un.kept old,⟨_,hns₁,fun i y v e1 e2 e3=>?_⟩,fun y c e=>?_,hfreshC,fun y c e=>I.freeC y c (clOf_some (sc:=sc) I.ok e),fun p hp=>?_,I.hok.kept old,by simp [blk,I.len]⟩
    · have hi:i < σ.length:=by
        by_cases hi:i < σ.length
        · exact hi
        · rw [List.getElem?_append_right (by omega)] at e2
          have:([none]:St)[i - σ.length]?=some (some v):=e2
          cases hj:i - σ.length with
          | zero=>rw [hj] at this; simp at this
          | succ j=>rw [hj] at this; simp at this
      rw [List.getElem?_append_left hi] at e2
      have e1':(X.N ++ [x])[i]?=some y:=e1
      rw [List.getElem?_append_left (by rw [← I.len]; exact hi)] at e1'
      have yN:y∈X.N:=List.mem_of_getElem? e1'
      have e3':(relabel scope X.env).names.lookup y=some .local ∨ (relabel scope X.env).names.lookup y=some .cell ∨ (relabel scope X.env).names.lookup y=some .free:=e3
      have hcf:(relabel scope X.env).names.lookup y=some .cell ∨ (relabel scope X.env).names.lookup y=some .free:=by
        rcases e3' with z | z
        · exact absurd ((relabel_look sc.nc z).1 rfl) (sc.noN y yN)
        · exact z
      have hfree:scope.names.lookup y=some .free:=by
        rcases hcf with z | z
        · exact (relabel_look sc.nc z).2 (.inl rfl)
        · exact (relabel_look sc.nc z).2 (.inr rfl)
      obtain ⟨c,hcl⟩:=clOf_has (X:=X) hfree
      have hcx:=clOf_some (sc:=sc) I.ok hcl
      have hvis:=sc.fr _ (PySem.mem_of_lookup hfree) rfl
      obtain ⟨m,hn,hl⟩:=I.loc
      obtain ⟨u,ru,hlook⟩:=hl i y v e1' e2 (.inr hvis)
      refine ⟨u,ru,.inr ⟨hcf,c,hcl, ?_⟩⟩
      rcases hlook with ⟨k,_⟩ | ⟨k,c',ec,hcell⟩
      · have k':X.env.scope.names.lookup y=some .local:=k
        have hv':X.env.scope.names.lookup y=some .cell ∨ X.env.scope.names.lookup y=some .free:=hvis
        rw [k'] at hv'
        rcases hv' with z | z <;> cases z
      · rw [hcx] at ec; cases ec
        obtain ⟨o,ho,hd⟩:=hcell
        exact ⟨o,old _ _ ho,hd⟩
    · obtain ⟨v,o,ho,hd⟩:=I.cell y c (clOf_some (sc:=sc) I.ok e)
      exact ⟨v,o,old _ _ ho,hd⟩
    · have e:p=(D,{ cls:=.type "list",data:=.seq ([]:List Value).toArray 0 }):=by simpa [blk] using hp
      subst e
      exact ⟨hacc,hfreshD,hDC,(fun z=>by
        rcases List.mem_cons.mp (I.stkSub D z) with e | e
        · exact absurd I.lt (by rw [← e,hDe]; exact Nat.lt_irrefl _)
        · exact I.nofs (by rw [hDe]; exact Nat.le_refl _) e),fun v z=>nomatch z⟩
  obtain ⟨W,⟨m0,w0⟩,turn⟩:=hw
  have fpB:∀ {H':Hp} {o:Obj},(∀ b∈fp,H' b=none)→∀ b∈fp,FpOk (blk X scope x C fp s₂ H₂) [(D,o)] H' b:=fun {H' o} hn b hb=>by
    obtain ⟨f0,f1,f2,f3,f4,f5⟩:=ff b hb
    obtain ⟨g1,g2⟩:=okB.exf b hb
    exact ⟨hn b hb,g1,okB.exfs b hb,.inl hb,g2,fun p hp=>by
      have e:p=(D,o):=by simpa [blk] using hp
      subst e
      exact (Nat.ne_of_lt (flt b hb)).symm⟩
  have hσ:σ.length=X.N.length:=I.len
  have loop:∀ s₃:Shared,s₃={ s₂ with heap:=h₁,toks:=s₂.toks + ([]:List (Str × Value)).length } →
      codeAny (model X.prog X.w) X.A (.compLoop (.ListComp elt [⟨.Name x px,iter,[],0⟩] scope pos) 0 (.ref it) (.ref D) (compEnvC scope (clOf scope X.env) C X.env)) (RR (.ref D) C) s₃:=by
    rintro s₃ rfl
    refine codeAny_compLoop_tests
      (fun n s'=>∃ i ys its k σx H',Inv (blk X scope x C fp s₂ H₂) [(D,{ cls:=.type "list",data:=.seq (List.toArray its) k })] (σ ++ [σx]) H' s'∧tn i s'.heap∧(∀ b∈fp,H' b=none)∧Vals ys its∧W i n ys H') ?_ m0
      ⟨0,[],[],0,none,H₂,I0,T.keep _ _ _ st (fun b hb o e=>old b o e),fun b hb=>(ff b hb).1,.nil,w0⟩
    rintro n s' ⟨i,ys,its,k,σx,H',I',st',fr',rv,w'⟩
    obtain ⟨hz,hcase⟩:=turn i n ys H' w'
    have hpinD:=I'.pin (D,{ cls:=.type "list",data:=.seq (List.toArray its) k }) (by simp [blk])
    rcases hcase with ⟨stop,q⟩ | ⟨go,N,hN,step⟩
    · refine thn (T.done (blk X scope x C fp s₂ H₂) rfl rfl rfl hc i _ s' _ H' _ I' (fpB fr') st' stop) fun r s4 ⟨hr,I4⟩=>?_
      subst hr
      have pD:=I4.pin (D,{ cls:=.type "list",data:=.seq (List.toArray its) k }) (by simp [blk])
      obtain ⟨m4,hn4,_⟩:=I4.loc
      have IX:Inv X pins σ H' s4:=I.call' I4.os I4.base I4.hok I4.bare fun b hb=>by
        obtain ⟨f0,f1,f2,f3,f4,f5⟩:=ff b hb
        exact ⟨f3,f1,f4,f5⟩
      have IX2:=IX.adopt (D:=D) (ys:=ys) (its:=its) (n:=k) hpinD.2.1 (by rw [← hDe]; exact I.sz) (by rw [← hDe]; exact Nat.ne_of_gt I.lt)
        (fun y c e z=>by
          obtain ⟨v,o,ho,hd⟩:=I.cell y c e
          have:=Heap.lt_size ho
          rw [hDe,z] at this
          exact Nat.lt_irrefl _ this)
        (fun p hp z=>by
          have:=Heap.lt_size (I.pin p hp).1
          rw [hDe,z] at this
          exact Nat.lt_irrefl _ this) pD.1 rv hz
      refine hRR D C s4 _ m4 (by rw [hDe]; exact hCle) IX2 hn4 ?_ (q D hpinD.2.1)
      rw [upd_ne (Ne.symm hDC)]
      exact I4.free
    · refine thn (T.item (blk X scope x C fp s₂ H₂) rfl rfl rfl hc i _ s' _ H' _ I' (fpB fr') st' go) fun r s4 ⟨u,hr,h4⟩=>?_
      subst hr
      show wpAny _ _ (letOwnedTupleGo (.Name x px) (.ref it) u >>= fun _=>assign (.Name x px) (compEnvC scope (clOf scope X.env) C X.env) u) _ _ s4
      refine wpAny_bind (thn h4 fun _ s5 ⟨y,H5,I5,r5,y5,st5,fr5⟩=>?_)
      have I5':=I5.pinned (fpB fr5) (T.obj _ _ st5)
      refine wpAny_assign_Name ?_
      refine store_ok (X:=blk X scope x C fp s₂ H₂) (i:=X.N.length) (x:=x) (v:=y) I5' ndB (by simp [blk]) (.inl (lookup_relabel_local sc.var)) r5 (fun s6 I6=>?_) (.inr (lookup_relabel_local sc.var))
      have eσ:(σ ++ [σx]).set X.N.length (some y)=σ ++ [some y]:=by
        rw [← hσ]; simp
      rw [eσ] at I6
      refine wpAny_tests_nil ?_
      simp only [if_true]
      refine wpAny_mono (he C s₂ H₂ fp _ s6 _ H5 _ I6 (step y H5 y5)) (fun u7 s7 h7=>?_) fun _ _ f=>f.elim
      obtain ⟨v7,H7,I7,r7,n7⟩:=h7
      have pD7:=I7.pin (D,{ cls:=.type "list",data:=.seq (List.toArray its) k }) (by simp [blk])
      have hlen:=rv.length
      refine append_at (hsz:=by show its.toArray.size≤sizeLine; rw [List.size_toArray,← hlen]; exact hz) pD7.1 fun h8 hs8 hD8=>?_
      obtain ⟨m',hm,w8⟩:=hN _ _ n7
      have hD8':h8.get? D=some { cls:=.type "list",data:=.seq (its ++ [u7]).toArray (k + 1) }:=by rw [hD8,List.push_toArray]
      have I8:Inv (blk X scope x C fp s₂ H₂) [] (σ ++ [some y]) H7 { s7 with heap:=h8 }:=by
        refine (I7.pins_of (pins':=[]) fun p hp=>absurd hp (by simp)).turned (t':=s7.toks) (it:=D) (fun b o hb e=>(hs8.2 b hb).trans e) pD7.2.1 pD7.2.2.1 (.inr (by show s₂.heap.objs.size≤D; rw [hDe]; exact Nat.le_refl _)) (fun y' c' e' z=>?_) fun p hp=>absurd (show p∈([]:List (Addr × Obj)) from by simpa [blk] using hp) (by simp)
        obtain ⟨v,o,ho,hd⟩:=I.cell y' c' (clOf_some (sc:=sc) I.ok e')
        have:=Heap.lt_size ho
        rw [hDe,z] at this
        exact Nat.lt_irrefl _ this
      refine ⟨m',hm,i + 1,ys ++ [v7],its ++ [u7],k + 1,some y,H7,I8.pins_of fun p hp=>?_, ?_,fun b hb=>?_,rv.append (.cons r7 .nil),w8⟩
      · have e:p=(D,{ cls:=.type "list",data:=.seq (its ++ [u7]).toArray (k + 1) }):=by simpa using hp
        subst e
        exact ⟨hD8',pD7.2.1,pD7.2.2.1,pD7.2.2.2.1,fun v z=>nomatch z⟩
      · refine T.keep _ _ _ st5 fun b hb o e=>?_
        have hpb:=I7.pin (b,o) (List.mem_append_right _ (List.mem_append_right _ (mem_pinsAt hb e)))
        exact (hs8.2 b (Nat.ne_of_lt (flt b hb))).trans hpb.1
      · obtain ⟨o,e,d⟩:=T.obj _ _ st5 b hb
        exact (I7.pin (b,o) (List.mem_append_right _ (List.mem_append_right _ (mem_pinsAt hb e)))).2.1
  exact codeAny_compStart_list (loop _ rfl) (T.self _ 0 _ _ _ (T.keep _ _ _ st fun b hb o e=>old b o e) (loop _ rfl))
theorem pe_comp {wi:TI} (hi:PI X (.Name x px) iter wi) (he:∀ C s₂ H₂ ex,PE (blk X scope x C ex s₂ H₂) elt te) (hNd:X.N.Nodup) (hc:X.calm=true)
    (hclos:closureFor scope X.env=pure (clOf scope X.env):=by rfl) (hchk:compChk X.N X.env.scope scope x=true:=by rfl) (hs:∀ x,foldedSetIterable iter X.env x=pure x:=by exact fun _=>rfl) :
    PE X (.ListComp elt [⟨.Name x px,iter,[],0⟩] scope pos) (tComp wi te):=by
  intro pins s σ H Q I h
  have sc:=CompSc.of hchk
  rw [eval_ListComp]
  refine wpAny_comprehension_free (use:=none) rfl hs hclos sc.kind sc.locs (thn (hi pins s σ H _ I h) fun xv s₁ h₁=>thn h₁ fun itv s₂ h₂=>?_)
  obtain ⟨it,fp,tn,J,H2,e,I2,T,st2,f2,q⟩:=h₂
  subst e
  refine comp_run (RR:=fun acc C=>compPost (model X.prog X.w) X.A X.xe none (EP X pins σ Q) acc C) I2 sc hNd hc T st2 f2 q he ?_
  intro D C s' H' m' hC I' hn hC0 hq
  refine ⟨m',hn,fun h'' hs''=>⟨.ref D,H', ?_,rfl,hq⟩⟩
  refine I'.turned (t':=s'.toks) (it:=C) (fun b o hb e=>(hs''.2 b hb).trans e) hC0 (Nat.ne_of_gt (Nat.lt_of_lt_of_le I2.lt hC)) (.inr (Nat.le_trans I2.sz hC)) (fun y c e z=>?_) fun p hp z=>?_
  · obtain ⟨v,o,ho,hd⟩:=I2.cell y c e
    exact absurd (Heap.lt_size ho) (Nat.not_lt.mpr (by rw [z]; exact hC))
  · exact absurd (Heap.lt_size (I2.pin p hp).1) (Nat.not_lt.mpr (by rw [z]; exact hC))
noncomputable def tSetComp (i:Nat) (wi:TI) (te:TE):TS:=fun D σ H=>tComp wi te σ H fun v H'=>D.nx (σ.set i (some v)) H'
theorem ps_setComp {i:Nat} {y:Str} {py spos:Pos} {wi:TI} (hN:X.N.Nodup) (hi:X.N[i]?=some y) (hit:PI X (.Name x px) iter wi) (he:∀ C s₂ H₂ ex,PE (blk X scope x C ex s₂ H₂) elt te) (hc:X.calm=true)
    (hsw:swapsWith (.ListComp elt [⟨.Name x px,iter,[],0⟩] scope pos) (some (.Name y py)) spos.line X.env=pure true:=by rfl) (hy:X.env.scope.names.lookup y=some .local:=by rfl)
    (hclos:closureFor scope X.env=pure (clOf scope X.env):=by rfl) (hchk:compChk X.N X.env.scope scope x=true:=by rfl) (hs:∀ x,foldedSetIterable iter X.env x=pure x:=by exact fun _=>rfl) :
    PS X (.Assign [.Name y py] (.ListComp elt [⟨.Name x px,iter,[],0⟩] scope pos) spos) (tSetComp i wi te):=by
  intro pins s σ H D0 I h
  have sc:=CompSc.of hchk
  rw [exec_Assign_Name_used _ _ _ _ hsw]
  refine wpAny_bind (wpAny_standAt (wpAny_bind ?_))
  show wpAny _ X.A (do let _ ← comprehension (.ListComp elt [⟨.Name x px,iter,[],0⟩] scope pos) scope X.env _ (newList []) false (eval iter X.env) (some (assign (.Name y py) X.env))) _ _ s
  refine wpAny_bind (wpAny_mono (wpAny_comprehension_free (use:=some (assign (.Name y py) X.env)) (Q:=fun _ s'=>SP X pins D0 .next s') rfl hs hclos sc.kind sc.locs
    (thn (hit pins s σ H _ I h) fun xv s₁ h₁=>thn h₁ fun itv s₂ h₂=>?_)) (fun _ s' hq=>wpAny_pure (wpAny_pure hq)) fun _ _ e=>e)
  obtain ⟨it,fp,tn,J,H2,e,I2,T,st2,f2,q⟩:=h₂
  subst e
  refine comp_run (RR:=fun acc C=>compPost (model X.prog X.w) X.A X.xe (some (assign (.Name y py) X.env)) (fun _ s'=>SP X pins D0 .next s') acc C) I2 sc hN hc T st2 f2 q he ?_
  intro D C s' H' m' hC I' hn hC0 hq
  show wpAny _ X.A (assign (.Name y py) X.env (.ref D)) _ _ _
  have cellC:∀ y c,X.env.cells.lookup y=some c→c≠C:=fun y c e z=>by
    obtain ⟨v,o,ho,hd⟩:=I2.cell y c e
    exact absurd (Heap.lt_size ho) (Nat.not_lt.mpr (by rw [z]; exact hC))
  have locC:C≠X.env.locals:=Nat.ne_of_gt (Nat.lt_of_lt_of_le I2.lt hC)
  refine wpAny_assign_Name (store_ok2 (i:=i) (v:=.ref D) I' hN hi (.inl hy) rfl (fun s'' I'' ⟨a,hsa,ha⟩=>?_) (.inr hy))
  have hCa:C≠a:=by
    rcases ha with z | z
    · rw [z]; exact locC
    · exact (cellC _ _ z).symm
  refine ⟨m',hn.sameBut hsa hCa,fun h'' hs''=>⟨σ.set i (some (.ref D)),H', ?_,hq⟩⟩
  refine I''.turned (t':=s''.toks) (it:=C) (fun b o hb e=>(hs''.2 b hb).trans e) hC0 locC (.inr (Nat.le_trans I2.sz hC)) cellC fun p hp z=>?_
  exact absurd (Heap.lt_size (I2.pin p hp).1) (Nat.not_lt.mpr (by rw [z]; exact hC))
end
end L2
namespace HL
open PySem PyProof.Rows
section
open PySem.SeqAt
open PySem.AutoSeq1 (wpAny_loadPart')
open PySem.MeetsSeq PySem.MeetsSeq2 PySem.MeetsSeq3 SeqRoads2
end
section
variable {prog:Program} {w:World} {A:Around} {E:Value→Shared→Prop} {s:Shared}
end
end HL
namespace L2
open PySem PySem.Spec PyProof.Rows
section
variable {X:Cx}
theorem call_sum (hc:X.calm=true):CallR X (.builtin "sum") (fun xs H Q=>∃ p,∃ ns:List Int,xs=[.ref p]∧SqL X.K H p (ns.map V.int)∧Q (.int ns.sum) H):=by
  intro pins s σ H xs us Q I r h
  obtain ⟨p,ns,rfl,hq,q⟩:=h
  obtain ⟨u,rfl,rx⟩:=vals1 r
  cases rx
  obtain ⟨its,r',pl,hz⟩:=I.list hq
  have hi:IntsAre its ns:=intsAre_of r'
  obtain ⟨xs,hx⟩:=hi.allInts.items
  have hl':s.heap.IsList p (intItems xs):=hx ▸ pl.isList
  refine sum_intListG (I.ok.hd hc) hl' fun h' tk t' hk=>?_
  have e1:ns=xs.toList.map (·.1):=by
    rw [← nums_intItems,← hx]
    exact (show numsOf its.toArray.toList=ns from hi.numsOf).symm
  have e2:preSum (numAt xs) xs.size=ns.sum:=by
    rw [preSum_eq,List.take_of_length_le (by simp),e1]
  rw [e2]
  exact ⟨.int ns.sum,H,I.kept hk,⟨_,rfl⟩,q⟩
theorem boolsAre_of:∀ {bs:List Bool} {us:List Value},Vals (bs.map V.bl) us→LSm.BoolsAre us bs
  | [],_,.nil=>.nil
  | b :: bs,_,.cons r t=>by
    cases r
    exact .cons b (boolsAre_of t)
theorem call_all (hc:X.calm=true):CallR X (.builtin "all") (fun xs H Q=>∃ p,∃ bs:List Bool,xs=[.ref p]∧SqL X.K H p (bs.map V.bl)∧Q (.bl (bs.all id)) H):=by
  intro pins s σ H xs us Q I r h
  obtain ⟨p,bs,rfl,hq,q⟩:=h
  obtain ⟨u,rfl,rx⟩:=vals1 r
  cases rx
  obtain ⟨its,r',pl,hz⟩:=I.list hq
  have hb:=boolsAre_of r'
  have hlt:p < s.heap.objs.size:=by obtain ⟨_,e,_⟩:=pl.isList; exact Heap.lt_size e
  refine call_all_walk (wpAny_pyIter_list pl.isList ?_)
  refine ⟨s.heap.objs.size,[s.heap.objs.size,p],[s.heap.objs.size],its.toArray.size,_,_,fun i=>(bs[i]?).getD true,rfl,Walks.list (A:=X.A.in1) (I.ok.hd hc) _ p (Nat.ne_of_lt hlt) its.toArray,
    ⟨⟨_,Heap.get?_push_size _ rfl,rfl,rfl⟩,pl.isList.push _⟩,fun i v s' Q' E' hP hQ=>?_,fun h' tk hk=>?_⟩
  · obtain ⟨b,e,rfl⟩:=hb.get i v (by simpa using hP)
    dsimp only at hQ
    rw [e,Option.getD_some] at hQ
    exact wpAny_truthy_bool hQ
  · rw [List.size_toArray,hb.length,LSm.range_all]
    exact ⟨.bl (bs.all id),H,I.kept (LSm.kept_iter hk),rfl,q⟩
end
end L2
namespace HL
open PySem PyProof.Rows
section
variable {prog:Program} {w:World} {A:Around} {R:Result→Shared→Prop} {I:Addr} {fp wr:List Addr} {n:Nat} {P:Nat→Value→Prop} {St:Nat→Heap→Prop}
end
section
variable {prog:Program} {w:World} {A:Around} {E:Value→Shared→Prop} {s:Shared}
end
section
open PySem.SeqAt
open PySem.AutoSeq1 (wpAny_loadPart')
open PySem.MeetsSeq PySem.MeetsSeq2 PySem.MeetsSeq3
end
end HL
namespace HL
open PySem
end HL
namespace L2
open PySem PySem.Spec PyProof.Rows
section
variable {X:Cx}
theorem call_minI (hc:X.calm=true):CallR X (.builtin "min") (fun xs H Q=>∃ p,∃ ns:List Int,xs=[.ref p]∧SqL X.K H p (ns.map V.int)∧0 < ns.length∧∀ m,m∈ns→(∀ a∈ns,m≤a)→Q (.int m) H):=by
  intro pins s σ H xs us Q I r h
  obtain ⟨p,ns,rfl,hq,hne,q⟩:=h
  obtain ⟨u,rfl,rx⟩:=vals1 r
  cases rx
  obtain ⟨its,r',pl,hz⟩:=I.list hq
  have hi:IntsAre its ns:=intsAre_of r'
  obtain ⟨zs,e⟩:=hi.allInts.items
  have hns:ns=zs.toList.map (·.1):=by rw [← hi.numsOf,← nums_intItems,← e]
  have hsz:0 < zs.size:=by
    have h3:=hne
    rw [hns,List.length_map,Array.length_toList] at h3
    exact h3
  have hl:=pl.isList
  rw [e] at hl
  refine min_intList (I.ok.hd hc) hl hsz fun v h' tk hv hk=>?_
  obtain ⟨t,rfl⟩:=intItems_at hv
  obtain ⟨h1,h2⟩:=argBest_lt (numAt zs) (zs.size - 1)
  refine ⟨.int _,H,I.kept hk,⟨_,rfl⟩,q _ ?_ fun a ha=>?_⟩
  · rw [hns,numAt_eq]; exact getD_mem (by rw [List.length_map,Array.length_toList]; omega)
  · rw [hns] at ha
    obtain ⟨j,hj,rfl⟩:=mem_getD ha
    rw [List.length_map,Array.length_toList] at hj
    rw [← numAt_eq]; exact h2 j (by omega)
noncomputable def rMinI (K:PySem.W.Frag):List V→Hp→VK→Prop:=fun xs H Q=>∃ p,∃ ns:List Int,xs=[.ref p]∧SqL K H p (ns.map V.int)∧0 < ns.length∧∀ m,m∈ns→(∀ a∈ns,m≤a)→Q (.int m) H
end
end L2
namespace L2
open PySem PySem.Spec PyProof.Rows
noncomputable def Dfn (K:PySem.W.Frag) (mg:Str→Option Value) (x:Str) (st:Stmt):Prop:=∃ f fd,Fun K x x st f fd∧mg x=some (.ref f)
noncomputable abbrev BindFact (x:Str) (st:Stmt) (ps:List Str):Prop:=∀ (kV doc pm:Value) (an:Option Addr) (cdv ct:Value) (us:List Value),us.length=ps.length →
  bindArgs (PySem.W.fnOf x x (defArgs st) (defBody st) (defScope st) .none kV doc pm an cdv ct) ⟨us,[]⟩=pure (ps.zip us)
noncomputable def Ok (P:Program) (w:World) (K:PySem.W.Frag) (mg:Str→Option Value) (base:Heap) (k:Nat) (x:Str) (ps:List Str) (sp:Sp):Prop :=
  ∃ f fd,FnOk P w K mg base CX0 k f fd ps sp∧mg x=some (.ref f)∧PySem.W.keepIn K (.ref f)=true∧Binds K fd ps []
theorem okOf {P:Program} {w:World} {K:PySem.W.Frag} {mg:Str→Option Value} {base:Heap} {k:Nat} {x:Str} {st:Stmt} {ps:List Str} {sp:Sp} (d:Dfn K mg x st) (b:BindFact x st ps)
    (h:∀ {f fd},Fun K x x st f fd→FnOk P w K mg base CX0 k f fd ps sp):Ok P w K mg base k x ps sp:=by
  obtain ⟨f,fd,F,hm⟩:=d
  exact ⟨f,fd,h F,hm,F.kp,F.binds b⟩
section
variable {X:Cx} {k:Nat} {x:Str} {ps:List Str} {sp:Sp} {p pos:Pos} {e:Expr} {es:List Expr} {t:TA}
noncomputable def tCallO (sp:Sp) (t:TA):TE:=fun σ H Q=>t σ H fun vs H1=>sp vs H1 Q E0
theorem pe_callO (G:Ok X.prog X.w X.K X.mg X.base k x ps sp) (hr:Room k X.A) (hg:Gl X x) (ha:PA X (e :: es) t) (hdb:(x == ("__debug__":Str))=false:=by decide)
    (he:starEach (e :: es) X.env=(false,eval e X.env) :: starEach es X.env:=by rfl) (hpl:(backTo pos (starEach es X.env)).any (·.1)=false:=by rfl):PE X (.Call (.Name x p) (e :: es) [] pos) (tCallO sp t):=by
  obtain ⟨f,fd,F,hm,hk,hb⟩:=G
  intro pins s σ H Q I h
  refine pe_call (CX:=CX0) (E:=E0) (dvs:=[]) F hr hg hm hk hb .nil pass0 ha hdb he hpl pins s σ H Q I ?_
  have e:(fun vs H1=>sp (vs ++ []) H1 Q E0)=fun vs H1=>sp vs H1 Q E0:=by funext vs H1; rw [List.append_nil]
  show t σ H (fun vs H1=>sp (vs ++ []) H1 Q E0)
  rw [e]
  exact h
theorem pe_callO0 (G:Ok X.prog X.w X.K X.mg X.base k x ps sp) (hr:Room k X.A) (hg:Gl X x) (hdb:(x == ("__debug__":Str))=false:=by decide):PE X (.Call (.Name x p) [] [] pos) (tCallO sp tNil):=by
  obtain ⟨f,fd,F,hm,hk,hb⟩:=G
  exact pe_call0 (CX:=CX0) (E:=E0) (dvs:=[]) F hr hg hm hk hb .nil pass0 hdb
theorem pe_globI {i:Int} (hm:∃ t,X.mg x=some (.int i t)) (hg:Gl X x) (hd:(x == ("__debug__":Str))=false:=by decide):PE X (.Name x pos) (tC (.int i)):=by
  obtain ⟨t,hm⟩:=hm
  exact pe_glob (v:=.int i) hg hm ⟨t,rfl⟩ hd
theorem get_list:PGet X (rIxL X.K):=by
  intro pins s σ H o i ov iv Q I ro ri h
  obtain ⟨p,xs,i,z,rfl,rfl,hq,he,q⟩:=h
  cases ro
  obtain ⟨t,rfl⟩:=ri
  obtain ⟨its,r,pl,hz⟩:=I.list hq
  obtain ⟨j,h1,h2,h3,h4,h5⟩:=atI_get he
  obtain ⟨w,ew,rw'⟩:=r.get h2
  have hl:=r.length
  have hn:=line63
  have fin:EP X pins σ Q w s:=⟨z,H,I,rw',q⟩
  by_cases h0:0≤i
  · have hj:i.toNat=j:=by
      rw [seqIndex_of h0 h5] at h1
      exact Option.some.inj h1
    exact wpAny_getItem_list pl.isList h0 (by omega) (by rw [hj]; simpa using ew) fin
  · have hj:(i + (its.toArray.size:Int)).toNat=j:=by
      rw [seqIndex_neg (by omega) h4] at h1
      rw [List.size_toArray,← hl]
      exact Option.some.inj h1
    exact wpAny_getItem_list_neg pl.isList (by omega) (by rw [List.size_toArray] <;> omega) (by omega) (by rw [hj]; simpa using ew) fin
end
theorem call_lenA {X:Cx}:CallR X (.builtin "len") (fun xs H Q=>∃ p ys,xs=[.ref p]∧(SqL X.K H p ys ∨ SqT X.K H p ys)∧Q (.int ys.length) H):=call_len_seq
theorem bb_len:bootBuiltins "len"=some (.builtin "len"):=by decide +kernel
theorem bb_isinstance:bootBuiltins "isinstance"=some (.builtin "isinstance"):=by decide +kernel
theorem bb_sum:bootBuiltins "sum"=some (.builtin "sum"):=by decide +kernel
theorem bb_all:bootBuiltins "all"=some (.builtin "all"):=by decide +kernel
theorem bb_min:bootBuiltins "min"=some (.builtin "min"):=by decide +kernel
theorem bt_list:bootBuiltins "list"=some (.type "list"):=by decide +kernel
theorem bt_int:bootBuiltins "int"=some (.type "int"):=by decide +kernel
theorem bt_bool:bootBuiltins "bool"=some (.type "bool"):=by decide +kernel
theorem bt_tuple:bootBuiltins "tuple"=some (.type "tuple"):=by decide +kernel
section
variable {t u:TS} {ta tb tc te:TE} {c d:TT} {D:Ends} {σ:St} {H:Hp} {Q:VK} {B:Bool→Hp→Prop} {a b:TA} {S:List V→Hp→Prop}
end
end L2
namespace L2
open PySem PySem.Spec PyProof.Rows
section
variable {t u:TS} {ta tb tc te:TE} {c d:TT} {D:Ends} {σ:St} {H:Hp} {Q:VK} {B:Bool→Hp→Prop} {a b:TA} {S:List V→Hp→Prop} {g:TG}
end
section
variable {X:Cx} {K:PySem.W.Frag}
theorem ix_seqK (e:X.K=K:=by rfl):IxR X (rIx K):=by subst e; exact ix_seq
theorem call_lenK (e:X.K=K:=by rfl):CallR X (.builtin "len") (fun xs H Q=>∃ p ys,xs=[.ref p]∧(SqL K H p ys ∨ SqT K H p ys)∧Q (.int ys.length) H):=by subst e; exact call_lenA
theorem call_sumK (hc:X.calm=true) (e:X.K=K:=by rfl):CallR X (.builtin "sum") (fun xs H Q=>∃ p,∃ ns:List Int,xs=[.ref p]∧SqL K H p (ns.map V.int)∧Q (.int ns.sum) H):=by subst e; exact call_sum hc
theorem call_allK (hc:X.calm=true) (e:X.K=K:=by rfl):CallR X (.builtin "all") (fun xs H Q=>∃ p,∃ bs:List Bool,xs=[.ref p]∧SqL K H p (bs.map V.bl)∧Q (.bl (bs.all id)) H):=by subst e; exact call_all hc
theorem call_listK (e:X.K=K:=by rfl):CallR X (.type "list") (fun xs H Q=>∃ p ys,xs=[.ref p]∧(SqL K H p ys ∨ SqT K H p ys)∧∀ l,H l=none→Q (.ref l) (upd H l (.lst ys))):=by subst e; exact call_list_of
theorem sl_listK (e:X.K=K:=by rfl):SlR X (rSlL K):=by subst e; exact sl_list
theorem get_listK (e:X.K=K:=by rfl):PGet X (rIxL K):=by subst e; exact get_list
theorem pi_listK {tg l:Expr} {tl:TE} (hl:PE X l tl) (e:X.K=K:=by rfl):PI X tg l (iList K tl):=by subst e; exact pi_list hl
end
section
variable {t u:TS} {ta tb tc te:TE} {c d:TT} {D:Ends} {σ:St} {H:Hp} {Q:VK} {B:Bool→Hp→Prop} {a b:TA} {S:List V→Hp→Prop} {g:TG}
theorem ixN_of {n:Nat} {k:Int} (h0:0≤k) (h1:k < n):ixN n k=some k.toNat:=by unfold ixN; rw [if_pos h0,if_pos h1]
theorem Same.upd {H H':Hp} {p:Addr} {o:HO} (h:Same H H') (hp:H p=none):Same H (upd H' p o):=fun b u e=>by
  rw [upd_ne (ne_of_none e hp)]
  exact h b u e
theorem Same.new {H:Hp} {p:Addr} {o:HO} (hp:H p=none):Same H (L2.upd H p o):=Same.upd (Same.refl H) hp
theorem line_big {n:Nat} (h:n≤1000):n≤sizeLine:=Nat.le_trans h (by decide)
end
end L2
namespace L2
open PySem PySem.Spec PyProof.Rows
inductive Sh where
  | dk (ks:List Key) | dt (ks:List (List Key)) | ob (n:Str) (fs:List Str)
inductive PV where
  | non | bl (b:Bool) | int (i:Int) | str (x:Str) | lst (xs:List PV) | tup (xs:List PV)
    | exc (n:Str)
    | exa (n:Str) (i:Int)
    | box (p:Option Addr) (s:Sh) (xs:List PV)
mutual
noncomputable def PV.flat:PV→Bool
  | .lst _=>false
  | .tup xs=>PV.flats xs
  | .non=>true
  | .bl _=>true
  | .int _=>true
  | .str _=>true
  | .exc _=>true
  | .exa _ _=>true
  | .box _ _ _=>false
noncomputable def PV.flats:List PV→Bool
  | []=>true
  | x :: xs=>x.flat && PV.flats xs
end
noncomputable def KL (K:PySem.W.Frag) (a:Addr) (xs:List V):Prop :=
  ∃ (o:Obj) (its:Array Value) (n:Nat),K.lookup a=some o∧o.cls=.type "list"∧o.dict=none∧o.data=.seq its n∧its.size≤sizeLine∧Vals xs its.toList
noncomputable def ImO:HO→Prop
  | .tup _=>True
  | .frz _ _=>True
  | .xd _=>True
  | _=>False
noncomputable def Im (K:PySem.W.Frag) (H:Hp) (a:Addr) (u:HO):Prop:=H a=some u∧ImO u
noncomputable def Lvo:HO→Prop
  | .lst _=>True
  | .dK _=>True
  | .dT _=>True
  | .ins _ _ _=>True
  | _=>False
noncomputable abbrev LvO:={ u:HO // Lvo u }
noncomputable def XCls (K:PySem.W.Frag) (n:Str) (C:Addr):Prop:=PySem.W.nsIn K mainGlobals n=some (some (.ref C))
noncomputable def ExcAt (K:PySem.W.Frag) (H:Hp) (n:Str) (v:V):Prop:=∃ a o C,v=.ref a∧Im K H a (.frz o (.own a))∧o.cls=.ref C∧o.dict=none∧PySem.W.notCls o=true∧XCls K n C
noncomputable def ExaAt (K:PySem.W.Frag) (H:Hp) (n:Str) (i:Int) (v:V):Prop:=∃ a o C d fs,v=.ref a∧Im K H a (.frz o (.own a))∧Im K H d (.xd fs)∧o.cls=.ref C∧o.dict=some d∧PySem.W.notCls o=true∧XCls K n C∧fs=[(("at":Str),V.int i)]
noncomputable def BoxO (K:PySem.W.Frag):Sh→List V→HO→Prop
  | .dk ks,vs,u=>ks.length=vs.length∧u=.dK (ks.zip vs)
  | .dt ks,vs,u=>ks.length=vs.length∧u=.dT (ks.zip vs)
  | .ob n fs,vs,u=>fs.length=vs.length∧∃ C dx,u=.ins C dx (fs.zip vs)∧XCls K n C
noncomputable def PinO (p:Option Addr) (a:Addr):Prop:=match p with
  | none=>True
  | some b=>a=b
theorem BoxO.lv {K:PySem.W.Frag} {s:Sh} {vs:List V} {u:HO} (h:BoxO K s vs u):Lvo u:=by
  cases s with
  | dk ks=>obtain ⟨_,rfl⟩:=h; trivial
  | dt ks=>obtain ⟨_,rfl⟩:=h; trivial
  | ob n fs=>obtain ⟨_,C,dx,rfl,_⟩:=h; trivial
theorem lv_ne_im {u o:HO} (h:Lvo u) (h':ImO o):o≠u:=by
  intro e; subst e
  cases o <;> first | exact h | exact h'
mutual
noncomputable def Rep (K:PySem.W.Frag) (H:Hp) (S:Addr→Prop):PV→V→Prop
  | .non,v=>v=.non
  | .bl b,v=>v=.bl b
  | .int i,v=>v=.int i
  | .str x,v=>v=.str x
  | .exc n,v=>ExcAt K H n v
  | .exa n i,v=>ExaAt K H n i v
  | .box p s xs,v=>∃ a vs u,v=.ref a∧(Rd H a u∧S a)∧(PinO p a∧BoxO K s vs u)∧Reps K H S xs vs
  | .lst xs,v=>∃ a vs,v=.ref a∧((Rd H a (.lst vs)∧S a) ∨ KL K a vs)∧Reps K H S xs vs
  | .tup xs,v=>∃ a vs,v=.ref a∧Im K H a (.tup vs)∧Reps K H S xs vs
noncomputable def Reps (K:PySem.W.Frag) (H:Hp) (S:Addr→Prop):List PV→List V→Prop
  | [],vs=>vs=[]
  | x :: xs,vs=>∃ v r,vs=v :: r∧Rep K H S x v∧Reps K H S xs r
end
mutual
noncomputable def Tree (K:PySem.W.Frag) (H:Hp):PV→V→List Addr→Prop
  | .non,v,F=>v=.non∧F=[]
  | .bl b,v,F=>v=.bl b∧F=[]
  | .int i,v,F=>v=.int i∧F=[]
  | .str x,v,F=>v=.str x∧F=[]
  | .exc n,v,F=>ExcAt K H n v∧F=[]
  | .exa n i,v,F=>ExaAt K H n i v∧F=[]
  | .box p s xs,v,F=>∃ a vs u G,v=.ref a∧H a=some u∧(PinO p a∧BoxO K s vs u)∧Trees K H xs vs G∧a ∉ G∧F=a :: G
  | .lst xs,v,F=>∃ a vs G,v=.ref a∧H a=some (.lst vs)∧Trees K H xs vs G∧a ∉ G∧F=a :: G
  | .tup xs,v,F=>∃ a vs,v=.ref a∧Im K H a (.tup vs)∧Trees K H xs vs F
noncomputable def Trees (K:PySem.W.Frag) (H:Hp):List PV→List V→List Addr→Prop
  | [],vs,F=>vs=[]∧F=[]
  | x :: xs,vs,F=>∃ v r G1 G2,vs=v :: r∧Tree K H x v G1∧Trees K H xs r G2∧(∀ a∈G1,a ∉ G2)∧F=G1 ++ G2
end
section
variable {K:PySem.W.Frag} {H H':Hp} {S S':Addr→Prop}
mutual
theorem Rep.mono (h1:∀ a u,S a→Rd H a u→Rd H' a u∧S' a) (h2:∀ a u,Im K H a u→Im K H' a u):∀ {x:PV} {v:V},Rep K H S x v→Rep K H' S' x v
  | .non,_,h=>h
  | .bl _,_,h=>h
  | .int _,_,h=>h
  | .str _,_,h=>h
  | .exc n,_,h=>let ⟨a,o,C,e1,e2,e3⟩:=h; ⟨a,o,C,e1,h2 a _ e2,e3⟩
  | .exa n i,_,h=>let ⟨a,o,C,d,fs,e1,e2,e2',e3⟩:=h; ⟨a,o,C,d,fs,e1,h2 a _ e2,h2 d _ e2',e3⟩
  | .box p s xs,_,h=>by
    obtain ⟨a,vs,u,rfl,⟨n1,n2⟩,hb,hr⟩:=h
    exact ⟨a,vs,u,rfl,h1 a u n2 n1,hb,Reps.mono h1 h2 hr⟩
  | .lst xs,_,h=>by
    obtain ⟨a,vs,rfl,hn,hr⟩:=h
    refine ⟨a,vs,rfl, ?_,Reps.mono h1 h2 hr⟩
    rcases hn with ⟨n1,n2⟩ | n
    · exact .inl (h1 a _ n2 n1)
    · exact .inr n
  | .tup xs,_,h=>by
    obtain ⟨a,vs,rfl,hn,hr⟩:=h
    exact ⟨a,vs,rfl,h2 a _ hn,Reps.mono h1 h2 hr⟩
theorem Reps.mono (h1:∀ a u,S a→Rd H a u→Rd H' a u∧S' a) (h2:∀ a u,Im K H a u→Im K H' a u):∀ {xs:List PV} {vs:List V},Reps K H S xs vs→Reps K H' S' xs vs
  | [],_,h=>h
  | x :: xs,_,h=>by
    obtain ⟨v,r,rfl,h3,h4⟩:=h
    exact ⟨v,r,rfl,Rep.mono h1 h2 h3,Reps.mono h1 h2 h4⟩
end
mutual
theorem Tree.mono:∀ {x:PV} {v:V} {F:List Addr},(∀ a∈F,∀ o,H a=some o→H' a=some o)→(∀ a vs,Im K H a vs→Im K H' a vs)→Tree K H x v F→Tree K H' x v F
  | .non,_,_,_,_,h=>h
  | .bl _,_,_,_,_,h=>h
  | .int _,_,_,_,_,h=>h
  | .str _,_,_,_,_,h=>h
  | .exc n,_,_,_,h2,h=>let ⟨⟨a,o,C,e1,e2,e3⟩,e4⟩:=h; ⟨⟨a,o,C,e1,h2 a _ e2,e3⟩,e4⟩
  | .exa n i,_,_,_,h2,h=>let ⟨⟨a,o,C,d,fs,e1,e2,e2',e3⟩,e4⟩:=h; ⟨⟨a,o,C,d,fs,e1,h2 a _ e2,h2 d _ e2',e3⟩,e4⟩
  | .box p s xs,_,_,h1,h2,h=>by
    obtain ⟨a,vs,u,G,rfl,ha,hb,ht,hn,rfl⟩:=h
    exact ⟨a,vs,u,G,rfl,h1 a (by simp) _ ha,hb,Trees.mono (fun b hb o e=>h1 b (by simp [hb]) o e) h2 ht,hn,rfl⟩
  | .lst xs,_,_,h1,h2,h=>by
    obtain ⟨a,vs,G,rfl,ha,ht,hn,rfl⟩:=h
    exact ⟨a,vs,G,rfl,h1 a (by simp) _ ha,Trees.mono (fun b hb o e=>h1 b (by simp [hb]) o e) h2 ht,hn,rfl⟩
  | .tup xs,_,_,h1,h2,h=>by
    obtain ⟨a,vs,rfl,ha,ht⟩:=h
    exact ⟨a,vs,rfl,h2 a _ ha,Trees.mono h1 h2 ht⟩
theorem Trees.mono:∀ {xs:List PV} {vs:List V} {F:List Addr},(∀ a∈F,∀ o,H a=some o→H' a=some o)→(∀ a vs,Im K H a vs→Im K H' a vs)→Trees K H xs vs F→Trees K H' xs vs F
  | [],_,_,_,_,h=>h
  | x :: xs,_,_,h1,h2,h=>by
    obtain ⟨v,r,G1,G2,rfl,h3,h4,hd,rfl⟩:=h
    exact ⟨v,r,G1,G2,rfl,Tree.mono (fun b hb o e=>h1 b (by simp [hb]) o e) h2 h3,Trees.mono (fun b hb o e=>h1 b (by simp [hb]) o e) h2 h4,hd,rfl⟩
end
mutual
theorem Tree.rep:∀ {x:PV} {v:V} {F:List Addr},(∀ a∈F,S a)→Tree K H x v F→Rep K H S x v
  | .non,_,_,_,h=>h.1
  | .bl _,_,_,_,h=>h.1
  | .int _,_,_,_,h=>h.1
  | .str _,_,_,_,h=>h.1
  | .exc _,_,_,_,h=>h.1
  | .exa _ _,_,_,_,h=>h.1
  | .box p s xs,_,_,h1,h=>by
    obtain ⟨a,vs,u,G,rfl,ha,hb,ht,hn,rfl⟩:=h
    exact ⟨a,vs,u,rfl,⟨.inl ha,h1 a (by simp)⟩,hb,Trees.reps (fun b hb=>h1 b (by simp [hb])) ht⟩
  | .lst xs,_,_,h1,h=>by
    obtain ⟨a,vs,G,rfl,ha,ht,hn,rfl⟩:=h
    exact ⟨a,vs,rfl,.inl ⟨.inl ha,h1 a (by simp)⟩,Trees.reps (fun b hb=>h1 b (by simp [hb])) ht⟩
  | .tup xs,_,_,h1,h=>by
    obtain ⟨a,vs,rfl,ha,ht⟩:=h
    exact ⟨a,vs,rfl,ha,Trees.reps h1 ht⟩
theorem Trees.reps:∀ {xs:List PV} {vs:List V} {F:List Addr},(∀ a∈F,S a)→Trees K H xs vs F→Reps K H S xs vs
  | [],_,_,_,h=>h.1
  | x :: xs,_,_,h1,h=>by
    obtain ⟨v,r,G1,G2,rfl,h3,h4,hd,rfl⟩:=h
    exact ⟨v,r,rfl,Tree.rep (fun b hb=>h1 b (by simp [hb])) h3,Trees.reps (fun b hb=>h1 b (by simp [hb])) h4⟩
end
mutual
theorem Tree.alive:∀ {x:PV} {v:V} {F:List Addr},Tree K H x v F→∀ a∈F,∃ vs:LvO,H a=some vs.1
  | .non,_,_,h=>by rw [h.2]; simp
  | .bl _,_,_,h=>by rw [h.2]; simp
  | .int _,_,_,h=>by rw [h.2]; simp
  | .str _,_,_,h=>by rw [h.2]; simp
  | .exc _,_,_,h=>by rw [h.2]; simp
  | .exa _ _,_,_,h=>by rw [h.2]; simp
  | .box p s xs,_,_,h=>by
    obtain ⟨a,vs,u,G,rfl,ha,hb,ht,hn,rfl⟩:=h
    intro b hb'
    rcases List.mem_cons.mp hb' with rfl | hb'
    · exact ⟨⟨u,hb.2.lv⟩,ha⟩
    · exact Trees.alive ht b hb'
  | .lst xs,_,_,h=>by
    obtain ⟨a,vs,G,rfl,ha,ht,hn,rfl⟩:=h
    intro b hb
    rcases List.mem_cons.mp hb with rfl | hb
    · exact ⟨⟨.lst vs,trivial⟩,ha⟩
    · exact Trees.alive ht b hb
  | .tup xs,_,_,h=>by
    obtain ⟨a,vs,rfl,ha,ht⟩:=h
    exact Trees.alive ht
theorem Trees.alive:∀ {xs:List PV} {vs:List V} {F:List Addr},Trees K H xs vs F→∀ a∈F,∃ vs:LvO,H a=some vs.1
  | [],_,_,h=>by rw [h.2]; simp
  | x :: xs,_,_,h=>by
    obtain ⟨v,r,G1,G2,rfl,h3,h4,hd,rfl⟩:=h
    intro b hb
    rcases List.mem_append.mp hb with hb | hb
    · exact Tree.alive h3 b hb
    · exact Trees.alive h4 b hb
end
mutual
theorem Rep.tree:∀ {x:PV} {v:V},x.flat=true→Rep K H S x v→Tree K H x v []
  | .non,_,_,h=>⟨h,rfl⟩
  | .bl _,_,_,h=>⟨h,rfl⟩
  | .int _,_,_,h=>⟨h,rfl⟩
  | .str _,_,_,h=>⟨h,rfl⟩
  | .exc _,_,_,h=>⟨h,rfl⟩
  | .exa _ _,_,_,h=>⟨h,rfl⟩
  | .box p s xs,_,f,_=>by simp [PV.flat] at f
  | .lst xs,_,f,_=>by simp [PV.flat] at f
  | .tup xs,_,f,h=>by
    obtain ⟨a,vs,rfl,ha,ht⟩:=h
    exact ⟨a,vs,rfl,ha,Reps.trees (by simpa [PV.flat] using f) ht⟩
theorem Reps.trees:∀ {xs:List PV} {vs:List V},PV.flats xs=true→Reps K H S xs vs→Trees K H xs vs []
  | [],_,_,h=>⟨h,rfl⟩
  | x :: xs,_,f,h=>by
    obtain ⟨v,r,rfl,h3,h4⟩:=h
    simp only [PV.flats,Bool.and_eq_true] at f
    exact ⟨v,r,[],[],rfl,Rep.tree f.1 h3,Reps.trees f.2 h4,by simp,rfl⟩
end
theorem Rep.any (h:Rep K H S x v):Rep K H (fun _=>True) x v:=Rep.mono (fun a vs _ r=>⟨r,trivial⟩) (fun a vs r=>r) h
theorem Reps.any (h:Reps K H S xs vs):Reps K H (fun _=>True) xs vs:=Reps.mono (fun a vs _ r=>⟨r,trivial⟩) (fun a vs r=>r) h
theorem Rep.flatS {x:PV} {v:V} (f:x.flat=true) (h:Rep K H S x v):Rep K H S' x v:=Tree.rep (F:=[]) (by simp) (Rep.tree f h)
theorem Reps.length:∀ {xs:List PV} {vs:List V},Reps K H S xs vs→vs.length=xs.length
  | [],_,h=>by rw [h]; rfl
  | x :: xs,_,h=>by
    obtain ⟨v,r,rfl,h3,h4⟩:=h
    simp [Reps.length h4]
theorem Trees.length {xs:List PV} {vs:List V} {F:List Addr} (h:Trees K H xs vs F):vs.length=xs.length:=(Trees.reps (S:=fun _=>True) (fun _ _=>trivial) h).length
theorem Reps.get:∀ {xs:List PV} {vs:List V} {i:Nat} {x:PV},Reps K H S xs vs→xs[i]?=some x→∃ v,vs[i]?=some v∧Rep K H S x v
  | [],_,_,_,_,e=>by simp at e
  | y :: xs,_,0,x,h,e=>by
    obtain ⟨v,r,rfl,h3,h4⟩:=h
    simp at e; subst e
    exact ⟨v,rfl,h3⟩
  | y :: xs,_,i + 1,x,h,e=>by
    obtain ⟨v,r,rfl,h3,h4⟩:=h
    obtain ⟨w,e1,e2⟩:=Reps.get (i:=i) h4 (by simpa using e)
    exact ⟨w,by simpa using e1,e2⟩
theorem Reps.one {x:PV} {v:V} (h:Rep K H S x v):Reps K H S [x] [v]:=⟨v,[],rfl,h,rfl⟩
theorem Reps.take:∀ {xs:List PV} {vs:List V} (n:Nat),Reps K H S xs vs→Reps K H S (xs.take n) (vs.take n)
  | _,_,0,_=>by simp [Reps]
  | [],_,n + 1,h=>by rw [h]; rfl
  | y :: xs,_,n + 1,h=>by
    obtain ⟨w,r,rfl,h3,h4⟩:=h
    exact ⟨w,r.take n,rfl,h3,Reps.take n h4⟩
theorem Reps.drop:∀ {xs:List PV} {vs:List V} (n:Nat),Reps K H S xs vs→Reps K H S (xs.drop n) (vs.drop n)
  | _,_,0,h=>h
  | [],_,n + 1,h=>by rw [h]; rfl
  | y :: xs,_,n + 1,h=>by
    obtain ⟨w,r,rfl,h3,h4⟩:=h
    exact Reps.drop n h4
theorem Trees.append:∀ {xs ys:List PV} {vs ws:List V} {F G:List Addr},Trees K H xs vs F→Trees K H ys ws G→(∀ a∈F,a ∉ G)→Trees K H (xs ++ ys) (vs ++ ws) (F ++ G)
  | [],_,_,_,_,_,h,h',_=>by rw [h.1,h.2]; exact h'
  | x :: xs,_,_,_,_,_,h,h',hd=>by
    obtain ⟨v,r,G1,G2,rfl,h3,h4,hd',rfl⟩:=h
    refine ⟨v,r ++ _,G1,G2 ++ _,rfl,h3,Trees.append h4 h' (fun a ha=>hd a (by simp [ha])),fun a ha z=>?_,by simp⟩
    rcases List.mem_append.mp z with z | z
    · exact hd' a ha z
    · exact hd a (by simp [ha]) z
theorem Trees.one {x:PV} {v:V} {F:List Addr} (h:Tree K H x v F):Trees K H [x] [v] F:=⟨v,[],F,[],rfl,h,⟨rfl,rfl⟩,by simp,by simp⟩
theorem PV.flats_all:∀ {xs:List PV},PV.flats xs=true ↔ ∀ x∈xs,x.flat=true
  | []=>by simp [PV.flats]
  | x :: xs=>by simp [PV.flats,PV.flats_all (xs:=xs)]
theorem PV.flats_ints (ns:List Int):PV.flats (ns.map PV.int)=true:=PV.flats_all.mpr (by simp [PV.flat])
theorem Rd.same (e:Same H H') (h:Rd H a u):Rd H' a u:=by
  rcases h with h | ⟨o,h⟩
  · exact .inl (e _ _ h)
  · exact .inr ⟨o,e _ _ h⟩
theorem Same.im (e:Same H H') {k:HO} (h:Im K H a k):Im K H' a k:=⟨e _ _ h.1,h.2⟩
theorem Im.sqT {vs:List V} (h:Im K H a (.tup vs)):SqT K H a vs:=.inl (.inl h.1)
theorem Rep.same (e:Same H H') (h:Rep K H S x v):Rep K H' S x v:=Rep.mono (fun a vs s r=>⟨r.same e,s⟩) (fun a vs r=>e.im r) h
theorem Reps.same (e:Same H H') (h:Reps K H S xs vs):Reps K H' S xs vs:=Reps.mono (fun a vs s r=>⟨r.same e,s⟩) (fun a vs r=>e.im r) h
theorem Tree.same (e:Same H H') (h:Tree K H x v F):Tree K H' x v F:=Tree.mono (fun a _ o q=>e a o q) (fun a vs r=>e.im r) h
theorem Trees.same (e:Same H H') (h:Trees K H xs vs F):Trees K H' xs vs F:=Trees.mono (fun a _ o q=>e a o q) (fun a vs r=>e.im r) h
theorem Im.putL {p:Addr} {us:LvO} {o:HO} {k:HO} (hp:H p=some us.1) (h:Im K H a k):Im K (upd H p o) a k :=
  ⟨by rw [upd_ne (ne_of h.1 hp (lv_ne_im us.2 h.2))]; exact h.1,h.2⟩
theorem Trees.putL {p:Addr} {us:LvO} {o:HO} (hp:H p=some us.1) (hS:p ∉ F) (h:Trees K H xs vs F):Trees K (upd H p o) xs vs F :=
  Trees.mono (fun a ha o q=>by
    have hne:a≠p:=fun z=>hS (z ▸ ha)
    rw [upd_ne hne]; exact q) (fun a vs r=>Im.putL hp r) h
theorem Trees.put {p:Addr} {us:List V} {o:HO} (hp:H p=some (.lst us)) (hS:p ∉ F) (h:Trees K H xs vs F):Trees K (upd H p o) xs vs F:=Trees.putL (us:=⟨.lst us,trivial⟩) hp hS h
end
end L2
namespace L2
open PySem PySem.Spec PyProof.Rows
inductive Md | U | P | S | T | O
  deriving DecidableEq
noncomputable def NO (B:Addr→Prop) (F:Nat→List Addr) (R:List Addr) (a:Addr):Prop:=B a∧a ∉ R∧∀ i,a ∉ F i
noncomputable def SlotOk (K:PySem.W.Frag) (H:Hp) (S:Addr→Prop) (m:Md) (x:PV) (o:Option (Option V)) (G:List Addr):Prop:=match m with
  | .U=>G=[]
  | .P=>G=[]∧∃ v,o=some (some v)∧x.flat=true∧Rep K H (fun _=>True) x v
  | .S=>G=[]∧∃ v,o=some (some v)∧Rep K H S x v
  | .T=>∃ a vs xs,o=some (some (.ref a))∧x=.lst xs∧H a=some (.lst vs)∧Reps K H S xs vs∧G=[a]
  | .O=>∃ v,o=some (some v)∧Tree K H x v G
structure Ag (K:PySem.W.Frag) (B:Addr→Prop) (H0 H:Hp) (σ:St) (Γ:List Md) (ρ:List PV) (F:Nat→List Addr) (R:List Addr):Prop where
  same:Same H0 H
  own:∀ a,H0 a=none→B a
  young:∀ i,∀ a∈F i,H0 a=none
  youngR:∀ a∈R,H0 a=none
  live:∀ i,∀ a∈F i,∃ vs:LvO,H a=some vs.1
  liveR:∀ a∈R,∃ vs:LvO,H a=some vs.1
  disj:∀ i j,i≠j→∀ a∈F i,a ∉ F j
  disjR:∀ i,∀ a∈F i,a ∉ R
  lenS:σ.length=Γ.length
  lenR:ρ.length=Γ.length
  slot:∀ i,SlotOk K H (NO B F R) (Γ.getD i .U) (ρ.getD i .non) σ[i]? (F i)
theorem SlotOk.mono {K:PySem.W.Frag} {H H':Hp} {S S':Addr→Prop} {m:Md} {x:PV} {o:Option (Option V)} {G:List Addr} (h:SlotOk K H S m x o G) (h1:∀ a u,S a→Rd H a u→Rd H' a u∧S' a)
    (h2:∀ a u,Im K H a u→Im K H' a u) (h3:∀ a∈G,∀ u,H a=some u→H' a=some u):SlotOk K H' S' m x o G:=by
  cases m with
  | U=>exact h
  | P =>
    obtain ⟨e,v,h4,h5,h6⟩:=h
    exact ⟨e,v,h4,h5,Tree.rep (F:=[]) (by simp) (Tree.mono (by simp) h2 (Rep.tree h5 h6))⟩
  | S =>
    obtain ⟨e,v,h4,h5⟩:=h
    exact ⟨e,v,h4,Rep.mono h1 h2 h5⟩
  | T =>
    obtain ⟨a,vs,xs,h4,h5,h6,h7,rfl⟩:=h
    exact ⟨a,vs,xs,h4,h5,h3 a (by simp) _ h6,Reps.mono h1 h2 h7,rfl⟩
  | O =>
    obtain ⟨v,h4,h5⟩:=h
    exact ⟨v,h4,Tree.mono (fun a ha o q=>h3 a ha o q) h2 h5⟩
section
variable {K:PySem.W.Frag} {B:Addr→Prop} {H0 H H':Hp} {σ:St} {Γ:List Md} {ρ:List PV} {F:Nat→List Addr} {R R':List Addr}
theorem Ag.grow (A:Ag K B H0 H σ Γ ρ F R) (e:Same H H'):Ag K B H0 H' σ Γ ρ F R :=
  ⟨A.same.trans e,A.own,A.young,A.youngR,fun i a ha=>let ⟨vs,q⟩:=A.live i a ha; ⟨vs,e _ _ q⟩,fun a ha=>let ⟨vs,q⟩:=A.liveR a ha; ⟨vs,e _ _ q⟩,A.disj,A.disjR,A.lenS,A.lenR,
    fun i=>(A.slot i).mono (fun a vs s r=>⟨r.same e,s⟩) (fun a vs r=>e.im r) fun a ha vs q=>e _ _ q⟩
theorem Ag.less (A:Ag K B H0 H σ Γ ρ F R) (h:∀ a∈R',a∈R):Ag K B H0 H σ Γ ρ F R' :=
  ⟨A.same,A.own,A.young,fun a ha=>A.youngR a (h a ha),A.live,fun a ha=>A.liveR a (h a ha),A.disj,fun i a ha z=>A.disjR i a ha (h a z),A.lenS,A.lenR,
    fun i=>(A.slot i).mono (fun a vs s r=>⟨r,s.1,fun z=>s.2.1 (h a z),s.2.2⟩) (fun a vs r=>r) fun a ha vs q=>q⟩
theorem Ag.more {G:List Addr} (A:Ag K B H0 H σ Γ ρ F R) (e:Same H H') (hf:∀ a∈G,H a=none) (hl:∀ a∈G,∃ vs:LvO,H' a=some vs.1):Ag K B H0 H' σ Γ ρ F (G ++ R):=by
  refine ⟨A.same.trans e,A.own,A.young,fun a ha=>?_,fun i a ha=>let ⟨vs,q⟩:=A.live i a ha; ⟨vs,e _ _ q⟩,fun a ha=>?_,A.disj,fun i a ha z=>?_,A.lenS,A.lenR,fun i=>?_⟩
  · rcases List.mem_append.mp ha with z | z
    · exact A.same.free (hf a z)
    · exact A.youngR a z
  · rcases List.mem_append.mp ha with z | z
    · exact hl a z
    · obtain ⟨vs,q⟩:=A.liveR a z
      exact ⟨vs,e _ _ q⟩
  · rcases List.mem_append.mp z with z | z
    · obtain ⟨vs,q⟩:=A.live i a ha
      rw [hf a z] at q; cases q
    · exact A.disjR i a ha z
  · refine (A.slot i).mono (fun a vs s r=>⟨r.same e,s.1,fun z=>?_,s.2.2⟩) (fun a vs r=>e.im r) fun a ha vs q=>e _ _ q
    rcases List.mem_append.mp z with z | z
    · have:=hf a z
      rcases r with r | ⟨o,r⟩ <;> (rw [this] at r; cases r)
    · exact s.2.1 z
theorem Ag.fresh (A:Ag K B H0 H σ Γ ρ F R) {p:Addr} (hp:H p=none):p ∉ R∧(∀ i,p ∉ F i)∧H0 p=none∧B p:=by
  refine ⟨fun z=>?_,fun i z=>?_,A.same.free hp,A.own p (A.same.free hp)⟩
  · obtain ⟨vs,q⟩:=A.liveR p z
    rw [hp] at q; cases q
  · obtain ⟨vs,q⟩:=A.live i p z
    rw [hp] at q; cases q
theorem Ag.new {p:Addr} {xs:List V} (A:Ag K B H0 H σ Γ ρ F R) (hp:H p=none):Ag K B H0 (upd H p (.lst xs)) σ Γ ρ F (p :: R) :=
  A.more (G:=[p]) (Same.new hp) (fun a ha=>by rw [List.mem_singleton.mp ha]; exact hp) fun a ha=>⟨⟨.lst xs,trivial⟩,by rw [List.mem_singleton.mp ha,upd_same]⟩
theorem Ag.getO {i:Nat} (A:Ag K B H0 H σ Γ ρ F R) (h:Γ[i]?=some .O):∃ v,σ[i]?=some (some v)∧Tree K H (ρ.getD i .non) v (F i):=by
  have:=A.slot i
  rw [List.getD_eq_getElem?_getD,h] at this
  exact this
theorem Ag.getT {i:Nat} (A:Ag K B H0 H σ Γ ρ F R) (h:Γ[i]?=some .T):∃ a vs xs,σ[i]?=some (some (.ref a))∧ρ.getD i .non=.lst xs∧H a=some (.lst vs)∧Reps K H (NO B F R) xs vs∧F i=[a]:=by
  have:=A.slot i
  rw [List.getD_eq_getElem?_getD (l:=Γ),h] at this
  exact this
theorem Ag.getS {i:Nat} (A:Ag K B H0 H σ Γ ρ F R) (h:Γ[i]?=some .S):∃ v,σ[i]?=some (some v)∧Rep K H (NO B F R) (ρ.getD i .non) v:=by
  have:=A.slot i
  rw [List.getD_eq_getElem?_getD (l:=Γ),h] at this
  exact this.2
theorem Ag.getP {i:Nat} (A:Ag K B H0 H σ Γ ρ F R) (h:Γ[i]?=some .P):∃ v,σ[i]?=some (some v)∧(ρ.getD i .non).flat=true∧Rep K H (fun _=>True) (ρ.getD i .non) v:=by
  have:=A.slot i
  rw [List.getD_eq_getElem?_getD (l:=Γ),h] at this
  exact this.2
theorem Ag.getA {i:Nat} {m:Md} (A:Ag K B H0 H σ Γ ρ F R) (h:Γ[i]?=some m) (hm:m≠.U):∃ v,σ[i]?=some (some v)∧Rep K H (fun _=>True) (ρ.getD i .non) v:=by
  cases m with
  | U=>exact absurd rfl hm
  | P=>obtain ⟨v,h1,h2,h3⟩:=A.getP h; exact ⟨v,h1,h3⟩
  | S=>obtain ⟨v,h1,h2⟩:=A.getS h; exact ⟨v,h1,h2.any⟩
  | T =>
    obtain ⟨a,vs,xs,h1,h2,h3,h4,h5⟩:=A.getT h
    exact ⟨_,h1,by rw [h2]; exact ⟨a,vs,rfl,.inl ⟨.inl h3,trivial⟩,h4.any⟩⟩
  | O=>obtain ⟨v,h1,h2⟩:=A.getO h; exact ⟨v,h1,h2.rep (fun _ _=>trivial)⟩
theorem Ag.lt {i:Nat} {m:Md} (A:Ag K B H0 H σ Γ ρ F R) (h:Γ[i]?=some m):i < Γ.length:=(List.getElem?_eq_some_iff.mp h).1
noncomputable def own1 (F:Nat→List Addr) (i:Nat) (G:List Addr):Nat→List Addr:=fun j=>if j=i then G else F j
theorem own1_same {i:Nat} {G:List Addr}:own1 F i G i=G:=if_pos rfl
theorem own1_ne {i j:Nat} {G:List Addr} (h:j≠i):own1 F i G j=F j:=if_neg h
theorem Ag.put {i:Nat} {m:Md} {x:PV} {v:V} {G:List Addr} (A:Ag K B H0 H σ Γ ρ F (G ++ R)) (hi:i < Γ.length) (hG:∀ a∈G,a ∉ R) (hs:SlotOk K H (NO B (own1 F i G) R) m x (some (some v)) G) :
    Ag K B H0 H (σ.set i (some v)) (Γ.set i m) (ρ.set i x) (own1 F i G) R:=by
  refine ⟨A.same,A.own,fun j a ha=>?_,fun a ha=>A.youngR a (List.mem_append_right _ ha),fun j a ha=>?_,fun a ha=>A.liveR a (List.mem_append_right _ ha),fun j k hjk a ha z=>?_,fun j a ha z=>?_,by simp [A.lenS],by simp [A.lenR],fun j=>?_⟩
  · by_cases h:j=i
    · subst h; rw [own1_same] at ha; exact A.youngR a (List.mem_append_left _ ha)
    · rw [own1_ne h] at ha; exact A.young j a ha
  · by_cases h:j=i
    · subst h; rw [own1_same] at ha; exact A.liveR a (List.mem_append_left _ ha)
    · rw [own1_ne h] at ha; exact A.live j a ha
  · by_cases h:j=i
    · subst h
      rw [own1_same] at ha
      rw [own1_ne (Ne.symm hjk)] at z
      exact A.disjR k a z (List.mem_append_left _ ha)
    · rw [own1_ne h] at ha
      by_cases h':k=i
      · subst h'
        rw [own1_same] at z
        exact A.disjR j a ha (List.mem_append_left _ z)
      · rw [own1_ne h'] at z
        exact A.disj j k hjk a ha z
  · by_cases h:j=i
    · subst h; rw [own1_same] at ha; exact hG a ha z
    · rw [own1_ne h] at ha; exact A.disjR j a ha (List.mem_append_right _ z)
  · by_cases h:j=i
    · subst h
      rw [own1_same,List.getD_eq_getElem?_getD,List.getD_eq_getElem?_getD,List.getElem?_set_self hi,List.getElem?_set_self (by rw [A.lenR]; exact hi),List.getElem?_set_self (by rw [A.lenS]; exact hi)]
      exact hs
    · rw [own1_ne h,List.getD_eq_getElem?_getD,List.getD_eq_getElem?_getD,List.getElem?_set_ne (Ne.symm h),List.getElem?_set_ne (Ne.symm h),List.getElem?_set_ne (Ne.symm h),← List.getD_eq_getElem?_getD,← List.getD_eq_getElem?_getD]
      refine (A.slot j).mono (fun a vs s r=>⟨r,s.1,fun z=>s.2.1 (List.mem_append_right _ z),fun k z=>?_⟩) (fun a vs r=>r) fun a ha vs q=>q
      by_cases h':k=i
      · subst h'; rw [own1_same] at z; exact s.2.1 (List.mem_append_left _ z)
      · rw [own1_ne h'] at z; exact s.2.2 k z
theorem Ag.turn {i:Nat} {m m':Md} {G:List Addr} (A:Ag K B H0 H σ Γ ρ F R) (h:Γ[i]?=some m) (hG:∀ a∈G,a∈F i) (hs:SlotOk K H (NO B (own1 F i []) (G ++ R)) m' (ρ.getD i .non) σ[i]? []) :
    Ag K B H0 H σ (Γ.set i m') ρ (own1 F i []) (G ++ R):=by
  have hi:=A.lt h
  refine ⟨A.same,A.own,fun j a ha=>?_,fun a ha=>?_,fun j a ha=>?_,fun a ha=>?_,fun j k hjk a ha z=>?_,fun j a ha z=>?_,by simp [A.lenS],by simp [A.lenR],fun j=>?_⟩
  · by_cases h:j=i
    · subst h; rw [own1_same] at ha; simp at ha
    · rw [own1_ne h] at ha; exact A.young j a ha
  · rcases List.mem_append.mp ha with z | z
    · exact A.young i a (hG a z)
    · exact A.youngR a z
  · by_cases h:j=i
    · subst h; rw [own1_same] at ha; simp at ha
    · rw [own1_ne h] at ha; exact A.live j a ha
  · rcases List.mem_append.mp ha with z | z
    · exact A.live i a (hG a z)
    · exact A.liveR a z
  · by_cases h:j=i
    · subst h; rw [own1_same] at ha; simp at ha
    · by_cases h':k=i
      · subst h'; rw [own1_same] at z; simp at z
      · rw [own1_ne h] at ha; rw [own1_ne h'] at z; exact A.disj j k hjk a ha z
  · by_cases h:j=i
    · subst h; rw [own1_same] at ha; simp at ha
    · rw [own1_ne h] at ha
      rcases List.mem_append.mp z with z | z
      · exact A.disj j i h a ha (hG a z)
      · exact A.disjR j a ha z
  · by_cases h:j=i
    · subst h
      rw [own1_same,List.getD_eq_getElem?_getD (l:=Γ.set _ _),List.getElem?_set_self hi]
      exact hs
    · rw [own1_ne h,List.getD_eq_getElem?_getD (l:=Γ.set _ _),List.getElem?_set_ne (Ne.symm h),← List.getD_eq_getElem?_getD]
      refine (A.slot j).mono (fun a vs s r=>⟨r,s.1,fun z=>?_,fun k z=>?_⟩) (fun a vs r=>r) fun a ha vs q=>q
      · rcases List.mem_append.mp z with z | z
        · exact s.2.2 i (hG a z)
        · exact s.2.1 z
      · by_cases h':k=i
        · subst h'; rw [own1_same] at z; simp at z
        · rw [own1_ne h'] at z; exact s.2.2 k z
theorem Ag.move {i:Nat} (A:Ag K B H0 H σ Γ ρ F R) (h:Γ[i]?=some .O):Ag K B H0 H σ (Γ.set i .U) ρ (own1 F i []) (F i ++ R):=A.turn (G:=F i) h (fun a ha=>ha) rfl
end
end L2
namespace L2
open PySem PySem.Spec PyProof.Rows
noncomputable abbrev PX:=Str × PV
inductive Rr (α:Type) where
  | ok (a:α) | exc (e:PX) | bad
noncomputable def Rr.bind {α β:Type}:Rr α→(α→Rr β)→Rr β
  | .ok a,f=>f a
  | .exc e,_=>.exc e
  | .bad,_=>.bad
noncomputable def Dn {α:Type} (r:Rr α) (ok:α→Prop) (ex:PX→Prop):Prop:=match r with
  | .ok a=>ok a
  | .exc e=>ex e
  | .bad=>False
theorem Dn.bind {α β:Type} {r:Rr α} {f:α→Rr β} {ok:β→Prop} {ex:PX→Prop} (h:Dn (r.bind f) ok ex):Dn r (fun a=>Dn (f a) ok ex) ex:=by
  cases r with
  | ok a=>exact h
  | exc e=>exact h
  | bad=>exact h
theorem Dn.imp {α:Type} {r:Rr α} {ok ok':α→Prop} {ex ex':PX→Prop} (h:Dn r ok ex) (h1:∀ a,r=.ok a→ok a→ok' a) (h2:∀ e,ex e→ex' e):Dn r ok' ex':=by
  cases r with
  | ok a=>exact h1 a rfl h
  | exc e=>exact h2 e h
  | bad=>exact h
@[simp] theorem Rr.bind_ok {α β:Type} {a:α} {f:α→Rr β}:(Rr.ok a).bind f=f a:=rfl
@[simp] theorem Rr.bind_exc {α β:Type} {e:PX} {f:α→Rr β}:(Rr.exc e:Rr α).bind f=.exc e:=rfl
@[simp] theorem Rr.bind_bad {α β:Type} {f:α→Rr β}:(Rr.bad:Rr α).bind f=.bad:=rfl
inductive Kd | P | F | T | Z | A | N
noncomputable def Res (K:PySem.W.Frag) (B:Addr→Prop) (H0 H:Hp) (σ:St) (Γ':List Md) (ρ:List PV) (F:Nat→List Addr) (R:List Addr) (k:Kd) (x:PV) (v:V) (H':Hp):Prop :=
  ∃ F',(∀ i,∀ a∈F' i,a∈F i)∧match k with
  | .P=>x.flat=true∧Rep K H' (fun _=>True) x v∧Ag K B H0 H' σ Γ' ρ F' R
  | .F=>∃ G,Tree K H' x v G∧(∀ a∈G,a ∉ R∧(H a=none ∨ ∃ i,a∈F i))∧Ag K B H0 H' σ Γ' ρ F' (G ++ R)
  | .T=>∃ a vs xs,x=.lst xs∧v=.ref a∧H' a=some (.lst vs)∧Reps K H' (NO B F' (a :: R)) xs vs∧a ∉ R∧(H a=none ∨ ∃ i,a∈F i)∧Ag K B H0 H' σ Γ' ρ F' (a :: R)
  | .Z=>Rep K H' (NO B F' R) x v∧Ag K B H0 H' σ Γ' ρ F' R
  | .A=>Rep K H' (fun _=>True) x v∧Ag K B H0 H' σ Γ' ρ F' R
  | .N=>False
noncomputable def DE (K:PySem.W.Frag) (EX:PX→Hp→Prop) (Γ Γ':List Md) (k:Kd) (te:TE) (f:List PV→Rr PV):Prop :=
  ∀ (B:Addr→Prop) (H0 H:Hp) (σ:St) (ρ:List PV) (F:Nat→List Addr) (R:List Addr) (Q:VK),Ag K B H0 H σ Γ ρ F R →
    Dn (f ρ) (fun x=>∀ v H',Same H H'→Res K B H0 H σ Γ' ρ F R k x v H'→Q v H') (fun e=>∀ H',Same H0 H'→EX e H')→te σ H Q
noncomputable def DT (K:PySem.W.Frag) (EX:PX→Hp→Prop) (Γ Γ':List Md) (tt:TT) (f:List PV→Rr Bool):Prop :=
  ∀ (B:Addr→Prop) (H0 H:Hp) (σ:St) (ρ:List PV) (F:Nat→List Addr) (R:List Addr) (Q:Bool→Hp→Prop),Ag K B H0 H σ Γ ρ F R →
    Dn (f ρ) (fun b=>∀ H' F',Same H H'→(∀ i,∀ a∈F' i,a∈F i)→Ag K B H0 H' σ Γ' ρ F' R→Q b H') (fun e=>∀ H',Same H0 H'→EX e H')→tt σ H Q
section
variable {K:PySem.W.Frag} {B:Addr→Prop} {EX:PX→Hp→Prop} {H0 H H':Hp} {σ:St} {Γ Γ' Γ1 Γ2 Γ3:List Md} {ρ:List PV} {F F':Nat→List Addr} {R:List Addr} {k:Kd} {x:PV} {v:V} {te ta tb tc:TE} {f fa fb fc:List PV→Rr PV}
theorem Res.ag (h:Res K B H0 H σ Γ' ρ F R k x v H'):∃ F',(∀ i,∀ a∈F' i,a∈F i)∧Rep K H' (fun _=>True) x v∧Ag K B H0 H' σ Γ' ρ F' R:=by
  obtain ⟨F',hF,h⟩:=h
  refine ⟨F',hF, ?_⟩
  cases k with
  | P=>exact ⟨h.2.1,h.2.2⟩
  | F=>obtain ⟨G,h1,h2,h3⟩:=h; exact ⟨h1.rep fun _ _=>trivial,h3.less fun a ha=>List.mem_append_right _ ha⟩
  | T=>obtain ⟨a,vs,xs,rfl,rfl,h1,h2,h3,h4,h5⟩:=h; exact ⟨⟨a,vs,rfl,.inl ⟨.inl h1,trivial⟩,h2.any⟩,h5.less fun a ha=>List.mem_cons_of_mem _ ha⟩
  | Z=>exact ⟨h.1.any,h.2⟩
  | A=>exact h
  | N=>exact h.elim
theorem Res.toA (h:Res K B H0 H σ Γ' ρ F R k x v H'):Res K B H0 H σ Γ' ρ F R .A x v H':=let ⟨F',a,b,c⟩:=h.ag; ⟨F',a,b,c⟩
theorem Res.PF (h:Res K B H0 H σ Γ' ρ F R .P x v H'):Res K B H0 H σ Γ' ρ F R .F x v H':=by
  obtain ⟨F',hF,h1,h2,h3⟩:=h
  exact ⟨F',hF,[],h2.tree h1,by simp,h3⟩
theorem Res.FZ (h:Res K B H0 H σ Γ' ρ F R .F x v H'):Res K B H0 H σ Γ' ρ F R .Z x v H':=by
  obtain ⟨F',hF,G,h1,h2,h3⟩:=h
  exact ⟨F',hF,h1.rep fun a ha=>⟨h3.own a (h3.youngR a (List.mem_append_left _ ha)),(h2 a ha).1,fun i z=>h3.disjR i a z (List.mem_append_left _ ha)⟩,h3.less fun a ha=>List.mem_append_right _ ha⟩
theorem DE.imp {k':Kd} (h:DE K EX Γ Γ' k te f) (hr:∀ {B:Addr→Prop} {H0 H H':Hp} {σ:St} {ρ:List PV} {F:Nat→List Addr} {R:List Addr} {x:PV} {v:V},Res K B H0 H σ Γ' ρ F R k x v H'→Res K B H0 H σ Γ' ρ F R k' x v H'):DE K EX Γ Γ' k' te f :=
  fun B H0 H σ ρ F R Q A d=>h B H0 H σ ρ F R Q A (d.imp (fun x _ q v H' s r=>q v H' s (hr r)) fun e q=>q)
theorem DE.toA (h:DE K EX Γ Γ' k te f):DE K EX Γ Γ' .A te f:=h.imp Res.toA
theorem DE.PF (h:DE K EX Γ Γ' .P te f):DE K EX Γ Γ' .F te f:=h.imp Res.PF
theorem DE.FZ (h:DE K EX Γ Γ' .F te f):DE K EX Γ Γ' .Z te f:=h.imp Res.FZ
noncomputable def grd (x:PV):Rr PV:=if x.flat=true then .ok x else .bad
theorem DE.grd (h:DE K EX Γ Γ' .A te f):DE K EX Γ Γ' .P te (fun ρ=>(f ρ).bind grd):=fun B H0 H σ ρ F R Q A d=>by
  refine h B H0 H σ ρ F R Q A (d.bind.imp (fun x _ q v H' s r=>?_) fun e q=>q)
  unfold L2.grd at q
  by_cases hx:x.flat=true
  · rw [if_pos hx] at q
    obtain ⟨F',h1,h2,h3⟩:=r
    exact q v H' s ⟨F',h1,hx,h2,h3⟩
  · rw [if_neg hx] at q; exact q.elim
theorem de_c {v:V} (hf:x.flat=true) (hr:∀ H,Rep K H (fun _=>True) x v):DE K EX Γ Γ .P (tC v) (fun _=>.ok x):=fun B H0 H σ ρ F R Q A d =>
  d v H (Same.refl H) ⟨F,fun _ _ h=>h,hf,hr H,A⟩
theorem de_int {i:Int}:DE K EX Γ Γ .P (tC (.int i)) (fun _=>.ok (.int i)):=de_c rfl fun _=>rfl
theorem de_bl {b:Bool}:DE K EX Γ Γ .P (tC (.bl b)) (fun _=>.ok (.bl b)):=de_c rfl fun _=>rfl
theorem de_non:DE K EX Γ Γ .P (tC .non) (fun _=>.ok .non):=de_c rfl fun _=>rfl
theorem de_str {x:Str}:DE K EX Γ Γ .P (tC (.str x)) (fun _=>.ok (.str x)):=de_c rfl fun _=>rfl
noncomputable def gv (i:Nat) (ρ:List PV):PV:=ρ.getD i .non
theorem de_varA {i:Nat} {m:Md} (h:Γ[i]?=some m) (hm:m≠.U):DE K EX Γ Γ .A (tVar i) (fun ρ=>.ok (gv i ρ)):=fun B H0 H σ ρ F R Q A d=>by
  obtain ⟨v,h1,h2⟩:=A.getA h hm
  exact ⟨v,h1,d v H (Same.refl H) ⟨F,fun _ _ h=>h,h2,A⟩⟩
theorem de_varP {i:Nat} (h:Γ[i]?=some .P):DE K EX Γ Γ .P (tVar i) (fun ρ=>.ok (gv i ρ)):=fun B H0 H σ ρ F R Q A d=>by
  obtain ⟨v,h1,h2,h3⟩:=A.getP h
  exact ⟨v,h1,d v H (Same.refl H) ⟨F,fun _ _ h=>h,h2,h3,A⟩⟩
theorem de_varZ {i:Nat} (h:Γ[i]?=some .S):DE K EX Γ Γ .Z (tVar i) (fun ρ=>.ok (gv i ρ)):=fun B H0 H σ ρ F R Q A d=>by
  obtain ⟨v,h1,h2⟩:=A.getS h
  exact ⟨v,h1,d v H (Same.refl H) ⟨F,fun _ _ h=>h,h2,A⟩⟩
theorem own1_sub {i:Nat} {F:Nat→List Addr}:∀ j,∀ a∈own1 F i [] j,a∈F j:=fun j a ha=>by
  by_cases h:j=i
  · subst h; rw [own1_same] at ha; simp at ha
  · rw [own1_ne h] at ha; exact ha
theorem de_varM {i:Nat} (h:Γ[i]?=some .O):DE K EX Γ (Γ.set i .U) .F (tVar i) (fun ρ=>.ok (gv i ρ)):=fun B H0 H σ ρ F R Q A d=>by
  obtain ⟨v,h1,h2⟩:=A.getO h
  exact ⟨v,h1,d v H (Same.refl H) ⟨own1 F i [],own1_sub,F i,h2,fun a ha=>⟨A.disjR i a ha,.inr ⟨i,ha⟩⟩,A.move h⟩⟩
noncomputable def OpP (K:PySem.W.Frag) (r:R2) (o:PV→PV→Rr PV):Prop:=∀ {H:Hp} {x y:PV} {v w:V} {Q:VK},Rep K H (fun _=>True) x v→Rep K H (fun _=>True) y w →
  (∃ z,o x y=.ok z∧(z.flat=true→∀ u,Rep K H (fun _=>True) z u→Q u H))→r v w H Q
theorem Dn.bind2 {α β γ:Type} {r:Rr α} {q:Rr β} {f:α→β→Rr γ} {ok:γ→Prop} {ex:PX→Prop} (h:Dn (r.bind fun a=>q.bind fun b=>f a b) ok ex):Dn r (fun a=>Dn q (fun b=>Dn (f a b) ok ex) ex) ex :=
  h.bind.imp (fun a _ h=>h.bind) fun e h=>h
theorem two {Q:V→V→Hp→Prop} {ok:PV→PV→Prop} (ha:DE K EX Γ Γ1 .A ta fa) (hb:DE K EX Γ1 Γ2 .A tb fb) (A:Ag K B H0 H σ Γ ρ F R)
    (d:Dn (fa ρ) (fun x=>Dn (fb ρ) (fun y=>ok x y) (fun e=>∀ H',Same H0 H'→EX e H')) (fun e=>∀ H',Same H0 H'→EX e H'))
    (hq:∀ x y v w H' F',ok x y→Same H H'→(∀ i,∀ a∈F' i,a∈F i)→Rep K H' (fun _=>True) x v→Rep K H' (fun _=>True) y w→Ag K B H0 H' σ Γ2 ρ F' R→Q v w H') :
    ta σ H fun v H1=>tb σ H1 fun w H2=>Q v w H2:=by
  refine ha B H0 H σ ρ F R _ A (d.imp (fun x _ d v H1 s1 r1=>?_) fun e q=>q)
  obtain ⟨F1,f1,p1,A1⟩:=r1
  refine hb B H0 H1 σ ρ F1 R _ A1 (d.imp (fun y _ q w H2 s2 r2=>?_) fun e q=>q)
  obtain ⟨F2,f2,p2,A2⟩:=r2
  exact hq x y v w H2 F2 q (s1.trans s2) (fun i a h=>f1 i a (f2 i a h)) (p1.same s2) p2 A2
theorem de_op {r:R2} {o:PV→PV→Rr PV} (hr:OpP K r o) (ho:∀ x y z,o x y=.ok z→z.flat=true) (hx:∀ x y e,o x y≠.exc e) (ha:DE K EX Γ Γ1 .A ta fa) (hb:DE K EX Γ1 Γ2 .A tb fb) :
    DE K EX Γ Γ2 .P (tOp r ta tb) (fun ρ=>(fa ρ).bind fun x=>(fb ρ).bind fun y=>o x y):=fun B H0 H σ ρ F R Q A d=>by
  refine two ha hb A d.bind2 fun x y v w H' F' d s hF p1 p2 A'=>?_
  cases e:o x y with
  | ok z=>rw [e] at d; exact hr p1 p2 ⟨z,e,fun hf u hu=>d u H' s ⟨F',hF,hf,hu,A'⟩⟩
  | exc q=>exact absurd e (hx x y q)
  | bad=>rw [e] at d; exact d.elim
noncomputable def UnP (K:PySem.W.Frag) (r:V→Hp→VK→Prop) (o:PV→Rr PV):Prop:=∀ {H:Hp} {x:PV} {v:V} {Q:VK},Rep K H (fun _=>True) x v→(∃ z,o x=.ok z∧(z.flat=true→∀ u,Rep K H (fun _=>True) z u→Q u H))→r v H Q
theorem de_un {r:V→Hp→VK→Prop} {o:PV→Rr PV} (hr:UnP K r o) (hx:∀ x e,o x≠.exc e) (ha:DE K EX Γ Γ1 .A ta fa):DE K EX Γ Γ1 .P (tUn r ta) (fun ρ=>(fa ρ).bind o):=fun B H0 H σ ρ F R Q A d=>by
  refine ha B H0 H σ ρ F R _ A (d.bind.imp (fun x _ d v H1 s1 r1=>?_) fun e q=>q)
  obtain ⟨F1,f1,p1,A1⟩:=r1
  cases e:o x with
  | ok z=>rw [e] at d; exact hr p1 ⟨z,e,fun hf u hu=>d u H1 s1 ⟨F1,f1,hf,hu,A1⟩⟩
  | exc q=>exact absurd e (hx x q)
  | bad=>rw [e] at d; exact d.elim
noncomputable def oI (C:Int→Int→Bool) (g:Int→Int→PV) (x y:PV):Rr PV:=match x,y with
  | .int i,.int j=>if C i j=true then .ok (g i j) else .bad
  | _,_=>.bad
theorem oI_int {C:Int→Int→Bool} {g:Int→Int→PV} {i j:Int} (h:C i j=true):oI C g (.int i) (.int j)=.ok (g i j):=if_pos h
theorem opPI {C:Int→Int→Bool} {D:Int→Int→Prop} {g:Int→Int→PV} {g':Int→Int→V} (hC:∀ i j,C i j=true→D i j) (hg:∀ H i j,Rep K H (fun _=>True) (g i j) (g' i j)) (hf:∀ i j,(g i j).flat=true):OpP K (rI D g') (oI C g):=by
  intro H x y v w Q rx ry ⟨z,e,q⟩
  cases x <;> cases y <;> first | (simp only [oI] at e; cases e; done) | skip
  rename_i i j
  simp only [oI] at e
  by_cases h:C i j=true
  · rw [if_pos h] at e; cases e
    cases rx; cases ry
    exact ⟨i,j,rfl,rfl,hC i j h,q (hf i j) _ (hg H i j)⟩
  · rw [if_neg h] at e; cases e
theorem opPI0 {g:Int→Int→PV} {g':Int→Int→V} (hg:∀ H i j,Rep K H (fun _=>True) (g i j) (g' i j)) (hf:∀ i j,(g i j).flat=true):OpP K (rI0 g') (oI (fun _ _=>true) g):=by
  intro H x y v w Q rx ry ⟨z,e,q⟩
  cases x <;> cases y <;> first | (simp only [oI] at e; cases e; done) | skip
  rename_i i j
  simp only [oI,if_true] at e
  cases e; cases rx; cases ry
  exact ⟨i,j,rfl,rfl,q (hf i j) _ (hg H i j)⟩
theorem oI_noexc {C:Int→Int→Bool} {g:Int→Int→PV} (x y:PV) (e:PX):oI C g x y≠.exc e:=by
  cases x <;> cases y <;> first | (intro h; simp only [oI] at h; cases h; done) | skip
  intro h
  simp only [oI] at h
  split at h <;> cases h
theorem oI_flat {C:Int→Int→Bool} {g:Int→Int→PV} (hf:∀ i j,(g i j).flat=true) (x y z:PV) (h:oI C g x y=.ok z):z.flat=true:=by
  cases x <;> cases y <;> first | (simp only [oI] at h; cases h; done) | skip
  simp only [oI] at h
  split at h
  · cases h; exact hf _ _
  · cases h
end
end L2
namespace L2
open PySem PySem.Spec PyProof.Rows
mutual
noncomputable def PV.noX:PV→Bool
  | .exc _=>false
  | .exa _ _=>false
  | .box _ _ _=>false
  | .lst xs=>PV.noXs xs
  | .tup xs=>PV.noXs xs
  | .non=>true
  | .bl _=>true
  | .int _=>true
  | .str _=>true
noncomputable def PV.noXs:List PV→Bool
  | []=>true
  | x :: xs=>x.noX && PV.noXs xs
end
theorem PV.noXs_ints:∀ (ns:List Int),PV.noXs (ns.map PV.int)=true
  | []=>rfl
  | n :: ns=>by simp [PV.noXs,PV.noX,PV.noXs_ints ns]
mutual
noncomputable def PV.dat:PV→PyData
  | .non=>.none
  | .bl b=>.bool b
  | .int i=>.int i
  | .str x=>.str x
  | .exc _=>.none
  | .exa _ _=>.none
  | .box _ _ _=>.none
  | .lst xs=>.list (PV.dats xs)
  | .tup xs=>.tuple (PV.dats xs)
noncomputable def PV.dats:List PV→List PyData
  | []=>[]
  | x :: xs=>x.dat :: PV.dats xs
end
section
variable {X:Cx} {pins:List (Addr × Obj)} {σ:St} {H:Hp} {s:Shared} {S:Addr→Prop}
theorem sq_of {K:PySem.W.Frag} {a:Addr} {vs:List V} (h:(Rd H a (.lst vs)∧S a) ∨ KL K a vs):SqL K H a vs:=by
  rcases h with h | h
  · exact .inl h.1
  · exact .inr h
mutual
theorem Rep.reads (I:Inv X pins σ H s):∀ {x:PV} {v:V} {u:Value},x.noX=true→Rep X.K H S x v→RelV v u→∃ as,Reads s.heap u x.dat as
  | .non,_,_,_,h,r=>by cases h; cases r; exact ⟨_,.none⟩
  | .bl _,_,_,_,h,r=>by cases h; cases r; exact ⟨_,.bool _⟩
  | .int _,_,_,_,h,r=>by cases h; obtain ⟨t,rfl⟩:=r; exact ⟨_,.int _ _⟩
  | .str _,_,_,_,h,r=>by cases h; obtain ⟨t,rfl⟩:=r; exact ⟨_,.str _ _⟩
  | .exc _,_,_,z,_,_=>by simp [PV.noX] at z
  | .exa _ _,_,_,z,_,_=>by simp [PV.noX] at z
  | .box _ _ _,_,_,z,_,_=>by simp [PV.noX] at z
  | .lst xs,_,_,z,h,r=>by
    obtain ⟨a,vs,rfl,hn,hr⟩:=h
    cases r
    obtain ⟨its,rv,pl,_⟩:=I.list (sq_of hn)
    obtain ⟨as,ra⟩:=Reps.reads I (by simpa [PV.noX] using z) hr rv
    obtain ⟨o,ho,hc,n,hd⟩:=pl.isList
    exact ⟨_,.list ho hc hd (by simpa using ra)⟩
  | .tup xs,_,_,z,h,r=>by
    obtain ⟨a,vs,rfl,hn,hr⟩:=h
    cases r
    obtain ⟨its,rv,⟨o,ho,hc,n,hd⟩,_⟩:=I.tuple hn.sqT
    obtain ⟨as,ra⟩:=Reps.reads I (by simpa [PV.noX] using z) hr rv
    exact ⟨_,.tuple ho hc hd (by simpa using ra)⟩
theorem Reps.reads (I:Inv X pins σ H s):∀ {xs:List PV} {vs:List V} {us:List Value},PV.noXs xs=true→Reps X.K H S xs vs→Vals vs us→∃ as,ReadsAll s.heap us (PV.dats xs) as
  | [],_,_,_,h,r=>by rw [h] at r; cases r; exact ⟨_,.nil⟩
  | x :: xs,_,_,z,h,r=>by
    simp only [PV.noXs,Bool.and_eq_true] at z
    obtain ⟨v,vs,rfl,h1,h2⟩:=h
    cases r with
    | cons r1 r2 =>
      obtain ⟨as,a1⟩:=Rep.reads I z.1 h1 r1
      obtain ⟨bs,b1⟩:=Reps.reads I z.2 h2 r2
      exact ⟨_,.cons a1 b1⟩
end
noncomputable def okD (x:PV):Bool:=x.noX && x.dat.canLay0 && decide (x.dat.depth≤64)
noncomputable def rEqD (K:PySem.W.Frag) (g:Bool→Bool):R2:=fun x y H Q=>∃ p q,Rep K H (fun _=>True) p x∧Rep K H (fun _=>True) q y∧okD p=true∧okD q=true∧Q (.bl (g (PyData.eqv p.dat q.dat))) H
theorem op_eqD {K:PySem.W.Frag} (hu:X.A.units + 64 < cLine) (e:X.K=K:=by rfl):OpR X (compareOp .Eq) (rEqD K id):=by
  subst e
  intro pins s σ H x y v u Q I rx ry h
  obtain ⟨p,q,h1,h2,h3,h4,hq⟩:=h
  simp only [okD,Bool.and_eq_true,decide_eq_true_eq] at h3 h4
  obtain ⟨as,ra⟩:=h1.reads I h3.1.1 rx
  obtain ⟨bs,rb⟩:=h2.reads I h4.1.1 ry
  exact SeqAt.rcAt_reads ra rb h3.1.2 h4.1.2 (by have:=Nat.min_le_left p.dat.depth q.dat.depth; omega) _ _ _ _ ⟨.bl (PyData.eqv p.dat q.dat),H,I,rfl,hq⟩
theorem op_neD {K:PySem.W.Frag} (hu:X.A.units + 64 < cLine) (e:X.K=K:=by rfl):OpR X (compareOp .NotEq) (rEqD K (!·)):=by
  subst e
  intro pins s σ H x y v u Q I rx ry h
  obtain ⟨p,q,h1,h2,h3,h4,hq⟩:=h
  simp only [okD,Bool.and_eq_true,decide_eq_true_eq] at h3 h4
  obtain ⟨as,ra⟩:=h1.reads I h3.1.1 rx
  obtain ⟨bs,rb⟩:=h2.reads I h4.1.1 ry
  exact SeqAt.rcNeAt_reads ra rb h3.1.2 h4.1.2 (by have:=Nat.min_le_left p.dat.depth q.dat.depth; omega) _ _ _ _ ⟨.bl (!PyData.eqv p.dat q.dat),H,I,rfl,hq⟩
end
noncomputable def pEqG (g:Bool→Bool) (x y:PV):Rr PV:=if (okD x && okD y)=true then .ok (.bl (g (PyData.eqv x.dat y.dat))) else .bad
noncomputable def CMulB (i j:Int):Prop:=i.natAbs < 2 ^ 60000∧j.natAbs < 2 ^ 60000
noncomputable def CDivB (i j:Int):Prop:=0 < j∧j.natAbs < 2 ^ 9000
noncomputable instance (i j:Int):Decidable (CMulB i j):=by unfold CMulB; infer_instance
noncomputable instance (i j:Int):Decidable (CDivB i j):=by unfold CDivB; infer_instance
noncomputable instance (i j:Int):Decidable (CPow i j):=by unfold CPow; infer_instance
theorem bits_le {i:Int} {n:Nat} (h:i.natAbs < 2 ^ n):Builtin.Int.intBits i≤n:=by
  unfold Builtin.Int.intBits
  split
  · exact Nat.zero_le _
  · rename_i h0
    have:i.natAbs≠0:=by simpa using h0
    exact Nat.succ_le_of_lt ((Nat.log2_lt this).mpr h)
section
variable {X:Cx}
theorem op_mulB:OpR X (binaryOp .Mult) (rI CMulB fun i j=>.int (i * j)):=opI fun _ _ _ _ _ _ _ hc q=>mul_int q (PyProof.Rows.mulOk_of_bits (bits_le hc.1) (bits_le hc.2) (by decide))
theorem op_fdivB:OpR X (binaryOp .FloorDiv) (rI CDivB fun i j=>.int (i / j)):=opI fun i j _ _ _ _ _ hc q=>by
  refine floordiv_int (by have:=hc.1; omega) ?_ (.inl (PyProof.noPylong_of_log2 ?_))
  · rw [Int.fdiv_eq_ediv_of_nonneg _ (by have:=hc.1; omega)]; exact q
  · have h0:j.natAbs≠0:=by have:=hc.1; omega
    exact (Nat.log2_lt h0).mpr hc.2
end
section
variable {K:PySem.W.Frag} {B:Addr→Prop} {EX:PX→Hp→Prop} {H0 H H':Hp} {σ:St} {Γ Γ' Γ1 Γ2 Γ3:List Md} {ρ:List PV} {F F':Nat→List Addr} {R:List Addr} {k:Kd} {x:PV} {v:V} {te ta tb tc:TE} {f fa fb fc:List PV→Rr PV}
noncomputable abbrev pAdd:PV→PV→Rr PV:=oI (fun _ _=>true) fun i j=>.int (i + j)
noncomputable abbrev pSub:PV→PV→Rr PV:=oI (fun _ _=>true) fun i j=>.int (i - j)
noncomputable abbrev pMul:PV→PV→Rr PV:=oI (fun i j=>decide (CMulB i j)) fun i j=>.int (i * j)
noncomputable abbrev pDiv:PV→PV→Rr PV:=oI (fun i j=>decide (CDivB i j)) fun i j=>.int (i / j)
noncomputable abbrev pMod:PV→PV→Rr PV:=oI (fun _ j=>decide (0 < j)) fun i j=>.int (i % j)
noncomputable abbrev pPow:PV→PV→Rr PV:=oI (fun i j=>decide (CPow i j)) fun i j=>.int (i ^ j.toNat)
noncomputable abbrev pLt:PV→PV→Rr PV:=oI (fun _ _=>true) fun i j=>.bl (decide (i < j))
noncomputable abbrev pLe:PV→PV→Rr PV:=oI (fun _ _=>true) fun i j=>.bl (decide (i≤j))
noncomputable abbrev pGt:PV→PV→Rr PV:=oI (fun _ _=>true) fun i j=>.bl (decide (j < i))
noncomputable abbrev pGe:PV→PV→Rr PV:=oI (fun _ _=>true) fun i j=>.bl (decide (j≤i))
theorem de_oI {D:Int→Int→Prop} {C:Int→Int→Bool} {g:Int→Int→PV} {g':Int→Int→V} (hC:∀ i j,C i j=true→D i j) (hg:∀ H i j,Rep K H (fun _=>True) (g i j) (g' i j)) (hf:∀ i j,(g i j).flat=true)
    (ha:DE K EX Γ Γ1 .A ta fa) (hb:DE K EX Γ1 Γ2 .A tb fb):DE K EX Γ Γ2 .P (tOp (rI D g') ta tb) (fun ρ=>(fa ρ).bind fun x=>(fb ρ).bind fun y=>oI C g x y) :=
  de_op (opPI hC hg hf) (oI_flat hf) oI_noexc ha hb
theorem de_oI0 {g:Int→Int→PV} {g':Int→Int→V} (hg:∀ H i j,Rep K H (fun _=>True) (g i j) (g' i j)) (hf:∀ i j,(g i j).flat=true)
    (ha:DE K EX Γ Γ1 .A ta fa) (hb:DE K EX Γ1 Γ2 .A tb fb):DE K EX Γ Γ2 .P (tOp (rI0 g') ta tb) (fun ρ=>(fa ρ).bind fun x=>(fb ρ).bind fun y=>oI (fun _ _=>true) g x y) :=
  de_op (opPI0 hg hf) (oI_flat hf) oI_noexc ha hb
theorem de_add (ha:DE K EX Γ Γ1 .A ta fa) (hb:DE K EX Γ1 Γ2 .A tb fb):DE K EX Γ Γ2 .P (tOp (rI0 fun i j=>.int (i + j)) ta tb) (fun ρ=>(fa ρ).bind fun x=>(fb ρ).bind fun y=>pAdd x y):=de_oI0 (fun _ _ _=>rfl) (fun _ _=>rfl) ha hb
theorem de_sub (ha:DE K EX Γ Γ1 .A ta fa) (hb:DE K EX Γ1 Γ2 .A tb fb):DE K EX Γ Γ2 .P (tOp (rI0 fun i j=>.int (i - j)) ta tb) (fun ρ=>(fa ρ).bind fun x=>(fb ρ).bind fun y=>pSub x y):=de_oI0 (fun _ _ _=>rfl) (fun _ _=>rfl) ha hb
theorem de_lt (ha:DE K EX Γ Γ1 .A ta fa) (hb:DE K EX Γ1 Γ2 .A tb fb):DE K EX Γ Γ2 .P (tOp (rI0 fun i j=>.bl (decide (i < j))) ta tb) (fun ρ=>(fa ρ).bind fun x=>(fb ρ).bind fun y=>pLt x y):=de_oI0 (fun _ _ _=>rfl) (fun _ _=>rfl) ha hb
theorem de_le (ha:DE K EX Γ Γ1 .A ta fa) (hb:DE K EX Γ1 Γ2 .A tb fb):DE K EX Γ Γ2 .P (tOp (rI0 fun i j=>.bl (decide (i≤j))) ta tb) (fun ρ=>(fa ρ).bind fun x=>(fb ρ).bind fun y=>pLe x y):=de_oI0 (fun _ _ _=>rfl) (fun _ _=>rfl) ha hb
theorem de_gt (ha:DE K EX Γ Γ1 .A ta fa) (hb:DE K EX Γ1 Γ2 .A tb fb):DE K EX Γ Γ2 .P (tOp (rI0 fun i j=>.bl (decide (j < i))) ta tb) (fun ρ=>(fa ρ).bind fun x=>(fb ρ).bind fun y=>pGt x y):=de_oI0 (fun _ _ _=>rfl) (fun _ _=>rfl) ha hb
theorem de_ge (ha:DE K EX Γ Γ1 .A ta fa) (hb:DE K EX Γ1 Γ2 .A tb fb):DE K EX Γ Γ2 .P (tOp (rI0 fun i j=>.bl (decide (j≤i))) ta tb) (fun ρ=>(fa ρ).bind fun x=>(fb ρ).bind fun y=>pGe x y):=de_oI0 (fun _ _ _=>rfl) (fun _ _=>rfl) ha hb
theorem de_mul (ha:DE K EX Γ Γ1 .A ta fa) (hb:DE K EX Γ1 Γ2 .A tb fb):DE K EX Γ Γ2 .P (tOp (rI CMulB fun i j=>.int (i * j)) ta tb) (fun ρ=>(fa ρ).bind fun x=>(fb ρ).bind fun y=>pMul x y):=de_oI (fun _ _ h=>of_decide_eq_true h) (fun _ _ _=>rfl) (fun _ _=>rfl) ha hb
theorem de_div (ha:DE K EX Γ Γ1 .A ta fa) (hb:DE K EX Γ1 Γ2 .A tb fb):DE K EX Γ Γ2 .P (tOp (rI CDivB fun i j=>.int (i / j)) ta tb) (fun ρ=>(fa ρ).bind fun x=>(fb ρ).bind fun y=>pDiv x y):=de_oI (fun _ _ h=>of_decide_eq_true h) (fun _ _ _=>rfl) (fun _ _=>rfl) ha hb
theorem de_mod (ha:DE K EX Γ Γ1 .A ta fa) (hb:DE K EX Γ1 Γ2 .A tb fb):DE K EX Γ Γ2 .P (tOp (rI (fun _ j=>0 < j) fun i j=>.int (i % j)) ta tb) (fun ρ=>(fa ρ).bind fun x=>(fb ρ).bind fun y=>pMod x y):=de_oI (fun _ _ h=>of_decide_eq_true h) (fun _ _ _=>rfl) (fun _ _=>rfl) ha hb
theorem de_pow (ha:DE K EX Γ Γ1 .A ta fa) (hb:DE K EX Γ1 Γ2 .A tb fb):DE K EX Γ Γ2 .P (tOp (rI CPow fun i j=>.int (i ^ j.toNat)) ta tb) (fun ρ=>(fa ρ).bind fun x=>(fb ρ).bind fun y=>pPow x y):=de_oI (fun _ _ h=>of_decide_eq_true h) (fun _ _ _=>rfl) (fun _ _=>rfl) ha hb
noncomputable def pNeg (x:PV):Rr PV:=match x with
  | .int i=>.ok (.int (-i))
  | _=>.bad
theorem de_neg (ha:DE K EX Γ Γ1 .A ta fa):DE K EX Γ Γ1 .P (tUn (rU fun i=>.int (-i)) ta) (fun ρ=>(fa ρ).bind pNeg):=by
  refine de_un (fun {H x v Q} rx ⟨z,e,q⟩=>?_) (fun x e h=>?_) ha
  · cases x <;> first | (simp only [pNeg] at e; cases e; done) | skip
    cases e; cases rx
    exact ⟨_,rfl,q rfl _ rfl⟩
  · cases x <;> (simp only [pNeg] at h; cases h)
theorem pEqG_noexc {g:Bool→Bool} (x y:PV) (e:PX):pEqG g x y≠.exc e:=by
  unfold pEqG
  intro h
  split at h <;> cases h
theorem pEqG_flat {g:Bool→Bool} (x y z:PV) (h:pEqG g x y=.ok z):z.flat=true:=by
  unfold pEqG at h
  split at h
  · cases h; rfl
  · cases h
theorem de_eqG {g:Bool→Bool} (ha:DE K EX Γ Γ1 .A ta fa) (hb:DE K EX Γ1 Γ2 .A tb fb):DE K EX Γ Γ2 .P (tOp (rEqD K g) ta tb) (fun ρ=>(fa ρ).bind fun x=>(fb ρ).bind fun y=>pEqG g x y):=by
  refine de_op (fun {H x y v w Q} rx ry ⟨z,e,q⟩=>?_) pEqG_flat pEqG_noexc ha hb
  unfold pEqG at e
  by_cases h:(okD x && okD y)=true
  · rw [if_pos h] at e; cases e
    rw [Bool.and_eq_true] at h
    exact ⟨x,y,rx,ry,h.1,h.2,q rfl _ rfl⟩
  · rw [if_neg h] at e; cases e
noncomputable def pIsN (g:Bool→Bool) (x:PV):Rr PV:=match x with
  | .non=>.ok (.bl (g true))
  | _=>.ok (.bl (g false))
theorem rep_non {x:PV} {v:V} {S:Addr→Prop} (h:Rep K H S x v):decide (v=.non)=match x with | .non=>true | _=>false:=by
  cases x <;> first | (cases h; rfl) | (obtain ⟨a,vs,rfl,_⟩:=h; rfl) | (obtain ⟨a,vs,c,rfl,_⟩:=h; rfl) | (obtain ⟨a,o,c,d,fs,rfl,_⟩:=h; rfl)
theorem de_isN (ha:DE K EX Γ Γ1 .A ta fa):DE K EX Γ Γ1 .P (tOp (fun x y H Q=>y=.non∧Q (.bl (decide (x=.non))) H) ta (tC .non)) (fun ρ=>(fa ρ).bind (pIsN id)):=fun B H0 H σ ρ F R Q A d=>by
  refine ha B H0 H σ ρ F R _ A (d.bind.imp (fun x _ d v H1 s1 r1=>?_) fun e q=>q)
  obtain ⟨F1,f1,p1,A1⟩:=r1
  have e:=rep_non p1
  refine ⟨rfl, ?_⟩
  rw [e]
  cases x <;> exact d _ H1 s1 ⟨F1,f1,rfl,rfl,A1⟩
noncomputable def asB (x:PV):Rr Bool:=match x with
  | .bl b=>.ok b
  | _=>.bad
theorem Dn.asB {x:PV} {ok:Bool→Prop} {ex:PX→Prop} (d:Dn (asB x) ok ex):∃ b,x=.bl b∧ok b:=by
  cases x with
  | bl b=>exact ⟨b,rfl,d⟩
  | _=>exact d.elim
theorem de_not (ha:DE K EX Γ Γ1 .A ta fa):DE K EX Γ Γ1 .P (tNotV ta) (fun ρ=>(fa ρ).bind fun x=>(asB x).bind fun b=>.ok (.bl (!b))):=fun B H0 H σ ρ F R Q A d=>by
  refine ha B H0 H σ ρ F R _ A (d.bind.imp (fun x _ d v H1 s1 r1=>?_) fun e q=>q)
  obtain ⟨b,rfl,d⟩:=d.bind.asB
  obtain ⟨F1,f1,p1,A1⟩:=r1
  cases p1
  exact ⟨b,rfl,d _ H1 s1 ⟨F1,f1,rfl,rfl,A1⟩⟩
theorem Res.shift {H1:Hp} {F1:Nat→List Addr} {k:Kd} {Γ2:List Md} {y:PV} {w:V} {H2:Hp} (s1:Same H H1) (f1:∀ i,∀ a∈F1 i,a∈F i) (h:Res K B H0 H1 σ Γ2 ρ F1 R k y w H2):Res K B H0 H σ Γ2 ρ F R k y w H2:=by
  obtain ⟨F2,f2,h⟩:=h
  refine ⟨F2,fun i a ha=>f1 i a (f2 i a ha), ?_⟩
  have org:∀ a,(H1 a=none ∨ ∃ i,a∈F1 i)→(H a=none ∨ ∃ i,a∈F i):=fun a h=>h.elim (fun z=>.inl (s1.free z)) fun ⟨i,z⟩=>.inr ⟨i,f1 i a z⟩
  cases k with
  | P=>exact h
  | F=>obtain ⟨G,h1,h2,h3⟩:=h; exact ⟨G,h1,fun a ha=>⟨(h2 a ha).1,org a (h2 a ha).2⟩,h3⟩
  | T=>obtain ⟨a,vs,xs,h1,h2,h3,h4,h5,h6,h7⟩:=h; exact ⟨a,vs,xs,h1,h2,h3,h4,h5,org a h6,h7⟩
  | Z=>exact h
  | A=>exact h
  | N=>exact h.elim
theorem de_and (ha:DE K EX Γ Γ .A ta fa) (hb:DE K EX Γ Γ .P tb fb):DE K EX Γ Γ .P (tAndV ta tb) (fun ρ=>(fa ρ).bind fun x=>(asB x).bind fun b=>if b=true then fb ρ else .ok (.bl false)):=fun B H0 H σ ρ F R Q A d=>by
  refine ha B H0 H σ ρ F R _ A (d.bind.imp (fun x _ d v H1 s1 r1=>?_) fun e q=>q)
  obtain ⟨b,rfl,d⟩:=d.bind.asB
  obtain ⟨F1,f1,p1,A1⟩:=r1
  cases p1
  refine ⟨b,rfl, ?_⟩
  cases b with
  | true=>exact hb B H0 H1 σ ρ F1 R _ A1 (d.imp (fun y _ q w H2 s2 r2=>q w H2 (s1.trans s2) (r2.shift s1 f1)) fun e q=>q)
  | false=>exact d _ H1 s1 ⟨F1,f1,rfl,rfl,A1⟩
theorem dt_test (ha:DE K EX Γ Γ' .A ta fa):DT K EX Γ Γ' (tTest ta) (fun ρ=>(fa ρ).bind asB):=fun B H0 H σ ρ F R Q A d=>by
  refine ha B H0 H σ ρ F R _ A (d.bind.imp (fun x _ d v H1 s1 r1=>?_) fun e q=>q)
  obtain ⟨b,rfl,d⟩:=d.asB
  obtain ⟨F1,f1,p1,A1⟩:=r1
  cases p1
  exact ⟨b,rfl,d H1 F1 s1 f1 A1⟩
theorem dt_b (ha:DE K EX Γ Γ' .A ta fa):DT K EX Γ Γ' (tB ta) (fun ρ=>(fa ρ).bind asB):=dt_test ha
theorem dt_and {c d:TT} {fc fd:List PV→Rr Bool} (hc:DT K EX Γ Γ c fc) (hd:DT K EX Γ Γ d fd):DT K EX Γ Γ (tAnd c d) (fun ρ=>(fc ρ).bind fun b=>if b=true then fd ρ else .ok false):=fun B H0 H σ ρ F R Q A dn=>by
  refine hc B H0 H σ ρ F R _ A (dn.bind.imp (fun b _ dn H1 F1 s1 f1 A1=>?_) fun e q=>q)
  cases b with
  | true=>exact hd B H0 H1 σ ρ F1 R _ A1 (dn.imp (fun y _ q H2 F2 s2 f2 A2=>q H2 F2 (s1.trans s2) (fun i a h=>f1 i a (f2 i a h)) A2) fun e q=>q)
  | false=>exact dn H1 F1 s1 f1 A1
theorem dt_or {c d:TT} {fc fd:List PV→Rr Bool} (hc:DT K EX Γ Γ c fc) (hd:DT K EX Γ Γ d fd):DT K EX Γ Γ (tOr c d) (fun ρ=>(fc ρ).bind fun b=>if b=true then .ok true else fd ρ):=fun B H0 H σ ρ F R Q A dn=>by
  refine hc B H0 H σ ρ F R _ A (dn.bind.imp (fun b _ dn H1 F1 s1 f1 A1=>?_) fun e q=>q)
  cases b with
  | false=>exact hd B H0 H1 σ ρ F1 R _ A1 (dn.imp (fun y _ q H2 F2 s2 f2 A2=>q H2 F2 (s1.trans s2) (fun i a h=>f1 i a (f2 i a h)) A2) fun e q=>q)
  | true=>exact dn H1 F1 s1 f1 A1
theorem dt_not {c:TT} {fc:List PV→Rr Bool} (hc:DT K EX Γ Γ' c fc):DT K EX Γ Γ' (tNot c) (fun ρ=>(fc ρ).bind fun b=>.ok (!b)):=fun B H0 H σ ρ F R Q A dn =>
  hc B H0 H σ ρ F R _ A (dn.bind.imp (fun b _ dn H1 F1 s1 f1 A1=>dn H1 F1 s1 f1 A1) fun e q=>q)
end
end L2
namespace L2
open PySem PySem.Spec PyProof.Rows
noncomputable def DAA (K:PySem.W.Frag) (EX:PX→Hp→Prop) (Γ Γ':List Md) (ta:TA) (f:List PV→Rr (List PV)):Prop :=
  ∀ (B:Addr→Prop) (H0 H:Hp) (σ:St) (ρ:List PV) (F:Nat→List Addr) (R:List Addr) (Q:List V→Hp→Prop),Ag K B H0 H σ Γ ρ F R →
    Dn (f ρ) (fun xs=>∀ vs H' F',Same H H'→(∀ i,∀ a∈F' i,a∈F i)→Reps K H' (fun _=>True) xs vs→Ag K B H0 H' σ Γ' ρ F' R→Q vs H') (fun e=>∀ H',Same H0 H'→EX e H')→ta σ H Q
noncomputable def DAF (K:PySem.W.Frag) (EX:PX→Hp→Prop) (Γ Γ':List Md) (ta:TA) (f:List PV→Rr (List PV)):Prop :=
  ∀ (B:Addr→Prop) (H0 H:Hp) (σ:St) (ρ:List PV) (F:Nat→List Addr) (R:List Addr) (Q:List V→Hp→Prop),Ag K B H0 H σ Γ ρ F R →
    Dn (f ρ) (fun xs=>∀ vs H' F' G,Same H H'→(∀ i,∀ a∈F' i,a∈F i)→Trees K H' xs vs G→(∀ a∈G,a ∉ R∧(H a=none ∨ ∃ i,a∈F i))→Ag K B H0 H' σ Γ' ρ F' (G ++ R)→Q vs H') (fun e=>∀ H',Same H0 H'→EX e H')→ta σ H Q
noncomputable def DAZ (K:PySem.W.Frag) (EX:PX→Hp→Prop) (Γ Γ':List Md) (ta:TA) (f:List PV→Rr (List PV)):Prop :=
  ∀ (B:Addr→Prop) (H0 H:Hp) (σ:St) (ρ:List PV) (F:Nat→List Addr) (R:List Addr) (Q:List V→Hp→Prop),Ag K B H0 H σ Γ ρ F R →
    Dn (f ρ) (fun xs=>∀ vs H' F',Same H H'→(∀ i,∀ a∈F' i,a∈F i)→Reps K H' (NO B F' R) xs vs→Ag K B H0 H' σ Γ' ρ F' R→Q vs H') (fun e=>∀ H',Same H0 H'→EX e H')→ta σ H Q
section
variable {K:PySem.W.Frag} {B:Addr→Prop} {EX:PX→Hp→Prop} {H0 H H':Hp} {σ:St} {Γ Γ' Γ1 Γ2 Γ3:List Md} {ρ:List PV} {F F':Nat→List Addr} {R:List Addr} {k:Kd} {x:PV} {v:V} {te tb tc:TE} {ta:TA} {f fb fc:List PV→Rr PV} {fa:List PV→Rr (List PV)}
theorem daa_nil:DAA K EX Γ Γ tNil (fun _=>.ok []):=fun B H0 H σ ρ F R Q A d=>d [] H F (Same.refl H) (fun _ _ h=>h) rfl A
theorem daa_cons (he:DE K EX Γ Γ1 .A te f) (ha:DAA K EX Γ1 Γ2 ta fa):DAA K EX Γ Γ2 (tCons te ta) (fun ρ=>(f ρ).bind fun x=>(fa ρ).bind fun xs=>.ok (x :: xs)):=fun B H0 H σ ρ F R Q A d=>by
  refine he B H0 H σ ρ F R _ A (d.bind.imp (fun x _ d v H1 s1 r1=>?_) fun e q=>q)
  obtain ⟨F1,f1,p1,A1⟩:=r1
  refine ha B H0 H1 σ ρ F1 R _ A1 (d.bind.imp (fun xs _ d vs H2 F2 s2 f2 p2 A2=>?_) fun e q=>q)
  exact d (v :: vs) H2 F2 (s1.trans s2) (fun i a h=>f1 i a (f2 i a h)) ⟨v,vs,rfl,p1.same s2,p2⟩ A2
theorem daf_nil:DAF K EX Γ Γ tNil (fun _=>.ok []):=fun B H0 H σ ρ F R Q A d=>d [] H F [] (Same.refl H) (fun _ _ h=>h) ⟨rfl,rfl⟩ (by simp) A
theorem daf_cons (he:DE K EX Γ Γ1 .F te f) (ha:DAF K EX Γ1 Γ2 ta fa):DAF K EX Γ Γ2 (tCons te ta) (fun ρ=>(f ρ).bind fun x=>(fa ρ).bind fun xs=>.ok (x :: xs)):=fun B H0 H σ ρ F R Q A d=>by
  refine he B H0 H σ ρ F R _ A (d.bind.imp (fun x _ d v H1 s1 r1=>?_) fun e q=>q)
  obtain ⟨F1,f1,G1,p1,o1,A1⟩:=r1
  refine ha B H0 H1 σ ρ F1 (G1 ++ R) _ A1 (d.bind.imp (fun xs _ d vs H2 F2 G2 s2 f2 p2 o2 A2=>?_) fun e q=>q)
  refine d (v :: vs) H2 F2 (G1 ++ G2) (s1.trans s2) (fun i a h=>f1 i a (f2 i a h)) ⟨v,vs,G1,G2,rfl,p1.same s2,p2,fun a ha z=>(o2 a z).1 (List.mem_append_left _ ha),rfl⟩ (fun a ha=>?_) (A2.less fun a ha=>?_)
  · rcases List.mem_append.mp ha with z | z
    · exact o1 a z
    · obtain ⟨o3,o4⟩:=o2 a z
      exact ⟨fun q=>o3 (List.mem_append_right _ q),o4.elim (fun q=>.inl (s1.free q)) fun ⟨i,q⟩=>.inr ⟨i,f1 i a q⟩⟩
  · simp only [List.mem_append] at ha ⊢
    rcases ha with (z | z) | z
    · exact .inr (.inl z)
    · exact .inl z
    · exact .inr (.inr z)
theorem daz_nil:DAZ K EX Γ Γ tNil (fun _=>.ok []):=fun B H0 H σ ρ F R Q A d=>d [] H F (Same.refl H) (fun _ _ h=>h) rfl A
theorem daz_cons (he:DE K EX Γ Γ1 .Z te f) (ha:DAZ K EX Γ1 Γ2 ta fa):DAZ K EX Γ Γ2 (tCons te ta) (fun ρ=>(f ρ).bind fun x=>(fa ρ).bind fun xs=>.ok (x :: xs)):=fun B H0 H σ ρ F R Q A d=>by
  refine he B H0 H σ ρ F R _ A (d.bind.imp (fun x _ d v H1 s1 r1=>?_) fun e q=>q)
  obtain ⟨F1,f1,p1,A1⟩:=r1
  refine ha B H0 H1 σ ρ F1 R _ A1 (d.bind.imp (fun xs _ d vs H2 F2 s2 f2 p2 A2=>?_) fun e q=>q)
  refine d (v :: vs) H2 F2 (s1.trans s2) (fun i a h=>f1 i a (f2 i a h)) ⟨v,vs,rfl, ?_,p2⟩ A2
  exact Rep.mono (fun a us s r=>⟨r.same s2,s.1,s.2.1,fun i z=>s.2.2 i (f2 i a z)⟩) (fun a us r=>s2.im r) p1
noncomputable def mkT (xs:List PV):Rr PV:=if xs.length≤1000 then .ok (.tup xs) else .bad
noncomputable def mkL (xs:List PV):Rr PV:=if xs.length≤1000 then .ok (.lst xs) else .bad
theorem Dn.mkT {xs:List PV} {ok:PV→Prop} {ex:PX→Prop} (d:Dn (mkT xs) ok ex):xs.length≤1000∧ok (.tup xs):=by
  unfold L2.mkT at d
  by_cases h:xs.length≤1000
  · rw [if_pos h] at d; exact ⟨h,d⟩
  · rw [if_neg h] at d; exact d.elim
theorem Dn.mkL {xs:List PV} {ok:PV→Prop} {ex:PX→Prop} (d:Dn (mkL xs) ok ex):xs.length≤1000∧ok (.lst xs):=by
  unfold L2.mkL at d
  by_cases h:xs.length≤1000
  · rw [if_pos h] at d; exact ⟨h,d⟩
  · rw [if_neg h] at d; exact d.elim
theorem de_tupF (ha:DAF K EX Γ Γ' ta fa):DE K EX Γ Γ' .F (tTup ta) (fun ρ=>(fa ρ).bind mkT):=fun B H0 H σ ρ F R Q A d=>by
  refine ha B H0 H σ ρ F R _ A (d.bind.imp (fun xs _ d vs H1 F1 G s1 f1 p1 o1 A1=>?_) fun e q=>q)
  obtain ⟨hl,d⟩:=d.mkT
  refine ⟨by rw [p1.length]; exact line_big hl,fun p hp=>?_⟩
  have e:Same H1 (upd H1 p (.tup vs)):=Same.new hp
  exact d _ _ (s1.trans e) ⟨F1,f1,G,⟨p,vs,rfl,⟨upd_same,trivial⟩,p1.same e⟩,o1,A1.grow e⟩
theorem de_tupA (ha:DAA K EX Γ Γ' ta fa):DE K EX Γ Γ' .A (tTup ta) (fun ρ=>(fa ρ).bind mkT):=fun B H0 H σ ρ F R Q A d=>by
  refine ha B H0 H σ ρ F R _ A (d.bind.imp (fun xs _ d vs H1 F1 s1 f1 p1 A1=>?_) fun e q=>q)
  obtain ⟨hl,d⟩:=d.mkT
  refine ⟨by rw [p1.length]; exact line_big hl,fun p hp=>?_⟩
  have e:Same H1 (upd H1 p (.tup vs)):=Same.new hp
  exact d _ _ (s1.trans e) ⟨F1,f1,⟨p,vs,rfl,⟨upd_same,trivial⟩,p1.same e⟩,A1.grow e⟩
theorem Res.newF {H1:Hp} {F1:Nat→List Addr} {G:List Addr} {xs:List PV} {vs:List V} {p:Addr} (s1:Same H H1) (f1:∀ i,∀ a∈F1 i,a∈F i) (p1:Trees K H1 xs vs G) (o1:∀ a∈G,a ∉ R∧(H a=none ∨ ∃ i,a∈F i)) (A1:Ag K B H0 H1 σ Γ' ρ F1 (G ++ R)) (hp:H1 p=none) :
    Res K B H0 H σ Γ' ρ F R .F (.lst xs) (.ref p) (upd H1 p (.lst vs)):=by
  have e:Same H1 (upd H1 p (.lst vs)):=Same.new hp
  have hf:=A1.fresh hp
  refine ⟨F1,f1,p :: G,⟨p,vs,G,rfl,upd_same,p1.same e,fun z=>hf.1 (List.mem_append_left _ z),rfl⟩,fun a ha=>?_,A1.new hp⟩
  rcases List.mem_cons.mp ha with rfl | z
  · exact ⟨fun z=>hf.1 (List.mem_append_right _ z),.inl (s1.free hp)⟩
  · exact o1 a z
theorem Res.newP {H1:Hp} {F1:Nat→List Addr} {xs:List PV} {vs:List V} {p:Addr} {S:Addr→Prop} (s1:Same H H1) (f1:∀ i,∀ a∈F1 i,a∈F i) (p1:Reps K H1 S xs vs) (hx:PV.flats xs=true) (A1:Ag K B H0 H1 σ Γ' ρ F1 R) (hp:H1 p=none) :
    Res K B H0 H σ Γ' ρ F R .F (.lst xs) (.ref p) (upd H1 p (.lst vs)):=Res.newF (G:=[]) s1 f1 (p1.trees hx) (by simp) A1 hp
theorem de_lstF (ha:DAF K EX Γ Γ' ta fa):DE K EX Γ Γ' .F (tLst ta) (fun ρ=>(fa ρ).bind mkL):=fun B H0 H σ ρ F R Q A d=>by
  refine ha B H0 H σ ρ F R _ A (d.bind.imp (fun xs _ d vs H1 F1 G s1 f1 p1 o1 A1=>?_) fun e q=>q)
  obtain ⟨hl,d⟩:=d.mkL
  refine ⟨by rw [p1.length]; exact line_big hl,fun p hp=>d _ _ (s1.trans (Same.new hp)) (Res.newF s1 f1 p1 o1 A1 hp)⟩
noncomputable def pIx (x y:PV):Rr PV:=match x,y with
  | .lst xs,.int i=>match atI xs i with
    | some z=>.ok z
    | none=>.bad
  | .tup xs,.int i=>match atI xs i with
    | some z=>.ok z
    | none=>.bad
  | _,_=>.bad
theorem reps_at {S:Addr→Prop} {xs:List PV} {vs:List V} {i:Int} {z:PV} (h:Reps K H S xs vs) (e:atI xs i=some z):∃ u,atI vs i=some u∧Rep K H S z u:=by
  unfold atI at e ⊢
  rw [h.length]
  cases q:ixN xs.length i with
  | none=>rw [q] at e; cases e
  | some j =>
    rw [q] at e
    obtain ⟨u,e1,e2⟩:=h.get e
    exact ⟨u,e1,e2⟩
theorem rix_of {S:Addr→Prop} {x y z:PV} {v w:V} {Q:VK} (hx:Rep K H S x v) (hy:Rep K H (fun _=>True) y w) (e:pIx x y=.ok z) (q:∀ u,Rep K H S z u→Q u H):rIx K v w H Q:=by
  cases x <;> cases y <;> first | (simp only [pIx] at e; cases e; done) | skip
  · rename_i xs i
    obtain ⟨a,vs,rfl,hn,hr⟩:=hx
    cases hy
    simp only [pIx] at e
    cases e1:atI xs i with
    | none=>rw [e1] at e; cases e
    | some z' =>
      rw [e1] at e; cases e
      obtain ⟨u,e2,e3⟩:=reps_at hr e1
      exact .inl ⟨a,vs,i,u,rfl,rfl,sq_of hn,e2,q u e3⟩
  · rename_i xs i
    obtain ⟨a,vs,rfl,hn,hr⟩:=hx
    cases hy
    simp only [pIx] at e
    cases e1:atI xs i with
    | none=>rw [e1] at e; cases e
    | some z' =>
      rw [e1] at e; cases e
      obtain ⟨u,e2,e3⟩:=reps_at hr e1
      exact .inr (.inl ⟨a,vs,i,u,rfl,rfl,hn.sqT,e2,q u e3⟩)
theorem pIx_noexc (x y:PV) (e:PX):pIx x y≠.exc e:=by
  cases x <;> cases y <;> first | (intro h; simp only [pIx] at h; cases h; done) | skip
  all_goals
    intro h
    simp only [pIx] at h
    split at h <;> cases h
theorem Dn.pIx {x y:PV} {ok:PV→Prop} {ex:PX→Prop} (d:Dn (pIx x y) ok ex):∃ z,pIx x y=.ok z∧ok z:=by
  cases e:L2.pIx x y with
  | ok z=>rw [e] at d; exact ⟨z,rfl,d⟩
  | exc q=>exact absurd e (pIx_noexc x y q)
  | bad=>rw [e] at d; exact d.elim
theorem de_ixA {te ta':TE} {fa':List PV→Rr PV} (ha:DE K EX Γ Γ1 .A ta' fa') (hb:DE K EX Γ1 Γ2 .A tb fb):DE K EX Γ Γ2 .A (tOp (rIx K) ta' tb) (fun ρ=>(fa' ρ).bind fun x=>(fb ρ).bind fun y=>pIx x y):=fun B H0 H σ ρ F R Q A d=>by
  refine two ha hb A d.bind2 fun x y v w H' F' d s hF p1 p2 A'=>?_
  obtain ⟨z,e,d⟩:=d.pIx
  exact rix_of p1 p2 e fun u hu=>d u H' s ⟨F',hF,hu,A'⟩
noncomputable def CbP (K:PySem.W.Frag) (r:List V→Hp→VK→Prop) (o:List PV→Rr PV):Prop:=∀ {H:Hp} {xs:List PV} {vs:List V} {Q:VK},Reps K H (fun _=>True) xs vs→∀ z,o xs=.ok z→z.flat=true∧((∀ u,Rep K H (fun _=>True) z u→Q u H)→r vs H Q)
theorem de_cb {r:List V→Hp→VK→Prop} {o:List PV→Rr PV} (hr:CbP K r o) (hx:∀ xs e,o xs≠.exc e) (ha:DAA K EX Γ Γ' ta fa):DE K EX Γ Γ' .P (tCB r ta) (fun ρ=>(fa ρ).bind o):=fun B H0 H σ ρ F R Q A d=>by
  refine ha B H0 H σ ρ F R _ A (d.bind.imp (fun xs _ d vs H1 F1 s1 f1 p1 A1=>?_) fun e q=>q)
  cases e:o xs with
  | ok z =>
    rw [e] at d
    obtain ⟨hf,h⟩:=hr (Q:=Q) p1 z e
    exact h fun u hu=>d u H1 s1 ⟨F1,f1,hf,hu,A1⟩
  | exc q=>exact absurd e (hx xs q)
  | bad=>rw [e] at d; exact d.elim
noncomputable def pLen (xs:List PV):Rr PV:=match xs with
  | [.lst ys]=>.ok (.int ys.length)
  | [.tup ys]=>.ok (.int ys.length)
  | _=>.bad
theorem reps1 {S:Addr→Prop} {x:PV} {vs:List V} (h:Reps K H S [x] vs):∃ v,vs=[v]∧Rep K H S x v:=by
  obtain ⟨v,r,rfl,h1,h2⟩:=h
  cases h2
  exact ⟨v,rfl,h1⟩
theorem reps2 {S:Addr→Prop} {x y:PV} {vs:List V} (h:Reps K H S [x,y] vs):∃ v w,vs=[v,w]∧Rep K H S x v∧Rep K H S y w:=by
  obtain ⟨v,r,rfl,h1,w,r',rfl,h2,h3⟩:=h
  cases h3
  exact ⟨v,w,rfl,h1,h2⟩
theorem de_len (ha:DAA K EX Γ Γ' ta fa):DE K EX Γ Γ' .P (tCB (fun xs H Q=>∃ p ys,xs=[.ref p]∧(SqL K H p ys ∨ SqT K H p ys)∧Q (.int ys.length) H) ta) (fun ρ=>(fa ρ).bind pLen):=by
  refine de_cb (fun {H xs vs Q} h z e=>?_) (fun xs e h=>?_) ha
  · unfold pLen at e
    split at e <;> first | (cases e; done) | skip
    all_goals
      cases e
      refine ⟨rfl,fun q=>?_⟩
      obtain ⟨v,rfl,a,ws,rfl,hn,hr⟩:=reps1 h
      refine ⟨a,ws,rfl, ?_,by rw [hr.length]; exact q _ rfl⟩
      first | exact .inl (sq_of (S:=fun _=>True) hn) | exact .inr hn.sqT
  · unfold pLen at h; split at h <;> cases h
noncomputable def intsOf:List PV→Option (List Int)
  | []=>some []
  | .int i :: xs=>(intsOf xs).map (i :: ·)
  | _ :: _=>none
@[simp] theorem intsOf_map (ns:List Int):intsOf (ns.map PV.int)=some ns:=by
  induction ns with
  | nil=>rfl
  | cons n ns ih=>simp [intsOf,ih]
theorem intsOf_eq:∀ {xs:List PV} {ns:List Int},intsOf xs=some ns→xs=ns.map PV.int
  | [],_,h=>by cases h; rfl
  | .int i :: xs,ns,h=>by
    simp only [intsOf] at h
    cases e:intsOf xs with
    | none=>rw [e] at h; cases h
    | some ms=>rw [e] at h; cases h; rw [intsOf_eq e]; rfl
  | .non :: _,_,h=>by cases h
  | .bl _ :: _,_,h=>by cases h
  | .str _ :: _,_,h=>by cases h
  | .exc _ :: _,_,h=>by cases h
  | .exa _ _ :: _,_,h=>by cases h
  | .box _ _ _ :: _,_,h=>by cases h
  | .lst _ :: _,_,h=>by cases h
  | .tup _ :: _,_,h=>by cases h
theorem reps_ints {S:Addr→Prop}:∀ {ns:List Int} {vs:List V},Reps K H S (ns.map PV.int) vs→vs=ns.map V.int
  | [],_,h=>h
  | n :: ns,_,h=>by
    obtain ⟨v,r,rfl,h1,h2⟩:=h
    cases h1
    rw [reps_ints h2]; rfl
theorem ints_reps {S:Addr→Prop}:∀ (ns:List Int),Reps K H S (ns.map PV.int) (ns.map V.int)
  | []=>rfl
  | n :: ns=>⟨_,_,rfl,rfl,ints_reps ns⟩
theorem rep_ints {S:Addr→Prop} {ns:List Int} {v:V} (h:Rep K H S (.lst (ns.map PV.int)) v):∃ a,v=.ref a∧SqL K H a (ns.map V.int):=by
  obtain ⟨a,vs,rfl,hn,hr⟩:=h
  rw [reps_ints hr] at hn
  exact ⟨a,rfl,sq_of hn⟩
noncomputable def pInts (g:List Int→Rr PV) (xs:List PV):Rr PV:=match xs with
  | [.lst ys]=>match intsOf ys with
    | some ns=>g ns
    | none=>.bad
  | _=>.bad
theorem Rr.ints {g:List Int→Rr PV} {xs:List PV} {z:PV} (e:pInts g xs=.ok z):∃ ns,xs=[.lst (ns.map PV.int)]∧g ns=.ok z:=by
  unfold pInts at e
  split at e
  · split at e
    · rename_i ns h
      exact ⟨ns,by rw [intsOf_eq h],e⟩
    · cases e
  · cases e
theorem pInts_noexc {g:List Int→Rr PV} (hg:∀ ns e,g ns≠.exc e) (xs:List PV) (e:PX):pInts g xs≠.exc e:=by
  intro h
  unfold pInts at h
  split at h
  · split at h
    · exact hg _ _ h
    · cases h
  · cases h
noncomputable abbrev pSum:=pInts fun ns=>.ok (.int ns.sum)
theorem de_sum (ha:DAA K EX Γ Γ' ta fa):DE K EX Γ Γ' .P (tCB (fun xs H Q=>∃ p,∃ ns:List Int,xs=[.ref p]∧SqL K H p (ns.map V.int)∧Q (.int ns.sum) H) ta) (fun ρ=>(fa ρ).bind pSum):=by
  refine de_cb (fun {H xs vs Q} h z e=>?_) (pInts_noexc fun ns e h=>by cases h) ha
  obtain ⟨ns,rfl,e'⟩:=Rr.ints e
  cases e'
  obtain ⟨v,rfl,h1⟩:=reps1 h
  obtain ⟨a,rfl,h2⟩:=rep_ints h1
  exact ⟨rfl,fun q=>⟨a,ns,rfl,h2,q _ rfl⟩⟩
noncomputable def minI:List Int→Int
  | []=>0
  | [n]=>n
  | n :: ns=>min n (minI ns)
theorem minI_mem:∀ {ns:List Int},ns≠[]→minI ns∈ns
  | [],h=>absurd rfl h
  | [n],_=>by simp [minI]
  | n :: m :: ns,_=>by
    have:=minI_mem (ns:=m :: ns) (by simp)
    show min n (minI (m :: ns))∈n :: m :: ns
    rcases Int.le_total n (minI (m :: ns)) with h | h
    · rw [Int.min_eq_left h]; simp
    · rw [Int.min_eq_right h]; exact List.mem_cons_of_mem _ this
theorem minI_le:∀ {ns:List Int} {x:Int},x∈ns→minI ns≤x
  | [n],x,h=>by simp at h; subst h; exact Int.le_refl _
  | n :: m :: ns,x,h=>by
    show min n (minI (m :: ns))≤x
    rcases List.mem_cons.mp h with rfl | h
    · exact Int.min_le_left _ _
    · exact Int.le_trans (Int.min_le_right _ _) (minI_le h)
theorem minI_eq {ns:List Int} {m:Int} (h1:m∈ns) (h2:∀ a∈ns,m≤a):m=minI ns:=Int.le_antisymm (h2 _ (minI_mem (List.ne_nil_of_mem h1))) (minI_le h1)
noncomputable abbrev pMin:=pInts fun ns=>if ns=[] then .bad else .ok (.int (minI ns))
theorem de_min (ha:DAA K EX Γ Γ' ta fa):DE K EX Γ Γ' .P (tCB (rMinI K) ta) (fun ρ=>(fa ρ).bind pMin):=by
  refine de_cb (fun {H xs vs Q} h z e=>?_) (pInts_noexc fun ns e h=>by split at h <;> cases h) ha
  obtain ⟨ns,rfl,e'⟩:=Rr.ints e
  by_cases hn:ns=[]
  · rw [if_pos hn] at e'; cases e'
  rw [if_neg hn] at e'
  cases e'
  obtain ⟨v,rfl,h1⟩:=reps1 h
  obtain ⟨a,rfl,h2⟩:=rep_ints h1
  exact ⟨rfl,fun q=>⟨a,ns,rfl,h2,List.length_pos_iff.mpr hn,fun m hm hl=>by rw [minI_eq hm hl]; exact q _ rfl⟩⟩
noncomputable def blsOf:List PV→Option (List Bool)
  | []=>some []
  | .bl i :: xs=>(blsOf xs).map (i :: ·)
  | _ :: _=>none
@[simp] theorem blsOf_map (ns:List Bool):blsOf (ns.map PV.bl)=some ns:=by
  induction ns with
  | nil=>rfl
  | cons n ns ih=>simp [blsOf,ih]
theorem blsOf_eq:∀ {xs:List PV} {ns:List Bool},blsOf xs=some ns→xs=ns.map PV.bl
  | [],_,h=>by cases h; rfl
  | .bl i :: xs,ns,h=>by
    simp only [blsOf] at h
    cases e:blsOf xs with
    | none=>rw [e] at h; cases h
    | some ms=>rw [e] at h; cases h; rw [blsOf_eq e]; rfl
  | .non :: _,_,h=>by cases h
  | .int _ :: _,_,h=>by cases h
  | .str _ :: _,_,h=>by cases h
  | .exc _ :: _,_,h=>by cases h
  | .exa _ _ :: _,_,h=>by cases h
  | .box _ _ _ :: _,_,h=>by cases h
  | .lst _ :: _,_,h=>by cases h
  | .tup _ :: _,_,h=>by cases h
theorem reps_bls {S:Addr→Prop}:∀ {ns:List Bool} {vs:List V},Reps K H S (ns.map PV.bl) vs→vs=ns.map V.bl
  | [],_,h=>h
  | n :: ns,_,h=>by
    obtain ⟨v,r,rfl,h1,h2⟩:=h
    cases h1
    rw [reps_bls h2]; rfl
noncomputable def pAll (xs:List PV):Rr PV:=match xs with
  | [.lst ys]=>match blsOf ys with
    | some bs=>.ok (.bl (bs.all id))
    | none=>.bad
  | _=>.bad
theorem de_all (ha:DAA K EX Γ Γ' ta fa):DE K EX Γ Γ' .P (tCB (fun xs H Q=>∃ p,∃ bs:List Bool,xs=[.ref p]∧SqL K H p (bs.map V.bl)∧Q (.bl (bs.all id)) H) ta) (fun ρ=>(fa ρ).bind pAll):=by
  refine de_cb (fun {H xs vs Q} h z e=>?_) (fun xs e h=>?_) ha
  · unfold pAll at e
    split at e
    · split at e
      · rename_i bs hb
        cases e
        rw [blsOf_eq hb] at h
        obtain ⟨v,rfl,a,ws,rfl,hn,hr⟩:=reps1 h
        rw [reps_bls hr] at hn
        exact ⟨rfl,fun q=>⟨a,bs,rfl,sq_of (S:=fun _=>True) hn,q _ rfl⟩⟩
      · cases e
    · cases e
  · unfold pAll at h
    split at h
    · split at h <;> cases h
    · cases h
noncomputable def pInt (xs:List PV):Rr PV:=match xs with
  | [.int i]=>.ok (.int i)
  | [.bl b]=>.ok (.int (if b then 1 else 0))
  | _=>.bad
theorem de_toInt (ha:DAA K EX Γ Γ' ta fa):DE K EX Γ Γ' .P (tCB (fun xs H Q=>(∃ i,xs=[.int i]∧Q (.int i) H) ∨ ∃ k,xs=[.bl k]∧Q (.int (if k then 1 else 0)) H) ta) (fun ρ=>(fa ρ).bind pInt):=by
  refine de_cb (fun {H xs vs Q} h z e=>?_) (fun xs e h=>?_) ha
  · unfold pInt at e
    split at e <;> first | (cases e; done) | skip
    · cases e
      obtain ⟨v,rfl,h1⟩:=reps1 h
      cases h1
      exact ⟨rfl,fun q=>.inl ⟨_,rfl,q _ rfl⟩⟩
    · cases e
      obtain ⟨v,rfl,h1⟩:=reps1 h
      cases h1
      exact ⟨rfl,fun q=>.inr ⟨_,rfl,q _ rfl⟩⟩
  · unfold pInt at h; split at h <;> cases h
end
end L2
namespace L2
open PySem PySem.Spec PyProof.Rows
theorem line_mil {n:Nat} (h:n≤1000000):n≤sizeLine:=Nat.le_trans h (by decide)
section
variable {X:Cx} {K:PySem.W.Frag}
end
noncomputable def Frm (H:Hp) (F:Nat→List Addr) (H':Hp) (F':Nat→List Addr):Prop:=∀ a o,H a=some o→(∀ i,a ∉ F i)→H' a=some o∧∀ i,a ∉ F' i
theorem Frm.refl {H:Hp} {F:Nat→List Addr}:Frm H F H F:=fun a o h n=>⟨h,n⟩
theorem Frm.trans {H H1 H2:Hp} {F F1 F2:Nat→List Addr} (h1:Frm H F H1 F1) (h2:Frm H1 F1 H2 F2):Frm H F H2 F2:=fun a o h n=>let ⟨h3,n3⟩:=h1 a o h n; h2 a o h3 n3
theorem Frm.of {H H':Hp} {F F':Nat→List Addr} (s:Same H H') (f:∀ i,∀ a∈F' i,a∈F i):Frm H F H' F':=fun a o h n=>⟨s a o h,fun i z=>n i (f i a z)⟩
noncomputable def ItP (K:PySem.W.Frag) (S:Addr→Prop) (J:It) (xs:List PV) (H:Hp):Prop :=
  ∀ i,(∀ x,xs[i]?=some x→J.go i H∧∀ v H',J.yld i H v H'→Same H H'∧Rep K H' S x v)∧(xs[i]?=none→J.stop i H)
noncomputable def DI (K:PySem.W.Frag) (EX:PX→Hp→Prop) (Γ Γ':List Md) (wi:TI) (f:List PV→Rr (List PV)):Prop :=
  ∀ (B:Addr→Prop) (H0 H:Hp) (σ:St) (ρ:List PV) (F:Nat→List Addr) (R:List Addr) (Q:It→Hp→Prop),Ag K B H0 H σ Γ ρ F R →
    Dn (f ρ) (fun xs=>∀ J H' F',Same H H'→(∀ i,∀ a∈F' i,a∈F i)→Ag K B H0 H' σ Γ' ρ F' R→(∀ H2 F2,Frm H' F' H2 F2→ItP K (fun a=>NO B F2 R a∧H' a≠none∧∀ i,a ∉ F' i) J xs H2)→Q J H') (fun e=>∀ H',Same H0 H'→EX e H')→wi σ H Q
noncomputable def DIc (K:PySem.W.Frag) (EX:PX→Hp→Prop) (Γ Γ':List Md) (wi:TI) (f:List PV→Rr (List PV)):Prop :=
  ∀ (B:Addr→Prop) (H0 H:Hp) (σ:St) (ρ:List PV) (F:Nat→List Addr) (R:List Addr) (Q:It→Hp→Prop),Ag K B H0 H σ Γ ρ F R →
    Dn (f ρ) (fun xs=>∀ J H' F',Same H H'→(∀ i,∀ a∈F' i,a∈F i)→Ag K B H0 H' σ Γ' ρ F' R→(∀ H2 F2,Same H' H2→(∀ i,∀ a∈F2 i,a∈F' i)→ItP K (fun a=>NO B F2 R a∧H' a≠none∧∀ i,a ∉ F' i) J xs H2)→Q J H') (fun e=>∀ H',Same H0 H'→EX e H')→wi σ H Q
theorem DI.c {K:PySem.W.Frag} {EX:PX→Hp→Prop} {Γ Γ':List Md} {wi:TI} {f:List PV→Rr (List PV)} (h:DI K EX Γ Γ' wi f):DIc K EX Γ Γ' wi f:=fun B H0 H σ ρ F R Q A d =>
  h B H0 H σ ρ F R Q A (d.imp (fun xs _ d J H' F' s1 f1 A1 it=>d J H' F' s1 f1 A1 fun H2 F2 s2 f2=>it H2 F2 (Frm.of s2 f2)) fun e q=>q)
section
variable {K:PySem.W.Frag} {B:Addr→Prop} {EX:PX→Hp→Prop} {H0 H H':Hp} {σ:St} {Γ Γ' Γ1 Γ2 Γ3:List Md} {ρ:List PV} {F F':Nat→List Addr} {R:List Addr} {k:Kd} {x:PV} {v:V} {te tb tc:TE} {ta:TA} {f fb fc:List PV→Rr PV} {fa:List PV→Rr (List PV)}
theorem Rep.frm {F2:Nat→List Addr} {H2:Hp} (h:Frm H F H2 F2) (A:Ag K B H0 H σ Γ ρ F R) (r:Rep K H (NO B F R) x v):Rep K H2 (fun a=>NO B F2 R a∧H a≠none∧∀ i,a ∉ F i) x v:=by
  refine Rep.mono (fun a us s r=>?_) (fun a us r=>?_) r
  · rcases r with r | ⟨o,r⟩
    · obtain ⟨h1,h2⟩:=h a _ r s.2.2; exact ⟨.inl h1,⟨s.1,s.2.1,h2⟩,by rw [r]; simp,s.2.2⟩
    · obtain ⟨h1,h2⟩:=h a _ r s.2.2; exact ⟨.inr ⟨o,h1⟩,⟨s.1,s.2.1,h2⟩,by rw [r]; simp,s.2.2⟩
  · refine ⟨(h a _ r.1 fun i z=>?_).1,r.2⟩
    obtain ⟨vs,q⟩:=A.live i a z
    exact lv_ne_im vs.2 r.2 (by rw [r.1] at q; exact Option.some.inj q)
noncomputable def rngP (lo:Int) (n:Nat):List PV:=(List.range n).map fun (k:Nat)=>PV.int (lo + (k:Int))
theorem itp_rng {lo:Int} {n:Nat} {S:Addr→Prop}:ItP K S (Itr lo n) (rngP lo n) H:=by
  intro i
  constructor
  · intro x hx
    unfold rngP at hx
    rw [List.getElem?_map] at hx
    by_cases h:i < n
    · rw [List.getElem?_range h] at hx
      cases hx
      exact ⟨h,fun v H' ⟨e1,e2⟩=>by subst e1 e2; exact ⟨Same.refl _,rfl⟩⟩
    · rw [List.getElem?_eq_none (by simpa using h)] at hx; cases hx
  · intro hx
    unfold rngP at hx
    have:=List.getElem?_eq_none_iff.mp hx
    show n≤i
    simpa using this
noncomputable def okR (j:Int):Bool:=decide (-(2 ^ 62)≤j∧j < 2 ^ 62)
noncomputable def pRng1 (xs:List PV):Rr (List PV):=match xs with
  | [.int j]=>if okR j=true then .ok (rngP 0 j.toNat) else .bad
  | _=>.bad
noncomputable def pRng2 (xs:List PV):Rr (List PV):=match xs with
  | [.int i,.int j]=>if (okR i && okR j)=true then .ok (rngP i (j - i).toNat) else .bad
  | _=>.bad
theorem di_rng1 (ha:DAA K EX Γ Γ' ta fa):DI K EX Γ Γ' (iRng1 ta) (fun ρ=>(fa ρ).bind pRng1):=fun B H0 H σ ρ F R Q A d=>by
  refine ha B H0 H σ ρ F R _ A (d.bind.imp (fun xs _ d vs H1 F1 s1 f1 p1 A1=>?_) fun e q=>q)
  unfold pRng1 at d
  split at d
  · rename_i j _
    obtain ⟨v,rfl,h1⟩:=reps1 p1
    cases h1
    by_cases h:okR j=true
    · rw [if_pos h] at d
      have h':=of_decide_eq_true h
      exact ⟨j,rfl,h'.1,h'.2,d _ H1 F1 s1 f1 A1 fun H2 F2 _=>itp_rng⟩
    · rw [if_neg h] at d; exact d.elim
  · exact d.elim
theorem di_rng2 (ha:DAA K EX Γ Γ' ta fa):DI K EX Γ Γ' (iRng2 ta) (fun ρ=>(fa ρ).bind pRng2):=fun B H0 H σ ρ F R Q A d=>by
  refine ha B H0 H σ ρ F R _ A (d.bind.imp (fun xs _ d vs H1 F1 s1 f1 p1 A1=>?_) fun e q=>q)
  unfold pRng2 at d
  split at d
  · rename_i i j _
    obtain ⟨v,w,rfl,h1,h2⟩:=reps2 p1
    cases h1; cases h2
    by_cases h:(okR i && okR j)=true
    · rw [if_pos h] at d
      rw [Bool.and_eq_true] at h
      have h':=of_decide_eq_true h.1
      have h'':=of_decide_eq_true h.2
      exact ⟨i,j,rfl,⟨h'.1,h'.2,h''.1,h''.2⟩,d _ H1 F1 s1 f1 A1 fun H2 F2 _=>itp_rng⟩
    · rw [if_neg h] at d; exact d.elim
  · exact d.elim
noncomputable def asL (x:PV):Rr (List PV):=match x with
  | .lst xs=>.ok xs
  | _=>.bad
theorem itp_lst {a:Addr} {xs:List PV} {S:Addr→Prop} (h:Rep K H S (.lst xs) (.ref a)):ItP K S (Itl K a) xs H:=by
  obtain ⟨a',vs,e,hn,hr⟩:=h
  cases e
  intro i
  constructor
  · intro x hx
    obtain ⟨u,e1,e2⟩:=hr.get hx
    refine ⟨⟨vs,u,sq_of hn,e1⟩,fun v H' ⟨e,y⟩=>?_⟩
    subst e
    have:=y vs (sq_of hn)
    rw [e1] at this; cases this
    exact ⟨Same.refl _,e2⟩
  · intro hx
    exact ⟨vs,sq_of hn,by rw [hr.length]; exact List.getElem?_eq_none_iff.mp hx⟩
theorem di_list (he:DE K EX Γ Γ' .Z te f):DI K EX Γ Γ' (iList K te) (fun ρ=>(f ρ).bind asL):=fun B H0 H σ ρ F R Q A d=>by
  refine he B H0 H σ ρ F R _ A (d.bind.imp (fun x _ d v H1 s1 r1=>?_) fun e q=>q)
  obtain ⟨F1,f1,p1,A1⟩:=r1
  cases x with
  | lst xs =>
    obtain ⟨a,vs,rfl,hn,hr⟩:=id p1
    exact ⟨a,rfl,⟨vs,sq_of hn⟩,d _ H1 F1 s1 f1 A1 fun H2 F2 h=>itp_lst (p1.frm h A1)⟩
  | _=>exact d.elim
noncomputable def DO (K:PySem.W.Frag) (EX:PX→Hp→Prop) (Γ Γ':List Md) (t:TO) (f:List PV→Rr (Option Int)):Prop :=
  ∀ (B:Addr→Prop) (H0 H:Hp) (σ:St) (ρ:List PV) (F:Nat→List Addr) (R:List Addr) (Q:Option Int→Hp→Prop),Ag K B H0 H σ Γ ρ F R →
    Dn (f ρ) (fun o=>∀ H' F',Same H H'→(∀ i,∀ a∈F' i,a∈F i)→Ag K B H0 H' σ Γ' ρ F' R→Q o H') (fun e=>∀ H',Same H0 H'→EX e H')→t σ H Q
theorem do_none:DO K EX Γ Γ tNoPart (fun _=>.ok none):=fun B H0 H σ ρ F R Q A d=>d H F (Same.refl H) (fun _ _ h=>h) A
noncomputable def asI (x:PV):Rr Int:=match x with
  | .int i=>.ok i
  | _=>.bad
theorem Dn.asI {x:PV} {ok:Int→Prop} {ex:PX→Prop} (d:Dn (asI x) ok ex):∃ b,x=.int b∧ok b:=by
  cases x with
  | int b=>exact ⟨b,rfl,d⟩
  | _=>exact d.elim
theorem do_some (he:DE K EX Γ Γ' .A te f):DO K EX Γ Γ' (tPart te) (fun ρ=>(f ρ).bind fun x=>(asI x).bind fun i=>.ok (some i)):=fun B H0 H σ ρ F R Q A d=>by
  refine he B H0 H σ ρ F R _ A (d.bind.imp (fun x _ d v H1 s1 r1=>?_) fun e q=>q)
  obtain ⟨i,rfl,d⟩:=d.bind.asI
  obtain ⟨F1,f1,p1,A1⟩:=r1
  cases p1
  exact ⟨i,rfl,d H1 F1 s1 f1 A1⟩
noncomputable def cutG {α:Type} (xs:List α) (lo hi:Option Int):List α:=(xs.drop (HT.sIx xs.length 0 lo)).take (HT.sIx xs.length xs.length hi - HT.sIx xs.length 0 lo)
theorem Reps.cut {S:Addr→Prop} {xs:List PV} {vs:List V} (h:Reps K H S xs vs) (lo hi:Option Int):Reps K H S (cutG xs lo hi) (cutV vs lo hi):=by
  unfold cutG cutV
  rw [h.length]
  exact (h.drop _).take _
noncomputable def newF (xs:List PV):Rr PV:=if (PV.flats xs && decide (xs.length≤1000000))=true then .ok (.lst xs) else .bad
theorem Dn.newF {xs:List PV} {ok:PV→Prop} {ex:PX→Prop} (d:Dn (newF xs) ok ex):PV.flats xs=true∧xs.length≤1000000∧ok (.lst xs):=by
  unfold L2.newF at d
  by_cases h:(PV.flats xs && decide (xs.length≤1000000))=true
  · rw [if_pos h] at d
    rw [Bool.and_eq_true] at h
    exact ⟨h.1,of_decide_eq_true h.2,d⟩
  · rw [if_neg h] at d; exact d.elim
theorem de_slF {tl th:TO} {fl fh:List PV→Rr (Option Int)} (he:DE K EX Γ Γ1 .A te f) (hl:DO K EX Γ1 Γ2 tl fl) (hh:DO K EX Γ2 Γ3 th fh) :
    DE K EX Γ Γ3 .F (tSl (rSlL K) te tl th) (fun ρ=>(f ρ).bind fun x=>(fl ρ).bind fun lo=>(fh ρ).bind fun hi=>(asL x).bind fun xs=>newF (cutG xs lo hi)):=fun B H0 H σ ρ F R Q A d=>by
  refine he B H0 H σ ρ F R _ A (d.bind.imp (fun x _ d v H1 s1 r1=>?_) fun e q=>q)
  obtain ⟨F1,f1,p1,A1⟩:=r1
  refine hl B H0 H1 σ ρ F1 R _ A1 (d.bind.imp (fun lo _ d H2 F2 s2 f2 A2=>?_) fun e q=>q)
  refine hh B H0 H2 σ ρ F2 R _ A2 (d.bind.imp (fun hi _ d H3 F3 s3 f3 A3=>?_) fun e q=>q)
  cases x with
  | lst xs =>
    obtain ⟨h1,h2,d⟩:=Dn.newF d
    obtain ⟨a,vs,rfl,hn,hr⟩:=(p1.same s2).same s3
    refine ⟨a,vs,rfl,sq_of (S:=fun _=>True) hn,fun p hp=>?_⟩
    exact d _ _ (((s1.trans s2).trans s3).trans (Same.new hp)) (Res.newP ((s1.trans s2).trans s3) (fun i a h=>f1 i a (f2 i a (f3 i a h))) (hr.cut lo hi) h1 A3 hp)
  | _=>exact d.elim
noncomputable def pList (xs:List PV):Rr PV:=match xs with
  | [.lst ys]=>newF ys
  | [.tup ys]=>newF ys
  | _=>.bad
theorem de_listF (ha:DAA K EX Γ Γ' ta fa):DE K EX Γ Γ' .F (tCB (fun xs H Q=>∃ p ys,xs=[.ref p]∧(SqL K H p ys ∨ SqT K H p ys)∧∀ l,H l=none→Q (.ref l) (upd H l (.lst ys))) ta) (fun ρ=>(fa ρ).bind pList):=fun B H0 H σ ρ F R Q A d=>by
  refine ha B H0 H σ ρ F R _ A (d.bind.imp (fun xs _ d vs H1 F1 s1 f1 p1 A1=>?_) fun e q=>q)
  unfold pList at d
  split at d
  · obtain ⟨h1,h2,d⟩:=Dn.newF d
    obtain ⟨v,rfl,a,ws,rfl,hn,hr⟩:=reps1 p1
    exact ⟨a,ws,rfl,.inl (sq_of (S:=fun _=>True) hn),fun l hl=>d _ _ (s1.trans (Same.new hl)) (Res.newP s1 f1 hr h1 A1 hl)⟩
  · obtain ⟨h1,h2,d⟩:=Dn.newF d
    obtain ⟨v,rfl,a,ws,rfl,hn,hr⟩:=reps1 p1
    exact ⟨a,ws,rfl,.inr hn.sqT,fun l hl=>d _ _ (s1.trans (Same.new hl)) (Res.newP s1 f1 hr h1 A1 hl)⟩
  · exact d.elim
noncomputable def tyName:PV→String
  | .non => "NoneType"
  | .bl _ => "bool"
  | .int _ => "int"
  | .str _ => "str"
  | .lst _ => "list"
  | .tup _ => "tuple"
  | .exc _ => "?"
  | .exa _ _ => "?"
  | .box _ (.dk _) _ => "dict"
  | .box _ (.dt _) _ => "dict"
  | .box _ (.ob _ _) _ => "?"
noncomputable def PV.isX:PV→Bool
  | .exc _=>true
  | .exa _ _=>true
  | .box _ _ _=>true
  | _=>false
noncomputable def isSub (t n:String):Bool:=t == n || (t == "bool" && n == "int")
noncomputable def tyOk (n:String):Bool:=n == "int" || n == "bool" || n == "str" || n == "list" || n == "tuple"
theorem kit_of (K:PySem.W.Frag) {n:String} (h:tyOk n=true) (x:PV) (hx:x.isX=false):PySem.W.kitOne K (.type (tyName x)) (.type n)=some (isSub (tyName x) n):=by
  simp only [tyOk,Bool.or_eq_true,beq_iff_eq] at h
  rcases h with (((rfl | rfl) | rfl) | rfl) | rfl <;> cases x <;> first | rfl | cases hx
noncomputable def rIsi (K:PySem.W.Frag) (n:String):List V→Hp→VK→Prop:=fun xs H Q=>∃ x p,xs=[x,.ty n]∧Rep K H (fun _=>True) p x∧p.isX=false∧Q (.bl (isSub (tyName p) n)) H
theorem call_isiK {X:Cx} {n:String} (hn:tyOk n=true) (e:X.K=K:=by rfl):CallR X (.builtin "isinstance") (rIsi K n):=by
  subst e
  intro pins s σ H xs us Q I r h
  obtain ⟨x,p,rfl,hp,hx,q⟩:=h
  obtain ⟨u,w',rfl,rx,rn⟩:=vals2 r
  cases rn
  have e:=kit_of X.K hn p hx
  have fin:∀ tk,EP X pins σ Q (.bool (isSub (tyName p) n)) { s with toks:=tk }:=fun tk=>⟨.bl _,H,I.tok _,rfl,q⟩
  cases p with
  | non=>cases hp; cases rx; exact PySem.W.kia_one PySem.W.kitx_none I.kIn True.intro e (fun z=>nomatch z) fin
  | bl y=>cases hp; cases rx; exact PySem.W.kia_one PySem.W.kitx_bool I.kIn True.intro e (fun z=>nomatch z) fin
  | int i=>cases hp; obtain ⟨t,rfl⟩:=rx; exact PySem.W.kia_one PySem.W.kitx_int I.kIn True.intro e (fun z=>nomatch z) fin
  | str y=>cases hp; obtain ⟨t,rfl⟩:=rx; exact PySem.W.kia_one PySem.W.kitx_str I.kIn True.intro e (fun z=>nomatch z) fin
  | exc y=>cases hx
  | exa y i=>cases hx
  | box p s ps=>cases hx
  | lst ps =>
    obtain ⟨a,vs,rfl,hn',hr⟩:=hp
    cases rx
    obtain ⟨its,_,pl,_⟩:=I.list (sq_of (S:=fun _=>True) hn')
    obtain ⟨o,h1,h2,_⟩:=pl.isList
    exact PySem.W.kia_one PySem.W.kitx_list I.kIn ⟨o,h1,h2⟩ e (fun z=>nomatch z) fin
  | tup ps =>
    obtain ⟨a,vs,rfl,hn',hr⟩:=hp
    cases rx
    obtain ⟨its,_,⟨o,h1,h2,_⟩,_⟩:=I.tuple hn'.sqT
    exact PySem.W.kia_one PySem.W.kitx_tuple I.kIn ⟨o,h1,h2⟩ e (fun z=>nomatch z) fin
noncomputable def pIsi (n:String) (x:PV):Rr PV:=if x.isX=true then .bad else .ok (.bl (isSub (tyName x) n))
theorem de_isi {n:String} (he:DE K EX Γ Γ' .A te f):DE K EX Γ Γ' .P (tCB (rIsi K n) (tCons te (tCons (tC (.ty n)) tNil))) (fun ρ=>(f ρ).bind (pIsi n)):=fun B H0 H σ ρ F R Q A d=>by
  refine he B H0 H σ ρ F R _ A (d.bind.imp (fun x _ d v H1 s1 r1=>?_) fun e q=>q)
  obtain ⟨F1,f1,p1,A1⟩:=r1
  unfold pIsi at d
  cases hx:x.isX with
  | true=>rw [hx] at d; exact d.elim
  | false=>rw [hx] at d; exact ⟨v,x,rfl,p1,hx,d _ H1 s1 ⟨F1,f1,rfl,rfl,A1⟩⟩
noncomputable def Len (fa:List PV→Rr (List PV)) (n:Nat):Prop:=∀ ρ xs,fa ρ=.ok xs→xs.length=n
theorem len_nil:Len (fun _=>.ok []) 0:=fun ρ xs h=>by cases h; rfl
theorem len_cons {f:List PV→Rr PV} {fa:List PV→Rr (List PV)} {n:Nat} (h:Len fa n):Len (fun ρ=>(f ρ).bind fun x=>(fa ρ).bind fun xs=>.ok (x :: xs)) (n + 1):=fun ρ xs e=>by
  dsimp only at e
  cases h1:f ρ with
  | ok x =>
    rw [h1] at e
    cases h2:fa ρ with
    | ok ys=>simp only [Rr.bind_ok,h2] at e; cases e; simp [h ρ ys h2]
    | exc q=>simp only [Rr.bind_ok,h2,Rr.bind_exc] at e; cases e
    | bad=>simp only [Rr.bind_ok,h2,Rr.bind_bad] at e; cases e
  | exc q=>rw [h1] at e; cases e
  | bad=>rw [h1] at e; cases e
noncomputable def RetK (K:PySem.W.Frag) (B:Addr→Prop) (H:Hp) (k:Kd) (x:PV) (v:V) (H':Hp):Prop:=match k with
  | .P=>x.flat=true∧Rep K H' (fun _=>True) x v
  | .F=>∃ G,Tree K H' x v G∧∀ a∈G,H a=none
  | .N=>∃ y a s xs G1 G2,x=.tup [y,.box (some a) s xs]∧Tree K H' y v G1∧Tree K H' (.box (some a) s xs) (.ref a) G2∧(∀ b∈G1,b ∉ G2)∧(∀ b∈G1,H b=none)∧∀ b∈G2,H b=none
  | _=>Rep K H' (fun a=>B a ∨ H a=none) x v
noncomputable def spF (K:PySem.W.Frag) (n:Nat) (k:Kd) (W:PX→XK→Hp→Prop) (m:List PV→Rr PV):Sp:=fun vs H Q E=>∃ B xs,Reps K H B xs vs∧xs.length=n ∧
  Dn (m xs) (fun x=>∀ v H',Same H H'→RetK K B H k x v H'→Q v H') (fun e=>∀ H',Same H H'→W e E H')
noncomputable def W0:PX→XK→Hp→Prop:=fun _ _ _=>False
noncomputable def X0:PX→Hp→Prop:=fun _ _=>False
section
variable {n:Nat} {W:PX→XK→Hp→Prop} {m:List PV→Rr PV} {E:XK}
theorem de_callP {t:TE} (ht:∀ σ H Q,(ta σ H fun vs H1=>spF K n .P W m vs H1 Q E)→t σ H Q) (hW:∀ e H',EX e H'→W e E H') (hn:Len fa n) (ha:DAA K EX Γ Γ' ta fa):DE K EX Γ Γ' .P t (fun ρ=>(fa ρ).bind m):=fun B H0 H σ ρ F R Q A d=>by
  refine ht _ _ _ (ha B H0 H σ ρ F R _ A (d.bind.imp (fun xs hx d vs H1 F1 s1 f1 p1 A1=>?_) fun e q=>q))
  exact ⟨fun _=>True,xs,p1,hn ρ xs hx,d.imp (fun x _ d v H2 s2 r=>d v H2 (s1.trans s2) ⟨F1,f1,r.1,r.2,A1.grow s2⟩) fun e q H2 s2=>hW e H2 (q H2 (A1.same.trans s2))⟩
theorem de_callF {t:TE} (ht:∀ σ H Q,(ta σ H fun vs H1=>spF K n .F W m vs H1 Q E)→t σ H Q) (hW:∀ e H',EX e H'→W e E H') (hn:Len fa n) (ha:DAA K EX Γ Γ' ta fa):DE K EX Γ Γ' .F t (fun ρ=>(fa ρ).bind m):=fun B H0 H σ ρ F R Q A d=>by
  refine ht _ _ _ (ha B H0 H σ ρ F R _ A (d.bind.imp (fun xs hx d vs H1 F1 s1 f1 p1 A1=>?_) fun e q=>q))
  refine ⟨fun _=>True,xs,p1,hn ρ xs hx,d.imp (fun x _ d v H2 s2 r=>?_) fun e q H2 s2=>hW e H2 (q H2 (A1.same.trans s2))⟩
  obtain ⟨G,r1,r2⟩:=r
  exact d v H2 (s1.trans s2) ⟨F1,f1,G,r1,fun a ha=>⟨(A1.fresh (r2 a ha)).1,.inl (s1.free (r2 a ha))⟩,A1.more s2 r2 r1.alive⟩
end
end
end L2
namespace L2
open PySem PySem.Spec PyProof.Rows
noncomputable def mapR {α β:Type} (f:α→Rr β):List α→Rr (List β)
  | []=>.ok []
  | x :: xs=>(f x).bind fun y=>(mapR f xs).bind fun ys=>.ok (y :: ys)
noncomputable def lenM (xs:List PV):Rr Unit:=if xs.length≤1000000 then .ok () else .bad
theorem Dn.lenM {xs:List PV} {ok:Unit→Prop} {ex:PX→Prop} (d:Dn (lenM xs) ok ex):xs.length≤1000000∧ok ():=by
  unfold L2.lenM at d
  by_cases h:xs.length≤1000000
  · rw [if_pos h] at d; exact ⟨h,d⟩
  · rw [if_neg h] at d; exact d.elim
theorem Rr.assoc {α β γ:Type} {r:Rr α} {f:α→Rr β} {g:β→Rr γ}:(r.bind f).bind g=r.bind fun a=>(f a).bind g:=by cases r <;> rfl
section
variable {K:PySem.W.Frag} {B:Addr→Prop} {EX:PX→Hp→Prop} {H0 H H':Hp} {σ:St} {Γ Γ' Γ1 Γ2 Γ3:List Md} {ρ:List PV} {F F':Nat→List Addr} {R:List Addr} {k:Kd} {x:PV} {v:V} {te tb tc:TE} {ta:TA} {f fb fc fe:List PV→Rr PV} {fa:List PV→Rr (List PV)}
theorem Ag.outF (A:Ag K B H0 H σ Γ ρ F R) {i:Nat} (h:Γ.length≤i):F i=[]:=by
  have:=A.slot i
  rw [List.getD_eq_getElem?_getD,List.getElem?_eq_none h] at this
  exact this
theorem Ag.push (A:Ag K B H0 H σ Γ ρ F R) (h:Rep K H (NO B F R) x v):Ag K B H0 H (σ ++ [some v]) (Γ ++ [.S]) (ρ ++ [x]) F R:=by
  refine ⟨A.same,A.own,A.young,A.youngR,A.live,A.liveR,A.disj,A.disjR,by simp [A.lenS],by simp [A.lenR],fun i=>?_⟩
  by_cases h1:i < Γ.length
  · have:=A.slot i
    rw [List.getD_eq_getElem?_getD,List.getD_eq_getElem?_getD,List.getElem?_append_left h1,List.getElem?_append_left (by rw [A.lenR]; exact h1),List.getElem?_append_left (by rw [A.lenS]; exact h1),← List.getD_eq_getElem?_getD,← List.getD_eq_getElem?_getD]
    exact this
  · by_cases h2:i=Γ.length
    · subst h2
      rw [List.getD_eq_getElem?_getD,List.getD_eq_getElem?_getD,List.getElem?_append_right (Nat.le_refl _),List.getElem?_append_right (by rw [A.lenR]; exact Nat.le_refl _),List.getElem?_append_right (by rw [A.lenS]; exact Nat.le_refl _),A.lenR,A.lenS]
      simp only [Nat.sub_self,List.getElem?_cons_zero,Option.getD_some]
      exact ⟨A.outF (Nat.le_refl _),v,rfl,h⟩
    · rw [List.getD_eq_getElem?_getD,List.getElem?_eq_none (by simp; omega)]
      exact A.outF (by omega)
theorem Ag.pop {o:Option V} (A:Ag K B H0 H (σ ++ [o]) (Γ ++ [.S]) (ρ ++ [x]) F R):Ag K B H0 H σ Γ ρ F R:=by
  have l1:σ.length=Γ.length:=by have:=A.lenS; simpa using this
  have l2:ρ.length=Γ.length:=by have:=A.lenR; simpa using this
  refine ⟨A.same,A.own,A.young,A.youngR,A.live,A.liveR,A.disj,A.disjR,l1,l2,fun i=>?_⟩
  have:=A.slot i
  by_cases h1:i < Γ.length
  · rw [List.getD_eq_getElem?_getD,List.getD_eq_getElem?_getD,List.getElem?_append_left h1,List.getElem?_append_left (by rw [l2]; exact h1),List.getElem?_append_left (by rw [l1]; exact h1),← List.getD_eq_getElem?_getD,← List.getD_eq_getElem?_getD] at this
    exact this
  · rw [List.getD_eq_getElem?_getD,List.getElem?_eq_none (by omega)]
    by_cases h2:i=Γ.length
    · subst h2
      rw [List.getD_eq_getElem?_getD,List.getElem?_append_right (Nat.le_refl _)] at this
      simp only [Nat.sub_self,List.getElem?_cons_zero,Option.getD_some] at this
      exact this.1
    · exact A.outF (by simp; omega)
theorem de_compF {wi:TI} {fi:List PV→Rr (List PV)} (hi:DIc K EX Γ Γ1 wi fi) (he:DE K EX (Γ1 ++ [.S]) (Γ1 ++ [.S]) .F te fe) :
    DE K EX Γ Γ1 .F (tComp wi te) (fun ρ=>(fi ρ).bind fun xs=>(lenM xs).bind fun _=>(mapR (fun x=>fe (ρ ++ [x])) xs).bind fun ys=>.ok (.lst ys)):=fun B H0 H σ ρ F R Q A d=>by
  refine hi B H0 H σ ρ F R _ A (d.bind.imp (fun xs _ d J H1 F1 s1 f1 A1 it=>?_) fun e q=>q)
  obtain ⟨hlen,d⟩:=Dn.lenM d.bind
  refine ⟨fun i m ys H2=>∃ zs G F2,m=xs.length - i∧i≤xs.length∧ys.length=i∧Same H1 H2∧Trees K H2 zs ys G∧(∀ a∈G,a ∉ R∧(H1 a=none ∨ ∃ j,a∈F1 j))∧(∀ i,∀ a∈F2 i,a∈F1 i)∧Ag K B H0 H2 σ Γ1 ρ F2 (G ++ R) ∧
    Dn ((mapR (fun x=>fe (ρ ++ [x])) (xs.drop i)).bind fun ys'=>.ok (.lst (zs ++ ys'))) (fun x=>∀ v H',Same H H'→Res K B H0 H σ Γ1 ρ F R .F x v H'→Q v H') (fun e=>∀ H',Same H0 H'→EX e H'),
    ⟨xs.length,[],[],F1,by simp,Nat.zero_le _,rfl,Same.refl _,⟨rfl,rfl⟩,by simp,fun _ _ h=>h,A1,by simpa using d⟩, ?_⟩
  rintro i m ys H2 ⟨zs,G,F2,rfl,hi',hl,s2,tr,o2,f2,A2,dn⟩
  refine ⟨line_mil (by omega), ?_⟩
  have itp:=it H2 F2 s2 f2 i
  cases hx:xs[i]? with
  | none =>
    refine .inl ⟨itp.2 hx,fun p hp=>?_⟩
    have hd:xs.drop i=[]:=List.drop_eq_nil_of_le (List.getElem?_eq_none_iff.mp hx)
    rw [hd] at dn
    have dn':∀ v H',Same H H'→Res K B H0 H σ Γ1 ρ F R .F (.lst (zs ++ [])) v H'→Q v H':=dn
    rw [List.append_nil] at dn'
    exact dn' _ _ ((s1.trans s2).trans (Same.new hp)) (Res.newF (s1.trans s2) (fun i a h=>f1 i a (f2 i a h)) tr (fun a ha=>⟨(o2 a ha).1,(o2 a ha).2.elim (fun z=>.inl (s1.free z)) fun ⟨j,z⟩=>.inr ⟨j,f1 j a z⟩⟩) A2 hp)
  | some x =>
    have hlt:i < xs.length:=(List.getElem?_eq_some_iff.mp hx).1
    obtain ⟨go,yl⟩:=itp.1 x hx
    have hdx:xs.drop i=x :: xs.drop (i + 1):=by
      rw [List.drop_eq_getElem_cons hlt]
      rw [List.getElem?_eq_getElem hlt] at hx; cases hx; rfl
    rw [hdx] at dn
    simp only [mapR,Rr.assoc] at dn
    refine .inr ⟨go,fun ys' H'=>∃ zs G F2,ys'.length=i + 1∧Same H1 H'∧Trees K H' zs ys' G∧(∀ a∈G,a ∉ R∧(H1 a=none ∨ ∃ j,a∈F1 j))∧(∀ i,∀ a∈F2 i,a∈F1 i)∧Ag K B H0 H' σ Γ1 ρ F2 (G ++ R) ∧
      Dn ((mapR (fun x=>fe (ρ ++ [x])) (xs.drop (i + 1))).bind fun ys'=>.ok (.lst (zs ++ ys'))) (fun x=>∀ v H',Same H H'→Res K B H0 H σ Γ1 ρ F R .F x v H'→Q v H') (fun e=>∀ H',Same H0 H'→EX e H'),
      fun ys' H' ⟨zs,G,F2,a1,a2,a3,a4,a5,a6,a7⟩=>⟨xs.length - (i + 1),by omega,zs,G,F2,rfl,hlt,a1,a2,a3,a4,a5,a6,a7⟩,fun v H3 y=>?_⟩
    obtain ⟨s3,rx⟩:=yl v H3 y
    have A3:=(A2.grow s3).push (x:=x) (v:=v) (Rep.mono (fun a us s r=>⟨r,s.1.1,fun z=>by
      rcases List.mem_append.mp z with z | z
      · rcases (o2 a z).2 with q | ⟨j,q⟩
        · exact s.2.1 q
        · exact s.2.2 j q
      · exact s.1.2.1 z,s.1.2.2⟩) (fun a us r=>r) rx)
    refine he B H0 H3 _ _ F2 (G ++ R) _ A3 (dn.bind.imp (fun z _ dn w H4 s4 r4=>?_) fun e q=>q)
    obtain ⟨F4,f4,G4,t4,o4,A4⟩:=r4
    refine ⟨zs ++ [z],G ++ G4,F4,by simp [hl],(s2.trans s3).trans s4,Trees.append ((tr.same s3).same s4) (Trees.one t4) (fun a ha z=>(o4 a z).1 (List.mem_append_left _ ha)),fun a ha=>?_,fun i a h=>f2 i a (f4 i a h),A4.pop.less fun a ha=>?_, ?_⟩
    · rcases List.mem_append.mp ha with z | z
      · exact o2 a z
      · refine ⟨fun q=>(o4 a z).1 (List.mem_append_right _ q), ?_⟩
        rcases (o4 a z).2 with q | ⟨j,q⟩
        · exact .inl ((s2.trans s3).free q)
        · exact .inr ⟨j,f2 j a q⟩
    · simp only [List.mem_append] at ha ⊢
      rcases ha with (z | z) | z
      · exact .inr (.inl z)
      · exact .inl z
      · exact .inr (.inr z)
    · simp only [Rr.assoc,Rr.bind_ok,List.append_assoc,List.singleton_append] at dn ⊢
      exact dn
end
end L2
namespace L2
open PySem PySem.Spec PyProof.Rows
inductive RS where
  | next (ρ:List PV) | ret (x:PV) | brk (ρ:List PV) | cont (ρ:List PV) | exc (e:PX) | bad
noncomputable def Rr.thenS {α:Type}:Rr α→(α→RS)→RS
  | .ok a,f=>f a
  | .exc e,_=>.exc e
  | .bad,_=>.bad
noncomputable def RS.seq:RS→(List PV→RS)→RS
  | .next ρ,f=>f ρ
  | r,_=>r
@[simp] theorem Rr.thenS_ok {α:Type} {a:α} {f:α→RS}:(Rr.ok a).thenS f=f a:=rfl
@[simp] theorem Rr.thenS_exc {α:Type} {e:PX} {f:α→RS}:(Rr.exc e:Rr α).thenS f=.exc e:=rfl
@[simp] theorem RS.seq_next {ρ:List PV} {f:List PV→RS}:(RS.next ρ).seq f=f ρ:=rfl
@[simp] theorem RS.seq_ret {x:PV} {f:List PV→RS}:(RS.ret x).seq f=.ret x:=rfl
@[simp] theorem RS.seq_exc {e:PX} {f:List PV→RS}:(RS.exc e).seq f=.exc e:=rfl
structure Tys where
  n:List Md
  b:List Md
  c:List Md
  r:Kd
noncomputable def DnS (K:PySem.W.Frag) (B:Addr→Prop) (EX:PX→Hp→Prop) (Y:Tys) (H0 H:Hp) (F:Nat→List Addr) (D:Ends) (r:RS):Prop:=match r with
  | .next ρ=>∀ σ' H' F',Frm H F H' F'→Ag K B H0 H' σ' Y.n ρ F' []→D.nx σ' H'
  | .brk ρ=>∀ σ' H' F',Frm H F H' F'→Ag K B H0 H' σ' Y.b ρ F' []→D.bk σ' H'
  | .cont ρ=>∀ σ' H' F',Frm H F H' F'→Ag K B H0 H' σ' Y.c ρ F' []→D.ct σ' H'
  | .ret x=>∀ v H',Same H0 H'→RetK K B H0 Y.r x v H'→D.rt v H'
  | .exc e=>∀ H',Same H0 H'→EX e H'
  | .bad=>False
noncomputable def DS (K:PySem.W.Frag) (EX:PX→Hp→Prop) (Γ:List Md) (Y:Tys) (t:TS) (g:List PV→RS):Prop :=
  ∀ (B:Addr→Prop) (H0 H:Hp) (σ:St) (ρ:List PV) (F:Nat→List Addr) (D:Ends),Ag K B H0 H σ Γ ρ F []→DnS K B EX Y H0 H F D (g ρ)→t D σ H
section
variable {K:PySem.W.Frag} {B:Addr→Prop} {EX:PX→Hp→Prop} {H0 H H':Hp} {σ:St} {Γ Γ' Γ1 Γ2 Γ3:List Md} {ρ:List PV} {F F':Nat→List Addr} {R:List Addr} {k:Kd} {x:PV} {v:V} {te tb tc:TE} {ta:TA} {f fb fc fe:List PV→Rr PV} {fa:List PV→Rr (List PV)}
  {t u:TS} {g g':List PV→RS} {Y:Tys} {D:Ends}
theorem DnS.shift {H1:Hp} {F1:Nat→List Addr} {r:RS} (fr:Frm H F H1 F1) (h:DnS K B EX Y H0 H F D r):DnS K B EX Y H0 H1 F1 D r:=by
  cases r with
  | next ρ=>exact fun σ' H' F' fr' A=>h σ' H' F' (fr.trans fr') A
  | brk ρ=>exact fun σ' H' F' fr' A=>h σ' H' F' (fr.trans fr') A
  | cont ρ=>exact fun σ' H' F' fr' A=>h σ' H' F' (fr.trans fr') A
  | ret x=>exact h
  | exc e=>exact h
  | bad=>exact h
theorem DnS.thenS {α:Type} {r:Rr α} {f:α→RS} (h:DnS K B EX Y H0 H F D (r.thenS f)):Dn r (fun a=>DnS K B EX Y H0 H F D (f a)) (fun e=>∀ H',Same H0 H'→EX e H'):=by
  cases r with
  | ok a=>exact h
  | exc e=>exact h
  | bad=>exact h
theorem ds_next:DS K EX Γ ⟨Γ,Γ1,Γ2,k⟩ tNext (fun ρ=>.next ρ):=fun B H0 H σ ρ F D A d=>d σ H F Frm.refl A
theorem ds_seq {Γm:List Md} (h1:DS K EX Γ ⟨Γm,Y.b,Y.c,Y.r⟩ t g) (h2:DS K EX Γm Y u g'):DS K EX Γ Y (tSeq t u) (fun ρ=>(g ρ).seq g'):=fun B H0 H σ ρ F D A d=>by
  refine h1 B H0 H σ ρ F _ A ?_
  dsimp only at d
  cases e:g ρ with
  | next ρ1 =>
    rw [e] at d
    exact fun σ' H' F' fr A'=>h2 B H0 H' σ' ρ1 F' D A' (DnS.shift fr d)
  | brk ρ1=>rw [e] at d; exact d
  | cont ρ1=>rw [e] at d; exact d
  | ret x=>rw [e] at d; exact d
  | exc q=>rw [e] at d; exact d
  | bad=>rw [e] at d; exact d
noncomputable def mle (m m':Md):Bool:=m == m' || m' == .U || (m' == .S && m != .U) || (m' == .O && m == .P)
noncomputable def mles:List Md→List Md→Bool
  | [],[]=>true
  | m :: ms,m' :: ms'=>mle m m' && mles ms ms'
  | _,_=>false
theorem mles_get:∀ {Γ Γ':List Md},mles Γ Γ'=true→Γ.length=Γ'.length∧∀ i,mle (Γ.getD i .U) (Γ'.getD i .U)=true
  | [],[],_=>⟨rfl,fun i=>by simp [mle]⟩
  | m :: ms,m' :: ms',h=>by
    simp only [mles,Bool.and_eq_true] at h
    obtain ⟨h1,h2⟩:=mles_get h.2
    refine ⟨by simp [h1],fun i=>?_⟩
    cases i with
    | zero=>simpa using h.1
    | succ i=>simpa using h2 i
  | [],_ :: _,h=>by cases h
  | _ :: _,[],h=>by cases h
theorem Ag.weak (A:Ag K B H0 H σ Γ ρ F R) (h:mles Γ Γ'=true):∃ F',(∀ i,∀ a∈F' i,a∈F i)∧Ag K B H0 H σ Γ' ρ F' R:=by
  obtain ⟨hl,hm⟩:=mles_get h
  let F':Nat→List Addr:=fun i=>if Γ.getD i .U=Γ'.getD i .U then F i else []
  have hF:∀ i,∀ a∈F' i,a∈F i:=fun i a ha=>by
    by_cases q:Γ.getD i .U=Γ'.getD i .U
    · simp only [F',if_pos q] at ha; exact ha
    · simp only [F',if_neg q] at ha; simp at ha
  have up:∀ {a},NO B F R a→NO B F' R a:=fun {a} s=>⟨s.1,s.2.1,fun j z=>s.2.2 j (hF j a z)⟩
  refine ⟨F',hF,A.same,A.own,fun i a ha=>A.young i a (hF i a ha),A.youngR,fun i a ha=>A.live i a (hF i a ha),A.liveR,fun i j hij a ha z=>A.disj i j hij a (hF i a ha) (hF j a z),fun i a ha=>A.disjR i a (hF i a ha),by rw [A.lenS,hl],by rw [A.lenR,hl],fun i=>?_⟩
  have sl:=A.slot i
  have hmi:=hm i
  by_cases q:Γ.getD i .U=Γ'.getD i .U
  · simp only [F',if_pos q]
    rw [← q]
    exact sl.mono (fun a vs s r=>⟨r,up s⟩) (fun a vs r=>r) fun a ha vs r=>r
  · simp only [F',if_neg q]
    simp only [mle,Bool.or_eq_true,beq_iff_eq,Bool.and_eq_true,bne_iff_ne] at hmi
    rcases hmi with ((z | z) | z) | z
    · exact absurd z q
    · rw [z]; exact rfl
    rotate_left
    · rw [z.1]
      rw [z.2] at sl
      obtain ⟨e,v,h1,h2,h3⟩:=sl
      exact ⟨v,h1,h3.tree h2⟩
    · rw [z.1]
      have own:∀ a∈F i,NO B F' R a:=fun a ha=>⟨A.own a (A.young i a ha),A.disjR i a ha,fun j w=>by
        by_cases hj:j=i
        · subst hj; simp only [F',if_neg q] at w; simp at w
        · exact A.disj j i hj a (hF j a w) ha⟩
      cases hmm:Γ.getD i .U with
      | U=>exact absurd hmm z.2
      | P=>rw [hmm] at sl; obtain ⟨e,v,h1,h2,h3⟩:=sl; exact ⟨rfl,v,h1,h3.flatS h2⟩
      | S=>rw [hmm] at sl; obtain ⟨e,v,h1,h2⟩:=sl; exact ⟨rfl,v,h1,Rep.mono (fun a vs s r=>⟨r,up s⟩) (fun a vs r=>r) h2⟩
      | T =>
        rw [hmm] at sl
        obtain ⟨a,vs,xs,h1,h2,h3,h4,h5⟩:=sl
        refine ⟨rfl,_,h1, ?_⟩
        rw [h2]
        exact ⟨a,vs,rfl,.inl ⟨.inl h3,own a (by rw [h5]; simp)⟩,Reps.mono (fun a vs s r=>⟨r,up s⟩) (fun a vs r=>r) h4⟩
      | O=>rw [hmm] at sl; obtain ⟨v,h1,h2⟩:=sl; exact ⟨rfl,v,h1,h2.rep own⟩
theorem DS.out {Y':Tys} (h:DS K EX Γ Y t g) (hn:mles Y.n Y'.n=true) (hb:mles Y.b Y'.b=true) (hc:mles Y.c Y'.c=true) (hr:Y.r=Y'.r):DS K EX Γ Y' t g:=fun B H0 H σ ρ F D A d=>by
  refine h B H0 H σ ρ F D A ?_
  cases e:g ρ with
  | next ρ1=>rw [e] at d; exact fun σ' H' F' fr A'=>let ⟨F2,f2,A2⟩:=A'.weak hn; d σ' H' F2 (fr.trans (Frm.of (Same.refl _) f2)) A2
  | brk ρ1=>rw [e] at d; exact fun σ' H' F' fr A'=>let ⟨F2,f2,A2⟩:=A'.weak hb; d σ' H' F2 (fr.trans (Frm.of (Same.refl _) f2)) A2
  | cont ρ1=>rw [e] at d; exact fun σ' H' F' fr A'=>let ⟨F2,f2,A2⟩:=A'.weak hc; d σ' H' F2 (fr.trans (Frm.of (Same.refl _) f2)) A2
  | ret x=>rw [e] at d; exact fun v H' s r=>d v H' s (hr ▸ r)
  | exc q=>rw [e] at d; exact d
  | bad=>rw [e] at d; exact d
theorem frm_put {H1:Hp} {F1:Nat→List Addr} {i:Nat} {G:List Addr} (s1:Same H H1) (f1:∀ i,∀ a∈F1 i,a∈F i) (o:∀ a∈G,H a=none ∨ ∃ i,a∈F i):Frm H F H1 (own1 F1 i G):=fun a u h n=>by
  refine ⟨s1 a u h,fun j z=>?_⟩
  by_cases q:j=i
  · subst q
    rw [own1_same] at z
    rcases o a z with w | ⟨l,w⟩
    · rw [h] at w; cases w
    · exact n l w
  · rw [own1_ne q] at z; exact n j (f1 j a z)
theorem ds_setP {i:Nat} (he:DE K EX Γ Γ' .P te f) (hi:i < Γ'.length):DS K EX Γ ⟨Γ'.set i .P,Γ1,Γ2,k⟩ (tAsg te (gName i)) (fun ρ=>(f ρ).thenS fun x=>.next (ρ.set i x)):=fun B H0 H σ ρ F D A d=>by
  refine he B H0 H σ ρ F [] _ A (d.thenS.imp (fun x _ d v H1 s1 r1=>?_) fun e q=>q)
  obtain ⟨F1,f1,h1,h2,A1⟩:=r1
  exact d _ H1 _ (frm_put (G:=[]) s1 f1 (by simp)) (Ag.put (G:=[]) (R:=[]) A1 hi (by simp) ⟨rfl,v,rfl,h1,h2⟩)
theorem ds_setF {i:Nat} (he:DE K EX Γ Γ' .F te f) (hi:i < Γ'.length):DS K EX Γ ⟨Γ'.set i .O,Γ1,Γ2,k⟩ (tAsg te (gName i)) (fun ρ=>(f ρ).thenS fun x=>.next (ρ.set i x)):=fun B H0 H σ ρ F D A d=>by
  refine he B H0 H σ ρ F [] _ A (d.thenS.imp (fun x _ d v H1 s1 r1=>?_) fun e q=>q)
  obtain ⟨F1,f1,G,h1,h2,A1⟩:=r1
  exact d _ H1 _ (frm_put s1 f1 fun a ha=>(h2 a ha).2) (Ag.put (R:=[]) A1 hi (by simp) ⟨v,rfl,h1⟩)
theorem ds_expr (he:DE K EX Γ Γ' .A te f):DS K EX Γ ⟨Γ',Γ1,Γ2,k⟩ (tDrop te) (fun ρ=>(f ρ).thenS fun _=>.next ρ):=fun B H0 H σ ρ F D A d=>by
  refine he B H0 H σ ρ F [] _ A (d.thenS.imp (fun x _ d v H1 s1 r1=>?_) fun e q=>q)
  obtain ⟨F1,f1,h1,A1⟩:=r1
  exact d σ H1 F1 (Frm.of s1 f1) A1
theorem ds_retP (he:DE K EX Γ Γ' .P te f):DS K EX Γ ⟨Γ3,Γ1,Γ2,.P⟩ (tRet te) (fun ρ=>(f ρ).thenS fun x=>.ret x):=fun B H0 H σ ρ F D A d=>by
  refine he B H0 H σ ρ F [] _ A (d.thenS.imp (fun x _ d v H1 s1 r1=>?_) fun e q=>q)
  obtain ⟨F1,f1,h1,h2,A1⟩:=r1
  exact d v H1 A1.same ⟨h1,h2⟩
theorem ds_retF (he:DE K EX Γ Γ' .F te f):DS K EX Γ ⟨Γ3,Γ1,Γ2,.F⟩ (tRet te) (fun ρ=>(f ρ).thenS fun x=>.ret x):=fun B H0 H σ ρ F D A d=>by
  refine he B H0 H σ ρ F [] _ A (d.thenS.imp (fun x _ d v H1 s1 r1=>?_) fun e q=>q)
  obtain ⟨F1,f1,G,h1,h2,A1⟩:=r1
  exact d v H1 A1.same ⟨G,h1,fun a ha=>A1.youngR a (by simpa using ha)⟩
theorem ds_if {c:TT} {fc:List PV→Rr Bool} (hc:DT K EX Γ Γ' c fc) (h1:DS K EX Γ' Y t g) (h2:DS K EX Γ' Y u g'):DS K EX Γ Y (tIfS c t u) (fun ρ=>(fc ρ).thenS fun b=>if b=true then g ρ else g' ρ):=fun B H0 H σ ρ F D A d=>by
  refine hc B H0 H σ ρ F [] _ A (d.thenS.imp (fun b _ d H1 F1 s1 f1 A1=>?_) fun e q=>q)
  cases b with
  | true=>exact h1 B H0 H1 σ ρ F1 D A1 (DnS.shift (Frm.of s1 f1) d)
  | false=>exact h2 B H0 H1 σ ρ F1 D A1 (DnS.shift (Frm.of s1 f1) d)
theorem ds_augI {i:Nat} {h:Int→Int→Int} (hm:Γ[i]?=some .P) (he:DE K EX Γ Γ .A te f):DS K EX Γ ⟨Γ,Γ1,Γ2,k⟩ (tAug i te (ipI h)) (fun ρ=>(f ρ).thenS fun y=>(oI (fun _ _=>true) (fun i j=>.int (h i j)) (gv i ρ) y).thenS fun z=>.next (ρ.set i z)):=fun B H0 H σ ρ F D A d=>by
  obtain ⟨v,h1,h2,h3⟩:=A.getP hm
  refine ⟨v,h1,he B H0 H σ ρ F [] _ A (d.thenS.imp (fun y _ d w H1 s1 r1=>?_) fun e q=>q)⟩
  obtain ⟨F1,f1,p1,A1⟩:=r1
  have h3':=h3.same s1
  change Rep K H1 _ (gv i ρ) v at h3'
  generalize gv i ρ=gx at h3' d
  cases gx <;> cases y <;> first | (exact d.elim; done) | skip
  rename_i p q _
  cases h3'; cases p1
  refine ⟨p,q,rfl,rfl,d _ H1 _ (frm_put (i:=i) (G:=[]) s1 f1 (by simp)) ?_⟩
  have:=Ag.put (i:=i) (m:=.P) (x:=.int (h p q)) (v:=.int (h p q)) (G:=[]) (R:=[]) A1 (A.lt hm) (by simp) ⟨rfl,_,rfl,rfl,rfl⟩
  have e:Γ.set i .P=Γ:=by
    apply List.ext_getElem?
    intro j
    by_cases q:i=j
    · subst q; rw [List.getElem?_set_self (A.lt hm),hm]
    · rw [List.getElem?_set_ne q]
  rw [e] at this
  exact this
end
end L2
namespace L2
open PySem PySem.Spec PyProof.Rows
section
variable {K:PySem.W.Frag} {B:Addr→Prop} {EX:PX→Hp→Prop} {H0 H H':Hp} {σ:St} {Γ Γ' Γ1 Γ2 Γ3 Γl Γt:List Md} {ρ:List PV} {F F':Nat→List Addr} {R:List Addr} {k:Kd} {x:PV} {v:V} {te ti tb tc:TE} {ta:TA} {f fi fb fc fe:List PV→Rr PV} {fa:List PV→Rr (List PV)}
  {t u:TS} {g g':List PV→RS} {Y:Tys} {D:Ends}
theorem Ag.chgB {i:Nat} {m:Md} {a:Addr} {o':HO} (ho:Lvo o') {x':PV} {G G':List Addr} (A:Ag K B H0 H σ Γ ρ F (G ++ R)) (hm:Γ[i]?=some m) (ha:a∈F i) (hG:∀ b∈G',b∈F i ∨ b∈G) (hGR:∀ b∈G,b ∉ R)
    (hs:SlotOk K (upd H a o') (NO B (own1 F i G') R) m x' σ[i]? G'):Ag K B H0 (upd H a o') σ Γ (ρ.set i x') (own1 F i G') R:=by
  obtain ⟨us,hH⟩:=A.live i a ha
  have hi:=A.lt hm
  have liveU:∀ b,(∃ us:LvO,H b=some us.1)→∃ us:LvO,upd H a o' b=some us.1:=fun b ⟨us,q⟩=>by
    by_cases e:b=a
    · exact ⟨⟨o',ho⟩,by rw [e,upd_same]⟩
    · exact ⟨us,by rw [upd_ne e]; exact q⟩
  refine ⟨A.same.upd (A.young i a ha),A.own,fun j b hb=>?_,fun b hb=>A.youngR b (List.mem_append_right _ hb),fun j b hb=>liveU b ?_,fun b hb=>liveU b (A.liveR b (List.mem_append_right _ hb)),fun j l hjl b hb z=>?_,fun j b hb z=>?_,A.lenS,by simp [A.lenR],fun j=>?_⟩
  · by_cases q:j=i
    · subst q; rw [own1_same] at hb
      rcases hG b hb with z | z
      · exact A.young j b z
      · exact A.youngR b (List.mem_append_left _ z)
    · rw [own1_ne q] at hb; exact A.young j b hb
  · by_cases q:j=i
    · subst q; rw [own1_same] at hb
      rcases hG b hb with z | z
      · exact A.live j b z
      · exact A.liveR b (List.mem_append_left _ z)
    · rw [own1_ne q] at hb; exact A.live j b hb
  · by_cases q:j=i
    · subst q
      rw [own1_same] at hb
      rw [own1_ne (Ne.symm hjl)] at z
      rcases hG b hb with w | w
      · exact A.disj j l hjl b w z
      · exact A.disjR l b z (List.mem_append_left _ w)
    · rw [own1_ne q] at hb
      by_cases q':l=i
      · subst q'
        rw [own1_same] at z
        rcases hG b z with w | w
        · exact A.disj j l hjl b hb w
        · exact A.disjR j b hb (List.mem_append_left _ w)
      · rw [own1_ne q'] at z; exact A.disj j l hjl b hb z
  · by_cases q:j=i
    · subst q; rw [own1_same] at hb
      rcases hG b hb with w | w
      · exact A.disjR j b w (List.mem_append_right _ z)
      · exact hGR b w z
    · rw [own1_ne q] at hb; exact A.disjR j b hb (List.mem_append_right _ z)
  · by_cases q:j=i
    · subst q
      rw [own1_same,List.getD_eq_getElem?_getD,List.getD_eq_getElem?_getD,hm,List.getElem?_set_self (by rw [A.lenR]; exact hi)]
      exact hs
    · rw [own1_ne q,List.getD_eq_getElem?_getD (l:=ρ.set _ _),List.getElem?_set_ne (Ne.symm q),← List.getD_eq_getElem?_getD]
      refine (A.slot j).mono (fun b us s r=>?_) (fun b us r=>Im.putL hH r) fun b hb us r=>?_
      · have hne:b≠a:=fun z=>s.2.2 i (z ▸ ha)
        refine ⟨?_,s.1,fun z=>s.2.1 (List.mem_append_right _ z),fun l z=>?_⟩
        · rcases r with r | ⟨o,r⟩
          · exact .inl (by rw [upd_ne hne]; exact r)
          · exact .inr ⟨o,by rw [upd_ne hne]; exact r⟩
        · by_cases q':l=i
          · subst q'; rw [own1_same] at z
            rcases hG b z with w | w
            · exact s.2.2 l w
            · exact s.2.1 (List.mem_append_left _ w)
          · rw [own1_ne q'] at z; exact s.2.2 l z
      · have hne:b≠a:=fun z=>A.disj j i q b hb (z ▸ ha)
        rw [upd_ne hne]; exact r
theorem Ag.chg {i:Nat} {m:Md} {a:Addr} {vs':List V} {x':PV} {G G':List Addr} (A:Ag K B H0 H σ Γ ρ F (G ++ R)) (hm:Γ[i]?=some m) (ha:a∈F i) (hG:∀ b∈G',b∈F i ∨ b∈G) (hGR:∀ b∈G,b ∉ R)
    (hs:SlotOk K (upd H a (.lst vs')) (NO B (own1 F i G') R) m x' σ[i]? G'):Ag K B H0 (upd H a (.lst vs')) σ Γ (ρ.set i x') (own1 F i G') R:=Ag.chgB (o':=.lst vs') trivial A hm ha hG hGR hs
theorem frm_chg {H1:Hp} {F1:Nat→List Addr} {i:Nat} {a:Addr} {o:HO} {G':List Addr} (s1:Same H H1) (f1:∀ i,∀ b∈F1 i,b∈F i) (ha:a∈F1 i) (hG:∀ b∈G',H b=none ∨ ∃ j,b∈F j):Frm H F (upd H1 a o) (own1 F1 i G'):=fun b u h n=>by
  have hne:b≠a:=fun z=>n i (f1 i b (z ▸ ha))
  refine ⟨by rw [upd_ne hne]; exact s1 b u h,fun j z=>?_⟩
  by_cases q:j=i
  · subst q; rw [own1_same] at z
    rcases hG b z with w | ⟨l,w⟩
    · rw [h] at w; cases w
    · exact n l w
  · rw [own1_ne q] at z; exact n j (f1 j b z)
theorem Trees.setP:∀ {xs:List PV} {vs:List V} {G:List Addr} {j:Nat} {y:PV} {w:V},Trees K H xs vs G→Tree K H y w []→∃ G',(∀ a∈G',a∈G)∧Trees K H (xs.set j y) (vs.set j w) G'
  | [],_,_,_,_,_,h,_=>⟨[],by simp,by rw [h.1]; exact ⟨rfl,rfl⟩⟩
  | x :: xs,_,_,0,y,w,h,h'=>by
    obtain ⟨v,r,G1,G2,rfl,h1,h2,h3,rfl⟩:=h
    exact ⟨G2,fun a ha=>by simp [ha],w,r,[],G2,rfl,h',h2,by simp,rfl⟩
  | x :: xs,_,_,j + 1,y,w,h,h'=>by
    obtain ⟨v,r,G1,G2,rfl,h1,h2,h3,rfl⟩:=h
    obtain ⟨G',h4,h5⟩:=Trees.setP (j:=j) h2 h'
    refine ⟨G1 ++ G',fun a ha=>?_,v,r.set j w,G1,G',rfl,h1,h5,fun a ha z=>h3 a ha (h4 a z),rfl⟩
    rcases List.mem_append.mp ha with z | z
    · simp [z]
    · simp [h4 a z]
noncomputable def pSet (x i y:PV):Rr PV:=match x,i with
  | .lst xs,.int j=>match ixN xs.length j with
    | some n=>.ok (.lst (xs.set n y))
    | none=>.bad
  | _,_=>.bad
theorem Dn.pSet {x i y:PV} {ok:PV→Prop} {ex:PX→Prop} (d:Dn (pSet x i y) ok ex):∃ xs j n,x=.lst xs∧i=.int j∧ixN xs.length j=some n∧ok (.lst (xs.set n y)):=by
  unfold L2.pSet at d
  split at d
  · rename_i xs j
    cases e:ixN xs.length j with
    | none=>rw [e] at d; exact d.elim
    | some n=>rw [e] at d; exact ⟨xs,j,n,rfl,rfl,e,d⟩
  · exact d.elim
theorem ds_setItO {i:Nat} (hm:Γ2[i]?=some .O) (he:DE K EX Γ Γ2 .P te f) (hi:DE K EX Γ2 Γ2 .A ti fi) :
    DS K EX Γ ⟨Γ2,Γ1,Γ3,k⟩ (tAsg te (gSub (tVar i) ti rSetL)) (fun ρ=>(f ρ).thenS fun y=>(fi ρ).thenS fun j=>(pSet (gv i ρ) j y).thenS fun z=>.next (ρ.set i z)):=fun B H0 H σ ρ F D A d=>by
  refine he B H0 H σ ρ F [] _ A (d.thenS.imp (fun y _ d w H1 s1 r1=>?_) fun e q=>q)
  obtain ⟨F1,f1,y1,y2,A1⟩:=r1
  obtain ⟨v,h1,h2⟩:=A1.getO hm
  refine ⟨v,h1,hi B H0 H1 σ ρ F1 [] _ A1 (d.thenS.imp (fun j _ d jv H2 s2 r2=>?_) fun e q=>q)⟩
  obtain ⟨F2,f2,p2,A2⟩:=r2
  obtain ⟨xs,jj,n,e1,rfl,e2,d⟩:=Dn.pSet d.thenS
  obtain ⟨v',h1',h2'⟩:=A2.getO hm
  rw [h1] at h1'; cases h1'
  rw [show ρ.getD i .non=.lst xs from e1] at h2'
  obtain ⟨a,vs,G,rfl,hH,ht,hn,hF⟩:=h2'
  cases p2
  refine ⟨a,vs,jj,n,rfl,rfl,hH,by rw [ht.length]; exact e2, ?_⟩
  obtain ⟨G',g1,g2⟩:=Trees.setP (j:=n) ht ((y2.same s2).tree y1)
  have haF:a∈F2 i:=by rw [hF]; simp
  have hsub:∀ b∈a :: G',b∈F2 i:=fun b hb=>by
    rw [hF]
    rcases List.mem_cons.mp hb with rfl | hb
    · simp
    · simp [g1 b hb]
  refine d σ _ (own1 F2 i (a :: G')) (frm_chg (s1.trans s2) (fun j b hb=>f1 j b (f2 j b hb)) haF fun b hb=>.inr ⟨i,f1 i b (f2 i b (hsub b hb))⟩) (Ag.chg (G:=[]) A2 hm haF (fun b hb=>.inl (hsub b hb)) (by simp) ?_)
  exact ⟨_,h1,a,_,G',rfl,upd_same,g2.put hH (fun z=>hn (g1 a z)),fun z=>hn (g1 a z),rfl⟩
noncomputable def pApp (x y:PV):Rr PV:=match x with
  | .lst xs=>if xs.length < 1000000 then .ok (.lst (xs ++ [y])) else .bad
  | _=>.bad
theorem Dn.pApp {x y:PV} {ok:PV→Prop} {ex:PX→Prop} (d:Dn (pApp x y) ok ex):∃ xs,x=.lst xs∧xs.length < 1000000∧ok (.lst (xs ++ [y])):=by
  unfold L2.pApp at d
  split at d
  · rename_i xs
    by_cases h:xs.length < 1000000
    · rw [if_pos h] at d; exact ⟨xs,rfl,h,d⟩
    · rw [if_neg h] at d; exact d.elim
  · exact d.elim
theorem Dn.asL {x:PV} {ok:List PV→Prop} {ex:PX→Prop} (d:Dn (asL x) ok ex):∃ xs,x=.lst xs∧ok xs:=by
  cases x with
  | lst xs=>exact ⟨xs,rfl,d⟩
  | _=>exact d.elim
theorem ds_appO {i:Nat} (hm:Γ[i]?=some .O) (hm2:Γ2[i]?=some .O) (he:DE K EX Γ Γ2 .F te f) :
    DS K EX Γ ⟨Γ2,Γ1,Γ3,k⟩ (tDrop (tBM K "list" rAppend (tVar i) (tCons te tNil))) (fun ρ=>(asL (gv i ρ)).thenS fun xs=>(f ρ).thenS fun y=>(pApp (.lst xs) y).thenS fun z=>.next (ρ.set i z)):=fun B H0 H σ ρ F D A d=>by
  obtain ⟨v,h1,h2⟩:=A.getO hm
  refine ⟨v,h1, ?_⟩
  obtain ⟨xs,e1,d⟩:=Dn.asL d.thenS
  rw [show ρ.getD i .non=.lst xs from e1] at h2
  obtain ⟨a,vs,G,rfl,hH,ht,hn,hF⟩:=h2
  refine ⟨.inl ⟨rfl,_,SqL.of hH⟩,he B H0 H σ ρ F [] _ A (d.thenS.imp (fun y _ d w H2 s2 r2=>?_) fun e q=>q)⟩
  obtain ⟨F2,f2,G2,y1,y2,A2⟩:=r2
  obtain ⟨xs',e2,hlen,d⟩:=Dn.pApp d.thenS
  cases e2
  obtain ⟨v',h1',h2'⟩:=A2.getO hm2
  rw [h1] at h1'; cases h1'
  rw [show ρ.getD i .non=.lst xs from e1] at h2'
  obtain ⟨a',vs',G',e,hH',ht',hn',hF'⟩:=h2'
  cases e
  refine ⟨a,vs',w,rfl,rfl,hH',by rw [ht'.length]; exact Nat.lt_of_lt_of_le hlen (by decide), ?_⟩
  have haF:a∈F2 i:=by rw [hF']; simp
  have dj:∀ b∈G',b ∉ G2:=fun b hb z=>A2.disjR i b (by rw [hF']; simp [hb]) (List.mem_append_left _ z)
  have na:a ∉ G2:=fun z=>A2.disjR i a haF (List.mem_append_left _ z)
  have hsub:∀ b∈a :: (G' ++ G2),b∈F2 i ∨ b∈G2:=fun b hb=>by
    rw [hF']
    rcases List.mem_cons.mp hb with rfl | hb
    · simp
    · rcases List.mem_append.mp hb with z | z
      · simp [z]
      · exact .inr z
  have hna:a ∉ G' ++ G2:=fun z=>(List.mem_append.mp z).elim hn' na
  refine d σ _ (own1 F2 i (a :: (G' ++ G2))) (frm_chg s2 f2 haF fun b hb=>?_) (Ag.chg (G:=G2) (R:=[]) A2 hm2 haF hsub (by simp) ?_)
  · rcases hsub b hb with z | z
    · exact .inr ⟨i,f2 i b z⟩
    · exact (y2 b z).2
  · exact ⟨_,h1,a,_,G' ++ G2,rfl,upd_same,(Trees.append ht' (Trees.one y1) dj).put hH' hna,hna,rfl⟩
noncomputable def DG (K:PySem.W.Frag) (EX:PX→Hp→Prop) (Γ Γ':List Md) (g:TG) (h:PV→List PV→Rr (List PV)):Prop :=
  ∀ (B:Addr→Prop) (H0 H:Hp) (σ:St) (ρ:List PV) (F:Nat→List Addr) (v:V) (x:PV) (N:St→Hp→Prop),Ag K B H0 H σ Γ ρ F []→Rep K H (NO B F []) x v →
    Dn (h x ρ) (fun ρ'=>∀ σ' F',(∀ i,∀ a∈F' i,a∈F i)→Ag K B H0 H σ' Γ' ρ' F' []→N σ' H) (fun e=>∀ H',Same H0 H'→EX e H')→g v σ H N
noncomputable def DGs (K:PySem.W.Frag) (EX:PX→Hp→Prop) (Γ Γ':List Md) (g:TGs) (h:List PV→List PV→Rr (List PV)):Prop :=
  ∀ (B:Addr→Prop) (H0 H:Hp) (σ:St) (ρ:List PV) (F:Nat→List Addr) (vs:List V) (xs:List PV) (N:St→Hp→Prop),Ag K B H0 H σ Γ ρ F []→Reps K H (NO B F []) xs vs →
    Dn (h xs ρ) (fun ρ'=>∀ σ' F',(∀ i,∀ a∈F' i,a∈F i)→Ag K B H0 H σ' Γ' ρ' F' []→N σ' H) (fun e=>∀ H',Same H0 H'→EX e H')→g vs σ H N
theorem dg_P {i:Nat} (hi:i < Γ.length):DG K EX Γ (Γ.set i .P) (gName i) (fun x ρ=>(grd x).bind fun x=>.ok (ρ.set i x)):=fun B H0 H σ ρ F v x N A r d=>by
  unfold grd at d; dsimp only at d
  by_cases h:x.flat=true
  · rw [if_pos h] at d
    exact d _ (own1 F i []) own1_sub (Ag.put (G:=[]) (R:=[]) A hi (by simp) ⟨rfl,v,rfl,h,r.any⟩)
  · rw [if_neg h] at d; exact d.elim
noncomputable def nilR (xs ρ:List PV):Rr (List PV):=match xs with
  | []=>.ok ρ
  | _=>.bad
theorem dgs_nil:DGs K EX Γ Γ gNil nilR:=fun B H0 H σ ρ F vs xs N A r d=>by
  cases xs with
  | nil=>exact ⟨r,d σ F (fun _ _ h=>h) A⟩
  | cons x xs=>exact d.elim
noncomputable def hdR (h:PV→List PV→Rr (List PV)) (hs:List PV→List PV→Rr (List PV)) (xs:List PV) (ρ:List PV):Rr (List PV):=match xs with
  | x :: r=>(h x ρ).bind fun ρ'=>hs r ρ'
  | []=>.bad
theorem dgs_cons {g:TG} {gs:TGs} {h:PV→List PV→Rr (List PV)} {hs:List PV→List PV→Rr (List PV)} (h1:DG K EX Γ Γ1 g h) (h2:DGs K EX Γ1 Γ2 gs hs):DGs K EX Γ Γ2 (gCons g gs) (hdR h hs):=fun B H0 H σ ρ F vs xs N A r d=>by
  cases xs with
  | nil=>exact d.elim
  | cons x xs =>
    obtain ⟨v,r',rfl,r1,r2⟩:=r
    refine ⟨v,r',rfl,h1 B H0 H σ ρ F v x _ A r1 ((show Dn ((h x ρ).bind fun ρ'=>hs xs ρ') _ _ from d).bind.imp (fun ρ' _ d σ' F' f' A'=>?_) fun e q=>q)⟩
    refine h2 B H0 H σ' ρ' F' r' xs _ A' (Reps.mono (fun a us s r=>⟨r,s.1,s.2.1,fun j z=>s.2.2 j (f' j a z)⟩) (fun a us r=>r) r2) (d.imp (fun ρ2 _ d σ2 F2 f2 A2=>d σ2 F2 (fun j a ha=>f' j a (f2 j a ha)) A2) fun e q=>q)
noncomputable def asT (n:Nat) (x:PV):Rr (List PV):=match x with
  | .tup xs=>if xs.length=n then .ok xs else .bad
  | _=>.bad
theorem Dn.asT {n:Nat} {x:PV} {ok:List PV→Prop} {ex:PX→Prop} (d:Dn (asT n x) ok ex):∃ xs,x=.tup xs∧xs.length=n∧ok xs:=by
  cases x with
  | tup xs =>
    unfold L2.asT at d
    by_cases h:xs.length=n
    · simp only [if_pos h] at d; exact ⟨xs,rfl,h,d⟩
    · simp only [if_neg h] at d; exact d.elim
  | _=>exact d.elim
theorem dg_tup {n:Nat} {gs:TGs} {hs:List PV→List PV→Rr (List PV)} (h2:DGs K EX Γ Γ2 gs hs):DG K EX Γ Γ2 (gTup K n gs) (fun x ρ=>(asT n x).bind fun xs=>hs xs ρ):=fun B H0 H σ ρ F v x N A r d=>by
  obtain ⟨xs,rfl,hl,d⟩:=Dn.asT d.bind
  obtain ⟨a,vs,rfl,hn,hr⟩:=r
  exact ⟨a,vs,rfl,hn.sqT,by rw [hr.length]; exact hl,h2 B H0 H σ ρ F vs xs N A hr d⟩
noncomputable def DGF (K:PySem.W.Frag) (EX:PX→Hp→Prop) (Γ Γ':List Md) (g:TG) (h:PV→List PV→Rr (List PV)):Prop :=
  ∀ (B:Addr→Prop) (H0 H:Hp) (σ:St) (ρ:List PV) (F:Nat→List Addr) (G R:List Addr) (v:V) (x:PV) (N:St→Hp→Prop),Ag K B H0 H σ Γ ρ F (G ++ R)→(∀ a∈G,a ∉ R)→Tree K H x v G →
    Dn (h x ρ) (fun ρ'=>∀ σ' F',(∀ i,∀ a∈F' i,a∈F i ∨ a∈G)→Ag K B H0 H σ' Γ' ρ' F' R→N σ' H) (fun e=>∀ H',Same H0 H'→EX e H')→g v σ H N
noncomputable def DGsF (K:PySem.W.Frag) (EX:PX→Hp→Prop) (Γ Γ':List Md) (g:TGs) (h:List PV→List PV→Rr (List PV)):Prop :=
  ∀ (B:Addr→Prop) (H0 H:Hp) (σ:St) (ρ:List PV) (F:Nat→List Addr) (G R:List Addr) (vs:List V) (xs:List PV) (N:St→Hp→Prop),Ag K B H0 H σ Γ ρ F (G ++ R)→(∀ a∈G,a ∉ R)→Trees K H xs vs G →
    Dn (h xs ρ) (fun ρ'=>∀ σ' F',(∀ i,∀ a∈F' i,a∈F i ∨ a∈G)→Ag K B H0 H σ' Γ' ρ' F' R→N σ' H) (fun e=>∀ H',Same H0 H'→EX e H')→g vs σ H N
theorem dgf_O {i:Nat} (hi:i < Γ.length):DGF K EX Γ (Γ.set i .O) (gName i) (fun x ρ=>.ok (ρ.set i x)):=fun B H0 H σ ρ F G R v x N A hG r d =>
  d _ (own1 F i G) (fun j a ha=>by
    by_cases q:j=i
    · subst q; rw [own1_same] at ha; exact .inr ha
    · rw [own1_ne q] at ha; exact .inl ha) (Ag.put A hi hG ⟨v,rfl,r⟩)
theorem dgf_P {i:Nat} (hi:i < Γ.length):DGF K EX Γ (Γ.set i .P) (gName i) (fun x ρ=>(grd x).bind fun x=>.ok (ρ.set i x)):=fun B H0 H σ ρ F G R v x N A hG r d=>by
  unfold grd at d; dsimp only at d
  by_cases h:x.flat=true
  · rw [if_pos h] at d
    exact d _ (own1 F i []) (fun j a ha=>.inl (own1_sub j a ha)) (Ag.put (G:=[]) (A.less fun a ha=>List.mem_append_right _ ha) hi (by simp) ⟨rfl,v,rfl,h,r.rep fun _ _=>trivial⟩)
  · rw [if_neg h] at d; exact d.elim
theorem dgsf_nil:DGsF K EX Γ Γ gNil nilR:=fun B H0 H σ ρ F G R vs xs N A hG r d=>by
  cases xs with
  | nil=>exact ⟨r.1,d σ F (fun _ _ h=>.inl h) (A.less fun a ha=>List.mem_append_right _ ha)⟩
  | cons x xs=>exact d.elim
theorem dgsf_cons {g:TG} {gs:TGs} {h:PV→List PV→Rr (List PV)} {hs:List PV→List PV→Rr (List PV)} (h1:DGF K EX Γ Γ1 g h) (h2:DGsF K EX Γ1 Γ2 gs hs):DGsF K EX Γ Γ2 (gCons g gs) (hdR h hs):=fun B H0 H σ ρ F G R vs xs N A hG r d=>by
  cases xs with
  | nil=>exact d.elim
  | cons x xs =>
    obtain ⟨v,r',G1,G2,rfl,r1,r2,dj,rfl⟩:=r
    refine ⟨v,r',rfl,h1 B H0 H σ ρ F G1 (G2 ++ R) v x _ (by rw [← List.append_assoc]; exact A) (fun a ha z=>?_) r1 ((show Dn ((h x ρ).bind fun ρ'=>hs xs ρ') _ _ from d).bind.imp (fun ρ' _ d σ' F' f' A'=>?_) fun e q=>q)⟩
    · rcases List.mem_append.mp z with z | z
      · exact dj a ha z
      · exact hG a (List.mem_append_left _ ha) z
    · refine h2 B H0 H σ' ρ' F' G2 R r' xs _ A' (fun a ha=>hG a (List.mem_append_right _ ha)) r2 (d.imp (fun ρ2 _ d σ2 F2 f2 A2=>d σ2 F2 (fun j a ha=>?_) A2) fun e q=>q)
      rcases f2 j a ha with z | z
      · rcases f' j a z with w | w
        · exact .inl w
        · exact .inr (List.mem_append_left _ w)
      · exact .inr (List.mem_append_right _ z)
theorem dgf_tup {n:Nat} {gs:TGs} {hs:List PV→List PV→Rr (List PV)} (h2:DGsF K EX Γ Γ2 gs hs):DGF K EX Γ Γ2 (gTup K n gs) (fun x ρ=>(asT n x).bind fun xs=>hs xs ρ):=fun B H0 H σ ρ F G R v x N A hG r d=>by
  obtain ⟨xs,rfl,hl,d⟩:=Dn.asT d.bind
  obtain ⟨a,vs,rfl,hn,hr⟩:=r
  exact ⟨a,vs,rfl,hn.sqT,by rw [hr.length]; exact hl,h2 B H0 H σ ρ F G R vs xs N A hG hr d⟩
theorem ds_asgF {gt:TG} {h:PV→List PV→Rr (List PV)} (he:DE K EX Γ Γ1 .F te f) (hg:DGF K EX Γ1 Γ2 gt h):DS K EX Γ ⟨Γ2,Γ3,Γ',k⟩ (tAsg te gt) (fun ρ=>(f ρ).thenS fun x=>(h x ρ).thenS fun ρ'=>.next ρ'):=fun B H0 H σ ρ F D A d=>by
  refine he B H0 H σ ρ F [] _ A (d.thenS.imp (fun x _ d v H1 s1 r1=>?_) fun e q=>q)
  obtain ⟨F1,f1,G,h1,h2,A1⟩:=r1
  refine hg B H0 H1 σ ρ F1 G [] v x _ A1 (by simp) h1 (d.thenS.imp (fun ρ' _ d σ' F' f' A'=>d σ' H1 F' (fun a o ho n=>⟨s1 a o ho,fun j z=>?_⟩) A') fun e q=>q)
  rcases f' j a z with w | w
  · exact n j (f1 j a w)
  · rcases (h2 a w).2 with q | ⟨l,q⟩
    · rw [ho] at q; cases q
    · exact n l q
end
end L2
namespace L2
open PySem PySem.Spec PyProof.Rows
noncomputable def RS.turn:RS→(List PV→RS)→RS
  | .next ρ,f=>f ρ
  | .cont ρ,f=>f ρ
  | .brk ρ,_=>.next ρ
  | r,_=>r
noncomputable def forR (b:PV→List PV→RS):List PV→List PV→RS
  | [],ρ=>.next ρ
  | x :: xs,ρ=>(b x ρ).turn (forR b xs)
noncomputable def iterW (c:List PV→Rr Bool) (b:List PV→RS):Nat→List PV→Option RS
  | 0,_=>none
  | n + 1,ρ=>match c ρ with
    | .ok true=>match b ρ with
      | .next ρ'=>iterW c b n ρ'
      | .cont ρ'=>iterW c b n ρ'
      | .brk ρ'=>some (.next ρ')
      | r=>some r
    | .ok false=>some (.next ρ)
    | .exc e=>some (.exc e)
    | .bad=>some .bad
open Classical in
noncomputable def whileR (c:List PV→Rr Bool) (b:List PV→RS) (ρ:List PV):RS:=if h:∃ n r,iterW c b n ρ=some r then h.choose_spec.choose else .bad
theorem iterW_more {c:List PV→Rr Bool} {b:List PV→RS}:∀ {n m:Nat} {ρ:List PV} {r:RS},n≤m→iterW c b n ρ=some r→iterW c b m ρ=some r
  | 0,_,_,_,_,h=>by cases h
  | n + 1,0,_,_,hl,_=>by omega
  | n + 1,m + 1,ρ,r,hl,h=>by
    unfold iterW at h ⊢
    cases hc:c ρ with
    | ok b' =>
      cases b' with
      | true =>
        rw [hc] at h
        cases hb:b ρ with
        | next ρ'=>rw [hb] at h; exact iterW_more (by omega) h
        | cont ρ'=>rw [hb] at h; exact iterW_more (by omega) h
        | brk ρ'=>rw [hb] at h; exact h
        | ret x=>rw [hb] at h; exact h
        | exc e=>rw [hb] at h; exact h
        | bad=>rw [hb] at h; exact h
      | false=>rw [hc] at h; exact h
    | exc e=>rw [hc] at h; exact h
    | bad=>rw [hc] at h; exact h
theorem iterW_det {c:List PV→Rr Bool} {b:List PV→RS} {n m:Nat} {ρ:List PV} {r r':RS} (h:iterW c b n ρ=some r) (h':iterW c b m ρ=some r'):r=r':=by
  rcases Nat.le_total n m with q | q
  · have:=iterW_more q h; rw [h'] at this; exact (Option.some.inj this).symm
  · have:=iterW_more q h'; rw [h] at this; exact Option.some.inj this
theorem whileR_eq {c:List PV→Rr Bool} {b:List PV→RS} {n:Nat} {ρ:List PV} {r:RS} (h:iterW c b n ρ=some r):whileR c b ρ=r:=by
  unfold whileR
  have hx:∃ n r,iterW c b n ρ=some r:=⟨n,r,h⟩
  rw [dif_pos hx]
  exact iterW_det hx.choose_spec.choose_spec h
theorem whileR_by {c:List PV→Rr Bool} {b:List PV→RS} (I:List PV→Prop) (μ:List PV→Nat) {r:RS} (step:∀ ρ,I ρ→(c ρ=.ok false∧r=.next ρ) ∨ (c ρ=.ok true∧((∃ ρ',(b ρ=.next ρ' ∨ b ρ=.cont ρ')∧I ρ'∧μ ρ' < μ ρ) ∨ (∃ ρ',b ρ=.brk ρ'∧r=.next ρ') ∨ (∃ x,b ρ=.ret x∧r=.ret x))))
   :∀ ρ,I ρ→whileR c b ρ=r:=by
  have key:∀ n ρ,I ρ→μ ρ < n→iterW c b n ρ=some r:=by
    intro n
    induction n with
    | zero=>intro ρ _ h; omega
    | succ n ih =>
      intro ρ hI hμ
      unfold iterW
      rcases step ρ hI with ⟨h1,h2⟩ | ⟨h1,⟨ρ',h2,h3,h4⟩ | ⟨ρ',h2,h3⟩ | ⟨x,h2,h3⟩⟩
      · rw [h1,h2]
      · rw [h1]
        rcases h2 with h2 | h2 <;> (rw [h2]; exact ih ρ' h3 (by omega))
      · rw [h1,h2,h3]
      · rw [h1,h2,h3]
  exact fun ρ hI=>whileR_eq (key (μ ρ + 1) ρ hI (Nat.lt_succ_self _))
section
variable {K:PySem.W.Frag} {B:Addr→Prop} {EX:PX→Hp→Prop} {H0 H H':Hp} {σ:St} {Γ Γ' Γ1 Γ2 Γ3 Γl Γt:List Md} {ρ:List PV} {F F':Nat→List Addr} {R:List Addr} {k:Kd} {x:PV} {v:V} {te ti tb tc:TE} {ta:TA} {f fb fc fe:List PV→Rr PV} {fa:List PV→Rr (List PV)}
  {t u:TS} {g g':List PV→RS} {Y:Tys} {D:Ends}
theorem ds_for {wi:TI} {gt:TG} {fi:List PV→Rr (List PV)} {h:PV→List PV→Rr (List PV)} (hi:DI K EX Γ Γ1 wi fi) (hw:mles Γ1 Γl=true) (hg:DG K EX Γl Γt gt h) (hb:DS K EX Γt ⟨Γl,Γl,Γl,k⟩ t g) :
    DS K EX Γ ⟨Γl,Γ2,Γ3,k⟩ (tFor wi gt t) (fun ρ=>(fi ρ).thenS fun xs=>forR (fun x ρ=>(h x ρ).thenS g) xs ρ):=fun B H0 H σ ρ F D A d=>by
  refine hi B H0 H σ ρ F [] _ A (d.thenS.imp (fun xs _ d J H1 F1 s1 f1 A1 it=>?_) fun e q=>q)
  obtain ⟨Fl,fl,Al⟩:=A1.weak hw
  have fr0:Frm H F H1 Fl:=Frm.of s1 fun j a ha=>f1 j a (fl j a ha)
  have fr1:Frm H1 F1 H1 Fl:=Frm.of (Same.refl _) fl
  refine ⟨fun i m σ' H'=>∃ ρ' F',m=xs.length - i∧i≤xs.length∧Frm H1 F1 H' F'∧Ag K B H0 H' σ' Γl ρ' F' []∧DnS K B EX ⟨Γl,Γ2,Γ3,k⟩ H0 H' F' D (forR (fun x ρ=>(h x ρ).thenS g) (xs.drop i) ρ'),
    ⟨xs.length,ρ,Fl,by simp,Nat.zero_le _,fr1,Al,by simpa using DnS.shift fr0 d⟩, ?_⟩
  rintro i m σ' H' ⟨ρ',F',rfl,hi',fr,A',dn⟩
  have itp:=it H' F' fr i
  cases hx:xs[i]? with
  | none =>
    refine .inl ⟨itp.2 hx, ?_⟩
    have hd:xs.drop i=[]:=List.drop_eq_nil_of_le (List.getElem?_eq_none_iff.mp hx)
    rw [hd] at dn
    exact dn σ' H' F' Frm.refl A'
  | some x =>
    have hlt:i < xs.length:=(List.getElem?_eq_some_iff.mp hx).1
    obtain ⟨go,yl⟩:=itp.1 x hx
    have hdx:xs.drop i=x :: xs.drop (i + 1):=by
      rw [List.drop_eq_getElem_cons hlt]
      rw [List.getElem?_eq_getElem hlt] at hx; cases hx; rfl
    rw [hdx] at dn
    simp only [forR] at dn
    refine .inr ⟨go,fun σ2 H2=>∃ ρ2 F2,Frm H1 F1 H2 F2∧Ag K B H0 H2 σ2 Γl ρ2 F2 []∧DnS K B EX ⟨Γl,Γ2,Γ3,k⟩ H0 H2 F2 D (forR (fun x ρ=>(h x ρ).thenS g) (xs.drop (i + 1)) ρ2),
      fun σ2 H2 ⟨ρ2,F2,a1,a2,a3⟩=>⟨xs.length - (i + 1),by omega,ρ2,F2,rfl,hlt,a1,a2,a3⟩,fun v H3 y=>?_⟩
    obtain ⟨s3,rx⟩:=yl v H3 y
    have fr3:Frm H' F' H3 F':=Frm.of s3 fun _ _ h=>h
    refine hg B H0 H3 σ' ρ' F' v x _ (A'.grow s3) (Rep.mono (fun a us s r=>⟨r,s.1⟩) (fun a us r=>r) rx) ?_
    cases e:h x ρ' with
    | ok ρt =>
      rw [e] at dn
      refine fun σt Ft ft At=>hb B H0 H3 σt ρt Ft _ At ?_
      have frt:Frm H' F' H3 Ft:=Frm.of s3 ft
      simp only [Rr.thenS_ok] at dn
      cases e2:g ρt with
      | next ρ2=>rw [e2] at dn; exact fun σ2 H2 F2 fr2 A2=>⟨ρ2,F2,fr.trans (frt.trans fr2),A2,DnS.shift (frt.trans fr2) dn⟩
      | cont ρ2=>rw [e2] at dn; exact fun σ2 H2 F2 fr2 A2=>⟨ρ2,F2,fr.trans (frt.trans fr2),A2,DnS.shift (frt.trans fr2) dn⟩
      | brk ρ2=>rw [e2] at dn; exact fun σ2 H2 F2 fr2 A2=>dn σ2 H2 F2 (frt.trans fr2) A2
      | ret y=>rw [e2] at dn; exact dn
      | exc q=>rw [e2] at dn; exact dn
      | bad=>rw [e2] at dn; exact dn
    | exc q=>rw [e] at dn; exact dn
    | bad=>rw [e] at dn; exact dn
theorem ds_while {c:TT} {fc:List PV→Rr Bool} (hc:DT K EX Γ Γ c fc) (hb:DS K EX Γ ⟨Γ,Γ,Γ,k⟩ t g):DS K EX Γ ⟨Γ,Γ2,Γ3,k⟩ (tWhile c t) (fun ρ=>whileR fc g ρ):=fun B H0 H σ ρ F D A d=>by
  dsimp only at d
  have ex:∃ n,iterW fc g n ρ=some (whileR fc g ρ):=by
    by_cases hx:∃ n r,iterW fc g n ρ=some r
    · obtain ⟨n,r,e⟩:=hx
      exact ⟨n,by rw [whileR_eq e]; exact e⟩
    · unfold whileR at d
      rw [dif_neg hx] at d
      exact d.elim
  obtain ⟨n0,e0⟩:=ex
  generalize hr:whileR fc g ρ=r at e0 d
  refine ⟨fun m σ' H'=>∃ ρ' F',Frm H F H' F'∧Ag K B H0 H' σ' Γ ρ' F' []∧iterW fc g m ρ'=some r,⟨n0,ρ,F,Frm.refl,A,e0⟩, ?_⟩
  rintro m σ' H' ⟨ρ',F',fr,A',e⟩
  cases m with
  | zero=>cases e
  | succ m =>
    unfold iterW at e
    refine hc B H0 H' σ' ρ' F' [] _ A' ?_
    cases e1:fc ρ' with
    | ok b =>
      rw [e1] at e
      refine fun H2 F2 s2 f2 A2=>?_
      have fr2:Frm H' F' H2 F2:=Frm.of s2 f2
      cases b with
      | true =>
        refine ⟨fun σ3 H3=>∃ ρ3 F3,Frm H F H3 F3∧Ag K B H0 H3 σ3 Γ ρ3 F3 []∧iterW fc g m ρ3=some r,fun σ3 H3 h=>⟨m,Nat.lt_succ_self _,h⟩, ?_⟩
        refine hb B H0 H2 σ' ρ' F2 _ A2 ?_
        cases e2:g ρ' with
        | next ρ2=>rw [e2] at e; exact fun σ3 H3 F3 fr3 A3=>⟨ρ2,F3,fr.trans (fr2.trans fr3),A3,e⟩
        | cont ρ2=>rw [e2] at e; exact fun σ3 H3 F3 fr3 A3=>⟨ρ2,F3,fr.trans (fr2.trans fr3),A3,e⟩
        | brk ρ2 =>
          rw [e2] at e
          have e':RS.next ρ2=r:=Option.some.inj e
          rw [← e'] at d
          exact fun σ3 H3 F3 fr3 A3=>d σ3 H3 F3 (fr.trans (fr2.trans fr3)) A3
        | ret y =>
          rw [e2] at e
          have e':RS.ret y=r:=Option.some.inj e
          rw [← e'] at d
          exact d
        | exc q =>
          rw [e2] at e
          have e':RS.exc q=r:=Option.some.inj e
          rw [← e'] at d
          exact d
        | bad =>
          rw [e2] at e
          have e':RS.bad=r:=Option.some.inj e
          rw [← e'] at d
          exact d
      | false =>
        have e':RS.next ρ'=r:=Option.some.inj e
        rw [← e'] at d
        exact d σ' H2 F2 (fr.trans fr2) A2
    | exc q =>
      rw [e1] at e
      have e':RS.exc q=r:=Option.some.inj e
      rw [← e'] at d
      exact d
    | bad =>
      rw [e1] at e
      have e':RS.bad=r:=Option.some.inj e
      rw [← e'] at d
      exact d
theorem Trees.get:∀ {xs:List PV} {vs:List V} {G:List Addr} {j:Nat} {x:PV},Trees K H xs vs G→xs[j]?=some x→∃ v G',vs[j]?=some v∧Tree K H x v G'∧∀ a∈G',a∈G
  | [],_,_,_,_,_,e=>by simp at e
  | y :: xs,_,_,0,x,h,e=>by
    obtain ⟨v,r,G1,G2,rfl,h1,h2,h3,rfl⟩:=h
    simp at e; subst e
    exact ⟨v,G1,rfl,h1,fun a ha=>by simp [ha]⟩
  | y :: xs,_,_,j + 1,x,h,e=>by
    obtain ⟨v,r,G1,G2,rfl,h1,h2,h3,rfl⟩:=h
    obtain ⟨w,G',e1,e2,e3⟩:=Trees.get (j:=j) h2 (by simpa using e)
    exact ⟨w,G',by simpa using e1,e2,fun a ha=>by simp [e3 a ha]⟩
theorem trees_at {xs:List PV} {vs:List V} {G:List Addr} {i:Int} {z:PV} (h:Trees K H xs vs G) (e:atI xs i=some z):∃ u G',atI vs i=some u∧Tree K H z u G'∧∀ a∈G',a∈G:=by
  unfold atI at e ⊢
  rw [h.length]
  cases q:ixN xs.length i with
  | none=>rw [q] at e; cases e
  | some j=>rw [q] at e; exact h.get e
theorem ds_augSO {i:Nat} {h:Int→Int→Int} (hm:Γ2[i]?=some .O) (hmΓ:Γ[i]?=some .O) (hi:DE K EX Γ Γ2 .A ti f) (he:DE K EX Γ2 Γ2 .A te fe) :
    DS K EX Γ ⟨Γ2,Γ1,Γ3,k⟩ (tAugS (tVar i) ti te (rIxL K) (ipI h) rSetL) (fun ρ=>(f ρ).thenS fun j=>(pIx (gv i ρ) j).thenS fun z=>(asL (gv i ρ)).thenS fun _=>(fe ρ).thenS fun y=>(oI (fun _ _=>true) (fun a b=>.int (h a b)) z y).thenS fun w=>(pSet (gv i ρ) j w).thenS fun z=>.next (ρ.set i z)):=fun B H0 H σ ρ F D A d=>by
  obtain ⟨v,h1,h2⟩:=A.getO hmΓ
  refine ⟨v,h1,hi B H0 H σ ρ F [] _ A (d.thenS.imp (fun j _ d jv H1 s1 r1=>?_) fun e q=>q)⟩
  obtain ⟨F1,f1,p1,A1⟩:=r1
  obtain ⟨z,ez,d⟩:=Dn.pIx d.thenS
  obtain ⟨xs,ex,d⟩:=Dn.asL d.thenS
  rw [ex] at ez
  obtain ⟨v',h1',h2'⟩:=A1.getO hm
  rw [h1] at h1'; cases h1'
  rw [show ρ.getD i .non=.lst xs from ex] at h2'
  obtain ⟨a,vs,G,rfl,hH,ht,hn,hF⟩:=h2'
  obtain ⟨j,rfl⟩:∃ j',j=PV.int j':=by cases j <;> first | exact ⟨_,rfl⟩ | (simp only [pIx] at ez; cases ez; done)
  cases p1
  simp only [pIx] at ez
  cases e1:atI xs j with
  | none=>rw [e1] at ez; cases ez
  | some z' =>
    rw [e1] at ez; cases ez
    obtain ⟨u,G2,e2,e3,e4⟩:=trees_at ht e1
    refine ⟨a,vs,j,u,rfl,rfl,SqL.of hH,e2,he B H0 H1 σ ρ F1 [] _ A1 (d.thenS.imp (fun y _ d w H2 s2 r2=>?_) fun e q=>q)⟩
    obtain ⟨F2,f2,p2,A2⟩:=r2
    obtain ⟨zi,yi,rfl,rfl⟩:∃ zi yi,z=PV.int zi∧y=PV.int yi:=by cases z <;> cases y <;> first | exact ⟨_,_,rfl,rfl⟩ | (exact d.elim; done)
    obtain ⟨e5,_⟩:=e3
    subst e5
    cases p2
    refine ⟨zi,yi,rfl,rfl, ?_⟩
    obtain ⟨xs',jj,n,ex',e6,e7,d⟩:=Dn.pSet (show DnS _ _ _ _ _ _ _ _ ((pSet (gv i ρ) (.int j) (.int (h zi yi))).thenS _) from d).thenS
    cases e6
    rw [ex] at ex'; cases ex'
    obtain ⟨v',h1',h2'⟩:=A2.getO hm
    rw [h1] at h1'; cases h1'
    rw [show ρ.getD i .non=.lst xs from ex] at h2'
    obtain ⟨a',vs',G',e,hH',ht',hn',hF'⟩:=h2'
    cases e
    refine ⟨a,vs',j,n,rfl,rfl,hH',by rw [ht'.length]; exact e7, ?_⟩
    obtain ⟨G'',g1,g2⟩:=Trees.setP (j:=n) (y:=.int (h zi yi)) (w:=.int (h zi yi)) ht' ⟨rfl,rfl⟩
    have haF:a∈F2 i:=by rw [hF']; simp
    have hsub:∀ b∈a :: G'',b∈F2 i:=fun b hb=>by
      rw [hF']
      rcases List.mem_cons.mp hb with rfl | hb
      · simp
      · simp [g1 b hb]
    refine d σ _ (own1 F2 i (a :: G'')) (frm_chg (s1.trans s2) (fun j b hb=>f1 j b (f2 j b hb)) haF fun b hb=>.inr ⟨i,f1 i b (f2 i b (hsub b hb))⟩) (Ag.chg (G:=[]) A2 hm haF (fun b hb=>.inl (hsub b hb)) (by simp) ?_)
    exact ⟨_,h1,a,_,G'',rfl,upd_same,g2.put hH' (fun z=>hn' (g1 a z)),fun z=>hn' (g1 a z),rfl⟩
end
end L2
namespace L2
open PySem PySem.Spec PyProof.Rows
noncomputable def RS.out:RS→Rr PV
  | .next _=>.ok .non
  | .ret x=>.ok x
  | .exc e=>.exc e
  | .brk _=>.bad
  | .cont _=>.bad
  | .bad=>.bad
@[simp] theorem RS.out_next {ρ:List PV}:(RS.next ρ).out=.ok .non:=rfl
@[simp] theorem RS.out_ret {x:PV}:(RS.ret x).out=.ok x:=rfl
@[simp] theorem RS.out_exc {e:PX}:(RS.exc e).out=.exc e:=rfl
noncomputable def Ref (r r':Rr PV):Prop:=r=.bad ∨ r=r'
structure Pm where
  α:Type
  enc:α→List PV
  pre:α→Prop
  out:α→Rr PV
open Classical in
noncomputable def Pm.fn (m:Pm) (xs:List PV):Rr PV:=if h:∃ a,m.enc a=xs∧m.pre a then m.out h.choose else .bad
theorem Pm.fn_eq (m:Pm) (a:m.α) (h:m.pre a) (inj:∀ b,m.enc b=m.enc a→m.out b=m.out a):m.fn (m.enc a)=m.out a:=by
  unfold Pm.fn
  have hx:∃ b,m.enc b=m.enc a∧m.pre b:=⟨a,rfl,h⟩
  rw [dif_pos hx]
  exact inj _ hx.choose_spec.1
theorem Pm.ref (m:Pm) {g:List PV→Rr PV} (h:∀ a,m.pre a→g (m.enc a)=m.out a) (xs:List PV):Ref (m.fn xs) (g xs):=by
  unfold Pm.fn
  by_cases hx:∃ a,m.enc a=xs∧m.pre a
  · rw [dif_pos hx]
    have h2:=hx.choose_spec
    right
    have:=h _ h2.2
    rw [h2.1] at this
    exact this.symm
  · rw [dif_neg hx]; exact .inl rfl
section
variable {K:PySem.W.Frag} {B:Addr→Prop} {EX:PX→Hp→Prop} {H0 H H':Hp}
theorem Ag.init {xs:List PV} {vs:List V} {n:Nat} (h:Reps K H B xs vs):Ag K (fun a=>B a ∨ H a=none) H H (vs.map some ++ List.replicate n none) (List.replicate xs.length .S ++ List.replicate n .U) (xs ++ List.replicate n .non) (fun _=>[]) []:=by
  refine ⟨Same.refl _,fun a h=>.inr h,by simp,by simp,by simp,by simp,by simp,by simp,by simp [h.length],by simp,fun i=>?_⟩
  by_cases hi:i < xs.length
  · have e1:(List.replicate xs.length Md.S ++ List.replicate n Md.U).getD i .U=.S:=by
      rw [List.getD_eq_getElem?_getD,List.getElem?_append_left (by simpa using hi),List.getElem?_replicate_of_lt hi]; rfl
    have e2:(xs ++ List.replicate n PV.non).getD i .non=xs[i]:=by
      rw [List.getD_eq_getElem?_getD,List.getElem?_append_left hi,List.getElem?_eq_getElem hi]; rfl
    rw [e1,e2]
    obtain ⟨v,h1,h2⟩:=h.get (List.getElem?_eq_getElem hi)
    refine ⟨rfl,v, ?_,Rep.mono (fun a us s r=>⟨r,.inl s,by simp,by simp⟩) (fun a us r=>r) h2⟩
    rw [List.getElem?_append_left (by rw [List.length_map,h.length]; exact hi),List.getElem?_map,h1]; rfl
  · have e1:(List.replicate xs.length Md.S ++ List.replicate n Md.U).getD i .U=.U:=by
      rw [List.getD_eq_getElem?_getD,List.getElem?_append_right (by simpa using hi)]
      by_cases q:i - (List.replicate xs.length Md.S).length < n
      · rw [List.getElem?_replicate_of_lt q]; rfl
      · rw [List.getElem?_eq_none (by simpa using q)]; rfl
    rw [e1]
    exact rfl
end
section
variable {P:Program} {w:World} {K:PySem.W.Frag} {mg:Str→Option Value} {base:Heap}
theorem Fun.okP {x qual:Str} {st:Stmt} {f:Addr} {fd:FuncData} {N ps:List Str} {k n l:Nat} {kd:Kd} {m:List PV→Rr PV} (F:Fun K x qual st f fd) (S:FnScope N ps (defScope st)) (hn:ps.length=n) (hl:N.length - n=l)
    (hbody:∀ (cdv:Value) (A:Around) (outer:List Env) (s:Shared) (H:Hp) (E:XK),Room k (A.deeper (envOfC qual (defScope st) s.heap.objs.size f cdv)) →
      ∃ t g Y,Y.r=kd∧PSs (cxOf CX0 P w K mg base N qual (defScope st) f cdv A outer s H E).nox (defBody st) t∧DS K X0 (List.replicate n .S ++ List.replicate l .U) Y t g∧∀ xs,Ref (m xs) (g (xs ++ List.replicate l .non)).out) (hkN:kd≠.N:=by nofun) :
    FnOk P w K mg base CX0 (k + 1) f fd ps (spF K n kd W0 m):=by
  refine F.ok S (fun vs H Q E h=>?_) (fun cdv A outer s H vs Q E hr h=>?_)
  · obtain ⟨B,xs,h1,h2,_⟩:=h
    rw [h1.length,h2,hn]
  · obtain ⟨B,xs,h1,h2,dn⟩:=h
    obtain ⟨t,g,Y,hY,ht,hd,href⟩:=hbody cdv A outer s H E hr
    refine ⟨t,ht, ?_⟩
    have A0:=Ag.init (n:=l) h1
    have est:start N vs=vs.map some ++ List.replicate l none:=by
      unfold start
      rw [h1.length,h2,hl]
    rw [est]
    rw [h2] at A0
    refine hd _ H H _ _ _ _ A0 ?_
    have hdn:Dn (g (xs ++ List.replicate l .non)).out (fun x=>∀ v H',Same H H'→RetK K B H kd x v H'→Q v H') (fun e=>∀ H',Same H H'→W0 e E H'):=by
      rcases href xs with e | e
      · rw [e] at dn; exact dn.elim
      · rw [← e]; exact dn
    have retK:∀ {x v H'},RetK K (fun a=>B a ∨ H a=none) H kd x v H'→RetK K B H kd x v H':=fun {x v H'} h=>by
      cases kd with
      | P=>exact h
      | F=>exact h
      | T=>exact Rep.mono (fun a us s r=>⟨r,s.elim id .inr⟩) (fun a us r=>r) h
      | Z=>exact Rep.mono (fun a us s r=>⟨r,s.elim id .inr⟩) (fun a us r=>r) h
      | A=>exact Rep.mono (fun a us s r=>⟨r,s.elim id .inr⟩) (fun a us r=>r) h
      | N=>exact h
    cases e:g (xs ++ List.replicate l .non) with
    | next ρ =>
      rw [e] at hdn
      refine fun σ' H' F' fr A'=>hdn .non H' A'.same ?_
      cases kd with
      | P=>exact ⟨rfl,rfl⟩
      | F=>exact ⟨[],⟨rfl,rfl⟩,by simp⟩
      | T=>exact rfl
      | Z=>exact rfl
      | A=>exact rfl
      | N=>exact absurd rfl hkN
    | ret x=>rw [e] at hdn; exact fun v H' s r=>hdn v H' s (retK (hY ▸ r))
    | exc q=>rw [e] at hdn; exact fun H' s=>hdn H' s
    | brk ρ=>rw [e] at hdn; exact hdn.elim
    | cont ρ=>rw [e] at hdn; exact hdn.elim
    | bad=>rw [e] at hdn; exact hdn.elim
end
section
variable {X:Cx} {K:PySem.W.Frag} {k n:Nat} {kd:Kd} {x:Str} {ps:List Str} {m:List PV→Rr PV} {p pos:Pos} {e:Expr} {es:List Expr} {ta:TA} {EX:PX→Hp→Prop} {Γ Γ':List Md} {fa:List PV→Rr (List PV)}
theorem dc_F (hn:Len fa n) (ha:DAA K X0 Γ Γ' ta fa):DE K X0 Γ Γ' .F (tCallO (spF K n .F W0 m) ta) (fun ρ=>(fa ρ).bind m):=de_callF (E:=E0) (W:=W0) (fun σ H Q h=>h) (fun e H' h=>h) hn ha
theorem dc_P (hn:Len fa n) (ha:DAA K X0 Γ Γ' ta fa):DE K X0 Γ Γ' .P (tCallO (spF K n .P W0 m) ta) (fun ρ=>(fa ρ).bind m):=de_callP (E:=E0) (W:=W0) (fun σ H Q h=>h) (fun e H' h=>h) hn ha
end
theorem law_startP {K:PySem.W.Frag} {H:Hp} {a:Addr} {ns:List Int} {m:List PV→Rr PV} (hm:m [.lst (ns.map PV.int)]=.ok (.bl true)) (hS:SqL K H a (ns.map V.int)):spF K 1 .P W0 m [.ref a] H (fun v _=>v=.bl true) fun _ _ _=>False:=by
  refine ⟨fun _=>True,[.lst (ns.map PV.int)],Reps.one ⟨a,_,rfl,hS.elim (fun h=>.inl ⟨h,trivial⟩) .inr,ints_reps ns⟩,rfl, ?_⟩
  rw [hm]
  exact fun v H' _ r=>r.2
end L2
namespace L2
open PySem PySem.Spec PyProof.Rows
section
variable {X:Cx} {K:PySem.W.Frag} {EX:PX→Hp→Prop} {Γ Γ' Γ1 Γ2 Γ3:List Md} {k:Kd} {te tb tc:TE} {ta:TA} {f fb fc:List PV→Rr PV} {fa:List PV→Rr (List PV)}
theorem call_minIK (hc:X.calm=true) (e:X.K=K:=by rfl):CallR X (.builtin "min") (rMinI K):=by subst e; exact call_minI hc
theorem bb_max:bootBuiltins "max"=some (.builtin "max"):=by decide +kernel
theorem ds_setComp {i:Nat} {wi:TI} (he:DE K EX Γ Γ' .F (tComp wi te) f) (hi:i < Γ'.length):DS K EX Γ ⟨Γ'.set i .O,Γ1,Γ2,k⟩ (tSetComp i wi te) (fun ρ=>(f ρ).thenS fun x=>.next (ρ.set i x)):=ds_setF he hi
noncomputable def pMax2 (xs:List PV):Rr PV:=match xs with
  | [.int i,.int j]=>.ok (.int (if j > i then j else i))
  | _=>.bad
theorem de_max2 (ha:DAA K EX Γ Γ' ta fa):DE K EX Γ Γ' .P (tCB (fun xs H Q=>∃ i j,xs=[.int i,.int j]∧Q (.int (if j > i then j else i)) H) ta) (fun ρ=>(fa ρ).bind pMax2):=by
  refine de_cb (fun {H xs vs Q} h z e=>?_) (fun xs e h=>?_) ha
  · unfold pMax2 at e
    split at e <;> first | (cases e; done) | skip
    cases e
    obtain ⟨v,w,rfl,h1,h2⟩:=reps2 h
    cases h1; cases h2
    exact ⟨rfl,fun q=>⟨_,_,rfl,q _ rfl⟩⟩
  · unfold pMax2 at h; split at h <;> cases h
end
noncomputable def RS.good (r:RS) (I:List PV→Prop):Prop:=match r with
  | .next ρ=>I ρ
  | .cont ρ=>I ρ
  | _=>False
theorem RS.good_ex {r:RS} {I:List PV→Prop} (h:r.good I):∃ ρ',(r=.next ρ' ∨ r=.cont ρ')∧I ρ':=by
  cases r with
  | next ρ=>exact ⟨ρ,.inl rfl,h⟩
  | cont ρ=>exact ⟨ρ,.inr rfl,h⟩
  | ret x=>exact h.elim
  | brk ρ=>exact h.elim
  | exc e=>exact h.elim
  | bad=>exact h.elim
theorem forR_inv {b:PV→List PV→RS} {xs:List PV} {ρ:List PV} (I:Nat→List PV→Prop) (h0:I 0 ρ) (h:∀ i x ρ,xs[i]?=some x→I i ρ→(b x ρ).good (I (i + 1))) :
    ∃ ρ',forR b xs ρ=.next ρ'∧I xs.length ρ':=by
  have key:∀ n i ρ,xs.length=i + n→I i ρ→∃ ρ',forR b (xs.drop i) ρ=.next ρ'∧I xs.length ρ':=by
    intro n
    induction n with
    | zero =>
      intro i ρ hl hI
      rw [List.drop_eq_nil_of_le (by omega)]
      exact ⟨ρ,rfl,by rw [hl]; exact hI⟩
    | succ n ih =>
      intro i ρ hl hI
      have hi:i < xs.length:=by omega
      rw [List.drop_eq_getElem_cons hi]
      obtain ⟨ρ',h1,h2⟩:=RS.good_ex (h i _ ρ (List.getElem?_eq_getElem hi) hI)
      obtain ⟨ρ2,h3,h4⟩:=ih (i + 1) ρ' (by omega) h2
      refine ⟨ρ2, ?_,h4⟩
      simp only [forR]
      rcases h1 with h1 | h1 <;> (rw [h1]; exact h3)
  exact key xs.length 0 ρ (by omega) h0
theorem rngP_get {lo:Int} {n i:Nat} {x:PV} (h:(rngP lo n)[i]?=some x):i < n∧x=.int (lo + i):=by
  unfold rngP at h
  rw [List.getElem?_map] at h
  by_cases hi:i < n
  · rw [List.getElem?_range hi] at h; cases h; exact ⟨hi,rfl⟩
  · rw [List.getElem?_eq_none (by simpa using hi)] at h; cases h
@[simp] theorem rngP_length {lo:Int} {n:Nat}:(rngP lo n).length=n:=by simp [rngP]
theorem mapR_ok {α β:Type} {f:α→Rr β} {g:α→β}:∀ {xs:List α},(∀ x∈xs,f x=.ok (g x))→mapR f xs=.ok (xs.map g)
  | [],_=>rfl
  | x :: xs,h=>by
    simp only [mapR,h x (by simp),Rr.bind_ok,mapR_ok (xs:=xs) fun y hy=>h y (by simp [hy]),List.map_cons]
@[simp] theorem gv_zero {x:PV} {ρ:List PV}:gv 0 (x :: ρ)=x:=rfl
@[simp] theorem gv_succ {x:PV} {ρ:List PV} {i:Nat}:gv (i + 1) (x :: ρ)=gv i ρ:=rfl
theorem pIx_ints {ns:List Int} {k:Int} (h0:0≤k) (h1:k < ns.length):pIx (.lst (ns.map PV.int)) (.int k)=.ok (.int (ns.getD k.toNat 0)):=by
  have:atI (ns.map PV.int) k=some (.int (ns.getD k.toNat 0)):=by
    unfold atI
    rw [List.length_map,ixN_of h0 h1]
    show (ns.map PV.int)[k.toNat]?=_
    rw [List.getElem?_map,List.getElem?_eq_getElem (by omega),List.getD_eq_getElem?_getD,List.getElem?_eq_getElem (by omega)]
    rfl
  simp only [pIx,this]
theorem pSet_ints {ns:List Int} {k y:Int} (h0:0≤k) (h1:k < ns.length):pSet (.lst (ns.map PV.int)) (.int k) (.int y)=.ok (.lst ((ns.set k.toNat y).map PV.int)):=by
  simp only [pSet,List.length_map,ixN_of h0 h1,List.map_set]
theorem pApp_ints {ns:List Int} {y:Int} (h:ns.length < 1000000):pApp (.lst (ns.map PV.int)) (.int y)=.ok (.lst ((ns ++ [y]).map PV.int)):=by
  simp only [pApp,List.length_map,if_pos h,List.map_append,List.map_cons,List.map_nil]
theorem newF_ints {ns:List Int} (h:ns.length≤1000000):newF (ns.map PV.int)=.ok (.lst (ns.map PV.int)):=by
  unfold newF
  rw [PV.flats_ints,List.length_map,decide_eq_true h]; rfl
theorem dats_ints (ns:List Int):PV.dats (ns.map PV.int)=ns.map PyData.int:=by
  induction ns with
  | nil=>rfl
  | cons n ns ih=>simp [PV.dats,PV.dat,ih]
theorem canLay_ints (ns:List Int):PyData.canLayAll0 (ns.map PyData.int)=true:=by
  induction ns with
  | nil=>rfl
  | cons n ns ih=>simp [PyData.canLayAll0,PyData.canLay0,ih]
theorem okD_int (i:Int):okD (.int i)=true:=by simp [okD,PV.noX,PV.dat,PyData.canLay0,PyData.depth]
end L2
namespace L2
open PySem PySem.Spec PyProof.Rows
theorem okD_ints (ns:List Int):okD (.lst (ns.map PV.int))=true:=by
  have hd:PyData.depthAll (ns.map PyData.int)=0:=by
    induction ns with
    | nil=>rfl
    | cons n ns ih=>simp [PyData.depthAll,PyData.depth,ih]
  simp [okD,PV.noX,PV.noXs_ints,PV.dat,dats_ints,PyData.canLay0,canLay_ints,PyData.depth,hd]
theorem eqvAll_ints:∀ (ns ms:List Int),PyData.eqvAll (ns.map PyData.int) (ms.map PyData.int)=decide (ns=ms)
  | [],[]=>by simp [PyData.eqvAll]
  | [],m :: ms=>by simp [PyData.eqvAll]
  | n :: ns,[]=>by simp [PyData.eqvAll]
  | n :: ns,m :: ms=>by
    simp only [List.map_cons,PyData.eqvAll,PyData.eqv,eqvAll_ints ns ms,List.cons.injEq,Bool.decide_and]
    rw [Bool.beq_eq_decide_eq]
theorem pEq_ints {g:Bool→Bool} (ns ms:List Int):pEqG g (.lst (ns.map PV.int)) (.lst (ms.map PV.int))=.ok (.bl (g (decide (ns=ms)))):=by
  unfold pEqG
  rw [okD_ints,okD_ints]
  simp only [Bool.and_self,if_true,PV.dat,dats_ints,PyData.eqv,eqvAll_ints]
theorem pEq_int {g:Bool→Bool} (i j:Int):pEqG g (.int i) (.int j)=.ok (.bl (g (decide (i=j)))):=by
  unfold pEqG
  rw [okD_int,okD_int]
  simp only [Bool.and_self,if_true,PV.dat,PyData.eqv]
  rw [Bool.beq_eq_decide_eq]
theorem pLen_ints (ns:List Int):pLen [.lst (ns.map PV.int)]=.ok (.int ns.length):=by simp [pLen]
theorem pSum_ints (ns:List Int):pSum [.lst (ns.map PV.int)]=.ok (.int ns.sum):=by simp [pSum,pInts]
theorem pMin_ints {ns:List Int} (h:ns≠[]):pMin [.lst (ns.map PV.int)]=.ok (.int (minI ns)):=by simp [pMin,pInts,h]
theorem pList_ints {ns:List Int} (h:ns.length≤1000000):pList [.lst (ns.map PV.int)]=.ok (.lst (ns.map PV.int)):=by
  simp only [pList]; exact newF_ints h
theorem cmul_of {i j:Int} (a b:Nat) (h1:i.natAbs≤10 ^ a) (h2:j.natAbs≤10 ^ b) (ha:a≤4000:=by decide) (hb:b≤4000:=by decide):CMulB i j:=by
  have t:∀ c:Nat,c≤4000→(10:Nat) ^ c < 2 ^ 60000:=fun c hc=>Nat.lt_of_le_of_lt (Nat.pow_le_pow_right (by decide) hc) (by decide +kernel)
  exact ⟨Nat.lt_of_le_of_lt h1 (t a ha),Nat.lt_of_le_of_lt h2 (t b hb)⟩
theorem cdiv_of {i j:Int} (b:Nat) (h1:0 < j) (h2:j.natAbs≤10 ^ b) (hb:b≤2000:=by decide):CDivB i j:=by
  have t:∀ c:Nat,c≤2000→(10:Nat) ^ c < 2 ^ 9000:=fun c hc=>Nat.lt_of_le_of_lt (Nat.pow_le_pow_right (by decide) hc) (by decide +kernel)
  exact ⟨h1,Nat.lt_of_le_of_lt h2 (t b hb)⟩
theorem pDiv_ok {i j:Int} (h:CDivB i j):pDiv (.int i) (.int j)=.ok (.int (i / j)):=oI_int (decide_eq_true h)
theorem pMul_ok {i j:Int} (h:CMulB i j):pMul (.int i) (.int j)=.ok (.int (i * j)):=oI_int (decide_eq_true h)
theorem pMod_ok {i j:Int} (h:0 < j):pMod (.int i) (.int j)=.ok (.int (i % j)):=oI_int (decide_eq_true h)
theorem pPow_ok {i j:Int} (h:CPow i j):pPow (.int i) (.int j)=.ok (.int (i ^ j.toNat)):=oI_int (decide_eq_true h)
@[simp] theorem pAdd_ok {i j:Int}:pAdd (.int i) (.int j)=.ok (.int (i + j)):=rfl
@[simp] theorem pSub_ok {i j:Int}:pSub (.int i) (.int j)=.ok (.int (i - j)):=rfl
@[simp] theorem pLt_ok {i j:Int}:pLt (.int i) (.int j)=.ok (.bl (decide (i < j))):=rfl
@[simp] theorem pLe_ok {i j:Int}:pLe (.int i) (.int j)=.ok (.bl (decide (i≤j))):=rfl
@[simp] theorem pGt_ok {i j:Int}:pGt (.int i) (.int j)=.ok (.bl (decide (j < i))):=rfl
@[simp] theorem pGe_ok {i j:Int}:pGe (.int i) (.int j)=.ok (.bl (decide (j≤i))):=rfl
@[simp] theorem grd_int {i:Int}:grd (.int i)=.ok (.int i):=rfl
@[simp] theorem asB_bl {b:Bool}:asB (.bl b)=.ok b:=rfl
@[simp] theorem asL_lst {xs:List PV}:asL (.lst xs)=.ok xs:=rfl
@[simp] theorem asI_int {i:Int}:asI (.int i)=.ok i:=rfl
@[simp] theorem pIsi_i {n:String} {x:Int}:pIsi n (.int x)=.ok (.bl (isSub (tyName (.int x)) n)):=rfl
@[simp] theorem pIsi_l {n:String} {x:List PV}:pIsi n (.lst x)=.ok (.bl (isSub (tyName (.lst x)) n)):=rfl
@[simp] theorem pIsi_t {n:String} {x:List PV}:pIsi n (.tup x)=.ok (.bl (isSub (tyName (.tup x)) n)):=rfl
@[simp] theorem pNeg_ok {i:Int}:pNeg (.int i)=.ok (.int (-i)):=rfl
@[simp] theorem pIx_t0 {x:PV} {xs:List PV}:pIx (.tup (x :: xs)) (.int 0)=.ok x:=by simp [pIx,atI,ixN]
@[simp] theorem pIx_t1 {x y:PV} {xs:List PV}:pIx (.tup (x :: y :: xs)) (.int 1)=.ok y:=by
  have:atI (x :: y :: xs) 1=some y:=by unfold atI; rw [ixN_of (by omega) (by simp only [List.length_cons]; omega)]; rfl
  simp only [pIx,this]
theorem pRng1_ok {j:Int} (h:-(2 ^ 62)≤j∧j < 2 ^ 62):pRng1 [.int j]=.ok (rngP 0 j.toNat):=by simp only [pRng1,okR,decide_eq_true h,if_true]
theorem pRng2_ok {i j:Int} (h:-(2 ^ 62)≤i∧i < 2 ^ 62) (h':-(2 ^ 62)≤j∧j < 2 ^ 62):pRng2 [.int i,.int j]=.ok (rngP i (j - i).toNat):=by simp only [pRng2,okR,decide_eq_true h,decide_eq_true h',Bool.and_self,if_true]
theorem lenM_ok {xs:List PV} (h:xs.length≤1000000):lenM xs=.ok ():=by simp only [lenM,if_pos h]
@[simp] theorem isSub_ii:isSub (tyName (.int i)) "int"=true:=rfl
@[simp] theorem isSub_ib:isSub (tyName (.int i)) "bool"=false:=rfl
@[simp] theorem isSub_ll:isSub (tyName (.lst xs)) "list"=true:=rfl
@[simp] theorem isSub_tt:isSub (tyName (.tup xs)) "tuple"=true:=rfl
theorem nextI {I:List PV→Prop} {ρ:List PV} (h:I ρ):(RS.next ρ).good I:=h
theorem hdR_cons {h:PV→List PV→Rr (List PV)} {hs:List PV→List PV→Rr (List PV)} {x:PV} {xs ρ:List PV}:hdR h hs (x :: xs) ρ=(h x ρ).bind fun ρ'=>hs xs ρ':=rfl
theorem nilR_nil {ρ:List PV}:nilR [] ρ=.ok ρ:=rfl
theorem ints_inj' {ns ms:List Int} (e:ns.map PV.int=ms.map PV.int):ns=ms:=by
  have:=congrArg intsOf e
  simpa using this
theorem pDiv_small {i j:Int} (h0:0 < j) (h1:j < 1000000000000):pDiv (.int i) (.int j)=.ok (.int (i / j)):=pDiv_ok (cdiv_of 12 h0 (by omega))
theorem p1060:pPow (.int 10) (.int 60)=.ok (.int (10 ^ 60)):=by rw [pPow_ok (by decide)]; rfl
theorem mkT_ok {xs:List PV} (h:xs.length≤1000):mkT xs=.ok (.tup xs):=if_pos h
theorem mkL_ok {xs:List PV} (h:xs.length≤1000):mkL xs=.ok (.lst xs):=if_pos h
end L2
namespace L2
noncomputable def heldN (p s:Int):Int:=p * s % (p + 1)
noncomputable def beyN (p s:Int):Int:=p * s / (p + 1)
noncomputable def sowAt (s:Int):Nat→Int
  | 0=>s
  | k + 1=>beyN (k + 1) (sowAt s k)
noncomputable def firsts (s:Int) (n:Nat):List Int:=(List.range n).map fun (k:Nat)=>heldN (k + 1) (sowAt s k)
noncomputable def ylenF (s:Int):Nat→Nat→Nat
  | 0,k=>k
  | n + 1,k=>if 0 < sowAt s k then ylenF s n (k + 1) else k
noncomputable def ylen (s:Int):Nat:=ylenF s s.toNat 0
noncomputable def yardN (s:Int):List Int:=firsts s (ylen s)
theorem sumNN:∀ {ns:List Int},(∀ x∈ns,0≤x)→0≤ns.sum
  | [],_=>by simp
  | n :: ns,h=>by
    have h1:=h n (by simp)
    have h2:=sumNN (ns:=ns) fun x hx=>h x (by simp [hx])
    simp only [List.sum_cons]; omega
theorem leSum:∀ {ns:List Int},(∀ x∈ns,0≤x)→∀ x∈ns,x≤ns.sum
  | [],_,x,hx=>by simp at hx
  | n :: ns,h,x,hx=>by
    have h1:=h n (by simp)
    have h2:=sumNN (ns:=ns) fun x hx=>h x (by simp [hx])
    simp only [List.sum_cons]
    rcases List.mem_cons.mp hx with rfl | hx
    · omega
    · have:=leSum (ns:=ns) (fun x hx=>h x (by simp [hx])) x hx; omega
noncomputable def YardOk (ns:List Int):Prop:=(∀ x∈ns,0≤x)∧ns.length≤200∧ns.sum≤10000∧(ns=[] ∨ ns.getD (ns.length - 1) 0≠0)
noncomputable instance (ns:List Int):Decidable (YardOk ns):=by unfold YardOk; infer_instance
noncomputable def HomeOk (ns:List Int):Prop:=YardOk ns∧ns=yardN ns.sum
noncomputable instance (ns:List Int):Decidable (HomeOk ns):=by unfold HomeOk; infer_instance
noncomputable def s2 (ns:List Int) (r:Nat):Nat→Int
  | 0=>0
  | i + 1=>s2 ns r i + if i % 2=r then ns.getD i 0 else 0
end L2
namespace L2
end L2
namespace L2
noncomputable def hs:Nat→Nat→Int→List Int
  | _,0,_=>[]
  | k,m + 1,l=>heldN (k + 1) l :: hs (k + 1) m (beyN (k + 1) l)
noncomputable def s3 (ns:List Int) (r:Nat):Nat→Int
  | 0=>0
  | i + 1=>s3 ns r i + if i % 3=r then ns.getD i 0 else 0
end L2
namespace L2
noncomputable def LineOk (ns:List Int):Prop:=(∀ x∈ns,0≤x)∧ns.length≤100∧ns.sum≤100∧(ns=[] ∨ (ns.getD 0 0≠0∧ns.getD (ns.length - 1) 0≠0))
noncomputable instance (ns:List Int):Decidable (LineOk ns):=by unfold LineOk; infer_instance
theorem getD_len {ns:List Int} {i:Nat} (h:ns.length≤i):ns.getD i 0=0:=by
  rw [List.getD_eq_getElem?_getD,List.getElem?_eq_none h]; rfl
theorem sum_nn:∀ {ns:List Int},(∀ x∈ns,0≤x)→0≤ns.sum
  | [],_=>by simp
  | x :: xs,h=>by
    have:=h x (by simp)
    have:=sum_nn (ns:=xs) (fun y hy=>h y (by simp [hy]))
    simp; omega
theorem getD_set {l:List Int} {i j:Nat} {v:Int} (h:i < l.length):(l.set i v).getD j 0=if i=j then v else l.getD j 0:=by
  simp only [List.getD_eq_getElem?_getD,List.getElem?_set,if_pos h]
  split <;> rfl
theorem mem_getD {l:List Int} {x:Int} (h:x∈l):∃ i,i < l.length∧x=l.getD i 0:=by
  obtain ⟨i,hi,rfl⟩:=List.getElem_of_mem h
  exact ⟨i,hi,by rw [List.getD_eq_getElem?_getD,List.getElem?_eq_getElem hi]; rfl⟩
end L2
namespace L2
noncomputable def cellAt (ns:List Int) (k:Nat):Int:=ns.getD k 0 % 10 ^ 61
theorem cellAt_bd (ns:List Int) (k:Nat):0≤cellAt ns k∧cellAt ns k < 10 ^ 61:=by unfold cellAt; omega
noncomputable def sumsI (ns:List Int) (later m:Nat):Nat→List Int
  | 0=>List.replicate m 0
  | i + 1=>(sumsI ns later m i).set (i % m) (((sumsI ns later m i).getD (i % m) 0 * 3 + ns.getD (later + i) 0 % 10 ^ 61) % 10 ^ 62)
@[simp] theorem sumsI_length (ns:List Int) (later m:Nat):∀ i,(sumsI ns later m i).length=m
  | 0=>by simp [sumsI]
  | i + 1=>by rw [sumsI,List.length_set,sumsI_length]
theorem sumsI_bd (ns:List Int) (later m:Nat):∀ i,∀ x∈sumsI ns later m i,0≤x∧x < 10 ^ 62
  | 0=>fun x hx=>by rw [sumsI] at hx; rw [List.eq_of_mem_replicate hx]; decide
  | i + 1=>fun x hx=>by
    rw [sumsI] at hx
    rcases List.mem_or_eq_of_mem_set hx with h | h
    · exact sumsI_bd ns later m i x h
    · rw [h]; omega
theorem getD_bd {l:List Int} {P:Int→Prop} (h:∀ x∈l,P x) (h0:P 0) (i:Nat):P (l.getD i 0):=by
  by_cases q:i < l.length
  · rw [List.getD_eq_getElem?_getD,List.getElem?_eq_getElem q]; exact h _ (List.getElem_mem q)
  · rw [getD_len (by omega)]; exact h0
noncomputable def sumsK (ns:List Int) (later m:Nat):List Int:=sumsI ns later m (ns.length - later)
@[simp] theorem sumsK_length (ns:List Int) (later m:Nat):(sumsK ns later m).length=m:=sumsI_length ..
noncomputable def stir (c j:Int):Int:=((c % 2147483647 + 1009 * j + 7) * 48271 % 2147483647) * ((c % 2147483647 + 1009 * j + 7) * 48271 % 2147483647) % 998244353 / 8
noncomputable def totK (t b:Int):Nat→Int
  | 0=>t
  | j + 1=>totK t b j / b
noncomputable def digK (t b:Int) (m:Nat):List Int:=(List.range m).map fun (j:Nat)=>totK t b j % b
theorem digK_succ (t b:Int) (m:Nat):digK t b (m + 1)=digK t b m ++ [totK t b m % b]:=by simp [digK,List.range_succ]
@[simp] theorem digK_length (t b:Int) (m:Nat):(digK t b m).length=m:=by simp [digK]
noncomputable def rowK (ns:List Int) (skip many base:Int) (mixed:Bool):List Int :=
  if mixed=true then (List.range many.toNat).map fun (j:Nat)=>stir ((sumsK ns skip.toNat (max 1 many.toNat)).getD j 0) j % base
  else digK ((ns.drop skip.toNat).map fun (c:Int)=>c % 10 ^ 61).sum base many.toNat
@[simp] theorem rowK_length (ns:List Int) (skip many base:Int) (mixed:Bool):(rowK ns skip many base mixed).length=many.toNat:=by unfold rowK; split <;> simp
theorem rowK_bd (ns:List Int) (skip many:Int) {base:Int} (hb:0 < base) (mixed:Bool):∀ x∈rowK ns skip many base mixed,0≤x∧x < base:=fun x hx=>by
  unfold rowK at hx
  split at hx
  · obtain ⟨j,_,rfl⟩:=List.mem_map.mp hx
    exact ⟨Int.emod_nonneg _ (by omega),Int.emod_lt_of_pos _ hb⟩
  · obtain ⟨j,_,rfl⟩:=List.mem_map.mp hx
    exact ⟨Int.emod_nonneg _ (by omega),Int.emod_lt_of_pos _ hb⟩
theorem sum_le_mul {l:List Int} {b:Int} (h:∀ x∈l,x≤b):l.sum≤l.length * b:=by
  induction l with
  | nil=>simp
  | cons x l ih =>
    have h1:=h x (by simp)
    have h2:=ih fun y hy=>h y (by simp [hy])
    simp only [List.sum_cons,List.length_cons]
    rw [show ((l.length + 1:Nat):Int)=(l.length:Int) + 1 by omega,Int.add_mul]
    omega
end L2
namespace My
open L2
noncomputable def tab (n:Nat) (f:Nat→Int):List Int:=(List.range n).map f
theorem tab_length (n:Nat) (f:Nat→Int):(tab n f).length=n:=by simp [tab]
theorem tab_get {n:Nat} {f:Nat→Int} {x:Nat} (h:x < n):(tab n f).getD x 0=f x:=by
  rw [List.getD_eq_getElem?_getD,tab,List.getElem?_map,List.getElem?_range h]; rfl
theorem tab_ext {n:Nat} {f:Nat→Int} {l:List Int} (hl:l.length=n) (h:∀ x,x < n→l.getD x 0=f x):l=tab n f:=by
  apply List.ext_getElem
  · rw [hl,tab_length]
  · intro i h1 h2
    have:=h i (by omega)
    rw [List.getD_eq_getElem?_getD,List.getElem?_eq_getElem h1] at this
    simp only [tab,List.getElem_map,List.getElem_range]
    exact this
theorem list_tab (l:List Int):l=tab l.length fun x=>l.getD x 0:=tab_ext rfl fun _ _=>rfl
theorem getD_set {l:List Int} {j x:Nat} {v:Int} (h:j < l.length):(l.set j v).getD x 0=if x=j then v else l.getD x 0:=by
  rw [List.getD_eq_getElem?_getD,List.getD_eq_getElem?_getD]
  by_cases e:x=j
  · subst e; rw [List.getElem?_set_self h,if_pos rfl]; rfl
  · rw [List.getElem?_set_ne (Ne.symm e),if_neg e]
theorem tab_set {n:Nat} {f:Nat→Int} {j:Nat} {v:Int} (h:j < n):(tab n f).set j v=tab n fun x=>if x=j then v else f x:=by
  refine tab_ext (by rw [List.length_set,tab_length]) fun x hx=>?_
  rw [getD_set (by rw [tab_length]; exact h)]
  by_cases e:x=j
  · rw [if_pos e,if_pos e]
  · rw [if_neg e,if_neg e,tab_get hx]
theorem tab_congr {n:Nat} {f g:Nat→Int} (h:∀ x,x < n→f x=g x):tab n f=tab n g:=tab_ext (tab_length _ _) fun x hx=>by rw [tab_get hx,h x hx]
theorem mem_tab {n:Nat} {f:Nat→Int} {v:Int}:v∈tab n f ↔ ∃ x,x < n∧f x=v:=by simp [tab]
theorem getD_mem' {l:List Int} {x:Nat} (h:x < l.length):l.getD x 0∈l:=by
  rw [List.getD_eq_getElem?_getD,List.getElem?_eq_getElem h]; exact List.getElem_mem h
theorem mem_getD' {l:List Int} {v:Int} (h:v∈l):∃ x,x < l.length∧l.getD x 0=v:=by
  obtain ⟨x,hx,e⟩:=List.getElem_of_mem h
  exact ⟨x,hx,by rw [List.getD_eq_getElem?_getD,List.getElem?_eq_getElem hx,← e]; rfl⟩
theorem sum_set':∀ {l:List Int} {j:Nat} {v:Int},j < l.length→(l.set j v).sum=l.sum - l.getD j 0 + v
  | a :: l,0,v,_=>by simp; omega
  | a :: l,j + 1,v,h=>by
    have:=sum_set' (l:=l) (j:=j) (v:=v) (by simpa using h)
    simp only [List.set_cons_succ,List.sum_cons,List.getD_cons_succ,this]; omega
theorem sum_map_add:∀ (ns:List Int) (c:Int),(ns.map fun v=>v + c).sum=ns.sum + ns.length * c
  | [],c=>by simp
  | a :: l,c=>by
    simp only [List.map_cons,List.sum_cons,List.length_cons]
    rw [sum_map_add l c,Int.natCast_add,Int.add_mul]; omega
theorem mod_sub {n a b:Int} (ha:0≤a) (ha':a < n) (hb:0≤b) (hb':b < n):(a - b) % n=if b≤a then a - b else a - b + n:=by
  by_cases h:b≤a
  · rw [if_pos h,Int.emod_eq_of_lt (by omega) (by omega)]
  · rw [if_neg h,← Int.add_emod_right,Int.emod_eq_of_lt (by omega) (by omega)]
theorem mod_add {n a b:Int} (ha:0≤a) (ha':a < n) (hb:0≤b) (hb':b < n):(a + b) % n=if a + b < n then a + b else a + b - n:=by
  by_cases h:a + b < n
  · rw [if_pos h,Int.emod_eq_of_lt (by omega) (by omega)]
  · rw [if_neg h,← Int.sub_emod_right,Int.emod_eq_of_lt (by omega) (by omega)]
structure Board (ns:List Int):Prop where
  lo:2≤ns.length
  hi:ns.length≤24
  nn:∀ x∈ns,0≤x
  sm:ns.sum≤10 ^ 60
theorem Board.nn' {ns:List Int} (h:Board ns) (x:Nat):0≤ns.getD x 0:=by
  by_cases hx:x < ns.length
  · exact h.nn _ (getD_mem' hx)
  · rw [List.getD_eq_getElem?_getD,List.getElem?_eq_none (by omega)]; exact Int.le_refl _
theorem sum_nn:∀ {l:List Int},(∀ x∈l,0≤x)→0≤l.sum
  | [],_=>by simp
  | a :: l,h=>by
    have:=sum_nn (l:=l) fun x hx=>h x (by simp [hx])
    have:=h a (by simp)
    simp only [List.sum_cons]; omega
theorem le_sum:∀ {l:List Int} {v:Int},(∀ x∈l,0≤x)→v∈l→v≤l.sum
  | a :: l,v,h,hv=>by
    have h1:=sum_nn (l:=l) fun x hx=>h x (by simp [hx])
    have h2:=h a (by simp)
    simp only [List.sum_cons]
    rcases List.mem_cons.mp hv with rfl | hv
    · omega
    · have:=le_sum (l:=l) (fun x hx=>h x (by simp [hx])) hv
      omega
noncomputable def sowA (ns:List Int) (p:Int) (x:Nat):Int:=(if (x:Int)=p then 0 else ns.getD x 0) + ns.getD p.toNat 0 / ns.length
noncomputable def sowI (n:Int) (p:Int) (i:Int) (x:Nat):Int:=if 1≤((x:Int) - p) % n∧((x:Int) - p) % n≤i then 1 else 0
noncomputable def sowF (ns:List Int) (p:Int) (i:Int) (x:Nat):Int:=sowA ns p x + sowI ns.length p i x
theorem sowI_nn (n p i:Int) (x:Nat):0≤sowI n p i x:=by unfold sowI; split <;> omega
theorem sowI_yes {n p i:Int} {x:Nat} (h:1≤((x:Int) - p) % n∧((x:Int) - p) % n≤i):sowI n p i x=1:=if_pos h
theorem sowI_no {n p i:Int} {x:Nat} (h:¬ (1≤((x:Int) - p) % n∧((x:Int) - p) % n≤i)):sowI n p i x=0:=if_neg h
theorem sowA_p {ns:List Int} {p:Int} {x:Nat} (h:(x:Int)=p):sowA ns p x=ns.getD p.toNat 0 / ns.length:=by unfold sowA; rw [if_pos h]; omega
theorem sowA_ne {ns:List Int} {p:Int} {x:Nat} (h:(x:Int)≠p):sowA ns p x=ns.getD x 0 + ns.getD p.toNat 0 / ns.length:=by unfold sowA; rw [if_neg h]
noncomputable def sowB (ns:List Int) (p:Int):List Int:=tab ns.length (sowF ns p (ns.getD p.toNat 0 % ns.length))
noncomputable def sowL (ns:List Int) (p:Int):Int:=(p + ns.getD p.toNat 0 % ns.length) % ns.length
theorem sowB_length (ns:List Int) (p:Int):(sowB ns p).length=ns.length:=tab_length _ _
section
variable {ns:List Int} {p:Int}
theorem sow_zero (h0:0≤p) (h1:p < ns.length):(ns.map fun v=>v + ns.getD p.toNat 0 / ns.length).set p.toNat (ns.getD p.toNat 0 / ns.length)=tab ns.length (sowF ns p 0):=by
  refine tab_ext (by simp) fun x hx=>?_
  rw [getD_set (by simp; omega)]
  unfold sowF
  rw [sowI_no (by omega)]
  by_cases e:x=p.toNat
  · rw [if_pos e,sowA_p (by omega)]; omega
  · rw [if_neg e,sowA_ne (by omega)]
    simp [List.getD_eq_getElem?_getD,List.getElem?_eq_getElem hx]
theorem sow_step (h0:0≤p) (h1:p < ns.length) {i:Nat} (hi:(i:Int) + 1 < ns.length) :
    (tab ns.length (sowF ns p i)).set ((p + (i + 1)) % ns.length).toNat (sowF ns p i ((p + (i + 1)) % ns.length).toNat + 1)=tab ns.length (sowF ns p ((i + 1:Nat):Int)):=by
  have m1:=mod_add h0 h1 (show (0:Int)≤(i:Int) + 1 by omega) hi
  have hlt:((p + ((i:Int) + 1)) % ns.length).toNat < ns.length:=by
    rw [m1]; split <;> omega
  rw [tab_set hlt]
  refine tab_congr fun x hx=>?_
  have m2:=mod_sub (n:=ns.length) (show (0:Int)≤(x:Int) by omega) (by omega) h0 h1
  by_cases e:x=((p + ((i:Int) + 1)) % ns.length).toNat
  · rw [if_pos e,← e]
    unfold sowF
    have hd:((x:Int) - p) % ns.length=i + 1:=by
      rw [m2]
      rw [m1] at e
      split at e <;> split <;> omega
    rw [sowI_no (by omega),sowI_yes (by omega)]; omega
  · rw [if_neg e]
    unfold sowF
    have hd:((x:Int) - p) % ns.length≠i + 1:=by
      intro z
      apply e
      rw [m2] at z
      rw [m1]
      split at z <;> split <;> omega
    by_cases q:1≤((x:Int) - p) % ns.length∧((x:Int) - p) % ns.length≤i
    · rw [sowI_yes q,sowI_yes (by omega)]
    · rw [sowI_no q,sowI_no (by omega)]
theorem sow_sum_i (h0:0≤p) (h1:p < ns.length):∀ i:Nat,(i:Int) < ns.length→(tab ns.length (sowF ns p i)).sum=ns.sum + ns.length * (ns.getD p.toNat 0 / ns.length) - ns.getD p.toNat 0 + i
  | 0,_=>by
    have:=sow_zero h0 h1
    rw [Int.natCast_zero,← this,sum_set' (by simp; omega)]
    have e:=sum_map_add ns (ns.getD p.toNat 0 / ns.length)
    rw [e]
    have e2:(ns.map fun v=>v + ns.getD p.toNat 0 / ns.length).getD p.toNat 0=ns.getD p.toNat 0 + ns.getD p.toNat 0 / ns.length:=by
      have hx:p.toNat < ns.length:=by omega
      rw [List.getD_eq_getElem?_getD,List.getElem?_map,List.getElem?_eq_getElem hx]
      simp [hx]
    rw [e2]; omega
  | i + 1,hi=>by
    have ih:=sow_sum_i h0 h1 i (by omega)
    have m1:=mod_add h0 h1 (show (0:Int)≤(i:Int) + 1 by omega) (by omega)
    have hlt:((p + ((i:Int) + 1)) % ns.length).toNat < ns.length:=by rw [m1]; split <;> omega
    rw [← sow_step h0 h1 (by omega),sum_set' (by rw [tab_length]; exact hlt),ih,tab_get hlt]; omega
theorem sowB_sum (h0:0≤p) (h1:p < ns.length) (hs:0≤ns.getD p.toNat 0):(sowB ns p).sum=ns.sum:=by
  have b1:=Int.emod_nonneg (ns.getD p.toNat 0) (show (ns.length:Int)≠0 by omega)
  have b2:=Int.emod_lt_of_pos (ns.getD p.toNat 0) (show (0:Int) < ns.length by omega)
  have:=sow_sum_i h0 h1 (ns.getD p.toNat 0 % ns.length).toNat (by omega)
  rw [Int.toNat_of_nonneg b1] at this
  have e:=Int.mul_ediv_add_emod (ns.getD p.toNat 0) ns.length
  unfold sowB
  omega
theorem sowF_nn (hn:∀ x∈ns,0≤x) (i:Int) (x:Nat) (hx:x < ns.length):0≤sowF ns p i x:=by
  have h1:=hn _ (getD_mem' hx)
  have h2:0≤ns.getD p.toNat 0:=by
    by_cases hp:p.toNat < ns.length
    · exact hn _ (getD_mem' hp)
    · rw [List.getD_eq_getElem?_getD,List.getElem?_eq_none (by omega)]; exact Int.le_refl _
  have h3:=Int.ediv_nonneg h2 (show (0:Int)≤ns.length by omega)
  have h4:=sowI_nn ns.length p i x
  unfold sowF sowA
  split <;> omega
end
noncomputable def run (f:Nat→Int):Nat→Nat→Nat
  | 0,i=>i
  | k + 1,i=>if 0 < f i then run f k (i + 1) else i
theorem run_spec (f:Nat→Int):∀ (k i:Nat),i≤run f k i∧run f k i≤i + k∧(∀ j,i≤j→j < run f k i→0 < f j)∧(run f k i < i + k→¬ 0 < f (run f k i))
  | 0,i=>⟨Nat.le_refl _,Nat.le_refl _,fun j h1 h2=>by simp only [run] at h2; omega,fun h=>by simp only [run] at h; omega⟩
  | k + 1,i=>by
    unfold run
    by_cases h:0 < f i
    · rw [if_pos h]
      obtain ⟨a,b,c,d⟩:=run_spec f k (i + 1)
      refine ⟨by omega,by omega,fun j h1 h2=>?_,fun h=>d (by omega)⟩
      by_cases e:j=i
      · subst e; assumption
      · exact c j (by omega) h2
    · rw [if_neg h]
      exact ⟨Nat.le_refl _,by omega,fun j h1 h2=>by omega,fun _=>h⟩
noncomputable def tbG (ns:List Int) (q:Int) (i:Nat):Int:=ns.getD ((q - i) % ns.length).toNat 0 - minI ns
noncomputable def tbJ (ns:List Int) (q:Int):Nat:=run (tbG ns q) ns.length 0
noncomputable def tbF (ns:List Int) (q:Int) (i:Nat) (x:Nat):Int:=ns.getD x 0 - minI ns - (if (q - x) % (ns.length:Int) < i then 1 else 0)
noncomputable def tbP (ns:List Int) (q:Int):Int:=(q - tbJ ns q) % ns.length
noncomputable def tbT (ns:List Int) (q:Int):Int:=minI ns * ns.length + tbJ ns q
noncomputable def tbB (ns:List Int) (q:Int):List Int:=(tab ns.length (tbF ns q (tbJ ns q))).set (tbP ns q).toNat (tbT ns q)
theorem tbB_length (ns:List Int) (q:Int):(tbB ns q).length=ns.length:=by simp [tbB,tab_length]
section
variable {ns:List Int} {q:Int}
theorem tbJ_spec (h0:0≤q) (h1:q < ns.length):tbJ ns q < ns.length∧(∀ i,i < tbJ ns q→0 < tbG ns q i)∧tbG ns q (tbJ ns q)=0:=by
  have hne:ns≠[]:=by intro e; rw [e] at h1; simp at h1; omega
  obtain ⟨x,hx,ex⟩:=mem_getD' (minI_mem hne)
  have m1:=mod_sub (n:=ns.length) h0 h1 (show (0:Int)≤x by omega) (by omega)
  have b1:0≤(q - x) % (ns.length:Int)∧(q - x) % (ns.length:Int) < ns.length:=by rw [m1]; split <;> omega
  have gx:tbG ns q ((q - x) % (ns.length:Int)).toNat=0:=by
    unfold tbG
    have:((q - (((q - x) % (ns.length:Int)).toNat:Nat)) % (ns.length:Int)).toNat=x:=by
      rw [Int.toNat_of_nonneg b1.1,mod_sub h0 h1 b1.1 b1.2,m1]
      split <;> split <;> omega
    rw [this,ex]; omega
  obtain ⟨a,b,c,d⟩:=run_spec (tbG ns q) ns.length 0
  have hlt:tbJ ns q < ns.length:=by
    unfold tbJ
    by_cases h:run (tbG ns q) ns.length 0 < ns.length
    · exact h
    · have:=c ((q - x) % (ns.length:Int)).toNat (by omega) (by omega)
      rw [gx] at this; omega
  refine ⟨hlt,fun i hi=>c i (by omega) hi, ?_⟩
  have h3:=d (by unfold tbJ at hlt; omega)
  have h4:0≤tbG ns q (tbJ ns q):=by
    unfold tbG
    have:=minI_le (ns:=ns) (getD_mem' (x:=((q - tbJ ns q) % (ns.length:Int)).toNat) (by
      have:=Int.emod_nonneg (q - tbJ ns q) (show (ns.length:Int)≠0 by omega)
      have:=Int.emod_lt_of_pos (q - tbJ ns q) (show (0:Int) < ns.length by omega)
      omega))
    omega
  have h5:¬ 0 < tbG ns q (tbJ ns q):=h3
  omega
theorem tb_step (h0:0≤q) (h1:q < ns.length) {i:Nat} (hi:i < ns.length):(tab ns.length (tbF ns q i)).set ((q - i) % ns.length).toNat (tbF ns q i ((q - i) % ns.length).toNat - 1)=tab ns.length (tbF ns q (i + 1)):=by
  have m1:=mod_sub (n:=ns.length) h0 h1 (show (0:Int)≤i by omega) (by omega)
  have hlt:((q - (i:Int)) % ns.length).toNat < ns.length:=by rw [m1]; split <;> omega
  rw [tab_set hlt]
  refine tab_congr fun x hx=>?_
  have m2:=mod_sub (n:=ns.length) h0 h1 (show (0:Int)≤(x:Int) by omega) (by omega)
  by_cases e:x=((q - (i:Int)) % ns.length).toNat
  · rw [if_pos e,← e]
    unfold tbF
    have hd:(q - (x:Int)) % ns.length=i:=by
      rw [m2]; rw [m1] at e
      split at e <;> split <;> omega
    rw [hd,if_neg (by omega),if_pos (by omega)]; omega
  · rw [if_neg e]
    unfold tbF
    have hd:(q - (x:Int)) % ns.length≠i:=by
      intro z; apply e
      rw [m2] at z; rw [m1]
      split at z <;> split <;> omega
    by_cases h:(q - (x:Int)) % ns.length < i
    · rw [if_pos h,if_pos (by omega)]
    · rw [if_neg h,if_neg (by omega)]
theorem tbF_at (h0:0≤q) (h1:q < ns.length) {i:Nat} (hi:i < ns.length):tbF ns q i ((q - i) % ns.length).toNat=tbG ns q i:=by
  have m1:=mod_sub (n:=ns.length) h0 h1 (show (0:Int)≤i by omega) (by omega)
  have hb:0≤(q - (i:Int)) % ns.length∧(q - (i:Int)) % ns.length < ns.length:=by rw [m1]; split <;> omega
  unfold tbF tbG
  rw [Int.toNat_of_nonneg hb.1,mod_sub h0 h1 hb.1 hb.2,m1]
  have:¬ ((if (if (i:Int)≤q then q - i else q - i + ns.length)≤q then q - (if (i:Int)≤q then q - i else q - i + ns.length) else q - (if (i:Int)≤q then q - i else q - i + ns.length) + ns.length) < (i:Int)):=by
    split <;> split <;> omega
  rw [if_neg this]; omega
end
theorem sow_back {ns:List Int} {q:Int} (h0:0≤q) (h1:q < ns.length) (hn:∀ x∈ns,0≤x):sowB (tbB ns q) (tbP ns q)=ns∧sowL (tbB ns q) (tbP ns q)=q:=by
  have len:=tbB_length ns q
  obtain ⟨j1,j2,j3⟩:=tbJ_spec h0 h1
  have hne:ns≠[]:=by intro e; rw [e] at h1; simp at h1; omega
  have hm:=hn _ (minI_mem hne)
  have m0:=mod_sub (n:=ns.length) h0 h1 (show (0:Int)≤(tbJ ns q:Nat) by omega) (by omega)
  have eP:tbP ns q=if ((tbJ ns q:Nat):Int)≤q then q - tbJ ns q else q - tbJ ns q + ns.length:=m0
  have hP:0≤tbP ns q∧tbP ns q < ns.length:=by rw [eP]; split <;> omega
  have hp:(tbP ns q).toNat < ns.length:=by omega
  have get:∀ x,x < ns.length→(tbB ns q).getD x 0=if x=(tbP ns q).toNat then tbT ns q else tbF ns q (tbJ ns q) x:=fun x hx=>by
    unfold tbB
    rw [getD_set (by rw [tab_length]; exact hp),tab_get hx]
  have gp:(tbB ns q).getD (tbP ns q).toNat 0=tbT ns q:=by rw [get _ hp,if_pos rfl]
  have et:tbT ns q / ns.length=minI ns∧tbT ns q % ns.length=tbJ ns q:=by
    unfold tbT
    constructor
    · rw [Int.add_comm,Int.add_mul_ediv_right _ _ (by omega),Int.ediv_eq_zero_of_lt (by omega) (by omega)]; omega
    · rw [Int.add_comm,Int.add_mul_emod_self_right,Int.emod_eq_of_lt (by omega) (by omega)]
  constructor
  · unfold sowB
    rw [len]
    refine ((list_tab ns).trans (tab_congr fun x hx=>?_)).symm
    unfold sowF
    rw [gp,len,et.2]
    have m1:=mod_sub (n:=ns.length) (show (0:Int)≤x by omega) (by omega) hP.1 hP.2
    have m2:=mod_sub (n:=ns.length) h0 h1 (show (0:Int)≤x by omega) (by omega)
    by_cases e:(x:Int)=tbP ns q
    · rw [sowA_p e,gp,len,et.1,sowI_no (by rw [e,Int.sub_self,Int.zero_emod]; omega)]
      have:x=((q - (tbJ ns q:Nat)) % (ns.length:Int)).toNat:=by
        show x=(tbP ns q).toNat
        omega
      unfold tbG at j3
      rw [← this] at j3; omega
    · rw [sowA_ne e,gp,len,et.1,get x hx,if_neg (by omega)]
      unfold tbF
      have key:(1≤((x:Int) - tbP ns q) % ns.length∧((x:Int) - tbP ns q) % ns.length≤(tbJ ns q:Int)) ↔ (q - x) % (ns.length:Int) < (tbJ ns q:Int):=by
        rw [m1,m2]
        rw [eP] at e ⊢
        split <;> split <;> split at * <;> omega
      by_cases c:(q - x) % (ns.length:Int) < (tbJ ns q:Int)
      · rw [if_pos c,sowI_yes (key.mpr c)]; omega
      · rw [if_neg c,sowI_no (fun z=>c (key.mp z))]; omega
  · unfold sowL
    rw [gp,len,et.2,mod_add hP.1 hP.2 (by omega) (by omega),eP]
    split <;> split <;> omega
end My
namespace My
open L2
structure Stand (ns:List Int) (p:Int):Prop where
  bd:Board ns
  lo:0≤p
  hi:p < ns.length
  pos:0 < ns.getD p.toNat 0
noncomputable def sowS (a:List Int × Int):List Int × Int:=(sowB a.1 a.2,sowL a.1 a.2)
noncomputable def tbS (a:List Int × Int):List Int × Int:=(tbB a.1 a.2,tbP a.1 a.2)
theorem sow_board {ns:List Int} {p:Int} (h:Stand ns p):Board (sowB ns p):=by
  have:=h.lo; have:=h.hi
  refine ⟨by rw [sowB_length]; exact h.bd.lo,by rw [sowB_length]; exact h.bd.hi,fun x hx=>?_, ?_⟩
  · obtain ⟨y,hy,rfl⟩:=mem_tab.mp hx
    exact sowF_nn h.bd.nn _ y hy
  · rw [sowB_sum h.lo h.hi (h.bd.nn' _)]; exact h.bd.sm
theorem tbP_bound {ns:List Int} {q:Int} (h1:0 < ns.length):0≤tbP ns q∧tbP ns q < ns.length :=
  ⟨Int.emod_nonneg _ (by omega),Int.emod_lt_of_pos _ (by omega)⟩
theorem tb_stand {ns:List Int} {q:Int} (h:Stand ns q):Stand (tbB ns q) (tbP ns q):=by
  have h0:=h.lo
  have h1:=h.hi
  have hs:=h.pos
  obtain ⟨p0,p1⟩:=tbP_bound (ns:=ns) (q:=q) (by omega)
  obtain ⟨j1,j2,j3⟩:=tbJ_spec h0 h1
  have hne:ns≠[]:=by intro e; rw [e] at h1; simp at h1; omega
  have hm:=h.bd.nn _ (minI_mem hne)
  have hT:0 < tbT ns q:=by
    unfold tbT
    by_cases c:tbJ ns q=0
    · unfold tbG at j3
      rw [c,Int.natCast_zero,Int.sub_zero,Int.emod_eq_of_lt h0 h1] at j3
      have:0 < minI ns:=by omega
      have:=Int.mul_pos this (show (0:Int) < ns.length by omega)
      omega
    · have:=Int.mul_nonneg hm (show (0:Int)≤ns.length by omega)
      omega
  have hpl:(tbP ns q).toNat < ns.length:=by omega
  have nn:∀ x∈tbB ns q,0≤x:=fun x hx=>by
    unfold tbB at hx
    rcases List.mem_or_eq_of_mem_set hx with z | z
    · obtain ⟨y,hy,rfl⟩:=mem_tab.mp z
      have ml:=minI_le (ns:=ns) (getD_mem' hy)
      unfold tbF
      split
      · rename_i c
        have m:=mod_sub (n:=ns.length) h0 h1 (show (0:Int)≤y by omega) (by omega)
        have g:=j2 ((q - (y:Int)) % ns.length).toNat (by have:=Int.emod_nonneg (q - (y:Int)) (show (ns.length:Int)≠0 by omega); omega)
        unfold tbG at g
        have e:((q - (((q - (y:Int)) % ns.length).toNat:Nat)) % (ns.length:Int)).toNat=y:=by
          have b:0≤(q - (y:Int)) % ns.length∧(q - (y:Int)) % ns.length < ns.length:=by rw [m]; split <;> omega
          rw [Int.toNat_of_nonneg b.1,mod_sub h0 h1 b.1 b.2,m]
          split <;> split <;> omega
        rw [e] at g; omega
      · omega
    · omega
  have hsum:(tbB ns q).sum=ns.sum:=by
    have e:=(sow_back h0 h1 h.bd.nn).1
    have:=sowB_sum (ns:=tbB ns q) (p:=tbP ns q) p0 (by rw [tbB_length]; exact p1) (by
      by_cases hx:(tbP ns q).toNat < (tbB ns q).length
      · exact nn _ (getD_mem' hx)
      · rw [List.getD_eq_getElem?_getD,List.getElem?_eq_none (by omega)]; exact Int.le_refl _)
    rw [e] at this
    exact this.symm
  refine ⟨⟨by rw [tbB_length]; exact h.bd.lo,by rw [tbB_length]; exact h.bd.hi,nn,by rw [hsum]; exact h.bd.sm⟩,p0,by rw [tbB_length]; exact p1, ?_⟩
  unfold tbB
  rw [getD_set (by rw [tab_length]; exact hpl),if_pos rfl]
  exact hT
noncomputable def its {α:Type} (f:α→α):Nat→α→α
  | 0,a=>a
  | n + 1,a=>f (its f n a)
end My
namespace My
open L2
section
variable {ns:List Int} {q:Int}
end
end My
namespace L2
open PySem PySem.Spec PyProof.Rows
noncomputable def KD {α:Type}:Sem α→Prop
  | .pure _=>True
  | .raise _=>True
  | .unsupported _=>True
  | .finish _=>True
  | .rule _ k=>KD (k ())
  | .at _ k=>KD (k ())
  | .load _ _ k=>∀ o,KD (k o)
  | .update _ _ f k=>(∀ o:Obj,(f o).dict=o.dict∧(o.isFreed=false→(f o).isFreed=false))∧KD (k ())
  | .alloc _ k=>∀ a,KD (k a)
  | .loadIfAlive _ k=>∀ o,KD (k o)
  | .point _ k=>KD (k ())
  | .register _ _=>True
  | .fresh k=>∀ t,KD (k t)
  | .ask k=>∀ x,KD (k x)
  | .choose _ _ k=>∀ n,KD (k n)
  | .os _ _ k=>∀ r,KD (k r)
  | .call _ _ _ _ _=>False
  | .handled _ k=>∀ x,KD (k x)
  | .newGen _ k=>∀ g,KD (k g)
  | .genState _ k=>∀ x,KD (k x)
  | .resume _ _ _ _=>False
  | .yield _ _ _ _=>True
  | .stack k=>∀ x,KD (k x)
  | .fork _ _=>True
  | .thread k=>∀ x,KD (k x)
  | .await _ _ _ _ _=>True
noncomputable def DK (h h':Heap):Prop:=∀ b o,h.get? b=some o→∃ o',h'.get? b=some o'∧o'.dict=o.dict
theorem DK.refl (h:Heap):DK h h:=fun b o e=>⟨o,e,rfl⟩
theorem DK.trans {h1 h2 h3:Heap} (a:DK h1 h2) (b:DK h2 h3):DK h1 h3:=fun x o e=>by
  obtain ⟨o1,e1,d1⟩:=a x o e
  obtain ⟨o2,e2,d2⟩:=b x o1 e1
  exact ⟨o2,e2,d2.trans d1⟩
theorem kd_wp {M:Model} {Γ:PySem.Ctx} {α:Type} {Q:α→Pos→Shared→Prop} {E:Value→Pos→Shared→Prop} {h0:Heap}:∀ (t:Sem α) (p:Pos) (s:Shared),KD t→DK h0 s.heap→Sem.wp M Γ t Q E p s →
    Sem.wp M Γ t (fun a p' s'=>Q a p' s'∧DK h0 s'.heap) (fun e p' s'=>E e p' s'∧DK h0 s'.heap) p s:=by
  intro t
  induction t with
  | pure a=>intro p s _ d h; exact ⟨h,d⟩
  | raise e=>intro p s _ d h; exact ⟨h,d⟩
  | unsupported w=>intro p s _ _ h; exact h
  | finish e=>intro p s _ _ h; exact h
  | rule t k ih=>intro p s k d h; exact ih () p s k d h
  | «at» q k ih=>intro p s k d h; exact ih () q s k d h
  | load a q k ih=>intro p s k d h; obtain ⟨o,e,h⟩:=h; exact ⟨o,e,ih o p s (k o) d h⟩
  | update a q f k ih =>
    intro p s k d h
    refine ⟨h.1,ih () p _ k.2 (d.trans fun b o e=>?_) h.2⟩
    by_cases hb:a=b
    · subst hb
      exact ⟨_,Heap.get?_update_self f e ((k.1 o).2 (Heap.get?_some_iff.mp e).2),(k.1 o).1⟩
    · exact ⟨o,(Heap.get?_update_other _ f hb).trans e,rfl⟩
  | alloc o k ih=>intro p s k d h; exact ih _ p _ (k _) (d.trans fun b o' e=>⟨o',Heap.get?_push_of_some _ e,rfl⟩) h
  | loadIfAlive a k ih=>intro p s k d h; exact ih _ p s (k _) d h
  | point l k ih=>intro p s k d h; exact ih () p s k d h
  | register a k ih=>intro p s _ _ h; exact h
  | fresh k ih=>intro p s k d h; exact ih _ p _ (k _) d h
  | ask k ih=>intro p s k d h; exact ih _ p _ (k _) d h
  | choose a n k ih=>intro p s k d h; exact ⟨h.1,ih _ p _ (k _) d h.2⟩
  | os q l k ih=>intro p s k d h; exact ih _ p _ (k _) d h
  | call c h g l k ih=>intro p s k d h; exact k.elim
  | handled o k ih=>intro p s k d h; exact ih _ p _ (k _) d h
  | newGen c k ih=>intro p s k d h; exact ih _ p _ (k _) d h
  | genState g k ih=>intro p s k d h; obtain ⟨st,e,h⟩:=h; exact ⟨st,e,ih _ p s (k _) d h⟩
  | resume g r l k ih=>intro p s k d h; exact k.elim
  | yield v g l k ih=>intro p s _ _ h; exact h
  | stack k ih=>intro p s k d h; exact ih _ p _ (k _) d h
  | fork c k ih=>intro p s _ _ h; exact h
  | thread k ih=>intro p s k d h; exact ih _ p _ (k _) d h
  | await a t d l k ih=>intro p s _ _ h; exact h
theorem kd_any {M:Model} {A:Around} {α:Type} {t:Sem α} {Q:α→Shared→Prop} {E:Value→Shared→Prop} {s:Shared} (k:KD t) (h:wpAny M A t Q E s):wpAny M A t (fun a s'=>Q a s'∧DK s.heap s'.heap) (fun e s'=>E e s'∧DK s.heap s'.heap) s :=
  fun Γ p hΓ=>kd_wp t p s k (DK.refl _) (h Γ p hΓ)
theorem kd_bind {α β:Type}:∀ (m:Sem α) {f:α→Sem β},KD m→(∀ a,KD (f a))→KD (m >>= f):=by
  intro m f
  show KD m→_→KD (m.bind f)
  induction m with
  | pure a=>intro _ h; exact h a
  | raise e=>intro _ _; trivial
  | unsupported w=>intro _ _; trivial
  | finish e=>intro _ _; trivial
  | rule t k ih=>intro k h; exact ih () k h
  | «at» q k ih=>intro k h; exact ih () k h
  | load a q k ih=>intro k h o; exact ih o (k o) h
  | update a q g k ih=>intro k h; exact ⟨k.1,ih () k.2 h⟩
  | alloc o k ih=>intro k h a; exact ih a (k a) h
  | loadIfAlive a k ih=>intro k h o; exact ih o (k o) h
  | point l k ih=>intro k h; exact ih () k h
  | register a k ih=>intro _ _; trivial
  | fresh k ih=>intro k h a; exact ih a (k a) h
  | ask k ih=>intro k h a; exact ih a (k a) h
  | choose a n k ih=>intro k h a; exact ih a (k a) h
  | os q l k ih=>intro k h a; exact ih a (k a) h
  | call c h g l k ih=>intro k h; exact k.elim
  | handled o k ih=>intro k h a; exact ih a (k a) h
  | newGen c k ih=>intro k h a; exact ih a (k a) h
  | genState g k ih=>intro k h a; exact ih a (k a) h
  | resume g r l k ih=>intro k h; exact k.elim
  | yield v g l k ih=>intro _ _; trivial
  | stack k ih=>intro k h a; exact ih a (k a) h
  | fork c k ih=>intro _ _; trivial
  | thread k ih=>intro k h a; exact ih a (k a) h
  | await a t d l k ih=>intro _ _; trivial
theorem kd_pure {α:Type} {a:α}:KD (pure a:Sem α):=trivial
theorem kd_un {α:Type} {w:String}:KD (unsupported w:Sem α):=trivial
theorem kd_load {a:Addr}:KD (load a):=fun _=>trivial
theorem kd_map (g:Array Value→Array Value) (o:Obj):(Obj.mapFields g o).dict=o.dict∧(o.isFreed=false→(Obj.mapFields g o).isFreed=false):=by
  obtain ⟨c,d,dt,sl⟩:=o
  cases dt <;> exact ⟨rfl,fun h=>h⟩
theorem kd_fieldsOf (v:Value):KD (fieldsOf v):=by
  unfold fieldsOf
  cases v <;> try exact kd_un
  refine kd_bind _ kd_load fun o=>?_
  cases o.data <;> first | exact kd_pure | exact kd_un
theorem kd_field (v:Value) (i:Nat):KD (field v i):=by
  unfold field
  refine kd_bind _ (kd_fieldsOf v) fun vs=>?_
  cases vs[i]? <;> first | exact kd_pure | exact kd_un
theorem kd_setField (v:Value) (i:Nat) (x:Value):KD (setField v i x):=by
  unfold setField
  cases v <;> try exact kd_un
  unfold updateField
  refine kd_bind _ kd_load fun o=>?_
  cases o.data <;> try exact kd_un
  dsimp only
  split
  · exact ⟨fun o=>kd_map _ o,trivial⟩
  · exact kd_un
theorem kd_setFlight (e:Value) (f:Option Addr):KD (setFlight e f):=by
  unfold setFlight
  refine kd_bind _ (kd_field e 1) fun tb=>?_
  split
  · exact kd_setField _ _ _
  · exact kd_pure
theorem kd_newFields (ty:String) (vs:List Value):KD (newFields ty vs):=by
  unfold newFields newObj newObjAsIs
  dsimp only
  have al:∀ (o:Obj),KD (alloc o):=fun _ _=>trivial
  split
  · exact kd_bind _ kd_un fun _=>kd_bind _ (al _) fun _=>kd_pure
  · exact kd_bind _ (al _) fun _=>kd_pure
theorem kd_behind (env:Env) (outer:List Env):KD (behindIsImport env outer):=by
  unfold behindIsImport
  split
  · exact kd_pure
  · split
    · exact kd_pure
    · exact kd_bind _ (kd_field _ _) fun _=>kd_pure
theorem kd_keptBack (env:Env) (i:Bool) (outer:List Env):KD (keptBack env i outer):=by
  cases outer with
  | nil =>
    have u:KD underTheClaimsCaller:=by
      unfold underTheClaimsCaller
      exact kd_bind _ (show KD stack from fun _=>trivial) fun _=>kd_pure
    rw [keptBack]
    split
    · exact kd_pure
    · exact kd_bind _ u fun _=>kd_pure
  | cons c r=>unfold keptBack; exact kd_pure
theorem kd_slots {o:Obj} {sl:Array (Option Value)}:({ o with slots:=sl }:Obj).dict=o.dict∧(o.isFreed=false→({ o with slots:=sl }:Obj).isFreed=false):=by
  obtain ⟨c,d,dt,s⟩:=o
  cases dt <;> exact ⟨rfl,fun h=>h⟩
theorem kd_ready:∀ (l:List Env),KD (readyFrames l)
  | []=>trivial
  | env :: outer=>by
    unfold readyFrames
    cases env.frame with
    | none=>exact kd_un
    | some f =>
      dsimp only
      refine kd_bind _ kd_load fun o=>?_
      split
      · exact kd_pure
      · refine kd_bind _ (kd_behind _ _) fun _=>kd_bind _ (kd_keptBack _ _ _) fun _=>kd_bind _ ⟨fun o=>kd_slots,trivial⟩ fun _=>kd_ready outer
theorem kd_frameOf (env:Env):KD (PySem.frameOf env):=by
  unfold PySem.frameOf
  refine kd_bind _ ?_ fun l=>kd_bind _ ?_ fun r=>?_
  · unfold frameEnvs
    exact kd_bind _ (fun _=>trivial) fun _=>kd_pure
  · cases (List.dropWhile (fun x=>x.frame != env.frame) l) with
    | nil=>exact kd_pure
    | cons a r=>exact kd_bind _ (kd_ready _) fun _=>kd_pure
  · cases r <;> first | exact kd_pure | exact kd_un
theorem kd_place (f:Addr) (b:Bool):KD (entryPlaceOf f b):=by
  unfold entryPlaceOf
  refine kd_bind _ (show KD stack from fun _=>trivial) fun acts=>?_
  split <;> exact kd_pure
theorem kd_note (e:Value) (env:Env):KD (noteFrame e env):=by
  unfold noteFrame
  cases env.frame with
  | none=>exact kd_un
  | some f =>
    dsimp only
    refine kd_bind _ (kd_field _ _) fun head=>?_
    have tail:∀ (hd:Bool),KD (do setField e 1 (← EntryCells.newEntry head (← PySem.frameOf env) .none (rawInt f) .none (← entryPlaceOf f hd))):=fun hd =>
      kd_bind _ (kd_frameOf env) fun _=>kd_bind _ (kd_place _ _) fun _=>kd_bind _ (kd_newFields _ _) fun _=>kd_setField _ _ _
    split
    · refine kd_bind _ (kd_field _ _) fun x=>?_
      split
      · exact kd_pure
      · exact kd_bind _ (kd_setField _ _ _) fun _=>tail _
    · exact tail _
theorem kd_leaving (env:Env) (e:Value):KD (leaving env e):=kd_bind _ (kd_note e env) fun _=>kd_setFlight e none
end L2
namespace L2
open PySem PySem.Spec PyProof.Rows
theorem ObjOk.there {P:Program} {w:World} {H:Hp} {h:Heap} {a:Addr} {o:HO} (x:ObjOk P w H h a o):∃ u,h.get? a=some u:=by
  cases o with
  | lst xs=>obtain ⟨_,_,_,_,e⟩:=x; exact ⟨_,e⟩
  | tup xs=>obtain ⟨_,_,_,_,e,_⟩:=x; exact ⟨_,e⟩
  | dK kvs=>obtain ⟨_,_,_,_,o,_,_,e,_⟩:=x; exact ⟨_,e⟩
  | dT kvs=>obtain ⟨_,_,_,_,o,_,_,e,_⟩:=x; exact ⟨_,e⟩
  | set S n=>obtain ⟨o,_,_,_,e,_⟩:=x; exact ⟨_,e⟩
  | ins C dx fs=>obtain ⟨_,_,_,e,_⟩:=x; exact ⟨_,e⟩
  | own y=>obtain ⟨_,e⟩:=x; exact ⟨_,e⟩
  | xd fs=>obtain ⟨_,⟨_,_,_,e,_⟩,_⟩:=x; exact ⟨_,e⟩
  | rng lo hi=>obtain ⟨_,_,_,e⟩:=x; exact ⟨_,e⟩
  | frz ob u=>exact ⟨_,x.1⟩
  | tbl ps=>exact ⟨_,x⟩
  | met f y=>exact ⟨_,x⟩
  | ext φ=>exact x.2.1
noncomputable def KeyD (H:Hp) (ea k:Addr) (o:Obj):Prop:=(o.dict=none∧k=ea) ∨ (o.dict=some k∧∃ fs,H k=some (.xd fs))
structure Fly (P:Program) (w:World) (outer:List Env) (H:Hp) (s:Shared) (ea k:Addr) (cls:Value) (H':Hp) (s':Shared):Prop where
  os:s'.os=s.os
  bare:AllBare s'.gens
  un:Un (frs outer) [] H H' s.heap s'.heap
  hok:HOk P w H' s'.heap
  new:H' ea=none
  dict:∃ o,s'.heap.get? ea=some o∧KeyD H' ea k o
  fly:∃ (Bh:Heap) (t:Addr),Heap.FlyingW Bh outer ea cls (.ref t) s'.heap∧(∀ b u,H' b=some u→∀ o,s'.heap.get? b=some o→Bh.get? b=some o)∧∀ b o,s.heap.get? b=some o→b ∉ frs outer→∃ o',Bh.get? b=some o'
noncomputable def CX1 (P:Program) (w:World):CXT:=fun outer H s E e s'=>∃ ea k cls H',e=.ref ea∧Fly P w outer H s ea k cls H' s'∧E cls (some k) H'
section
variable {P:Program} {w:World} {K:PySem.W.Frag} {mg:Str→Option Value} {base:Heap} {N:List Str} {qual:Str} {scope:Scope} {f:Addr} {cd:Value} {A:Around} {outer:List Env} {s:Shared} {H:Hp} {E:XK}
  {pins:List (Addr × Obj)} {σ:St} {H1 H':Hp} {s1 s':Shared} {g h'' Bh:Heap} {ea k t:Addr} {cls:Value}
theorem fly_out (I:Inv (cxOf (CX1 P w) P w K mg base N qual scope f cd A outer s H E) pins σ H1 s1) (os:s'.os=s1.os) (bare:AllBare s'.gens) (un:Un (s.heap.objs.size :: frs outer) [] H1 H' s1.heap g) (hok:HOk P w H' g) (up:g.UpToSlots h'')
    (fl:Heap.FlyingW Bh outer ea cls (.ref t) h'') (st:Bh.StaysIn g) (c1:∀ b u,H' b=some u→∀ o,g.get? b=some o→Bh.get? b=some o) (c2:∀ b o,s.heap.get? b=some o→b ∉ s.heap.objs.size :: frs outer→∃ o',Bh.get? b=some o')
    (new:H' ea=none) (dn:∃ o,g.get? ea=some o∧KeyD H' ea k o) (dk:DK g h''):Fly P w outer H s ea k cls H' { s' with heap:=h'' }:=by
  have neL:∀ b o,s.heap.get? b=some o→b≠s.heap.objs.size:=fun b o e=>Nat.ne_of_lt (Heap.lt_size e)
  have nin:∀ b o,s.heap.get? b=some o→b ∉ frs outer→b ∉ s.heap.objs.size :: frs outer:=fun b o e n z=>(List.mem_cons.mp z).elim (neL b o e) n
  have b0:Un (frs outer) [] H H1 s.heap s1.heap:=I.base
  have fr0:∀ b∈frs outer,H b=none:=I.ok.frf
  have slot:∀ b o,s.heap.get? b=some o→H b=none→b∈frs outer→∃ sl,h''.get? b=some { o with slots:=sl }:=fun b o q n hb=>by
    obtain ⟨s2,e1⟩:=b0.slot b o q n hb (by simp)
    obtain ⟨s3,e2⟩:=un.slot b _ e1 (b0.free b o q n (by simp)) (List.mem_cons_of_mem _ hb) (by simp)
    obtain ⟨_,o',ho',hnf⟩:=Heap.FunFrames.mem (show s.heap.FunFrames base outer from I.ok.funs) hb
    rw [q] at ho'; cases ho'
    obtain ⟨s4,e3⟩:=up b _ e2 hnf
    exact ⟨s4,e3⟩
  have keepB:∀ b o,s.heap.get? b=some o→H b=none→b ∉ frs outer→Bh.get? b=some o:=fun b o q n hb=>by
    have e1:=b0.keep b o q n hb (by simp)
    have e2:=un.keep b o e1 (b0.free b o q n (by simp)) (nin b o q hb) (by simp)
    obtain ⟨o',e3⟩:=c2 b o q (nin b o q hb)
    have e4:=st b o' e3
    rw [e2] at e4; cases e4
    exact e3
  have thereB:∀ b o,s.heap.get? b=some o→b ∉ frs outer→∃ o',Bh.get? b=some o':=fun b o q hb=>by
    exact c2 b o q (nin b o q hb)
  refine ⟨os.trans I.os,bare,⟨fun b o q n hb _=>fl.1 b o (keepB b o q n hb),fun b o q n hb _=>slot b o q n hb,fun b o q n _=>?_,fun b o q _=>?_,fun b xs q=>un.tups b xs (b0.tups b xs q),fun b o xs q=>un.frzs b o xs (b0.frzs b o xs q),fun b ps q=>?_⟩,fun b u e=>?_,new,(let ⟨o,e,d⟩:=dn; let ⟨o',e',d'⟩:=dk ea o e; ⟨o',e',by unfold KeyD at d ⊢; rw [d']; exact d⟩),Bh,t,fl,fun b u e o q=>?_,thereB⟩
  · obtain ⟨o1,e1⟩:=b0.there b o q (by simp)
    exact un.free b o1 e1 (b0.free b o q n (by simp)) (by simp)
  · by_cases hb:b∈frs outer
    · obtain ⟨sl,e⟩:=slot b o q (fr0 b hb) hb
      exact ⟨_,e⟩
    · obtain ⟨o',e⟩:=thereB b o q hb
      exact ⟨o',fl.1 b o' e⟩
  · obtain ⟨m1,e1⟩:=b0.tbls b ps q
    obtain ⟨m2,e2⟩:=un.tbls b _ e1
    exact ⟨m1 ++ m2,by rw [e2,Array.append_assoc]⟩
  · refine (hok b u e).stay (fun c v hc q=>?_) (fun _ q=>q) fun _ _ q=>q
    rcases hc with rfl | hc
    · exact fl.1 c v (c1 c u e v q)
    · exact fl.1 c v (c1 c _ hc v q)
  · obtain ⟨o1,e1⟩:=(hok b u e).there
    have e2:=c1 b u e o1 e1
    have e3:=fl.1 b o1 e2
    rw [e3] at q; cases q
    exact e2
noncomputable def PassS (X:Cx) (E:St→XK):Prop:=∀ (pins:List (Addr × Obj)) (σ:St) (H:Hp) (s:Shared) (e:Value) (s':Shared),Inv X pins σ H s→CX1 X.prog X.w X.stack H s (E σ) e s'→X.xe e s'
noncomputable def MadeS (X:Cx) (E:St→XK):Prop:=∀ (pins:List (Addr × Obj)) (σ:St) (H:Hp) (s:Shared) (h':Heap) (ea:Addr) (cls:Value) (args:List Value),Inv X pins σ H s→Heap.MadeExcOf s.heap h' ea cls args→E σ cls (some ea) H→X.xe (.ref ea) { s with heap:=h' }
theorem pass_cx:PassS (cxOf (CX1 P w) P w K mg base N qual scope f cd A outer s H E) (fun _=>E):=fun pins σ H1 s1 e s' I hq=>by
  obtain ⟨ea,k,cls,H',rfl,F,hE⟩:=hq
  obtain ⟨Bh,t,fl,c1,c2⟩:=F.fly
  refine wpAny_mono (kd_any (kd_leaving _ _) (wpAny_leaves_onW (Q:=fun _ s''=>∃ h'',s''={ s' with heap:=h'' }∧Heap.FlyingW Bh outer ea cls (.ref t) h''∧s'.heap.UpToSlots h'') I.ok.frames rfl fl fun h'' fl'' up=>⟨h'',rfl,fl'',up⟩)) (fun _ s'' q=>?_) fun _ _ q=>q.1
  obtain ⟨⟨h'',rfl,fl'',up⟩,dk⟩:=q
  exact ⟨ea,k,cls,H',rfl,fly_out I F.os F.bare F.un F.hok up fl'' fl.1 c1 (fun b o e n=>let ⟨o1,e1⟩:=(show Un (frs outer) [] H H1 s.heap s1.heap from I.base).there b o e (by simp); c2 b o1 e1 n) F.new F.dict dk,hE⟩
theorem made_cx:MadeS (cxOf (CX1 P w) P w K mg base N qual scope f cd A outer s H E) (fun _=>E):=fun pins σ H1 s1 h' ea cls args I hx hE=>by
  have hin:∀ env∈(cxOf (CX1 P w) P w K mg base N qual scope f cd A outer s H E).stack,∀ b,env.frame=some b→b∈frs (cxOf (CX1 P w) P w K mg base N qual scope f cd A outer s H E).stack:=fun env he b hb=>List.mem_filterMap.mpr ⟨env,he,hb⟩
  have trk:∀ b u,H1 b=some u→b ∉ frs (cxOf (CX1 P w) P w K mg base N qual scope f cd A outer s H E).stack:=fun b u e z=>by rw [I.stkFree b z] at e; cases e
  have new:H1 ea=none:=by
    cases q:H1 ea with
    | none=>rfl
    | some u=>obtain ⟨o,e⟩:=(I.hok ea u q).there; rw [hx.new] at e; cases e
  refine wpAny_mono (kd_any (kd_leaving _ _) (wpAny_leaves_madeW (Q:=fun _ s''=>∃ h'' t,s''={ s1 with heap:=h'' }∧Heap.FlyingW (PySem.W.hideAll s1.heap (frs (cxOf (CX1 P w) P w K mg base N qual scope f cd A outer s H E).stack)) outer ea cls (.ref t) h''∧h'.UpToSlots h'')
    (base:=PySem.W.hideAll s1.heap (frs (cxOf (CX1 P w) P w K mg base N qual scope f cd A outer s H E).stack)) (h:=s1.heap) I.ok.frames rfl (fun b o q=>PySem.W.of_hideAll _ q) (PySem.W.funFrames_hide I.stack hin) hx fun h'' t fl _ _ up=>⟨h'',t,rfl,fl,up⟩)) (fun _ s'' q=>?_) fun _ _ q=>q.1
  obtain ⟨⟨h'',t,rfl,fl,up⟩,dk⟩:=q
  have dn:∃ o,h'.get? ea=some o∧KeyD H1 ea ea o:=by obtain ⟨t,e,_⟩:=hx.there; exact ⟨_,e,.inl ⟨rfl,rfl⟩⟩
  refine ⟨ea,ea,cls,H1,rfl,fly_out (g:=h') (t:=t) (s':={ s1 with heap:=h' }) I rfl I.bare (Un.kept hx.keeps) (I.hok.kept hx.keeps) up fl (fun b o q=>hx.keeps b o (PySem.W.of_hideAll _ q)) (fun b u e o q=>?_) (fun b o q n=>let ⟨o1,e1⟩:=(show Un (frs outer) [] H H1 s.heap s1.heap from I.base).there b o q (by simp); ⟨o1,PySem.W.hideAll_get _ e1 n⟩) new dn dk,hE⟩
  obtain ⟨o1,e1⟩:=(I.hok b u e).there
  have e2:=hx.keeps b o1 e1
  rw [q] at e2; cases e2
  exact PySem.W.hideAll_get _ e1 (trk b u e)
end
noncomputable def bmVE:List Value:=[.type "ValueError",.type "Exception",.type "BaseException",.type "object"]
noncomputable def tRaise (C:Addr) (E:St→XK) (ta:TA):TS:=fun D σ H=>ta σ H fun vs H1=>vs.length≤1000∧∀ ea,H1 ea=none→E σ (.ref C) (some ea) H1
theorem exc_obj {K:PySem.W.Frag} {h₀:Heap} {C:Addr} {bmB:List Value} {newId:String} (X:K.In h₀) (q:PySem.W.excIn K C bmB newId=true) :
    ∃ tl N nm qn bs hdct sn sub ab col dd k0 k1 k2 k3 k5 mN,h₀.get? C=some (excClassObj nm qn C N bs tl hdct sn sub ab col dd k0 k1 k2 k3 k5 newId)∧h₀.Ns N mN∧mN "__init__"=none∧OwnTail h₀ bmB tl:=by
  unfold PySem.W.excIn at q
  split at q
  · rename_i dd cd sl ho
    split at q
    · rename_i C' bm k0 k1 k2 k3 n k5 hm hs
      simp only [Bool.and_eq_true,beq_iff_eq,Bool.not_eq_true'] at q
      obtain ⟨⟨⟨⟨⟨rfl,rfl⟩,hdel⟩,ht⟩,hok⟩,hni⟩:=q
      obtain ⟨nm,bs,mro,ns,qn,hd,sn,sub,ab,col,del⟩:=cd
      dsimp only at hm hdel hok hni
      subst hm hdel
      have hsl:sl=#[k0,k1,k2,k3,some (.builtin n),k5]:=by
        obtain ⟨l⟩:=sl
        simp only at hs
        rw [hs]
      subst hsl
      exact ⟨bm,ns,nm,qn,bs,hd,sn,sub,ab,col,dd,k0,k1,k2,k3,k5,_,X _ _ ho,.of_isNs (PySem.W.isNs_of_in X hok),PySem.W.nsMap_none_of_in X hok hni,PySem.W.tail_of_in X ht⟩
    · cases q
  · cases q
section
variable {X:Cx} {E:St→XK} {x:Str} {C:Addr} {np cpos pos:Pos} {e:Expr} {es:List Expr} {ta:TA}
theorem ps_raise (hM:MadeS X E) (hq:PySem.W.excIn X.K C bmVE "ValueError.__new__"=true) (hg:Gl X x) (hm:X.mg x=some (.ref C)) (hc:X.calm=true) (ha:PA X (e :: es) ta) (hdb:(x == ("__debug__":Str))=false:=by decide)
    (he:starEach (e :: es) X.env=(false,eval e X.env) :: starEach es X.env:=by rfl) (hpl:(backTo cpos (starEach es X.env)).any (·.1)=false:=by rfl) :
    PS X (.Raise (some (.Call (.Name x np) (e :: es) [] cpos)) none pos) (tRaise C E ta):=by
  intro pins s σ H D I h
  obtain ⟨tl,N,nm,q,bs,hdct,sn,sub,ab,col,dd,k0,k1,k2,k3,k5,mN,hC,hN,hni,T⟩:=exc_obj I.ok.mod.kin hq
  refine wpAny_Raise_call_subT (C:=C) (nm:=nm) (q:=q) (N:=N) (bs:=bs) (bm:=tl) (hdct:=hdct) (sn:=sn) (sub:=sub) (ab:=ab) (col:=col) (dd:=dd) (k0:=k0) (k1:=k1) (k2:=k2) (k3:=k3) (k5:=k5)
    PySem.F.excBase_ValueError (mN:=mN) (T.hasType PySem.F.excBase_ValueError.hasBase) (I.ok.hd hc) (by rw [he]; show (false || (backTo cpos (starEach es X.env)).any (·.1))=false; rw [hpl]; rfl) hni (ld_glob I hg hm ⟨rfl, ?_⟩ hdb)
  have h2:=ha cpos pins s σ H _ I h
  rw [he] at h2 ⊢
  refine Calls.evalArgs_plain (wpAny_mono h2 (fun us s₂ z=>?_) fun _ _ y=>y)
  obtain ⟨vs,H1,I1,r,hl,hE⟩:=z
  have hnew:∀ {h':Heap} {ea:Addr} {args:List Value},Heap.MadeExcOf s₂.heap h' ea (.ref C) args→H1 ea=none:=fun {h' ea args} hx=>by
    cases q:H1 ea with
    | none=>rfl
    | some u=>obtain ⟨o,e⟩:=(I1.hok ea u q).there; rw [hx.new] at e; cases e
  exact ⟨rfl,Nat.le_trans (by rw [← r.length]; exact hl) (by decide),I1.bk _ _ hC,hN.keeps I1.bk,T.keeps I1.bk,fun h' ea hx=>hM pins σ H1 s₂ h' ea _ _ I1 hx (hE ea (hnew hx))⟩
end
end L2
namespace L2
open PySem PySem.Spec PyProof.Rows
theorem fly_in {P:Program} {w:World} {outer:List Env} {H H':Hp} {s s':Shared} {ea k t:Addr} {cls:Value} {Bh h'':Heap} (F:Fly P w outer H s ea k cls H' s') (fl:Heap.FlyingW Bh outer ea cls (.ref t) s'.heap)
    (c1:∀ b u,H' b=some u→∀ o,s'.heap.get? b=some o→Bh.get? b=some o) (c2:∀ b o,s.heap.get? b=some o→b ∉ frs outer→∃ o',Bh.get? b=some o') (st:Bh.StaysIn h'') (up:s'.heap.UpToSlots h'') :
    Un (frs outer) [] H H' s.heap h''∧HOk P w H' h'':=by
  refine ⟨⟨fun b o q n hb _=>?_,fun b o q n hb _=>?_,fun b o q n hx=>F.un.free b o q n hx,fun b o q _=>?_,F.un.tups,F.un.frzs,F.un.tbls⟩,fun b u e=>?_⟩
  · have e2:=F.un.keep b o q n hb (by simp)
    obtain ⟨o',e3⟩:=c2 b o q hb
    have e4:=fl.1 b o' e3
    rw [e2] at e4; cases e4
    exact st b o e3
  · obtain ⟨s2,e2⟩:=F.un.slot b o q n hb (by simp)
    obtain ⟨_,o',ho',hnf⟩:=Heap.FunFrames.mem fl.2.2.1 hb
    rw [e2] at ho'; cases ho'
    obtain ⟨s3,e3⟩:=up b _ e2 hnf
    exact ⟨s3,e3⟩
  · by_cases hb:b∈frs outer
    · obtain ⟨_,o',ho',hnf⟩:=Heap.FunFrames.mem fl.2.2.1 hb
      obtain ⟨sl,e⟩:=up b _ ho' hnf
      exact ⟨_,e⟩
    · obtain ⟨o',e⟩:=c2 b o q hb
      exact ⟨o',st b o' e⟩
  · refine (F.hok b u e).stay (fun c v hc q=>?_) (fun _ q=>q) fun _ _ q=>q
    rcases hc with rfl | hc
    · exact st c v (c1 c u e v q)
    · exact st c v (c1 c _ hc v q)
section
variable {X:Cx} {pins:List (Addr × Obj)} {σ:St} {H:Hp} {s:Shared}
theorem Inv.track {ea:Addr} {oe:Obj} (I:Inv X pins σ H s) (e:s.heap.get? ea=some oe) (hn:H ea=none) (hL:ea≠X.env.locals) (hC:∀ x c,X.env.cells.lookup x=some c→c≠ea) (hp:∀ p∈X.pn ++ pins,p.1≠ea) (h0:X.s₀.heap.get? ea=none) :
    Inv X pins σ (upd H ea (.frz oe (.own ea))) s:=by
  refine ⟨I.ok,I.os,I.bare,⟨I.base.keep,I.base.slot,fun b o q n hx=>?_,I.base.there,fun b xs q=>?_,fun b o u q=>?_,fun b ps q=>?_⟩,I.loc,I.cell, ?_,fun x c q=>?_,fun p hq=>?_,fun b u q=>?_,I.len⟩
  · rw [upd_ne (fun z=>by rw [z,h0] at q; cases q)]; exact I.base.free b o q n hx
  · have:=I.base.tups b xs q
    rw [upd_ne (ne_of_none this hn)]; exact this
  · have:=I.base.frzs b o u q
    rw [upd_ne (ne_of_none this hn)]; exact this
  · obtain ⟨m,this⟩:=I.base.tbls b ps q
    exact ⟨m,by rw [upd_ne (ne_of_none this hn)]; exact this⟩
  · rw [upd_ne (Ne.symm hL)]; exact I.free
  · rw [upd_ne (hC x c q)]; exact I.freeC x c q
  · obtain ⟨a,b,c,d,e⟩:=I.pin p hq
    exact ⟨a,by rw [upd_ne (hp p hq)]; exact b,c,d,e⟩
  · by_cases hb:b=ea
    · subst hb
      rw [upd_same] at q; cases q
      exact ⟨e,oe,e⟩
    · rw [upd_ne hb] at q
      exact (I.hok b u q).stay (fun c v _ z=>z) (fun c z=>by rw [upd_ne (ne_of_none z hn)]; exact z) fun c xs z=>by rw [upd_ne (ne_of_none z hn)]; exact z
theorem Inv.gone {i:Nat} {n:Str} {m:Str→Option Value} {v:Option Value} {h':Heap} {t':Nat} (I:Inv X pins σ H s) (hN:X.N.Nodup) (hi:X.N[i]?=some n) (hm:∀ (j:Nat) (x:Str) (v:V),X.N[j]?=some x→σ[j]?=some (some v)→Vis X.env.scope x→∃ u,RelV v u∧Look X.env s.heap m x u)
    (hn:h'.Ns X.env.locals (fun x=>if x=n then v else m x)) (hs:Heap.SameBut X.env.locals s.heap h') (hoL:∃ o,s.heap.get? X.env.locals=some o):Inv X pins (σ.set i none) H { s with heap:=h',toks:=t' }:=by
  have tracked:HOk X.prog X.w H h':=fun b ob e=>by
    refine (I.hok b ob e).stay (fun c w' hc q=>(hs.2 c ?_).trans q) (fun _ q=>q) fun _ _ q=>q
    intro z
    rw [z] at hc
    rcases hc with hc | hc
    · rw [← hc,I.free] at e; cases e
    · rw [I.free] at hc; cases hc
  have neL:∀ b o,X.s₀.heap.get? b=some o→b≠X.env.locals:=fun b o e=>Nat.ne_of_lt (Nat.lt_of_lt_of_le (Heap.lt_size e) I.ok.above)
  refine ⟨I.ok,I.os,I.bare,⟨fun b o e n hb hx=>?_,fun b o e n hb hx=>?_,I.base.free,fun b o e hx=>?_,I.base.tups,I.base.frzs,I.base.tbls⟩,⟨_,hn,fun j y v' e1 e2 e3=>?_⟩,fun y c e=>?_,I.free,I.freeC,fun p hp=>?_,tracked,by simpa using I.len⟩
  · exact (hs.2 b (neL b o e)).trans (I.base.keep b o e n hb hx)
  · obtain ⟨sl,e1⟩:=I.base.slot b o e n hb hx
    exact ⟨sl,(hs.2 b (neL b o e)).trans e1⟩
  · obtain ⟨o',e1⟩:=I.base.there b o e hx
    exact ⟨o',(hs.2 b (neL b o e)).trans e1⟩
  · by_cases hj:j=i
    · subst hj
      rw [List.getElem?_set] at e2
      simp only [if_true] at e2
      split at e2 <;> cases e2
    · rw [List.getElem?_set_ne (Ne.symm hj)] at e2
      obtain ⟨u',r',q⟩:=hm j y v' e1 e2 e3
      refine ⟨u',r', ?_⟩
      rcases q with ⟨k,e⟩ | ⟨k,c,e,z⟩
      · refine .inl ⟨k, ?_⟩
        have:y≠n:=fun e=>hj (nodup_ix hN e1 (e ▸ hi))
        simp [this,e]
      · exact .inr ⟨k,c,e,z.sameBut hs (I.cne y c e)⟩
  · obtain ⟨w',z⟩:=I.cell y c e
    exact ⟨w',z.sameBut hs (I.cne y c e)⟩
  · obtain ⟨e,n,ne,nf,d⟩:=I.pin p hp
    exact ⟨(hs.2 p.1 ne).trans e,n,ne,nf,d⟩
end
noncomputable def unE (D:Ends) (i:Nat):Ends:=⟨fun σ H=>D.nx (σ.set i none) H,D.rt,fun σ H=>D.bk (σ.set i none) H,fun σ H=>D.ct (σ.set i none) H⟩
noncomputable def eTry (K:PySem.W.Frag) (C:Addr) (i:Nat) (th:TS) (D:Ends):St→XK:=fun σ1 cls ea H1=>PySem.W.exmOne K cls (.ref C)=some true∧∃ k,ea=some k∧∀ (a:Addr) (oe:Obj),H1 a=none→oe.cls=cls→KeyD H1 a k oe→PySem.W.notCls oe=true→th (unE D i) (σ1.set i (some (.ref a))) (upd H1 a (.frz oe (.own a)))
noncomputable def tTry (K:PySem.W.Frag) (C:Addr) (i:Nat) (tb:(St→XK)→TS) (th:TS):TS:=fun D σ H=>tb (eTry K C i th D) D σ H
noncomputable abbrev Cx.inTry (X:Cx) (xe:Value→Shared→Prop) (pn:List (Addr × Obj)):Cx:={ X with xe:=xe,pn:=pn }
noncomputable abbrev Cx.inExc (X:Cx) (A:Around):Cx:={ X with A:=A,calm:=false,xe:=fun _ _=>False }
section
variable {X:Cx} {pins:List (Addr × Obj)} {σ:St} {H:Hp} {s:Shared}
theorem Inv.tryIn {xe:Value→Shared→Prop} (I:Inv X pins σ H s):Inv (X.inTry xe (X.pn ++ pins)) [] σ H s :=
  ⟨⟨I.ok.mod,I.ok.kind,I.ok.glob,I.ok.blt,I.ok.above,I.ok.inj,I.ok.has,I.ok.cab,I.ok.hd,I.ok.frames,I.ok.stk,I.ok.exf,I.ok.bs,I.ok.bsz,I.ok.noex,I.ok.exfs,I.ok.funs,I.ok.frf⟩,I.os,I.bare,I.base,I.loc,I.cell,I.free,I.freeC,fun p hp=>I.pin p (by simpa using hp),I.hok,I.len⟩
theorem Inv.tryOut {xe:Value→Shared→Prop} {pins':List (Addr × Obj)} (I:Inv (X.inTry xe (X.pn ++ pins)) pins' σ H s):Inv X pins σ H s :=
  ⟨⟨I.ok.mod,I.ok.kind,I.ok.glob,I.ok.blt,I.ok.above,I.ok.inj,I.ok.has,I.ok.cab,I.ok.hd,I.ok.frames,I.ok.stk,I.ok.exf,I.ok.bs,I.ok.bsz,I.ok.noex,I.ok.exfs,I.ok.funs,I.ok.frf⟩,I.os,I.bare,I.base,I.loc,I.cell,I.free,I.freeC,fun p hp=>I.pin p (List.mem_append_left _ hp),I.hok,I.len⟩
theorem Inv.excIn {e:Value} (I:Inv X pins σ H s):Inv (X.inExc (X.A.mark (some e))) pins σ H s :=
  ⟨⟨I.ok.mod,I.ok.kind,I.ok.glob,I.ok.blt,I.ok.above,I.ok.inj,I.ok.has,I.ok.cab,fun z=>(by cases z),I.ok.frames,I.ok.stk,I.ok.exf,I.ok.bs,I.ok.bsz,I.ok.noex,I.ok.exfs,I.ok.funs,I.ok.frf⟩,I.os,I.bare,I.base,I.loc,I.cell,I.free,I.freeC,I.pin,I.hok,I.len⟩
theorem Inv.excOut {e:Value} (h:X.Ok) (I:Inv (X.inExc (X.A.mark (some e))) pins σ H s):Inv X pins σ H s:=⟨h,I.os,I.bare,I.base,I.loc,I.cell,I.free,I.freeC,I.pin,I.hok,I.len⟩
end
section
variable {X:Cx} {C:Addr} {i:Nat} {tb:(St→XK)→TS} {th:TS} {c n:Str} {np hpos pos:Pos} {body suite:List Stmt} {b₀:Stmt}
theorem ps_try (hb:∀ (xe:Value→Shared→Prop) (pn:List (Addr × Obj)) (E:St→XK),PassS (X.inTry xe pn) E→PSs (X.inTry xe pn) body (tb E)) (hh:∀ A,PSs (X.inExc A) (b₀ :: suite) th)
    (hN:X.N.Nodup) (hi:X.N[i]?=some n) (hl:X.env.scope.names.lookup n=some .local) (hg:Gl X c) (hm:X.mg c=some (.ref C)) (hst:X.stack=X.env :: X.outer) (hf:X.env.frame=some X.env.locals) (hex:X.ex=[]) (hdb:(c == ("__debug__":Str))=false:=by decide) :
    PS X (.Try body [.ExceptHandler (some (.Name c np)) (some n) (b₀ :: suite) hpos] [] [] pos) (tTry X.K C i tb th):=by
  intro pins s σ H D I h
  refine wpAny_Try_except ?_
  refine wpAny_mono (hb (fun e s'=>∃ σ1 H1 s1,Inv X pins σ1 H1 s1∧CX1 X.prog X.w X.stack H1 s1 (eTry X.K C i th D σ1) e s') (X.pn ++ pins) (eTry X.K C i th D) (fun pins' σ1 H1 s1 e s' I' hq=>⟨σ1,H1,s1,I'.tryOut,hq⟩) [] s σ H D I.tryIn h) (fun f s1 q=>?_) (fun e s1 q=>?_)
  · cases f with
    | next=>obtain ⟨σ',H',I',q⟩:=q; exact wpAny_execs_nil ⟨σ',H',I'.tryOut,q⟩
    | brk=>obtain ⟨σ',H',I',q⟩:=q; exact ⟨σ',H',I'.tryOut,q⟩
    | cont=>obtain ⟨σ',H',I',q⟩:=q; exact ⟨σ',H',I'.tryOut,q⟩
    | ret u=>obtain ⟨v,σ',H',I',r,q⟩:=q; exact ⟨v,σ',H',I'.tryOut,r,q⟩
  · obtain ⟨σ1,H1,s0,I1,ea,kk,cls,H',rfl,F,hx,a,ha,hth⟩:=q
    cases ha
    obtain ⟨Bh,t,fl,c1,c2⟩:=F.fly
    have hfr:X.A.frames=some (X.env :: X.outer):=by rw [← hst]; exact I.ok.frames
    have fl0:=fl
    rw [hst] at fl
    have new0:s0.heap.get? ea=none:=by
      cases q:s0.heap.get? ea with
      | none=>rfl
      | some o =>
        exfalso
        by_cases hb:ea∈frs X.stack
        · obtain ⟨_,o',ho',hnf⟩:=Heap.FunFrames.mem fl0.2.2.1 hb
          obtain ⟨oe,vs,hoe,_,hd,_⟩:=fl0.first
          rw [hoe] at ho'; cases ho'
          exact hnf vs hd
        · obtain ⟨o',e⟩:=c2 ea o q hb
          rw [fl0.2.1] at e; cases e
    have neL:ea≠X.env.locals:=fun z=>by
      obtain ⟨m,⟨o,_,_,ho,_⟩,_⟩:=I1.loc
      rw [← z,new0] at ho; cases ho
    have neC:∀ x c,X.env.cells.lookup x=some c→c≠ea:=fun x c e z=>by
      obtain ⟨v,o,ho,_⟩:=I1.cell x c e
      rw [z,new0] at ho; cases ho
    have neP:∀ p∈X.pn ++ pins,p.1≠ea:=fun p hp z=>by
      have:=(I1.pin p hp).1
      rw [z,new0] at this; cases this
    have new1:X.s₀.heap.get? ea=none:=by
      cases q:X.s₀.heap.get? ea with
      | none=>rfl
      | some o=>obtain ⟨o',e⟩:=I1.base.there ea o q (by rw [hex]; simp); rw [new0] at e; cases e
    have land:∀ {h'':Heap},Bh.StaysIn h''→s1.heap.UpToSlots h''→Inv X pins σ1 H' { s1 with heap:=h'' }:=fun {h''} st up=>by
      obtain ⟨u,hok⟩:=fly_in F fl0 c1 c2 st up
      exact I1.call' (s':={ s1 with heap:=h'' }) (ch:=[]) F.os u hok F.bare (fun b z=>absurd z (by simp))
    refine wpAny_mono (kd_any (kd_note _ _) (wpAny_looks_onW (Q:=fun _ s''=>∃ h4,s''={ s1 with heap:=h4 }∧Heap.HeldW Bh (X.env :: X.outer) ea cls (.ref t) X.env.locals h4∧s1.heap.UpToSlots h4) hfr hf fl fun h4 held4 up4=>⟨h4,rfl,held4,up4⟩)) (fun _ s'' q=>?_) fun _ _ q=>q.1
    obtain ⟨⟨h4,rfl,held4,up4⟩,dk4⟩:=q
    refine wpAny_mono (kd_any (kd_setFlight _ _) (wpAny_landsW (Q:=fun _ s''=>∃ h5,s''={ s1 with heap:=h5 }∧Heap.FlyingW Bh (X.env :: X.outer) ea cls (.ref t) h5∧h4.UpToSlots h5) held4 fun h5 fl5 up5=>⟨h5,rfl,fl5,up5⟩)) (fun _ s'' q=>?_) fun _ _ q=>q.1
    obtain ⟨⟨h5,rfl,fl5,up5⟩,dk5⟩:=q
    have up5':s1.heap.UpToSlots h5:=up4.trans up5
    have I5:=land fl5.1 up5'
    refine wpAny_handleBy_cons (codeAny_handlers_test ?_) (by intro q; cases q)
    refine ld_glob (X:=X.inExc (X.A.mark (some (.ref ea)))) I5.excIn hg hm ?_ hdb
    obtain ⟨oe5,hoe5,hc5⟩:=fl5.there
    have LT:PySem.W.Looks (model X.prog X.w) h5 (typeOf (.ref ea)) cls:=by
      subst hc5
      exact (PySem.W.Looks.ld hoe5).andThen .now
    refine PySem.W.Looks.here (s:={ s1 with heap:=h5 }) (PySem.W.exm_one I5.kIn LT hx) ?_
    refine codeAny_handlers_suite_as ?_
    refine wpAny_mono (kd_any (kd_setFlight _ _) (lands_againW (Q:=fun _ s''=>∃ h6,s''={ s1 with heap:=h6 }∧Heap.FlyingW Bh (X.env :: X.outer) ea cls (.ref t) h6∧h5.UpToSlots h6) fl5 fun h6 fl6 up6=>⟨h6,rfl,fl6,up6⟩)) (fun _ s'' q=>?_) fun _ _ q=>q.1
    obtain ⟨⟨h6,rfl,fl6,up6⟩,dk6⟩:=q
    have I6:=land fl6.1 (up5'.trans up6)
    obtain ⟨oe,ws,hoe,hc,hfd,_⟩:=fl6.first
    have hdn:KeyD H' ea kk oe:=by
      obtain ⟨o1,e1,d1⟩:=F.dict
      obtain ⟨o2,e2,d2⟩:=dk4 ea o1 e1
      obtain ⟨o3,e3,d3⟩:=dk5 ea o2 e2
      obtain ⟨o4,e4,d4⟩:=dk6 ea o3 e3
      have e4':h6.get? ea=some o4:=e4
      rw [hoe] at e4'; cases e4'
      unfold KeyD at d1 ⊢
      rw [d4,d3,d2]; exact d1
    have hnc:PySem.W.notCls oe=true:=by unfold PySem.W.notCls; rw [hfd]
    have I7:=I6.track (ea:=ea) (oe:=oe) hoe F.new neL neC neP new1
    refine store_ok (X:=X) I7 hN hi (.inl hl) (v:=.ref ea) rfl (fun s8 I8=>?_) (.inr hl)
    refine wpAny_mono (hh (X.A.mark (some (.ref ea))) pins s8 _ _ (unE D i) I8.excIn (hth ea oe F.new hc hdn hnc)) (fun f s9 q=>?_) (fun _ _ z=>False.elim z)
    have hcls:(X.env.scope.kind == .class || (X.env.scope.kind == .module && X.env.locals != X.env.globals))=false:=by rw [I.ok.kind]; rfl
    have go:∀ {σ9:St} {H9:Hp},Inv (X.inExc (X.A.mark (some (.ref ea)))) pins σ9 H9 s9→∀ {Q:Unit→Shared→Prop},(∀ s',Inv X pins (σ9.set i none) H9 s'→Q () s') →
        wpAny (model X.prog X.w) X.A (do bindName X.env n .none; unbindBehindTheSuite X.env n hpos) Q X.xe s9:=fun {σ9 H9} J {Q} hQ=>by
      have J':=Inv.excOut I.ok J
      obtain ⟨m,hn,hlook⟩:=id J'.loc
      obtain ⟨o,_,_,ho,_⟩:=id hn
      exact wpAny_nameGoes_keeps hl hn hcls fun h' v hn' hs'=>hQ _ (J'.gone hN hi hlook hn' hs' ⟨o,ho⟩)
    cases f with
    | next=>obtain ⟨σ',H',I',q⟩:=q; exact go I' fun s' J=>⟨_,_,J,q⟩
    | brk=>obtain ⟨σ',H',I',q⟩:=q; exact go I' fun s' J=>⟨_,_,J,q⟩
    | cont=>obtain ⟨σ',H',I',q⟩:=q; exact go I' fun s' J=>⟨_,_,J,q⟩
    | ret u=>obtain ⟨v,σ',H',I',r,q⟩:=q; exact go I' fun s' J=>⟨v,_,_,J,r,q⟩
end
end L2
namespace PySem.W
open PySem PySem.Spec PySem.Calls PyProof.Rows
section
variable {prog:Program} {w:World} {A:Around} {E:Value→Shared→Prop} {s:Shared} {K:Frag} {x D:Addr} {ox:Obj} {od:Option Obj}
theorem canon_bexc:Manifest.canonical "BaseException.__getattribute__" = "object.__getattribute__":=by decide +kernel
theorem method_exc {name:Str} {f:Addr} {pl:Sem Bool} {Q:Value × List Value→Shared→Prop} (X:K.In s.heap) (I:InstAt s.heap x ox D od) (hga:findIn K (.ref D) "__getattribute__"=some (some (.builtin "BaseException.__getattribute__"))) (hk:findIn K (.ref D) "__getattr__"=some none) (hown:∀ o,od=some o→lookIn name o=some none)
    (hf:findIn K (.ref D) name=some (some (.ref f))) (ht:typeIn K (.ref f)=some (.type "function")) (h:Q (.ref f,[.ref x]) s):wpAny (model prog w) A (getMethod (.ref x) name pl) Q E s:=by
  have hcan:=canon_bexc
  unfold getMethod specialOf
  refine wpAny_bind (wpAny_bind (I.type.here ((looks_findIn X hga).here ?_)))
  dsimp only
  rw [hcan,if_neg (by decide)]
  refine wpAny_bind (wpAny_bind (I.type.here ((looks_findIn X hk).here ?_)))
  refine wpAny_bind (wpAny_bind (I.type.here ((looks_findIn X hf).here (wpAny_bind ((looks_typeIn X ht).here ?_)))))
  rw [if_neg (by decide +kernel)]
  refine wpAny_bind (wpAny_loadPart I.at_ ?_)
  have hd:=I.dict
  cases e:ox.dict with
  | none=>exact wpAny_bind (wpAny_rule (wpAny_pure h))
  | some dx =>
    rw [e] at hd
    cases od with
    | none=>exact hd.elim
    | some o =>
      dsimp only
      refine wpAny_bind (wpAny_bind (wpAny_loadPart hd ?_))
      rw [nsLook_of (hown o rfl)]
      exact wpAny_pure (wpAny_bind (wpAny_rule (wpAny_pure h)))
theorem check_bexc {M:Model} {nameV:Value} {Q:Unit→Shared→Prop} (X:K.In s.heap) (I:InstAt s.heap x ox D od) (hb:mroIn K D (.type "BaseException")=some true) (hq:Q () s):wpAny M A (checkBuiltinCall "BaseException.__getattribute__" ⟨[.ref x,nameV],[]⟩) Q E s:=by
  have hk:builtinKind "BaseException.__getattribute__"=some .slot:=by decide +kernel
  have hsplit:splitId "BaseException.__getattribute__"=some ("BaseException", "__getattribute__"):=by decide +kernel
  have ha:=F.args_bexc_ga (.ref x) nameV
  have L:Looks M s.heap (isInstance (.ref x) (.type "BaseException")) true:=(I.type (M:=M)).andThen (looks_mroIn X hb)
  simp only [checkBuiltinCall,hk,hsplit]
  refine wpAny_bind ?_
  refine L.here ?_
  obtain ⟨h,g,d,t,os⟩:=s
  repeat (first | wp_step)
  all_goals exact hq
theorem exc_class {Q:Option Value→Shared→Prop} (X:K.In s.heap) (I:InstAt s.heap x ox D od) (hga:findIn K (.ref D) "__getattribute__"=some (some (.builtin "BaseException.__getattribute__"))) (hk:findIn K (.ref D) "__getattr__"=some none)
    (hb:mroIn K D (.type "BaseException")=some true) (hf:findObj K D od "__class__"=some (.bind (.builtin "getset_descriptor.__get__") (.builtin "object.__class__"))) (hm:mroIn K D (.type "object")=some true)
    (h:Q (some (.ref D)) { s with toks:=s.toks + 1 }):wpAny (model prog w) A (getAttr? (.ref x) "__class__") Q E s:=by
  obtain ⟨hh,g,d,t,os⟩:=s
  have L0:=I.type (M:=model prog w)
  have L1:=looks_findIn (M:=model prog w) X hga
  have L2:=looks_findIn (M:=model prog w) X hk
  have L3:=looks_find (M:=model prog w) X I hf
  unfold getAttr? getAttrBy? getAttrBy
  refine wpAny_bind (wpAny_mkText (wpAny_bind (wpAny_attempt (wpAny_holding (wpAny_bind (L0.at (wpAny_bind (L1.at ?_))))))))
  dsimp only
  have hne:(onTheHeap (Value.ref D) && Value.builtin "BaseException.__getattribute__" == Value.builtin "object.__getattribute__")=false:=by
    have hx2:(Value.builtin "BaseException.__getattribute__" == Value.builtin "object.__getattribute__")=false:=by decide +kernel
    rw [hx2]; rfl
  rw [if_neg (by rw [hne]; decide)]
  unfold getAttrByItsOwn hookBefore
  rw [show onTheHeap (Value.ref D)=true from rfl,if_pos rfl]
  refine wpAny_bind (L2.at ?_)
  refine wpAny_bind (wpAny_attempt (wpAny_holding ?_))
  unfold callGetattribute
  rw [if_neg (by decide)]
  unfold boundAndCalled
  refine wpAny_bind (wpAny_of_eq (PySem.F.attrBase_ValueError.ga.bind (.ref x)) ?_)
  refine wpAny_call (codeAny_call_builtin PySem.F.attrBase_ValueError.ga.plain F.entry_bexc_ga (check_bexc X I hb ?_))
  unfold Builtin.«object.__getattribute__»
  refine wpAny_bind (wpAny_pure ?_)
  refine wpAny_bind (wpAny_pure ?_)
  refine wpAny_bind (L0.at (wpAny_bind (L3.at ?_)))
  show wpAny _ _ (holding [Value.builtin "object.__class__"] (call (.builtin "getset_descriptor.__get__") [.builtin "object.__class__",.ref x,.ref D]) >>= fun v=>ret v) _ _ _
  refine wpAny_bind (wpAny_holding (wpAny_call (class_get (s:=⟨hh,g,d,t + 1,os⟩) (ox:=ox) (od:=od) X I hm ?_)))
  exact wpAny_pure (handed_on rfl (wpAny_pure h))
theorem exc_value {name:Str} {v:Value} {Q:Value→Shared→Prop} {expr:Bool} (X:K.In s.heap) (I:InstAt s.heap x ox D od) (hga:findIn K (.ref D) "__getattribute__"=some (some (.builtin "BaseException.__getattribute__"))) (hk:findIn K (.ref D) "__getattr__"=some none)
    (hb:mroIn K D (.type "BaseException")=some true) (hf:findObj K D od name=some (.value v)) (hv:handedIn v=true)
    (h:Q v { s with toks:=s.toks + 1 }):wpAny (model prog w) A (getAttr (.ref x) name expr) Q E s:=by
  obtain ⟨hh,g,d,t,os⟩:=s
  have L0:=I.type (M:=model prog w)
  have L1:=looks_findIn (M:=model prog w) X hga
  have L2:=looks_findIn (M:=model prog w) X hk
  have L3:=looks_find (M:=model prog w) X I hf
  unfold getAttr getAttrBy
  refine wpAny_bind (wpAny_mkText (wpAny_holding (wpAny_bind (L0.at (wpAny_bind (L1.at ?_))))))
  dsimp only
  have hne:(onTheHeap (Value.ref D) && Value.builtin "BaseException.__getattribute__" == Value.builtin "object.__getattribute__")=false:=by
    have hx2:(Value.builtin "BaseException.__getattribute__" == Value.builtin "object.__getattribute__")=false:=by decide +kernel
    rw [hx2]; rfl
  rw [if_neg (by rw [hne]; decide)]
  unfold getAttrByItsOwn hookBefore
  rw [show onTheHeap (Value.ref D)=true from rfl,if_pos rfl]
  refine wpAny_bind (L2.at ?_)
  refine wpAny_bind (wpAny_attempt (wpAny_holding ?_))
  unfold callGetattribute
  rw [if_neg (by simp [onTheHeap])]
  unfold boundAndCalled
  refine wpAny_bind (wpAny_of_eq (PySem.F.attrBase_ValueError.ga.bind (.ref x)) ?_)
  refine wpAny_call (codeAny_call_builtin PySem.F.attrBase_ValueError.ga.plain F.entry_bexc_ga (check_bexc X I hb ?_))
  unfold Builtin.«object.__getattribute__»
  refine wpAny_bind (wpAny_pure ?_)
  refine wpAny_bind (wpAny_pure ?_)
  refine wpAny_bind (L0.at (wpAny_bind (L3.at ?_)))
  refine wpAny_pure ?_
  show wpAny _ _ (handedOut v) _ _ _
  rw [handedOut_of hv]; exact wpAny_pure h
noncomputable def exOk (K:Frag) (D:Addr):Bool:=(findIn K (.ref D) "__getattribute__" == some (some (.builtin "BaseException.__getattribute__"))) && (findIn K (.ref D) "__getattr__" == some none) && (mroIn K D (.type "BaseException") == some true) && (mroIn K D (.type "object") == some true) &&
  (findIn K (.ref D) "__class__" == some (some (.builtin "object.__class__"))) && (specialIn K (.builtin "object.__class__") "__get__" == some (some (.builtin "getset_descriptor.__get__"))) && (takesIn K (.builtin "object.__class__") == some true) && (clsIn K D).isSome
theorem findObj_none {C:Addr} {name:Str} {a g:Value} (hc:(clsIn K C).isSome=true) (ha:findIn K (.ref C) name=some (some a)) (hg:specialIn K a "__get__"=some (some g)) (ht:takesIn K a=some true):findObj K C od name=some (.bind g a):=by
  obtain ⟨cd,hc⟩:=Option.isSome_iff_exists.mp hc
  unfold findObj
  rw [hc,Option.bind_some,ha,Option.bind_some]
  simp only [hg,ht,Option.bind_some]
theorem kitx_exc (h:exOk K D=true):KitX K (.ref x) (.ref D) (fun h=>∃ ox od,InstAt h x ox D od):=by
  simp only [exOk,Bool.and_eq_true,beq_iff_eq] at h
  obtain ⟨⟨⟨⟨⟨⟨⟨h1,h2⟩,h3⟩,h4⟩,h5⟩,h6⟩,h7⟩,h8⟩:=h
  have hob:∃ c' d' cd' sl',K.lookup D=some ⟨c',d',.cls cd',sl'⟩:=by
    obtain ⟨cd,e⟩:=Option.isSome_iff_exists.mp h8
    unfold clsIn at e
    split at e
    · rename_i c' d' cd' sl' ho; exact ⟨_,_,_,_,ho⟩
    · cases e
  obtain ⟨c',d',cd',sl',ho⟩:=hob
  refine ⟨fun M h _ ⟨ox,od,I⟩=>I.type,fun M h X _=>?_,fun h tp dd its n sl X htp=>?_,fun X ⟨ox,od,I⟩ k=>exc_class X I h1 h2 h3 (findObj_none h8 h5 h6 h7) h4 k⟩
  · intro A' Q' E' s' k q
    unfold isType loadHead
    exact wpAny_bind (wpAny_loadPart (k _ _ (X _ _ ho)) (wpAny_pure q))
  · refine Bool.eq_false_iff.mpr fun q=>?_
    have e:D=tp:=Value.ref.inj (beq_iff_eq.mp q)
    subst e
    have z:=(X _ _ ho).symm.trans htp
    cases z
end
end PySem.W
namespace L2
open PySem PySem.Spec PyProof.Rows
noncomputable def OkX (P:Program) (w:World) (K:PySem.W.Frag) (mg:Str→Option Value) (base:Heap) (k:Nat) (x:Str) (ps:List Str) (sp:Sp):Prop :=
  ∃ f fd,FnOk P w K mg base (CX1 P w) k f fd ps sp∧mg x=some (.ref f)∧PySem.W.keepIn K (.ref f)=true∧Binds K fd ps []
theorem okOfX {P:Program} {w:World} {K:PySem.W.Frag} {mg:Str→Option Value} {base:Heap} {k:Nat} {x:Str} {st:Stmt} {ps:List Str} {sp:Sp} (d:Dfn K mg x st) (b:BindFact x st ps)
    (h:∀ {f fd},Fun K x x st f fd→FnOk P w K mg base (CX1 P w) k f fd ps sp):OkX P w K mg base k x ps sp:=by
  obtain ⟨f,fd,F,hm⟩:=d
  exact ⟨f,fd,h F,hm,F.kp,F.binds b⟩
section
variable {X:Cx} {k:Nat} {x:Str} {ps:List Str} {sp:Sp} {p pos:Pos} {e:Expr} {es:List Expr} {t:TA} {E:St→XK}
noncomputable def tCallS (sp:Sp) (E:St→XK) (t:TA):TE:=fun σ H Q=>t σ H fun vs H1=>sp vs H1 Q (E σ)
theorem pe_callX (G:OkX X.prog X.w X.K X.mg X.base k x ps sp) (hr:Room k X.A) (hg:Gl X x) (hx:PassS X E) (ha:PA X (e :: es) t) (hdb:(x == ("__debug__":Str))=false:=by decide)
    (he:starEach (e :: es) X.env=(false,eval e X.env) :: starEach es X.env:=by rfl) (hpl:(backTo pos (starEach es X.env)).any (·.1)=false:=by rfl):PE X (.Call (.Name x p) (e :: es) [] pos) (tCallS sp E t):=by
  obtain ⟨f,fd,F,hm,hk,hb⟩:=G
  intro pins s σ H Q I h
  refine wpAny_Call_Name_kw (ld_glob I hg hm ?_ hdb)
  refine PySem.W.callWith_K (h₀:=X.base) I.ok.mod.kin hk (thn (ha pos pins s σ H _ I h) fun us s1 ⟨vs,H1,I1,r,q⟩=>⟨I1.kIn, ?_⟩) he hpl
  have hl:(us ++ []).length=ps.length:=by rw [List.append_nil,← r.length]; exact F.len _ _ _ _ q
  have hb':=hb s1 us I1.kIn hl
  rw [List.append_nil] at hb'
  refine wpAny_call (codeAny_mono (F.run X.A X.stack s1 H1 ⟨us,[]⟩ us vs Q (E σ) hr I1.env0 hb' r q) fun r s' hq=>?_)
  cases r with
  | error e=>exact hx pins σ H1 s1 e s' I1 hq
  | ok fl =>
    cases fl with
    | ret u=>exact I1.after hq
    | next=>exact False.elim hq
    | brk=>exact False.elim hq
    | cont=>exact False.elim hq
end
noncomputable def KeyP:PV→Hp→Addr→Prop
  | .non,H,k=>H k=none
  | .int i,H,k=>∃ fs,H k=some (.xd fs)∧fs=[(("at":Str),V.int i)]
  | _,_,_=>False
noncomputable def W1 (K:PySem.W.Frag):PX→XK→Hp→Prop:=fun e E H'=>∀ C k,XCls K e.1 C→KeyP e.2 H' k→E (.ref C) (some k) H'
section
variable {P:Program} {w:World} {K:PySem.W.Frag} {mg:Str→Option Value} {base:Heap}
theorem Fun.okX {x qual:Str} {st:Stmt} {f:Addr} {fd:FuncData} {N ps:List Str} {k n l:Nat} {kd:Kd} {m:List PV→Rr PV} (F:Fun K x qual st f fd) (S:FnScope N ps (defScope st)) (hn:ps.length=n) (hl:N.length - n=l)
    (hbody:∀ (cdv:Value) (A:Around) (outer:List Env) (s:Shared) (H:Hp) (E:XK),Room k (A.deeper (envOfC qual (defScope st) s.heap.objs.size f cdv)) →
      ∃ t g Y,Y.r=kd∧PSs (cxOf (CX1 P w) P w K mg base N qual (defScope st) f cdv A outer s H E) (defBody st) t∧DS K (fun e H'=>W1 K e E H') (List.replicate n .S ++ List.replicate l .U) Y t g∧∀ xs,Ref (m xs) (g (xs ++ List.replicate l .non)).out) (hkN:kd≠.N:=by nofun) :
    FnOk P w K mg base (CX1 P w) (k + 1) f fd ps (spF K n kd (W1 K) m):=by
  obtain ⟨oc,od,kV,doc,pm,an,cdv,ct,osl,rfl,lk,hcd⟩:=F.ex
  refine fn_of lk hcd S (fun vs H Q E h=>?_) fun A outer s H vs Q E hr h=>?_
  · obtain ⟨B,xs,h1,h2,_⟩:=h
    rw [h1.length,h2,hn]
  · obtain ⟨B,xs,h1,h2,dn⟩:=h
    obtain ⟨t,g,Y,hY,ht,hd,href⟩:=hbody cdv A outer s H E hr
    refine ⟨t,ht, ?_⟩
    have A0:=Ag.init (n:=l) h1
    have est:start N vs=vs.map some ++ List.replicate l none:=by
      unfold start
      rw [h1.length,h2,hl]
    rw [est]
    rw [h2] at A0
    refine hd _ H H _ _ _ _ A0 ?_
    have hdn:Dn (g (xs ++ List.replicate l .non)).out (fun x=>∀ v H',Same H H'→RetK K B H kd x v H'→Q v H') (fun e=>∀ H',Same H H'→W1 K e E H'):=by
      rcases href xs with e | e
      · rw [e] at dn; exact dn.elim
      · rw [← e]; exact dn
    have retK:∀ {x v H'},RetK K (fun a=>B a ∨ H a=none) H kd x v H'→RetK K B H kd x v H':=fun {x v H'} h=>by
      cases kd with
      | P=>exact h
      | F=>exact h
      | T=>exact Rep.mono (fun a us s r=>⟨r,s.elim id .inr⟩) (fun a us r=>r) h
      | Z=>exact Rep.mono (fun a us s r=>⟨r,s.elim id .inr⟩) (fun a us r=>r) h
      | A=>exact Rep.mono (fun a us s r=>⟨r,s.elim id .inr⟩) (fun a us r=>r) h
      | N=>exact h
    cases e:g (xs ++ List.replicate l .non) with
    | next ρ =>
      rw [e] at hdn
      refine fun σ' H' F' fr A'=>hdn .non H' A'.same ?_
      cases kd with
      | P=>exact ⟨rfl,rfl⟩
      | F=>exact ⟨[],⟨rfl,rfl⟩,by simp⟩
      | T=>exact rfl
      | Z=>exact rfl
      | A=>exact rfl
      | N=>exact absurd rfl hkN
    | ret x=>rw [e] at hdn; exact fun v H' s r=>hdn v H' s (retK (hY ▸ r))
    | exc q=>rw [e] at hdn; exact fun H' s=>hdn H' s
    | brk ρ=>rw [e] at hdn; exact hdn.elim
    | cont ρ=>rw [e] at hdn; exact hdn.elim
    | bad=>rw [e] at hdn; exact hdn.elim
end
section
variable {K:PySem.W.Frag} {n:Nat} {m:List PV→Rr PV} {ta:TA} {Γ Γ':List Md} {fa:List PV→Rr (List PV)} {E:XK}
noncomputable abbrev EX1 (K:PySem.W.Frag) (E:XK):PX→Hp→Prop:=fun e H'=>W1 K e E H'
theorem dx_F (hn:Len fa n) (ha:DAA K (EX1 K E) Γ Γ' ta fa):DE K (EX1 K E) Γ Γ' .F (tCallS (spF K n .F (W1 K) m) (fun _=>E) ta) (fun ρ=>(fa ρ).bind m):=de_callF (E:=E) (W:=W1 K) (fun σ H Q h=>h) (fun e H' h=>h) hn ha
theorem dx_P (hn:Len fa n) (ha:DAA K (EX1 K E) Γ Γ' ta fa):DE K (EX1 K E) Γ Γ' .P (tCallS (spF K n .P (W1 K) m) (fun _=>E) ta) (fun ρ=>(fa ρ).bind m):=de_callP (E:=E) (W:=W1 K) (fun σ H Q h=>h) (fun e H' h=>h) hn ha
theorem dy_F {EX:PX→Hp→Prop} (hn:Len fa n) (hm:∀ xs q,m xs≠.exc q) (ha:DAA K EX Γ Γ' ta fa):DE K EX Γ Γ' .F (tCallO (spF K n .F W0 m) ta) (fun ρ=>(fa ρ).bind m):=fun B H0 H σ ρ F R Q A d=>by
  refine ha B H0 H σ ρ F R _ A (d.bind.imp (fun xs hx d vs H1 F1 s1 f1 p1 A1=>?_) fun e q=>q)
  refine ⟨fun _=>True,xs,p1,hn ρ xs hx, ?_⟩
  cases e:m xs with
  | ok x =>
    rw [e] at d
    intro v H2 s2 r
    obtain ⟨G,r1,r2⟩:=r
    exact d v H2 (s1.trans s2) ⟨F1,f1,G,r1,fun a ha=>⟨(A1.fresh (r2 a ha)).1,.inl (s1.free (r2 a ha))⟩,A1.more s2 r2 r1.alive⟩
  | exc q=>exact (hm xs q e).elim
  | bad=>rw [e] at d; exact d.elim
theorem dy_P {EX:PX→Hp→Prop} (hn:Len fa n) (hm:∀ xs q,m xs≠.exc q) (ha:DAA K EX Γ Γ' ta fa):DE K EX Γ Γ' .P (tCallO (spF K n .P W0 m) ta) (fun ρ=>(fa ρ).bind m):=fun B H0 H σ ρ F R Q A d=>by
  refine ha B H0 H σ ρ F R _ A (d.bind.imp (fun xs hx d vs H1 F1 s1 f1 p1 A1=>?_) fun e q=>q)
  refine ⟨fun _=>True,xs,p1,hn ρ xs hx, ?_⟩
  cases e:m xs with
  | ok x=>rw [e] at d; exact fun v H2 s2 r=>d v H2 (s1.trans s2) ⟨F1,f1,r.1,r.2,A1.grow s2⟩
  | exc q=>exact (hm xs q e).elim
  | bad=>rw [e] at d; exact d.elim
noncomputable def Pm.calm (m:Pm):Prop:=∀ a q,m.out a≠.exc q
theorem Pm.calm_fn {m:Pm} (h:m.calm) (xs:List PV) (q:PX):m.fn xs≠.exc q:=by
  unfold Pm.fn
  by_cases hx:∃ a,m.enc a=xs∧m.pre a
  · rw [dif_pos hx]; exact h _ q
  · rw [dif_neg hx]; exact fun z=>by cases z
theorem ds_raise {C:Addr} {x:Str} {Y:Tys} (hC:XCls K x C) (hn:Len fa n) (hl:n≤1000) (ha:DAA K (EX1 K E) Γ Γ' ta fa):DS K (EX1 K E) Γ Y (tRaise C (fun _=>E) ta) (fun ρ=>(fa ρ).thenS fun _=>.exc (x,.non)):=fun B H0 H σ ρ F D A d=>by
  refine ha B H0 H σ ρ F [] _ A (d.thenS.imp (fun xs hx d vs H1 F1 s1 f1 p1 A1=>?_) fun e q=>q)
  exact ⟨by rw [p1.length,hn ρ xs hx]; exact hl,fun ea hea=>d H1 A1.same C ea hC hea⟩
end
end L2
namespace L2
open PySem PySem.Spec PyProof.Rows
noncomputable def cvOf:V→Value
  | .ref a=>.ref a
  | .ty n=>.type n
  | _=>.none
noncomputable def isCls:V→Bool
  | .ref _=>true
  | .ty _=>true
  | _=>false
theorem cv_rel {c:V} {u:Value} (h:isCls c=true) (r:RelV c u):u=cvOf c:=by
  cases c <;> first | exact r | cases h
structure IsT (K:PySem.W.Frag) (c:V) (L:List (Str × Bool)):Prop where
  cls:isCls c=true
  non:PySem.W.kitOne K (.type "NoneType") (cvOf c)=some false
  own:∀ n b,L.lookup n=some b→∀ D,XCls K n D→PySem.W.exOk K D=true∧PySem.W.kitOne K (.ref D) (cvOf c)=some b
noncomputable def ExxAt (K:PySem.W.Frag) (H:Hp) (n:Str) (v:V):Prop:=ExcAt K H n v ∨ ∃ i,ExaAt K H n i v
theorem ExxAt.inst {X:Cx} {pins:List (Addr × Obj)} {σ:St} {H:Hp} {s:Shared} {n:Str} {v:V} (I:Inv X pins σ H s) (h:ExxAt X.K H n v):∃ a o C od,v=.ref a∧XCls X.K n C∧PySem.W.InstAt s.heap a o C od∧∀ u,od=some u→PySem.W.lookIn ("called":Str) u=some none:=by
  rcases h with ⟨a,o,C,rfl,h1,h2,h3,h4,h5⟩ | ⟨i,a,o,C,d,fs,rfl,h1,h1d,h2,h3,h4,h5,rfl⟩
  · exact ⟨a,o,C,none,rfl,h5,⟨(I.hok a _ h1.1).1,h2,h4,by rw [h3]; trivial⟩,fun u z=>by cases z⟩
  · obtain ⟨m,n1,n2⟩:=I.hok d _ h1d.1
    obtain ⟨ou,hu,hl⟩:=lookIn_ns n1
    refine ⟨a,o,C,some ou,rfl,h5,⟨(I.hok a _ h1.1).1,h2,h4,by rw [h3]; exact hu⟩,fun u z=>?_⟩
    cases z
    rw [hl]
    have z:=n2 ("called":Str)
    cases q:m ("called":Str) with
    | none=>rfl
    | some y=>rw [q] at z; exact z.elim
noncomputable def rIsX (K:PySem.W.Frag) (c:V) (L:List (Str × Bool)):List V→Hp→VK→Prop:=fun xs H Q=>∃ x,xs=[x,c]∧((x=.non∧Q (.bl false) H) ∨ ∃ n b,ExxAt K H n x∧L.lookup n=some b∧Q (.bl b) H)
theorem call_isX {X:Cx} {K:PySem.W.Frag} {c:V} {L:List (Str × Bool)} (T:IsT K c L) (e:X.K=K:=by rfl):CallR X (.builtin "isinstance") (rIsX K c L):=by
  subst e
  intro pins s σ H xs us Q I r h
  obtain ⟨x,rfl,h⟩:=h
  obtain ⟨u,w',rfl,rx,rn⟩:=vals2 r
  obtain rfl:=cv_rel T.cls rn
  rcases h with ⟨rfl,q⟩ | ⟨n,b,hx,hb,q⟩
  · cases rx
    exact PySem.W.kia_one PySem.W.kitx_none I.kIn True.intro T.non (fun z=>nomatch z) fun tk=>⟨.bl false,H,I.tok _,rfl,q⟩
  · obtain ⟨a,o,C,od,rfl,h5,hI,-⟩:=hx.inst I
    cases rx
    obtain ⟨t1,t2⟩:=T.own n b hb C h5
    exact PySem.W.kia_one (PySem.W.kitx_exc t1) I.kIn ⟨o,od,hI⟩ t2 (fun z=>nomatch z) fun tk=>⟨.bl b,H,I.tok _,rfl,q⟩
noncomputable def pIsX (L:List (Str × Bool)) (x:PV):Rr PV:=match x with
  | .non=>.ok (.bl false)
  | .exc n=>(match L.lookup n with | some b=>.ok (.bl b) | none=>.bad)
  | .exa n _=>(match L.lookup n with | some b=>.ok (.bl b) | none=>.bad)
  | _=>.bad
section
variable {K:PySem.W.Frag} {EX:PX→Hp→Prop} {Γ Γ':List Md} {te:TE} {f:List PV→Rr PV}
theorem de_isX {c:V} {L:List (Str × Bool)} (he:DE K EX Γ Γ' .A te f):DE K EX Γ Γ' .P (tCB (rIsX K c L) (tCons te (tCons (tC c) tNil))) (fun ρ=>(f ρ).bind (pIsX L)):=fun B H0 H σ ρ F R Q A d=>by
  refine he B H0 H σ ρ F R _ A (d.bind.imp (fun x _ d v H1 s1 r1=>?_) fun e q=>q)
  obtain ⟨F1,f1,p1,A1⟩:=r1
  cases x with
  | non=>exact ⟨v,rfl,.inl ⟨p1,d _ H1 s1 ⟨F1,f1,rfl,rfl,A1⟩⟩⟩
  | exc n =>
    simp only [pIsX] at d
    cases hb:L.lookup n with
    | some b=>rw [hb] at d; exact ⟨v,rfl,.inr ⟨n,b,.inl p1,hb,d _ H1 s1 ⟨F1,f1,rfl,rfl,A1⟩⟩⟩
    | none=>rw [hb] at d; exact d.elim
  | exa n i =>
    simp only [pIsX] at d
    cases hb:L.lookup n with
    | some b=>rw [hb] at d; exact ⟨v,rfl,.inr ⟨n,b,.inr ⟨i,p1⟩,hb,d _ H1 s1 ⟨F1,f1,rfl,rfl,A1⟩⟩⟩
    | none=>rw [hb] at d; exact d.elim
  | _=>exact d.elim
end
noncomputable def MOk (P:Program) (w:World) (K:PySem.W.Frag) (mg:Str→Option Value) (base:Heap) (k:Nat) (m n:Str):Prop :=
  ∃ C f fd,XCls K n C∧PySem.W.exOk K C=true∧PySem.W.findIn K (.ref C) m=some (some (.ref f))∧PySem.W.typeIn K (.ref f)=some (.type "function")∧PySem.W.keepIn K (.ref f)=true∧Binds K fd ["self"] [] ∧
    FnOk P w K mg base CX0 k f fd ["self"] (spF K 1 .P W0 fun _=>.ok (.str n))
noncomputable def tCalled (K:PySem.W.Frag) (L:List Str) (ta:TE):TE:=fun σ H Q=>ta σ H fun v H1=>∃ n,n∈L∧ExxAt K H1 n v∧∀ H2,Same H1 H2→Q (.str n) H2
theorem pe_called {X:Cx} {k:Nat} {L:List Str} {o:Expr} {ta:TE} {apos pos:Pos} {pl:Sem Bool} (hM:∀ n∈L,MOk X.prog X.w X.K X.mg X.base k "called" n) (hr:Room k X.A) (he:PE X o ta)
    (ht:eval (.Call (.Attribute o "called" apos) [] [] pos) X.env=(do
      let ov ← eval o X.env
      standAt apos.atName
      let (f,first) ← holding [ov] (getMethod ov "called" pl)
      callWith pos f first (backTo pos (starEach [] X.env)) (backToKw pos (keywordEach [] X.env))):=by rfl) :
    PE X (.Call (.Attribute o "called" apos) [] [] pos) (tCalled X.K L ta):=by
  intro pins s σ H Q I h
  refine PySem.W.methodCall_KW (pl:=pl) (thn (he pins s σ H _ I h) fun u s1 ⟨x,H1,I1,rx,n,hn,hx,q⟩=>?_) ht
  obtain ⟨a,oe,C,od,rfl,h5,hI,hl⟩:=hx.inst I1
  obtain rfl:u=Value.ref a:=rx
  obtain ⟨C',f,fd,c1,c2,c3,c4,c5,c6,c7⟩:=hM n hn
  have hCC:C'=C:=by have z:=c1.symm.trans h5; simpa using z
  subst hCC
  simp only [PySem.W.exOk,Bool.and_eq_true,beq_iff_eq] at c2
  obtain ⟨⟨⟨⟨⟨⟨⟨d1,d2⟩,d3⟩,d4⟩,d5⟩,d6⟩,d7⟩,d8⟩:=c2
  refine PySem.W.method_exc I1.kIn hI d1 d2 hl c3 c4 ?_
  refine PySem.W.callWith_K0 (first:=[.ref a]) I1.kIn c5 (run_fn (us:=[.ref a]) (vs:=[.ref a]) (dvs:=[]) (E:=E0) c7 hr c6 .nil pass0 I1 (.cons rfl .nil) ?_)
  have fin:∀ v H',Same H1 H'→RetK X.K (fun _=>True) H1 .P (.str n) v H'→Q v H':=fun v H' sm r=>by
    obtain rfl:v=.str n:=r.2
    exact q H' sm
  rcases hx with hx | ⟨i,hx⟩
  · exact ⟨fun _=>True,[.exc n],⟨_,_,rfl,hx,rfl⟩,rfl,fin⟩
  · exact ⟨fun _=>True,[.exa n i],⟨_,_,rfl,hx,rfl⟩,rfl,fin⟩
noncomputable def pCalled (L:List Str) (x:PV):Rr PV:=match x with
  | .exc n=>if n∈L then .ok (.str n) else .bad
  | .exa n _=>if n∈L then .ok (.str n) else .bad
  | _=>.bad
section
variable {K:PySem.W.Frag} {EX:PX→Hp→Prop} {Γ Γ':List Md} {te:TE} {f:List PV→Rr PV}
theorem de_called {L:List Str} (he:DE K EX Γ Γ' .A te f):DE K EX Γ Γ' .P (tCalled K L te) (fun ρ=>(f ρ).bind (pCalled L)):=fun B H0 H σ ρ F R Q A d=>by
  refine he B H0 H σ ρ F R _ A (d.bind.imp (fun x _ d v H1 s1 r1=>?_) fun e q=>q)
  obtain ⟨F1,f1,p1,A1⟩:=r1
  cases x with
  | exc n =>
    simp only [pCalled] at d
    by_cases hn:n∈L
    · rw [if_pos hn] at d; exact ⟨n,hn,.inl p1,fun H2 s2=>d _ H2 (s1.trans s2) ⟨F1,f1,rfl,rfl,A1.grow s2⟩⟩
    · rw [if_neg hn] at d; exact d.elim
  | exa n i =>
    simp only [pCalled] at d
    by_cases hn:n∈L
    · rw [if_pos hn] at d; exact ⟨n,hn,.inr ⟨i,p1⟩,fun H2 s2=>d _ H2 (s1.trans s2) ⟨F1,f1,rfl,rfl,A1.grow s2⟩⟩
    · rw [if_neg hn] at d; exact d.elim
  | _=>exact d.elim
end
noncomputable def noOwn (Γ:List Md):Bool:=Γ.all fun m=>m == .U || m == .P || m == .S
theorem noOwn_F {K:PySem.W.Frag} {B:Addr→Prop} {H0 H:Hp} {σ:St} {Γ:List Md} {ρ:List PV} {F:Nat→List Addr} {R:List Addr} (h:noOwn Γ=true) (A:Ag K B H0 H σ Γ ρ F R):∀ i,F i=[]:=fun i=>by
  have sl:=A.slot i
  by_cases hi:i < Γ.length
  · have hm:=List.all_eq_true.mp h Γ[i] (List.getElem_mem hi)
    have e:Γ.getD i .U=Γ[i]:=by rw [List.getD_eq_getElem?_getD,List.getElem?_eq_getElem hi]; rfl
    rw [e] at sl
    simp only [Bool.or_eq_true,beq_iff_eq] at hm
    rcases hm with (hm | hm) | hm
    · rw [hm] at sl; exact sl
    · rw [hm] at sl; exact sl.1
    · rw [hm] at sl; exact sl.1
  · have e:Γ.getD i .U=.U:=by rw [List.getD_eq_getElem?_getD,List.getElem?_eq_none (by omega)]; rfl
    rw [e] at sl
    exact sl
theorem Ag.near {K:PySem.W.Frag} {B:Addr→Prop} {H0 H:Hp} {σ:St} {Γ:List Md} {ρ:List PV} {F:Nat→List Addr} (A:Ag K B H0 H σ Γ ρ F []) (h:∀ i,F i=[]):Ag K B H H σ Γ ρ F [] :=
  ⟨Same.refl _,fun a q=>A.own a (A.same.free q),fun i a ha=>by rw [h i] at ha; simp at ha,by simp,A.live,A.liveR,A.disj,A.disjR,A.lenS,A.lenR,A.slot⟩
theorem Ag.far {K:PySem.W.Frag} {B:Addr→Prop} {H0 H1 H:Hp} {σ:St} {Γ:List Md} {ρ:List PV} {F:Nat→List Addr} (A:Ag K B H1 H σ Γ ρ F []) (s:Same H0 H1) (own:∀ a,H0 a=none→B a):Ag K B H0 H σ Γ ρ F [] :=
  ⟨s.trans A.same,own,fun i a ha=>s.free (A.young i a ha),by simp,A.live,A.liveR,A.disj,A.disjR,A.lenS,A.lenR,A.slot⟩
theorem Same.newO {H:Hp} {p:Addr} {o:HO} (hp:H p=none):Same H (L2.upd H p o):=fun b u h=>by rw [L2.upd_ne (ne_of_none h hp)]; exact h
theorem Ag.unset {K:PySem.W.Frag} {B:Addr→Prop} {H0 H:Hp} {σ:St} {Γ Γ':List Md} {ρ:List PV} {F:Nat→List Addr} (i:Nat) (A:Ag K B H0 H σ Γ ρ F []) (h:mles (Γ.set i .U) Γ'=true) :
    ∃ F',(∀ i,∀ a∈F' i,a∈F i)∧Ag K B H0 H (σ.set i none) Γ' ρ F' []:=by
  have h0:mles Γ (Γ.set i .U)=true:=by
    have:∀ (Γ:List Md) (i:Nat),mles Γ (Γ.set i .U)=true:=fun Γ=>by
      induction Γ with
      | nil=>intro i; rfl
      | cons m ms ih =>
        intro i
        have refl:∀ l:List Md,mles l l=true:=fun l=>by induction l with | nil=>rfl | cons a l ih=>simp [mles,mle,ih]
        cases i with
        | zero=>simp [mles,mle,refl]
        | succ i=>simp [mles,mle,ih i]
    exact this Γ i
  obtain ⟨F1,f1,A1⟩:=A.weak h0
  have hFi:F1 i=[]:=by
    have sl:=A1.slot i
    by_cases hi:i < Γ.length
    · have e:(Γ.set i .U).getD i .U=.U:=by rw [List.getD_eq_getElem?_getD,List.getElem?_set_self hi]; rfl
      rw [e] at sl; exact sl
    · have e:(Γ.set i .U).getD i .U=.U:=by rw [List.getD_eq_getElem?_getD,List.getElem?_eq_none (by simp; omega)]; rfl
      rw [e] at sl; exact sl
  have A2:Ag K B H0 H (σ.set i none) (Γ.set i .U) ρ F1 []:=⟨A1.same,A1.own,A1.young,A1.youngR,A1.live,A1.liveR,A1.disj,A1.disjR,by simpa using A1.lenS,A1.lenR,fun j=>by
    by_cases hj:j=i
    · subst hj
      have e:(Γ.set j .U).getD j .U=.U:=by
        by_cases hi:j < Γ.length
        · rw [List.getD_eq_getElem?_getD,List.getElem?_set_self hi]; rfl
        · rw [List.getD_eq_getElem?_getD,List.getElem?_eq_none (by simp; omega)]; rfl
      rw [e]; exact hFi
    · have sl:=A1.slot j
      rw [List.getElem?_set_ne (Ne.symm hj)]; exact sl⟩
  obtain ⟨F3,f3,A3⟩:=A2.weak h
  exact ⟨F3,fun j a ha=>f1 j a (f3 j a ha),A3⟩
noncomputable def excP (e:PX):PV:=match e.2 with
  | .int i=>.exa e.1 i
  | _=>.exc e.1
noncomputable def tryR (L:List Str) (i:Nat) (gb gh:List PV→RS) (ρ:List PV):RS:=match gb ρ with
  | .exc e=>if e.1∈L then gh (ρ.set i (excP e)) else .bad
  | r=>r
section
variable {K:PySem.W.Frag} {EX:PX→Hp→Prop} {Γ Γs:List Md} {Y Yh:Tys} {tb:(St→XK)→TS} {th:TS} {gb gh:List PV→RS} {C:Addr} {i:Nat} {L:List Str}
theorem ds_try (hL:∀ n∈L,∀ D,XCls K n D→PySem.W.exmOne K (.ref D) (.ref C)=some true) (hb:∀ E:XK,DS K (EX1 K E) Γs Y (tb fun _=>E) gb) (hloc:∀ (E:St→XK) D σ H,tb (fun _=>E σ) D σ H→tb E D σ H)
    (hh:DS K EX (Γs.set i .P) Yh th gh) (hs:mles Γ Γs=true) (ho:noOwn Γs=true) (hi:i < Γs.length) (hn:mles (Yh.n.set i .U) Y.n=true) (hbk:mles (Yh.b.set i .U) Y.b=true) (hct:mles (Yh.c.set i .U) Y.c=true) (hr:Yh.r=Y.r) :
    DS K EX Γ Y (tTry K C i tb th) (tryR L i gb gh):=fun B H0 H σ ρ F D A d=>by
  obtain ⟨F1,f1,A1⟩:=A.weak hs
  have hF:=noOwn_F ho A1
  have AN:=A1.near hF
  refine hloc _ D σ H (hb (eTry K C i th D σ) B H H σ ρ F1 D AN ?_)
  have frm0:∀ {H' F'},Frm H F1 H' F'→Frm H F H' F':=fun {H' F'} fr=>(Frm.of (Same.refl _) f1).trans fr
  unfold tryR at d
  cases e:gb ρ with
  | next ρ1=>rw [e] at d; exact fun σ' H' F' fr A'=>d σ' H' F' (frm0 fr) (A'.far A.same A.own)
  | brk ρ1=>rw [e] at d; exact fun σ' H' F' fr A'=>d σ' H' F' (frm0 fr) (A'.far A.same A.own)
  | cont ρ1=>rw [e] at d; exact fun σ' H' F' fr A'=>d σ' H' F' (frm0 fr) (A'.far A.same A.own)
  | ret x =>
    rw [e] at d
    refine fun v H' s r=>d v H' (A.same.trans s) ?_
    cases hk:Y.r with
    | P=>rw [hk] at r; exact r
    | F=>rw [hk] at r; obtain ⟨G,r1,r2⟩:=r; exact ⟨G,r1,fun a ha=>A.same.free (r2 a ha)⟩
    | T=>rw [hk] at r; exact Rep.mono (fun a us s r=>⟨r,s.elim .inl fun z=>.inr (A.same.free z)⟩) (fun a us r=>r) r
    | Z=>rw [hk] at r; exact Rep.mono (fun a us s r=>⟨r,s.elim .inl fun z=>.inr (A.same.free z)⟩) (fun a us r=>r) r
    | A=>rw [hk] at r; exact Rep.mono (fun a us s r=>⟨r,s.elim .inl fun z=>.inr (A.same.free z)⟩) (fun a us r=>r) r
    | N=>rw [hk] at r; obtain ⟨y,a,s,xs,G1,G2,r1,r2,r3,r4,r5,r6⟩:=r; exact ⟨y,a,s,xs,G1,G2,r1,r2,r3,r4,fun b hb=>A.same.free (r5 b hb),fun b hb=>A.same.free (r6 b hb)⟩
  | bad=>rw [e] at d; exact d
  | exc q =>
    rw [e] at d
    dsimp only at d
    by_cases hq:q.1∈L
    · rw [if_pos hq] at d
      intro H' sm C' k hC' hk
      refine ⟨hL q.1 hq C' hC',k,rfl,fun ea oe hea hc hdn hnc=>?_⟩
      have s1:Same H' (upd H' ea (.frz oe (.own ea))):=Same.newO hea
      have s2:Same H (upd H' ea (.frz oe (.own ea))):=sm.trans s1
      have A2:Ag K B H0 (upd H' ea (.frz oe (.own ea))) σ Γs ρ F1 []:=A1.grow s2
      have key:∀ S:Addr→Prop,PV.flat (excP q)=true∧Rep K (upd H' ea (.frz oe (.own ea))) S (excP q) (.ref ea):=fun S=>by
        obtain ⟨qn,qv⟩:=q
        cases qv with
        | non =>
          have hk:H' k=none:=hk
          rcases hdn with ⟨z,_⟩ | ⟨_,fs,z⟩
          · exact ⟨rfl,ea,oe,C',rfl,⟨upd_same,trivial⟩,hc,z,hnc,hC'⟩
          · rw [hk] at z; cases z
        | int i =>
          obtain ⟨fs,z1,z2⟩:=(show ∃ fs,H' k=some (.xd fs)∧fs=[(("at":Str),V.int i)] from hk)
          rcases hdn with ⟨_,z⟩ | ⟨z,_⟩
          · rw [z,hea] at z1; cases z1
          · exact ⟨rfl,ea,oe,C',k,fs,rfl,⟨upd_same,trivial⟩,⟨s1 _ _ z1,trivial⟩,hc,z,hnc,hC',z2⟩
        | _=>exact hk.elim
      have A3:=Ag.put (i:=i) (m:=.P) (x:=excP q) (v:=.ref ea) (G:=[]) (R:=[]) A2 hi (by simp) ⟨rfl,_,rfl,(key fun _=>True).1,(key _).2⟩
      refine hh B H0 _ _ _ _ (unE D i) A3 ?_
      have fr3:Frm H F (upd H' ea (.frz oe (.own ea))) (own1 F1 i []):=frm0 (frm_put (G:=[]) s2 (fun _ _ h=>h) (by simp))
      cases e2:gh (ρ.set i (excP q)) with
      | next ρ1 =>
        rw [e2] at d
        intro σ' H2 F2 fr A'
        obtain ⟨F4,f4,A4⟩:=A'.unset i hn
        exact d _ H2 F4 (fr3.trans (fr.trans (Frm.of (Same.refl _) f4))) A4
      | brk ρ1 =>
        rw [e2] at d
        intro σ' H2 F2 fr A'
        obtain ⟨F4,f4,A4⟩:=A'.unset i hbk
        exact d _ H2 F4 (fr3.trans (fr.trans (Frm.of (Same.refl _) f4))) A4
      | cont ρ1 =>
        rw [e2] at d
        intro σ' H2 F2 fr A'
        obtain ⟨F4,f4,A4⟩:=A'.unset i hct
        exact d _ H2 F4 (fr3.trans (fr.trans (Frm.of (Same.refl _) f4))) A4
      | ret x=>rw [e2] at d; exact fun v H2 s r=>d v H2 s (hr ▸ r)
      | exc q2=>rw [e2] at d; exact d
      | bad=>rw [e2] at d; exact d
    · rw [if_neg hq] at d; exact d.elim
end
end L2
namespace L2
open PySem PySem.Spec PyProof.Rows
noncomputable def xOne (K:PySem.W.Frag) (n:Str):Bool:=match PySem.W.nsIn K mainGlobals n with
  | some (some (.ref C))=>PySem.W.exOk K C && (PySem.W.kitOne K (.type "NoneType") (.ref C) == some false) && (PySem.W.kitOne K (.ref C) (.type "ValueError") == some true)
  | _=>false
noncomputable def xTwo (K:PySem.W.Frag) (q:Str × Str × Bool):Bool:=match PySem.W.nsIn K mainGlobals q.1,PySem.W.nsIn K mainGlobals q.2.1 with
  | some (some (.ref D)),some (some (.ref C))=>(PySem.W.kitOne K (.ref D) (.ref C) == some q.2.2) && (PySem.W.exmOne K (.ref D) (.ref C) == some q.2.2)
  | _,_=>false
noncomputable def xTab (K:PySem.W.Frag) (ns:List Str) (ss:List (Str × Str × Bool)):Bool:=(PySem.W.kitOne K (.type "NoneType") (.type "ValueError") == some false) && (ns.all (xOne K) && ss.all (xTwo K))
section
variable {K:PySem.W.Frag} {ns:List Str} {ss:List (Str × Str × Bool)} {n c:Str}
theorem xTab_one (h:xTab K ns ss=true) (hn:n∈ns):∃ C,XCls K n C∧True∧PySem.W.exOk K C=true∧PySem.W.kitOne K (.type "NoneType") (.ref C)=some false∧PySem.W.kitOne K (.ref C) (.type "ValueError")=some true:=by
  simp only [xTab,Bool.and_eq_true] at h
  have:=List.all_eq_true.mp h.2.1 n hn
  unfold xOne at this
  split at this
  · rename_i C e
    simp only [Bool.and_eq_true,beq_iff_eq] at this
    exact ⟨C,e,trivial,this.1.1,this.1.2,this.2⟩
  · cases this
noncomputable def xExcs (K:PySem.W.Frag) (ns:List Str):Bool:=ns.all fun n=>match PySem.W.nsIn K mainGlobals n with
  | some (some (.ref C))=>PySem.W.excIn K C bmVE "ValueError.__new__"
  | _=>false
theorem xTab_exc (h:xExcs K ns=true) (hn:n∈ns):∃ C,XCls K n C∧PySem.W.excIn K C bmVE "ValueError.__new__"=true:=by
  have:=List.all_eq_true.mp h n hn
  split at this
  · rename_i C e
    exact ⟨C,e,this⟩
  · cases this
theorem XCls.inj {C D:Addr} (a:XCls K n C) (b:XCls K n D):C=D:=by have z:=a.symm.trans b; simpa using z
theorem xTab_two (h:xTab K ns ss=true) {b:Bool} (hm:(n,c,b)∈ss) {D C:Addr} (hD:XCls K n D) (hC:XCls K c C):PySem.W.kitOne K (.ref D) (.ref C)=some b∧PySem.W.exmOne K (.ref D) (.ref C)=some b:=by
  simp only [xTab,Bool.and_eq_true] at h
  have:=List.all_eq_true.mp h.2.2 _ hm
  unfold xTwo at this
  have hD':PySem.W.nsIn K mainGlobals n=some (some (.ref D)):=hD
  have hC':PySem.W.nsIn K mainGlobals c=some (some (.ref C)):=hC
  simp only [hD',hC',Bool.and_eq_true,beq_iff_eq] at this
  exact this
theorem mem_of_look {L:List (Str × Bool)} {b:Bool} (h:L.lookup n=some b):(n,b)∈L:=PySem.mem_of_lookup h
theorem xTab_isT {L:List (Str × Bool)} (h:xTab K ns ss=true) (hc:c∈ns) (hL:(L.all fun p=>ns.contains p.1 && ss.contains (p.1,c,p.2))=true):∃ C,XCls K c C∧IsT K (.ref C) L:=by
  obtain ⟨C,e,_,_,e2,_⟩:=xTab_one h hc
  refine ⟨C,e,rfl,e2,fun n b hb D hD=>?_⟩
  have:=List.all_eq_true.mp hL _ (mem_of_look hb)
  simp only [Bool.and_eq_true,List.contains_iff_mem] at this
  obtain ⟨D',d1,_,d2,_⟩:=xTab_one h this.1
  obtain rfl:=d1.inj hD
  exact ⟨d2,(xTab_two h this.2 hD e).1⟩
theorem xTab_isV {L:List (Str × Bool)} (h:xTab K ns ss=true) (hL:(L.all fun p=>ns.contains p.1 && p.2)=true):IsT K (.ty "ValueError") L:=by
  have h0:=h
  simp only [xTab,Bool.and_eq_true,beq_iff_eq] at h0
  refine ⟨rfl,h0.1,fun n b hb D hD=>?_⟩
  have:=List.all_eq_true.mp hL _ (mem_of_look hb)
  simp only [Bool.and_eq_true,List.contains_iff_mem] at this
  obtain ⟨D',d1,_,d2,_,d3⟩:=xTab_one h this.1
  obtain rfl:=d1.inj hD
  have hb':b=true:=this.2
  rw [hb']
  exact ⟨d2,d3⟩
theorem xTab_exm {L:List Str} {C:Addr} (h:xTab K ns ss=true) (hC:XCls K c C) (hL:(L.all fun n=>ss.contains (n,c,true))=true):∀ n∈L,∀ D,XCls K n D→PySem.W.exmOne K (.ref D) (.ref C)=some true:=fun n hn D hD=>by
  have:=List.all_eq_true.mp hL n hn
  exact (xTab_two h (List.contains_iff_mem.mp this) hD hC).2
end
noncomputable def MDfn (K:PySem.W.Frag) (n m qual:Str) (st:Stmt):Prop:=∃ C f fd,XCls K n C∧PySem.W.findIn K (.ref C) m=some (some (.ref f))∧PySem.W.typeIn K (.ref f)=some (.type "function")∧Fun K m qual st f fd
theorem bt_ValueError:bootBuiltins "ValueError"=some (.type "ValueError"):=by decide +kernel
theorem pass_E0 {X:Cx}:PassS X (fun _=>E0):=fun _ _ _ _ _ _ _ h=>by obtain ⟨_,_,_,_,_,_,q⟩:=h; exact q.elim
section
variable {K:PySem.W.Frag} {n:Nat} {m:List PV→Rr PV} {ta:TA} {Γ Γ':List Md} {fa:List PV→Rr (List PV)}
theorem dz_F (hn:Len fa n) (ha:DAA K X0 Γ Γ' ta fa):DE K X0 Γ Γ' .F (tCallS (spF K n .F (W1 K) m) (fun _=>E0) ta) (fun ρ=>(fa ρ).bind m):=de_callF (E:=E0) (W:=W1 K) (fun σ H Q h=>h) (fun e H' h=>h.elim) hn ha
end
noncomputable def tryX (L:List Str) (i:Nat) (gh:List PV→RS) (ρ:List PV) (r:RS):RS:=match r with
  | .exc e=>if e.1∈L then gh (ρ.set i (excP e)) else .bad
  | r=>r
@[simp] theorem tryR_eq {L:List Str} {i:Nat} {gb gh:List PV→RS} {ρ:List PV}:tryR L i gb gh ρ=tryX L i gh ρ (gb ρ):=by
  unfold tryR tryX
  cases gb ρ <;> rfl
@[simp] theorem tryX_next {L:List Str} {i:Nat} {gh:List PV→RS} {ρ ρ':List PV}:tryX L i gh ρ (.next ρ')=.next ρ':=rfl
@[simp] theorem tryX_exa {L:List Str} {i:Nat} {gh:List PV→RS} {ρ:List PV} {n:Str} {j:Int}:tryX L i gh ρ (.exc (n,.int j))=if n∈L then gh (ρ.set i (.exa n j)) else .bad:=rfl
theorem pIsX_exa {L:List (Str × Bool)} {n:Str} {i:Int} {b:Bool} (h:L.lookup n=some b):pIsX L (.exa n i)=.ok (.bl b):=by unfold pIsX; simp only [h]
theorem pCalled_exa {L:List Str} {n:Str} {i:Int} (h:n∈L):pCalled L (.exa n i)=.ok (.str n):=by unfold pCalled; simp only [if_pos h]
@[simp] theorem pIsN_exa {n:Str} {i:Int} {g:Bool→Bool}:pIsN g (.exa n i)=.ok (.bl (g false)):=rfl
end L2
namespace L2
open PySem PySem.Spec PyProof.Rows
section
variable {K:PySem.W.Frag} {H:Hp}
variable {EX:PX→Hp→Prop} {Γ Γ1 Γ2:List Md} {k:Kd}
end
end L2
namespace L2
open PySem PySem.Spec PyProof.Rows
theorem okD_str {x:Str} (h:PyData.canLay0 (.str x)=true):okD (.str x)=true:=by simp [okD,PV.noX,PV.dat,PyData.depth,h]
theorem pEq_str {g:Bool→Bool} {a b:Str} (ha:PyData.canLay0 (.str a)=true) (hb:PyData.canLay0 (.str b)=true):pEqG g (.str a) (.str b)=.ok (.bl (g (a == b))):=by
  unfold pEqG
  rw [okD_str ha,okD_str hb]
  simp only [Bool.and_self,if_true,PV.dat,PyData.eqv]
end L2
namespace L2
open PySem PySem.Spec PyProof.Rows
section
variable {X:Cx}
end
section
variable {K:PySem.W.Frag} {EX:PX→Hp→Prop} {Γ Γ1 Γ2:List Md} {ta:TE} {tb:TA} {f:List PV→Rr PV} {fb:List PV→Rr (List PV)}
end
end L2
namespace L2
open PySem PySem.Spec PyProof.Rows
section
variable {K:PySem.W.Frag} {EX:PX→Hp→Prop} {Γ Γ' Γ1 Γ2:List Md} {ta:TA} {fa:List PV→Rr (List PV)} {n:Nat} {W:PX→XK→Hp→Prop} {m:List PV→Rr PV} {E:XK}
end
section
variable {X:Cx} {tg:Expr}
end
end L2
namespace L2
open PySem PySem.Spec PyProof.Rows
theorem ints_iff {ns ms:List Int}:ns.map PV.int=ms.map PV.int ↔ ns=ms:=⟨ints_inj',fun h=>by rw [h]⟩
noncomputable def orX (o:Option Str) (x:PV):Rr PV:=match o with
  | none=>.ok x
  | some n=>.exc (n,.non)
theorem forR_inv' {b:PV→List PV→RS} {xs:List PV} {ρ:List PV} {W:RS} (hw:forR b xs ρ=W) (I:Nat→List PV→Prop) (h0:I 0 ρ) (h:∀ i x ρ,xs[i]?=some x→I i ρ→(b x ρ).good (I (i + 1))) :
    ∃ ρ',W=.next ρ'∧I xs.length ρ':=by
  obtain ⟨ρ',h1,h2⟩:=forR_inv I h0 h
  exact ⟨ρ',hw.symm.trans h1,h2⟩
theorem whileR_inv' {c:List PV→Rr Bool} {b:List PV→RS} {ρ:List PV} {W:RS} (hw:whileR c b ρ=W) (N:Nat) (I:Nat→List PV→Prop) (h0:I 0 ρ) (hs:∀ i ρ,i < N→I i ρ→c ρ=.ok true∧(b ρ).good (I (i + 1))) (he:∀ ρ,I N ρ→c ρ=.ok false) :
    ∃ ρ',W=.next ρ'∧I N ρ':=by
  subst hw
  have key:∀ m i ρ,N=i + m→I i ρ→∃ ρ',iterW c b (m + 1) ρ=some (.next ρ')∧I N ρ':=by
    intro m
    induction m with
    | zero =>
      intro i ρ hl hI
      obtain rfl:N=i:=by omega
      refine ⟨ρ, ?_,hI⟩
      unfold iterW
      rw [he ρ hI]
    | succ m ih =>
      intro i ρ hl hI
      obtain ⟨h1,h2⟩:=hs i ρ (by omega) hI
      obtain ⟨ρ',h3,h4⟩:=RS.good_ex h2
      obtain ⟨ρ2,h5,h6⟩:=ih (i + 1) ρ' (by omega) h4
      refine ⟨ρ2, ?_,h6⟩
      unfold iterW
      rw [h1]
      rcases h3 with h3 | h3 <;> (rw [h3]; exact h5)
  obtain ⟨ρ',h1,h2⟩:=key N 0 ρ (by omega) h0
  exact ⟨ρ',whileR_eq h1,h2⟩
theorem map_ints {f:PV→Rr PV} {g:Int→Int} {ns:List Int} (h:∀ z∈ns,f (.int z)=.ok (.int (g z))):mapR f (ns.map PV.int)=.ok ((ns.map g).map PV.int):=by
  induction ns with
  | nil=>rfl
  | cons n ns ih =>
    simp only [List.map_cons,mapR,h n (by simp),Rr.bind_ok,ih fun z hz=>h z (by simp [hz])]
theorem map_bls {f:PV→Rr PV} {g:Int→Bool} {ns:List Int} (h:∀ z∈ns,f (.int z)=.ok (.bl (g z))):mapR f (ns.map PV.int)=.ok ((ns.map g).map PV.bl):=by
  induction ns with
  | nil=>rfl
  | cons n ns ih =>
    simp only [List.map_cons,mapR,h n (by simp),Rr.bind_ok,ih fun z hz=>h z (by simp [hz])]
theorem map_rng {f:PV→Rr PV} {g:Nat→Int} {lo:Int} {n:Nat} (h:∀ i,i < n→f (.int (lo + (i:Nat)))=.ok (.int (g i))):mapR f (rngP lo n)=.ok (((List.range n).map g).map PV.int):=by
  unfold rngP
  have:∀ l:List Nat,(∀ i∈l,i < n)→mapR f (l.map fun (k:Nat)=>PV.int (lo + (k:Int)))=.ok ((l.map g).map PV.int):=by
    intro l
    induction l with
    | nil=>intro _; rfl
    | cons a l ih =>
      intro hl
      simp only [List.map_cons,mapR,h a (hl a (by simp)),Rr.bind_ok,ih fun i hi=>hl i (by simp [hi])]
  exact this _ fun i hi=>List.mem_range.mp hi
theorem pAll_bls (bs:List Bool):pAll [.lst (bs.map PV.bl)]=.ok (.bl (bs.all id)):=by simp only [pAll,blsOf_map]
theorem all_dec {ns:List Int} {p:Int→Prop} [DecidablePred p]:(ns.map fun z=>decide (p z)).all id=decide (∀ x∈ns,p x):=by
  rw [Bool.eq_iff_iff,List.all_eq_true,decide_eq_true_iff]
  simp
theorem cut_from {ns:List Int} {l:Int} (h0:0≤l):cutG (ns.map PV.int) (some l) none=(ns.drop l.toNat).map PV.int:=by
  unfold cutG HT.sIx
  simp only [List.length_map]
  rw [if_neg (by omega),← List.map_drop,← List.map_take]
  congr 1
  rw [List.take_of_length_le (by simp)]
  by_cases h:l.toNat≤ns.length
  · rw [Nat.min_eq_left h]
  · rw [List.drop_eq_nil_of_le (by omega),List.drop_eq_nil_of_le (by omega)]
theorem pMul_b {i j:Int} (h1:-(10 ^ 80)≤i) (h2:i≤10 ^ 80) (h3:-(10 ^ 80)≤j) (h4:j≤10 ^ 80):pMul (.int i) (.int j)=.ok (.int (i * j)):=pMul_ok (cmul_of 80 80 (by omega) (by omega))
theorem orX_none {x:PV}:orX none x=.ok x:=rfl
theorem orX_some {x:PV} {n:Str}:orX (some n) x=.exc (n,.non):=rfl
theorem repN_succ {n:Nat}:List.replicate (n + 1) PV.non=PV.non :: List.replicate n PV.non:=rfl
theorem repN_zero:List.replicate 0 PV.non=[]:=rfl
theorem pLen_t2 {a b:PV}:pLen [.tup [a,b]]=.ok (.int 2):=rfl
end L2
namespace L2
open PySem PySem.Spec PyProof.Rows
section
variable {prog:Program} {w:World} {A:Around} {E:Value→Shared→Prop} {s:Shared}
end
section
variable {X:Cx} {pos:Pos}
end
section
variable {K:PySem.W.Frag} {EX:PX→Hp→Prop} {Γ Γ2:List Md}
end
theorem grd_t_si {a:Str} {b:Int}:grd (.tup [.str a,.int b])=.ok (.tup [.str a,.int b]):=rfl
theorem pIsN_non {g:Bool→Bool}:pIsN g .non=.ok (.bl (g true)):=rfl
theorem pEq_nil {g:Bool→Bool} {ns:List Int}:pEqG g (.lst (ns.map PV.int)) (.lst [])=.ok (.bl (g (decide (ns=[])))):=pEq_ints ns []
end L2
namespace L2
open PySem PySem.Spec PyProof.Rows
section
variable {X:Cx} {pins:List (Addr × Obj)} {σ:St} {H:Hp} {s:Shared} {h':Heap}
theorem Inv.turned2 {t':Nat} {it e:Addr} (I:Inv X pins σ H s) (k:∀ b o,b≠e→b≠it→s.heap.get? b=some o→h'.get? b=some o)
    (f:∀ b,b=e ∨ b=it→H b=none∧b≠X.env.locals∧(b∈X.ex ∨ X.s₀.heap.objs.size≤b)∧(∀ x c,X.env.cells.lookup x=some c→c≠b)∧∀ p∈X.pn ++ pins,p.1≠b):Inv X pins σ H { s with heap:=h',toks:=t' }:=by
  have nit:∀ b u,H b=some u→b≠e∧b≠it:=fun b u q=>by
    refine ⟨fun z=>?_,fun z=>?_⟩
    · rw [z,(f e (.inl rfl)).1] at q; cases q
    · rw [z,(f it (.inr rfl)).1] at q; cases q
  refine I.step (g':=s.gens) (d':=s.drawn) (ch:=[e,it]) (fun b hb=>?_) (fun b o _ _ hc q _=>k b o (fun z=>hc (by simp [z])) (fun z=>hc (by simp [z])) q) (fun b o _ _ hc q _=>⟨o.slots,k b o (fun z=>hc (by simp [z])) (fun z=>hc (by simp [z])) q⟩) (fun _ _ _ _ n=>n)
    (fun b o hc q=>⟨o,k b o (fun z=>hc (by simp [z])) (fun z=>hc (by simp [z])) q⟩) (fun _ _ q=>q) (fun _ _ _ q=>q) (fun b ps q=>⟨#[],by rw [q]; simp⟩) (fun m hm=>?_) (fun b u q=>?_) I.bare
  · obtain ⟨g0,g1,g2,g3,g4⟩:=f b (by simpa using hb)
    exact ⟨g2,g1,g3,g4⟩
  · obtain ⟨o,es,ep,ho,r⟩:=hm
    exact ⟨o,es,ep,k _ o (Ne.symm (f e (.inl rfl)).2.1) (Ne.symm (f it (.inr rfl)).2.1) ho,r⟩
  · refine (I.hok b u q).stay (fun c v hc q2=>?_) (fun _ q2=>q2) fun _ _ q2=>q2
    have:c≠e∧c≠it:=by
      rcases hc with z | z
      · rw [z]; exact nit b u q
      · exact nit c _ z
    exact k c v this.1 this.2 q2
theorem Inv.adoptT {D:Addr} {ys:List V} {its:List Value} (I:Inv X pins σ H s) (hn:H D=none) (h1:X.s₀.heap.objs.size≤D) (hL:D≠X.env.locals) (hc:∀ x c,X.env.cells.lookup x=some c→c≠D)
    (hp:∀ p∈X.pn ++ pins,p.1≠D) (ho:s.heap.get? D=some { cls:=.type "tuple",data:=.seq its.toArray }) (r:Vals ys its) (hz:ys.length≤sizeLine):Inv X pins σ (upd H D (.tup ys)) s:=by
  refine I.step (h':=s.heap) (g':=s.gens) (d':=s.drawn) (t':=s.toks) (ch:=[D]) (fun b hb=>?_) (fun b o _ _ _ e _=>e) (fun b o _ _ _ e _=>⟨o.slots,e⟩) (fun b o hb _ e=>?_) (fun b o _ e=>⟨o,e⟩)
    (fun b xs e=>?_) (fun b o u e=>?_) (fun b ps e=>⟨#[], ?_⟩) (fun m hm=>hm) (fun b u e=>?_) I.bare
  · have e:b=D:=by simpa using hb
    subst e
    exact ⟨.inr h1,hL,hc,hp⟩
  · rw [upd_ne (by simpa using hb)]; exact e
  · rw [upd_ne (ne_of_none e hn)]; exact e
  · rw [upd_ne (ne_of_none e hn)]; exact e
  · rw [upd_ne (ne_of_none e hn),e]; simp
  · by_cases hb:b=D
    · subst hb
      rw [upd_same] at e; cases e
      exact ⟨hz,its,r,_,ho,rfl,_,rfl⟩
    · rw [upd_ne hb] at e
      exact (I.hok b u e).stay (fun c v _ q=>q) (fun c q=>by rw [upd_ne (ne_of_none q hn)]; exact q) fun c xs q=>by rw [upd_ne (ne_of_none q hn)]; exact q
end
noncomputable def Ite (K:PySem.W.Frag) (a:Addr):It :=
  ⟨fun i H=>∃ xs x,SqL K H a xs∧xs[i]?=some x,fun i H v H'=>∃ t x,v=.ref t∧H t=none∧H'=upd H t (.tup [.int i,x])∧∀ xs,SqL K H a xs→xs[i]?=some x,fun i H=>∃ xs,SqL K H a xs∧xs.length≤i⟩
theorem turn_enum {P:Program} {w:World} {K:PySem.W.Frag} {elts:List Expr} {x1:Nat} {tpos:Pos} (a e it:Addr) (hne:e≠it):Turn P w K (.Tuple elts x1 tpos) (Ite K a) [e,it] e (fun i h=>∃ old,IsEnum h e it i old∧h.IsListIter it a i) where
  mem:=by simp
  obj:=fun i h ⟨old,s1,s2⟩ b hb=>by
    rcases List.mem_cons.mp hb with z | z
    · subst z
      exact ⟨_,s1,fun v z=>by
        have z':Data.fields _=Data.cell v:=z
        cases z'⟩
    · have z:b=it:=by simpa using z
      subst z
      obtain ⟨o,e,c,d⟩:=s2
      exact ⟨o,e,fun v z=>by rw [d] at z; cases z⟩
  keep:=fun i h h' ⟨old,s1,s2⟩ k=>⟨old,k e (by simp) _ s1,s2.at fun o q=>k it (by simp) o q⟩
  item:=by
    intro X hP hw hK hc i pins s σ H E I hf ⟨old,s1,s2⟩ hg
    subst hP hw hK
    obtain ⟨xs,x,hq,hx⟩:=hg
    obtain ⟨its,rv,p,hz⟩:=I.list hq
    obtain ⟨u,hu,ru⟩:=rv.get hx
    have fz:∀ b,b=e ∨ b=it→H b=none∧b≠X.env.locals∧(b∈X.ex ∨ X.s₀.heap.objs.size≤b)∧(∀ x c,X.env.cells.lookup x=some c→c≠b)∧∀ p∈X.pn ++ pins,p.1≠b:=fun b hb=>by
      obtain ⟨f0,f1,f2,f3,f4,f5⟩:=hf b (by simpa using hb)
      exact ⟨f0,f1,f3,f4,f5⟩
    refine wpAny_pyNext_enum_item s1 s2 p.isList (x:=u) (by simpa using hu) hne fun h1 e1 i1 t1 z1 k1=>?_
    refine ⟨_,rfl, ?_⟩
    refine wpAny_letOwnedTupleGo_enum e1 fun h2 e2 sb2=>?_
    have I2:Inv X pins σ H { s with heap:=h2,toks:=s.toks + 1 }:=I.turned2 (fun b o n1 n2 q=>sb2.extBut b o n1 (k1 b o n1 n2 q)) fz
    have hfr:=I.hok.fresh (Nat.le_refl s.heap.objs.size)
    have het:s.heap.objs.size≠e:=Nat.ne_of_gt (Heap.lt_size s1)
    have fsz:=I.fpOk (H':=H) (Nat.le_refl s.heap.objs.size) hfr
    obtain ⟨g0,g1,g2,g3,g4,g5⟩:=fsz
    have I3:=I2.adoptT (D:=s.heap.objs.size) (ys:=[.int i,x]) (its:=[.int i s.toks,u]) hfr I.sz g1 g4 g5 (sb2.extBut _ _ het t1) (.cons ⟨_,rfl⟩ (.cons ru .nil)) (show 2≤sizeLine by decide)
    refine ⟨.ref s.heap.objs.size,_,I3,rfl,⟨_,x,rfl,hfr,rfl,fun ys hy=>by rw [I.list_inj hy hq]; exact hx⟩,⟨u,by
      have:((i + 1:Nat):Int)=(i:Int) + 1:=by omega
      rw [this]; exact e2,i1.extBut sb2.extBut (Ne.symm hne)⟩,fun b hb=>?_⟩
    have hbn:b≠s.heap.objs.size:=by
      rcases List.mem_cons.mp hb with z | z
      · rw [z]; exact het.symm
      · have z:b=it:=by simpa using z
        obtain ⟨o,q,_⟩:=s2
        rw [z]; exact Nat.ne_of_lt (Heap.lt_size q)
    rw [upd_ne hbn]
    exact (hf b hb).1
  done:=by
    intro X hP hw hK hc i pins s σ H E I hf ⟨old,s1,s2⟩ hg
    subst hP hw hK
    obtain ⟨xs,hq,hx⟩:=hg
    obtain ⟨its,rv,p,hz⟩:=I.list hq
    obtain ⟨f0,f1,f2,f3,f4,f5⟩:=hf it (by simp)
    have hl:=rv.length
    exact wpAny_pyNext_enum_end (I.ok.hd hc) s1 s2 p.isList (by simp; omega) fun h' eb=>⟨rfl,I.turned (t':=s.toks) (fun b o hb q=>eb b o hb q) f0 f1 f3 f4 f5⟩
  self:=fun _ _ _ _ _ ⟨old,st,_⟩ h=>wpAny_pyIter_enum st h
section
variable {X:Cx} {elts:List Expr} {x1:Nat} {tpos:Pos}
noncomputable def iEnum (K:PySem.W.Frag) (tl:TA):TI:=fun σ H R=>tl σ H fun vs H1=>∃ a,vs=[.ref a]∧(∃ xs,SqL K H1 a xs)∧R (Ite K a) H1
theorem bt_enumerate:bootBuiltins "enumerate"=some (.type "enumerate"):=by decide +kernel
theorem pi_enum {l:Expr} {tl:TA} {p pos:Pos} (hg:Gl X "enumerate") (hm:X.mg "enumerate"=none) (ha:PA X [l] tl) (hs:starEach [l] X.env=[(false,eval l X.env)]:=by rfl):PI X (.Tuple elts x1 tpos) (.Call (.Name "enumerate" p) [l] [] pos) (iEnum X.K tl):=by
  intro pins s σ H R I h
  refine Call_ (ld_blt I hg hm bt_enumerate (PyProof.Rows.callWith_type1 (thn (ha pos pins s σ H _ I h) fun us s1 ⟨vs,H1,I1,r1,q1⟩=>?_) hs rfl))
  obtain ⟨a,e,⟨xs,hq⟩,q⟩:=q1
  subst e
  cases r1 with
  | cons r rr =>
    cases rr
    cases r
    obtain ⟨its,rv,pl,hz⟩:=I1.list hq
    refine call_enumerate_list pl.isList fun h' e1 i1 z1 k1=>?_
    refine wpAny_pyIter_enum e1 ?_
    have I2:Inv X pins σ H1 { s1 with heap:=h' }:=I1.kept (t':=s1.toks) k1
    refine ⟨s1.heap.objs.size + 1,[s1.heap.objs.size + 1,s1.heap.objs.size],_,_,H1,rfl,I2,turn_enum a _ _ (Nat.succ_ne_self _),⟨_,e1,i1⟩,fun b hb=>?_,q⟩
    have hb':s1.heap.objs.size≤b:=by
      rcases List.mem_cons.mp hb with z | z
      · rw [z]; exact Nat.le_succ _
      · have z:b=s1.heap.objs.size:=by simpa using z
        rw [z]; exact Nat.le_refl _
    exact I1.fpOk hb' (I1.hok.fresh hb')
theorem pi_enumK {K:PySem.W.Frag} {l:Expr} {tl:TA} {p pos:Pos} (hg:Gl X "enumerate") (hm:X.mg "enumerate"=none) (ha:PA X [l] tl) (hs:starEach [l] X.env=[(false,eval l X.env)]:=by rfl) (e:X.K=K:=by rfl):PI X (.Tuple elts x1 tpos) (.Call (.Name "enumerate" p) [l] [] pos) (iEnum K tl):=by subst e; exact pi_enum hg hm ha hs
end
noncomputable def enumP (xs:List PV):List PV:=xs.mapIdx fun i x=>.tup [.int (i:Nat),x]
section
variable {K:PySem.W.Frag} {H:Hp} {EX:PX→Hp→Prop} {Γ Γ':List Md} {te:TE} {f:List PV→Rr PV}
theorem itp_enum {a:Addr} {xs:List PV} {S:Addr→Prop} (h:Rep K H S (.lst xs) (.ref a)):ItP K S (Ite K a) (enumP xs) H:=by
  obtain ⟨a',vs,e,hn,hr⟩:=h
  cases e
  intro i
  constructor
  · intro x hx
    unfold enumP at hx
    rw [List.getElem?_mapIdx] at hx
    cases hxi:xs[i]? with
    | none=>rw [hxi] at hx; cases hx
    | some y =>
      rw [hxi] at hx
      cases hx
      obtain ⟨u,e1,e2⟩:=hr.get hxi
      refine ⟨⟨vs,u,sq_of hn,e1⟩,fun v H' ⟨t,z,e3,e4,e5,e6⟩=>?_⟩
      have:=e6 vs (sq_of hn)
      rw [e1] at this; cases this
      subst e3 e5
      have sm:Same H (upd H t (.tup [.int i,u])):=Same.upd (Same.refl H) e4
      exact ⟨sm,t,_,rfl,⟨upd_same,trivial⟩,⟨_,_,rfl,rfl,_,_,rfl,e2.same sm,rfl⟩⟩
  · intro hx
    unfold enumP at hx
    rw [List.getElem?_mapIdx] at hx
    have:xs[i]?=none:=by cases hxi:xs[i]? with
      | none=>rfl
      | some y=>rw [hxi] at hx; cases hx
    exact ⟨vs,sq_of hn,by rw [hr.length]; exact List.getElem?_eq_none_iff.mp this⟩
noncomputable def pEnum (xs:List PV):Rr (List PV):=match xs with
  | [.lst ys]=>.ok (enumP ys)
  | _=>.bad
theorem di_enum {ta:TA} {fa:List PV→Rr (List PV)} (ha:DAZ K EX Γ Γ' ta fa):DI K EX Γ Γ' (iEnum K ta) (fun ρ=>(fa ρ).bind pEnum):=fun B H0 H σ ρ F R Q A d=>by
  refine ha B H0 H σ ρ F R _ A (d.bind.imp (fun xs _ d vs H1 F1 s1 f1 p1 A1=>?_) fun e q=>q)
  unfold pEnum at d
  split at d
  · rename_i ys
    obtain ⟨v,rfl,h1⟩:=reps1 p1
    obtain ⟨a,us,rfl,hn,hr⟩:=id h1
    exact ⟨a,rfl,⟨us,sq_of hn⟩,d _ H1 F1 s1 f1 A1 fun H2 F2 h=>itp_enum (h1.frm h A1)⟩
  · exact d.elim
theorem pEnum_ok {ys:List PV}:pEnum [.lst ys]=.ok (enumP ys):=rfl
end
end L2
namespace L2
open PySem PySem.Spec PyProof.Rows
section
variable {prog:Program} {w:World} {A:Around} {E:Value→Shared→Prop} {R:Result→Shared→Prop} {s:Shared}
theorem codeAny_compLoop_go {elt target iter:Expr} {ifs:List Expr} {scope:Scope} {pos:Pos} {it acc:Value} {env:Env} (I:Nat→Shared→Prop)
    (turn:∀ n s,I n s→wpAny (model prog w) A (pyNext it) (fun r s₁=>match r with
      | none=>R (.ok .next) s₁
      | some v=>wpAny (model prog w) A (letOwnedTupleGo target it v) (fun _ s₁'=>wpAny (model prog w) A (assign target env v) (fun _ s₂ =>
          wpAny (model prog w) A (forIn ifs true fun c r=>if r=true then do let ok ← isTrue c env (eval c env); pure (ForInStep.yield ok) else pure (ForInStep.yield r)) (fun ok s₃ =>
            if ok=true then wpAny (model prog w) A (eval elt env) (fun x s₄ =>
              wpAny (model prog w) A (call (.builtin "list.append") [acc,x]) (fun _ s₅=>∃ m,m < n∧I m s₅) (notedBy (model prog w) A env fun e s'=>R (.error e) s') s₄) (notedBy (model prog w) A env fun e s'=>R (.error e) s') s₃
            else ∃ m,m < n∧I m s₃) (notedBy (model prog w) A env fun e s'=>R (.error e) s') s₂) (notedBy (model prog w) A env fun e s'=>R (.error e) s') s₁') (notedBy (model prog w) A env fun e s'=>R (.error e) s') s₁) (notedBy (model prog w) A env fun e s'=>R (.error e) s') s)
    (n:Nat) (h:I n s) :
    codeAny (model prog w) A (.compLoop (.ListComp elt [⟨target,iter,ifs,0⟩] scope pos) 0 it acc env) R s:=by
  refine codeAny_loop rfl I (fun n s hI=>?_) n h
  show wpAny _ A ((compTurn (.ListComp elt [⟨target,iter,ifs,0⟩] scope pos) 0 it acc env).onRaise (fun x=>do noteFrame x env; theTreesLotGoes x)) _ _ s
  refine wpAny_noted ?_
  rw [compTurn_list]
  refine wpAny_bind (wpAny_standAt (wpAny_bind (wpAny_mono (turn n s hI) (fun r s₁ h₁=>?_) fun _ _ h'=>h')))
  cases r with
  | none=>exact wpAny_pure h₁
  | some v =>
    refine wpAny_bind (wpAny_mono h₁ (fun _ s₁' h₁'=>?_) fun _ _ h'=>h')
    refine wpAny_bind (wpAny_mono h₁' (fun _ s₂ h₂=>wpAny_bind (wpAny_mono h₂ (fun ok s₃ h₃=>?_) fun _ _ h'=>h')) fun _ _ h'=>h')
    cases ok with
    | false=>exact wpAny_pure ⟨rfl,h₃⟩
    | true =>
      exact wpAny_bind (wpAny_bind (wpAny_mono h₃ (fun x s₄ h₄=>wpAny_bind (wpAny_mono h₄ (fun _ s₅ h₅=>wpAny_pure (wpAny_pure ⟨rfl,h₅⟩)) fun _ _ h'=>h')) fun _ _ h'=>h'))
end
noncomputable def hideN (xs:List Str) (y:Str):Str:=if xs.contains y then "" else y
noncomputable def blkN (X:Cx) (scope:Scope) (xs:List Str) (C:Addr) (ex:List Addr) (s₂:Shared) (H₂:Hp):Cx :=
  { X with N:=X.N.map (hideN xs) ++ xs,s₀:=s₂,H₀:=H₂,env:=compEnvC scope (clOf scope X.env) C X.env,outer:=X.stack,ex:=ex,fn:=fun _=>false,pn:=[],xe:=fun _ _=>False }
noncomputable abbrev TB:=V→Hp→List V→Prop
noncomputable def tB1:TB:=fun x _ vs=>vs=[x]
noncomputable def PB (X:Cx) (scope:Scope) (xs:List Str) (tg:Expr) (Bd:TB):Prop:=∀ C s₂ H₂ ex,∀ (pins:List (Addr × Obj)) (s:Shared) (σ σx:St) (H:Hp) (x:V) (u:Value) (vs:List V) (E:Value→Shared→Prop),σ.length=X.N.length→σx.length=xs.length →
  Inv (blkN X scope xs C ex s₂ H₂) pins (σ ++ σx) H s→RelV x u→Bd x H vs→wpAny (model X.prog X.w) X.A (assign tg (blkN X scope xs C ex s₂ H₂).env u) (fun _ s'=>Inv (blkN X scope xs C ex s₂ H₂) pins (σ ++ vs.map some) H s') E s
noncomputable def PCi (X:Cx) (ifs:List Expr) (t:TT):Prop:=∀ (pins:List (Addr × Obj)) (s:Shared) (σ:St) (H:Hp) (Q:Bool→Hp→Prop) (E:Value→Shared→Prop),Inv X pins σ H s→t σ H Q →
  wpAny (model X.prog X.w) X.A (forIn ifs true fun c r=>if r=true then do let ok ← isTrue c X.env (eval c X.env); pure (ForInStep.yield ok) else pure (ForInStep.yield r)) (TP X pins σ Q) E s
noncomputable def tYes:TT:=fun _ H Q=>Q true H
theorem pc_nil {X:Cx}:PCi X [] tYes:=fun pins s σ H Q E I h=>wpAny_tests_nil ⟨_,I,h⟩
noncomputable def tCompJG (σ:St) (Bd:TB) (tt:TT) (te:TE) (J:It) (H1:Hp) (Q:VK):Prop:=∃ W:Nat→Nat→List V→Hp→Prop,(∃ m,W 0 m [] H1)∧∀ i m ys H2,W i m ys H2→ys.length≤sizeLine ∧
  ((J.stop i H2∧∀ p,H2 p=none→Q (.ref p) (upd H2 p (.lst ys))) ∨
   (J.go i H2∧∃ N:List V→Hp→Prop,(∀ ys' H',N ys' H'→∃ m',m' < m∧W (i + 1) m' ys' H')∧∀ x H3,J.yld i H2 x H3→∃ vs,Bd x H3 vs∧tt (σ ++ vs.map some) H3 fun b H4=>if b=true then te (σ ++ vs.map some) H4 fun y H5=>N (ys ++ [y]) H5 else N ys H4))
noncomputable def tCompG (wi:TI) (Bd:TB) (tt:TT) (te:TE):TE:=fun σ H Q=>wi σ H fun J H1=>tCompJG σ Bd tt te J H1 Q
noncomputable def compChkN (N:List Str) (sc scope:Scope) (xs:List Str):Bool:=xs.all (fun x=>compChk [] sc scope x) && decide (N.map (hideN xs) ++ xs).Nodup && !xs.isEmpty && (N.all fun y=>xs.contains y || !(scope.names.lookup y == some .local)) && (scope.names.lookup (Str.ofString "") == none)
structure CkN (N:List Str) (sc scope:Scope) (xs:List Str):Prop where
  scs:∀ x∈xs,CompSc [] sc scope x
  nd:(N.map (hideN xs) ++ xs).Nodup
  ex:∃ x,x∈xs
  noN:∀ y∈N,y ∉ xs→scope.names.lookup y≠some .local
  noE:scope.names.lookup (Str.ofString "")=none
theorem compChkN_of {N:List Str} {sc scope:Scope} {xs:List Str} (h:compChkN N sc scope xs=true):CkN N sc scope xs:=by
  unfold compChkN at h
  simp only [Bool.and_eq_true,List.all_eq_true,decide_eq_true_eq,Bool.not_eq_true',Bool.or_eq_true,beq_iff_eq,beq_eq_false_iff_ne] at h
  obtain ⟨⟨⟨⟨h1,h2⟩,h3⟩,h4⟩,h5⟩:=h
  refine ⟨fun x hx=>CompSc.of (h1 x hx),h2, ?_,fun y hy hn=>?_,h5⟩
  · cases xs with
    | nil=>simp at h3
    | cons a l=>exact ⟨a,by simp⟩
  · rcases h4 y hy with z | z
    · exact absurd (List.contains_iff_mem.mp z) hn
    · exact z
section
variable {X:Cx} {pins:List (Addr × Obj)} {σ:St} {s₂:Shared} {H₂:Hp} {scope:Scope} {x:Str} {xs:List Str} {tg elt iter:Expr} {ifs:List Expr} {pos:Pos} {Bd:TB} {tt:TT} {te:TE} {J:It} {fp:List Addr} {it:Addr} {tn:Nat→Heap→Prop}
theorem clOf_some' {N0:List Str} (sc:CompSc N0 X.env.scope scope x) (ok:X.Ok) {y:Str} {c:Addr} (h:(clOf scope X.env).lookup y=some c):X.env.cells.lookup y=some c:=by
  have hm:=PySem.mem_of_lookup h
  unfold clOf at hm
  obtain ⟨p,hp,e⟩:=List.mem_map.mp hm
  have hp':=List.mem_filter.mp (List.mem_reverse.mp hp)
  obtain ⟨e1,e2⟩:=Prod.mk.inj e
  have hk:=sc.fr p hp'.1 (beq_iff_eq.mp hp'.2)
  obtain ⟨c',hc'⟩:=ok.has p.1 hk
  rw [hc'] at e2
  rw [← e1,hc']
  exact congrArg some e2
theorem blkN_ok {N0:List Str} (I:Inv X pins σ H₂ s₂) (sc:CompSc N0 X.env.scope scope x) {C:Addr} (hC:s₂.heap.objs.size≤C) (ff:∀ b∈fp,FpOk X pins H₂ b) (fo:∀ b∈fp,∃ o,s₂.heap.get? b=some o):(blkN X scope xs C fp s₂ H₂).Ok where
  mod:=I.ok.mod
  kind:=sc.kind
  glob:=I.ok.glob
  blt:=I.ok.blt
  above:=hC
  inj:=fun y z c h1 h2=>I.ok.inj y z c (clOf_some' sc I.ok h1) (clOf_some' sc I.ok h2)
  has:=fun y hy=>by
    have hy':(relabel scope X.env).names.lookup y=some .cell ∨ (relabel scope X.env).names.lookup y=some .free:=hy
    have hf:scope.names.lookup y=some .free:=by
      rcases hy' with z | z
      · exact (relabel_look sc.nc z).2 (.inl rfl)
      · exact (relabel_look sc.nc z).2 (.inr rfl)
    exact clOf_has hf
  cab:=fun y c h=>by cases h
  hd:=I.ok.hd
  frames:=I.ok.frames
  stk:=.inl rfl
  exf:=fun b hb=>by
    obtain ⟨f0,f1,f2,f3,f4,f5⟩:=ff b hb
    obtain ⟨o,ho⟩:=fo b hb
    exact ⟨Nat.ne_of_lt (Nat.lt_of_lt_of_le (Heap.lt_size ho) hC),fun y c h=>f4 y c (clOf_some' sc I.ok h)⟩
  bs:=I.bs
  bsz:=Nat.le_trans I.ok.bsz I.sz
  noex:=fun b o e hb=>by
    obtain ⟨f0,f1,f2,f3,f4,f5⟩:=ff b hb
    rcases f3 with z | z
    · exact I.ok.noex b o e z
    · exact absurd (Nat.lt_of_lt_of_le (Heap.lt_size e) (Nat.le_trans I.ok.bsz z)) (Nat.lt_irrefl _)
  exfs:=fun b hb z=>by
    obtain ⟨f0,f1,f2,f3,f4,f5⟩:=ff b hb
    rcases List.mem_cons.mp (I.stkSub b z) with e | e
    · exact f1 e
    · exact f2 e
  funs:=I.stack
  frf:=I.stkFree
theorem comp_runG {E:Value→Shared→Prop} {Q:VK} {RR:Value→Addr→Result→Shared→Prop} (I:Inv X pins σ H₂ s₂) (ck:CkN X.N X.env.scope scope xs) (hx:x∈xs) (hNd:X.N.Nodup) (hc:X.calm=true)
    (T:Turn X.prog X.w X.K tg J fp it tn) (st:tn 0 s₂.heap) (ff:∀ b∈fp,FpOk X pins H₂ b) (hw:tCompJG σ Bd tt te J H₂ Q)
    (hb:PB X scope xs tg Bd) (ht:∀ C s₂ H₂ ex,PCi (blkN X scope xs C ex s₂ H₂) ifs tt) (he:∀ C s₂ H₂ ex,PE (blkN X scope xs C ex s₂ H₂) elt te)
    (hvs:∀ x H vs,Bd x H vs→vs.length=xs.length)
    (hRR:∀ D C s' H' m',s₂.heap.objs.size≤C→Inv X pins σ H' s'→s'.heap.Ns C m'→H' C=none→Q (.ref D) H'→RR (.ref D) C (.ok .next) s') :
    wpAny (model X.prog X.w) X.A (newList []) (fun acc s₃=>wpAny (model X.prog X.w) X.A (newFunctionEnv scope X.env.globals (clOf scope X.env) [] X.env.qual none .none (some X.env)) (fun cenv s₄ =>
      codeAny (model X.prog X.w) X.A (.compStart (.ListComp elt [⟨tg,iter,ifs,0⟩] scope pos) 0 (.ref it) acc { cenv with scope:=relabel scope X.env }) (RR acc cenv.locals) s₄) E s₃) E s₂:=by
  have sc:=ck.scs x hx
  refine wpAny_newObj_type (wpAny_newFunctionEnv sc.nc (by intro y hy; simp at hy) (fun h₁ hns₁ hsb₁=>?_) sc.kind)
  dsimp only at hns₁ hsb₁ ⊢
  generalize hP2:s₂.heap.push { cls:=.type "list",dict:=none,data:=.seq ([]:List Value).toArray }=P2 at hns₁ hsb₁ ⊢
  have hCs:P2.objs.size=s₂.heap.objs.size + 1:=by rw [← hP2,Heap.size_push]
  have hCle:s₂.heap.objs.size≤P2.objs.size:=by rw [hCs]; exact Nat.le_succ _
  have hDC:s₂.heap.objs.size≠P2.objs.size:=by rw [hCs]; exact Nat.ne_of_lt (Nat.lt_succ_self _)
  generalize hCe:P2.objs.size=C at hns₁ hsb₁ hCs hCle hDC ⊢
  generalize hDe:s₂.heap.objs.size=D at hCs hCle hDC ⊢
  have fo:∀ b∈fp,∃ o,s₂.heap.get? b=some o:=fun b hb=>let ⟨o,e,_⟩:=T.obj _ _ st b hb; ⟨o,e⟩
  have flt:∀ b∈fp,b < D:=fun b hb=>by obtain ⟨o,e⟩:=fo b hb; rw [← hDe]; exact Heap.lt_size e
  have old:∀ b o,s₂.heap.get? b=some o→h₁.get? b=some o:=fun b o e=>by
    have hb:=Heap.lt_size e
    exact hsb₁.extBut b o (Nat.ne_of_lt (by rw [hCs]; exact Nat.lt_succ_of_lt (hDe ▸ hb))) (Heap.get?_push_of_some _ (hP2 ▸ Heap.get?_push_of_some _ e))
  have hacc:h₁.get? D=some { cls:=.type "list",data:=.seq ([]:List Value).toArray 0 }:=hsb₁.extBut _ _ hDC (Heap.get?_push_of_some _ (hP2 ▸ hDe ▸ Heap.get?_push_size _ rfl))
  have okB:=blkN_ok (x:=x) (xs:=xs) (C:=C) I sc (by rw [hDe]; exact hCle) ff fo
  have hfreshD:H₂ D=none:=I.hok.fresh (by rw [hDe]; exact Nat.le_refl _)
  have hfreshC:H₂ C=none:=I.hok.fresh (by rw [hDe]; exact hCle)
  have I0:Inv (blkN X scope xs C fp s₂ H₂) [(D,{ cls:=.type "list",data:=.seq ([]:List Value).toArray 0 })] (σ ++ List.replicate xs.length none) H₂ { s₂ with heap:=h₁,toks:=s₂.toks + ([]:List (Str × Value)).length }:=by
    refine ⟨okB,rfl,I.bare,Un.kept old,⟨_,hns₁,fun i y v e1 e2 e3=>?_⟩,fun y c e=>?_,hfreshC,fun y c e=>I.freeC y c (clOf_some' sc I.ok e),fun p hp=>?_,I.hok.kept old,by simp [blkN,I.len]⟩
    · have hi:i < σ.length:=by
        by_cases hi:i < σ.length
        · exact hi
        · rw [List.getElem?_append_right (by omega)] at e2
          rw [List.getElem?_replicate] at e2
          split at e2 <;> cases e2
      rw [List.getElem?_append_left hi] at e2
      have e1':(X.N.map (hideN xs) ++ xs)[i]?=some y:=e1
      rw [List.getElem?_append_left (by rw [List.length_map,← I.len]; exact hi),List.getElem?_map] at e1'
      have lk:scope.names.lookup y=some .local ∨ scope.names.lookup y=some .free:=by
        have e3':(relabel scope X.env).names.lookup y=some .local ∨ (relabel scope X.env).names.lookup y=some .cell ∨ (relabel scope X.env).names.lookup y=some .free:=e3
        rcases e3' with z | z | z
        · exact .inl ((relabel_look sc.nc z).1 rfl)
        · exact .inr ((relabel_look sc.nc z).2 (.inl rfl))
        · exact .inr ((relabel_look sc.nc z).2 (.inr rfl))
      obtain ⟨y0,ey0,ey⟩:∃ y0,X.N[i]?=some y0∧hideN xs y0=y:=by
        cases q:X.N[i]? with
        | none=>rw [q] at e1'; cases e1'
        | some y0=>rw [q] at e1'; exact ⟨y0,rfl,Option.some.inj e1'⟩
      have hy0:y0 ∉ xs:=fun z=>by
        have:y=Str.ofString "":=by rw [← ey]; unfold hideN; rw [if_pos (List.contains_iff_mem.mpr z)]
        rw [this,ck.noE] at lk
        rcases lk with z | z <;> cases z
      have ey2:y0=y:=by rw [← ey]; unfold hideN; rw [if_neg (fun z=>hy0 (List.contains_iff_mem.mp z))]
      rw [ey2] at ey0 hy0
      have e1':X.N[i]?=some y:=ey0
      have yN:y∈X.N:=List.mem_of_getElem? e1'
      have e3':(relabel scope X.env).names.lookup y=some .local ∨ (relabel scope X.env).names.lookup y=some .cell ∨ (relabel scope X.env).names.lookup y=some .free:=e3
      have hcf:(relabel scope X.env).names.lookup y=some .cell ∨ (relabel scope X.env).names.lookup y=some .free:=by
        rcases e3' with z | z
        · exact absurd ((relabel_look sc.nc z).1 rfl) (ck.noN y yN hy0)
        · exact z
      have hfree:scope.names.lookup y=some .free:=by
        rcases hcf with z | z
        · exact (relabel_look sc.nc z).2 (.inl rfl)
        · exact (relabel_look sc.nc z).2 (.inr rfl)
      obtain ⟨c,hcl⟩:=clOf_has (X:=X) hfree
      have hcx:=clOf_some' sc I.ok hcl
      have hvis:=sc.fr _ (PySem.mem_of_lookup hfree) rfl
      obtain ⟨m,hn,hl⟩:=I.loc
      obtain ⟨u,ru,hlook⟩:=hl i y v e1' e2 (.inr hvis)
      refine ⟨u,ru,.inr ⟨hcf,c,hcl, ?_⟩⟩
      rcases hlook with ⟨k,_⟩ | ⟨k,c',ec,hcell⟩
      · have k':X.env.scope.names.lookup y=some .local:=k
        have hv':X.env.scope.names.lookup y=some .cell ∨ X.env.scope.names.lookup y=some .free:=hvis
        rw [k'] at hv'
        rcases hv' with z | z <;> cases z
      · rw [hcx] at ec; cases ec
        obtain ⟨o,ho,hd⟩:=hcell
        exact ⟨o,old _ _ ho,hd⟩
    · obtain ⟨v,o,ho,hd⟩:=I.cell y c (clOf_some' sc I.ok e)
      exact ⟨v,o,old _ _ ho,hd⟩
    · have e:p=(D,{ cls:=.type "list",data:=.seq ([]:List Value).toArray 0 }):=by simpa [blkN] using hp
      subst e
      exact ⟨hacc,hfreshD,hDC,(fun z=>by
        rcases List.mem_cons.mp (I.stkSub D z) with e | e
        · exact absurd I.lt (by rw [← e,hDe]; exact Nat.lt_irrefl _)
        · exact I.nofs (by rw [hDe]; exact Nat.le_refl _) e),fun v z=>nomatch z⟩
  obtain ⟨W,⟨m0,w0⟩,turn⟩:=hw
  have fpB:∀ {H':Hp} {o:Obj},(∀ b∈fp,H' b=none)→∀ b∈fp,FpOk (blkN X scope xs C fp s₂ H₂) [(D,o)] H' b:=fun {H' o} hn b hb=>by
    obtain ⟨f0,f1,f2,f3,f4,f5⟩:=ff b hb
    obtain ⟨g1,g2⟩:=okB.exf b hb
    exact ⟨hn b hb,g1,okB.exfs b hb,.inl hb,g2,fun p hp=>by
      have e:p=(D,o):=by simpa [blkN] using hp
      subst e
      exact (Nat.ne_of_lt (flt b hb)).symm⟩
  have hσ:σ.length=X.N.length:=I.len
  have loop:∀ s₃:Shared,s₃={ s₂ with heap:=h₁,toks:=s₂.toks + ([]:List (Str × Value)).length } →
      codeAny (model X.prog X.w) X.A (.compLoop (.ListComp elt [⟨tg,iter,ifs,0⟩] scope pos) 0 (.ref it) (.ref D) (compEnvC scope (clOf scope X.env) C X.env)) (RR (.ref D) C) s₃:=by
    rintro s₃ rfl
    refine codeAny_compLoop_go
      (fun n s'=>∃ i ys its k σx H',σx.length=xs.length∧Inv (blkN X scope xs C fp s₂ H₂) [(D,{ cls:=.type "list",data:=.seq (List.toArray its) k })] (σ ++ σx) H' s'∧tn i s'.heap∧(∀ b∈fp,H' b=none)∧Vals ys its∧W i n ys H') ?_ m0
      ⟨0,[],[],0,List.replicate xs.length none,H₂,by simp,I0,T.keep _ _ _ st (fun b hb o e=>old b o e),fun b hb=>(ff b hb).1,.nil,w0⟩
    rintro n s' ⟨i,ys,its,k,σx,H',hσx,I',st',fr',rv,w'⟩
    obtain ⟨hz,hcase⟩:=turn i n ys H' w'
    have hpinD:=I'.pin (D,{ cls:=.type "list",data:=.seq (List.toArray its) k }) (by simp [blkN])
    rcases hcase with ⟨stop,q⟩ | ⟨go,N,hN,step⟩
    · refine thn (T.done (blkN X scope xs C fp s₂ H₂) rfl rfl rfl hc i _ s' _ H' _ I' (fpB fr') st' stop) fun r s4 ⟨hr,I4⟩=>?_
      subst hr
      have pD:=I4.pin (D,{ cls:=.type "list",data:=.seq (List.toArray its) k }) (by simp [blkN])
      obtain ⟨m4,hn4,_⟩:=I4.loc
      have IX:Inv X pins σ H' s4:=I.call' I4.os I4.base I4.hok I4.bare fun b hb=>by
        obtain ⟨f0,f1,f2,f3,f4,f5⟩:=ff b hb
        exact ⟨f3,f1,f4,f5⟩
      have IX2:=IX.adopt (D:=D) (ys:=ys) (its:=its) (n:=k) hpinD.2.1 (by rw [← hDe]; exact I.sz) (by rw [← hDe]; exact Nat.ne_of_gt I.lt)
        (fun y c e z=>by
          obtain ⟨v,o,ho,hd⟩:=I.cell y c e
          have:=Heap.lt_size ho
          rw [hDe,z] at this
          exact Nat.lt_irrefl _ this)
        (fun p hp z=>by
          have:=Heap.lt_size (I.pin p hp).1
          rw [hDe,z] at this
          exact Nat.lt_irrefl _ this) pD.1 rv hz
      refine hRR D C s4 _ m4 (by rw [hDe]; exact hCle) IX2 hn4 ?_ (q D hpinD.2.1)
      rw [upd_ne (Ne.symm hDC)]
      exact I4.free
    · refine thn (T.item (blkN X scope xs C fp s₂ H₂) rfl rfl rfl hc i _ s' _ H' _ I' (fpB fr') st' go) fun r s4 ⟨u,hr,h4⟩=>?_
      subst hr
      refine thn h4 fun _ s5 ⟨y,H5,I5,r5,y5,st5,fr5⟩=>?_
      have I5':=I5.pinned (fpB fr5) (T.obj _ _ st5)
      obtain ⟨vs,bd5,stp⟩:=step y H5 y5
      refine thn (hb C s₂ H₂ fp _ s5 σ σx H5 y u vs _ hσ hσx I5' r5 bd5) fun _ s6 I6=>?_
      refine thn (ht C s₂ H₂ fp _ s6 _ H5 _ _ I6 stp) fun ok s6' hok=>?_
      obtain ⟨H6',I6',q6'⟩:=hok
      have hvl:=hvs _ _ _ bd5
      have stay:∀ {s9:Shared} {H9:Hp} {ys':List V} {its':List Value} {k':Nat},True:=fun {_ _ _ _ _}=>trivial
      cases ok with
      | false =>
        rw [if_neg Bool.false_ne_true] at q6' ⊢
        have pD6:=I6'.pin (D,{ cls:=.type "list",data:=.seq (List.toArray its) k }) (by simp [blkN])
        obtain ⟨m',hm,w8⟩:=hN _ _ q6'
        refine ⟨m',hm,i + 1,ys,its,k,vs.map some,H6',by simp [hvl],I6'.pins_of fun p hp=>?_, ?_,fun b hb'=>?_,rv,w8⟩
        · have e:p=(D,{ cls:=.type "list",data:=.seq (List.toArray its) k }):=by simpa using hp
          subst e
          exact ⟨pD6.1,pD6.2.1,pD6.2.2.1,pD6.2.2.2.1,fun v z=>nomatch z⟩
        · refine T.keep _ _ _ st5 fun b hb' o e=>?_
          exact (I6'.pin (b,o) (List.mem_append_right _ (List.mem_append_right _ (mem_pinsAt hb' e)))).1
        · obtain ⟨o,e,d⟩:=T.obj _ _ st5 b hb'
          exact (I6'.pin (b,o) (List.mem_append_right _ (List.mem_append_right _ (mem_pinsAt hb' e)))).2.1
      | true =>
      rw [if_pos rfl] at q6' ⊢
      refine wpAny_mono (he C s₂ H₂ fp _ s6' _ H6' _ I6' q6') (fun u7 s7 h7=>?_) fun _ _ f=>f.elim
      obtain ⟨v7,H7,I7,r7,n7⟩:=h7
      have pD7:=I7.pin (D,{ cls:=.type "list",data:=.seq (List.toArray its) k }) (by simp [blkN])
      have hlen:=rv.length
      refine append_at (hsz:=by show its.toArray.size≤sizeLine; rw [List.size_toArray,← hlen]; exact hz) pD7.1 fun h8 hs8 hD8=>?_
      obtain ⟨m',hm,w8⟩:=hN _ _ n7
      have hD8':h8.get? D=some { cls:=.type "list",data:=.seq (its ++ [u7]).toArray (k + 1) }:=by rw [hD8,List.push_toArray]
      have I8:Inv (blkN X scope xs C fp s₂ H₂) [] (σ ++ vs.map some) H7 { s7 with heap:=h8 }:=by
        refine (I7.pins_of (pins':=[]) fun p hp=>absurd hp (by simp)).turned (t':=s7.toks) (it:=D) (fun b o hb e=>(hs8.2 b hb).trans e) pD7.2.1 pD7.2.2.1 (.inr (by show s₂.heap.objs.size≤D; rw [hDe]; exact Nat.le_refl _)) (fun y' c' e' z=>?_) fun p hp=>absurd (show p∈([]:List (Addr × Obj)) from by simpa [blkN] using hp) (by simp)
        obtain ⟨v,o,ho,hd⟩:=I.cell y' c' (clOf_some' sc I.ok e')
        have:=Heap.lt_size ho
        rw [hDe,z] at this
        exact Nat.lt_irrefl _ this
      refine ⟨m',hm,i + 1,ys ++ [v7],its ++ [u7],k + 1,vs.map some,H7,by simp [hvl],I8.pins_of fun p hp=>?_, ?_,fun b hb'=>?_,rv.append (.cons r7 .nil),w8⟩
      · have e:p=(D,{ cls:=.type "list",data:=.seq (its ++ [u7]).toArray (k + 1) }):=by simpa using hp
        subst e
        exact ⟨hD8',pD7.2.1,pD7.2.2.1,pD7.2.2.2.1,fun v z=>nomatch z⟩
      · refine T.keep _ _ _ st5 fun b hb' o e=>?_
        have hpb:=I7.pin (b,o) (List.mem_append_right _ (List.mem_append_right _ (mem_pinsAt hb' e)))
        exact (hs8.2 b (Nat.ne_of_lt (flt b hb'))).trans hpb.1
      · obtain ⟨o,e,d⟩:=T.obj _ _ st5 b hb'
        exact (I7.pin (b,o) (List.mem_append_right _ (List.mem_append_right _ (mem_pinsAt hb' e)))).2.1
  exact codeAny_compStart_list (loop _ rfl) (T.self _ 0 _ _ _ (T.keep _ _ _ st fun b hb o e=>old b o e) (loop _ rfl))
theorem pc_one {c:Expr} (hx:∀ e s,X.xe e s→False) (h:PT X c tt):PCi X [c] tt:=fun pins s σ H Q E I q =>
  wpAny_tests_one (wpAny_mono (h pins s σ H Q I q) (fun _ _ z=>z) fun e s z=>(hx e s z).elim)
theorem pb_name {px:Pos} (hNd:X.N.Nodup) (hchk:compChkN X.N X.env.scope scope [x]=true:=by rfl):PB X scope [x] (.Name x px) tB1:=by
  intro C s₂ H₂ ex pins s σ σx H y u vs E hσ hσx I r hb
  have ck:=compChkN_of hchk
  have sc:=ck.scs x (by simp)
  have hb:vs=[y]:=hb
  subst hb
  have ndB:=ck.nd
  refine wpAny_assign_Name ?_
  refine store_ok (X:=blkN X scope [x] C ex s₂ H₂) (i:=X.N.length) (x:=x) (v:=y) I ndB (by simp [blkN]) (.inl (lookup_relabel_local sc.var)) r (fun s6 I6=>?_) (.inr (lookup_relabel_local sc.var))
  obtain ⟨o,rfl⟩:∃ o,σx=[o]:=by
    cases σx with
    | nil=>simp at hσx
    | cons a l =>
      cases l with
      | nil=>exact ⟨a,rfl⟩
      | cons b l=>simp at hσx
  have eσ:(σ ++ [o]).set X.N.length (some y)=σ ++ [some y]:=by
    rw [← hσ]; simp
  rw [eσ] at I6
  exact I6
theorem pe_compG {wi:TI} (hi:PI X tg iter wi) (hb:PB X scope xs tg Bd) (ht:∀ C s₂ H₂ ex,PCi (blkN X scope xs C ex s₂ H₂) ifs tt) (he:∀ C s₂ H₂ ex,PE (blkN X scope xs C ex s₂ H₂) elt te) (hvs:∀ x H vs,Bd x H vs→vs.length=xs.length) (hNd:X.N.Nodup) (hc:X.calm=true)
    (hclos:closureFor scope X.env=pure (clOf scope X.env):=by rfl) (hchk:compChkN X.N X.env.scope scope xs=true:=by rfl) (hs:∀ x,foldedSetIterable iter X.env x=pure x:=by exact fun _=>rfl) :
    PE X (.ListComp elt [⟨tg,iter,ifs,0⟩] scope pos) (tCompG wi Bd tt te):=by
  intro pins s σ H Q I h
  have ck:=compChkN_of hchk
  obtain ⟨x,hx⟩:=ck.ex
  have sc:=ck.scs x hx
  rw [eval_ListComp]
  refine wpAny_comprehension_free (use:=none) rfl hs hclos sc.kind sc.locs (thn (hi pins s σ H _ I h) fun xv s₁ h₁=>thn h₁ fun itv s₂ h₂=>?_)
  obtain ⟨it,fp,tn,J,H2,e,I2,T,st2,f2,q⟩:=h₂
  subst e
  refine comp_runG (RR:=fun acc C=>compPost (model X.prog X.w) X.A X.xe none (EP X pins σ Q) acc C) I2 ck hx hNd hc T st2 f2 q hb ht he hvs ?_
  intro D C s' H' m' hC I' hn hC0 hq
  refine ⟨m',hn,fun h'' hs''=>⟨.ref D,H', ?_,rfl,hq⟩⟩
  refine I'.turned (t':=s'.toks) (it:=C) (fun b o hb e=>(hs''.2 b hb).trans e) hC0 (Nat.ne_of_gt (Nat.lt_of_lt_of_le I2.lt hC)) (.inr (Nat.le_trans I2.sz hC)) (fun y c e z=>?_) fun p hp z=>?_
  · obtain ⟨v,o,ho,hd⟩:=I2.cell y c e
    exact absurd (Heap.lt_size ho) (Nat.not_lt.mpr (by rw [z]; exact hC))
  · exact absurd (Heap.lt_size (I2.pin p hp).1) (Nat.not_lt.mpr (by rw [z]; exact hC))
noncomputable def tSetCompG (i:Nat) (wi:TI) (Bd:TB) (tt:TT) (te:TE):TS:=fun D σ H=>tCompG wi Bd tt te σ H fun v H'=>D.nx (σ.set i (some v)) H'
theorem ps_setCompG {i:Nat} {y:Str} {py spos:Pos} {wi:TI} (hN:X.N.Nodup) (hi:X.N[i]?=some y) (hit:PI X tg iter wi) (hb:PB X scope xs tg Bd) (ht:∀ C s₂ H₂ ex,PCi (blkN X scope xs C ex s₂ H₂) ifs tt) (he:∀ C s₂ H₂ ex,PE (blkN X scope xs C ex s₂ H₂) elt te) (hvs:∀ x H vs,Bd x H vs→vs.length=xs.length) (hc:X.calm=true)
    (hsw:swapsWith (.ListComp elt [⟨tg,iter,ifs,0⟩] scope pos) (some (.Name y py)) spos.line X.env=pure true:=by rfl) (hy:X.env.scope.names.lookup y=some .local:=by rfl)
    (hclos:closureFor scope X.env=pure (clOf scope X.env):=by rfl) (hchk:compChkN X.N X.env.scope scope xs=true:=by rfl) (hs:∀ x,foldedSetIterable iter X.env x=pure x:=by exact fun _=>rfl) :
    PS X (.Assign [.Name y py] (.ListComp elt [⟨tg,iter,ifs,0⟩] scope pos) spos) (tSetCompG i wi Bd tt te):=by
  intro pins s σ H D0 I h
  have ck:=compChkN_of hchk
  obtain ⟨x,hx⟩:=ck.ex
  have sc:=ck.scs x hx
  rw [exec_Assign_Name_used _ _ _ _ hsw]
  refine wpAny_bind (wpAny_standAt (wpAny_bind ?_))
  show wpAny _ X.A (do let _ ← comprehension (.ListComp elt [⟨tg,iter,ifs,0⟩] scope pos) scope X.env _ (newList []) false (eval iter X.env) (some (assign (.Name y py) X.env))) _ _ s
  refine wpAny_bind (wpAny_mono (wpAny_comprehension_free (use:=some (assign (.Name y py) X.env)) (Q:=fun _ s'=>SP X pins D0 .next s') rfl hs hclos sc.kind sc.locs
    (thn (hit pins s σ H _ I h) fun xv s₁ h₁=>thn h₁ fun itv s₂ h₂=>?_)) (fun _ s' hq=>wpAny_pure (wpAny_pure hq)) fun _ _ e=>e)
  obtain ⟨it,fp,tn,J,H2,e,I2,T,st2,f2,q⟩:=h₂
  subst e
  refine comp_runG (RR:=fun acc C=>compPost (model X.prog X.w) X.A X.xe (some (assign (.Name y py) X.env)) (fun _ s'=>SP X pins D0 .next s') acc C) I2 ck hx hN hc T st2 f2 q hb ht he hvs ?_
  intro D C s' H' m' hC I' hn hC0 hq
  show wpAny _ X.A (assign (.Name y py) X.env (.ref D)) _ _ _
  have cellC:∀ y c,X.env.cells.lookup y=some c→c≠C:=fun y c e z=>by
    obtain ⟨v,o,ho,hd⟩:=I2.cell y c e
    exact absurd (Heap.lt_size ho) (Nat.not_lt.mpr (by rw [z]; exact hC))
  have locC:C≠X.env.locals:=Nat.ne_of_gt (Nat.lt_of_lt_of_le I2.lt hC)
  refine wpAny_assign_Name (store_ok2 (i:=i) (v:=.ref D) I' hN hi (.inl hy) rfl (fun s'' I'' ⟨a,hsa,ha⟩=>?_) (.inr hy))
  have hCa:C≠a:=by
    rcases ha with z | z
    · rw [z]; exact locC
    · exact (cellC _ _ z).symm
  refine ⟨m',hn.sameBut hsa hCa,fun h'' hs''=>⟨σ.set i (some (.ref D)),H', ?_,hq⟩⟩
  refine I''.turned (t':=s''.toks) (it:=C) (fun b o hb e=>(hs''.2 b hb).trans e) hC0 locC (.inr (Nat.le_trans I2.sz hC)) cellC fun p hp z=>?_
  exact absurd (Heap.lt_size (I2.pin p hp).1) (Nat.not_lt.mpr (by rw [z]; exact hC))
end
end L2
namespace L2
open PySem PySem.Spec PyProof.Rows
noncomputable def filR {α β:Type} (f:α→Rr (Option β)):List α→Rr (List β)
  | []=>.ok []
  | x :: xs=>(f x).bind fun o=>(filR f xs).bind fun ys=>.ok (o.toList ++ ys)
noncomputable def DB (K:PySem.W.Frag) (Bd:TB) (k:Nat) (hb:PV→Rr (List PV)):Prop:=(∀ x e,hb x≠.exc e)∧∀ (H:Hp) (S:Addr→Prop) (x:PV) (v:V) (xs:List PV),Rep K H S x v→hb x=.ok xs→xs.length=k∧∃ vs,Bd v H vs∧Reps K H S xs vs
theorem db_1 {K:PySem.W.Frag}:DB K tB1 1 (fun x=>.ok [x]):=⟨fun x e h=>(by cases h),fun H S x v xs r h=>by
  cases h
  exact ⟨rfl,[v],rfl,v,[],rfl,r,rfl⟩⟩
section
variable {K:PySem.W.Frag} {B:Addr→Prop} {EX:PX→Hp→Prop} {H0 H H':Hp} {σ:St} {Γ Γ' Γ1 Γ2 Γ3:List Md} {ρ:List PV} {F F':Nat→List Addr} {R:List Addr} {k:Nat} {x:PV} {v:V} {te tb tc:TE} {ta:TA} {tt:TT} {f fb fc fe:List PV→Rr PV} {c:List PV→Rr Bool} {fa:List PV→Rr (List PV)} {Bd:TB} {hb:PV→Rr (List PV)}
theorem dt_yes:DT K EX Γ Γ tYes (fun _=>.ok true):=fun B H0 H σ ρ F R Q A d=>d H F (Same.refl H) (fun _ _ h=>h) A
theorem Ag.pushN:∀ {xs:List PV} {vs:List V} {σ:St} {Γ:List Md} {ρ:List PV},Reps K H (NO B F R) xs vs→Ag K B H0 H σ Γ ρ F R→Ag K B H0 H (σ ++ vs.map some) (Γ ++ List.replicate xs.length .S) (ρ ++ xs) F R
  | [],vs,σ,Γ,ρ,h,A=>by
    have h:vs=[]:=h
    subst h
    simpa using A
  | x :: xs,vs,σ,Γ,ρ,h,A=>by
    obtain ⟨v,r,rfl,h1,h2⟩:=h
    have:=Ag.pushN (xs:=xs) (vs:=r) h2 (A.push h1)
    simpa [List.replicate_succ] using this
theorem Ag.popN {n:Nat} {τ:St} {xs:List PV} (A:Ag K B H0 H (σ ++ τ) (Γ ++ List.replicate n .S) (ρ ++ xs) F R) (l1:σ.length=Γ.length) (l2:ρ.length=Γ.length):Ag K B H0 H σ Γ ρ F R:=by
  refine ⟨A.same,A.own,A.young,A.youngR,A.live,A.liveR,A.disj,A.disjR,l1,l2,fun i=>?_⟩
  have:=A.slot i
  by_cases h1:i < Γ.length
  · rw [List.getD_eq_getElem?_getD,List.getD_eq_getElem?_getD,List.getElem?_append_left h1,List.getElem?_append_left (by rw [l2]; exact h1),List.getElem?_append_left (by rw [l1]; exact h1),← List.getD_eq_getElem?_getD,← List.getD_eq_getElem?_getD] at this
    exact this
  · rw [List.getD_eq_getElem?_getD,List.getElem?_eq_none (by omega)]
    by_cases h2:i < Γ.length + n
    · rw [List.getD_eq_getElem?_getD,List.getElem?_append_right (by omega),List.getElem?_replicate,if_pos (by omega)] at this
      simp only [Option.getD_some] at this
      exact this.1
    · exact A.outF (by simp; omega)
theorem de_compG {wi:TI} {fi:List PV→Rr (List PV)} (hi:DIc K EX Γ Γ1 wi fi) (hB:DB K Bd k hb) (ht:DT K EX (Γ1 ++ List.replicate k .S) (Γ1 ++ List.replicate k .S) tt c) (he:DE K EX (Γ1 ++ List.replicate k .S) (Γ1 ++ List.replicate k .S) .F te fe) :
    DE K EX Γ Γ1 .F (tCompG wi Bd tt te) (fun ρ=>(fi ρ).bind fun xs=>(lenM xs).bind fun _=>(filR (fun x=>(hb x).bind fun as=>(c (ρ ++ as)).bind fun b=>if b=true then (fe (ρ ++ as)).bind fun y=>.ok (some y) else .ok none) xs).bind fun ys=>.ok (.lst ys)):=fun B H0 H σ ρ F R Q A d=>by
  refine hi B H0 H σ ρ F R _ A (d.bind.imp (fun xs _ d J H1 F1 s1 f1 A1 it=>?_) fun e q=>q)
  obtain ⟨hlen,d⟩:=Dn.lenM d.bind
  generalize hgx:(fun x=>(hb x).bind fun as=>(c (ρ ++ as)).bind fun b=>if b=true then (fe (ρ ++ as)).bind fun y=>Rr.ok (some y) else .ok none)=gx at d
  have l1:=A1.lenS
  have l2:=A1.lenR
  refine ⟨fun i m ys H2=>∃ zs G F2,m=xs.length - i∧i≤xs.length∧ys.length≤i∧Same H1 H2∧Trees K H2 zs ys G∧(∀ a∈G,a ∉ R∧(H1 a=none ∨ ∃ j,a∈F1 j))∧(∀ i,∀ a∈F2 i,a∈F1 i)∧Ag K B H0 H2 σ Γ1 ρ F2 (G ++ R) ∧
    Dn ((filR gx (xs.drop i)).bind fun ys'=>.ok (.lst (zs ++ ys'))) (fun x=>∀ v H',Same H H'→Res K B H0 H σ Γ1 ρ F R .F x v H'→Q v H') (fun e=>∀ H',Same H0 H'→EX e H'),
    ⟨xs.length,[],[],F1,by simp,Nat.zero_le _,Nat.le_refl _,Same.refl _,⟨rfl,rfl⟩,by simp,fun _ _ h=>h,A1,by simpa using d⟩, ?_⟩
  rintro i m ys H2 ⟨zs,G,F2,rfl,hi',hl,s2,tr,o2,f2,A2,dn⟩
  refine ⟨line_mil (by omega), ?_⟩
  have itp:=it H2 F2 s2 f2 i
  cases hx:xs[i]? with
  | none =>
    refine .inl ⟨itp.2 hx,fun p hp=>?_⟩
    have hd:xs.drop i=[]:=List.drop_eq_nil_of_le (List.getElem?_eq_none_iff.mp hx)
    rw [hd] at dn
    have dn':∀ v H',Same H H'→Res K B H0 H σ Γ1 ρ F R .F (.lst (zs ++ [])) v H'→Q v H':=dn
    rw [List.append_nil] at dn'
    exact dn' _ _ ((s1.trans s2).trans (Same.new hp)) (Res.newF (s1.trans s2) (fun i a h=>f1 i a (f2 i a h)) tr (fun a ha=>⟨(o2 a ha).1,(o2 a ha).2.elim (fun z=>.inl (s1.free z)) fun ⟨j,z⟩=>.inr ⟨j,f1 j a z⟩⟩) A2 hp)
  | some x =>
    have hlt:i < xs.length:=(List.getElem?_eq_some_iff.mp hx).1
    obtain ⟨go,yl⟩:=itp.1 x hx
    have hdx:xs.drop i=x :: xs.drop (i + 1):=by
      rw [List.drop_eq_getElem_cons hlt]
      rw [List.getElem?_eq_getElem hlt] at hx; cases hx; rfl
    rw [hdx] at dn
    simp only [filR,Rr.assoc] at dn
    rw [← hgx] at dn
    simp only [Rr.assoc] at dn
    rw [hgx] at dn
    refine .inr ⟨go,fun ys' H'=>∃ zs G F2,ys'.length≤i + 1∧Same H1 H'∧Trees K H' zs ys' G∧(∀ a∈G,a ∉ R∧(H1 a=none ∨ ∃ j,a∈F1 j))∧(∀ i,∀ a∈F2 i,a∈F1 i)∧Ag K B H0 H' σ Γ1 ρ F2 (G ++ R) ∧
      Dn ((filR gx (xs.drop (i + 1))).bind fun ys'=>.ok (.lst (zs ++ ys'))) (fun x=>∀ v H',Same H H'→Res K B H0 H σ Γ1 ρ F R .F x v H'→Q v H') (fun e=>∀ H',Same H0 H'→EX e H'),
      fun ys' H' ⟨zs,G,F2,a1,a2,a3,a4,a5,a6,a7⟩=>⟨xs.length - (i + 1),by omega,zs,G,F2,rfl,hlt,a1,a2,a3,a4,a5,a6,a7⟩,fun v H3 y=>?_⟩
    obtain ⟨s3,rx⟩:=yl v H3 y
    have rx':Rep K H3 (NO B F2 (G ++ R)) x v:=Rep.mono (fun a us s r=>⟨r,s.1.1,fun z=>by
      rcases List.mem_append.mp z with z | z
      · rcases (o2 a z).2 with q | ⟨j,q⟩
        · exact s.2.1 q
        · exact s.2.2 j q
      · exact s.1.2.1 z,s.1.2.2⟩) (fun a us r=>r) rx
    cases hbx:hb x with
    | exc e=>exact absurd hbx (hB.1 x e)
    | bad=>rw [hbx] at dn; exact dn.elim
    | ok as =>
      rw [hbx] at dn
      simp only [Rr.bind_ok] at dn
      obtain ⟨hk,vs,bd,ra⟩:=hB.2 H3 _ x v as rx' hbx
      refine ⟨vs,bd, ?_⟩
      have A3:=Ag.pushN ra (A2.grow s3)
      rw [hk] at A3
      refine ht B H0 H3 _ _ F2 (G ++ R) _ A3 (dn.bind.imp (fun b _ dn H4 F4 s4 f4 A4=>?_) fun e q=>q)
      cases b with
      | false =>
        rw [if_neg Bool.false_ne_true] at dn ⊢
        simp only [Rr.bind_ok,Option.toList] at dn
        refine ⟨zs,G,F4,by omega,(s2.trans s3).trans s4,(tr.same s3).same s4,o2,fun i a h=>f2 i a (f4 i a h),A4.popN l1 l2, ?_⟩
        simp only [Rr.assoc,Rr.bind_ok,List.nil_append] at dn
        exact dn
      | true =>
        rw [if_pos rfl] at dn ⊢
        simp only [Rr.assoc] at dn
        refine he B H0 H4 _ _ F4 (G ++ R) _ A4 (dn.bind.imp (fun z _ dn w H5 s5 r5=>?_) fun e q=>q)
        obtain ⟨F5,f5,G5,t5,o5,A5⟩:=r5
        refine ⟨zs ++ [z],G ++ G5,F5,by simp; omega,((s2.trans s3).trans s4).trans s5,Trees.append (((tr.same s3).same s4).same s5) (Trees.one t5) (fun a ha z=>(o5 a z).1 (List.mem_append_left _ ha)),fun a ha=>?_,fun i a h=>f2 i a (f4 i a (f5 i a h)),(A5.popN l1 l2).less fun a ha=>?_, ?_⟩
        · rcases List.mem_append.mp ha with z | z
          · exact o2 a z
          · refine ⟨fun q=>(o5 a z).1 (List.mem_append_right _ q), ?_⟩
            rcases (o5 a z).2 with q | ⟨j,q⟩
            · exact .inl (((s2.trans s3).trans s4).free q)
            · exact .inr ⟨j,f2 j a (f4 j a q)⟩
        · simp only [List.mem_append] at ha ⊢
          rcases ha with (z | z) | z
          · exact .inr (.inl z)
          · exact .inl z
          · exact .inr (.inr z)
        · simp only [Rr.assoc,Rr.bind_ok,Option.toList,List.append_assoc,List.singleton_append] at dn ⊢
          exact dn
theorem ds_setCompG {EX:PX→Hp→Prop} {kd:Kd} {i:Nat} {wi:TI} (he:DE K EX Γ Γ' .F (tCompG wi Bd tt te) f) (hi:i < Γ'.length):DS K EX Γ ⟨Γ'.set i .O,Γ1,Γ2,kd⟩ (tSetCompG i wi Bd tt te) (fun ρ=>(f ρ).thenS fun x=>.next (ρ.set i x)):=ds_setF he hi
end
theorem hv1 {n:Str}:∀ (x:V) (H:Hp) (vs:List V),tB1 x H vs→vs.length=[n].length:=fun _ _ _ h=>congrArg List.length h
end L2
namespace L2
open PySem PySem.Spec PyProof.Rows
section
variable {X:Cx} {K:PySem.W.Frag}
end
section
variable {K:PySem.W.Frag} {EX:PX→Hp→Prop} {Γ Γ1 Γ2:List Md} {te:TE} {ta:TA} {f:List PV→Rr PV} {fa:List PV→Rr (List PV)}
end
theorem pApp_any {xs:List PV} {y:PV} (h:xs.length < 1000000):pApp (.lst xs) y=.ok (.lst (xs ++ [y])):=if_pos h
theorem p1062:pPow (.int 10) (.int 62)=.ok (.int (10 ^ 62)):=by rw [pPow_ok (by decide)]; rfl
theorem p1059:pPow (.int 10) (.int 59)=.ok (.int (10 ^ 59)):=by rw [pPow_ok (by decide)]; rfl
theorem p1061:pPow (.int 10) (.int 61)=.ok (.int (10 ^ 61)):=by rw [pPow_ok (by decide)]; rfl
theorem pMax2_ok {i j:Int}:pMax2 [.int i,.int j]=.ok (.int (if j > i then j else i)):=rfl
theorem asT_2 {a b:PV}:asT 2 (.tup [a,b])=.ok [a,b]:=rfl
theorem asT_3 {a b c:PV}:asT 3 (.tup [a,b,c])=.ok [a,b,c]:=rfl
end L2
namespace L2
open PySem PySem.Spec PyProof.Rows
noncomputable def BigB:Nat:=4000000
noncomputable def CMulC (i j:Int):Prop:=i.natAbs < 2 ^ BigB∧j.natAbs < 2 ^ BigB
noncomputable instance (i j:Int):Decidable (CMulC i j):=by unfold CMulC; infer_instance
end L2
namespace Att
open PySem PySem.W PySem.Calls PyProof.Rows
end Att
namespace L2
open PySem PySem.Spec PyProof.Rows
end L2
namespace L2
open PySem PySem.Spec PyProof.Rows
section
variable {X:Cx} {K:PySem.W.Frag}
end
noncomputable def okE (x:PV):Bool:=x.noX && x.dat.canLay0 && decide (x.dat.depth≤60)
noncomputable def rInD (K:PySem.W.Frag) (g:Bool→Bool):R2:=fun x y H Q=>∃ p qs a vs,Rep K H (fun _=>True) p x∧y=.ref a∧(SqL K H a vs ∨ SqT K H a vs)∧Reps K H (fun _=>True) qs vs∧okE p=true∧(qs.all okE)=true∧Q (.bl (g (qs.any fun q=>PyData.eqv q.dat p.dat))) H
open Classical in
noncomputable def eqVal (h:Heap) (dx:PyData) (y:Value):Bool:=if hy:∃ d as,Reads h y d as∧d.canLay0=true∧d.depth≤60 then PyData.eqv hy.choose dx else false
section
variable {X:Cx} {K:PySem.W.Frag}
theorem eqVal_any {H:Hp} {pins:List (Addr × Obj)} {σ:St} {s:Shared} {S:Addr→Prop} (I:Inv X pins σ H s) (dx:PyData):∀ {qs:List PV} {vs:List V} {us:List Value},Reps X.K H S qs vs→Vals vs us→(qs.all okE)=true →
    (us.any (eqVal s.heap dx)=qs.any fun q=>PyData.eqv q.dat dx)∧∀ y∈us,∃ d as,Reads s.heap y d as∧d.canLay0=true∧d.depth≤60
  | [],_,us,h,r,_=>by
    rw [h] at r; cases r
    exact ⟨rfl,by simp⟩
  | q :: qs,_,us,h,r,hk=>by
    obtain ⟨v,vs,rfl,h1,h2⟩:=h
    simp only [List.all_cons,Bool.and_eq_true] at hk
    cases r with
    | cons r1 r2 =>
      rename_i u us
      obtain ⟨e1,e2⟩:=eqVal_any I dx h2 r2 hk.2
      have h3:=hk.1
      simp only [okE,Bool.and_eq_true,decide_eq_true_eq] at h3
      obtain ⟨as,ra⟩:=h1.reads I h3.1.1 r1
      have hx:∃ d as,Reads s.heap u d as∧d.canLay0=true∧d.depth≤60:=⟨_,_,ra,h3.1.2,h3.2⟩
      refine ⟨?_,fun y hy=>?_⟩
      · have:eqVal s.heap dx u=PyData.eqv q.dat dx:=by
          unfold eqVal
          rw [dif_pos hx]
          obtain ⟨as',ra',c1,c2⟩:=hx.choose_spec
          rw [SeqAt.Reads.unique _ _ _ _ _ c1 ra' ra]
        rw [List.any_cons,List.any_cons,e1,this]
      · rcases List.mem_cons.mp hy with rfl | hy
        · exact hx
        · exact e2 y hy
theorem in_any {H:Hp} {pins:List (Addr × Obj)} {σ:St} {s:Shared} {g:Bool→Bool} {x y:V} {v u:Value} {Q:VK} (I:Inv X pins σ H s) (hu:X.A.units + 64 < cLine) (rx:RelV x v) (ry:RelV y u) (h:rInD X.K g x y H Q) :
    ∃ a items,u=.ref a∧(s.heap.IsList a items ∨ s.heap.IsTuple a items)∧∃ e:Value→Bool,(∀ y,y∈items→SeqAt.EqAt X.A.in1 s y v (e y))∧Q (.bl (g (items.any e))) H:=by
  obtain ⟨p,qs,a,vs,h1,rfl,hq,hr,h3,h4,q⟩:=h
  cases ry
  simp only [okE,Bool.and_eq_true,decide_eq_true_eq] at h3
  obtain ⟨as,ra⟩:=h1.reads I h3.1.1 rx
  have fin:∀ its:List Value,Vals vs its→(∀ y,y∈its.toArray→SeqAt.EqAt X.A.in1 s y v (eqVal s.heap p.dat y))∧Q (.bl (g (its.toArray.any (eqVal s.heap p.dat)))) H:=fun its rv=>by
    obtain ⟨e1,e2⟩:=eqVal_any I p.dat hr rv h4
    refine ⟨fun y hy=>?_, ?_⟩
    · have hx:=e2 y (by simpa using hy)
      unfold eqVal
      rw [dif_pos hx]
      obtain ⟨as',ra',c1,c2⟩:=hx.choose_spec
      refine SeqAt.eqAt_reads _ _ _ _ _ _ _ _ ra' ra c1 h3.1.2 ?_
      have:=Nat.min_le_left hx.choose.depth p.dat.depth
      have hin:X.A.in1.units≤X.A.units + 1:=by simp [Around.in1]
      omega
    · rw [List.any_toArray,e1]; exact q
  rcases hq with hq | hq
  · obtain ⟨its,rv,pl,hz⟩:=I.list hq
    obtain ⟨f1,f2⟩:=fin its rv
    exact ⟨a,its.toArray,rfl,.inl pl.isList,_,f1,f2⟩
  · obtain ⟨its,rv,pl,hz⟩:=I.tuple hq
    obtain ⟨f1,f2⟩:=fin its rv
    exact ⟨a,its.toArray,rfl,.inr pl,_,f1,f2⟩
theorem op_inD (hu:X.A.units + 64 < cLine) (e:X.K=K:=by rfl):OpR X (compareOp .In) (rInD K id):=by
  subst e
  intro pins s σ H x y v u Q I rx ry h
  obtain ⟨a,items,rfl,hl,e,he,q⟩:=in_any I hu rx ry h
  rcases hl with hl | hl
  · exact SeqAt.in_listAt e hl he ⟨.bl _,H,I,rfl,q⟩
  · exact SeqAt.in_tupleAt e hl he ⟨.bl _,H,I,rfl,q⟩
theorem op_notInD (hu:X.A.units + 64 < cLine) (e:X.K=K:=by rfl):OpR X (compareOp .NotIn) (rInD K (!·)):=by
  subst e
  intro pins s σ H x y v u Q I rx ry h
  obtain ⟨a,items,rfl,hl,e,he,q⟩:=in_any I hu rx ry h
  rcases hl with hl | hl
  · exact SeqAt.notIn_listAt e hl he ⟨.bl _,H,I,rfl,q⟩
  · exact SeqAt.notIn_tupleAt e hl he ⟨.bl _,H,I,rfl,q⟩
end
noncomputable def pInD (g:Bool→Bool) (x y:PV):Rr PV:=match y with
  | .lst ys=>if (okE x && ys.all okE)=true then .ok (.bl (g (ys.any fun q=>PyData.eqv q.dat x.dat))) else .bad
  | .tup ys=>if (okE x && ys.all okE)=true then .ok (.bl (g (ys.any fun q=>PyData.eqv q.dat x.dat))) else .bad
  | _=>.bad
section
variable {K:PySem.W.Frag} {EX:PX→Hp→Prop} {Γ Γ' Γ1 Γ2:List Md} {tb tc:TE} {ta:TA} {fb fc:List PV→Rr PV} {fa:List PV→Rr (List PV)}
theorem de_inD {g:Bool→Bool} (ha:DE K EX Γ Γ1 .A tb fb) (hb:DE K EX Γ1 Γ2 .A tc fc):DE K EX Γ Γ2 .P (tOp (rInD K g) tb tc) (fun ρ=>(fb ρ).bind fun x=>(fc ρ).bind fun y=>pInD g x y):=by
  refine de_op (fun {H x y v w Q} rx ry ⟨z,e,q⟩=>?_) (fun x y z h=>?_) (fun x y e h=>?_) ha hb
  · unfold pInD at e
    split at e
    · split at e
      · rename_i ys hk
        cases e
        rw [Bool.and_eq_true] at hk
        obtain ⟨a,vs,rfl,hn,hr⟩:=ry
        exact ⟨x,_,a,vs,rx,rfl,.inl (sq_of (S:=fun _=>True) hn),hr,hk.1,hk.2,q rfl _ rfl⟩
      · cases e
    · split at e
      · rename_i ys hk
        cases e
        rw [Bool.and_eq_true] at hk
        obtain ⟨a,vs,rfl,hn,hr⟩:=ry
        exact ⟨x,_,a,vs,rx,rfl,.inr hn.sqT,hr,hk.1,hk.2,q rfl _ rfl⟩
      · cases e
    · cases e
  · unfold pInD at h
    split at h
    · split at h <;> cases h; rfl
    · split at h <;> cases h; rfl
    · cases h
  · unfold pInD at h
    split at h
    · split at h <;> cases h
    · split at h <;> cases h
    · cases h
end
end L2
namespace L2
open PySem PySem.Spec PyProof.Rows
section
variable {K:PySem.W.Frag} {EX:PX→Hp→Prop} {Γ Γ1 Γ2 Γ3:List Md} {te:TE} {f:List PV→Rr PV}
end
theorem okE_str {x:Str} (h:PyData.canLay0 (.str x)=true):okE (.str x)=true:=by simp [okE,PV.noX,PV.dat,PyData.depth,h]
end L2
namespace L2
open PySem PySem.Spec PyProof.Rows
section
variable {K:PySem.W.Frag} {H:Hp} {EX:PX→Hp→Prop} {Γ Γ':List Md} {te:TE} {f:List PV→Rr PV}
end
end L2
namespace L2
open PySem PySem.Spec PyProof.Rows
section
variable {K:PySem.W.Frag} {EX:PX→Hp→Prop} {Γ Γ1 Γ2 Γ3:List Md} {k:Kd} {H:Hp}
end
end L2
namespace L2
open PySem PySem.Spec PyProof.Rows
noncomputable def pChain (p q:Int→Int→Bool) (x y:PV) (r:Rr PV):Rr PV:=match x,y with
  | .int i,.int j=>if p i j=true then r.bind fun z=>oI (fun _ _=>true) (fun i j=>.bl (q i j)) (.int j) z else .ok (.bl false)
  | _,_=>.bad
theorem pChain_ok {p q:Int→Int→Bool} {i j k:Int}:pChain p q (.int i) (.int j) (.ok (.int k))=.ok (.bl (p i j && q j k)):=by
  simp only [pChain,Rr.bind_ok,oI,if_true]
  cases p i j <;> simp
section
variable {K:PySem.W.Frag} {B:Addr→Prop} {EX:PX→Hp→Prop} {H0 H H':Hp} {σ:St} {Γ Γ' Γ1 Γ2 Γ3:List Md} {ρ:List PV} {F F':Nat→List Addr} {R:List Addr} {k:Nat} {kd:Kd} {x:PV} {v:V} {te ta tb tc:TE} {tt:TT} {f fa fb fc fe:List PV→Rr PV} {c:List PV→Rr Bool} {Bd:TB} {hb:PV→Rr (List PV)}
theorem de_chain {p q:Int→Int→Bool} (ha:DE K EX Γ Γ1 .A ta fa) (hb:DE K EX Γ1 Γ2 .A tb fb) (hc:DE K EX Γ2 Γ2 .A tc fc) :
    DE K EX Γ Γ2 .P (tChain (rI0 fun i j=>.bl (p i j)) (rI0 fun i j=>.bl (q i j)) ta tb tc) (fun ρ=>(fa ρ).bind fun x=>(fb ρ).bind fun y=>pChain p q x y (fc ρ)):=fun B H0 H σ ρ F R Q A d=>by
  refine two (Q:=fun v w H2=>(rI0 fun i j=>.bl (p i j)) v w H2 fun z H3=>∃ k,z=.bl k∧(if k=true then tc σ H3 fun w' H4=>(rI0 fun i j=>.bl (q i j)) w w' H4 Q else Q (.bl false) H3)) ha hb A d.bind2 fun x y v w H' F' d s hF p1 p2 A'=>?_
  cases x <;> cases y <;> first | exact d.elim | skip
  rename_i i j
  cases p1; cases p2
  refine ⟨i,j,rfl,rfl,_,rfl, ?_⟩
  simp only [pChain] at d
  by_cases h:p i j=true
  · rw [if_pos h] at d ⊢
    refine hc B H0 H' σ ρ F' R _ A' (d.bind.imp (fun z _ d u H3 s3 r3=>?_) fun e q=>q)
    obtain ⟨F3,f3,p3,A3⟩:=r3
    cases z <;> first | exact d.elim | skip
    cases p3
    exact ⟨j,_,rfl,rfl,d _ H3 (s.trans s3) ⟨F3,fun i a h=>hF i a (f3 i a h),rfl,rfl,A3⟩⟩
  · rw [if_neg h] at d ⊢
    exact d _ H' s ⟨F',hF,rfl,rfl,A'⟩
inductive IsTs (K:PySem.W.Frag):List V→List (List (Str × Bool))→Prop
  | nil:IsTs K [] []
  | cons {c:V} {L:List (Str × Bool)} {cs:List V} {Ls:List (List (Str × Bool))}:IsT K c L→IsTs K cs Ls→IsTs K (c :: cs) (L :: Ls)
noncomputable def anyX:List (List (Str × Bool))→Str→Option Bool
  | [],_=>some false
  | L :: Ls,n=>match L.lookup n with
    | some true=>some true
    | some false=>anyX Ls n
    | none=>none
noncomputable def rIsXs (K:PySem.W.Frag) (cs:List V) (Ls:List (List (Str × Bool))):List V→Hp→VK→Prop:=fun xs H Q=>∃ x t,xs=[x,.ref t]∧SqT K H t cs∧((x=.non∧Q (.bl false) H) ∨ ∃ n b,ExxAt K H n x∧anyX Ls n=some b∧Q (.bl b) H)
theorem kitAny_non {cs:List V} {Ls:List (List (Str × Bool))} (T:IsTs K cs Ls):∀ {us:List Value},Vals cs us→PySem.W.kitAny K (.type "NoneType") us=some false:=by
  induction T with
  | nil=>intro us r; cases r; rfl
  | cons h _ ih =>
    intro us r
    cases r with
    | cons r1 r2 =>
      obtain rfl:=cv_rel h.cls r1
      simp only [PySem.W.kitAny,h.non,ih r2]
theorem kitAny_own {cs:List V} {Ls:List (List (Str × Bool))} (T:IsTs K cs Ls) {n:Str} {D:Addr} (hD:XCls K n D):∀ {us:List Value} {b:Bool},Vals cs us→anyX Ls n=some b→PySem.W.kitAny K (.ref D) us=some b:=by
  induction T with
  | nil=>intro us b r e; cases r; exact e
  | @cons c L cs Ls h _ ih =>
    intro us b r e
    cases r with
    | cons r1 r2 =>
      obtain rfl:=cv_rel h.cls r1
      simp only [anyX] at e
      cases q:L.lookup n with
      | none=>rw [q] at e; cases e
      | some b1 =>
        rw [q] at e
        have h2:=(h.own n b1 q D hD).2
        cases b1 with
        | true=>cases e; simp only [PySem.W.kitAny,h2]
        | false=>simp only [PySem.W.kitAny,h2]; exact ih r2 e
noncomputable def tCsL:List V→TA
  | []=>tNil
  | c :: cs=>tCons (tC c) (tCsL cs)
theorem tCsL_of:∀ {cs:List V} {Q:List V→Hp→Prop},Q cs H→tCsL cs σ H Q
  | [],Q,h=>h
  | c :: cs,Q,h=>tCsL_of (cs:=cs) (Q:=fun xs H2=>Q (c :: xs) H2) h
noncomputable def pIsXs (Ls:List (List (Str × Bool))) (x:PV):Rr PV:=match x with
  | .non=>.ok (.bl false)
  | .exc n=>(match anyX Ls n with | some b=>.ok (.bl b) | none=>.bad)
  | .exa n _=>(match anyX Ls n with | some b=>.ok (.bl b) | none=>.bad)
  | _=>.bad
theorem de_isXs {cs:List V} {Ls:List (List (Str × Bool))} (hl:cs.length≤1000000) (he:DE K EX Γ Γ' .A te f):DE K EX Γ Γ' .P (tCB (rIsXs K cs Ls) (tCons te (tCons (tTup (tCsL cs)) tNil))) (fun ρ=>(f ρ).bind (pIsXs Ls)):=fun B H0 H σ ρ F R Q A d=>by
  refine he B H0 H σ ρ F R _ A (d.bind.imp (fun x _ d v H1 s1 r1=>?_) fun e q=>q)
  obtain ⟨F1,f1,p1,A1⟩:=r1
  refine tCsL_of (Q:=fun xs H2=>xs.length≤sizeLine∧∀ p,H2 p=none→rIsXs K cs Ls [v,.ref p] (upd H2 p (.tup xs)) Q) ⟨line_mil hl,fun p hp=>?_⟩
  have e:Same H1 (upd H1 p (.tup cs)):=Same.new hp
  refine ⟨v,p,rfl,SqT.of upd_same, ?_⟩
  have p2:=p1.same e
  cases x with
  | non=>exact .inl ⟨p2,d _ _ (s1.trans e) ⟨F1,f1,rfl,rfl,A1.grow e⟩⟩
  | exc n =>
    simp only [pIsXs] at d
    cases hb:anyX Ls n with
    | some b=>rw [hb] at d; exact .inr ⟨n,b,.inl p2,hb,d _ _ (s1.trans e) ⟨F1,f1,rfl,rfl,A1.grow e⟩⟩
    | none=>rw [hb] at d; exact d.elim
  | exa n i =>
    simp only [pIsXs] at d
    cases hb:anyX Ls n with
    | some b=>rw [hb] at d; exact .inr ⟨n,b,.inr ⟨i,p2⟩,hb,d _ _ (s1.trans e) ⟨F1,f1,rfl,rfl,A1.grow e⟩⟩
    | none=>rw [hb] at d; exact d.elim
  | _=>exact d.elim
theorem pIsXs_exa {Ls:List (List (Str × Bool))} {n:Str} {i:Int} {b:Bool} (h:anyX Ls n=some b):pIsXs Ls (.exa n i)=.ok (.bl b):=by unfold pIsXs; simp only [h]
end
section
variable {X:Cx}
theorem call_isXs {K:PySem.W.Frag} {c:V} {L:List (Str × Bool)} {cs:List V} {Ls:List (List (Str × Bool))} (T:IsTs K (c :: cs) (L :: Ls)) (e:X.K=K:=by rfl):CallR X (.builtin "isinstance") (rIsXs K (c :: cs) (L :: Ls)):=by
  subst e
  intro pins s σ H xs us Q I r h
  obtain ⟨x,t,rfl,ht,h⟩:=h
  obtain ⟨u,w',rfl,rx,rn⟩:=vals2 r
  cases rn
  obtain ⟨its,rv,⟨o,ho,hc,n,hd⟩,_⟩:=I.tuple ht
  have ho':s.heap.get? t=some ⟨.type "tuple",o.dict,.seq its.toArray n,o.slots⟩:=by rw [ho,← hc,← hd]
  rcases h with ⟨rfl,q⟩ | ⟨m,b,hx,hb,q⟩
  · cases rx
    exact PySem.W.kia_tup PySem.W.kitx_none I.kIn True.intro ho' (kitAny_non T rv) (fun z=>nomatch z) fun tk=>⟨.bl false,H,I.tok _,rfl,q⟩
  · obtain ⟨a,o2,C,od,rfl,h5,hI,-⟩:=hx.inst I
    cases rx
    have t1:PySem.W.exOk X.K C=true:=by
      cases T with
      | cons hT _ =>
        simp only [anyX] at hb
        cases q2:L.lookup m with
        | none=>rw [q2] at hb; cases hb
        | some b1=>exact (hT.own m b1 q2 C h5).1
    exact PySem.W.kia_tup (PySem.W.kitx_exc t1) I.kIn ⟨o2,od,hI⟩ ho' (kitAny_own T h5 rv hb) (fun z=>nomatch z) fun tk=>⟨.bl b,H,I.tok _,rfl,q⟩
end
end L2
namespace L2
open PySem PySem.Spec PyProof.Rows
section
variable {K:PySem.W.Frag} {B:Addr→Prop} {EX:PX→Hp→Prop} {H0 H H':Hp} {σ:St} {Γ Γ' Γ1 Γ2 Γ3:List Md} {ρ:List PV} {F F':Nat→List Addr} {R:List Addr} {te:TE} {f:List PV→Rr PV}
end
section
variable {X:Cx} {K:PySem.W.Frag}
end
structure Dat (n:Nat) (x:PV):Prop where
  nx:x.noX=true
  can:x.dat.canLay0=true
  dep:x.dat.depth≤n
theorem Dat.ok {n:Nat} {x:PV} (h:Dat n x) (hn:n≤64:=by decide):okD x=true:=by
  unfold okD
  rw [h.nx,h.can,decide_eq_true (Nat.le_trans h.dep hn)]; rfl
theorem dat_int (i:Int):Dat 0 (.int i):=⟨rfl,by simp [PV.dat,PyData.canLay0],by simp [PV.dat,PyData.depth]⟩
theorem dats_all {n:Nat}:∀ {xs:List PV},(∀ x∈xs,Dat n x)→PV.noXs xs=true∧PyData.canLayAll0 (PV.dats xs)=true∧PyData.depthAll (PV.dats xs)≤n
  | [],_=>⟨rfl,rfl,Nat.zero_le _⟩
  | x :: xs,h=>by
    obtain ⟨h1,h2,h3⟩:=dats_all (xs:=xs) fun y hy=>h y (by simp [hy])
    have hx:=h x (by simp)
    refine ⟨by simp [PV.noXs,hx.nx,h1],by simp [PV.dats,PyData.canLayAll0,hx.can,h2], ?_⟩
    simp only [PV.dats,PyData.depthAll]
    exact Nat.max_le.mpr ⟨hx.dep,h3⟩
theorem dat_lst {n:Nat} {xs:List PV} (h:∀ x∈xs,Dat n x):Dat (n + 1) (.lst xs):=by
  obtain ⟨h1,h2,h3⟩:=dats_all h
  exact ⟨by simp [PV.noX,h1],by simp [PV.dat,PyData.canLay0,h2],by simp only [PV.dat,PyData.depth]; omega⟩
theorem dat_tup {n:Nat} {xs:List PV} (h:∀ x∈xs,Dat n x):Dat (n + 1) (.tup xs):=by
  obtain ⟨h1,h2,h3⟩:=dats_all h
  exact ⟨by simp [PV.noX,h1],by simp [PV.dat,PyData.canLay0,h2],by simp only [PV.dat,PyData.depth]; omega⟩
theorem Dat.up {m n:Nat} {x:PV} (h:Dat m x) (hn:m≤n):Dat n x:=⟨h.nx,h.can,Nat.le_trans h.dep hn⟩
theorem filR_rng {f:PV→Rr (Option PV)} {p:Nat→Bool} {g:Nat→PV} {lo:Int} {n:Nat} (h:∀ i,i < n→f (.int (lo + (i:Nat)))=.ok (if p i=true then some (g i) else none)):filR f (rngP lo n)=.ok (((List.range n).filter p).map g):=by
  have key:∀ (l:List Nat),(∀ i∈l,i < n)→filR f (l.map fun (i:Nat)=>PV.int (lo + i))=.ok ((l.filter p).map g):=by
    intro l
    induction l with
    | nil=>intro _; rfl
    | cons a l ih =>
      intro hl
      simp only [List.map_cons,filR,h a (hl a (by simp)),Rr.bind_ok,ih fun i hi=>hl i (by simp [hi])]
      cases hp:p a <;> simp [hp,List.filter_cons]
  exact key _ fun i hi=>List.mem_range.mp hi
section
variable {K:PySem.W.Frag} {EX:PX→Hp→Prop} {Γ Γ':List Md} {ta:TA} {fa:List PV→Rr (List PV)}
end
theorem us1 {α:Type} {us:List α} (h:us.length=1):∃ a,us=[a]:=match us,h with | [a],_=>⟨a,rfl⟩
theorem us2 {α:Type} {us:List α} (h:us.length=2):∃ a b,us=[a,b]:=match us,h with | [a,b],_=>⟨a,b,rfl⟩
theorem us3 {α:Type} {us:List α} (h:us.length=3):∃ a b c,us=[a,b,c]:=match us,h with | [a,b,c],_=>⟨a,b,c,rfl⟩
theorem us5 {α:Type} {us:List α} (h:us.length=5):∃ a b c d e,us=[a,b,c,d,e]:=match us,h with | [a,b,c,d,e],_=>⟨a,b,c,d,e,rfl⟩
end L2
namespace L2
open PySem PySem.Spec PyProof.Rows
section
variable {prog:Program} {w:World} {A:Around} {s:Shared} {R:Result→Shared→Prop}
variable {I:Addr} {fp wr:List Addr} {G:Array GenState→Array GenState→Prop} {n:Nat} {P:Nat→Value→Prop} {St:Nat→Shared→Prop}
end
section
variable {prog:Program} {w:World} {A:Around} {E:Value→Shared→Prop} {s:Shared}
variable {I:Addr} {fp wr:List Addr} {G:Array GenState→Array GenState→Prop} {n:Nat} {P:Nat→Value→Prop} {St:Nat→Shared→Prop}
end
section
variable {X:Cx} {K:PySem.W.Frag} {e:Expr} {te:TE} {n1 n2 pos pos':Pos}
end
section
variable {K:PySem.W.Frag} {B:Addr→Prop} {EX:PX→Hp→Prop} {H0 H H':Hp} {σ:St} {Γ Γ':List Md} {ρ:List PV} {F F':Nat→List Addr} {R:List Addr} {te:TE} {f:List PV→Rr PV} {S:Addr→Prop}
end
end L2
namespace L2
open PySem PySem.Spec PyProof.Rows
section
variable {K:PySem.W.Frag} {n:Nat} {m:List PV→Rr PV} {ta:TA} {Γ Γ':List Md} {fa:List PV→Rr (List PV)} {E:XK}
end
end L2
namespace L2
open PySem PySem.Spec PyProof.Rows
end L2
namespace L2
open PySem PySem.Spec PyProof.Rows
section
variable {X:Cx}
end
section
variable {K:PySem.W.Frag} {B:Addr→Prop} {EX:PX→Hp→Prop} {H0 H H':Hp} {σ:St} {Γ Γ' Γ1 Γ2 Γ3:List Md} {ρ:List PV} {F F':Nat→List Addr} {R:List Addr} {te:TE} {f:List PV→Rr PV}
end
end L2
namespace L2
open PySem PySem.Spec PyProof.Rows
section
variable {K:PySem.W.Frag} {B:Addr→Prop} {EX:PX→Hp→Prop} {H0 H H':Hp} {σ:St} {Γ Γ' Γ1 Γ2 Γ3:List Md} {ρ:List PV} {F F':Nat→List Addr} {R:List Addr} {te tb:TE} {f fb:List PV→Rr PV}
theorem trees_gt:∀ {xs:List PV} {vs:List V} {G:List Addr} {n:Nat} {z:PV},Trees K H xs vs G→xs[n]?=some z→∃ u G',vs[n]?=some u∧Tree K H z u G'∧∀ a∈G',a∈G
  | [],_,_,n,z,_,e=>by simp at e
  | x :: xs,vs,G,n,z,h,e=>by
    obtain ⟨v,r,G1,G2,rfl,h1,h2,h3,rfl⟩:=h
    cases n with
    | zero=>simp at e; subst e; exact ⟨v,G1,by simp,h1,fun a ha=>List.mem_append_left _ ha⟩
    | succ n =>
      obtain ⟨u,G',e1,e2,e3⟩:=trees_gt (n:=n) h2 (by simpa using e)
      exact ⟨u,G',by simpa using e1,e2,fun a ha=>List.mem_append_right _ (e3 a ha)⟩
theorem trees_ln:∀ {xs:List PV} {vs:List V} {G:List Addr},Trees K H xs vs G→vs.length=xs.length
  | [],_,_,h=>by rw [h.1]; rfl
  | x :: xs,vs,G,h=>by
    obtain ⟨v,r,G1,G2,rfl,h1,h2,h3,rfl⟩:=h
    simp [trees_ln h2]
theorem trees_ix {xs:List PV} {vs:List V} {G:List Addr} {i:Int} {z:PV} (h:Trees K H xs vs G) (e:atI xs i=some z):∃ u G',atI vs i=some u∧Tree K H z u G'∧∀ a∈G',a∈G:=by
  unfold atI at e ⊢
  rw [trees_ln h]
  cases hk:ixN xs.length i with
  | none=>rw [hk] at e; cases e
  | some k =>
    rw [hk] at e
    obtain ⟨u,G',e1,e2,e3⟩:=trees_gt (n:=k) h e
    exact ⟨u,G',e1,e2,e3⟩
noncomputable def pIxT (x y:PV):Rr PV:=match x,y with
  | .tup xs,.int i=>match atI xs i with
    | some z=>.ok z
    | none=>.bad
  | _,_=>.bad
theorem de_ixF {te ta':TE} {fa':List PV→Rr PV} (ha:DE K EX Γ Γ1 .F ta' fa') (hb:DE K EX Γ1 Γ2 .A tb fb):DE K EX Γ Γ2 .F (tOp (rIx K) ta' tb) (fun ρ=>(fa' ρ).bind fun x=>(fb ρ).bind fun y=>pIxT x y):=fun B H0 H σ ρ F R Q A d=>by
  refine ha B H0 H σ ρ F R _ A (d.bind.imp (fun x _ d v H1 s1 r1=>?_) fun e q=>q)
  obtain ⟨F1,f1,G,t1,o1,A1⟩:=r1
  refine hb B H0 H1 σ ρ F1 (G ++ R) _ A1 (d.bind.imp (fun y _ d w H2 s2 r2=>?_) fun e q=>q)
  obtain ⟨F2,f2,p2,A2⟩:=r2
  cases x with
  | tup xs =>
    cases y with
    | int i =>
      cases p2
      have t2:=t1.same s2
      obtain ⟨a,vs,rfl,hq,ht⟩:=t2
      unfold pIxT at d
      cases e1:atI xs i with
      | none=>simp only [e1] at d; exact d.elim
      | some z =>
        simp only [e1] at d
        obtain ⟨u,G',e2,e3,e4⟩:=trees_ix ht e1
        exact .inr (.inl ⟨a,vs,i,u,rfl,rfl,hq.sqT,e2,d u H2 (s1.trans s2) ⟨F2,fun i a h=>f1 i a (f2 i a h),G',e3,fun b hb=>o1 b (e4 b hb),A2.less fun b hb=>by
          rcases List.mem_append.mp hb with z | z
          · exact List.mem_append_left _ (e4 b z)
          · exact List.mem_append_right _ z⟩⟩)
    | _=>exact d.elim
  | _=>exact d.elim
theorem pIxT_0 {x:PV} {xs:List PV}:pIxT (.tup (x :: xs)) (.int 0)=.ok x:=by simp [pIxT,atI,ixN]
end
end L2
namespace L2
open PySem PySem.Spec PyProof.Rows
section
variable {X:Cx} {K:PySem.W.Frag} {e tg:Expr} {te:TE} {n2 pos':Pos}
end
section
variable {K:PySem.W.Frag} {B:Addr→Prop} {EX:PX→Hp→Prop} {H0 H H':Hp} {σ:St} {Γ Γ':List Md} {ρ:List PV} {F F':Nat→List Addr} {R:List Addr} {te:TE} {f:List PV→Rr PV}
end
end L2
namespace L2
open PySem PySem.Spec PyProof.Rows
section
variable {X:Cx} {K:PySem.W.Frag}
end
section
variable {K:PySem.W.Frag} {EX:PX→Hp→Prop} {Γ Γ1 Γ2:List Md} {te:TE} {ta:TA} {f:List PV→Rr PV} {fa:List PV→Rr (List PV)}
end
end L2
namespace L2
open PySem PySem.Spec PyProof.Rows
section
variable {K:PySem.W.Frag} {B:Addr→Prop} {EX:PX→Hp→Prop} {H0 H H':Hp} {σ:St} {Γ Γ' Γ1 Γ2:List Md} {ρ:List PV} {F F':Nat→List Addr} {R:List Addr}
end
section
variable {P:Program} {w:World} {K:PySem.W.Frag} {mg:Str→Option Value} {base:Heap}
end
section
variable {K:PySem.W.Frag} {EX:PX→Hp→Prop} {Γ Γ' Γ1 Γ2:List Md} {c d:TT} {fc fd:List PV→Rr Bool} {ta:TA} {fa:List PV→Rr (List PV)} {Y:Tys} {t u:TS} {g g':List PV→RS} {n:Nat} {m:List PV→Rr PV}
end
section
variable {K:PySem.W.Frag} {H:Hp}
variable {Γ Γ1 Γ2:List Md} {i:Nat} {tp:TE} {ix:List PV→Rr (List Int)} {EX:PX→Hp→Prop} {k:Kd}
end
section
variable {X:Cx}
end
section
variable {K:PySem.W.Frag} {EX:PX→Hp→Prop} {Γ Γ':List Md} {ta:TA} {fa:List PV→Rr (List PV)}
end
section
variable {K:PySem.W.Frag} {EX:PX→Hp→Prop} {Γ:List Md} {tt:TT} {c:List PV→Rr Bool}
end
noncomputable def frz (m:Md):Md:=if m=.O ∨ m=.T then .S else m
section
variable {K:PySem.W.Frag} {B:Addr→Prop} {EX:PX→Hp→Prop} {H0 H H':Hp} {σ:St} {Γ:List Md} {ρ:List PV} {F:Nat→List Addr} {R:List Addr} {tt:TT} {c:List PV→Rr Bool} {te:TE} {fe:List PV→Rr PV}
end
section
variable {K:PySem.W.Frag} {B:Addr→Prop} {EX:PX→Hp→Prop} {H0 H H':Hp} {σ:St} {Γ Γ' Γ1 Γ2:List Md} {ρ:List PV} {F F':Nat→List Addr} {R:List Addr} {te tb:TE} {f fb:List PV→Rr PV} {S:Addr→Prop}
end
end L2
namespace HL
open PySem PyProof.Rows
section
open PySem.SeqAt
open PySem.AutoSeq1 (wpAny_loadPart')
open PySem.MeetsSeq PySem.MeetsSeq2 PySem.MeetsSeq3 SeqRoads2
end
section
variable {prog:Program} {w:World} {A:Around} {E:Value→Shared→Prop} {s:Shared}
end
end HL
namespace L2
open PySem PySem.Spec PyProof.Rows
section
variable {X:Cx} {K:PySem.W.Frag}
end
section
variable {X:Cx} {C:Addr} {tb:(St→XK)→TS} {th:TS} {c:Str} {np hpos pos:Pos} {body suite:List Stmt} {b₀:Stmt}
end
section
variable {K:PySem.W.Frag} {EX:PX→Hp→Prop} {Γ Γs:List Md} {Y:Tys} {tb:(St→XK)→TS} {th:TS} {gb gh:List PV→RS} {C:Addr} {L:List Str}
end
section
variable {K:PySem.W.Frag} {EX:PX→Hp→Prop} {Γ Γ1 Γ2:List Md} {tb tc:TE} {fb fc:List PV→Rr PV}
end
end L2
namespace L2
open PySem PySem.Spec PyProof.Rows
section
variable {K:PySem.W.Frag} {B:Addr→Prop} {EX:PX→Hp→Prop} {H0 H H':Hp} {σ:St} {Γ Γ' Γ1 Γ2:List Md} {ρ:List PV} {F F':Nat→List Addr} {R:List Addr}
end
section
variable {K:PySem.W.Frag} {B:Addr→Prop} {EX:PX→Hp→Prop} {H0 H H':Hp} {σ:St} {Γ Γb Γ0 Γf Γn Γ1 Γ2:List Md} {ρ:List PV} {F:Nat→List Addr} {L v x:Nat} {a:Addr} {vs:List V} {xs:List PV} {G Gx:List Addr}
end
end L2
namespace L2
open PySem PySem.Spec PyProof.Rows
section
variable {M:Model} {A:Around} {E:Value→Shared→Prop} {s:Shared}
end
section
variable {X:Cx} {pins:List (Addr × Obj)} {σ:St} {s₂:Shared} {H₂:Hp} {scope:Scope} {x:Str} {tg elt iter:Expr} {ifs:List Expr} {pos:Pos} {Bd:TB} {tt:TT} {te:TE} {J:It} {fp:List Addr} {it:Addr} {tn:Nat→Heap→Prop}
end
end L2
namespace L2
open PySem PySem.Spec PyProof.Rows
section
variable {K:PySem.W.Frag} {EX:PX→Hp→Prop} {Γ Γ1 Γ2 Γ3:List Md} {k:Kd} {te:TE} {f:List PV→Rr PV}
end
end L2
namespace L2
open PySem PySem.Spec PyProof.Rows
section
variable {X:Cx} {x:Str} {pos:Pos}
end
section
variable {K:PySem.W.Frag} {B:Addr→Prop} {EX:PX→Hp→Prop} {H0 H H':Hp} {σ:St} {Γ Γ' Γ1 Γ2 Γ3:List Md} {ρ:List PV} {F F':Nat→List Addr} {R:List Addr} {te tb ta':TE} {ta:TA} {f fb fa':List PV→Rr PV} {fa:List PV→Rr (List PV)}
end
section
variable {K:PySem.W.Frag} {H:Hp} {EX:PX→Hp→Prop} {Γ Γ':List Md} {te:TE} {f:List PV→Rr PV}
end
section
variable {prog:Program} {w:World} {A:Around} {E:Value→Shared→Prop} {s:Shared} {x y:Str} {t u:Tok} {Q:Value→Shared→Prop}
open Builtin Builtin.Str
end
section
variable {X:Cx} {K:PySem.W.Frag}
end
section
variable {K:PySem.W.Frag} {H:Hp} {EX:PX→Hp→Prop} {Γ Γ1 Γ2:List Md} {te tb:TE} {ta:TA} {f fb:List PV→Rr PV} {fa:List PV→Rr (List PV)}
end
section
variable {K:PySem.W.Frag} {EX:PX→Hp→Prop} {Γ Γ1 Γ2:List Md} {te tb:TE} {f fb:List PV→Rr PV}
end
end L2
namespace L2
open PySem PySem.Spec PyProof.Rows
section
variable {K:PySem.W.Frag} {B:Addr→Prop} {EX:PX→Hp→Prop} {H0 H H':Hp} {σ:St} {Γ Γ' Γ1 Γ2 Γ3:List Md} {ρ:List PV} {F F':Nat→List Addr} {R:List Addr} {te tb:TE} {f fb:List PV→Rr PV}
end
end L2
namespace L2
open PySem PySem.Spec PyProof.Rows
section
variable {X:Cx}
end
section
variable {K:PySem.W.Frag} {B:Addr→Prop} {EX:PX→Hp→Prop} {H0 H H':Hp} {σ:St} {Γ Γ' Γ1 Γ2 Γ3:List Md} {ρ:List PV} {F F':Nat→List Addr} {R:List Addr} {ta:TA} {fa:List PV→Rr (List PV)}
end
end L2
namespace L2
open PySem PySem.Spec PyProof.Rows
section
variable {κ:Type} [DecidableEq κ]
end
section
variable {P:Program} {w:World} {H:Hp} {h:Heap} {a:Addr}
end
section
variable {X:Cx} {pins:List (Addr × Obj)} {σ:St} {H:Hp} {s:Shared} {a:Addr} {y v:V} {u r:Value} {o:Option V} {A:Around} {E:Value→Shared→Prop}
end
section
variable {X:Cx} {pins:List (Addr × Obj)} {σ:St} {H:Hp} {s:Shared} {a:Addr} {kvs:List (Key × V)} {k:Key} {u:Value} {A:Around} {E:Value→Shared→Prop}
end
section
variable {X:Cx} {o i e value:Expr} {pos pos' tpos:Pos} {td ty tv:TE}
end
section
variable {X:Cx} {pos:Pos}
end
section
variable {X:Cx} {pins:List (Addr × Obj)} {σ:St} {H:Hp} {s:Shared} {a:Addr} {y d:V} {u r:Value} {o:Option V} {A:Around} {E:Value→Shared→Prop}
end
section
variable {X:Cx} {o e f:Expr} {apos cpos:Pos} {td ty tx:TE}
end
section
variable {X:Cx} {pins:List (Addr × Obj)} {σ:St} {H:Hp} {s:Shared} {a:Addr} {kvs:List (Key × V)} {A:Around} {E:Value→Shared→Prop}
end
section
variable {X:Cx} {pins:List (Addr × Obj)} {σ:St} {H:Hp} {s:Shared} {a:Addr} {y:V} {u:Value} {A:Around} {E:Value→Shared→Prop}
end
end L2
namespace L2
open PySem PySem.Spec PyProof.Rows
section
variable {K:PySem.W.Frag} {H:Hp} {S:Addr→Prop}
end
section
variable {κ:Type} [DecidableEq κ] {α β:Type}
end
section
variable {κ:Type} [DecidableEq κ] {K:PySem.W.Frag} {H:Hp} {S:Addr→Prop}
end
section
variable {K:PySem.W.Frag} {B:Addr→Prop} {EX:PX→Hp→Prop} {H0 H H':Hp} {σ:St} {Γ Γ' Γ1 Γ2 Γ3:List Md} {ρ:List PV} {F F':Nat→List Addr} {R:List Addr} {te ta tb tc:TE} {f fa fb fc:List PV→Rr PV} {k:Kd}
end
end L2
namespace L2
open PySem PySem.Spec PyProof.Rows
section
variable {K:PySem.W.Frag} {B:Addr→Prop} {EX:PX→Hp→Prop} {H0 H H':Hp} {σ:St} {Γ Γ' Γ1 Γ2 Γ3:List Md} {ρ:List PV} {F F':Nat→List Addr} {R:List Addr} {te ta tb tc:TE} {f fa fb fc:List PV→Rr PV} {k:Kd}
end
end L2
namespace L2
open PySem PySem.Spec PyProof.Rows
section
variable {X:Cx} {K:PySem.W.Frag}
end
section
variable {K:PySem.W.Frag} {B:Addr→Prop} {EX:PX→Hp→Prop} {H0 H H':Hp} {σ:St} {Γ Γ' Γ1 Γ2 Γ3:List Md} {ρ:List PV} {F F':Nat→List Addr} {R:List Addr} {te tb tc:TE} {ta:TA} {f fb fc:List PV→Rr PV} {fa:List PV→Rr (List PV)} {k:Kd}
end
end L2
namespace L2
open PySem PySem.Spec PyProof.Rows
noncomputable def ins {α:Type}:Nat→α→List α→List α
  | 0,v,us=>v :: us
  | _ + 1,v,[]=>[v]
  | j + 1,v,u :: us=>u :: ins j v us
section
variable {K:PySem.W.Frag} {H H':Hp} {B:Addr→Prop}
end
section
variable {K:PySem.W.Frag} {B:Addr→Prop} {EX:PX→Hp→Prop} {H0 H H':Hp} {σ:St} {Γ Γ' Γ1 Γ2 Γ3:List Md} {ρ:List PV} {F F':Nat→List Addr} {R:List Addr}
end
section
variable {P:Program} {w:World} {K:PySem.W.Frag} {mg:Str→Option Value} {base:Heap}
end
end L2
namespace L2
open PySem PySem.Spec PyProof.Rows
theorem bind_ok {α β:Type} {r:Rr α} {g:α→Rr β} {y:β} (h:r.bind g=.ok y):∃ x,r=.ok x∧g x=.ok y:=by
  cases r with
  | ok x=>exact ⟨x,rfl,h⟩
  | exc e=>cases h
  | bad=>cases h
section
variable {K:PySem.W.Frag} {B:Addr→Prop} {EX:PX→Hp→Prop} {H0 H H':Hp} {σ:St} {Γ Γ' Γ1 Γ2 Γ3:List Md} {ρ:List PV} {F F':Nat→List Addr} {R:List Addr} {te tb:TE} {ta:TA} {f fb:List PV→Rr PV} {fa:List PV→Rr (List PV)} {i j n:Nat} {m:PV→List PV→Rr PV}
variable {fm:List PV→Rr (PV × PV)} {k:Kd} {l:Nat}
end
end L2
namespace L2
open PySem PySem.Spec PyProof.Rows
section
variable {α β:Type} {n:Nat} {P:α→Prop} {R:β→Prop}
end
section
variable {n:Nat}
end
section
variable {prog:Program} {w:World} {A:Around} {E:Value→Shared→Prop} {s:Shared}
end
section
variable {prog:Program} {w:World} {A:Around} {E:Value→Shared→Prop} {s:Shared}
end
section
variable {X:Cx}
end
section
variable {K:PySem.W.Frag} {B:Addr→Prop} {EX:PX→Hp→Prop} {H0 H H':Hp} {σ:St} {Γ Γ' Γ1 Γ2 Γ3:List Md} {ρ:List PV} {F F':Nat→List Addr} {R:List Addr} {te:TE} {ta:TA} {f:List PV→Rr PV} {fa:List PV→Rr (List PV)} {k:Kd}
end
end L2
namespace L2
open PySem PySem.Spec PyProof.Rows
section
variable {X:Cx} {es fs:List Expr} {pos:Pos} {te:TE} {t:TA}
end
end L2
namespace L2
open PySem PySem.Spec PyProof.Rows
section
variable {X:Cx} {tg:Expr}
end
end L2
namespace L2
open PySem PySem.Spec PyProof.Rows
section
variable {K:PySem.W.Frag} {EX:PX→Hp→Prop} {Γ Γ1 Γ2:List Md} {te tb:TE} {f fb:List PV→Rr PV}
end
end L2
namespace L2
open PySem PySem.Spec PyProof.Rows
section
variable {prog:Program} {w:World} {A:Around} {E:Value→Shared→Prop} {h:Heap} {g:Array GenState} {d:Drawn} {t:Nat} {os:OsState}
variable {nm q:Str} {C N:Addr} {bs bm bmB:List Value} {hdct:Bool} {sn:List Str} {sub:List Value} {ab:Bool} {col:Option Bool} {dd:Option Addr} {k0 k1 k2 k3 k5:Option Value} {B newId initId:String}
theorem tcall_init (F:ExcBaseFacts B newId initId bmB) (T:OwnTail h bmB bm) {mN:Str→Option Value} {us:List Value} {fI:Addr} {oI:Obj} {Q:PySem.Fin→Shared→Prop}
    (kC:h.get? C=some (excClassObj nm q C N bs bm hdct sn sub ab col dd k0 k1 k2 k3 k5 newId)) (kN:h.Ns N mN) (ki:mN "__init__"=some (.ref fI)) (kI:h.get? fI=some oI) (kc:oI.cls=.type "function")
    (go:∀ h' e,Heap.MadeExcOf h h' e (.ref C) us→wpAny (model prog w) A (call (.ref fI) (.ref e :: us)) (fun r s'=>r=.none∧Q (.done (.ret (.ref e))) s') E ⟨h',g,d,t,os⟩) (hz:us.length≤sizeLine) :
    wpAny (model prog w) A (Builtin.«type.__call__» ⟨.ref C :: us,[]⟩) Q E ⟨h,g,d,t,os⟩:=by
  repeat (first | with_reducible refine wpAny_loadPart_at kC ?_ | with_reducible refine wpAny_madeBy_exc kC ?_ | wp_step)
  refine codeAny_call_builtin_code (Code.quiet_builtin _ F.quiet) (wpAny_check_new_subT F T kC (codeAny_exc_new_subT F T kC ?_ hz))
  show wpAny _ _ _ _ _ _
  generalize eo1:({ cls:=.type "tuple",data:=.seq us.toArray }:Obj)=o1
  generalize eo2:({ cls:=.ref C,data:=.fields #[.ref h.objs.size,.none,.none,.none,.bool false,.none] }:Obj)=o2
  have up:∀ b o,h.get? b=some o→((h.push o1).push o2).get? b=some o:=fun b o e=>Heap.get?_push_of_some _ (Heap.get?_push_of_some _ e)
  have gC:=up _ _ kC
  have gI:=up _ _ kI
  have gN:((h.push o1).push o2).Ns N mN:=kN.keeps up
  have gT:=T.keeps up
  have ge:((h.push o1).push o2).get? (h.objs.size + 1)=some o2:=by subst eo1 eo2; heap_get
  have gm:(Value.ref C :: bm).contains (.ref C)=true:=by simp
  have c2:o2.cls=.ref C:=by subst eo2; rfl
  unfold isInstance
  repeat (first | (with_reducible refine wpAny_loadPart_at ge ?_; rw [c2]) | (with_reducible refine wpAny_isSubtype_exc gC ?_; rw [gm]) | wp_step)
  show wpAny _ _ (typeLookup (.ref C) _) _ _ _
  refine wpAny_typeLookup_tail gC gN gT F.mroIs F.init.lookup ?_
  rw [ki]
  refine wpAny_holding (wpAny_bind ?_)
  unfold bindSpecial
  refine wpAny_bind (wpAny_typeOf (T := "function") ⟨_,gI,kc⟩ ?_)
  rw [if_pos (by decide)]
  refine wpAny_pure (wpAny_bind (wpAny_mono (go _ (h.objs.size + 1) ⟨up,Heap.get?_none_of_le (Nat.le_succ _),h.objs.size,by rw [ge]; exact congrArg some eo2.symm,Heap.get?_none_of_le (Nat.le_refl _), ?_⟩) (fun r s' hr=>?_) fun _ _ x=>x))
  · rw [← eo1] at *
    exact Heap.get?_push_of_some _ (Heap.get?_push_at rfl rfl)
  · obtain ⟨rfl,hQ⟩:=hr
    wp_walk
    exact hQ
theorem ccall_init (F:ExcBaseFacts B newId initId bmB) (T:OwnTail h bmB bm) {mN:Str→Option Value} {us:List Value} {fI:Addr} {oI:Obj} {Q:Value→Shared→Prop}
    (kC:h.get? C=some (excClassObj nm q C N bs bm hdct sn sub ab col dd k0 k1 k2 k3 k5 newId)) (kN:h.Ns N mN) (ki:mN "__init__"=some (.ref fI)) (kI:h.get? fI=some oI) (kc:oI.cls=.type "function")
    (go:∀ h' e,Heap.MadeExcOf h h' e (.ref C) us→wpAny (model prog w) (A.under (.builtin "type.__call__" ⟨.ref C :: us,[]⟩)) (call (.ref fI) (.ref e :: us)) (fun r s'=>r=.none∧Q (.ref e) s') E ⟨h',g,d,t,os⟩) (hz:us.length≤sizeLine) :
    wpAny (model prog w) A (call (.ref C) us) Q E ⟨h,g,d,t,os⟩:=by
  have l1:=tc_lookup
  have l2:=tc_bind (.ref C)
  have lT:(⟨h,g,d,t,os⟩:Shared).TypeIs (.ref C) "type":=⟨_,kC,rfl⟩
  refine wpAny_call (codeAny_of_tree ?_)
  show wpAny _ _ (callAny (.ref C) _) _ _ _
  repeat (any_goals (first | assumption | with_reducible refine wpAny_loadPart_at kC ?_ | wp_step))
  exact ⟨rfl,codeAny_call_builtin_at (Code.quiet_builtin _ (by decide +kernel)) entry_typeCall (wpAny_check_type_call_sub kC (tcall_init F T kC kN ki kI kc (fun h' e hm=>go h' e hm) hz))⟩
end
section
variable {M:Model} {A:Around} {E:Value→Shared→Prop} {env:Env}
variable {nm q:Str} {C N:Addr} {bs bm:List Value} {hdct:Bool} {sn:List Str} {sub:List Value} {ab:Bool} {col:Option Bool} {dd:Option Addr} {k0 k1 k2 k3 k5:Option Value} {newId:String}
noncomputable def xObj (C t:Addr) (od:Option Addr):Obj:={ cls:=.ref C,dict:=od,data:=.fields #[.ref t,.none,.none,.none,.bool false,.none] }
theorem raise_made {s:Shared} {x:Sem Value} {Q:Flow→Shared→Prop} (hB:bm.contains (.type "BaseException")=true) (hh:A.handled=none)
    (go:wpAny M A x (fun v s₁=>∃ e t od,v=.ref e∧s₁.heap.get? C=some (excClassObj nm q C N bs bm hdct sn sub ab col dd k0 k1 k2 k3 k5 newId)∧s₁.heap.get? e=some (xObj C t od)∧E (.ref e) s₁) E s) :
    wpAny M A (raiseStmt env (some x) none) Q E s:=by
  have hm:(Value.ref C :: bm).contains (.type "BaseException")=true:=by rw [List.contains_cons,hB,Bool.or_true]
  unfold raiseStmt
  refine wpAny_bind (wpAny_mono go (fun v s₁ h₁=>?_) fun _ _ x=>x)
  obtain ⟨e,t,od,rfl,kC,ke,hE⟩:=h₁
  obtain ⟨hp,g,d,tk,os⟩:=s₁
  unfold xObj at ke
  repeat (first | with_reducible refine wpAny_loadPart_at ke ?_ | with_reducible refine wpAny_loadPart_at kC ?_ | (with_reducible refine wpAny_isSubtype_exc kC ?_; rw [hm]) | wp_step)
  exact wpAny_raiseNew_none hh hE
end
noncomputable def onlyVE:List Value→Bool
  | .ref _ :: r=>onlyVE r
  | l=>l == bmVE
theorem onlyVE_cases {l:List Value} (e:onlyVE l=true):(∃ C r,l=.ref C :: r∧onlyVE r=true) ∨ l=bmVE:=by
  unfold onlyVE at e
  split at e
  · exact .inl ⟨_,_,rfl,e⟩
  · exact .inr (by simpa using e)
theorem refuseVE (self:Value):∀ (n:Nat) {l:List Value},l.length≤n→onlyVE l=true→refuseLoop self "__setattr__" l=pure ()
  | n,l,hl,e=>by
    rcases onlyVE_cases e with ⟨C,r,rfl,e'⟩ | rfl
    · cases n with
      | zero=>simp at hl
      | succ n=>rw [refuseLoop_ref]; exact refuseVE self n (by simpa using hl) e'
    · exact PySem.F.store_ValueError.passes self
theorem hasVE:∀ (n:Nat) {l:List Value},l.length≤n→onlyVE l=true→l.contains (.type "object")=true∧l.isEmpty=false
  | n,l,hl,e=>by
    rcases onlyVE_cases e with ⟨C,r,rfl,e'⟩ | rfl
    · cases n with
      | zero=>simp at hl
      | succ n=>exact ⟨by rw [List.contains_cons,(hasVE n (by simpa using hl) e').1,Bool.or_true],rfl⟩
    · exact ⟨by decide,rfl⟩
noncomputable def veOver (K:PySem.W.Frag) (C:Addr):Bool:=(PySem.W.clsIn K C).any fun cd=>onlyVE cd.mro
section
variable {prog:Program} {w:World} {A:Around} {E:Value→Shared→Prop} {R:Result→Shared→Prop} {s:Shared} {K:PySem.W.Frag} {x C t:Addr}
theorem osa_openV {ox:Obj} {od:Option Obj} {name:Str} {tk:Tok} {v:Value} {r:Option Value} (X:K.In s.heap) (I:PySem.W.InstAt s.heap x ox C od) (hp:veOver K C=true) (ht:PySem.W.takerIn K C name=some r)
    (go:∀ b,wpAny (model prog w) A.in1 (match r with | some a=>Builtin.ObjectAttr.setByDescriptor a (.ref x) v | none=>Builtin.ObjectAttr.storeInOwnDict (.ref x) (.ref C) (.str name tk) name v b)
      (fun fin s'=>match fin with | .done f=>R (.ok f) s' | .again c'=>c'.quiet=true∧codeAny (model prog w) A c' R s') (fun e s'=>R (.error e) s') s) :
    codeAny (model prog w) A (.call (.builtin "object.__setattr__") ⟨[.ref x,.str name tk,v],[]⟩) R s:=by
  have SO:=PySem.F.store_object
  obtain ⟨cd,hc,ho⟩:=PySem.W.any_some hp
  obtain ⟨h1,h2⟩:=hasVE _ (Nat.le_refl _) ho
  have isO:PySem.W.Looks (model prog w) s.heap (isInstance (.ref x) (.type "object")) true:=I.type.andThen (PySem.W.looks_mroIn X (by unfold PySem.W.mroIn; rw [hc,Option.bind_some,if_neg (by rw [h2]; decide),h1]))
  refine codeAny_call_builtin SO.slot.plain SO.entry (@PySem.W.check_slot (model prog w) _ _ s "object.__setattr__" "object" "__setattr__" (.ref x) [.str name tk,v] [] _ SO.kind SO.split isO (SO.args (.ref x) (.str name tk) v) ?_)
  obtain ⟨attr,ha,hr⟩:=Option.bind_eq_some_iff.mp ht
  have lm:PySem.W.Looks (model prog w) s.heap (mroOf (.ref C)) cd.mro:=(PySem.W.looks_clsIn X hc).andThen .now
  have lt:PySem.W.Looks (model prog w) s.heap (Builtin.ObjectAttr.storeTaker? attr) r:=by
    cases attr with
    | none=>cases hr; exact .now
    | some a =>
      obtain ⟨b,hb,rfl⟩:=Option.map_eq_some_iff.mp hr
      refine (PySem.W.looks_takesIn X hb).andThen ?_
      cases b <;> exact .now
  rw [PySem.W.osa_eq,refuse_eq]
  refine wpAny_bind (wpAny_bind (I.type.here (wpAny_bind (lm.here ?_))))
  rw [refuseVE _ _ (Nat.le_refl _) ho]
  exact wpAny_pure (wpAny_bind (I.type.here (wpAny_bind ((PySem.W.looks_findIn X ha).here (wpAny_bind (lt.here (go _)))))))
theorem xset_map {name:Str} {v:Value} {Q:Unit→Shared→Prop} (X:K.In s.heap) (hx:s.heap.get? x=some (xObj C t none))
    (hs:PySem.W.findIn K (.ref C) "__setattr__"=some (some (.builtin "object.__setattr__"))) (hp:veOver K C=true) (ht:PySem.W.takerIn K C name=some none) (hh:PySem.W.hasDictIn K C=true)
    (go:∀ h' d tk,s.heap.objs.size≤d→h'.get? x=some (xObj C t (some d))→h'.Ns1 d (fun y=>if y=name then some v else none)→(∀ b o,b≠x→s.heap.get? b=some o→h'.get? b=some o)→Q () { s with heap:=h',toks:=tk }) :
    wpAny (model prog w) A (setAttr (.ref x) name v) Q E s:=by
  have J:PySem.W.InstAt s.heap x (xObj C t none) C none:=⟨hx,rfl,rfl,trivial⟩
  refine PySem.W.set_plain X J hs (osa_openV (s:={ s with toks:=s.toks + 1 }) (r:=none) X J hp ht fun b=>?_)
  obtain ⟨cd,hc,hd'⟩:=PySem.W.any_some hh
  have hx2:s.heap.get? x=some ⟨.ref C,none,.fields #[.ref t,.none,.none,.none,.bool false,.none],#[]⟩:=hx
  refine wpAny_bind (wpAny_pure (wpAny_bind (wpAny_bind (wpAny_loadPart hx2 (wpAny_bind (PySem.W.Looks.here (s:={ s with toks:=s.toks + 1 }) (PySem.W.looks_clsIn X hc) ?_))))))
  rw [hd']
  show wpAny _ _ (if (!true || !typeHasDict (.ref C))=true then _ else _) _ _ _
  rw [if_neg (by simp [typeHasDict])]
  dsimp only
  generalize eo:({ cls:=.type "dict",data:=.dict #[] }:Obj)=oD
  have hn:x≠s.heap.objs.size:=Nat.ne_of_lt (Heap.lt_size hx)
  have hx1:(s.heap.push oD).get? x=some (xObj C t none):=Heap.get?_push_of_some _ hx
  refine wpAny_bind (wpAny_alloc' (wpAny_bind (wpAny_update' hx1 (wpAny_pure ?_))))
  generalize eh:(s.heap.push oD).update x (fun o=>{ cls:=o.cls,dict:=some s.heap.objs.size,data:=o.data,slots:=o.slots })=h1
  have gx:h1.get? x=some (xObj C t (some s.heap.objs.size)):=by subst eh; exact Heap.get?_update_self _ hx1 rfl
  have gd:h1.get? s.heap.objs.size=some oD:=by subst eh; exact (Heap.get?_update_ne _ _ _ _ hn.symm).trans (Heap.get?_push_at rfl (by rw [← eo]; rfl))
  have gN:h1.Ns s.heap.objs.size (fun _=>none):=by subst eo; exact ⟨_,#[],_,gd,rfl,fun e he=>absurd he (by simp),fun _=>rfl⟩
  have gk:∀ b o,b≠x→s.heap.get? b=some o→h1.get? b=some o:=fun b o nb q=>by subst eh; exact (Heap.get?_update_ne _ _ _ _ nb).trans (Heap.get?_push_of_some _ q)
  show wpAny _ _ (Builtin.ObjectAttr.storeInDict s.heap.objs.size (.str name s.toks) name v) _ _ _
  unfold Builtin.ObjectAttr.storeInDict Builtin.ObjectAttr.newKeyGuard
  refine wpAny_bind (wpAny_pure (wpAny_bind (wpAny_nsSet1 (s:={ s with heap:=h1,toks:=s.toks + 1 }) (Heap.Ns1.of_empty gN) fun h' hn' hs'=>?_)))
  obtain ⟨oE,es,ep,hoE,hdE,hcE⟩:=hn'.count (Within.cons name v Within.nil)
  refine wpAny_bind (wpAny_lookBehind hoE (by rw [hdE]; exact pastItsLine_dict (Nat.le_trans hcE (by rw [List.length_cons,List.length_nil,sizeLine_eq]; omega))) ?_)
  exact wpAny_pure (go h' s.heap.objs.size _ (Nat.le_refl _) ((hs'.2 x hn).trans gx) hn' fun b o nb q=>(hs'.2 b (Nat.ne_of_lt (Heap.lt_size q))).trans (gk b o nb q))
end
end L2
namespace L2
open PySem PySem.Spec PyProof.Rows
noncomputable def excInA (K:PySem.W.Frag) (C f:Addr):Bool:=match K.lookup C with
  | some ⟨.type "type",_,.cls cd,sl⟩=>(match cd.mro,sl.toList with
    | .ref C2 :: bm,[_,_,_,_,some (.builtin n),_]=>C2 == C && n == "ValueError.__new__" && !cd.hasDel && PySem.W.tailIn K bmVE bm && PySem.W.nsOkIn K cd.ns && PySem.W.nsIn K cd.ns "__init__" == some (some (.ref f))
    | _,_=>false)
  | _=>false
theorem ns_ofA {K:PySem.W.Frag} {h:Heap} {N:Addr} {m:Str→Option Value} {n:Str} {v:Value} (X:K.In h) (G:h.Ns N m) (e:PySem.W.nsIn K N n=some (some v)):m n=some v:=by
  obtain ⟨o,es,ep,ho,hd,-,hf⟩:=G
  unfold PySem.W.nsIn at e
  split at e
  · rename_i q
    have ho2:=X _ _ q
    rw [ho] at ho2
    cases ho2; cases hd
    split at e
    · rename_i en hen
      cases e
      rw [← hf]; unfold nsFind findBy
      rw [← Array.find?_toList,hen]; rfl
    · split at e <;> cases e
  · cases e
theorem exc_objA {K:PySem.W.Frag} {h₀:Heap} {C f:Addr} (X:K.In h₀) (e:excInA K C f=true) :
    ∃ tl N nm qn bs hdct sn sub ab col dd k0 k1 k2 k3 k5 mN,h₀.get? C=some (excClassObj nm qn C N bs tl hdct sn sub ab col dd k0 k1 k2 k3 k5 "ValueError.__new__")∧h₀.Ns N mN∧mN "__init__"=some (.ref f)∧OwnTail h₀ bmVE tl:=by
  unfold excInA at e
  split at e
  · rename_i dd cd sl ho
    split at e
    · rename_i C2 bm k0 k1 k2 k3 n k5 hm hs
      simp only [Bool.and_eq_true,beq_iff_eq,Bool.not_eq_true'] at e
      obtain ⟨⟨⟨⟨⟨rfl,rfl⟩,hdel⟩,ht⟩,hok⟩,hni⟩:=e
      obtain ⟨nm,bs,mro,ns,qn,hd,sn,sub,ab,col,del⟩:=cd
      dsimp only at hm hdel hok hni
      subst hm hdel
      obtain rfl:sl=#[k0,k1,k2,k3,some (.builtin "ValueError.__new__"),k5]:=by
        obtain ⟨l⟩:=sl
        simp only at hs
        rw [hs]
      have N0:=Heap.Ns.of_isNs (PySem.W.isNs_of_in X hok)
      exact ⟨bm,ns,nm,qn,bs,hd,sn,sub,ab,col,dd,k0,k1,k2,k3,k5,_,X _ _ ho,N0,ns_ofA X N0 hni,PySem.W.tail_of_in X ht⟩
    · cases e
  · cases e
section
variable {prog:Program} {w:World} {A:Around} {E:Value→Shared→Prop} {s:Shared}
variable {nm q:Str} {C N x t:Addr} {bs bm:List Value} {hdct:Bool} {sn:List Str} {sub:List Value} {ab:Bool} {col:Option Bool} {dd:Option Addr} {k0 k1 k2 k3 k5:Option Value}
theorem init_call {us:List Value} {Q:Value→Shared→Prop} (T:OwnTail s.heap bmVE bm) (kC:s.heap.get? C=some (excClassObj nm q C N bs bm hdct sn sub ab col dd k0 k1 k2 k3 k5 "ValueError.__new__"))
    (hx:s.heap.get? x=some (xObj C t none)) (hz:us.length≤sizeLine)
    (go:∀ h' t',h'.get? x=some (xObj C t' none)→(∀ b o,b≠x→s.heap.get? b=some o→h'.get? b=some o)→Q .none { s with heap:=h' }) :
    wpAny (model prog w) A (call (.builtin "ValueError.__init__") (.ref x :: us)) Q E s:=by
  have F:=PySem.F.excBase_ValueError
  obtain ⟨h,g,d,tk,os⟩:=s
  have hx2:h.get? x=some { cls:=.ref C,data:=.fields #[.ref t,.none,.none,.none,.bool false,.none] }:=hx
  refine wpAny_call (codeAny_call_builtin F.init.plain F.initEntry (wpAny_check_init_subT F T kC hx2 rfl ?_))
  wp_walk
  have nx:x≠h.objs.size:=Nat.ne_of_lt (Heap.lt_size hx2)
  exact go _ h.objs.size (Heap.get?_update_self _ (Heap.get?_push_of_some _ hx2) rfl) fun b o nb e=>(Heap.get?_update_ne _ _ _ _ nb).trans (Heap.get?_push_of_some _ e)
end
noncomputable def MadeX (C e:Addr):Heap→Prop:=fun h=>∃ t,h.get? e=some (xObj C t none)
noncomputable def DictX (C e d:Addr):Heap→Prop:=fun h=>∃ t,h.get? e=some (xObj C t (some d))
theorem okMade {P:Program} {w:World} {H:Hp} {h:Heap} {C e t:Addr} (q:h.get? e=some (xObj C t none)):ObjOk P w H h e (.ext (MadeX C e)) :=
  ⟨⟨t,q⟩,⟨_,q⟩,fun h1 h2 ⟨t',e'⟩ k=>⟨t',k _ e'⟩⟩
theorem okDict {P:Program} {w:World} {H:Hp} {h:Heap} {C e d t:Addr} (q:h.get? e=some (xObj C t (some d))):ObjOk P w H h e (.ext (DictX C e d)) :=
  ⟨⟨t,q⟩,⟨_,q⟩,fun h1 h2 ⟨t',e'⟩ k=>⟨t',k _ e'⟩⟩
noncomputable def initOf (K:PySem.W.Frag) (S:Addr):Bool:=(PySem.W.specialIn K (.ref S) "__getattribute__" == some (some (.builtin "type.__getattribute__"))) && PySem.W.readsIn K S (.type "type") &&
  (match PySem.W.findCls K (.ref S) (.type "type") "__init__" with | some (.val v)=>v == .builtin "ValueError.__init__" | _=>false)
theorem initOf_get {K:PySem.W.Frag} {S:Addr} (h:initOf K S=true):PySem.W.specialIn K (.ref S) "__getattribute__"=some (some (.builtin "type.__getattribute__"))∧PySem.W.readsIn K S (.type "type")=true∧PySem.W.findCls K (.ref S) (.type "type") "__init__"=some (.val (.builtin "ValueError.__init__")):=by
  unfold initOf at h
  simp only [Bool.and_eq_true,beq_iff_eq] at h
  refine ⟨h.1.1,h.1.2, ?_⟩
  have h2:=h.2
  split at h2
  · rename_i v e
    rw [e,beq_iff_eq.mp h2]
  · cases h2
theorem upd_id {H:Hp} {a:Addr} {o:HO} (h:H a=some o):upd H a o=H:=by
  funext b
  unfold upd
  by_cases z:b=a
  · rw [if_pos z,z,h]
  · rw [if_neg z]
noncomputable def tXInit (C:Addr) (ta:TA):TE:=fun σ H Q=>ta σ H fun vs H1=>∃ e w,vs=[.ref e,.str w]∧H1 e=some (.ext (MadeX C e))∧Q .non H1
section
variable {X:Cx} {pl:Sem Bool} {x:Str} {S C f:Addr} {np apos pos:Pos} {e:Expr} {es:List Expr} {ta:TA}
theorem pe_xinit (hq:excInA X.K C f=true) (hS:initOf X.K S=true) (hg:Gl X x) (hm:X.mg x=some (.ref S)) (ha:PA X (e :: es) ta) (hdb:(x == ("__debug__":Str))=false:=by decide)
    (ht:eval (.Call (.Attribute (.Name x np) "__init__" apos) (e :: es) [] pos) X.env=(do
      let ov ← eval (.Name x np) X.env
      standAt apos.atName
      let (f,first) ← holding [ov] (getMethod ov "__init__" pl)
      callWith pos f first (backTo pos (starEach (e :: es) X.env)) (backToKw pos (keywordEach [] X.env))):=by rfl)
    (he:starEach (e :: es) X.env=(false,eval e X.env) :: starEach es X.env:=by rfl) (hpl:(backTo pos (starEach es X.env)).any (·.1)=false:=by rfl) :
    PE X (.Call (.Attribute (.Name x np) "__init__" apos) (e :: es) [] pos) (tXInit C ta):=by
  intro pins s σ H Q I h
  obtain ⟨g1,g2,g3⟩:=initOf_get hS
  refine PySem.W.methodCall_KW (pl:=pl) (ld_glob I hg hm ?_ hdb) ht
  refine PySem.W.method_cls I.kIn g1 (PySem.W.cls_value I.kIn g2 g3 rfl ?_)
  have I0:Inv X pins σ H { s with toks:=s.toks + 1 }:=I.tok _
  refine PyProof.Rows.callWith_builtin1 (thn (ha pos pins _ σ H _ I0 h) fun us s1 ⟨vs,H1,I1,r,ex,wd,hv,hx,q⟩=>?_) he hpl
  subst hv
  obtain ⟨t,ht'⟩:=(I1.hok _ _ hx).1
  obtain ⟨tl,N,nm,qn,bs,hdct,sn,sub,ab,col,dd,k0,k1,k2,k3,k5,mN,hC,hN,hni,T⟩:=exc_objA I1.kIn hq
  cases r with
  | cons r1 rr =>
    cases rr with
    | cons r2 rr =>
      cases rr
      obtain rfl:_=Value.ref ex:=r1
      refine init_call T hC ht' (by simp [sizeLine_eq]) fun h' t' e1 k=>⟨.non,H1, ?_,rfl,q⟩
      have J:=I1.write (x:=ex) (e:=ex) (o:=.ext (MadeX C ex)) (h':=h') (t':=s1.toks) (by rw [hx]; exact True.intro) (.inl rfl) (fun b u nb z=>k b u nb z) ⟨_,e1⟩ (okMade e1)
      rw [upd_id hx] at J
      exact J
theorem Inv.trackO {pins:List (Addr × Obj)} {σ:St} {H:Hp} {s:Shared} {d:Addr} {o:HO} (I:Inv X pins σ H s) (hn:H d=none) (hL:d≠X.env.locals) (hC:∀ x c,X.env.cells.lookup x=some c→c≠d) (hp:∀ p∈X.pn ++ pins,p.1≠d) (h0:X.s₀.heap.get? d=none)
    (ho:ObjOk X.prog X.w (upd H d o) s.heap d o):Inv X pins σ (upd H d o) s:=by
  refine ⟨I.ok,I.os,I.bare,⟨I.base.keep,I.base.slot,fun b u z n hx=>?_,I.base.there,fun b xs z=>?_,fun b u v z=>?_,fun b ps z=>?_⟩,I.loc,I.cell, ?_,fun x c z=>?_,fun p hq=>?_,fun b u z=>?_,I.len⟩
  · rw [upd_ne (fun y=>by rw [y,h0] at z; cases z)]; exact I.base.free b u z n hx
  · have y:=I.base.tups b xs z
    rw [upd_ne (ne_of_none y hn)]; exact y
  · have y:=I.base.frzs b u v z
    rw [upd_ne (ne_of_none y hn)]; exact y
  · obtain ⟨m,y⟩:=I.base.tbls b ps z
    exact ⟨m,by rw [upd_ne (ne_of_none y hn)]; exact y⟩
  · rw [upd_ne (Ne.symm hL)]; exact I.free
  · rw [upd_ne (hC x c z)]; exact I.freeC x c z
  · obtain ⟨a,b,c,d',e⟩:=I.pin p hq
    exact ⟨a,by rw [upd_ne (hp p hq)]; exact b,c,d',e⟩
  · by_cases hb:b=d
    · subst hb
      rw [upd_same] at z; cases z
      exact ho
    · rw [upd_ne hb] at z
      exact (I.hok b u z).stay (fun c v _ y=>y) (fun c y=>by rw [upd_ne (ne_of_none y hn)]; exact y) fun c xs y=>by rw [upd_ne (ne_of_none y hn)]; exact y
noncomputable def setOf (K:PySem.W.Frag) (C:Addr) (f:Str):Bool:=(PySem.W.findIn K (.ref C) "__setattr__" == some (some (.builtin "object.__setattr__"))) && veOver K C && (PySem.W.takerIn K C f == some none) && PySem.W.hasDictIn K C
noncomputable def sXSet (C:Addr) (f:Str) (ta tv:TE):TS:=fun D σ H=>tv σ H fun y H1=>ta σ H1 fun x H2=>∃ e,x=.ref e∧H2 e=some (.ext (MadeX C e))∧∀ d,H2 d=none→d≠e→D.nx σ (upd (upd H2 d (.xd [(f,y)])) e (.ext (DictX C e d)))
theorem ps_xset {fd:Str} {o value:Expr} {pos':Pos} {ta tv:TE} (hex:X.ex=[]) (hc:setOf X.K C fd=true) (ha:PE X o ta) (hv:PE X value tv) (hs:swapsWith value (some (.Attribute o fd pos')) pos.line X.env=pure false:=by rfl):PS X (.Assign [.Attribute o fd pos'] value pos) (sXSet C fd ta tv):=by
  intro pins s σ H D I h
  simp only [setOf,Bool.and_eq_true,beq_iff_eq] at hc
  obtain ⟨⟨⟨c1,c2⟩,c3⟩,c4⟩:=hc
  refine plainObj_wpAny_Assign_Attribute (thn (hv pins s σ H _ I h) fun u s1 ⟨y,H1,I1,ry,q⟩=>thn (ha pins s1 σ H1 _ I1 q) fun ov s2 ⟨x,H2,I2,rx,e,ex,hx,q2⟩=>?_) hs
  subst ex
  obtain rfl:ov=Value.ref e:=rx
  obtain ⟨t,ht⟩:=(I2.hok _ _ hx).1
  refine xset_map I2.kIn ht c1 c2 c3 c4 fun h' d tk hd e1 n1 k=>?_
  have dn:H2 d=none:=I2.hok.fresh hd
  have ne:d≠e:=fun z=>by rw [z,hx] at dn; cases dn
  refine ⟨σ,_, ?_,q2 d dn ne⟩
  have J:=I2.write (x:=e) (e:=e) (o:=.ext (DictX C e d)) (h':=h') (t':=tk) (by rw [hx]; exact True.intro) (.inl rfl) (fun b u nb z=>k b u nb z) ⟨_,e1⟩ (okDict e1)
  have out:∀ b o,s2.heap.get? b=some o→b≠d:=fun b o z y=>by
    have:=Heap.lt_size z
    rw [y] at this
    exact absurd hd (Nat.not_le.mpr this)
  have J2:=J.trackO (d:=d) (o:=.xd [(fd,y)]) (by rw [upd_ne ne]; exact dn) (fun z=>by obtain ⟨m,⟨o,_,_,ho,_⟩,_⟩:=I2.loc; exact out _ _ ho z.symm) (fun x c z=>by obtain ⟨v,o,ho,_⟩:=I2.cell x c z; exact out _ _ ho)
    (fun p hp=>out _ _ (I2.pin p hp).1) (by
      cases z:X.s₀.heap.get? d with
      | none=>rfl
      | some o=>obtain ⟨o',z'⟩:=I2.base.there d o z (by rw [hex]; simp); exact absurd rfl (out _ _ z')) ⟨_,n1,fun g=>by
        show RelO ([(fd,y)].lookup g) (if g=fd then some u else none)
        by_cases z:g=fd
        · have hb:(g == fd)=true:=beq_iff_eq.mpr z
          simp only [List.lookup,hb,if_pos z]; exact ry
        · have hb:(g == fd)=false:=beq_eq_false_iff_ne.mpr z
          simp only [List.lookup,hb,if_neg z]; exact trivial⟩
  rw [show upd (upd H2 d (.xd [(fd,y)])) e (.ext (DictX C e d))=upd (upd H2 e (.ext (DictX C e d))) d (.xd [(fd,y)]) by
    funext b; unfold upd
    by_cases z1:b=d
    · subst z1; rw [if_neg ne,if_pos rfl,if_pos rfl]
    · rw [if_neg z1,if_neg z1]]
  exact J2
end
end L2
namespace L2
open PySem PySem.Spec PyProof.Rows
noncomputable def spInit (C:Addr):Sp:=fun vs H Q _=>∃ e wd i,vs=[.ref e,.str wd,i]∧H e=some (.ext (MadeX C e))∧∀ d,H d=none→d≠e→Q .non (upd (upd H d (.xd [("at",i)])) e (.ext (DictX C e d)))
section
variable {P:Program} {w:World} {K:PySem.W.Frag} {mg:Str→Option Value} {base:Heap}
theorem fn_init {qual:Str} {st:Stmt} {f C:Addr} {fd:FuncData} {k:Nat} (F:Fun K "__init__" qual st f fd) (S:FnScope ["self", "words", "at"] ["self", "words", "at"] (defScope st))
    (hbody:∀ (cdv:Value) (A:Around) (outer:List Env) (s:Shared) (H:Hp) (E:XK),Room k (A.deeper (envOfC qual (defScope st) s.heap.objs.size f cdv)) →
      PSs (cxOf CX0 P w K mg base ["self", "words", "at"] qual (defScope st) f cdv A outer s H E).nox (defBody st) (tSeq (tDrop (tXInit C (tCons (tVar 0) (tCons (tVar 1) tNil)))) (sXSet C "at" (tVar 0) (tVar 2)))) :
    FnOk P w K mg base CX0 (k + 1) f fd ["self", "words", "at"] (spInit C):=by
  refine F.ok S (fun vs H Q E ⟨e,wd,i,h,_⟩=>by rw [h]; rfl) fun cdv A outer s H vs Q E hr ⟨e,wd,i,hv,hx,q⟩=>⟨_,hbody cdv A outer s H E hr, ?_⟩
  subst hv
  refine ⟨.ref e,rfl,.str wd,rfl,e,wd,rfl,hx,i,rfl,.ref e,rfl,e,rfl,hx,fun d dn ne=>q d dn ne⟩
end
noncomputable def tRaiseA (C:Addr) (E:St→XK) (ta:TA):TS:=fun D σ H=>ta σ H fun vs H1=>∃ wd i,vs=[.str wd,i]∧∀ ea d,H1 ea=none→H1 d=none→d≠ea→E σ (.ref C) (some d) (upd H1 d (.xd [("at",i)]))
noncomputable def MadeD (X:Cx) (E:St→XK):Prop:=∀ (pins:List (Addr × Obj)) (σ:St) (H:Hp) (s:Shared) (ea C t d:Addr) (fs:List (Str × V)),Inv X pins σ H s→H ea=none→H d=some (.xd fs)→s.heap.get? ea=some (xObj C t (some d))→X.s₀.heap.get? ea=none →
  E σ (.ref C) (some d) H→X.xe (.ref ea) s
section
variable {P:Program} {w:World} {K:PySem.W.Frag} {mg:Str→Option Value} {base:Heap} {N:List Str} {qual:Str} {scope:Scope} {f:Addr} {cd:Value} {A:Around} {outer:List Env} {s:Shared} {H:Hp} {E:XK}
theorem madeD_cx:MadeD (cxOf (CX1 P w) P w K mg base N qual scope f cd A outer s H E) (fun _=>E):=fun pins σ H1 s1 ea C t d fs I new hd he h0 hE=>by
  have hin:∀ env∈(cxOf (CX1 P w) P w K mg base N qual scope f cd A outer s H E).stack,∀ b,env.frame=some b→b∈ea :: frs (cxOf (CX1 P w) P w K mg base N qual scope f cd A outer s H E).stack:=fun env he b hb=>List.mem_cons_of_mem _ (List.mem_filterMap.mpr ⟨env,he,hb⟩)
  have trk:∀ b u,H1 b=some u→b ∉ ea :: frs (cxOf (CX1 P w) P w K mg base N qual scope f cd A outer s H E).stack:=fun b u e z=>by
    rcases List.mem_cons.mp z with z | z
    · rw [z,new] at e; cases e
    · rw [I.stkFree b z] at e; cases e
  have st:(PySem.W.hideAll s1.heap (ea :: frs (cxOf (CX1 P w) P w K mg base N qual scope f cd A outer s H E).stack)).StaysIn s1.heap:=fun b o q=>PySem.W.of_hideAll _ q
  have he0:(PySem.W.hideAll s1.heap (ea :: frs (cxOf (CX1 P w) P w K mg base N qual scope f cd A outer s H E).stack)).get? ea=none:=PySem.W.hideAll_none _ (List.mem_cons_self ..)
  refine wpAny_mono (kd_any (kd_leaving _ _) (wpAny_leaving_firstW (Q:=fun _ s''=>∃ h'',s''={ s1 with heap:=h'' }∧Heap.FlyingW (PySem.W.hideAll s1.heap (ea :: frs (cxOf (CX1 P w) P w K mg base N qual scope f cd A outer s H E).stack)) outer ea (.ref C) (.ref t) h''∧s1.heap.UpToSlots h'')
    (a0:=.ref t) (s:=s1) I.ok.frames (PySem.W.funFrames_hide I.stack hin) rfl he st he0 rfl rfl rfl fun h'' hL=>?_)) (fun _ s'' q=>?_) fun _ _ q=>q.1
  · obtain ⟨k1,⟨_,_,k2⟩,k3,k4⟩:=hL
    exact ⟨h'',rfl,⟨k1,he0,k2,k3⟩,k4⟩
  · obtain ⟨⟨h'',rfl,fl,up⟩,dk⟩:=q
    refine ⟨ea,d,.ref C,H1,rfl,fly_out (g:=s1.heap) (t:=t) (s':=s1) I rfl I.bare (Un.kept fun _ _ e=>e) (I.hok.kept fun _ _ e=>e) up fl st (fun b u e o q=>PySem.W.hideAll_get _ q (trk b u e)) (fun b o q n=>?_) new ⟨_,he,.inr ⟨rfl,fs,hd⟩⟩ dk,hE⟩
    obtain ⟨o1,e1⟩:=(show Un (frs outer) [] H H1 s.heap s1.heap from I.base).there b o q (by simp)
    exact ⟨o1,PySem.W.hideAll_get _ e1 fun z=>by
      rcases List.mem_cons.mp z with z | z
      · have h0:s.heap.get? ea=none:=h0
        rw [z,h0] at q; cases q
      · exact n z⟩
end
section
variable {X:Cx}
theorem Inv.untrack {pins:List (Addr × Obj)} {σ:St} {H H':Hp} {s:Shared} {a:Addr} {φ:Heap→Prop} (I:Inv X pins σ H s) (ha:H a=some (.ext φ)) (h1:∀ b,b≠a→H' b=H b) (h2:H' a=none):Inv X pins σ H' s:=by
  have nn:∀ {b o},H b=some o→(∀ ψ,o≠.ext ψ)→H' b=some o:=fun {b o} e n=>by
    rw [h1 b (fun z=>by rw [z,ha] at e; cases e; exact n _ rfl)]; exact e
  have no:∀ {b},H b=none→H' b=none:=fun {b} e=>by
    by_cases z:b=a
    · rw [z]; exact h2
    · rw [h1 b z]; exact e
  refine ⟨I.ok,I.os,I.bare,⟨I.base.keep,I.base.slot,fun b u z n hx=>no (I.base.free b u z n hx),I.base.there,fun b xs z=>nn (I.base.tups b xs z) (by simp),fun b u v z=>nn (I.base.frzs b u v z) (by simp),fun b ps z=>?_⟩,I.loc,I.cell,no I.free,fun x c z=>no (I.freeC x c z),fun p hq=>?_,fun b u z=>?_,I.len⟩
  · obtain ⟨m,y⟩:=I.base.tbls b ps z
    exact ⟨m,nn y (by simp)⟩
  · obtain ⟨a1,b1,c1,d1,e1⟩:=I.pin p hq
    exact ⟨a1,no b1,c1,d1,e1⟩
  · have hb:b≠a:=fun y=>by rw [y,h2] at z; cases z
    rw [h1 b hb] at z
    exact (I.hok b u z).stay (fun c v _ y=>y) (fun c y=>nn y (by simp)) fun c xs y=>nn y (by simp)
end
section
variable {X:Cx} {E:St→XK} {x:Str} {C fI:Addr} {fd:FuncData} {k:Nat} {np cpos pos:Pos} {e:Expr} {es:List Expr} {ta:TA} {oI:Obj}
theorem ps_raiseA (hM:MadeD X E) (hq:excInA X.K C fI=true) (hkp:PySem.W.keepIn X.K (.ref C)=true) (hf:X.K.lookup fI=some oI) (hfc:oI.cls=.type "function") (hg:Gl X x) (hm:X.mg x=some (.ref C)) (hc:X.calm=true) (hex:X.ex=[])
    (F:FnOk X.prog X.w X.K X.mg X.base CX0 k fI fd ["self", "words", "at"] (spInit C)) (hr:Room (k + 1) X.A) (hb:Binds X.K fd ["self", "words", "at"] []) (ha:PA X (e :: es) ta) (hdb:(x == ("__debug__":Str))=false:=by decide)
    (he:starEach (e :: es) X.env=(false,eval e X.env) :: starEach es X.env:=by rfl) (hpl:(backTo cpos (starEach es X.env)).any (·.1)=false:=by rfl) :
    PS X (.Raise (some (.Call (.Name x np) (e :: es) [] cpos)) none pos) (tRaiseA C E ta):=by
  intro pins s σ H D I h
  obtain ⟨tl,N,nm,q,bs,hdct,sn,sub,ab,col,dd,k0,k1,k2,k3,k5,mN,hC,hN,hni,T⟩:=exc_objA I.ok.mod.kin hq
  have hB:=T.hasType PySem.F.excBase_ValueError.hasBase
  rw [arm_exec_Raise]
  simp only [evalOpt,Option.map]
  refine wpAny_bind (wpAny_standAt (raise_made (C:=C) (nm:=nm) (q:=q) (N:=N) (bs:=bs) (bm:=tl) (hdct:=hdct) (sn:=sn) (sub:=sub) (ab:=ab) (col:=col) (dd:=dd) (k0:=k0) (k1:=k1) (k2:=k2) (k3:=k3) (k5:=k5) (newId := "ValueError.__new__") hB (I.ok.hd hc) ?_))
  refine wpAny_bind (wpAny_mono (Q:=fun v s₁=>∃ e t od,v=Value.ref e∧s₁.heap.get? C=some (excClassObj nm q C N bs tl hdct sn sub ab col dd k0 k1 k2 k3 k5 "ValueError.__new__")∧s₁.heap.get? e=some (xObj C t od)∧X.xe (Value.ref e) s₁) ?_ (fun v s₃ h₃=>wpAny_bind (wpAny_standAt (wpAny_pure h₃))) fun _ _ z=>z)
  refine wpAny_Call_Name_kw (ld_glob I hg hm ?_ hdb)
  refine PySem.W.callWith_K (h₀:=X.base) I.ok.mod.kin hkp (thn (ha cpos pins s σ H _ I h) fun us s1 ⟨vs,H1,I1,r,wd,i,hv,hE⟩=>⟨I1.kIn, ?_⟩) he hpl
  subst hv
  obtain ⟨hp,g,d0,tk,os⟩:=s1
  refine ccall_init PySem.F.excBase_ValueError (T.keeps I1.bk) (I1.bk _ _ hC) (hN.keeps I1.bk) hni (I1.kIn _ _ hf) hfc (fun h' ea hx=>?_) (by show us.length≤_; rw [← r.length]; simp [sizeLine_eq])
  have I2:Inv X pins σ H1 ⟨h',g,d0,tk,os⟩:=I1.kept (t':=tk) hx.keeps
  have out:∀ b o,hp.get? b=some o→b≠ea:=fun b o z y=>by rw [y,hx.new] at z; cases z
  have nw:H1 ea=none:=by
    cases z:H1 ea with
    | none=>rfl
    | some u=>obtain ⟨o,z2⟩:=(I1.hok ea u z).there; exact absurd rfl (out _ _ z2)
  obtain ⟨t,ht,-,-⟩:=hx.there
  have ht2:h'.get? ea=some (xObj C t none):=ht
  have s0:X.s₀.heap.get? ea=none:=by
    cases z:X.s₀.heap.get? ea with
    | none=>rfl
    | some o=>obtain ⟨o',z'⟩:=I1.base.there ea o z (by rw [hex]; simp); exact absurd rfl (out _ _ z')
  have I3:=I2.trackO (d:=ea) (o:=.ext (MadeX C ea)) nw (fun z=>by obtain ⟨m,⟨o,_,_,ho,_⟩,_⟩:=I1.loc; exact out _ _ ho z.symm) (fun x c z=>by obtain ⟨v,o,ho,_⟩:=I1.cell x c z; exact out _ _ ho) (fun p hp=>out _ _ (I1.pin p hp).1) s0 (okMade ht2)
  have hbb:=hb ⟨h',g,d0,tk,os⟩ (.ref ea :: us) I3.kIn (by simp [← r.length])
  rw [List.append_nil] at hbb
  refine wpAny_call (codeAny_mono (F.run _ X.stack _ _ ⟨.ref ea :: us,[]⟩ (.ref ea :: us) (.ref ea :: [.str wd,i]) (fun v H'=>v=.non∧∃ d,H1 d=none∧d≠ea∧H'=upd (upd (upd H1 ea (.ext (MadeX C ea))) d (.xd [("at",i)])) ea (.ext (DictX C ea d))) (fun _ _ _=>False)
    (hr.make C us []) (I3.env0.make C us []) hbb (.cons rfl r) ⟨ea,wd,i,rfl,upd_same,fun d dn ne=>⟨rfl,d,by rw [upd_ne ne] at dn; exact dn,ne,rfl⟩⟩) fun r' s' hq'=>?_)
  cases r' with
  | error e=>exact False.elim hq'
  | ok fl =>
    cases fl with
    | ret u =>
      obtain ⟨v,H',I4,rv,rfl,d,dn,ne,rfl⟩:=I3.after hq'
      obtain ⟨t',e'⟩:=(I4.hok ea _ upd_same).1
      refine ⟨rv,ea,t',some d,rfl,I4.bk _ _ hC,e', ?_⟩
      refine hM pins σ (upd H1 d (.xd [("at",i)])) s' ea C t' d _ (I4.untrack upd_same (fun b nb=>?_) ?_) ?_ upd_same e' s0 (hE ea d nw dn ne)
      · unfold upd
        rw [if_neg nb,if_neg nb]
      · rw [upd_ne (Ne.symm ne)]; exact nw
      · rw [upd_ne (Ne.symm ne)]; exact nw
    | next=>exact False.elim hq'
    | brk=>exact False.elim hq'
    | cont=>exact False.elim hq'
end
noncomputable def raiseP (x:Str) (xs:List PV):RS:=match xs with
  | [.str _,.int i]=>.exc (x,.int i)
  | _=>.bad
section
variable {K:PySem.W.Frag} {E:XK} {Γ Γ':List Md} {ta:TA} {fa:List PV→Rr (List PV)}
theorem ds_raiseA {C:Addr} {x:Str} {Y:Tys} (hC:XCls K x C) (ha:DAA K (EX1 K E) Γ Γ' ta fa):DS K (EX1 K E) Γ Y (tRaiseA C (fun _=>E) ta) (fun ρ=>(fa ρ).thenS (raiseP x)):=fun B H0 H σ ρ F D A d=>by
  refine ha B H0 H σ ρ F [] _ A (d.thenS.imp (fun xs hx d vs H1 F1 s1 f1 p1 A1=>?_) fun e q=>q)
  unfold raiseP at d
  split at d
  · rename_i wd i
    obtain ⟨v,v2,rfl,h1,h2⟩:=reps2 p1
    cases h1; cases h2
    exact ⟨wd,.int i,rfl,fun ea k hea hk ne=>d (upd H1 k (.xd [("at",.int i)])) (A1.same.trans (Same.newO hk)) C k hC ⟨_,upd_same,rfl⟩⟩
  · exact d.elim
end
end L2
namespace L2
open PySem PySem.Spec PyProof.Rows
noncomputable def XIni (K:PySem.W.Frag) (n sup qual:Str) (st:Stmt):Prop:=∃ C f fd S,XCls K n C∧excInA K C f=true∧PySem.W.keepIn K (.ref C)=true∧setOf K C "at"=true∧PySem.W.typeIn K (.ref f)=some (.type "function")∧Fun K "__init__" qual st f fd∧XCls K sup S∧initOf K S=true
noncomputable def initAt (K:PySem.W.Frag) (C:Addr):Option Addr:=match PySem.W.findIn K (.ref C) "__init__" with
  | some (some (.ref f))=>some f
  | _=>none
noncomputable def iniTab (K:PySem.W.Frag) (n sup:Str):Bool:=match PySem.W.nsIn K mainGlobals n,PySem.W.nsIn K mainGlobals sup with
  | some (some (.ref C)),some (some (.ref S))=>(match initAt K C with | some f=>excInA K C f | none=>false) && setOf K C "at" && initOf K S
  | _,_=>false
theorem xini_mk2 {K:PySem.W.Frag} {n sup qual:Str} {st:Stmt} {C f S:Addr} {fd:FuncData} (h1:PySem.W.nsIn K mainGlobals n=some (some (.ref C))) (h2:PySem.W.findIn K (.ref C) "__init__"=some (some (.ref f))) (h3:PySem.W.keepIn K (.ref C)=true) (h5:PySem.W.typeIn K (.ref f)=some (.type "function")) (h6:Fun K "__init__" qual st f fd)
    (h7:PySem.W.nsIn K mainGlobals sup=some (some (.ref S))) (h8:iniTab K n sup=true):XIni K n sup qual st:=by
  unfold iniTab at h8
  simp only [h1,h7,initAt,h2,Bool.and_eq_true] at h8
  exact ⟨C,f,fd,S,h1,h8.1.1,h3,h8.1.2,h5,h6,h7,h8.2⟩
noncomputable def IniOk (P:Program) (w:World) (K:PySem.W.Frag) (mg:Str→Option Value) (base:Heap) (k:Nat) (n:Str):Prop :=
  ∃ C f fd oI,XCls K n C∧excInA K C f=true∧PySem.W.keepIn K (.ref C)=true∧K.lookup f=some oI∧oI.cls=.type "function"∧FnOk P w K mg base CX0 k f fd ["self", "words", "at"] (spInit C)∧Binds K fd ["self", "words", "at"] []
section
variable {P:Program} {w:World} {K:PySem.W.Frag} {mg:Str→Option Value} {base:Heap}
theorem typeIn_look {f:Addr} {t:Value} (h:PySem.W.typeIn K (.ref f)=some t):∃ o,K.lookup f=some o∧o.cls=t:=by
  simpa [PySem.W.typeIn,Option.map_eq_some_iff] using h
end
@[simp] theorem raiseP_ok {x wd:Str} {i:Int}:raiseP x [.str wd,.int i]=.exc (x,.int i):=rfl
theorem tryX_inA {L:List Str} {i:Nat} {gh:List PV→RS} {ρ:List PV} {n:Str} {j:Int} (h:n∈L):tryX L i gh ρ (.exc (n,.int j))=gh (ρ.set i (.exa n j)):=by rw [tryX_exa,if_pos h]
theorem forR_exc' {b:PV→List PV→RS} {xs:List PV} {ρ:List PV} {W:RS} (hw:forR b xs ρ=W) (n:Nat) (I:Nat→List PV→Prop) (h0:I 0 ρ) (h:∀ i x ρ,i < n→xs[i]?=some x→I i ρ→(b x ρ).good (I (i + 1)))
    (hn:n < xs.length) {v:PX} (hr:∀ x ρ,xs[n]?=some x→I n ρ→b x ρ=.exc v):W=.exc v:=by
  subst hw
  have key:∀ m i ρ,n=i + m→I i ρ→forR b (xs.drop i) ρ=.exc v:=by
    intro m
    induction m with
    | zero =>
      intro i ρ hl hI
      have hi:i < xs.length:=by omega
      rw [List.drop_eq_getElem_cons hi]
      obtain rfl:n=i:=by omega
      simp only [forR,hr _ ρ (List.getElem?_eq_getElem hi) hI]
      rfl
    | succ m ih =>
      intro i ρ hl hI
      have hi:i < xs.length:=by omega
      rw [List.drop_eq_getElem_cons hi]
      obtain ⟨ρ',h1,h2⟩:=RS.good_ex (h i _ ρ (by omega) (List.getElem?_eq_getElem hi) hI)
      simp only [forR]
      rcases h1 with h1 | h1 <;> (rw [h1]; exact ih (i + 1) ρ' (by omega) h2)
  exact key n 0 ρ (by omega) h0
noncomputable def atOne (K:PySem.W.Frag) (n:Str):Bool:=match PySem.W.nsIn K mainGlobals n with
  | some (some (.ref C))=>PySem.W.exOk K C && PySem.W.hasDictIn K C && (PySem.W.findIn K (.ref C) "at" == some none)
  | _=>false
noncomputable def tAt (K:PySem.W.Frag) (L:List Str) (ta:TE):TE:=fun σ H Q=>ta σ H fun v H1=>∃ n i,n∈L∧ExaAt K H1 n i v∧Q (.int i) H1
theorem pe_at {X:Cx} {L:List Str} {e:Expr} {ta:TE} {pos:Pos} (hL:(L.all (atOne X.K))=true) (he:PE X e ta) (hb:attributeBase e "at" X.env (eval e X.env)=eval e X.env:=by rfl):PE X (.Attribute e "at" pos) (tAt X.K L ta):=by
  intro pins s σ H Q I h
  refine attr_of hb (thn (he pins s σ H _ I h) fun u s1 ⟨x,H1,I1,rx,n,i,hn,⟨a,o,C,d,fs,ex,h1,h1d,h2,h3,h4,h5,hfs⟩,q⟩=>?_)
  subst ex hfs
  obtain rfl:u=Value.ref a:=rx
  have hC:=List.all_eq_true.mp hL n hn
  unfold atOne at hC
  have h5':PySem.W.nsIn X.K mainGlobals n=some (some (.ref C)):=h5
  simp only [h5',Bool.and_eq_true,beq_iff_eq,PySem.W.exOk] at hC
  obtain ⟨⟨⟨⟨⟨⟨⟨⟨⟨d1,d2⟩,d3⟩,d4⟩,d5⟩,d6⟩,d7⟩,d8⟩,hd⟩,hat⟩:=hC
  obtain ⟨m,n1,n2⟩:=I1.hok d _ h1d.1
  obtain ⟨ou,hu,hl⟩:=lookIn_ns n1
  have hI:PySem.W.InstAt s1.heap a o C (some ou):=⟨(I1.hok a _ h1.1).1,h2,h4,by rw [h3]; exact hu⟩
  obtain ⟨v,hv,rv⟩:=RelO.some_of (v:=V.int i) (o:=m ("at":Str)) (n2 ("at":Str))
  exact PySem.W.exc_value I1.kIn hI d1 d2 d3 (PySem.W.findObj_own hd hat rfl (by rw [hl,hv])) (handed_of rv) ⟨.int i,H1,I1.tok _,rv,q⟩
noncomputable def pAt (L:List Str) (x:PV):Rr PV:=match x with
  | .exa n i=>if n∈L then .ok (.int i) else .bad
  | _=>.bad
theorem pAt_exa {L:List Str} {n:Str} {i:Int} (h:n∈L):pAt L (.exa n i)=.ok (.int i):=by unfold pAt; simp only [if_pos h]
section
variable {K:PySem.W.Frag} {EX:PX→Hp→Prop} {Γ Γ':List Md} {te:TE} {f:List PV→Rr PV}
theorem de_at {L:List Str} (he:DE K EX Γ Γ' .A te f):DE K EX Γ Γ' .P (tAt K L te) (fun ρ=>(f ρ).bind (pAt L)):=fun B H0 H σ ρ F R Q A d=>by
  refine he B H0 H σ ρ F R _ A (d.bind.imp (fun x _ d v H1 s1 r1=>?_) fun e q=>q)
  obtain ⟨F1,f1,p1,A1⟩:=r1
  cases x with
  | exa n i =>
    simp only [pAt] at d
    by_cases hn:n∈L
    · rw [if_pos hn] at d; exact ⟨n,i,hn,p1,d _ H1 s1 ⟨F1,f1,rfl,rfl,A1⟩⟩
    · rw [if_neg hn] at d; exact d.elim
  | _=>exact d.elim
end
end L2
namespace My
open PySem L2
noncomputable abbrev pairP (a:List Int × Int):PV:=.tup [.lst (a.1.map PV.int),.int a.2]
noncomputable def boardB (ns:List Int):Bool:=decide (2≤ns.length∧ns.length≤24∧(∀ x∈ns,0≤x)∧ns.sum≤10 ^ 60)
theorem boardB_iff {ns:List Int}:boardB ns=true ↔ Board ns:=by
  unfold boardB
  rw [decide_eq_true_iff]
  exact ⟨fun ⟨a,b,c,d⟩=>⟨a,b,c,d⟩,fun h=>⟨h.lo,h.hi,h.nn,h.sm⟩⟩
theorem Stand.sowOk {ns:List Int} {p:Int} (h:Stand ns p):0≤p∧p < ns.length∧ns.length≤1000:=⟨h.lo,h.hi,by have:=h.bd.hi; omega⟩
theorem Stand.tbOk {ns:List Int} {p:Int} (h:Stand ns p):0≤p∧p < ns.length∧ns.length≤1000∧∀ x∈ns,0≤x∧x≤10 ^ 60:=⟨h.lo,h.hi,by have:=h.bd.hi; omega,fun x hx=>⟨h.bd.nn x hx,by have:=le_sum h.bd.nn hx; have:=h.bd.sm; omega⟩⟩
end My
namespace My
open PySem L2
end My
namespace My
open L2
noncomputable def turnB (ns:List Int) (k:Int):List Int:=tab ns.length fun x=>ns.getD (((x:Int) - k) % ns.length).toNat 0
noncomputable def turnK (a:List Int × Int) (s:Nat):Int:=((its sowS s a).2 - a.2) % a.1.length
noncomputable def isT (a:List Int × Int) (s:Nat):Prop:=(its sowS s a).1=turnB a.1 (turnK a s)
noncomputable instance (a:List Int × Int) (s:Nat):Decidable (isT a s):=by unfold isT; infer_instance
end My
namespace My
open L2
end My
namespace My
open L2
noncomputable def pits14 (ns:List Int):Int:=2 + cellAt ns 0 / 4 % 5
theorem pits14_bd (ns:List Int):2≤pits14 ns∧pits14 ns≤6:=by unfold pits14; omega
noncomputable def brd14 (ns:List Int) (most:Int):List Int :=
  if cellAt ns 0 % 16=7 then (List.range (pits14 ns).toNat).map fun (j:Nat)=>(sumsK ns 3 (pits14 ns).toNat).getD j 0 % 10 ^ 58
  else rowK ns 3 (pits14 ns) (most + 1) (decide (cellAt ns 0 % 2=1))
@[simp] theorem brd14_length (ns:List Int) (most:Int):(brd14 ns most).length=(pits14 ns).toNat:=by unfold brd14; split <;> simp
theorem brd14_bd (ns:List Int) {most:Int} (h0:0≤most) (h1:most≤1000):∀ x∈brd14 ns most,0≤x∧x < 10 ^ 58:=fun x hx=>by
  unfold brd14 at hx
  split at hx
  · obtain ⟨j,_,rfl⟩:=List.mem_map.mp hx
    omega
  · have:=rowK_bd ns 3 (pits14 ns) (base:=most + 1) (by omega) _ x hx
    omega
theorem board_of {bs:List Int} (h1:2≤bs.length) (h2:bs.length≤6) (h:∀ x∈bs,0≤x∧x < 10 ^ 58):Board bs:=by
  refine ⟨h1,by omega,fun x hx=>(h x hx).1, ?_⟩
  have h3:=L2.sum_le_mul (l:=bs) (b:=10 ^ 58) fun x hx=>Int.le_of_lt (h x hx).2
  have h4:(bs.length:Int) * 10 ^ 58≤6 * 10 ^ 58:=Int.mul_le_mul_of_nonneg_right (by omega) (by decide)
  omega
noncomputable def someI (bs:List Int):List Int:=((List.range bs.length).filter fun (i:Nat)=>decide (0 < bs.getD i 0)).map fun (i:Nat)=>(i:Int)
noncomputable def pitK (bs:List Int) (c:Int):Int:=if someI bs=[] then 0 else (someI bs).getD (c / 3 % (someI bs).length).toNat 0
end My
namespace My
open L2
end My
namespace My
open L2
noncomputable def lsF (bs:List Int) (p:Int) (i:Nat) (x:Nat):Int:=(if (x:Int)=p then 0 else bs.getD x 0) + if ((x:Int) - (p + 1)) % bs.length < i then bs.getD p.toNat 0 / bs.length + (if ((x:Int) - (p + 1)) % bs.length < bs.getD p.toNat 0 % bs.length then 1 else 0) else 0
section
variable {bs:List Int} {p:Int}
theorem ls_zero (h0:0≤p) (h1:p < bs.length):bs.set p.toNat 0=tab bs.length (lsF bs p 0):=by
  refine tab_ext (by simp) fun x hx=>?_
  rw [L2.getD_set (by omega)]
  unfold lsF
  have:=Int.emod_nonneg ((x:Int) - (p + 1)) (show (bs.length:Int)≠0 by omega)
  rw [if_neg (show ¬ ((x:Int) - (p + 1)) % bs.length < ((0:Nat):Int) by omega)]
  by_cases c:p.toNat=x
  · rw [if_pos c,if_pos (by omega)]; omega
  · rw [if_neg c,if_neg (by omega)]; omega
theorem ls_step (h0:0≤p) (h1:p < bs.length) {i:Nat} (hi:i < bs.length) :
    (tab bs.length (lsF bs p i)).set ((p + 1 + i) % bs.length).toNat (lsF bs p i ((p + 1 + i) % bs.length).toNat + bs.getD p.toNat 0 / bs.length + (if (i:Int) < bs.getD p.toNat 0 % bs.length then 1 else 0))=tab bs.length (lsF bs p (i + 1)):=by
  have hn:(0:Int) < bs.length:=by omega
  have y0:=Int.emod_nonneg (p + 1 + i) (show (bs.length:Int)≠0 by omega)
  have y1:=Int.emod_lt_of_pos (p + 1 + i) hn
  rw [tab_set (by omega)]
  refine tab_congr fun x hx=>?_
  have d0:=Int.emod_nonneg ((x:Int) - (p + 1)) (show (bs.length:Int)≠0 by omega)
  have d1:=Int.emod_lt_of_pos ((x:Int) - (p + 1)) hn
  have key:((x:Int) - (p + 1)) % bs.length=i ↔ x=((p + 1 + i) % bs.length).toNat:=by
    constructor
    · intro e
      have:(p + 1 + i) % bs.length=x:=by
        rw [← e,Int.add_emod_emod,show p + 1 + ((x:Int) - (p + 1))=x by omega,Int.emod_eq_of_lt (by omega) (by omega)]
      omega
    · intro e
      have:(x:Int)=(p + 1 + i) % bs.length:=by omega
      rw [this,Int.emod_sub_emod,show p + 1 + (i:Int) - (p + 1)=i by omega,Int.emod_eq_of_lt (by omega) (by omega)]
  by_cases c:x=((p + 1 + i) % bs.length).toNat
  · rw [if_pos c,← c]
    have hk:=key.mpr c
    unfold lsF
    rw [hk,if_neg (show ¬ (i:Int) < (i:Int) by omega),if_pos (show (i:Int) < ((i + 1:Nat):Int) by omega)]
    omega
  · rw [if_neg c]
    have hk:¬ ((x:Int) - (p + 1)) % bs.length=i:=fun z=>c (key.mp z)
    unfold lsF
    by_cases q:((x:Int) - (p + 1)) % bs.length < i
    · rw [if_pos q,if_pos (show ((x:Int) - (p + 1)) % bs.length < ((i + 1:Nat):Int) by omega)]
    · rw [if_neg q,if_neg (show ¬ ((x:Int) - (p + 1)) % bs.length < ((i + 1:Nat):Int) by omega)]
theorem ls_all (h0:0≤p) (h1:p < bs.length):tab bs.length (lsF bs p bs.length)=sowB bs p:=by
  have hn:(0:Int) < bs.length:=by omega
  refine tab_congr fun x hx=>?_
  have d0:=Int.emod_nonneg ((x:Int) - (p + 1)) (show (bs.length:Int)≠0 by omega)
  have d1:=Int.emod_lt_of_pos ((x:Int) - (p + 1)) hn
  have o1:=Int.emod_lt_of_pos (bs.getD p.toNat 0) hn
  have e:((x:Int) - p) % bs.length=if ((x:Int) - (p + 1)) % bs.length + 1=bs.length then 0 else ((x:Int) - (p + 1)) % bs.length + 1:=by
    have:((x:Int) - p) % bs.length=(((x:Int) - (p + 1)) % bs.length + 1) % bs.length:=by
      rw [Int.emod_add_emod,show (x:Int) - (p + 1) + 1=x - p by omega]
    rw [this]
    split
    · rename_i c; rw [c,Int.emod_self]
    · exact Int.emod_eq_of_lt (by omega) (by omega)
  have e2:(if 1≤((x:Int) - p) % bs.length∧((x:Int) - p) % bs.length≤bs.getD p.toNat 0 % bs.length then (1:Int) else 0)=if ((x:Int) - (p + 1)) % bs.length < bs.getD p.toNat 0 % bs.length then 1 else 0:=by
    generalize ((x:Int) - p) % bs.length=D at e
    subst e
    by_cases q:((x:Int) - (p + 1)) % bs.length < bs.getD p.toNat 0 % bs.length
    · rw [if_pos q]
      apply if_pos
      split <;> omega
    · rw [if_neg q]
      apply if_neg
      split <;> omega
  unfold lsF sowF sowA sowI
  rw [if_pos d1,e2]
  omega
theorem ls_pit (p s n:Int):(p + s) % n=(p + s % n) % n:=by rw [Int.add_emod_emod]
end
end My
namespace My
open L2
noncomputable abbrev Deed:=PySem.Str × Int
noncomputable def deedP (d:Deed):PV:=.tup [.str d.1,.int d.2]
noncomputable def dWord (w:PySem.Str):Bool:=w == ("sow":PySem.Str) || w == ("back":PySem.Str)
noncomputable def canD (b:List Int) (d:Deed):Bool:=dWord d.1 && (decide (0≤d.2∧d.2 < (b.length:Int)) && decide (0 < b.getD d.2.toNat 0))
noncomputable def deedW (b:List Int) (d:Deed):List Int × Int:=if d.1=("sow":PySem.Str) then sowS (b,d.2) else tbS (b,d.2)
theorem canD_stand {b:List Int} {d:Deed} (B:Board b) (h:canD b d=true):Stand b d.2:=by
  unfold canD at h
  simp only [Bool.and_eq_true,decide_eq_true_eq] at h
  exact ⟨B,h.2.1.1,h.2.1.2,h.2.2⟩
theorem deedW_board {b:List Int} {d:Deed} (h:Stand b d.2):Board (deedW b d).1:=by
  unfold deedW
  split
  · exact sow_board h
  · exact (tb_stand h).bd
theorem deedW_length (b:List Int) (d:Deed):(deedW b d).1.length=b.length:=by
  unfold deedW
  split
  · exact sowB_length _ _
  · exact tbB_length _ _
theorem getD_appL {α:Type} {l m:List α} {i:Nat} {x:α} (h:i < l.length):(l ++ m).getD i x=l.getD i x:=by
  rw [List.getD_eq_getElem?_getD,List.getD_eq_getElem?_getD,List.getElem?_append_left h]
noncomputable def wkAt (b:List Int) (ds:List Deed):Nat→List Int
  | 0=>b
  | i + 1=>(deedW (wkAt b ds i) (ds.getD i ("",0))).1
noncomputable def canAt (b:List Int) (ds:List Deed) (i:Nat):Bool:=canD (wkAt b ds i) (ds.getD i ("",0))
noncomputable def wkF (b:List Int) (ds:List Deed):Option Nat:=(List.range ds.length).find? fun i=>!canAt b ds i
theorem wkF_some {b:List Int} {ds:List Deed} {k:Nat} (h:wkF b ds=some k):k < ds.length∧canAt b ds k=false∧∀ j,j < k→canAt b ds j=true:=by
  obtain ⟨h1,h2,h3⟩:=List.find?_range_eq_some.mp h
  exact ⟨List.mem_range.mp h2,by simpa using h1,fun j hj=>by simpa using h3 j hj⟩
theorem wkF_none {b:List Int} {ds:List Deed} (h:wkF b ds=none):∀ j,j < ds.length→canAt b ds j=true:=fun j hj=>by
  have:=List.find?_range_eq_none.mp h j hj
  simpa using this
theorem wkF_of_some {b:List Int} {ds:List Deed} {k:Nat} (h1:k < ds.length) (h2:canAt b ds k=false) (h3:∀ j,j < k→canAt b ds j=true):wkF b ds=some k :=
  List.find?_range_eq_some.mpr ⟨by simp [h2],List.mem_range.mpr h1,fun j hj=>by simp [h3 j hj]⟩
theorem wkF_of_none {b:List Int} {ds:List Deed} (h:∀ j,j < ds.length→canAt b ds j=true):wkF b ds=none :=
  List.find?_range_eq_none.mpr fun j hj=>by simp [h j hj]
theorem wkAt_length (b:List Int) (ds:List Deed) (i:Nat):(wkAt b ds i).length=b.length:=by
  induction i with
  | zero=>rfl
  | succ i ih=>simp only [wkAt]; rw [deedW_length,ih]
theorem wkAt_board {b:List Int} {ds:List Deed} (B:Board b):∀ {i:Nat},(∀ j,j < i→canAt b ds j=true)→Board (wkAt b ds i)
  | 0,_=>B
  | i + 1,h=>deedW_board (canD_stand (wkAt_board B fun j hj=>h j (by omega)) (h i (by omega)))
theorem wkAt_app {b:List Int} {ds es:List Deed}:∀ {i:Nat},i≤ds.length→wkAt b (ds ++ es) i=wkAt b ds i
  | 0,_=>rfl
  | i + 1,h=>by
    simp only [wkAt]
    rw [wkAt_app (i:=i) (by omega),getD_appL (by omega)]
theorem canAt_app {b:List Int} {ds es:List Deed} {i:Nat} (h:i < ds.length):canAt b (ds ++ es) i=canAt b ds i:=by
  unfold canAt
  rw [wkAt_app (by omega),getD_appL h]
theorem canAt_last {b:List Int} {ds:List Deed} {d:Deed}:canAt b (ds ++ [d]) ds.length=canD (wkAt b ds ds.length) d:=by
  unfold canAt
  rw [wkAt_app (Nat.le_refl _)]
  simp
theorem wkAt_last {b:List Int} {ds:List Deed} {d:Deed}:wkAt b (ds ++ [d]) (ds.length + 1)=(deedW (wkAt b ds ds.length) d).1:=by
  simp only [wkAt]
  rw [wkAt_app (Nat.le_refl _)]
  simp
noncomputable def wSB (c:Int):PySem.Str:=if c % 2=0 then "sow" else "back"
noncomputable def wOdd (r:Int):PySem.Str:=if r % 6=0 then "" else if r % 6=1 then "sown" else if r % 6=2 then "Sow" else if r % 6=3 then "take" else if r % 6=4 then "BACK" else "sow "
noncomputable def emptyI (bs:List Int):List Int:=((List.range bs.length).filter fun (i:Nat)=>decide (bs.getD i 0=0)).map fun (i:Nat)=>(i:Int)
noncomputable def farK (r:Int):Int:=if r / 3 % 3=1 then r / 9 % 10 ^ 59 else r % 3
noncomputable def oddD (b:List Int) (c:Int):Deed :=
  if c % 6=0 then (wOdd (c / 6),0) else if c % 6=1 then ("sow",b.length + farK (c / 6)) else if c % 6=2 then ("back",-1 - farK (c / 6))
  else if emptyI b=[] then ("back",b.length) else (wSB c,(emptyI b).getD (c / 6 % (emptyI b).length).toNat 0)
noncomputable def plPl (ns:List Int):Int:=cellAt ns 1 / 2 % (if (ns.length:Int) - 3 > 1 then (ns.length:Int) - 3 else 1)
noncomputable def plD (ns:List Int) (h:List Int) (i:Nat):Deed :=
  if (i:Int)=plPl ns∧cellAt ns 1 % 2=1 then oddD h (cellAt ns (3 + i) / 7) else (wSB (cellAt ns (3 + i)),pitK h (cellAt ns (3 + i)))
noncomputable def plS (ns b:List Int):Nat→List Deed × List Int × Int
  | 0=>([],b,-1)
  | i + 1=>((plS ns b i).1 ++ [plD ns (plS ns b i).2.1 i],
      if (plS ns b i).2.2 < 0∧canD (plS ns b i).2.1 (plD ns (plS ns b i).2.1 i)=true then (deedW (plS ns b i).2.1 (plD ns (plS ns b i).2.1 i)).1 else (plS ns b i).2.1,
      if (plS ns b i).2.2 < 0∧canD (plS ns b i).2.1 (plD ns (plS ns b i).2.1 i)=false then (i:Int) else (plS ns b i).2.2)
structure PlOk (b:List Int) (i:Nat) (s:List Deed × List Int × Int):Prop where
  len:s.1.length=i
  brd:Board s.2.1
  sz:s.2.1.length=b.length
  out:(s.2.2=-1∧wkF b s.1=none∧s.2.1=wkAt b s.1 i) ∨ ∃ k:Nat,s.2.2=k∧wkF b s.1=some k
theorem pl_ok (ns:List Int) {b:List Int} (B:Board b) (i:Nat):PlOk b i (plS ns b i):=by
  induction i with
  | zero=>exact ⟨rfl,B,rfl,.inl ⟨rfl,rfl,rfl⟩⟩
  | succ i ih =>
    obtain ⟨l,br,sz,o⟩:=ih
    rw [plS]
    generalize plS ns b i=s at l br sz o
    obtain ⟨ds,h,bad⟩:=s
    simp only at l br sz o ⊢
    generalize plD ns h i=d
    subst l
    rcases o with ⟨rfl,o1,rfl⟩ | ⟨k,rfl,o1⟩
    · have hb:((-1:Int) < 0):=by decide
      by_cases hc:canD (wkAt b ds ds.length) d=true
      · refine ⟨by simp, ?_, ?_,.inl ⟨?_,wkF_of_none fun j hj=>?_, ?_⟩⟩
        · simp only [hb,hc,true_and,if_true]
          exact deedW_board (canD_stand br hc)
        · simp only [hb,hc,true_and,if_true]
          rw [deedW_length]; exact sz
        · simp [hc]
        · rw [List.length_append,List.length_singleton] at hj
          by_cases hj2:j < ds.length
          · rw [canAt_app hj2]; exact wkF_none o1 j hj2
          · obtain rfl:j=ds.length:=by omega
            rw [canAt_last]; exact hc
        · simp only [hb,hc,true_and,if_true]
          exact wkAt_last.symm
      · have hc:=Bool.eq_false_iff.mpr hc
        refine ⟨by simp, ?_, ?_,.inr ⟨ds.length, ?_,wkF_of_some (by simp) (by rw [canAt_last]; exact hc) fun j hj=>?_⟩⟩
        · simp only [hc,Bool.false_eq_true,and_false,if_false]; exact br
        · simp only [hc,Bool.false_eq_true,and_false,if_false]; exact sz
        · simp only [hb,hc,true_and,if_true]
        · rw [canAt_app hj]; exact wkF_none o1 j hj
    · have hb:¬ ((k:Int) < 0):=by omega
      obtain ⟨f1,f2,f3⟩:=wkF_some o1
      refine ⟨by simp, ?_, ?_,.inr ⟨k, ?_,wkF_of_some (by simp; omega) (by rw [canAt_app f1]; exact f2) fun j hj=>?_⟩⟩
      · simp only [hb,false_and,if_false]; exact br
      · simp only [hb,false_and,if_false]; exact sz
      · simp only [hb,false_and,if_false]
      · rw [canAt_app (by omega)]; exact f3 j hj
end My
namespace My
open PySem L2
set_option hygiene false
local macro_rules | `(tactic| walk_at "pu")=>`(tactic| try simp -implicitDefEqProofs only [gv_zero,gv_succ,List.set_cons_zero,List.set_cons_succ,List.cons_append,List.nil_append,List.replicate_succ,List.replicate_zero,List.getElem?_cons_zero,Rr.bind_ok,Rr.bind_exc,Rr.bind_bad,Rr.thenS_ok,Rr.thenS_exc,RS.seq_next,RS.seq_ret,RS.seq_exc,RS.out_next,RS.out_ret,RS.out_exc,
  pAdd_ok,pSub_ok,pLt_ok,pLe_ok,pGt_ok,pGe_ok,grd_int,asB_bl,asL_lst,asI_int,pIsi_i,pIsi_l,pIsi_t,pNeg_ok,pIx_t0,pIx_t1,isSub_ii,isSub_ib,isSub_ll,isSub_tt,pEq_int,pEq_ints,pLen_ints,pSum_ints,List.length_cons,List.length_nil,Bool.not_true,Bool.not_false,Bool.false_eq_true,if_true,if_false,Nat.reduceAdd,Nat.reduceSub,id,List.map_cons,List.map_nil,Int.reduceToNat,pDiv_small,pMod_ok,p1060,mkL_ok,mkT_ok,hdR_cons,nilR_nil,Nat.reduceLeDiff,Nat.le_refl,Int.reduceLT,Int.reduceLE,Int.reduceEq,decide_true,decide_false])
set_option hygiene true
seal PE PT PA PS PSs DE DT DAA DAF DS
noncomputable def top (i:Nat):Stmt:=PySem.Challenge.pw_sowring_k18_plans_walked.main.body.getD i (.Pass ⟨0,0,0,0⟩)
noncomputable abbrev s__law_cell_at:Stmt:=top 24
theorem sc__law_cell_at:FnScope ["script", "k"] ["script", "k"] (defScope s__law_cell_at):=⟨rfl,rfl,rfl,by decide +kernel,rfl,by decide +kernel,by decide +kernel⟩
theorem bd__law_cell_at:BindFact "_law_cell_at" s__law_cell_at ["script", "k"]:=fun _ _ _ _ _ _ us hl=>by obtain ⟨_,_,rfl⟩:=us2 hl; rfl
noncomputable abbrev s__law_sums:Stmt:=top 25
theorem sc__law_sums:FnScope ["script", "later", "most", "sums", "k", "at"] ["script", "later", "most"] (defScope s__law_sums):=⟨rfl,rfl,rfl,by decide +kernel,rfl,by decide +kernel,by decide +kernel⟩
theorem bd__law_sums:BindFact "_law_sums" s__law_sums ["script", "later", "most"]:=fun _ _ _ _ _ _ us hl=>by obtain ⟨_,_,_,rfl⟩:=us3 hl; rfl
noncomputable abbrev s__law_stirred:Stmt:=top 26
theorem sc__law_stirred:FnScope ["cell", "j", "first"] ["cell", "j"] (defScope s__law_stirred):=⟨rfl,rfl,rfl,by decide +kernel,rfl,by decide +kernel,by decide +kernel⟩
theorem bd__law_stirred:BindFact "_law_stirred" s__law_stirred ["cell", "j"]:=fun _ _ _ _ _ _ us hl=>by obtain ⟨_,_,rfl⟩:=us2 hl; rfl
noncomputable abbrev s__law_row:Stmt:=top 27
theorem sc__law_row:FnScope ["script", "skip", "many", "base", "mixed", "sums", "total", "row", "j"] ["script", "skip", "many", "base", "mixed"] (defScope s__law_row):=⟨rfl,rfl,rfl,by decide +kernel,rfl,by decide +kernel,by decide +kernel⟩
theorem bd__law_row:BindFact "_law_row" s__law_row ["script", "skip", "many", "base", "mixed"]:=fun _ _ _ _ _ _ us hl=>by obtain ⟨_,_,_,_,_,rfl⟩:=us5 hl; rfl
noncomputable abbrev s__law_board:Stmt:=top 31
theorem sc__law_board:FnScope ["script", "most", "cell", "pits", "sums"] ["script", "most"] (defScope s__law_board):=⟨rfl,rfl,rfl,by decide +kernel,rfl,by decide +kernel,by decide +kernel⟩
theorem bd__law_board:BindFact "_law_board" s__law_board ["script", "most"]:=fun _ _ _ _ _ _ us hl=>by obtain ⟨_,_,rfl⟩:=us2 hl; rfl
noncomputable abbrev s__law_pit:Stmt:=top 32
theorem sc__law_pit:FnScope ["board", "cell", "some"] ["board", "cell"] (defScope s__law_pit):=⟨rfl,rfl,rfl,by decide +kernel,rfl,by decide +kernel,by decide +kernel⟩
theorem bd__law_pit:BindFact "_law_pit" s__law_pit ["board", "cell"]:=fun _ _ _ _ _ _ us hl=>by obtain ⟨_,_,rfl⟩:=us2 hl; rfl
noncomputable abbrev s__law_odd:Stmt:=top 33
theorem sc__law_odd:FnScope ["board", "cell", "rest", "far", "empty"] ["board", "cell"] (defScope s__law_odd):=⟨rfl,rfl,rfl,by decide +kernel,rfl,by decide +kernel,by decide +kernel⟩
theorem bd__law_odd:BindFact "_law_odd" s__law_odd ["board", "cell"]:=fun _ _ _ _ _ _ us hl=>by obtain ⟨_,_,rfl⟩:=us2 hl; rfl
noncomputable abbrev s__law_can:Stmt:=top 34
theorem sc__law_can:FnScope ["board", "deed"] ["board", "deed"] (defScope s__law_can):=⟨rfl,rfl,rfl,by decide +kernel,rfl,by decide +kernel,by decide +kernel⟩
theorem bd__law_can:BindFact "_law_can" s__law_can ["board", "deed"]:=fun _ _ _ _ _ _ us hl=>by obtain ⟨_,_,rfl⟩:=us2 hl; rfl
noncomputable abbrev s__law_sown:Stmt:=top 28
theorem sc__law_sown:FnScope ["board", "pit", "pits", "seeds", "made", "k", "at"] ["board", "pit"] (defScope s__law_sown):=⟨rfl,rfl,rfl,by decide +kernel,rfl,by decide +kernel,by decide +kernel⟩
theorem bd__law_sown:BindFact "_law_sown" s__law_sown ["board", "pit"]:=fun _ _ _ _ _ _ us hl=>by obtain ⟨_,_,rfl⟩:=us2 hl; rfl
noncomputable abbrev s__law_back:Stmt:=top 29
theorem sc__law_back:FnScope ["board", "pit", "pits", "least", "steps", "made", "place", "taken"] ["board", "pit"] (defScope s__law_back):=⟨rfl,rfl,rfl,by decide +kernel,rfl,by decide +kernel,by decide +kernel⟩
theorem bd__law_back:BindFact "_law_back" s__law_back ["board", "pit"]:=fun _ _ _ _ _ _ us hl=>by obtain ⟨_,_,rfl⟩:=us2 hl; rfl
noncomputable abbrev s__law_plan:Stmt:=top 35
theorem sc__law_plan:FnScope ["script", "board", "plan", "bad", "here", "first", "place", "k", "cell", "deed"] ["script", "board"] (defScope s__law_plan):=⟨rfl,rfl,rfl,by decide +kernel,rfl,by decide +kernel,by decide +kernel⟩
theorem bd__law_plan:BindFact "_law_plan" s__law_plan ["script", "board"]:=fun _ _ _ _ _ _ us hl=>by obtain ⟨_,_,rfl⟩:=us2 hl; rfl
noncomputable abbrev s_is_whole:Stmt:=top 10
theorem sc_is_whole:FnScope ["value"] ["value"] (defScope s_is_whole):=⟨rfl,rfl,rfl,by decide +kernel,rfl,by decide +kernel,by decide +kernel⟩
theorem bd_is_whole:BindFact "is_whole" s_is_whole ["value"]:=fun _ _ _ _ _ _ us hl=>by obtain ⟨_,rfl⟩:=us1 hl; rfl
noncomputable abbrev s_is_whole_from:Stmt:=top 11
theorem sc_is_whole_from:FnScope ["value", "least"] ["value", "least"] (defScope s_is_whole_from):=⟨rfl,rfl,rfl,by decide +kernel,rfl,by decide +kernel,by decide +kernel⟩
theorem bd_is_whole_from:BindFact "is_whole_from" s_is_whole_from ["value", "least"]:=fun _ _ _ _ _ _ us hl=>by obtain ⟨_,_,rfl⟩:=us2 hl; rfl
noncomputable abbrev s_is_list_from_nought:Stmt:=top 12
theorem sc_is_list_from_nought:FnScope ["values"] ["values"] (defScope s_is_list_from_nought):=⟨rfl,rfl,rfl,by decide +kernel,rfl,by decide +kernel,by decide +kernel⟩
theorem bd_is_list_from_nought:BindFact "is_list_from_nought" s_is_list_from_nought ["values"]:=fun _ _ _ _ _ _ us hl=>by obtain ⟨_,rfl⟩:=us1 hl; rfl
noncomputable abbrev s_most_seeds:Stmt:=top 9
theorem sc_most_seeds:FnScope [] [] (defScope s_most_seeds):=⟨rfl,rfl,rfl,by decide +kernel,rfl,by decide +kernel,by decide +kernel⟩
theorem bd_most_seeds:BindFact "most_seeds" s_most_seeds []:=fun _ _ _ _ _ _ us hl=>match us,hl with | [],_=>rfl
noncomputable abbrev s_is_board:Stmt:=top 13
theorem sc_is_board:FnScope ["board"] ["board"] (defScope s_is_board):=⟨rfl,rfl,rfl,by decide +kernel,rfl,by decide +kernel,by decide +kernel⟩
theorem bd_is_board:BindFact "is_board" s_is_board ["board"]:=fun _ _ _ _ _ _ us hl=>by obtain ⟨_,rfl⟩:=us1 hl; rfl
noncomputable abbrev s_check_board:Stmt:=top 14
theorem sc_check_board:FnScope ["board"] ["board"] (defScope s_check_board):=⟨rfl,rfl,rfl,by decide +kernel,rfl,by decide +kernel,by decide +kernel⟩
theorem bd_check_board:BindFact "check_board" s_check_board ["board"]:=fun _ _ _ _ _ _ us hl=>by obtain ⟨_,rfl⟩:=us1 hl; rfl
noncomputable abbrev s_is_pit:Stmt:=top 15
theorem sc_is_pit:FnScope ["board", "pit"] ["board", "pit"] (defScope s_is_pit):=⟨rfl,rfl,rfl,by decide +kernel,rfl,by decide +kernel,by decide +kernel⟩
theorem bd_is_pit:BindFact "is_pit" s_is_pit ["board", "pit"]:=fun _ _ _ _ _ _ us hl=>by obtain ⟨_,_,rfl⟩:=us2 hl; rfl
noncomputable abbrev s_can_be_done:Stmt:=top 21
theorem sc_can_be_done:FnScope ["board", "deed"] ["board", "deed"] (defScope s_can_be_done):=⟨rfl,rfl,rfl,by decide +kernel,rfl,by decide +kernel,by decide +kernel⟩
theorem bd_can_be_done:BindFact "can_be_done" s_can_be_done ["board", "deed"]:=fun _ _ _ _ _ _ us hl=>by obtain ⟨_,_,rfl⟩:=us2 hl; rfl
noncomputable abbrev s_take_back_at:Stmt:=top 18
theorem sc_take_back_at:FnScope ["board", "pit", "pits", "rounds", "other", "taken", "place"] ["board", "pit"] (defScope s_take_back_at):=⟨rfl,rfl,rfl,by decide +kernel,rfl,by decide +kernel,by decide +kernel⟩
theorem bd_take_back_at:BindFact "take_back_at" s_take_back_at ["board", "pit"]:=fun _ _ _ _ _ _ us hl=>by obtain ⟨_,_,rfl⟩:=us2 hl; rfl
noncomputable abbrev s_sow_pit:Stmt:=top 17
theorem sc_sow_pit:FnScope ["board", "pit", "pits", "rounds", "over", "other", "last", "step"] ["board", "pit"] (defScope s_sow_pit):=⟨rfl,rfl,rfl,by decide +kernel,rfl,by decide +kernel,by decide +kernel⟩
theorem bd_sow_pit:BindFact "sow_pit" s_sow_pit ["board", "pit"]:=fun _ _ _ _ _ _ us hl=>by obtain ⟨_,_,rfl⟩:=us2 hl; rfl
noncomputable abbrev s_do_deed:Stmt:=top 22
theorem sc_do_deed:FnScope ["board", "deed"] ["board", "deed"] (defScope s_do_deed):=⟨rfl,rfl,rfl,by decide +kernel,rfl,by decide +kernel,by decide +kernel⟩
theorem bd_do_deed:BindFact "do_deed" s_do_deed ["board", "deed"]:=fun _ _ _ _ _ _ us hl=>by obtain ⟨_,_,rfl⟩:=us2 hl; rfl
noncomputable abbrev s_walked:Stmt:=top 20
theorem sc_walked:FnScope ["board", "plan", "now", "place", "deed"] ["board", "plan"] (defScope s_walked):=⟨rfl,rfl,rfl,by decide +kernel,rfl,by decide +kernel,by decide +kernel⟩
theorem bd_walked:BindFact "walked" s_walked ["board", "plan"]:=fun _ _ _ _ _ _ us hl=>by obtain ⟨_,_,rfl⟩:=us2 hl; rfl
noncomputable abbrev s__law_asked:Stmt:=top 36
theorem sc__law_asked:FnScope ["board", "plan", "caught", "told", "e"] ["board", "plan"] (defScope s__law_asked):=⟨rfl,rfl,rfl,by decide +kernel,rfl,by decide +kernel,by decide +kernel⟩
theorem bd__law_asked:BindFact "_law_asked" s__law_asked ["board", "plan"]:=fun _ _ _ _ _ _ us hl=>by obtain ⟨_,_,rfl⟩:=us2 hl; rfl
noncomputable abbrev s__law_board_same:Stmt:=top 30
theorem sc__law_board_same:FnScope ["found", "due", "k"] ["found", "due"] (defScope s__law_board_same):=⟨rfl,rfl,rfl,by decide +kernel,rfl,by decide +kernel,by decide +kernel⟩
theorem bd__law_board_same:BindFact "_law_board_same" s__law_board_same ["found", "due"]:=fun _ _ _ _ _ _ us hl=>by obtain ⟨_,_,rfl⟩:=us2 hl; rfl
noncomputable abbrev s_law:Stmt:=top 37
theorem sc_law:FnScope ["script", "board", "plan", "here", "bad", "handed", "deeds", "told", "same"] ["script"] (defScope s_law):=⟨rfl,rfl,rfl,by decide +kernel,rfl,by decide +kernel,by decide +kernel⟩
theorem bd_law:BindFact "law" s_law ["script"]:=fun _ _ _ _ _ _ us hl=>by obtain ⟨_,rfl⟩:=us1 hl; rfl
noncomputable abbrev XN:List Str:=["SowError", "BadBoard", "BadPit", "NoSeeds", "BadPlan"]
noncomputable abbrev XS_SowError:List (Str × Str × Bool):=[("SowError", "SowError",true),("BadBoard", "SowError",true),("BadPit", "SowError",true),("NoSeeds", "SowError",true),("BadPlan", "SowError",true)]
noncomputable abbrev XS_BadBoard:List (Str × Str × Bool):=[("SowError", "BadBoard",false),("BadBoard", "BadBoard",true),("BadPit", "BadBoard",false),("NoSeeds", "BadBoard",false),("BadPlan", "BadBoard",false)]
noncomputable abbrev XS_BadPit:List (Str × Str × Bool):=[("SowError", "BadPit",false),("BadBoard", "BadPit",false),("BadPit", "BadPit",true),("NoSeeds", "BadPit",false),("BadPlan", "BadPit",false)]
noncomputable abbrev XS_NoSeeds:List (Str × Str × Bool):=[("SowError", "NoSeeds",false),("BadBoard", "NoSeeds",false),("BadPit", "NoSeeds",false),("NoSeeds", "NoSeeds",true),("BadPlan", "NoSeeds",false)]
noncomputable abbrev XS_BadPlan:List (Str × Str × Bool):=[("SowError", "BadPlan",false),("BadBoard", "BadPlan",false),("BadPit", "BadPlan",false),("NoSeeds", "BadPlan",false),("BadPlan", "BadPlan",true)]
noncomputable abbrev XS:List (Str × Str × Bool):=XS_SowError ++ XS_BadBoard ++ XS_BadPit ++ XS_NoSeeds ++ XS_BadPlan
noncomputable abbrev XR:List Str:=["SowError", "BadBoard", "BadPit", "NoSeeds"]
noncomputable abbrev XA:List Str:=["BadPlan"]
noncomputable abbrev si_BadPlan:Stmt:=inClass (top 5) 0
theorem sci_BadPlan:FnScope ["self", "words", "at"] ["self", "words", "at"] (defScope si_BadPlan):=⟨rfl,rfl,rfl,by decide +kernel,rfl,by decide +kernel,by decide +kernel⟩
noncomputable abbrev XL_SowError:List (Str × Bool):=[("SowError",true),("BadBoard",true),("BadPit",true),("NoSeeds",true),("BadPlan",true)]
noncomputable abbrev XL_BadPit:List (Str × Bool):=[("SowError",false),("BadBoard",false),("BadPit",true),("NoSeeds",false),("BadPlan",false)]
noncomputable abbrev XL_NoSeeds:List (Str × Bool):=[("SowError",false),("BadBoard",false),("BadPit",false),("NoSeeds",true),("BadPlan",false)]
noncomputable abbrev XL_BadPlan:List (Str × Bool):=[("SowError",false),("BadBoard",false),("BadPit",false),("NoSeeds",false),("BadPlan",true)]
noncomputable abbrev XL_ValueError:List (Str × Bool):=[("SowError",true),("BadBoard",true),("BadPit",true),("NoSeeds",true),("BadPlan",true)]
noncomputable abbrev sm_SowError:Stmt:=inClass (top 1) 0
theorem scm_SowError:FnScope ["self"] ["self"] (defScope sm_SowError):=⟨rfl,rfl,rfl,by decide +kernel,rfl,by decide +kernel,by decide +kernel⟩
noncomputable abbrev sm_BadBoard:Stmt:=inClass (top 2) 0
theorem scm_BadBoard:FnScope ["self"] ["self"] (defScope sm_BadBoard):=⟨rfl,rfl,rfl,by decide +kernel,rfl,by decide +kernel,by decide +kernel⟩
noncomputable abbrev sm_BadPit:Stmt:=inClass (top 3) 0
theorem scm_BadPit:FnScope ["self"] ["self"] (defScope sm_BadPit):=⟨rfl,rfl,rfl,by decide +kernel,rfl,by decide +kernel,by decide +kernel⟩
noncomputable abbrev sm_NoSeeds:Stmt:=inClass (top 4) 0
theorem scm_NoSeeds:FnScope ["self"] ["self"] (defScope sm_NoSeeds):=⟨rfl,rfl,rfl,by decide +kernel,rfl,by decide +kernel,by decide +kernel⟩
noncomputable abbrev sm_BadPlan:Stmt:=inClass (top 5) 1
theorem scm_BadPlan:FnScope ["self"] ["self"] (defScope sm_BadPlan):=⟨rfl,rfl,rfl,by decide +kernel,rfl,by decide +kernel,by decide +kernel⟩
structure Txt (K:PySem.W.Frag) (mg:Str→Option Value):Prop where
  d__law_cell_at:Dfn K mg "_law_cell_at" s__law_cell_at
  d__law_sums:Dfn K mg "_law_sums" s__law_sums
  d__law_stirred:Dfn K mg "_law_stirred" s__law_stirred
  d__law_row:Dfn K mg "_law_row" s__law_row
  d__law_board:Dfn K mg "_law_board" s__law_board
  d__law_pit:Dfn K mg "_law_pit" s__law_pit
  d__law_odd:Dfn K mg "_law_odd" s__law_odd
  d__law_can:Dfn K mg "_law_can" s__law_can
  d__law_sown:Dfn K mg "_law_sown" s__law_sown
  d__law_back:Dfn K mg "_law_back" s__law_back
  d__law_plan:Dfn K mg "_law_plan" s__law_plan
  d_is_whole:Dfn K mg "is_whole" s_is_whole
  d_is_whole_from:Dfn K mg "is_whole_from" s_is_whole_from
  d_is_list_from_nought:Dfn K mg "is_list_from_nought" s_is_list_from_nought
  d_most_seeds:Dfn K mg "most_seeds" s_most_seeds
  d_is_board:Dfn K mg "is_board" s_is_board
  d_check_board:Dfn K mg "check_board" s_check_board
  d_is_pit:Dfn K mg "is_pit" s_is_pit
  d_can_be_done:Dfn K mg "can_be_done" s_can_be_done
  d_take_back_at:Dfn K mg "take_back_at" s_take_back_at
  d_sow_pit:Dfn K mg "sow_pit" s_sow_pit
  d_do_deed:Dfn K mg "do_deed" s_do_deed
  d_walked:Dfn K mg "walked" s_walked
  d__law_asked:Dfn K mg "_law_asked" s__law_asked
  d__law_board_same:Dfn K mg "_law_board_same" s__law_board_same
  d_law:Dfn K mg "law" s_law
  c_FEWEST_PITS:∃ t,mg "FEWEST_PITS"=some (.int 2 t)
  c_MOST_PITS:∃ t,mg "MOST_PITS"=some (.int 24 t)
  z_ValueError:mg "ValueError"=none
  z_all:mg "all"=none
  z_bool:mg "bool"=none
  z_enumerate:mg "enumerate"=none
  z_int:mg "int"=none
  z_isinstance:mg "isinstance"=none
  z_len:mg "len"=none
  z_list:mg "list"=none
  z_max:mg "max"=none
  z_min:mg "min"=none
  z_range:mg "range"=none
  z_sum:mg "sum"=none
  z_tuple:mg "tuple"=none
  x_tab:xTab K XN XS=true
  x_exc:xExcs K XR=true
  x_at:(XA.all (atOne K))=true
  x_mg:∀ n C,XCls K n C→mg n=some (.ref C)
  m_SowError:MDfn K "SowError" "called" "SowError.called" sm_SowError
  m_BadBoard:MDfn K "BadBoard" "called" "BadBoard.called" sm_BadBoard
  m_BadPit:MDfn K "BadPit" "called" "BadPit.called" sm_BadPit
  m_NoSeeds:MDfn K "NoSeeds" "called" "NoSeeds.called" sm_NoSeeds
  m_BadPlan:MDfn K "BadPlan" "called" "BadPlan.called" sm_BadPlan
  i_BadPlan:XIni K "BadPlan" "SowError" "BadPlan.__init__" si_BadPlan
section
variable {P:Program} {w:World} {K:PySem.W.Frag} {mg:Str→Option Value} {base:Heap}
theorem mk_SowError (T:Txt K mg):MOk P w K mg base 1 "called" "SowError":=by
  obtain ⟨C,f,fd,h1,h2,h3,F⟩:=T.m_SowError
  obtain ⟨C2,c1,_,c2,_⟩:=xTab_one T.x_tab (n := "SowError") (by decide)
  obtain rfl:=c1.inj h1
  refine ⟨C2,f,fd,h1,c2,h2,h3,F.kp,F.binds (fun _ _ _ _ _ _ us hl=>match us,hl with | [_],_=>rfl), ?_⟩
  exact F.okP scm_SowError rfl rfl (fun cdv A outer s H E hr=>⟨_,_,⟨[],[],[],.P⟩,rfl,pss_one (ps_ret pe_str),ds_retP de_str,fun xs=>.inr rfl⟩)
theorem mk_BadBoard (T:Txt K mg):MOk P w K mg base 1 "called" "BadBoard":=by
  obtain ⟨C,f,fd,h1,h2,h3,F⟩:=T.m_BadBoard
  obtain ⟨C2,c1,_,c2,_⟩:=xTab_one T.x_tab (n := "BadBoard") (by decide)
  obtain rfl:=c1.inj h1
  refine ⟨C2,f,fd,h1,c2,h2,h3,F.kp,F.binds (fun _ _ _ _ _ _ us hl=>match us,hl with | [_],_=>rfl), ?_⟩
  exact F.okP scm_BadBoard rfl rfl (fun cdv A outer s H E hr=>⟨_,_,⟨[],[],[],.P⟩,rfl,pss_one (ps_ret pe_str),ds_retP de_str,fun xs=>.inr rfl⟩)
theorem mk_BadPit (T:Txt K mg):MOk P w K mg base 1 "called" "BadPit":=by
  obtain ⟨C,f,fd,h1,h2,h3,F⟩:=T.m_BadPit
  obtain ⟨C2,c1,_,c2,_⟩:=xTab_one T.x_tab (n := "BadPit") (by decide)
  obtain rfl:=c1.inj h1
  refine ⟨C2,f,fd,h1,c2,h2,h3,F.kp,F.binds (fun _ _ _ _ _ _ us hl=>match us,hl with | [_],_=>rfl), ?_⟩
  exact F.okP scm_BadPit rfl rfl (fun cdv A outer s H E hr=>⟨_,_,⟨[],[],[],.P⟩,rfl,pss_one (ps_ret pe_str),ds_retP de_str,fun xs=>.inr rfl⟩)
theorem mk_NoSeeds (T:Txt K mg):MOk P w K mg base 1 "called" "NoSeeds":=by
  obtain ⟨C,f,fd,h1,h2,h3,F⟩:=T.m_NoSeeds
  obtain ⟨C2,c1,_,c2,_⟩:=xTab_one T.x_tab (n := "NoSeeds") (by decide)
  obtain rfl:=c1.inj h1
  refine ⟨C2,f,fd,h1,c2,h2,h3,F.kp,F.binds (fun _ _ _ _ _ _ us hl=>match us,hl with | [_],_=>rfl), ?_⟩
  exact F.okP scm_NoSeeds rfl rfl (fun cdv A outer s H E hr=>⟨_,_,⟨[],[],[],.P⟩,rfl,pss_one (ps_ret pe_str),ds_retP de_str,fun xs=>.inr rfl⟩)
theorem mk_BadPlan (T:Txt K mg):MOk P w K mg base 1 "called" "BadPlan":=by
  obtain ⟨C,f,fd,h1,h2,h3,F⟩:=T.m_BadPlan
  obtain ⟨C2,c1,_,c2,_⟩:=xTab_one T.x_tab (n := "BadPlan") (by decide)
  obtain rfl:=c1.inj h1
  refine ⟨C2,f,fd,h1,c2,h2,h3,F.kp,F.binds (fun _ _ _ _ _ _ us hl=>match us,hl with | [_],_=>rfl), ?_⟩
  exact F.okP scm_BadPlan rfl rfl (fun cdv A outer s H E hr=>⟨_,_,⟨[],[],[],.P⟩,rfl,pss_one (ps_ret pe_str),ds_retP de_str,fun xs=>.inr rfl⟩)
theorem mk_all (T:Txt K mg):∀ n∈XN,MOk P w K mg base 1 "called" n:=fun n hn=>by
  simp only [XN,List.mem_cons,List.not_mem_nil,or_false] at hn
  rcases hn with rfl | rfl | rfl | rfl | rfl
  · exact mk_SowError T
  · exact mk_BadBoard T
  · exact mk_BadPit T
  · exact mk_NoSeeds T
  · exact mk_BadPlan T
theorem ini_BadPlan (T:Txt K mg):IniOk P w K mg base 1 "BadPlan":=by
  obtain ⟨C,f,fd,S,h1,h2,h3,h4,h5,F,h7,h8⟩:=T.i_BadPlan
  obtain ⟨oI,k1,k2⟩:=typeIn_look h5
  refine ⟨C,f,fd,oI,h1,h2,h3,k1,k2,fn_init (k:=0) F sci_BadPlan (fun cdv A outer s H E hr=>?_),F.binds (fun _ _ _ _ _ _ us hl=>match us,hl with | [_,_,_],_=>rfl)⟩
  exact pss_cons (ps_expr (pe_xinit h2 h8 rfl (T.x_mg _ _ h7) (pa_cons (pv 0) (pa_cons (pv 1) pa_nil)))) (pss_one (ps_xset rfl h4 (pv 0) (pv 2)))
theorem lx_SowError_BadPlan {i:Int}:pIsX XL_SowError (.exa "BadPlan" i)=.ok (.bl true):=pIsX_exa (by decide)
theorem lx_BadPlan_BadPlan {i:Int}:pIsX XL_BadPlan (.exa "BadPlan" i)=.ok (.bl true):=pIsX_exa (by decide)
theorem lc_BadPlan {i:Int}:pCalled XN (.exa "BadPlan" i)=.ok (.str "BadPlan"):=pCalled_exa (by decide)
theorem la_BadPlan {i:Int}:pAt XA (.exa "BadPlan" i)=.ok (.int i):=pAt_exa (by decide)
theorem lt_1_BadPlan {i:Int}:pIsXs [XL_BadPit,XL_NoSeeds] (.exa "BadPlan" i)=.ok (.bl false):=pIsXs_exa (by decide)
theorem ls_BadPlan:PyData.canLay0 (.str "BadPlan")=true:=by rw [PyData.canLay0]; decide +kernel
theorem le_BadPlan_BadPlan {g:Bool→Bool}:pEqG g (.str "BadPlan") (.str "BadPlan")=.ok (.bl (g true)):=pEq_str ls_BadPlan ls_BadPlan
set_option hygiene false
local macro_rules | `(tactic| walk_at "pd")=>`(tactic| try simp -implicitDefEqProofs (disch:=first | omega | (simp only [List.length_map,List.length_append,List.length_set,List.length_replicate,List.length_cons,List.length_nil,List.length_take,List.length_drop,List.length_range,rngP_length]; omega) | decide) only [gv_zero,gv_succ,List.set_cons_zero,List.set_cons_succ,List.cons_append,List.nil_append,repN_succ,repN_zero,List.getElem?_cons_zero,Rr.bind_ok,Rr.bind_exc,Rr.bind_bad,Rr.thenS_ok,Rr.thenS_exc,RS.seq_next,RS.seq_ret,RS.seq_exc,RS.out_next,RS.out_ret,RS.out_exc,
  pAdd_ok,pSub_ok,pLt_ok,pLe_ok,pGt_ok,pGe_ok,grd_int,grd_t_si,asB_bl,asL_lst,pIxT_0,asI_int,pIsi_i,pIsi_l,pIsi_t,pIsN_non,pNeg_ok,pIx_t0,pIx_t1,isSub_ii,isSub_ib,isSub_ll,isSub_tt,pEq_int,pEq_ints,pEq_nil,pLen_ints,pLen_t2,p1062,p1061,p1059,pSum_ints,List.length_cons,List.length_nil,Bool.not_true,Bool.not_false,Bool.false_eq_true,if_true,if_false,Nat.reduceAdd,Nat.reduceSub,id,List.map_cons,List.map_nil,Int.reduceToNat,pDiv_small,pMod_ok,p1060,mkL_ok,mkT_ok,pEnum_ok,asT_2,asT_3,hdR_cons,nilR_nil,Nat.reduceLeDiff,Nat.le_refl,Int.reduceLT,Int.reduceLE,Int.reduceEq,decide_true,decide_false,
  pIx_ints,pSet_ints,pApp_ints,pChain_ok,pMax2_ok,pRng1_ok,pRng2_ok,lenM_ok,pList_ints,newF_ints,cut_from,tryR_eq,tryX_next,tryX_inA,raiseP_ok,pIsN_exa,orX_none,orX_some,pAll_bls,beq_self_eq_true,Bool.and_true,Bool.true_and,Bool.and_false,Bool.false_and,pMul_b,lx_SowError_BadPlan,lx_BadPlan_BadPlan,la_BadPlan,lc_BadPlan,lt_1_BadPlan,le_BadPlan_BadPlan])
set_option hygiene true
noncomputable def pm__law_cell_at:Pm:=⟨List Int × Int,fun a=>[.lst (a.1.map PV.int),.int a.2],fun a=>0≤a.2,fun a=>.ok (.int (cellAt a.1 a.2.toNat))⟩
theorem fn__law_cell_at (T:Txt K mg) {f:Addr} {fd:FuncData} (F:Fun K "_law_cell_at" "_law_cell_at" s__law_cell_at f fd):FnOk P w K mg base CX0 1 f fd ["script", "k"] (spF K 2 .P W0 pm__law_cell_at.fn):=by
  refine F.okP sc__law_cell_at rfl rfl (fun cdv A outer s H E hr=>?_)
  have hu:=hr.units
  refine ⟨_,_,⟨[],[],[],.P⟩,rfl,(pss_cons (ps_if (pt_cmpR op_lt (pv 1) (pe_callB (call_lenK (K:=K)) rfl T.z_len bb_len (pa_cons (pv 0) pa_nil)) (nomark _)) (pss_one (ps_ret (pe_op op_mod (pe_ix (ix_seqK (K:=K)) (pv 0) (pv 1) (fun _ _=>rfl)) (pe_op op_pow pe_int pe_int)))) pss_nil)
      (pss_one (ps_ret pe_int))),
      (ds_seq (Γm:=[.S,.S]) (ds_if (dt_test (DE.toA (de_lt (de_varA (i:=1) (m:=.S) rfl (by decide)) (DE.toA (de_len (daa_cons (de_varA (i:=0) (m:=.S) rfl (by decide)) daa_nil))))))
      (ds_retP (de_mod (de_ixA (te:=tC .non) (de_varA (i:=0) (m:=.S) rfl (by decide)) (de_varA (i:=1) (m:=.S) rfl (by decide))) (DE.toA (de_pow (DE.toA de_int) (DE.toA de_int)))))
      ds_next)
      (ds_retP de_int)), ?_⟩
  refine Pm.ref pm__law_cell_at (g:=fun xs=>_) ?_
  rintro ⟨ns,k⟩ (hk:0≤k)
  simp only [pm__law_cell_at]
  walk_at "pd"
  unfold cellAt
  by_cases h:k < ns.length
  · rw [decide_eq_true h]
    walk_at "pd"
  · rw [decide_eq_false h]
    walk_at "pd"
    rw [getD_len (by omega)]; rfl
theorem c__law_cell_at {ns:List Int} {k:Int} (h:0≤k):pm__law_cell_at.fn [.lst (ns.map PV.int),.int k]=.ok (.int (cellAt ns k.toNat)):=Pm.fn_eq pm__law_cell_at (ns,k) h fun (a:List Int × Int) e=>by (simp only [pm__law_cell_at,List.cons.injEq,PV.lst.injEq,PV.int.injEq,PV.str.injEq,PV.bl.injEq,PV.tup.injEq,ints_iff,and_true] at e ⊢; first | (simp only [e]; done) | (subst e; rfl) | (rw [e]))
noncomputable def pm__law_sums:Pm:=⟨List Int × Int × Int,fun a=>[.lst (a.1.map PV.int),.int a.2.1,.int a.2.2],fun a=>a.1.length≤1000∧(0≤a.2.1∧a.2.1≤1000)∧0 < a.2.2∧a.2.2≤1000,fun a=>.ok (.lst ((sumsK a.1 a.2.1.toNat a.2.2.toNat).map PV.int))⟩
theorem fn__law_sums (T:Txt K mg) {f:Addr} {fd:FuncData} (F:Fun K "_law_sums" "_law_sums" s__law_sums f fd):FnOk P w K mg base CX0 1 f fd ["script", "later", "most"] (spF K 3 .F W0 pm__law_sums.fn):=by
  refine F.okP sc__law_sums rfl rfl (fun cdv A outer s H E hr=>?_)
  have hu:=hr.units
  refine ⟨_,_,⟨[],[],[],.F⟩,rfl,(pss_cons (ps_setCompG (i:=3) sc__law_sums.nd rfl (pi_range1 rfl T.z_range (pa_cons (pv 2) pa_nil)) (pb_name sc__law_sums.nd) (fun _ _ _ _=>pc_nil) (fun _ _ _ _=>pe_int) hv1 rfl)
      (pss_cons (ps_for PassesOwn.never rfl (pi_range2 rfl T.z_range (pa_cons (pv 1) (pa_cons (pe_callB (call_lenK (K:=K)) rfl T.z_len bb_len (pa_cons (pv 0) pa_nil)) pa_nil))) (pg_name (i:=4) sc__law_sums.nd rfl (by first | exact Or.inl rfl | exact Or.inr rfl)) (pss_cons (ps_set (i:=5) sc__law_sums.nd rfl (by first | exact Or.inl rfl | exact Or.inr rfl) (pe_op op_mod (pe_op op_sub (pv 4) (pv 1)) (pv 2)))
      (pss_cons (ps_asg (pe_op op_add (pe_op op_mulB (pe_ix (ix_seqK (K:=K)) (pv 3) (pv 5) (fun _ _=>rfl)) pe_int) (pe_op op_mod (pe_ix (ix_seqK (K:=K)) (pv 0) (pv 4) (fun _ _=>rfl)) (pe_op op_pow pe_int pe_int))) (pg_sub (pv 3) (pv 5) set_list))
      (pss_one (ps_asg (pe_op op_mod (pe_ix (ix_seqK (K:=K)) (pv 3) (pv 5) (fun _ _=>rfl)) (pe_op op_pow pe_int pe_int)) (pg_sub (pv 3) (pv 5) set_list))))))
      (pss_one (ps_ret (pv 3))))),
      (ds_seq (Γm:=[.S,.S,.S,.O,.U,.U]) (ds_setCompG (i:=3) (de_compG (k:=1) (DI.c (di_rng1 (daa_cons (de_varA (i:=2) (m:=.S) rfl (by decide)) daa_nil))) db_1 dt_yes (DE.PF de_int)) (by decide))
      (ds_seq (Γm:=[.S,.S,.S,.O,.U,.U]) (ds_for (Γl:=[.S,.S,.S,.O,.U,.U]) (di_rng2 (daa_cons (de_varA (i:=1) (m:=.S) rfl (by decide)) (daa_cons (DE.toA (de_len (daa_cons (de_varA (i:=0) (m:=.S) rfl (by decide)) daa_nil))) daa_nil))) rfl (dg_P (i:=4) (by decide))
      (DS.out (Y:=⟨[.S,.S,.S,.O,.P,.P],[.S,.S,.S,.O,.U,.U],[.S,.S,.S,.O,.U,.U],.F⟩) (Y':=⟨[.S,.S,.S,.O,.U,.U],[.S,.S,.S,.O,.U,.U],[.S,.S,.S,.O,.U,.U],.F⟩) (ds_seq (Γm:=[.S,.S,.S,.O,.P,.P]) (ds_setP (i:=5) (de_mod (DE.toA (de_sub (DE.toA (de_varP (i:=4) rfl)) (de_varA (i:=1) (m:=.S) rfl (by decide)))) (de_varA (i:=2) (m:=.S) rfl (by decide))) (by decide))
      (ds_seq (Γm:=[.S,.S,.S,.O,.P,.P]) (ds_setItO (i:=3) rfl (de_add (DE.toA (de_mul (de_ixA (te:=tC .non) (de_varA (i:=3) (m:=.O) rfl (by decide)) (DE.toA (de_varP (i:=5) rfl))) (DE.toA de_int))) (DE.toA (de_mod (de_ixA (te:=tC .non) (de_varA (i:=0) (m:=.S) rfl (by decide)) (DE.toA (de_varP (i:=4) rfl))) (DE.toA (de_pow (DE.toA de_int) (DE.toA de_int)))))) (DE.toA (de_varP (i:=5) rfl)))
      (ds_setItO (i:=3) rfl (de_mod (de_ixA (te:=tC .non) (de_varA (i:=3) (m:=.O) rfl (by decide)) (DE.toA (de_varP (i:=5) rfl))) (DE.toA (de_pow (DE.toA de_int) (DE.toA de_int)))) (DE.toA (de_varP (i:=5) rfl))))) rfl rfl rfl rfl))
      (ds_retF (de_varM (i:=3) rfl)))), ?_⟩
  refine Pm.ref pm__law_sums (g:=fun xs=>_) ?_
  rintro ⟨ns,l,m⟩ ⟨hn,hl,h0,h1⟩
  simp only at hn hl h0 h1
  simp only [pm__law_sums]
  walk_at "pd"
  rw [filR_rng (p:=fun _=>true) (g:=fun _=>.int 0) (fun i hi=>rfl)]
  rw [show ((List.range m.toNat).filter fun _=>true).map (fun _=>PV.int 0)=(sumsI ns l.toNat m.toNat 0).map PV.int by
    rw [show ((List.range m.toNat).filter fun _=>true)=List.range m.toNat from List.filter_eq_self.mpr fun _ _=>rfl,sumsI,List.map_const',List.length_range,List.map_replicate]]
  walk_at "pd"
  generalize hw:forR _ _ _=W
  obtain ⟨ρ',rfl,v,u,rfl⟩:=forR_inv' hw (fun i ρ=>∃ v u,ρ=[.lst (ns.map PV.int),.int l,.int m,.lst ((sumsI ns l.toNat m.toNat i).map PV.int),v,u]) ⟨_,_,rfl⟩ (by
    rintro i x ρ hx ⟨v,u,rfl⟩
    obtain ⟨hi,rfl⟩:=rngP_get hx
    have hlen:(sumsI ns l.toNat m.toNat i).length=m.toNat:=sumsI_length _ _ _ _
    have m0:=Int.emod_nonneg (l + (i:Int) - l) (show m≠0 by omega)
    have m1:=Int.emod_lt_of_pos (l + (i:Int) - l) h0
    have e:((l + (i:Int) - l) % m).toNat=i % m.toNat:=by
      have:((i % m.toNat:Nat):Int)=(l + (i:Int) - l) % m:=by rw [Int.natCast_emod,Int.toNat_of_nonneg (by omega),show l + (i:Int) - l=i by omega]
      omega
    have hb:=getD_bd (P:=fun x=>0≤x∧x < 10 ^ 62) (sumsI_bd ns l.toNat m.toNat i) (by decide) ((l + (i:Int) - l) % m).toNat
    walk_at "pd"
    refine nextI ⟨.int (l + (i:Int)),.int ((l + (i:Int) - l) % m), ?_⟩
    rw [List.set_set,L2.getD_set (by omega),if_pos rfl,sumsI,e,show (l + (i:Int)).toNat=l.toNat + i by omega])
  walk_at "pd"
  rw [rngP_length]
  unfold sumsK
  rw [show ((ns.length:Int) - l).toNat=ns.length - l.toNat by omega]
theorem c__law_sums {ns:List Int} {l m:Int} (h:ns.length≤1000∧(0≤l∧l≤1000)∧0 < m∧m≤1000):pm__law_sums.fn [.lst (ns.map PV.int),.int l,.int m]=.ok (.lst ((sumsK ns l.toNat m.toNat).map PV.int)):=Pm.fn_eq pm__law_sums (ns,l,m) h fun (a:List Int × Int × Int) e=>by (simp only [pm__law_sums,List.cons.injEq,PV.lst.injEq,PV.int.injEq,PV.str.injEq,PV.bl.injEq,PV.tup.injEq,ints_iff,and_true] at e ⊢; first | (simp only [e]; done) | (subst e; rfl) | (rw [e]))
noncomputable def pm__law_stirred:Pm:=⟨Int × Int,fun a=>[.int a.1,.int a.2],fun a=>0≤a.2∧a.2≤1000000,fun a=>.ok (.int (stir a.1 a.2))⟩
theorem fn__law_stirred (T:Txt K mg) {f:Addr} {fd:FuncData} (F:Fun K "_law_stirred" "_law_stirred" s__law_stirred f fd):FnOk P w K mg base CX0 1 f fd ["cell", "j"] (spF K 2 .P W0 pm__law_stirred.fn):=by
  refine F.okP sc__law_stirred rfl rfl (fun cdv A outer s H E hr=>?_)
  have hu:=hr.units
  refine ⟨_,_,⟨[],[],[],.P⟩,rfl,(pss_cons (ps_set (i:=2) sc__law_stirred.nd rfl (by first | exact Or.inl rfl | exact Or.inr rfl) (pe_op op_mod (pe_op op_mulB (pe_op op_add (pe_op op_add (pe_op op_mod (pv 0) pe_int) (pe_op op_mulB pe_int (pv 1))) pe_int) pe_int) pe_int))
      (pss_one (ps_ret (pe_op op_fdivB (pe_op op_mod (pe_op op_mulB (pv 2) (pv 2)) pe_int) pe_int)))),
      (ds_seq (Γm:=[.S,.S,.P]) (ds_setP (i:=2) (de_mod (DE.toA (de_mul (DE.toA (de_add (DE.toA (de_add (DE.toA (de_mod (de_varA (i:=0) (m:=.S) rfl (by decide)) (DE.toA de_int))) (DE.toA (de_mul (DE.toA de_int) (de_varA (i:=1) (m:=.S) rfl (by decide)))))) (DE.toA de_int))) (DE.toA de_int))) (DE.toA de_int)) (by decide))
      (ds_retP (de_div (DE.toA (de_mod (DE.toA (de_mul (DE.toA (de_varP (i:=2) rfl)) (DE.toA (de_varP (i:=2) rfl)))) (DE.toA de_int))) (DE.toA de_int)))), ?_⟩
  refine Pm.ref pm__law_stirred (g:=fun xs=>_) ?_
  rintro ⟨c,j⟩ ⟨h0,h1⟩
  simp only at h0 h1
  simp only [pm__law_stirred]
  walk_at "pd"
  rfl
theorem c__law_stirred {c j:Int} (h:0≤j∧j≤1000000):pm__law_stirred.fn [.int c,.int j]=.ok (.int (stir c j)):=Pm.fn_eq pm__law_stirred (c,j) h fun (a:Int × Int) e=>by (simp only [pm__law_stirred,List.cons.injEq,PV.lst.injEq,PV.int.injEq,PV.str.injEq,PV.bl.injEq,PV.tup.injEq,ints_iff,and_true] at e ⊢; first | (simp only [e]; done) | (subst e; rfl) | (rw [e]))
noncomputable def pm__law_row:Pm:=⟨List Int × Int × Int × Int × Bool,fun a=>[.lst (a.1.map PV.int),.int a.2.1,.int a.2.2.1,.int a.2.2.2.1,.bl a.2.2.2.2],fun a=>a.1.length≤1000∧(0≤a.2.1∧a.2.1≤1000)∧(0 < a.2.2.1∧a.2.2.1≤1000)∧0 < a.2.2.2.1∧a.2.2.2.1≤1000000,fun a=>.ok (.lst ((rowK a.1 a.2.1 a.2.2.1 a.2.2.2.1 a.2.2.2.2).map PV.int))⟩
theorem fn__law_row (T:Txt K mg) {f:Addr} {fd:FuncData} (F:Fun K "_law_row" "_law_row" s__law_row f fd):FnOk P w K mg base CX0 2 f fd ["script", "skip", "many", "base", "mixed"] (spF K 5 .F W0 pm__law_row.fn):=by
  have G__law_sums:=okOf (P:=P) (w:=w) (base:=base) T.d__law_sums bd__law_sums (fun F=>fn__law_sums T F)
  have G__law_stirred:=okOf (P:=P) (w:=w) (base:=base) T.d__law_stirred bd__law_stirred (fun F=>fn__law_stirred T F)
  refine F.okP sc__law_row rfl rfl (fun cdv A outer s H E hr=>?_)
  have hu:=hr.units
  refine ⟨_,_,⟨[],[],[],.F⟩,rfl,(pss_cons (ps_if (pt_val (pv 4)) (pss_cons (ps_set (i:=5) sc__law_row.nd rfl (by first | exact Or.inl rfl | exact Or.inr rfl) (pe_callO G__law_sums (hr.mono (by decide)) rfl (pa_cons (pv 0) (pa_cons (pv 1) (pa_cons (pe_callB (call_max2 rfl) rfl T.z_max bb_max (pa_cons pe_int (pa_cons (pv 2) pa_nil))) pa_nil)))))
      (pss_one (ps_ret (pe_compG (pi_range1 rfl T.z_range (pa_cons (pv 2) pa_nil)) (pb_name sc__law_row.nd) (fun _ _ _ _=>pc_nil) (fun _ _ _ _=>(pe_op op_mod (pe_callO G__law_stirred (hr.mono (by decide)) rfl (pa_cons (pe_ix (ix_seqK (K:=K)) (pv 5) (pv 9) (fun _ _=>rfl)) (pa_cons (pv 9) pa_nil))) (pv 3))) hv1 sc__law_row.nd rfl)))) pss_nil)
      (pss_cons (ps_set (i:=6) sc__law_row.nd rfl (by first | exact Or.inl rfl | exact Or.inr rfl) (pe_callB (call_sumK (K:=K) rfl) rfl T.z_sum bb_sum (pa_cons (pe_comp (pi_listK (K:=K) (pe_slice (sl_listK (K:=K)) (pv 0) (po_some (pv 1)) po_none)) (fun _ _ _ _=>(pe_op op_mod (pv 9) (pe_op op_pow pe_int pe_int))) sc__law_row.nd rfl) pa_nil)))
      (pss_cons (ps_set (i:=7) sc__law_row.nd rfl (by first | exact Or.inl rfl | exact Or.inr rfl) (pe_lst pa_nil))
      (pss_cons (ps_for PassesOwn.never rfl (pi_range1 rfl T.z_range (pa_cons (pv 2) pa_nil)) (pg_name (i:=8) sc__law_row.nd rfl (by first | exact Or.inl rfl | exact Or.inr rfl)) (pss_cons (ps_expr (pe_bm PySem.F.plainAttrs_list PySem.F.slot_list_append PySem.F.type_list_append mt_append (pv 7) (pa_cons (pe_op op_mod (pv 6) (pv 3)) pa_nil)))
      (pss_one (ps_set (i:=6) sc__law_row.nd rfl (by first | exact Or.inl rfl | exact Or.inr rfl) (pe_op op_fdivB (pv 6) (pv 3))))))
      (pss_one (ps_ret (pv 7))))))),
      (ds_seq (Γm:=[.S,.S,.S,.S,.S,.U,.U,.U,.U]) (ds_if (dt_b (de_varA (i:=4) (m:=.S) rfl (by decide)))
      (ds_seq (Γm:=[.S,.S,.S,.S,.S,.O,.U,.U,.U]) (ds_setF (i:=5) (dc_F (len_cons (len_cons (len_cons len_nil))) (daa_cons (de_varA (i:=0) (m:=.S) rfl (by decide)) (daa_cons (de_varA (i:=1) (m:=.S) rfl (by decide)) (daa_cons (DE.toA (de_max2 (daa_cons (DE.toA de_int) (daa_cons (de_varA (i:=2) (m:=.S) rfl (by decide)) daa_nil)))) daa_nil)))) (by decide))
      (ds_retF (de_compG (k:=1) (DI.c (di_rng1 (daa_cons (de_varA (i:=2) (m:=.S) rfl (by decide)) daa_nil))) db_1 dt_yes (DE.PF (de_mod (DE.toA (dc_P (len_cons (len_cons len_nil)) (daa_cons (de_ixA (te:=tC .non) (de_varA (i:=5) (m:=.O) rfl (by decide)) (de_varA (i:=9) (m:=.S) rfl (by decide))) (daa_cons (de_varA (i:=9) (m:=.S) rfl (by decide)) daa_nil)))) (de_varA (i:=3) (m:=.S) rfl (by decide)))))))
      ds_next)
      (ds_seq (Γm:=[.S,.S,.S,.S,.S,.U,.P,.U,.U]) (ds_setP (i:=6) (de_sum (daa_cons (DE.toA (de_compF (DI.c (di_list (DE.FZ (de_slF (de_varA (i:=0) (m:=.S) rfl (by decide)) (do_some (de_varA (i:=1) (m:=.S) rfl (by decide))) do_none)))) (DE.PF (de_mod (de_varA (i:=9) (m:=.S) rfl (by decide)) (DE.toA (de_pow (DE.toA de_int) (DE.toA de_int))))))) daa_nil)) (by decide))
      (ds_seq (Γm:=[.S,.S,.S,.S,.S,.U,.P,.O,.U]) (ds_setF (i:=7) (de_lstF daf_nil) (by decide))
      (ds_seq (Γm:=[.S,.S,.S,.S,.S,.U,.P,.O,.U]) (ds_for (Γl:=[.S,.S,.S,.S,.S,.U,.P,.O,.U]) (di_rng1 (daa_cons (de_varA (i:=2) (m:=.S) rfl (by decide)) daa_nil)) rfl (dg_P (i:=8) (by decide))
      (DS.out (Y:=⟨[.S,.S,.S,.S,.S,.U,.P,.O,.P],[.S,.S,.S,.S,.S,.U,.P,.O,.U],[.S,.S,.S,.S,.S,.U,.P,.O,.U],.F⟩) (Y':=⟨[.S,.S,.S,.S,.S,.U,.P,.O,.U],[.S,.S,.S,.S,.S,.U,.P,.O,.U],[.S,.S,.S,.S,.S,.U,.P,.O,.U],.F⟩) (ds_seq (Γm:=[.S,.S,.S,.S,.S,.U,.P,.O,.P]) (ds_appO (i:=7) rfl rfl (DE.PF (de_mod (DE.toA (de_varP (i:=6) rfl)) (de_varA (i:=3) (m:=.S) rfl (by decide)))))
      (ds_setP (i:=6) (de_div (DE.toA (de_varP (i:=6) rfl)) (de_varA (i:=3) (m:=.S) rfl (by decide))) (by decide))) rfl rfl rfl rfl))
      (ds_retF (de_varM (i:=7) rfl)))))), ?_⟩
  refine Pm.ref pm__law_row (g:=fun xs=>_) ?_
  rintro ⟨ns,sk,m,b,mx⟩ ⟨hn,hl,hm,h0,h1⟩
  simp only at hn hl hm h0 h1
  simp only [pm__law_row]
  walk_at "pd"
  unfold rowK
  cases mx with
  | true =>
    rw [if_pos rfl]
    walk_at "pd"
    rw [show (if m > 1 then m else 1)=m by split <;> omega,show max 1 m.toNat=m.toNat by omega]
    rw [c__law_sums ⟨hn,hl,hm⟩]
    walk_at "pd"
    rw [filR_rng (p:=fun _=>true) (g:=fun j=>.int (stir ((sumsK ns sk.toNat m.toNat).getD j 0) j % b)) (fun i hi=>by
      have hlen:(sumsK ns sk.toNat m.toNat).length=m.toNat:=sumsK_length _ _ _
      rw [Int.zero_add]
      walk_at "pd"
      rw [c__law_stirred ⟨by omega,by omega⟩]
      walk_at "pd"
      rw [Int.toNat_natCast])]
    walk_at "pd"
    rw [show ((List.range m.toNat).filter fun _=>true)=List.range m.toNat from List.filter_eq_self.mpr fun _ _=>rfl,List.map_map]
    rfl
  | false =>
    rw [if_neg (by decide)]
    walk_at "pd"
    rw [map_ints (g:=fun c=>c % 10 ^ 61) (fun z _=>pMod_ok (by decide))]
    generalize hsum:((ns.drop sk.toNat).map fun (c:Int)=>c % 10 ^ 61)=cs
    walk_at "pd"
    generalize hw:forR _ _ _=W
    obtain ⟨ρ',rfl,v,rfl⟩:=forR_inv' hw (fun i ρ=>∃ v,ρ=[.lst (ns.map PV.int),.int sk,.int m,.int b,.bl false,.non,.int (totK cs.sum b i),.lst ((digK cs.sum b i).map PV.int),v]) ⟨_,rfl⟩ (by
      rintro i x ρ hx ⟨v,rfl⟩
      obtain ⟨hi,rfl⟩:=rngP_get hx
      have hlen:(digK cs.sum b i).length=i:=digK_length _ _ _
      walk_at "pd"
      exact nextI ⟨.int (0 + (i:Int)),by rw [digK_succ,totK]⟩)
    walk_at "pd"
    rw [rngP_length]
theorem c__law_row {ns:List Int} {sk m b:Int} {mx:Bool} (h:ns.length≤1000∧(0≤sk∧sk≤1000)∧(0 < m∧m≤1000)∧0 < b∧b≤1000000):pm__law_row.fn [.lst (ns.map PV.int),.int sk,.int m,.int b,.bl mx]=.ok (.lst ((rowK ns sk m b mx).map PV.int)):=Pm.fn_eq pm__law_row (ns,sk,m,b,mx) h fun (a:List Int × Int × Int × Int × Bool) e=>by (simp only [pm__law_row,List.cons.injEq,PV.lst.injEq,PV.int.injEq,PV.str.injEq,PV.bl.injEq,PV.tup.injEq,ints_iff,and_true] at e ⊢; first | (simp only [e]; done) | (subst e; rfl) | (rw [e]))
noncomputable def pm__law_board:Pm:=⟨List Int × Int,fun a=>[.lst (a.1.map PV.int),.int a.2],fun a=>a.1.length≤1000∧0≤a.2∧a.2≤1000,fun a=>.ok (.lst ((brd14 a.1 a.2).map PV.int))⟩
theorem fn__law_board (T:Txt K mg) {f:Addr} {fd:FuncData} (F:Fun K "_law_board" "_law_board" s__law_board f fd):FnOk P w K mg base CX0 3 f fd ["script", "most"] (spF K 2 .F W0 pm__law_board.fn):=by
  have G__law_cell_at:=okOf (P:=P) (w:=w) (base:=base) T.d__law_cell_at bd__law_cell_at (fun F=>fn__law_cell_at T F)
  have G__law_row:=okOf (P:=P) (w:=w) (base:=base) T.d__law_row bd__law_row (fun F=>fn__law_row T F)
  have G__law_sums:=okOf (P:=P) (w:=w) (base:=base) T.d__law_sums bd__law_sums (fun F=>fn__law_sums T F)
  refine F.okP sc__law_board rfl rfl (fun cdv A outer s H E hr=>?_)
  have hu:=hr.units
  refine ⟨_,_,⟨[],[],[],.F⟩,rfl,(pss_cons (ps_set (i:=2) sc__law_board.nd rfl (by first | exact Or.inl rfl | exact Or.inr rfl) (pe_callO G__law_cell_at (hr.mono (by decide)) rfl (pa_cons (pv 0) (pa_cons pe_int pa_nil))))
      (pss_cons (ps_set (i:=3) sc__law_board.nd rfl (by first | exact Or.inl rfl | exact Or.inr rfl) (pe_op op_add pe_int (pe_op op_mod (pe_op op_fdivB (pv 2) pe_int) pe_int)))
      (pss_cons (ps_if (pt_cmpR (op_eqD (K:=K) hu) (pe_op op_mod (pv 2) pe_int) pe_int (nomark _)) (pss_cons (ps_set (i:=4) sc__law_board.nd rfl (by first | exact Or.inl rfl | exact Or.inr rfl) (pe_callO G__law_sums (hr.mono (by decide)) rfl (pa_cons (pv 0) (pa_cons pe_int (pa_cons (pv 3) pa_nil)))))
      (pss_one (ps_ret (pe_comp (pi_range1 rfl T.z_range (pa_cons (pv 3) pa_nil)) (fun _ _ _ _=>(pe_op op_mod (pe_ix (ix_seqK (K:=K)) (pv 4) (pv 5) (fun _ _=>rfl)) (pe_op op_pow pe_int pe_int))) sc__law_board.nd rfl)))) pss_nil)
      (pss_one (ps_ret (pe_callO G__law_row (hr.mono (by decide)) rfl (pa_cons (pv 0) (pa_cons pe_int (pa_cons (pv 3) (pa_cons (pe_op op_add (pv 1) pe_int) (pa_cons (pe_cmpR (op_eqD (K:=K) hu) (pe_op op_mod (pv 2) pe_int) pe_int (nomark _)) pa_nil))))))))))),
      (ds_seq (Γm:=[.S,.S,.P,.U,.U]) (ds_setP (i:=2) (dc_P (len_cons (len_cons len_nil)) (daa_cons (de_varA (i:=0) (m:=.S) rfl (by decide)) (daa_cons (DE.toA de_int) daa_nil))) (by decide))
      (ds_seq (Γm:=[.S,.S,.P,.P,.U]) (ds_setP (i:=3) (de_add (DE.toA de_int) (DE.toA (de_mod (DE.toA (de_div (DE.toA (de_varP (i:=2) rfl)) (DE.toA de_int))) (DE.toA de_int)))) (by decide))
      (ds_seq (Γm:=[.S,.S,.P,.P,.U]) (ds_if (dt_test (DE.toA (de_eqG (g:=id) (DE.toA (de_mod (DE.toA (de_varP (i:=2) rfl)) (DE.toA de_int))) (DE.toA de_int))))
      (ds_seq (Γm:=[.S,.S,.P,.P,.O]) (ds_setF (i:=4) (dc_F (len_cons (len_cons (len_cons len_nil))) (daa_cons (de_varA (i:=0) (m:=.S) rfl (by decide)) (daa_cons (DE.toA de_int) (daa_cons (DE.toA (de_varP (i:=3) rfl)) daa_nil)))) (by decide))
      (ds_retF (de_compF (DI.c (di_rng1 (daa_cons (DE.toA (de_varP (i:=3) rfl)) daa_nil))) (DE.PF (de_mod (de_ixA (te:=tC .non) (de_varA (i:=4) (m:=.O) rfl (by decide)) (de_varA (i:=5) (m:=.S) rfl (by decide))) (DE.toA (de_pow (DE.toA de_int) (DE.toA de_int))))))))
      ds_next)
      (ds_retF (dc_F (len_cons (len_cons (len_cons (len_cons (len_cons len_nil))))) (daa_cons (de_varA (i:=0) (m:=.S) rfl (by decide)) (daa_cons (DE.toA de_int) (daa_cons (DE.toA (de_varP (i:=3) rfl)) (daa_cons (DE.toA (de_add (de_varA (i:=1) (m:=.S) rfl (by decide)) (DE.toA de_int))) (daa_cons (DE.toA (de_eqG (g:=id) (DE.toA (de_mod (DE.toA (de_varP (i:=2) rfl)) (DE.toA de_int))) (DE.toA de_int))) daa_nil)))))))))), ?_⟩
  refine Pm.ref pm__law_board (g:=fun xs=>_) ?_
  rintro ⟨ns,m⟩ ⟨hn,h0,h1⟩
  simp only at hn h0 h1
  simp only [pm__law_board]
  have hp:=pits14_bd ns
  walk_at "pd"
  rw [c__law_cell_at (by omega)]
  walk_at "pd"
  unfold brd14
  unfold pits14 at hp ⊢
  by_cases h:cellAt ns 0 % 16=7
  · rw [decide_eq_true h,if_pos h]
    walk_at "pd"
    rw [c__law_sums ⟨hn,by omega,by omega,by omega⟩]
    walk_at "pd"
    rw [map_rng (g:=fun j=>(sumsK ns 3 (2 + cellAt ns 0 / 4 % 5).toNat).getD j 0 % 10 ^ 58) (fun i hi=>by
      rw [Int.zero_add]
      have hlen:(sumsK ns 3 (2 + cellAt ns 0 / 4 % 5).toNat).length=(2 + cellAt ns 0 / 4 % 5).toNat:=sumsK_length _ _ _
      walk_at "pd"
      rw [show pPow (.int 10) (.int 58)=.ok (.int (10 ^ 58)) by rw [pPow_ok (by decide)]; rfl]
      walk_at "pd"
      rw [Int.toNat_natCast])]
    walk_at "pd"
  · rw [decide_eq_false h,if_neg h]
    walk_at "pd"
    rw [c__law_row ⟨hn,by omega,by omega,by omega,by omega⟩]
    walk_at "pd"
theorem c__law_board {ns:List Int} {m:Int} (h:ns.length≤1000∧0≤m∧m≤1000):pm__law_board.fn [.lst (ns.map PV.int),.int m]=.ok (.lst ((brd14 ns m).map PV.int)):=Pm.fn_eq pm__law_board (ns,m) h fun (a:List Int × Int) e=>by (simp only [pm__law_board,List.cons.injEq,PV.lst.injEq,PV.int.injEq,PV.str.injEq,PV.bl.injEq,PV.tup.injEq,ints_iff,and_true] at e ⊢; first | (simp only [e]; done) | (subst e; rfl) | (rw [e]))
noncomputable def pm__law_pit:Pm:=⟨List Int × Int,fun a=>[.lst (a.1.map PV.int),.int a.2],fun a=>a.1.length≤1000,fun a=>.ok (.int (pitK a.1 a.2))⟩
theorem fn__law_pit (T:Txt K mg) {f:Addr} {fd:FuncData} (F:Fun K "_law_pit" "_law_pit" s__law_pit f fd):FnOk P w K mg base CX0 1 f fd ["board", "cell"] (spF K 2 .P W0 pm__law_pit.fn):=by
  refine F.okP sc__law_pit rfl rfl (fun cdv A outer s H E hr=>?_)
  have hu:=hr.units
  refine ⟨_,_,⟨[],[],[],.P⟩,rfl,(pss_cons (ps_setCompG (i:=2) sc__law_pit.nd rfl (pi_range1 rfl T.z_range (pa_cons (pe_callB (call_lenK (K:=K)) rfl T.z_len bb_len (pa_cons (pv 0) pa_nil)) pa_nil)) (pb_name sc__law_pit.nd) (fun _ _ _ _=>(pc_one (fun _ _ h=>h) (pt_cmpR op_gt (pe_ix (ix_seqK (K:=K)) (pv 0) (pv 3) (fun _ _=>rfl)) pe_int (nomark _)))) (fun _ _ _ _=>(pv 3)) hv1 rfl)
      (pss_cons (ps_if (pt_cmpR (op_eqD (K:=K) hu) (pv 2) (pe_lst pa_nil) (nomark _)) (pss_one (ps_ret pe_int)) pss_nil)
      (pss_one (ps_ret (pe_ix (ix_seqK (K:=K)) (pv 2) (pe_op op_mod (pe_op op_fdivB (pv 1) pe_int) (pe_callB (call_lenK (K:=K)) rfl T.z_len bb_len (pa_cons (pv 2) pa_nil))) (fun _ _=>rfl)))))),
      (ds_seq (Γm:=[.S,.S,.O]) (ds_setCompG (i:=2) (de_compG (k:=1) (DI.c (di_rng1 (daa_cons (DE.toA (de_len (daa_cons (de_varA (i:=0) (m:=.S) rfl (by decide)) daa_nil))) daa_nil))) db_1 (dt_test (DE.toA (de_gt (de_ixA (te:=tC .non) (de_varA (i:=0) (m:=.S) rfl (by decide)) (de_varA (i:=3) (m:=.S) rfl (by decide))) (DE.toA de_int)))) (DE.PF (DE.grd (de_varA (i:=3) (m:=.S) rfl (by decide))))) (by decide))
      (ds_seq (Γm:=[.S,.S,.O]) (ds_if (dt_test (DE.toA (de_eqG (g:=id) (de_varA (i:=2) (m:=.O) rfl (by decide)) (DE.toA (de_lstF daf_nil)))))
      (ds_retP de_int)
      ds_next)
      (ds_retP (DE.grd (de_ixA (te:=tC .non) (de_varA (i:=2) (m:=.O) rfl (by decide)) (DE.toA (de_mod (DE.toA (de_div (de_varA (i:=1) (m:=.S) rfl (by decide)) (DE.toA de_int))) (DE.toA (de_len (daa_cons (de_varA (i:=2) (m:=.O) rfl (by decide)) daa_nil)))))))))), ?_⟩
  refine Pm.ref pm__law_pit (g:=fun xs=>_) ?_
  rintro ⟨bs,c⟩ (hn:bs.length≤1000)
  simp only [pm__law_pit]
  walk_at "pd"
  rw [filR_rng (p:=fun i=>decide (0 < bs.getD i 0)) (g:=fun i=>.int i) (fun i hi=>by
    rw [Int.zero_add]
    walk_at "pd"
    rw [Int.toNat_natCast]
    by_cases h:0 < bs.getD i 0
    · rw [decide_eq_true h]; rfl
    · rw [decide_eq_false h]; rfl)]
  walk_at "pd"
  rw [show (bs.length:Int).toNat=bs.length by omega]
  rw [show (((List.range bs.length).filter fun (i:Nat)=>decide (0 < bs.getD i 0)).map fun (i:Nat)=>PV.int i)=(someI bs).map PV.int by unfold someI; rw [List.map_map]; rfl]
  have hl:(someI bs).length≤bs.length:=by
    unfold someI
    rw [List.length_map]
    have:=List.length_filter_le (fun (i:Nat)=>decide (0 < bs.getD i 0)) (List.range bs.length)
    simpa using this
  walk_at "pd"
  unfold pitK
  by_cases h:someI bs=[]
  · rw [decide_eq_true h,if_pos h]
    walk_at "pd"
  · have hp:0 < (someI bs).length:=List.length_pos_iff.mpr h
    have m0:=Int.emod_nonneg (c / 3) (show ((someI bs).length:Int)≠0 by omega)
    have m1:=Int.emod_lt_of_pos (c / 3) (show (0:Int) < (someI bs).length by omega)
    rw [decide_eq_false h,if_neg h]
    walk_at "pd"
theorem c__law_pit {bs:List Int} {c:Int} (h:bs.length≤1000):pm__law_pit.fn [.lst (bs.map PV.int),.int c]=.ok (.int (pitK bs c)):=Pm.fn_eq pm__law_pit (bs,c) h fun (a:List Int × Int) e=>by (simp only [pm__law_pit,List.cons.injEq,PV.lst.injEq,PV.int.injEq,PV.str.injEq,PV.bl.injEq,PV.tup.injEq,ints_iff,and_true] at e ⊢; first | (simp only [e]; done) | (subst e; rfl) | (rw [e]))
theorem wSB_lay (c:Int):PyData.canLay0 (.str (wSB c))=true:=by
  unfold wSB
  split <;> (rw [PyData.canLay0]; decide +kernel)
theorem wOdd_lay (c:Int):PyData.canLay0 (.str (wOdd c))=true:=by
  unfold wOdd
  repeat' split
  all_goals (rw [PyData.canLay0]; decide +kernel)
theorem pIx_SB (c:Int):pIx (.lst [.str (Str.ofString "sow"),.str (Str.ofString "back")]) (.int (c % 2))=.ok (.str (wSB c)):=by
  unfold wSB
  have h:c % 2=0 ∨ c % 2=1:=by omega
  rcases h with h | h <;> rw [h] <;> rfl
theorem pIx_Odd (c:Int):pIx (.lst [.str (Str.ofString ""),.str (Str.ofString "sown"),.str (Str.ofString "Sow"),.str (Str.ofString "take"),.str (Str.ofString "BACK"),.str (Str.ofString "sow ")]) (.int (c % 6))=.ok (.str (wOdd c)):=by
  unfold wOdd
  have h:c % 6=0 ∨ c % 6=1 ∨ c % 6=2 ∨ c % 6=3 ∨ c % 6=4 ∨ c % 6=5:=by omega
  rcases h with h | h | h | h | h | h <;> rw [h] <;> rfl
theorem oddD_lay (b:List Int) (c:Int):PyData.canLay0 (.str (oddD b c).1)=true:=by
  unfold oddD
  repeat' split
  · exact wOdd_lay _
  · show PyData.canLay0 (.str "sow")=true; rw [PyData.canLay0]; decide +kernel
  · show PyData.canLay0 (.str "back")=true; rw [PyData.canLay0]; decide +kernel
  · show PyData.canLay0 (.str "back")=true; rw [PyData.canLay0]; decide +kernel
  · exact wSB_lay _
noncomputable def pm__law_odd:Pm:=⟨List Int × Int,fun a=>[.lst (a.1.map PV.int),.int a.2],fun a=>a.1.length≤1000,fun a=>.ok (.tup [.str (oddD a.1 a.2).1,.int (oddD a.1 a.2).2])⟩
theorem fn__law_odd (T:Txt K mg) {f:Addr} {fd:FuncData} (F:Fun K "_law_odd" "_law_odd" s__law_odd f fd):FnOk P w K mg base CX0 1 f fd ["board", "cell"] (spF K 2 .P W0 pm__law_odd.fn):=by
  refine F.okP sc__law_odd rfl rfl (fun cdv A outer s H E hr=>?_)
  have hu:=hr.units
  refine ⟨_,_,⟨[],[],[],.P⟩,rfl,(pss_cons (ps_set (i:=2) sc__law_odd.nd rfl (by first | exact Or.inl rfl | exact Or.inr rfl) (pe_op op_fdivB (pv 1) pe_int))
      (pss_cons (ps_set (i:=3) sc__law_odd.nd rfl (by first | exact Or.inl rfl | exact Or.inr rfl) (pe_op op_mod (pv 2) pe_int))
      (pss_cons (ps_if (pt_cmpR (op_eqD (K:=K) hu) (pe_op op_mod (pe_op op_fdivB (pv 2) pe_int) pe_int) pe_int (nomark _)) (pss_one (ps_set (i:=3) sc__law_odd.nd rfl (by first | exact Or.inl rfl | exact Or.inr rfl) (pe_op op_mod (pe_op op_fdivB (pv 2) pe_int) (pe_op op_pow pe_int pe_int)))) pss_nil)
      (pss_cons (ps_setCompG (i:=4) sc__law_odd.nd rfl (pi_range1 rfl T.z_range (pa_cons (pe_callB (call_lenK (K:=K)) rfl T.z_len bb_len (pa_cons (pv 0) pa_nil)) pa_nil)) (pb_name sc__law_odd.nd) (fun _ _ _ _=>(pc_one (fun _ _ h=>h) (pt_cmpR (op_eqD (K:=K) hu) (pe_ix (ix_seqK (K:=K)) (pv 0) (pv 5) (fun _ _=>rfl)) pe_int (nomark _)))) (fun _ _ _ _=>(pv 5)) hv1 rfl)
      (pss_cons (ps_if (pt_cmpR (op_eqD (K:=K) hu) (pe_op op_mod (pv 1) pe_int) pe_int (nomark _)) (pss_one (ps_ret (pe_tup (pa_cons (pe_ix (ix_seqK (K:=K)) (pe_lst (pa_cons pe_str (pa_cons pe_str (pa_cons pe_str (pa_cons pe_str (pa_cons pe_str (pa_cons pe_str pa_nil))))))) (pe_op op_mod (pv 2) pe_int) (fun _ _=>rfl)) (pa_cons pe_int pa_nil))))) pss_nil)
      (pss_cons (ps_if (pt_cmpR (op_eqD (K:=K) hu) (pe_op op_mod (pv 1) pe_int) pe_int (nomark _)) (pss_one (ps_ret (pe_tup (pa_cons pe_str (pa_cons (pe_op op_add (pe_callB (call_lenK (K:=K)) rfl T.z_len bb_len (pa_cons (pv 0) pa_nil)) (pv 3)) pa_nil))))) pss_nil)
      (pss_cons (ps_if (pt_cmpR (op_eqD (K:=K) hu) (pe_op op_mod (pv 1) pe_int) pe_int (nomark _)) (pss_one (ps_ret (pe_tup (pa_cons pe_str (pa_cons (pe_op op_sub (pe_un un_neg pe_int) (pv 3)) pa_nil))))) pss_nil)
      (pss_cons (ps_if (pt_cmpR (op_eqD (K:=K) hu) (pv 4) (pe_lst pa_nil) (nomark _)) (pss_one (ps_ret (pe_tup (pa_cons pe_str (pa_cons (pe_callB (call_lenK (K:=K)) rfl T.z_len bb_len (pa_cons (pv 0) pa_nil)) pa_nil))))) pss_nil)
      (pss_one (ps_ret (pe_tup (pa_cons (pe_ix (ix_seqK (K:=K)) (pe_lst (pa_cons pe_str (pa_cons pe_str pa_nil))) (pe_op op_mod (pv 1) pe_int) (fun _ _=>rfl)) (pa_cons (pe_ix (ix_seqK (K:=K)) (pv 4) (pe_op op_mod (pv 2) (pe_callB (call_lenK (K:=K)) rfl T.z_len bb_len (pa_cons (pv 4) pa_nil))) (fun _ _=>rfl)) pa_nil))))))))))))),
      (ds_seq (Γm:=[.S,.S,.P,.U,.U]) (ds_setP (i:=2) (de_div (de_varA (i:=1) (m:=.S) rfl (by decide)) (DE.toA de_int)) (by decide))
      (ds_seq (Γm:=[.S,.S,.P,.P,.U]) (ds_setP (i:=3) (de_mod (DE.toA (de_varP (i:=2) rfl)) (DE.toA de_int)) (by decide))
      (ds_seq (Γm:=[.S,.S,.P,.P,.U]) (ds_if (dt_test (DE.toA (de_eqG (g:=id) (DE.toA (de_mod (DE.toA (de_div (DE.toA (de_varP (i:=2) rfl)) (DE.toA de_int))) (DE.toA de_int))) (DE.toA de_int))))
      (ds_setP (i:=3) (de_mod (DE.toA (de_div (DE.toA (de_varP (i:=2) rfl)) (DE.toA de_int))) (DE.toA (de_pow (DE.toA de_int) (DE.toA de_int)))) (by decide))
      ds_next)
      (ds_seq (Γm:=[.S,.S,.P,.P,.O]) (ds_setCompG (i:=4) (de_compG (k:=1) (DI.c (di_rng1 (daa_cons (DE.toA (de_len (daa_cons (de_varA (i:=0) (m:=.S) rfl (by decide)) daa_nil))) daa_nil))) db_1 (dt_test (DE.toA (de_eqG (g:=id) (de_ixA (te:=tC .non) (de_varA (i:=0) (m:=.S) rfl (by decide)) (de_varA (i:=5) (m:=.S) rfl (by decide))) (DE.toA de_int)))) (DE.PF (DE.grd (de_varA (i:=5) (m:=.S) rfl (by decide))))) (by decide))
      (ds_seq (Γm:=[.S,.S,.P,.P,.O]) (ds_if (dt_test (DE.toA (de_eqG (g:=id) (DE.toA (de_mod (de_varA (i:=1) (m:=.S) rfl (by decide)) (DE.toA de_int))) (DE.toA de_int))))
      (ds_retP (DE.grd (de_tupA (daa_cons (de_ixA (te:=tC .non) (DE.toA (de_lstF (daf_cons (DE.PF de_str) (daf_cons (DE.PF de_str) (daf_cons (DE.PF de_str) (daf_cons (DE.PF de_str) (daf_cons (DE.PF de_str) (daf_cons (DE.PF de_str) daf_nil)))))))) (DE.toA (de_mod (DE.toA (de_varP (i:=2) rfl)) (DE.toA de_int)))) (daa_cons (DE.toA de_int) daa_nil)))))
      ds_next)
      (ds_seq (Γm:=[.S,.S,.P,.P,.O]) (ds_if (dt_test (DE.toA (de_eqG (g:=id) (DE.toA (de_mod (de_varA (i:=1) (m:=.S) rfl (by decide)) (DE.toA de_int))) (DE.toA de_int))))
      (ds_retP (DE.grd (de_tupA (daa_cons (DE.toA de_str) (daa_cons (DE.toA (de_add (DE.toA (de_len (daa_cons (de_varA (i:=0) (m:=.S) rfl (by decide)) daa_nil))) (DE.toA (de_varP (i:=3) rfl)))) daa_nil)))))
      ds_next)
      (ds_seq (Γm:=[.S,.S,.P,.P,.O]) (ds_if (dt_test (DE.toA (de_eqG (g:=id) (DE.toA (de_mod (de_varA (i:=1) (m:=.S) rfl (by decide)) (DE.toA de_int))) (DE.toA de_int))))
      (ds_retP (DE.grd (de_tupA (daa_cons (DE.toA de_str) (daa_cons (DE.toA (de_sub (DE.toA (de_neg (DE.toA de_int))) (DE.toA (de_varP (i:=3) rfl)))) daa_nil)))))
      ds_next)
      (ds_seq (Γm:=[.S,.S,.P,.P,.O]) (ds_if (dt_test (DE.toA (de_eqG (g:=id) (de_varA (i:=4) (m:=.O) rfl (by decide)) (DE.toA (de_lstF daf_nil)))))
      (ds_retP (DE.grd (de_tupA (daa_cons (DE.toA de_str) (daa_cons (DE.toA (de_len (daa_cons (de_varA (i:=0) (m:=.S) rfl (by decide)) daa_nil))) daa_nil)))))
      ds_next)
      (ds_retP (DE.grd (de_tupA (daa_cons (de_ixA (te:=tC .non) (DE.toA (de_lstF (daf_cons (DE.PF de_str) (daf_cons (DE.PF de_str) daf_nil)))) (DE.toA (de_mod (de_varA (i:=1) (m:=.S) rfl (by decide)) (DE.toA de_int)))) (daa_cons (de_ixA (te:=tC .non) (de_varA (i:=4) (m:=.O) rfl (by decide)) (DE.toA (de_mod (DE.toA (de_varP (i:=2) rfl)) (DE.toA (de_len (daa_cons (de_varA (i:=4) (m:=.O) rfl (by decide)) daa_nil)))))) daa_nil))))))))))))), ?_⟩
  refine Pm.ref pm__law_odd (g:=fun xs=>_) ?_
  rintro ⟨bs,c⟩ (hn:bs.length≤1000)
  simp only [pm__law_odd]
  walk_at "pd"
  generalize hT:(fun (ρ:List PV)=>RS.seq _ _)=TAIL
  have tail:TAIL [.lst (bs.map PV.int),.int c,.int (c / 6),.int (farK (c / 6)),.non]=.ret (.tup [.str (oddD bs c).1,.int (oddD bs c).2]):=by
    subst hT
    walk_at "pd"
    rw [filR_rng (p:=fun i=>decide (bs.getD i 0=0)) (g:=fun i=>.int i) (fun i hi=>by
      rw [Int.zero_add]
      walk_at "pd"
      rw [Int.toNat_natCast]
      by_cases h:bs.getD i 0=0
      · rw [decide_eq_true h]; rfl
      · rw [decide_eq_false h]; rfl)]
    walk_at "pd"
    rw [show (bs.length:Int).toNat=bs.length by omega]
    rw [show (((List.range bs.length).filter fun (i:Nat)=>decide (bs.getD i 0=0)).map fun (i:Nat)=>PV.int i)=(emptyI bs).map PV.int by unfold emptyI; rw [List.map_map]; rfl]
    have hl:(emptyI bs).length≤bs.length:=by
      unfold emptyI
      rw [List.length_map]
      have:=List.length_filter_le (fun (i:Nat)=>decide (bs.getD i 0=0)) (List.range bs.length)
      simpa using this
    walk_at "pd"
    unfold oddD
    by_cases h0:c % 6=0
    · rw [decide_eq_true h0,if_pos h0]
      walk_at "pd"
      rw [pIx_Odd]
      walk_at "pd"
    · rw [decide_eq_false h0,if_neg h0]
      walk_at "pd"
      by_cases h1:c % 6=1
      · rw [decide_eq_true h1,if_pos h1]
        walk_at "pd"
      · rw [decide_eq_false h1,if_neg h1]
        walk_at "pd"
        by_cases h2:c % 6=2
        · rw [decide_eq_true h2,if_pos h2]
          walk_at "pd"
        · rw [decide_eq_false h2,if_neg h2]
          walk_at "pd"
          by_cases h:emptyI bs=[]
          · rw [decide_eq_true h,if_pos h]
            walk_at "pd"
          · have hp:0 < (emptyI bs).length:=List.length_pos_iff.mpr h
            have m0:=Int.emod_nonneg (c / 6) (show ((emptyI bs).length:Int)≠0 by omega)
            have m1:=Int.emod_lt_of_pos (c / 6) (show (0:Int) < (emptyI bs).length by omega)
            rw [decide_eq_false h,if_neg h]
            walk_at "pd"
            rw [pIx_SB]
            walk_at "pd"
  by_cases hf:c / 6 / 3 % 3=1
  · rw [decide_eq_true hf]
    walk_at "pd"
    rw [show farK (c / 6)=c / 6 / 9 % 10 ^ 59 from if_pos hf] at tail
    rw [tail]
    rfl
  · rw [decide_eq_false hf]
    walk_at "pd"
    rw [show farK (c / 6)=c / 6 % 3 from if_neg hf] at tail
    rw [tail]
    rfl
theorem c__law_odd {b:List Int} {c:Int} (h:b.length≤1000):pm__law_odd.fn [.lst (b.map PV.int),.int c]=.ok (.tup [.str (oddD b c).1,.int (oddD b c).2]):=Pm.fn_eq pm__law_odd (b,c) h fun (a:List Int × Int) e=>by (simp only [pm__law_odd,List.cons.injEq,PV.lst.injEq,PV.int.injEq,PV.str.injEq,PV.bl.injEq,PV.tup.injEq,ints_iff,and_true] at e ⊢; first | (simp only [e]; done) | (subst e; rfl) | (rw [e]))
theorem pInD_w2n {w:Str} (h:PyData.canLay0 (.str w)=true):pInD (fun x=>!x) (.str w) (.lst [.str (Str.ofString "sow"),.str (Str.ofString "back")])=.ok (.bl (!dWord w)):=by
  have e:∀ {a b:Str},(a == b)=(b == a):=fun {a b}=>by rw [Bool.eq_iff_iff,beq_iff_eq,beq_iff_eq]; exact eq_comm
  have ok:∀ {w:Str},PyData.canLay0 (.str w)=true→okE (.str w)=true:=fun {w} h=>by simp [okE,PV.noX,PV.dat,h,PyData.depth]
  have h1:okE (.str (Str.ofString "sow"))=true:=ok (by rw [PyData.canLay0]; decide +kernel)
  have h2:okE (.str (Str.ofString "back"))=true:=ok (by rw [PyData.canLay0]; decide +kernel)
  unfold pInD
  simp only [ok h,h1,h2,List.all_cons,List.all_nil,Bool.and_self,if_true,List.any_cons,List.any_nil,PV.dat,PyData.eqv,Bool.or_false]
  unfold dWord
  rw [e (a:=w),e (a:=w) (b := "back")]
noncomputable def pm__law_can:Pm:=⟨List Int × (Str × Int),fun a=>[.lst (a.1.map PV.int),deedP a.2],fun a=>PyData.canLay0 (.str a.2.1)=true,fun a=>.ok (.bl (canD a.1 a.2))⟩
theorem fn__law_can (T:Txt K mg) {f:Addr} {fd:FuncData} (F:Fun K "_law_can" "_law_can" s__law_can f fd):FnOk P w K mg base CX0 1 f fd ["board", "deed"] (spF K 2 .P W0 pm__law_can.fn):=by
  refine F.okP sc__law_can rfl rfl (fun cdv A outer s H E hr=>?_)
  have hu:=hr.units
  refine ⟨_,_,⟨[],[],[],.P⟩,rfl,(pss_cons (ps_if (PW.pt (pw_or (pt_cmpR (op_notInD (K:=K) hu) (pe_ix (ix_seqK (K:=K)) (pv 1) pe_int (fun _ _=>rfl)) (pe_lst (pa_cons pe_str (pa_cons pe_str pa_nil))) rfl) (pw_or1 (pt_not (pt_chain op_le op_lt pe_int (pe_ix (ix_seqK (K:=K)) (pv 1) pe_int (fun _ _=>rfl)) (pe_callB (call_lenK (K:=K)) rfl T.z_len bb_len (pa_cons (pv 0) pa_nil)) (by rfl)))))) (pss_one (ps_ret pe_bl)) pss_nil)
      (pss_one (ps_ret (pe_cmpR op_gt (pe_ix (ix_seqK (K:=K)) (pv 0) (pe_ix (ix_seqK (K:=K)) (pv 1) pe_int (fun _ _=>rfl)) (fun _ _=>rfl)) pe_int (nomark _))))),
      (ds_seq (Γm:=[.S,.S]) (ds_if (dt_or (dt_test (DE.toA (de_inD (g:=(!·)) (de_ixA (te:=tC .non) (de_varA (i:=1) (m:=.S) rfl (by decide)) (DE.toA de_int)) (DE.toA (de_lstF (daf_cons (DE.PF de_str) (daf_cons (DE.PF de_str) daf_nil))))))) (dt_not (dt_test (DE.toA (de_chain (p:=fun i j=>decide (i≤j)) (q:=fun i j=>decide (i < j)) (DE.toA de_int) (de_ixA (te:=tC .non) (de_varA (i:=1) (m:=.S) rfl (by decide)) (DE.toA de_int)) (DE.toA (de_len (daa_cons (de_varA (i:=0) (m:=.S) rfl (by decide)) daa_nil))))))))
      (ds_retP de_bl)
      ds_next)
      (ds_retP (de_gt (de_ixA (te:=tC .non) (de_varA (i:=0) (m:=.S) rfl (by decide)) (de_ixA (te:=tC .non) (de_varA (i:=1) (m:=.S) rfl (by decide)) (DE.toA de_int))) (DE.toA de_int)))), ?_⟩
  refine Pm.ref pm__law_can (g:=fun xs=>_) ?_
  rintro ⟨b,w,p⟩ (hw:PyData.canLay0 (.str w)=true)
  simp only [pm__law_can,deedP]
  walk_at "pd"
  rw [pInD_w2n hw]
  unfold canD
  cases hd:dWord w with
  | false=>walk_at "pd"
  | true =>
    walk_at "pd"
    by_cases hp:0≤p∧p < (b.length:Int)
    · rw [decide_eq_true hp,show (decide (0≤p) && decide (p < (b.length:Int)))=true by simp [hp]]
      walk_at "pd"
    · rw [decide_eq_false hp,show (decide (0≤p) && decide (p < (b.length:Int)))=false by simp only [Bool.and_eq_false_iff,decide_eq_false_iff_not]; omega]
      walk_at "pd"
theorem c__law_can {b:List Int} {d:Deed} (h:PyData.canLay0 (.str d.1)=true):pm__law_can.fn [.lst (b.map PV.int),deedP d]=.ok (.bl (canD b d)):=Pm.fn_eq pm__law_can (b,d) h fun ⟨b',w',p'⟩ e=>by
  obtain ⟨w,p⟩:=d
  simp only [pm__law_can,deedP,List.cons.injEq,PV.lst.injEq,PV.tup.injEq,PV.str.injEq,PV.int.injEq,and_true] at e ⊢
  rw [ints_inj' e.1,e.2.1,e.2.2]
noncomputable def pm__law_sown:Pm:=⟨List Int × Int,fun a=>[.lst (a.1.map PV.int),.int a.2],fun a=>0≤a.2∧a.2 < a.1.length∧a.1.length≤1000,fun a=>.ok (pairP (sowS a))⟩
theorem fn__law_sown (T:Txt K mg) {f:Addr} {fd:FuncData} (F:Fun K "_law_sown" "_law_sown" s__law_sown f fd):FnOk P w K mg base CX0 1 f fd ["board", "pit"] (spF K 2 .F W0 pm__law_sown.fn):=by
  refine F.okP sc__law_sown rfl rfl (fun cdv A outer s H E hr=>?_)
  have hu:=hr.units
  refine ⟨_,_,⟨[],[],[],.F⟩,rfl,(pss_cons (ps_set (i:=2) sc__law_sown.nd rfl (by first | exact Or.inl rfl | exact Or.inr rfl) (pe_callB (call_lenK (K:=K)) rfl T.z_len bb_len (pa_cons (pv 0) pa_nil)))
      (pss_cons (ps_set (i:=3) sc__law_sown.nd rfl (by first | exact Or.inl rfl | exact Or.inr rfl) (pe_ix (ix_seqK (K:=K)) (pv 0) (pv 1) (fun _ _=>rfl)))
      (pss_cons (ps_set (i:=4) sc__law_sown.nd rfl (by first | exact Or.inl rfl | exact Or.inr rfl) (pe_callTy (call_listK (K:=K)) rfl T.z_list bt_list (pa_cons (pv 0) pa_nil)))
      (pss_cons (ps_asg pe_int (pg_sub (pv 4) (pv 1) set_list))
      (pss_cons (ps_for PassesOwn.never rfl (pi_range1 rfl T.z_range (pa_cons (pv 2) pa_nil)) (pg_name (i:=5) sc__law_sown.nd rfl (by first | exact Or.inl rfl | exact Or.inr rfl)) (pss_cons (ps_set (i:=6) sc__law_sown.nd rfl (by first | exact Or.inl rfl | exact Or.inr rfl) (pe_op op_mod (pe_op op_add (pe_op op_add (pv 1) pe_int) (pv 5)) (pv 2)))
      (pss_one (ps_asg (pe_op op_add (pe_op op_add (pe_ix (ix_seqK (K:=K)) (pv 4) (pv 6) (fun _ _=>rfl)) (pe_op op_fdivB (pv 3) (pv 2))) (pe_callTy call_int1 rfl T.z_int bt_int (pa_cons (pe_cmpR op_lt (pv 5) (pe_op op_mod (pv 3) (pv 2)) (nomark _)) pa_nil))) (pg_sub (pv 4) (pv 6) set_list)))))
      (pss_one (ps_ret (pe_tup (pa_cons (pv 4) (pa_cons (pe_op op_mod (pe_op op_add (pv 1) (pv 3)) (pv 2)) pa_nil)))))))))),
      (ds_seq (Γm:=[.S,.S,.P,.U,.U,.U,.U]) (ds_setP (i:=2) (de_len (daa_cons (de_varA (i:=0) (m:=.S) rfl (by decide)) daa_nil)) (by decide))
      (ds_seq (Γm:=[.S,.S,.P,.P,.U,.U,.U]) (ds_setP (i:=3) (DE.grd (de_ixA (te:=tC .non) (de_varA (i:=0) (m:=.S) rfl (by decide)) (de_varA (i:=1) (m:=.S) rfl (by decide)))) (by decide))
      (ds_seq (Γm:=[.S,.S,.P,.P,.O,.U,.U]) (ds_setF (i:=4) (de_listF (daa_cons (de_varA (i:=0) (m:=.S) rfl (by decide)) daa_nil)) (by decide))
      (ds_seq (Γm:=[.S,.S,.P,.P,.O,.U,.U]) (ds_setItO (i:=4) rfl de_int (de_varA (i:=1) (m:=.S) rfl (by decide)))
      (ds_seq (Γm:=[.S,.S,.P,.P,.O,.U,.U]) (ds_for (Γl:=[.S,.S,.P,.P,.O,.U,.U]) (di_rng1 (daa_cons (DE.toA (de_varP (i:=2) rfl)) daa_nil)) rfl (dg_P (i:=5) (by decide))
      (DS.out (Y:=⟨[.S,.S,.P,.P,.O,.P,.P],[.S,.S,.P,.P,.O,.U,.U],[.S,.S,.P,.P,.O,.U,.U],.F⟩) (Y':=⟨[.S,.S,.P,.P,.O,.U,.U],[.S,.S,.P,.P,.O,.U,.U],[.S,.S,.P,.P,.O,.U,.U],.F⟩) (ds_seq (Γm:=[.S,.S,.P,.P,.O,.P,.P]) (ds_setP (i:=6) (de_mod (DE.toA (de_add (DE.toA (de_add (de_varA (i:=1) (m:=.S) rfl (by decide)) (DE.toA de_int))) (DE.toA (de_varP (i:=5) rfl)))) (DE.toA (de_varP (i:=2) rfl))) (by decide))
      (ds_setItO (i:=4) rfl (de_add (DE.toA (de_add (de_ixA (te:=tC .non) (de_varA (i:=4) (m:=.O) rfl (by decide)) (DE.toA (de_varP (i:=6) rfl))) (DE.toA (de_div (DE.toA (de_varP (i:=3) rfl)) (DE.toA (de_varP (i:=2) rfl)))))) (DE.toA (de_toInt (daa_cons (DE.toA (de_lt (DE.toA (de_varP (i:=5) rfl)) (DE.toA (de_mod (DE.toA (de_varP (i:=3) rfl)) (DE.toA (de_varP (i:=2) rfl)))))) daa_nil)))) (DE.toA (de_varP (i:=6) rfl)))) rfl rfl rfl rfl))
      (ds_retF (de_tupF (daf_cons (de_varM (i:=4) rfl) (daf_cons (DE.PF (de_mod (DE.toA (de_add (de_varA (i:=1) (m:=.S) rfl (by decide)) (DE.toA (de_varP (i:=3) rfl)))) (DE.toA (de_varP (i:=2) rfl)))) daf_nil))))))))), ?_⟩
  refine Pm.ref pm__law_sown (g:=fun xs=>_) ?_
  rintro ⟨bs,p⟩ ⟨h0,h1,h2⟩
  simp only at h0 h1 h2
  simp only [pm__law_sown]
  walk_at "pd"
  rw [ls_zero h0 h1]
  generalize hw:forR _ _ _=W
  obtain ⟨ρ',rfl,v,u,rfl⟩:=forR_inv' hw (fun i ρ=>∃ v u,ρ=[.lst (bs.map PV.int),.int p,.int bs.length,.int (bs.getD p.toNat 0),.lst ((tab bs.length (lsF bs p i)).map PV.int),v,u]) ⟨_,_,rfl⟩ (by
    rintro i x ρ hx ⟨v,u,rfl⟩
    obtain ⟨hi,rfl⟩:=rngP_get hx
    rw [Int.zero_add]
    have hn:(0:Int) < bs.length:=by omega
    have hlen:(tab bs.length (lsF bs p i)).length=bs.length:=tab_length _ _
    have y0:=Int.emod_nonneg (p + 1 + i) (show (bs.length:Int)≠0 by omega)
    have y1:=Int.emod_lt_of_pos (p + 1 + i) hn
    have hst:=ls_step (bs:=bs) (p:=p) h0 h1 (i:=i) (by omega)
    walk_at "pd"
    rw [tab_get (by omega)]
    by_cases c:(i:Int) < bs.getD p.toNat 0 % bs.length
    · rw [if_pos c] at hst
      rw [decide_eq_true c,show pInt [PV.bl true]=.ok (.int 1) from rfl]
      walk_at "pd"
      rw [hst]
      exact nextI ⟨_,_,rfl⟩
    · rw [if_neg c] at hst
      rw [decide_eq_false c,show pInt [PV.bl false]=.ok (.int 0) from rfl]
      walk_at "pd"
      rw [hst]
      exact nextI ⟨_,_,rfl⟩)
  walk_at "pd"
  rw [rngP_length,show (bs.length:Int).toNat=bs.length by omega,ls_all h0 h1,ls_pit]
  rfl
theorem c__law_sown {bs:List Int} {p:Int} (h:0≤p∧p < bs.length∧bs.length≤1000):pm__law_sown.fn [.lst (bs.map PV.int),.int p]=.ok (pairP (sowS (bs,p))):=Pm.fn_eq pm__law_sown (bs,p) h fun (a:List Int × Int) e=>by
  simp only [pm__law_sown,List.cons.injEq,PV.lst.injEq,PV.int.injEq,ints_iff,and_true] at e ⊢
  rw [show a=(bs,p) from Prod.ext e.1 e.2]
noncomputable def pm__law_back:Pm:=⟨List Int × Int,fun a=>[.lst (a.1.map PV.int),.int a.2],fun a=>Board a.1∧0≤a.2∧a.2 < a.1.length,fun a=>.ok (pairP (tbS a))⟩
theorem fn__law_back (T:Txt K mg) {f:Addr} {fd:FuncData} (F:Fun K "_law_back" "_law_back" s__law_back f fd):FnOk P w K mg base CX0 1 f fd ["board", "pit"] (spF K 2 .F W0 pm__law_back.fn):=by
  refine F.okP sc__law_back rfl rfl (fun cdv A outer s H E hr=>?_)
  have hu:=hr.units
  refine ⟨_,_,⟨[],[],[],.F⟩,rfl,(pss_cons (ps_set (i:=2) sc__law_back.nd rfl (by first | exact Or.inl rfl | exact Or.inr rfl) (pe_callB (call_lenK (K:=K)) rfl T.z_len bb_len (pa_cons (pv 0) pa_nil)))
      (pss_cons (ps_set (i:=3) sc__law_back.nd rfl (by first | exact Or.inl rfl | exact Or.inr rfl) (pe_callB (call_minIK (K:=K) rfl) rfl T.z_min bb_min (pa_cons (pv 0) pa_nil)))
      (pss_cons (ps_set (i:=4) sc__law_back.nd rfl (by first | exact Or.inl rfl | exact Or.inr rfl) pe_int)
      (pss_cons (ps_while PassesOwn.never (pt_cmpR (op_neD (K:=K) hu) (pe_ix (ix_seqK (K:=K)) (pv 0) (pe_op op_mod (pe_op op_sub (pv 1) (pv 4)) (pv 2)) (fun _ _=>rfl)) (pv 3) (nomark _)) (pss_one (ps_set (i:=4) sc__law_back.nd rfl (by first | exact Or.inl rfl | exact Or.inr rfl) (pe_op op_add (pv 4) pe_int))))
      (pss_cons (ps_set (i:=5) sc__law_back.nd rfl (by first | exact Or.inl rfl | exact Or.inr rfl) (pe_lst pa_nil))
      (pss_cons (ps_for PassesOwn.never rfl (pi_range1 rfl T.z_range (pa_cons (pv 2) pa_nil)) (pg_name (i:=6) sc__law_back.nd rfl (by first | exact Or.inl rfl | exact Or.inr rfl)) (pss_cons (ps_set (i:=7) sc__law_back.nd rfl (by first | exact Or.inl rfl | exact Or.inr rfl) (pe_op op_add (pv 3) (pe_callTy call_int1 rfl T.z_int bt_int (pa_cons (pe_cmpR op_lt (pe_op op_mod (pe_op op_sub (pv 1) (pv 6)) (pv 2)) (pv 4) (nomark _)) pa_nil))))
      (pss_one (ps_expr (pe_bm PySem.F.plainAttrs_list PySem.F.slot_list_append PySem.F.type_list_append mt_append (pv 5) (pa_cons (pe_op op_sub (pe_ix (ix_seqK (K:=K)) (pv 0) (pv 6) (fun _ _=>rfl)) (pv 7)) pa_nil))))))
      (pss_cons (ps_set (i:=6) sc__law_back.nd rfl (by first | exact Or.inl rfl | exact Or.inr rfl) (pe_op op_mod (pe_op op_sub (pv 1) (pv 4)) (pv 2)))
      (pss_cons (ps_asg (pe_op op_add (pe_op op_add (pe_ix (ix_seqK (K:=K)) (pv 5) (pv 6) (fun _ _=>rfl)) (pe_op op_mulB (pv 3) (pv 2))) (pv 4)) (pg_sub (pv 5) (pv 6) set_list))
      (pss_one (ps_ret (pe_tup (pa_cons (pv 5) (pa_cons (pv 6) pa_nil))))))))))))),
      (ds_seq (Γm:=[.S,.S,.P,.U,.U,.U,.U,.U]) (ds_setP (i:=2) (de_len (daa_cons (de_varA (i:=0) (m:=.S) rfl (by decide)) daa_nil)) (by decide))
      (ds_seq (Γm:=[.S,.S,.P,.P,.U,.U,.U,.U]) (ds_setP (i:=3) (de_min (daa_cons (de_varA (i:=0) (m:=.S) rfl (by decide)) daa_nil)) (by decide))
      (ds_seq (Γm:=[.S,.S,.P,.P,.P,.U,.U,.U]) (ds_setP (i:=4) de_int (by decide))
      (ds_seq (Γm:=[.S,.S,.P,.P,.P,.U,.U,.U]) (ds_while (Γ:=[.S,.S,.P,.P,.P,.U,.U,.U]) (dt_test (DE.toA (de_eqG (g:=(!·)) (de_ixA (te:=tC .non) (de_varA (i:=0) (m:=.S) rfl (by decide)) (DE.toA (de_mod (DE.toA (de_sub (de_varA (i:=1) (m:=.S) rfl (by decide)) (DE.toA (de_varP (i:=4) rfl)))) (DE.toA (de_varP (i:=2) rfl))))) (DE.toA (de_varP (i:=3) rfl)))))
      (ds_setP (i:=4) (de_add (DE.toA (de_varP (i:=4) rfl)) (DE.toA de_int)) (by decide)))
      (ds_seq (Γm:=[.S,.S,.P,.P,.P,.O,.U,.U]) (ds_setF (i:=5) (de_lstF daf_nil) (by decide))
      (ds_seq (Γm:=[.S,.S,.P,.P,.P,.O,.U,.U]) (ds_for (Γl:=[.S,.S,.P,.P,.P,.O,.U,.U]) (di_rng1 (daa_cons (DE.toA (de_varP (i:=2) rfl)) daa_nil)) rfl (dg_P (i:=6) (by decide))
      (DS.out (Y:=⟨[.S,.S,.P,.P,.P,.O,.P,.P],[.S,.S,.P,.P,.P,.O,.U,.U],[.S,.S,.P,.P,.P,.O,.U,.U],.F⟩) (Y':=⟨[.S,.S,.P,.P,.P,.O,.U,.U],[.S,.S,.P,.P,.P,.O,.U,.U],[.S,.S,.P,.P,.P,.O,.U,.U],.F⟩) (ds_seq (Γm:=[.S,.S,.P,.P,.P,.O,.P,.P]) (ds_setP (i:=7) (de_add (DE.toA (de_varP (i:=3) rfl)) (DE.toA (de_toInt (daa_cons (DE.toA (de_lt (DE.toA (de_mod (DE.toA (de_sub (de_varA (i:=1) (m:=.S) rfl (by decide)) (DE.toA (de_varP (i:=6) rfl)))) (DE.toA (de_varP (i:=2) rfl)))) (DE.toA (de_varP (i:=4) rfl)))) daa_nil)))) (by decide))
      (ds_appO (i:=5) rfl rfl (DE.PF (de_sub (de_ixA (te:=tC .non) (de_varA (i:=0) (m:=.S) rfl (by decide)) (DE.toA (de_varP (i:=6) rfl))) (DE.toA (de_varP (i:=7) rfl)))))) rfl rfl rfl rfl))
      (ds_seq (Γm:=[.S,.S,.P,.P,.P,.O,.P,.U]) (ds_setP (i:=6) (de_mod (DE.toA (de_sub (de_varA (i:=1) (m:=.S) rfl (by decide)) (DE.toA (de_varP (i:=4) rfl)))) (DE.toA (de_varP (i:=2) rfl))) (by decide))
      (ds_seq (Γm:=[.S,.S,.P,.P,.P,.O,.P,.U]) (ds_setItO (i:=5) rfl (de_add (DE.toA (de_add (de_ixA (te:=tC .non) (de_varA (i:=5) (m:=.O) rfl (by decide)) (DE.toA (de_varP (i:=6) rfl))) (DE.toA (de_mul (DE.toA (de_varP (i:=3) rfl)) (DE.toA (de_varP (i:=2) rfl)))))) (DE.toA (de_varP (i:=4) rfl))) (DE.toA (de_varP (i:=6) rfl)))
      (ds_retF (de_tupF (daf_cons (de_varM (i:=5) rfl) (daf_cons (DE.PF (de_varP (i:=6) rfl)) daf_nil)))))))))))), ?_⟩
  refine Pm.ref pm__law_back (g:=fun xs=>_) ?_
  rintro ⟨ns,q⟩ ⟨hB,h0,h1⟩
  simp only at hB h0 h1
  have hl:=hB.hi
  have hlo:=hB.lo
  simp only [pm__law_back]
  have hne:ns≠[]:=by intro e; rw [e] at h1; simp at h1; omega
  obtain ⟨j1,j2,j3⟩:=tbJ_spec (ns:=ns) h0 h1
  have hmin:=hB.nn _ (minI_mem hne)
  walk_at "pd"
  rw [pMin_ints hne]
  walk_at "pd"
  generalize hw:whileR _ _ _=W
  obtain ⟨ρ',rfl,rfl⟩:=whileR_inv' hw (tbJ ns q) (fun (i:Nat) ρ=>ρ=[.lst (ns.map PV.int),.int q,.int ns.length,.int (minI ns),.int i,.non,.non,.non]) rfl (by
    rintro i ρ hi rfl
    have m0:=Int.emod_nonneg (q - i) (show (ns.length:Int)≠0 by omega)
    have m1:=Int.emod_lt_of_pos (q - i) (show (0:Int) < ns.length by omega)
    have:=j2 i hi
    unfold tbG at this
    constructor
    · walk_at "pd"
      rw [decide_eq_false (show ¬ ns.getD ((q - (i:Int)) % ns.length).toNat 0=minI ns by omega)]
      walk_at "pd"
    · walk_at "pd"
      exact nextI (by rw [show ((i + 1:Nat):Int)=(i:Int) + 1 by omega])) (by
    rintro ρ rfl
    have m0:=Int.emod_nonneg (q - (tbJ ns q:Nat)) (show (ns.length:Int)≠0 by omega)
    have m1:=Int.emod_lt_of_pos (q - (tbJ ns q:Nat)) (show (0:Int) < ns.length by omega)
    unfold tbG at j3
    walk_at "pd"
    rw [decide_eq_true (show ns.getD ((q - ((tbJ ns q:Nat):Int)) % ns.length).toNat 0=minI ns by omega)]
    walk_at "pd")
  walk_at "pd"
  generalize hw2:forR _ _ _=W2
  obtain ⟨ρ',rfl,v6,v7,rfl⟩:=forR_inv' hw2 (fun i ρ=>∃ v6 v7,ρ=[.lst (ns.map PV.int),.int q,.int ns.length,.int (minI ns),.int (tbJ ns q:Nat),.lst (((List.range i).map (tbF ns q (tbJ ns q))).map PV.int),v6,v7]) ⟨_,_,rfl⟩ (by
    rintro i x ρ hx ⟨v6,v7,rfl⟩
    obtain ⟨hi,rfl⟩:=rngP_get hx
    have hil:((List.range i).map (tbF ns q (tbJ ns q))).length=i:=by simp
    have hsucc:(List.range (i + 1)).map (tbF ns q (tbJ ns q))=(List.range i).map (tbF ns q (tbJ ns q)) ++ [tbF ns q (tbJ ns q) i]:=by simp [List.range_succ]
    have hF:tbF ns q (tbJ ns q) i=ns.getD i 0 - (minI ns + if (q - (0 + (i:Int))) % (ns.length:Int) < (tbJ ns q:Nat) then 1 else 0):=by
      unfold tbF
      rw [Int.zero_add]
      omega
    rw [hsucc,hF]
    generalize (List.range i).map (tbF ns q (tbJ ns q))=L at hil
    by_cases c:(q - (0 + (i:Int))) % (ns.length:Int) < (tbJ ns q:Nat)
    · walk_at "pd"
      rw [decide_eq_true c,if_pos c,show pInt [PV.bl true]=.ok (.int 1) from rfl]
      walk_at "pd"
      rw [show (0 + (i:Int)).toNat=i by omega]
      exact nextI ⟨_,_,rfl⟩
    · walk_at "pd"
      rw [decide_eq_false c,if_neg c,show pInt [PV.bl false]=.ok (.int 0) from rfl]
      walk_at "pd"
      rw [show (0 + (i:Int)).toNat=i by omega]
      exact nextI ⟨_,_,rfl⟩)
  have m0:=Int.emod_nonneg (q - (tbJ ns q:Nat)) (show (ns.length:Int)≠0 by omega)
  have m1:=Int.emod_lt_of_pos (q - (tbJ ns q:Nat)) (show (0:Int) < ns.length by omega)
  have hle:minI ns≤10 ^ 60:=Int.le_trans (leSum hB.nn _ (minI_mem hne)) hB.sm
  have htb:tbS (ns,q)=((tab ns.length (tbF ns q (tbJ ns q))).set ((q - (tbJ ns q:Nat)) % ns.length).toNat (minI ns * ns.length + (tbJ ns q:Nat)),(q - (tbJ ns q:Nat)) % ns.length):=rfl
  rw [htb]
  have hat:=tbF_at (ns:=ns) (q:=q) h0 h1 (i:=tbJ ns q) j1
  rw [j3] at hat
  walk_at "pd"
  rw [rngP_length,Int.toNat_natCast,show (List.range ns.length).map (tbF ns q (tbJ ns q))=tab ns.length (tbF ns q (tbJ ns q)) from rfl]
  have hgt:(tab ns.length (tbF ns q (tbJ ns q))).getD ((q - (tbJ ns q:Nat)) % ns.length).toNat 0=0:=by rw [tab_get (by omega)]; exact hat
  have htl:(tab ns.length (tbF ns q (tbJ ns q))).length=ns.length:=tab_length _ _
  generalize tab ns.length (tbF ns q (tbJ ns q))=Tb at hgt htl
  walk_at "pd"
  rw [hgt,Int.zero_add]
  walk_at "pd"
theorem c__law_back {ns:List Int} {q:Int} (h:Board ns∧0≤q∧q < ns.length):pm__law_back.fn [.lst (ns.map PV.int),.int q]=.ok (pairP (tbS (ns,q))):=Pm.fn_eq pm__law_back (ns,q) h fun (a:List Int × Int) e=>by
  simp only [pm__law_back,List.cons.injEq,PV.lst.injEq,PV.int.injEq,ints_iff,and_true] at e ⊢
  rw [show a=(ns,q) from Prod.ext e.1 e.2]
theorem ln18 {n:Nat} (h:n≤63):((n:Int) - 3).toNat≤60:=by omega
theorem plD_lay (ns h:List Int) (i:Nat):PyData.canLay0 (.str (plD ns h i).1)=true:=by
  unfold plD
  split
  · exact oddD_lay _ _
  · exact wSB_lay _
theorem plS_lay (ns b:List Int) (i:Nat):∀ d∈(plS ns b i).1,PyData.canLay0 (.str d.1)=true:=by
  induction i with
  | zero=>intro d hd; simp [plS] at hd
  | succ i ih =>
    intro d hd
    rw [plS] at hd
    rcases List.mem_append.mp hd with hd | hd
    · exact ih d hd
    · rw [List.mem_singleton.mp hd]; exact plD_lay _ _ _
noncomputable def plP (s:List Deed × List Int × Int):PV:=.tup [.lst (s.1.map deedP),.lst (s.2.1.map PV.int),.int s.2.2]
noncomputable def pm__law_plan:Pm:=⟨List Int × List Int,fun a=>[.lst (a.1.map PV.int),.lst (a.2.map PV.int)],fun a=>a.1.length≤63∧Board a.2,fun a=>.ok (plP (plS a.1 a.2 (a.1.length - 3)))⟩
theorem fn__law_plan (T:Txt K mg) {f:Addr} {fd:FuncData} (F:Fun K "_law_plan" "_law_plan" s__law_plan f fd):FnOk P w K mg base CX0 2 f fd ["script", "board"] (spF K 2 .F W0 pm__law_plan.fn):=by
  have G__law_cell_at:=okOf (P:=P) (w:=w) (base:=base) T.d__law_cell_at bd__law_cell_at (fun F=>fn__law_cell_at T F)
  have G__law_pit:=okOf (P:=P) (w:=w) (base:=base) T.d__law_pit bd__law_pit (fun F=>fn__law_pit T F)
  have G__law_odd:=okOf (P:=P) (w:=w) (base:=base) T.d__law_odd bd__law_odd (fun F=>fn__law_odd T F)
  have G__law_can:=okOf (P:=P) (w:=w) (base:=base) T.d__law_can bd__law_can (fun F=>fn__law_can T F)
  have G__law_sown:=okOf (P:=P) (w:=w) (base:=base) T.d__law_sown bd__law_sown (fun F=>fn__law_sown T F)
  have G__law_back:=okOf (P:=P) (w:=w) (base:=base) T.d__law_back bd__law_back (fun F=>fn__law_back T F)
  refine F.okP sc__law_plan rfl rfl (fun cdv A outer s H E hr=>?_)
  have hu:=hr.units
  refine ⟨_,_,⟨[],[],[],.F⟩,rfl,(pss_cons (ps_set (i:=2) sc__law_plan.nd rfl (by first | exact Or.inl rfl | exact Or.inr rfl) (pe_lst pa_nil))
      (pss_cons (ps_set (i:=3) sc__law_plan.nd rfl (by first | exact Or.inl rfl | exact Or.inr rfl) (pe_un un_neg pe_int))
      (pss_cons (ps_set (i:=4) sc__law_plan.nd rfl (by first | exact Or.inl rfl | exact Or.inr rfl) (pe_callTy (call_listK (K:=K)) rfl T.z_list bt_list (pa_cons (pv 1) pa_nil)))
      (pss_cons (ps_set (i:=5) sc__law_plan.nd rfl (by first | exact Or.inl rfl | exact Or.inr rfl) (pe_callO G__law_cell_at (hr.mono (by decide)) rfl (pa_cons (pv 0) (pa_cons pe_int pa_nil))))
      (pss_cons (ps_set (i:=6) sc__law_plan.nd rfl (by first | exact Or.inl rfl | exact Or.inr rfl) (pe_op op_mod (pe_op op_fdivB (pv 5) pe_int) (pe_callB (call_max2 rfl) rfl T.z_max bb_max (pa_cons pe_int (pa_cons (pe_op op_sub (pe_callB (call_lenK (K:=K)) rfl T.z_len bb_len (pa_cons (pv 0) pa_nil)) pe_int) pa_nil)))))
      (pss_cons (ps_for PassesOwn.never rfl (pi_range2 rfl T.z_range (pa_cons pe_int (pa_cons (pe_callB (call_lenK (K:=K)) rfl T.z_len bb_len (pa_cons (pv 0) pa_nil)) pa_nil))) (pg_name (i:=7) sc__law_plan.nd rfl (by first | exact Or.inl rfl | exact Or.inr rfl)) (pss_cons (ps_set (i:=8) sc__law_plan.nd rfl (by first | exact Or.inl rfl | exact Or.inr rfl) (pe_callO G__law_cell_at (hr.mono (by decide)) rfl (pa_cons (pv 0) (pa_cons (pv 7) pa_nil))))
      (pss_cons (ps_set (i:=9) sc__law_plan.nd rfl (by first | exact Or.inl rfl | exact Or.inr rfl) (pe_tup (pa_cons (pe_ix (ix_seqK (K:=K)) (pe_lst (pa_cons pe_str (pa_cons pe_str pa_nil))) (pe_op op_mod (pv 8) pe_int) (fun _ _=>rfl)) (pa_cons (pe_callO G__law_pit (hr.mono (by decide)) rfl (pa_cons (pv 4) (pa_cons (pv 8) pa_nil))) pa_nil))))
      (pss_cons (ps_if (PW.pt (pw_and (pt_cmpR (op_eqD (K:=K) hu) (pe_op op_sub (pv 7) pe_int) (pv 6) (nomark _)) (pw_and1 (pt_cmpR (op_eqD (K:=K) hu) (pe_op op_mod (pv 5) pe_int) pe_int (nomark _))))) (pss_one (ps_set (i:=9) sc__law_plan.nd rfl (by first | exact Or.inl rfl | exact Or.inr rfl) (pe_callO G__law_odd (hr.mono (by decide)) rfl (pa_cons (pv 4) (pa_cons (pe_op op_fdivB (pv 8) pe_int) pa_nil))))) pss_nil)
      (pss_cons (ps_expr (pe_bm PySem.F.plainAttrs_list PySem.F.slot_list_append PySem.F.type_list_append mt_append (pv 2) (pa_cons (pv 9) pa_nil)))
      (pss_cons (ps_if (PW.pt (pw_and (pt_cmpR op_lt (pv 3) pe_int (nomark _)) (pw_and1 (pt_not (pt_val (pe_callO G__law_can (hr.mono (by decide)) rfl (pa_cons (pv 4) (pa_cons (pv 9) pa_nil)))))))) (pss_one (ps_set (i:=3) sc__law_plan.nd rfl (by first | exact Or.inl rfl | exact Or.inr rfl) (pe_op op_sub (pv 7) pe_int))) pss_nil)
      (pss_one (ps_if (PW.pt (pw_and (pt_cmpR op_lt (pv 3) pe_int (nomark _)) (pw_and1 (pt_cmpR (op_eqD (K:=K) hu) (pe_ix (ix_seqK (K:=K)) (pv 9) pe_int (fun _ _=>rfl)) pe_str (nomark _))))) (pss_one (ps_set (i:=4) sc__law_plan.nd rfl (by first | exact Or.inl rfl | exact Or.inr rfl) (pe_ix (ix_seqK (K:=K)) (pe_callO G__law_sown (hr.mono (by decide)) rfl (pa_cons (pv 4) (pa_cons (pe_ix (ix_seqK (K:=K)) (pv 9) pe_int (fun _ _=>rfl)) pa_nil))) pe_int (fun _ _=>rfl)))) (pss_one (ps_if (pt_cmpR op_lt (pv 3) pe_int (nomark _)) (pss_one (ps_set (i:=4) sc__law_plan.nd rfl (by first | exact Or.inl rfl | exact Or.inr rfl) (pe_ix (ix_seqK (K:=K)) (pe_callO G__law_back (hr.mono (by decide)) rfl (pa_cons (pv 4) (pa_cons (pe_ix (ix_seqK (K:=K)) (pv 9) pe_int (fun _ _=>rfl)) pa_nil))) pe_int (fun _ _=>rfl)))) pss_nil))))))))))
      (pss_one (ps_ret (pe_tup (pa_cons (pv 2) (pa_cons (pv 4) (pa_cons (pv 3) pa_nil)))))))))))),
      (ds_seq (Γm:=[.S,.S,.O,.U,.U,.U,.U,.U,.U,.U]) (ds_setF (i:=2) (de_lstF daf_nil) (by decide))
      (ds_seq (Γm:=[.S,.S,.O,.P,.U,.U,.U,.U,.U,.U]) (ds_setP (i:=3) (de_neg (DE.toA de_int)) (by decide))
      (ds_seq (Γm:=[.S,.S,.O,.P,.O,.U,.U,.U,.U,.U]) (ds_setF (i:=4) (de_listF (daa_cons (de_varA (i:=1) (m:=.S) rfl (by decide)) daa_nil)) (by decide))
      (ds_seq (Γm:=[.S,.S,.O,.P,.O,.P,.U,.U,.U,.U]) (ds_setP (i:=5) (dc_P (len_cons (len_cons len_nil)) (daa_cons (de_varA (i:=0) (m:=.S) rfl (by decide)) (daa_cons (DE.toA de_int) daa_nil))) (by decide))
      (ds_seq (Γm:=[.S,.S,.O,.P,.O,.P,.P,.U,.U,.U]) (ds_setP (i:=6) (de_mod (DE.toA (de_div (DE.toA (de_varP (i:=5) rfl)) (DE.toA de_int))) (DE.toA (de_max2 (daa_cons (DE.toA de_int) (daa_cons (DE.toA (de_sub (DE.toA (de_len (daa_cons (de_varA (i:=0) (m:=.S) rfl (by decide)) daa_nil))) (DE.toA de_int))) daa_nil))))) (by decide))
      (ds_seq (Γm:=[.S,.S,.O,.P,.O,.P,.P,.U,.U,.U]) (ds_for (Γl:=[.S,.S,.O,.P,.O,.P,.P,.U,.U,.U]) (di_rng2 (daa_cons (DE.toA de_int) (daa_cons (DE.toA (de_len (daa_cons (de_varA (i:=0) (m:=.S) rfl (by decide)) daa_nil))) daa_nil))) rfl (dg_P (i:=7) (by decide))
      (DS.out (Y:=⟨[.S,.S,.O,.P,.O,.P,.P,.P,.P,.P],[.S,.S,.O,.P,.O,.P,.P,.U,.U,.U],[.S,.S,.O,.P,.O,.P,.P,.U,.U,.U],.F⟩) (Y':=⟨[.S,.S,.O,.P,.O,.P,.P,.U,.U,.U],[.S,.S,.O,.P,.O,.P,.P,.U,.U,.U],[.S,.S,.O,.P,.O,.P,.P,.U,.U,.U],.F⟩) (ds_seq (Γm:=[.S,.S,.O,.P,.O,.P,.P,.P,.P,.U]) (ds_setP (i:=8) (dc_P (len_cons (len_cons len_nil)) (daa_cons (de_varA (i:=0) (m:=.S) rfl (by decide)) (daa_cons (DE.toA (de_varP (i:=7) rfl)) daa_nil))) (by decide))
      (ds_seq (Γm:=[.S,.S,.O,.P,.O,.P,.P,.P,.P,.P]) (ds_setP (i:=9) (DE.grd (de_tupA (daa_cons (de_ixA (te:=tC .non) (DE.toA (de_lstF (daf_cons (DE.PF de_str) (daf_cons (DE.PF de_str) daf_nil)))) (DE.toA (de_mod (DE.toA (de_varP (i:=8) rfl)) (DE.toA de_int)))) (daa_cons (DE.toA (dc_P (len_cons (len_cons len_nil)) (daa_cons (de_varA (i:=4) (m:=.O) rfl (by decide)) (daa_cons (DE.toA (de_varP (i:=8) rfl)) daa_nil)))) daa_nil)))) (by decide))
      (ds_seq (Γm:=[.S,.S,.O,.P,.O,.P,.P,.P,.P,.P]) (ds_if (dt_and (dt_test (DE.toA (de_eqG (g:=id) (DE.toA (de_sub (DE.toA (de_varP (i:=7) rfl)) (DE.toA de_int))) (DE.toA (de_varP (i:=6) rfl))))) (dt_test (DE.toA (de_eqG (g:=id) (DE.toA (de_mod (DE.toA (de_varP (i:=5) rfl)) (DE.toA de_int))) (DE.toA de_int)))))
      (ds_setP (i:=9) (dc_P (len_cons (len_cons len_nil)) (daa_cons (de_varA (i:=4) (m:=.O) rfl (by decide)) (daa_cons (DE.toA (de_div (DE.toA (de_varP (i:=8) rfl)) (DE.toA de_int))) daa_nil))) (by decide))
      ds_next)
      (ds_seq (Γm:=[.S,.S,.O,.P,.O,.P,.P,.P,.P,.P]) (ds_appO (i:=2) rfl rfl (DE.PF (de_varP (i:=9) rfl)))
      (ds_seq (Γm:=[.S,.S,.O,.P,.O,.P,.P,.P,.P,.P]) (ds_if (dt_and (dt_test (DE.toA (de_lt (DE.toA (de_varP (i:=3) rfl)) (DE.toA de_int)))) (dt_not (dt_b (DE.toA (dc_P (len_cons (len_cons len_nil)) (daa_cons (de_varA (i:=4) (m:=.O) rfl (by decide)) (daa_cons (DE.toA (de_varP (i:=9) rfl)) daa_nil)))))))
      (ds_setP (i:=3) (de_sub (DE.toA (de_varP (i:=7) rfl)) (DE.toA de_int)) (by decide))
      ds_next)
      (ds_if (dt_and (dt_test (DE.toA (de_lt (DE.toA (de_varP (i:=3) rfl)) (DE.toA de_int)))) (dt_test (DE.toA (de_eqG (g:=id) (de_ixA (te:=tC .non) (DE.toA (de_varP (i:=9) rfl)) (DE.toA de_int)) (DE.toA de_str)))))
      (ds_setF (i:=4) (de_ixF (te:=tC .non) (dc_F (len_cons (len_cons len_nil)) (daa_cons (de_varA (i:=4) (m:=.O) rfl (by decide)) (daa_cons (de_ixA (te:=tC .non) (DE.toA (de_varP (i:=9) rfl)) (DE.toA de_int)) daa_nil))) (DE.toA de_int)) (by decide))
      (ds_if (dt_test (DE.toA (de_lt (DE.toA (de_varP (i:=3) rfl)) (DE.toA de_int))))
      (ds_setF (i:=4) (de_ixF (te:=tC .non) (dc_F (len_cons (len_cons len_nil)) (daa_cons (de_varA (i:=4) (m:=.O) rfl (by decide)) (daa_cons (de_ixA (te:=tC .non) (DE.toA (de_varP (i:=9) rfl)) (DE.toA de_int)) daa_nil))) (DE.toA de_int)) (by decide))
      ds_next))))))) rfl rfl rfl rfl))
      (ds_retF (de_tupF (daf_cons (de_varM (i:=2) rfl) (daf_cons (de_varM (i:=4) rfl) (daf_cons (DE.PF (de_varP (i:=3) rfl)) daf_nil))))))))))), ?_⟩
  refine Pm.ref pm__law_plan (g:=fun xs=>_) ?_
  rintro ⟨ns,b⟩ ⟨hn,B⟩
  simp only at hn B
  simp only [pm__law_plan]
  have b1:=B.lo
  have b2:=B.hi
  walk_at "pd"
  rw [c__law_cell_at (by omega)]
  have hc1:=cellAt_bd ns 1
  walk_at "pd"
  rw [show (cellAt ns 1 / 2 % (if (ns.length:Int) - 3 > 1 then (ns.length:Int) - 3 else 1))=plPl ns from rfl]
  generalize hw:forR _ _ _=W
  obtain ⟨ρ',rfl,v1,v2,v3,rfl⟩:=forR_inv' hw (fun i ρ=>∃ v1 v2 v3,ρ=[.lst (ns.map PV.int),.lst (b.map PV.int),.lst ((plS ns b i).1.map deedP),.int (plS ns b i).2.2,.lst ((plS ns b i).2.1.map PV.int),.int (cellAt ns 1),.int (plPl ns),v1,v2,v3]) ⟨_,_,_,rfl⟩ (by
    rintro i x ρ hx ⟨v1,v2,v3,rfl⟩
    obtain ⟨hi,rfl⟩:=rngP_get hx
    have ok:=pl_ok ns B i
    have hs:plS ns b (i + 1)=_:=rfl
    conv at hs=>rhs; rw [plS]
    have hd:plD ns (plS ns b i).2.1 i=_:=rfl
    conv at hd=>rhs; unfold plD
    rw [hs]
    generalize plD ns (plS ns b i).2.1 i=d at hd hs
    generalize plS ns b i=s at ok hd hs
    obtain ⟨ds,h,bad⟩:=s
    obtain ⟨l,br,sz,o⟩:=ok
    simp only at l br sz o hd
    walk_at "pd"
    rw [c__law_cell_at (by omega),show ((3:Int) + (i:Int)).toNat=3 + i by omega]
    have hlay:=plD_lay ns h i
    walk_at "pd"
    rw [pIx_SB]
    walk_at "pd"
    rw [c__law_pit (by omega)]
    walk_at "pd"
    generalize hT:(fun (ρ:List PV)=>RS.seq _ _)=TAIL
    have tail:(TAIL [.lst (ns.map PV.int),.lst (b.map PV.int),.lst (ds.map deedP),.int bad,.lst (h.map PV.int),.int (cellAt ns 1),.int (plPl ns),.int (3 + i),.int (cellAt ns (3 + i)),deedP d]).good (fun ρ=>∃ v1 v2 v3,ρ=[.lst (ns.map PV.int),.lst (b.map PV.int),.lst ((ds ++ [d]).map deedP),.int (if bad < 0∧canD h d=false then (i:Int) else bad),.lst ((if bad < 0∧canD h d=true then (deedW h d).1 else h).map PV.int),.int (cellAt ns 1),.int (plPl ns),v1,v2,v3]):=by
      subst hT
      have hld:PyData.canLay0 (.str d.1)=true:=by
        rw [hd]
        split
        · exact oddD_lay _ _
        · exact wSB_lay _
      have hsw:PyData.canLay0 (.str "sow")=true:=by rw [PyData.canLay0]; decide +kernel
      have e0:pIx (deedP d) (.int 0)=.ok (.str d.1):=rfl
      have e1:pIx (deedP d) (.int 1)=.ok (.int d.2):=rfl
      generalize hX:(if bad < 0∧canD h d=false then (i:Int) else bad)=X
      generalize hY:(if bad < 0∧canD h d=true then (deedW h d).1 else h)=Y
      walk_at "pd"
      have hi3:((ns.length:Int) - 3).toNat≤60:=ln18 hn
      have hlen:(ds.map deedP).length < 1000:=by rw [List.length_map,l]; exact Nat.lt_of_lt_of_le hi (Nat.le_trans hi3 (by decide))
      rw [pApp_any (Nat.lt_of_lt_of_le hlen (by decide)),show ds.map deedP ++ [deedP d]=(ds ++ [d]).map deedP by simp]
      walk_at "pd"
      by_cases hbad:bad < 0
      · rw [decide_eq_true hbad]
        walk_at "pd"
        rw [c__law_can hld]
        by_cases hc:canD h d=true
        · have hS:=canD_stand br hc
          rw [hc]
          walk_at "pd"
          rw [decide_eq_true hbad]
          walk_at "pd"
          rw [e0]
          walk_at "pd"
          rw [pEq_str hld hsw]
          rw [if_neg (by simp [hc])] at hX
          rw [if_pos ⟨hbad,hc⟩] at hY
          subst hX hY
          unfold deedW
          by_cases hw:d.1 = "sow"
          · rw [if_pos hw,show (d.1 == Str.ofString "sow")=true from beq_iff_eq.mpr hw]
            walk_at "pd"
            rw [e1]
            walk_at "pd"
            rw [c__law_sown hS.sowOk]
            unfold pairP
            walk_at "pd"
            exact nextI ⟨_,_,_,rfl⟩
          · rw [if_neg hw,show (d.1 == Str.ofString "sow")=false from beq_eq_false_iff_ne.mpr hw]
            walk_at "pd"
            rw [e1]
            walk_at "pd"
            rw [c__law_back ⟨br,hS.lo,hS.hi⟩]
            unfold pairP
            walk_at "pd"
            exact nextI ⟨_,_,_,rfl⟩
        · have hc:=Bool.eq_false_iff.mpr hc
          rw [hc]
          rw [if_pos ⟨hbad,hc⟩] at hX
          rw [if_neg (by simp [hc])] at hY
          subst hX hY
          walk_at "pd"
          rw [show (3:Int) + (i:Int) - 3=i by omega,decide_eq_false (by omega)]
          walk_at "pd"
          exact nextI ⟨_,_,_,rfl⟩
      · rw [if_neg (fun z=>hbad z.1)] at hX hY
        subst hX hY
        rw [decide_eq_false hbad]
        walk_at "pd"
        rw [decide_eq_false hbad]
        walk_at "pd"
        exact nextI ⟨_,_,_,rfl⟩
    rw [show (3:Int) + (i:Int) - 3=i by omega]
    by_cases hq:(i:Int)=plPl ns
    · rw [decide_eq_true hq]
      walk_at "pd"
      by_cases hq2:cellAt ns 1 % 2=1
      · rw [decide_eq_true hq2]
        walk_at "pd"
        rw [c__law_odd (by omega)]
        rw [if_pos ⟨hq,hq2⟩] at hd
        rw [← hd]
        walk_at "pd"
        exact tail
      · rw [decide_eq_false hq2]
        walk_at "pd"
        rw [if_neg (fun z=>hq2 z.2)] at hd
        rw [hd] at tail ⊢
        exact tail
    · rw [decide_eq_false hq]
      walk_at "pd"
      rw [if_neg (fun z=>hq z.1)] at hd
      rw [hd] at tail ⊢
      exact tail)
  walk_at "pd"
  rw [rngP_length,show ((ns.length:Int) - 3).toNat=ns.length - 3 by omega]
  rfl
theorem c__law_plan {ns b:List Int} (h:ns.length≤63∧Board b):pm__law_plan.fn [.lst (ns.map PV.int),.lst (b.map PV.int)]=.ok (plP (plS ns b (ns.length - 3))):=Pm.fn_eq pm__law_plan (ns,b) h fun (a:List Int × List Int) e=>by (simp only [pm__law_plan,List.cons.injEq,PV.lst.injEq,PV.int.injEq,PV.str.injEq,PV.bl.injEq,PV.tup.injEq,ints_iff,and_true] at e ⊢; first | (simp only [e]; done) | (subst e; rfl) | (rw [e]))
noncomputable def pm_is_whole:Pm:=⟨Int,fun i=>[.int i],fun _=>True,fun _=>.ok (.bl true)⟩
theorem fn_is_whole (T:Txt K mg) {f:Addr} {fd:FuncData} (F:Fun K "is_whole" "is_whole" s_is_whole f fd):FnOk P w K mg base CX0 1 f fd ["value"] (spF K 1 .P W0 pm_is_whole.fn):=by
  refine F.okP sc_is_whole rfl rfl (fun cdv A outer s H E hr=>?_)
  have hu:=hr.units
  refine ⟨_,_,⟨[],[],[],.P⟩,rfl,(pss_one (ps_ret (pe_and (pe_callB (call_isiK (K:=K) (n := "int") rfl) rfl T.z_isinstance bb_isinstance (pa_cons (pv 0) (pa_cons (pe_bltn (v:=.ty "int") rfl T.z_int bt_int rfl) pa_nil))) (pe_one (pe_not (pe_callB (call_isiK (K:=K) (n := "bool") rfl) rfl T.z_isinstance bb_isinstance (pa_cons (pv 0) (pa_cons (pe_bltn (v:=.ty "bool") rfl T.z_bool bt_bool rfl) pa_nil)))))))),
      (ds_retP (de_and (DE.toA (de_isi (de_varA (i:=0) (m:=.S) rfl (by decide)))) (de_not (DE.toA (de_isi (de_varA (i:=0) (m:=.S) rfl (by decide))))))), ?_⟩
  refine Pm.ref pm_is_whole (g:=fun xs=>_) ?_
  intro (i:Int) _
  simp only [pm_is_whole]
  walk_at "pd"
theorem c_is_whole {i:Int}:pm_is_whole.fn [.int i]=.ok (.bl true):=Pm.fn_eq pm_is_whole i trivial fun _ _=>rfl
noncomputable def pm_is_whole_from:Pm:=⟨Int × Int,fun a=>[.int a.1,.int a.2],fun _=>True,fun a=>.ok (.bl (decide (a.2≤a.1)))⟩
theorem fn_is_whole_from (T:Txt K mg) {f:Addr} {fd:FuncData} (F:Fun K "is_whole_from" "is_whole_from" s_is_whole_from f fd):FnOk P w K mg base CX0 2 f fd ["value", "least"] (spF K 2 .P W0 pm_is_whole_from.fn):=by
  have G_is_whole:=okOf (P:=P) (w:=w) (base:=base) T.d_is_whole bd_is_whole (fun F=>fn_is_whole T F)
  refine F.okP sc_is_whole_from rfl rfl (fun cdv A outer s H E hr=>?_)
  have hu:=hr.units
  refine ⟨_,_,⟨[],[],[],.P⟩,rfl,(pss_one (ps_ret (pe_and (pe_callO G_is_whole (hr.mono (by decide)) rfl (pa_cons (pv 0) pa_nil)) (pe_one (pe_cmpR op_ge (pv 0) (pv 1) (nomark _)))))),
      (ds_retP (de_and (DE.toA (dc_P (len_cons len_nil) (daa_cons (de_varA (i:=0) (m:=.S) rfl (by decide)) daa_nil))) (de_ge (de_varA (i:=0) (m:=.S) rfl (by decide)) (de_varA (i:=1) (m:=.S) rfl (by decide))))), ?_⟩
  refine Pm.ref pm_is_whole_from (g:=fun xs=>_) ?_
  rintro ⟨i,j⟩ _
  simp only [pm_is_whole_from]
  walk_at "pd"
  rw [c_is_whole]
  walk_at "pd"
theorem c_is_whole_from {i j:Int}:pm_is_whole_from.fn [.int i,.int j]=.ok (.bl (decide (j≤i))):=Pm.fn_eq pm_is_whole_from (i,j) trivial fun (a:Int × Int) e=>by (simp only [pm_is_whole_from,List.cons.injEq,PV.lst.injEq,PV.int.injEq,PV.str.injEq,PV.bl.injEq,PV.tup.injEq,ints_iff,and_true] at e ⊢; first | (simp only [e]; done) | (subst e; rfl) | (rw [e]))
noncomputable def pm_is_list_from_nought:Pm:=⟨List Int,fun ns=>[.lst (ns.map PV.int)],fun ns=>ns.length≤1000000,fun ns=>.ok (.bl (decide (∀ x∈ns,0≤x)))⟩
theorem fn_is_list_from_nought (T:Txt K mg) {f:Addr} {fd:FuncData} (F:Fun K "is_list_from_nought" "is_list_from_nought" s_is_list_from_nought f fd):FnOk P w K mg base CX0 3 f fd ["values"] (spF K 1 .P W0 pm_is_list_from_nought.fn):=by
  have G_is_whole_from:=okOf (P:=P) (w:=w) (base:=base) T.d_is_whole_from bd_is_whole_from (fun F=>fn_is_whole_from T F)
  refine F.okP sc_is_list_from_nought rfl rfl (fun cdv A outer s H E hr=>?_)
  have hu:=hr.units
  refine ⟨_,_,⟨[],[],[],.P⟩,rfl,(pss_one (ps_ret (pe_and (pe_callB (call_isiK (K:=K) (n := "list") rfl) rfl T.z_isinstance bb_isinstance (pa_cons (pv 0) (pa_cons (pe_bltn (v:=.ty "list") rfl T.z_list bt_list rfl) pa_nil))) (pe_one (pe_callB (call_allK (K:=K) rfl) rfl T.z_all bb_all (pa_cons (pe_comp (pi_listK (K:=K) (pv 0)) (fun _ _ _ _=>(pe_callO G_is_whole_from (hr.mono (by decide)) rfl (pa_cons (pv 1) (pa_cons pe_int pa_nil)))) sc_is_list_from_nought.nd rfl) pa_nil)))))),
      (ds_retP (de_and (DE.toA (de_isi (de_varA (i:=0) (m:=.S) rfl (by decide)))) (de_all (daa_cons (DE.toA (de_compF (DI.c (di_list (de_varZ (i:=0) rfl))) (DE.PF (dc_P (len_cons (len_cons len_nil)) (daa_cons (de_varA (i:=1) (m:=.S) rfl (by decide)) (daa_cons (DE.toA de_int) daa_nil)))))) daa_nil)))), ?_⟩
  refine Pm.ref pm_is_list_from_nought (g:=fun xs=>_) ?_
  intro (ns:List Int) (hn:ns.length≤1000000)
  simp only [pm_is_list_from_nought]
  walk_at "pd"
  rw [map_bls (g:=fun z=>decide (0≤z)) (fun z _=>c_is_whole_from)]
  walk_at "pd"
  rw [all_dec]
theorem c_is_list_from_nought {ns:List Int} (h:ns.length≤1000000):pm_is_list_from_nought.fn [.lst (ns.map PV.int)]=.ok (.bl (decide (∀ x∈ns,0≤x))):=Pm.fn_eq pm_is_list_from_nought ns h fun (a:List Int) e=>by (simp only [pm_is_list_from_nought,List.cons.injEq,PV.lst.injEq,PV.int.injEq,PV.str.injEq,PV.bl.injEq,PV.tup.injEq,ints_iff,and_true] at e ⊢; first | (simp only [e]; done) | (subst e; rfl) | (rw [e]))
noncomputable def pm_most_seeds:Pm:=⟨Unit,fun _=>[],fun _=>True,fun _=>.ok (.int (10 ^ 60))⟩
theorem fn_most_seeds (T:Txt K mg) {f:Addr} {fd:FuncData} (F:Fun K "most_seeds" "most_seeds" s_most_seeds f fd):FnOk P w K mg base CX0 1 f fd [] (spF K 0 .P W0 pm_most_seeds.fn):=by
  refine F.okP sc_most_seeds rfl rfl (fun cdv A outer s H E hr=>?_)
  have hu:=hr.units
  refine ⟨_,_,⟨[],[],[],.P⟩,rfl,(pss_one (ps_ret (pe_op op_pow pe_int pe_int))),
      (ds_retP (de_pow (DE.toA de_int) (DE.toA de_int))), ?_⟩
  refine Pm.ref pm_most_seeds (g:=fun xs=>_) ?_
  rintro _ _
  simp only [pm_most_seeds]
  walk_at "pd"
theorem c_most_seeds:pm_most_seeds.fn []=.ok (.int (10 ^ 60)):=Pm.fn_eq pm_most_seeds () trivial fun _ _=>rfl
noncomputable def pm_is_board:Pm:=⟨List Int,fun ns=>[.lst (ns.map PV.int)],fun ns=>ns.length≤1000,fun ns=>.ok (.bl (boardB ns))⟩
theorem fn_is_board (T:Txt K mg) {f:Addr} {fd:FuncData} (F:Fun K "is_board" "is_board" s_is_board f fd):FnOk P w K mg base CX0 4 f fd ["board"] (spF K 1 .P W0 pm_is_board.fn):=by
  have G_is_list_from_nought:=okOf (P:=P) (w:=w) (base:=base) T.d_is_list_from_nought bd_is_list_from_nought (fun F=>fn_is_list_from_nought T F)
  have G_most_seeds:=okOf (P:=P) (w:=w) (base:=base) T.d_most_seeds bd_most_seeds (fun F=>fn_most_seeds T F)
  refine F.okP sc_is_board rfl rfl (fun cdv A outer s H E hr=>?_)
  have hu:=hr.units
  refine ⟨_,_,⟨[],[],[],.P⟩,rfl,(pss_cons (ps_if (pt_not (pt_val (pe_callO G_is_list_from_nought (hr.mono (by decide)) rfl (pa_cons (pv 0) pa_nil)))) (pss_one (ps_ret pe_bl)) pss_nil)
      (pss_cons (ps_if (PW.pt (pw_or (pt_cmpR op_lt (pe_callB (call_lenK (K:=K)) rfl T.z_len bb_len (pa_cons (pv 0) pa_nil)) (pe_globI T.c_FEWEST_PITS rfl) (nomark _)) (pw_or1 (pt_cmpR op_gt (pe_callB (call_lenK (K:=K)) rfl T.z_len bb_len (pa_cons (pv 0) pa_nil)) (pe_globI T.c_MOST_PITS rfl) (nomark _))))) (pss_one (ps_ret pe_bl)) pss_nil)
      (pss_one (ps_ret (pe_cmpR op_le (pe_callB (call_sumK (K:=K) rfl) rfl T.z_sum bb_sum (pa_cons (pv 0) pa_nil)) (pe_callO0 G_most_seeds (hr.mono (by decide)) rfl) (nomark _)))))),
      (ds_seq (Γm:=[.S]) (ds_if (dt_not (dt_b (DE.toA (dc_P (len_cons len_nil) (daa_cons (de_varA (i:=0) (m:=.S) rfl (by decide)) daa_nil)))))
      (ds_retP de_bl)
      ds_next)
      (ds_seq (Γm:=[.S]) (ds_if (dt_or (dt_test (DE.toA (de_lt (DE.toA (de_len (daa_cons (de_varA (i:=0) (m:=.S) rfl (by decide)) daa_nil))) (DE.toA de_int)))) (dt_test (DE.toA (de_gt (DE.toA (de_len (daa_cons (de_varA (i:=0) (m:=.S) rfl (by decide)) daa_nil))) (DE.toA de_int)))))
      (ds_retP de_bl)
      ds_next)
      (ds_retP (de_le (DE.toA (de_sum (daa_cons (de_varA (i:=0) (m:=.S) rfl (by decide)) daa_nil))) (DE.toA (dc_P len_nil daa_nil)))))), ?_⟩
  refine Pm.ref pm_is_board (g:=fun xs=>_) ?_
  intro (ns:List Int) (hn:ns.length≤1000)
  simp only [pm_is_board]
  walk_at "pd"
  rw [c_is_list_from_nought (by omega)]
  walk_at "pd"
  by_cases h3:∀ x∈ns,0≤x
  · rw [decide_eq_true h3]
    walk_at "pd"
    by_cases h1:(ns.length:Int) < 2
    · rw [decide_eq_true h1]
      walk_at "pd"
      rw [show boardB ns=false from decide_eq_false (by omega)]
    rw [decide_eq_false h1]
    walk_at "pd"
    by_cases h2:(24:Int) < ns.length
    · rw [decide_eq_true h2]
      walk_at "pd"
      rw [show boardB ns=false from decide_eq_false (by omega)]
    rw [decide_eq_false h2]
    walk_at "pd"
    rw [c_most_seeds]
    walk_at "pd"
    by_cases h4:ns.sum≤10 ^ 60
    · rw [decide_eq_true h4,boardB_iff.mpr ⟨by omega,by omega,h3,h4⟩]
    · rw [decide_eq_false h4,show boardB ns=false from decide_eq_false (fun z=>h4 z.2.2.2)]
  · rw [decide_eq_false h3]
    walk_at "pd"
    rw [show boardB ns=false from decide_eq_false (fun z=>h3 z.2.2.1)]
theorem c_is_board {ns:List Int} (h:ns.length≤1000):pm_is_board.fn [.lst (ns.map PV.int)]=.ok (.bl (boardB ns)):=Pm.fn_eq pm_is_board ns h fun (a:List Int) e=>by (simp only [pm_is_board,List.cons.injEq,PV.lst.injEq,PV.int.injEq,PV.str.injEq,PV.bl.injEq,PV.tup.injEq,ints_iff,and_true] at e ⊢; first | (simp only [e]; done) | (subst e; rfl) | (rw [e]))
theorem pc_is_board:pm_is_board.calm:=fun a q h=>by (simp only [pm_is_board] at h; cases h)
noncomputable def pm_check_board:Pm:=⟨List Int,fun ns=>[.lst (ns.map PV.int)],fun ns=>ns.length≤1000,fun ns=>orX (if boardB ns=true then none else some "BadBoard") .non⟩
theorem fn_check_board (T:Txt K mg) {f:Addr} {fd:FuncData} (F:Fun K "check_board" "check_board" s_check_board f fd):FnOk P w K mg base (CX1 P w) 5 f fd ["board"] (spF K 1 .P (W1 K) pm_check_board.fn):=by
  have G_is_board:=okOf (P:=P) (w:=w) (base:=base) T.d_is_board bd_is_board (fun F=>fn_is_board T F)
  obtain ⟨C_BadBoard,hC_BadBoard,hQ_BadBoard⟩:=xTab_exc T.x_exc (n := "BadBoard") (by decide)
  refine F.okX sc_check_board rfl rfl (fun cdv A outer s H E hr=>?_)
  have hu:=hr.units
  refine ⟨_,_,⟨[.S],[],[],.P⟩,rfl,(pss_one (ps_if (pt_not (pt_val (pe_callO G_is_board (hr.mono (by decide)) rfl (pa_cons (pv 0) pa_nil)))) (pss_one (ps_raise made_cx hQ_BadBoard rfl (T.x_mg _ _ hC_BadBoard) rfl (pa_cons pe_str pa_nil))) pss_nil)),
      (ds_if (dt_not (dt_b (DE.toA (dy_P (len_cons len_nil) (Pm.calm_fn pc_is_board) (daa_cons (de_varA (i:=0) (m:=.S) rfl (by decide)) daa_nil)))))
      (ds_raise hC_BadBoard (len_cons len_nil) (by decide) (daa_cons (DE.toA de_str) daa_nil))
      ds_next), ?_⟩
  refine Pm.ref pm_check_board (g:=fun xs=>_) ?_
  intro (ns:List Int) (hn:ns.length≤1000)
  simp only [pm_check_board]
  walk_at "pu"
  rw [c_is_board hn]
  walk_at "pu"
  by_cases h:boardB ns=true
  · rw [h]; walk_at "pu"; rfl
  · rw [Bool.not_eq_true] at h
    rw [h]; walk_at "pu"; rfl
theorem c_check_board {ns:List Int} (h:ns.length≤1000):pm_check_board.fn [.lst (ns.map PV.int)]=orX (if boardB ns=true then none else some "BadBoard") .non:=Pm.fn_eq pm_check_board ns h fun a e=>by
  simp only [pm_check_board,List.cons.injEq,PV.lst.injEq,and_true] at e ⊢
  rw [ints_inj' e]
noncomputable def pm_is_pit:Pm:=⟨List Int × Int,fun a=>[.lst (a.1.map PV.int),.int a.2],fun _=>True,fun a=>.ok (.bl (decide (0≤a.2∧a.2 < a.1.length)))⟩
theorem fn_is_pit (T:Txt K mg) {f:Addr} {fd:FuncData} (F:Fun K "is_pit" "is_pit" s_is_pit f fd):FnOk P w K mg base CX0 3 f fd ["board", "pit"] (spF K 2 .P W0 pm_is_pit.fn):=by
  have G_is_whole_from:=okOf (P:=P) (w:=w) (base:=base) T.d_is_whole_from bd_is_whole_from (fun F=>fn_is_whole_from T F)
  refine F.okP sc_is_pit rfl rfl (fun cdv A outer s H E hr=>?_)
  have hu:=hr.units
  refine ⟨_,_,⟨[],[],[],.P⟩,rfl,(pss_one (ps_ret (pe_and (pe_callO G_is_whole_from (hr.mono (by decide)) rfl (pa_cons (pv 1) (pa_cons pe_int pa_nil))) (pe_one (pe_cmpR op_lt (pv 1) (pe_callB (call_lenK (K:=K)) rfl T.z_len bb_len (pa_cons (pv 0) pa_nil)) (nomark _)))))),
      (ds_retP (de_and (DE.toA (dc_P (len_cons (len_cons len_nil)) (daa_cons (de_varA (i:=1) (m:=.S) rfl (by decide)) (daa_cons (DE.toA de_int) daa_nil)))) (de_lt (de_varA (i:=1) (m:=.S) rfl (by decide)) (DE.toA (de_len (daa_cons (de_varA (i:=0) (m:=.S) rfl (by decide)) daa_nil)))))), ?_⟩
  refine Pm.ref pm_is_pit (g:=fun xs=>_) ?_
  rintro ⟨ns,p⟩ -
  simp only [pm_is_pit]
  walk_at "pd"
  rw [c_is_whole_from]
  walk_at "pd"
  by_cases h0:0≤p
  · rw [decide_eq_true h0]
    walk_at "pd"
    by_cases h1:p < ns.length
    · rw [decide_eq_true h1,show decide (0≤p∧p < (ns.length:Int))=true from decide_eq_true ⟨h0,h1⟩]
    · rw [decide_eq_false h1,show decide (0≤p∧p < (ns.length:Int))=false from decide_eq_false (fun z=>h1 z.2)]
  · rw [decide_eq_false h0,show decide (0≤p∧p < (ns.length:Int))=false from decide_eq_false (fun z=>h0 z.1)]
    walk_at "pd"
theorem c_is_pit {ns:List Int} {p:Int}:pm_is_pit.fn [.lst (ns.map PV.int),.int p]=.ok (.bl (decide (0≤p∧p < ns.length))):=Pm.fn_eq pm_is_pit (ns,p) trivial fun (a:List Int × Int) e=>by (simp only [pm_is_pit,List.cons.injEq,PV.lst.injEq,PV.int.injEq,PV.str.injEq,PV.bl.injEq,PV.tup.injEq,ints_iff,and_true] at e ⊢; first | (simp only [e]; done) | (subst e; rfl) | (rw [e]))
theorem ls_sow0:PyData.canLay0 (.str "sow")=true:=by rw [PyData.canLay0]; decide +kernel
theorem ls_back0:PyData.canLay0 (.str "back")=true:=by rw [PyData.canLay0]; decide +kernel
theorem okE_str {w:Str} (h:PyData.canLay0 (.str w)=true):okE (.str w)=true:=by simp [okE,PV.noX,PV.dat,h,PyData.depth]
theorem pInD_w2 {w:Str} (h:PyData.canLay0 (.str w)=true):pInD id (.str w) (.tup [.str (Str.ofString "sow"),.str (Str.ofString "back")])=.ok (.bl (dWord w)):=by
  have e:∀ {a b:Str},(a == b)=(b == a):=fun {a b}=>by rw [Bool.eq_iff_iff,beq_iff_eq,beq_iff_eq]; exact eq_comm
  have h1:okE (.str (Str.ofString "sow"))=true:=okE_str ls_sow0
  have h2:okE (.str (Str.ofString "back"))=true:=okE_str ls_back0
  unfold pInD
  simp only [okE_str h,h1,h2,List.all_cons,List.all_nil,Bool.and_self,if_true,List.any_cons,List.any_nil,PV.dat,PyData.eqv,Bool.or_false,id]
  unfold dWord
  rw [e (a:=w),e (a:=w) (b := "back")]
noncomputable def pm_can_be_done:Pm:=⟨List Int × (Str × Int),fun a=>[.lst (a.1.map PV.int),deedP a.2],fun a=>PyData.canLay0 (.str a.2.1)=true,fun a=>.ok (.bl (canD a.1 a.2))⟩
theorem fn_can_be_done (T:Txt K mg) {f:Addr} {fd:FuncData} (F:Fun K "can_be_done" "can_be_done" s_can_be_done f fd):FnOk P w K mg base CX0 4 f fd ["board", "deed"] (spF K 2 .P W0 pm_can_be_done.fn):=by
  have G_is_pit:=okOf (P:=P) (w:=w) (base:=base) T.d_is_pit bd_is_pit (fun F=>fn_is_pit T F)
  refine F.okP sc_can_be_done rfl rfl (fun cdv A outer s H E hr=>?_)
  have hu:=hr.units
  refine ⟨_,_,⟨[],[],[],.P⟩,rfl,(pss_cons (ps_if (PW.pt (pw_or (pt_not (pt_val (pe_callB (call_isiK (K:=K) (n := "tuple") rfl) rfl T.z_isinstance bb_isinstance (pa_cons (pv 1) (pa_cons (pe_bltn (v:=.ty "tuple") rfl T.z_tuple bt_tuple rfl) pa_nil))))) (pw_or1 (pt_cmpR (op_neD (K:=K) hu) (pe_callB (call_lenK (K:=K)) rfl T.z_len bb_len (pa_cons (pv 1) pa_nil)) pe_int (nomark _))))) (pss_one (ps_ret pe_bl)) pss_nil)
      (pss_one (ps_ret (pe_and (pe_cmpR (op_inD (K:=K) hu) (pe_ix (ix_seqK (K:=K)) (pv 1) pe_int (fun _ _=>rfl)) (pe_tup (pa_cons pe_str (pa_cons pe_str pa_nil))) rfl) (pe_and (pe_callO G_is_pit (hr.mono (by decide)) rfl (pa_cons (pv 0) (pa_cons (pe_ix (ix_seqK (K:=K)) (pv 1) pe_int (fun _ _=>rfl)) pa_nil))) (pe_one (pe_cmpR op_gt (pe_ix (ix_seqK (K:=K)) (pv 0) (pe_ix (ix_seqK (K:=K)) (pv 1) pe_int (fun _ _=>rfl)) (fun _ _=>rfl)) pe_int (nomark _)))))))),
      (ds_seq (Γm:=[.S,.S]) (ds_if (dt_or (dt_not (dt_b (DE.toA (de_isi (de_varA (i:=1) (m:=.S) rfl (by decide)))))) (dt_test (DE.toA (de_eqG (g:=(!·)) (DE.toA (de_len (daa_cons (de_varA (i:=1) (m:=.S) rfl (by decide)) daa_nil))) (DE.toA de_int)))))
      (ds_retP de_bl)
      ds_next)
      (ds_retP (de_and (DE.toA (de_inD (g:=id) (de_ixA (te:=tC .non) (de_varA (i:=1) (m:=.S) rfl (by decide)) (DE.toA de_int)) (de_tupA (daa_cons (DE.toA de_str) (daa_cons (DE.toA de_str) daa_nil))))) (de_and (DE.toA (dc_P (len_cons (len_cons len_nil)) (daa_cons (de_varA (i:=0) (m:=.S) rfl (by decide)) (daa_cons (de_ixA (te:=tC .non) (de_varA (i:=1) (m:=.S) rfl (by decide)) (DE.toA de_int)) daa_nil)))) (de_gt (de_ixA (te:=tC .non) (de_varA (i:=0) (m:=.S) rfl (by decide)) (de_ixA (te:=tC .non) (de_varA (i:=1) (m:=.S) rfl (by decide)) (DE.toA de_int))) (DE.toA de_int)))))), ?_⟩
  refine Pm.ref pm_can_be_done (g:=fun xs=>_) ?_
  rintro ⟨b,w,p⟩ (hw:PyData.canLay0 (.str w)=true)
  simp only [pm_can_be_done,deedP]
  walk_at "pd"
  rw [pInD_w2 hw]
  walk_at "pd"
  unfold canD
  cases hd:dWord w with
  | false=>walk_at "pd"
  | true =>
    walk_at "pd"
    rw [c_is_pit]
    walk_at "pd"
    by_cases hp:0≤p∧p < (b.length:Int)
    · rw [decide_eq_true hp]
      walk_at "pd"
      try rw [pIx_ints hp.1 hp.2]
      try walk_at "pd"
    · rw [decide_eq_false hp]
      walk_at "pd"
theorem c_can_be_done {b:List Int} {d:Str × Int} (h:PyData.canLay0 (.str d.1)=true):pm_can_be_done.fn [.lst (b.map PV.int),deedP d]=.ok (.bl (canD b d)):=Pm.fn_eq pm_can_be_done (b,d) h fun ⟨b',w',p'⟩ e=>by
  obtain ⟨w,p⟩:=d
  simp only [pm_can_be_done,deedP,List.cons.injEq,PV.lst.injEq,PV.tup.injEq,PV.str.injEq,PV.int.injEq,and_true] at e ⊢
  rw [ints_inj' e.1,e.2.1,e.2.2]
theorem pc_can_be_done:pm_can_be_done.calm:=fun a q h=>by (simp only [pm_can_be_done] at h; cases h)
noncomputable def pm_take_back_at:Pm:=⟨List Int × Int,fun a=>[.lst (a.1.map PV.int),.int a.2],fun a=>0≤a.2∧a.2 < a.1.length∧a.1.length≤1000∧∀ x∈a.1,0≤x∧x≤10 ^ 60,fun a=>.ok (pairP (tbS a))⟩
theorem fn_take_back_at (T:Txt K mg) {f:Addr} {fd:FuncData} (F:Fun K "take_back_at" "take_back_at" s_take_back_at f fd):FnOk P w K mg base CX0 1 f fd ["board", "pit"] (spF K 2 .F W0 pm_take_back_at.fn):=by
  refine F.okP sc_take_back_at rfl rfl (fun cdv A outer s H E hr=>?_)
  have hu:=hr.units
  refine ⟨_,_,⟨[],[],[],.F⟩,rfl,(pss_cons (ps_set (i:=2) sc_take_back_at.nd rfl (by first | exact Or.inl rfl | exact Or.inr rfl) (pe_callB (call_lenK (K:=K)) rfl T.z_len bb_len (pa_cons (pv 0) pa_nil)))
      (pss_cons (ps_set (i:=3) sc_take_back_at.nd rfl (by first | exact Or.inl rfl | exact Or.inr rfl) (pe_callB (call_minIK (K:=K) rfl) rfl T.z_min bb_min (pa_cons (pv 0) pa_nil)))
      (pss_cons (ps_setComp (i:=4) sc_take_back_at.nd rfl (pi_listK (K:=K) (pv 0)) (fun _ _ _ _=>(pe_op op_sub (pv 7) (pv 3))) rfl)
      (pss_cons (ps_set (i:=5) sc_take_back_at.nd rfl (by first | exact Or.inl rfl | exact Or.inr rfl) (pe_op op_mulB (pv 3) (pv 2)))
      (pss_cons (ps_set (i:=6) sc_take_back_at.nd rfl (by first | exact Or.inl rfl | exact Or.inr rfl) (pv 1))
      (pss_cons (ps_while PassesOwn.never (pt_cmpR op_gt (pe_ix (ix_seqK (K:=K)) (pv 4) (pv 6) (fun _ _=>rfl)) pe_int (nomark _)) (pss_cons (ps_augS (pv 4) (pv 6) (get_listK (K:=K)) pe_int ip_sub set_list)
      (pss_cons (ps_aug (i:=5) sc_take_back_at.nd rfl (by first | exact Or.inl rfl | exact Or.inr rfl) pe_int ip_add)
      (pss_one (ps_set (i:=6) sc_take_back_at.nd rfl (by first | exact Or.inl rfl | exact Or.inr rfl) (pe_op op_mod (pe_op op_sub (pv 6) pe_int) (pv 2)))))))
      (pss_cons (ps_asg (pv 5) (pg_sub (pv 4) (pv 6) set_list))
      (pss_one (ps_ret (pe_tup (pa_cons (pv 4) (pa_cons (pv 6) pa_nil)))))))))))),
      (ds_seq (Γm:=[.S,.S,.P,.U,.U,.U,.U]) (ds_setP (i:=2) (de_len (daa_cons (de_varA (i:=0) (m:=.S) rfl (by decide)) daa_nil)) (by decide))
      (ds_seq (Γm:=[.S,.S,.P,.P,.U,.U,.U]) (ds_setP (i:=3) (de_min (daa_cons (de_varA (i:=0) (m:=.S) rfl (by decide)) daa_nil)) (by decide))
      (ds_seq (Γm:=[.S,.S,.P,.P,.O,.U,.U]) (ds_setComp (i:=4) (de_compF (DI.c (di_list (de_varZ (i:=0) rfl))) (DE.PF (de_sub (de_varA (i:=7) (m:=.S) rfl (by decide)) (DE.toA (de_varP (i:=3) rfl))))) (by decide))
      (ds_seq (Γm:=[.S,.S,.P,.P,.O,.P,.U]) (ds_setP (i:=5) (de_mul (DE.toA (de_varP (i:=3) rfl)) (DE.toA (de_varP (i:=2) rfl))) (by decide))
      (ds_seq (Γm:=[.S,.S,.P,.P,.O,.P,.P]) (ds_setP (i:=6) (DE.grd (de_varA (i:=1) (m:=.S) rfl (by decide))) (by decide))
      (ds_seq (Γm:=[.S,.S,.P,.P,.O,.P,.P]) (ds_while (Γ:=[.S,.S,.P,.P,.O,.P,.P]) (dt_test (DE.toA (de_gt (de_ixA (te:=tC .non) (de_varA (i:=4) (m:=.O) rfl (by decide)) (DE.toA (de_varP (i:=6) rfl))) (DE.toA de_int))))
      (ds_seq (Γm:=[.S,.S,.P,.P,.O,.P,.P]) (ds_augSO (i:=4) rfl rfl (DE.toA (de_varP (i:=6) rfl)) (DE.toA de_int))
      (ds_seq (Γm:=[.S,.S,.P,.P,.O,.P,.P]) (ds_augI (i:=5) rfl (DE.toA de_int))
      (ds_setP (i:=6) (de_mod (DE.toA (de_sub (DE.toA (de_varP (i:=6) rfl)) (DE.toA de_int))) (DE.toA (de_varP (i:=2) rfl))) (by decide)))))
      (ds_seq (Γm:=[.S,.S,.P,.P,.O,.P,.P]) (ds_setItO (i:=4) rfl (de_varP (i:=5) rfl) (DE.toA (de_varP (i:=6) rfl)))
      (ds_retF (de_tupF (daf_cons (de_varM (i:=4) rfl) (daf_cons (DE.PF (de_varP (i:=6) rfl)) daf_nil))))))))))), ?_⟩
  refine Pm.ref pm_take_back_at (g:=fun xs=>_) ?_
  rintro ⟨ns,q⟩ ⟨h0,h1,h2,h3⟩
  simp only at h0 h1 h2 h3
  simp only [pm_take_back_at]
  have hne:ns≠[]:=by intro e; rw [e] at h1; simp at h1; omega
  have hm:=h3 _ (minI_mem hne)
  obtain ⟨j1,j2,j3⟩:=tbJ_spec h0 h1
  walk_at "pu"
  rw [pMin_ints hne]
  walk_at "pu"
  rw [lenM_ok (by simp; omega)]
  walk_at "pu"
  have hc:mapR (fun x=>pSub x (.int (minI ns))) (ns.map PV.int)=.ok ((tab ns.length (tbF ns q 0)).map PV.int):=by
    have e:tab ns.length (tbF ns q 0)=ns.map fun z=>z - minI ns:=by
      refine (tab_ext (by simp) fun x hx=>?_).symm
      have b:=Int.emod_nonneg (q - (x:Int)) (show (ns.length:Int)≠0 by omega)
      unfold tbF
      rw [if_neg (by omega)]
      simp [List.getD_eq_getElem?_getD,List.getElem?_eq_getElem hx]
    rw [e,mapR_ok (g:=fun x=>match x with | .int z=>PV.int (z - minI ns) | _=>.non)]
    · simp [Function.comp_def]
    · intro x hx
      obtain ⟨z,_,rfl⟩:=List.mem_map.mp hx
      rfl
  rw [hc]
  walk_at "pu"
  rw [pMul_ok (cmul_of 60 3 (by omega) (by omega))]
  walk_at "pu"
  generalize hcd:(fun (ρ:List PV)=>((pIx (gv 4 ρ) (gv 6 ρ)).bind _).bind asB)=cond
  generalize hb:(fun (ρ:List PV)=>RS.seq _ _)=body
  have key:=whileR_by (c:=cond) (b:=body) (fun ρ=>∃ i:Nat,i≤tbJ ns q∧ρ=[.lst (ns.map PV.int),.int q,.int ns.length,.int (minI ns),.lst ((tab ns.length (tbF ns q i)).map PV.int),.int (minI ns * ns.length + i),.int ((q - i) % ns.length)])
    (fun ρ=>match gv 5 ρ with | .int t=>(minI ns * ns.length + ns.length - t).toNat | _=>0)
    (r:=.next [.lst (ns.map PV.int),.int q,.int ns.length,.int (minI ns),.lst ((tab ns.length (tbF ns q (tbJ ns q))).map PV.int),.int (tbT ns q),.int (tbP ns q)]) (by
    rintro ρ ⟨i,hi,rfl⟩
    have m1:=mod_sub (n:=ns.length) h0 h1 (show (0:Int)≤i by omega) (by omega)
    have b:0≤(q - (i:Int)) % ns.length∧(q - (i:Int)) % ns.length < ns.length:=by rw [m1]; split <;> omega
    have ix:pIx (.lst ((tab ns.length (tbF ns q i)).map PV.int)) (.int ((q - (i:Int)) % ns.length))=.ok (.int (tbG ns q i)):=by
      rw [pIx_ints b.1 (by rw [tab_length]; exact b.2),tab_get (by omega),tbF_at h0 h1 (by omega)]
    by_cases hij:i=tbJ ns q
    · left
      subst hij
      constructor
      · subst hcd
        walk_at "pu"
        rw [ix]
        walk_at "pu"
        rw [j3]
        rfl
      · rfl
    · right
      have hlt:i < tbJ ns q:=by omega
      constructor
      · subst hcd
        walk_at "pu"
        rw [ix]
        walk_at "pu"
        rw [decide_eq_true (j2 i hlt)]
      · left
        have hst:=tb_step h0 h1 (i:=i) (by omega)
        rw [tbF_at h0 h1 (by omega)] at hst
        have hset:=pSet_ints (ns:=tab ns.length (tbF ns q i)) (k:=(q - (i:Int)) % ns.length) (y:=tbG ns q i - 1) b.1 (by rw [tab_length]; exact b.2)
        rw [hst] at hset
        have e2:((q - (i:Int)) % ns.length - 1) % ns.length=(q - ((i + 1:Nat):Int)) % ns.length:=by
          rw [Int.emod_sub_emod]; congr 1; omega
        refine ⟨[.lst (ns.map PV.int),.int q,.int ns.length,.int (minI ns),.lst ((tab ns.length (tbF ns q (i + 1))).map PV.int),.int (minI ns * ns.length + (i + 1:Nat)),.int ((q - (i + 1:Nat)) % ns.length)],.inl ?_,⟨i + 1,by omega,rfl⟩, ?_⟩
        · subst hb
          walk_at "pu"
          rw [ix]
          walk_at "pu"
          rw [hset]
          walk_at "pu"
          walk_at "pu"
          rw [pMod_ok (by omega)]
          walk_at "pu"
          rw [e2,show minI ns * (ns.length:Int) + i + 1=minI ns * ns.length + (i + 1:Nat) by omega]
        · simp only [gv_succ,gv_zero]
          omega) _ ⟨0,by omega,by rw [Int.natCast_zero,Int.add_zero,Int.sub_zero,Int.emod_eq_of_lt h0 h1]⟩
  rw [key]
  have hb2:=tbP_bound (ns:=ns) (q:=q) (by omega)
  walk_at "pu"
  rw [pSet_ints hb2.1 (by rw [tab_length]; exact hb2.2)]
  walk_at "pu"
  rfl
theorem c_take_back_at {ns:List Int} {q:Int} (h:0≤q∧q < ns.length∧ns.length≤1000∧∀ x∈ns,0≤x∧x≤10 ^ 60):pm_take_back_at.fn [.lst (ns.map PV.int),.int q]=.ok (pairP (tbS (ns,q))) :=
  Pm.fn_eq pm_take_back_at (ns,q) h fun ⟨ns',k'⟩ e=>by
    simp only [pm_take_back_at,List.cons.injEq,PV.lst.injEq,PV.int.injEq,and_true] at e ⊢
    rw [ints_inj' e.1,e.2]
noncomputable def pm_sow_pit:Pm:=⟨List Int × Int,fun a=>[.lst (a.1.map PV.int),.int a.2],fun a=>0≤a.2∧a.2 < a.1.length∧a.1.length≤1000,fun a=>.ok (pairP (sowS a))⟩
theorem fn_sow_pit (T:Txt K mg) {f:Addr} {fd:FuncData} (F:Fun K "sow_pit" "sow_pit" s_sow_pit f fd):FnOk P w K mg base CX0 1 f fd ["board", "pit"] (spF K 2 .F W0 pm_sow_pit.fn):=by
  refine F.okP sc_sow_pit rfl rfl (fun cdv A outer s H E hr=>?_)
  have hu:=hr.units
  refine ⟨_,_,⟨[],[],[],.F⟩,rfl,(pss_cons (ps_set (i:=2) sc_sow_pit.nd rfl (by first | exact Or.inl rfl | exact Or.inr rfl) (pe_callB (call_lenK (K:=K)) rfl T.z_len bb_len (pa_cons (pv 0) pa_nil)))
      (pss_cons (ps_set (i:=3) sc_sow_pit.nd rfl (by first | exact Or.inl rfl | exact Or.inr rfl) (pe_op op_fdivB (pe_ix (ix_seqK (K:=K)) (pv 0) (pv 1) (fun _ _=>rfl)) (pv 2)))
      (pss_cons (ps_set (i:=4) sc_sow_pit.nd rfl (by first | exact Or.inl rfl | exact Or.inr rfl) (pe_op op_mod (pe_ix (ix_seqK (K:=K)) (pv 0) (pv 1) (fun _ _=>rfl)) (pv 2)))
      (pss_cons (ps_setComp (i:=5) sc_sow_pit.nd rfl (pi_listK (K:=K) (pv 0)) (fun _ _ _ _=>(pe_op op_add (pv 8) (pv 3))) rfl)
      (pss_cons (ps_asg (pv 3) (pg_sub (pv 5) (pv 1) set_list))
      (pss_cons (ps_set (i:=6) sc_sow_pit.nd rfl (by first | exact Or.inl rfl | exact Or.inr rfl) (pv 1))
      (pss_cons (ps_for PassesOwn.never rfl (pi_range1 rfl T.z_range (pa_cons (pv 4) pa_nil)) (pg_name (i:=7) sc_sow_pit.nd rfl (by first | exact Or.inl rfl | exact Or.inr rfl)) (pss_cons (ps_set (i:=6) sc_sow_pit.nd rfl (by first | exact Or.inl rfl | exact Or.inr rfl) (pe_op op_mod (pe_op op_add (pv 6) pe_int) (pv 2)))
      (pss_one (ps_augS (pv 5) (pv 6) (get_listK (K:=K)) pe_int ip_add set_list))))
      (pss_one (ps_ret (pe_tup (pa_cons (pv 5) (pa_cons (pv 6) pa_nil)))))))))))),
      (ds_seq (Γm:=[.S,.S,.P,.U,.U,.U,.U,.U]) (ds_setP (i:=2) (de_len (daa_cons (de_varA (i:=0) (m:=.S) rfl (by decide)) daa_nil)) (by decide))
      (ds_seq (Γm:=[.S,.S,.P,.P,.U,.U,.U,.U]) (ds_setP (i:=3) (de_div (de_ixA (te:=tC .non) (de_varA (i:=0) (m:=.S) rfl (by decide)) (de_varA (i:=1) (m:=.S) rfl (by decide))) (DE.toA (de_varP (i:=2) rfl))) (by decide))
      (ds_seq (Γm:=[.S,.S,.P,.P,.P,.U,.U,.U]) (ds_setP (i:=4) (de_mod (de_ixA (te:=tC .non) (de_varA (i:=0) (m:=.S) rfl (by decide)) (de_varA (i:=1) (m:=.S) rfl (by decide))) (DE.toA (de_varP (i:=2) rfl))) (by decide))
      (ds_seq (Γm:=[.S,.S,.P,.P,.P,.O,.U,.U]) (ds_setComp (i:=5) (de_compF (DI.c (di_list (de_varZ (i:=0) rfl))) (DE.PF (de_add (de_varA (i:=8) (m:=.S) rfl (by decide)) (DE.toA (de_varP (i:=3) rfl))))) (by decide))
      (ds_seq (Γm:=[.S,.S,.P,.P,.P,.O,.U,.U]) (ds_setItO (i:=5) rfl (de_varP (i:=3) rfl) (de_varA (i:=1) (m:=.S) rfl (by decide)))
      (ds_seq (Γm:=[.S,.S,.P,.P,.P,.O,.P,.U]) (ds_setP (i:=6) (DE.grd (de_varA (i:=1) (m:=.S) rfl (by decide))) (by decide))
      (ds_seq (Γm:=[.S,.S,.P,.P,.P,.O,.P,.U]) (ds_for (Γl:=[.S,.S,.P,.P,.P,.O,.P,.U]) (di_rng1 (daa_cons (DE.toA (de_varP (i:=4) rfl)) daa_nil)) rfl (dg_P (i:=7) (by decide))
      (DS.out (Y:=⟨[.S,.S,.P,.P,.P,.O,.P,.P],[.S,.S,.P,.P,.P,.O,.P,.U],[.S,.S,.P,.P,.P,.O,.P,.U],.F⟩) (Y':=⟨[.S,.S,.P,.P,.P,.O,.P,.U],[.S,.S,.P,.P,.P,.O,.P,.U],[.S,.S,.P,.P,.P,.O,.P,.U],.F⟩) (ds_seq (Γm:=[.S,.S,.P,.P,.P,.O,.P,.P]) (ds_setP (i:=6) (de_mod (DE.toA (de_add (DE.toA (de_varP (i:=6) rfl)) (DE.toA de_int))) (DE.toA (de_varP (i:=2) rfl))) (by decide))
      (ds_augSO (i:=5) rfl rfl (DE.toA (de_varP (i:=6) rfl)) (DE.toA de_int))) rfl rfl rfl rfl))
      (ds_retF (de_tupF (daf_cons (de_varM (i:=5) rfl) (daf_cons (DE.PF (de_varP (i:=6) rfl)) daf_nil))))))))))), ?_⟩
  refine Pm.ref pm_sow_pit (g:=fun xs=>_) ?_
  rintro ⟨ns,p⟩ ⟨h0,h1,h2⟩
  simp only at h0 h1 h2
  simp only [pm_sow_pit]
  walk_at "pu"
  rw [pIx_ints h0 h1]
  walk_at "pu"
  rw [pDiv_ok (cdiv_of 3 (by omega) (by omega))]
  walk_at "pu"
  rw [pIx_ints h0 h1]
  walk_at "pu"
  rw [pMod_ok (show (0:Int) < ns.length by omega)]
  walk_at "pu"
  rw [lenM_ok (by simp; omega)]
  walk_at "pu"
  have hc:mapR (fun x=>pAdd x (.int (ns.getD p.toNat 0 / ns.length))) (ns.map PV.int)=.ok ((ns.map fun z=>z + ns.getD p.toNat 0 / ns.length).map PV.int):=by
    rw [mapR_ok (g:=fun x=>match x with | .int z=>PV.int (z + ns.getD p.toNat 0 / ns.length) | _=>.non)]
    · simp [Function.comp_def]
    · intro x hx
      obtain ⟨z,_,rfl⟩:=List.mem_map.mp hx
      rfl
  rw [hc]
  walk_at "pu"
  rw [pSet_ints h0 (by simp; omega),sow_zero h0 h1]
  walk_at "pu"
  have o0:=Int.emod_nonneg (ns.getD p.toNat 0) (show (ns.length:Int)≠0 by omega)
  have o1:=Int.emod_lt_of_pos (ns.getD p.toNat 0) (show (0:Int) < ns.length by omega)
  rw [pRng1_ok (by omega)]
  walk_at "pu"
  generalize hs:ns.getD p.toNat 0 / ns.length=rounds
  generalize ho:ns.getD p.toNat 0 % ns.length=over at o0 o1
  generalize hb:(fun (x:PV) (ρ:List PV)=>_)=body
  obtain ⟨ρ',e1,e2⟩:=forR_inv (b:=body) (xs:=rngP 0 over.toNat) (ρ:=[.lst (ns.map PV.int),.int p,.int ns.length,.int rounds,.int over,.lst ((tab ns.length (sowF ns p 0)).map PV.int),.int p,.non])
    (fun i ρ=>∃ v,ρ=[.lst (ns.map PV.int),.int p,.int ns.length,.int rounds,.int over,.lst ((tab ns.length (sowF ns p i)).map PV.int),.int ((p + i) % ns.length),v]) ⟨_,by rw [Int.natCast_zero,Int.add_zero,Int.emod_eq_of_lt h0 h1]⟩ (by
    rintro i x ρ hx ⟨v,rfl⟩
    obtain ⟨hi,rfl⟩:=rngP_get hx
    subst hb
    have m1:=mod_add h0 h1 (show (0:Int)≤i by omega) (by omega)
    have m2:=mod_add h0 h1 (show (0:Int)≤(i:Int) + 1 by omega) (by omega)
    have e:((p + (i:Int)) % ns.length + 1) % ns.length=(p + ((i:Int) + 1)) % ns.length:=by
      rw [m1,m2]
      split
      · rw [show p + (i:Int) + 1=p + ((i:Int) + 1) by omega,m2]
      · rw [Int.emod_eq_of_lt (by omega) (by omega)]; split <;> omega
    have b:0≤(p + ((i:Int) + 1)) % ns.length∧(p + ((i:Int) + 1)) % ns.length < ns.length:=by rw [m2]; split <;> omega
    walk_at "pu"
    rw [pMod_ok (by omega)]
    walk_at "pu"
    rw [e,pIx_ints b.1 (by rw [tab_length]; exact b.2)]
    walk_at "pu"
    rw [tab_get (by omega)]
    have hst:=sow_step h0 h1 (i:=i) (by omega)
    have hset:=pSet_ints (ns:=tab ns.length (sowF ns p i)) (k:=(p + ((i:Int) + 1)) % ns.length) (y:=sowF ns p i ((p + ((i:Int) + 1)) % ns.length).toNat + 1) b.1 (by rw [tab_length]; exact b.2)
    rw [hst] at hset
    rw [hset]
    walk_at "pu"
    exact nextI ⟨_,by rw [show ((i + 1:Nat):Int)=(i:Int) + 1 by omega]⟩)
  obtain ⟨v,rfl⟩:=e2
  rw [e1]
  walk_at "pu"
  rw [rngP_length,Int.toNat_of_nonneg o0]
  show Rr.ok (PV.tup _)=Rr.ok (PV.tup _)
  unfold sowS sowB sowL
  rw [ho]
theorem c_sow_pit {ns:List Int} {p:Int} (h:0≤p∧p < ns.length∧ns.length≤1000):pm_sow_pit.fn [.lst (ns.map PV.int),.int p]=.ok (pairP (sowS (ns,p))) :=
  Pm.fn_eq pm_sow_pit (ns,p) h fun ⟨ns',k'⟩ e=>by
    simp only [pm_sow_pit,List.cons.injEq,PV.lst.injEq,PV.int.injEq,and_true] at e ⊢
    rw [ints_inj' e.1,e.2]
noncomputable def pm_do_deed:Pm:=⟨List Int × Deed,fun a=>[.lst (a.1.map PV.int),deedP a.2],fun a=>Stand a.1 a.2.2∧PyData.canLay0 (.str a.2.1)=true,fun a=>.ok (pairP (deedW a.1 a.2))⟩
theorem fn_do_deed (T:Txt K mg) {f:Addr} {fd:FuncData} (F:Fun K "do_deed" "do_deed" s_do_deed f fd):FnOk P w K mg base CX0 2 f fd ["board", "deed"] (spF K 2 .F W0 pm_do_deed.fn):=by
  have G_take_back_at:=okOf (P:=P) (w:=w) (base:=base) T.d_take_back_at bd_take_back_at (fun F=>fn_take_back_at T F)
  have G_sow_pit:=okOf (P:=P) (w:=w) (base:=base) T.d_sow_pit bd_sow_pit (fun F=>fn_sow_pit T F)
  refine F.okP sc_do_deed rfl rfl (fun cdv A outer s H E hr=>?_)
  have hu:=hr.units
  refine ⟨_,_,⟨[],[],[],.F⟩,rfl,(pss_cons (ps_if (pt_cmpR (op_eqD (K:=K) hu) (pe_ix (ix_seqK (K:=K)) (pv 1) pe_int (fun _ _=>rfl)) pe_str (nomark _)) (pss_one (ps_ret (pe_callO G_sow_pit (hr.mono (by decide)) rfl (pa_cons (pv 0) (pa_cons (pe_ix (ix_seqK (K:=K)) (pv 1) pe_int (fun _ _=>rfl)) pa_nil))))) pss_nil)
      (pss_one (ps_ret (pe_callO G_take_back_at (hr.mono (by decide)) rfl (pa_cons (pv 0) (pa_cons (pe_ix (ix_seqK (K:=K)) (pv 1) pe_int (fun _ _=>rfl)) pa_nil)))))),
      (ds_seq (Γm:=[.S,.S]) (ds_if (dt_test (DE.toA (de_eqG (g:=id) (de_ixA (te:=tC .non) (de_varA (i:=1) (m:=.S) rfl (by decide)) (DE.toA de_int)) (DE.toA de_str))))
      (ds_retF (dc_F (len_cons (len_cons len_nil)) (daa_cons (de_varA (i:=0) (m:=.S) rfl (by decide)) (daa_cons (de_ixA (te:=tC .non) (de_varA (i:=1) (m:=.S) rfl (by decide)) (DE.toA de_int)) daa_nil))))
      ds_next)
      (ds_retF (dc_F (len_cons (len_cons len_nil)) (daa_cons (de_varA (i:=0) (m:=.S) rfl (by decide)) (daa_cons (de_ixA (te:=tC .non) (de_varA (i:=1) (m:=.S) rfl (by decide)) (DE.toA de_int)) daa_nil))))), ?_⟩
  refine Pm.ref pm_do_deed (g:=fun xs=>_) ?_
  rintro ⟨b,w,p⟩ ⟨hs,hw⟩
  simp only at hs hw
  simp only [pm_do_deed,deedP]
  walk_at "pd"
  rw [pEq_str hw ls_sow0]
  unfold deedW
  by_cases h:w = "sow"
  · rw [if_pos h,show (w == Str.ofString "sow")=true from beq_iff_eq.mpr h]
    walk_at "pd"
    rw [c_sow_pit hs.sowOk]
    walk_at "pd"
  · rw [if_neg h,show (w == Str.ofString "sow")=false from beq_eq_false_iff_ne.mpr h]
    walk_at "pd"
    rw [c_take_back_at hs.tbOk]
    walk_at "pd"
theorem c_do_deed {b:List Int} {d:Deed} (h:Stand b d.2∧PyData.canLay0 (.str d.1)=true):pm_do_deed.fn [.lst (b.map PV.int),deedP d]=.ok (pairP (deedW b d)):=Pm.fn_eq pm_do_deed (b,d) h fun ⟨b',w',p'⟩ e=>by
  obtain ⟨w,p⟩:=d
  simp only [pm_do_deed,deedP,List.cons.injEq,PV.lst.injEq,PV.tup.injEq,PV.str.injEq,PV.int.injEq,and_true] at e ⊢
  rw [ints_inj' e.1,e.2.1,e.2.2]
theorem pc_do_deed:pm_do_deed.calm:=fun a q h=>by (simp only [pm_do_deed] at h; cases h)
noncomputable def wkO (b:List Int) (ds:List Deed):Rr PV:=if boardB b=true then (match wkF b ds with | some k=>.exc ("BadPlan",.int (k:Nat)) | none=>.ok (.lst ((wkAt b ds ds.length).map PV.int))) else .exc ("BadBoard",.non)
theorem deedP_inj {ds es:List Deed} (h:ds.map deedP=es.map deedP):ds=es:=by
  induction ds generalizing es with
  | nil=>cases es with | nil=>rfl | cons e es=>simp at h
  | cons d ds ih =>
    cases es with
    | nil=>simp at h
    | cons e es =>
      obtain ⟨w,p⟩:=d
      obtain ⟨w',p'⟩:=e
      simp only [List.map_cons,List.cons.injEq,deedP,PV.tup.injEq,PV.str.injEq,PV.int.injEq,and_true] at h
      rw [h.1.1,h.1.2,ih h.2]
noncomputable def pm_walked:Pm:=⟨List Int × List Deed,fun a=>[.lst (a.1.map PV.int),.lst (a.2.map deedP)],fun a=>a.1.length≤1000∧a.2.length≤1000∧∀ d∈a.2,PyData.canLay0 (.str d.1)=true,fun a=>wkO a.1 a.2⟩
theorem enumP_get {xs:List PV} {i:Nat} {x:PV} (h:(enumP xs)[i]?=some x):∃ y,xs[i]?=some y∧x=.tup [.int (i:Nat),y]:=by
  unfold enumP at h
  rw [List.getElem?_mapIdx] at h
  obtain ⟨y,h1,h2⟩:=Option.map_eq_some_iff.mp h
  exact ⟨y,h1,h2.symm⟩
theorem fn_walked (T:Txt K mg) {f:Addr} {fd:FuncData} (F:Fun K "walked" "walked" s_walked f fd):FnOk P w K mg base (CX1 P w) 6 f fd ["board", "plan"] (spF K 2 .F (W1 K) pm_walked.fn):=by
  have G_check_board:=okOfX (P:=P) (w:=w) (base:=base) T.d_check_board bd_check_board (fun F=>fn_check_board T F)
  have G_can_be_done:=okOf (P:=P) (w:=w) (base:=base) T.d_can_be_done bd_can_be_done (fun F=>fn_can_be_done T F)
  have G_do_deed:=okOf (P:=P) (w:=w) (base:=base) T.d_do_deed bd_do_deed (fun F=>fn_do_deed T F)
  obtain ⟨C_BadPlan,f_BadPlan,fd_BadPlan,o_BadPlan,hC_BadPlan,hQ_BadPlan,hK_BadPlan,hL_BadPlan,hF_BadPlan,hN_BadPlan,hB_BadPlan⟩:=ini_BadPlan (P:=P) (w:=w) (base:=base) T
  refine F.okX sc_walked rfl rfl (fun cdv A outer s H E hr=>?_)
  have hu:=hr.units
  refine ⟨_,_,⟨[],[],[],.F⟩,rfl,(pss_cons (ps_expr (pe_callX G_check_board (hr.mono (by decide)) rfl pass_cx (pa_cons (pv 0) pa_nil)))
      (pss_cons (ps_set (i:=2) sc_walked.nd rfl (by first | exact Or.inl rfl | exact Or.inr rfl) (pe_callTy (call_listK (K:=K)) rfl T.z_list bt_list (pa_cons (pv 0) pa_nil)))
      (pss_cons (ps_for PassesOwn.leaving rfl (pi_enumK (K:=K) rfl T.z_enumerate (pa_cons (pv 1) pa_nil)) (pg_tup rfl (pgs_cons (pg_name (i:=3) sc_walked.nd rfl (by first | exact Or.inl rfl | exact Or.inr rfl)) (pgs_cons (pg_name (i:=4) sc_walked.nd rfl (by first | exact Or.inl rfl | exact Or.inr rfl)) pgs_nil))) (pss_cons (ps_if (pt_not (pt_val (pe_callO G_can_be_done (hr.mono (by decide)) rfl (pa_cons (pv 2) (pa_cons (pv 4) pa_nil))))) (pss_one (ps_raiseA madeD_cx hQ_BadPlan hK_BadPlan hL_BadPlan hF_BadPlan rfl (T.x_mg _ _ hC_BadPlan) rfl rfl hN_BadPlan (hr.mono (by decide)) hB_BadPlan (pa_cons pe_str (pa_cons (pv 3) pa_nil)))) pss_nil)
      (pss_one (ps_set (i:=2) sc_walked.nd rfl (by first | exact Or.inl rfl | exact Or.inr rfl) (pe_ix (ix_seqK (K:=K)) (pe_callO G_do_deed (hr.mono (by decide)) rfl (pa_cons (pv 2) (pa_cons (pv 4) pa_nil))) pe_int (fun _ _=>rfl))))))
      (pss_one (ps_ret (pv 2)))))),
      (ds_seq (Γm:=[.S,.S,.U,.U,.U]) (ds_expr (DE.toA (dx_P (len_cons len_nil) (daa_cons (de_varA (i:=0) (m:=.S) rfl (by decide)) daa_nil))))
      (ds_seq (Γm:=[.S,.S,.O,.U,.U]) (ds_setF (i:=2) (de_listF (daa_cons (de_varA (i:=0) (m:=.S) rfl (by decide)) daa_nil)) (by decide))
      (ds_seq (Γm:=[.S,.S,.O,.U,.U]) (ds_for (Γl:=[.S,.S,.O,.U,.U]) (di_enum (daz_cons (de_varZ (i:=1) rfl) daz_nil)) rfl (dg_tup (n:=2) (dgs_cons (dg_P (i:=3) (by decide)) (dgs_cons (dg_P (i:=4) (by decide)) dgs_nil)))
      (DS.out (Y:=⟨[.S,.S,.O,.P,.P],[.S,.S,.O,.U,.U],[.S,.S,.O,.U,.U],.F⟩) (Y':=⟨[.S,.S,.O,.U,.U],[.S,.S,.O,.U,.U],[.S,.S,.O,.U,.U],.F⟩) (ds_seq (Γm:=[.S,.S,.O,.P,.P]) (ds_if (dt_not (dt_b (DE.toA (dy_P (len_cons (len_cons len_nil)) (Pm.calm_fn pc_can_be_done) (daa_cons (de_varA (i:=2) (m:=.O) rfl (by decide)) (daa_cons (DE.toA (de_varP (i:=4) rfl)) daa_nil))))))
      (ds_raiseA hC_BadPlan (daa_cons (DE.toA de_str) (daa_cons (DE.toA (de_varP (i:=3) rfl)) daa_nil)))
      ds_next)
      (ds_setF (i:=2) (de_ixF (te:=tC .non) (dy_F (len_cons (len_cons len_nil)) (Pm.calm_fn pc_do_deed) (daa_cons (de_varA (i:=2) (m:=.O) rfl (by decide)) (daa_cons (DE.toA (de_varP (i:=4) rfl)) daa_nil))) (DE.toA de_int)) (by decide))) rfl rfl rfl rfl))
      (ds_retF (de_varM (i:=2) rfl))))), ?_⟩
  refine Pm.ref pm_walked (g:=fun xs=>_) ?_
  rintro ⟨b,ds⟩ ⟨hb,hds,hl⟩
  simp only at hb hds hl
  simp only [pm_walked]
  walk_at "pd"
  rw [c_check_board hb]
  unfold wkO
  by_cases h1:boardB b=true
  · rw [if_pos h1,if_pos h1]
    have B:=boardB_iff.mp h1
    walk_at "pd"
    generalize hw:forR _ _ _=W
    have hg:∀ d,grd (deedP d)=.ok (deedP d):=fun d=>rfl
    have get:∀ {i:Nat} {x:PV},(enumP (ds.map deedP))[i]?=some x→i < ds.length∧x=.tup [.int (i:Nat),deedP (ds.getD i ("",0))]:=fun {i x} h=>by
      obtain ⟨y,h1,rfl⟩:=enumP_get h
      rw [List.getElem?_map] at h1
      obtain ⟨d,h2,rfl⟩:=Option.map_eq_some_iff.mp h1
      refine ⟨(List.getElem?_eq_some_iff.mp h2).1, ?_⟩
      rw [List.getD_eq_getElem?_getD,h2]; rfl
    have lay:∀ i,i < ds.length→PyData.canLay0 (.str (ds.getD i ("",0)).1)=true:=fun i hi=>hl _ (by
      rw [List.getD_eq_getElem?_getD,List.getElem?_eq_getElem hi]; exact List.getElem_mem hi)
    have step:∀ (i:Nat) (x:PV) (v1 v2:PV),(∀ j,j≤i→canAt b ds j=true)→(enumP (ds.map deedP))[i]?=some x→True:=fun _ _ _ _ _ _=>trivial
    cases hf:wkF b ds with
    | none =>
      have hc:=wkF_none hf
      obtain ⟨ρ',rfl,v1,v2,rfl⟩:=forR_inv' hw (fun i ρ=>∃ v1 v2,ρ=[.lst (b.map PV.int),.lst (ds.map deedP),.lst ((wkAt b ds i).map PV.int),v1,v2]) ⟨_,_,rfl⟩ (by
        rintro i x ρ hx ⟨v1,v2,rfl⟩
        obtain ⟨hi,rfl⟩:=get hx
        walk_at "pd"
        rw [hg]
        walk_at "pd"
        rw [c_can_be_done (lay i hi),show canD (wkAt b ds i) (ds.getD i ("",0))=true from hc i hi]
        walk_at "pd"
        rw [c_do_deed ⟨canD_stand (wkAt_board B fun j hj=>hc j (by omega)) (hc i hi),lay i hi⟩]
        unfold pairP
        walk_at "pd"
        exact nextI ⟨_,_,rfl⟩)
      walk_at "pd"
      rw [show (enumP (ds.map deedP)).length=ds.length by simp [enumP]]
    | some k =>
      obtain ⟨f1,f2,f3⟩:=wkF_some hf
      have hW:W=.exc ("BadPlan",.int (k:Nat)):=forR_exc' hw k (fun i ρ=>∃ v1 v2,ρ=[.lst (b.map PV.int),.lst (ds.map deedP),.lst ((wkAt b ds i).map PV.int),v1,v2]) ⟨_,_,rfl⟩ (by
        rintro i x ρ hik hx ⟨v1,v2,rfl⟩
        obtain ⟨hi,rfl⟩:=get hx
        walk_at "pd"
        rw [hg]
        walk_at "pd"
        rw [c_can_be_done (lay i hi),show canD (wkAt b ds i) (ds.getD i ("",0))=true from f3 i hik]
        walk_at "pd"
        rw [c_do_deed ⟨canD_stand (wkAt_board B fun j hj=>f3 j (by omega)) (f3 i hik),lay i hi⟩]
        unfold pairP
        walk_at "pd"
        exact nextI ⟨_,_,rfl⟩) (by simp [enumP]; exact f1) (by
        rintro x ρ hx ⟨v1,v2,rfl⟩
        obtain ⟨hi,rfl⟩:=get hx
        walk_at "pd"
        rw [hg]
        walk_at "pd"
        rw [c_can_be_done (lay k hi),show canD (wkAt b ds k) (ds.getD k ("",0))=false from f2]
        walk_at "pd")
      rw [hW]
      walk_at "pd"
  · rw [if_neg h1,if_neg h1]
    walk_at "pd"
theorem c_walked {b:List Int} {ds:List Deed} (h:b.length≤1000∧ds.length≤1000∧∀ d∈ds,PyData.canLay0 (.str d.1)=true):pm_walked.fn [.lst (b.map PV.int),.lst (ds.map deedP)]=wkO b ds:=Pm.fn_eq pm_walked (b,ds) h fun ⟨b',ds'⟩ e=>by
  simp only [pm_walked,List.cons.injEq,PV.lst.injEq,and_true] at e ⊢
  rw [ints_inj' e.1,deedP_inj e.2]
noncomputable def askV (b:List Int) (ds:List Deed):PV:=match wkF b ds with
  | some k=>.int (k:Nat)
  | none=>.lst ((wkAt b ds ds.length).map PV.int)
noncomputable def pm__law_asked:Pm:=⟨List Int × List Deed,fun a=>[.lst (a.1.map PV.int),.lst (a.2.map deedP)],fun a=>Board a.1∧a.2.length≤1000∧∀ d∈a.2,PyData.canLay0 (.str d.1)=true,fun a=>.ok (askV a.1 a.2)⟩
theorem fn__law_asked (T:Txt K mg) {f:Addr} {fd:FuncData} (F:Fun K "_law_asked" "_law_asked" s__law_asked f fd):FnOk P w K mg base CX0 7 f fd ["board", "plan"] (spF K 2 .F W0 pm__law_asked.fn):=by
  have G_walked:=okOfX (P:=P) (w:=w) (base:=base) T.d_walked bd_walked (fun F=>fn_walked T F)
  obtain ⟨C_SowError,hC_SowError,hQ_SowError⟩:=xTab_exc T.x_exc (n := "SowError") (by decide)
  have hT_V:=xTab_isV T.x_tab (L:=XL_ValueError) (by decide)
  obtain ⟨I_BadPlan,hI_BadPlan,hT_BadPlan⟩:=xTab_isT T.x_tab (c := "BadPlan") (L:=XL_BadPlan) (by decide) (by decide)
  obtain ⟨I_NoSeeds,hI_NoSeeds,hT_NoSeeds⟩:=xTab_isT T.x_tab (c := "NoSeeds") (L:=XL_NoSeeds) (by decide) (by decide)
  obtain ⟨I_BadPit,hI_BadPit,hT_BadPit⟩:=xTab_isT T.x_tab (c := "BadPit") (L:=XL_BadPit) (by decide) (by decide)
  refine F.okP sc__law_asked rfl rfl (fun cdv A outer s H E hr=>?_)
  have hu:=hr.units
  refine ⟨_,_,⟨[],[],[],.F⟩,rfl,(pss_cons (ps_set (i:=2) sc__law_asked.nd rfl (by first | exact Or.inl rfl | exact Or.inr rfl) pe_non)
      (pss_cons (ps_set (i:=3) sc__law_asked.nd rfl (by first | exact Or.inl rfl | exact Or.inr rfl) pe_non)
      (pss_cons (ps_try (fun xe pn E hx=>(pss_one (ps_set (i:=3) sc__law_asked.nd rfl (by first | exact Or.inl rfl | exact Or.inr rfl) (pe_callX G_walked (hr.mono (by decide)) rfl hx (pa_cons (pv 0) (pa_cons (pv 1) pa_nil)))))) (fun A=>(pss_one (ps_set (i:=2) sc__law_asked.nd rfl (by first | exact Or.inl rfl | exact Or.inr rfl) (pv 4)))) sc__law_asked.nd rfl rfl rfl (T.x_mg _ _ hC_SowError) rfl rfl rfl)
      (pss_cons (ps_if (pt_cmpR op_isN (pv 2) pe_non (nomark _)) (pss_one (ps_ret (pv 3))) pss_nil)
      (pss_cons (ps_if (PW.pt (pw_or (pt_not (pt_val (pe_callB (call_isX (K:=K) hT_BadPlan) rfl T.z_isinstance bb_isinstance (pa_cons (pv 2) (pa_cons (pe_glob (v:=.ref I_BadPlan) rfl (T.x_mg _ _ hI_BadPlan) rfl) pa_nil))))) (pw_or (pt_not (pt_val (pe_callB (call_isX (K:=K) hT_V) rfl T.z_isinstance bb_isinstance (pa_cons (pv 2) (pa_cons (pe_bltn (v:=.ty "ValueError") rfl T.z_ValueError bt_ValueError rfl) pa_nil))))) (pw_or1 (pt_cmpR (op_neD (K:=K) hu) (pe_called (k:=1) (L:=XN) (mk_all T) (hr.mono (by decide)) (pv 2)) pe_str (nomark _)))))) (pss_one (ps_ret pe_str)) pss_nil)
      (pss_cons (ps_if (PW.pt (pw_or (pt_val (pe_callB (call_isXs (K:=K) (IsTs.cons hT_BadPit (IsTs.cons hT_NoSeeds (IsTs.nil)))) rfl T.z_isinstance bb_isinstance (pa_cons (pv 2) (pa_cons (pe_tup (pa_cons (pe_glob (v:=.ref I_BadPit) rfl (T.x_mg _ _ hI_BadPit) rfl) (pa_cons (pe_glob (v:=.ref I_NoSeeds) rfl (T.x_mg _ _ hI_NoSeeds) rfl) pa_nil))) pa_nil)))) (pw_or (pt_val (pe_callB (call_isiK (K:=K) (n := "bool") rfl) rfl T.z_isinstance bb_isinstance (pa_cons (pe_at (L:=XA) T.x_at (pv 2)) (pa_cons (pe_bltn (v:=.ty "bool") rfl T.z_bool bt_bool rfl) pa_nil)))) (pw_or1 (pt_not (pt_val (pe_callB (call_isiK (K:=K) (n := "int") rfl) rfl T.z_isinstance bb_isinstance (pa_cons (pe_at (L:=XA) T.x_at (pv 2)) (pa_cons (pe_bltn (v:=.ty "int") rfl T.z_int bt_int rfl) pa_nil))))))))) (pss_one (ps_ret pe_str)) pss_nil)
      (pss_one (ps_ret (pe_at (L:=XA) T.x_at (pv 2)))))))))),
      (ds_seq (Γm:=[.S,.S,.P,.U,.U]) (ds_setP (i:=2) de_non (by decide))
      (ds_seq (Γm:=[.S,.S,.P,.P,.U]) (ds_setP (i:=3) de_non (by decide))
      (ds_seq (Γm:=[.S,.S,.P,.O,.U]) (ds_try (i:=4) (Γs:=[.S,.S,.P,.P,.U]) (Y:=⟨[.S,.S,.P,.O,.U],[],[],.F⟩) (Yh:=⟨[.S,.S,.P,.P,.P],[],[],.F⟩) (L:=["SowError", "BadBoard", "BadPit", "NoSeeds", "BadPlan"]) (xTab_exm T.x_tab hC_SowError (by decide)) (fun E=>(ds_setF (i:=3) (dx_F (len_cons (len_cons len_nil)) (daa_cons (de_varA (i:=0) (m:=.S) rfl (by decide)) (daa_cons (de_varA (i:=1) (m:=.S) rfl (by decide)) daa_nil))) (by decide))) (fun E D σ H h=>h) (show DS K _ [.S,.S,.P,.P,.P] _ _ _ from (ds_setP (i:=2) (de_varP (i:=4) rfl) (by decide))) rfl rfl (by decide) rfl rfl rfl rfl)
      (ds_seq (Γm:=[.S,.S,.P,.O,.U]) (ds_if (dt_test (DE.toA (de_isN (DE.toA (de_varP (i:=2) rfl)))))
      (ds_retF (de_varM (i:=3) rfl))
      ds_next)
      (ds_seq (Γm:=[.S,.S,.P,.O,.U]) (ds_if (dt_or (dt_not (dt_b (DE.toA (de_isX (DE.toA (de_varP (i:=2) rfl)))))) (dt_or (dt_not (dt_b (DE.toA (de_isX (DE.toA (de_varP (i:=2) rfl)))))) (dt_test (DE.toA (de_eqG (g:=(!·)) (DE.toA (de_called (DE.toA (de_varP (i:=2) rfl)))) (DE.toA de_str))))))
      (ds_retF (DE.PF de_str))
      ds_next)
      (ds_seq (Γm:=[.S,.S,.P,.O,.U]) (ds_if (dt_or (dt_b (DE.toA (de_isXs (cs:=[.ref I_BadPit,.ref I_NoSeeds]) (Ls:=[XL_BadPit,XL_NoSeeds]) (Nat.le_of_ble_eq_true rfl) (DE.toA (de_varP (i:=2) rfl))))) (dt_or (dt_b (DE.toA (de_isi (DE.toA (de_at (DE.toA (de_varP (i:=2) rfl))))))) (dt_not (dt_b (DE.toA (de_isi (DE.toA (de_at (DE.toA (de_varP (i:=2) rfl))))))))))
      (ds_retF (DE.PF de_str))
      ds_next)
      (ds_retF (DE.PF (de_at (DE.toA (de_varP (i:=2) rfl))))))))))), ?_⟩
  refine Pm.ref pm__law_asked (g:=fun xs=>_) ?_
  rintro ⟨b,ds⟩ ⟨B,hds,hl⟩
  simp only at B hds hl
  simp only [pm__law_asked]
  have b2:=B.hi
  walk_at "pd"
  rw [c_walked ⟨by omega,hds,hl⟩]
  unfold wkO askV
  rw [if_pos (boardB_iff.mpr B)]
  cases hf:wkF b ds with
  | none =>
    walk_at "pd"
  | some k =>
    walk_at "pd"
theorem c__law_asked {b:List Int} {ds:List Deed} (h:Board b∧ds.length≤1000∧∀ d∈ds,PyData.canLay0 (.str d.1)=true):pm__law_asked.fn [.lst (b.map PV.int),.lst (ds.map deedP)]=.ok (askV b ds):=Pm.fn_eq pm__law_asked (b,ds) h fun ⟨b',ds'⟩ e=>by
  simp only [pm__law_asked,List.cons.injEq,PV.lst.injEq,and_true] at e ⊢
  rw [ints_inj' e.1,deedP_inj e.2]
noncomputable def pm__law_board_same:Pm:=⟨List Int,fun a=>[.lst (a.map PV.int),.lst (a.map PV.int)],fun a=>a.length≤1000,fun _=>.ok (.bl true)⟩
theorem fn__law_board_same (T:Txt K mg) {f:Addr} {fd:FuncData} (F:Fun K "_law_board_same" "_law_board_same" s__law_board_same f fd):FnOk P w K mg base CX0 1 f fd ["found", "due"] (spF K 2 .P W0 pm__law_board_same.fn):=by
  refine F.okP sc__law_board_same rfl rfl (fun cdv A outer s H E hr=>?_)
  have hu:=hr.units
  refine ⟨_,_,⟨[],[],[],.P⟩,rfl,(pss_cons (ps_if (PW.pt (pw_or (pt_not (pt_val (pe_callB (call_isiK (K:=K) (n := "list") rfl) rfl T.z_isinstance bb_isinstance (pa_cons (pv 0) (pa_cons (pe_bltn (v:=.ty "list") rfl T.z_list bt_list rfl) pa_nil))))) (pw_or1 (pt_cmpR (op_neD (K:=K) hu) (pe_callB (call_lenK (K:=K)) rfl T.z_len bb_len (pa_cons (pv 0) pa_nil)) (pe_callB (call_lenK (K:=K)) rfl T.z_len bb_len (pa_cons (pv 1) pa_nil)) (nomark _))))) (pss_one (ps_ret pe_bl)) pss_nil)
      (pss_cons (ps_for PassesOwn.never rfl (pi_range1 rfl T.z_range (pa_cons (pe_callB (call_lenK (K:=K)) rfl T.z_len bb_len (pa_cons (pv 1) pa_nil)) pa_nil)) (pg_name (i:=2) sc__law_board_same.nd rfl (by first | exact Or.inl rfl | exact Or.inr rfl)) (pss_one (ps_if (PW.pt (pw_or (pt_not (pt_val (pe_callB (call_isiK (K:=K) (n := "int") rfl) rfl T.z_isinstance bb_isinstance (pa_cons (pe_ix (ix_seqK (K:=K)) (pv 0) (pv 2) (fun _ _=>rfl)) (pa_cons (pe_bltn (v:=.ty "int") rfl T.z_int bt_int rfl) pa_nil))))) (pw_or (pt_val (pe_callB (call_isiK (K:=K) (n := "bool") rfl) rfl T.z_isinstance bb_isinstance (pa_cons (pe_ix (ix_seqK (K:=K)) (pv 0) (pv 2) (fun _ _=>rfl)) (pa_cons (pe_bltn (v:=.ty "bool") rfl T.z_bool bt_bool rfl) pa_nil)))) (pw_or1 (pt_cmpR (op_neD (K:=K) hu) (pe_ix (ix_seqK (K:=K)) (pv 0) (pv 2) (fun _ _=>rfl)) (pe_ix (ix_seqK (K:=K)) (pv 1) (pv 2) (fun _ _=>rfl)) (nomark _)))))) (pss_one (ps_ret pe_bl)) pss_nil)))
      (pss_one (ps_ret pe_bl)))),
      (ds_seq (Γm:=[.S,.S,.U]) (ds_if (dt_or (dt_not (dt_b (DE.toA (de_isi (de_varA (i:=0) (m:=.S) rfl (by decide)))))) (dt_test (DE.toA (de_eqG (g:=(!·)) (DE.toA (de_len (daa_cons (de_varA (i:=0) (m:=.S) rfl (by decide)) daa_nil))) (DE.toA (de_len (daa_cons (de_varA (i:=1) (m:=.S) rfl (by decide)) daa_nil)))))))
      (ds_retP de_bl)
      ds_next)
      (ds_seq (Γm:=[.S,.S,.U]) (ds_for (Γl:=[.S,.S,.U]) (di_rng1 (daa_cons (DE.toA (de_len (daa_cons (de_varA (i:=1) (m:=.S) rfl (by decide)) daa_nil))) daa_nil)) rfl (dg_P (i:=2) (by decide))
      (DS.out (Y:=⟨[.S,.S,.P],[.S,.S,.U],[.S,.S,.U],.P⟩) (Y':=⟨[.S,.S,.U],[.S,.S,.U],[.S,.S,.U],.P⟩) (ds_if (dt_or (dt_not (dt_b (DE.toA (de_isi (de_ixA (te:=tC .non) (de_varA (i:=0) (m:=.S) rfl (by decide)) (DE.toA (de_varP (i:=2) rfl))))))) (dt_or (dt_b (DE.toA (de_isi (de_ixA (te:=tC .non) (de_varA (i:=0) (m:=.S) rfl (by decide)) (DE.toA (de_varP (i:=2) rfl)))))) (dt_test (DE.toA (de_eqG (g:=(!·)) (de_ixA (te:=tC .non) (de_varA (i:=0) (m:=.S) rfl (by decide)) (DE.toA (de_varP (i:=2) rfl))) (de_ixA (te:=tC .non) (de_varA (i:=1) (m:=.S) rfl (by decide)) (DE.toA (de_varP (i:=2) rfl))))))))
      (ds_retP de_bl)
      ds_next) rfl rfl rfl rfl))
      (ds_retP de_bl))), ?_⟩
  refine Pm.ref pm__law_board_same (g:=fun xs=>_) ?_
  rintro (l:List Int) (hl:l.length≤1000)
  simp only [pm__law_board_same]
  walk_at "pd"
  generalize hw:forR _ _ _=W
  obtain ⟨ρ',rfl,v,rfl⟩:=forR_inv' hw (fun i ρ=>∃ v,ρ=[.lst (l.map PV.int),.lst (l.map PV.int),v]) ⟨_,rfl⟩ (by
    rintro i x ρ hx ⟨v,rfl⟩
    obtain ⟨hi,rfl⟩:=rngP_get hx
    walk_at "pd"
    exact nextI ⟨_,rfl⟩)
  walk_at "pd"
theorem c__law_board_same {l:List Int} (h:l.length≤1000):pm__law_board_same.fn [.lst (l.map PV.int),.lst (l.map PV.int)]=.ok (.bl true):=Pm.fn_eq pm__law_board_same l h fun _ _=>rfl
noncomputable def pm_law:Pm:=⟨List Int,fun ns=>[.lst (ns.map PV.int)],fun ns=>ns.length≤63,fun _=>.ok (.bl true)⟩
theorem pEq_self18 {g:Bool→Bool} {n:Nat} {x:PV} (h:Dat n x) (hn:n≤64:=by decide):pEqG g x x=.ok (.bl (g true)):=by
  unfold pEqG
  rw [h.ok hn,Bool.and_self,if_pos rfl,PySem.SeqAt.eqv_refl _ h.can]
theorem dat_deeds18 {ds:List Deed} (h:∀ d∈ds,PyData.canLay0 (.str d.1)=true):Dat 2 (.lst (ds.map deedP)):=dat_lst fun x hx=>by
  obtain ⟨d,hd,rfl⟩:=List.mem_map.mp hx
  refine dat_tup fun y hy=>?_
  simp only [List.mem_cons,List.not_mem_nil,or_false] at hy
  rcases hy with rfl | rfl
  · exact ⟨rfl,h d hd,by simp [PV.dat,PyData.depth]⟩
  · exact (dat_int _).up (by decide)
theorem flats_deeds:∀ (ds:List Deed),PV.flats (ds.map deedP)=true
  | []=>rfl
  | d :: ds=>by
    show (PV.flat (deedP d) && PV.flats (ds.map deedP))=true
    rw [flats_deeds ds]; rfl
theorem pList_deeds {ds:List Deed} (h:ds.length≤1000):pList [.lst (ds.map deedP)]=.ok (.lst (ds.map deedP)):=by
  show newF _=_
  unfold newF
  rw [if_pos (by rw [flats_deeds,List.length_map,decide_eq_true (Nat.le_trans h (by decide))]; rfl)]
theorem wkF_nil (b:List Int):wkF b []=none:=rfl
theorem fn_law (T:Txt K mg) {f:Addr} {fd:FuncData} (F:Fun K "law" "law" s_law f fd):FnOk P w K mg base CX0 8 f fd ["script"] (spF K 1 .P W0 pm_law.fn):=by
  have G__law_board:=okOf (P:=P) (w:=w) (base:=base) T.d__law_board bd__law_board (fun F=>fn__law_board T F)
  have G__law_plan:=okOf (P:=P) (w:=w) (base:=base) T.d__law_plan bd__law_plan (fun F=>fn__law_plan T F)
  have G__law_asked:=okOf (P:=P) (w:=w) (base:=base) T.d__law_asked bd__law_asked (fun F=>fn__law_asked T F)
  have G_walked:=okOfX (P:=P) (w:=w) (base:=base) T.d_walked bd_walked (fun F=>fn_walked T F)
  have G__law_board_same:=okOf (P:=P) (w:=w) (base:=base) T.d__law_board_same bd__law_board_same (fun F=>fn__law_board_same T F)
  refine F.okP sc_law rfl rfl (fun cdv A outer s H E hr=>?_)
  have hu:=hr.units
  refine ⟨_,_,⟨[],[],[],.P⟩,rfl,(pss_cons (ps_set (i:=1) sc_law.nd rfl (by first | exact Or.inl rfl | exact Or.inr rfl) (pe_callO G__law_board (hr.mono (by decide)) rfl (pa_cons (pv 0) (pa_cons pe_int pa_nil))))
      (pss_cons (ps_asg (pe_callO G__law_plan (hr.mono (by decide)) rfl (pa_cons (pv 0) (pa_cons (pv 1) pa_nil))) (pg_tup rfl (pgs_cons (pg_name (i:=2) sc_law.nd rfl (by first | exact Or.inl rfl | exact Or.inr rfl)) (pgs_cons (pg_name (i:=3) sc_law.nd rfl (by first | exact Or.inl rfl | exact Or.inr rfl)) (pgs_cons (pg_name (i:=4) sc_law.nd rfl (by first | exact Or.inl rfl | exact Or.inr rfl)) pgs_nil)))))
      (pss_cons (ps_set (i:=5) sc_law.nd rfl (by first | exact Or.inl rfl | exact Or.inr rfl) (pe_callTy (call_listK (K:=K)) rfl T.z_list bt_list (pa_cons (pv 1) pa_nil)))
      (pss_cons (ps_set (i:=6) sc_law.nd rfl (by first | exact Or.inl rfl | exact Or.inr rfl) (pe_callTy (call_listK (K:=K)) rfl T.z_list bt_list (pa_cons (pv 2) pa_nil)))
      (pss_cons (ps_set (i:=7) sc_law.nd rfl (by first | exact Or.inl rfl | exact Or.inr rfl) (pe_callO G__law_asked (hr.mono (by decide)) rfl (pa_cons (pv 5) (pa_cons (pv 6) pa_nil))))
      (pss_cons (ps_if (PW.pt (pw_or (pt_cmpR (op_neD (K:=K) hu) (pv 5) (pv 1) (nomark _)) (pw_or1 (pt_cmpR (op_neD (K:=K) hu) (pv 6) (pv 2) (nomark _))))) (pss_one (ps_ret pe_bl)) pss_nil)
      (pss_cons (ps_if (pt_cmpR op_ge (pv 4) pe_int (nomark _)) (pss_one (ps_ret (pe_and (pe_callB (call_isiK (K:=K) (n := "int") rfl) rfl T.z_isinstance bb_isinstance (pa_cons (pv 7) (pa_cons (pe_bltn (v:=.ty "int") rfl T.z_int bt_int rfl) pa_nil))) (pe_one (pe_cmpR (op_eqD (K:=K) hu) (pv 7) (pv 4) (nomark _)))))) pss_nil)
      (pss_cons (ps_if (pt_not (pt_val (pe_callO G__law_board_same (hr.mono (by decide)) rfl (pa_cons (pv 7) (pa_cons (pv 3) pa_nil))))) (pss_one (ps_ret pe_bl)) pss_nil)
      (pss_cons (ps_expr (pe_bm PySem.F.plainAttrs_list PySem.F.slot_list_append PySem.F.type_list_append mt_append (pv 7) (pa_cons pe_int pa_nil)))
      (pss_cons (ps_if (PW.pt (pw_or (pt_cmpR (op_neD (K:=K) hu) (pv 5) (pv 1) (nomark _)) (pw_or1 (pt_not (pt_val (pe_callO G__law_board_same (hr.mono (by decide)) rfl (pa_cons (pe_callO G__law_asked (hr.mono (by decide)) rfl (pa_cons (pv 5) (pa_cons (pv 6) pa_nil))) (pa_cons (pv 3) pa_nil)))))))) (pss_one (ps_ret pe_bl)) pss_nil)
      (pss_cons (ps_set (i:=8) sc_law.nd rfl (by first | exact Or.inl rfl | exact Or.inr rfl) (pe_callX G_walked (hr.mono (by decide)) rfl pass_E0 (pa_cons (pv 5) (pa_cons (pe_lst pa_nil) pa_nil))))
      (pss_cons (ps_expr (pe_bm PySem.F.plainAttrs_list PySem.F.slot_list_append PySem.F.type_list_append mt_append (pv 8) (pa_cons pe_int pa_nil)))
      (pss_one (ps_ret (pe_and (pe_cmpR (op_eqD (K:=K) hu) (pv 5) (pv 1) (nomark _)) (pe_one (pe_callO G__law_board_same (hr.mono (by decide)) rfl (pa_cons (pe_callX G_walked (hr.mono (by decide)) rfl pass_E0 (pa_cons (pv 5) (pa_cons (pe_lst pa_nil) pa_nil))) (pa_cons (pv 1) pa_nil))))))))))))))))))),
      (ds_seq (Γm:=[.S,.O,.U,.U,.U,.U,.U,.U,.U]) (ds_setF (i:=1) (dc_F (len_cons (len_cons len_nil)) (daa_cons (de_varA (i:=0) (m:=.S) rfl (by decide)) (daa_cons (DE.toA de_int) daa_nil))) (by decide))
      (ds_seq (Γm:=[.S,.O,.O,.O,.P,.U,.U,.U,.U]) (ds_asgF (dc_F (len_cons (len_cons len_nil)) (daa_cons (de_varA (i:=0) (m:=.S) rfl (by decide)) (daa_cons (de_varA (i:=1) (m:=.O) rfl (by decide)) daa_nil))) (dgf_tup (n:=3) (dgsf_cons (dgf_O (i:=2) (by decide)) (dgsf_cons (dgf_O (i:=3) (by decide)) (dgsf_cons (dgf_P (i:=4) (by decide)) dgsf_nil)))))
      (ds_seq (Γm:=[.S,.O,.O,.O,.P,.O,.U,.U,.U]) (ds_setF (i:=5) (de_listF (daa_cons (de_varA (i:=1) (m:=.O) rfl (by decide)) daa_nil)) (by decide))
      (ds_seq (Γm:=[.S,.O,.O,.O,.P,.O,.O,.U,.U]) (ds_setF (i:=6) (de_listF (daa_cons (de_varA (i:=2) (m:=.O) rfl (by decide)) daa_nil)) (by decide))
      (ds_seq (Γm:=[.S,.O,.O,.O,.P,.O,.O,.O,.U]) (ds_setF (i:=7) (dc_F (len_cons (len_cons len_nil)) (daa_cons (de_varA (i:=5) (m:=.O) rfl (by decide)) (daa_cons (de_varA (i:=6) (m:=.O) rfl (by decide)) daa_nil))) (by decide))
      (ds_seq (Γm:=[.S,.O,.O,.O,.P,.O,.O,.O,.U]) (ds_if (dt_or (dt_test (DE.toA (de_eqG (g:=(!·)) (de_varA (i:=5) (m:=.O) rfl (by decide)) (de_varA (i:=1) (m:=.O) rfl (by decide))))) (dt_test (DE.toA (de_eqG (g:=(!·)) (de_varA (i:=6) (m:=.O) rfl (by decide)) (de_varA (i:=2) (m:=.O) rfl (by decide))))))
      (ds_retP de_bl)
      ds_next)
      (ds_seq (Γm:=[.S,.O,.O,.O,.P,.O,.O,.O,.U]) (ds_if (dt_test (DE.toA (de_ge (DE.toA (de_varP (i:=4) rfl)) (DE.toA de_int))))
      (ds_retP (de_and (DE.toA (de_isi (de_varA (i:=7) (m:=.O) rfl (by decide)))) (de_eqG (g:=id) (de_varA (i:=7) (m:=.O) rfl (by decide)) (DE.toA (de_varP (i:=4) rfl)))))
      ds_next)
      (ds_seq (Γm:=[.S,.O,.O,.O,.P,.O,.O,.O,.U]) (ds_if (dt_not (dt_b (DE.toA (dc_P (len_cons (len_cons len_nil)) (daa_cons (de_varA (i:=7) (m:=.O) rfl (by decide)) (daa_cons (de_varA (i:=3) (m:=.O) rfl (by decide)) daa_nil))))))
      (ds_retP de_bl)
      ds_next)
      (ds_seq (Γm:=[.S,.O,.O,.O,.P,.O,.O,.O,.U]) (ds_appO (i:=7) rfl rfl (DE.PF de_int))
      (ds_seq (Γm:=[.S,.O,.O,.O,.P,.O,.O,.O,.U]) (ds_if (dt_or (dt_test (DE.toA (de_eqG (g:=(!·)) (de_varA (i:=5) (m:=.O) rfl (by decide)) (de_varA (i:=1) (m:=.O) rfl (by decide))))) (dt_not (dt_b (DE.toA (dc_P (len_cons (len_cons len_nil)) (daa_cons (DE.toA (dc_F (len_cons (len_cons len_nil)) (daa_cons (de_varA (i:=5) (m:=.O) rfl (by decide)) (daa_cons (de_varA (i:=6) (m:=.O) rfl (by decide)) daa_nil)))) (daa_cons (de_varA (i:=3) (m:=.O) rfl (by decide)) daa_nil)))))))
      (ds_retP de_bl)
      ds_next)
      (ds_seq (Γm:=[.S,.O,.O,.O,.P,.O,.O,.O,.O]) (ds_setF (i:=8) (dz_F (len_cons (len_cons len_nil)) (daa_cons (de_varA (i:=5) (m:=.O) rfl (by decide)) (daa_cons (DE.toA (de_lstF daf_nil)) daa_nil))) (by decide))
      (ds_seq (Γm:=[.S,.O,.O,.O,.P,.O,.O,.O,.O]) (ds_appO (i:=8) rfl rfl (DE.PF de_int))
      (ds_retP (de_and (DE.toA (de_eqG (g:=id) (de_varA (i:=5) (m:=.O) rfl (by decide)) (de_varA (i:=1) (m:=.O) rfl (by decide)))) (dc_P (len_cons (len_cons len_nil)) (daa_cons (DE.toA (dz_F (len_cons (len_cons len_nil)) (daa_cons (de_varA (i:=5) (m:=.O) rfl (by decide)) (daa_cons (DE.toA (de_lstF daf_nil)) daa_nil)))) (daa_cons (de_varA (i:=1) (m:=.O) rfl (by decide)) daa_nil))))))))))))))))), ?_⟩
  refine Pm.ref pm_law (g:=fun xs=>_) ?_
  intro (ns:List Int) (hn:ns.length≤63)
  simp only [pm_law]
  walk_at "pd"
  rw [c__law_board ⟨by omega,by omega,by omega⟩]
  have pb:=pits14_bd ns
  have hbl:=brd14_length ns 5
  have hbb:=brd14_bd ns (most:=5) (by omega) (by omega)
  generalize brd14 ns 5=b at hbl hbb
  have B:Board b:=board_of (by omega) (by omega) hbb
  have b2:=B.hi
  walk_at "pd"
  rw [c__law_plan ⟨hn,B⟩]
  have ok:=pl_ok ns B (ns.length - 3)
  have lay:=plS_lay ns b (ns.length - 3)
  generalize plS ns b (ns.length - 3)=s at ok lay
  obtain ⟨ds,h,bad⟩:=s
  obtain ⟨l,br,sz,o⟩:=ok
  simp only at l br sz o lay
  unfold plP
  have hdl:ds.length≤1000:=by rw [l]; omega
  walk_at "pd"
  rw [pList_deeds hdl]
  walk_at "pd"
  rw [c__law_asked ⟨B,hdl,lay⟩]
  walk_at "pd"
  rw [pEq_self18 (dat_deeds18 lay)]
  walk_at "pd"
  rcases o with ⟨rfl,o1,rfl⟩ | ⟨k,rfl,o1⟩
  · have ha:askV b ds=.lst ((wkAt b ds (ns.length - 3)).map PV.int):=by unfold askV; rw [o1,l]
    rw [ha]
    have bl:=wkAt_length b ds (ns.length - 3)
    generalize wkAt b ds (ns.length - 3)=h at *
    walk_at "pd"
    rw [c__law_board_same (by omega)]
    walk_at "pd"
    rw [c__law_asked ⟨B,hdl,lay⟩,ha]
    walk_at "pd"
    rw [c__law_board_same (by omega)]
    walk_at "pd"
    have w0:pm_walked.fn [.lst (b.map PV.int),.lst []]=.ok (.lst (b.map PV.int)):=by
      have:=c_walked (b:=b) (ds:=[]) ⟨by omega,by simp,by simp⟩
      rw [show ([]:List Deed).map deedP=[] from rfl] at this
      rw [this]
      unfold wkO
      rw [if_pos (boardB_iff.mpr B),wkF_nil]
      rfl
    rw [w0]
    walk_at "pd"
    rw [w0]
    walk_at "pd"
    rw [c__law_board_same (by omega)]
    rfl
  · have ha:askV b ds=.int (k:Nat):=by unfold askV; rw [o1]
    rw [ha]
    walk_at "pd"
    rw [decide_eq_true (Int.natCast_nonneg k)]
    walk_at "pd"
noncomputable def sp_law (K:PySem.W.Frag):Sp:=spF K 1 .P W0 pm_law.fn
theorem law_fn {l:PySem.W.OpenLaw} (T:Txt K mg) {fa:Addr} (hmg:mg "law"=some (.ref fa)):∃ fd:FuncData,(∀ (s:Shared) (u:Value),BindsTo s fd ⟨[u],[]⟩ [("script",u)]) ∧
    ∀ base:Heap,K.In base→base.Ns mainGlobals mg→FnOk l.prog w K mg base CX0 8 fa fd ["script"] (sp_law K):=by
  obtain ⟨f,fd,F,hm⟩:=T.d_law
  rw [hmg] at hm
  cases hm
  refine ⟨fd,fun s u=>?_,fun base _ _=>fn_law T F⟩
  obtain ⟨oc,od,kV,doc,pm,an,cdv,ct,osl,rfl,lk,hcd⟩:=F.ex
  exact .of_eq (bd_law kV doc pm an cdv ct [u] rfl)
theorem law_start {H:Hp} {a:Addr} {ns:List Int} (hl:ns.length≤63) (hO:Only H) (hS:SqL K H a (ns.map V.int)):sp_law K [.ref a] H (fun v _=>v=.bl true) fun _ _ _=>False :=
  law_startP (Pm.fn_eq pm_law ns hl fun _ _=>rfl) hS
end
theorem txt_mk {K:PySem.W.Frag} {h:Heap} {mg:Str→Option Value} {f__law_cell_at f__law_sums f__law_stirred f__law_row f__law_board f__law_pit f__law_odd f__law_can f__law_sown f__law_back f__law_plan f_is_whole f_is_whole_from f_is_list_from_nought f_most_seeds f_is_board f_check_board f_is_pit f_can_be_done f_take_back_at f_sow_pit f_do_deed f_walked f__law_asked f__law_board_same f_law:Addr} (X:K.In h) (G:h.Ns mainGlobals mg)
    {od__law_cell_at an__law_cell_at:Option Addr} {sl__law_cell_at:Array (Option Value)} {oc__law_cell_at kV__law_cell_at dc__law_cell_at pm__law_cell_at cd__law_cell_at ct__law_cell_at:Value}
    {od__law_sums an__law_sums:Option Addr} {sl__law_sums:Array (Option Value)} {oc__law_sums kV__law_sums dc__law_sums pm__law_sums cd__law_sums ct__law_sums:Value}
    {od__law_stirred an__law_stirred:Option Addr} {sl__law_stirred:Array (Option Value)} {oc__law_stirred kV__law_stirred dc__law_stirred pm__law_stirred cd__law_stirred ct__law_stirred:Value}
    {od__law_row an__law_row:Option Addr} {sl__law_row:Array (Option Value)} {oc__law_row kV__law_row dc__law_row pm__law_row cd__law_row ct__law_row:Value}
    {od__law_board an__law_board:Option Addr} {sl__law_board:Array (Option Value)} {oc__law_board kV__law_board dc__law_board pm__law_board cd__law_board ct__law_board:Value}
    {od__law_pit an__law_pit:Option Addr} {sl__law_pit:Array (Option Value)} {oc__law_pit kV__law_pit dc__law_pit pm__law_pit cd__law_pit ct__law_pit:Value}
    {od__law_odd an__law_odd:Option Addr} {sl__law_odd:Array (Option Value)} {oc__law_odd kV__law_odd dc__law_odd pm__law_odd cd__law_odd ct__law_odd:Value}
    {od__law_can an__law_can:Option Addr} {sl__law_can:Array (Option Value)} {oc__law_can kV__law_can dc__law_can pm__law_can cd__law_can ct__law_can:Value}
    {od__law_sown an__law_sown:Option Addr} {sl__law_sown:Array (Option Value)} {oc__law_sown kV__law_sown dc__law_sown pm__law_sown cd__law_sown ct__law_sown:Value}
    {od__law_back an__law_back:Option Addr} {sl__law_back:Array (Option Value)} {oc__law_back kV__law_back dc__law_back pm__law_back cd__law_back ct__law_back:Value}
    {od__law_plan an__law_plan:Option Addr} {sl__law_plan:Array (Option Value)} {oc__law_plan kV__law_plan dc__law_plan pm__law_plan cd__law_plan ct__law_plan:Value}
    {od_is_whole an_is_whole:Option Addr} {sl_is_whole:Array (Option Value)} {oc_is_whole kV_is_whole dc_is_whole pm_is_whole cd_is_whole ct_is_whole:Value}
    {od_is_whole_from an_is_whole_from:Option Addr} {sl_is_whole_from:Array (Option Value)} {oc_is_whole_from kV_is_whole_from dc_is_whole_from pm_is_whole_from cd_is_whole_from ct_is_whole_from:Value}
    {od_is_list_from_nought an_is_list_from_nought:Option Addr} {sl_is_list_from_nought:Array (Option Value)} {oc_is_list_from_nought kV_is_list_from_nought dc_is_list_from_nought pm_is_list_from_nought cd_is_list_from_nought ct_is_list_from_nought:Value}
    {od_most_seeds an_most_seeds:Option Addr} {sl_most_seeds:Array (Option Value)} {oc_most_seeds kV_most_seeds dc_most_seeds pm_most_seeds cd_most_seeds ct_most_seeds:Value}
    {od_is_board an_is_board:Option Addr} {sl_is_board:Array (Option Value)} {oc_is_board kV_is_board dc_is_board pm_is_board cd_is_board ct_is_board:Value}
    {od_check_board an_check_board:Option Addr} {sl_check_board:Array (Option Value)} {oc_check_board kV_check_board dc_check_board pm_check_board cd_check_board ct_check_board:Value}
    {od_is_pit an_is_pit:Option Addr} {sl_is_pit:Array (Option Value)} {oc_is_pit kV_is_pit dc_is_pit pm_is_pit cd_is_pit ct_is_pit:Value}
    {od_can_be_done an_can_be_done:Option Addr} {sl_can_be_done:Array (Option Value)} {oc_can_be_done kV_can_be_done dc_can_be_done pm_can_be_done cd_can_be_done ct_can_be_done:Value}
    {od_take_back_at an_take_back_at:Option Addr} {sl_take_back_at:Array (Option Value)} {oc_take_back_at kV_take_back_at dc_take_back_at pm_take_back_at cd_take_back_at ct_take_back_at:Value}
    {od_sow_pit an_sow_pit:Option Addr} {sl_sow_pit:Array (Option Value)} {oc_sow_pit kV_sow_pit dc_sow_pit pm_sow_pit cd_sow_pit ct_sow_pit:Value}
    {od_do_deed an_do_deed:Option Addr} {sl_do_deed:Array (Option Value)} {oc_do_deed kV_do_deed dc_do_deed pm_do_deed cd_do_deed ct_do_deed:Value}
    {od_walked an_walked:Option Addr} {sl_walked:Array (Option Value)} {oc_walked kV_walked dc_walked pm_walked cd_walked ct_walked:Value}
    {od__law_asked an__law_asked:Option Addr} {sl__law_asked:Array (Option Value)} {oc__law_asked kV__law_asked dc__law_asked pm__law_asked cd__law_asked ct__law_asked:Value}
    {od__law_board_same an__law_board_same:Option Addr} {sl__law_board_same:Array (Option Value)} {oc__law_board_same kV__law_board_same dc__law_board_same pm__law_board_same cd__law_board_same ct__law_board_same:Value}
    {od_law an_law:Option Addr} {sl_law:Array (Option Value)} {oc_law kV_law dc_law pm_law cd_law ct_law:Value}
    (a__law_cell_at:PySem.W.nsIn K mainGlobals "_law_cell_at"=some (some (.ref f__law_cell_at))) (l__law_cell_at:K.lookup f__law_cell_at=some ⟨oc__law_cell_at,od__law_cell_at,.func (PySem.W.fnOf "_law_cell_at" "_law_cell_at" (defArgs s__law_cell_at) (defBody s__law_cell_at) (defScope s__law_cell_at) .none kV__law_cell_at dc__law_cell_at pm__law_cell_at an__law_cell_at cd__law_cell_at ct__law_cell_at),sl__law_cell_at⟩) (c__law_cell_at:PySem.W.codeIn K cd__law_cell_at "_law_cell_at"=true) (k__law_cell_at:PySem.W.keepIn K (.ref f__law_cell_at)=true)
    (a__law_sums:PySem.W.nsIn K mainGlobals "_law_sums"=some (some (.ref f__law_sums))) (l__law_sums:K.lookup f__law_sums=some ⟨oc__law_sums,od__law_sums,.func (PySem.W.fnOf "_law_sums" "_law_sums" (defArgs s__law_sums) (defBody s__law_sums) (defScope s__law_sums) .none kV__law_sums dc__law_sums pm__law_sums an__law_sums cd__law_sums ct__law_sums),sl__law_sums⟩) (c__law_sums:PySem.W.codeIn K cd__law_sums "_law_sums"=true) (k__law_sums:PySem.W.keepIn K (.ref f__law_sums)=true)
    (a__law_stirred:PySem.W.nsIn K mainGlobals "_law_stirred"=some (some (.ref f__law_stirred))) (l__law_stirred:K.lookup f__law_stirred=some ⟨oc__law_stirred,od__law_stirred,.func (PySem.W.fnOf "_law_stirred" "_law_stirred" (defArgs s__law_stirred) (defBody s__law_stirred) (defScope s__law_stirred) .none kV__law_stirred dc__law_stirred pm__law_stirred an__law_stirred cd__law_stirred ct__law_stirred),sl__law_stirred⟩) (c__law_stirred:PySem.W.codeIn K cd__law_stirred "_law_stirred"=true) (k__law_stirred:PySem.W.keepIn K (.ref f__law_stirred)=true)
    (a__law_row:PySem.W.nsIn K mainGlobals "_law_row"=some (some (.ref f__law_row))) (l__law_row:K.lookup f__law_row=some ⟨oc__law_row,od__law_row,.func (PySem.W.fnOf "_law_row" "_law_row" (defArgs s__law_row) (defBody s__law_row) (defScope s__law_row) .none kV__law_row dc__law_row pm__law_row an__law_row cd__law_row ct__law_row),sl__law_row⟩) (c__law_row:PySem.W.codeIn K cd__law_row "_law_row"=true) (k__law_row:PySem.W.keepIn K (.ref f__law_row)=true)
    (a__law_board:PySem.W.nsIn K mainGlobals "_law_board"=some (some (.ref f__law_board))) (l__law_board:K.lookup f__law_board=some ⟨oc__law_board,od__law_board,.func (PySem.W.fnOf "_law_board" "_law_board" (defArgs s__law_board) (defBody s__law_board) (defScope s__law_board) .none kV__law_board dc__law_board pm__law_board an__law_board cd__law_board ct__law_board),sl__law_board⟩) (c__law_board:PySem.W.codeIn K cd__law_board "_law_board"=true) (k__law_board:PySem.W.keepIn K (.ref f__law_board)=true)
    (a__law_pit:PySem.W.nsIn K mainGlobals "_law_pit"=some (some (.ref f__law_pit))) (l__law_pit:K.lookup f__law_pit=some ⟨oc__law_pit,od__law_pit,.func (PySem.W.fnOf "_law_pit" "_law_pit" (defArgs s__law_pit) (defBody s__law_pit) (defScope s__law_pit) .none kV__law_pit dc__law_pit pm__law_pit an__law_pit cd__law_pit ct__law_pit),sl__law_pit⟩) (c__law_pit:PySem.W.codeIn K cd__law_pit "_law_pit"=true) (k__law_pit:PySem.W.keepIn K (.ref f__law_pit)=true)
    (a__law_odd:PySem.W.nsIn K mainGlobals "_law_odd"=some (some (.ref f__law_odd))) (l__law_odd:K.lookup f__law_odd=some ⟨oc__law_odd,od__law_odd,.func (PySem.W.fnOf "_law_odd" "_law_odd" (defArgs s__law_odd) (defBody s__law_odd) (defScope s__law_odd) .none kV__law_odd dc__law_odd pm__law_odd an__law_odd cd__law_odd ct__law_odd),sl__law_odd⟩) (c__law_odd:PySem.W.codeIn K cd__law_odd "_law_odd"=true) (k__law_odd:PySem.W.keepIn K (.ref f__law_odd)=true)
    (a__law_can:PySem.W.nsIn K mainGlobals "_law_can"=some (some (.ref f__law_can))) (l__law_can:K.lookup f__law_can=some ⟨oc__law_can,od__law_can,.func (PySem.W.fnOf "_law_can" "_law_can" (defArgs s__law_can) (defBody s__law_can) (defScope s__law_can) .none kV__law_can dc__law_can pm__law_can an__law_can cd__law_can ct__law_can),sl__law_can⟩) (c__law_can:PySem.W.codeIn K cd__law_can "_law_can"=true) (k__law_can:PySem.W.keepIn K (.ref f__law_can)=true)
    (a__law_sown:PySem.W.nsIn K mainGlobals "_law_sown"=some (some (.ref f__law_sown))) (l__law_sown:K.lookup f__law_sown=some ⟨oc__law_sown,od__law_sown,.func (PySem.W.fnOf "_law_sown" "_law_sown" (defArgs s__law_sown) (defBody s__law_sown) (defScope s__law_sown) .none kV__law_sown dc__law_sown pm__law_sown an__law_sown cd__law_sown ct__law_sown),sl__law_sown⟩) (c__law_sown:PySem.W.codeIn K cd__law_sown "_law_sown"=true) (k__law_sown:PySem.W.keepIn K (.ref f__law_sown)=true)
    (a__law_back:PySem.W.nsIn K mainGlobals "_law_back"=some (some (.ref f__law_back))) (l__law_back:K.lookup f__law_back=some ⟨oc__law_back,od__law_back,.func (PySem.W.fnOf "_law_back" "_law_back" (defArgs s__law_back) (defBody s__law_back) (defScope s__law_back) .none kV__law_back dc__law_back pm__law_back an__law_back cd__law_back ct__law_back),sl__law_back⟩) (c__law_back:PySem.W.codeIn K cd__law_back "_law_back"=true) (k__law_back:PySem.W.keepIn K (.ref f__law_back)=true)
    (a__law_plan:PySem.W.nsIn K mainGlobals "_law_plan"=some (some (.ref f__law_plan))) (l__law_plan:K.lookup f__law_plan=some ⟨oc__law_plan,od__law_plan,.func (PySem.W.fnOf "_law_plan" "_law_plan" (defArgs s__law_plan) (defBody s__law_plan) (defScope s__law_plan) .none kV__law_plan dc__law_plan pm__law_plan an__law_plan cd__law_plan ct__law_plan),sl__law_plan⟩) (c__law_plan:PySem.W.codeIn K cd__law_plan "_law_plan"=true) (k__law_plan:PySem.W.keepIn K (.ref f__law_plan)=true)
    (a_is_whole:PySem.W.nsIn K mainGlobals "is_whole"=some (some (.ref f_is_whole))) (l_is_whole:K.lookup f_is_whole=some ⟨oc_is_whole,od_is_whole,.func (PySem.W.fnOf "is_whole" "is_whole" (defArgs s_is_whole) (defBody s_is_whole) (defScope s_is_whole) .none kV_is_whole dc_is_whole pm_is_whole an_is_whole cd_is_whole ct_is_whole),sl_is_whole⟩) (c_is_whole:PySem.W.codeIn K cd_is_whole "is_whole"=true) (k_is_whole:PySem.W.keepIn K (.ref f_is_whole)=true)
    (a_is_whole_from:PySem.W.nsIn K mainGlobals "is_whole_from"=some (some (.ref f_is_whole_from))) (l_is_whole_from:K.lookup f_is_whole_from=some ⟨oc_is_whole_from,od_is_whole_from,.func (PySem.W.fnOf "is_whole_from" "is_whole_from" (defArgs s_is_whole_from) (defBody s_is_whole_from) (defScope s_is_whole_from) .none kV_is_whole_from dc_is_whole_from pm_is_whole_from an_is_whole_from cd_is_whole_from ct_is_whole_from),sl_is_whole_from⟩) (c_is_whole_from:PySem.W.codeIn K cd_is_whole_from "is_whole_from"=true) (k_is_whole_from:PySem.W.keepIn K (.ref f_is_whole_from)=true)
    (a_is_list_from_nought:PySem.W.nsIn K mainGlobals "is_list_from_nought"=some (some (.ref f_is_list_from_nought))) (l_is_list_from_nought:K.lookup f_is_list_from_nought=some ⟨oc_is_list_from_nought,od_is_list_from_nought,.func (PySem.W.fnOf "is_list_from_nought" "is_list_from_nought" (defArgs s_is_list_from_nought) (defBody s_is_list_from_nought) (defScope s_is_list_from_nought) .none kV_is_list_from_nought dc_is_list_from_nought pm_is_list_from_nought an_is_list_from_nought cd_is_list_from_nought ct_is_list_from_nought),sl_is_list_from_nought⟩) (c_is_list_from_nought:PySem.W.codeIn K cd_is_list_from_nought "is_list_from_nought"=true) (k_is_list_from_nought:PySem.W.keepIn K (.ref f_is_list_from_nought)=true)
    (a_most_seeds:PySem.W.nsIn K mainGlobals "most_seeds"=some (some (.ref f_most_seeds))) (l_most_seeds:K.lookup f_most_seeds=some ⟨oc_most_seeds,od_most_seeds,.func (PySem.W.fnOf "most_seeds" "most_seeds" (defArgs s_most_seeds) (defBody s_most_seeds) (defScope s_most_seeds) .none kV_most_seeds dc_most_seeds pm_most_seeds an_most_seeds cd_most_seeds ct_most_seeds),sl_most_seeds⟩) (c_most_seeds:PySem.W.codeIn K cd_most_seeds "most_seeds"=true) (k_most_seeds:PySem.W.keepIn K (.ref f_most_seeds)=true)
    (a_is_board:PySem.W.nsIn K mainGlobals "is_board"=some (some (.ref f_is_board))) (l_is_board:K.lookup f_is_board=some ⟨oc_is_board,od_is_board,.func (PySem.W.fnOf "is_board" "is_board" (defArgs s_is_board) (defBody s_is_board) (defScope s_is_board) .none kV_is_board dc_is_board pm_is_board an_is_board cd_is_board ct_is_board),sl_is_board⟩) (c_is_board:PySem.W.codeIn K cd_is_board "is_board"=true) (k_is_board:PySem.W.keepIn K (.ref f_is_board)=true)
    (a_check_board:PySem.W.nsIn K mainGlobals "check_board"=some (some (.ref f_check_board))) (l_check_board:K.lookup f_check_board=some ⟨oc_check_board,od_check_board,.func (PySem.W.fnOf "check_board" "check_board" (defArgs s_check_board) (defBody s_check_board) (defScope s_check_board) .none kV_check_board dc_check_board pm_check_board an_check_board cd_check_board ct_check_board),sl_check_board⟩) (c_check_board:PySem.W.codeIn K cd_check_board "check_board"=true) (k_check_board:PySem.W.keepIn K (.ref f_check_board)=true)
    (a_is_pit:PySem.W.nsIn K mainGlobals "is_pit"=some (some (.ref f_is_pit))) (l_is_pit:K.lookup f_is_pit=some ⟨oc_is_pit,od_is_pit,.func (PySem.W.fnOf "is_pit" "is_pit" (defArgs s_is_pit) (defBody s_is_pit) (defScope s_is_pit) .none kV_is_pit dc_is_pit pm_is_pit an_is_pit cd_is_pit ct_is_pit),sl_is_pit⟩) (c_is_pit:PySem.W.codeIn K cd_is_pit "is_pit"=true) (k_is_pit:PySem.W.keepIn K (.ref f_is_pit)=true)
    (a_can_be_done:PySem.W.nsIn K mainGlobals "can_be_done"=some (some (.ref f_can_be_done))) (l_can_be_done:K.lookup f_can_be_done=some ⟨oc_can_be_done,od_can_be_done,.func (PySem.W.fnOf "can_be_done" "can_be_done" (defArgs s_can_be_done) (defBody s_can_be_done) (defScope s_can_be_done) .none kV_can_be_done dc_can_be_done pm_can_be_done an_can_be_done cd_can_be_done ct_can_be_done),sl_can_be_done⟩) (c_can_be_done:PySem.W.codeIn K cd_can_be_done "can_be_done"=true) (k_can_be_done:PySem.W.keepIn K (.ref f_can_be_done)=true)
    (a_take_back_at:PySem.W.nsIn K mainGlobals "take_back_at"=some (some (.ref f_take_back_at))) (l_take_back_at:K.lookup f_take_back_at=some ⟨oc_take_back_at,od_take_back_at,.func (PySem.W.fnOf "take_back_at" "take_back_at" (defArgs s_take_back_at) (defBody s_take_back_at) (defScope s_take_back_at) .none kV_take_back_at dc_take_back_at pm_take_back_at an_take_back_at cd_take_back_at ct_take_back_at),sl_take_back_at⟩) (c_take_back_at:PySem.W.codeIn K cd_take_back_at "take_back_at"=true) (k_take_back_at:PySem.W.keepIn K (.ref f_take_back_at)=true)
    (a_sow_pit:PySem.W.nsIn K mainGlobals "sow_pit"=some (some (.ref f_sow_pit))) (l_sow_pit:K.lookup f_sow_pit=some ⟨oc_sow_pit,od_sow_pit,.func (PySem.W.fnOf "sow_pit" "sow_pit" (defArgs s_sow_pit) (defBody s_sow_pit) (defScope s_sow_pit) .none kV_sow_pit dc_sow_pit pm_sow_pit an_sow_pit cd_sow_pit ct_sow_pit),sl_sow_pit⟩) (c_sow_pit:PySem.W.codeIn K cd_sow_pit "sow_pit"=true) (k_sow_pit:PySem.W.keepIn K (.ref f_sow_pit)=true)
    (a_do_deed:PySem.W.nsIn K mainGlobals "do_deed"=some (some (.ref f_do_deed))) (l_do_deed:K.lookup f_do_deed=some ⟨oc_do_deed,od_do_deed,.func (PySem.W.fnOf "do_deed" "do_deed" (defArgs s_do_deed) (defBody s_do_deed) (defScope s_do_deed) .none kV_do_deed dc_do_deed pm_do_deed an_do_deed cd_do_deed ct_do_deed),sl_do_deed⟩) (c_do_deed:PySem.W.codeIn K cd_do_deed "do_deed"=true) (k_do_deed:PySem.W.keepIn K (.ref f_do_deed)=true)
    (a_walked:PySem.W.nsIn K mainGlobals "walked"=some (some (.ref f_walked))) (l_walked:K.lookup f_walked=some ⟨oc_walked,od_walked,.func (PySem.W.fnOf "walked" "walked" (defArgs s_walked) (defBody s_walked) (defScope s_walked) .none kV_walked dc_walked pm_walked an_walked cd_walked ct_walked),sl_walked⟩) (c_walked:PySem.W.codeIn K cd_walked "walked"=true) (k_walked:PySem.W.keepIn K (.ref f_walked)=true)
    (a__law_asked:PySem.W.nsIn K mainGlobals "_law_asked"=some (some (.ref f__law_asked))) (l__law_asked:K.lookup f__law_asked=some ⟨oc__law_asked,od__law_asked,.func (PySem.W.fnOf "_law_asked" "_law_asked" (defArgs s__law_asked) (defBody s__law_asked) (defScope s__law_asked) .none kV__law_asked dc__law_asked pm__law_asked an__law_asked cd__law_asked ct__law_asked),sl__law_asked⟩) (c__law_asked:PySem.W.codeIn K cd__law_asked "_law_asked"=true) (k__law_asked:PySem.W.keepIn K (.ref f__law_asked)=true)
    (a__law_board_same:PySem.W.nsIn K mainGlobals "_law_board_same"=some (some (.ref f__law_board_same))) (l__law_board_same:K.lookup f__law_board_same=some ⟨oc__law_board_same,od__law_board_same,.func (PySem.W.fnOf "_law_board_same" "_law_board_same" (defArgs s__law_board_same) (defBody s__law_board_same) (defScope s__law_board_same) .none kV__law_board_same dc__law_board_same pm__law_board_same an__law_board_same cd__law_board_same ct__law_board_same),sl__law_board_same⟩) (c__law_board_same:PySem.W.codeIn K cd__law_board_same "_law_board_same"=true) (k__law_board_same:PySem.W.keepIn K (.ref f__law_board_same)=true)
    (a_law:PySem.W.nsIn K mainGlobals "law"=some (some (.ref f_law))) (l_law:K.lookup f_law=some ⟨oc_law,od_law,.func (PySem.W.fnOf "law" "law" (defArgs s_law) (defBody s_law) (defScope s_law) .none kV_law dc_law pm_law an_law cd_law ct_law),sl_law⟩) (c_law:PySem.W.codeIn K cd_law "law"=true) (k_law:PySem.W.keepIn K (.ref f_law)=true)
    {t_FEWEST_PITS:Tok} (a_FEWEST_PITS:PySem.W.nsIn K mainGlobals "FEWEST_PITS"=some (some (.int 2 t_FEWEST_PITS)))
    {t_MOST_PITS:Tok} (a_MOST_PITS:PySem.W.nsIn K mainGlobals "MOST_PITS"=some (some (.int 24 t_MOST_PITS)))
    (z_ValueError:PySem.W.nsIn K mainGlobals "ValueError"=some none)
    (z_all:PySem.W.nsIn K mainGlobals "all"=some none)
    (z_bool:PySem.W.nsIn K mainGlobals "bool"=some none)
    (z_enumerate:PySem.W.nsIn K mainGlobals "enumerate"=some none)
    (z_int:PySem.W.nsIn K mainGlobals "int"=some none)
    (z_isinstance:PySem.W.nsIn K mainGlobals "isinstance"=some none)
    (z_len:PySem.W.nsIn K mainGlobals "len"=some none)
    (z_list:PySem.W.nsIn K mainGlobals "list"=some none)
    (z_max:PySem.W.nsIn K mainGlobals "max"=some none)
    (z_min:PySem.W.nsIn K mainGlobals "min"=some none)
    (z_range:PySem.W.nsIn K mainGlobals "range"=some none)
    (z_sum:PySem.W.nsIn K mainGlobals "sum"=some none)
    (z_tuple:PySem.W.nsIn K mainGlobals "tuple"=some none)
    (x_tab:xTab K XN XS=true) (x_exc:xExcs K XR=true) (x_at:(XA.all (atOne K))=true)
    {C_SowError fm_SowError:Addr} {odm_SowError anm_SowError:Option Addr} {slm_SowError:Array (Option Value)} {ocm_SowError kVm_SowError dcm_SowError pmm_SowError cdm_SowError ctm_SowError:Value}
    (am_SowError:PySem.W.nsIn K mainGlobals "SowError"=some (some (.ref C_SowError))) (fm1_SowError:PySem.W.findIn K (.ref C_SowError) "called"=some (some (.ref fm_SowError))) (tm_SowError:PySem.W.typeIn K (.ref fm_SowError)=some (.type "function")) (lm_SowError:K.lookup fm_SowError=some ⟨ocm_SowError,odm_SowError,.func (PySem.W.fnOf "called" "SowError.called" (defArgs sm_SowError) (defBody sm_SowError) (defScope sm_SowError) .none kVm_SowError dcm_SowError pmm_SowError anm_SowError cdm_SowError ctm_SowError),slm_SowError⟩) (cm_SowError:PySem.W.codeIn K cdm_SowError "SowError.called"=true) (km_SowError:PySem.W.keepIn K (.ref fm_SowError)=true)
    {C_BadBoard fm_BadBoard:Addr} {odm_BadBoard anm_BadBoard:Option Addr} {slm_BadBoard:Array (Option Value)} {ocm_BadBoard kVm_BadBoard dcm_BadBoard pmm_BadBoard cdm_BadBoard ctm_BadBoard:Value}
    (am_BadBoard:PySem.W.nsIn K mainGlobals "BadBoard"=some (some (.ref C_BadBoard))) (fm1_BadBoard:PySem.W.findIn K (.ref C_BadBoard) "called"=some (some (.ref fm_BadBoard))) (tm_BadBoard:PySem.W.typeIn K (.ref fm_BadBoard)=some (.type "function")) (lm_BadBoard:K.lookup fm_BadBoard=some ⟨ocm_BadBoard,odm_BadBoard,.func (PySem.W.fnOf "called" "BadBoard.called" (defArgs sm_BadBoard) (defBody sm_BadBoard) (defScope sm_BadBoard) .none kVm_BadBoard dcm_BadBoard pmm_BadBoard anm_BadBoard cdm_BadBoard ctm_BadBoard),slm_BadBoard⟩) (cm_BadBoard:PySem.W.codeIn K cdm_BadBoard "BadBoard.called"=true) (km_BadBoard:PySem.W.keepIn K (.ref fm_BadBoard)=true)
    {C_BadPit fm_BadPit:Addr} {odm_BadPit anm_BadPit:Option Addr} {slm_BadPit:Array (Option Value)} {ocm_BadPit kVm_BadPit dcm_BadPit pmm_BadPit cdm_BadPit ctm_BadPit:Value}
    (am_BadPit:PySem.W.nsIn K mainGlobals "BadPit"=some (some (.ref C_BadPit))) (fm1_BadPit:PySem.W.findIn K (.ref C_BadPit) "called"=some (some (.ref fm_BadPit))) (tm_BadPit:PySem.W.typeIn K (.ref fm_BadPit)=some (.type "function")) (lm_BadPit:K.lookup fm_BadPit=some ⟨ocm_BadPit,odm_BadPit,.func (PySem.W.fnOf "called" "BadPit.called" (defArgs sm_BadPit) (defBody sm_BadPit) (defScope sm_BadPit) .none kVm_BadPit dcm_BadPit pmm_BadPit anm_BadPit cdm_BadPit ctm_BadPit),slm_BadPit⟩) (cm_BadPit:PySem.W.codeIn K cdm_BadPit "BadPit.called"=true) (km_BadPit:PySem.W.keepIn K (.ref fm_BadPit)=true)
    {C_NoSeeds fm_NoSeeds:Addr} {odm_NoSeeds anm_NoSeeds:Option Addr} {slm_NoSeeds:Array (Option Value)} {ocm_NoSeeds kVm_NoSeeds dcm_NoSeeds pmm_NoSeeds cdm_NoSeeds ctm_NoSeeds:Value}
    (am_NoSeeds:PySem.W.nsIn K mainGlobals "NoSeeds"=some (some (.ref C_NoSeeds))) (fm1_NoSeeds:PySem.W.findIn K (.ref C_NoSeeds) "called"=some (some (.ref fm_NoSeeds))) (tm_NoSeeds:PySem.W.typeIn K (.ref fm_NoSeeds)=some (.type "function")) (lm_NoSeeds:K.lookup fm_NoSeeds=some ⟨ocm_NoSeeds,odm_NoSeeds,.func (PySem.W.fnOf "called" "NoSeeds.called" (defArgs sm_NoSeeds) (defBody sm_NoSeeds) (defScope sm_NoSeeds) .none kVm_NoSeeds dcm_NoSeeds pmm_NoSeeds anm_NoSeeds cdm_NoSeeds ctm_NoSeeds),slm_NoSeeds⟩) (cm_NoSeeds:PySem.W.codeIn K cdm_NoSeeds "NoSeeds.called"=true) (km_NoSeeds:PySem.W.keepIn K (.ref fm_NoSeeds)=true)
    {C_BadPlan fm_BadPlan:Addr} {odm_BadPlan anm_BadPlan:Option Addr} {slm_BadPlan:Array (Option Value)} {ocm_BadPlan kVm_BadPlan dcm_BadPlan pmm_BadPlan cdm_BadPlan ctm_BadPlan:Value}
    (am_BadPlan:PySem.W.nsIn K mainGlobals "BadPlan"=some (some (.ref C_BadPlan))) (fm1_BadPlan:PySem.W.findIn K (.ref C_BadPlan) "called"=some (some (.ref fm_BadPlan))) (tm_BadPlan:PySem.W.typeIn K (.ref fm_BadPlan)=some (.type "function")) (lm_BadPlan:K.lookup fm_BadPlan=some ⟨ocm_BadPlan,odm_BadPlan,.func (PySem.W.fnOf "called" "BadPlan.called" (defArgs sm_BadPlan) (defBody sm_BadPlan) (defScope sm_BadPlan) .none kVm_BadPlan dcm_BadPlan pmm_BadPlan anm_BadPlan cdm_BadPlan ctm_BadPlan),slm_BadPlan⟩) (cm_BadPlan:PySem.W.codeIn K cdm_BadPlan "BadPlan.called"=true) (km_BadPlan:PySem.W.keepIn K (.ref fm_BadPlan)=true)
    {CI_BadPlan fi_BadPlan S_BadPlan:Addr} {odi_BadPlan ani_BadPlan:Option Addr} {sli_BadPlan:Array (Option Value)} {oci_BadPlan kVi_BadPlan dci_BadPlan pmi_BadPlan cdi_BadPlan cti_BadPlan:Value}
    (ai_BadPlan:PySem.W.nsIn K mainGlobals "BadPlan"=some (some (.ref CI_BadPlan))) (nsi_BadPlan:PySem.W.findIn K (.ref CI_BadPlan) "__init__"=some (some (.ref fi_BadPlan))) (ki_BadPlan:PySem.W.keepIn K (.ref CI_BadPlan)=true) (ti_BadPlan:PySem.W.typeIn K (.ref fi_BadPlan)=some (.type "function")) (li_BadPlan:K.lookup fi_BadPlan=some ⟨oci_BadPlan,odi_BadPlan,.func (PySem.W.fnOf "__init__" "BadPlan.__init__" (defArgs si_BadPlan) (defBody si_BadPlan) (defScope si_BadPlan) .none kVi_BadPlan dci_BadPlan pmi_BadPlan ani_BadPlan cdi_BadPlan cti_BadPlan),sli_BadPlan⟩) (ci_BadPlan:PySem.W.codeIn K cdi_BadPlan "BadPlan.__init__"=true) (kf_BadPlan:PySem.W.keepIn K (.ref fi_BadPlan)=true)
    (as_BadPlan:PySem.W.nsIn K mainGlobals "SowError"=some (some (.ref S_BadPlan))) (xi_BadPlan:iniTab K "BadPlan" "SowError"=true)
   :Txt K mg:=by
  refine ⟨?_, ?_, ?_, ?_, ?_, ?_, ?_, ?_, ?_, ?_, ?_, ?_, ?_, ?_, ?_, ?_, ?_, ?_, ?_, ?_, ?_, ?_, ?_, ?_, ?_, ?_, ?_, ?_, ?_, ?_, ?_, ?_, ?_, ?_, ?_, ?_, ?_, ?_, ?_, ?_, ?_,x_tab,x_exc,x_at,fun n C e=>PySem.W.mg_of X G e,⟨_,_,_,am_SowError,fm1_SowError,tm_SowError,fun_mk (st:=sm_SowError) lm_SowError cm_SowError km_SowError⟩,⟨_,_,_,am_BadBoard,fm1_BadBoard,tm_BadBoard,fun_mk (st:=sm_BadBoard) lm_BadBoard cm_BadBoard km_BadBoard⟩,⟨_,_,_,am_BadPit,fm1_BadPit,tm_BadPit,fun_mk (st:=sm_BadPit) lm_BadPit cm_BadPit km_BadPit⟩,⟨_,_,_,am_NoSeeds,fm1_NoSeeds,tm_NoSeeds,fun_mk (st:=sm_NoSeeds) lm_NoSeeds cm_NoSeeds km_NoSeeds⟩,⟨_,_,_,am_BadPlan,fm1_BadPlan,tm_BadPlan,fun_mk (st:=sm_BadPlan) lm_BadPlan cm_BadPlan km_BadPlan⟩,xini_mk2 ai_BadPlan nsi_BadPlan ki_BadPlan ti_BadPlan (fun_mk (st:=si_BadPlan) li_BadPlan ci_BadPlan kf_BadPlan) as_BadPlan xi_BadPlan⟩
  · exact ⟨_,_,fun_mk (st:=s__law_cell_at) l__law_cell_at c__law_cell_at k__law_cell_at,PySem.W.mg_of X G a__law_cell_at⟩
  · exact ⟨_,_,fun_mk (st:=s__law_sums) l__law_sums c__law_sums k__law_sums,PySem.W.mg_of X G a__law_sums⟩
  · exact ⟨_,_,fun_mk (st:=s__law_stirred) l__law_stirred c__law_stirred k__law_stirred,PySem.W.mg_of X G a__law_stirred⟩
  · exact ⟨_,_,fun_mk (st:=s__law_row) l__law_row c__law_row k__law_row,PySem.W.mg_of X G a__law_row⟩
  · exact ⟨_,_,fun_mk (st:=s__law_board) l__law_board c__law_board k__law_board,PySem.W.mg_of X G a__law_board⟩
  · exact ⟨_,_,fun_mk (st:=s__law_pit) l__law_pit c__law_pit k__law_pit,PySem.W.mg_of X G a__law_pit⟩
  · exact ⟨_,_,fun_mk (st:=s__law_odd) l__law_odd c__law_odd k__law_odd,PySem.W.mg_of X G a__law_odd⟩
  · exact ⟨_,_,fun_mk (st:=s__law_can) l__law_can c__law_can k__law_can,PySem.W.mg_of X G a__law_can⟩
  · exact ⟨_,_,fun_mk (st:=s__law_sown) l__law_sown c__law_sown k__law_sown,PySem.W.mg_of X G a__law_sown⟩
  · exact ⟨_,_,fun_mk (st:=s__law_back) l__law_back c__law_back k__law_back,PySem.W.mg_of X G a__law_back⟩
  · exact ⟨_,_,fun_mk (st:=s__law_plan) l__law_plan c__law_plan k__law_plan,PySem.W.mg_of X G a__law_plan⟩
  · exact ⟨_,_,fun_mk (st:=s_is_whole) l_is_whole c_is_whole k_is_whole,PySem.W.mg_of X G a_is_whole⟩
  · exact ⟨_,_,fun_mk (st:=s_is_whole_from) l_is_whole_from c_is_whole_from k_is_whole_from,PySem.W.mg_of X G a_is_whole_from⟩
  · exact ⟨_,_,fun_mk (st:=s_is_list_from_nought) l_is_list_from_nought c_is_list_from_nought k_is_list_from_nought,PySem.W.mg_of X G a_is_list_from_nought⟩
  · exact ⟨_,_,fun_mk (st:=s_most_seeds) l_most_seeds c_most_seeds k_most_seeds,PySem.W.mg_of X G a_most_seeds⟩
  · exact ⟨_,_,fun_mk (st:=s_is_board) l_is_board c_is_board k_is_board,PySem.W.mg_of X G a_is_board⟩
  · exact ⟨_,_,fun_mk (st:=s_check_board) l_check_board c_check_board k_check_board,PySem.W.mg_of X G a_check_board⟩
  · exact ⟨_,_,fun_mk (st:=s_is_pit) l_is_pit c_is_pit k_is_pit,PySem.W.mg_of X G a_is_pit⟩
  · exact ⟨_,_,fun_mk (st:=s_can_be_done) l_can_be_done c_can_be_done k_can_be_done,PySem.W.mg_of X G a_can_be_done⟩
  · exact ⟨_,_,fun_mk (st:=s_take_back_at) l_take_back_at c_take_back_at k_take_back_at,PySem.W.mg_of X G a_take_back_at⟩
  · exact ⟨_,_,fun_mk (st:=s_sow_pit) l_sow_pit c_sow_pit k_sow_pit,PySem.W.mg_of X G a_sow_pit⟩
  · exact ⟨_,_,fun_mk (st:=s_do_deed) l_do_deed c_do_deed k_do_deed,PySem.W.mg_of X G a_do_deed⟩
  · exact ⟨_,_,fun_mk (st:=s_walked) l_walked c_walked k_walked,PySem.W.mg_of X G a_walked⟩
  · exact ⟨_,_,fun_mk (st:=s__law_asked) l__law_asked c__law_asked k__law_asked,PySem.W.mg_of X G a__law_asked⟩
  · exact ⟨_,_,fun_mk (st:=s__law_board_same) l__law_board_same c__law_board_same k__law_board_same,PySem.W.mg_of X G a__law_board_same⟩
  · exact ⟨_,_,fun_mk (st:=s_law) l_law c_law k_law,PySem.W.mg_of X G a_law⟩
  · exact ⟨_,PySem.W.mg_of X G a_FEWEST_PITS⟩
  · exact ⟨_,PySem.W.mg_of X G a_MOST_PITS⟩
  · exact PySem.W.mg_none_of X G z_ValueError
  · exact PySem.W.mg_none_of X G z_all
  · exact PySem.W.mg_none_of X G z_bool
  · exact PySem.W.mg_none_of X G z_enumerate
  · exact PySem.W.mg_none_of X G z_int
  · exact PySem.W.mg_none_of X G z_isinstance
  · exact PySem.W.mg_none_of X G z_len
  · exact PySem.W.mg_none_of X G z_list
  · exact PySem.W.mg_none_of X G z_max
  · exact PySem.W.mg_none_of X G z_min
  · exact PySem.W.mg_none_of X G z_range
  · exact PySem.W.mg_none_of X G z_sum
  · exact PySem.W.mg_none_of X G z_tuple
end My
namespace PySem.W.Fast
noncomputable def tw15076493616600971520 := ()
noncomputable def tw16229505662650720544 := ()
noncomputable def tw2017930126500260128 := ()
noncomputable def tw17449237819051982240 := ()
noncomputable def tw9693552932484003296 := ()
noncomputable def tw5919086246823332416 := ()
noncomputable def tw8552352425992667808 := ()
noncomputable def tw6534791815666208448 := ()
noncomputable def tw14776509792574504704 := ()
noncomputable def tw17640749723114782496 := ()
noncomputable def tw14754400820732518272 := ()
noncomputable def tw11551081350058852320 := ()
noncomputable def tw13865864090837472257 := ()
noncomputable def tw2614981427752971329 := ()
noncomputable def tw16753053951011954945 := ()
noncomputable def tw14582796816424335041 := ()
noncomputable def tw15281506968588524417 := ()
noncomputable def tw3786910540631853953 := ()
noncomputable def tw14981571578836741025 := ()
noncomputable def tw7317550006085054369 := ()
noncomputable def tw6640769114181115873 := ()
noncomputable def tw13435487638807127234 := ()
noncomputable def tw7326634005067995330 := ()
noncomputable def tw8340935108666349794 := ()
noncomputable def tw9430456263660151010 := ()
noncomputable def tw235600559096452418 := ()
noncomputable def tw9551017277322316130 := ()
noncomputable def tw8930214467784623714 := ()
noncomputable def tw14621325085657258626 := ()
noncomputable def tw2398938991539747554 := ()
noncomputable def tw11643886887709556450 := ()
noncomputable def tw5382010028642830531 := ()
noncomputable def tw1249074890722584803 := ()
noncomputable def tw6881578945678741987 := ()
noncomputable def tw10621405315213362851 := ()
noncomputable def tw8315582571028685860 := ()
noncomputable def tw7416780571883339972 := ()
noncomputable def tw11819692812395122916 := ()
noncomputable def tw2532476366096760100 := ()
noncomputable def tw3350274314623025668 := ()
noncomputable def tw10124916082969380420 := ()
noncomputable def tw2787597237292497796 := ()
noncomputable def tw3799939686007830661 := ()
noncomputable def tw3113047641609980165 := ()
noncomputable def tw16064102603014071621 := ()
noncomputable def tw9152745492845701477 := ()
noncomputable def tw10186199628419722629 := ()
noncomputable def tw16370700658636389765 := ()
noncomputable def tw18406805420121908805 := ()
noncomputable def tw2160309911761947237 := ()
noncomputable def tw7548142832960615141 := ()
noncomputable def tw14877520243643373317 := ()
noncomputable def tw13661648920001085381 := ()
noncomputable def tw1606933996416463845 := ()
noncomputable def tw13460674661127459174 := ()
noncomputable def tw9100109526059589062 := ()
noncomputable def tw17224860771314809318 := ()
noncomputable def tw18341350653645466182 := ()
noncomputable def tw5352982891363817254 := ()
noncomputable def tw6417407203658062694 := ()
noncomputable def tw7251281519438821447 := ()
noncomputable def tw2674045137209102791 := ()
noncomputable def tw13477093612676858503 := ()
noncomputable def tw14328484727193797896 := ()
noncomputable def tw7230557740057654696 := ()
noncomputable def tw14632191447486132936 := ()
noncomputable def tw1836835543368527688 := ()
noncomputable def tw10458538876338249608 := ()
noncomputable def tw15275023861081772201 := ()
noncomputable def tw11638635019754416457 := ()
noncomputable def tw2464076201911171817 := ()
noncomputable def tw1513335741776629481 := ()
noncomputable def tw16175322032186584138 := ()
noncomputable def tw6052218849251169514 := ()
noncomputable def tw13914698933972752650 := ()
noncomputable def tw62225669952255402 := ()
noncomputable def tw10803547024521258666 := ()
noncomputable def tw14190108656520873738 := ()
noncomputable def tw17079744843281758090 := ()
noncomputable def tw11171491042770332650 := ()
noncomputable def tw17342568369904447499 := ()
noncomputable def tw1817198480092923947 := ()
noncomputable def tw14919515202772566091 := ()
noncomputable def tw1873586796111869387 := ()
noncomputable def tw17035743294527676907 := ()
noncomputable def tw9128320147680555595 := ()
noncomputable def tw8512817355498036875 := ()
noncomputable def tw18116183562512283371 := ()
noncomputable def tw12123791801889246123 := ()
noncomputable def tw12993437974023679372 := ()
noncomputable def tw3454066793213075084 := ()
noncomputable def tw3228443775392301772 := ()
noncomputable def tw3786427593967992524 := ()
noncomputable def tw17476659586460889836 := ()
noncomputable def tw5098155362250541996 := ()
noncomputable def tw287993793603202413 := ()
noncomputable def tw4158490060083469677 := ()
noncomputable def tw14985439189508053485 := ()
noncomputable def tw18186899981924348461 := ()
noncomputable def tw2182748496397532749 := ()
noncomputable def tw5037734222038006605 := ()
noncomputable def tw2364669202791028589 := ()
noncomputable def tw5928606370378339277 := ()
noncomputable def tw4386857360028593133 := ()
noncomputable def tw8714103002424297518 := ()
noncomputable def tw7985793712006619214 := ()
noncomputable def tw4597260144490614926 := ()
noncomputable def tw10411989415189308558 := ()
noncomputable def tw8986146097772740974 := ()
noncomputable def tw2311248182019094990 := ()
noncomputable def tw2269234474737093262 := ()
noncomputable def tw13484281045687650062 := ()
noncomputable def tw1562942279659336494 := ()
noncomputable def tw3832357001058785198 := ()
noncomputable def tw7798258237518529967 := ()
noncomputable def tw12059199213760924143 := ()
noncomputable def tw13173048152641982959 := ()
noncomputable def tw10100701966178563919 := ()
noncomputable def tw10011625749487104176 := ()
noncomputable def tw13280188793233696976 := ()
noncomputable def tw3259532753886322032 := ()
noncomputable def tw10126630041217620496 := ()
noncomputable def tw12533618740473861072 := ()
noncomputable def tw11439607521279912337 := ()
noncomputable def tw7587260823126294001 := ()
noncomputable def tw2700995392534845041 := ()
noncomputable def tw446977408810484433 := ()
noncomputable def tw14687103785940074353 := ()
noncomputable def tw17061723133232544625 := ()
noncomputable def tw7040686108379352977 := ()
noncomputable def tw17838921270221808882 := ()
noncomputable def tw14392020739931592018 := ()
noncomputable def tw12823356983465023890 := ()
noncomputable def tw15059388685478842866 := ()
noncomputable def tw8655483345365426834 := ()
noncomputable def tw4719680032337195954 := ()
noncomputable def tw863991844294645746 := ()
noncomputable def tw5800453765482795027 := ()
noncomputable def tw597833260997339219 := ()
noncomputable def tw7546695577173755987 := ()
noncomputable def tw796987665429357779 := ()
noncomputable def tw287784227984999699 := ()
noncomputable def tw9279738772263167315 := ()
noncomputable def tw5056234477495338483 := ()
noncomputable def tw10496528079937673907 := ()
noncomputable def tw14735806967032386259 := ()
noncomputable def tw5796334063044641523 := ()
noncomputable def tw14084001649051711219 := ()
noncomputable def tw7683771904980174611 := ()
noncomputable def tw9062929640630446867 := ()
noncomputable def tw14671648019543522163 := ()
noncomputable def tw1253595322510206835 := ()
noncomputable def tw14647307682256376723 := ()
noncomputable def tw8393461649151155220 := ()
noncomputable def tw15583612581172454644 := ()
noncomputable def tw16757581640001330452 := ()
noncomputable def tw3574803350479676020 := ()
noncomputable def tw3976355985704275956 := ()
noncomputable def tw1736487329895123189 := ()
noncomputable def tw623122792047469877 := ()
noncomputable def tw17193137159121792405 := ()
noncomputable def tw6041721754573935093 := ()
noncomputable def tw7125618906260023957 := ()
noncomputable def tw3330396585435175637 := ()
noncomputable def tw12533938727943343957 := ()
noncomputable def tw17040012824619061462 := ()
noncomputable def tw6028324014874027414 := ()
noncomputable def tw13422816008561405494 := ()
noncomputable def tw1349376227896647478 := ()
noncomputable def tw15711833282608270230 := ()
noncomputable def tw16291737232629873622 := ()
noncomputable def tw13305555201650339991 := ()
noncomputable def tw9611935625352568983 := ()
noncomputable def tw14221450466779821527 := ()
noncomputable def tw6271014981598924247 := ()
noncomputable def tw12912173482019621463 := ()
noncomputable def tw17225381221762566935 := ()
noncomputable def tw9224522982542012984 := ()
noncomputable def tw12547048469424858872 := ()
noncomputable def tw220796239119642456 := ()
noncomputable def tw8050384409322896280 := ()
noncomputable def tw14126982337396957144 := ()
noncomputable def tw12615321927955679417 := ()
noncomputable def tw15768792660632804569 := ()
noncomputable def tw320347107835348409 := ()
noncomputable def tw1679447604526783001 := ()
noncomputable def tw3993487565499748153 := ()
noncomputable def tw1863957676281836377 := ()
noncomputable def tw7893443552819899770 := ()
noncomputable def tw3990648099943923130 := ()
noncomputable def tw13814471956458588698 := ()
noncomputable def tw6258596781158353882 := ()
noncomputable def tw14669439936584133979 := ()
noncomputable def tw6243207537011054011 := ()
noncomputable def tw9535547665833930203 := ()
noncomputable def tw14239278714986627643 := ()
noncomputable def tw12220708706667949883 := ()
noncomputable def tw6503640647496593243 := ()
noncomputable def tw7536489500676919291 := ()
noncomputable def tw8713964043963284732 := ()
noncomputable def tw8636440557941523964 := ()
noncomputable def tw16477020814659411612 := ()
noncomputable def tw3070869242073021661 := ()
noncomputable def tw11691295416658048445 := ()
noncomputable def tw1580094207129650717 := ()
noncomputable def tw13293088641154875550 := ()
noncomputable def tw2139280248562273470 := ()
noncomputable def tw9025720091748126046 := ()
noncomputable def tw1672253680732928414 := ()
noncomputable def tw8588830595228375550 := ()
noncomputable def tw917933490917195486 := ()
noncomputable def tw16856311828110080958 := ()
noncomputable def tw5598758210200569951 := ()
noncomputable def tw10218046559100087551 := ()
noncomputable def tw12094554199433763167 := ()
noncomputable def tw311680260966612543 := ()
noncomputable def tw15026456787086704223 := ()
noncomputable def tw7200441994452888287 := ()
noncomputable def tw2565517035323115263 := ()
noncomputable def tw6647245508793677599 := ()
end PySem.W.Fast
open PySem PySem.W PyProof.Rows
set_option maxRecDepth 100000 in
set_option maxHeartbeats 0 in
theorem PySem.Challenge.cw_sowring_k18_plans_walked_holds : PySem.Challenge.rw_sowring_k18_plans_walked.Holds := by
  w_on; o_law; k_head; (case hw=>w_witness2)
  k_fill
  refine L2.walk_ofK (l:=PySem.Challenge.rw_sowring_k18_plans_walked) (n:=63) (k:=8) (x := "script") (CX:=L2.CX0) (sp:=My.sp_law) rfl (by decide) rfl ⟨rfl,by decide,by decide⟩ (fun w h Y=>by first | exact PySem.W.kIn_of Y | exact PySem.W.km_in_of Y) ?F ?S ?C
  case F =>
    intro w mg fa h KX G hmg
    have T:My.Txt (L2.KOf KX) mg:=by
      dsimp only [L2.KOf]
      refine' My.txt_mk KX G ?a__law_cell_at ?l__law_cell_at ?c__law_cell_at ?k__law_cell_at ?a__law_sums ?l__law_sums ?c__law_sums ?k__law_sums ?a__law_stirred ?l__law_stirred ?c__law_stirred ?k__law_stirred ?a__law_row ?l__law_row ?c__law_row ?k__law_row ?a__law_board ?l__law_board ?c__law_board ?k__law_board ?a__law_pit ?l__law_pit ?c__law_pit ?k__law_pit ?a__law_odd ?l__law_odd ?c__law_odd ?k__law_odd ?a__law_can ?l__law_can ?c__law_can ?k__law_can ?a__law_sown ?l__law_sown ?c__law_sown ?k__law_sown ?a__law_back ?l__law_back ?c__law_back ?k__law_back ?a__law_plan ?l__law_plan ?c__law_plan ?k__law_plan ?a_is_whole ?l_is_whole ?c_is_whole ?k_is_whole ?a_is_whole_from ?l_is_whole_from ?c_is_whole_from ?k_is_whole_from ?a_is_list_from_nought ?l_is_list_from_nought ?c_is_list_from_nought ?k_is_list_from_nought ?a_most_seeds ?l_most_seeds ?c_most_seeds ?k_most_seeds ?a_is_board ?l_is_board ?c_is_board ?k_is_board ?a_check_board ?l_check_board ?c_check_board ?k_check_board ?a_is_pit ?l_is_pit ?c_is_pit ?k_is_pit ?a_can_be_done ?l_can_be_done ?c_can_be_done ?k_can_be_done ?a_take_back_at ?l_take_back_at ?c_take_back_at ?k_take_back_at ?a_sow_pit ?l_sow_pit ?c_sow_pit ?k_sow_pit ?a_do_deed ?l_do_deed ?c_do_deed ?k_do_deed ?a_walked ?l_walked ?c_walked ?k_walked ?a__law_asked ?l__law_asked ?c__law_asked ?k__law_asked ?a__law_board_same ?l__law_board_same ?c__law_board_same ?k__law_board_same ?a_law ?l_law ?c_law ?k_law ?a_FEWEST_PITS ?a_MOST_PITS ?z_ValueError ?z_all ?z_bool ?z_enumerate ?z_int ?z_isinstance ?z_len ?z_list ?z_max ?z_min ?z_range ?z_sum ?z_tuple ?x_tab ?x_exc ?x_at ?am_SowError ?fm1_SowError ?tm_SowError ?lm_SowError ?cm_SowError ?km_SowError ?am_BadBoard ?fm1_BadBoard ?tm_BadBoard ?lm_BadBoard ?cm_BadBoard ?km_BadBoard ?am_BadPit ?fm1_BadPit ?tm_BadPit ?lm_BadPit ?cm_BadPit ?km_BadPit ?am_NoSeeds ?fm1_NoSeeds ?tm_NoSeeds ?lm_NoSeeds ?cm_NoSeeds ?km_NoSeeds ?am_BadPlan ?fm1_BadPlan ?tm_BadPlan ?lm_BadPlan ?cm_BadPlan ?km_BadPlan ?ai_BadPlan ?nsi_BadPlan ?ki_BadPlan ?ti_BadPlan ?li_BadPlan ?ci_BadPlan ?kf_BadPlan ?as_BadPlan ?xi_BadPlan
      (case a__law_cell_at=>k_is)
      (case l__law_cell_at=>k_is)
      (case c__law_cell_at=>k_is)
      (case k__law_cell_at=>k_is)
      (case a__law_sums=>k_is)
      (case l__law_sums=>k_is)
      (case c__law_sums=>k_is)
      (case k__law_sums=>k_is)
      (case a__law_stirred=>k_is)
      (case l__law_stirred=>k_is)
      (case c__law_stirred=>k_is)
      (case k__law_stirred=>k_is)
      (case a__law_row=>k_is)
      (case l__law_row=>k_is)
      (case c__law_row=>k_is)
      (case k__law_row=>k_is)
      (case a__law_board=>k_is)
      (case l__law_board=>k_is)
      (case c__law_board=>k_is)
      (case k__law_board=>k_is)
      (case a__law_pit=>k_is)
      (case l__law_pit=>k_is)
      (case c__law_pit=>k_is)
      (case k__law_pit=>k_is)
      (case a__law_odd=>k_is)
      (case l__law_odd=>k_is)
      (case c__law_odd=>k_is)
      (case k__law_odd=>k_is)
      (case a__law_can=>k_is)
      (case l__law_can=>k_is)
      (case c__law_can=>k_is)
      (case k__law_can=>k_is)
      (case a__law_sown=>k_is)
      (case l__law_sown=>k_is)
      (case c__law_sown=>k_is)
      (case k__law_sown=>k_is)
      (case a__law_back=>k_is)
      (case l__law_back=>k_is)
      (case c__law_back=>k_is)
      (case k__law_back=>k_is)
      (case a__law_plan=>k_is)
      (case l__law_plan=>k_is)
      (case c__law_plan=>k_is)
      (case k__law_plan=>k_is)
      (case a_is_whole=>k_is)
      (case l_is_whole=>k_is)
      (case c_is_whole=>k_is)
      (case k_is_whole=>k_is)
      (case a_is_whole_from=>k_is)
      (case l_is_whole_from=>k_is)
      (case c_is_whole_from=>k_is)
      (case k_is_whole_from=>k_is)
      (case a_is_list_from_nought=>k_is)
      (case l_is_list_from_nought=>k_is)
      (case c_is_list_from_nought=>k_is)
      (case k_is_list_from_nought=>k_is)
      (case a_most_seeds=>k_is)
      (case l_most_seeds=>k_is)
      (case c_most_seeds=>k_is)
      (case k_most_seeds=>k_is)
      (case a_is_board=>k_is)
      (case l_is_board=>k_is)
      (case c_is_board=>k_is)
      (case k_is_board=>k_is)
      (case a_check_board=>k_is)
      (case l_check_board=>k_is)
      (case c_check_board=>k_is)
      (case k_check_board=>k_is)
      (case a_is_pit=>k_is)
      (case l_is_pit=>k_is)
      (case c_is_pit=>k_is)
      (case k_is_pit=>k_is)
      (case a_can_be_done=>k_is)
      (case l_can_be_done=>k_is)
      (case c_can_be_done=>k_is)
      (case k_can_be_done=>k_is)
      (case a_take_back_at=>k_is)
      (case l_take_back_at=>k_is)
      (case c_take_back_at=>k_is)
      (case k_take_back_at=>k_is)
      (case a_sow_pit=>k_is)
      (case l_sow_pit=>k_is)
      (case c_sow_pit=>k_is)
      (case k_sow_pit=>k_is)
      (case a_do_deed=>k_is)
      (case l_do_deed=>k_is)
      (case c_do_deed=>k_is)
      (case k_do_deed=>k_is)
      (case a_walked=>k_is)
      (case l_walked=>k_is)
      (case c_walked=>k_is)
      (case k_walked=>k_is)
      (case a__law_asked=>k_is)
      (case l__law_asked=>k_is)
      (case c__law_asked=>k_is)
      (case k__law_asked=>k_is)
      (case a__law_board_same=>k_is)
      (case l__law_board_same=>k_is)
      (case c__law_board_same=>k_is)
      (case k__law_board_same=>k_is)
      (case a_law=>k_is)
      (case l_law=>k_is)
      (case c_law=>k_is)
      (case k_law=>k_is)
      (case a_FEWEST_PITS=>k_is)
      (case a_MOST_PITS=>k_is)
      (case z_ValueError=>k_is)
      (case z_all=>k_is)
      (case z_bool=>k_is)
      (case z_enumerate=>k_is)
      (case z_int=>k_is)
      (case z_isinstance=>k_is)
      (case z_len=>k_is)
      (case z_list=>k_is)
      (case z_max=>k_is)
      (case z_min=>k_is)
      (case z_range=>k_is)
      (case z_sum=>k_is)
      (case z_tuple=>k_is)
      (case x_tab=>kernel_rfl)
      (case x_exc=>kernel_rfl)
      (case x_at=>kernel_rfl)
      (case am_SowError=>k_is)
      (case fm1_SowError=>k_is)
      (case tm_SowError=>k_is)
      (case lm_SowError=>k_is)
      (case cm_SowError=>k_is)
      (case km_SowError=>k_is)
      (case am_BadBoard=>k_is)
      (case fm1_BadBoard=>k_is)
      (case tm_BadBoard=>k_is)
      (case lm_BadBoard=>k_is)
      (case cm_BadBoard=>k_is)
      (case km_BadBoard=>k_is)
      (case am_BadPit=>k_is)
      (case fm1_BadPit=>k_is)
      (case tm_BadPit=>k_is)
      (case lm_BadPit=>k_is)
      (case cm_BadPit=>k_is)
      (case km_BadPit=>k_is)
      (case am_NoSeeds=>k_is)
      (case fm1_NoSeeds=>k_is)
      (case tm_NoSeeds=>k_is)
      (case lm_NoSeeds=>k_is)
      (case cm_NoSeeds=>k_is)
      (case km_NoSeeds=>k_is)
      (case am_BadPlan=>k_is)
      (case fm1_BadPlan=>k_is)
      (case tm_BadPlan=>k_is)
      (case lm_BadPlan=>k_is)
      (case cm_BadPlan=>k_is)
      (case km_BadPlan=>k_is)
      (case ai_BadPlan=>k_is)
      (case nsi_BadPlan=>k_is)
      (case ki_BadPlan=>k_is)
      (case ti_BadPlan=>k_is)
      (case li_BadPlan=>k_is)
      (case ci_BadPlan=>k_is)
      (case kf_BadPlan=>k_is)
      (case as_BadPlan=>k_is)
      (case xi_BadPlan=>kernel_rfl)
    exact My.law_fn T hmg
  case S=>exact fun K H a ns hl hO hS=>My.law_start hl hO hS
  case C=>exact fun _ _ _ _ z=>z

