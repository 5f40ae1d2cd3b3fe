import PyProof.Rows.All
import Wide.All
import OpenK.AllK
import Wide.FinOn
import Lean
import PyProof.EqAt
import PyProof.EqKinds
import PyProof.TupleCall
import KE.KTryMore
import PyProof.NsDelKeeps
import PyProof.EnumStmt
import KE.KRevIter
import PyProof.ListNew
import KE.KIntText
import PyProof.ListRange
import PyProof.Rows.Range3
import PyProof.Rows.TupDisplay
import PyProof.StrBlock2
import PyProof.StrLawsTight
import PySem.Challenge.RW_sowring_k63_texts_refused
set_option Elab.async false
set_option linter.all false
set_option maxRecDepth 100000
namespace L2
open PySem PySem.Spec PyProof.Rows
noncomputable abbrev Key:=Sum Int Str
noncomputable def keyIs:Key→Value→Bool
  | .inl k,v=>Value.isInt k v
  | .inr x,v=>Value.isStrOf x v
noncomputable def keyH (w:World):Key→Int
  | .inl k=>hashInt k
  | .inr x=>hashStr w x
theorem keyIs_shape:∀ {k:Key} {v:Value},keyIs k v=true→(∃ i t,k=Sum.inl i∧v=Value.int i t) ∨ (∃ x t,k=Sum.inr x∧v=Value.str x t)
  | .inl i,v,h=>by
    obtain ⟨t,e⟩:=Value.isInt_shape (k:=i) (v:=v) h
    exact .inl ⟨i,t,rfl,e⟩
  | .inr x,v,h=>by
    obtain ⟨t,e⟩:=Value.isStrOf_shape (x:=x) (v:=v) h
    exact .inr ⟨x,t,rfl,e⟩
theorem keyIs_int (i:Int) (t:Tok):keyIs (.inl i) (.int i t)=true:=by simp [keyIs,Value.isInt]
theorem keyIs_str (x:Str) (t:Tok):keyIs (.inr x) (.str x t)=true:=by simp [keyIs,Value.isStrOf]
theorem key_ll (a b:Int):decide ((Sum.inl a:Key)=Sum.inl b)=(a == b):=by
  by_cases e:a=b
  · subst e; simp
  · have h:¬ (Sum.inl a:Key)=Sum.inl b:=fun q=>e (Sum.inl.inj q)
    rw [decide_eq_false h]
    exact (beq_eq_false_iff_ne.mpr e).symm
theorem key_rr (a b:Str):decide ((Sum.inr a:Key)=Sum.inr b)=decide (a=b):=by
  by_cases e:a=b
  · subst e; simp
  · have h:¬ (Sum.inr a:Key)=Sum.inr b:=fun q=>e (Sum.inr.inj q)
    rw [decide_eq_false h,decide_eq_false e]
theorem key_lr (a:Int) (b:Str):decide ((Sum.inl a:Key)=Sum.inr b)=false:=decide_eq_false (fun q=>nomatch q)
theorem key_rl (a:Str) (b:Int):decide ((Sum.inr a:Key)=Sum.inl b)=false:=decide_eq_false (fun q=>nomatch q)
noncomputable def mixKind (prog:Program) (w:World):PySem.KeyKind prog w Key where
  is:=keyIs
  hash:=keyH w
  inj:=fun v a b ha hb=>by
    rcases keyIs_shape ha with ⟨i,t,rfl,rfl⟩ | ⟨x,t,rfl,rfl⟩
    · rcases keyIs_shape hb with ⟨j,u,rfl,e⟩ | ⟨y,u,rfl,e⟩
      · injection e with e1 _; rw [e1]
      · exact nomatch e
    · rcases keyIs_shape hb with ⟨j,u,rfl,e⟩ | ⟨y,u,rfl,e⟩
      · exact nomatch e
      · injection e with e1 _; rw [e1]
  byValue:=fun k v h=>by
    rcases keyIs_shape h with ⟨i,t,rfl,rfl⟩ | ⟨x,t,rfl,rfl⟩ <;> rfl
  pyHash:=fun hv h=>by
    rcases keyIs_shape hv with ⟨i,t,rfl,rfl⟩ | ⟨x,t,rfl,rfl⟩
    · exact wpAny_pyHash_int h
    · exact wpAny_pyHash_str h
  eqBool:=fun hu hv h=>by
    rcases keyIs_shape hu with ⟨i,t,rfl,rfl⟩ | ⟨x,t,rfl,rfl⟩
    · rcases keyIs_shape hv with ⟨j,u,rfl,rfl⟩ | ⟨y,u,rfl,rfl⟩
      · rw [key_ll] at h; exact wpAny_eqBool_int h
      · rw [key_lr] at h; exact SeqAt.EqAt.int_str i t y u _ _ _ _ h
    · rcases keyIs_shape hv with ⟨j,u,rfl,rfl⟩ | ⟨y,u,rfl,rfl⟩
      · rw [key_rl] at h; exact SeqAt.EqAt.str_int x t j u _ _ _ _ h
      · rw [key_rr] at h; exact wpAny_eqBool_str h
  «strs»:=fun k x t v h=>by
    rcases keyIs_shape h with ⟨i,u,rfl,e⟩ | ⟨y,u,rfl,e⟩
    · exact nomatch e
    · injection e with e1 _
      subst e1
      cases v <;> rfl
theorem mixKind_int (prog:Program) (w:World) (i:Int) (t:Tok):(mixKind prog w).is (.inl i) (.int i t)=true:=keyIs_int i t
theorem mixKind_str (prog:Program) (w:World) (x:Str) (t:Tok):(mixKind prog w).is (.inr x) (.str x t)=true:=keyIs_str x t
end L2
namespace L2
open PySem PySem.Spec PyProof.Rows
inductive V where
  | non | bl (b:Bool) | int (i:Int) | str (x:Str) | byt (b:Array UInt8) | flt (b:UInt64) | ref (a:Addr) | ty (n:String)
  deriving DecidableEq
noncomputable def RelV:V→Value→Prop
  | .non,u=>u=Value.none
  | .bl b,u=>u=Value.bool b
  | .int i,u=>∃ t,u=Value.int i t
  | .str x,u=>∃ t,u=Value.str x t
  | .byt b,u=>∃ t,u=Value.bytes b t
  | .flt b,u=>∃ t,u=Value.float b t
  | .ref a,u=>u=Value.ref a
  | .ty n,u=>u=Value.type n
noncomputable abbrev Vals:List V→List Value→Prop:=Paired RelV
theorem Vals.length {xs:List V} {us:List Value} (r:Vals xs us):xs.length=us.length:=Paired.length r
theorem Vals.get:∀ {xs:List V} {us:List Value} {i:Nat} {x:V},Vals xs us→xs[i]?=some x→∃ u,us[i]?=some u∧RelV x u
  | _,_,_,_,.nil,e=>by simp at e
  | _,_,0,_,.cons r _,e=>by simp at e; subst e; exact ⟨_,rfl,r⟩
  | _,_,i + 1,x,.cons _ t,e=>by
    obtain ⟨u,h1,h2⟩:=Vals.get (i:=i) (x:=x) t (by simpa using e)
    exact ⟨u,by simpa using h1,h2⟩
theorem Vals.set {x:V} {u:Value} (r:RelV x u):∀ {xs:List V} {us:List Value} (i:Nat),Vals xs us→Vals (xs.set i x) (us.set i u)
  | _,_,_,.nil=>.nil
  | _,_,0,.cons _ t=>.cons r t
  | _,_,i + 1,.cons q t=>.cons q (Vals.set r i t)
theorem Vals.append:∀ {xs ys:List V} {us ws:List Value},Vals xs us→Vals ys ws→Vals (xs ++ ys) (us ++ ws)
  | _,_,_,_,.nil,s=>s
  | _,_,_,_,.cons r t,s=>.cons r (Vals.append t s)
theorem Vals.take:∀ {xs:List V} {us:List Value} (n:Nat),Vals xs us→Vals (xs.take n) (us.take n)
  | _,_,0,_=>.nil
  | _,_,_ + 1,.nil=>.nil
  | _,_,n + 1,.cons r t=>.cons r (Vals.take n t)
theorem Vals.drop:∀ {xs:List V} {us:List Value} (n:Nat),Vals xs us→Vals (xs.drop n) (us.drop n)
  | _,_,0,r=>r
  | _,_,_ + 1,.nil=>.nil
  | _,_,n + 1,.cons _ t=>Vals.drop n t
noncomputable def RelO:Option V→Option Value→Prop
  | some v,some u=>RelV v u
  | none,none=>True
  | _,_=>False
noncomputable def KV {κ:Type}:List (κ × V)→List (κ × Value)→Prop:=Paired fun (p:κ × V) (q:κ × Value)=>p.1=q.1∧RelV p.2 q.2
noncomputable def kV:Key→V
  | .inl i=>.int i
  | .inr x=>.str x
inductive HO where
    | lst (xs:List V)
    | tup (xs:List V)
    | dK (kvs:List (Key × V)) | dT (kvs:List (List Key × V))
    | set (S:Int→Bool) (n:Nat)
    | ins (C dx:Addr) (fs:List (Str × V))
    | own (x:Addr)
    | xd (fs:List (Str × V))
    | met (f x:Addr)
    | rng (lo hi:Int)
    | frz (o:Obj) (u:HO)
    | tbl (ps:Array Value)
    | ext (φ:Heap→Prop)
noncomputable abbrev Hp:=Addr→Option HO
noncomputable def upd (H:Hp) (a:Addr) (o:HO):Hp:=fun b=>if b=a then some o else H b
theorem upd_same {H:Hp} {a:Addr} {o:HO}:upd H a o a=some o:=by unfold upd; rw [if_pos rfl]
theorem upd_ne {H:Hp} {a b:Addr} {o:HO} (h:b≠a):upd H a o b=H b:=by unfold upd; rw [if_neg h]
theorem ne_of {H:Hp} {a b:Addr} {o u:HO} (h:H a=some o) (h':H b=some u) (d:o≠u):a≠b:=by
  intro e; subst e; rw [h] at h'; exact d (Option.some.inj h')
theorem ne_of_none {H:Hp} {a b:Addr} {o:HO} (h:H a=some o) (h':H b=none):a≠b:=by
  intro e; subst e; rw [h] at h'; cases h'
section
variable (P:Program) (w:World)
noncomputable def ObjOk (H:Hp) (h:Heap) (a:Addr):HO→Prop
  | .lst xs=>xs.length≤sizeLine∧∃ (its:List Value) (n:Nat),Vals xs its∧h.get? a=some { cls:=.type "list",data:=.seq its.toArray n }
  | .tup xs=>xs.length≤sizeLine∧∃ its:List Value,Vals xs its∧IsTup h a its.toArray
  | .dK kvs=>kvs.length≤sizeLine∧(a == sysModules)=false∧∃ vs,KV kvs vs∧h.DictOf (mixKind P w) a vs
  | .dT kvs=>kvs.length≤sizeLine∧(a == sysModules)=false∧∃ xs:List (List Key × Addr × Value),
      Paired (fun (p:List Key × V) (q:List Key × Addr × Value)=>p.1=q.1∧H q.2.1=some (.tup (p.1.map kV))∧RelV p.2 q.2.2) kvs xs ∧
      ∃ o es ep,h.get? a=some o∧o.ExactDict∧o.data=.dict es ep∧es.toList=xs.map (entryOfKey (tupleKind (mixKind P w)))∧(xs.map (·.1)).Nodup
  | .set S n=>h.SetOf (intKind P w) a S n
  | .ins C dx fs=>H dx=some (.own a)∧fs.length≤1000∧dx≠a∧h.get? a=some (PySem.W.instObj C dx) ∧
      ∃ mA,h.Ns1 dx mA∧(∀ f,RelO (fs.lookup f) (mA f))∧PySem.Within mA (fs.map (·.1))
  | .own _=>∃ o,h.get? a=some o
  | .xd fs=>∃ mA,h.Ns1 a mA∧∀ f,RelO (fs.lookup f) (mA f)
  | .rng lo hi=>∃ t u v,h.get? a=some { cls:=.type "range",data:=.fields #[.int lo t,.int hi u,.int 1 v] }
  | .frz o u=>h.get? a=some o∧ObjOk H h a u
  | .tbl ps=>h.get? a=some { cls:=.none,data:=.fields ps }
  | .met f x=>h.get? a=some (PySem.W.methodObj (.ref f) (.ref x))
  | .ext φ=>φ h∧(∃ o,h.get? a=some o)∧∀ h1 h2:Heap,φ h1→(∀ o,h1.get? a=some o→h2.get? a=some o)→φ h2
noncomputable def HOk (H:Hp) (h:Heap):Prop:=∀ a o,H a=some o→ObjOk P w H h a o
end
section
variable {P:Program} {w:World} {H H':Hp} {h h':Heap} {a:Addr} {o:HO}
theorem ObjOk.lt (x:ObjOk P w H h a o):a < h.objs.size:=by
  cases o with
  | lst xs=>obtain ⟨_,_,_,_,e⟩:=x; exact Heap.lt_size e
  | tup xs=>obtain ⟨_,_,_,p⟩:=x; exact p.lt
  | dK kvs=>obtain ⟨_,_,_,_,o,_,_,e,_⟩:=x; exact Heap.lt_size e
  | dT kvs=>obtain ⟨_,_,_,_,o,_,_,e,_⟩:=x; exact Heap.lt_size e
  | set S n=>obtain ⟨o,_,_,_,e,_⟩:=x; exact Heap.lt_size e
  | ins C dx fs=>obtain ⟨_,_,_,e,_⟩:=x; exact Heap.lt_size e
  | own y=>obtain ⟨_,e⟩:=x; exact Heap.lt_size e
  | xd fs=>obtain ⟨_,⟨_,_,_,e,_⟩,_⟩:=x; exact Heap.lt_size e
  | rng lo hi=>obtain ⟨_,_,_,e⟩:=x; exact Heap.lt_size e
  | frz ob u=>obtain ⟨e,_⟩:=x; exact Heap.lt_size e
  | tbl ps=>exact Heap.lt_size (show h.get? a=some _ from x)
  | met f y=>exact Heap.lt_size (show h.get? a=some _ from x)
  | ext φ=>obtain ⟨_,⟨_,e⟩,_⟩:=x; exact Heap.lt_size e
theorem Paired.mapP {α β:Type} {F G:α→β→Prop}:∀ {l₁:List α} {l₂:List β},Paired F l₁ l₂→(∀ a b,F a b→G a b)→Paired G l₁ l₂
  | _,_,.nil,_=>.nil
  | _,_,.cons r t,f=>.cons (f _ _ r) (Paired.mapP t f)
theorem ObjOk.stay (x:ObjOk P w H h a o) (k:∀ b u,(b=a ∨ H b=some (.own a))→h.get? b=some u→h'.get? b=some u)
    (ho:∀ b,H b=some (.own a)→H' b=some (.own a)) (ht:∀ b xs,H b=some (.tup xs)→H' b=some (.tup xs)):ObjOk P w H' h' a o:=by
  induction o with
  | lst xs=>obtain ⟨z,its,n,r,e⟩:=x; exact ⟨z,its,n,r,k _ _ (.inl rfl) e⟩
  | tup xs=>obtain ⟨z,its,r,ob,e,c⟩:=x; exact ⟨z,its,r,ob,k _ _ (.inl rfl) e,c⟩
  | dK kvs=>obtain ⟨z,y,vs,r,ob,es,ep,e,c⟩:=x; exact ⟨z,y,vs,r,ob,es,ep,k _ _ (.inl rfl) e,c⟩
  | dT kvs =>
    obtain ⟨z,y,xs,r,ob,es,ep,e,c⟩:=x
    exact ⟨z,y,xs,Paired.mapP r fun p q z=>⟨z.1,ht _ _ z.2.1,z.2.2⟩,ob,es,ep,k _ _ (.inl rfl) e,c⟩
  | set S n=>obtain ⟨ob,es,ep,t,e,c⟩:=x; exact ⟨ob,es,ep,t,k _ _ (.inl rfl) e,c⟩
  | ins C dx fs =>
    obtain ⟨d,z,ne,e,mA,⟨od,es,ep,e2,c⟩,r⟩:=x
    exact ⟨ho _ d,z,ne,k _ _ (.inl rfl) e,mA,⟨od,es,ep,k _ _ (.inr d) e2,c⟩,r⟩
  | own y=>obtain ⟨ob,e⟩:=x; exact ⟨ob,k _ _ (.inl rfl) e⟩
  | xd fs=>obtain ⟨mA,⟨od,es,ep,e,c⟩,r⟩:=x; exact ⟨mA,⟨od,es,ep,k _ _ (.inl rfl) e,c⟩,r⟩
  | rng lo hi=>obtain ⟨t,u,v,e⟩:=x; exact ⟨t,u,v,k _ _ (.inl rfl) e⟩
  | frz ob u ih=>obtain ⟨e,q⟩:=x; exact ⟨k _ _ (.inl rfl) e,ih q⟩
  | tbl ps =>
    have e:h.get? a=some { cls:=.none,data:=.fields ps }:=x
    show h'.get? a=some { cls:=.none,data:=.fields ps }
    exact k a _ (.inl rfl) e
  | met f y =>
    have e:h.get? a=some (PySem.W.methodObj (.ref f) (.ref y)):=x
    show h'.get? a=some (PySem.W.methodObj (.ref f) (.ref y))
    exact k a _ (.inl rfl) e
  | ext φ=>obtain ⟨p,⟨o,e⟩,st⟩:=x; exact ⟨st _ _ p fun o q=>k _ _ (.inl rfl) q,⟨o,k _ _ (.inl rfl) e⟩,st⟩
theorem HOk.lt (x:HOk P w H h) (e:H a=some o):a < h.objs.size:=(x a o e).lt
theorem HOk.fresh (x:HOk P w H h) (e:h.objs.size≤a):H a=none:=by
  cases q:H a with
  | none=>rfl
  | some u=>exact absurd (Nat.lt_of_lt_of_le (x.lt q) e) (Nat.lt_irrefl _)
theorem HOk.kept (x:HOk P w H h) (k:∀ b u,h.get? b=some u→h'.get? b=some u):HOk P w H h':=fun a o e =>
  (x a o e).stay (fun b u _ q=>k b u q) (fun _ q=>q) fun _ _ q=>q
theorem HOk.laid (x:HOk P w H h) (k:∀ b u,h.get? b=some u→h'.get? b=some u) (hp:h.objs.size≤a) (new:ObjOk P w (upd H a o) h' a o):HOk P w (upd H a o) h':=fun b u e=>by
  have hn:=x.fresh hp
  by_cases hb:b=a
  · subst hb; rw [upd_same] at e; cases e; exact new
  · rw [upd_ne hb] at e
    exact (x b u e).stay (fun c v _ q=>k c v q) (fun c q=>by rw [upd_ne (ne_of_none q hn)]; exact q) fun c xs q=>by rw [upd_ne (ne_of_none q hn)]; exact q
end
noncomputable def Rd (H:Hp) (a:Addr) (u:HO):Prop:=H a=some u ∨ ∃ o,H a=some (.frz o u)
theorem Rd.ok {P:Program} {w:World} {H:Hp} {h:Heap} {a:Addr} {u:HO} (r:Rd H a u) (x:HOk P w H h):ObjOk P w H h a u:=by
  rcases r with r | ⟨o,r⟩
  · exact x a u r
  · obtain ⟨_,q⟩:=x a _ r
    exact q
noncomputable def Mut:Option HO→Prop
  | some (.lst _)=>True
  | some (.dK _)=>True
  | some (.dT _)=>True
  | some (.set _ _)=>True
  | some (.ins _ _ _)=>True
  | some (.ext _)=>True
  | _=>False
section
variable {P:Program} {w:World} {H:Hp} {h h':Heap} {x e:Addr} {o':HO}
theorem HOk.write (ok:HOk P w H h) (mu:Mut (H x)) (he:e=x ∨ H e=some (.own x)) (k:∀ b u,b≠e→h.get? b=some u→h'.get? b=some u) (heo:∃ u,h'.get? e=some u)
    (new:ObjOk P w (upd H x o') h' x o'):HOk P w (upd H x o') h':=fun b u q=>by
  have nown:∀ c y,H c=some (.own y)→c≠x:=fun c y r z=>by subst z; rw [r] at mu; exact mu
  have ntup:∀ c xs,H c=some (.tup xs)→c≠x:=fun c xs r z=>by subst z; rw [r] at mu; exact mu
  by_cases hb:b=x
  · subst hb; rw [upd_same] at q; cases q; exact new
  · rw [upd_ne hb] at q
    by_cases hbe:b=e
    · have q':H b=some (.own x):=by
        rcases he with z | z
        · exact absurd (hbe.trans z) hb
        · rw [hbe]; exact z
      rw [q] at q'; cases q'
      obtain ⟨v,hv⟩:=heo
      exact ⟨v,by rw [hbe]; exact hv⟩
    · refine (ok b u q).stay (fun c v hc r=>k c v ?_ r) (fun c r=>by rw [upd_ne (nown c b r)]; exact r) fun c xs r=>by rw [upd_ne (ntup c xs r)]; exact r
      rcases hc with rfl | hc
      · exact hbe
      · rintro rfl
        rcases he with z | z
        · exact nown c b hc z
        · rw [hc] at z; cases z; exact hb rfl
end
structure Un (fs ex:List Addr) (H H':Hp) (h h':Heap):Prop where
  keep:∀ b o,h.get? b=some o→H b=none→b ∉ fs→b ∉ ex→h'.get? b=some o
  slot:∀ b o,h.get? b=some o→H b=none→b∈fs→b ∉ ex→∃ sl,h'.get? b=some { o with slots:=sl }
  free:∀ b o,h.get? b=some o→H b=none→b ∉ ex→H' b=none
  there:∀ b o,h.get? b=some o→b ∉ ex→∃ o',h'.get? b=some o'
  tups:∀ b xs,H b=some (.tup xs)→H' b=some (.tup xs)
  frzs:∀ b o u,H b=some (.frz o u)→H' b=some (.frz o u)
  tbls:∀ b ps,H b=some (.tbl ps)→∃ more,H' b=some (.tbl (ps ++ more))
section
variable {fs fs' ex ex':List Addr} {H H1 H2:Hp} {h h1 h2 h':Heap} {a x e:Addr} {o:HO}
theorem Un.any (u:Un fs ex H H1 h h1) {b:Addr} {ob:Obj} (q:h.get? b=some ob) (n:H b=none) (hx:b ∉ ex):∃ sl,h1.get? b=some { ob with slots:=sl }:=by
  by_cases hb:b∈fs
  · exact u.slot b ob q n hb hx
  · exact ⟨ob.slots,u.keep b ob q n hb hx⟩
theorem Un.kept (k:∀ b u,h.get? b=some u→h'.get? b=some u):Un fs ex H H h h' :=
  ⟨fun b ob q _ _ _=>k b ob q,fun b ob q _ _ _=>⟨ob.slots,k b ob q⟩,fun _ _ _ n _=>n,fun b ob q _=>⟨ob,k b ob q⟩,fun _ _ q=>q,fun _ _ _ q=>q,fun _ ps q=>⟨#[],by rw [q]; simp⟩⟩
theorem Un.refl:Un fs ex H H h h:=Un.kept fun _ _ q=>q
theorem Un.laid (k:∀ b u,h.get? b=some u→h'.get? b=some u) (hp:h.objs.size≤a) (hn:H a=none):Un fs ex H (upd H a o) h h' where
  keep:=fun b u q _ _ _=>k b u q
  slot:=fun b u q _ _ _=>⟨u.slots,k b u q⟩
  free:=fun b u q n _=>by rw [upd_ne (Nat.ne_of_lt (Nat.lt_of_lt_of_le (Heap.lt_size q) hp))]; exact n
  there:=fun b u q _=>⟨u,k b u q⟩
  tups:=fun b xs q=>by rw [upd_ne (ne_of_none q hn)]; exact q
  frzs:=fun b u xs q=>by rw [upd_ne (ne_of_none q hn)]; exact q
  tbls:=fun b ps q=>⟨#[],by rw [upd_ne (ne_of_none q hn),q]; simp⟩
theorem Un.write (mu:Mut (H x)) (he:e=x ∨ H e=some (.own x)) (k:∀ b u,b≠e→h.get? b=some u→h'.get? b=some u) (heo:∃ u,h'.get? e=some u):Un fs ex H (upd H x o) h h':=by
  have hx:∀ b,H b=none→b≠x:=fun b n z=>by subst z; rw [n] at mu; exact mu
  have hb:∀ b,H b=none→b≠e:=fun b n z=>by
    subst z
    rcases he with r | r
    · exact hx b n r
    · rw [n] at r; cases r
  have hm:∀ b u,H b=some u→¬ Mut (some u)→b≠x:=fun b u q nm z=>by subst z; rw [q] at mu; exact nm mu
  refine ⟨fun b u q n _ _=>k b u (hb b n) q,fun b u q n _ _=>⟨u.slots,k b u (hb b n) q⟩,fun b u q n _=>by rw [upd_ne (hx b n)]; exact n,fun b u q _=>?_,
    fun b xs q=>by rw [upd_ne (hm b _ q fun z=>z)]; exact q,fun b u xs q=>by rw [upd_ne (hm b _ q fun z=>z)]; exact q,fun b ps q=>⟨#[],by rw [upd_ne (hm b _ q fun z=>z),q]; simp⟩⟩
  by_cases hbe:b=e
  · subst hbe; exact heo
  · exact ⟨u,k b u hbe q⟩
end
noncomputable def trk (h:Heap) (H:Hp):List Addr:=(List.range h.objs.size).filter fun a=>(H a).isSome
noncomputable def hidT (h:Heap) (H:Hp):Heap:=PySem.W.hideAll h (trk h H)
theorem hidT_size (h:Heap) (H:Hp):(hidT h H).objs.size=h.objs.size:=PySem.W.hideAll_size _ _
theorem hidT_get {h:Heap} {H:Hp} {b:Addr} {o:Obj} (e:h.get? b=some o) (n:H b=none):(hidT h H).get? b=some o :=
  PySem.W.hideAll_get _ e fun hm=>by
    have q:(H b).isSome=true:=(List.mem_filter.mp hm).2
    rw [n] at q; simp at q
theorem of_hidT {h:Heap} {H:Hp} {b:Addr} {o:Obj} (e:(hidT h H).get? b=some o):h.get? b=some o∧H b=none:=by
  have e':h.get? b=some o:=PySem.W.of_hideAll (trk h H) e
  refine ⟨e', ?_⟩
  cases q:H b with
  | none=>rfl
  | some x =>
    have hm:b∈trk h H:=List.mem_filter.mpr ⟨List.mem_range.mpr (Heap.lt_size e'),by simp [q]⟩
    have z:(hidT h H).get? b=none:=PySem.W.hideAll_none (trk h H) hm
    rw [z] at e; cases e
noncomputable def allNews (g h:Heap) (L:Addr):List (Addr × Obj):=(List.range h.objs.size).filterMap fun a=>if a=L ∨ (g.get? a).isSome=true then none else (h.get? a).map fun o=>(a,o)
noncomputable def rest (g h:Heap) (L d:Addr):List (Addr × Obj):=(allNews g h L).filter fun p=>decide (p.1≠d)
end L2
namespace L2
open PySem PySem.Spec PyProof.Rows
structure Mod (K:PySem.W.Frag) (mg:Str→Option Value) (base:Heap):Prop where
  kin:K.In base
  glob:base.Ns mainGlobals mg
  blt:∃ mb,base.Ns builtinsNs mb∧∀ x:Str,x ≠ "__name__"→mb x=bootBuiltins x
  nolimit:base.NoLimit
structure Cx where
  prog:Program
  w:World
  K:PySem.W.Frag
  mg:Str→Option Value
  base:Heap
  A:Around
  N:List Str
  s₀:Shared
  H₀:Hp
  env:Env
  outer:List Env
  stack:List Env
  ex:List Addr
  fn:Str→Bool
  calm:Bool
  pn:List (Addr × Obj)
  xe:Value→Shared→Prop
noncomputable def frs (l:List Env):List Addr:=l.filterMap (·.frame)
noncomputable abbrev Cx.fs (X:Cx):List Addr:=frs X.outer
noncomputable def Vis (sc:Scope) (x:Str):Prop:=sc.names.lookup x=some .local ∨ sc.names.lookup x=some .cell ∨ sc.names.lookup x=some .free
noncomputable def Loc (sc:Scope) (x:Str):Prop:=sc.names.lookup x=some .local ∨ sc.names.lookup x=some .cell
noncomputable def Look (env:Env) (h:Heap) (m:Str→Option Value) (x:Str) (u:Value):Prop :=
  (env.kindOf x=some .local∧m x=some u) ∨ ((env.kindOf x=some .cell ∨ env.kindOf x=some .free)∧∃ c,env.cells.lookup x=some c∧h.IsCell c (some u))
structure Cx.Ok (X:Cx):Prop where
  mod:Mod X.K X.mg X.base
  kind:X.env.scope.kind=.function
  glob:X.env.globals=mainGlobals
  blt:X.env.builtins=builtinsNs
  above:X.s₀.heap.objs.size≤X.env.locals
  inj:∀ x y c,X.env.cells.lookup x=some c→X.env.cells.lookup y=some c→x=y
  has:∀ x,(X.env.kindOf x=some .cell ∨ X.env.kindOf x=some .free)→∃ c,X.env.cells.lookup x=some c
  cab:∀ x c,X.fn x=true→X.env.cells.lookup x=some c→X.s₀.heap.objs.size≤c
  hd:X.calm=true→X.A.handled=none
  frames:X.A.frames=some X.stack
  stk:X.stack=X.outer ∨ (X.stack=X.env :: X.outer∧X.env.frame=some X.env.locals)
  exf:∀ b∈X.ex,b≠X.env.locals∧∀ x c,X.env.cells.lookup x=some c→c≠b
  bs:∀ b o,X.base.get? b=some o→X.s₀.heap.get? b=some o∧X.H₀ b=none
  bsz:X.base.objs.size≤X.s₀.heap.objs.size
  noex:∀ b o,X.base.get? b=some o→b ∉ X.ex
  exfs:∀ b∈X.ex,b ∉ X.fs
  funs:X.s₀.heap.FunFrames X.base X.outer
  frf:∀ b∈X.fs,X.H₀ b=none
structure Inv (X:Cx) (pins:List (Addr × Obj)) (σ:List (Option V)) (H:Hp) (s:Shared):Prop where
  ok:X.Ok
  os:s.os=X.s₀.os
  bare:AllBare s.gens
  base:Un X.fs X.ex X.H₀ H X.s₀.heap s.heap
  loc:∃ m,s.heap.Ns X.env.locals m∧∀ (i:Nat) (x:Str) (v:V),X.N[i]?=some x→σ[i]?=some (some v)→Vis X.env.scope x→∃ u,RelV v u∧Look X.env s.heap m x u
  cell:∀ x c,X.env.cells.lookup x=some c→∃ v,s.heap.IsCell c v
  free:H X.env.locals=none
  freeC:∀ x c,X.env.cells.lookup x=some c→H c=none
  pin:∀ p∈X.pn ++ pins,s.heap.get? p.1=some p.2∧H p.1=none∧p.1≠X.env.locals∧p.1 ∉ X.fs∧∀ v,p.2.data≠.cell v
  hok:HOk X.prog X.w H s.heap
  len:σ.length=X.N.length
section
variable {X:Cx} {pins:List (Addr × Obj)} {σ:List (Option V)} {H H':Hp} {s:Shared} {h':Heap}
theorem Cx.Ok.nofr (ok:X.Ok) {b:Addr} {o:Obj} (e:X.base.get? b=some o):b ∉ X.fs:=fun hb=>by
  have:=(ok.funs.mem hb).1
  rw [e] at this; cases this
theorem Inv.bs (I:Inv X pins σ H s):∀ b o,X.base.get? b=some o→s.heap.get? b=some o∧H b=none:=fun b o e =>
  ⟨I.base.keep b o (I.ok.bs b o e).1 (I.ok.bs b o e).2 (I.ok.nofr e) (I.ok.noex b o e),I.base.free b o (I.ok.bs b o e).1 (I.ok.bs b o e).2 (I.ok.noex b o e)⟩
theorem Inv.bk (I:Inv X pins σ H s):∀ b o,X.base.get? b=some o→s.heap.get? b=some o:=fun b o e=>(I.bs b o e).1
theorem Inv.mod (I:Inv X pins σ H s):Mod X.K X.mg X.base:=I.ok.mod
theorem Inv.kIn (I:Inv X pins σ H s):X.K.In s.heap:=I.ok.mod.kin.keeps I.bk
theorem Inv.lt (I:Inv X pins σ H s):X.env.locals < s.heap.objs.size:=let ⟨_,hn,_⟩:=I.loc; hn.lt
theorem Inv.sz (I:Inv X pins σ H s):X.s₀.heap.objs.size≤s.heap.objs.size:=Nat.le_trans I.ok.above (Nat.le_of_lt I.lt)
theorem Inv.nofs (I:Inv X pins σ H s) {a:Addr} (h:s.heap.objs.size≤a):a ∉ X.fs:=fun hb=>by
  obtain ⟨_,o,ho,_⟩:=I.ok.funs.mem hb
  exact absurd (Nat.lt_of_lt_of_le (Heap.lt_size ho) (Nat.le_trans I.sz h)) (Nat.lt_irrefl _)
theorem Inv.cne (I:Inv X pins σ H s):∀ x c,X.env.cells.lookup x=some c→c≠X.env.locals:=fun x c e z=>by
  obtain ⟨v,o,ho,hd⟩:=I.cell x c e
  obtain ⟨m,⟨o',es,ep,ho',hd',_⟩,_⟩:=I.loc
  rw [z,ho'] at ho; cases ho; rw [hd'] at hd; cases hd
theorem Inv.funs (I:Inv X pins σ H s):s.heap.FunFrames X.base X.outer:=by
  have all:∀ (l:List Env),(∀ b∈frs l,b∈X.fs)→X.s₀.heap.FunFrames X.base l→s.heap.FunFrames X.base l:=by
    intro l
    induction l with
    | nil=>intro _ _; trivial
    | cons env r ih =>
      intro hs hl
      obtain ⟨hk,⟨L,o,hf,hn,ho,hd⟩,hr⟩:=hl
      have hL:L∈X.fs:=hs L (by unfold frs; rw [List.filterMap_cons,hf]; exact List.mem_cons_self)
      obtain ⟨sl,e⟩:=I.base.slot L o ho (I.ok.frf L hL) hL fun z=>I.ok.exfs L z hL
      exact ⟨hk,⟨L,_,hf,hn,e,hd⟩,ih (fun b hb=>hs b (by unfold frs; rw [List.filterMap_cons,hf]; exact List.mem_cons_of_mem _ hb)) hr⟩
  exact all X.outer (fun _ hb=>hb) I.ok.funs
theorem Inv.stack (I:Inv X pins σ H s):s.heap.FunFrames X.base X.stack:=by
  rcases I.ok.stk with e | ⟨e,hf⟩
  · rw [e]; exact I.funs
  · rw [e]
    obtain ⟨m,hn,_⟩:=I.loc
    refine .cons (by rw [I.ok.kind]; decide) hf hn ?_ I.funs
    exact Heap.get?_none_of_le (Nat.le_trans I.ok.bsz I.ok.above)
theorem Inv.stkSub (I:Inv X pins σ H s):∀ b∈frs X.stack,b∈X.env.locals :: X.fs:=fun b hb=>by
  rcases I.ok.stk with e | ⟨e,hf⟩
  · rw [e] at hb; exact List.mem_cons_of_mem _ hb
  · rw [e] at hb
    unfold frs at hb
    rw [List.filterMap_cons,hf] at hb
    exact hb
theorem Inv.stkFree (I:Inv X pins σ H s):∀ b∈frs X.stack,H b=none:=fun b hb=>by
  rcases List.mem_cons.mp (I.stkSub b hb) with e | hb
  · rw [e]; exact I.free
  · obtain ⟨_,o,ho,_⟩:=I.ok.funs.mem hb
    exact I.base.free b o ho (I.ok.frf b hb) fun z=>I.ok.exfs b z hb
theorem Inv.step {g':Array GenState} {t':Nat} {d':Drawn} {ch:List Addr} (I:Inv X pins σ H s)
    (hch:∀ b∈ch,(b∈X.ex ∨ X.s₀.heap.objs.size≤b)∧b≠X.env.locals∧(∀ x c,X.env.cells.lookup x=some c→c≠b)∧∀ p∈X.pn ++ pins,p.1≠b)
    (keep:∀ b o,b≠X.env.locals→b ∉ X.fs→b ∉ ch→s.heap.get? b=some o→H b=none→h'.get? b=some o)
    (slot:∀ b o,b≠X.env.locals→b∈X.fs→b ∉ ch→s.heap.get? b=some o→H b=none→∃ sl,h'.get? b=some { o with slots:=sl }) (free:∀ b o,b ∉ ch→s.heap.get? b=some o→H b=none→H' b=none)
    (there:∀ b o,b ∉ ch→s.heap.get? b=some o→∃ o',h'.get? b=some o')
    (tups:∀ b xs,H b=some (.tup xs)→H' b=some (.tup xs)) (frzs:∀ b o u,H b=some (.frz o u)→H' b=some (.frz o u)) (tbls:∀ b ps,H b=some (.tbl ps)→∃ more,H' b=some (.tbl (ps ++ more)))
    (ns:∀ m,s.heap.Ns X.env.locals m→h'.Ns X.env.locals m) (hok:HOk X.prog X.w H' h') (hg:AllBare g') :
    Inv X pins σ H' { s with heap:=h',gens:=g',drawn:=d',toks:=t' }:=by
  have neL:∀ b o,X.s₀.heap.get? b=some o→b≠X.env.locals:=fun b o e=>Nat.ne_of_lt (Nat.lt_of_lt_of_le (Heap.lt_size e) I.ok.above)
  have neC:∀ b o,X.s₀.heap.get? b=some o→b ∉ X.ex→b ∉ ch:=fun b o e hx hb=>by
    rcases (hch b hb).1 with z | z
    · exact hx z
    · exact absurd (Nat.lt_of_lt_of_le (Heap.lt_size e) z) (Nat.lt_irrefl _)
  have cellK:∀ x c,X.env.cells.lookup x=some c→∀ v,s.heap.IsCell c v→h'.IsCell c v:=fun x c e v ⟨o,ho,hd⟩=>by
    have nch:c ∉ ch:=fun z=>(hch c z).2.2.1 x c e rfl
    by_cases hc:c∈X.fs
    · obtain ⟨sl,q⟩:=slot c o (I.cne x c e) hc nch ho (I.freeC x c e)
      exact ⟨_,q,hd⟩
    · exact ⟨o,keep c o (I.cne x c e) hc nch ho (I.freeC x c e),hd⟩
  refine ⟨I.ok,I.os,hg,⟨fun b o e n hb hx=>?_,fun b o e n hb hx=>?_,fun b o e n hx=>?_,fun b o e hx=>?_,fun b xs e=>tups b xs (I.base.tups b xs e),fun b o xs e=>frzs b o xs (I.base.frzs b o xs e),fun b ps e=>?_⟩, ?_,fun x c e=>?_, ?_,fun x c e=>?_,fun p hp=>?_,hok,I.len⟩
  · exact keep b o (neL b o e) hb (neC b o e hx) (I.base.keep b o e n hb hx) (I.base.free b o e n hx)
  · obtain ⟨sl,e1⟩:=I.base.slot b o e n hb hx
    obtain ⟨sl',e2⟩:=slot b _ (neL b o e) hb (neC b o e hx) e1 (I.base.free b o e n hx)
    exact ⟨sl',e2⟩
  · obtain ⟨o',e1⟩:=I.base.there b o e hx
    exact free b o' (neC b o e hx) e1 (I.base.free b o e n hx)
  · obtain ⟨o',e1⟩:=I.base.there b o e hx
    exact there b o' (neC b o e hx) e1
  · obtain ⟨m1,e1⟩:=I.base.tbls b ps e
    obtain ⟨m2,e2⟩:=tbls b _ e1
    exact ⟨m1 ++ m2,by rw [e2,Array.append_assoc]⟩
  · obtain ⟨m,hn,hl⟩:=I.loc
    refine ⟨m,ns m hn,fun i x v e1 e2 e3=>?_⟩
    obtain ⟨u,r,l⟩:=hl i x v e1 e2 e3
    refine ⟨u,r, ?_⟩
    rcases l with l | ⟨k,c,e,z⟩
    · exact .inl l
    · exact .inr ⟨k,c,e,cellK x c e _ z⟩
  · obtain ⟨v,z⟩:=I.cell x c e
    exact ⟨v,cellK x c e v z⟩
  · obtain ⟨m,⟨o,_,_,ho,_⟩,_⟩:=I.loc
    exact free _ o (fun z=>(hch _ z).2.1 rfl) ho I.free
  · obtain ⟨v,o,ho,hd⟩:=I.cell x c e
    exact free c o (fun z=>(hch c z).2.2.1 x c e rfl) ho (I.freeC x c e)
  · obtain ⟨e,n,ne,nf,d⟩:=I.pin p hp
    have nch:p.1 ∉ ch:=fun z=>(hch p.1 z).2.2.2 p hp rfl
    exact ⟨keep p.1 p.2 ne nf nch e n,free p.1 p.2 nch e n,ne,nf,d⟩
theorem Inv.un {t':Nat} (I:Inv X pins σ H s) (u:Un X.fs [] H H' s.heap h') (hok:HOk X.prog X.w H' h'):Inv X pins σ H' { s with heap:=h',toks:=t' }:=by
  obtain ⟨m,⟨o,es,ep,ho,r⟩,_⟩:=id I.loc
  obtain ⟨sl,hL⟩:=u.any ho I.free (by simp)
  exact I.step (g':=s.gens) (d':=s.drawn) (ch:=[]) (fun _ z=>nomatch z) (fun b o _ hb _ e n=>u.keep b o e n hb (by simp)) (fun b o _ hb _ e n=>u.slot b o e n hb (by simp)) (fun b o _ e n=>u.free b o e n (by simp)) (fun b o _ e=>u.there b o e (by simp)) u.tups u.frzs u.tbls (fun m' hm=>by
    obtain ⟨o',es',ep',ho',r'⟩:=hm
    rw [ho] at ho'; cases ho'
    exact ⟨_,es',ep',hL,r'⟩) hok I.bare
theorem Inv.call {g':Array GenState} {t':Nat} {d':Drawn} {ch:List Addr} (I:Inv X pins σ H s) (u:Un (frs X.stack) ch H H' s.heap h') (hok:HOk X.prog X.w H' h') (hg:AllBare g')
    (hch:∀ b∈ch,(b∈X.ex ∨ X.s₀.heap.objs.size≤b)∧b≠X.env.locals∧(∀ x c,X.env.cells.lookup x=some c→c≠b)∧∀ p∈X.pn ++ pins,p.1≠b) :
    Inv X pins σ H' { s with heap:=h',gens:=g',drawn:=d',toks:=t' }:=by
  obtain ⟨m,⟨o,es,ep,ho,r⟩,_⟩:=id I.loc
  obtain ⟨sl,hL⟩:=u.any ho I.free fun z=>(hch _ z).2.1 rfl
  exact I.step (ch:=ch) hch (fun b o hL hb hc e n=>u.keep b o e n (fun z=>(List.mem_cons.mp (I.stkSub b z)).elim hL hb) hc) (fun b o _ _ hc e n=>u.any e n hc) (fun b o hc e n=>u.free b o e n hc) (fun b o hc e=>u.there b o e hc) u.tups u.frzs u.tbls (fun m' hm=>by
    obtain ⟨o',es',ep',ho',r'⟩:=hm
    rw [ho] at ho'; cases ho'
    exact ⟨_,es',ep',hL,r'⟩) hok hg
theorem Inv.turned {t':Nat} {it:Addr} (I:Inv X pins σ H s) (k:∀ b o,b≠it→s.heap.get? b=some o→h'.get? b=some o) (hn:H it=none) (hL:it≠X.env.locals)
    (h1:it∈X.ex ∨ X.s₀.heap.objs.size≤it) (h2:∀ x c,X.env.cells.lookup x=some c→c≠it) (h3:∀ p∈X.pn ++ pins,p.1≠it):Inv X pins σ H { s with heap:=h',toks:=t' }:=by
  have nit:∀ b u,H b=some u→b≠it:=fun b u e z=>by rw [z,hn] at e; cases e
  refine I.step (g':=s.gens) (d':=s.drawn) (ch:=[it]) (fun b hb=>?_) (fun b o _ _ hc e _=>k b o (fun z=>hc (by simp [z])) e) (fun b o _ _ hc e _=>⟨o.slots,k b o (fun z=>hc (by simp [z])) e⟩) (fun _ _ _ _ n=>n)
    (fun b o hc e=>⟨o,k b o (fun z=>hc (by simp [z])) e⟩) (fun _ _ e=>e) (fun _ _ _ e=>e) (fun b ps e=>⟨#[],by rw [e]; simp⟩) (fun m hm=>?_) (fun b u e=>?_) I.bare
  · have e:b=it:=by simpa using hb
    subst e
    exact ⟨h1,hL,h2,h3⟩
  · obtain ⟨o,es,ep,ho,r⟩:=hm
    exact ⟨o,es,ep,k _ o (Ne.symm hL) ho,r⟩
  · refine (I.hok b u e).stay (fun c v hc q=>k c v ?_ q) (fun _ q=>q) fun _ _ q=>q
    rcases hc with z | z
    · rw [z]; exact nit b u e
    · exact nit c _ z
theorem Inv.tok (I:Inv X pins σ H s) (t:Nat):Inv X pins σ H { s with toks:=t }:=I.un (h':=s.heap) (t':=t) Un.refl I.hok
theorem Inv.kept {t':Nat} (I:Inv X pins σ H s) (k:∀ b u,s.heap.get? b=some u→h'.get? b=some u):Inv X pins σ H { s with heap:=h',toks:=t' }:=I.un (Un.kept k) (I.hok.kept k)
theorem Inv.laid {a:Addr} {o:HO} {t':Nat} (I:Inv X pins σ H s) (k:∀ b u,s.heap.get? b=some u→h'.get? b=some u) (hp:s.heap.objs.size≤a) (new:ObjOk X.prog X.w (upd H a o) h' a o) :
    Inv X pins σ (upd H a o) { s with heap:=h',toks:=t' }:=I.un (Un.laid k hp (I.hok.fresh hp)) (I.hok.laid k hp new)
theorem Inv.write {x e:Addr} {o:HO} {t':Nat} (I:Inv X pins σ H s) (mu:Mut (H x)) (he:e=x ∨ H e=some (.own x)) (k:∀ b u,b≠e→s.heap.get? b=some u→h'.get? b=some u) (heo:∃ u,h'.get? e=some u)
    (new:ObjOk X.prog X.w (upd H x o) h' x o):Inv X pins σ (upd H x o) { s with heap:=h',toks:=t' }:=I.un (Un.write mu he k heo) (I.hok.write mu he k heo new)
theorem Inv.pins_of {pins':List (Addr × Obj)} (I:Inv X pins σ H s) (h:∀ p∈pins',s.heap.get? p.1=some p.2∧H p.1=none∧p.1≠X.env.locals∧p.1 ∉ X.fs∧∀ v,p.2.data≠.cell v):Inv X pins' σ H s :=
  ⟨I.ok,I.os,I.bare,I.base,I.loc,I.cell,I.free,I.freeC,fun p hp=>(List.mem_append.mp hp).elim (fun z=>I.pin p (List.mem_append_left _ z)) (h p),I.hok,I.len⟩
theorem nodup_ix {N:List Str} (hN:N.Nodup) {i j:Nat} {x:Str} (a:N[i]?=some x) (b:N[j]?=some x):i=j:=by
  obtain ⟨h1,e1⟩:=List.getElem?_eq_some_iff.mp a
  obtain ⟨h2,e2⟩:=List.getElem?_eq_some_iff.mp b
  exact (List.getElem_inj hN).mp (e1.trans e2.symm)
theorem store_ok2 {M:Model} {A:Around} {E:Value→Shared→Prop} {i:Nat} {x:Str} {v:V} {u:Value} {Q:Unit→Shared→Prop} (I:Inv X pins σ H s) (hN:X.N.Nodup) (hi:X.N[i]?=some x) (hx:Loc X.env.scope x) (r:RelV v u)
    (h:∀ s',Inv X pins (σ.set i (some v)) H s'→(∃ a,Heap.SameBut a s.heap s'.heap∧(a=X.env.locals ∨ X.env.cells.lookup x=some a))→Q () s') (hf:X.fn x=true ∨ X.env.scope.names.lookup x=some .local):wpAny M A (storeName X.env x u) Q E s:=by
  obtain ⟨m,hn,hl⟩:=id I.loc
  have hcls:(X.env.scope.kind == .class || (X.env.scope.kind == .module && X.env.locals != X.env.globals))=false:=by rw [I.ok.kind]; rfl
  have hiσ:i < σ.length:=by rw [I.len]; exact (List.getElem?_eq_some_iff.mp hi).1
  have cne:=I.cne
  have tracked:∀ {a:Addr} {h':Heap},(∃ o,s.heap.get? a=some o∧H a=none)→Heap.SameBut a s.heap h'→HOk X.prog X.w H h':=fun {a h'} ha hs b ob e=>by
    obtain ⟨_,_,hfree⟩:=ha
    refine (I.hok b ob e).stay (fun c w' hc q=>(hs.2 c ?_).trans q) (fun _ q=>q) fun _ _ q=>q
    rintro rfl
    rcases hc with rfl | hc
    · rw [hfree] at e; cases e
    · rw [hfree] at hc; cases hc
  rcases hx with hk | hk
  · refine wpAny_storeName_local hk hn (fun h' hn' hs=>?_) hcls
    obtain ⟨oL,_,_,hoL,_⟩:=id hn
    refine h _ ⟨I.ok,I.os,I.bare,⟨fun b o e n hb hx=>?_,fun b o e n hb hx=>?_,I.base.free,fun b o e hx=>?_,I.base.tups,I.base.frzs,I.base.tbls⟩,⟨_,hn',fun j y v' e1 e2 e3=>?_⟩,fun y c e=>?_,I.free,I.freeC,fun p hp=>?_,tracked ⟨oL,hoL,I.free⟩ hs,by simpa using I.len⟩ ⟨_,hs,.inl rfl⟩
    · exact (hs.2 b (Nat.ne_of_lt (Nat.lt_of_lt_of_le (Heap.lt_size e) I.ok.above))).trans (I.base.keep b o e n hb hx)
    · obtain ⟨sl,e1⟩:=I.base.slot b o e n hb hx
      exact ⟨sl,(hs.2 b (Nat.ne_of_lt (Nat.lt_of_lt_of_le (Heap.lt_size e) I.ok.above))).trans e1⟩
    · obtain ⟨o',e1⟩:=I.base.there b o e hx
      exact ⟨o',(hs.2 b (Nat.ne_of_lt (Nat.lt_of_lt_of_le (Heap.lt_size e) I.ok.above))).trans e1⟩
    · by_cases hj:j=i
      · subst hj
        rw [hi] at e1; cases e1
        rw [List.getElem?_set_self hiσ] at e2
        cases e2
        exact ⟨u,r,.inl ⟨hk,by simp⟩⟩
      · rw [List.getElem?_set_ne (Ne.symm hj)] at e2
        obtain ⟨u',r',q⟩:=hl j y v' e1 e2 e3
        refine ⟨u',r', ?_⟩
        rcases q with ⟨k,e⟩ | ⟨k,c,e,z⟩
        · refine .inl ⟨k, ?_⟩
          have:y≠x:=fun e=>hj (nodup_ix hN e1 (e ▸ hi))
          simp [this,e]
        · exact .inr ⟨k,c,e,z.sameBut hs (cne y c e)⟩
    · obtain ⟨w',z⟩:=I.cell y c e
      exact ⟨w',z.sameBut hs (cne y c e)⟩
    · obtain ⟨e,n,ne,nf,d⟩:=I.pin p hp
      exact ⟨(hs.2 p.1 ne).trans e,n,ne,nf,d⟩
  · have hfn:X.fn x=true:=by
      rcases hf with z | z
      · exact z
      · rw [z] at hk; cases hk
    obtain ⟨c,hc⟩:=I.ok.has x (.inl hk)
    obtain ⟨w',z⟩:=I.cell x c hc
    refine wpAny_storeName_cell I.ok.kind hk hc z (fun h' hc' hs=>?_)
    obtain ⟨oc,hoc,hocd⟩:=id z
    refine h { s with heap:=h' } ⟨I.ok,I.os,I.bare,⟨fun b o e n hb hx=>?_,fun b o e n hb hx=>?_,I.base.free,fun b o e hx=>?_,I.base.tups,I.base.frzs,I.base.tbls⟩,⟨m,hn.sameBut hs (Ne.symm (cne x c hc)),fun j y v' e1 e2 e3=>?_⟩,fun y c' e=>?_,I.free,I.freeC,fun p hp=>?_,tracked ⟨oc,hoc,I.freeC x c hc⟩ hs,by simpa using I.len⟩ ⟨c,hs,.inr hc⟩
    · exact (hs.2 b (Nat.ne_of_lt (Nat.lt_of_lt_of_le (Heap.lt_size e) (I.ok.cab x c hfn hc)))).trans (I.base.keep b o e n hb hx)
    · obtain ⟨sl,e1⟩:=I.base.slot b o e n hb hx
      exact ⟨sl,(hs.2 b (Nat.ne_of_lt (Nat.lt_of_lt_of_le (Heap.lt_size e) (I.ok.cab x c hfn hc)))).trans e1⟩
    · obtain ⟨o',e1⟩:=I.base.there b o e hx
      exact ⟨o',(hs.2 b (Nat.ne_of_lt (Nat.lt_of_lt_of_le (Heap.lt_size e) (I.ok.cab x c hfn hc)))).trans e1⟩
    · by_cases hj:j=i
      · subst hj
        rw [hi] at e1; cases e1
        rw [List.getElem?_set_self hiσ] at e2
        cases e2
        exact ⟨u,r,.inr ⟨.inl hk,c,hc,hc'⟩⟩
      · rw [List.getElem?_set_ne (Ne.symm hj)] at e2
        obtain ⟨u',r',q⟩:=hl j y v' e1 e2 e3
        refine ⟨u',r', ?_⟩
        rcases q with q | ⟨k,c',e,z'⟩
        · exact .inl q
        · refine .inr ⟨k,c',e,z'.sameBut hs ?_⟩
          rintro rfl
          exact hj (nodup_ix hN e1 (I.ok.inj _ _ _ e hc ▸ hi))
    · by_cases hcc:c'=c
      · subst hcc; exact ⟨_,hc'⟩
      · obtain ⟨w2,z2⟩:=I.cell y c' e
        exact ⟨w2,z2.sameBut hs hcc⟩
    · obtain ⟨e,n,ne,nf,d⟩:=I.pin p hp
      refine ⟨(hs.2 p.1 ?_).trans e,n,ne,nf,d⟩
      intro q
      rw [q,hoc] at e
      have q':oc=p.2:=Option.some.inj e
      exact d w' (by rw [← q']; exact hocd)
theorem store_ok {M:Model} {A:Around} {E:Value→Shared→Prop} {i:Nat} {x:Str} {v:V} {u:Value} {Q:Unit→Shared→Prop} (I:Inv X pins σ H s) (hN:X.N.Nodup) (hi:X.N[i]?=some x) (hx:Loc X.env.scope x) (r:RelV v u)
    (h:∀ s',Inv X pins (σ.set i (some v)) H s'→Q () s') (hf:X.fn x=true ∨ X.env.scope.names.lookup x=some .local):wpAny M A (storeName X.env x u) Q E s :=
  store_ok2 I hN hi hx r (fun s' I' _=>h s' I') hf
theorem Inv.call' {s':Shared} {ch:List Addr} (I:Inv X pins σ H s) (ho:s'.os=s.os) (u:Un (frs X.stack) ch H H' s.heap s'.heap) (hok:HOk X.prog X.w H' s'.heap) (hg:AllBare s'.gens)
    (hch:∀ b∈ch,(b∈X.ex ∨ X.s₀.heap.objs.size≤b)∧b≠X.env.locals∧(∀ x c,X.env.cells.lookup x=some c→c≠b)∧∀ p∈X.pn ++ pins,p.1≠b):Inv X pins σ H' s':=by
  obtain ⟨h',g',d',t',o'⟩:=s'
  have e:o'=s.os:=ho
  subst e
  exact I.call (g':=g') (t':=t') (d':=d') u hok hg hch
end
noncomputable abbrev XK:=Value→Option Addr→Hp→Prop
noncomputable abbrev St:=List (Option V)
noncomputable abbrev VK:=V→Hp→Prop
noncomputable abbrev TE:=St→Hp→VK→Prop
noncomputable abbrev TT:=St→Hp→(Bool→Hp→Prop)→Prop
noncomputable abbrev TA:=St→Hp→(List V→Hp→Prop)→Prop
structure Ends where
  nx:St→Hp→Prop
  rt:VK
  bk:St→Hp→Prop:=fun _ _=>False
  ct:St→Hp→Prop:=fun _ _=>False
noncomputable abbrev TS:=Ends→St→Hp→Prop
noncomputable def EP (X:Cx) (pins:List (Addr × Obj)) (σ:St) (Q:VK) (u:Value) (s':Shared):Prop:=∃ v H',Inv X pins σ H' s'∧RelV v u∧Q v H'
noncomputable def TP (X:Cx) (pins:List (Addr × Obj)) (σ:St) (Q:Bool→Hp→Prop) (b:Bool) (s':Shared):Prop:=∃ H',Inv X pins σ H' s'∧Q b H'
noncomputable def AP (X:Cx) (pins:List (Addr × Obj)) (σ:St) (Q:List V→Hp→Prop) (us:List Value) (s':Shared):Prop:=∃ vs H',Inv X pins σ H' s'∧Vals vs us∧Q vs H'
noncomputable def SP (X:Cx) (pins:List (Addr × Obj)) (D:Ends) (f:Flow) (s':Shared):Prop :=
  match f with
  | .next=>∃ σ' H',Inv X pins σ' H' s'∧D.nx σ' H'
  | .brk=>∃ σ' H',Inv X pins σ' H' s'∧D.bk σ' H'
  | .cont=>∃ σ' H',Inv X pins σ' H' s'∧D.ct σ' H'
  | .ret u=>∃ v σ' H',Inv X pins σ' H' s'∧RelV v u∧D.rt v H'
noncomputable def PE (X:Cx) (e:Expr) (t:TE):Prop :=
  ∀ (pins:List (Addr × Obj)) (s:Shared) (σ:St) (H:Hp) (Q:VK),Inv X pins σ H s→t σ H Q→wpAny (model X.prog X.w) X.A (eval e X.env) (EP X pins σ Q) X.xe s
noncomputable def PT (X:Cx) (e:Expr) (t:TT):Prop :=
  ∀ (pins:List (Addr × Obj)) (s:Shared) (σ:St) (H:Hp) (Q:Bool→Hp→Prop),Inv X pins σ H s→t σ H Q→wpAny (model X.prog X.w) X.A (isTrue e X.env (eval e X.env)) (TP X pins σ Q) X.xe s
noncomputable def PW (X:Cx) (e:Expr) (t:TT):Prop :=
  ∀ (whole:Sem Value) (pins:List (Addr × Obj)) (s:Shared) (σ:St) (H:Hp) (Q:Bool→Hp→Prop),Inv X pins σ H s→t σ H Q→wpAny (model X.prog X.w) X.A (isTrue e X.env whole) (TP X pins σ Q) X.xe s
theorem PW.pt {X:Cx} {e:Expr} {t:TT} (h:PW X e t):PT X e t:=h _
noncomputable def PA (X:Cx) (es:List Expr) (t:TA):Prop :=
  ∀ (pos:Pos) (pins:List (Addr × Obj)) (s:Shared) (σ:St) (H:Hp) (Q:List V→Hp→Prop),Inv X pins σ H s→t σ H Q→wpAny (model X.prog X.w) X.A (spliced (backTo pos (starEach es X.env))) (AP X pins σ Q) X.xe s
noncomputable def PS (X:Cx) (st:Stmt) (t:TS):Prop :=
  ∀ (pins:List (Addr × Obj)) (s:Shared) (σ:St) (H:Hp) (D:Ends),Inv X pins σ H s→t D σ H→wpAny (model X.prog X.w) X.A (exec st X.env) (SP X pins D) X.xe s
noncomputable def PSs (X:Cx) (st:List Stmt) (t:TS):Prop :=
  ∀ (pins:List (Addr × Obj)) (s:Shared) (σ:St) (H:Hp) (D:Ends),Inv X pins σ H s→t D σ H→wpAny (model X.prog X.w) X.A (execs st X.env) (SP X pins D) X.xe s
theorem thn {α:Type} {t:Sem α} {Q Q':α→Shared→Prop} {M:Model} {A:Around} {E:Value→Shared→Prop} {s:Shared} (h:wpAny M A t Q E s) (hQ:∀ a s,Q a s→Q' a s):wpAny M A t Q' E s:=wpAny_mono h hQ fun _ _ x=>x
end L2
namespace L2
open PySem PySem.Spec PyProof.Rows
section
variable {X:Cx}
noncomputable def tVar (i:Nat):TE:=fun σ H Q=>∃ v,σ[i]?=some (some v)∧Q v H
noncomputable def tC (v:V):TE:=fun _ H Q=>Q v H
theorem pe_var {i:Nat} {x:Str} {pos:Pos} (hN:X.N[i]?=some x) (hv:Vis X.env.scope x) (hd:(x == ("__debug__":Str))=false:=by decide) (hcd:(x == ("__classdict__":Str))=false:=by decide):PE X (.Name x pos) (tVar i):=by
  intro pins s σ H Q I h
  obtain ⟨v,e,h⟩:=h
  obtain ⟨m,hn,hl⟩:=I.loc
  obtain ⟨u,r,l⟩:=hl i x v hN e hv
  have fin:EP X pins σ Q u s:=⟨v,H,I,r,h⟩
  rcases l with ⟨hk,hm⟩ | ⟨hk,c,hc,hcell⟩
  · exact wpAny_Name (wpAny_loadName_local I.ok.kind hk hn hm fin) hd
  · rcases hk with hk | hk
    · exact wpAny_Name (wpAny_loadName_cell I.ok.kind hk hc hcell fin) hd
    · exact wpAny_Name (wpAny_loadName_free I.ok.kind hk hc hcell fin hcd) hd
theorem pe_int {i j pos}:PE X (.Constant (.int i) j pos) (tC (.int i)):=fun _ _ _ H _ I h=>wpAny_Constant_int ⟨.int i,H,I.tok _,⟨_,rfl⟩,h⟩
theorem pe_bl {b j pos}:PE X (.Constant (.bool b) j pos) (tC (.bl b)):=fun _ _ _ H _ I h=>Constant_bool ⟨.bl b,H,I,rfl,h⟩
theorem pe_non {j pos}:PE X (.Constant .none j pos) (tC .non):=fun _ _ _ H _ I h=>Constant_none ⟨.non,H,I,rfl,h⟩
theorem pe_str {x j pos}:PE X (.Constant (.str x) j pos) (tC (.str x)):=fun _ _ _ H _ I h=>Calls.Constant_str ⟨.str x,H,I.tok _,⟨_,rfl⟩,h⟩
noncomputable def Gl (X:Cx) (x:Str):Prop:=X.env.kindOf x=some .globalImplicit
theorem ld_glob {E:Value→Shared→Prop} {pins:List (Addr × Obj)} {s:Shared} {σ:St} {H:Hp} {x:Str} {u:Value} {pos:Pos} {Q:Value→Shared→Prop} (I:Inv X pins σ H s) (hg:Gl X x) (hm:X.mg x=some u) (h:Q u s)
    (hd:(x == ("__debug__":Str))=false:=by decide):wpAny (model X.prog X.w) X.A (eval (.Name x pos) X.env) Q E s :=
  Calls.Name_function_global I.ok.kind hg (Calls.loadGlobal_global (by rw [I.ok.glob]; exact I.mod.glob.keeps I.bk) hm h) hd
theorem ld_blt {E:Value→Shared→Prop} {pins:List (Addr × Obj)} {s:Shared} {σ:St} {H:Hp} {x:Str} {u:Value} {pos:Pos} {Q:Value→Shared→Prop} (I:Inv X pins σ H s) (hg:Gl X x) (hm:X.mg x=none) (hv:bootBuiltins x=some u) (h:Q u s)
    (hn:x ≠ "__name__":=by decide) (hd:(x == ("__debug__":Str))=false:=by decide):wpAny (model X.prog X.w) X.A (eval (.Name x pos) X.env) Q E s:=by
  obtain ⟨mb,h1,h2⟩:=I.mod.blt
  exact Calls.Name_function_global I.ok.kind hg (Calls.loadGlobal_builtin (by rw [I.ok.glob]; exact I.mod.glob.keeps I.bk) hm (by rw [I.ok.blt]; exact h1.keeps I.bk) ((h2 x hn).trans hv) h) hd
theorem pe_glob {x:Str} {v:V} {u:Value} {pos:Pos} (hg:Gl X x) (hm:X.mg x=some u) (r:RelV v u) (hd:(x == ("__debug__":Str))=false:=by decide):PE X (.Name x pos) (tC v) :=
  fun _ _ _ H _ I h=>ld_glob I hg hm ⟨v,H,I,r,h⟩ hd
theorem pe_bltn {x:Str} {v:V} {u:Value} {pos:Pos} (hg:Gl X x) (hm:X.mg x=none) (hv:bootBuiltins x=some u) (r:RelV v u) (hn:x ≠ "__name__":=by decide) (hd:(x == ("__debug__":Str))=false:=by decide):PE X (.Name x pos) (tC v) :=
  fun _ _ _ H _ I h=>ld_blt I hg hm hv ⟨v,H,I,r,h⟩ hn hd
variable {a b:Expr} {ta tb:TE} {pos:Pos}
noncomputable def PC (X:Cx) (op:CmpOp) (a b:Expr) (t:TE):Prop :=
  ∀ (pins:List (Addr × Obj)) (s:Shared) (σ:St) (H:Hp) (Q:VK),Inv X pins σ H s→t σ H Q →
    wpAny (model X.prog X.w) X.A (eval a X.env) (fun v s₁=>wpAny (model X.prog X.w) X.A (eval b X.env) (fun u s₂=>wpAny (model X.prog X.w) X.A (compareOp op v u) (EP X pins σ Q) X.xe s₂) X.xe s₁) X.xe s
theorem nobehind (b:Expr) {op:CmpOp} (h:op≠.In) (h2:op≠.NotIn):behindInMarks op b=false:=by
  have e1:(op == CmpOp.In)=false:=by cases op <;> first | rfl | exact absurd rfl h
  have e2:(op == CmpOp.NotIn)=false:=by cases op <;> first | rfl | exact absurd rfl h2
  cases b <;> simp [behindInMarks,e1,e2]
noncomputable def tB (t:TE):TT:=fun σ H Q=>t σ H fun x H1=>∃ c,x=.bl c∧Q c H1
theorem pt_cmp {op:CmpOp} {t:TE} (h:PC X op a b t) (h1:behindInMarks op b=false:=by first | exact nobehind _ (by decide) (by decide) | rfl):PT X (.Compare a [op] [b] pos) (tB t):=by
  intro pins s σ H Q I hw
  refine wpAny_isTrue_Compare1 (thn (h pins s σ H _ I hw) fun v s1 h1=>thn h1 fun u s2 h2=>thn h2 fun c s3 ⟨x,H1,I1,r1,q1⟩=>?_) h1
  obtain ⟨d,rfl,q⟩:=q1
  cases r1
  exact wpAny_truthy_bool ⟨H1,I1,q⟩
theorem pt_val {e:Expr} {t:TE} (h:PE X e t) (he:∀ whole,isTrue e X.env whole=(do let v ← whole; standAt e.pos; holding [v] (truthy v)):=by exact fun _=>rfl):PT X e (tB t):=by
  intro pins s σ H Q I hw
  refine isTrue_plain (thn (h pins s σ H _ I hw) fun v s1 ⟨x,H1,I1,r1,q1⟩=>?_) (he _)
  obtain ⟨d,rfl,q⟩:=q1
  cases r1
  exact wpAny_truthy_bool ⟨H1,I1,q⟩
variable {tA tB':TT} {rest:List Expr}
noncomputable def tAnd (t u:TT):TT:=fun σ H Q=>t σ H fun c H1=>if c=true then u σ H1 Q else Q false H1
noncomputable def tOr (t u:TT):TT:=fun σ H Q=>t σ H fun c H1=>if c=true then Q true H1 else u σ H1 Q
noncomputable def tNot (t:TT):TT:=fun σ H Q=>t σ H fun c H1=>Q (!c) H1
theorem pw_and1 (ha:PT X a tA):PW X (.BoolOp .And [a] pos) tA:=by
  intro wh pins s σ H Q I h
  refine isTrue_and (thn (ha pins s σ H Q I h) fun c s1 e=>?_)
  cases c with
  | true=>exact isTrue_and_nil e
  | false=>exact e
theorem pw_or1 (ha:PT X a tA):PW X (.BoolOp .Or [a] pos) tA:=by
  intro wh pins s σ H Q I h
  refine isTrue_or (thn (ha pins s σ H Q I h) fun c s1 e=>?_)
  cases c with
  | false=>exact isTrue_or_nil e
  | true=>exact e
theorem pw_and (ha:PT X a tA) (hb:PW X (.BoolOp .And (b :: rest) pos) tB'):PW X (.BoolOp .And (a :: b :: rest) pos) (tAnd tA tB'):=by
  intro wh pins s σ H Q I h
  refine isTrue_and (thn (ha pins s σ H _ I h) fun c s1 ⟨H1,I1,q1⟩=>?_)
  cases c with
  | true=>exact hb wh pins s1 σ H1 Q I1 q1
  | false=>exact ⟨H1,I1,q1⟩
theorem pw_or (ha:PT X a tA) (hb:PW X (.BoolOp .Or (b :: rest) pos) tB'):PW X (.BoolOp .Or (a :: b :: rest) pos) (tOr tA tB'):=by
  intro wh pins s σ H Q I h
  refine isTrue_or (thn (ha pins s σ H _ I h) fun c s1 ⟨H1,I1,q1⟩=>?_)
  cases c with
  | true=>exact ⟨H1,I1,q1⟩
  | false=>exact hb wh pins s1 σ H1 Q I1 q1
theorem pt_not (ha:PT X a tA):PT X (.UnaryOp .Not a pos) (tNot tA):=by
  intro pins s σ H Q I h
  exact isTrue_not (ha pins s σ H (fun c H1=>Q (!c) H1) I h)
noncomputable def tAndV (ta tb:TE):TE:=fun σ H Q=>ta σ H fun x H1=>∃ c,x=.bl c∧if c=true then tb σ H1 Q else Q (.bl false) H1
noncomputable def tOrV (ta tb:TE):TE:=fun σ H Q=>ta σ H fun x H1=>∃ c,x=.bl c∧if c=true then Q (.bl true) H1 else tb σ H1 Q
noncomputable def tNotV (ta:TE):TE:=fun σ H Q=>ta σ H fun x H1=>∃ c,x=.bl c∧Q (.bl (!c)) H1
theorem pe_one {op} {t:TE} (h:PE X a t):PE X (.BoolOp op [a] pos) t:=fun pins s σ H Q I hw=>BoolOp_one (h pins s σ H Q I hw)
theorem pe_and (ha:PE X a ta) (hb:PE X (.BoolOp .And (b :: rest) pos) tb):PE X (.BoolOp .And (a :: b :: rest) pos) (tAndV ta tb):=by
  intro pins s σ H Q I h
  refine BoolOp_and (thn (ha pins s σ H _ I h) fun v s1 ⟨x,H1,I1,r1,q1⟩=>?_)
  obtain ⟨c,rfl,q1⟩:=q1
  cases r1
  refine wpAny_truthy_bool ?_
  cases c with
  | true=>exact hb pins s1 σ H1 Q I1 q1
  | false=>exact ⟨.bl false,H1,I1,rfl,q1⟩
theorem pe_or (ha:PE X a ta) (hb:PE X (.BoolOp .Or (b :: rest) pos) tb):PE X (.BoolOp .Or (a :: b :: rest) pos) (tOrV ta tb):=by
  intro pins s σ H Q I h
  refine BoolOp_or (thn (ha pins s σ H _ I h) fun v s1 ⟨x,H1,I1,r1,q1⟩=>?_)
  obtain ⟨c,rfl,q1⟩:=q1
  cases r1
  refine wpAny_truthy_bool ?_
  cases c with
  | false=>exact hb pins s1 σ H1 Q I1 q1
  | true=>exact ⟨.bl true,H1,I1,rfl,q1⟩
theorem pe_not (ha:PE X a ta):PE X (.UnaryOp .Not a pos) (tNotV ta):=by
  intro pins s σ H Q I h
  refine UnaryOp_ (thn (ha pins s σ H _ I h) fun v s1 ⟨x,H1,I1,r1,q1⟩=>?_)
  obtain ⟨c,rfl,q1⟩:=q1
  cases r1
  exact not_of (wpAny_truthy_bool ⟨.bl (!c),H1,I1,rfl,q1⟩)
end
end L2
namespace L2
open PySem PySem.Spec PyProof.Rows
noncomputable def SqL (K:PySem.W.Frag) (H:Hp) (a:Addr) (xs:List V):Prop :=
  Rd H a (.lst xs) ∨
    ∃ (o:Obj) (its:Array Value) (n:Nat),K.lookup a=some o∧o.cls=.type "list"∧o.dict=none∧o.data=.seq its n∧its.size≤sizeLine∧Vals xs its.toList
noncomputable def SqT (K:PySem.W.Frag) (H:Hp) (a:Addr) (xs:List V):Prop :=
  Rd H a (.tup xs) ∨
    ∃ (o:Obj) (its:Array Value) (n:Nat),K.lookup a=some o∧o.cls=.type "tuple"∧o.data=.seq its n∧its.size≤sizeLine∧Vals xs its.toList
noncomputable def absV:Value→Option V
  | .none=>some .non
  | .bool b=>some (.bl b)
  | .int i _=>some (.int i)
  | .str x _=>some (.str x)
  | .bytes b _=>some (.byt b)
  | .float b _=>some (.flt b)
  | .ref a=>some (.ref a)
  | .type n=>some (.ty n)
  | _=>none
theorem RelV.abs {x:V} {u:Value} (r:RelV x u):absV u=some x:=by
  cases x with
  | non=>cases r; rfl
  | bl _=>cases r; rfl
  | int _=>obtain ⟨t,rfl⟩:=r; rfl
  | str _=>obtain ⟨t,rfl⟩:=r; rfl
  | byt _=>obtain ⟨t,rfl⟩:=r; rfl
  | flt _=>obtain ⟨t,rfl⟩:=r; rfl
  | ref _=>cases r; rfl
  | ty _=>cases r; rfl
theorem RelV.inj {x y:V} {u:Value} (r:RelV x u) (q:RelV y u):x=y:=Option.some.inj (r.abs.symm.trans q.abs)
theorem Vals.inj:∀ {xs ys:List V} {us:List Value},Vals xs us→Vals ys us→xs=ys
  | _,_,_,.nil,.nil=>rfl
  | _,_,_,.cons r t,.cons r' t'=>by rw [r.inj r',Vals.inj t t']
section
variable {X:Cx} {pins:List (Addr × Obj)} {σ:St} {H:Hp} {s:Shared} {a:Addr} {xs ys:List V}
theorem SqL.of {K:PySem.W.Frag} (h:H a=some (.lst xs)):SqL K H a xs:=.inl (.inl h)
theorem Inv.list (I:Inv X pins σ H s) (h:SqL X.K H a xs):∃ its:List Value,Vals xs its∧PlainL s.heap a its.toArray∧xs.length≤sizeLine:=by
  rcases h with h | ⟨o,its,n,hk,hc,hd,hs,hz,r⟩
  · obtain ⟨z,its,n,r,e⟩:=h.ok I.hok
    exact ⟨its,r,⟨_,n,e,rfl,rfl,rfl⟩,z⟩
  · refine ⟨its.toList,r,⟨o,n,I.kIn a o hk,hc,hd,by simpa using hs⟩, ?_⟩
    have e:=r.length
    simp only [Array.length_toList] at e
    omega
theorem Inv.tuple (I:Inv X pins σ H s) (h:SqT X.K H a xs):∃ its:List Value,Vals xs its∧IsTup s.heap a its.toArray∧xs.length≤sizeLine:=by
  rcases h with h | ⟨o,its,n,hk,hc,hs,hz,r⟩
  · obtain ⟨z,its,r,p⟩:=h.ok I.hok
    exact ⟨its,r,p,z⟩
  · refine ⟨its.toList,r,⟨o,I.kIn a o hk,hc,n,by simpa using hs⟩, ?_⟩
    have e:=r.length
    simp only [Array.length_toList] at e
    omega
theorem Inv.list_inj (I:Inv X pins σ H s) (h:SqL X.K H a xs) (h':SqL X.K H a ys):xs=ys:=by
  obtain ⟨its,r,⟨o,n,e,_,_,d⟩,_⟩:=I.list h
  obtain ⟨its',r',⟨o',n',e',_,_,d'⟩,_⟩:=I.list h'
  rw [e] at e'; cases e'
  rw [d] at d'
  injection d' with d1 _
  have:its=its':=by simpa using congrArg Array.toList d1
  subst this
  exact r.inj r'
end
noncomputable abbrev Cx.wish (X:Cx) (E:Value→Shared→Prop):Cx:={ X with xe:=E }
noncomputable abbrev Cx.nox (X:Cx):Cx:=X.wish fun _ _=>False
theorem Cx.Ok.wish {X:Cx} (ok:X.Ok) (E:Value→Shared→Prop):(X.wish E).Ok :=
  ⟨ok.mod,ok.kind,ok.glob,ok.blt,ok.above,ok.inj,ok.has,ok.cab,ok.hd,ok.frames,ok.stk,ok.exf,ok.bs,ok.bsz,ok.noex,ok.exfs,ok.funs,ok.frf⟩
theorem Cx.Ok.unwish {X:Cx} {E:Value→Shared→Prop} (ok:(X.wish E).Ok):X.Ok :=
  ⟨ok.mod,ok.kind,ok.glob,ok.blt,ok.above,ok.inj,ok.has,ok.cab,ok.hd,ok.frames,ok.stk,ok.exf,ok.bs,ok.bsz,ok.noex,ok.exfs,ok.funs,ok.frf⟩
section
variable {X:Cx} {pins:List (Addr × Obj)} {σ:St} {H:Hp} {s:Shared} {E:Value→Shared→Prop}
theorem Inv.wish (I:Inv X pins σ H s) (E:Value→Shared→Prop):Inv (X.wish E) pins σ H s:=⟨I.ok.wish E,I.os,I.bare,I.base,I.loc,I.cell,I.free,I.freeC,I.pin,I.hok,I.len⟩
theorem Inv.unwish (I:Inv (X.wish E) pins σ H s):Inv X pins σ H s:=⟨I.ok.unwish,I.os,I.bare,I.base,I.loc,I.cell,I.free,I.freeC,I.pin,I.hok,I.len⟩
theorem SP.unwish {D:Ends} {f:Flow} {s':Shared} (h:SP (X.wish E) pins D f s'):SP X pins D f s':=by
  cases f with
  | next=>obtain ⟨σ',H',I,q⟩:=h; exact ⟨σ',H',I.unwish,q⟩
  | brk=>obtain ⟨σ',H',I,q⟩:=h; exact ⟨σ',H',I.unwish,q⟩
  | cont=>obtain ⟨σ',H',I,q⟩:=h; exact ⟨σ',H',I.unwish,q⟩
  | ret u=>obtain ⟨v,σ',H',I,r,q⟩:=h; exact ⟨v,σ',H',I.unwish,r,q⟩
theorem PSs.nox {st:List Stmt} {t:TS} (h:PSs X.nox st t):PSs X st t:=fun pins s σ H D I hw =>
  wpAny_mono (h pins s σ H D (I.wish _) hw) (fun _ _ q=>q.unwish) fun _ _ z=>False.elim z
end
section
variable {X:Cx} {st:Stmt} {rest:List Stmt} {t u:TS} {e:Expr} {te:TE} {pos:Pos}
noncomputable def tNext:TS:=fun D σ H=>D.nx σ H
noncomputable def tSeq (t u:TS):TS:=fun D σ H=>t { D with nx:=u D } σ H
theorem pss_nil:PSs X [] tNext:=fun _ _ σ H _ I h=>wpAny_execs_nil ⟨σ,H,I,h⟩
theorem pss_cons (h1:PS X st t) (h2:PSs X rest u):PSs X (st :: rest) (tSeq t u):=by
  intro pins s σ H D I h
  refine wpAny_execs_cons (thn (h1 pins s σ H { D with nx:=u D } I h) fun f s1 q=>?_)
  cases f with
  | next =>
    obtain ⟨σ',H',I',q⟩:=q
    exact h2 pins s1 σ' H' D I' q
  | ret v=>exact q
  | brk=>exact q
  | cont=>exact q
theorem pss_one (h1:PS X st t):PSs X [st] t:=by
  intro pins s σ H D I h
  refine wpAny_execs_cons (thn (h1 pins s σ H D I h) fun f s1 q=>?_)
  cases f with
  | next=>exact wpAny_execs_nil q
  | ret v=>exact q
  | brk=>exact q
  | cont=>exact q
theorem Inv.quiet {pins:List (Addr × Obj)} {σ:St} {H:Hp} {s:Shared} (I:Inv X pins σ H s):interactive X.env=false:=by simp [interactive,I.ok.kind]
noncomputable def tDrop (te:TE):TS:=fun D σ H=>te σ H fun _ H1=>D.nx σ H1
theorem ps_expr (he:PE X e te) (hs:swapsWith e none pos.line X.env=pure false:=by rfl):PS X (.Expr e pos) (tDrop te):=by
  intro pins s σ H D I h
  exact wpAny_Expr_any (thn (he pins s σ H _ I h) fun v s1 ⟨x,H1,I1,r1,q1⟩=>⟨σ,H1,I1,q1⟩) I.quiet hs
noncomputable def tRet (te:TE):TS:=fun D σ H=>te σ H D.rt
theorem ps_ret (he:PE X e te):PS X (.Return (some e) pos) (tRet te):=by
  intro pins s σ H D I h
  exact wpAny_Return_some (thn (he pins s σ H _ I h) fun v s1 ⟨x,H1,I1,r1,q1⟩=>⟨x,σ,H1,I1,r1,q1⟩)
noncomputable def tIfS (c:TT) (t u:TS):TS:=fun D σ H=>c σ H fun b H1=>if b=true then t D σ H1 else u D σ H1
theorem ps_if {c:Expr} {a b:List Stmt} {tc:TT} (hc:PT X c tc) (ha:PSs X a t) (hb:PSs X b u):PS X (.If c a b pos) (tIfS tc t u):=by
  intro pins s σ H D I h
  refine wpAny_If (thn (hc pins s σ H _ I h) fun d s1 ⟨H1,I1,q1⟩=>?_)
  cases d with
  | true=>exact ha pins s1 σ H1 D I1 q1
  | false=>exact hb pins s1 σ H1 D I1 q1
noncomputable def tNever:TS:=fun _ _ _=>False
theorem pss_never {sts:List Stmt}:PSs X sts tNever:=fun _ _ _ _ _ _ h=>h.elim
end
noncomputable abbrev TG:=V→St→Hp→(St→Hp→Prop)→Prop
noncomputable def PG (X:Cx) (target:Expr) (t:TG):Prop :=
  ∀ (pins:List (Addr × Obj)) (s:Shared) (σ:St) (H:Hp) (v:V) (u:Value) (Q:St→Hp→Prop),Inv X pins σ H s→RelV v u→t v σ H Q →
    wpAny (model X.prog X.w) X.A (assign target X.env u) (fun _ s'=>∃ σ' H',Inv X pins σ' H' s'∧Q σ' H') X.xe s
noncomputable abbrev TSet:=V→V→V→Hp→(Hp→Prop)→Prop
noncomputable def PSet (X:Cx) (t:TSet):Prop :=
  ∀ (pins:List (Addr × Obj)) (s:Shared) (σ:St) (H:Hp) (o i v:V) (ov iv u:Value) (Q:Hp→Prop),Inv X pins σ H s→RelV o ov→RelV i iv→RelV v u→t o i v H Q →
    wpAny (model X.prog X.w) X.A (setItem ov iv u) (fun _ s'=>∃ H',Inv X pins σ H' s'∧Q H') X.xe s
section
variable {X:Cx} {pos:Pos}
noncomputable def gName (i:Nat):TG:=fun v σ H Q=>Q (σ.set i (some v)) H
theorem pg_name {i:Nat} {x:Str} (hN:X.N.Nodup) (hi:X.N[i]?=some x) (hx:Loc X.env.scope x) (hf:X.fn x=true ∨ X.env.scope.names.lookup x=some .local:=by first | exact .inl rfl | exact .inr rfl | assumption):PG X (.Name x pos) (gName i):=by
  intro pins s σ H v u Q I r h
  exact wpAny_assign_Name (store_ok I hN hi hx r (fun s' I'=>⟨_,H,I',h⟩) hf)
noncomputable def gSub (to ti:TE) (t:TSet):TG:=fun v σ H Q=>to σ H fun o H1=>ti σ H1 fun i H2=>t o i v H2 fun H3=>Q σ H3
theorem pg_sub {o i:Expr} {to ti:TE} {t:TSet} (ho:PE X o to) (hi:PE X i ti) (hs:PSet X t)
    (ha:∀ v,assign (.Subscript o i pos) X.env v=(do
      let ov ← holding [v] (eval o X.env)
      let iv ← holding [v,ov] (eval i X.env)
      standAt pos
      holding [v,ov,iv] (setItem ov iv v)
      release [v,ov,iv] []):=by exact fun _=>rfl):PG X (.Subscript o i pos) (gSub to ti t):=by
  intro pins s σ H v u Q I r h
  rw [ha]
  refine wpAny_bind (wpAny_holding (thn (ho pins s σ H _ I h) fun ov s1 ⟨x,H1,I1,r1,q1⟩=>?_))
  refine wpAny_bind (wpAny_holding (thn (hi pins s1 σ H1 _ I1 q1) fun iv s2 ⟨y,H2,I2,r2,q2⟩=>?_))
  refine wpAny_bind (wpAny_standAt (wpAny_bind (wpAny_holding (thn (hs pins s2 σ H2 x y v ov iv u _ I2 r1 r2 r q2) fun _ s3 ⟨H3,I3,q3⟩=>?_))))
  exact wpAny_release ⟨σ,H3,I3,q3⟩
noncomputable def tAsg (te:TE) (g:TG):TS:=fun D σ H=>te σ H fun x H1=>g x σ H1 D.nx
theorem ps_asg {tg e:Expr} {te:TE} {g:TG} (he:PE X e te) (hg:PG X tg g) (hs:swapsWithSole [tg] e pos.line X.env=pure false:=by rfl) (hw:swappedStores [tg] e X.env=pure none:=by rfl)
    (h1:(assignEach [tg] X.env).map (·.2)=[assign tg X.env]:=by rfl):PS X (.Assign [tg] e pos) (tAsg te g):=by
  intro pins s σ H D I h
  refine wpAny_Assign_stores (thn (he pins s σ H _ I h) fun v s1 ⟨x,H1,I1,r1,q1⟩=>?_) hs hw
  rw [h1]
  exact thn (hg pins s1 σ H1 x v _ I1 r1 q1) fun _ s2 q=>q
theorem ps_set {i:Nat} {x:Str} {e:Expr} {te:TE} {pos':Pos} (hN:X.N.Nodup) (hi:X.N[i]?=some x) (hx:Loc X.env.scope x) (he:PE X e te) (hs:swapsWith e (some (.Name x pos')) pos.line X.env=pure false:=by rfl) (hf:X.fn x=true ∨ X.env.scope.names.lookup x=some .local:=by first | exact .inl rfl | exact .inr rfl | assumption) :
    PS X (.Assign [.Name x pos'] e pos) (tAsg te (gName i)):=by
  intro pins s σ H D I h
  refine wpAny_Assign_Name (thn (he pins s σ H _ I h) fun v s1 ⟨y,H1,I1,r1,q1⟩=>?_) hs
  exact store_ok I1 hN hi hx r1 (fun s2 I2=>⟨_,H1,I2,q1⟩) hf
end
section
variable {X:Cx} {pos:Pos}
end
structure It where
  go:Nat→Hp→Prop
  yld:Nat→Hp→V→Hp→Prop
  stop:Nat→Hp→Prop
noncomputable def FpOk (X:Cx) (pins:List (Addr × Obj)) (H:Hp) (b:Addr):Prop :=
  H b=none∧b≠X.env.locals∧b ∉ X.fs∧(b∈X.ex ∨ X.s₀.heap.objs.size≤b)∧(∀ x c,X.env.cells.lookup x=some c→c≠b)∧∀ p∈X.pn ++ pins,p.1≠b
theorem Inv.fpOk {X:Cx} {pins:List (Addr × Obj)} {σ:St} {H H':Hp} {s:Shared} {b:Addr} (I:Inv X pins σ H s) (hb:s.heap.objs.size≤b) (hn:H' b=none):FpOk X pins H' b:=by
  refine ⟨hn,Nat.ne_of_gt (Nat.lt_of_lt_of_le I.lt hb),I.nofs hb,.inr (Nat.le_trans I.sz hb),fun x c e z=>?_,fun p hp z=>?_⟩
  · obtain ⟨v,q⟩:=I.cell x c e
    exact absurd (Nat.lt_of_lt_of_le q.lt (by rw [z]; exact hb)) (Nat.lt_irrefl _)
  · exact absurd (Nat.lt_of_lt_of_le (Heap.lt_size (I.pin p hp).1) (by rw [z]; exact hb)) (Nat.lt_irrefl _)
structure Turn (P:Program) (w:World) (K:PySem.W.Frag) (tg:Expr) (J:It) (fp:List Addr) (it:Addr) (tn:Nat→Heap→Prop):Prop where
  mem:it∈fp
  obj:∀ i h,tn i h→∀ b∈fp,∃ o,h.get? b=some o∧∀ v,o.data≠.cell v
  keep:∀ i h h',tn i h→(∀ b∈fp,∀ o,h.get? b=some o→h'.get? b=some o)→tn i h'
  item:∀ (X:Cx),X.prog=P→X.w=w→X.K=K→X.calm=true→∀ (i:Nat) (pins:List (Addr × Obj)) (s:Shared) (σ:St) (H:Hp) (E:Value→Shared→Prop),Inv X pins σ H s→(∀ b∈fp,FpOk X pins H b)→tn i s.heap→J.go i H →
    wpAny (model P w) X.A (pyNext (.ref it)) (fun r s1=>∃ u,r=some u ∧
      wpAny (model P w) X.A (letOwnedTupleGo tg (.ref it) u) (fun _ s2=>∃ x H',Inv X pins σ H' s2∧RelV x u∧J.yld i H x H'∧tn (i + 1) s2.heap∧∀ b∈fp,H' b=none) E s1) E s
  done:∀ (X:Cx),X.prog=P→X.w=w→X.K=K→X.calm=true→∀ (i:Nat) (pins:List (Addr × Obj)) (s:Shared) (σ:St) (H:Hp) (E:Value→Shared→Prop),Inv X pins σ H s→(∀ b∈fp,FpOk X pins H b)→tn i s.heap→J.stop i H →
    wpAny (model P w) X.A (pyNext (.ref it)) (fun r s1=>r=none∧Inv X pins σ H s1) E s
  self:∀ (A:Around) (i:Nat) (s:Shared) (Q:Value→Shared→Prop) (E:Value→Shared→Prop),tn i s.heap→Q (.ref it) s→wpAny (model P w) A (pyIter (.ref it)) Q E s
noncomputable abbrev TI:=St→Hp→(It→Hp→Prop)→Prop
noncomputable def PIE (X:Cx) (pins:List (Addr × Obj)) (σ:St) (tg:Expr) (R:It→Hp→Prop) (itv:Value) (s2:Shared):Prop :=
  ∃ (it:Addr) (fp:List Addr) (tn:Nat→Heap→Prop) (J:It) (H':Hp),itv=.ref it∧Inv X pins σ H' s2∧Turn X.prog X.w X.K tg J fp it tn∧tn 0 s2.heap∧(∀ b∈fp,FpOk X pins H' b)∧R J H'
noncomputable def PI (X:Cx) (tg iter:Expr) (wi:TI):Prop :=
  ∀ (pins:List (Addr × Obj)) (s:Shared) (σ:St) (H:Hp) (R:It→Hp→Prop),Inv X pins σ H s→wi σ H R →
    wpAny (model X.prog X.w) X.A (eval iter X.env) (fun v s1=>wpAny (model X.prog X.w) X.A (pyIter v) (PIE X pins σ tg R) X.xe s1) X.xe s
theorem go_of {M:Model} {A:Around} {E:Value→Shared→Prop} {s:Shared} {tg:Expr} {it:Addr} {u:Value} {o:Obj} {n:String} {vs:Array Value} {Q:Unit→Shared→Prop} (ho:s.heap.get? it=some o) (hc:o.cls=.type n) (hd:o.data=.fields vs)
    (hn:["enumerate", "zip", "dict_itemiterator", "dict_reverseitemiterator", "odict_iterator", "itertools.zip_longest", "itertools.pairwise"].contains n=false) (hQ:Q () s):wpAny M A (letOwnedTupleGo tg (.ref it) u) Q E s:=by
  unfold letOwnedTupleGo
  cases tg <;> first
    | exact wpAny_pure hQ
    | (cases u <;> first
        | exact wpAny_pure hQ
        | (refine wpAny_bind (wpAny_load ho ?_)
           rw [hc,hd]
           show wpAny M A (if (["enumerate", "zip", "dict_itemiterator", "dict_reverseitemiterator", "odict_iterator", "itertools.zip_longest", "itertools.pairwise"].contains n && vs[0]? == some (rawInt _))=true then _ else _) Q E s
           rw [if_neg (by intro h; rw [hn,Bool.false_and] at h; cases h)]
           exact wpAny_pure hQ))
noncomputable def Itl (K:PySem.W.Frag) (a:Addr):It :=
  ⟨fun i H=>∃ xs x,SqL K H a xs∧xs[i]?=some x,fun i H x H'=>H'=H∧∀ xs,SqL K H a xs→xs[i]?=some x,fun i H=>∃ xs,SqL K H a xs∧xs.length≤i⟩
noncomputable def Itr (lo:Int) (n:Nat):It:=⟨fun i _=>i < n,fun i H x H'=>H'=H∧x=.int (lo + i),fun i _=>n≤i⟩
theorem turn_list {P:Program} {w:World} {K:PySem.W.Frag} {tg:Expr} (a it:Addr):Turn P w K tg (Itl K a) [it] it (fun i h=>h.IsListIter it a i) where
  mem:=by simp
  obj:=fun i h st b hb=>by
    have e:b=it:=by simpa using hb
    subst e
    obtain ⟨o,e,c,d⟩:=st
    exact ⟨o,e,fun v z=>by rw [d] at z; cases z⟩
  keep:=fun i h h' st k=>st.at fun o e=>k it (by simp) o e
  item:=by
    intro X hP hw hK hc i pins s σ H E I hf st hg
    subst hP hw hK
    obtain ⟨xs,x,hq,hx⟩:=hg
    obtain ⟨its,rv,p,hz⟩:=I.list hq
    obtain ⟨u,hu,ru⟩:=rv.get hx
    obtain ⟨f0,f1,f2,f3,f4,f5⟩:=hf it (by simp)
    refine wpAny_pyNext_list_item st p.isList (x:=u) (by simpa using hu) fun h' st' sb=>?_
    have I1:Inv X pins σ H { s with heap:=h' }:=I.turned (t':=s.toks) (fun b o hb e=>(sb.2 b hb).trans e) f0 f1 f3 f4 f5
    obtain ⟨o,e,c,d⟩:=id st'
    exact ⟨u,rfl,go_of (s:={ s with heap:=h' }) e c d (by decide) ⟨x,H,I1,ru,⟨rfl,fun ys hy=>by rw [I.list_inj hy hq]; exact hx⟩,st',fun b hb=>(hf b hb).1⟩⟩
  done:=by
    intro X hP hw hK hc i pins s σ H E I hf st hg
    subst hP hw hK
    obtain ⟨xs,hq,hx⟩:=hg
    obtain ⟨its,rv,p,hz⟩:=I.list hq
    obtain ⟨f0,f1,f2,f3,f4,f5⟩:=hf it (by simp)
    have hl:=rv.length
    exact wpAny_pyNext_list_end (I.ok.hd hc) st p.isList (by simp; omega) fun h' eb=>⟨rfl,I.turned (t':=s.toks) (fun b o hb e=>eb b o hb e) f0 f1 f3 f4 f5⟩
  self:=fun _ _ _ _ _ st h=>wpAny_pyIter_listiter st h
theorem turn_range {P:Program} {w:World} {K:PySem.W.Frag} {tg:Expr} (it:Addr) (lo:Int) (n:Nat):Turn P w K tg (Itr lo n) [it] it (fun i h=>IsRangeIter h it (lo + (i:Nat) * 1) ((n:Int) - (i:Nat)) 1) where
  mem:=by simp
  obj:=fun i h st b hb=>by
    have e:b=it:=by simpa using hb
    subst e
    exact ⟨_,st,fun v z=>by
      have z':Data.fields _=Data.cell v:=z
      cases z'⟩
  keep:=fun i h h' st k=>k it (by simp) _ st
  item:=by
    intro X hP hw hK hc i pins s σ H E I hf st hg
    subst hP hw hK
    obtain ⟨f0,f1,f2,f3,f4,f5⟩:=hf it (by simp)
    have W:=Walks.range (prog:=X.prog) (w:=X.w) (I.ok.hd hc) it lo 1 n
    refine W.item i s _ _ hg st fun v h' tk hv st' kk=>?_
    obtain ⟨t,rfl⟩:=hv
    have I1:Inv X pins σ H { s with heap:=h',toks:=tk }:=I.turned (fun b o hb e=>kk b o (by simpa using hb) e) f0 f1 f3 f4 f5
    refine ⟨_,rfl,go_of (s:={ s with heap:=h',toks:=tk }) (n := "range_iterator") st' rfl rfl (by decide) ⟨.int (lo + i),H,I1,⟨t, ?_⟩,⟨rfl,rfl⟩,st',fun b hb=>(hf b hb).1⟩⟩
    rw [Int.mul_one]
  done:=by
    intro X hP hw hK hc i pins s σ H E I hf st hg
    subst hP hw hK
    obtain ⟨f0,f1,f2,f3,f4,f5⟩:=hf it (by simp)
    exact wpAny_pyNext_range_end (I.ok.hd hc) st (by have:n≤i:=hg; omega) fun h' eb=>⟨rfl,I.turned (t':=s.toks) (fun b o hb e=>eb b o hb e) f0 f1 f3 f4 f5⟩
  self:=fun _ _ _ _ _ st h=>wpAny_pyIter_rangeiter st h
end L2
namespace L2
open PySem PySem.Spec PyProof.Rows
section
variable {X:Cx} {tg:Expr}
noncomputable def iList (K:PySem.W.Frag) (tl:TE):TI:=fun σ H R=>tl σ H fun x H1=>∃ a,x=.ref a∧(∃ xs,SqL K H1 a xs)∧R (Itl K a) H1
theorem pi_list {l:Expr} {tl:TE} (hl:PE X l tl):PI X tg l (iList X.K tl):=by
  intro pins s σ H R I h
  refine thn (hl pins s σ H _ I h) fun v s1 ⟨x,H1,I1,r1,q1⟩=>?_
  obtain ⟨a,e,⟨xs,hq⟩,q⟩:=q1
  subst e
  cases r1
  obtain ⟨its,rv,p,hz⟩:=I1.list hq
  refine wpAny_pyIter_list p.isList ?_
  refine ⟨s1.heap.objs.size,[s1.heap.objs.size],_,_,H1,rfl,I1.kept (t':=s1.toks) fun b o e=>Heap.get?_push_of_some _ e,turn_list a _,⟨_,Heap.get?_push_size _ rfl,rfl,rfl⟩,fun b hb=>?_,q⟩
  have e:b=s1.heap.objs.size:=by simpa using hb
  subst e
  exact I1.fpOk (Nat.le_refl _) (I1.hok.fresh (Nat.le_refl _))
theorem range_it {pins:List (Addr × Obj)} {σ:St} {H:Hp} {s:Shared} {R:It→Hp→Prop} {E:Value→Shared→Prop} {lo hi:Int} {t u v:Tok} {tk:Nat} (I:Inv X pins σ H s) (h1:-(2 ^ 62)≤lo) (h2:lo < 2 ^ 62) (h3:-(2 ^ 62)≤hi) (h4:hi < 2 ^ 62)
    (q:R (Itr lo (hi - lo).toNat) H):wpAny (model X.prog X.w) X.A (pyIter (.ref s.heap.objs.size)) (PIE X pins σ tg R) E { s with heap:=s.heap.push { cls:=.type "range",data:=.fields #[.int lo t,.int hi u,.int 1 v] },toks:=tk }:=by
  refine wpAny_pyIter_range (IsRange.new ..) (small_one h1 h2 h3 h4) ?_
  have I1:Inv X pins σ H { s with heap:=s.heap.push { cls:=.type "range",data:=.fields #[.int lo t,.int hi u,.int 1 v] },toks:=tk }:=I.kept fun b o e=>Heap.get?_push_of_some _ e
  refine ⟨(s.heap.push { cls:=.type "range",data:=.fields #[.int lo t,.int hi u,.int 1 v] }).objs.size,[(s.heap.push { cls:=.type "range",data:=.fields #[.int lo t,.int hi u,.int 1 v] }).objs.size],_,_,H,rfl,
    I1.kept (t':=tk) fun b o e=>Heap.get?_push_of_some _ e,turn_range _ lo (hi - lo).toNat, ?_,fun b hb=>?_,q⟩
  · have e1:lo + ((0:Nat):Int) * 1=lo:=by simp
    have e2:(((hi - lo).toNat:Nat):Int) - ((0:Nat):Int)=Builtin.Range.rangeSize lo hi 1:=by rw [rangeSize_one]; split <;> omega
    show IsRangeIter _ _ (lo + ((0:Nat):Int) * 1) ((((hi - lo).toNat:Nat):Int) - ((0:Nat):Int)) 1
    rw [e1,e2]
    exact Heap.get?_push_size _ rfl
  · have e:b=(s.heap.push { cls:=.type "range",data:=.fields #[.int lo t,.int hi u,.int 1 v] }).objs.size:=by simpa using hb
    subst e
    exact I1.fpOk (Nat.le_refl _) (I1.hok.fresh (Nat.le_refl _))
noncomputable def iRng2 (ta:TA):TI:=fun σ H R=>ta σ H fun vs H1=>∃ i j:Int,vs=[.int i,.int j]∧(-(2 ^ 62)≤i∧i < 2 ^ 62∧-(2 ^ 62)≤j∧j < 2 ^ 62)∧R (Itr i (j - i).toNat) H1
theorem pi_range2 {a b:Expr} {ta:TA} {p pos:Pos} (hg:Gl X "range") (hm:X.mg "range"=none) (ha:PA X [a,b] ta) (hs:starEach [a,b] X.env=[(false,eval a X.env),(false,eval b X.env)]:=by rfl) (hs2:starEach [b] X.env=[(false,eval b X.env)]:=by rfl) :
    PI X tg (.Call (.Name "range" p) [a,b] [] pos) (iRng2 ta):=by
  intro pins s σ H R I h
  refine Call_ (ld_blt I hg hm boot_range (PyProof.Rows.callWith_type1 (thn (ha pos pins s σ H _ I h) fun us s1 ⟨vs,H1,I1,r1,q1⟩=>?_) (by rw [hs,hs2]) (by rw [hs2]; rfl)))
  obtain ⟨i,j,e,⟨q1,q2,q3,q4⟩,q⟩:=q1
  subst e
  cases r1 with
  | cons r rr =>
    cases rr with
    | cons r' rr =>
      cases rr
      obtain ⟨t,rfl⟩:=r
      obtain ⟨t',rfl⟩:=r'
      exact call_range_2 (range_it I1 q1 q2 q3 q4 q)
noncomputable def tFor (wi:TI) (g:TG) (tb:TS):TS:=fun D σ H=>wi σ H fun J H1=>∃ W:Nat→Nat→St→Hp→Prop,(∃ m,W 0 m σ H1)∧∀ i m σ H,W i m σ H →
  (J.stop i H∧D.nx σ H) ∨ (J.go i H∧∃ N:St→Hp→Prop,(∀ σ' H',N σ' H'→∃ m',m' < m∧W (i + 1) m' σ' H')∧∀ x H',J.yld i H x H'→g x σ H' fun σ2 H2=>tb { D with nx:=N,ct:=N,bk:=D.nx } σ2 H2)
noncomputable def pinsAt (fp:List Addr) (h:Heap):List (Addr × Obj):=fp.filterMap fun b=>(h.get? b).map fun o=>(b,o)
theorem mem_pinsAt {fp:List Addr} {h:Heap} {b:Addr} {o:Obj} (hb:b∈fp) (e:h.get? b=some o):(b,o)∈pinsAt fp h:=List.mem_filterMap.mpr ⟨b,hb,by rw [e]; rfl⟩
theorem of_pinsAt {fp:List Addr} {h:Heap} {p:Addr × Obj} (hp:p∈pinsAt fp h):p.1∈fp∧h.get? p.1=some p.2:=by
  obtain ⟨b,hb,e⟩:=List.mem_filterMap.mp hp
  cases q:h.get? b with
  | none=>rw [q] at e; cases e
  | some o =>
    rw [q] at e
    have e':(b,o)=p:=Option.some.inj e
    subst e'
    exact ⟨hb,q⟩
theorem Inv.pinned {pins:List (Addr × Obj)} {σ:St} {H:Hp} {s:Shared} {fp:List Addr} (I:Inv X pins σ H s) (hf:∀ b∈fp,FpOk X pins H b) (ho:∀ b∈fp,∃ o,s.heap.get? b=some o∧∀ v,o.data≠.cell v):Inv X (pins ++ pinsAt fp s.heap) σ H s :=
  I.pins_of fun p hp=>(List.mem_append.mp hp).elim (fun z=>I.pin p (List.mem_append_right _ z)) fun z=>by
    obtain ⟨hb,e⟩:=of_pinsAt z
    obtain ⟨f0,f1,f2,_⟩:=hf p.1 hb
    obtain ⟨o,e',d⟩:=ho p.1 hb
    rw [e] at e'; cases e'
    exact ⟨e,f0,f1,f2,d⟩
theorem Inv.unpinned {pins pl:List (Addr × Obj)} {σ:St} {H:Hp} {s:Shared} (I:Inv X (pins ++ pl) σ H s):Inv X pins σ H s:=I.pins_of fun p hp=>I.pin p (List.mem_append_right _ (List.mem_append_left _ hp))
theorem ps_for {iter:Expr} {body:List Stmt} {wi:TI} {g:TG} {tb:TS} {pos:Pos} (hp:PassesOwn (model X.prog X.w) X.A X.env X.xe) (hc:X.calm=true) (hi:PI X tg iter wi) (hg:PG X tg g) (hb:PSs X body tb)
    (hs:∀ x,foldedSetIterable iter X.env x=pure x:=by exact fun _=>rfl):PS X (.For tg iter body [] pos) (tFor wi g tb):=by
  intro pins s σ H D I h
  refine wpAny_For (thn (hi pins s σ H _ I h) fun v s1 h1=>thn h1 fun itv s2 h2=>?_) hs
  obtain ⟨it,fp,tn,J,H2,e,I2,T,st2,f2,W,⟨m0,w0⟩,turn⟩:=h2
  subst e
  have stat:∀ {H':Hp},(∀ b∈fp,H' b=none)→∀ b∈fp,FpOk X pins H' b:=fun hn b hb=>⟨hn b hb,(f2 b hb).2⟩
  refine codeAny_forLoop_any (fun n s'=>∃ i σ' H',Inv X pins σ' H' s'∧tn i s'.heap∧(∀ b∈fp,H' b=none)∧W i n σ' H') ?_ m0 ⟨0,σ,H2,I2,st2,fun b hb=>(f2 b hb).1,w0⟩
  rintro n s3 ⟨i,σ3,H3,I3,st3,fr3,w3⟩
  rcases turn i n σ3 H3 w3 with ⟨stop,qn⟩ | ⟨go,N,hN,step⟩
  · refine wpAny_passesOwn hp (thn (T.done X rfl rfl rfl hc i pins s3 σ3 H3 X.xe I3 (stat fr3) st3 stop) fun r s4 ⟨hr,I4⟩=>?_)
    subst hr
    exact wpAny_execs_nil ⟨σ3,H3,I4,qn⟩
  · refine wpAny_passesOwn hp (thn (T.item X rfl rfl rfl hc i pins s3 σ3 H3 X.xe I3 (stat fr3) st3 go) fun r s4 ⟨u,hr,h4⟩=>?_)
    subst hr
    refine wpAny_passesOwn hp (thn h4 fun _ s5 ⟨x,H5,I5,r5,y5,st5,fr5⟩=>?_)
    have I5':=I5.pinned (stat fr5) (T.obj _ _ st5)
    refine wpAny_passesOwn hp (thn (hg _ s5 σ3 H5 x u _ I5' r5 (step x H5 y5)) fun _ s6 ⟨σ6,H6,I6,q6⟩=>?_)
    refine wpAny_passesOwn hp (thn (hb _ s6 σ6 H6 _ I6 q6) fun f s7 q7=>?_)
    have again:∀ {σ7:St} {H7:Hp},Inv X (pins ++ pinsAt fp s5.heap) σ7 H7 s7→N σ7 H7→∃ m,m < n∧∃ i σ' H',Inv X pins σ' H' s7∧tn i s7.heap∧(∀ b∈fp,H' b=none)∧W i m σ' H':=fun {σ7 H7} I7 n7=>by
      obtain ⟨m',hm,w7⟩:=hN σ7 H7 n7
      refine ⟨m',hm,i + 1,σ7,H7,I7.unpinned,T.keep _ _ _ st5 fun b hb o e=>(I7.pin (b,o) (List.mem_append_right _ (List.mem_append_right _ (mem_pinsAt hb e)))).1,fun b hb=>?_,w7⟩
      obtain ⟨o,e,d⟩:=T.obj _ _ st5 b hb
      exact (I7.pin (b,o) (List.mem_append_right _ (List.mem_append_right _ (mem_pinsAt hb e)))).2.1
    cases f with
    | next=>obtain ⟨σ7,H7,I7,n7⟩:=q7; exact again I7 n7
    | cont=>obtain ⟨σ7,H7,I7,n7⟩:=q7; exact again I7 n7
    | brk=>obtain ⟨σ7,H7,I7,q7⟩:=q7; exact ⟨σ7,H7,I7.unpinned,q7⟩
    | ret v=>obtain ⟨x7,σ7,H7,I7,r7,q7⟩:=q7; exact ⟨x7,σ7,H7,I7.unpinned,r7,q7⟩
end
end L2
namespace L2
open PySem PySem.Spec PyProof.Rows
noncomputable abbrev R2:=V→V→Hp→VK→Prop
noncomputable def OpR (X:Cx) (f:Value→Value→Sem Value) (r:R2):Prop :=
  ∀ (pins:List (Addr × Obj)) (s:Shared) (σ:St) (H:Hp) (x y:V) (v u:Value) (Q:VK),Inv X pins σ H s→RelV x v→RelV y u→r x y H Q →
    wpAny (model X.prog X.w) X.A (f v u) (EP X pins σ Q) X.xe s
noncomputable def UnR (X:Cx) (f:Value→Sem Value) (r:V→Hp→VK→Prop):Prop :=
  ∀ (pins:List (Addr × Obj)) (s:Shared) (σ:St) (H:Hp) (x:V) (v:Value) (Q:VK),Inv X pins σ H s→RelV x v→r x H Q →
    wpAny (model X.prog X.w) X.A (f v) (EP X pins σ Q) X.xe s
noncomputable def CallR (X:Cx) (f:Value) (r:List V→Hp→VK→Prop):Prop :=
  ∀ (pins:List (Addr × Obj)) (s:Shared) (σ:St) (H:Hp) (xs:List V) (us:List Value) (Q:VK),Inv X pins σ H s→Vals xs us→r xs H Q →
    wpAny (model X.prog X.w) X.A (call f us) (EP X pins σ Q) X.xe s
noncomputable def tOp (r:R2) (ta tb:TE):TE:=fun σ H Q=>ta σ H fun x H1=>tb σ H1 fun y H2=>r x y H2 Q
noncomputable def tUn (r:V→Hp→VK→Prop) (ta:TE):TE:=fun σ H Q=>ta σ H fun x H1=>r x H1 Q
noncomputable def rI (C:Int→Int→Prop) (g:Int→Int→V):R2:=fun x y H Q=>∃ i j,x=.int i∧y=.int j∧C i j∧Q (g i j) H
noncomputable def rI0 (g:Int→Int→V):R2:=fun x y H Q=>∃ i j,x=.int i∧y=.int j∧Q (g i j) H
noncomputable def rU (g:Int→V):V→Hp→VK→Prop:=fun x H Q=>∃ i,x=.int i∧Q (g i) H
section
variable {X:Cx} {a b c:Expr} {ta tb tc:TE} {pos:Pos}
theorem binT (ha:PE X a ta) (hb:PE X b tb) {pins:List (Addr × Obj)} {s:Shared} {σ:St} {H:Hp} {R:V→V→Hp→Prop} (I:Inv X pins σ H s)
    (h:ta σ H fun x H1=>tb σ H1 fun y H2=>R x y H2) {Q:Value→Shared→Prop} {f:Value→Value→Sem Value}
    (hf:∀ v u s2 x y H2,Inv X pins σ H2 s2→RelV x v→RelV y u→R x y H2→wpAny (model X.prog X.w) X.A (f v u) Q X.xe s2) :
    wpAny (model X.prog X.w) X.A (eval a X.env) (fun v s₁=>wpAny (model X.prog X.w) X.A (eval b X.env) (fun u s₂=>wpAny (model X.prog X.w) X.A (f v u) Q X.xe s₂) X.xe s₁) X.xe s:=by
  refine thn (ha pins s σ H _ I h) fun v s1 ⟨x,H1,I1,r1,q1⟩=>?_
  refine thn (hb pins s1 σ H1 _ I1 q1) fun u s2 ⟨y,H2,I2,r2,q2⟩=>?_
  exact hf v u s2 x y H2 I2 r1 r2 q2
theorem pe_op {op:Operator} {r:R2} (ho:OpR X (binaryOp op) r) (ha:PE X a ta) (hb:PE X b tb):PE X (.BinOp a op b pos) (tOp r ta tb):=by
  intro pins s σ H Q I h
  exact wpAny_BinOp (binT ha hb I h fun v u s2 x y H2 I2 rx ry q=>ho pins s2 σ H2 x y v u Q I2 rx ry q)
theorem pe_un {op:UnaryOp} {r:V→Hp→VK→Prop} (ho:UnR X (unaryOp op) r) (ha:PE X a ta):PE X (.UnaryOp op a pos) (tUn r ta):=by
  intro pins s σ H Q I h
  exact UnaryOp_ (thn (ha pins s σ H _ I h) fun v s1 ⟨x,H1,I1,r1,q1⟩=>ho pins s1 σ H1 x v Q I1 r1 q1)
theorem opI {f:Value→Value→Sem Value} {C:Int→Int→Prop} {g:Int→Int→Int}
    (rule:∀ (i j:Int) (t u:Tok) (s:Shared) (Q:Value→Shared→Prop) (E:Value→Shared→Prop),C i j→Q (.int (g i j) s.toks) { s with toks:=s.toks + 1 }→wpAny (model X.prog X.w) X.A (f (.int i t) (.int j u)) Q E s) :
    OpR X f (rI C fun i j=>.int (g i j)):=by
  intro pins s σ H x y v u Q I rx ry h
  obtain ⟨i,j,rfl,rfl,hc,q⟩:=h
  obtain ⟨t,rfl⟩:=rx
  obtain ⟨t',rfl⟩:=ry
  exact rule i j t t' s _ _ hc ⟨.int (g i j),H,I.tok _,⟨_,rfl⟩,q⟩
theorem opI0 {f:Value→Value→Sem Value} {g:Int→Int→Int}
    (rule:∀ (i j:Int) (t u:Tok) (s:Shared) (Q:Value→Shared→Prop) (E:Value→Shared→Prop),Q (.int (g i j) s.toks) { s with toks:=s.toks + 1 }→wpAny (model X.prog X.w) X.A (f (.int i t) (.int j u)) Q E s) :
    OpR X f (rI0 fun i j=>.int (g i j)):=by
  intro pins s σ H x y v u Q I rx ry h
  obtain ⟨i,j,rfl,rfl,q⟩:=h
  obtain ⟨t,rfl⟩:=rx
  obtain ⟨t',rfl⟩:=ry
  exact rule i j t t' s _ _ ⟨.int (g i j),H,I.tok _,⟨_,rfl⟩,q⟩
theorem opB0 {f:Value→Value→Sem Value} {g:Int→Int→Bool}
    (rule:∀ (i j:Int) (t u:Tok) (s:Shared) (Q:Value→Shared→Prop) (E:Value→Shared→Prop),Q (.bool (g i j)) s→wpAny (model X.prog X.w) X.A (f (.int i t) (.int j u)) Q E s) :
    OpR X f (rI0 fun i j=>.bl (g i j)):=by
  intro pins s σ H x y v u Q I rx ry h
  obtain ⟨i,j,rfl,rfl,q⟩:=h
  obtain ⟨t,rfl⟩:=rx
  obtain ⟨t',rfl⟩:=ry
  exact rule i j t t' s _ _ ⟨.bl (g i j),H,I,rfl,q⟩
noncomputable def CPow (i j:Int):Prop:=0≤j∧j≤1000000∧i.natAbs < 2 ^ 64
theorem op_add:OpR X (binaryOp .Add) (rI0 fun i j=>.int (i + j)):=opI0 fun _ _ _ _ _ _ _ q=>add_int q
theorem op_sub:OpR X (binaryOp .Sub) (rI0 fun i j=>.int (i - j)):=opI0 fun _ _ _ _ _ _ _ q=>sub_int q
theorem op_mod:OpR X (binaryOp .Mod) (rI (fun _ j=>0 < j) fun i j=>.int (i % j)):=opI fun i j _ _ _ _ _ hc q=>by
  have h1:(0:Int) < j:=hc
  exact mod_int' (by omega) (by rw [Int.fmod_eq_emod_of_nonneg i (by omega)]; exact q)
theorem op_pow:OpR X (binaryOp .Pow) (rI CPow fun i j=>.int (i ^ j.toNat)):=opI fun _ _ _ _ _ _ _ hc q=>pow_int_small hc.1 hc.2.1 hc.2.2 q
theorem unI {f:Value→Sem Value} {g:Int→Int}
    (rule:∀ (i:Int) (t:Tok) (s:Shared) (Q:Value→Shared→Prop) (E:Value→Shared→Prop),Q (.int (g i) s.toks) { s with toks:=s.toks + 1 }→wpAny (model X.prog X.w) X.A (f (.int i t)) Q E s) :
    UnR X f (rU fun i=>.int (g i)):=by
  intro pins s σ H x v Q I rx h
  obtain ⟨i,rfl,q⟩:=h
  obtain ⟨t,rfl⟩:=rx
  exact rule i t s _ _ ⟨.int (g i),H,I.tok _,⟨_,rfl⟩,q⟩
theorem un_neg:UnR X (unaryOp .USub) (rU fun i=>.int (-i)):=unI fun _ _ _ _ _ q=>neg_int q
end
section
variable {X:Cx} {a b c:Expr} {ta tb tc:TE} {pos:Pos}
theorem fin_bl {pins:List (Addr × Obj)} {σ:St} {H:Hp} {s:Shared} {Q:VK} {k k':Bool} (I:Inv X pins σ H s) (q:Q (.bl k) H) (e:k=k'):EP X pins σ Q (.bool k') s:=by
  subst e
  exact ⟨.bl k,H,I,rfl,q⟩
theorem op_lt:OpR X (compareOp .Lt) (rI0 fun i j=>.bl (decide (i < j))):=opB0 fun _ _ _ _ _ _ _ q=>lt_int q
theorem op_le:OpR X (compareOp .LtE) (rI0 fun i j=>.bl (decide (i≤j))):=opB0 fun _ _ _ _ _ _ _ q=>le_int q
theorem op_gt:OpR X (compareOp .Gt) (rI0 fun i j=>.bl (decide (j < i))):=opB0 fun _ _ _ _ _ _ _ q=>gt_int q
theorem op_ge:OpR X (compareOp .GtE) (rI0 fun i j=>.bl (decide (j≤i))):=opB0 fun _ _ _ _ _ _ _ q=>ge_int q
theorem op_in_str:OpR X (compareOp .In) (fun x y H Q=>∃ i j,x=.str i∧y=.str j∧Q (.bl (!(Builtin.Str.occurrences j i 0 j.length 1).isEmpty)) H):=by
  intro pins s σ H x y v u Q I rx ry h
  obtain ⟨i,j,rfl,rfl,q⟩:=h
  obtain ⟨t,rfl⟩:=rx
  obtain ⟨t',rfl⟩:=ry
  exact in_str (fin_bl I q rfl)
theorem nomark (b:Expr) {op:CmpOp} (h:op≠.In:=by decide) (h2:op≠.NotIn:=by decide):behindInMarks op b=false:=by
  have e1:(op == CmpOp.In)=false:=by cases op <;> first | rfl | exact absurd rfl h
  have e2:(op == CmpOp.NotIn)=false:=by cases op <;> first | rfl | exact absurd rfl h2
  cases b <;> simp [behindInMarks,e1,e2]
theorem pe_cmpR {op:CmpOp} {r:R2} (ho:OpR X (compareOp op) r) (ha:PE X a ta) (hb:PE X b tb) (hm:behindInMarks op b=false):PE X (.Compare a [op] [b] pos) (tOp r ta tb):=by
  intro pins s σ H Q I h
  exact wpAny_Compare1 (binT ha hb I h fun v u s2 x y H2 I2 rx ry q=>ho pins s2 σ H2 x y v u Q I2 rx ry q) hm
noncomputable def tTest (t:TE):TT:=fun σ H Q=>t σ H fun x H'=>∃ k,x=.bl k∧Q k H'
theorem pt_cmpR {op:CmpOp} {r:R2} (ho:OpR X (compareOp op) r) (ha:PE X a ta) (hb:PE X b tb) (hm:behindInMarks op b=false):PT X (.Compare a [op] [b] pos) (tTest (tOp r ta tb)):=by
  intro pins s σ H Q I h
  refine wpAny_isTrue_Compare1 (thn (ha pins s σ H _ I h) fun v s1 ⟨x,H1,I1,r1,q1⟩=>thn (hb pins s1 σ H1 _ I1 q1) fun u s2 ⟨y,H2,I2,r2,q2⟩ =>
    thn (ho pins s2 σ H2 x y v u _ I2 r1 r2 q2) fun c s3 ⟨z,H3,I3,r3,k,e,q3⟩=>?_) hm
  subst e
  cases r3
  exact wpAny_truthy_bool ⟨H3,I3,q3⟩
theorem line63:(sizeLine:Nat) < 2 ^ 63:=by rw [sizeLine_eq]; decide
theorem op_add_str:OpR X (binaryOp .Add) (fun x y H Q=>∃ i j,x=.str i∧y=.str j∧i.length + j.length≤sizeLine∧Q (.str (i ++ j)) H):=by
  intro pins s σ H x y v u Q I rx ry h
  obtain ⟨i,j,rfl,rfl,hz,q⟩:=h
  obtain ⟨t,rfl⟩:=rx
  obtain ⟨t',rfl⟩:=ry
  exact add_str (fun t' tk=>⟨.str (i ++ j),H,I.tok _,⟨_,rfl⟩,q⟩) hz
theorem vals1 {x:V} {us:List Value} (r:Vals [x] us):∃ u,us=[u]∧RelV x u:=by
  cases r with
  | cons r1 r2=>cases r2; exact ⟨_,rfl,r1⟩
theorem vals2 {x y:V} {us:List Value} (r:Vals [x,y] us):∃ u w',us=[u,w']∧RelV x u∧RelV y w':=by
  cases r with
  | cons r1 r2 =>
    cases r2 with
    | cons r3 r4=>cases r4; exact ⟨_,_,rfl,r1,r3⟩
theorem call_str_int:CallR X (.type "str") (fun xs H Q=>∃ i,xs=[.int i]∧i.natAbs.log2 < 1920∧Q (.str (toString i)) H):=by
  intro pins s σ H xs us Q I r h
  obtain ⟨i,rfl,hz,q⟩:=h
  obtain ⟨u,rfl,t,rfl⟩:=vals1 r
  exact PySem.P.str_of_int hz ⟨.str _,H,I.tok _,⟨_,rfl⟩,q⟩
end
end L2
namespace L2
open PySem PySem.Spec PyProof.Rows
section
variable {prog:Program} {w:World} {A:Around} {E:Value→Shared→Prop} {s:Shared} {K:PySem.W.Frag} {x dx C f:Addr} {mA:Str→Option Value} {name:Str} {v:Value}
end
section
variable {P:Program} {w:World} {H H':Hp} {h h':Heap} {a C dx:Addr} {fs fs':List (Str × V)}
end
structure Cls (K:PySem.W.Frag) (C:Addr):Prop where
  pg:PySem.W.plainGet K C Str.empty=true
  hd:PySem.W.hasDictIn K C=true
  po:PySem.W.plainOver K C=true
  sa:PySem.W.findIn K (.ref C) "__setattr__"=some (some (.builtin "object.__setattr__"))
section
variable {X:Cx} {pins:List (Addr × Obj)} {σ:St} {H:Hp} {s:Shared} {a C dx:Addr} {fs:List (Str × V)} {f:Str} {v:V} {A:Around} {E:Value→Shared→Prop}
end
section
variable {X:Cx} {o e value:Expr} {f:Str} {pos pos' tpos:Pos} {ta tv:TE}
end
section
variable {X:Cx} {pins:List (Addr × Obj)} {σ:St} {H:Hp} {s:Shared} {A:Around} {E:Value→Shared→Prop} {Q:Value→Shared→Prop} {c:Value} {b:Bool}
end
end L2
namespace L2
open PySem PySem.Spec PyProof.Rows
structure Room (k:Nat) (A:Around):Prop where
  hd:A.handled=none
  dp:A.depth + 3 * k + 5 < recursionLimit
  un:A.units + 16 * k + 200 < cLine
theorem Room.mono {j k:Nat} {A:Around} (r:Room k A) (h:j≤k):Room j A:=⟨r.hd,by have:=r.dp; omega,by have:=r.un; omega⟩
theorem Room.deeper {k:Nat} {A:Around} (r:Room (k + 1) A) (env:Env):Room k (A.deeper env) :=
  ⟨r.hd,by have:=r.dp; show A.depth + 1 + 3 * k + 5 < _; omega,by have:=r.un; show A.units + 3 + 16 * k + 200 < _; omega⟩
theorem Room.depth {k:Nat} {A:Around} (r:Room k A):A.depth < recursionLimit:=by have:=r.dp; omega
theorem Room.units {k:Nat} {A:Around} (r:Room k A):A.units + 64 < cLine:=by have:=r.un; omega
noncomputable def tNil:TA:=fun _ H Q=>Q [] H
noncomputable def tCons (ta:TE) (tr:TA):TA:=fun σ H Q=>ta σ H fun x H1=>tr σ H1 fun xs H2=>Q (x :: xs) H2
section
variable {X:Cx} {e:Expr} {es:List Expr} {te:TE} {t:TA} {pos:Pos}
theorem pa_nil:PA X [] tNil:=fun _ _ _ _ H Q I h=>Calls.spliced_nil ⟨[],H,I,.nil,h⟩
theorem pa_cons (ha:PE X e te) (hr:PA X es t) (hs:starEach (e :: es) X.env=(false,eval e X.env) :: starEach es X.env:=by rfl):PA X (e :: es) (tCons te t):=by
  intro pos pins s σ H Q I h
  rw [hs]
  show wpAny _ _ (spliced ((false,eval e X.env) :: backTo pos (starEach es X.env))) _ _ s
  refine Calls.spliced_cons (thn (ha pins s σ H _ I h) fun u s1 ⟨x,H1,I1,r1,q1⟩=>?_)
  exact thn (hr pos pins s1 σ H1 _ I1 q1) fun us s2 ⟨xs,H2,I2,r2,q2⟩=>⟨x :: xs,H2,I2,.cons r1 r2,q2⟩
noncomputable def tLst (t:TA):TE:=fun σ H Q=>t σ H fun xs H1=>xs.length≤sizeLine∧∀ p,H1 p=none→Q (.ref p) (upd H1 p (.lst xs))
theorem pe_lst (h:PA X es t):PE X (.List es pos) (tLst t):=by
  intro pins s σ H Q I hq
  refine wpAny_List_spliced (thn (h pos pins s σ H _ I hq) fun us s1 ⟨xs,H1,I1,r,z,q⟩=>⟨by rw [← r.length]; exact z, ?_⟩)
  have hf:H1 s1.heap.objs.size=none:=I1.hok.fresh (Nat.le_refl _)
  refine ⟨.ref s1.heap.objs.size,upd H1 s1.heap.objs.size (.lst xs),I1.laid (t':=s1.toks) (fun b u e=>Heap.get?_push_of_some _ e) (Nat.le_refl _) ?_,rfl,q _ hf⟩
  exact ⟨z,us,0,r,Heap.get?_push_size _ rfl⟩
end
noncomputable abbrev Sp:=List V→Hp→VK→XK→Prop
noncomputable abbrev CXT:=List Env→Hp→Shared→XK→Value→Shared→Prop
structure Env0 (P:Program) (w:World) (K:PySem.W.Frag) (mg:Str→Option Value) (base:Heap) (A:Around) (outer:List Env) (s:Shared) (H:Hp):Prop where
  frames:A.frames=some outer
  mod:Mod K mg base
  bs:∀ b o,base.get? b=some o→s.heap.get? b=some o∧H b=none
  bsz:base.objs.size≤s.heap.objs.size
  funs:s.heap.FunFrames base outer
  frf:∀ b∈frs outer,H b=none
  hok:HOk P w H s.heap
  bare:AllBare s.gens
noncomputable def CE (outer:List Env) (P:Program) (w:World) (H:Hp) (s:Shared) (Q:VK) (u:Value) (s':Shared):Prop :=
  ∃ v H',s'.os=s.os∧AllBare s'.gens∧Un (frs outer) [] H H' s.heap s'.heap∧HOk P w H' s'.heap∧RelV v u∧Q v H'
noncomputable def CR (CX:CXT) (outer:List Env) (P:Program) (w:World) (H:Hp) (s:Shared) (Q:VK) (E:XK) (r:Result) (s':Shared):Prop :=
  match r with
  | .ok (.ret u)=>CE outer P w H s Q u s'
  | .ok _=>False
  | .error e=>CX outer H s E e s'
structure FnOk (P:Program) (w:World) (K:PySem.W.Frag) (mg:Str→Option Value) (base:Heap) (CX:CXT) (k:Nat) (f:Addr) (fd:FuncData) (ps:List Str) (sp:Sp):Prop where
  len:∀ vs H Q E,sp vs H Q E→vs.length=ps.length
  run:∀ (A:Around) (outer:List Env) (s:Shared) (H:Hp) (args:Args) (us:List Value) (vs:List V) (Q:VK) (E:XK),Room k A→Env0 P w K mg base A outer s H→BindsTo s fd args (ps.zip us)→Vals vs us→sp vs H Q E →
    codeAny (model P w) A (.call (.ref f) args) (CR CX outer P w H s Q E) s
section
variable {X:Cx} {pins:List (Addr × Obj)} {σ:St} {H:Hp} {s s':Shared}
theorem Inv.env0 (I:Inv X pins σ H s):Env0 X.prog X.w X.K X.mg X.base X.A X.stack s H :=
  ⟨I.ok.frames,I.ok.mod,I.bs,Nat.le_trans I.ok.bsz I.sz,I.stack,I.stkFree,I.hok,I.bare⟩
theorem Inv.after {Q:VK} {u:Value} (I:Inv X pins σ H s) (h:CE X.stack X.prog X.w H s Q u s'):EP X pins σ Q u s':=by
  obtain ⟨v,H',os,bare,un,hok,r,q⟩:=h
  obtain ⟨hh,g,d,t,os'⟩:=s'
  obtain rfl:os'=s.os:=os
  exact ⟨v,H',I.call (h':=hh) (g':=g) (d':=d) (t':=t) (ch:=[]) un hok bare (fun b z=>absurd z (by simp)),r,q⟩
end
noncomputable def tCall (sp:Sp) (dvs:List V) (E:XK) (t:TA):TE:=fun σ H Q=>t σ H fun vs H1=>sp (vs ++ dvs) H1 Q E
noncomputable def Binds (K:PySem.W.Frag) (fd:FuncData) (ps:List Str) (ds:List Value):Prop :=
  ∀ (s:Shared) (us:List Value),K.In s.heap→(us ++ ds).length=ps.length→BindsTo s fd ⟨us,[]⟩ (ps.zip (us ++ ds))
theorem Binds.all {K:PySem.W.Frag} {fd:FuncData} {ps:List Str} (h:∀ us:List Value,us.length=ps.length→bindArgs fd ⟨us,[]⟩=pure (ps.zip us)):Binds K fd ps []:=fun s us _ hl=>by
  rw [List.append_nil] at hl ⊢
  exact .of_eq (h us hl)
noncomputable def Passes (CX:CXT) (X:Cx) (E:XK):Prop:=∀ (pins:List (Addr × Obj)) (σ:St) (H:Hp) (s:Shared) (e:Value) (s':Shared),Inv X pins σ H s→CX X.stack H s E e s'→X.xe e s'
section
variable {X:Cx} {CX:CXT} {k:Nat} {f C:Addr} {fd:FuncData} {ps:List Str} {sp:Sp} {dvs:List V} {ds:List Value} {E:XK} {x m:Str} {p pos apos:Pos} {e o:Expr} {es:List Expr} {ta:TE} {t:TA}
theorem run_fn {pins:List (Addr × Obj)} {σ:St} {H:Hp} {s:Shared} {Q:VK} {us:List Value} {vs:List V} (F:FnOk X.prog X.w X.K X.mg X.base CX k f fd ps sp) (hr:Room k X.A) (hb:Binds X.K fd ps ds) (hd:Vals dvs ds) (hx:Passes CX X E)
    (I:Inv X pins σ H s) (r:Vals vs us) (h:sp (vs ++ dvs) H Q E):wpAny (model X.prog X.w) X.A (call (.ref f) us) (EP X pins σ Q) X.xe s:=by
  have r2:Vals (vs ++ dvs) (us ++ ds):=r.append hd
  have hl:(us ++ ds).length=ps.length:=by rw [← r2.length]; exact F.len _ _ _ _ h
  refine wpAny_call (codeAny_mono (F.run X.A X.stack s H ⟨us,[]⟩ (us ++ ds) (vs ++ dvs) Q E hr I.env0 (hb s us I.kIn hl) r2 h) fun r s' hq=>?_)
  cases r with
  | error e=>exact hx pins σ H s e s' I hq
  | ok fl =>
    cases fl with
    | ret u=>exact I.after hq
    | next=>exact False.elim hq
    | brk=>exact False.elim hq
    | cont=>exact False.elim hq
theorem pe_call (F:FnOk X.prog X.w X.K X.mg X.base CX k f fd ps sp) (hr:Room k X.A) (hg:Gl X x) (hm:X.mg x=some (.ref f)) (hk:PySem.W.keepIn X.K (.ref f)=true) (hb:Binds X.K fd ps ds) (hd:Vals dvs ds) (hx:Passes CX X E)
    (ha:PA X (e :: es) t) (hdb:(x == ("__debug__":Str))=false:=by decide) (he:starEach (e :: es) X.env=(false,eval e X.env) :: starEach es X.env:=by rfl) (hpl:(backTo pos (starEach es X.env)).any (·.1)=false:=by rfl) :
    PE X (.Call (.Name x p) (e :: es) [] pos) (tCall sp dvs E t):=by
  intro pins s σ H Q I h
  refine wpAny_Call_Name_kw (ld_glob I hg hm ?_ hdb)
  refine PySem.W.callWith_K (h₀:=X.base) I.ok.mod.kin hk (thn (ha pos pins s σ H _ I h) fun us s1 ⟨vs,H1,I1,r,q⟩=>⟨I1.kIn, ?_⟩) he hpl
  exact run_fn F hr hb hd hx I1 r q
theorem pe_call0 (F:FnOk X.prog X.w X.K X.mg X.base CX k f fd ps sp) (hr:Room k X.A) (hg:Gl X x) (hm:X.mg x=some (.ref f)) (hk:PySem.W.keepIn X.K (.ref f)=true) (hb:Binds X.K fd ps ds) (hd:Vals dvs ds) (hx:Passes CX X E)
    (hdb:(x == ("__debug__":Str))=false:=by decide):PE X (.Call (.Name x p) [] [] pos) (tCall sp dvs E tNil):=by
  intro pins s σ H Q I h
  refine wpAny_Call_Name_kw (ld_glob I hg hm ?_ hdb)
  exact PySem.W.callWith_K0 I.kIn hk (run_fn (us:=[]) F hr hb hd hx I .nil h)
end
section
variable {X:Cx} {CX:CXT} {k:Nat} {f C:Addr} {fd:FuncData} {ps ks:List Str} {sp:Sp} {E:XK} {x m:Str} {p pos apos kpos:Pos} {e o:Expr} {es:List Expr} {kws:List Keyword} {te ta:TE} {t tk:TA} {nm:Option Str}
variable {g:List Value→List Value→List Value} {gV:List V→List V→List V}
end
structure FnScope (N P:List Str) (sc:Scope):Prop where
  kind:sc.kind=.function
  co:sc.isCoroutine=false
  gen:sc.isGenerator=false
  nd:N.Nodup
  pre:N.take P.length=P
  par:∀ x∈P,sc.names.lookup x=some .local ∨ sc.names.lookup x=some .cell
  nofree:∀ y∈sc.names,y.2≠.free
theorem bindL_out {kindOf:Str→Option NameKind} {x:Str}:∀ {binds:List (Str × Value)} {m:Str→Option Value},(∀ v,(x,v) ∉ binds)→bindL kindOf binds m x=m x
  | [],_,_=>rfl
  | (n,v) :: r,m,h=>by
    unfold bindL
    rw [bindL_out fun w hw=>h w (List.mem_cons_of_mem _ hw)]
    split
    · have:x≠n:=by rintro rfl; exact h v List.mem_cons_self
      simp [this]
    · rfl
theorem bindC_out {kindOf:Str→Option NameKind} {x:Str}:∀ {binds:List (Str × Value)} {m:Str→Option Value},(∀ v,(x,v) ∉ binds)→bindC kindOf binds m x=m x
  | [],_,_=>rfl
  | (n,v) :: r,m,h=>by
    unfold bindC
    rw [bindC_out fun w hw=>h w (List.mem_cons_of_mem _ hw)]
    split
    · rfl
    · have:x≠n:=by rintro rfl; exact h v List.mem_cons_self
      simp [this]
theorem bindL_get {kindOf:Str→Option NameKind} {x:Str} {v:Value}:∀ {P:List Str} {vs:List Value} {i:Nat} {m:Str→Option Value},P.Nodup→P[i]?=some x→vs[i]?=some v→kindOf x=some .local →
    bindL kindOf (P.zip vs) m x=some v
  | [],_,_,_,_,h,_,_=>by simp at h
  | _ :: _,[],_,_,_,_,h,_=>by simp at h
  | p :: P,w :: vs,0,m,nd,h1,h2,hk=>by
    simp at h1 h2; subst h1; subst h2
    show bindL kindOf ((p,w) :: P.zip vs) m p=_
    unfold bindL
    rw [bindL_out fun v hv=>(List.nodup_cons.mp nd).1 (List.of_mem_zip hv).1,if_pos hk]
    simp
  | p :: P,w :: vs,i + 1,m,nd,h1,h2,hk=>by
    show bindL kindOf ((p,w) :: P.zip vs) m x=_
    unfold bindL
    exact bindL_get (i:=i) (List.nodup_cons.mp nd).2 (by simpa using h1) (by simpa using h2) hk
theorem bindC_get {kindOf:Str→Option NameKind} {x:Str} {v:Value}:∀ {P:List Str} {vs:List Value} {i:Nat} {m:Str→Option Value},P.Nodup→P[i]?=some x→vs[i]?=some v→kindOf x≠some .local →
    bindC kindOf (P.zip vs) m x=some v
  | [],_,_,_,_,h,_,_=>by simp at h
  | _ :: _,[],_,_,_,_,h,_=>by simp at h
  | p :: P,w :: vs,0,m,nd,h1,h2,hk=>by
    simp at h1 h2; subst h1; subst h2
    show bindC kindOf ((p,w) :: P.zip vs) m p=_
    unfold bindC
    rw [bindC_out fun v hv=>(List.nodup_cons.mp nd).1 (List.of_mem_zip hv).1,if_neg hk]
    simp
  | p :: P,w :: vs,i + 1,m,nd,h1,h2,hk=>by
    show bindC kindOf ((p,w) :: P.zip vs) m x=_
    unfold bindC
    exact bindC_get (i:=i) (List.nodup_cons.mp nd).2 (by simpa using h1) (by simpa using h2) hk
noncomputable def start (N:List Str) (vs:List V):St:=vs.map some ++ List.replicate (N.length - vs.length) none
noncomputable def cxOf (CX:CXT) (P:Program) (w:World) (K:PySem.W.Frag) (mg:Str→Option Value) (base:Heap) (N:List Str) (qual:Str) (scope:Scope) (f:Addr) (cd:Value) (A:Around) (outer:List Env) (s:Shared) (H:Hp) (E:XK):Cx where
  prog:=P
  w:=w
  K:=K
  mg:=mg
  base:=base
  A:=A.deeper (envOfC qual scope s.heap.objs.size f cd)
  N:=N
  s₀:=s
  H₀:=H
  env:=envOfC qual scope s.heap.objs.size f cd
  outer:=outer
  stack:=envOfC qual scope s.heap.objs.size f cd :: outer
  ex:=[]
  calm:=true
  fn:=fun _=>true
  pn:=[]
  xe:=fun e s'=>wpAny (model P w) (A.deeper (envOfC qual scope s.heap.objs.size f cd)) (leaving (envOfC qual scope s.heap.objs.size f cd) e) (fun _ s''=>CX outer H s E e s'') (fun e' s''=>CX outer H s E e' s'') s'
theorem cell_has {sc:Scope} {n:Nat} {x:Str} (h:sc.names.lookup x=some .cell):∃ c,(cellsFrom n sc.names []).lookup x=some c:=by
  have q:=PySem.W.cellsFrom_some sc.names n [] (.inl h)
  exact Option.isSome_iff_exists.mp q
theorem inv_start {CX:CXT} {P:Program} {w:World} {K:PySem.W.Frag} {mg:Str→Option Value} {base:Heap} {N ps:List Str} {qual:Str} {scope:Scope} {f:Addr} {cd:Value} {A:Around} {outer:List Env} {s s1:Shared} {H:Hp} {E:XK} {us:List Value} {vs:List V}
    (S:FnScope N ps scope) (hd:A.handled=none) (e0:Env0 P w K mg base A outer s H) (hl:vs.length=ps.length) (r:Vals vs us)
    (x:InCallC s s.heap.objs.size (bindL (envOfC qual scope s.heap.objs.size f cd).kindOf (ps.zip us) fun _=>none) (cellsFrom (s.heap.objs.size + 1) scope.names []) (bindC (envOfC qual scope s.heap.objs.size f cd).kindOf (ps.zip us) fun _=>none) s1) :
    Inv (cxOf CX P w K mg base N qual scope f cd A outer s H E) [] (start N vs) H s1:=by
  have hpl:ps.length≤N.length:=by have:=congrArg List.length S.pre; rw [List.length_take] at this; omega
  obtain ⟨h1,tk,rfl,hk⟩:=x.done
  have noA:∀ b:Addr,b ∉ (cxOf CX P w K mg base N qual scope f cd A outer s H E).ex:=fun b z=>absurd (show b∈([]:List Addr) from z) (by simp)
  refine ⟨⟨e0.mod,S.kind,rfl,rfl,Nat.le_refl _,fun y z c h1 h2=>?_,fun y hy=>?_,fun y c _ h=>?_,fun _=>hd,Around.frames_deeper e0.frames,.inr ⟨rfl,rfl⟩,fun b z=>absurd z (noA b),e0.bs,e0.bsz,fun b _ _=>noA b,fun b z=>absurd z (noA b),e0.funs,e0.frf⟩,
    rfl,e0.bare,Un.kept hk,⟨_,x.toInCall.ns,fun i y v h1 h2 h3=>?_⟩,fun y c h=>⟨_,x.cell y c h⟩,e0.hok.fresh (Nat.le_refl _),fun y c h=>?_,fun p hp=>absurd (show p∈([]:List (Addr × Obj)) from hp) (by simp),e0.hok.kept hk, ?_⟩
  · exact name_of_addr x.apart (PySem.mem_of_lookup h1) (PySem.mem_of_lookup h2)
  · have hy:scope.names.lookup y=some .cell ∨ scope.names.lookup y=some .free:=hy
    rcases hy with hy | hy
    · exact cell_has hy
    · exact absurd rfl (S.nofree _ (PySem.mem_of_lookup hy))
  · exact Nat.le_of_lt (x.above y c (PySem.mem_of_lookup h))
  · have hi:i < vs.length:=by
      unfold start at h2
      by_cases hi:i < vs.length
      · exact hi
      · rw [List.getElem?_append_right (by simpa using hi)] at h2
        rw [List.getElem?_replicate] at h2
        split at h2 <;> cases h2
    have ha:vs[i]?=some v:=by
      unfold start at h2
      rw [List.getElem?_append_left (by simpa using hi),List.getElem?_map] at h2
      cases e:vs[i]? with
      | none=>rw [e] at h2; cases h2
      | some a=>rw [e] at h2; cases h2; rfl
    obtain ⟨u,hu,rv⟩:=r.get ha
    have hp:ps[i]?=some y:=by
      rw [← S.pre,List.getElem?_take_of_lt (by omega)]; exact h1
    have ndP:ps.Nodup:=by rw [← S.pre]; exact S.nd.sublist (List.take_sublist _ _)
    refine ⟨u,rv, ?_⟩
    rcases S.par y (List.mem_of_getElem? hp) with k | k
    · exact .inl ⟨k,bindL_get ndP hp hu k⟩
    · obtain ⟨c,e⟩:=cell_has (n:=s.heap.objs.size + 1) k
      refine .inr ⟨.inl k,c,e, ?_⟩
      have q:=x.cell y c e
      rw [bindC_get ndP hp hu (by show scope.names.lookup y≠_; rw [k]; decide)] at q
      exact q
  · exact e0.hok.fresh (Nat.le_of_lt (x.above y c (PySem.mem_of_lookup h)))
  · unfold start
    show _=N.length
    rw [List.length_append,List.length_map,List.length_replicate]
    omega
theorem fn_of {CX:CXT} {P:Program} {w:World} {K:PySem.W.Frag} {mg:Str→Option Value} {base:Heap} {k:Nat} {f:Addr} {name qual:Str} {params:Arguments} {body:List Stmt} {scope:Scope} {dV kV doc pm cdv ct oc:Value} {an od:Option Addr}
    {osl:Array (Option Value)} {N ps:List Str} {sp:Sp} (lk:K.lookup f=some ⟨oc,od,.func (PySem.W.fnOf name qual params body scope dV kV doc pm an cdv ct),osl⟩) (hcd:PySem.W.codeIn K cdv qual=true) (S:FnScope N ps scope)
    (len:∀ vs H Q E,sp vs H Q E→vs.length=ps.length)
    (hbody:∀ (A:Around) (outer:List Env) (s:Shared) (H:Hp) (vs:List V) (Q:VK) (E:XK),Room k (A.deeper (envOfC qual scope s.heap.objs.size f cdv))→sp vs H Q E →
      ∃ t,PSs (cxOf CX P w K mg base N qual scope f cdv A outer s H E) body t∧t { nx:=fun _ H'=>Q .non H',rt:=Q } (start N vs) H) :
    FnOk P w K mg base CX (k + 1) f (PySem.W.fnOf name qual params body scope dV kV doc pm an cdv ct) ps sp:=by
  refine ⟨len,fun A outer s H args us vs Q E hr e0 hb r hsp=>?_⟩
  have hl:=len _ _ _ _ hsp
  have KX:K.In s.heap:=e0.mod.kin.keeps fun b o e=>(e0.bs b o e).1
  have lim:s.heap.NoLimit:=e0.mod.nolimit.keeps fun b o e=>(e0.bs b o e).1
  have hkind:∀ y∈ps.zip us,scope.names.lookup y.1=some .local ∨ (scope.names.lookup y.1=some .cell∧((cellsFrom (s.heap.objs.size + 1) scope.names []).lookup y.1).isSome=true):=fun ⟨n,v⟩ hy=>by
    rcases S.par n (List.of_mem_zip hy).1 with q | q
    · exact .inl q
    · exact .inr ⟨q,PySem.W.cellsFrom_some _ _ _ (.inl q)⟩
  refine codeAny_call_function hr.depth (KX _ _ lk) rfl S.co S.gen rfl (PySem.W.codeRec_of KX hcd) (hb _ _ _ _ ?_)
  refine wpAny_newFunctionEnv_cells S.kind hkind fun env he s1 x=>?_
  subst he
  refine ⟨lim.keeps x.toInCall.keep,codeAny_func ?_⟩
  obtain ⟨t,ht,hq⟩:=hbody A outer s H vs Q E (hr.deeper _) hsp
  have I:Inv (cxOf CX P w K mg base N qual scope f cdv A outer s H E) [] (start N vs) H s1:=inv_start S hr.hd e0 hl r x
  refine wpAny_mono (ht [] s1 (start N vs) H _ I hq) (fun fl s' hs=>?_) fun e s' hs=>hs
  have fin:∀ {σ':St} {H':Hp} {v:V} {u:Value},Inv (cxOf CX P w K mg base N qual scope f cdv A outer s H E) [] σ' H' s'→RelV v u→Q v H'→CE outer P w H s Q u s' :=
    fun {σ' H' v u} J rv q=>⟨v,H',J.os,J.bare,J.base,J.hok,rv,q⟩
  cases fl with
  | ret u =>
    obtain ⟨v,σ',H',J,rv,q⟩:=hs
    exact fin J rv q
  | next =>
    obtain ⟨σ',H',J,q⟩:=hs
    exact fin (v:=V.non) (u:=Value.none) J rfl q
  | brk =>
    obtain ⟨_,_,_,q⟩:=hs
    exact False.elim q
  | cont =>
    obtain ⟨_,_,_,q⟩:=hs
    exact False.elim q
end L2
namespace L2
open PySem PySem.Spec PyProof.Rows
section
variable {X:Cx} {x:Str} {p pos:Pos} {e:Expr} {es:List Expr} {t:TA} {id T:String} {r:List V→Hp→VK→Prop}
noncomputable def tCB (r:List V→Hp→VK→Prop) (t:TA):TE:=fun σ H Q=>t σ H fun vs H1=>r vs H1 Q
theorem pe_callB (hc:CallR X (.builtin id) r) (hg:Gl X x) (hm:X.mg x=none) (hv:bootBuiltins x=some (.builtin id)) (ha:PA X (e :: es) t) (hn:x ≠ "__name__":=by decide) (hdb:(x == ("__debug__":Str))=false:=by decide)
    (he:starEach (e :: es) X.env=(false,eval e X.env) :: starEach es X.env:=by rfl) (hpl:(backTo pos (starEach es X.env)).any (·.1)=false:=by rfl):PE X (.Call (.Name x p) (e :: es) [] pos) (tCB r t):=by
  intro pins s σ H Q I h
  refine wpAny_Call_Name_kw (ld_blt I hg hm hv ?_ hn hdb)
  exact PyProof.Rows.callWith_builtin1 (thn (ha pos pins s σ H _ I h) fun us s1 ⟨vs,H1,I1,r1,q1⟩=>hc pins s1 σ H1 vs us Q I1 r1 q1) he hpl
theorem pe_callTy (hc:CallR X (.type T) r) (hg:Gl X x) (hm:X.mg x=none) (hv:bootBuiltins x=some (.type T)) (ha:PA X (e :: es) t) (hn:x ≠ "__name__":=by decide) (hdb:(x == ("__debug__":Str))=false:=by decide)
    (he:starEach (e :: es) X.env=(false,eval e X.env) :: starEach es X.env:=by rfl) (hpl:(backTo pos (starEach es X.env)).any (·.1)=false:=by rfl):PE X (.Call (.Name x p) (e :: es) [] pos) (tCB r t):=by
  intro pins s σ H Q I h
  refine wpAny_Call_Name_kw (ld_blt I hg hm hv ?_ hn hdb)
  exact PyProof.Rows.callWith_type1 (thn (ha pos pins s σ H _ I h) fun us s1 ⟨vs,H1,I1,r1,q1⟩=>hc pins s1 σ H1 vs us Q I1 r1 q1) he hpl
end
end L2
namespace HT
open PySem PyProof.Rows
section
open PySem.SeqAt
open PySem.AutoSeq1 (wpAny_loadPart')
open PySem.MeetsSeq PySem.MeetsSeq2 PySem.MeetsSeq3
end
section
variable {prog:Program} {w:World} {A:Around} {E:Value→Shared→Prop} {s:Shared}
noncomputable def sIx (n d:Nat):Option Int→Nat
  | none=>d
  | some v=>if v < 0 then (v + (n:Int)).toNat else min v.toNat n
end
end HT
namespace L2
open PySem PySem.Spec PyProof.Rows
noncomputable abbrev TO:=St→Hp→(Option Int→Hp→Prop)→Prop
noncomputable def PO (X:Cx) (e:Option Expr) (t:TO):Prop :=
  ∀ (pins:List (Addr × Obj)) (s:Shared) (σ:St) (H:Hp) (Q:Option Int→Hp→Prop),Inv X pins σ H s→t σ H Q →
    wpAny (model X.prog X.w) X.A (evalPart e X.env) (fun u s'=>∃ o H',Inv X pins σ H' s'∧IsPart u o∧Q o H') X.xe s
noncomputable def tNoPart:TO:=fun _ H Q=>Q none H
noncomputable def tPart (t:TE):TO:=fun σ H Q=>t σ H fun x H1=>∃ i,x=.int i∧Q (some i) H1
theorem intsAre_of {ns:List Int}:∀ {us:List Value},Vals (ns.map V.int) us→IntsAre us ns:=by
  induction ns with
  | nil=>intro us r; rw [List.map_nil] at r; cases r; exact .nil
  | cons n ns ih =>
    intro us r
    rw [List.map_cons] at r
    cases r with
    | cons r1 r2 =>
      obtain ⟨t,e⟩:=r1
      subst e
      exact .cons n t (ih r2)
section
variable {X:Cx} {e:Expr} {te:TE} {lo hi:Option Expr} {tl th:TO} {pos p2:Pos}
theorem po_none:PO X none tNoPart:=by
  intro pins s σ H Q I h
  rw [evalPart_none]
  exact wpAny_pure ⟨none,H,I,.none,h⟩
theorem po_some (h:PE X e te):PO X (some e) (tPart te):=by
  intro pins s σ H Q I hw
  rw [evalPart_some]
  refine thn (h pins s σ H _ I hw) fun u s1 ⟨x,H1,I1,r1,q1⟩=>?_
  obtain ⟨i,rfl,q⟩:=q1
  obtain ⟨t,rfl⟩:=r1
  exact ⟨some i,H1,I1,.int i t,q⟩
noncomputable def SlR (X:Cx) (r:V→Option Int→Option Int→Hp→VK→Prop):Prop :=
  ∀ (pins:List (Addr × Obj)) (s:Shared) (σ:St) (H:Hp) (x:V) (v vl vu:Value) (lo hi:Option Int) (sl:Addr) (Q:VK),Inv X pins σ H s→RelV x v→s.heap.IsSliceOf sl vl vu .none→IsPart vl lo→IsPart vu hi→r x lo hi H Q →
    ∃ T id,typeLookup (.type T) "__getitem__"=pure (some (.builtin id))∧s.TypeIs v T∧wpAny (model X.prog X.w) X.A (getItem v (.ref sl)) (EP X pins σ Q) X.xe s
noncomputable def tSl (r:V→Option Int→Option Int→Hp→VK→Prop) (te:TE) (tl th:TO):TE:=fun σ H Q=>te σ H fun x H1=>tl σ H1 fun l H2=>th σ H2 fun u H3=>r x l u H3 Q
theorem pe_slice {r:V→Option Int→Option Int→Hp→VK→Prop} (hr:SlR X r) (he:PE X e te) (hl:PO X lo tl) (hu:PO X hi th):PE X (.Subscript e (.Slice lo hi none p2) pos) (tSl r te tl th):=by
  intro pins s σ H Q I h
  refine Subscript_ (thn (he pins s σ H _ I h) fun v s1 ⟨x,H1,I1,r1,q1⟩=>?_)
  refine wpAny_Slice (thn (hl pins s1 σ H1 _ I1 q1) fun vl s2 ⟨l,H2,I2,pl,q2⟩=>thn (hu pins s2 σ H2 _ I2 q2) fun vu s3 ⟨u,H3,I3,pu,q3⟩=>?_)
  rw [evalPart_none]
  refine wpAny_pure ?_
  have I4:Inv X pins σ H3 { s3 with heap:=s3.heap.push { cls:=.type "slice",data:=.fields #[vl,vu,.none] } }:=I3.kept (t':=s3.toks) fun b ob q=>Heap.get?_push_of_some _ q
  obtain ⟨T,id,hT,ht,hg⟩:=hr pins { s3 with heap:=s3.heap.push { cls:=.type "slice",data:=.fields #[vl,vu,.none] } } σ H3 x v vl vu l u s3.heap.objs.size Q I4 r1 (Heap.IsSliceOf.new ..) pl pu q3
  show wpAny (model X.prog X.w) X.A (subscriptTail e (.Slice lo hi none p2) v (.ref s3.heap.objs.size)) (EP X pins σ Q) X.xe { s3 with heap:=s3.heap.push { cls:=.type "slice",data:=.fields #[vl,vu,.none] } }
  exact tail_any (ops:=[.ref s3.heap.objs.size,v]) ht hT hg (by with_unfolding_all rfl)
noncomputable def cutV (xs:List V) (lo hi:Option Int):List V:=(xs.drop (HT.sIx xs.length 0 lo)).take (HT.sIx xs.length xs.length hi - HT.sIx xs.length 0 lo)
theorem cutV_length (xs:List V) (lo hi:Option Int):(cutV xs lo hi).length≤xs.length:=by
  unfold cutV
  rw [List.length_take,List.length_drop]
  omega
end
end L2
namespace L2
open PySem PySem.Spec PyProof.Rows
noncomputable def ixN (n:Nat) (i:Int):Option Nat:=if 0≤i then (if i < n then some i.toNat else none) else if -(n:Int)≤i then some (i + n).toNat else none
noncomputable def atI {α:Type} (xs:List α) (i:Int):Option α:=(ixN xs.length i).bind fun j=>xs[j]?
theorem ixN_seq {n:Nat} {i:Int} {j:Nat} (h:ixN n i=some j):seqIndex? i n=some j∧j < n∧-(n:Int)≤i∧i < n:=by
  unfold ixN at h
  by_cases h0:0≤i
  · rw [if_pos h0] at h
    by_cases h1:i < n
    · rw [if_pos h1] at h
      have e:i.toNat=j:=Option.some.inj h
      exact ⟨by rw [seqIndex_of h0 h1,e],by omega,by omega,h1⟩
    · rw [if_neg h1] at h; cases h
  · rw [if_neg h0] at h
    by_cases h1:-(n:Int)≤i
    · rw [if_pos h1] at h
      have e:(i + n).toNat=j:=Option.some.inj h
      exact ⟨by rw [seqIndex_neg (by omega) h1,e],by omega,h1,by omega⟩
    · rw [if_neg h1] at h; cases h
theorem atI_get {α:Type} {xs:List α} {i:Int} {v:α} (h:atI xs i=some v):∃ j,seqIndex? i xs.length=some j∧xs[j]?=some v∧j < xs.length∧-(xs.length:Int)≤i∧i < xs.length:=by
  unfold atI at h
  cases e:ixN xs.length i with
  | none=>rw [e] at h; cases h
  | some j =>
    rw [e] at h
    obtain ⟨h1,h2,h3,h4⟩:=ixN_seq e
    exact ⟨j,h1,h,h2,h3,h4⟩
noncomputable def PlainIx (b:Expr):Prop:=∀ o i,subscripted b false o i=operate [o,i] (getItem o i)
noncomputable def IxR (X:Cx) (r:R2):Prop :=
  ∀ (value slice:Expr) (pins:List (Addr × Obj)) (s:Shared) (σ:St) (H:Hp) (x y:V) (v u:Value) (Q:VK),Inv X pins σ H s→RelV x v→RelV y u→r x y H Q →
    subscripted slice false v u=operate [v,u] (getItem v u)→wpAny (model X.prog X.w) X.A (subscriptTail value slice v u) (EP X pins σ Q) X.xe s
noncomputable def MtR (X:Cx) (id:String) (r:V→List V→Hp→VK→Prop):Prop :=
  ∀ (pins:List (Addr × Obj)) (s:Shared) (σ:St) (H:Hp) (x:V) (xs:List V) (v:Value) (us:List Value) (Q:VK),Inv X pins σ H s→RelV x v→Vals xs us→r x xs H Q →
    wpAny (model X.prog X.w) X.A (call (.builtin id) (v :: us)) (EP X pins σ Q) X.xe s
section
variable {X:Cx} {a b:Expr} {ta tb:TE} {pos:Pos}
theorem IxR.or {r r':R2} (h:IxR X r) (h':IxR X r'):IxR X (fun x y H Q=>r x y H Q ∨ r' x y H Q):=by
  intro value slice pins s σ H x y v u Q I rx ry q hs
  rcases q with q | q
  · exact h value slice pins s σ H x y v u Q I rx ry q hs
  · exact h' value slice pins s σ H x y v u Q I rx ry q hs
theorem pe_ix {r:R2} (hr:IxR X r) (ha:PE X a ta) (hb:PE X b tb) (hs:PlainIx b):PE X (.Subscript a b pos) (tOp r ta tb):=by
  intro pins s σ H Q I h
  exact Subscript_ (binT ha hb I h fun v u s2 x y H2 I2 rx ry q=>hr a b pins s2 σ H2 x y v u Q I2 rx ry q (hs _ _))
noncomputable def rIxL (K:PySem.W.Frag):R2:=fun x y H Q=>∃ p xs i v,x=.ref p∧y=.int i∧SqL K H p xs∧atI xs i=some v∧Q v H
noncomputable def rIxT (K:PySem.W.Frag):R2:=fun x y H Q=>∃ p xs i v,x=.ref p∧y=.int i∧SqT K H p xs∧atI xs i=some v∧Q v H
noncomputable def rIxS:R2:=fun x y H Q=>∃ z i c,x=.str z∧y=.int i∧z.length≤sizeLine∧atI z.cps.toList i=some c∧Q (.str ⟨#[c]⟩) H
theorem ix_list:IxR X (rIxL X.K):=by
  intro value slice pins s σ H x y v u Q I rx ry h hs
  obtain ⟨p,xs,i,z,rfl,rfl,hq,he,q⟩:=h
  cases rx
  obtain ⟨t,rfl⟩:=ry
  obtain ⟨its,r,pl,hz⟩:=I.list hq
  obtain ⟨j,h1,h2,h3,h4,h5⟩:=atI_get he
  obtain ⟨w,ew,rw'⟩:=r.get h2
  have hl:=r.length
  have hn:=line63
  have fin:EP X pins σ Q w s:=⟨z,H,I,rw',q⟩
  by_cases h0:0≤i
  · have hj:i.toNat=j:=by
      rw [seqIndex_of h0 h5] at h1
      exact Option.some.inj h1
    exact item_listR pl.isList h0 (by omega) (by rw [hj]; simpa using ew) fin hs
  · have hj:(i + (its.toArray.size:Int)).toNat=j:=by
      rw [seqIndex_neg (by omega) h4] at h1
      rw [List.size_toArray,← hl]
      exact Option.some.inj h1
    exact subscriptTail_builtinR (x:=w) pl.isList.typeIs slot_list_getitem.lookup
      (wpAny_getItem_list_neg (Q:=fun r s'=>r=w∧EP X pins σ Q r s') pl.isList (by omega) (by rw [List.size_toArray] <;> omega) (by omega) (by rw [hj]; simpa using ew) ⟨rfl,fin⟩) hs
theorem ix_tup:IxR X (rIxT X.K):=by
  intro value slice pins s σ H x y v u Q I rx ry h hs
  obtain ⟨p,xs,i,z,rfl,rfl,hq,he,q⟩:=h
  cases rx
  obtain ⟨t,rfl⟩:=ry
  obtain ⟨its,r,pl,hz⟩:=I.tuple hq
  obtain ⟨j,h1,h2,h3,h4,h5⟩:=atI_get he
  obtain ⟨w,ew,rw'⟩:=r.get h2
  have hl:=r.length
  have hn:=line63
  have fin:EP X pins σ Q w s:=⟨z,H,I,rw',q⟩
  exact subscriptTail_builtinR (x:=w) pl.typeIs slot_tuple_getitem.lookup
    (getItem_tuple (j:=j) (Q:=fun r s'=>r=w∧EP X pins σ Q r s') pl (by omega) (by omega) (by rw [List.size_toArray,← hl]; exact h1) (by simpa using ew) ⟨rfl,fin⟩) hs
theorem ix_str:IxR X rIxS:=by
  intro value slice pins s σ H x y v u Q I rx ry h hs
  obtain ⟨z,i,c,rfl,rfl,hz,he,q⟩:=h
  obtain ⟨t,rfl⟩:=rx
  obtain ⟨t',rfl⟩:=ry
  obtain ⟨j,h1,h2,h3,h4,h5⟩:=atI_get he
  have hl:z.cps.toList.length=z.length:=by simp [Str.length]
  rw [hl] at h1 h4 h5
  have hn:=line63
  exact tail_any (typeIs_str s z t) slot_str_getitem.lookup (getItem_str (c:=c) (by
    have e1:decide (i < -(2 ^ 63:Int))=false:=decide_eq_false (by omega)
    have e2:decide (i ≥ 2 ^ 63)=false:=decide_eq_false (by omega)
    rw [e1,e2,Bool.or_false]) (by rw [h1]; simpa using h2) ⟨.str ⟨#[c]⟩,H,I.tok _,⟨_,rfl⟩,q⟩) hs
noncomputable def rIx (K:PySem.W.Frag):R2:=fun x y H Q=>rIxL K x y H Q ∨ rIxT K x y H Q ∨ rIxS x y H Q
theorem ix_seq:IxR X (rIx X.K):=ix_list.or (ix_tup.or ix_str)
theorem mapSeq_set (its:List Value) (n j:Nat) (u:Value):Obj.mapSeq (·.setIfInBounds j u) { cls:=.type "list",data:=.seq its.toArray n }={ cls:=.type "list",data:=.seq (its.set j u).toArray n }:=by
  simp [Obj.mapSeq]
theorem Inv.lst {pins:List (Addr × Obj)} {σ:St} {H:Hp} {s:Shared} {p:Addr} {xs:List V} (I:Inv X pins σ H s) (h:H p=some (.lst xs)) :
    ∃ (its:List Value) (n:Nat),Vals xs its∧s.heap.get? p=some { cls:=.type "list",data:=.seq its.toArray n }∧xs.length≤sizeLine:=by
  obtain ⟨z,its,n,r,e⟩:=I.hok p _ h
  exact ⟨its,n,r,e,z⟩
theorem Inv.lstUpd {pins:List (Addr × Obj)} {σ:St} {H:Hp} {s:Shared} {p:Addr} {xs ys:List V} {its its':List Value} {n n':Nat} {f:Obj→Obj} (I:Inv X pins σ H s) (h:H p=some (.lst xs))
    (ho:s.heap.get? p=some { cls:=.type "list",data:=.seq its.toArray n }) (hf:f { cls:=.type "list",data:=.seq its.toArray n }={ cls:=.type "list",data:=.seq its'.toArray n' }) (r:Vals ys its') (hz:ys.length≤sizeLine) (t:Nat) :
    Inv X pins σ (upd H p (.lst ys)) { s with heap:=s.heap.update p f,toks:=t }:=by
  have e:(s.heap.update p f).get? p=some { cls:=.type "list",data:=.seq its'.toArray n' }:=by
    rw [Heap.get?_update_self f ho (by rw [hf] <;> rfl),hf]
  refine I.write (x:=p) (e:=p) (by rw [h]; trivial) (.inl rfl) (fun b u hb q=>(Heap.get?_update_other _ _ (Ne.symm hb)).trans q) ⟨_,e⟩ ?_
  exact ⟨hz,its',n',r,e⟩
noncomputable def rSetL:V→V→V→Hp→(Hp→Prop)→Prop:=fun o i v H Q=>∃ p xs k j,o=.ref p∧i=.int k∧H p=some (.lst xs)∧ixN xs.length k=some j∧Q (upd H p (.lst (xs.set j v)))
theorem set_list:PSet X rSetL:=by
  intro pins s σ H o i v ov iv u Q I ro ri rv h
  obtain ⟨p,xs,k,j,rfl,rfl,hp,hj,q⟩:=h
  cases ro
  obtain ⟨t,rfl⟩:=ri
  obtain ⟨its,n,r,ho,hz⟩:=I.lst hp
  obtain ⟨h1,h2,h3,h4⟩:=ixN_seq hj
  have hl:=r.length
  have hn:=line63
  have I':Inv X pins σ (upd H p (.lst (xs.set j v))) { s with heap:=s.heap.update p (Obj.mapSeq (·.setIfInBounds j u)) } :=
    I.lstUpd hp ho (mapSeq_set its n j u) (r.set rv j) (by rw [List.length_set]; exact hz) s.toks
  by_cases h0:0≤k
  · have hk:k.toNat=j:=by
      rw [seqIndex_of h0 h4] at h1
      exact Option.some.inj h1
    exact PySem.W.ki_setAt ho h0 (by omega) (by rw [List.size_toArray,← hl]; exact h4) (by rw [hk]; exact ⟨_,I',q⟩)
  · have hk:(k + (its.toArray.size:Int)).toNat=j:=by
      rw [seqIndex_neg (by omega) h3] at h1
      rw [List.size_toArray,← hl]
      exact Option.some.inj h1
    exact PySem.W.ki_setBack ho (by omega) (by rw [List.size_toArray,← hl]; exact h3) (by omega) (by rw [hk]; exact ⟨_,I',q⟩)
theorem slice_bounds (lo hi:Option Int) (n:Nat):(sliceBounds lo hi none n).1=((HT.sIx n 0 lo:Nat):Int)∧(sliceBounds lo hi none n).2.1=((HT.sIx n n hi:Nat):Int)∧(sliceBounds lo hi none n).2.2=1:=by
  refine ⟨?_, ?_,rfl⟩
  · cases lo with
    | none=>simp [sliceBounds,HT.sIx]
    | some i =>
      simp only [sliceBounds,HT.sIx,Option.getD_none,show (1:Int) > 0 by decide,if_true]
      by_cases h:i < 0
      · simp only [h,if_true] <;> omega
      · simp only [h,if_false] <;> omega
  · cases hi with
    | none=>simp [sliceBounds,HT.sIx]
    | some i =>
      simp only [sliceBounds,HT.sIx,Option.getD_none,show (1:Int) > 0 by decide,if_true]
      by_cases h:i < 0
      · simp only [h,if_true] <;> omega
      · simp only [h,if_false] <;> omega
theorem slicePick_cut (its:List Value) (lo hi:Option Int):slicePick its.toArray lo hi none=((its.drop (HT.sIx its.length 0 lo)).take (HT.sIx its.length its.length hi - HT.sIx its.length 0 lo)).toArray:=by
  obtain ⟨h1,h2,h3⟩:=slice_bounds lo hi its.toArray.size
  unfold slicePick
  rw [h1,h2,h3]
  simp only [sliceRange_one,pick_run,List.size_toArray] <;> rfl
noncomputable def rSlL (K:PySem.W.Frag):V→Option Int→Option Int→Hp→VK→Prop:=fun x lo hi H Q=>∃ a xs,x=.ref a∧SqL K H a xs∧∀ p,H p=none→Q (.ref p) (upd H p (.lst (cutV xs lo hi)))
theorem sl_list:SlR X (rSlL X.K):=by
  intro pins s σ H x v vl vu lo hi sl Q I rx hs pl pu h
  obtain ⟨a,xs,rfl,hx,q⟩:=h
  cases rx
  obtain ⟨its,r,ht,hz⟩:=I.list hx
  have hlen:=r.length
  refine ⟨"list",_,slot_list_getitem.lookup,ht.isList.typeIs, ?_⟩
  refine wpAny_getItem_list_slice ht.isList hs pl pu .none (by simp) ?_ (by rw [List.size_toArray] <;> omega)
  rw [slicePick_cut,← hlen]
  refine ⟨.ref s.heap.objs.size,_,I.laid (t':=s.toks) (o:=.lst (cutV xs lo hi)) (fun b ob q=>Heap.get?_push_of_some _ q) (Nat.le_refl _) ?_,rfl,q _ (I.hok.fresh (Nat.le_refl _))⟩
  exact ⟨Nat.le_trans (cutV_length xs lo hi) hz,_,0,(r.drop (HT.sIx xs.length 0 lo)).take (HT.sIx xs.length xs.length hi - HT.sIx xs.length 0 lo),Heap.get?_push_size _ rfl⟩
theorem call_len_seq:CallR X (.builtin "len") (fun xs H Q=>∃ p ys,xs=[.ref p]∧(SqL X.K H p ys ∨ SqT X.K H p ys)∧Q (.int ys.length) H):=by
  intro pins s σ H xs us Q I r h
  obtain ⟨p,ys,rfl,hq,q⟩:=h
  obtain ⟨u,rfl,rx⟩:=vals1 r
  cases rx
  have hn:=line63
  rcases hq with hq | hq
  · obtain ⟨its,r',pl,hz⟩:=I.list hq
    have hlen:=r'.length
    exact Calls.call_len_list pl.isList (by simp only [List.size_toArray] <;> omega) ⟨.int ys.length,H,I.tok _,⟨s.toks + 1,by rw [List.size_toArray,hlen]⟩,q⟩
  · obtain ⟨its,r',pl,hz⟩:=I.tuple hq
    have hlen:=r'.length
    exact len_tuple pl (by simp only [List.size_toArray] <;> omega) ⟨.int ys.length,H,I.tok _,⟨s.toks + 1,by rw [List.size_toArray,hlen]⟩,q⟩
theorem call_len_str:CallR X (.builtin "len") (fun xs H Q=>∃ z,xs=[.str z]∧z.length≤sizeLine∧Q (.int z.length) H):=by
  intro pins s σ H xs us Q I r h
  obtain ⟨z,rfl,hz,q⟩:=h
  obtain ⟨u,rfl,t,rfl⟩:=vals1 r
  have hn:=line63
  exact len_str (by omega) ⟨.int z.length,H,I.tok _,⟨_,rfl⟩,q⟩
noncomputable def tyV (K:PySem.W.Frag) (T:String) (x:V) (H:Hp):Prop:=match x with
  | .str _=>T = "str"
  | .int _=>T = "int"
  | .ref p=>(T = "list"∧∃ xs,SqL K H p xs) ∨ (T = "tuple"∧∃ o,K.lookup p=some o∧o.cls=.type "tuple"∧o.dict=none) ∨
      (T = "dict"∧((∃ kvs,H p=some (.dK kvs)) ∨ ∃ kvs,H p=some (.dT kvs))) ∨ (T = "set"∧∃ S n,H p=some (.set S n))
  | _=>False
theorem tyV_is {pins:List (Addr × Obj)} {σ:St} {H:Hp} {s:Shared} {T:String} {x:V} {v:Value} (I:Inv X pins σ H s) (r:RelV x v) (ty:tyV X.K T x H) :
    s.TypeIs v T∧∀ a,v=.ref a→∃ ob,s.heap.get? a=some ob∧ob.dict=none:=by
  cases x with
  | str z =>
    obtain ⟨t,rfl⟩:=r
    cases (show T = "str" from ty)
    exact ⟨typeIs_str s z t,fun _ e=>nomatch e⟩
  | int i =>
    obtain ⟨t,rfl⟩:=r
    cases (show T = "int" from ty)
    exact ⟨typeIs_int s i t,fun _ e=>nomatch e⟩
  | ref p =>
    cases r
    rcases ty with ⟨rfl,xs,hq⟩ | ⟨rfl,o,hk,hc,hd⟩ | ⟨rfl,hk⟩ | ⟨rfl,S,n,hk⟩
    · obtain ⟨its,_,pl,_⟩:=I.list hq
      refine ⟨pl.isList.typeIs,fun a e=>?_⟩
      cases e
      obtain ⟨o,n,e,c,hd,_⟩:=pl
      exact ⟨o,e,hd⟩
    · refine ⟨⟨o,I.kIn p o hk,hc⟩,fun a e=>?_⟩
      cases e
      exact ⟨o,I.kIn _ o hk,hd⟩
    · have z:∃ o,s.heap.get? p=some o∧o.ExactDict:=by
        rcases hk with ⟨kvs,hk⟩ | ⟨kvs,hk⟩
        · obtain ⟨_,_,_,_,o,_,_,e,ex,_⟩:=I.hok p _ hk
          exact ⟨o,e,ex⟩
        · obtain ⟨_,_,_,_,o,_,_,e,ex,_⟩:=I.hok p _ hk
          exact ⟨o,e,ex⟩
      obtain ⟨o,e,ex⟩:=z
      refine ⟨⟨o,e,ex.1⟩,fun a e2=>?_⟩
      cases e2
      exact ⟨o,e,ex.2.1⟩
    · obtain ⟨o,_,_,_,e,ex,_⟩:=I.hok p _ hk
      refine ⟨⟨o,e,ex.1⟩,fun a e2=>?_⟩
      cases e2
      exact ⟨o,e,ex.2.1⟩
  | _=>exact False.elim ty
noncomputable def tBM0 (K:PySem.W.Frag) (T:String) (r:V→List V→Hp→VK→Prop) (to:TE):TE:=fun σ H Q=>to σ H fun x H1=>tyV K T x H1∧r x [] H1 Q
noncomputable def tBM (K:PySem.W.Frag) (T:String) (r:V→List V→Hp→VK→Prop) (to:TE) (t:TA):TE:=fun σ H Q=>to σ H fun x H1=>tyV K T x H1∧t σ H1 fun xs H2=>r x xs H2 Q
variable {o e:Expr} {es:List Expr} {to:TE} {t:TA} {name:Str} {apos cpos:Pos} {T id:String} {r:V→List V→Hp→VK→Prop}
theorem pe_bm0 (pa:PlainAttrs T) (slot:Slot T name id) (hty:typeOf (.builtin id)=pure (.type "method_descriptor")) (hm:MtR X id r) (ho:PE X o to)
    (hbase:attributeBase o name X.env (eval o X.env)=eval o X.env:=by rfl) (hline:(apos.endLine == cpos.line)=true:=by rfl):PE X (.Call (.Attribute o name apos) [] [] cpos) (tBM0 X.K T r to):=by
  intro pins s σ H Q I h
  refine wpAny_Call_method0_late hbase hline (thn (ho pins s σ H _ I h) fun v s1 ⟨x,H1,I1,r1,ty,q1⟩=>?_)
  obtain ⟨h1,h2⟩:=tyV_is I1 r1 ty
  exact ⟨T,id,pa,slot,hty,h1,h2,Calls.callWith_builtin rfl (PySem.evalArgs_none (hm pins s1 σ H1 x [] v [] Q I1 r1 .nil q1))⟩
theorem pe_bm (pa:PlainAttrs T) (slot:Slot T name id) (hty:typeOf (.builtin id)=pure (.type "method_descriptor")) (hm:MtR X id r) (ho:PE X o to) (ha:PA X (e :: es) t)
    (hbase:attributeBase o name X.env (eval o X.env)=eval o X.env:=by rfl)
    (hfew:((backTo cpos (starEach (e :: es) X.env)).all (fun x=>!x.1) && (backToKw cpos (keywordEach [] X.env)).all (fun x=>x.1.isSome)
      && decide ((e :: es).length + ([]:List Keyword).length + (if ([]:List Keyword).isEmpty then 0 else 1) < 30))=true:=by rfl)
    (hline:(apos.endLine == cpos.line)=true:=by rfl) (hs:starEach (e :: es) X.env=(false,eval e X.env) :: starEach es X.env:=by rfl) (hplain:(backTo cpos (starEach es X.env)).any (·.1)=false:=by rfl) :
    PE X (.Call (.Attribute o name apos) (e :: es) [] cpos) (tBM X.K T r to t):=by
  intro pins s σ H Q I h
  refine wpAny_Call_method_late hbase hfew hline rfl (thn (ho pins s σ H _ I h) fun v s1 ⟨x,H1,I1,r1,ty,q1⟩=>?_)
  obtain ⟨h1,h2⟩:=tyV_is I1 r1 ty
  refine ⟨T,id,pa,slot,hty,h1,h2, ?_⟩
  have hA:=ha cpos pins s1 σ H1 _ I1 q1
  rw [hs] at hA ⊢
  refine Calls.callWith_builtin (by show (false || (backTo cpos (starEach es X.env)).any (·.1))=false; rw [hplain] <;> rfl) (Calls.evalArgs_plain ?_)
  exact thn hA fun us s2 ⟨vs,H2,I2,r2,q2⟩=>hm pins s2 σ H2 x vs v us Q I2 r1 r2 q2
end
end L2
namespace L2
open PySem PySem.Spec PyProof.Rows
noncomputable def MtM (X:Cx) (id:String) (r:V→List V→Hp→VK→Prop):Prop :=
  ∀ (pins:List (Addr × Obj)) (s:Shared) (σ:St) (H:Hp) (x:V) (xs:List V) (v:Value) (us:List Value) (Q:VK),Inv X pins σ H s→RelV x v→Vals xs us→r x xs H Q →
    wpAny (model X.prog X.w) X.A (call (.builtin id) (v :: us)) (EP X pins σ Q) X.xe s
theorem Vals.one:∀ {x:V} {us:List Value},Vals [x] us→∃ u,us=[u]∧RelV x u
  | _,_,.cons r .nil=>⟨_,rfl,r⟩
theorem Vals.zero:∀ {us:List Value},Vals [] us→us=[]
  | _,.nil=>rfl
theorem Vals.dropLast {xs:List V} {us:List Value} (h:Vals xs us):Vals xs.dropLast us.dropLast:=by
  induction h with
  | nil=>exact .nil
  | cons r t ih =>
    cases t with
    | nil=>exact .nil
    | cons q t'=>exact .cons r ih
theorem Vals.rep {xs:List V} {us:List Value} (h:Vals xs us):∀ k:Nat,Vals (List.replicate k xs).flatten (List.replicate k us).flatten
  | 0=>.nil
  | k + 1=>by
    rw [List.replicate_succ,List.replicate_succ,List.flatten_cons,List.flatten_cons]
    exact Vals.append h (Vals.rep h k)
theorem erase_last {α:Type} (l:List α):l.eraseIdx (l.length - 1)=l.dropLast:=by
  induction l with
  | nil=>rfl
  | cons a r ih =>
    cases r with
    | nil=>rfl
    | cons b r =>
      have e:(a :: b :: r).length - 1=((b :: r).length - 1) + 1:=by
        have h1:(a :: b :: r).length=r.length + 2:=rfl
        have h2:(b :: r).length=r.length + 1:=rfl
        omega
      rw [e,List.eraseIdx_cons_succ,ih]
      all_goals rfl
theorem foldl_rep (its:List Value):∀ (k:Nat) (acc:List Value),
    List.foldl (fun x1 x2=>x1 ++ x2) acc.toArray (List.replicate k its.toArray)=(acc ++ (List.replicate k its).flatten).toArray
  | 0,acc=>by simp
  | k + 1,acc=>by
    have e:acc.toArray ++ its.toArray=(acc ++ its).toArray:=by simp
    have e2:(acc ++ its) ++ (List.replicate k its).flatten=acc ++ (List.replicate (k + 1) its).flatten:=by
      rw [List.replicate_succ,List.flatten_cons,List.append_assoc]
    rw [← e2,← foldl_rep its k (acc ++ its),← e,List.replicate_succ,List.foldl_cons]
section
variable {X:Cx} {pins:List (Addr × Obj)} {σ:St} {H:Hp} {s:Shared} {l b:Addr} {xs ys zs:List V}
theorem Inv.lset {its its':List Value} {n:Nat} {f:Array Value→Array Value} {t':Nat} (I:Inv X pins σ H s) (hH:H l=some (.lst xs))
    (e:s.heap.get? l=some { cls:=.type "list",data:=.seq its.toArray n }) (hf:f its.toArray=its'.toArray) (hv:Vals ys its') (hz:ys.length≤sizeLine) :
    Inv X pins σ (upd H l (.lst ys)) { s with heap:=s.heap.update l (Obj.mapSeq f),toks:=t' }:=by
  have q:=PySem.IsL.update e f
  rw [hf] at q
  refine I.write (x:=l) (e:=l) (by rw [hH]; exact trivial) (.inl rfl) (fun b' u hb hu=>(Heap.get?_update_other s.heap (Obj.mapSeq f) (Ne.symm hb)).trans hu) ⟨_,q⟩ ?_
  exact ⟨hz,its',_,hv,q⟩
theorem Inv.lnew {its:List Value} {t':Nat} (I:Inv X pins σ H s) (hv:Vals ys its) (hz:ys.length≤sizeLine) :
    Inv X pins σ (upd H s.heap.objs.size (.lst ys)) { s with heap:=s.heap.push { cls:=.type "list",data:=.seq its.toArray },toks:=t' } :=
  I.laid (fun _ _ q=>Heap.get?_push_of_some _ q) (Nat.le_refl _) ⟨hz,its,0,hv,Heap.get?_push_size _ rfl⟩
theorem Inv.fresh (I:Inv X pins σ H s):H s.heap.objs.size=none:=I.hok.fresh (Nat.le_refl _)
theorem Inv.lstM (I:Inv X pins σ H s) (hH:H l=some (.lst xs)):xs.length≤sizeLine∧∃ (its:List Value) (n:Nat),Vals xs its∧xs.length=its.length∧s.heap.get? l=some { cls:=.type "list",data:=.seq its.toArray n }:=by
  obtain ⟨z,its,n,r,e⟩:=I.hok l _ hH
  exact ⟨z,its,n,r,r.length,e⟩
theorem notLongL {n:Nat} (h:n≤sizeLine):Builtin.List.listTooLong n=false:=by
  unfold Builtin.List.listTooLong
  exact decide_eq_false (by omega)
end
section
variable {X:Cx}
noncomputable def rAppend:V→List V→Hp→VK→Prop:=fun x vs H Q=>∃ l xs y,x=.ref l∧vs=[y]∧H l=some (.lst xs)∧xs.length < sizeLine∧Q .non (upd H l (.lst (xs ++ [y])))
theorem mt_append:MtM X "list.append" rAppend:=by
  intro pins s σ H x vs v us Q I rx rv h
  obtain ⟨l,xs,y,rfl,rfl,hH,hz,q⟩:=h
  cases rx
  obtain ⟨u,rfl,ru⟩:=rv.one
  obtain ⟨z,its,n,r,hl,e⟩:=I.lstM hH
  refine call_meets F.slot_list_append ⟨_,e,rfl⟩ F.entry_list_append (F.args_list_append_2 _ _) (PySem.list_append l its.toArray n u (by rw [List.size_toArray]; omega)) ⟨e, ?_⟩
  refine ⟨.non,_,I.lset (its':=its ++ [u]) hH e (by simp) (r.append (.cons ru .nil)) ?_,rfl,q⟩
  rw [List.length_append,List.length_singleton]
  omega
noncomputable def rPop:V→List V→Hp→VK→Prop:=fun x vs H Q=>∃ l xs y,x=.ref l∧vs=[]∧H l=some (.lst xs)∧xs[xs.length - 1]?=some y∧Q y (upd H l (.lst xs.dropLast))
theorem mt_pop:MtM X "list.pop" rPop:=by
  intro pins s σ H x vs v us Q I rx rv h
  obtain ⟨l,xs,y,rfl,rfl,hH,hy,q⟩:=h
  cases rx
  have hus:=rv.zero
  subst hus
  obtain ⟨z,its,n,r,hl,e⟩:=I.lstM hH
  obtain ⟨u,hu,ru⟩:=r.get hy
  have hy':its.toArray[its.toArray.size - 1]?=some u:=by
    show its.toArray[its.length - 1]?=some u
    rw [← Array.getElem?_toList,← hl]
    exact hu
  refine call_meets F.slot_list_pop ⟨_,e,rfl⟩ F.entry_list_pop (F.args_list_pop_1 _) (MeetsSeq.list_pop_last l its.toArray n u hy' (by rw [List.size_toArray]; omega)) ⟨e, ?_⟩
  refine ⟨y,_,I.lset (its':=its.dropLast) hH e ?_ r.dropLast ?_,ru,q⟩
  · show its.toArray.eraseIdxIfInBounds (its.toArray.size - 1)=its.dropLast.toArray
    rw [List.size_toArray,List.eraseIdxIfInBounds_toArray,erase_last]
  · rw [List.length_dropLast]
    omega
noncomputable def rRep:R2:=fun x y H Q=>∃ l k xs,x=.ref l∧y=.int k∧H l=some (.lst xs)∧-(2 ^ 63)≤k∧k < 2 ^ 63∧xs.length * k.toNat≤sizeLine ∧
  ∀ p,H p=none→Q (.ref p) (upd H p (.lst (List.replicate k.toNat xs).flatten))
theorem len_rep {α:Type} (xs:List α) (k:Nat):(List.replicate k xs).flatten.length=k * xs.length:=by
  induction k with
  | zero=>simp
  | succ k ih=>rw [List.replicate_succ,List.flatten_cons,List.length_append,ih,Nat.succ_mul,Nat.add_comm]
theorem op_rep:OpR X (binaryOp .Mult) rRep:=by
  intro pins s σ H x y v u Q I rx ry h
  obtain ⟨l,k,xs,rfl,rfl,hH,h1,h2,hz,q⟩:=h
  cases rx
  obtain ⟨t,rfl⟩:=ry
  obtain ⟨z,its,n,r,hl,e⟩:=I.lstM hH
  have hlen:its.toArray.size * k.toNat≤sizeLine:=by rw [List.size_toArray,← hl]; exact hz
  have hcap:¬ its.toArray.size * k.toNat > (2 ^ 63 - 1) / 8:=by
    have:(sizeLine:Nat)≤(2 ^ 63 - 1) / 8:=by decide
    omega
  have hfit:¬ (!Builtin.List.listFitsIndex k)=true:=by
    rw [fitsIndex_both h1 h2]
    exact Bool.false_ne_true
  have hlong:¬ Builtin.List.listTooLong (its.toArray.size * k.toNat)=true:=by
    rw [notLongL hlen]
    exact Bool.false_ne_true
  have hnew:List.foldl (fun x1 x2=>x1 ++ x2) #[] (List.replicate (if its.toArray.isEmpty=true then 0 else k.toNat) its.toArray)=(List.replicate k.toNat its).flatten.toArray:=by
    have f0:∀ m:Nat,List.foldl (fun x1 x2=>x1 ++ x2) #[] (List.replicate m its.toArray)=(List.replicate m its).flatten.toArray:=fun m=>by
      have:=foldl_rep its m []
      rw [List.nil_append] at this
      exact this
    rw [f0]
    cases its with
    | nil=>simp
    | cons a r'=>rw [if_neg (by simp)]
  refine wpAny_binaryOp_repeat_ref (T := "list") (U := "int") (by decide) ⟨_,e,rfl⟩ (fun s'=>typeIs_int s' k t) noFill_list_mul F.fills_int_mul F.slot_int_rmul repeat_list F.slot_int_index.lookup
    (call_meets F.slot_int_rmul (typeIs_int s k t) F.entry_int_rmul (F.args_int_rmul_2 _ _) (int___rmul___int_list k t l its.toArray n)
      ⟨e,rfl,⟨_,e,rfl⟩,call_meets F.slot_list_mul ⟨_,e,rfl⟩ F.entry_list_mul (F.args_list_mul_2 _ _) (AutoListH.list___mul___list_int_3 l its.toArray n k t hfit hcap hlong) ⟨e, ?_⟩⟩)
  rw [hnew]
  exact ⟨.ref _,_,I.lnew (t':=s.toks) (r.rep k.toNat) (by rw [len_rep,Nat.mul_comm]; exact hz),rfl,q _ I.fresh⟩
end
section
variable {prog:Program} {w:World} {A:Around} {E:Value→Shared→Prop} {s:Shared}
set_option maxRecDepth 100000 in
end
section
variable {X:Cx}
end
end L2
namespace Att
open PySem PySem.W PySem.Calls PyProof.Rows
theorem ints_of_wellAll {P:Params} {h:Heap}:∀ (ns:List Int) (vs:List Value),WellAll P h vs (ns.map WData.int)→IntsAre vs ns:=by
  intro ns
  induction ns with
  | nil =>
    intro vs w
    rw [List.map_nil] at w
    cases w
    exact .nil
  | cons n ns ih =>
    intro vs w
    rw [List.map_cons] at w
    cases w with
    | cons a b =>
      cases a
      exact .cons _ _ (ih _ b)
theorem script_of {l:OpenLaw} {n:Nat} (hn:l.most=some n) {P:Params} {h:Heap} {args:List WData} {vals:List Value}
    (hpre:l.row.toRowW.claim.pre args=true) (hwl:WellAll P h vals args) :
    ∃ a vs ns,vals=[Value.ref a]∧args=[WData.list (ns.map WData.int)]∧h.get? a=some { cls:=.type "list",data:=.seq vs.toArray }∧IntsAre vs ns∧ns.length≤n:=by
  have hsh:WShape.hasAll [] args [.list .int]=true:=(pre_splitW hpre).1
  have hc:l.pre.holds [] { args:=args }=true:=(pre_splitW hpre).2
  obtain ⟨d,r,rfl,h1,h2⟩:=hasAllW_cons hsh
  obtain rfl:=hasAllW_nil h2
  obtain ⟨xs,rfl,h3⟩:=hasW_list h1
  obtain ⟨ns,rfl⟩:=items_int h3
  have hlen:ns.length≤n:=by
    unfold OpenLaw.pre at hc
    have h4:(WTm.not (.lt (.lit (.int (n:Int))) (.len (.arg 0)))).holds [] { args:=[.list (ns.map .int)] }=true:=by
      have h4:=(holds_andW hc).1
      rw [hn] at h4
      exact h4
    have h5:=condW_of h4 (w_not (w_lt w_lit (w_len_list (w_arg rfl))))
    rw [List.length_map] at h5
    refine Nat.le_of_not_lt fun q=>?_
    have q':(n:Int) < ((ns.length:Nat):Int):=by omega
    first
      | (rw [decide_eq_true q'] at h5; exact absurd h5 (by decide))
      | (simp at h5; omega)
  cases hwl with
  | cons w1 w2 =>
    cases w2
    cases w1 with
    | list ho hall=>exact ⟨_,_,ns,rfl,rfl,ho,ints_of_wellAll ns _ hall,hlen⟩
theorem post_true (l:OpenLaw) (args:List WData):l.row.toRowW.claim.post args (.bool true) args=true :=
  postW_of (r:=l.row.toRowW) (X:=(true == true))
    (show WShape.has [] (.bool true) .bool=true by first | rfl | decide | simp [WShape.has,WShape.arms,WShape.armsAll])
    (show (WTm.eq .res (.lit (.bool true))).value [] { args:=args,res:=some (.bool true),after:=args }=some (.bool (true == true)) from w_eq_bool (w_res rfl) w_lit) rfl
theorem attach_call {l:OpenLaw} {n:Nat} {q:Program} {loose:List Str} {XP:(Str→Option Value)→Heap→Prop} {YP:World→Heap→Prop} {d:DefRec}
    (hn:l.most=some n) (hdf:d.params.defaults=[])
    (call:∀ (w:World) (s₀ s₁:Shared) (mg mb:Str→Option Value) (fa:Addr) (o:Obj) (pm cd doc:Value) (a:Addr) (vs:List Value) (ns:List Int),
      Ground q loose [] XP w s₀ mg mb s₁.heap→YP w s₁.heap →
      s₁.heap.get? fa=some o→o.data=.func (docDef d.name d.params d.body d.scope pm cd doc)→s₁.heap.CodeRec cd d.name→mg d.name=some (.ref fa) →
      s₁.heap.get? a=some { cls:=.type "list",data:=.seq vs.toArray }→IntsAre vs ns→ns.length≤n→s₁.gens=#[] →
      codeAny (model l.prog w) callerA (.call (.ref fa) ⟨[.ref a],[]⟩) (fun r s'=>r=.ok (.ret (.bool true))∧OldK s₁.heap s'.heap∧s'.os=s₁.os∧AllBare s'.gens) s₁) :
    WalkO q loose XP YP l.row.toRowW d [] (fun f vs=>PySem.call f vs):=by
  intro w s₀ s₁ mg mb G Y fa o pm cd doc dV kV ho hd hcd hD hmg hg args vals as hpre hlay hrd hwl hlo
  obtain rfl:dV=.none:=Dflts.none hD hdf
  obtain rfl:kV=.none:=Dflts.noKw hD
  obtain ⟨a,vs,ns,rfl,rfl,hobj,hints,hlen⟩:=script_of hn hpre hwl
  refine enter_call (codeAny_mono (call w s₀ s₁ mg mb fa o pm cd doc a vs ns G Y ho (fd_plain hd) hcd hmg hobj hints hlen hg) fun r s' hq=>?_)
  obtain ⟨rfl,h2,h3,h4⟩:=hq
  exact ⟨.inl ⟨.bool true,.bool true,[],rfl,fun _=>rfl,.bool true,post_true l _,fun _=>⟨List.Pairwise.nil,fun _ hm=>(nomatch hm)⟩⟩,h2,h3,h4⟩
section
variable {prog:Program} {w:World} {A:Around} {E:Value→Shared→Prop} {s:Shared} {K:Frag}
end
end Att
namespace L2
open PySem PySem.Spec PyProof.Rows
theorem vals_ints:∀ {vs:List Value} {ns:List Int},IntsAre vs ns→Vals (ns.map V.int) vs
  | _,_,.nil=>.nil
  | _,_,.cons n t h=>.cons ⟨t,rfl⟩ (vals_ints h)
noncomputable def Only (H:Hp):Prop:=∀ b,H b=none ∨ ∃ o xs,H b=some (.frz o (.lst xs))
theorem law_call {P:Program} {w:World} {K:PySem.W.Frag} {mg mb:Str→Option Value} {CX:CXT} {k:Nat} {fa a:Addr} {fd:FuncData} {x:Str} {sp:Sp} {s₁:Shared} {vs:List Value} {ns:List Int}
    (KX:K.In s₁.heap) (hns:s₁.heap.Ns mainGlobals mg) (hb:s₁.heap.Ns builtinsNs mb) (hbb:∀ x:Str,x ≠ "__name__"→mb x=bootBuiltins x) (hlim:s₁.heap.NoLimit) (hg:s₁.gens=#[])
    (ha:s₁.heap.get? a=some { cls:=.type "list",data:=.seq vs.toArray }) (hi:IntsAre vs ns) (hl:ns.length≤sizeLine) (hr:Room k callerA)
    (F:∀ base:Heap,K.In base→base.Ns mainGlobals mg→FnOk P w K mg base CX k fa fd [x] sp) (hbind:∀ (s:Shared) (u:Value),BindsTo s fd ⟨[u],[]⟩ [(x,u)])
    (hsp:∀ H:Hp,Only H→SqL K H a (ns.map V.int)→sp [.ref a] H (fun v _=>v=.bl true) fun _ _ _=>False)
    (hCX:∀ H e s',CX [] H s₁ (fun _ _ _=>False) e s'→False) :
    codeAny (model P w) callerA (.call (.ref fa) ⟨[.ref a],[]⟩) (fun r s'=>r=.ok (.ret (.bool true))∧OldK s₁.heap s'.heap∧s'.os=s₁.os∧AllBare s'.gens) s₁:=by
  have rv:=vals_ints hi
  have lenV:=hi.length
  have core:∀ H:Hp,Only H→SqL K H a (ns.map V.int)→HOk P w H s₁.heap→(∀ b,H b≠none→b=a)→(H a≠none→K.lookup a=none) →
      codeAny (model P w) callerA (.call (.ref fa) ⟨[.ref a],[]⟩) (fun r s'=>r=.ok (.ret (.bool true))∧OldK s₁.heap s'.heap∧s'.os=s₁.os∧AllBare s'.gens) s₁:=by
    intro H hO hS hok hA hK
    have base_of:∀ {b:Addr} {o:Obj},s₁.heap.get? b=some o→H b=none→(hidT s₁.heap H).get? b=some o:=fun e n=>hidT_get e n
    have noA:∀ {b:Addr} {o:Obj} {es:Array DictEntry} {ep:Nat},s₁.heap.get? b=some o→o.data=.dict es ep→H b=none:=fun {b o es ep} e d=>by
      cases q:H b with
      | none=>rfl
      | some u =>
        have e':b=a:=hA b (by rw [q]; simp)
        subst e'
        rw [ha] at e; cases e
        have d':Data.seq vs.toArray _=Data.dict es ep:=d
        cases d'
    have nsK:∀ {b:Addr} {m:Str→Option Value},s₁.heap.Ns b m→(hidT s₁.heap H).Ns b m:=fun {b m} ⟨o,es,ep,e,d,r⟩=>⟨o,es,ep,base_of e (noA e d),d,r⟩
    have hKb:K.In (hidT s₁.heap H):=fun b o e=>base_of (KX b o e) (by
      cases q:H b with
      | none=>rfl
      | some u =>
        have e':b=a:=hA b (by rw [q]; simp)
        subst e'
        rw [hK (by rw [q]; simp)] at e; cases e)
    have hM:Mod K mg (hidT s₁.heap H):=⟨hKb,nsK hns,⟨mb,nsK hb,hbb⟩,let ⟨mc,h1,h2⟩:=hlim; ⟨mc,nsK h1,h2⟩⟩
    have e0:Env0 P w K mg (hidT s₁.heap H) callerA [] s₁ H:=⟨rfl,hM,fun b o e=>of_hidT e,Nat.le_of_eq (hidT_size _ _),trivial,fun b hb=>absurd (show b∈([]:List Addr) from hb) (by simp),hok,.of_eq hg⟩
    refine codeAny_mono ((F _ hKb (nsK hns)).run callerA [] s₁ H ⟨[.ref a],[]⟩ [.ref a] [.ref a] _ _ hr e0 (hbind s₁ (.ref a)) (.cons rfl .nil) (hsp H hO hS)) fun r s' h=>?_
    cases r with
    | error e=>exact (hCX H e s' h).elim
    | ok fl =>
      cases fl with
      | next=>exact False.elim h
      | brk=>exact False.elim h
      | cont=>exact False.elim h
      | ret u =>
        obtain ⟨v,H',os,bare,un,hok',r',q⟩:=h
        have q':v=.bl true:=q
        subst q'
        obtain rfl:u=Value.bool true:=r'
        refine ⟨rfl,OldK.of_keep fun b o e=>?_,os,bare⟩
        cases q:H b with
        | none=>exact un.keep b o e q (by intro z; exact absurd (show b∈([]:List Addr) from z) (by simp)) (by simp)
        | some u =>
          rcases hO b with z | ⟨ob,xs,z⟩
          · rw [q] at z; cases z
          · have z2:=un.frzs b ob _ z
            obtain ⟨e1,_⟩:=hok b _ z
            obtain ⟨e2,_⟩:=hok' b _ z2
            rw [e] at e1; cases e1
            exact e2
  cases hk:K.lookup a with
  | some o =>
    have e:=KX a o hk
    rw [ha] at e
    cases e
    refine core (fun _=>none) (fun _=>.inl rfl) (.inr ⟨_,vs.toArray,_,hk,rfl,rfl,rfl,by rw [List.size_toArray,lenV]; exact hl,by simpa using rv⟩) (fun b u z=>by have z':(none:Option HO)=some u:=z; cases z') (fun b z=>absurd rfl z) fun z=>absurd rfl z
  | none =>
    refine core (fun b=>if b=a then some (.frz { cls:=.type "list",data:=.seq vs.toArray } (.lst (ns.map V.int))) else none) (fun b=>?_) (.inl (.inr ⟨{ cls:=.type "list",data:=.seq vs.toArray },if_pos rfl⟩)) (fun b u z=>?_) (fun b z=>?_) fun _=>hk
    · by_cases hb:b=a
      · exact .inr ⟨_,_,if_pos hb⟩
      · exact .inl (if_neg hb)
    · by_cases hb:b=a
      · have z':=(if_pos hb).symm.trans z
        cases z'
        subst hb
        exact ⟨ha,by rw [List.length_map]; exact hl,vs,_,rv,ha⟩
      · have z':=(if_neg hb).symm.trans z
        cases z'
    · by_cases hb:b=a
      · exact hb
      · exact absurd (if_neg hb) z
end L2
namespace L2
open PySem PySem.Spec PyProof.Rows
noncomputable abbrev KOf {K:PySem.W.Frag} {h:Heap} (_:K.In h):PySem.W.Frag:=K
theorem walk_of {l:PySem.W.OpenLaw} {n k:Nat} {q:Program} {loose:List Str} {XP:(Str→Option Value)→Heap→Prop} {YP:World→Heap→Prop} {d:DefRec} {K:Params→PySem.W.Frag} {CX:World→CXT} {sp:World→Sp} {x:Str}
    (hn:l.most=some n) (hn2:n≤sizeLine) (hdf:d.params.defaults=[]) (hr:Room k callerA)
    (hY:∀ (w:World) (h:Heap),YP w h→(K w.params).In h)
    (F:∀ (w:World) (mg:Str→Option Value) (fa:Addr) (h:Heap),(K w.params).In h→h.Ns mainGlobals mg→mg d.name=some (.ref fa) →
      ∃ fd:FuncData,(∀ (s:Shared) (u:Value),BindsTo s fd ⟨[u],[]⟩ [(x,u)]) ∧
        ∀ base:Heap,(K w.params).In base→base.Ns mainGlobals mg→FnOk l.prog w (K w.params) mg base (CX w) k fa fd [x] (sp w))
    (hsp:∀ (w:World) (H:Hp) (a:Addr) (ns:List Int),ns.length≤n→Only H→SqL (K w.params) H a (ns.map V.int)→sp w [.ref a] H (fun v _=>v=.bl true) fun _ _ _=>False)
    (hCX:∀ (w:World) (H:Hp) (s:Shared) (e:Value) (s':Shared),CX w [] H s (fun _ _ _=>False) e s'→False) :
    PySem.W.WalkO q loose XP YP l.row.toRowW d [] (fun f vs=>PySem.call f vs):=by
  refine Att.attach_call hn hdf fun w s₀ s₁ mg mb fa o pm cd doc a vs ns G Y ho hd hcd hmg hobj hints hlen hg=>?_
  have KX:=hY w _ Y
  obtain ⟨fd,hb,hF⟩:=F w mg fa _ KX G.T.g hmg
  exact law_call KX G.T.g G.T.b G.T.builtins G.T.nolimit hg hobj hints (Nat.le_trans hlen hn2) hr hF hb (fun H hO hS=>hsp w H a ns hlen hO hS) fun H e s'=>hCX w H s₁ e s'
theorem walk_ofK {l:PySem.W.OpenLaw} {n k:Nat} {q:Program} {loose:List Str} {XP:(Str→Option Value)→Heap→Prop} {YP:World→Heap→Prop} {d:DefRec} {K:Params→PySem.W.Frag} {CX:CXT} {sp:PySem.W.Frag→Sp} {x:Str}
    (hn:l.most=some n) (hn2:n≤sizeLine) (hdf:d.params.defaults=[]) (hr:Room k callerA)
    (hY:∀ (w:World) (h:Heap),YP w h→(K w.params).In h)
    (F:∀ (w:World) (mg:Str→Option Value) (fa:Addr) (h:Heap),(K w.params).In h→h.Ns mainGlobals mg→mg d.name=some (.ref fa) →
      ∃ fd:FuncData,(∀ (s:Shared) (u:Value),BindsTo s fd ⟨[u],[]⟩ [(x,u)]) ∧
        ∀ base:Heap,(K w.params).In base→base.Ns mainGlobals mg→FnOk l.prog w (K w.params) mg base CX k fa fd [x] (sp (K w.params)))
    (hsp:∀ (K:PySem.W.Frag) (H:Hp) (a:Addr) (ns:List Int),ns.length≤n→Only H→SqL K H a (ns.map V.int)→sp K [.ref a] H (fun v _=>v=.bl true) fun _ _ _=>False)
    (hCX:∀ (H:Hp) (s:Shared) (e:Value) (s':Shared),CX [] H s (fun _ _ _=>False) e s'→False) :
    PySem.W.WalkO q loose XP YP l.row.toRowW d [] (fun f vs=>PySem.call f vs) :=
  walk_of (K:=K) (CX:=fun _=>CX) (sp:=fun w=>sp (K w.params)) hn hn2 hdf hr hY F (fun w H a ns h1 h2 h3=>hsp (K w.params) H a ns h1 h2 h3) fun _ H s e s'=>hCX H s e s'
end L2
namespace L2
open PySem PySem.Spec PyProof.Rows
noncomputable def inClass (s:Stmt) (j:Nat):Stmt:=match s with
  | .ClassDef _ _ _ body _ _ _ _ _ _ _=>body.getD j (.Pass ⟨0,0,0,0⟩)
  | _=>.Pass ⟨0,0,0,0⟩
noncomputable def defArgs (s:Stmt):Arguments:=match s with
  | .FunctionDef _ a _ _ _ _ _ _ _ _=>a
  | _=>{ posonlyargs:=[],args:=[],vararg:=none,kwonlyargs:=[],kw_defaults:=[],kwarg:=none,defaults:=[] }
noncomputable def defBody (s:Stmt):List Stmt:=match s with
  | .FunctionDef _ _ b _ _ _ _ _ _ _=>b
  | _=>[]
noncomputable def defScope (s:Stmt):Scope:=match s with
  | .FunctionDef _ _ _ _ _ _ sc _ _ _=>sc
  | _=>{ kind:=.function,names:=[],isGenerator:=false,isCoroutine:=false }
noncomputable abbrev CX0:CXT:=fun _ _ _ _ _ _=>False
noncomputable abbrev E0:XK:=fun _ _ _=>False
theorem pass0 {X:Cx}:Passes CX0 X E0:=fun _ _ _ _ _ _ _ h=>h.elim
structure Fun (K:PySem.W.Frag) (x qual:Str) (st:Stmt) (f:Addr) (fd:FuncData):Prop where
  ex:∃ (oc:Value) (od:Option Addr) (kV doc pm:Value) (an:Option Addr) (cdv ct:Value) (osl:Array (Option Value)),
    fd=PySem.W.fnOf x qual (defArgs st) (defBody st) (defScope st) .none kV doc pm an cdv ct∧K.lookup f=some ⟨oc,od,.func fd,osl⟩∧PySem.W.codeIn K cdv qual=true
  kp:PySem.W.keepIn K (.ref f)=true
section
variable {P:Program} {w:World} {K:PySem.W.Frag} {mg:Str→Option Value} {base:Heap}
theorem Fun.ok {x qual:Str} {st:Stmt} {f:Addr} {fd:FuncData} {N ps:List Str} {k:Nat} {sp:Sp} (F:Fun K x qual st f fd) (S:FnScope N ps (defScope st)) (len:∀ vs H Q E,sp vs H Q E→vs.length=ps.length)
    (hbody:∀ (cdv:Value) (A:Around) (outer:List Env) (s:Shared) (H:Hp) (vs:List V) (Q:VK) (E:XK),Room k (A.deeper (envOfC qual (defScope st) s.heap.objs.size f cdv))→sp vs H Q E →
      ∃ t,PSs (cxOf CX0 P w K mg base N qual (defScope st) f cdv A outer s H E).nox (defBody st) t∧t { nx:=fun _ H'=>Q .non H',rt:=Q } (start N vs) H):FnOk P w K mg base CX0 (k + 1) f fd ps sp:=by
  obtain ⟨oc,od,kV,doc,pm,an,cdv,ct,osl,rfl,lk,hcd⟩:=F.ex
  refine fn_of lk hcd S len fun A outer s H vs Q E hr hsp=>?_
  obtain ⟨t,h,q⟩:=hbody cdv A outer s H vs Q E hr hsp
  exact ⟨t,h.nox,q⟩
theorem Fun.binds {x qual:Str} {st:Stmt} {f:Addr} {fd:FuncData} {ps:List Str} (F:Fun K x qual st f fd)
    (h:∀ (kV doc pm:Value) (an:Option Addr) (cdv ct:Value) (us:List Value),us.length=ps.length→bindArgs (PySem.W.fnOf x qual (defArgs st) (defBody st) (defScope st) .none kV doc pm an cdv ct) ⟨us,[]⟩=pure (ps.zip us)):Binds K fd ps []:=by
  obtain ⟨oc,od,kV,doc,pm,an,cdv,ct,osl,rfl,lk,hcd⟩:=F.ex
  exact .all (h kV doc pm an cdv ct)
theorem fun_mk {x qual:Str} {st:Stmt} {f:Addr} {oc:Value} {od an:Option Addr} {osl:Array (Option Value)} {kV doc pm cdv ct:Value} (l:K.lookup f=some ⟨oc,od,.func (PySem.W.fnOf x qual (defArgs st) (defBody st) (defScope st) .none kV doc pm an cdv ct),osl⟩)
    (c:PySem.W.codeIn K cdv qual=true) (k:PySem.W.keepIn K (.ref f)=true):Fun K x qual st f (PySem.W.fnOf x qual (defArgs st) (defBody st) (defScope st) .none kV doc pm an cdv ct):=⟨⟨oc,od,kV,doc,pm,an,cdv,ct,osl,rfl,l,c⟩,k⟩
end
section
variable {X:Cx}
theorem pv (i:Nat) {x:Str} {pos:Pos} (hN:X.N[i]?=some x:=by rfl) (hv:Vis X.env.scope x:=by first | exact Or.inl rfl | exact Or.inr (Or.inl rfl) | exact Or.inr (Or.inr rfl)) (hd:(x == ("__debug__":Str))=false:=by decide)
    (hcd:(x == ("__classdict__":Str))=false:=by decide):PE X (.Name x pos) (tVar i):=pe_var hN hv hd hcd
end
noncomputable def Same (H H':Hp):Prop:=∀ b o,H b=some o→H' b=some o
theorem Same.refl (H:Hp):Same H H:=fun _ _ h=>h
theorem Same.trans {H H1 H2:Hp} (a:Same H H1) (b:Same H1 H2):Same H H2:=fun c o h=>b c o (a c o h)
theorem Same.free {H H':Hp} (e:Same H H') {l:Addr} (h:H' l=Option.none):H l=Option.none:=by
  cases q:H l with
  | none=>rfl
  | some o =>
    rw [e l o q] at h
    cases h
end L2
set_option maxHeartbeats 4000000
namespace L2
open PySem PySem.Spec PyProof.Rows
noncomputable def clOf (scope:Scope) (env:Env):List (Str × Addr) :=
  ((scope.names.filter fun p=>p.2 == .free).reverse).map fun p=>(p.1,(env.cells.lookup p.1).getD 0)
theorem lookup_of_mem {β:Type}:∀ {l:List (Str × β)} {a:Str} {b:β},(a,b)∈l→∃ c,l.lookup a=some c
  | [],_,_,h=>absurd h (by simp)
  | (n,v) :: r,a,b,h=>by
    cases e:a == n with
    | true=>exact ⟨v,by simp [List.lookup_cons,e]⟩
    | false =>
      rcases List.mem_cons.mp h with z | z
      · cases z; simp at e
      · obtain ⟨c,hc⟩:=lookup_of_mem z
        exact ⟨c,by simp [List.lookup_cons,e,hc]⟩
theorem relabel_look {env:Env}:∀ {names:List (Str × NameKind)} {y:Str} {k:NameKind},(∀ p∈names,p.2≠.cell) →
    (names.map fun (n,k)=>if (k == NameKind.free && env.scope.kind == .function && env.kindOf n == some .cell) then (n,NameKind.cell) else (n,k)).lookup y=some k →
    (k=.local→names.lookup y=some .local)∧(k=.cell ∨ k=.free→names.lookup y=some .free)
  | [],_,_,_,h=>by simp at h
  | (n,k0) :: r,y,k,nc,h=>by
    have ih:=@relabel_look env r y k (fun p hp=>nc p (List.mem_cons_of_mem _ hp))
    have nc0:=nc (n,k0) List.mem_cons_self
    have h':List.lookup y ((if (k0 == NameKind.free && env.scope.kind == .function && env.kindOf n == some .cell)=true then (n,NameKind.cell) else (n,k0)) :: (r.map fun (n,k)=>if (k == NameKind.free && env.scope.kind == .function && env.kindOf n == some .cell) then (n,NameKind.cell) else (n,k)))=some k:=h
    cases hx:y == n with
    | true =>
      by_cases hc:(k0 == NameKind.free && env.scope.kind == .function && env.kindOf n == some .cell)=true
      · rw [if_pos hc] at h'
        simp only [List.lookup_cons,hx] at h'
        have hk:NameKind.cell=k:=Option.some.inj h'
        subst hk
        have hf:k0=.free:=by
          simp only [Bool.and_eq_true] at hc
          exact beq_iff_eq.mp hc.1.1
        subst hf
        exact ⟨(fun z=>nomatch z),fun _=>by simp [List.lookup_cons,hx]⟩
      · rw [if_neg hc] at h'
        simp only [List.lookup_cons,hx] at h'
        have hk:k0=k:=Option.some.inj h'
        subst hk
        refine ⟨fun z=>by subst z; simp [List.lookup_cons,hx],fun z=>?_⟩
        rcases z with z | z
        · exact absurd z nc0
        · subst z; simp [List.lookup_cons,hx]
    | false =>
      by_cases hc:(k0 == NameKind.free && env.scope.kind == .function && env.kindOf n == some .cell)=true
      · rw [if_pos hc] at h'
        simp only [List.lookup_cons,hx] at h'
        have:=ih h'
        simpa [List.lookup_cons,hx] using this
      · rw [if_neg hc] at h'
        simp only [List.lookup_cons,hx] at h'
        have:=ih h'
        simpa [List.lookup_cons,hx] using this
noncomputable def blk (X:Cx) (scope:Scope) (x:Str) (C:Addr) (ex:List Addr) (s₂:Shared) (H₂:Hp):Cx :=
  { X with N:=X.N ++ [x],s₀:=s₂,H₀:=H₂,env:=compEnvC scope (clOf scope X.env) C X.env,outer:=X.stack,ex:=ex,fn:=fun _=>false,pn:=[],xe:=fun _ _=>False }
noncomputable def compChk (N:List Str) (sc scope:Scope) (x:Str):Bool :=
  (scope.names.all fun p=>!(p.2 == .cell)) && (scope.kind == .function) && (scope.names.all fun p=>!(p.2 == .local) || scope.names.lookup p.1 == some .local) && (scope.names.lookup x == some .local)
    && (N.all fun y=>!(scope.names.lookup y == some .local)) && (scope.names.all fun p=>!(p.2 == .free) || sc.names.lookup p.1 == some .cell || sc.names.lookup p.1 == some .free)
structure CompSc (N:List Str) (sc scope:Scope) (x:Str):Prop where
  nc:∀ p∈scope.names,p.2≠.cell
  kind:scope.kind=.function
  locs:∀ p∈scope.names,p.2=.local→scope.names.lookup p.1=some .local
  var:scope.names.lookup x=some .local
  noN:∀ y∈N,scope.names.lookup y≠some .local
  fr:∀ p∈scope.names,p.2=.free→sc.names.lookup p.1=some .cell ∨ sc.names.lookup p.1=some .free
theorem CompSc.of {N:List Str} {sc scope:Scope} {x:Str} (h:compChk N sc scope x=true):CompSc N sc scope x:=by
  unfold compChk at h
  simp only [Bool.and_eq_true,List.all_eq_true,Bool.or_eq_true,Bool.not_eq_true',beq_iff_eq,beq_eq_false_iff_ne] at h
  obtain ⟨⟨⟨⟨⟨h1,h2⟩,h3⟩,h4⟩,h5⟩,h6⟩:=h
  refine ⟨h1,h2,fun p hp e=>?_,h4,h5,fun p hp e=>?_⟩
  · rcases h3 p hp with z | z
    · exact absurd e z
    · exact z
  · rcases h6 p hp with (z | z) | z
    · exact absurd e z
    · exact .inl z
    · exact .inr z
section
variable {X:Cx} {pins:List (Addr × Obj)} {σ:St} {H:Hp} {s:Shared}
theorem Inv.adopt {D:Addr} {ys:List V} {its:List Value} {n:Nat} (I:Inv X pins σ H s) (hn:H D=none) (h1:X.s₀.heap.objs.size≤D) (hL:D≠X.env.locals) (hc:∀ x c,X.env.cells.lookup x=some c→c≠D)
    (hp:∀ p∈X.pn ++ pins,p.1≠D) (ho:s.heap.get? D=some { cls:=.type "list",data:=.seq its.toArray n }) (r:Vals ys its) (hz:ys.length≤sizeLine):Inv X pins σ (upd H D (.lst ys)) s:=by
  refine I.step (h':=s.heap) (g':=s.gens) (d':=s.drawn) (t':=s.toks) (ch:=[D]) (fun b hb=>?_) (fun b o _ _ _ e _=>e) (fun b o _ _ _ e _=>⟨o.slots,e⟩) (fun b o hb _ e=>?_) (fun b o _ e=>⟨o,e⟩)
    (fun b xs e=>?_) (fun b o u e=>?_) (fun b ps e=>⟨#[], ?_⟩) (fun m hm=>hm) (fun b u e=>?_) I.bare
  · have e:b=D:=by simpa using hb
    subst e
    exact ⟨.inr h1,hL,hc,hp⟩
  · rw [upd_ne (by simpa using hb)]; exact e
  · rw [upd_ne (ne_of_none e hn)]; exact e
  · rw [upd_ne (ne_of_none e hn)]; exact e
  · rw [upd_ne (ne_of_none e hn),e]; simp
  · by_cases hb:b=D
    · subst hb
      rw [upd_same] at e; cases e
      exact ⟨hz,its,n,r,ho⟩
    · rw [upd_ne hb] at e
      exact (I.hok b u e).stay (fun c v _ q=>q) (fun c q=>by rw [upd_ne (ne_of_none q hn)]; exact q) fun c xs q=>by rw [upd_ne (ne_of_none q hn)]; exact q
end
section
variable {X:Cx} {pins:List (Addr × Obj)} {σ:St} {s₂:Shared} {H₂:Hp} {scope:Scope} {x:Str} {px:Pos} {elt iter:Expr} {pos:Pos} {te:TE} {J:It} {fp:List Addr} {it:Addr} {tn:Nat→Heap→Prop}
theorem clOf_some {sc:CompSc X.N X.env.scope scope x} (ok:X.Ok) {y:Str} {c:Addr} (h:(clOf scope X.env).lookup y=some c):X.env.cells.lookup y=some c:=by
  have hm:=PySem.mem_of_lookup h
  unfold clOf at hm
  obtain ⟨p,hp,e⟩:=List.mem_map.mp hm
  have hp':=List.mem_filter.mp (List.mem_reverse.mp hp)
  obtain ⟨e1,e2⟩:=Prod.mk.inj e
  have hk:=sc.fr p hp'.1 (beq_iff_eq.mp hp'.2)
  obtain ⟨c',hc'⟩:=ok.has p.1 hk
  rw [hc'] at e2
  rw [← e1,hc']
  exact congrArg some e2
theorem clOf_has {y:Str} (h:scope.names.lookup y=some .free):∃ c,(clOf scope X.env).lookup y=some c:=by
  have hm:=PySem.mem_of_lookup h
  refine lookup_of_mem (b:=(X.env.cells.lookup y).getD 0) ?_
  unfold clOf
  exact List.mem_map.mpr ⟨(y,.free),List.mem_reverse.mpr (List.mem_filter.mpr ⟨hm,rfl⟩),rfl⟩
theorem blk_ok (I:Inv X pins σ H₂ s₂) (sc:CompSc X.N X.env.scope scope x) {C:Addr} (hC:s₂.heap.objs.size≤C) (ff:∀ b∈fp,FpOk X pins H₂ b) (fo:∀ b∈fp,∃ o,s₂.heap.get? b=some o):(blk X scope x C fp s₂ H₂).Ok where
  mod:=I.ok.mod
  kind:=sc.kind
  glob:=I.ok.glob
  blt:=I.ok.blt
  above:=hC
  inj:=fun y z c h1 h2=>I.ok.inj y z c (clOf_some (sc:=sc) I.ok h1) (clOf_some (sc:=sc) I.ok h2)
  has:=fun y hy=>by
    have hy':(relabel scope X.env).names.lookup y=some .cell ∨ (relabel scope X.env).names.lookup y=some .free:=hy
    have hf:scope.names.lookup y=some .free:=by
      rcases hy' with z | z
      · exact (relabel_look sc.nc z).2 (.inl rfl)
      · exact (relabel_look sc.nc z).2 (.inr rfl)
    exact clOf_has hf
  cab:=fun y c h=>by cases h
  hd:=I.ok.hd
  frames:=I.ok.frames
  stk:=.inl rfl
  exf:=fun b hb=>by
    obtain ⟨f0,f1,f2,f3,f4,f5⟩:=ff b hb
    obtain ⟨o,ho⟩:=fo b hb
    exact ⟨Nat.ne_of_lt (Nat.lt_of_lt_of_le (Heap.lt_size ho) hC),fun y c h=>f4 y c (clOf_some (sc:=sc) I.ok h)⟩
  bs:=I.bs
  bsz:=Nat.le_trans I.ok.bsz I.sz
  noex:=fun b o e hb=>by
    obtain ⟨f0,f1,f2,f3,f4,f5⟩:=ff b hb
    rcases f3 with z | z
    · exact I.ok.noex b o e z
    · exact absurd (Nat.lt_of_lt_of_le (Heap.lt_size e) (Nat.le_trans I.ok.bsz z)) (Nat.lt_irrefl _)
  exfs:=fun b hb z=>by
    obtain ⟨f0,f1,f2,f3,f4,f5⟩:=ff b hb
    rcases List.mem_cons.mp (I.stkSub b z) with e | e
    · exact f1 e
    · exact f2 e
  funs:=I.stack
  frf:=I.stkFree
end
noncomputable def tCompJ (σ:St) (te:TE) (J:It) (H1:Hp) (Q:VK):Prop:=∃ W:Nat→Nat→List V→Hp→Prop,(∃ m,W 0 m [] H1)∧∀ i m ys H2,W i m ys H2→ys.length≤sizeLine ∧
  ((J.stop i H2∧∀ p,H2 p=none→Q (.ref p) (upd H2 p (.lst ys))) ∨
   (J.go i H2∧∃ N:List V→Hp→Prop,(∀ ys' H',N ys' H'→∃ m',m' < m∧W (i + 1) m' ys' H')∧∀ x H3,J.yld i H2 x H3→te (σ ++ [some x]) H3 fun y H4=>N (ys ++ [y]) H4))
noncomputable def tComp (wi:TI) (te:TE):TE:=fun σ H Q=>wi σ H fun J H1=>tCompJ σ te J H1 Q
section
variable {X:Cx} {pins:List (Addr × Obj)} {σ:St} {s₂:Shared} {H₂:Hp} {scope:Scope} {x:Str} {px:Pos} {elt iter:Expr} {pos:Pos} {te:TE} {J:It} {fp:List Addr} {it:Addr} {tn:Nat→Heap→Prop}
theorem comp_run {E:Value→Shared→Prop} {Q:VK} {RR:Value→Addr→Result→Shared→Prop} (I:Inv X pins σ H₂ s₂) (sc:CompSc X.N X.env.scope scope x) (hNd:X.N.Nodup) (hc:X.calm=true)
    (T:Turn X.prog X.w X.K (.Name x px) J fp it tn) (st:tn 0 s₂.heap) (ff:∀ b∈fp,FpOk X pins H₂ b) (hw:tCompJ σ te J H₂ Q)
    (he:∀ C s₂ H₂ ex,PE (blk X scope x C ex s₂ H₂) elt te)
    (hRR:∀ D C s' H' m',s₂.heap.objs.size≤C→Inv X pins σ H' s'→s'.heap.Ns C m'→H' C=none→Q (.ref D) H'→RR (.ref D) C (.ok .next) s') :
    wpAny (model X.prog X.w) X.A (newList []) (fun acc s₃=>wpAny (model X.prog X.w) X.A (newFunctionEnv scope X.env.globals (clOf scope X.env) [] X.env.qual none .none (some X.env)) (fun cenv s₄ =>
      codeAny (model X.prog X.w) X.A (.compStart (.ListComp elt [⟨.Name x px,iter,[],0⟩] scope pos) 0 (.ref it) acc { cenv with scope:=relabel scope X.env }) (RR acc cenv.locals) s₄) E s₃) E s₂:=by
  refine wpAny_newObj_type (wpAny_newFunctionEnv sc.nc (by intro y hy; simp at hy) (fun h₁ hns₁ hsb₁=>?_) sc.kind)
  dsimp only at hns₁ hsb₁ ⊢
  generalize hP2:s₂.heap.push { cls:=.type "list",dict:=none,data:=.seq ([]:List Value).toArray }=P2 at hns₁ hsb₁ ⊢
  have hCs:P2.objs.size=s₂.heap.objs.size + 1:=by rw [← hP2,Heap.size_push]
  have hCle:s₂.heap.objs.size≤P2.objs.size:=by rw [hCs]; exact Nat.le_succ _
  have hDC:s₂.heap.objs.size≠P2.objs.size:=by rw [hCs]; exact Nat.ne_of_lt (Nat.lt_succ_self _)
  generalize hCe:P2.objs.size=C at hns₁ hsb₁ hCs hCle hDC ⊢
  generalize hDe:s₂.heap.objs.size=D at hCs hCle hDC ⊢
  have fo:∀ b∈fp,∃ o,s₂.heap.get? b=some o:=fun b hb=>let ⟨o,e,_⟩:=T.obj _ _ st b hb; ⟨o,e⟩
  have flt:∀ b∈fp,b < D:=fun b hb=>by obtain ⟨o,e⟩:=fo b hb; rw [← hDe]; exact Heap.lt_size e
  have old:∀ b o,s₂.heap.get? b=some o→h₁.get? b=some o:=fun b o e=>by
    have hb:=Heap.lt_size e
    exact hsb₁.extBut b o (Nat.ne_of_lt (by rw [hCs]; exact Nat.lt_succ_of_lt (hDe ▸ hb))) (Heap.get?_push_of_some _ (hP2 ▸ Heap.get?_push_of_some _ e))
  have hacc:h₁.get? D=some { cls:=.type "list",data:=.seq ([]:List Value).toArray 0 }:=hsb₁.extBut _ _ hDC (Heap.get?_push_of_some _ (hP2 ▸ hDe ▸ Heap.get?_push_size _ rfl))
  have okB:=blk_ok (x:=x) (C:=C) I sc (by rw [hDe]; exact hCle) ff fo
  have hfreshD:H₂ D=none:=I.hok.fresh (by rw [hDe]; exact Nat.le_refl _)
  have hfreshC:H₂ C=none:=I.hok.fresh (by rw [hDe]; exact hCle)
  have hxN:x ∉ X.N:=fun z=>sc.noN x z sc.var
  have ndB:(X.N ++ [x]).Nodup:=List.nodup_append.mpr ⟨hNd,by simp,fun a ha b hb=>by
    have:b=x:=by simpa using hb
    subst this; rintro rfl; exact hxN ha⟩
  have I0:Inv (blk X scope x C fp s₂ H₂) [(D,{ cls:=.type "list",data:=.seq ([]:List Value).toArray 0 })] (σ ++ [none]) H₂ { s₂ with heap:=h₁,toks:=s₂.toks + ([]:List (Str × Value)).length }:=by
    refine ⟨okB,rfl,I.bare,Un.kept old,⟨_,hns₁,fun i y v e1 e2 e3=>?_⟩,fun y c e=>?_,hfreshC,fun y c e=>I.freeC y c (clOf_some (sc:=sc) I.ok e),fun p hp=>?_,I.hok.kept old,by simp [blk,I.len]⟩
    · have hi:i < σ.length:=by
        by_cases hi:i < σ.length
        · exact hi
        · rw [List.getElem?_append_right (by omega)] at e2
          have:([none]:St)[i - σ.length]?=some (some v):=e2
          cases hj:i - σ.length with
          | zero=>rw [hj] at this; simp at this
          | succ j=>rw [hj] at this; simp at this
      rw [List.getElem?_append_left hi] at e2
      have e1':(X.N ++ [x])[i]?=some y:=e1
      rw [List.getElem?_append_left (by rw [← I.len]; exact hi)] at e1'
      have yN:y∈X.N:=List.mem_of_getElem? e1'
      have e3':(relabel scope X.env).names.lookup y=some .local ∨ (relabel scope X.env).names.lookup y=some .cell ∨ (relabel scope X.env).names.lookup y=some .free:=e3
      have hcf:(relabel scope X.env).names.lookup y=some .cell ∨ (relabel scope X.env).names.lookup y=some .free:=by
        rcases e3' with z | z
        · exact absurd ((relabel_look sc.nc z).1 rfl) (sc.noN y yN)
        · exact z
      have hfree:scope.names.lookup y=some .free:=by
        rcases hcf with z | z
        · exact (relabel_look sc.nc z).2 (.inl rfl)
        · exact (relabel_look sc.nc z).2 (.inr rfl)
      obtain ⟨c,hcl⟩:=clOf_has (X:=X) hfree
      have hcx:=clOf_some (sc:=sc) I.ok hcl
      have hvis:=sc.fr _ (PySem.mem_of_lookup hfree) rfl
      obtain ⟨m,hn,hl⟩:=I.loc
      obtain ⟨u,ru,hlook⟩:=hl i y v e1' e2 (.inr hvis)
      refine ⟨u,ru,.inr ⟨hcf,c,hcl, ?_⟩⟩
      rcases hlook with ⟨k,_⟩ | ⟨k,c',ec,hcell⟩
      · have k':X.env.scope.names.lookup y=some .local:=k
        have hv':X.env.scope.names.lookup y=some .cell ∨ X.env.scope.names.lookup y=some .free:=hvis
        rw [k'] at hv'
        rcases hv' with z | z <;> cases z
      · rw [hcx] at ec; cases ec
        obtain ⟨o,ho,hd⟩:=hcell
        exact ⟨o,old _ _ ho,hd⟩
    · obtain ⟨v,o,ho,hd⟩:=I.cell y c (clOf_some (sc:=sc) I.ok e)
      exact ⟨v,o,old _ _ ho,hd⟩
    · have e:p=(D,{ cls:=.type "list",data:=.seq ([]:List Value).toArray 0 }):=by simpa [blk] using hp
      subst e
      exact ⟨hacc,hfreshD,hDC,(fun z=>by
        rcases List.mem_cons.mp (I.stkSub D z) with e | e
        · exact absurd I.lt (by rw [← e,hDe]; exact Nat.lt_irrefl _)
        · exact I.nofs (by rw [hDe]; exact Nat.le_refl _) e),fun v z=>nomatch z⟩
  obtain ⟨W,⟨m0,w0⟩,turn⟩:=hw
  have fpB:∀ {H':Hp} {o:Obj},(∀ b∈fp,H' b=none)→∀ b∈fp,FpOk (blk X scope x C fp s₂ H₂) [(D,o)] H' b:=fun {H' o} hn b hb=>by
    obtain ⟨f0,f1,f2,f3,f4,f5⟩:=ff b hb
    obtain ⟨g1,g2⟩:=okB.exf b hb
    exact ⟨hn b hb,g1,okB.exfs b hb,.inl hb,g2,fun p hp=>by
      have e:p=(D,o):=by simpa [blk] using hp
      subst e
      exact (Nat.ne_of_lt (flt b hb)).symm⟩
  have hσ:σ.length=X.N.length:=I.len
  have loop:∀ s₃:Shared,s₃={ s₂ with heap:=h₁,toks:=s₂.toks + ([]:List (Str × Value)).length } →
      codeAny (model X.prog X.w) X.A (.compLoop (.ListComp elt [⟨.Name x px,iter,[],0⟩] scope pos) 0 (.ref it) (.ref D) (compEnvC scope (clOf scope X.env) C X.env)) (RR (.ref D) C) s₃:=by
    rintro s₃ rfl
    refine codeAny_compLoop_tests
      (fun n s'=>∃ i ys its k σx H',Inv (blk X scope x C fp s₂ H₂) [(D,{ cls:=.type "list",data:=.seq (List.toArray its) k })] (σ ++ [σx]) H' s'∧tn i s'.heap∧(∀ b∈fp,H' b=none)∧Vals ys its∧W i n ys H') ?_ m0
      ⟨0,[],[],0,none,H₂,I0,T.keep _ _ _ st (fun b hb o e=>old b o e),fun b hb=>(ff b hb).1,.nil,w0⟩
    rintro n s' ⟨i,ys,its,k,σx,H',I',st',fr',rv,w'⟩
    obtain ⟨hz,hcase⟩:=turn i n ys H' w'
    have hpinD:=I'.pin (D,{ cls:=.type "list",data:=.seq (List.toArray its) k }) (by simp [blk])
    rcases hcase with ⟨stop,q⟩ | ⟨go,N,hN,step⟩
    · refine thn (T.done (blk X scope x C fp s₂ H₂) rfl rfl rfl hc i _ s' _ H' _ I' (fpB fr') st' stop) fun r s4 ⟨hr,I4⟩=>?_
      subst hr
      have pD:=I4.pin (D,{ cls:=.type "list",data:=.seq (List.toArray its) k }) (by simp [blk])
      obtain ⟨m4,hn4,_⟩:=I4.loc
      have IX:Inv X pins σ H' s4:=I.call' I4.os I4.base I4.hok I4.bare fun b hb=>by
        obtain ⟨f0,f1,f2,f3,f4,f5⟩:=ff b hb
        exact ⟨f3,f1,f4,f5⟩
      have IX2:=IX.adopt (D:=D) (ys:=ys) (its:=its) (n:=k) hpinD.2.1 (by rw [← hDe]; exact I.sz) (by rw [← hDe]; exact Nat.ne_of_gt I.lt)
        (fun y c e z=>by
          obtain ⟨v,o,ho,hd⟩:=I.cell y c e
          have:=Heap.lt_size ho
          rw [hDe,z] at this
          exact Nat.lt_irrefl _ this)
        (fun p hp z=>by
          have:=Heap.lt_size (I.pin p hp).1
          rw [hDe,z] at this
          exact Nat.lt_irrefl _ this) pD.1 rv hz
      refine hRR D C s4 _ m4 (by rw [hDe]; exact hCle) IX2 hn4 ?_ (q D hpinD.2.1)
      rw [upd_ne (Ne.symm hDC)]
      exact I4.free
    · refine thn (T.item (blk X scope x C fp s₂ H₂) rfl rfl rfl hc i _ s' _ H' _ I' (fpB fr') st' go) fun r s4 ⟨u,hr,h4⟩=>?_
      subst hr
      show wpAny _ _ (letOwnedTupleGo (.Name x px) (.ref it) u >>= fun _=>assign (.Name x px) (compEnvC scope (clOf scope X.env) C X.env) u) _ _ s4
      refine wpAny_bind (thn h4 fun _ s5 ⟨y,H5,I5,r5,y5,st5,fr5⟩=>?_)
      have I5':=I5.pinned (fpB fr5) (T.obj _ _ st5)
      refine wpAny_assign_Name ?_
      refine store_ok (X:=blk X scope x C fp s₂ H₂) (i:=X.N.length) (x:=x) (v:=y) I5' ndB (by simp [blk]) (.inl (lookup_relabel_local sc.var)) r5 (fun s6 I6=>?_) (.inr (lookup_relabel_local sc.var))
      have eσ:(σ ++ [σx]).set X.N.length (some y)=σ ++ [some y]:=by
        rw [← hσ]; simp
      rw [eσ] at I6
      refine wpAny_tests_nil ?_
      simp only [if_true]
      refine wpAny_mono (he C s₂ H₂ fp _ s6 _ H5 _ I6 (step y H5 y5)) (fun u7 s7 h7=>?_) fun _ _ f=>f.elim
      obtain ⟨v7,H7,I7,r7,n7⟩:=h7
      have pD7:=I7.pin (D,{ cls:=.type "list",data:=.seq (List.toArray its) k }) (by simp [blk])
      have hlen:=rv.length
      refine append_at (hsz:=by show its.toArray.size≤sizeLine; rw [List.size_toArray,← hlen]; exact hz) pD7.1 fun h8 hs8 hD8=>?_
      obtain ⟨m',hm,w8⟩:=hN _ _ n7
      have hD8':h8.get? D=some { cls:=.type "list",data:=.seq (its ++ [u7]).toArray (k + 1) }:=by rw [hD8,List.push_toArray]
      have I8:Inv (blk X scope x C fp s₂ H₂) [] (σ ++ [some y]) H7 { s7 with heap:=h8 }:=by
        refine (I7.pins_of (pins':=[]) fun p hp=>absurd hp (by simp)).turned (t':=s7.toks) (it:=D) (fun b o hb e=>(hs8.2 b hb).trans e) pD7.2.1 pD7.2.2.1 (.inr (by show s₂.heap.objs.size≤D; rw [hDe]; exact Nat.le_refl _)) (fun y' c' e' z=>?_) fun p hp=>absurd (show p∈([]:List (Addr × Obj)) from by simpa [blk] using hp) (by simp)
        obtain ⟨v,o,ho,hd⟩:=I.cell y' c' (clOf_some (sc:=sc) I.ok e')
        have:=Heap.lt_size ho
        rw [hDe,z] at this
        exact Nat.lt_irrefl _ this
      refine ⟨m',hm,i + 1,ys ++ [v7],its ++ [u7],k + 1,some y,H7,I8.pins_of fun p hp=>?_, ?_,fun b hb=>?_,rv.append (.cons r7 .nil),w8⟩
      · have e:p=(D,{ cls:=.type "list",data:=.seq (its ++ [u7]).toArray (k + 1) }):=by simpa using hp
        subst e
        exact ⟨hD8',pD7.2.1,pD7.2.2.1,pD7.2.2.2.1,fun v z=>nomatch z⟩
      · refine T.keep _ _ _ st5 fun b hb o e=>?_
        have hpb:=I7.pin (b,o) (List.mem_append_right _ (List.mem_append_right _ (mem_pinsAt hb e)))
        exact (hs8.2 b (Nat.ne_of_lt (flt b hb))).trans hpb.1
      · obtain ⟨o,e,d⟩:=T.obj _ _ st5 b hb
        exact (I7.pin (b,o) (List.mem_append_right _ (List.mem_append_right _ (mem_pinsAt hb e)))).2.1
  exact codeAny_compStart_list (loop _ rfl) (T.self _ 0 _ _ _ (T.keep _ _ _ st fun b hb o e=>old b o e) (loop _ rfl))
theorem pe_comp {wi:TI} (hi:PI X (.Name x px) iter wi) (he:∀ C s₂ H₂ ex,PE (blk X scope x C ex s₂ H₂) elt te) (hNd:X.N.Nodup) (hc:X.calm=true)
    (hclos:closureFor scope X.env=pure (clOf scope X.env):=by rfl) (hchk:compChk X.N X.env.scope scope x=true:=by rfl) (hs:∀ x,foldedSetIterable iter X.env x=pure x:=by exact fun _=>rfl) :
    PE X (.ListComp elt [⟨.Name x px,iter,[],0⟩] scope pos) (tComp wi te):=by
  intro pins s σ H Q I h
  have sc:=CompSc.of hchk
  rw [eval_ListComp]
  refine wpAny_comprehension_free (use:=none) rfl hs hclos sc.kind sc.locs (thn (hi pins s σ H _ I h) fun xv s₁ h₁=>thn h₁ fun itv s₂ h₂=>?_)
  obtain ⟨it,fp,tn,J,H2,e,I2,T,st2,f2,q⟩:=h₂
  subst e
  refine comp_run (RR:=fun acc C=>compPost (model X.prog X.w) X.A X.xe none (EP X pins σ Q) acc C) I2 sc hNd hc T st2 f2 q he ?_
  intro D C s' H' m' hC I' hn hC0 hq
  refine ⟨m',hn,fun h'' hs''=>⟨.ref D,H', ?_,rfl,hq⟩⟩
  refine I'.turned (t':=s'.toks) (it:=C) (fun b o hb e=>(hs''.2 b hb).trans e) hC0 (Nat.ne_of_gt (Nat.lt_of_lt_of_le I2.lt hC)) (.inr (Nat.le_trans I2.sz hC)) (fun y c e z=>?_) fun p hp z=>?_
  · obtain ⟨v,o,ho,hd⟩:=I2.cell y c e
    exact absurd (Heap.lt_size ho) (Nat.not_lt.mpr (by rw [z]; exact hC))
  · exact absurd (Heap.lt_size (I2.pin p hp).1) (Nat.not_lt.mpr (by rw [z]; exact hC))
noncomputable def tSetComp (i:Nat) (wi:TI) (te:TE):TS:=fun D σ H=>tComp wi te σ H fun v H'=>D.nx (σ.set i (some v)) H'
theorem ps_setComp {i:Nat} {y:Str} {py spos:Pos} {wi:TI} (hN:X.N.Nodup) (hi:X.N[i]?=some y) (hit:PI X (.Name x px) iter wi) (he:∀ C s₂ H₂ ex,PE (blk X scope x C ex s₂ H₂) elt te) (hc:X.calm=true)
    (hsw:swapsWith (.ListComp elt [⟨.Name x px,iter,[],0⟩] scope pos) (some (.Name y py)) spos.line X.env=pure true:=by rfl) (hy:X.env.scope.names.lookup y=some .local:=by rfl)
    (hclos:closureFor scope X.env=pure (clOf scope X.env):=by rfl) (hchk:compChk X.N X.env.scope scope x=true:=by rfl) (hs:∀ x,foldedSetIterable iter X.env x=pure x:=by exact fun _=>rfl) :
    PS X (.Assign [.Name y py] (.ListComp elt [⟨.Name x px,iter,[],0⟩] scope pos) spos) (tSetComp i wi te):=by
  intro pins s σ H D0 I h
  have sc:=CompSc.of hchk
  rw [exec_Assign_Name_used _ _ _ _ hsw]
  refine wpAny_bind (wpAny_standAt (wpAny_bind ?_))
  show wpAny _ X.A (do let _ ← comprehension (.ListComp elt [⟨.Name x px,iter,[],0⟩] scope pos) scope X.env _ (newList []) false (eval iter X.env) (some (assign (.Name y py) X.env))) _ _ s
  refine wpAny_bind (wpAny_mono (wpAny_comprehension_free (use:=some (assign (.Name y py) X.env)) (Q:=fun _ s'=>SP X pins D0 .next s') rfl hs hclos sc.kind sc.locs
    (thn (hit pins s σ H _ I h) fun xv s₁ h₁=>thn h₁ fun itv s₂ h₂=>?_)) (fun _ s' hq=>wpAny_pure (wpAny_pure hq)) fun _ _ e=>e)
  obtain ⟨it,fp,tn,J,H2,e,I2,T,st2,f2,q⟩:=h₂
  subst e
  refine comp_run (RR:=fun acc C=>compPost (model X.prog X.w) X.A X.xe (some (assign (.Name y py) X.env)) (fun _ s'=>SP X pins D0 .next s') acc C) I2 sc hN hc T st2 f2 q he ?_
  intro D C s' H' m' hC I' hn hC0 hq
  show wpAny _ X.A (assign (.Name y py) X.env (.ref D)) _ _ _
  have cellC:∀ y c,X.env.cells.lookup y=some c→c≠C:=fun y c e z=>by
    obtain ⟨v,o,ho,hd⟩:=I2.cell y c e
    exact absurd (Heap.lt_size ho) (Nat.not_lt.mpr (by rw [z]; exact hC))
  have locC:C≠X.env.locals:=Nat.ne_of_gt (Nat.lt_of_lt_of_le I2.lt hC)
  refine wpAny_assign_Name (store_ok2 (i:=i) (v:=.ref D) I' hN hi (.inl hy) rfl (fun s'' I'' ⟨a,hsa,ha⟩=>?_) (.inr hy))
  have hCa:C≠a:=by
    rcases ha with z | z
    · rw [z]; exact locC
    · exact (cellC _ _ z).symm
  refine ⟨m',hn.sameBut hsa hCa,fun h'' hs''=>⟨σ.set i (some (.ref D)),H', ?_,hq⟩⟩
  refine I''.turned (t':=s''.toks) (it:=C) (fun b o hb e=>(hs''.2 b hb).trans e) hC0 locC (.inr (Nat.le_trans I2.sz hC)) cellC fun p hp z=>?_
  exact absurd (Heap.lt_size (I2.pin p hp).1) (Nat.not_lt.mpr (by rw [z]; exact hC))
end
end L2
namespace HL
open PySem PyProof.Rows
section
open PySem.SeqAt
open PySem.AutoSeq1 (wpAny_loadPart')
open PySem.MeetsSeq PySem.MeetsSeq2 PySem.MeetsSeq3 SeqRoads2
end
section
variable {prog:Program} {w:World} {A:Around} {E:Value→Shared→Prop} {s:Shared}
end
end HL
namespace L2
open PySem PySem.Spec PyProof.Rows
section
variable {X:Cx}
theorem call_sum (hc:X.calm=true):CallR X (.builtin "sum") (fun xs H Q=>∃ p,∃ ns:List Int,xs=[.ref p]∧SqL X.K H p (ns.map V.int)∧Q (.int ns.sum) H):=by
  intro pins s σ H xs us Q I r h
  obtain ⟨p,ns,rfl,hq,q⟩:=h
  obtain ⟨u,rfl,rx⟩:=vals1 r
  cases rx
  obtain ⟨its,r',pl,hz⟩:=I.list hq
  have hi:IntsAre its ns:=intsAre_of r'
  obtain ⟨xs,hx⟩:=hi.allInts.items
  have hl':s.heap.IsList p (intItems xs):=hx ▸ pl.isList
  refine sum_intListG (I.ok.hd hc) hl' fun h' tk t' hk=>?_
  have e1:ns=xs.toList.map (·.1):=by
    rw [← nums_intItems,← hx]
    exact (show numsOf its.toArray.toList=ns from hi.numsOf).symm
  have e2:preSum (numAt xs) xs.size=ns.sum:=by
    rw [preSum_eq,List.take_of_length_le (by simp),e1]
  rw [e2]
  exact ⟨.int ns.sum,H,I.kept hk,⟨_,rfl⟩,q⟩
theorem boolsAre_of:∀ {bs:List Bool} {us:List Value},Vals (bs.map V.bl) us→LSm.BoolsAre us bs
  | [],_,.nil=>.nil
  | b :: bs,_,.cons r t=>by
    cases r
    exact .cons b (boolsAre_of t)
theorem call_all (hc:X.calm=true):CallR X (.builtin "all") (fun xs H Q=>∃ p,∃ bs:List Bool,xs=[.ref p]∧SqL X.K H p (bs.map V.bl)∧Q (.bl (bs.all id)) H):=by
  intro pins s σ H xs us Q I r h
  obtain ⟨p,bs,rfl,hq,q⟩:=h
  obtain ⟨u,rfl,rx⟩:=vals1 r
  cases rx
  obtain ⟨its,r',pl,hz⟩:=I.list hq
  have hb:=boolsAre_of r'
  have hlt:p < s.heap.objs.size:=by obtain ⟨_,e,_⟩:=pl.isList; exact Heap.lt_size e
  refine call_all_walk (wpAny_pyIter_list pl.isList ?_)
  refine ⟨s.heap.objs.size,[s.heap.objs.size,p],[s.heap.objs.size],its.toArray.size,_,_,fun i=>(bs[i]?).getD true,rfl,Walks.list (A:=X.A.in1) (I.ok.hd hc) _ p (Nat.ne_of_lt hlt) its.toArray,
    ⟨⟨_,Heap.get?_push_size _ rfl,rfl,rfl⟩,pl.isList.push _⟩,fun i v s' Q' E' hP hQ=>?_,fun h' tk hk=>?_⟩
  · obtain ⟨b,e,rfl⟩:=hb.get i v (by simpa using hP)
    dsimp only at hQ
    rw [e,Option.getD_some] at hQ
    exact wpAny_truthy_bool hQ
  · rw [List.size_toArray,hb.length,LSm.range_all]
    exact ⟨.bl (bs.all id),H,I.kept (LSm.kept_iter hk),rfl,q⟩
end
end L2
namespace HL
open PySem PyProof.Rows
section
variable {prog:Program} {w:World} {A:Around} {R:Result→Shared→Prop} {I:Addr} {fp wr:List Addr} {n:Nat} {P:Nat→Value→Prop} {St:Nat→Heap→Prop}
end
section
variable {prog:Program} {w:World} {A:Around} {E:Value→Shared→Prop} {s:Shared}
end
section
open PySem.SeqAt
open PySem.AutoSeq1 (wpAny_loadPart')
open PySem.MeetsSeq PySem.MeetsSeq2 PySem.MeetsSeq3
end
end HL
namespace HL
open PySem
end HL
namespace L2
open PySem PySem.Spec PyProof.Rows
section
variable {X:Cx}
end
end L2
namespace L2
open PySem PySem.Spec PyProof.Rows
noncomputable def Dfn (K:PySem.W.Frag) (mg:Str→Option Value) (x:Str) (st:Stmt):Prop:=∃ f fd,Fun K x x st f fd∧mg x=some (.ref f)
noncomputable abbrev BindFact (x:Str) (st:Stmt) (ps:List Str):Prop:=∀ (kV doc pm:Value) (an:Option Addr) (cdv ct:Value) (us:List Value),us.length=ps.length →
  bindArgs (PySem.W.fnOf x x (defArgs st) (defBody st) (defScope st) .none kV doc pm an cdv ct) ⟨us,[]⟩=pure (ps.zip us)
noncomputable def Ok (P:Program) (w:World) (K:PySem.W.Frag) (mg:Str→Option Value) (base:Heap) (k:Nat) (x:Str) (ps:List Str) (sp:Sp):Prop :=
  ∃ f fd,FnOk P w K mg base CX0 k f fd ps sp∧mg x=some (.ref f)∧PySem.W.keepIn K (.ref f)=true∧Binds K fd ps []
theorem okOf {P:Program} {w:World} {K:PySem.W.Frag} {mg:Str→Option Value} {base:Heap} {k:Nat} {x:Str} {st:Stmt} {ps:List Str} {sp:Sp} (d:Dfn K mg x st) (b:BindFact x st ps)
    (h:∀ {f fd},Fun K x x st f fd→FnOk P w K mg base CX0 k f fd ps sp):Ok P w K mg base k x ps sp:=by
  obtain ⟨f,fd,F,hm⟩:=d
  exact ⟨f,fd,h F,hm,F.kp,F.binds b⟩
section
variable {X:Cx} {k:Nat} {x:Str} {ps:List Str} {sp:Sp} {p pos:Pos} {e:Expr} {es:List Expr} {t:TA}
noncomputable def tCallO (sp:Sp) (t:TA):TE:=fun σ H Q=>t σ H fun vs H1=>sp vs H1 Q E0
theorem pe_callO (G:Ok X.prog X.w X.K X.mg X.base k x ps sp) (hr:Room k X.A) (hg:Gl X x) (ha:PA X (e :: es) t) (hdb:(x == ("__debug__":Str))=false:=by decide)
    (he:starEach (e :: es) X.env=(false,eval e X.env) :: starEach es X.env:=by rfl) (hpl:(backTo pos (starEach es X.env)).any (·.1)=false:=by rfl):PE X (.Call (.Name x p) (e :: es) [] pos) (tCallO sp t):=by
  obtain ⟨f,fd,F,hm,hk,hb⟩:=G
  intro pins s σ H Q I h
  refine pe_call (CX:=CX0) (E:=E0) (dvs:=[]) F hr hg hm hk hb .nil pass0 ha hdb he hpl pins s σ H Q I ?_
  have e:(fun vs H1=>sp (vs ++ []) H1 Q E0)=fun vs H1=>sp vs H1 Q E0:=by funext vs H1; rw [List.append_nil]
  show t σ H (fun vs H1=>sp (vs ++ []) H1 Q E0)
  rw [e]
  exact h
theorem pe_callO0 (G:Ok X.prog X.w X.K X.mg X.base k x ps sp) (hr:Room k X.A) (hg:Gl X x) (hdb:(x == ("__debug__":Str))=false:=by decide):PE X (.Call (.Name x p) [] [] pos) (tCallO sp tNil):=by
  obtain ⟨f,fd,F,hm,hk,hb⟩:=G
  exact pe_call0 (CX:=CX0) (E:=E0) (dvs:=[]) F hr hg hm hk hb .nil pass0 hdb
theorem pe_globI {i:Int} (hm:∃ t,X.mg x=some (.int i t)) (hg:Gl X x) (hd:(x == ("__debug__":Str))=false:=by decide):PE X (.Name x pos) (tC (.int i)):=by
  obtain ⟨t,hm⟩:=hm
  exact pe_glob (v:=.int i) hg hm ⟨t,rfl⟩ hd
end
theorem call_lenA {X:Cx}:CallR X (.builtin "len") (fun xs H Q=>∃ p ys,xs=[.ref p]∧(SqL X.K H p ys ∨ SqT X.K H p ys)∧Q (.int ys.length) H):=call_len_seq
theorem bb_len:bootBuiltins "len"=some (.builtin "len"):=by decide +kernel
theorem bb_isinstance:bootBuiltins "isinstance"=some (.builtin "isinstance"):=by decide +kernel
theorem bb_sum:bootBuiltins "sum"=some (.builtin "sum"):=by decide +kernel
theorem bb_all:bootBuiltins "all"=some (.builtin "all"):=by decide +kernel
theorem bt_list:bootBuiltins "list"=some (.type "list"):=by decide +kernel
theorem bt_int:bootBuiltins "int"=some (.type "int"):=by decide +kernel
theorem bt_bool:bootBuiltins "bool"=some (.type "bool"):=by decide +kernel
section
variable {t u:TS} {ta tb tc te:TE} {c d:TT} {D:Ends} {σ:St} {H:Hp} {Q:VK} {B:Bool→Hp→Prop} {a b:TA} {S:List V→Hp→Prop}
end
end L2
namespace L2
open PySem PySem.Spec PyProof.Rows
section
variable {t u:TS} {ta tb tc te:TE} {c d:TT} {D:Ends} {σ:St} {H:Hp} {Q:VK} {B:Bool→Hp→Prop} {a b:TA} {S:List V→Hp→Prop} {g:TG}
end
section
variable {X:Cx} {K:PySem.W.Frag}
theorem ix_seqK (e:X.K=K:=by rfl):IxR X (rIx K):=by subst e; exact ix_seq
theorem call_lenK (e:X.K=K:=by rfl):CallR X (.builtin "len") (fun xs H Q=>∃ p ys,xs=[.ref p]∧(SqL K H p ys ∨ SqT K H p ys)∧Q (.int ys.length) H):=by subst e; exact call_lenA
theorem call_sumK (hc:X.calm=true) (e:X.K=K:=by rfl):CallR X (.builtin "sum") (fun xs H Q=>∃ p,∃ ns:List Int,xs=[.ref p]∧SqL K H p (ns.map V.int)∧Q (.int ns.sum) H):=by subst e; exact call_sum hc
theorem call_allK (hc:X.calm=true) (e:X.K=K:=by rfl):CallR X (.builtin "all") (fun xs H Q=>∃ p,∃ bs:List Bool,xs=[.ref p]∧SqL K H p (bs.map V.bl)∧Q (.bl (bs.all id)) H):=by subst e; exact call_all hc
theorem sl_listK (e:X.K=K:=by rfl):SlR X (rSlL K):=by subst e; exact sl_list
theorem pi_listK {tg l:Expr} {tl:TE} (hl:PE X l tl) (e:X.K=K:=by rfl):PI X tg l (iList K tl):=by subst e; exact pi_list hl
end
section
variable {t u:TS} {ta tb tc te:TE} {c d:TT} {D:Ends} {σ:St} {H:Hp} {Q:VK} {B:Bool→Hp→Prop} {a b:TA} {S:List V→Hp→Prop} {g:TG}
theorem ixN_of {n:Nat} {k:Int} (h0:0≤k) (h1:k < n):ixN n k=some k.toNat:=by unfold ixN; rw [if_pos h0,if_pos h1]
theorem Same.upd {H H':Hp} {p:Addr} {o:HO} (h:Same H H') (hp:H p=none):Same H (upd H' p o):=fun b u e=>by
  rw [upd_ne (ne_of_none e hp)]
  exact h b u e
theorem Same.new {H:Hp} {p:Addr} {o:HO} (hp:H p=none):Same H (L2.upd H p o):=Same.upd (Same.refl H) hp
theorem line_big {n:Nat} (h:n≤1000):n≤sizeLine:=Nat.le_trans h (by decide)
end
end L2
namespace L2
open PySem PySem.Spec PyProof.Rows
inductive Sh where
  | dk (ks:List Key) | dt (ks:List (List Key)) | ob (n:Str) (fs:List Str)
inductive PV where
  | non | bl (b:Bool) | int (i:Int) | str (x:Str) | lst (xs:List PV) | tup (xs:List PV)
    | exc (n:Str)
    | exa (n:Str) (i:Int)
    | box (p:Option Addr) (s:Sh) (xs:List PV)
mutual
noncomputable def PV.flat:PV→Bool
  | .lst _=>false
  | .tup xs=>PV.flats xs
  | .non=>true
  | .bl _=>true
  | .int _=>true
  | .str _=>true
  | .exc _=>true
  | .exa _ _=>true
  | .box _ _ _=>false
noncomputable def PV.flats:List PV→Bool
  | []=>true
  | x :: xs=>x.flat && PV.flats xs
end
noncomputable def KL (K:PySem.W.Frag) (a:Addr) (xs:List V):Prop :=
  ∃ (o:Obj) (its:Array Value) (n:Nat),K.lookup a=some o∧o.cls=.type "list"∧o.dict=none∧o.data=.seq its n∧its.size≤sizeLine∧Vals xs its.toList
noncomputable def ImO:HO→Prop
  | .tup _=>True
  | .frz _ _=>True
  | .xd _=>True
  | _=>False
noncomputable def Im (K:PySem.W.Frag) (H:Hp) (a:Addr) (u:HO):Prop:=H a=some u∧ImO u
noncomputable def Lvo:HO→Prop
  | .lst _=>True
  | .dK _=>True
  | .dT _=>True
  | .ins _ _ _=>True
  | _=>False
noncomputable abbrev LvO:={ u:HO // Lvo u }
noncomputable def XCls (K:PySem.W.Frag) (n:Str) (C:Addr):Prop:=PySem.W.nsIn K mainGlobals n=some (some (.ref C))
noncomputable def ExcAt (K:PySem.W.Frag) (H:Hp) (n:Str) (v:V):Prop:=∃ a o C,v=.ref a∧Im K H a (.frz o (.own a))∧o.cls=.ref C∧o.dict=none∧PySem.W.notCls o=true∧XCls K n C
noncomputable def ExaAt (K:PySem.W.Frag) (H:Hp) (n:Str) (i:Int) (v:V):Prop:=∃ a o C d fs,v=.ref a∧Im K H a (.frz o (.own a))∧Im K H d (.xd fs)∧o.cls=.ref C∧o.dict=some d∧PySem.W.notCls o=true∧XCls K n C∧fs.lookup ("at":Str)=some (V.int i)
noncomputable def BoxO (K:PySem.W.Frag):Sh→List V→HO→Prop
  | .dk ks,vs,u=>ks.length=vs.length∧u=.dK (ks.zip vs)
  | .dt ks,vs,u=>ks.length=vs.length∧u=.dT (ks.zip vs)
  | .ob n fs,vs,u=>fs.length=vs.length∧∃ C dx,u=.ins C dx (fs.zip vs)∧XCls K n C
noncomputable def PinO (p:Option Addr) (a:Addr):Prop:=match p with
  | none=>True
  | some b=>a=b
theorem BoxO.lv {K:PySem.W.Frag} {s:Sh} {vs:List V} {u:HO} (h:BoxO K s vs u):Lvo u:=by
  cases s with
  | dk ks=>obtain ⟨_,rfl⟩:=h; trivial
  | dt ks=>obtain ⟨_,rfl⟩:=h; trivial
  | ob n fs=>obtain ⟨_,C,dx,rfl,_⟩:=h; trivial
theorem lv_ne_im {u o:HO} (h:Lvo u) (h':ImO o):o≠u:=by
  intro e; subst e
  cases o <;> first | exact h | exact h'
mutual
noncomputable def Rep (K:PySem.W.Frag) (H:Hp) (S:Addr→Prop):PV→V→Prop
  | .non,v=>v=.non
  | .bl b,v=>v=.bl b
  | .int i,v=>v=.int i
  | .str x,v=>v=.str x
  | .exc n,v=>ExcAt K H n v
  | .exa n i,v=>ExaAt K H n i v
  | .box p s xs,v=>∃ a vs u,v=.ref a∧(Rd H a u∧S a)∧(PinO p a∧BoxO K s vs u)∧Reps K H S xs vs
  | .lst xs,v=>∃ a vs,v=.ref a∧((Rd H a (.lst vs)∧S a) ∨ KL K a vs)∧Reps K H S xs vs
  | .tup xs,v=>∃ a vs,v=.ref a∧Im K H a (.tup vs)∧Reps K H S xs vs
noncomputable def Reps (K:PySem.W.Frag) (H:Hp) (S:Addr→Prop):List PV→List V→Prop
  | [],vs=>vs=[]
  | x :: xs,vs=>∃ v r,vs=v :: r∧Rep K H S x v∧Reps K H S xs r
end
mutual
noncomputable def Tree (K:PySem.W.Frag) (H:Hp):PV→V→List Addr→Prop
  | .non,v,F=>v=.non∧F=[]
  | .bl b,v,F=>v=.bl b∧F=[]
  | .int i,v,F=>v=.int i∧F=[]
  | .str x,v,F=>v=.str x∧F=[]
  | .exc n,v,F=>ExcAt K H n v∧F=[]
  | .exa n i,v,F=>ExaAt K H n i v∧F=[]
  | .box p s xs,v,F=>∃ a vs u G,v=.ref a∧H a=some u∧(PinO p a∧BoxO K s vs u)∧Trees K H xs vs G∧a ∉ G∧F=a :: G
  | .lst xs,v,F=>∃ a vs G,v=.ref a∧H a=some (.lst vs)∧Trees K H xs vs G∧a ∉ G∧F=a :: G
  | .tup xs,v,F=>∃ a vs,v=.ref a∧Im K H a (.tup vs)∧Trees K H xs vs F
noncomputable def Trees (K:PySem.W.Frag) (H:Hp):List PV→List V→List Addr→Prop
  | [],vs,F=>vs=[]∧F=[]
  | x :: xs,vs,F=>∃ v r G1 G2,vs=v :: r∧Tree K H x v G1∧Trees K H xs r G2∧(∀ a∈G1,a ∉ G2)∧F=G1 ++ G2
end
section
variable {K:PySem.W.Frag} {H H':Hp} {S S':Addr→Prop}
mutual
theorem Rep.mono (h1:∀ a u,S a→Rd H a u→Rd H' a u∧S' a) (h2:∀ a u,Im K H a u→Im K H' a u):∀ {x:PV} {v:V},Rep K H S x v→Rep K H' S' x v
  | .non,_,h=>h
  | .bl _,_,h=>h
  | .int _,_,h=>h
  | .str _,_,h=>h
  | .exc n,_,h=>let ⟨a,o,C,e1,e2,e3⟩:=h; ⟨a,o,C,e1,h2 a _ e2,e3⟩
  | .exa n i,_,h=>let ⟨a,o,C,d,fs,e1,e2,e2',e3⟩:=h; ⟨a,o,C,d,fs,e1,h2 a _ e2,h2 d _ e2',e3⟩
  | .box p s xs,_,h=>by
    obtain ⟨a,vs,u,rfl,⟨n1,n2⟩,hb,hr⟩:=h
    exact ⟨a,vs,u,rfl,h1 a u n2 n1,hb,Reps.mono h1 h2 hr⟩
  | .lst xs,_,h=>by
    obtain ⟨a,vs,rfl,hn,hr⟩:=h
    refine ⟨a,vs,rfl, ?_,Reps.mono h1 h2 hr⟩
    rcases hn with ⟨n1,n2⟩ | n
    · exact .inl (h1 a _ n2 n1)
    · exact .inr n
  | .tup xs,_,h=>by
    obtain ⟨a,vs,rfl,hn,hr⟩:=h
    exact ⟨a,vs,rfl,h2 a _ hn,Reps.mono h1 h2 hr⟩
theorem Reps.mono (h1:∀ a u,S a→Rd H a u→Rd H' a u∧S' a) (h2:∀ a u,Im K H a u→Im K H' a u):∀ {xs:List PV} {vs:List V},Reps K H S xs vs→Reps K H' S' xs vs
  | [],_,h=>h
  | x :: xs,_,h=>by
    obtain ⟨v,r,rfl,h3,h4⟩:=h
    exact ⟨v,r,rfl,Rep.mono h1 h2 h3,Reps.mono h1 h2 h4⟩
end
mutual
theorem Tree.mono:∀ {x:PV} {v:V} {F:List Addr},(∀ a∈F,∀ o,H a=some o→H' a=some o)→(∀ a vs,Im K H a vs→Im K H' a vs)→Tree K H x v F→Tree K H' x v F
  | .non,_,_,_,_,h=>h
  | .bl _,_,_,_,_,h=>h
  | .int _,_,_,_,_,h=>h
  | .str _,_,_,_,_,h=>h
  | .exc n,_,_,_,h2,h=>let ⟨⟨a,o,C,e1,e2,e3⟩,e4⟩:=h; ⟨⟨a,o,C,e1,h2 a _ e2,e3⟩,e4⟩
  | .exa n i,_,_,_,h2,h=>let ⟨⟨a,o,C,d,fs,e1,e2,e2',e3⟩,e4⟩:=h; ⟨⟨a,o,C,d,fs,e1,h2 a _ e2,h2 d _ e2',e3⟩,e4⟩
  | .box p s xs,_,_,h1,h2,h=>by
    obtain ⟨a,vs,u,G,rfl,ha,hb,ht,hn,rfl⟩:=h
    exact ⟨a,vs,u,G,rfl,h1 a (by simp) _ ha,hb,Trees.mono (fun b hb o e=>h1 b (by simp [hb]) o e) h2 ht,hn,rfl⟩
  | .lst xs,_,_,h1,h2,h=>by
    obtain ⟨a,vs,G,rfl,ha,ht,hn,rfl⟩:=h
    exact ⟨a,vs,G,rfl,h1 a (by simp) _ ha,Trees.mono (fun b hb o e=>h1 b (by simp [hb]) o e) h2 ht,hn,rfl⟩
  | .tup xs,_,_,h1,h2,h=>by
    obtain ⟨a,vs,rfl,ha,ht⟩:=h
    exact ⟨a,vs,rfl,h2 a _ ha,Trees.mono h1 h2 ht⟩
theorem Trees.mono:∀ {xs:List PV} {vs:List V} {F:List Addr},(∀ a∈F,∀ o,H a=some o→H' a=some o)→(∀ a vs,Im K H a vs→Im K H' a vs)→Trees K H xs vs F→Trees K H' xs vs F
  | [],_,_,_,_,h=>h
  | x :: xs,_,_,h1,h2,h=>by
    obtain ⟨v,r,G1,G2,rfl,h3,h4,hd,rfl⟩:=h
    exact ⟨v,r,G1,G2,rfl,Tree.mono (fun b hb o e=>h1 b (by simp [hb]) o e) h2 h3,Trees.mono (fun b hb o e=>h1 b (by simp [hb]) o e) h2 h4,hd,rfl⟩
end
mutual
theorem Tree.rep:∀ {x:PV} {v:V} {F:List Addr},(∀ a∈F,S a)→Tree K H x v F→Rep K H S x v
  | .non,_,_,_,h=>h.1
  | .bl _,_,_,_,h=>h.1
  | .int _,_,_,_,h=>h.1
  | .str _,_,_,_,h=>h.1
  | .exc _,_,_,_,h=>h.1
  | .exa _ _,_,_,_,h=>h.1
  | .box p s xs,_,_,h1,h=>by
    obtain ⟨a,vs,u,G,rfl,ha,hb,ht,hn,rfl⟩:=h
    exact ⟨a,vs,u,rfl,⟨.inl ha,h1 a (by simp)⟩,hb,Trees.reps (fun b hb=>h1 b (by simp [hb])) ht⟩
  | .lst xs,_,_,h1,h=>by
    obtain ⟨a,vs,G,rfl,ha,ht,hn,rfl⟩:=h
    exact ⟨a,vs,rfl,.inl ⟨.inl ha,h1 a (by simp)⟩,Trees.reps (fun b hb=>h1 b (by simp [hb])) ht⟩
  | .tup xs,_,_,h1,h=>by
    obtain ⟨a,vs,rfl,ha,ht⟩:=h
    exact ⟨a,vs,rfl,ha,Trees.reps h1 ht⟩
theorem Trees.reps:∀ {xs:List PV} {vs:List V} {F:List Addr},(∀ a∈F,S a)→Trees K H xs vs F→Reps K H S xs vs
  | [],_,_,_,h=>h.1
  | x :: xs,_,_,h1,h=>by
    obtain ⟨v,r,G1,G2,rfl,h3,h4,hd,rfl⟩:=h
    exact ⟨v,r,rfl,Tree.rep (fun b hb=>h1 b (by simp [hb])) h3,Trees.reps (fun b hb=>h1 b (by simp [hb])) h4⟩
end
mutual
theorem Tree.alive:∀ {x:PV} {v:V} {F:List Addr},Tree K H x v F→∀ a∈F,∃ vs:LvO,H a=some vs.1
  | .non,_,_,h=>by rw [h.2]; simp
  | .bl _,_,_,h=>by rw [h.2]; simp
  | .int _,_,_,h=>by rw [h.2]; simp
  | .str _,_,_,h=>by rw [h.2]; simp
  | .exc _,_,_,h=>by rw [h.2]; simp
  | .exa _ _,_,_,h=>by rw [h.2]; simp
  | .box p s xs,_,_,h=>by
    obtain ⟨a,vs,u,G,rfl,ha,hb,ht,hn,rfl⟩:=h
    intro b hb'
    rcases List.mem_cons.mp hb' with rfl | hb'
    · exact ⟨⟨u,hb.2.lv⟩,ha⟩
    · exact Trees.alive ht b hb'
  | .lst xs,_,_,h=>by
    obtain ⟨a,vs,G,rfl,ha,ht,hn,rfl⟩:=h
    intro b hb
    rcases List.mem_cons.mp hb with rfl | hb
    · exact ⟨⟨.lst vs,trivial⟩,ha⟩
    · exact Trees.alive ht b hb
  | .tup xs,_,_,h=>by
    obtain ⟨a,vs,rfl,ha,ht⟩:=h
    exact Trees.alive ht
theorem Trees.alive:∀ {xs:List PV} {vs:List V} {F:List Addr},Trees K H xs vs F→∀ a∈F,∃ vs:LvO,H a=some vs.1
  | [],_,_,h=>by rw [h.2]; simp
  | x :: xs,_,_,h=>by
    obtain ⟨v,r,G1,G2,rfl,h3,h4,hd,rfl⟩:=h
    intro b hb
    rcases List.mem_append.mp hb with hb | hb
    · exact Tree.alive h3 b hb
    · exact Trees.alive h4 b hb
end
mutual
theorem Rep.tree:∀ {x:PV} {v:V},x.flat=true→Rep K H S x v→Tree K H x v []
  | .non,_,_,h=>⟨h,rfl⟩
  | .bl _,_,_,h=>⟨h,rfl⟩
  | .int _,_,_,h=>⟨h,rfl⟩
  | .str _,_,_,h=>⟨h,rfl⟩
  | .exc _,_,_,h=>⟨h,rfl⟩
  | .exa _ _,_,_,h=>⟨h,rfl⟩
  | .box p s xs,_,f,_=>by simp [PV.flat] at f
  | .lst xs,_,f,_=>by simp [PV.flat] at f
  | .tup xs,_,f,h=>by
    obtain ⟨a,vs,rfl,ha,ht⟩:=h
    exact ⟨a,vs,rfl,ha,Reps.trees (by simpa [PV.flat] using f) ht⟩
theorem Reps.trees:∀ {xs:List PV} {vs:List V},PV.flats xs=true→Reps K H S xs vs→Trees K H xs vs []
  | [],_,_,h=>⟨h,rfl⟩
  | x :: xs,_,f,h=>by
    obtain ⟨v,r,rfl,h3,h4⟩:=h
    simp only [PV.flats,Bool.and_eq_true] at f
    exact ⟨v,r,[],[],rfl,Rep.tree f.1 h3,Reps.trees f.2 h4,by simp,rfl⟩
end
theorem Rep.any (h:Rep K H S x v):Rep K H (fun _=>True) x v:=Rep.mono (fun a vs _ r=>⟨r,trivial⟩) (fun a vs r=>r) h
theorem Reps.any (h:Reps K H S xs vs):Reps K H (fun _=>True) xs vs:=Reps.mono (fun a vs _ r=>⟨r,trivial⟩) (fun a vs r=>r) h
theorem Rep.flatS {x:PV} {v:V} (f:x.flat=true) (h:Rep K H S x v):Rep K H S' x v:=Tree.rep (F:=[]) (by simp) (Rep.tree f h)
theorem Reps.length:∀ {xs:List PV} {vs:List V},Reps K H S xs vs→vs.length=xs.length
  | [],_,h=>by rw [h]; rfl
  | x :: xs,_,h=>by
    obtain ⟨v,r,rfl,h3,h4⟩:=h
    simp [Reps.length h4]
theorem Trees.length {xs:List PV} {vs:List V} {F:List Addr} (h:Trees K H xs vs F):vs.length=xs.length:=(Trees.reps (S:=fun _=>True) (fun _ _=>trivial) h).length
theorem Reps.get:∀ {xs:List PV} {vs:List V} {i:Nat} {x:PV},Reps K H S xs vs→xs[i]?=some x→∃ v,vs[i]?=some v∧Rep K H S x v
  | [],_,_,_,_,e=>by simp at e
  | y :: xs,_,0,x,h,e=>by
    obtain ⟨v,r,rfl,h3,h4⟩:=h
    simp at e; subst e
    exact ⟨v,rfl,h3⟩
  | y :: xs,_,i + 1,x,h,e=>by
    obtain ⟨v,r,rfl,h3,h4⟩:=h
    obtain ⟨w,e1,e2⟩:=Reps.get (i:=i) h4 (by simpa using e)
    exact ⟨w,by simpa using e1,e2⟩
theorem Reps.append:∀ {xs ys:List PV} {vs ws:List V},Reps K H S xs vs→Reps K H S ys ws→Reps K H S (xs ++ ys) (vs ++ ws)
  | [],_,_,_,h,h'=>by rw [h]; exact h'
  | x :: xs,_,_,_,h,h'=>by
    obtain ⟨v,r,rfl,h3,h4⟩:=h
    exact ⟨v,r ++ _,rfl,h3,Reps.append h4 h'⟩
theorem Reps.one {x:PV} {v:V} (h:Rep K H S x v):Reps K H S [x] [v]:=⟨v,[],rfl,h,rfl⟩
theorem Reps.take:∀ {xs:List PV} {vs:List V} (n:Nat),Reps K H S xs vs→Reps K H S (xs.take n) (vs.take n)
  | _,_,0,_=>by simp [Reps]
  | [],_,n + 1,h=>by rw [h]; rfl
  | y :: xs,_,n + 1,h=>by
    obtain ⟨w,r,rfl,h3,h4⟩:=h
    exact ⟨w,r.take n,rfl,h3,Reps.take n h4⟩
theorem Reps.drop:∀ {xs:List PV} {vs:List V} (n:Nat),Reps K H S xs vs→Reps K H S (xs.drop n) (vs.drop n)
  | _,_,0,h=>h
  | [],_,n + 1,h=>by rw [h]; rfl
  | y :: xs,_,n + 1,h=>by
    obtain ⟨w,r,rfl,h3,h4⟩:=h
    exact Reps.drop n h4
theorem Trees.append:∀ {xs ys:List PV} {vs ws:List V} {F G:List Addr},Trees K H xs vs F→Trees K H ys ws G→(∀ a∈F,a ∉ G)→Trees K H (xs ++ ys) (vs ++ ws) (F ++ G)
  | [],_,_,_,_,_,h,h',_=>by rw [h.1,h.2]; exact h'
  | x :: xs,_,_,_,_,_,h,h',hd=>by
    obtain ⟨v,r,G1,G2,rfl,h3,h4,hd',rfl⟩:=h
    refine ⟨v,r ++ _,G1,G2 ++ _,rfl,h3,Trees.append h4 h' (fun a ha=>hd a (by simp [ha])),fun a ha z=>?_,by simp⟩
    rcases List.mem_append.mp z with z | z
    · exact hd' a ha z
    · exact hd a (by simp [ha]) z
theorem Trees.one {x:PV} {v:V} {F:List Addr} (h:Tree K H x v F):Trees K H [x] [v] F:=⟨v,[],F,[],rfl,h,⟨rfl,rfl⟩,by simp,by simp⟩
theorem PV.flats_all:∀ {xs:List PV},PV.flats xs=true ↔ ∀ x∈xs,x.flat=true
  | []=>by simp [PV.flats]
  | x :: xs=>by simp [PV.flats,PV.flats_all (xs:=xs)]
theorem PV.flats_ints (ns:List Int):PV.flats (ns.map PV.int)=true:=PV.flats_all.mpr (by simp [PV.flat])
theorem Rd.same (e:Same H H') (h:Rd H a u):Rd H' a u:=by
  rcases h with h | ⟨o,h⟩
  · exact .inl (e _ _ h)
  · exact .inr ⟨o,e _ _ h⟩
theorem Same.im (e:Same H H') {k:HO} (h:Im K H a k):Im K H' a k:=⟨e _ _ h.1,h.2⟩
theorem Im.sqT {vs:List V} (h:Im K H a (.tup vs)):SqT K H a vs:=.inl (.inl h.1)
theorem Rep.same (e:Same H H') (h:Rep K H S x v):Rep K H' S x v:=Rep.mono (fun a vs s r=>⟨r.same e,s⟩) (fun a vs r=>e.im r) h
theorem Reps.same (e:Same H H') (h:Reps K H S xs vs):Reps K H' S xs vs:=Reps.mono (fun a vs s r=>⟨r.same e,s⟩) (fun a vs r=>e.im r) h
theorem Tree.same (e:Same H H') (h:Tree K H x v F):Tree K H' x v F:=Tree.mono (fun a _ o q=>e a o q) (fun a vs r=>e.im r) h
theorem Trees.same (e:Same H H') (h:Trees K H xs vs F):Trees K H' xs vs F:=Trees.mono (fun a _ o q=>e a o q) (fun a vs r=>e.im r) h
theorem Im.putL {p:Addr} {us:LvO} {o:HO} {k:HO} (hp:H p=some us.1) (h:Im K H a k):Im K (upd H p o) a k :=
  ⟨by rw [upd_ne (ne_of h.1 hp (lv_ne_im us.2 h.2))]; exact h.1,h.2⟩
theorem Trees.putL {p:Addr} {us:LvO} {o:HO} (hp:H p=some us.1) (hS:p ∉ F) (h:Trees K H xs vs F):Trees K (upd H p o) xs vs F :=
  Trees.mono (fun a ha o q=>by
    have hne:a≠p:=fun z=>hS (z ▸ ha)
    rw [upd_ne hne]; exact q) (fun a vs r=>Im.putL hp r) h
theorem Trees.put {p:Addr} {us:List V} {o:HO} (hp:H p=some (.lst us)) (hS:p ∉ F) (h:Trees K H xs vs F):Trees K (upd H p o) xs vs F:=Trees.putL (us:=⟨.lst us,trivial⟩) hp hS h
end
end L2
namespace L2
open PySem PySem.Spec PyProof.Rows
inductive Md | U | P | S | T | O
  deriving DecidableEq
noncomputable def NO (B:Addr→Prop) (F:Nat→List Addr) (R:List Addr) (a:Addr):Prop:=B a∧a ∉ R∧∀ i,a ∉ F i
noncomputable def SlotOk (K:PySem.W.Frag) (H:Hp) (S:Addr→Prop) (m:Md) (x:PV) (o:Option (Option V)) (G:List Addr):Prop:=match m with
  | .U=>G=[]
  | .P=>G=[]∧∃ v,o=some (some v)∧x.flat=true∧Rep K H (fun _=>True) x v
  | .S=>G=[]∧∃ v,o=some (some v)∧Rep K H S x v
  | .T=>∃ a vs xs,o=some (some (.ref a))∧x=.lst xs∧H a=some (.lst vs)∧Reps K H S xs vs∧G=[a]
  | .O=>∃ v,o=some (some v)∧Tree K H x v G
structure Ag (K:PySem.W.Frag) (B:Addr→Prop) (H0 H:Hp) (σ:St) (Γ:List Md) (ρ:List PV) (F:Nat→List Addr) (R:List Addr):Prop where
  same:Same H0 H
  own:∀ a,H0 a=none→B a
  young:∀ i,∀ a∈F i,H0 a=none
  youngR:∀ a∈R,H0 a=none
  live:∀ i,∀ a∈F i,∃ vs:LvO,H a=some vs.1
  liveR:∀ a∈R,∃ vs:LvO,H a=some vs.1
  disj:∀ i j,i≠j→∀ a∈F i,a ∉ F j
  disjR:∀ i,∀ a∈F i,a ∉ R
  lenS:σ.length=Γ.length
  lenR:ρ.length=Γ.length
  slot:∀ i,SlotOk K H (NO B F R) (Γ.getD i .U) (ρ.getD i .non) σ[i]? (F i)
theorem SlotOk.mono {K:PySem.W.Frag} {H H':Hp} {S S':Addr→Prop} {m:Md} {x:PV} {o:Option (Option V)} {G:List Addr} (h:SlotOk K H S m x o G) (h1:∀ a u,S a→Rd H a u→Rd H' a u∧S' a)
    (h2:∀ a u,Im K H a u→Im K H' a u) (h3:∀ a∈G,∀ u,H a=some u→H' a=some u):SlotOk K H' S' m x o G:=by
  cases m with
  | U=>exact h
  | P =>
    obtain ⟨e,v,h4,h5,h6⟩:=h
    exact ⟨e,v,h4,h5,Tree.rep (F:=[]) (by simp) (Tree.mono (by simp) h2 (Rep.tree h5 h6))⟩
  | S =>
    obtain ⟨e,v,h4,h5⟩:=h
    exact ⟨e,v,h4,Rep.mono h1 h2 h5⟩
  | T =>
    obtain ⟨a,vs,xs,h4,h5,h6,h7,rfl⟩:=h
    exact ⟨a,vs,xs,h4,h5,h3 a (by simp) _ h6,Reps.mono h1 h2 h7,rfl⟩
  | O =>
    obtain ⟨v,h4,h5⟩:=h
    exact ⟨v,h4,Tree.mono (fun a ha o q=>h3 a ha o q) h2 h5⟩
section
variable {K:PySem.W.Frag} {B:Addr→Prop} {H0 H H':Hp} {σ:St} {Γ:List Md} {ρ:List PV} {F:Nat→List Addr} {R R':List Addr}
theorem Ag.grow (A:Ag K B H0 H σ Γ ρ F R) (e:Same H H'):Ag K B H0 H' σ Γ ρ F R :=
  ⟨A.same.trans e,A.own,A.young,A.youngR,fun i a ha=>let ⟨vs,q⟩:=A.live i a ha; ⟨vs,e _ _ q⟩,fun a ha=>let ⟨vs,q⟩:=A.liveR a ha; ⟨vs,e _ _ q⟩,A.disj,A.disjR,A.lenS,A.lenR,
    fun i=>(A.slot i).mono (fun a vs s r=>⟨r.same e,s⟩) (fun a vs r=>e.im r) fun a ha vs q=>e _ _ q⟩
theorem Ag.less (A:Ag K B H0 H σ Γ ρ F R) (h:∀ a∈R',a∈R):Ag K B H0 H σ Γ ρ F R' :=
  ⟨A.same,A.own,A.young,fun a ha=>A.youngR a (h a ha),A.live,fun a ha=>A.liveR a (h a ha),A.disj,fun i a ha z=>A.disjR i a ha (h a z),A.lenS,A.lenR,
    fun i=>(A.slot i).mono (fun a vs s r=>⟨r,s.1,fun z=>s.2.1 (h a z),s.2.2⟩) (fun a vs r=>r) fun a ha vs q=>q⟩
theorem Ag.more {G:List Addr} (A:Ag K B H0 H σ Γ ρ F R) (e:Same H H') (hf:∀ a∈G,H a=none) (hl:∀ a∈G,∃ vs:LvO,H' a=some vs.1):Ag K B H0 H' σ Γ ρ F (G ++ R):=by
  refine ⟨A.same.trans e,A.own,A.young,fun a ha=>?_,fun i a ha=>let ⟨vs,q⟩:=A.live i a ha; ⟨vs,e _ _ q⟩,fun a ha=>?_,A.disj,fun i a ha z=>?_,A.lenS,A.lenR,fun i=>?_⟩
  · rcases List.mem_append.mp ha with z | z
    · exact A.same.free (hf a z)
    · exact A.youngR a z
  · rcases List.mem_append.mp ha with z | z
    · exact hl a z
    · obtain ⟨vs,q⟩:=A.liveR a z
      exact ⟨vs,e _ _ q⟩
  · rcases List.mem_append.mp z with z | z
    · obtain ⟨vs,q⟩:=A.live i a ha
      rw [hf a z] at q; cases q
    · exact A.disjR i a ha z
  · refine (A.slot i).mono (fun a vs s r=>⟨r.same e,s.1,fun z=>?_,s.2.2⟩) (fun a vs r=>e.im r) fun a ha vs q=>e _ _ q
    rcases List.mem_append.mp z with z | z
    · have:=hf a z
      rcases r with r | ⟨o,r⟩ <;> (rw [this] at r; cases r)
    · exact s.2.1 z
theorem Ag.fresh (A:Ag K B H0 H σ Γ ρ F R) {p:Addr} (hp:H p=none):p ∉ R∧(∀ i,p ∉ F i)∧H0 p=none∧B p:=by
  refine ⟨fun z=>?_,fun i z=>?_,A.same.free hp,A.own p (A.same.free hp)⟩
  · obtain ⟨vs,q⟩:=A.liveR p z
    rw [hp] at q; cases q
  · obtain ⟨vs,q⟩:=A.live i p z
    rw [hp] at q; cases q
theorem Ag.new {p:Addr} {xs:List V} (A:Ag K B H0 H σ Γ ρ F R) (hp:H p=none):Ag K B H0 (upd H p (.lst xs)) σ Γ ρ F (p :: R) :=
  A.more (G:=[p]) (Same.new hp) (fun a ha=>by rw [List.mem_singleton.mp ha]; exact hp) fun a ha=>⟨⟨.lst xs,trivial⟩,by rw [List.mem_singleton.mp ha,upd_same]⟩
theorem Ag.newB {p:Addr} {u:HO} (hu:Lvo u) (A:Ag K B H0 H σ Γ ρ F R) (hp:H p=none):Ag K B H0 (upd H p u) σ Γ ρ F (p :: R) :=
  A.more (G:=[p]) (Same.new hp) (fun a ha=>by rw [List.mem_singleton.mp ha]; exact hp) fun a ha=>⟨⟨u,hu⟩,by rw [List.mem_singleton.mp ha,upd_same]⟩
theorem Ag.getO {i:Nat} (A:Ag K B H0 H σ Γ ρ F R) (h:Γ[i]?=some .O):∃ v,σ[i]?=some (some v)∧Tree K H (ρ.getD i .non) v (F i):=by
  have:=A.slot i
  rw [List.getD_eq_getElem?_getD,h] at this
  exact this
theorem Ag.getT {i:Nat} (A:Ag K B H0 H σ Γ ρ F R) (h:Γ[i]?=some .T):∃ a vs xs,σ[i]?=some (some (.ref a))∧ρ.getD i .non=.lst xs∧H a=some (.lst vs)∧Reps K H (NO B F R) xs vs∧F i=[a]:=by
  have:=A.slot i
  rw [List.getD_eq_getElem?_getD (l:=Γ),h] at this
  exact this
theorem Ag.getS {i:Nat} (A:Ag K B H0 H σ Γ ρ F R) (h:Γ[i]?=some .S):∃ v,σ[i]?=some (some v)∧Rep K H (NO B F R) (ρ.getD i .non) v:=by
  have:=A.slot i
  rw [List.getD_eq_getElem?_getD (l:=Γ),h] at this
  exact this.2
theorem Ag.getP {i:Nat} (A:Ag K B H0 H σ Γ ρ F R) (h:Γ[i]?=some .P):∃ v,σ[i]?=some (some v)∧(ρ.getD i .non).flat=true∧Rep K H (fun _=>True) (ρ.getD i .non) v:=by
  have:=A.slot i
  rw [List.getD_eq_getElem?_getD (l:=Γ),h] at this
  exact this.2
theorem Ag.getA {i:Nat} {m:Md} (A:Ag K B H0 H σ Γ ρ F R) (h:Γ[i]?=some m) (hm:m≠.U):∃ v,σ[i]?=some (some v)∧Rep K H (fun _=>True) (ρ.getD i .non) v:=by
  cases m with
  | U=>exact absurd rfl hm
  | P=>obtain ⟨v,h1,h2,h3⟩:=A.getP h; exact ⟨v,h1,h3⟩
  | S=>obtain ⟨v,h1,h2⟩:=A.getS h; exact ⟨v,h1,h2.any⟩
  | T =>
    obtain ⟨a,vs,xs,h1,h2,h3,h4,h5⟩:=A.getT h
    exact ⟨_,h1,by rw [h2]; exact ⟨a,vs,rfl,.inl ⟨.inl h3,trivial⟩,h4.any⟩⟩
  | O=>obtain ⟨v,h1,h2⟩:=A.getO h; exact ⟨v,h1,h2.rep (fun _ _=>trivial)⟩
theorem Ag.lt {i:Nat} {m:Md} (A:Ag K B H0 H σ Γ ρ F R) (h:Γ[i]?=some m):i < Γ.length:=(List.getElem?_eq_some_iff.mp h).1
noncomputable def own1 (F:Nat→List Addr) (i:Nat) (G:List Addr):Nat→List Addr:=fun j=>if j=i then G else F j
theorem own1_same {i:Nat} {G:List Addr}:own1 F i G i=G:=if_pos rfl
theorem own1_ne {i j:Nat} {G:List Addr} (h:j≠i):own1 F i G j=F j:=if_neg h
theorem Ag.put {i:Nat} {m:Md} {x:PV} {v:V} {G:List Addr} (A:Ag K B H0 H σ Γ ρ F (G ++ R)) (hi:i < Γ.length) (hG:∀ a∈G,a ∉ R) (hs:SlotOk K H (NO B (own1 F i G) R) m x (some (some v)) G) :
    Ag K B H0 H (σ.set i (some v)) (Γ.set i m) (ρ.set i x) (own1 F i G) R:=by
  refine ⟨A.same,A.own,fun j a ha=>?_,fun a ha=>A.youngR a (List.mem_append_right _ ha),fun j a ha=>?_,fun a ha=>A.liveR a (List.mem_append_right _ ha),fun j k hjk a ha z=>?_,fun j a ha z=>?_,by simp [A.lenS],by simp [A.lenR],fun j=>?_⟩
  · by_cases h:j=i
    · subst h; rw [own1_same] at ha; exact A.youngR a (List.mem_append_left _ ha)
    · rw [own1_ne h] at ha; exact A.young j a ha
  · by_cases h:j=i
    · subst h; rw [own1_same] at ha; exact A.liveR a (List.mem_append_left _ ha)
    · rw [own1_ne h] at ha; exact A.live j a ha
  · by_cases h:j=i
    · subst h
      rw [own1_same] at ha
      rw [own1_ne (Ne.symm hjk)] at z
      exact A.disjR k a z (List.mem_append_left _ ha)
    · rw [own1_ne h] at ha
      by_cases h':k=i
      · subst h'
        rw [own1_same] at z
        exact A.disjR j a ha (List.mem_append_left _ z)
      · rw [own1_ne h'] at z
        exact A.disj j k hjk a ha z
  · by_cases h:j=i
    · subst h; rw [own1_same] at ha; exact hG a ha z
    · rw [own1_ne h] at ha; exact A.disjR j a ha (List.mem_append_right _ z)
  · by_cases h:j=i
    · subst h
      rw [own1_same,List.getD_eq_getElem?_getD,List.getD_eq_getElem?_getD,List.getElem?_set_self hi,List.getElem?_set_self (by rw [A.lenR]; exact hi),List.getElem?_set_self (by rw [A.lenS]; exact hi)]
      exact hs
    · rw [own1_ne h,List.getD_eq_getElem?_getD,List.getD_eq_getElem?_getD,List.getElem?_set_ne (Ne.symm h),List.getElem?_set_ne (Ne.symm h),List.getElem?_set_ne (Ne.symm h),← List.getD_eq_getElem?_getD,← List.getD_eq_getElem?_getD]
      refine (A.slot j).mono (fun a vs s r=>⟨r,s.1,fun z=>s.2.1 (List.mem_append_right _ z),fun k z=>?_⟩) (fun a vs r=>r) fun a ha vs q=>q
      by_cases h':k=i
      · subst h'; rw [own1_same] at z; exact s.2.1 (List.mem_append_left _ z)
      · rw [own1_ne h'] at z; exact s.2.2 k z
theorem Ag.turn {i:Nat} {m m':Md} {G:List Addr} (A:Ag K B H0 H σ Γ ρ F R) (h:Γ[i]?=some m) (hG:∀ a∈G,a∈F i) (hs:SlotOk K H (NO B (own1 F i []) (G ++ R)) m' (ρ.getD i .non) σ[i]? []) :
    Ag K B H0 H σ (Γ.set i m') ρ (own1 F i []) (G ++ R):=by
  have hi:=A.lt h
  refine ⟨A.same,A.own,fun j a ha=>?_,fun a ha=>?_,fun j a ha=>?_,fun a ha=>?_,fun j k hjk a ha z=>?_,fun j a ha z=>?_,by simp [A.lenS],by simp [A.lenR],fun j=>?_⟩
  · by_cases h:j=i
    · subst h; rw [own1_same] at ha; simp at ha
    · rw [own1_ne h] at ha; exact A.young j a ha
  · rcases List.mem_append.mp ha with z | z
    · exact A.young i a (hG a z)
    · exact A.youngR a z
  · by_cases h:j=i
    · subst h; rw [own1_same] at ha; simp at ha
    · rw [own1_ne h] at ha; exact A.live j a ha
  · rcases List.mem_append.mp ha with z | z
    · exact A.live i a (hG a z)
    · exact A.liveR a z
  · by_cases h:j=i
    · subst h; rw [own1_same] at ha; simp at ha
    · by_cases h':k=i
      · subst h'; rw [own1_same] at z; simp at z
      · rw [own1_ne h] at ha; rw [own1_ne h'] at z; exact A.disj j k hjk a ha z
  · by_cases h:j=i
    · subst h; rw [own1_same] at ha; simp at ha
    · rw [own1_ne h] at ha
      rcases List.mem_append.mp z with z | z
      · exact A.disj j i h a ha (hG a z)
      · exact A.disjR j a ha z
  · by_cases h:j=i
    · subst h
      rw [own1_same,List.getD_eq_getElem?_getD (l:=Γ.set _ _),List.getElem?_set_self hi]
      exact hs
    · rw [own1_ne h,List.getD_eq_getElem?_getD (l:=Γ.set _ _),List.getElem?_set_ne (Ne.symm h),← List.getD_eq_getElem?_getD]
      refine (A.slot j).mono (fun a vs s r=>⟨r,s.1,fun z=>?_,fun k z=>?_⟩) (fun a vs r=>r) fun a ha vs q=>q
      · rcases List.mem_append.mp z with z | z
        · exact s.2.2 i (hG a z)
        · exact s.2.1 z
      · by_cases h':k=i
        · subst h'; rw [own1_same] at z; simp at z
        · rw [own1_ne h'] at z; exact s.2.2 k z
theorem Ag.noF (A:Ag K B H0 H σ Γ ρ F R) {i:Nat} {a:Addr} (ha:a∈F i):NO B (own1 F i []) R a:=⟨A.own a (A.young i a ha),A.disjR i a ha,fun j z=>by
  by_cases h:j=i
  · subst h; rw [own1_same] at z; simp at z
  · rw [own1_ne h] at z; exact A.disj j i h a z ha⟩
theorem Ag.freeze {i:Nat} {m:Md} (A:Ag K B H0 H σ Γ ρ F R) (h:Γ[i]?=some m) (hm:m≠.U):Ag K B H0 H σ (Γ.set i .S) ρ (own1 F i []) R:=by
  refine A.turn (G:=[]) h (by simp) ?_
  show SlotOk K H (NO B (own1 F i []) R) .S (ρ.getD i .non) σ[i]? []
  have up:∀ {a vs},NO B F R a→Rd H a vs→Rd H a vs∧NO B (own1 F i []) R a:=fun {a vs} s r=>⟨r,s.1,s.2.1,fun j z=>by
    by_cases h:j=i
    · subst h; rw [own1_same] at z; simp at z
    · rw [own1_ne h] at z; exact s.2.2 j z⟩
  cases m with
  | U=>exact absurd rfl hm
  | P=>obtain ⟨v,h1,h2,h3⟩:=A.getP h; exact ⟨rfl,v,h1,h3.flatS h2⟩
  | S=>obtain ⟨v,h1,h2⟩:=A.getS h; exact ⟨rfl,v,h1,Rep.mono (fun a vs s r=>up s r) (fun a vs r=>r) h2⟩
  | T =>
    obtain ⟨a,vs,xs,h1,h2,h3,h4,h5⟩:=A.getT h
    refine ⟨rfl,_,h1, ?_⟩
    rw [h2]
    exact ⟨a,vs,rfl,.inl ⟨.inl h3,A.noF (by rw [h5]; simp)⟩,Reps.mono (fun a vs s r=>up s r) (fun a vs r=>r) h4⟩
  | O =>
    obtain ⟨v,h1,h2⟩:=A.getO h
    exact ⟨rfl,v,h1,h2.rep fun a ha=>A.noF ha⟩
theorem Ag.move {i:Nat} (A:Ag K B H0 H σ Γ ρ F R) (h:Γ[i]?=some .O):Ag K B H0 H σ (Γ.set i .U) ρ (own1 F i []) (F i ++ R):=A.turn (G:=F i) h (fun a ha=>ha) rfl
end
end L2
namespace L2
open PySem PySem.Spec PyProof.Rows
noncomputable abbrev PX:=Str × PV
inductive Rr (α:Type) where
  | ok (a:α) | exc (e:PX) | bad
noncomputable def Rr.bind {α β:Type}:Rr α→(α→Rr β)→Rr β
  | .ok a,f=>f a
  | .exc e,_=>.exc e
  | .bad,_=>.bad
noncomputable def Dn {α:Type} (r:Rr α) (ok:α→Prop) (ex:PX→Prop):Prop:=match r with
  | .ok a=>ok a
  | .exc e=>ex e
  | .bad=>False
theorem Dn.bind {α β:Type} {r:Rr α} {f:α→Rr β} {ok:β→Prop} {ex:PX→Prop} (h:Dn (r.bind f) ok ex):Dn r (fun a=>Dn (f a) ok ex) ex:=by
  cases r with
  | ok a=>exact h
  | exc e=>exact h
  | bad=>exact h
theorem Dn.imp {α:Type} {r:Rr α} {ok ok':α→Prop} {ex ex':PX→Prop} (h:Dn r ok ex) (h1:∀ a,r=.ok a→ok a→ok' a) (h2:∀ e,ex e→ex' e):Dn r ok' ex':=by
  cases r with
  | ok a=>exact h1 a rfl h
  | exc e=>exact h2 e h
  | bad=>exact h
@[simp] theorem Rr.bind_ok {α β:Type} {a:α} {f:α→Rr β}:(Rr.ok a).bind f=f a:=rfl
@[simp] theorem Rr.bind_exc {α β:Type} {e:PX} {f:α→Rr β}:(Rr.exc e:Rr α).bind f=.exc e:=rfl
@[simp] theorem Rr.bind_bad {α β:Type} {f:α→Rr β}:(Rr.bad:Rr α).bind f=.bad:=rfl
inductive Kd | P | F | T | Z | A | N
noncomputable def Res (K:PySem.W.Frag) (B:Addr→Prop) (H0 H:Hp) (σ:St) (Γ':List Md) (ρ:List PV) (F:Nat→List Addr) (R:List Addr) (k:Kd) (x:PV) (v:V) (H':Hp):Prop :=
  ∃ F',(∀ i,∀ a∈F' i,a∈F i)∧match k with
  | .P=>x.flat=true∧Rep K H' (fun _=>True) x v∧Ag K B H0 H' σ Γ' ρ F' R
  | .F=>∃ G,Tree K H' x v G∧(∀ a∈G,a ∉ R∧(H a=none ∨ ∃ i,a∈F i))∧Ag K B H0 H' σ Γ' ρ F' (G ++ R)
  | .T=>∃ a vs xs,x=.lst xs∧v=.ref a∧H' a=some (.lst vs)∧Reps K H' (NO B F' (a :: R)) xs vs∧a ∉ R∧(H a=none ∨ ∃ i,a∈F i)∧Ag K B H0 H' σ Γ' ρ F' (a :: R)
  | .Z=>Rep K H' (NO B F' R) x v∧Ag K B H0 H' σ Γ' ρ F' R
  | .A=>Rep K H' (fun _=>True) x v∧Ag K B H0 H' σ Γ' ρ F' R
  | .N=>False
noncomputable def DE (K:PySem.W.Frag) (EX:PX→Hp→Prop) (Γ Γ':List Md) (k:Kd) (te:TE) (f:List PV→Rr PV):Prop :=
  ∀ (B:Addr→Prop) (H0 H:Hp) (σ:St) (ρ:List PV) (F:Nat→List Addr) (R:List Addr) (Q:VK),Ag K B H0 H σ Γ ρ F R →
    Dn (f ρ) (fun x=>∀ v H',Same H H'→Res K B H0 H σ Γ' ρ F R k x v H'→Q v H') (fun e=>∀ H',Same H0 H'→EX e H')→te σ H Q
noncomputable def DT (K:PySem.W.Frag) (EX:PX→Hp→Prop) (Γ Γ':List Md) (tt:TT) (f:List PV→Rr Bool):Prop :=
  ∀ (B:Addr→Prop) (H0 H:Hp) (σ:St) (ρ:List PV) (F:Nat→List Addr) (R:List Addr) (Q:Bool→Hp→Prop),Ag K B H0 H σ Γ ρ F R →
    Dn (f ρ) (fun b=>∀ H' F',Same H H'→(∀ i,∀ a∈F' i,a∈F i)→Ag K B H0 H' σ Γ' ρ F' R→Q b H') (fun e=>∀ H',Same H0 H'→EX e H')→tt σ H Q
section
variable {K:PySem.W.Frag} {B:Addr→Prop} {EX:PX→Hp→Prop} {H0 H H':Hp} {σ:St} {Γ Γ' Γ1 Γ2 Γ3:List Md} {ρ:List PV} {F F':Nat→List Addr} {R:List Addr} {k:Kd} {x:PV} {v:V} {te ta tb tc:TE} {f fa fb fc:List PV→Rr PV}
theorem Res.ag (h:Res K B H0 H σ Γ' ρ F R k x v H'):∃ F',(∀ i,∀ a∈F' i,a∈F i)∧Rep K H' (fun _=>True) x v∧Ag K B H0 H' σ Γ' ρ F' R:=by
  obtain ⟨F',hF,h⟩:=h
  refine ⟨F',hF, ?_⟩
  cases k with
  | P=>exact ⟨h.2.1,h.2.2⟩
  | F=>obtain ⟨G,h1,h2,h3⟩:=h; exact ⟨h1.rep fun _ _=>trivial,h3.less fun a ha=>List.mem_append_right _ ha⟩
  | T=>obtain ⟨a,vs,xs,rfl,rfl,h1,h2,h3,h4,h5⟩:=h; exact ⟨⟨a,vs,rfl,.inl ⟨.inl h1,trivial⟩,h2.any⟩,h5.less fun a ha=>List.mem_cons_of_mem _ ha⟩
  | Z=>exact ⟨h.1.any,h.2⟩
  | A=>exact h
  | N=>exact h.elim
theorem Res.toA (h:Res K B H0 H σ Γ' ρ F R k x v H'):Res K B H0 H σ Γ' ρ F R .A x v H':=let ⟨F',a,b,c⟩:=h.ag; ⟨F',a,b,c⟩
theorem Res.PF (h:Res K B H0 H σ Γ' ρ F R .P x v H'):Res K B H0 H σ Γ' ρ F R .F x v H':=by
  obtain ⟨F',hF,h1,h2,h3⟩:=h
  exact ⟨F',hF,[],h2.tree h1,by simp,h3⟩
theorem Res.FZ (h:Res K B H0 H σ Γ' ρ F R .F x v H'):Res K B H0 H σ Γ' ρ F R .Z x v H':=by
  obtain ⟨F',hF,G,h1,h2,h3⟩:=h
  exact ⟨F',hF,h1.rep fun a ha=>⟨h3.own a (h3.youngR a (List.mem_append_left _ ha)),(h2 a ha).1,fun i z=>h3.disjR i a z (List.mem_append_left _ ha)⟩,h3.less fun a ha=>List.mem_append_right _ ha⟩
theorem DE.imp {k':Kd} (h:DE K EX Γ Γ' k te f) (hr:∀ {B:Addr→Prop} {H0 H H':Hp} {σ:St} {ρ:List PV} {F:Nat→List Addr} {R:List Addr} {x:PV} {v:V},Res K B H0 H σ Γ' ρ F R k x v H'→Res K B H0 H σ Γ' ρ F R k' x v H'):DE K EX Γ Γ' k' te f :=
  fun B H0 H σ ρ F R Q A d=>h B H0 H σ ρ F R Q A (d.imp (fun x _ q v H' s r=>q v H' s (hr r)) fun e q=>q)
theorem DE.toA (h:DE K EX Γ Γ' k te f):DE K EX Γ Γ' .A te f:=h.imp Res.toA
theorem DE.PF (h:DE K EX Γ Γ' .P te f):DE K EX Γ Γ' .F te f:=h.imp Res.PF
theorem DE.FZ (h:DE K EX Γ Γ' .F te f):DE K EX Γ Γ' .Z te f:=h.imp Res.FZ
noncomputable def grd (x:PV):Rr PV:=if x.flat=true then .ok x else .bad
theorem DE.grd (h:DE K EX Γ Γ' .A te f):DE K EX Γ Γ' .P te (fun ρ=>(f ρ).bind grd):=fun B H0 H σ ρ F R Q A d=>by
  refine h B H0 H σ ρ F R Q A (d.bind.imp (fun x _ q v H' s r=>?_) fun e q=>q)
  unfold L2.grd at q
  by_cases hx:x.flat=true
  · rw [if_pos hx] at q
    obtain ⟨F',h1,h2,h3⟩:=r
    exact q v H' s ⟨F',h1,hx,h2,h3⟩
  · rw [if_neg hx] at q; exact q.elim
theorem de_c {v:V} (hf:x.flat=true) (hr:∀ H,Rep K H (fun _=>True) x v):DE K EX Γ Γ .P (tC v) (fun _=>.ok x):=fun B H0 H σ ρ F R Q A d =>
  d v H (Same.refl H) ⟨F,fun _ _ h=>h,hf,hr H,A⟩
theorem de_int {i:Int}:DE K EX Γ Γ .P (tC (.int i)) (fun _=>.ok (.int i)):=de_c rfl fun _=>rfl
theorem de_bl {b:Bool}:DE K EX Γ Γ .P (tC (.bl b)) (fun _=>.ok (.bl b)):=de_c rfl fun _=>rfl
theorem de_non:DE K EX Γ Γ .P (tC .non) (fun _=>.ok .non):=de_c rfl fun _=>rfl
theorem de_str {x:Str}:DE K EX Γ Γ .P (tC (.str x)) (fun _=>.ok (.str x)):=de_c rfl fun _=>rfl
noncomputable def gv (i:Nat) (ρ:List PV):PV:=ρ.getD i .non
theorem de_varA {i:Nat} {m:Md} (h:Γ[i]?=some m) (hm:m≠.U):DE K EX Γ Γ .A (tVar i) (fun ρ=>.ok (gv i ρ)):=fun B H0 H σ ρ F R Q A d=>by
  obtain ⟨v,h1,h2⟩:=A.getA h hm
  exact ⟨v,h1,d v H (Same.refl H) ⟨F,fun _ _ h=>h,h2,A⟩⟩
theorem de_varP {i:Nat} (h:Γ[i]?=some .P):DE K EX Γ Γ .P (tVar i) (fun ρ=>.ok (gv i ρ)):=fun B H0 H σ ρ F R Q A d=>by
  obtain ⟨v,h1,h2,h3⟩:=A.getP h
  exact ⟨v,h1,d v H (Same.refl H) ⟨F,fun _ _ h=>h,h2,h3,A⟩⟩
theorem de_varZ {i:Nat} (h:Γ[i]?=some .S):DE K EX Γ Γ .Z (tVar i) (fun ρ=>.ok (gv i ρ)):=fun B H0 H σ ρ F R Q A d=>by
  obtain ⟨v,h1,h2⟩:=A.getS h
  exact ⟨v,h1,d v H (Same.refl H) ⟨F,fun _ _ h=>h,h2,A⟩⟩
theorem own1_sub {i:Nat} {F:Nat→List Addr}:∀ j,∀ a∈own1 F i [] j,a∈F j:=fun j a ha=>by
  by_cases h:j=i
  · subst h; rw [own1_same] at ha; simp at ha
  · rw [own1_ne h] at ha; exact ha
theorem de_varM {i:Nat} (h:Γ[i]?=some .O):DE K EX Γ (Γ.set i .U) .F (tVar i) (fun ρ=>.ok (gv i ρ)):=fun B H0 H σ ρ F R Q A d=>by
  obtain ⟨v,h1,h2⟩:=A.getO h
  exact ⟨v,h1,d v H (Same.refl H) ⟨own1 F i [],own1_sub,F i,h2,fun a ha=>⟨A.disjR i a ha,.inr ⟨i,ha⟩⟩,A.move h⟩⟩
theorem de_varS {i:Nat} {m:Md} (h:Γ[i]?=some m) (hm:m≠.U):DE K EX Γ (Γ.set i .S) .Z (tVar i) (fun ρ=>.ok (gv i ρ)):=fun B H0 H σ ρ F R Q A d=>by
  have A':=A.freeze h hm
  obtain ⟨v,h1,h2⟩:=A'.getS (List.getElem?_set_self (A.lt h))
  exact ⟨v,h1,d v H (Same.refl H) ⟨own1 F i [],own1_sub,h2,A'⟩⟩
noncomputable def OpP (K:PySem.W.Frag) (r:R2) (o:PV→PV→Rr PV):Prop:=∀ {H:Hp} {x y:PV} {v w:V} {Q:VK},Rep K H (fun _=>True) x v→Rep K H (fun _=>True) y w →
  (∃ z,o x y=.ok z∧(z.flat=true→∀ u,Rep K H (fun _=>True) z u→Q u H))→r v w H Q
theorem Dn.bind2 {α β γ:Type} {r:Rr α} {q:Rr β} {f:α→β→Rr γ} {ok:γ→Prop} {ex:PX→Prop} (h:Dn (r.bind fun a=>q.bind fun b=>f a b) ok ex):Dn r (fun a=>Dn q (fun b=>Dn (f a b) ok ex) ex) ex :=
  h.bind.imp (fun a _ h=>h.bind) fun e h=>h
theorem two {Q:V→V→Hp→Prop} {ok:PV→PV→Prop} (ha:DE K EX Γ Γ1 .A ta fa) (hb:DE K EX Γ1 Γ2 .A tb fb) (A:Ag K B H0 H σ Γ ρ F R)
    (d:Dn (fa ρ) (fun x=>Dn (fb ρ) (fun y=>ok x y) (fun e=>∀ H',Same H0 H'→EX e H')) (fun e=>∀ H',Same H0 H'→EX e H'))
    (hq:∀ x y v w H' F',ok x y→Same H H'→(∀ i,∀ a∈F' i,a∈F i)→Rep K H' (fun _=>True) x v→Rep K H' (fun _=>True) y w→Ag K B H0 H' σ Γ2 ρ F' R→Q v w H') :
    ta σ H fun v H1=>tb σ H1 fun w H2=>Q v w H2:=by
  refine ha B H0 H σ ρ F R _ A (d.imp (fun x _ d v H1 s1 r1=>?_) fun e q=>q)
  obtain ⟨F1,f1,p1,A1⟩:=r1
  refine hb B H0 H1 σ ρ F1 R _ A1 (d.imp (fun y _ q w H2 s2 r2=>?_) fun e q=>q)
  obtain ⟨F2,f2,p2,A2⟩:=r2
  exact hq x y v w H2 F2 q (s1.trans s2) (fun i a h=>f1 i a (f2 i a h)) (p1.same s2) p2 A2
theorem de_op {r:R2} {o:PV→PV→Rr PV} (hr:OpP K r o) (ho:∀ x y z,o x y=.ok z→z.flat=true) (hx:∀ x y e,o x y≠.exc e) (ha:DE K EX Γ Γ1 .A ta fa) (hb:DE K EX Γ1 Γ2 .A tb fb) :
    DE K EX Γ Γ2 .P (tOp r ta tb) (fun ρ=>(fa ρ).bind fun x=>(fb ρ).bind fun y=>o x y):=fun B H0 H σ ρ F R Q A d=>by
  refine two ha hb A d.bind2 fun x y v w H' F' d s hF p1 p2 A'=>?_
  cases e:o x y with
  | ok z=>rw [e] at d; exact hr p1 p2 ⟨z,e,fun hf u hu=>d u H' s ⟨F',hF,hf,hu,A'⟩⟩
  | exc q=>exact absurd e (hx x y q)
  | bad=>rw [e] at d; exact d.elim
noncomputable def UnP (K:PySem.W.Frag) (r:V→Hp→VK→Prop) (o:PV→Rr PV):Prop:=∀ {H:Hp} {x:PV} {v:V} {Q:VK},Rep K H (fun _=>True) x v→(∃ z,o x=.ok z∧(z.flat=true→∀ u,Rep K H (fun _=>True) z u→Q u H))→r v H Q
theorem de_un {r:V→Hp→VK→Prop} {o:PV→Rr PV} (hr:UnP K r o) (hx:∀ x e,o x≠.exc e) (ha:DE K EX Γ Γ1 .A ta fa):DE K EX Γ Γ1 .P (tUn r ta) (fun ρ=>(fa ρ).bind o):=fun B H0 H σ ρ F R Q A d=>by
  refine ha B H0 H σ ρ F R _ A (d.bind.imp (fun x _ d v H1 s1 r1=>?_) fun e q=>q)
  obtain ⟨F1,f1,p1,A1⟩:=r1
  cases e:o x with
  | ok z=>rw [e] at d; exact hr p1 ⟨z,e,fun hf u hu=>d u H1 s1 ⟨F1,f1,hf,hu,A1⟩⟩
  | exc q=>exact absurd e (hx x q)
  | bad=>rw [e] at d; exact d.elim
noncomputable def oI (C:Int→Int→Bool) (g:Int→Int→PV) (x y:PV):Rr PV:=match x,y with
  | .int i,.int j=>if C i j=true then .ok (g i j) else .bad
  | _,_=>.bad
theorem oI_int {C:Int→Int→Bool} {g:Int→Int→PV} {i j:Int} (h:C i j=true):oI C g (.int i) (.int j)=.ok (g i j):=if_pos h
theorem opPI {C:Int→Int→Bool} {D:Int→Int→Prop} {g:Int→Int→PV} {g':Int→Int→V} (hC:∀ i j,C i j=true→D i j) (hg:∀ H i j,Rep K H (fun _=>True) (g i j) (g' i j)) (hf:∀ i j,(g i j).flat=true):OpP K (rI D g') (oI C g):=by
  intro H x y v w Q rx ry ⟨z,e,q⟩
  cases x <;> cases y <;> first | (simp only [oI] at e; cases e; done) | skip
  rename_i i j
  simp only [oI] at e
  by_cases h:C i j=true
  · rw [if_pos h] at e; cases e
    cases rx; cases ry
    exact ⟨i,j,rfl,rfl,hC i j h,q (hf i j) _ (hg H i j)⟩
  · rw [if_neg h] at e; cases e
theorem opPI0 {g:Int→Int→PV} {g':Int→Int→V} (hg:∀ H i j,Rep K H (fun _=>True) (g i j) (g' i j)) (hf:∀ i j,(g i j).flat=true):OpP K (rI0 g') (oI (fun _ _=>true) g):=by
  intro H x y v w Q rx ry ⟨z,e,q⟩
  cases x <;> cases y <;> first | (simp only [oI] at e; cases e; done) | skip
  rename_i i j
  simp only [oI,if_true] at e
  cases e; cases rx; cases ry
  exact ⟨i,j,rfl,rfl,q (hf i j) _ (hg H i j)⟩
theorem oI_noexc {C:Int→Int→Bool} {g:Int→Int→PV} (x y:PV) (e:PX):oI C g x y≠.exc e:=by
  cases x <;> cases y <;> first | (intro h; simp only [oI] at h; cases h; done) | skip
  intro h
  simp only [oI] at h
  split at h <;> cases h
theorem oI_flat {C:Int→Int→Bool} {g:Int→Int→PV} (hf:∀ i j,(g i j).flat=true) (x y z:PV) (h:oI C g x y=.ok z):z.flat=true:=by
  cases x <;> cases y <;> first | (simp only [oI] at h; cases h; done) | skip
  simp only [oI] at h
  split at h
  · cases h; exact hf _ _
  · cases h
end
end L2
namespace L2
open PySem PySem.Spec PyProof.Rows
mutual
noncomputable def PV.noX:PV→Bool
  | .exc _=>false
  | .exa _ _=>false
  | .box _ _ _=>false
  | .lst xs=>PV.noXs xs
  | .tup xs=>PV.noXs xs
  | .non=>true
  | .bl _=>true
  | .int _=>true
  | .str _=>true
noncomputable def PV.noXs:List PV→Bool
  | []=>true
  | x :: xs=>x.noX && PV.noXs xs
end
theorem PV.noXs_ints:∀ (ns:List Int),PV.noXs (ns.map PV.int)=true
  | []=>rfl
  | n :: ns=>by simp [PV.noXs,PV.noX,PV.noXs_ints ns]
mutual
noncomputable def PV.dat:PV→PyData
  | .non=>.none
  | .bl b=>.bool b
  | .int i=>.int i
  | .str x=>.str x
  | .exc _=>.none
  | .exa _ _=>.none
  | .box _ _ _=>.none
  | .lst xs=>.list (PV.dats xs)
  | .tup xs=>.tuple (PV.dats xs)
noncomputable def PV.dats:List PV→List PyData
  | []=>[]
  | x :: xs=>x.dat :: PV.dats xs
end
section
variable {X:Cx} {pins:List (Addr × Obj)} {σ:St} {H:Hp} {s:Shared} {S:Addr→Prop}
theorem sq_of {K:PySem.W.Frag} {a:Addr} {vs:List V} (h:(Rd H a (.lst vs)∧S a) ∨ KL K a vs):SqL K H a vs:=by
  rcases h with h | h
  · exact .inl h.1
  · exact .inr h
mutual
theorem Rep.reads (I:Inv X pins σ H s):∀ {x:PV} {v:V} {u:Value},x.noX=true→Rep X.K H S x v→RelV v u→∃ as,Reads s.heap u x.dat as
  | .non,_,_,_,h,r=>by cases h; cases r; exact ⟨_,.none⟩
  | .bl _,_,_,_,h,r=>by cases h; cases r; exact ⟨_,.bool _⟩
  | .int _,_,_,_,h,r=>by cases h; obtain ⟨t,rfl⟩:=r; exact ⟨_,.int _ _⟩
  | .str _,_,_,_,h,r=>by cases h; obtain ⟨t,rfl⟩:=r; exact ⟨_,.str _ _⟩
  | .exc _,_,_,z,_,_=>by simp [PV.noX] at z
  | .exa _ _,_,_,z,_,_=>by simp [PV.noX] at z
  | .box _ _ _,_,_,z,_,_=>by simp [PV.noX] at z
  | .lst xs,_,_,z,h,r=>by
    obtain ⟨a,vs,rfl,hn,hr⟩:=h
    cases r
    obtain ⟨its,rv,pl,_⟩:=I.list (sq_of hn)
    obtain ⟨as,ra⟩:=Reps.reads I (by simpa [PV.noX] using z) hr rv
    obtain ⟨o,ho,hc,n,hd⟩:=pl.isList
    exact ⟨_,.list ho hc hd (by simpa using ra)⟩
  | .tup xs,_,_,z,h,r=>by
    obtain ⟨a,vs,rfl,hn,hr⟩:=h
    cases r
    obtain ⟨its,rv,⟨o,ho,hc,n,hd⟩,_⟩:=I.tuple hn.sqT
    obtain ⟨as,ra⟩:=Reps.reads I (by simpa [PV.noX] using z) hr rv
    exact ⟨_,.tuple ho hc hd (by simpa using ra)⟩
theorem Reps.reads (I:Inv X pins σ H s):∀ {xs:List PV} {vs:List V} {us:List Value},PV.noXs xs=true→Reps X.K H S xs vs→Vals vs us→∃ as,ReadsAll s.heap us (PV.dats xs) as
  | [],_,_,_,h,r=>by rw [h] at r; cases r; exact ⟨_,.nil⟩
  | x :: xs,_,_,z,h,r=>by
    simp only [PV.noXs,Bool.and_eq_true] at z
    obtain ⟨v,vs,rfl,h1,h2⟩:=h
    cases r with
    | cons r1 r2 =>
      obtain ⟨as,a1⟩:=Rep.reads I z.1 h1 r1
      obtain ⟨bs,b1⟩:=Reps.reads I z.2 h2 r2
      exact ⟨_,.cons a1 b1⟩
end
noncomputable def okD (x:PV):Bool:=x.noX && x.dat.canLay0 && decide (x.dat.depth≤64)
noncomputable def rEqD (K:PySem.W.Frag) (g:Bool→Bool):R2:=fun x y H Q=>∃ p q,Rep K H (fun _=>True) p x∧Rep K H (fun _=>True) q y∧okD p=true∧okD q=true∧Q (.bl (g (PyData.eqv p.dat q.dat))) H
theorem op_eqD {K:PySem.W.Frag} (hu:X.A.units + 64 < cLine) (e:X.K=K:=by rfl):OpR X (compareOp .Eq) (rEqD K id):=by
  subst e
  intro pins s σ H x y v u Q I rx ry h
  obtain ⟨p,q,h1,h2,h3,h4,hq⟩:=h
  simp only [okD,Bool.and_eq_true,decide_eq_true_eq] at h3 h4
  obtain ⟨as,ra⟩:=h1.reads I h3.1.1 rx
  obtain ⟨bs,rb⟩:=h2.reads I h4.1.1 ry
  exact SeqAt.rcAt_reads ra rb h3.1.2 h4.1.2 (by have:=Nat.min_le_left p.dat.depth q.dat.depth; omega) _ _ _ _ ⟨.bl (PyData.eqv p.dat q.dat),H,I,rfl,hq⟩
theorem op_neD {K:PySem.W.Frag} (hu:X.A.units + 64 < cLine) (e:X.K=K:=by rfl):OpR X (compareOp .NotEq) (rEqD K (!·)):=by
  subst e
  intro pins s σ H x y v u Q I rx ry h
  obtain ⟨p,q,h1,h2,h3,h4,hq⟩:=h
  simp only [okD,Bool.and_eq_true,decide_eq_true_eq] at h3 h4
  obtain ⟨as,ra⟩:=h1.reads I h3.1.1 rx
  obtain ⟨bs,rb⟩:=h2.reads I h4.1.1 ry
  exact SeqAt.rcNeAt_reads ra rb h3.1.2 h4.1.2 (by have:=Nat.min_le_left p.dat.depth q.dat.depth; omega) _ _ _ _ ⟨.bl (!PyData.eqv p.dat q.dat),H,I,rfl,hq⟩
end
noncomputable def pEqG (g:Bool→Bool) (x y:PV):Rr PV:=if (okD x && okD y)=true then .ok (.bl (g (PyData.eqv x.dat y.dat))) else .bad
noncomputable def CMulB (i j:Int):Prop:=i.natAbs < 2 ^ 60000∧j.natAbs < 2 ^ 60000
noncomputable def CDivB (i j:Int):Prop:=0 < j∧j.natAbs < 2 ^ 9000
noncomputable instance (i j:Int):Decidable (CMulB i j):=by unfold CMulB; infer_instance
noncomputable instance (i j:Int):Decidable (CDivB i j):=by unfold CDivB; infer_instance
noncomputable instance (i j:Int):Decidable (CPow i j):=by unfold CPow; infer_instance
theorem bits_le {i:Int} {n:Nat} (h:i.natAbs < 2 ^ n):Builtin.Int.intBits i≤n:=by
  unfold Builtin.Int.intBits
  split
  · exact Nat.zero_le _
  · rename_i h0
    have:i.natAbs≠0:=by simpa using h0
    exact Nat.succ_le_of_lt ((Nat.log2_lt this).mpr h)
section
variable {X:Cx}
theorem op_mulB:OpR X (binaryOp .Mult) (rI CMulB fun i j=>.int (i * j)):=opI fun _ _ _ _ _ _ _ hc q=>mul_int q (PyProof.Rows.mulOk_of_bits (bits_le hc.1) (bits_le hc.2) (by decide))
theorem op_fdivB:OpR X (binaryOp .FloorDiv) (rI CDivB fun i j=>.int (i / j)):=opI fun i j _ _ _ _ _ hc q=>by
  refine floordiv_int (by have:=hc.1; omega) ?_ (.inl (PyProof.noPylong_of_log2 ?_))
  · rw [Int.fdiv_eq_ediv_of_nonneg _ (by have:=hc.1; omega)]; exact q
  · have h0:j.natAbs≠0:=by have:=hc.1; omega
    exact (Nat.log2_lt h0).mpr hc.2
end
section
variable {K:PySem.W.Frag} {B:Addr→Prop} {EX:PX→Hp→Prop} {H0 H H':Hp} {σ:St} {Γ Γ' Γ1 Γ2 Γ3:List Md} {ρ:List PV} {F F':Nat→List Addr} {R:List Addr} {k:Kd} {x:PV} {v:V} {te ta tb tc:TE} {f fa fb fc:List PV→Rr PV}
noncomputable abbrev pAdd:PV→PV→Rr PV:=oI (fun _ _=>true) fun i j=>.int (i + j)
noncomputable abbrev pSub:PV→PV→Rr PV:=oI (fun _ _=>true) fun i j=>.int (i - j)
noncomputable abbrev pMul:PV→PV→Rr PV:=oI (fun i j=>decide (CMulB i j)) fun i j=>.int (i * j)
noncomputable abbrev pDiv:PV→PV→Rr PV:=oI (fun i j=>decide (CDivB i j)) fun i j=>.int (i / j)
noncomputable abbrev pMod:PV→PV→Rr PV:=oI (fun _ j=>decide (0 < j)) fun i j=>.int (i % j)
noncomputable abbrev pPow:PV→PV→Rr PV:=oI (fun i j=>decide (CPow i j)) fun i j=>.int (i ^ j.toNat)
noncomputable abbrev pLt:PV→PV→Rr PV:=oI (fun _ _=>true) fun i j=>.bl (decide (i < j))
noncomputable abbrev pLe:PV→PV→Rr PV:=oI (fun _ _=>true) fun i j=>.bl (decide (i≤j))
noncomputable abbrev pGt:PV→PV→Rr PV:=oI (fun _ _=>true) fun i j=>.bl (decide (j < i))
noncomputable abbrev pGe:PV→PV→Rr PV:=oI (fun _ _=>true) fun i j=>.bl (decide (j≤i))
theorem de_oI {D:Int→Int→Prop} {C:Int→Int→Bool} {g:Int→Int→PV} {g':Int→Int→V} (hC:∀ i j,C i j=true→D i j) (hg:∀ H i j,Rep K H (fun _=>True) (g i j) (g' i j)) (hf:∀ i j,(g i j).flat=true)
    (ha:DE K EX Γ Γ1 .A ta fa) (hb:DE K EX Γ1 Γ2 .A tb fb):DE K EX Γ Γ2 .P (tOp (rI D g') ta tb) (fun ρ=>(fa ρ).bind fun x=>(fb ρ).bind fun y=>oI C g x y) :=
  de_op (opPI hC hg hf) (oI_flat hf) oI_noexc ha hb
theorem de_oI0 {g:Int→Int→PV} {g':Int→Int→V} (hg:∀ H i j,Rep K H (fun _=>True) (g i j) (g' i j)) (hf:∀ i j,(g i j).flat=true)
    (ha:DE K EX Γ Γ1 .A ta fa) (hb:DE K EX Γ1 Γ2 .A tb fb):DE K EX Γ Γ2 .P (tOp (rI0 g') ta tb) (fun ρ=>(fa ρ).bind fun x=>(fb ρ).bind fun y=>oI (fun _ _=>true) g x y) :=
  de_op (opPI0 hg hf) (oI_flat hf) oI_noexc ha hb
theorem de_add (ha:DE K EX Γ Γ1 .A ta fa) (hb:DE K EX Γ1 Γ2 .A tb fb):DE K EX Γ Γ2 .P (tOp (rI0 fun i j=>.int (i + j)) ta tb) (fun ρ=>(fa ρ).bind fun x=>(fb ρ).bind fun y=>pAdd x y):=de_oI0 (fun _ _ _=>rfl) (fun _ _=>rfl) ha hb
theorem de_sub (ha:DE K EX Γ Γ1 .A ta fa) (hb:DE K EX Γ1 Γ2 .A tb fb):DE K EX Γ Γ2 .P (tOp (rI0 fun i j=>.int (i - j)) ta tb) (fun ρ=>(fa ρ).bind fun x=>(fb ρ).bind fun y=>pSub x y):=de_oI0 (fun _ _ _=>rfl) (fun _ _=>rfl) ha hb
theorem de_lt (ha:DE K EX Γ Γ1 .A ta fa) (hb:DE K EX Γ1 Γ2 .A tb fb):DE K EX Γ Γ2 .P (tOp (rI0 fun i j=>.bl (decide (i < j))) ta tb) (fun ρ=>(fa ρ).bind fun x=>(fb ρ).bind fun y=>pLt x y):=de_oI0 (fun _ _ _=>rfl) (fun _ _=>rfl) ha hb
theorem de_le (ha:DE K EX Γ Γ1 .A ta fa) (hb:DE K EX Γ1 Γ2 .A tb fb):DE K EX Γ Γ2 .P (tOp (rI0 fun i j=>.bl (decide (i≤j))) ta tb) (fun ρ=>(fa ρ).bind fun x=>(fb ρ).bind fun y=>pLe x y):=de_oI0 (fun _ _ _=>rfl) (fun _ _=>rfl) ha hb
theorem de_gt (ha:DE K EX Γ Γ1 .A ta fa) (hb:DE K EX Γ1 Γ2 .A tb fb):DE K EX Γ Γ2 .P (tOp (rI0 fun i j=>.bl (decide (j < i))) ta tb) (fun ρ=>(fa ρ).bind fun x=>(fb ρ).bind fun y=>pGt x y):=de_oI0 (fun _ _ _=>rfl) (fun _ _=>rfl) ha hb
theorem de_ge (ha:DE K EX Γ Γ1 .A ta fa) (hb:DE K EX Γ1 Γ2 .A tb fb):DE K EX Γ Γ2 .P (tOp (rI0 fun i j=>.bl (decide (j≤i))) ta tb) (fun ρ=>(fa ρ).bind fun x=>(fb ρ).bind fun y=>pGe x y):=de_oI0 (fun _ _ _=>rfl) (fun _ _=>rfl) ha hb
theorem de_mul (ha:DE K EX Γ Γ1 .A ta fa) (hb:DE K EX Γ1 Γ2 .A tb fb):DE K EX Γ Γ2 .P (tOp (rI CMulB fun i j=>.int (i * j)) ta tb) (fun ρ=>(fa ρ).bind fun x=>(fb ρ).bind fun y=>pMul x y):=de_oI (fun _ _ h=>of_decide_eq_true h) (fun _ _ _=>rfl) (fun _ _=>rfl) ha hb
theorem de_div (ha:DE K EX Γ Γ1 .A ta fa) (hb:DE K EX Γ1 Γ2 .A tb fb):DE K EX Γ Γ2 .P (tOp (rI CDivB fun i j=>.int (i / j)) ta tb) (fun ρ=>(fa ρ).bind fun x=>(fb ρ).bind fun y=>pDiv x y):=de_oI (fun _ _ h=>of_decide_eq_true h) (fun _ _ _=>rfl) (fun _ _=>rfl) ha hb
theorem de_mod (ha:DE K EX Γ Γ1 .A ta fa) (hb:DE K EX Γ1 Γ2 .A tb fb):DE K EX Γ Γ2 .P (tOp (rI (fun _ j=>0 < j) fun i j=>.int (i % j)) ta tb) (fun ρ=>(fa ρ).bind fun x=>(fb ρ).bind fun y=>pMod x y):=de_oI (fun _ _ h=>of_decide_eq_true h) (fun _ _ _=>rfl) (fun _ _=>rfl) ha hb
theorem de_pow (ha:DE K EX Γ Γ1 .A ta fa) (hb:DE K EX Γ1 Γ2 .A tb fb):DE K EX Γ Γ2 .P (tOp (rI CPow fun i j=>.int (i ^ j.toNat)) ta tb) (fun ρ=>(fa ρ).bind fun x=>(fb ρ).bind fun y=>pPow x y):=de_oI (fun _ _ h=>of_decide_eq_true h) (fun _ _ _=>rfl) (fun _ _=>rfl) ha hb
noncomputable def pNeg (x:PV):Rr PV:=match x with
  | .int i=>.ok (.int (-i))
  | _=>.bad
theorem de_neg (ha:DE K EX Γ Γ1 .A ta fa):DE K EX Γ Γ1 .P (tUn (rU fun i=>.int (-i)) ta) (fun ρ=>(fa ρ).bind pNeg):=by
  refine de_un (fun {H x v Q} rx ⟨z,e,q⟩=>?_) (fun x e h=>?_) ha
  · cases x <;> first | (simp only [pNeg] at e; cases e; done) | skip
    cases e; cases rx
    exact ⟨_,rfl,q rfl _ rfl⟩
  · cases x <;> (simp only [pNeg] at h; cases h)
theorem pEqG_noexc {g:Bool→Bool} (x y:PV) (e:PX):pEqG g x y≠.exc e:=by
  unfold pEqG
  intro h
  split at h <;> cases h
theorem pEqG_flat {g:Bool→Bool} (x y z:PV) (h:pEqG g x y=.ok z):z.flat=true:=by
  unfold pEqG at h
  split at h
  · cases h; rfl
  · cases h
theorem de_eqG {g:Bool→Bool} (ha:DE K EX Γ Γ1 .A ta fa) (hb:DE K EX Γ1 Γ2 .A tb fb):DE K EX Γ Γ2 .P (tOp (rEqD K g) ta tb) (fun ρ=>(fa ρ).bind fun x=>(fb ρ).bind fun y=>pEqG g x y):=by
  refine de_op (fun {H x y v w Q} rx ry ⟨z,e,q⟩=>?_) pEqG_flat pEqG_noexc ha hb
  unfold pEqG at e
  by_cases h:(okD x && okD y)=true
  · rw [if_pos h] at e; cases e
    rw [Bool.and_eq_true] at h
    exact ⟨x,y,rx,ry,h.1,h.2,q rfl _ rfl⟩
  · rw [if_neg h] at e; cases e
noncomputable def asB (x:PV):Rr Bool:=match x with
  | .bl b=>.ok b
  | _=>.bad
theorem Dn.asB {x:PV} {ok:Bool→Prop} {ex:PX→Prop} (d:Dn (asB x) ok ex):∃ b,x=.bl b∧ok b:=by
  cases x with
  | bl b=>exact ⟨b,rfl,d⟩
  | _=>exact d.elim
theorem de_not (ha:DE K EX Γ Γ1 .A ta fa):DE K EX Γ Γ1 .P (tNotV ta) (fun ρ=>(fa ρ).bind fun x=>(asB x).bind fun b=>.ok (.bl (!b))):=fun B H0 H σ ρ F R Q A d=>by
  refine ha B H0 H σ ρ F R _ A (d.bind.imp (fun x _ d v H1 s1 r1=>?_) fun e q=>q)
  obtain ⟨b,rfl,d⟩:=d.bind.asB
  obtain ⟨F1,f1,p1,A1⟩:=r1
  cases p1
  exact ⟨b,rfl,d _ H1 s1 ⟨F1,f1,rfl,rfl,A1⟩⟩
theorem Res.shift {H1:Hp} {F1:Nat→List Addr} {k:Kd} {Γ2:List Md} {y:PV} {w:V} {H2:Hp} (s1:Same H H1) (f1:∀ i,∀ a∈F1 i,a∈F i) (h:Res K B H0 H1 σ Γ2 ρ F1 R k y w H2):Res K B H0 H σ Γ2 ρ F R k y w H2:=by
  obtain ⟨F2,f2,h⟩:=h
  refine ⟨F2,fun i a ha=>f1 i a (f2 i a ha), ?_⟩
  have org:∀ a,(H1 a=none ∨ ∃ i,a∈F1 i)→(H a=none ∨ ∃ i,a∈F i):=fun a h=>h.elim (fun z=>.inl (s1.free z)) fun ⟨i,z⟩=>.inr ⟨i,f1 i a z⟩
  cases k with
  | P=>exact h
  | F=>obtain ⟨G,h1,h2,h3⟩:=h; exact ⟨G,h1,fun a ha=>⟨(h2 a ha).1,org a (h2 a ha).2⟩,h3⟩
  | T=>obtain ⟨a,vs,xs,h1,h2,h3,h4,h5,h6,h7⟩:=h; exact ⟨a,vs,xs,h1,h2,h3,h4,h5,org a h6,h7⟩
  | Z=>exact h
  | A=>exact h
  | N=>exact h.elim
theorem de_and (ha:DE K EX Γ Γ .A ta fa) (hb:DE K EX Γ Γ .P tb fb):DE K EX Γ Γ .P (tAndV ta tb) (fun ρ=>(fa ρ).bind fun x=>(asB x).bind fun b=>if b=true then fb ρ else .ok (.bl false)):=fun B H0 H σ ρ F R Q A d=>by
  refine ha B H0 H σ ρ F R _ A (d.bind.imp (fun x _ d v H1 s1 r1=>?_) fun e q=>q)
  obtain ⟨b,rfl,d⟩:=d.bind.asB
  obtain ⟨F1,f1,p1,A1⟩:=r1
  cases p1
  refine ⟨b,rfl, ?_⟩
  cases b with
  | true=>exact hb B H0 H1 σ ρ F1 R _ A1 (d.imp (fun y _ q w H2 s2 r2=>q w H2 (s1.trans s2) (r2.shift s1 f1)) fun e q=>q)
  | false=>exact d _ H1 s1 ⟨F1,f1,rfl,rfl,A1⟩
theorem de_or (ha:DE K EX Γ Γ .A ta fa) (hb:DE K EX Γ Γ .P tb fb):DE K EX Γ Γ .P (tOrV ta tb) (fun ρ=>(fa ρ).bind fun x=>(asB x).bind fun b=>if b=true then .ok (.bl true) else fb ρ):=fun B H0 H σ ρ F R Q A d=>by
  refine ha B H0 H σ ρ F R _ A (d.bind.imp (fun x _ d v H1 s1 r1=>?_) fun e q=>q)
  obtain ⟨b,rfl,d⟩:=d.bind.asB
  obtain ⟨F1,f1,p1,A1⟩:=r1
  cases p1
  refine ⟨b,rfl, ?_⟩
  cases b with
  | false=>exact hb B H0 H1 σ ρ F1 R _ A1 (d.imp (fun y _ q w H2 s2 r2=>q w H2 (s1.trans s2) (r2.shift s1 f1)) fun e q=>q)
  | true=>exact d _ H1 s1 ⟨F1,f1,rfl,rfl,A1⟩
theorem dt_test (ha:DE K EX Γ Γ' .A ta fa):DT K EX Γ Γ' (tTest ta) (fun ρ=>(fa ρ).bind asB):=fun B H0 H σ ρ F R Q A d=>by
  refine ha B H0 H σ ρ F R _ A (d.bind.imp (fun x _ d v H1 s1 r1=>?_) fun e q=>q)
  obtain ⟨b,rfl,d⟩:=d.asB
  obtain ⟨F1,f1,p1,A1⟩:=r1
  cases p1
  exact ⟨b,rfl,d H1 F1 s1 f1 A1⟩
theorem dt_b (ha:DE K EX Γ Γ' .A ta fa):DT K EX Γ Γ' (tB ta) (fun ρ=>(fa ρ).bind asB):=dt_test ha
theorem dt_and {c d:TT} {fc fd:List PV→Rr Bool} (hc:DT K EX Γ Γ c fc) (hd:DT K EX Γ Γ d fd):DT K EX Γ Γ (tAnd c d) (fun ρ=>(fc ρ).bind fun b=>if b=true then fd ρ else .ok false):=fun B H0 H σ ρ F R Q A dn=>by
  refine hc B H0 H σ ρ F R _ A (dn.bind.imp (fun b _ dn H1 F1 s1 f1 A1=>?_) fun e q=>q)
  cases b with
  | true=>exact hd B H0 H1 σ ρ F1 R _ A1 (dn.imp (fun y _ q H2 F2 s2 f2 A2=>q H2 F2 (s1.trans s2) (fun i a h=>f1 i a (f2 i a h)) A2) fun e q=>q)
  | false=>exact dn H1 F1 s1 f1 A1
theorem dt_or {c d:TT} {fc fd:List PV→Rr Bool} (hc:DT K EX Γ Γ c fc) (hd:DT K EX Γ Γ d fd):DT K EX Γ Γ (tOr c d) (fun ρ=>(fc ρ).bind fun b=>if b=true then .ok true else fd ρ):=fun B H0 H σ ρ F R Q A dn=>by
  refine hc B H0 H σ ρ F R _ A (dn.bind.imp (fun b _ dn H1 F1 s1 f1 A1=>?_) fun e q=>q)
  cases b with
  | false=>exact hd B H0 H1 σ ρ F1 R _ A1 (dn.imp (fun y _ q H2 F2 s2 f2 A2=>q H2 F2 (s1.trans s2) (fun i a h=>f1 i a (f2 i a h)) A2) fun e q=>q)
  | true=>exact dn H1 F1 s1 f1 A1
theorem dt_not {c:TT} {fc:List PV→Rr Bool} (hc:DT K EX Γ Γ' c fc):DT K EX Γ Γ' (tNot c) (fun ρ=>(fc ρ).bind fun b=>.ok (!b)):=fun B H0 H σ ρ F R Q A dn =>
  hc B H0 H σ ρ F R _ A (dn.bind.imp (fun b _ dn H1 F1 s1 f1 A1=>dn H1 F1 s1 f1 A1) fun e q=>q)
end
end L2
namespace L2
open PySem PySem.Spec PyProof.Rows
noncomputable def DAA (K:PySem.W.Frag) (EX:PX→Hp→Prop) (Γ Γ':List Md) (ta:TA) (f:List PV→Rr (List PV)):Prop :=
  ∀ (B:Addr→Prop) (H0 H:Hp) (σ:St) (ρ:List PV) (F:Nat→List Addr) (R:List Addr) (Q:List V→Hp→Prop),Ag K B H0 H σ Γ ρ F R →
    Dn (f ρ) (fun xs=>∀ vs H' F',Same H H'→(∀ i,∀ a∈F' i,a∈F i)→Reps K H' (fun _=>True) xs vs→Ag K B H0 H' σ Γ' ρ F' R→Q vs H') (fun e=>∀ H',Same H0 H'→EX e H')→ta σ H Q
noncomputable def DAF (K:PySem.W.Frag) (EX:PX→Hp→Prop) (Γ Γ':List Md) (ta:TA) (f:List PV→Rr (List PV)):Prop :=
  ∀ (B:Addr→Prop) (H0 H:Hp) (σ:St) (ρ:List PV) (F:Nat→List Addr) (R:List Addr) (Q:List V→Hp→Prop),Ag K B H0 H σ Γ ρ F R →
    Dn (f ρ) (fun xs=>∀ vs H' F' G,Same H H'→(∀ i,∀ a∈F' i,a∈F i)→Trees K H' xs vs G→(∀ a∈G,a ∉ R∧(H a=none ∨ ∃ i,a∈F i))→Ag K B H0 H' σ Γ' ρ F' (G ++ R)→Q vs H') (fun e=>∀ H',Same H0 H'→EX e H')→ta σ H Q
section
variable {K:PySem.W.Frag} {B:Addr→Prop} {EX:PX→Hp→Prop} {H0 H H':Hp} {σ:St} {Γ Γ' Γ1 Γ2 Γ3:List Md} {ρ:List PV} {F F':Nat→List Addr} {R:List Addr} {k:Kd} {x:PV} {v:V} {te tb tc:TE} {ta:TA} {f fb fc:List PV→Rr PV} {fa:List PV→Rr (List PV)}
theorem daa_nil:DAA K EX Γ Γ tNil (fun _=>.ok []):=fun B H0 H σ ρ F R Q A d=>d [] H F (Same.refl H) (fun _ _ h=>h) rfl A
theorem daa_cons (he:DE K EX Γ Γ1 .A te f) (ha:DAA K EX Γ1 Γ2 ta fa):DAA K EX Γ Γ2 (tCons te ta) (fun ρ=>(f ρ).bind fun x=>(fa ρ).bind fun xs=>.ok (x :: xs)):=fun B H0 H σ ρ F R Q A d=>by
  refine he B H0 H σ ρ F R _ A (d.bind.imp (fun x _ d v H1 s1 r1=>?_) fun e q=>q)
  obtain ⟨F1,f1,p1,A1⟩:=r1
  refine ha B H0 H1 σ ρ F1 R _ A1 (d.bind.imp (fun xs _ d vs H2 F2 s2 f2 p2 A2=>?_) fun e q=>q)
  exact d (v :: vs) H2 F2 (s1.trans s2) (fun i a h=>f1 i a (f2 i a h)) ⟨v,vs,rfl,p1.same s2,p2⟩ A2
theorem daf_nil:DAF K EX Γ Γ tNil (fun _=>.ok []):=fun B H0 H σ ρ F R Q A d=>d [] H F [] (Same.refl H) (fun _ _ h=>h) ⟨rfl,rfl⟩ (by simp) A
theorem daf_cons (he:DE K EX Γ Γ1 .F te f) (ha:DAF K EX Γ1 Γ2 ta fa):DAF K EX Γ Γ2 (tCons te ta) (fun ρ=>(f ρ).bind fun x=>(fa ρ).bind fun xs=>.ok (x :: xs)):=fun B H0 H σ ρ F R Q A d=>by
  refine he B H0 H σ ρ F R _ A (d.bind.imp (fun x _ d v H1 s1 r1=>?_) fun e q=>q)
  obtain ⟨F1,f1,G1,p1,o1,A1⟩:=r1
  refine ha B H0 H1 σ ρ F1 (G1 ++ R) _ A1 (d.bind.imp (fun xs _ d vs H2 F2 G2 s2 f2 p2 o2 A2=>?_) fun e q=>q)
  refine d (v :: vs) H2 F2 (G1 ++ G2) (s1.trans s2) (fun i a h=>f1 i a (f2 i a h)) ⟨v,vs,G1,G2,rfl,p1.same s2,p2,fun a ha z=>(o2 a z).1 (List.mem_append_left _ ha),rfl⟩ (fun a ha=>?_) (A2.less fun a ha=>?_)
  · rcases List.mem_append.mp ha with z | z
    · exact o1 a z
    · obtain ⟨o3,o4⟩:=o2 a z
      exact ⟨fun q=>o3 (List.mem_append_right _ q),o4.elim (fun q=>.inl (s1.free q)) fun ⟨i,q⟩=>.inr ⟨i,f1 i a q⟩⟩
  · simp only [List.mem_append] at ha ⊢
    rcases ha with (z | z) | z
    · exact .inr (.inl z)
    · exact .inl z
    · exact .inr (.inr z)
noncomputable def mkL (xs:List PV):Rr PV:=if xs.length≤1000 then .ok (.lst xs) else .bad
theorem Dn.mkL {xs:List PV} {ok:PV→Prop} {ex:PX→Prop} (d:Dn (mkL xs) ok ex):xs.length≤1000∧ok (.lst xs):=by
  unfold L2.mkL at d
  by_cases h:xs.length≤1000
  · rw [if_pos h] at d; exact ⟨h,d⟩
  · rw [if_neg h] at d; exact d.elim
theorem Res.newF {H1:Hp} {F1:Nat→List Addr} {G:List Addr} {xs:List PV} {vs:List V} {p:Addr} (s1:Same H H1) (f1:∀ i,∀ a∈F1 i,a∈F i) (p1:Trees K H1 xs vs G) (o1:∀ a∈G,a ∉ R∧(H a=none ∨ ∃ i,a∈F i)) (A1:Ag K B H0 H1 σ Γ' ρ F1 (G ++ R)) (hp:H1 p=none) :
    Res K B H0 H σ Γ' ρ F R .F (.lst xs) (.ref p) (upd H1 p (.lst vs)):=by
  have e:Same H1 (upd H1 p (.lst vs)):=Same.new hp
  have hf:=A1.fresh hp
  refine ⟨F1,f1,p :: G,⟨p,vs,G,rfl,upd_same,p1.same e,fun z=>hf.1 (List.mem_append_left _ z),rfl⟩,fun a ha=>?_,A1.new hp⟩
  rcases List.mem_cons.mp ha with rfl | z
  · exact ⟨fun z=>hf.1 (List.mem_append_right _ z),.inl (s1.free hp)⟩
  · exact o1 a z
theorem Res.newP {H1:Hp} {F1:Nat→List Addr} {xs:List PV} {vs:List V} {p:Addr} {S:Addr→Prop} (s1:Same H H1) (f1:∀ i,∀ a∈F1 i,a∈F i) (p1:Reps K H1 S xs vs) (hx:PV.flats xs=true) (A1:Ag K B H0 H1 σ Γ' ρ F1 R) (hp:H1 p=none) :
    Res K B H0 H σ Γ' ρ F R .F (.lst xs) (.ref p) (upd H1 p (.lst vs)):=Res.newF (G:=[]) s1 f1 (p1.trees hx) (by simp) A1 hp
theorem de_lstF (ha:DAF K EX Γ Γ' ta fa):DE K EX Γ Γ' .F (tLst ta) (fun ρ=>(fa ρ).bind mkL):=fun B H0 H σ ρ F R Q A d=>by
  refine ha B H0 H σ ρ F R _ A (d.bind.imp (fun xs _ d vs H1 F1 G s1 f1 p1 o1 A1=>?_) fun e q=>q)
  obtain ⟨hl,d⟩:=d.mkL
  refine ⟨by rw [p1.length]; exact line_big hl,fun p hp=>d _ _ (s1.trans (Same.new hp)) (Res.newF s1 f1 p1 o1 A1 hp)⟩
noncomputable def pIx (x y:PV):Rr PV:=match x,y with
  | .lst xs,.int i=>match atI xs i with
    | some z=>.ok z
    | none=>.bad
  | .tup xs,.int i=>match atI xs i with
    | some z=>.ok z
    | none=>.bad
  | _,_=>.bad
theorem reps_at {S:Addr→Prop} {xs:List PV} {vs:List V} {i:Int} {z:PV} (h:Reps K H S xs vs) (e:atI xs i=some z):∃ u,atI vs i=some u∧Rep K H S z u:=by
  unfold atI at e ⊢
  rw [h.length]
  cases q:ixN xs.length i with
  | none=>rw [q] at e; cases e
  | some j =>
    rw [q] at e
    obtain ⟨u,e1,e2⟩:=h.get e
    exact ⟨u,e1,e2⟩
theorem rix_of {S:Addr→Prop} {x y z:PV} {v w:V} {Q:VK} (hx:Rep K H S x v) (hy:Rep K H (fun _=>True) y w) (e:pIx x y=.ok z) (q:∀ u,Rep K H S z u→Q u H):rIx K v w H Q:=by
  cases x <;> cases y <;> first | (simp only [pIx] at e; cases e; done) | skip
  · rename_i xs i
    obtain ⟨a,vs,rfl,hn,hr⟩:=hx
    cases hy
    simp only [pIx] at e
    cases e1:atI xs i with
    | none=>rw [e1] at e; cases e
    | some z' =>
      rw [e1] at e; cases e
      obtain ⟨u,e2,e3⟩:=reps_at hr e1
      exact .inl ⟨a,vs,i,u,rfl,rfl,sq_of hn,e2,q u e3⟩
  · rename_i xs i
    obtain ⟨a,vs,rfl,hn,hr⟩:=hx
    cases hy
    simp only [pIx] at e
    cases e1:atI xs i with
    | none=>rw [e1] at e; cases e
    | some z' =>
      rw [e1] at e; cases e
      obtain ⟨u,e2,e3⟩:=reps_at hr e1
      exact .inr (.inl ⟨a,vs,i,u,rfl,rfl,hn.sqT,e2,q u e3⟩)
theorem pIx_noexc (x y:PV) (e:PX):pIx x y≠.exc e:=by
  cases x <;> cases y <;> first | (intro h; simp only [pIx] at h; cases h; done) | skip
  all_goals
    intro h
    simp only [pIx] at h
    split at h <;> cases h
theorem Dn.pIx {x y:PV} {ok:PV→Prop} {ex:PX→Prop} (d:Dn (pIx x y) ok ex):∃ z,pIx x y=.ok z∧ok z:=by
  cases e:L2.pIx x y with
  | ok z=>rw [e] at d; exact ⟨z,rfl,d⟩
  | exc q=>exact absurd e (pIx_noexc x y q)
  | bad=>rw [e] at d; exact d.elim
theorem de_ixA {te ta':TE} {fa':List PV→Rr PV} (ha:DE K EX Γ Γ1 .A ta' fa') (hb:DE K EX Γ1 Γ2 .A tb fb):DE K EX Γ Γ2 .A (tOp (rIx K) ta' tb) (fun ρ=>(fa' ρ).bind fun x=>(fb ρ).bind fun y=>pIx x y):=fun B H0 H σ ρ F R Q A d=>by
  refine two ha hb A d.bind2 fun x y v w H' F' d s hF p1 p2 A'=>?_
  obtain ⟨z,e,d⟩:=d.pIx
  exact rix_of p1 p2 e fun u hu=>d u H' s ⟨F',hF,hu,A'⟩
noncomputable def CbP (K:PySem.W.Frag) (r:List V→Hp→VK→Prop) (o:List PV→Rr PV):Prop:=∀ {H:Hp} {xs:List PV} {vs:List V} {Q:VK},Reps K H (fun _=>True) xs vs→∀ z,o xs=.ok z→z.flat=true∧((∀ u,Rep K H (fun _=>True) z u→Q u H)→r vs H Q)
theorem de_cb {r:List V→Hp→VK→Prop} {o:List PV→Rr PV} (hr:CbP K r o) (hx:∀ xs e,o xs≠.exc e) (ha:DAA K EX Γ Γ' ta fa):DE K EX Γ Γ' .P (tCB r ta) (fun ρ=>(fa ρ).bind o):=fun B H0 H σ ρ F R Q A d=>by
  refine ha B H0 H σ ρ F R _ A (d.bind.imp (fun xs _ d vs H1 F1 s1 f1 p1 A1=>?_) fun e q=>q)
  cases e:o xs with
  | ok z =>
    rw [e] at d
    obtain ⟨hf,h⟩:=hr (Q:=Q) p1 z e
    exact h fun u hu=>d u H1 s1 ⟨F1,f1,hf,hu,A1⟩
  | exc q=>exact absurd e (hx xs q)
  | bad=>rw [e] at d; exact d.elim
noncomputable def pLen (xs:List PV):Rr PV:=match xs with
  | [.lst ys]=>.ok (.int ys.length)
  | [.tup ys]=>.ok (.int ys.length)
  | _=>.bad
theorem reps1 {S:Addr→Prop} {x:PV} {vs:List V} (h:Reps K H S [x] vs):∃ v,vs=[v]∧Rep K H S x v:=by
  obtain ⟨v,r,rfl,h1,h2⟩:=h
  cases h2
  exact ⟨v,rfl,h1⟩
theorem reps2 {S:Addr→Prop} {x y:PV} {vs:List V} (h:Reps K H S [x,y] vs):∃ v w,vs=[v,w]∧Rep K H S x v∧Rep K H S y w:=by
  obtain ⟨v,r,rfl,h1,w,r',rfl,h2,h3⟩:=h
  cases h3
  exact ⟨v,w,rfl,h1,h2⟩
theorem de_len (ha:DAA K EX Γ Γ' ta fa):DE K EX Γ Γ' .P (tCB (fun xs H Q=>∃ p ys,xs=[.ref p]∧(SqL K H p ys ∨ SqT K H p ys)∧Q (.int ys.length) H) ta) (fun ρ=>(fa ρ).bind pLen):=by
  refine de_cb (fun {H xs vs Q} h z e=>?_) (fun xs e h=>?_) ha
  · unfold pLen at e
    split at e <;> first | (cases e; done) | skip
    all_goals
      cases e
      refine ⟨rfl,fun q=>?_⟩
      obtain ⟨v,rfl,a,ws,rfl,hn,hr⟩:=reps1 h
      refine ⟨a,ws,rfl, ?_,by rw [hr.length]; exact q _ rfl⟩
      first | exact .inl (sq_of (S:=fun _=>True) hn) | exact .inr hn.sqT
  · unfold pLen at h; split at h <;> cases h
noncomputable def intsOf:List PV→Option (List Int)
  | []=>some []
  | .int i :: xs=>(intsOf xs).map (i :: ·)
  | _ :: _=>none
@[simp] theorem intsOf_map (ns:List Int):intsOf (ns.map PV.int)=some ns:=by
  induction ns with
  | nil=>rfl
  | cons n ns ih=>simp [intsOf,ih]
theorem intsOf_eq:∀ {xs:List PV} {ns:List Int},intsOf xs=some ns→xs=ns.map PV.int
  | [],_,h=>by cases h; rfl
  | .int i :: xs,ns,h=>by
    simp only [intsOf] at h
    cases e:intsOf xs with
    | none=>rw [e] at h; cases h
    | some ms=>rw [e] at h; cases h; rw [intsOf_eq e]; rfl
  | .non :: _,_,h=>by cases h
  | .bl _ :: _,_,h=>by cases h
  | .str _ :: _,_,h=>by cases h
  | .exc _ :: _,_,h=>by cases h
  | .exa _ _ :: _,_,h=>by cases h
  | .box _ _ _ :: _,_,h=>by cases h
  | .lst _ :: _,_,h=>by cases h
  | .tup _ :: _,_,h=>by cases h
theorem reps_ints {S:Addr→Prop}:∀ {ns:List Int} {vs:List V},Reps K H S (ns.map PV.int) vs→vs=ns.map V.int
  | [],_,h=>h
  | n :: ns,_,h=>by
    obtain ⟨v,r,rfl,h1,h2⟩:=h
    cases h1
    rw [reps_ints h2]; rfl
theorem ints_reps {S:Addr→Prop}:∀ (ns:List Int),Reps K H S (ns.map PV.int) (ns.map V.int)
  | []=>rfl
  | n :: ns=>⟨_,_,rfl,rfl,ints_reps ns⟩
theorem rep_ints {S:Addr→Prop} {ns:List Int} {v:V} (h:Rep K H S (.lst (ns.map PV.int)) v):∃ a,v=.ref a∧SqL K H a (ns.map V.int):=by
  obtain ⟨a,vs,rfl,hn,hr⟩:=h
  rw [reps_ints hr] at hn
  exact ⟨a,rfl,sq_of hn⟩
noncomputable def pInts (g:List Int→Rr PV) (xs:List PV):Rr PV:=match xs with
  | [.lst ys]=>match intsOf ys with
    | some ns=>g ns
    | none=>.bad
  | _=>.bad
theorem Rr.ints {g:List Int→Rr PV} {xs:List PV} {z:PV} (e:pInts g xs=.ok z):∃ ns,xs=[.lst (ns.map PV.int)]∧g ns=.ok z:=by
  unfold pInts at e
  split at e
  · split at e
    · rename_i ns h
      exact ⟨ns,by rw [intsOf_eq h],e⟩
    · cases e
  · cases e
theorem pInts_noexc {g:List Int→Rr PV} (hg:∀ ns e,g ns≠.exc e) (xs:List PV) (e:PX):pInts g xs≠.exc e:=by
  intro h
  unfold pInts at h
  split at h
  · split at h
    · exact hg _ _ h
    · cases h
  · cases h
noncomputable abbrev pSum:=pInts fun ns=>.ok (.int ns.sum)
theorem de_sum (ha:DAA K EX Γ Γ' ta fa):DE K EX Γ Γ' .P (tCB (fun xs H Q=>∃ p,∃ ns:List Int,xs=[.ref p]∧SqL K H p (ns.map V.int)∧Q (.int ns.sum) H) ta) (fun ρ=>(fa ρ).bind pSum):=by
  refine de_cb (fun {H xs vs Q} h z e=>?_) (pInts_noexc fun ns e h=>by cases h) ha
  obtain ⟨ns,rfl,e'⟩:=Rr.ints e
  cases e'
  obtain ⟨v,rfl,h1⟩:=reps1 h
  obtain ⟨a,rfl,h2⟩:=rep_ints h1
  exact ⟨rfl,fun q=>⟨a,ns,rfl,h2,q _ rfl⟩⟩
noncomputable def blsOf:List PV→Option (List Bool)
  | []=>some []
  | .bl i :: xs=>(blsOf xs).map (i :: ·)
  | _ :: _=>none
@[simp] theorem blsOf_map (ns:List Bool):blsOf (ns.map PV.bl)=some ns:=by
  induction ns with
  | nil=>rfl
  | cons n ns ih=>simp [blsOf,ih]
theorem blsOf_eq:∀ {xs:List PV} {ns:List Bool},blsOf xs=some ns→xs=ns.map PV.bl
  | [],_,h=>by cases h; rfl
  | .bl i :: xs,ns,h=>by
    simp only [blsOf] at h
    cases e:blsOf xs with
    | none=>rw [e] at h; cases h
    | some ms=>rw [e] at h; cases h; rw [blsOf_eq e]; rfl
  | .non :: _,_,h=>by cases h
  | .int _ :: _,_,h=>by cases h
  | .str _ :: _,_,h=>by cases h
  | .exc _ :: _,_,h=>by cases h
  | .exa _ _ :: _,_,h=>by cases h
  | .box _ _ _ :: _,_,h=>by cases h
  | .lst _ :: _,_,h=>by cases h
  | .tup _ :: _,_,h=>by cases h
theorem reps_bls {S:Addr→Prop}:∀ {ns:List Bool} {vs:List V},Reps K H S (ns.map PV.bl) vs→vs=ns.map V.bl
  | [],_,h=>h
  | n :: ns,_,h=>by
    obtain ⟨v,r,rfl,h1,h2⟩:=h
    cases h1
    rw [reps_bls h2]; rfl
noncomputable def pAll (xs:List PV):Rr PV:=match xs with
  | [.lst ys]=>match blsOf ys with
    | some bs=>.ok (.bl (bs.all id))
    | none=>.bad
  | _=>.bad
theorem de_all (ha:DAA K EX Γ Γ' ta fa):DE K EX Γ Γ' .P (tCB (fun xs H Q=>∃ p,∃ bs:List Bool,xs=[.ref p]∧SqL K H p (bs.map V.bl)∧Q (.bl (bs.all id)) H) ta) (fun ρ=>(fa ρ).bind pAll):=by
  refine de_cb (fun {H xs vs Q} h z e=>?_) (fun xs e h=>?_) ha
  · unfold pAll at e
    split at e
    · split at e
      · rename_i bs hb
        cases e
        rw [blsOf_eq hb] at h
        obtain ⟨v,rfl,a,ws,rfl,hn,hr⟩:=reps1 h
        rw [reps_bls hr] at hn
        exact ⟨rfl,fun q=>⟨a,bs,rfl,sq_of (S:=fun _=>True) hn,q _ rfl⟩⟩
      · cases e
    · cases e
  · unfold pAll at h
    split at h
    · split at h <;> cases h
    · cases h
end
end L2
namespace L2
open PySem PySem.Spec PyProof.Rows
theorem line_mil {n:Nat} (h:n≤1000000):n≤sizeLine:=Nat.le_trans h (by decide)
noncomputable def LX (K:PySem.W.Frag) (H:Hp) (a:Addr) (vs:List V):Prop:=Rd H a (.lst vs) ∨ KL K a vs
noncomputable def rCatK (K:PySem.W.Frag):R2:=fun x y H Q=>∃ l b xs zs,x=.ref l∧y=.ref b∧LX K H l xs∧LX K H b zs∧xs.length + zs.length≤sizeLine∧∀ p,H p=none→Q (.ref p) (upd H p (.lst (xs ++ zs)))
section
variable {X:Cx} {K:PySem.W.Frag}
theorem lx_of {H:Hp} {S:Addr→Prop} {a:Addr} {vs:List V} (h:(Rd H a (.lst vs)∧S a) ∨ KL K a vs):LX K H a vs:=h.elim (fun z=>.inl z.1) .inr
theorem op_catK (e:X.K=K:=by rfl):OpR X (binaryOp .Add) (rCatK K):=by
  subst e
  intro pins s σ H x y v u Q I rx ry h
  obtain ⟨l,b,xs,zs,rfl,rfl,hH,hB,hz,q⟩:=h
  cases rx
  cases ry
  obtain ⟨its,r,pl,_⟩:=I.list (show SqL X.K H l xs from hH)
  obtain ⟨its2,r2,pl2,_⟩:=I.list (show SqL X.K H b zs from hB)
  have hl:=r.length
  have hl2:=r2.length
  obtain ⟨⟨cls,dd,data,sl⟩,ho,hc,n,hd⟩:=pl.isList
  obtain ⟨⟨cls2,dd2,data2,sl2⟩,ho2,hc2,n2,hd2⟩:=pl2.isList
  simp only at hc hd hc2 hd2
  subst hc hd hc2 hd2
  have ea:its.toArray ++ its2.toArray=(its ++ its2).toArray:=by simp
  refine concat_meets ⟨_,ho,rfl⟩ ⟨_,ho2,rfl⟩ noFill_list_add seq_list_add PySem.F.slot_list_add PySem.F.entry_list_add (PySem.F.args_list_add_2 _ _) (list_addW l b its.toArray its2.toArray n n2 dd dd2 sl sl2 (by rw [List.size_toArray,List.size_toArray]; omega)) ⟨ho,ho2, ?_⟩
  rw [ea]
  exact ⟨.ref _,_,I.lnew (t':=s.toks) (r.append r2) (by rw [List.length_append]; omega),rfl,q _ I.fresh⟩
end
noncomputable def Frm (H:Hp) (F:Nat→List Addr) (H':Hp) (F':Nat→List Addr):Prop:=∀ a o,H a=some o→(∀ i,a ∉ F i)→H' a=some o∧∀ i,a ∉ F' i
theorem Frm.refl {H:Hp} {F:Nat→List Addr}:Frm H F H F:=fun a o h n=>⟨h,n⟩
theorem Frm.trans {H H1 H2:Hp} {F F1 F2:Nat→List Addr} (h1:Frm H F H1 F1) (h2:Frm H1 F1 H2 F2):Frm H F H2 F2:=fun a o h n=>let ⟨h3,n3⟩:=h1 a o h n; h2 a o h3 n3
theorem Frm.of {H H':Hp} {F F':Nat→List Addr} (s:Same H H') (f:∀ i,∀ a∈F' i,a∈F i):Frm H F H' F':=fun a o h n=>⟨s a o h,fun i z=>n i (f i a z)⟩
noncomputable def ItP (K:PySem.W.Frag) (S:Addr→Prop) (J:It) (xs:List PV) (H:Hp):Prop :=
  ∀ i,(∀ x,xs[i]?=some x→J.go i H∧∀ v H',J.yld i H v H'→Same H H'∧Rep K H' S x v)∧(xs[i]?=none→J.stop i H)
noncomputable def DI (K:PySem.W.Frag) (EX:PX→Hp→Prop) (Γ Γ':List Md) (wi:TI) (f:List PV→Rr (List PV)):Prop :=
  ∀ (B:Addr→Prop) (H0 H:Hp) (σ:St) (ρ:List PV) (F:Nat→List Addr) (R:List Addr) (Q:It→Hp→Prop),Ag K B H0 H σ Γ ρ F R →
    Dn (f ρ) (fun xs=>∀ J H' F',Same H H'→(∀ i,∀ a∈F' i,a∈F i)→Ag K B H0 H' σ Γ' ρ F' R→(∀ H2 F2,Frm H' F' H2 F2→ItP K (fun a=>NO B F2 R a∧H' a≠none∧∀ i,a ∉ F' i) J xs H2)→Q J H') (fun e=>∀ H',Same H0 H'→EX e H')→wi σ H Q
noncomputable def DIc (K:PySem.W.Frag) (EX:PX→Hp→Prop) (Γ Γ':List Md) (wi:TI) (f:List PV→Rr (List PV)):Prop :=
  ∀ (B:Addr→Prop) (H0 H:Hp) (σ:St) (ρ:List PV) (F:Nat→List Addr) (R:List Addr) (Q:It→Hp→Prop),Ag K B H0 H σ Γ ρ F R →
    Dn (f ρ) (fun xs=>∀ J H' F',Same H H'→(∀ i,∀ a∈F' i,a∈F i)→Ag K B H0 H' σ Γ' ρ F' R→(∀ H2 F2,Same H' H2→(∀ i,∀ a∈F2 i,a∈F' i)→ItP K (fun a=>NO B F2 R a∧H' a≠none∧∀ i,a ∉ F' i) J xs H2)→Q J H') (fun e=>∀ H',Same H0 H'→EX e H')→wi σ H Q
theorem DI.c {K:PySem.W.Frag} {EX:PX→Hp→Prop} {Γ Γ':List Md} {wi:TI} {f:List PV→Rr (List PV)} (h:DI K EX Γ Γ' wi f):DIc K EX Γ Γ' wi f:=fun B H0 H σ ρ F R Q A d =>
  h B H0 H σ ρ F R Q A (d.imp (fun xs _ d J H' F' s1 f1 A1 it=>d J H' F' s1 f1 A1 fun H2 F2 s2 f2=>it H2 F2 (Frm.of s2 f2)) fun e q=>q)
theorem ItP.flat {K:PySem.W.Frag} {S S':Addr→Prop} {J:It} {xs:List PV} {H:Hp} (f:PV.flats xs=true) (h:ItP K S J xs H):ItP K S' J xs H:=fun i=>by
  refine ⟨fun x hx=>?_,(h i).2⟩
  obtain ⟨h1,h2⟩:=(h i).1 x hx
  have fx:∀ (xs:List PV) (i:Nat),PV.flats xs=true→xs[i]?=some x→x.flat=true:=by
    intro xs
    induction xs with
    | nil=>intro i _ h; simp at h
    | cons y ys ih =>
      intro i hf hx
      simp only [PV.flats,Bool.and_eq_true] at hf
      cases i with
      | zero=>simp at hx; rw [← hx]; exact hf.1
      | succ i=>exact ih i hf.2 (by simpa using hx)
  exact ⟨h1,fun v H' y=>⟨(h2 v H' y).1,(h2 v H' y).2.flatS (fx xs i f hx)⟩⟩
section
variable {K:PySem.W.Frag} {B:Addr→Prop} {EX:PX→Hp→Prop} {H0 H H':Hp} {σ:St} {Γ Γ' Γ1 Γ2 Γ3:List Md} {ρ:List PV} {F F':Nat→List Addr} {R:List Addr} {k:Kd} {x:PV} {v:V} {te tb tc:TE} {ta:TA} {f fb fc:List PV→Rr PV} {fa:List PV→Rr (List PV)}
theorem Rep.frm {F2:Nat→List Addr} {H2:Hp} (h:Frm H F H2 F2) (A:Ag K B H0 H σ Γ ρ F R) (r:Rep K H (NO B F R) x v):Rep K H2 (fun a=>NO B F2 R a∧H a≠none∧∀ i,a ∉ F i) x v:=by
  refine Rep.mono (fun a us s r=>?_) (fun a us r=>?_) r
  · rcases r with r | ⟨o,r⟩
    · obtain ⟨h1,h2⟩:=h a _ r s.2.2; exact ⟨.inl h1,⟨s.1,s.2.1,h2⟩,by rw [r]; simp,s.2.2⟩
    · obtain ⟨h1,h2⟩:=h a _ r s.2.2; exact ⟨.inr ⟨o,h1⟩,⟨s.1,s.2.1,h2⟩,by rw [r]; simp,s.2.2⟩
  · refine ⟨(h a _ r.1 fun i z=>?_).1,r.2⟩
    obtain ⟨vs,q⟩:=A.live i a z
    exact lv_ne_im vs.2 r.2 (by rw [r.1] at q; exact Option.some.inj q)
noncomputable def rngP (lo:Int) (n:Nat):List PV:=(List.range n).map fun (k:Nat)=>PV.int (lo + (k:Int))
theorem itp_rng {lo:Int} {n:Nat} {S:Addr→Prop}:ItP K S (Itr lo n) (rngP lo n) H:=by
  intro i
  constructor
  · intro x hx
    unfold rngP at hx
    rw [List.getElem?_map] at hx
    by_cases h:i < n
    · rw [List.getElem?_range h] at hx
      cases hx
      exact ⟨h,fun v H' ⟨e1,e2⟩=>by subst e1 e2; exact ⟨Same.refl _,rfl⟩⟩
    · rw [List.getElem?_eq_none (by simpa using h)] at hx; cases hx
  · intro hx
    unfold rngP at hx
    have:=List.getElem?_eq_none_iff.mp hx
    show n≤i
    simpa using this
noncomputable def okR (j:Int):Bool:=decide (-(2 ^ 62)≤j∧j < 2 ^ 62)
noncomputable def pRng2 (xs:List PV):Rr (List PV):=match xs with
  | [.int i,.int j]=>if (okR i && okR j)=true then .ok (rngP i (j - i).toNat) else .bad
  | _=>.bad
theorem di_rng2 (ha:DAA K EX Γ Γ' ta fa):DI K EX Γ Γ' (iRng2 ta) (fun ρ=>(fa ρ).bind pRng2):=fun B H0 H σ ρ F R Q A d=>by
  refine ha B H0 H σ ρ F R _ A (d.bind.imp (fun xs _ d vs H1 F1 s1 f1 p1 A1=>?_) fun e q=>q)
  unfold pRng2 at d
  split at d
  · rename_i i j _
    obtain ⟨v,w,rfl,h1,h2⟩:=reps2 p1
    cases h1; cases h2
    by_cases h:(okR i && okR j)=true
    · rw [if_pos h] at d
      rw [Bool.and_eq_true] at h
      have h':=of_decide_eq_true h.1
      have h'':=of_decide_eq_true h.2
      exact ⟨i,j,rfl,⟨h'.1,h'.2,h''.1,h''.2⟩,d _ H1 F1 s1 f1 A1 fun H2 F2 _=>itp_rng⟩
    · rw [if_neg h] at d; exact d.elim
  · exact d.elim
noncomputable def asL (x:PV):Rr (List PV):=match x with
  | .lst xs=>.ok xs
  | _=>.bad
theorem itp_lst {a:Addr} {xs:List PV} {S:Addr→Prop} (h:Rep K H S (.lst xs) (.ref a)):ItP K S (Itl K a) xs H:=by
  obtain ⟨a',vs,e,hn,hr⟩:=h
  cases e
  intro i
  constructor
  · intro x hx
    obtain ⟨u,e1,e2⟩:=hr.get hx
    refine ⟨⟨vs,u,sq_of hn,e1⟩,fun v H' ⟨e,y⟩=>?_⟩
    subst e
    have:=y vs (sq_of hn)
    rw [e1] at this; cases this
    exact ⟨Same.refl _,e2⟩
  · intro hx
    exact ⟨vs,sq_of hn,by rw [hr.length]; exact List.getElem?_eq_none_iff.mp hx⟩
theorem di_list (he:DE K EX Γ Γ' .Z te f):DI K EX Γ Γ' (iList K te) (fun ρ=>(f ρ).bind asL):=fun B H0 H σ ρ F R Q A d=>by
  refine he B H0 H σ ρ F R _ A (d.bind.imp (fun x _ d v H1 s1 r1=>?_) fun e q=>q)
  obtain ⟨F1,f1,p1,A1⟩:=r1
  cases x with
  | lst xs =>
    obtain ⟨a,vs,rfl,hn,hr⟩:=id p1
    exact ⟨a,rfl,⟨vs,sq_of hn⟩,d _ H1 F1 s1 f1 A1 fun H2 F2 h=>itp_lst (p1.frm h A1)⟩
  | _=>exact d.elim
noncomputable def asLf (x:PV):Rr (List PV):=match x with
  | .lst xs=>if PV.flats xs=true then .ok xs else .bad
  | _=>.bad
theorem di_listC (he:DE K EX Γ Γ' .A te f):DIc K EX Γ Γ' (iList K te) (fun ρ=>(f ρ).bind asLf):=fun B H0 H σ ρ F R Q A d=>by
  refine he B H0 H σ ρ F R _ A (d.bind.imp (fun x _ d v H1 s1 r1=>?_) fun e q=>q)
  obtain ⟨F1,f1,p1,A1⟩:=r1
  cases x with
  | lst xs =>
    unfold asLf at d
    by_cases hf:PV.flats xs=true
    · simp only [hf,if_true] at d
      obtain ⟨a,vs,rfl,hn,hr⟩:=id p1
      exact ⟨a,rfl,⟨vs,sq_of (S:=fun _=>True) hn⟩,d _ H1 F1 s1 f1 A1 fun H2 F2 s2 _=>ItP.flat hf (itp_lst (p1.same s2))⟩
    · simp only [hf] at d; exact d.elim
  | _=>exact d.elim
theorem flats_int:∀ {ns:List Int},PV.flats (ns.map PV.int)=true
  | []=>rfl
  | n :: ns=>by simp only [List.map_cons,PV.flats,PV.flat,flats_int,Bool.and_self]
theorem asLf_int {ns:List Int}:asLf (.lst (ns.map PV.int))=.ok (ns.map PV.int):=by unfold asLf; simp only [flats_int,if_true]
noncomputable def DO (K:PySem.W.Frag) (EX:PX→Hp→Prop) (Γ Γ':List Md) (t:TO) (f:List PV→Rr (Option Int)):Prop :=
  ∀ (B:Addr→Prop) (H0 H:Hp) (σ:St) (ρ:List PV) (F:Nat→List Addr) (R:List Addr) (Q:Option Int→Hp→Prop),Ag K B H0 H σ Γ ρ F R →
    Dn (f ρ) (fun o=>∀ H' F',Same H H'→(∀ i,∀ a∈F' i,a∈F i)→Ag K B H0 H' σ Γ' ρ F' R→Q o H') (fun e=>∀ H',Same H0 H'→EX e H')→t σ H Q
theorem do_none:DO K EX Γ Γ tNoPart (fun _=>.ok none):=fun B H0 H σ ρ F R Q A d=>d H F (Same.refl H) (fun _ _ h=>h) A
noncomputable def asI (x:PV):Rr Int:=match x with
  | .int i=>.ok i
  | _=>.bad
theorem Dn.asI {x:PV} {ok:Int→Prop} {ex:PX→Prop} (d:Dn (asI x) ok ex):∃ b,x=.int b∧ok b:=by
  cases x with
  | int b=>exact ⟨b,rfl,d⟩
  | _=>exact d.elim
theorem do_some (he:DE K EX Γ Γ' .A te f):DO K EX Γ Γ' (tPart te) (fun ρ=>(f ρ).bind fun x=>(asI x).bind fun i=>.ok (some i)):=fun B H0 H σ ρ F R Q A d=>by
  refine he B H0 H σ ρ F R _ A (d.bind.imp (fun x _ d v H1 s1 r1=>?_) fun e q=>q)
  obtain ⟨i,rfl,d⟩:=d.bind.asI
  obtain ⟨F1,f1,p1,A1⟩:=r1
  cases p1
  exact ⟨i,rfl,d H1 F1 s1 f1 A1⟩
noncomputable def cutG {α:Type} (xs:List α) (lo hi:Option Int):List α:=(xs.drop (HT.sIx xs.length 0 lo)).take (HT.sIx xs.length xs.length hi - HT.sIx xs.length 0 lo)
theorem Reps.cut {S:Addr→Prop} {xs:List PV} {vs:List V} (h:Reps K H S xs vs) (lo hi:Option Int):Reps K H S (cutG xs lo hi) (cutV vs lo hi):=by
  unfold cutG cutV
  rw [h.length]
  exact (h.drop _).take _
noncomputable def newF (xs:List PV):Rr PV:=if (PV.flats xs && decide (xs.length≤1000000))=true then .ok (.lst xs) else .bad
theorem Dn.newF {xs:List PV} {ok:PV→Prop} {ex:PX→Prop} (d:Dn (newF xs) ok ex):PV.flats xs=true∧xs.length≤1000000∧ok (.lst xs):=by
  unfold L2.newF at d
  by_cases h:(PV.flats xs && decide (xs.length≤1000000))=true
  · rw [if_pos h] at d
    rw [Bool.and_eq_true] at h
    exact ⟨h.1,of_decide_eq_true h.2,d⟩
  · rw [if_neg h] at d; exact d.elim
theorem de_slF {tl th:TO} {fl fh:List PV→Rr (Option Int)} (he:DE K EX Γ Γ1 .A te f) (hl:DO K EX Γ1 Γ2 tl fl) (hh:DO K EX Γ2 Γ3 th fh) :
    DE K EX Γ Γ3 .F (tSl (rSlL K) te tl th) (fun ρ=>(f ρ).bind fun x=>(fl ρ).bind fun lo=>(fh ρ).bind fun hi=>(asL x).bind fun xs=>newF (cutG xs lo hi)):=fun B H0 H σ ρ F R Q A d=>by
  refine he B H0 H σ ρ F R _ A (d.bind.imp (fun x _ d v H1 s1 r1=>?_) fun e q=>q)
  obtain ⟨F1,f1,p1,A1⟩:=r1
  refine hl B H0 H1 σ ρ F1 R _ A1 (d.bind.imp (fun lo _ d H2 F2 s2 f2 A2=>?_) fun e q=>q)
  refine hh B H0 H2 σ ρ F2 R _ A2 (d.bind.imp (fun hi _ d H3 F3 s3 f3 A3=>?_) fun e q=>q)
  cases x with
  | lst xs =>
    obtain ⟨h1,h2,d⟩:=Dn.newF d
    obtain ⟨a,vs,rfl,hn,hr⟩:=(p1.same s2).same s3
    refine ⟨a,vs,rfl,sq_of (S:=fun _=>True) hn,fun p hp=>?_⟩
    exact d _ _ (((s1.trans s2).trans s3).trans (Same.new hp)) (Res.newP ((s1.trans s2).trans s3) (fun i a h=>f1 i a (f2 i a (f3 i a h))) (hr.cut lo hi) h1 A3 hp)
  | _=>exact d.elim
theorem de_catF {tb':TE} {fb':List PV→Rr PV} (ha:DE K EX Γ Γ1 .A te f) (hb:DE K EX Γ1 Γ2 .A tb' fb') :
    DE K EX Γ Γ2 .F (tOp (rCatK K) te tb') (fun ρ=>(f ρ).bind fun x=>(fb' ρ).bind fun y=>(asL x).bind fun xs=>(asL y).bind fun ys=>newF (xs ++ ys)):=fun B H0 H σ ρ F R Q A d=>by
  refine two ha hb A d.bind2 fun x y v w H' F' d s hF p1 p2 A'=>?_
  cases x with
  | lst xs =>
    cases y with
    | lst ys =>
      obtain ⟨h1,h2,d⟩:=Dn.newF d
      obtain ⟨a,vs,rfl,hn,hr⟩:=p1
      obtain ⟨b,ws,rfl,hn',hr'⟩:=p2
      refine ⟨a,b,vs,ws,rfl,rfl,lx_of (S:=fun _=>True) hn,lx_of (S:=fun _=>True) hn', ?_,fun p hp=>?_⟩
      · rw [hr.length,hr'.length,← List.length_append]; exact line_mil h2
      · exact d _ _ (s.trans (Same.new hp)) (Res.newP s hF (hr.append hr') h1 A' hp)
    | _=>exact d.elim
  | _=>exact d.elim
noncomputable def pRep (xs:List PV) (y:PV):Rr PV:=match y with
  | .int k=>if xs.length * k.toNat≤1000000∧-(2 ^ 63)≤k∧k < 2 ^ 63 then newF (List.replicate k.toNat xs).flatten else .bad
  | _=>.bad
theorem Reps.rep {S:Addr→Prop} {xs:List PV} {vs:List V} (h:Reps K H S xs vs):∀ n:Nat,Reps K H S (List.replicate n xs).flatten (List.replicate n vs).flatten
  | 0=>rfl
  | n + 1=>by
    rw [List.replicate_succ,List.replicate_succ,List.flatten_cons,List.flatten_cons]
    exact h.append (Reps.rep h n)
theorem de_repF (ha:DAA K EX Γ Γ1 ta fa) (hb:DE K EX Γ1 Γ2 .A tb fb) :
    DE K EX Γ Γ2 .F (tOp rRep (tLst ta) tb) (fun ρ=>(fa ρ).bind fun xs=>(mkL xs).bind fun _=>(fb ρ).bind fun y=>pRep xs y):=fun B H0 H σ ρ F R Q A d=>by
  refine ha B H0 H σ ρ F R _ A (d.bind.imp (fun xs _ d vs H1 F1 s1 f1 p1 A1=>?_) fun e q=>q)
  obtain ⟨hl,d⟩:=Dn.mkL d.bind
  refine ⟨by rw [p1.length]; exact line_big hl,fun p hp=>?_⟩
  have e:Same H1 (upd H1 p (.lst vs)):=Same.new hp
  refine hb B H0 _ σ ρ F1 R _ (A1.grow e) (d.bind.imp (fun y _ d w H2 s2 r2=>?_) fun e q=>q)
  obtain ⟨F2,f2,p2,A2⟩:=r2
  cases y with
  | int k =>
    cases p2
    simp only [pRep] at d
    by_cases h:xs.length * k.toNat≤1000000∧-(2 ^ 63)≤k∧k < 2 ^ 63
    · rw [if_pos h] at d
      obtain ⟨h1,h2,d⟩:=Dn.newF d
      refine ⟨p,k,vs,rfl,rfl,s2 _ _ upd_same,h.2.1,h.2.2,by rw [p1.length]; exact line_mil h.1,fun q hq=>?_⟩
      have st:=(s1.trans e).trans s2
      exact d _ _ (st.trans (Same.new hq)) (Res.newP st (fun i a h=>f1 i a (f2 i a h)) (((p1.same e).same s2).rep k.toNat) h1 A2 hq)
    · rw [if_neg h] at d; exact d.elim
  | _=>exact d.elim
noncomputable def tyName:PV→String
  | .non => "NoneType"
  | .bl _ => "bool"
  | .int _ => "int"
  | .str _ => "str"
  | .lst _ => "list"
  | .tup _ => "tuple"
  | .exc _ => "?"
  | .exa _ _ => "?"
  | .box _ (.dk _) _ => "dict"
  | .box _ (.dt _) _ => "dict"
  | .box _ (.ob _ _) _ => "?"
noncomputable def PV.isX:PV→Bool
  | .exc _=>true
  | .exa _ _=>true
  | .box _ _ _=>true
  | _=>false
noncomputable def isSub (t n:String):Bool:=t == n || (t == "bool" && n == "int")
noncomputable def tyOk (n:String):Bool:=n == "int" || n == "bool" || n == "str" || n == "list" || n == "tuple"
theorem kit_of (K:PySem.W.Frag) {n:String} (h:tyOk n=true) (x:PV) (hx:x.isX=false):PySem.W.kitOne K (.type (tyName x)) (.type n)=some (isSub (tyName x) n):=by
  simp only [tyOk,Bool.or_eq_true,beq_iff_eq] at h
  rcases h with (((rfl | rfl) | rfl) | rfl) | rfl <;> cases x <;> first | rfl | cases hx
noncomputable def rIsi (K:PySem.W.Frag) (n:String):List V→Hp→VK→Prop:=fun xs H Q=>∃ x p,xs=[x,.ty n]∧Rep K H (fun _=>True) p x∧p.isX=false∧Q (.bl (isSub (tyName p) n)) H
theorem call_isiK {X:Cx} {n:String} (hn:tyOk n=true) (e:X.K=K:=by rfl):CallR X (.builtin "isinstance") (rIsi K n):=by
  subst e
  intro pins s σ H xs us Q I r h
  obtain ⟨x,p,rfl,hp,hx,q⟩:=h
  obtain ⟨u,w',rfl,rx,rn⟩:=vals2 r
  cases rn
  have e:=kit_of X.K hn p hx
  have fin:∀ tk,EP X pins σ Q (.bool (isSub (tyName p) n)) { s with toks:=tk }:=fun tk=>⟨.bl _,H,I.tok _,rfl,q⟩
  cases p with
  | non=>cases hp; cases rx; exact PySem.W.kia_one PySem.W.kitx_none I.kIn True.intro e (fun z=>nomatch z) fin
  | bl y=>cases hp; cases rx; exact PySem.W.kia_one PySem.W.kitx_bool I.kIn True.intro e (fun z=>nomatch z) fin
  | int i=>cases hp; obtain ⟨t,rfl⟩:=rx; exact PySem.W.kia_one PySem.W.kitx_int I.kIn True.intro e (fun z=>nomatch z) fin
  | str y=>cases hp; obtain ⟨t,rfl⟩:=rx; exact PySem.W.kia_one PySem.W.kitx_str I.kIn True.intro e (fun z=>nomatch z) fin
  | exc y=>cases hx
  | exa y i=>cases hx
  | box p s ps=>cases hx
  | lst ps =>
    obtain ⟨a,vs,rfl,hn',hr⟩:=hp
    cases rx
    obtain ⟨its,_,pl,_⟩:=I.list (sq_of (S:=fun _=>True) hn')
    obtain ⟨o,h1,h2,_⟩:=pl.isList
    exact PySem.W.kia_one PySem.W.kitx_list I.kIn ⟨o,h1,h2⟩ e (fun z=>nomatch z) fin
  | tup ps =>
    obtain ⟨a,vs,rfl,hn',hr⟩:=hp
    cases rx
    obtain ⟨its,_,⟨o,h1,h2,_⟩,_⟩:=I.tuple hn'.sqT
    exact PySem.W.kia_one PySem.W.kitx_tuple I.kIn ⟨o,h1,h2⟩ e (fun z=>nomatch z) fin
noncomputable def pIsi (n:String) (x:PV):Rr PV:=if x.isX=true then .bad else .ok (.bl (isSub (tyName x) n))
theorem de_isi {n:String} (he:DE K EX Γ Γ' .A te f):DE K EX Γ Γ' .P (tCB (rIsi K n) (tCons te (tCons (tC (.ty n)) tNil))) (fun ρ=>(f ρ).bind (pIsi n)):=fun B H0 H σ ρ F R Q A d=>by
  refine he B H0 H σ ρ F R _ A (d.bind.imp (fun x _ d v H1 s1 r1=>?_) fun e q=>q)
  obtain ⟨F1,f1,p1,A1⟩:=r1
  unfold pIsi at d
  cases hx:x.isX with
  | true=>rw [hx] at d; exact d.elim
  | false=>rw [hx] at d; exact ⟨v,x,rfl,p1,hx,d _ H1 s1 ⟨F1,f1,rfl,rfl,A1⟩⟩
noncomputable def Len (fa:List PV→Rr (List PV)) (n:Nat):Prop:=∀ ρ xs,fa ρ=.ok xs→xs.length=n
theorem len_nil:Len (fun _=>.ok []) 0:=fun ρ xs h=>by cases h; rfl
theorem len_cons {f:List PV→Rr PV} {fa:List PV→Rr (List PV)} {n:Nat} (h:Len fa n):Len (fun ρ=>(f ρ).bind fun x=>(fa ρ).bind fun xs=>.ok (x :: xs)) (n + 1):=fun ρ xs e=>by
  dsimp only at e
  cases h1:f ρ with
  | ok x =>
    rw [h1] at e
    cases h2:fa ρ with
    | ok ys=>simp only [Rr.bind_ok,h2] at e; cases e; simp [h ρ ys h2]
    | exc q=>simp only [Rr.bind_ok,h2,Rr.bind_exc] at e; cases e
    | bad=>simp only [Rr.bind_ok,h2,Rr.bind_bad] at e; cases e
  | exc q=>rw [h1] at e; cases e
  | bad=>rw [h1] at e; cases e
noncomputable def RetK (K:PySem.W.Frag) (B:Addr→Prop) (H:Hp) (k:Kd) (x:PV) (v:V) (H':Hp):Prop:=match k with
  | .P=>x.flat=true∧Rep K H' (fun _=>True) x v
  | .F=>∃ G,Tree K H' x v G∧∀ a∈G,H a=none
  | .N=>∃ y a s xs G1 G2,x=.tup [y,.box (some a) s xs]∧Tree K H' y v G1∧Tree K H' (.box (some a) s xs) (.ref a) G2∧(∀ b∈G1,b ∉ G2)∧(∀ b∈G1,H b=none)∧∀ b∈G2,H b=none
  | _=>Rep K H' (fun a=>B a ∨ H a=none) x v
noncomputable def spF (K:PySem.W.Frag) (n:Nat) (k:Kd) (W:PX→XK→Hp→Prop) (m:List PV→Rr PV):Sp:=fun vs H Q E=>∃ B xs,Reps K H B xs vs∧xs.length=n ∧
  Dn (m xs) (fun x=>∀ v H',Same H H'→RetK K B H k x v H'→Q v H') (fun e=>∀ H',Same H H'→W e E H')
noncomputable def W0:PX→XK→Hp→Prop:=fun _ _ _=>False
noncomputable def X0:PX→Hp→Prop:=fun _ _=>False
section
variable {n:Nat} {W:PX→XK→Hp→Prop} {m:List PV→Rr PV} {E:XK}
theorem de_callP {t:TE} (ht:∀ σ H Q,(ta σ H fun vs H1=>spF K n .P W m vs H1 Q E)→t σ H Q) (hW:∀ e H',EX e H'→W e E H') (hn:Len fa n) (ha:DAA K EX Γ Γ' ta fa):DE K EX Γ Γ' .P t (fun ρ=>(fa ρ).bind m):=fun B H0 H σ ρ F R Q A d=>by
  refine ht _ _ _ (ha B H0 H σ ρ F R _ A (d.bind.imp (fun xs hx d vs H1 F1 s1 f1 p1 A1=>?_) fun e q=>q))
  exact ⟨fun _=>True,xs,p1,hn ρ xs hx,d.imp (fun x _ d v H2 s2 r=>d v H2 (s1.trans s2) ⟨F1,f1,r.1,r.2,A1.grow s2⟩) fun e q H2 s2=>hW e H2 (q H2 (A1.same.trans s2))⟩
theorem de_callF {t:TE} (ht:∀ σ H Q,(ta σ H fun vs H1=>spF K n .F W m vs H1 Q E)→t σ H Q) (hW:∀ e H',EX e H'→W e E H') (hn:Len fa n) (ha:DAA K EX Γ Γ' ta fa):DE K EX Γ Γ' .F t (fun ρ=>(fa ρ).bind m):=fun B H0 H σ ρ F R Q A d=>by
  refine ht _ _ _ (ha B H0 H σ ρ F R _ A (d.bind.imp (fun xs hx d vs H1 F1 s1 f1 p1 A1=>?_) fun e q=>q))
  refine ⟨fun _=>True,xs,p1,hn ρ xs hx,d.imp (fun x _ d v H2 s2 r=>?_) fun e q H2 s2=>hW e H2 (q H2 (A1.same.trans s2))⟩
  obtain ⟨G,r1,r2⟩:=r
  exact d v H2 (s1.trans s2) ⟨F1,f1,G,r1,fun a ha=>⟨(A1.fresh (r2 a ha)).1,.inl (s1.free (r2 a ha))⟩,A1.more s2 r2 r1.alive⟩
end
end
end L2
namespace L2
open PySem PySem.Spec PyProof.Rows
noncomputable def mapR {α β:Type} (f:α→Rr β):List α→Rr (List β)
  | []=>.ok []
  | x :: xs=>(f x).bind fun y=>(mapR f xs).bind fun ys=>.ok (y :: ys)
noncomputable def lenM (xs:List PV):Rr Unit:=if xs.length≤1000000 then .ok () else .bad
theorem Dn.lenM {xs:List PV} {ok:Unit→Prop} {ex:PX→Prop} (d:Dn (lenM xs) ok ex):xs.length≤1000000∧ok ():=by
  unfold L2.lenM at d
  by_cases h:xs.length≤1000000
  · rw [if_pos h] at d; exact ⟨h,d⟩
  · rw [if_neg h] at d; exact d.elim
theorem Rr.assoc {α β γ:Type} {r:Rr α} {f:α→Rr β} {g:β→Rr γ}:(r.bind f).bind g=r.bind fun a=>(f a).bind g:=by cases r <;> rfl
section
variable {K:PySem.W.Frag} {B:Addr→Prop} {EX:PX→Hp→Prop} {H0 H H':Hp} {σ:St} {Γ Γ' Γ1 Γ2 Γ3:List Md} {ρ:List PV} {F F':Nat→List Addr} {R:List Addr} {k:Kd} {x:PV} {v:V} {te tb tc:TE} {ta:TA} {f fb fc fe:List PV→Rr PV} {fa:List PV→Rr (List PV)}
theorem Ag.outF (A:Ag K B H0 H σ Γ ρ F R) {i:Nat} (h:Γ.length≤i):F i=[]:=by
  have:=A.slot i
  rw [List.getD_eq_getElem?_getD,List.getElem?_eq_none h] at this
  exact this
theorem Ag.push (A:Ag K B H0 H σ Γ ρ F R) (h:Rep K H (NO B F R) x v):Ag K B H0 H (σ ++ [some v]) (Γ ++ [.S]) (ρ ++ [x]) F R:=by
  refine ⟨A.same,A.own,A.young,A.youngR,A.live,A.liveR,A.disj,A.disjR,by simp [A.lenS],by simp [A.lenR],fun i=>?_⟩
  by_cases h1:i < Γ.length
  · have:=A.slot i
    rw [List.getD_eq_getElem?_getD,List.getD_eq_getElem?_getD,List.getElem?_append_left h1,List.getElem?_append_left (by rw [A.lenR]; exact h1),List.getElem?_append_left (by rw [A.lenS]; exact h1),← List.getD_eq_getElem?_getD,← List.getD_eq_getElem?_getD]
    exact this
  · by_cases h2:i=Γ.length
    · subst h2
      rw [List.getD_eq_getElem?_getD,List.getD_eq_getElem?_getD,List.getElem?_append_right (Nat.le_refl _),List.getElem?_append_right (by rw [A.lenR]; exact Nat.le_refl _),List.getElem?_append_right (by rw [A.lenS]; exact Nat.le_refl _),A.lenR,A.lenS]
      simp only [Nat.sub_self,List.getElem?_cons_zero,Option.getD_some]
      exact ⟨A.outF (Nat.le_refl _),v,rfl,h⟩
    · rw [List.getD_eq_getElem?_getD,List.getElem?_eq_none (by simp; omega)]
      exact A.outF (by omega)
theorem Ag.pop {o:Option V} (A:Ag K B H0 H (σ ++ [o]) (Γ ++ [.S]) (ρ ++ [x]) F R):Ag K B H0 H σ Γ ρ F R:=by
  have l1:σ.length=Γ.length:=by have:=A.lenS; simpa using this
  have l2:ρ.length=Γ.length:=by have:=A.lenR; simpa using this
  refine ⟨A.same,A.own,A.young,A.youngR,A.live,A.liveR,A.disj,A.disjR,l1,l2,fun i=>?_⟩
  have:=A.slot i
  by_cases h1:i < Γ.length
  · rw [List.getD_eq_getElem?_getD,List.getD_eq_getElem?_getD,List.getElem?_append_left h1,List.getElem?_append_left (by rw [l2]; exact h1),List.getElem?_append_left (by rw [l1]; exact h1),← List.getD_eq_getElem?_getD,← List.getD_eq_getElem?_getD] at this
    exact this
  · rw [List.getD_eq_getElem?_getD,List.getElem?_eq_none (by omega)]
    by_cases h2:i=Γ.length
    · subst h2
      rw [List.getD_eq_getElem?_getD,List.getElem?_append_right (Nat.le_refl _)] at this
      simp only [Nat.sub_self,List.getElem?_cons_zero,Option.getD_some] at this
      exact this.1
    · exact A.outF (by simp; omega)
theorem de_compF {wi:TI} {fi:List PV→Rr (List PV)} (hi:DIc K EX Γ Γ1 wi fi) (he:DE K EX (Γ1 ++ [.S]) (Γ1 ++ [.S]) .F te fe) :
    DE K EX Γ Γ1 .F (tComp wi te) (fun ρ=>(fi ρ).bind fun xs=>(lenM xs).bind fun _=>(mapR (fun x=>fe (ρ ++ [x])) xs).bind fun ys=>.ok (.lst ys)):=fun B H0 H σ ρ F R Q A d=>by
  refine hi B H0 H σ ρ F R _ A (d.bind.imp (fun xs _ d J H1 F1 s1 f1 A1 it=>?_) fun e q=>q)
  obtain ⟨hlen,d⟩:=Dn.lenM d.bind
  refine ⟨fun i m ys H2=>∃ zs G F2,m=xs.length - i∧i≤xs.length∧ys.length=i∧Same H1 H2∧Trees K H2 zs ys G∧(∀ a∈G,a ∉ R∧(H1 a=none ∨ ∃ j,a∈F1 j))∧(∀ i,∀ a∈F2 i,a∈F1 i)∧Ag K B H0 H2 σ Γ1 ρ F2 (G ++ R) ∧
    Dn ((mapR (fun x=>fe (ρ ++ [x])) (xs.drop i)).bind fun ys'=>.ok (.lst (zs ++ ys'))) (fun x=>∀ v H',Same H H'→Res K B H0 H σ Γ1 ρ F R .F x v H'→Q v H') (fun e=>∀ H',Same H0 H'→EX e H'),
    ⟨xs.length,[],[],F1,by simp,Nat.zero_le _,rfl,Same.refl _,⟨rfl,rfl⟩,by simp,fun _ _ h=>h,A1,by simpa using d⟩, ?_⟩
  rintro i m ys H2 ⟨zs,G,F2,rfl,hi',hl,s2,tr,o2,f2,A2,dn⟩
  refine ⟨line_mil (by omega), ?_⟩
  have itp:=it H2 F2 s2 f2 i
  cases hx:xs[i]? with
  | none =>
    refine .inl ⟨itp.2 hx,fun p hp=>?_⟩
    have hd:xs.drop i=[]:=List.drop_eq_nil_of_le (List.getElem?_eq_none_iff.mp hx)
    rw [hd] at dn
    have dn':∀ v H',Same H H'→Res K B H0 H σ Γ1 ρ F R .F (.lst (zs ++ [])) v H'→Q v H':=dn
    rw [List.append_nil] at dn'
    exact dn' _ _ ((s1.trans s2).trans (Same.new hp)) (Res.newF (s1.trans s2) (fun i a h=>f1 i a (f2 i a h)) tr (fun a ha=>⟨(o2 a ha).1,(o2 a ha).2.elim (fun z=>.inl (s1.free z)) fun ⟨j,z⟩=>.inr ⟨j,f1 j a z⟩⟩) A2 hp)
  | some x =>
    have hlt:i < xs.length:=(List.getElem?_eq_some_iff.mp hx).1
    obtain ⟨go,yl⟩:=itp.1 x hx
    have hdx:xs.drop i=x :: xs.drop (i + 1):=by
      rw [List.drop_eq_getElem_cons hlt]
      rw [List.getElem?_eq_getElem hlt] at hx; cases hx; rfl
    rw [hdx] at dn
    simp only [mapR,Rr.assoc] at dn
    refine .inr ⟨go,fun ys' H'=>∃ zs G F2,ys'.length=i + 1∧Same H1 H'∧Trees K H' zs ys' G∧(∀ a∈G,a ∉ R∧(H1 a=none ∨ ∃ j,a∈F1 j))∧(∀ i,∀ a∈F2 i,a∈F1 i)∧Ag K B H0 H' σ Γ1 ρ F2 (G ++ R) ∧
      Dn ((mapR (fun x=>fe (ρ ++ [x])) (xs.drop (i + 1))).bind fun ys'=>.ok (.lst (zs ++ ys'))) (fun x=>∀ v H',Same H H'→Res K B H0 H σ Γ1 ρ F R .F x v H'→Q v H') (fun e=>∀ H',Same H0 H'→EX e H'),
      fun ys' H' ⟨zs,G,F2,a1,a2,a3,a4,a5,a6,a7⟩=>⟨xs.length - (i + 1),by omega,zs,G,F2,rfl,hlt,a1,a2,a3,a4,a5,a6,a7⟩,fun v H3 y=>?_⟩
    obtain ⟨s3,rx⟩:=yl v H3 y
    have A3:=(A2.grow s3).push (x:=x) (v:=v) (Rep.mono (fun a us s r=>⟨r,s.1.1,fun z=>by
      rcases List.mem_append.mp z with z | z
      · rcases (o2 a z).2 with q | ⟨j,q⟩
        · exact s.2.1 q
        · exact s.2.2 j q
      · exact s.1.2.1 z,s.1.2.2⟩) (fun a us r=>r) rx)
    refine he B H0 H3 _ _ F2 (G ++ R) _ A3 (dn.bind.imp (fun z _ dn w H4 s4 r4=>?_) fun e q=>q)
    obtain ⟨F4,f4,G4,t4,o4,A4⟩:=r4
    refine ⟨zs ++ [z],G ++ G4,F4,by simp [hl],(s2.trans s3).trans s4,Trees.append ((tr.same s3).same s4) (Trees.one t4) (fun a ha z=>(o4 a z).1 (List.mem_append_left _ ha)),fun a ha=>?_,fun i a h=>f2 i a (f4 i a h),A4.pop.less fun a ha=>?_, ?_⟩
    · rcases List.mem_append.mp ha with z | z
      · exact o2 a z
      · refine ⟨fun q=>(o4 a z).1 (List.mem_append_right _ q), ?_⟩
        rcases (o4 a z).2 with q | ⟨j,q⟩
        · exact .inl ((s2.trans s3).free q)
        · exact .inr ⟨j,f2 j a q⟩
    · simp only [List.mem_append] at ha ⊢
      rcases ha with (z | z) | z
      · exact .inr (.inl z)
      · exact .inl z
      · exact .inr (.inr z)
    · simp only [Rr.assoc,Rr.bind_ok,List.append_assoc,List.singleton_append] at dn ⊢
      exact dn
end
end L2
namespace L2
open PySem PySem.Spec PyProof.Rows
inductive RS where
  | next (ρ:List PV) | ret (x:PV) | brk (ρ:List PV) | cont (ρ:List PV) | exc (e:PX) | bad
noncomputable def Rr.thenS {α:Type}:Rr α→(α→RS)→RS
  | .ok a,f=>f a
  | .exc e,_=>.exc e
  | .bad,_=>.bad
noncomputable def RS.seq:RS→(List PV→RS)→RS
  | .next ρ,f=>f ρ
  | r,_=>r
@[simp] theorem Rr.thenS_ok {α:Type} {a:α} {f:α→RS}:(Rr.ok a).thenS f=f a:=rfl
@[simp] theorem Rr.thenS_exc {α:Type} {e:PX} {f:α→RS}:(Rr.exc e:Rr α).thenS f=.exc e:=rfl
@[simp] theorem RS.seq_next {ρ:List PV} {f:List PV→RS}:(RS.next ρ).seq f=f ρ:=rfl
@[simp] theorem RS.seq_ret {x:PV} {f:List PV→RS}:(RS.ret x).seq f=.ret x:=rfl
@[simp] theorem RS.seq_exc {e:PX} {f:List PV→RS}:(RS.exc e).seq f=.exc e:=rfl
structure Tys where
  n:List Md
  b:List Md
  c:List Md
  r:Kd
noncomputable def DnS (K:PySem.W.Frag) (B:Addr→Prop) (EX:PX→Hp→Prop) (Y:Tys) (H0 H:Hp) (F:Nat→List Addr) (D:Ends) (r:RS):Prop:=match r with
  | .next ρ=>∀ σ' H' F',Frm H F H' F'→Ag K B H0 H' σ' Y.n ρ F' []→D.nx σ' H'
  | .brk ρ=>∀ σ' H' F',Frm H F H' F'→Ag K B H0 H' σ' Y.b ρ F' []→D.bk σ' H'
  | .cont ρ=>∀ σ' H' F',Frm H F H' F'→Ag K B H0 H' σ' Y.c ρ F' []→D.ct σ' H'
  | .ret x=>∀ v H',Same H0 H'→RetK K B H0 Y.r x v H'→D.rt v H'
  | .exc e=>∀ H',Same H0 H'→EX e H'
  | .bad=>False
noncomputable def DS (K:PySem.W.Frag) (EX:PX→Hp→Prop) (Γ:List Md) (Y:Tys) (t:TS) (g:List PV→RS):Prop :=
  ∀ (B:Addr→Prop) (H0 H:Hp) (σ:St) (ρ:List PV) (F:Nat→List Addr) (D:Ends),Ag K B H0 H σ Γ ρ F []→DnS K B EX Y H0 H F D (g ρ)→t D σ H
section
variable {K:PySem.W.Frag} {B:Addr→Prop} {EX:PX→Hp→Prop} {H0 H H':Hp} {σ:St} {Γ Γ' Γ1 Γ2 Γ3:List Md} {ρ:List PV} {F F':Nat→List Addr} {R:List Addr} {k:Kd} {x:PV} {v:V} {te tb tc:TE} {ta:TA} {f fb fc fe:List PV→Rr PV} {fa:List PV→Rr (List PV)}
  {t u:TS} {g g':List PV→RS} {Y:Tys} {D:Ends}
theorem DnS.shift {H1:Hp} {F1:Nat→List Addr} {r:RS} (fr:Frm H F H1 F1) (h:DnS K B EX Y H0 H F D r):DnS K B EX Y H0 H1 F1 D r:=by
  cases r with
  | next ρ=>exact fun σ' H' F' fr' A=>h σ' H' F' (fr.trans fr') A
  | brk ρ=>exact fun σ' H' F' fr' A=>h σ' H' F' (fr.trans fr') A
  | cont ρ=>exact fun σ' H' F' fr' A=>h σ' H' F' (fr.trans fr') A
  | ret x=>exact h
  | exc e=>exact h
  | bad=>exact h
theorem DnS.thenS {α:Type} {r:Rr α} {f:α→RS} (h:DnS K B EX Y H0 H F D (r.thenS f)):Dn r (fun a=>DnS K B EX Y H0 H F D (f a)) (fun e=>∀ H',Same H0 H'→EX e H'):=by
  cases r with
  | ok a=>exact h
  | exc e=>exact h
  | bad=>exact h
theorem ds_next:DS K EX Γ ⟨Γ,Γ1,Γ2,k⟩ tNext (fun ρ=>.next ρ):=fun B H0 H σ ρ F D A d=>d σ H F Frm.refl A
theorem ds_seq {Γm:List Md} (h1:DS K EX Γ ⟨Γm,Y.b,Y.c,Y.r⟩ t g) (h2:DS K EX Γm Y u g'):DS K EX Γ Y (tSeq t u) (fun ρ=>(g ρ).seq g'):=fun B H0 H σ ρ F D A d=>by
  refine h1 B H0 H σ ρ F _ A ?_
  dsimp only at d
  cases e:g ρ with
  | next ρ1 =>
    rw [e] at d
    exact fun σ' H' F' fr A'=>h2 B H0 H' σ' ρ1 F' D A' (DnS.shift fr d)
  | brk ρ1=>rw [e] at d; exact d
  | cont ρ1=>rw [e] at d; exact d
  | ret x=>rw [e] at d; exact d
  | exc q=>rw [e] at d; exact d
  | bad=>rw [e] at d; exact d
noncomputable def mle (m m':Md):Bool:=m == m' || m' == .U || (m' == .S && m != .U) || (m' == .O && m == .P)
noncomputable def mles:List Md→List Md→Bool
  | [],[]=>true
  | m :: ms,m' :: ms'=>mle m m' && mles ms ms'
  | _,_=>false
theorem mles_get:∀ {Γ Γ':List Md},mles Γ Γ'=true→Γ.length=Γ'.length∧∀ i,mle (Γ.getD i .U) (Γ'.getD i .U)=true
  | [],[],_=>⟨rfl,fun i=>by simp [mle]⟩
  | m :: ms,m' :: ms',h=>by
    simp only [mles,Bool.and_eq_true] at h
    obtain ⟨h1,h2⟩:=mles_get h.2
    refine ⟨by simp [h1],fun i=>?_⟩
    cases i with
    | zero=>simpa using h.1
    | succ i=>simpa using h2 i
  | [],_ :: _,h=>by cases h
  | _ :: _,[],h=>by cases h
theorem Ag.weak (A:Ag K B H0 H σ Γ ρ F R) (h:mles Γ Γ'=true):∃ F',(∀ i,∀ a∈F' i,a∈F i)∧Ag K B H0 H σ Γ' ρ F' R:=by
  obtain ⟨hl,hm⟩:=mles_get h
  let F':Nat→List Addr:=fun i=>if Γ.getD i .U=Γ'.getD i .U then F i else []
  have hF:∀ i,∀ a∈F' i,a∈F i:=fun i a ha=>by
    by_cases q:Γ.getD i .U=Γ'.getD i .U
    · simp only [F',if_pos q] at ha; exact ha
    · simp only [F',if_neg q] at ha; simp at ha
  have up:∀ {a},NO B F R a→NO B F' R a:=fun {a} s=>⟨s.1,s.2.1,fun j z=>s.2.2 j (hF j a z)⟩
  refine ⟨F',hF,A.same,A.own,fun i a ha=>A.young i a (hF i a ha),A.youngR,fun i a ha=>A.live i a (hF i a ha),A.liveR,fun i j hij a ha z=>A.disj i j hij a (hF i a ha) (hF j a z),fun i a ha=>A.disjR i a (hF i a ha),by rw [A.lenS,hl],by rw [A.lenR,hl],fun i=>?_⟩
  have sl:=A.slot i
  have hmi:=hm i
  by_cases q:Γ.getD i .U=Γ'.getD i .U
  · simp only [F',if_pos q]
    rw [← q]
    exact sl.mono (fun a vs s r=>⟨r,up s⟩) (fun a vs r=>r) fun a ha vs r=>r
  · simp only [F',if_neg q]
    simp only [mle,Bool.or_eq_true,beq_iff_eq,Bool.and_eq_true,bne_iff_ne] at hmi
    rcases hmi with ((z | z) | z) | z
    · exact absurd z q
    · rw [z]; exact rfl
    rotate_left
    · rw [z.1]
      rw [z.2] at sl
      obtain ⟨e,v,h1,h2,h3⟩:=sl
      exact ⟨v,h1,h3.tree h2⟩
    · rw [z.1]
      have own:∀ a∈F i,NO B F' R a:=fun a ha=>⟨A.own a (A.young i a ha),A.disjR i a ha,fun j w=>by
        by_cases hj:j=i
        · subst hj; simp only [F',if_neg q] at w; simp at w
        · exact A.disj j i hj a (hF j a w) ha⟩
      cases hmm:Γ.getD i .U with
      | U=>exact absurd hmm z.2
      | P=>rw [hmm] at sl; obtain ⟨e,v,h1,h2,h3⟩:=sl; exact ⟨rfl,v,h1,h3.flatS h2⟩
      | S=>rw [hmm] at sl; obtain ⟨e,v,h1,h2⟩:=sl; exact ⟨rfl,v,h1,Rep.mono (fun a vs s r=>⟨r,up s⟩) (fun a vs r=>r) h2⟩
      | T =>
        rw [hmm] at sl
        obtain ⟨a,vs,xs,h1,h2,h3,h4,h5⟩:=sl
        refine ⟨rfl,_,h1, ?_⟩
        rw [h2]
        exact ⟨a,vs,rfl,.inl ⟨.inl h3,own a (by rw [h5]; simp)⟩,Reps.mono (fun a vs s r=>⟨r,up s⟩) (fun a vs r=>r) h4⟩
      | O=>rw [hmm] at sl; obtain ⟨v,h1,h2⟩:=sl; exact ⟨rfl,v,h1,h2.rep own⟩
theorem DS.out {Y':Tys} (h:DS K EX Γ Y t g) (hn:mles Y.n Y'.n=true) (hb:mles Y.b Y'.b=true) (hc:mles Y.c Y'.c=true) (hr:Y.r=Y'.r):DS K EX Γ Y' t g:=fun B H0 H σ ρ F D A d=>by
  refine h B H0 H σ ρ F D A ?_
  cases e:g ρ with
  | next ρ1=>rw [e] at d; exact fun σ' H' F' fr A'=>let ⟨F2,f2,A2⟩:=A'.weak hn; d σ' H' F2 (fr.trans (Frm.of (Same.refl _) f2)) A2
  | brk ρ1=>rw [e] at d; exact fun σ' H' F' fr A'=>let ⟨F2,f2,A2⟩:=A'.weak hb; d σ' H' F2 (fr.trans (Frm.of (Same.refl _) f2)) A2
  | cont ρ1=>rw [e] at d; exact fun σ' H' F' fr A'=>let ⟨F2,f2,A2⟩:=A'.weak hc; d σ' H' F2 (fr.trans (Frm.of (Same.refl _) f2)) A2
  | ret x=>rw [e] at d; exact fun v H' s r=>d v H' s (hr ▸ r)
  | exc q=>rw [e] at d; exact d
  | bad=>rw [e] at d; exact d
theorem frm_put {H1:Hp} {F1:Nat→List Addr} {i:Nat} {G:List Addr} (s1:Same H H1) (f1:∀ i,∀ a∈F1 i,a∈F i) (o:∀ a∈G,H a=none ∨ ∃ i,a∈F i):Frm H F H1 (own1 F1 i G):=fun a u h n=>by
  refine ⟨s1 a u h,fun j z=>?_⟩
  by_cases q:j=i
  · subst q
    rw [own1_same] at z
    rcases o a z with w | ⟨l,w⟩
    · rw [h] at w; cases w
    · exact n l w
  · rw [own1_ne q] at z; exact n j (f1 j a z)
theorem ds_setP {i:Nat} (he:DE K EX Γ Γ' .P te f) (hi:i < Γ'.length):DS K EX Γ ⟨Γ'.set i .P,Γ1,Γ2,k⟩ (tAsg te (gName i)) (fun ρ=>(f ρ).thenS fun x=>.next (ρ.set i x)):=fun B H0 H σ ρ F D A d=>by
  refine he B H0 H σ ρ F [] _ A (d.thenS.imp (fun x _ d v H1 s1 r1=>?_) fun e q=>q)
  obtain ⟨F1,f1,h1,h2,A1⟩:=r1
  exact d _ H1 _ (frm_put (G:=[]) s1 f1 (by simp)) (Ag.put (G:=[]) (R:=[]) A1 hi (by simp) ⟨rfl,v,rfl,h1,h2⟩)
theorem ds_setF {i:Nat} (he:DE K EX Γ Γ' .F te f) (hi:i < Γ'.length):DS K EX Γ ⟨Γ'.set i .O,Γ1,Γ2,k⟩ (tAsg te (gName i)) (fun ρ=>(f ρ).thenS fun x=>.next (ρ.set i x)):=fun B H0 H σ ρ F D A d=>by
  refine he B H0 H σ ρ F [] _ A (d.thenS.imp (fun x _ d v H1 s1 r1=>?_) fun e q=>q)
  obtain ⟨F1,f1,G,h1,h2,A1⟩:=r1
  exact d _ H1 _ (frm_put s1 f1 fun a ha=>(h2 a ha).2) (Ag.put (R:=[]) A1 hi (by simp) ⟨v,rfl,h1⟩)
theorem ds_expr (he:DE K EX Γ Γ' .A te f):DS K EX Γ ⟨Γ',Γ1,Γ2,k⟩ (tDrop te) (fun ρ=>(f ρ).thenS fun _=>.next ρ):=fun B H0 H σ ρ F D A d=>by
  refine he B H0 H σ ρ F [] _ A (d.thenS.imp (fun x _ d v H1 s1 r1=>?_) fun e q=>q)
  obtain ⟨F1,f1,h1,A1⟩:=r1
  exact d σ H1 F1 (Frm.of s1 f1) A1
theorem ds_retP (he:DE K EX Γ Γ' .P te f):DS K EX Γ ⟨Γ3,Γ1,Γ2,.P⟩ (tRet te) (fun ρ=>(f ρ).thenS fun x=>.ret x):=fun B H0 H σ ρ F D A d=>by
  refine he B H0 H σ ρ F [] _ A (d.thenS.imp (fun x _ d v H1 s1 r1=>?_) fun e q=>q)
  obtain ⟨F1,f1,h1,h2,A1⟩:=r1
  exact d v H1 A1.same ⟨h1,h2⟩
theorem ds_retF (he:DE K EX Γ Γ' .F te f):DS K EX Γ ⟨Γ3,Γ1,Γ2,.F⟩ (tRet te) (fun ρ=>(f ρ).thenS fun x=>.ret x):=fun B H0 H σ ρ F D A d=>by
  refine he B H0 H σ ρ F [] _ A (d.thenS.imp (fun x _ d v H1 s1 r1=>?_) fun e q=>q)
  obtain ⟨F1,f1,G,h1,h2,A1⟩:=r1
  exact d v H1 A1.same ⟨G,h1,fun a ha=>A1.youngR a (by simpa using ha)⟩
theorem ds_if {c:TT} {fc:List PV→Rr Bool} (hc:DT K EX Γ Γ' c fc) (h1:DS K EX Γ' Y t g) (h2:DS K EX Γ' Y u g'):DS K EX Γ Y (tIfS c t u) (fun ρ=>(fc ρ).thenS fun b=>if b=true then g ρ else g' ρ):=fun B H0 H σ ρ F D A d=>by
  refine hc B H0 H σ ρ F [] _ A (d.thenS.imp (fun b _ d H1 F1 s1 f1 A1=>?_) fun e q=>q)
  cases b with
  | true=>exact h1 B H0 H1 σ ρ F1 D A1 (DnS.shift (Frm.of s1 f1) d)
  | false=>exact h2 B H0 H1 σ ρ F1 D A1 (DnS.shift (Frm.of s1 f1) d)
theorem ds_never:DS K EX Γ Y tNever (fun _=>.bad):=fun B H0 H σ ρ F D A d=>d
end
end L2
namespace L2
open PySem PySem.Spec PyProof.Rows
section
variable {K:PySem.W.Frag} {B:Addr→Prop} {EX:PX→Hp→Prop} {H0 H H':Hp} {σ:St} {Γ Γ' Γ1 Γ2 Γ3 Γl Γt:List Md} {ρ:List PV} {F F':Nat→List Addr} {R:List Addr} {k:Kd} {x:PV} {v:V} {te ti tb tc:TE} {ta:TA} {f fi fb fc fe:List PV→Rr PV} {fa:List PV→Rr (List PV)}
  {t u:TS} {g g':List PV→RS} {Y:Tys} {D:Ends}
theorem Ag.chgB {i:Nat} {m:Md} {a:Addr} {o':HO} (ho:Lvo o') {x':PV} {G G':List Addr} (A:Ag K B H0 H σ Γ ρ F (G ++ R)) (hm:Γ[i]?=some m) (ha:a∈F i) (hG:∀ b∈G',b∈F i ∨ b∈G) (hGR:∀ b∈G,b ∉ R)
    (hs:SlotOk K (upd H a o') (NO B (own1 F i G') R) m x' σ[i]? G'):Ag K B H0 (upd H a o') σ Γ (ρ.set i x') (own1 F i G') R:=by
  obtain ⟨us,hH⟩:=A.live i a ha
  have hi:=A.lt hm
  have liveU:∀ b,(∃ us:LvO,H b=some us.1)→∃ us:LvO,upd H a o' b=some us.1:=fun b ⟨us,q⟩=>by
    by_cases e:b=a
    · exact ⟨⟨o',ho⟩,by rw [e,upd_same]⟩
    · exact ⟨us,by rw [upd_ne e]; exact q⟩
  refine ⟨A.same.upd (A.young i a ha),A.own,fun j b hb=>?_,fun b hb=>A.youngR b (List.mem_append_right _ hb),fun j b hb=>liveU b ?_,fun b hb=>liveU b (A.liveR b (List.mem_append_right _ hb)),fun j l hjl b hb z=>?_,fun j b hb z=>?_,A.lenS,by simp [A.lenR],fun j=>?_⟩
  · by_cases q:j=i
    · subst q; rw [own1_same] at hb
      rcases hG b hb with z | z
      · exact A.young j b z
      · exact A.youngR b (List.mem_append_left _ z)
    · rw [own1_ne q] at hb; exact A.young j b hb
  · by_cases q:j=i
    · subst q; rw [own1_same] at hb
      rcases hG b hb with z | z
      · exact A.live j b z
      · exact A.liveR b (List.mem_append_left _ z)
    · rw [own1_ne q] at hb; exact A.live j b hb
  · by_cases q:j=i
    · subst q
      rw [own1_same] at hb
      rw [own1_ne (Ne.symm hjl)] at z
      rcases hG b hb with w | w
      · exact A.disj j l hjl b w z
      · exact A.disjR l b z (List.mem_append_left _ w)
    · rw [own1_ne q] at hb
      by_cases q':l=i
      · subst q'
        rw [own1_same] at z
        rcases hG b z with w | w
        · exact A.disj j l hjl b hb w
        · exact A.disjR j b hb (List.mem_append_left _ w)
      · rw [own1_ne q'] at z; exact A.disj j l hjl b hb z
  · by_cases q:j=i
    · subst q; rw [own1_same] at hb
      rcases hG b hb with w | w
      · exact A.disjR j b w (List.mem_append_right _ z)
      · exact hGR b w z
    · rw [own1_ne q] at hb; exact A.disjR j b hb (List.mem_append_right _ z)
  · by_cases q:j=i
    · subst q
      rw [own1_same,List.getD_eq_getElem?_getD,List.getD_eq_getElem?_getD,hm,List.getElem?_set_self (by rw [A.lenR]; exact hi)]
      exact hs
    · rw [own1_ne q,List.getD_eq_getElem?_getD (l:=ρ.set _ _),List.getElem?_set_ne (Ne.symm q),← List.getD_eq_getElem?_getD]
      refine (A.slot j).mono (fun b us s r=>?_) (fun b us r=>Im.putL hH r) fun b hb us r=>?_
      · have hne:b≠a:=fun z=>s.2.2 i (z ▸ ha)
        refine ⟨?_,s.1,fun z=>s.2.1 (List.mem_append_right _ z),fun l z=>?_⟩
        · rcases r with r | ⟨o,r⟩
          · exact .inl (by rw [upd_ne hne]; exact r)
          · exact .inr ⟨o,by rw [upd_ne hne]; exact r⟩
        · by_cases q':l=i
          · subst q'; rw [own1_same] at z
            rcases hG b z with w | w
            · exact s.2.2 l w
            · exact s.2.1 (List.mem_append_left _ w)
          · rw [own1_ne q'] at z; exact s.2.2 l z
      · have hne:b≠a:=fun z=>A.disj j i q b hb (z ▸ ha)
        rw [upd_ne hne]; exact r
theorem Ag.chg {i:Nat} {m:Md} {a:Addr} {vs':List V} {x':PV} {G G':List Addr} (A:Ag K B H0 H σ Γ ρ F (G ++ R)) (hm:Γ[i]?=some m) (ha:a∈F i) (hG:∀ b∈G',b∈F i ∨ b∈G) (hGR:∀ b∈G,b ∉ R)
    (hs:SlotOk K (upd H a (.lst vs')) (NO B (own1 F i G') R) m x' σ[i]? G'):Ag K B H0 (upd H a (.lst vs')) σ Γ (ρ.set i x') (own1 F i G') R:=Ag.chgB (o':=.lst vs') trivial A hm ha hG hGR hs
theorem frm_chg {H1:Hp} {F1:Nat→List Addr} {i:Nat} {a:Addr} {o:HO} {G':List Addr} (s1:Same H H1) (f1:∀ i,∀ b∈F1 i,b∈F i) (ha:a∈F1 i) (hG:∀ b∈G',H b=none ∨ ∃ j,b∈F j):Frm H F (upd H1 a o) (own1 F1 i G'):=fun b u h n=>by
  have hne:b≠a:=fun z=>n i (f1 i b (z ▸ ha))
  refine ⟨by rw [upd_ne hne]; exact s1 b u h,fun j z=>?_⟩
  by_cases q:j=i
  · subst q; rw [own1_same] at z
    rcases hG b z with w | ⟨l,w⟩
    · rw [h] at w; cases w
    · exact n l w
  · rw [own1_ne q] at z; exact n j (f1 j b z)
theorem Trees.setP:∀ {xs:List PV} {vs:List V} {G:List Addr} {j:Nat} {y:PV} {w:V},Trees K H xs vs G→Tree K H y w []→∃ G',(∀ a∈G',a∈G)∧Trees K H (xs.set j y) (vs.set j w) G'
  | [],_,_,_,_,_,h,_=>⟨[],by simp,by rw [h.1]; exact ⟨rfl,rfl⟩⟩
  | x :: xs,_,_,0,y,w,h,h'=>by
    obtain ⟨v,r,G1,G2,rfl,h1,h2,h3,rfl⟩:=h
    exact ⟨G2,fun a ha=>by simp [ha],w,r,[],G2,rfl,h',h2,by simp,rfl⟩
  | x :: xs,_,_,j + 1,y,w,h,h'=>by
    obtain ⟨v,r,G1,G2,rfl,h1,h2,h3,rfl⟩:=h
    obtain ⟨G',h4,h5⟩:=Trees.setP (j:=j) h2 h'
    refine ⟨G1 ++ G',fun a ha=>?_,v,r.set j w,G1,G',rfl,h1,h5,fun a ha z=>h3 a ha (h4 a z),rfl⟩
    rcases List.mem_append.mp ha with z | z
    · simp [z]
    · simp [h4 a z]
noncomputable def pSet (x i y:PV):Rr PV:=match x,i with
  | .lst xs,.int j=>match ixN xs.length j with
    | some n=>.ok (.lst (xs.set n y))
    | none=>.bad
  | _,_=>.bad
theorem Dn.pSet {x i y:PV} {ok:PV→Prop} {ex:PX→Prop} (d:Dn (pSet x i y) ok ex):∃ xs j n,x=.lst xs∧i=.int j∧ixN xs.length j=some n∧ok (.lst (xs.set n y)):=by
  unfold L2.pSet at d
  split at d
  · rename_i xs j
    cases e:ixN xs.length j with
    | none=>rw [e] at d; exact d.elim
    | some n=>rw [e] at d; exact ⟨xs,j,n,rfl,rfl,e,d⟩
  · exact d.elim
theorem ds_setItO {i:Nat} (hm:Γ2[i]?=some .O) (he:DE K EX Γ Γ2 .P te f) (hi:DE K EX Γ2 Γ2 .A ti fi) :
    DS K EX Γ ⟨Γ2,Γ1,Γ3,k⟩ (tAsg te (gSub (tVar i) ti rSetL)) (fun ρ=>(f ρ).thenS fun y=>(fi ρ).thenS fun j=>(pSet (gv i ρ) j y).thenS fun z=>.next (ρ.set i z)):=fun B H0 H σ ρ F D A d=>by
  refine he B H0 H σ ρ F [] _ A (d.thenS.imp (fun y _ d w H1 s1 r1=>?_) fun e q=>q)
  obtain ⟨F1,f1,y1,y2,A1⟩:=r1
  obtain ⟨v,h1,h2⟩:=A1.getO hm
  refine ⟨v,h1,hi B H0 H1 σ ρ F1 [] _ A1 (d.thenS.imp (fun j _ d jv H2 s2 r2=>?_) fun e q=>q)⟩
  obtain ⟨F2,f2,p2,A2⟩:=r2
  obtain ⟨xs,jj,n,e1,rfl,e2,d⟩:=Dn.pSet d.thenS
  obtain ⟨v',h1',h2'⟩:=A2.getO hm
  rw [h1] at h1'; cases h1'
  rw [show ρ.getD i .non=.lst xs from e1] at h2'
  obtain ⟨a,vs,G,rfl,hH,ht,hn,hF⟩:=h2'
  cases p2
  refine ⟨a,vs,jj,n,rfl,rfl,hH,by rw [ht.length]; exact e2, ?_⟩
  obtain ⟨G',g1,g2⟩:=Trees.setP (j:=n) ht ((y2.same s2).tree y1)
  have haF:a∈F2 i:=by rw [hF]; simp
  have hsub:∀ b∈a :: G',b∈F2 i:=fun b hb=>by
    rw [hF]
    rcases List.mem_cons.mp hb with rfl | hb
    · simp
    · simp [g1 b hb]
  refine d σ _ (own1 F2 i (a :: G')) (frm_chg (s1.trans s2) (fun j b hb=>f1 j b (f2 j b hb)) haF fun b hb=>.inr ⟨i,f1 i b (f2 i b (hsub b hb))⟩) (Ag.chg (G:=[]) A2 hm haF (fun b hb=>.inl (hsub b hb)) (by simp) ?_)
  exact ⟨_,h1,a,_,G',rfl,upd_same,g2.put hH (fun z=>hn (g1 a z)),fun z=>hn (g1 a z),rfl⟩
noncomputable def pApp (x y:PV):Rr PV:=match x with
  | .lst xs=>if xs.length < 1000000 then .ok (.lst (xs ++ [y])) else .bad
  | _=>.bad
theorem Dn.pApp {x y:PV} {ok:PV→Prop} {ex:PX→Prop} (d:Dn (pApp x y) ok ex):∃ xs,x=.lst xs∧xs.length < 1000000∧ok (.lst (xs ++ [y])):=by
  unfold L2.pApp at d
  split at d
  · rename_i xs
    by_cases h:xs.length < 1000000
    · rw [if_pos h] at d; exact ⟨xs,rfl,h,d⟩
    · rw [if_neg h] at d; exact d.elim
  · exact d.elim
theorem Dn.asL {x:PV} {ok:List PV→Prop} {ex:PX→Prop} (d:Dn (asL x) ok ex):∃ xs,x=.lst xs∧ok xs:=by
  cases x with
  | lst xs=>exact ⟨xs,rfl,d⟩
  | _=>exact d.elim
theorem ds_appO {i:Nat} (hm:Γ[i]?=some .O) (hm2:Γ2[i]?=some .O) (he:DE K EX Γ Γ2 .F te f) :
    DS K EX Γ ⟨Γ2,Γ1,Γ3,k⟩ (tDrop (tBM K "list" rAppend (tVar i) (tCons te tNil))) (fun ρ=>(asL (gv i ρ)).thenS fun xs=>(f ρ).thenS fun y=>(pApp (.lst xs) y).thenS fun z=>.next (ρ.set i z)):=fun B H0 H σ ρ F D A d=>by
  obtain ⟨v,h1,h2⟩:=A.getO hm
  refine ⟨v,h1, ?_⟩
  obtain ⟨xs,e1,d⟩:=Dn.asL d.thenS
  rw [show ρ.getD i .non=.lst xs from e1] at h2
  obtain ⟨a,vs,G,rfl,hH,ht,hn,hF⟩:=h2
  refine ⟨.inl ⟨rfl,_,SqL.of hH⟩,he B H0 H σ ρ F [] _ A (d.thenS.imp (fun y _ d w H2 s2 r2=>?_) fun e q=>q)⟩
  obtain ⟨F2,f2,G2,y1,y2,A2⟩:=r2
  obtain ⟨xs',e2,hlen,d⟩:=Dn.pApp d.thenS
  cases e2
  obtain ⟨v',h1',h2'⟩:=A2.getO hm2
  rw [h1] at h1'; cases h1'
  rw [show ρ.getD i .non=.lst xs from e1] at h2'
  obtain ⟨a',vs',G',e,hH',ht',hn',hF'⟩:=h2'
  cases e
  refine ⟨a,vs',w,rfl,rfl,hH',by rw [ht'.length]; exact Nat.lt_of_lt_of_le hlen (by decide), ?_⟩
  have haF:a∈F2 i:=by rw [hF']; simp
  have dj:∀ b∈G',b ∉ G2:=fun b hb z=>A2.disjR i b (by rw [hF']; simp [hb]) (List.mem_append_left _ z)
  have na:a ∉ G2:=fun z=>A2.disjR i a haF (List.mem_append_left _ z)
  have hsub:∀ b∈a :: (G' ++ G2),b∈F2 i ∨ b∈G2:=fun b hb=>by
    rw [hF']
    rcases List.mem_cons.mp hb with rfl | hb
    · simp
    · rcases List.mem_append.mp hb with z | z
      · simp [z]
      · exact .inr z
  have hna:a ∉ G' ++ G2:=fun z=>(List.mem_append.mp z).elim hn' na
  refine d σ _ (own1 F2 i (a :: (G' ++ G2))) (frm_chg s2 f2 haF fun b hb=>?_) (Ag.chg (G:=G2) (R:=[]) A2 hm2 haF hsub (by simp) ?_)
  · rcases hsub b hb with z | z
    · exact .inr ⟨i,f2 i b z⟩
    · exact (y2 b z).2
  · exact ⟨_,h1,a,_,G' ++ G2,rfl,upd_same,(Trees.append ht' (Trees.one y1) dj).put hH' hna,hna,rfl⟩
noncomputable def DG (K:PySem.W.Frag) (EX:PX→Hp→Prop) (Γ Γ':List Md) (g:TG) (h:PV→List PV→Rr (List PV)):Prop :=
  ∀ (B:Addr→Prop) (H0 H:Hp) (σ:St) (ρ:List PV) (F:Nat→List Addr) (v:V) (x:PV) (N:St→Hp→Prop),Ag K B H0 H σ Γ ρ F []→Rep K H (NO B F []) x v →
    Dn (h x ρ) (fun ρ'=>∀ σ' F',(∀ i,∀ a∈F' i,a∈F i)→Ag K B H0 H σ' Γ' ρ' F' []→N σ' H) (fun e=>∀ H',Same H0 H'→EX e H')→g v σ H N
theorem dg_P {i:Nat} (hi:i < Γ.length):DG K EX Γ (Γ.set i .P) (gName i) (fun x ρ=>(grd x).bind fun x=>.ok (ρ.set i x)):=fun B H0 H σ ρ F v x N A r d=>by
  unfold grd at d; dsimp only at d
  by_cases h:x.flat=true
  · rw [if_pos h] at d
    exact d _ (own1 F i []) own1_sub (Ag.put (G:=[]) (R:=[]) A hi (by simp) ⟨rfl,v,rfl,h,r.any⟩)
  · rw [if_neg h] at d; exact d.elim
end
end L2
namespace L2
open PySem PySem.Spec PyProof.Rows
noncomputable def RS.turn:RS→(List PV→RS)→RS
  | .next ρ,f=>f ρ
  | .cont ρ,f=>f ρ
  | .brk ρ,_=>.next ρ
  | r,_=>r
noncomputable def forR (b:PV→List PV→RS):List PV→List PV→RS
  | [],ρ=>.next ρ
  | x :: xs,ρ=>(b x ρ).turn (forR b xs)
section
variable {K:PySem.W.Frag} {B:Addr→Prop} {EX:PX→Hp→Prop} {H0 H H':Hp} {σ:St} {Γ Γ' Γ1 Γ2 Γ3 Γl Γt:List Md} {ρ:List PV} {F F':Nat→List Addr} {R:List Addr} {k:Kd} {x:PV} {v:V} {te ti tb tc:TE} {ta:TA} {f fb fc fe:List PV→Rr PV} {fa:List PV→Rr (List PV)}
  {t u:TS} {g g':List PV→RS} {Y:Tys} {D:Ends}
theorem ds_for {wi:TI} {gt:TG} {fi:List PV→Rr (List PV)} {h:PV→List PV→Rr (List PV)} (hi:DI K EX Γ Γ1 wi fi) (hw:mles Γ1 Γl=true) (hg:DG K EX Γl Γt gt h) (hb:DS K EX Γt ⟨Γl,Γl,Γl,k⟩ t g) :
    DS K EX Γ ⟨Γl,Γ2,Γ3,k⟩ (tFor wi gt t) (fun ρ=>(fi ρ).thenS fun xs=>forR (fun x ρ=>(h x ρ).thenS g) xs ρ):=fun B H0 H σ ρ F D A d=>by
  refine hi B H0 H σ ρ F [] _ A (d.thenS.imp (fun xs _ d J H1 F1 s1 f1 A1 it=>?_) fun e q=>q)
  obtain ⟨Fl,fl,Al⟩:=A1.weak hw
  have fr0:Frm H F H1 Fl:=Frm.of s1 fun j a ha=>f1 j a (fl j a ha)
  have fr1:Frm H1 F1 H1 Fl:=Frm.of (Same.refl _) fl
  refine ⟨fun i m σ' H'=>∃ ρ' F',m=xs.length - i∧i≤xs.length∧Frm H1 F1 H' F'∧Ag K B H0 H' σ' Γl ρ' F' []∧DnS K B EX ⟨Γl,Γ2,Γ3,k⟩ H0 H' F' D (forR (fun x ρ=>(h x ρ).thenS g) (xs.drop i) ρ'),
    ⟨xs.length,ρ,Fl,by simp,Nat.zero_le _,fr1,Al,by simpa using DnS.shift fr0 d⟩, ?_⟩
  rintro i m σ' H' ⟨ρ',F',rfl,hi',fr,A',dn⟩
  have itp:=it H' F' fr i
  cases hx:xs[i]? with
  | none =>
    refine .inl ⟨itp.2 hx, ?_⟩
    have hd:xs.drop i=[]:=List.drop_eq_nil_of_le (List.getElem?_eq_none_iff.mp hx)
    rw [hd] at dn
    exact dn σ' H' F' Frm.refl A'
  | some x =>
    have hlt:i < xs.length:=(List.getElem?_eq_some_iff.mp hx).1
    obtain ⟨go,yl⟩:=itp.1 x hx
    have hdx:xs.drop i=x :: xs.drop (i + 1):=by
      rw [List.drop_eq_getElem_cons hlt]
      rw [List.getElem?_eq_getElem hlt] at hx; cases hx; rfl
    rw [hdx] at dn
    simp only [forR] at dn
    refine .inr ⟨go,fun σ2 H2=>∃ ρ2 F2,Frm H1 F1 H2 F2∧Ag K B H0 H2 σ2 Γl ρ2 F2 []∧DnS K B EX ⟨Γl,Γ2,Γ3,k⟩ H0 H2 F2 D (forR (fun x ρ=>(h x ρ).thenS g) (xs.drop (i + 1)) ρ2),
      fun σ2 H2 ⟨ρ2,F2,a1,a2,a3⟩=>⟨xs.length - (i + 1),by omega,ρ2,F2,rfl,hlt,a1,a2,a3⟩,fun v H3 y=>?_⟩
    obtain ⟨s3,rx⟩:=yl v H3 y
    have fr3:Frm H' F' H3 F':=Frm.of s3 fun _ _ h=>h
    refine hg B H0 H3 σ' ρ' F' v x _ (A'.grow s3) (Rep.mono (fun a us s r=>⟨r,s.1⟩) (fun a us r=>r) rx) ?_
    cases e:h x ρ' with
    | ok ρt =>
      rw [e] at dn
      refine fun σt Ft ft At=>hb B H0 H3 σt ρt Ft _ At ?_
      have frt:Frm H' F' H3 Ft:=Frm.of s3 ft
      simp only [Rr.thenS_ok] at dn
      cases e2:g ρt with
      | next ρ2=>rw [e2] at dn; exact fun σ2 H2 F2 fr2 A2=>⟨ρ2,F2,fr.trans (frt.trans fr2),A2,DnS.shift (frt.trans fr2) dn⟩
      | cont ρ2=>rw [e2] at dn; exact fun σ2 H2 F2 fr2 A2=>⟨ρ2,F2,fr.trans (frt.trans fr2),A2,DnS.shift (frt.trans fr2) dn⟩
      | brk ρ2=>rw [e2] at dn; exact fun σ2 H2 F2 fr2 A2=>dn σ2 H2 F2 (frt.trans fr2) A2
      | ret y=>rw [e2] at dn; exact dn
      | exc q=>rw [e2] at dn; exact dn
      | bad=>rw [e2] at dn; exact dn
    | exc q=>rw [e] at dn; exact dn
    | bad=>rw [e] at dn; exact dn
end
end L2
namespace L2
open PySem PySem.Spec PyProof.Rows
noncomputable def RS.out:RS→Rr PV
  | .next _=>.ok .non
  | .ret x=>.ok x
  | .exc e=>.exc e
  | .brk _=>.bad
  | .cont _=>.bad
  | .bad=>.bad
@[simp] theorem RS.out_next {ρ:List PV}:(RS.next ρ).out=.ok .non:=rfl
@[simp] theorem RS.out_ret {x:PV}:(RS.ret x).out=.ok x:=rfl
@[simp] theorem RS.out_exc {e:PX}:(RS.exc e).out=.exc e:=rfl
noncomputable def Ref (r r':Rr PV):Prop:=r=.bad ∨ r=r'
structure Pm where
  α:Type
  enc:α→List PV
  pre:α→Prop
  out:α→Rr PV
open Classical in
noncomputable def Pm.fn (m:Pm) (xs:List PV):Rr PV:=if h:∃ a,m.enc a=xs∧m.pre a then m.out h.choose else .bad
theorem Pm.fn_eq (m:Pm) (a:m.α) (h:m.pre a) (inj:∀ b,m.enc b=m.enc a→m.out b=m.out a):m.fn (m.enc a)=m.out a:=by
  unfold Pm.fn
  have hx:∃ b,m.enc b=m.enc a∧m.pre b:=⟨a,rfl,h⟩
  rw [dif_pos hx]
  exact inj _ hx.choose_spec.1
theorem Pm.ref (m:Pm) {g:List PV→Rr PV} (h:∀ a,m.pre a→g (m.enc a)=m.out a) (xs:List PV):Ref (m.fn xs) (g xs):=by
  unfold Pm.fn
  by_cases hx:∃ a,m.enc a=xs∧m.pre a
  · rw [dif_pos hx]
    have h2:=hx.choose_spec
    right
    have:=h _ h2.2
    rw [h2.1] at this
    exact this.symm
  · rw [dif_neg hx]; exact .inl rfl
section
variable {K:PySem.W.Frag} {B:Addr→Prop} {EX:PX→Hp→Prop} {H0 H H':Hp}
theorem Ag.init {xs:List PV} {vs:List V} {n:Nat} (h:Reps K H B xs vs):Ag K (fun a=>B a ∨ H a=none) H H (vs.map some ++ List.replicate n none) (List.replicate xs.length .S ++ List.replicate n .U) (xs ++ List.replicate n .non) (fun _=>[]) []:=by
  refine ⟨Same.refl _,fun a h=>.inr h,by simp,by simp,by simp,by simp,by simp,by simp,by simp [h.length],by simp,fun i=>?_⟩
  by_cases hi:i < xs.length
  · have e1:(List.replicate xs.length Md.S ++ List.replicate n Md.U).getD i .U=.S:=by
      rw [List.getD_eq_getElem?_getD,List.getElem?_append_left (by simpa using hi),List.getElem?_replicate_of_lt hi]; rfl
    have e2:(xs ++ List.replicate n PV.non).getD i .non=xs[i]:=by
      rw [List.getD_eq_getElem?_getD,List.getElem?_append_left hi,List.getElem?_eq_getElem hi]; rfl
    rw [e1,e2]
    obtain ⟨v,h1,h2⟩:=h.get (List.getElem?_eq_getElem hi)
    refine ⟨rfl,v, ?_,Rep.mono (fun a us s r=>⟨r,.inl s,by simp,by simp⟩) (fun a us r=>r) h2⟩
    rw [List.getElem?_append_left (by rw [List.length_map,h.length]; exact hi),List.getElem?_map,h1]; rfl
  · have e1:(List.replicate xs.length Md.S ++ List.replicate n Md.U).getD i .U=.U:=by
      rw [List.getD_eq_getElem?_getD,List.getElem?_append_right (by simpa using hi)]
      by_cases q:i - (List.replicate xs.length Md.S).length < n
      · rw [List.getElem?_replicate_of_lt q]; rfl
      · rw [List.getElem?_eq_none (by simpa using q)]; rfl
    rw [e1]
    exact rfl
end
section
variable {P:Program} {w:World} {K:PySem.W.Frag} {mg:Str→Option Value} {base:Heap}
theorem Fun.okP {x qual:Str} {st:Stmt} {f:Addr} {fd:FuncData} {N ps:List Str} {k n l:Nat} {kd:Kd} {m:List PV→Rr PV} (F:Fun K x qual st f fd) (S:FnScope N ps (defScope st)) (hn:ps.length=n) (hl:N.length - n=l)
    (hbody:∀ (cdv:Value) (A:Around) (outer:List Env) (s:Shared) (H:Hp) (E:XK),Room k (A.deeper (envOfC qual (defScope st) s.heap.objs.size f cdv)) →
      ∃ t g Y,Y.r=kd∧PSs (cxOf CX0 P w K mg base N qual (defScope st) f cdv A outer s H E).nox (defBody st) t∧DS K X0 (List.replicate n .S ++ List.replicate l .U) Y t g∧∀ xs,Ref (m xs) (g (xs ++ List.replicate l .non)).out) (hkN:kd≠.N:=by nofun) :
    FnOk P w K mg base CX0 (k + 1) f fd ps (spF K n kd W0 m):=by
  refine F.ok S (fun vs H Q E h=>?_) (fun cdv A outer s H vs Q E hr h=>?_)
  · obtain ⟨B,xs,h1,h2,_⟩:=h
    rw [h1.length,h2,hn]
  · obtain ⟨B,xs,h1,h2,dn⟩:=h
    obtain ⟨t,g,Y,hY,ht,hd,href⟩:=hbody cdv A outer s H E hr
    refine ⟨t,ht, ?_⟩
    have A0:=Ag.init (n:=l) h1
    have est:start N vs=vs.map some ++ List.replicate l none:=by
      unfold start
      rw [h1.length,h2,hl]
    rw [est]
    rw [h2] at A0
    refine hd _ H H _ _ _ _ A0 ?_
    have hdn:Dn (g (xs ++ List.replicate l .non)).out (fun x=>∀ v H',Same H H'→RetK K B H kd x v H'→Q v H') (fun e=>∀ H',Same H H'→W0 e E H'):=by
      rcases href xs with e | e
      · rw [e] at dn; exact dn.elim
      · rw [← e]; exact dn
    have retK:∀ {x v H'},RetK K (fun a=>B a ∨ H a=none) H kd x v H'→RetK K B H kd x v H':=fun {x v H'} h=>by
      cases kd with
      | P=>exact h
      | F=>exact h
      | T=>exact Rep.mono (fun a us s r=>⟨r,s.elim id .inr⟩) (fun a us r=>r) h
      | Z=>exact Rep.mono (fun a us s r=>⟨r,s.elim id .inr⟩) (fun a us r=>r) h
      | A=>exact Rep.mono (fun a us s r=>⟨r,s.elim id .inr⟩) (fun a us r=>r) h
      | N=>exact h
    cases e:g (xs ++ List.replicate l .non) with
    | next ρ =>
      rw [e] at hdn
      refine fun σ' H' F' fr A'=>hdn .non H' A'.same ?_
      cases kd with
      | P=>exact ⟨rfl,rfl⟩
      | F=>exact ⟨[],⟨rfl,rfl⟩,by simp⟩
      | T=>exact rfl
      | Z=>exact rfl
      | A=>exact rfl
      | N=>exact absurd rfl hkN
    | ret x=>rw [e] at hdn; exact fun v H' s r=>hdn v H' s (retK (hY ▸ r))
    | exc q=>rw [e] at hdn; exact fun H' s=>hdn H' s
    | brk ρ=>rw [e] at hdn; exact hdn.elim
    | cont ρ=>rw [e] at hdn; exact hdn.elim
    | bad=>rw [e] at hdn; exact hdn.elim
end
section
variable {X:Cx} {K:PySem.W.Frag} {k n:Nat} {kd:Kd} {x:Str} {ps:List Str} {m:List PV→Rr PV} {p pos:Pos} {e:Expr} {es:List Expr} {ta:TA} {EX:PX→Hp→Prop} {Γ Γ':List Md} {fa:List PV→Rr (List PV)}
theorem dc_F (hn:Len fa n) (ha:DAA K X0 Γ Γ' ta fa):DE K X0 Γ Γ' .F (tCallO (spF K n .F W0 m) ta) (fun ρ=>(fa ρ).bind m):=de_callF (E:=E0) (W:=W0) (fun σ H Q h=>h) (fun e H' h=>h) hn ha
theorem dc_P (hn:Len fa n) (ha:DAA K X0 Γ Γ' ta fa):DE K X0 Γ Γ' .P (tCallO (spF K n .P W0 m) ta) (fun ρ=>(fa ρ).bind m):=de_callP (E:=E0) (W:=W0) (fun σ H Q h=>h) (fun e H' h=>h) hn ha
end
theorem law_startP {K:PySem.W.Frag} {H:Hp} {a:Addr} {ns:List Int} {m:List PV→Rr PV} (hm:m [.lst (ns.map PV.int)]=.ok (.bl true)) (hS:SqL K H a (ns.map V.int)):spF K 1 .P W0 m [.ref a] H (fun v _=>v=.bl true) fun _ _ _=>False:=by
  refine ⟨fun _=>True,[.lst (ns.map PV.int)],Reps.one ⟨a,_,rfl,hS.elim (fun h=>.inl ⟨h,trivial⟩) .inr,ints_reps ns⟩,rfl, ?_⟩
  rw [hm]
  exact fun v H' _ r=>r.2
end L2
namespace L2
open PySem PySem.Spec PyProof.Rows
section
variable {X:Cx} {K:PySem.W.Frag} {EX:PX→Hp→Prop} {Γ Γ' Γ1 Γ2 Γ3:List Md} {k:Kd} {te tb tc:TE} {ta:TA} {f fb fc:List PV→Rr PV} {fa:List PV→Rr (List PV)}
theorem bt_str:bootBuiltins "str"=some (.type "str"):=by decide +kernel
theorem ds_setComp {i:Nat} {wi:TI} (he:DE K EX Γ Γ' .F (tComp wi te) f) (hi:i < Γ'.length):DS K EX Γ ⟨Γ'.set i .O,Γ1,Γ2,k⟩ (tSetComp i wi te) (fun ρ=>(f ρ).thenS fun x=>.next (ρ.set i x)):=ds_setF he hi
end
noncomputable def RS.good (r:RS) (I:List PV→Prop):Prop:=match r with
  | .next ρ=>I ρ
  | .cont ρ=>I ρ
  | _=>False
theorem RS.good_ex {r:RS} {I:List PV→Prop} (h:r.good I):∃ ρ',(r=.next ρ' ∨ r=.cont ρ')∧I ρ':=by
  cases r with
  | next ρ=>exact ⟨ρ,.inl rfl,h⟩
  | cont ρ=>exact ⟨ρ,.inr rfl,h⟩
  | ret x=>exact h.elim
  | brk ρ=>exact h.elim
  | exc e=>exact h.elim
  | bad=>exact h.elim
theorem forR_inv {b:PV→List PV→RS} {xs:List PV} {ρ:List PV} (I:Nat→List PV→Prop) (h0:I 0 ρ) (h:∀ i x ρ,xs[i]?=some x→I i ρ→(b x ρ).good (I (i + 1))) :
    ∃ ρ',forR b xs ρ=.next ρ'∧I xs.length ρ':=by
  have key:∀ n i ρ,xs.length=i + n→I i ρ→∃ ρ',forR b (xs.drop i) ρ=.next ρ'∧I xs.length ρ':=by
    intro n
    induction n with
    | zero =>
      intro i ρ hl hI
      rw [List.drop_eq_nil_of_le (by omega)]
      exact ⟨ρ,rfl,by rw [hl]; exact hI⟩
    | succ n ih =>
      intro i ρ hl hI
      have hi:i < xs.length:=by omega
      rw [List.drop_eq_getElem_cons hi]
      obtain ⟨ρ',h1,h2⟩:=RS.good_ex (h i _ ρ (List.getElem?_eq_getElem hi) hI)
      obtain ⟨ρ2,h3,h4⟩:=ih (i + 1) ρ' (by omega) h2
      refine ⟨ρ2, ?_,h4⟩
      simp only [forR]
      rcases h1 with h1 | h1 <;> (rw [h1]; exact h3)
  exact key xs.length 0 ρ (by omega) h0
theorem rngP_get {lo:Int} {n i:Nat} {x:PV} (h:(rngP lo n)[i]?=some x):i < n∧x=.int (lo + i):=by
  unfold rngP at h
  rw [List.getElem?_map] at h
  by_cases hi:i < n
  · rw [List.getElem?_range hi] at h; cases h; exact ⟨hi,rfl⟩
  · rw [List.getElem?_eq_none (by simpa using hi)] at h; cases h
@[simp] theorem rngP_length {lo:Int} {n:Nat}:(rngP lo n).length=n:=by simp [rngP]
theorem ints_get {ns:List Int} {i:Nat} {x:PV} (h:(ns.map PV.int)[i]?=some x):∃ z,x=.int z∧ns[i]?=some z∧i < ns.length:=by
  rw [List.getElem?_map] at h
  cases e:ns[i]? with
  | none=>rw [e] at h; cases h
  | some z=>rw [e] at h; cases h; exact ⟨z,rfl,rfl,(List.getElem?_eq_some_iff.mp e).1⟩
theorem mapR_ok {α β:Type} {f:α→Rr β} {g:α→β}:∀ {xs:List α},(∀ x∈xs,f x=.ok (g x))→mapR f xs=.ok (xs.map g)
  | [],_=>rfl
  | x :: xs,h=>by
    simp only [mapR,h x (by simp),Rr.bind_ok,mapR_ok (xs:=xs) fun y hy=>h y (by simp [hy]),List.map_cons]
@[simp] theorem gv_zero {x:PV} {ρ:List PV}:gv 0 (x :: ρ)=x:=rfl
@[simp] theorem gv_succ {x:PV} {ρ:List PV} {i:Nat}:gv (i + 1) (x :: ρ)=gv i ρ:=rfl
theorem pIx_ints {ns:List Int} {k:Int} (h0:0≤k) (h1:k < ns.length):pIx (.lst (ns.map PV.int)) (.int k)=.ok (.int (ns.getD k.toNat 0)):=by
  have:atI (ns.map PV.int) k=some (.int (ns.getD k.toNat 0)):=by
    unfold atI
    rw [List.length_map,ixN_of h0 h1]
    show (ns.map PV.int)[k.toNat]?=_
    rw [List.getElem?_map,List.getElem?_eq_getElem (by omega),List.getD_eq_getElem?_getD,List.getElem?_eq_getElem (by omega)]
    rfl
  simp only [pIx,this]
theorem pSet_ints {ns:List Int} {k y:Int} (h0:0≤k) (h1:k < ns.length):pSet (.lst (ns.map PV.int)) (.int k) (.int y)=.ok (.lst ((ns.set k.toNat y).map PV.int)):=by
  simp only [pSet,List.length_map,ixN_of h0 h1,List.map_set]
theorem pApp_ints {ns:List Int} {y:Int} (h:ns.length < 1000000):pApp (.lst (ns.map PV.int)) (.int y)=.ok (.lst ((ns ++ [y]).map PV.int)):=by
  simp only [pApp,List.length_map,if_pos h,List.map_append,List.map_cons,List.map_nil]
theorem newF_ints {ns:List Int} (h:ns.length≤1000000):newF (ns.map PV.int)=.ok (.lst (ns.map PV.int)):=by
  unfold newF
  rw [PV.flats_ints,List.length_map,decide_eq_true h]; rfl
theorem dats_ints (ns:List Int):PV.dats (ns.map PV.int)=ns.map PyData.int:=by
  induction ns with
  | nil=>rfl
  | cons n ns ih=>simp [PV.dats,PV.dat,ih]
theorem canLay_ints (ns:List Int):PyData.canLayAll0 (ns.map PyData.int)=true:=by
  induction ns with
  | nil=>rfl
  | cons n ns ih=>simp [PyData.canLayAll0,PyData.canLay0,ih]
theorem okD_int (i:Int):okD (.int i)=true:=by simp [okD,PV.noX,PV.dat,PyData.canLay0,PyData.depth]
end L2
namespace L2
open PySem PySem.Spec PyProof.Rows
theorem okD_ints (ns:List Int):okD (.lst (ns.map PV.int))=true:=by
  have hd:PyData.depthAll (ns.map PyData.int)=0:=by
    induction ns with
    | nil=>rfl
    | cons n ns ih=>simp [PyData.depthAll,PyData.depth,ih]
  simp [okD,PV.noX,PV.noXs_ints,PV.dat,dats_ints,PyData.canLay0,canLay_ints,PyData.depth,hd]
theorem eqvAll_ints:∀ (ns ms:List Int),PyData.eqvAll (ns.map PyData.int) (ms.map PyData.int)=decide (ns=ms)
  | [],[]=>by simp [PyData.eqvAll]
  | [],m :: ms=>by simp [PyData.eqvAll]
  | n :: ns,[]=>by simp [PyData.eqvAll]
  | n :: ns,m :: ms=>by
    simp only [List.map_cons,PyData.eqvAll,PyData.eqv,eqvAll_ints ns ms,List.cons.injEq,Bool.decide_and]
    rw [Bool.beq_eq_decide_eq]
theorem pEq_ints {g:Bool→Bool} (ns ms:List Int):pEqG g (.lst (ns.map PV.int)) (.lst (ms.map PV.int))=.ok (.bl (g (decide (ns=ms)))):=by
  unfold pEqG
  rw [okD_ints,okD_ints]
  simp only [Bool.and_self,if_true,PV.dat,dats_ints,PyData.eqv,eqvAll_ints]
theorem pEq_int {g:Bool→Bool} (i j:Int):pEqG g (.int i) (.int j)=.ok (.bl (g (decide (i=j)))):=by
  unfold pEqG
  rw [okD_int,okD_int]
  simp only [Bool.and_self,if_true,PV.dat,PyData.eqv]
  rw [Bool.beq_eq_decide_eq]
theorem pLen_ints (ns:List Int):pLen [.lst (ns.map PV.int)]=.ok (.int ns.length):=by simp [pLen]
theorem pSum_ints (ns:List Int):pSum [.lst (ns.map PV.int)]=.ok (.int ns.sum):=by simp [pSum,pInts]
theorem newF_cat {ns ms:List Int} (h:ns.length + ms.length≤1000000):newF (ns.map PV.int ++ ms.map PV.int)=.ok (.lst ((ns ++ ms).map PV.int)):=by
  rw [← List.map_append]; exact newF_ints (by simpa using h)
theorem pRep_ints {ns:List Int} {k:Int} (h0:ns.length * k.toNat≤1000000) (h1:-(2 ^ 63)≤k) (h2:k < 2 ^ 63):pRep (ns.map PV.int) (.int k)=.ok (.lst ((List.replicate k.toNat ns).flatten.map PV.int)):=by
  simp only [pRep,List.length_map]
  rw [if_pos ⟨h0,h1,h2⟩]
  have e:(List.replicate k.toNat (ns.map PV.int)).flatten=(List.replicate k.toNat ns).flatten.map PV.int:=by
    rw [List.map_flatten,List.map_replicate]
  rw [e]
  refine newF_ints ?_
  rw [len_rep,Nat.mul_comm]; exact h0
theorem cmul_of {i j:Int} (a b:Nat) (h1:i.natAbs≤10 ^ a) (h2:j.natAbs≤10 ^ b) (ha:a≤4000:=by decide) (hb:b≤4000:=by decide):CMulB i j:=by
  have t:∀ c:Nat,c≤4000→(10:Nat) ^ c < 2 ^ 60000:=fun c hc=>Nat.lt_of_le_of_lt (Nat.pow_le_pow_right (by decide) hc) (by decide +kernel)
  exact ⟨Nat.lt_of_le_of_lt h1 (t a ha),Nat.lt_of_le_of_lt h2 (t b hb)⟩
theorem cdiv_of {i j:Int} (b:Nat) (h1:0 < j) (h2:j.natAbs≤10 ^ b) (hb:b≤2000:=by decide):CDivB i j:=by
  have t:∀ c:Nat,c≤2000→(10:Nat) ^ c < 2 ^ 9000:=fun c hc=>Nat.lt_of_le_of_lt (Nat.pow_le_pow_right (by decide) hc) (by decide +kernel)
  exact ⟨h1,Nat.lt_of_le_of_lt h2 (t b hb)⟩
theorem pDiv_ok {i j:Int} (h:CDivB i j):pDiv (.int i) (.int j)=.ok (.int (i / j)):=oI_int (decide_eq_true h)
theorem pMul_ok {i j:Int} (h:CMulB i j):pMul (.int i) (.int j)=.ok (.int (i * j)):=oI_int (decide_eq_true h)
theorem pMod_ok {i j:Int} (h:0 < j):pMod (.int i) (.int j)=.ok (.int (i % j)):=oI_int (decide_eq_true h)
theorem pPow_ok {i j:Int} (h:CPow i j):pPow (.int i) (.int j)=.ok (.int (i ^ j.toNat)):=oI_int (decide_eq_true h)
@[simp] theorem pAdd_ok {i j:Int}:pAdd (.int i) (.int j)=.ok (.int (i + j)):=rfl
@[simp] theorem pSub_ok {i j:Int}:pSub (.int i) (.int j)=.ok (.int (i - j)):=rfl
@[simp] theorem pLt_ok {i j:Int}:pLt (.int i) (.int j)=.ok (.bl (decide (i < j))):=rfl
@[simp] theorem pLe_ok {i j:Int}:pLe (.int i) (.int j)=.ok (.bl (decide (i≤j))):=rfl
@[simp] theorem pGt_ok {i j:Int}:pGt (.int i) (.int j)=.ok (.bl (decide (j < i))):=rfl
@[simp] theorem pGe_ok {i j:Int}:pGe (.int i) (.int j)=.ok (.bl (decide (j≤i))):=rfl
@[simp] theorem grd_int {i:Int}:grd (.int i)=.ok (.int i):=rfl
@[simp] theorem grd_str {i:Str}:grd (.str i)=.ok (.str i):=rfl
@[simp] theorem asB_bl {b:Bool}:asB (.bl b)=.ok b:=rfl
@[simp] theorem asL_lst {xs:List PV}:asL (.lst xs)=.ok xs:=rfl
@[simp] theorem asI_int {i:Int}:asI (.int i)=.ok i:=rfl
@[simp] theorem pIsi_i {n:String} {x:Int}:pIsi n (.int x)=.ok (.bl (isSub (tyName (.int x)) n)):=rfl
@[simp] theorem pIsi_l {n:String} {x:List PV}:pIsi n (.lst x)=.ok (.bl (isSub (tyName (.lst x)) n)):=rfl
@[simp] theorem pNeg_ok {i:Int}:pNeg (.int i)=.ok (.int (-i)):=rfl
theorem pRng2_ok {i j:Int} (h:-(2 ^ 62)≤i∧i < 2 ^ 62) (h':-(2 ^ 62)≤j∧j < 2 ^ 62):pRng2 [.int i,.int j]=.ok (rngP i (j - i).toNat):=by simp only [pRng2,okR,decide_eq_true h,decide_eq_true h',Bool.and_self,if_true]
theorem lenM_ok {xs:List PV} (h:xs.length≤1000000):lenM xs=.ok ():=by simp only [lenM,if_pos h]
@[simp] theorem isSub_ii:isSub (tyName (.int i)) "int"=true:=rfl
@[simp] theorem isSub_ib:isSub (tyName (.int i)) "bool"=false:=rfl
@[simp] theorem isSub_ll:isSub (tyName (.lst xs)) "list"=true:=rfl
theorem nextI {I:List PV→Prop} {ρ:List PV} (h:I ρ):(RS.next ρ).good I:=h
theorem ints_inj' {ns ms:List Int} (e:ns.map PV.int=ms.map PV.int):ns=ms:=by
  have:=congrArg intsOf e
  simpa using this
theorem pDiv_small {i j:Int} (h0:0 < j) (h1:j < 1000000000000):pDiv (.int i) (.int j)=.ok (.int (i / j)):=pDiv_ok (cdiv_of 12 h0 (by omega))
theorem p1060:pPow (.int 10) (.int 60)=.ok (.int (10 ^ 60)):=by rw [pPow_ok (by decide)]; rfl
theorem mkL_ok {xs:List PV} (h:xs.length≤1000):mkL xs=.ok (.lst xs):=if_pos h
end L2
namespace L2
noncomputable def heldN (p s:Int):Int:=p * s % (p + 1)
noncomputable def beyN (p s:Int):Int:=p * s / (p + 1)
noncomputable def sowAt (s:Int):Nat→Int
  | 0=>s
  | k + 1=>beyN (k + 1) (sowAt s k)
noncomputable def firsts (s:Int) (n:Nat):List Int:=(List.range n).map fun (k:Nat)=>heldN (k + 1) (sowAt s k)
noncomputable def ylenF (s:Int):Nat→Nat→Nat
  | 0,k=>k
  | n + 1,k=>if 0 < sowAt s k then ylenF s n (k + 1) else k
noncomputable def ylen (s:Int):Nat:=ylenF s s.toNat 0
noncomputable def yardN (s:Int):List Int:=firsts s (ylen s)
noncomputable def YardOk (ns:List Int):Prop:=(∀ x∈ns,0≤x)∧ns.length≤200∧ns.sum≤10000∧(ns=[] ∨ ns.getD (ns.length - 1) 0≠0)
noncomputable instance (ns:List Int):Decidable (YardOk ns):=by unfold YardOk; infer_instance
noncomputable def HomeOk (ns:List Int):Prop:=YardOk ns∧ns=yardN ns.sum
noncomputable instance (ns:List Int):Decidable (HomeOk ns):=by unfold HomeOk; infer_instance
noncomputable def s2 (ns:List Int) (r:Nat):Nat→Int
  | 0=>0
  | i + 1=>s2 ns r i + if i % 2=r then ns.getD i 0 else 0
end L2
namespace L2
end L2
namespace L2
noncomputable def hs:Nat→Nat→Int→List Int
  | _,0,_=>[]
  | k,m + 1,l=>heldN (k + 1) l :: hs (k + 1) m (beyN (k + 1) l)
noncomputable def s3 (ns:List Int) (r:Nat):Nat→Int
  | 0=>0
  | i + 1=>s3 ns r i + if i % 3=r then ns.getD i 0 else 0
end L2
namespace L2
noncomputable def LineOk (ns:List Int):Prop:=(∀ x∈ns,0≤x)∧ns.length≤100∧ns.sum≤100∧(ns=[] ∨ (ns.getD 0 0≠0∧ns.getD (ns.length - 1) 0≠0))
noncomputable instance (ns:List Int):Decidable (LineOk ns):=by unfold LineOk; infer_instance
theorem sum_nn:∀ {ns:List Int},(∀ x∈ns,0≤x)→0≤ns.sum
  | [],_=>by simp
  | x :: xs,h=>by
    have:=h x (by simp)
    have:=sum_nn (ns:=xs) (fun y hy=>h y (by simp [hy]))
    simp; omega
end L2
namespace My
open L2
theorem getD_mem' {l:List Int} {x:Nat} (h:x < l.length):l.getD x 0∈l:=by
  rw [List.getD_eq_getElem?_getD,List.getElem?_eq_getElem h]; exact List.getElem_mem h
structure Board (ns:List Int):Prop where
  lo:2≤ns.length
  hi:ns.length≤24
  nn:∀ x∈ns,0≤x
  sm:ns.sum≤10 ^ 60
theorem sum_nn:∀ {l:List Int},(∀ x∈l,0≤x)→0≤l.sum
  | [],_=>by simp
  | a :: l,h=>by
    have:=sum_nn (l:=l) fun x hx=>h x (by simp [hx])
    have:=h a (by simp)
    simp only [List.sum_cons]; omega
theorem le_sum:∀ {l:List Int} {v:Int},(∀ x∈l,0≤x)→v∈l→v≤l.sum
  | a :: l,v,h,hv=>by
    have h1:=sum_nn (l:=l) fun x hx=>h x (by simp [hx])
    have h2:=h a (by simp)
    simp only [List.sum_cons]
    rcases List.mem_cons.mp hv with rfl | hv
    · omega
    · have:=le_sum (l:=l) (fun x hx=>h x (by simp [hx])) hv
      omega
section
variable {ns:List Int} {p:Int}
end
noncomputable def run (f:Nat→Int):Nat→Nat→Nat
  | 0,i=>i
  | k + 1,i=>if 0 < f i then run f k (i + 1) else i
section
variable {ns:List Int} {q:Int}
end
end My
namespace My
open L2
noncomputable def its {α:Type} (f:α→α):Nat→α→α
  | 0,a=>a
  | n + 1,a=>f (its f n a)
end My
namespace My
open L2
section
variable {ns:List Int} {q:Int}
end
end My
namespace L2
open PySem PySem.Spec PyProof.Rows
noncomputable def KD {α:Type}:Sem α→Prop
  | .pure _=>True
  | .raise _=>True
  | .unsupported _=>True
  | .finish _=>True
  | .rule _ k=>KD (k ())
  | .at _ k=>KD (k ())
  | .load _ _ k=>∀ o,KD (k o)
  | .update _ _ f k=>(∀ o:Obj,(f o).dict=o.dict∧(o.isFreed=false→(f o).isFreed=false))∧KD (k ())
  | .alloc _ k=>∀ a,KD (k a)
  | .loadIfAlive _ k=>∀ o,KD (k o)
  | .point _ k=>KD (k ())
  | .register _ _=>True
  | .fresh k=>∀ t,KD (k t)
  | .ask k=>∀ x,KD (k x)
  | .choose _ _ k=>∀ n,KD (k n)
  | .os _ _ k=>∀ r,KD (k r)
  | .call _ _ _ _ _=>False
  | .handled _ k=>∀ x,KD (k x)
  | .newGen _ k=>∀ g,KD (k g)
  | .genState _ k=>∀ x,KD (k x)
  | .resume _ _ _ _=>False
  | .yield _ _ _ _=>True
  | .stack k=>∀ x,KD (k x)
  | .fork _ _=>True
  | .thread k=>∀ x,KD (k x)
  | .await _ _ _ _ _=>True
noncomputable def DK (h h':Heap):Prop:=∀ b o,h.get? b=some o→∃ o',h'.get? b=some o'∧o'.dict=o.dict
theorem DK.refl (h:Heap):DK h h:=fun b o e=>⟨o,e,rfl⟩
theorem DK.trans {h1 h2 h3:Heap} (a:DK h1 h2) (b:DK h2 h3):DK h1 h3:=fun x o e=>by
  obtain ⟨o1,e1,d1⟩:=a x o e
  obtain ⟨o2,e2,d2⟩:=b x o1 e1
  exact ⟨o2,e2,d2.trans d1⟩
theorem kd_wp {M:Model} {Γ:PySem.Ctx} {α:Type} {Q:α→Pos→Shared→Prop} {E:Value→Pos→Shared→Prop} {h0:Heap}:∀ (t:Sem α) (p:Pos) (s:Shared),KD t→DK h0 s.heap→Sem.wp M Γ t Q E p s →
    Sem.wp M Γ t (fun a p' s'=>Q a p' s'∧DK h0 s'.heap) (fun e p' s'=>E e p' s'∧DK h0 s'.heap) p s:=by
  intro t
  induction t with
  | pure a=>intro p s _ d h; exact ⟨h,d⟩
  | raise e=>intro p s _ d h; exact ⟨h,d⟩
  | unsupported w=>intro p s _ _ h; exact h
  | finish e=>intro p s _ _ h; exact h
  | rule t k ih=>intro p s k d h; exact ih () p s k d h
  | «at» q k ih=>intro p s k d h; exact ih () q s k d h
  | load a q k ih=>intro p s k d h; obtain ⟨o,e,h⟩:=h; exact ⟨o,e,ih o p s (k o) d h⟩
  | update a q f k ih =>
    intro p s k d h
    refine ⟨h.1,ih () p _ k.2 (d.trans fun b o e=>?_) h.2⟩
    by_cases hb:a=b
    · subst hb
      exact ⟨_,Heap.get?_update_self f e ((k.1 o).2 (Heap.get?_some_iff.mp e).2),(k.1 o).1⟩
    · exact ⟨o,(Heap.get?_update_other _ f hb).trans e,rfl⟩
  | alloc o k ih=>intro p s k d h; exact ih _ p _ (k _) (d.trans fun b o' e=>⟨o',Heap.get?_push_of_some _ e,rfl⟩) h
  | loadIfAlive a k ih=>intro p s k d h; exact ih _ p s (k _) d h
  | point l k ih=>intro p s k d h; exact ih () p s k d h
  | register a k ih=>intro p s _ _ h; exact h
  | fresh k ih=>intro p s k d h; exact ih _ p _ (k _) d h
  | ask k ih=>intro p s k d h; exact ih _ p _ (k _) d h
  | choose a n k ih=>intro p s k d h; exact ⟨h.1,ih _ p _ (k _) d h.2⟩
  | os q l k ih=>intro p s k d h; exact ih _ p _ (k _) d h
  | call c h g l k ih=>intro p s k d h; exact k.elim
  | handled o k ih=>intro p s k d h; exact ih _ p _ (k _) d h
  | newGen c k ih=>intro p s k d h; exact ih _ p _ (k _) d h
  | genState g k ih=>intro p s k d h; obtain ⟨st,e,h⟩:=h; exact ⟨st,e,ih _ p s (k _) d h⟩
  | resume g r l k ih=>intro p s k d h; exact k.elim
  | yield v g l k ih=>intro p s _ _ h; exact h
  | stack k ih=>intro p s k d h; exact ih _ p _ (k _) d h
  | fork c k ih=>intro p s _ _ h; exact h
  | thread k ih=>intro p s k d h; exact ih _ p _ (k _) d h
  | await a t d l k ih=>intro p s _ _ h; exact h
theorem kd_any {M:Model} {A:Around} {α:Type} {t:Sem α} {Q:α→Shared→Prop} {E:Value→Shared→Prop} {s:Shared} (k:KD t) (h:wpAny M A t Q E s):wpAny M A t (fun a s'=>Q a s'∧DK s.heap s'.heap) (fun e s'=>E e s'∧DK s.heap s'.heap) s :=
  fun Γ p hΓ=>kd_wp t p s k (DK.refl _) (h Γ p hΓ)
theorem kd_bind {α β:Type}:∀ (m:Sem α) {f:α→Sem β},KD m→(∀ a,KD (f a))→KD (m >>= f):=by
  intro m f
  show KD m→_→KD (m.bind f)
  induction m with
  | pure a=>intro _ h; exact h a
  | raise e=>intro _ _; trivial
  | unsupported w=>intro _ _; trivial
  | finish e=>intro _ _; trivial
  | rule t k ih=>intro k h; exact ih () k h
  | «at» q k ih=>intro k h; exact ih () k h
  | load a q k ih=>intro k h o; exact ih o (k o) h
  | update a q g k ih=>intro k h; exact ⟨k.1,ih () k.2 h⟩
  | alloc o k ih=>intro k h a; exact ih a (k a) h
  | loadIfAlive a k ih=>intro k h o; exact ih o (k o) h
  | point l k ih=>intro k h; exact ih () k h
  | register a k ih=>intro _ _; trivial
  | fresh k ih=>intro k h a; exact ih a (k a) h
  | ask k ih=>intro k h a; exact ih a (k a) h
  | choose a n k ih=>intro k h a; exact ih a (k a) h
  | os q l k ih=>intro k h a; exact ih a (k a) h
  | call c h g l k ih=>intro k h; exact k.elim
  | handled o k ih=>intro k h a; exact ih a (k a) h
  | newGen c k ih=>intro k h a; exact ih a (k a) h
  | genState g k ih=>intro k h a; exact ih a (k a) h
  | resume g r l k ih=>intro k h; exact k.elim
  | yield v g l k ih=>intro _ _; trivial
  | stack k ih=>intro k h a; exact ih a (k a) h
  | fork c k ih=>intro _ _; trivial
  | thread k ih=>intro k h a; exact ih a (k a) h
  | await a t d l k ih=>intro _ _; trivial
theorem kd_pure {α:Type} {a:α}:KD (pure a:Sem α):=trivial
theorem kd_un {α:Type} {w:String}:KD (unsupported w:Sem α):=trivial
theorem kd_load {a:Addr}:KD (load a):=fun _=>trivial
theorem kd_map (g:Array Value→Array Value) (o:Obj):(Obj.mapFields g o).dict=o.dict∧(o.isFreed=false→(Obj.mapFields g o).isFreed=false):=by
  obtain ⟨c,d,dt,sl⟩:=o
  cases dt <;> exact ⟨rfl,fun h=>h⟩
theorem kd_fieldsOf (v:Value):KD (fieldsOf v):=by
  unfold fieldsOf
  cases v <;> try exact kd_un
  refine kd_bind _ kd_load fun o=>?_
  cases o.data <;> first | exact kd_pure | exact kd_un
theorem kd_field (v:Value) (i:Nat):KD (field v i):=by
  unfold field
  refine kd_bind _ (kd_fieldsOf v) fun vs=>?_
  cases vs[i]? <;> first | exact kd_pure | exact kd_un
theorem kd_setField (v:Value) (i:Nat) (x:Value):KD (setField v i x):=by
  unfold setField
  cases v <;> try exact kd_un
  unfold updateField
  refine kd_bind _ kd_load fun o=>?_
  cases o.data <;> try exact kd_un
  dsimp only
  split
  · exact ⟨fun o=>kd_map _ o,trivial⟩
  · exact kd_un
theorem kd_setFlight (e:Value) (f:Option Addr):KD (setFlight e f):=by
  unfold setFlight
  refine kd_bind _ (kd_field e 1) fun tb=>?_
  split
  · exact kd_setField _ _ _
  · exact kd_pure
theorem kd_newFields (ty:String) (vs:List Value):KD (newFields ty vs):=by
  unfold newFields newObj newObjAsIs
  dsimp only
  have al:∀ (o:Obj),KD (alloc o):=fun _ _=>trivial
  split
  · exact kd_bind _ kd_un fun _=>kd_bind _ (al _) fun _=>kd_pure
  · exact kd_bind _ (al _) fun _=>kd_pure
theorem kd_behind (env:Env) (outer:List Env):KD (behindIsImport env outer):=by
  unfold behindIsImport
  split
  · exact kd_pure
  · split
    · exact kd_pure
    · exact kd_bind _ (kd_field _ _) fun _=>kd_pure
theorem kd_keptBack (env:Env) (i:Bool) (outer:List Env):KD (keptBack env i outer):=by
  cases outer with
  | nil =>
    have u:KD underTheClaimsCaller:=by
      unfold underTheClaimsCaller
      exact kd_bind _ (show KD stack from fun _=>trivial) fun _=>kd_pure
    rw [keptBack]
    split
    · exact kd_pure
    · exact kd_bind _ u fun _=>kd_pure
  | cons c r=>unfold keptBack; exact kd_pure
theorem kd_slots {o:Obj} {sl:Array (Option Value)}:({ o with slots:=sl }:Obj).dict=o.dict∧(o.isFreed=false→({ o with slots:=sl }:Obj).isFreed=false):=by
  obtain ⟨c,d,dt,s⟩:=o
  cases dt <;> exact ⟨rfl,fun h=>h⟩
theorem kd_ready:∀ (l:List Env),KD (readyFrames l)
  | []=>trivial
  | env :: outer=>by
    unfold readyFrames
    cases env.frame with
    | none=>exact kd_un
    | some f =>
      dsimp only
      refine kd_bind _ kd_load fun o=>?_
      split
      · exact kd_pure
      · refine kd_bind _ (kd_behind _ _) fun _=>kd_bind _ (kd_keptBack _ _ _) fun _=>kd_bind _ ⟨fun o=>kd_slots,trivial⟩ fun _=>kd_ready outer
theorem kd_frameOf (env:Env):KD (PySem.frameOf env):=by
  unfold PySem.frameOf
  refine kd_bind _ ?_ fun l=>kd_bind _ ?_ fun r=>?_
  · unfold frameEnvs
    exact kd_bind _ (fun _=>trivial) fun _=>kd_pure
  · cases (List.dropWhile (fun x=>x.frame != env.frame) l) with
    | nil=>exact kd_pure
    | cons a r=>exact kd_bind _ (kd_ready _) fun _=>kd_pure
  · cases r <;> first | exact kd_pure | exact kd_un
theorem kd_place (f:Addr) (b:Bool):KD (entryPlaceOf f b):=by
  unfold entryPlaceOf
  refine kd_bind _ (show KD stack from fun _=>trivial) fun acts=>?_
  split <;> exact kd_pure
theorem kd_note (e:Value) (env:Env):KD (noteFrame e env):=by
  unfold noteFrame
  cases env.frame with
  | none=>exact kd_un
  | some f =>
    dsimp only
    refine kd_bind _ (kd_field _ _) fun head=>?_
    have tail:∀ (hd:Bool),KD (do setField e 1 (← EntryCells.newEntry head (← PySem.frameOf env) .none (rawInt f) .none (← entryPlaceOf f hd))):=fun hd =>
      kd_bind _ (kd_frameOf env) fun _=>kd_bind _ (kd_place _ _) fun _=>kd_bind _ (kd_newFields _ _) fun _=>kd_setField _ _ _
    split
    · refine kd_bind _ (kd_field _ _) fun x=>?_
      split
      · exact kd_pure
      · exact kd_bind _ (kd_setField _ _ _) fun _=>tail _
    · exact tail _
theorem kd_leaving (env:Env) (e:Value):KD (leaving env e):=kd_bind _ (kd_note e env) fun _=>kd_setFlight e none
end L2
namespace L2
open PySem PySem.Spec PyProof.Rows
theorem ObjOk.there {P:Program} {w:World} {H:Hp} {h:Heap} {a:Addr} {o:HO} (x:ObjOk P w H h a o):∃ u,h.get? a=some u:=by
  cases o with
  | lst xs=>obtain ⟨_,_,_,_,e⟩:=x; exact ⟨_,e⟩
  | tup xs=>obtain ⟨_,_,_,_,e,_⟩:=x; exact ⟨_,e⟩
  | dK kvs=>obtain ⟨_,_,_,_,o,_,_,e,_⟩:=x; exact ⟨_,e⟩
  | dT kvs=>obtain ⟨_,_,_,_,o,_,_,e,_⟩:=x; exact ⟨_,e⟩
  | set S n=>obtain ⟨o,_,_,_,e,_⟩:=x; exact ⟨_,e⟩
  | ins C dx fs=>obtain ⟨_,_,_,e,_⟩:=x; exact ⟨_,e⟩
  | own y=>obtain ⟨_,e⟩:=x; exact ⟨_,e⟩
  | xd fs=>obtain ⟨_,⟨_,_,_,e,_⟩,_⟩:=x; exact ⟨_,e⟩
  | rng lo hi=>obtain ⟨_,_,_,e⟩:=x; exact ⟨_,e⟩
  | frz ob u=>exact ⟨_,x.1⟩
  | tbl ps=>exact ⟨_,x⟩
  | met f y=>exact ⟨_,x⟩
  | ext φ=>exact x.2.1
structure Fly (P:Program) (w:World) (outer:List Env) (H:Hp) (s:Shared) (ea:Addr) (cls:Value) (H':Hp) (s':Shared):Prop where
  os:s'.os=s.os
  bare:AllBare s'.gens
  un:Un (frs outer) [] H H' s.heap s'.heap
  hok:HOk P w H' s'.heap
  new:H' ea=none
  dict:∃ o,s'.heap.get? ea=some o∧o.dict=none
  fly:∃ (Bh:Heap) (t:Addr),Heap.FlyingW Bh outer ea cls (.ref t) s'.heap∧(∀ b u,H' b=some u→∀ o,s'.heap.get? b=some o→Bh.get? b=some o)∧∀ b o,s.heap.get? b=some o→b ∉ frs outer→∃ o',Bh.get? b=some o'
noncomputable def CX1 (P:Program) (w:World):CXT:=fun outer H s E e s'=>∃ ea cls H',e=.ref ea∧Fly P w outer H s ea cls H' s'∧E cls (some ea) H'
section
variable {P:Program} {w:World} {K:PySem.W.Frag} {mg:Str→Option Value} {base:Heap} {N:List Str} {qual:Str} {scope:Scope} {f:Addr} {cd:Value} {A:Around} {outer:List Env} {s:Shared} {H:Hp} {E:XK}
  {pins:List (Addr × Obj)} {σ:St} {H1 H':Hp} {s1 s':Shared} {g h'' Bh:Heap} {ea t:Addr} {cls:Value}
theorem fly_out (I:Inv (cxOf (CX1 P w) P w K mg base N qual scope f cd A outer s H E) pins σ H1 s1) (os:s'.os=s1.os) (bare:AllBare s'.gens) (un:Un (s.heap.objs.size :: frs outer) [] H1 H' s1.heap g) (hok:HOk P w H' g) (up:g.UpToSlots h'')
    (fl:Heap.FlyingW Bh outer ea cls (.ref t) h'') (st:Bh.StaysIn g) (c1:∀ b u,H' b=some u→∀ o,g.get? b=some o→Bh.get? b=some o) (c2:∀ b o,s1.heap.get? b=some o→b ∉ s.heap.objs.size :: frs outer→∃ o',Bh.get? b=some o')
    (new:H' ea=none) (dn:∃ o,g.get? ea=some o∧o.dict=none) (dk:DK g h''):Fly P w outer H s ea cls H' { s' with heap:=h'' }:=by
  have neL:∀ b o,s.heap.get? b=some o→b≠s.heap.objs.size:=fun b o e=>Nat.ne_of_lt (Heap.lt_size e)
  have nin:∀ b o,s.heap.get? b=some o→b ∉ frs outer→b ∉ s.heap.objs.size :: frs outer:=fun b o e n z=>(List.mem_cons.mp z).elim (neL b o e) n
  have b0:Un (frs outer) [] H H1 s.heap s1.heap:=I.base
  have fr0:∀ b∈frs outer,H b=none:=I.ok.frf
  have slot:∀ b o,s.heap.get? b=some o→H b=none→b∈frs outer→∃ sl,h''.get? b=some { o with slots:=sl }:=fun b o q n hb=>by
    obtain ⟨s2,e1⟩:=b0.slot b o q n hb (by simp)
    obtain ⟨s3,e2⟩:=un.slot b _ e1 (b0.free b o q n (by simp)) (List.mem_cons_of_mem _ hb) (by simp)
    obtain ⟨_,o',ho',hnf⟩:=Heap.FunFrames.mem (show s.heap.FunFrames base outer from I.ok.funs) hb
    rw [q] at ho'; cases ho'
    obtain ⟨s4,e3⟩:=up b _ e2 hnf
    exact ⟨s4,e3⟩
  have keepB:∀ b o,s.heap.get? b=some o→H b=none→b ∉ frs outer→Bh.get? b=some o:=fun b o q n hb=>by
    have e1:=b0.keep b o q n hb (by simp)
    have e2:=un.keep b o e1 (b0.free b o q n (by simp)) (nin b o q hb) (by simp)
    obtain ⟨o',e3⟩:=c2 b o e1 (nin b o q hb)
    have e4:=st b o' e3
    rw [e2] at e4; cases e4
    exact e3
  have thereB:∀ b o,s.heap.get? b=some o→b ∉ frs outer→∃ o',Bh.get? b=some o':=fun b o q hb=>by
    obtain ⟨o1,e1⟩:=b0.there b o q (by simp)
    exact c2 b o1 e1 (nin b o q hb)
  refine ⟨os.trans I.os,bare,⟨fun b o q n hb _=>fl.1 b o (keepB b o q n hb),fun b o q n hb _=>slot b o q n hb,fun b o q n _=>?_,fun b o q _=>?_,fun b xs q=>un.tups b xs (b0.tups b xs q),fun b o xs q=>un.frzs b o xs (b0.frzs b o xs q),fun b ps q=>?_⟩,fun b u e=>?_,new,(let ⟨o,e,d⟩:=dn; let ⟨o',e',d'⟩:=dk ea o e; ⟨o',e',d'.trans d⟩),Bh,t,fl,fun b u e o q=>?_,thereB⟩
  · obtain ⟨o1,e1⟩:=b0.there b o q (by simp)
    exact un.free b o1 e1 (b0.free b o q n (by simp)) (by simp)
  · by_cases hb:b∈frs outer
    · obtain ⟨sl,e⟩:=slot b o q (fr0 b hb) hb
      exact ⟨_,e⟩
    · obtain ⟨o',e⟩:=thereB b o q hb
      exact ⟨o',fl.1 b o' e⟩
  · obtain ⟨m1,e1⟩:=b0.tbls b ps q
    obtain ⟨m2,e2⟩:=un.tbls b _ e1
    exact ⟨m1 ++ m2,by rw [e2,Array.append_assoc]⟩
  · refine (hok b u e).stay (fun c v hc q=>?_) (fun _ q=>q) fun _ _ q=>q
    rcases hc with rfl | hc
    · exact fl.1 c v (c1 c u e v q)
    · exact fl.1 c v (c1 c _ hc v q)
  · obtain ⟨o1,e1⟩:=(hok b u e).there
    have e2:=c1 b u e o1 e1
    have e3:=fl.1 b o1 e2
    rw [e3] at q; cases q
    exact e2
noncomputable def PassS (X:Cx) (E:St→XK):Prop:=∀ (pins:List (Addr × Obj)) (σ:St) (H:Hp) (s:Shared) (e:Value) (s':Shared),Inv X pins σ H s→CX1 X.prog X.w X.stack H s (E σ) e s'→X.xe e s'
noncomputable def MadeS (X:Cx) (E:St→XK):Prop:=∀ (pins:List (Addr × Obj)) (σ:St) (H:Hp) (s:Shared) (h':Heap) (ea:Addr) (cls:Value) (args:List Value),Inv X pins σ H s→Heap.MadeExcOf s.heap h' ea cls args→E σ cls (some ea) H→X.xe (.ref ea) { s with heap:=h' }
theorem pass_cx:PassS (cxOf (CX1 P w) P w K mg base N qual scope f cd A outer s H E) (fun _=>E):=fun pins σ H1 s1 e s' I hq=>by
  obtain ⟨ea,cls,H',rfl,F,hE⟩:=hq
  obtain ⟨Bh,t,fl,c1,c2⟩:=F.fly
  refine wpAny_mono (kd_any (kd_leaving _ _) (wpAny_leaves_onW (Q:=fun _ s''=>∃ h'',s''={ s' with heap:=h'' }∧Heap.FlyingW Bh outer ea cls (.ref t) h''∧s'.heap.UpToSlots h'') I.ok.frames rfl fl fun h'' fl'' up=>⟨h'',rfl,fl'',up⟩)) (fun _ s'' q=>?_) fun _ _ q=>q.1
  obtain ⟨⟨h'',rfl,fl'',up⟩,dk⟩:=q
  exact ⟨ea,cls,H',rfl,fly_out I F.os F.bare F.un F.hok up fl'' fl.1 c1 c2 F.new F.dict dk,hE⟩
theorem made_cx:MadeS (cxOf (CX1 P w) P w K mg base N qual scope f cd A outer s H E) (fun _=>E):=fun pins σ H1 s1 h' ea cls args I hx hE=>by
  have hin:∀ env∈(cxOf (CX1 P w) P w K mg base N qual scope f cd A outer s H E).stack,∀ b,env.frame=some b→b∈frs (cxOf (CX1 P w) P w K mg base N qual scope f cd A outer s H E).stack:=fun env he b hb=>List.mem_filterMap.mpr ⟨env,he,hb⟩
  have trk:∀ b u,H1 b=some u→b ∉ frs (cxOf (CX1 P w) P w K mg base N qual scope f cd A outer s H E).stack:=fun b u e z=>by rw [I.stkFree b z] at e; cases e
  have new:H1 ea=none:=by
    cases q:H1 ea with
    | none=>rfl
    | some u=>obtain ⟨o,e⟩:=(I.hok ea u q).there; rw [hx.new] at e; cases e
  refine wpAny_mono (kd_any (kd_leaving _ _) (wpAny_leaves_madeW (Q:=fun _ s''=>∃ h'' t,s''={ s1 with heap:=h'' }∧Heap.FlyingW (PySem.W.hideAll s1.heap (frs (cxOf (CX1 P w) P w K mg base N qual scope f cd A outer s H E).stack)) outer ea cls (.ref t) h''∧h'.UpToSlots h'')
    (base:=PySem.W.hideAll s1.heap (frs (cxOf (CX1 P w) P w K mg base N qual scope f cd A outer s H E).stack)) (h:=s1.heap) I.ok.frames rfl (fun b o q=>PySem.W.of_hideAll _ q) (PySem.W.funFrames_hide I.stack hin) hx fun h'' t fl _ _ up=>⟨h'',t,rfl,fl,up⟩)) (fun _ s'' q=>?_) fun _ _ q=>q.1
  obtain ⟨⟨h'',t,rfl,fl,up⟩,dk⟩:=q
  have dn:∃ o,h'.get? ea=some o∧o.dict=none:=by obtain ⟨t,e,_⟩:=hx.there; exact ⟨_,e,rfl⟩
  refine ⟨ea,cls,H1,rfl,fly_out (g:=h') (t:=t) (s':={ s1 with heap:=h' }) I rfl I.bare (Un.kept hx.keeps) (I.hok.kept hx.keeps) up fl (fun b o q=>hx.keeps b o (PySem.W.of_hideAll _ q)) (fun b u e o q=>?_) (fun b o q n=>⟨o,PySem.W.hideAll_get _ q n⟩) new dn dk,hE⟩
  obtain ⟨o1,e1⟩:=(I.hok b u e).there
  have e2:=hx.keeps b o1 e1
  rw [q] at e2; cases e2
  exact PySem.W.hideAll_get _ e1 (trk b u e)
end
noncomputable def bmVE:List Value:=[.type "ValueError",.type "Exception",.type "BaseException",.type "object"]
noncomputable def tRaise (C:Addr) (E:St→XK) (ta:TA):TS:=fun D σ H=>ta σ H fun vs H1=>vs.length≤1000∧∀ ea,H1 ea=none→E σ (.ref C) (some ea) H1
theorem exc_obj {K:PySem.W.Frag} {h₀:Heap} {C:Addr} {bmB:List Value} {newId:String} (X:K.In h₀) (q:PySem.W.excIn K C bmB newId=true) :
    ∃ tl N nm qn bs hdct sn sub ab col dd k0 k1 k2 k3 k5 mN,h₀.get? C=some (excClassObj nm qn C N bs tl hdct sn sub ab col dd k0 k1 k2 k3 k5 newId)∧h₀.Ns N mN∧mN "__init__"=none∧OwnTail h₀ bmB tl:=by
  unfold PySem.W.excIn at q
  split at q
  · rename_i dd cd sl ho
    split at q
    · rename_i C' bm k0 k1 k2 k3 n k5 hm hs
      simp only [Bool.and_eq_true,beq_iff_eq,Bool.not_eq_true'] at q
      obtain ⟨⟨⟨⟨⟨rfl,rfl⟩,hdel⟩,ht⟩,hok⟩,hni⟩:=q
      obtain ⟨nm,bs,mro,ns,qn,hd,sn,sub,ab,col,del⟩:=cd
      dsimp only at hm hdel hok hni
      subst hm hdel
      have hsl:sl=#[k0,k1,k2,k3,some (.builtin n),k5]:=by
        obtain ⟨l⟩:=sl
        simp only at hs
        rw [hs]
      subst hsl
      exact ⟨bm,ns,nm,qn,bs,hd,sn,sub,ab,col,dd,k0,k1,k2,k3,k5,_,X _ _ ho,.of_isNs (PySem.W.isNs_of_in X hok),PySem.W.nsMap_none_of_in X hok hni,PySem.W.tail_of_in X ht⟩
    · cases q
  · cases q
section
variable {X:Cx} {E:St→XK} {x:Str} {C:Addr} {np cpos pos:Pos} {e:Expr} {es:List Expr} {ta:TA}
theorem ps_raise (hM:MadeS X E) (hq:PySem.W.excIn X.K C bmVE "ValueError.__new__"=true) (hg:Gl X x) (hm:X.mg x=some (.ref C)) (hc:X.calm=true) (ha:PA X (e :: es) ta) (hdb:(x == ("__debug__":Str))=false:=by decide)
    (he:starEach (e :: es) X.env=(false,eval e X.env) :: starEach es X.env:=by rfl) (hpl:(backTo cpos (starEach es X.env)).any (·.1)=false:=by rfl) :
    PS X (.Raise (some (.Call (.Name x np) (e :: es) [] cpos)) none pos) (tRaise C E ta):=by
  intro pins s σ H D I h
  obtain ⟨tl,N,nm,q,bs,hdct,sn,sub,ab,col,dd,k0,k1,k2,k3,k5,mN,hC,hN,hni,T⟩:=exc_obj I.ok.mod.kin hq
  refine wpAny_Raise_call_subT (C:=C) (nm:=nm) (q:=q) (N:=N) (bs:=bs) (bm:=tl) (hdct:=hdct) (sn:=sn) (sub:=sub) (ab:=ab) (col:=col) (dd:=dd) (k0:=k0) (k1:=k1) (k2:=k2) (k3:=k3) (k5:=k5)
    PySem.F.excBase_ValueError (mN:=mN) (T.hasType PySem.F.excBase_ValueError.hasBase) (I.ok.hd hc) (by rw [he]; show (false || (backTo cpos (starEach es X.env)).any (·.1))=false; rw [hpl]; rfl) hni (ld_glob I hg hm ⟨rfl, ?_⟩ hdb)
  have h2:=ha cpos pins s σ H _ I h
  rw [he] at h2 ⊢
  refine Calls.evalArgs_plain (wpAny_mono h2 (fun us s₂ z=>?_) fun _ _ y=>y)
  obtain ⟨vs,H1,I1,r,hl,hE⟩:=z
  have hnew:∀ {h':Heap} {ea:Addr} {args:List Value},Heap.MadeExcOf s₂.heap h' ea (.ref C) args→H1 ea=none:=fun {h' ea args} hx=>by
    cases q:H1 ea with
    | none=>rfl
    | some u=>obtain ⟨o,e⟩:=(I1.hok ea u q).there; rw [hx.new] at e; cases e
  exact ⟨rfl,Nat.le_trans (by rw [← r.length]; exact hl) (by decide),I1.bk _ _ hC,hN.keeps I1.bk,T.keeps I1.bk,fun h' ea hx=>hM pins σ H1 s₂ h' ea _ _ I1 hx (hE ea (hnew hx))⟩
end
end L2
namespace L2
open PySem PySem.Spec PyProof.Rows
theorem fly_in {P:Program} {w:World} {outer:List Env} {H H':Hp} {s s':Shared} {ea t:Addr} {cls:Value} {Bh h'':Heap} (F:Fly P w outer H s ea cls H' s') (fl:Heap.FlyingW Bh outer ea cls (.ref t) s'.heap)
    (c1:∀ b u,H' b=some u→∀ o,s'.heap.get? b=some o→Bh.get? b=some o) (c2:∀ b o,s.heap.get? b=some o→b ∉ frs outer→∃ o',Bh.get? b=some o') (st:Bh.StaysIn h'') (up:s'.heap.UpToSlots h'') :
    Un (frs outer) [] H H' s.heap h''∧HOk P w H' h'':=by
  refine ⟨⟨fun b o q n hb _=>?_,fun b o q n hb _=>?_,fun b o q n hx=>F.un.free b o q n hx,fun b o q _=>?_,F.un.tups,F.un.frzs,F.un.tbls⟩,fun b u e=>?_⟩
  · have e2:=F.un.keep b o q n hb (by simp)
    obtain ⟨o',e3⟩:=c2 b o q hb
    have e4:=fl.1 b o' e3
    rw [e2] at e4; cases e4
    exact st b o e3
  · obtain ⟨s2,e2⟩:=F.un.slot b o q n hb (by simp)
    obtain ⟨_,o',ho',hnf⟩:=Heap.FunFrames.mem fl.2.2.1 hb
    rw [e2] at ho'; cases ho'
    obtain ⟨s3,e3⟩:=up b _ e2 hnf
    exact ⟨s3,e3⟩
  · by_cases hb:b∈frs outer
    · obtain ⟨_,o',ho',hnf⟩:=Heap.FunFrames.mem fl.2.2.1 hb
      obtain ⟨sl,e⟩:=up b _ ho' hnf
      exact ⟨_,e⟩
    · obtain ⟨o',e⟩:=c2 b o q hb
      exact ⟨o',st b o' e⟩
  · refine (F.hok b u e).stay (fun c v hc q=>?_) (fun _ q=>q) fun _ _ q=>q
    rcases hc with rfl | hc
    · exact st c v (c1 c u e v q)
    · exact st c v (c1 c _ hc v q)
section
variable {X:Cx} {pins:List (Addr × Obj)} {σ:St} {H:Hp} {s:Shared}
theorem Inv.track {ea:Addr} {oe:Obj} (I:Inv X pins σ H s) (e:s.heap.get? ea=some oe) (hn:H ea=none) (hL:ea≠X.env.locals) (hC:∀ x c,X.env.cells.lookup x=some c→c≠ea) (hp:∀ p∈X.pn ++ pins,p.1≠ea) (h0:X.s₀.heap.get? ea=none) :
    Inv X pins σ (upd H ea (.frz oe (.own ea))) s:=by
  refine ⟨I.ok,I.os,I.bare,⟨I.base.keep,I.base.slot,fun b o q n hx=>?_,I.base.there,fun b xs q=>?_,fun b o u q=>?_,fun b ps q=>?_⟩,I.loc,I.cell, ?_,fun x c q=>?_,fun p hq=>?_,fun b u q=>?_,I.len⟩
  · rw [upd_ne (fun z=>by rw [z,h0] at q; cases q)]; exact I.base.free b o q n hx
  · have:=I.base.tups b xs q
    rw [upd_ne (ne_of_none this hn)]; exact this
  · have:=I.base.frzs b o u q
    rw [upd_ne (ne_of_none this hn)]; exact this
  · obtain ⟨m,this⟩:=I.base.tbls b ps q
    exact ⟨m,by rw [upd_ne (ne_of_none this hn)]; exact this⟩
  · rw [upd_ne (Ne.symm hL)]; exact I.free
  · rw [upd_ne (hC x c q)]; exact I.freeC x c q
  · obtain ⟨a,b,c,d,e⟩:=I.pin p hq
    exact ⟨a,by rw [upd_ne (hp p hq)]; exact b,c,d,e⟩
  · by_cases hb:b=ea
    · subst hb
      rw [upd_same] at q; cases q
      exact ⟨e,oe,e⟩
    · rw [upd_ne hb] at q
      exact (I.hok b u q).stay (fun c v _ z=>z) (fun c z=>by rw [upd_ne (ne_of_none z hn)]; exact z) fun c xs z=>by rw [upd_ne (ne_of_none z hn)]; exact z
theorem Inv.gone {i:Nat} {n:Str} {m:Str→Option Value} {v:Option Value} {h':Heap} {t':Nat} (I:Inv X pins σ H s) (hN:X.N.Nodup) (hi:X.N[i]?=some n) (hm:∀ (j:Nat) (x:Str) (v:V),X.N[j]?=some x→σ[j]?=some (some v)→Vis X.env.scope x→∃ u,RelV v u∧Look X.env s.heap m x u)
    (hn:h'.Ns X.env.locals (fun x=>if x=n then v else m x)) (hs:Heap.SameBut X.env.locals s.heap h') (hoL:∃ o,s.heap.get? X.env.locals=some o):Inv X pins (σ.set i none) H { s with heap:=h',toks:=t' }:=by
  have tracked:HOk X.prog X.w H h':=fun b ob e=>by
    refine (I.hok b ob e).stay (fun c w' hc q=>(hs.2 c ?_).trans q) (fun _ q=>q) fun _ _ q=>q
    intro z
    rw [z] at hc
    rcases hc with hc | hc
    · rw [← hc,I.free] at e; cases e
    · rw [I.free] at hc; cases hc
  have neL:∀ b o,X.s₀.heap.get? b=some o→b≠X.env.locals:=fun b o e=>Nat.ne_of_lt (Nat.lt_of_lt_of_le (Heap.lt_size e) I.ok.above)
  refine ⟨I.ok,I.os,I.bare,⟨fun b o e n hb hx=>?_,fun b o e n hb hx=>?_,I.base.free,fun b o e hx=>?_,I.base.tups,I.base.frzs,I.base.tbls⟩,⟨_,hn,fun j y v' e1 e2 e3=>?_⟩,fun y c e=>?_,I.free,I.freeC,fun p hp=>?_,tracked,by simpa using I.len⟩
  · exact (hs.2 b (neL b o e)).trans (I.base.keep b o e n hb hx)
  · obtain ⟨sl,e1⟩:=I.base.slot b o e n hb hx
    exact ⟨sl,(hs.2 b (neL b o e)).trans e1⟩
  · obtain ⟨o',e1⟩:=I.base.there b o e hx
    exact ⟨o',(hs.2 b (neL b o e)).trans e1⟩
  · by_cases hj:j=i
    · subst hj
      rw [List.getElem?_set] at e2
      simp only [if_true] at e2
      split at e2 <;> cases e2
    · rw [List.getElem?_set_ne (Ne.symm hj)] at e2
      obtain ⟨u',r',q⟩:=hm j y v' e1 e2 e3
      refine ⟨u',r', ?_⟩
      rcases q with ⟨k,e⟩ | ⟨k,c,e,z⟩
      · refine .inl ⟨k, ?_⟩
        have:y≠n:=fun e=>hj (nodup_ix hN e1 (e ▸ hi))
        simp [this,e]
      · exact .inr ⟨k,c,e,z.sameBut hs (I.cne y c e)⟩
  · obtain ⟨w',z⟩:=I.cell y c e
    exact ⟨w',z.sameBut hs (I.cne y c e)⟩
  · obtain ⟨e,n,ne,nf,d⟩:=I.pin p hp
    exact ⟨(hs.2 p.1 ne).trans e,n,ne,nf,d⟩
end
noncomputable def unE (D:Ends) (i:Nat):Ends:=⟨fun σ H=>D.nx (σ.set i none) H,D.rt,fun σ H=>D.bk (σ.set i none) H,fun σ H=>D.ct (σ.set i none) H⟩
noncomputable def eTry (K:PySem.W.Frag) (C:Addr) (i:Nat) (th:TS) (D:Ends):St→XK:=fun σ1 cls ea H1=>PySem.W.exmOne K cls (.ref C)=some true∧∃ a,ea=some a∧(H1 a=none→∀ oe:Obj,oe.cls=cls→oe.dict=none→PySem.W.notCls oe=true→th (unE D i) (σ1.set i (some (.ref a))) (upd H1 a (.frz oe (.own a))))
noncomputable def tTry (K:PySem.W.Frag) (C:Addr) (i:Nat) (tb:(St→XK)→TS) (th:TS):TS:=fun D σ H=>tb (eTry K C i th D) D σ H
noncomputable abbrev Cx.inTry (X:Cx) (xe:Value→Shared→Prop) (pn:List (Addr × Obj)):Cx:={ X with xe:=xe,pn:=pn }
noncomputable abbrev Cx.inExc (X:Cx) (A:Around):Cx:={ X with A:=A,calm:=false,xe:=fun _ _=>False }
section
variable {X:Cx} {pins:List (Addr × Obj)} {σ:St} {H:Hp} {s:Shared}
theorem Inv.tryIn {xe:Value→Shared→Prop} (I:Inv X pins σ H s):Inv (X.inTry xe (X.pn ++ pins)) [] σ H s :=
  ⟨⟨I.ok.mod,I.ok.kind,I.ok.glob,I.ok.blt,I.ok.above,I.ok.inj,I.ok.has,I.ok.cab,I.ok.hd,I.ok.frames,I.ok.stk,I.ok.exf,I.ok.bs,I.ok.bsz,I.ok.noex,I.ok.exfs,I.ok.funs,I.ok.frf⟩,I.os,I.bare,I.base,I.loc,I.cell,I.free,I.freeC,fun p hp=>I.pin p (by simpa using hp),I.hok,I.len⟩
theorem Inv.tryOut {xe:Value→Shared→Prop} {pins':List (Addr × Obj)} (I:Inv (X.inTry xe (X.pn ++ pins)) pins' σ H s):Inv X pins σ H s :=
  ⟨⟨I.ok.mod,I.ok.kind,I.ok.glob,I.ok.blt,I.ok.above,I.ok.inj,I.ok.has,I.ok.cab,I.ok.hd,I.ok.frames,I.ok.stk,I.ok.exf,I.ok.bs,I.ok.bsz,I.ok.noex,I.ok.exfs,I.ok.funs,I.ok.frf⟩,I.os,I.bare,I.base,I.loc,I.cell,I.free,I.freeC,fun p hp=>I.pin p (List.mem_append_left _ hp),I.hok,I.len⟩
theorem Inv.excIn {e:Value} (I:Inv X pins σ H s):Inv (X.inExc (X.A.mark (some e))) pins σ H s :=
  ⟨⟨I.ok.mod,I.ok.kind,I.ok.glob,I.ok.blt,I.ok.above,I.ok.inj,I.ok.has,I.ok.cab,fun z=>(by cases z),I.ok.frames,I.ok.stk,I.ok.exf,I.ok.bs,I.ok.bsz,I.ok.noex,I.ok.exfs,I.ok.funs,I.ok.frf⟩,I.os,I.bare,I.base,I.loc,I.cell,I.free,I.freeC,I.pin,I.hok,I.len⟩
theorem Inv.excOut {e:Value} (h:X.Ok) (I:Inv (X.inExc (X.A.mark (some e))) pins σ H s):Inv X pins σ H s:=⟨h,I.os,I.bare,I.base,I.loc,I.cell,I.free,I.freeC,I.pin,I.hok,I.len⟩
end
section
variable {X:Cx} {C:Addr} {i:Nat} {tb:(St→XK)→TS} {th:TS} {c n:Str} {np hpos pos:Pos} {body suite:List Stmt} {b₀:Stmt}
theorem ps_try (hb:∀ (xe:Value→Shared→Prop) (pn:List (Addr × Obj)) (E:St→XK),PassS (X.inTry xe pn) E→PSs (X.inTry xe pn) body (tb E)) (hh:∀ A,PSs (X.inExc A) (b₀ :: suite) th)
    (hN:X.N.Nodup) (hi:X.N[i]?=some n) (hl:X.env.scope.names.lookup n=some .local) (hg:Gl X c) (hm:X.mg c=some (.ref C)) (hst:X.stack=X.env :: X.outer) (hf:X.env.frame=some X.env.locals) (hex:X.ex=[]) (hdb:(c == ("__debug__":Str))=false:=by decide) :
    PS X (.Try body [.ExceptHandler (some (.Name c np)) (some n) (b₀ :: suite) hpos] [] [] pos) (tTry X.K C i tb th):=by
  intro pins s σ H D I h
  refine wpAny_Try_except ?_
  refine wpAny_mono (hb (fun e s'=>∃ σ1 H1 s1,Inv X pins σ1 H1 s1∧CX1 X.prog X.w X.stack H1 s1 (eTry X.K C i th D σ1) e s') (X.pn ++ pins) (eTry X.K C i th D) (fun pins' σ1 H1 s1 e s' I' hq=>⟨σ1,H1,s1,I'.tryOut,hq⟩) [] s σ H D I.tryIn h) (fun f s1 q=>?_) (fun e s1 q=>?_)
  · cases f with
    | next=>obtain ⟨σ',H',I',q⟩:=q; exact wpAny_execs_nil ⟨σ',H',I'.tryOut,q⟩
    | brk=>obtain ⟨σ',H',I',q⟩:=q; exact ⟨σ',H',I'.tryOut,q⟩
    | cont=>obtain ⟨σ',H',I',q⟩:=q; exact ⟨σ',H',I'.tryOut,q⟩
    | ret u=>obtain ⟨v,σ',H',I',r,q⟩:=q; exact ⟨v,σ',H',I'.tryOut,r,q⟩
  · obtain ⟨σ1,H1,s0,I1,ea,cls,H',rfl,F,hx,a,ha,hth⟩:=q
    cases ha
    obtain ⟨Bh,t,fl,c1,c2⟩:=F.fly
    have hfr:X.A.frames=some (X.env :: X.outer):=by rw [← hst]; exact I.ok.frames
    have fl0:=fl
    rw [hst] at fl
    have new0:s0.heap.get? ea=none:=by
      cases q:s0.heap.get? ea with
      | none=>rfl
      | some o =>
        exfalso
        by_cases hb:ea∈frs X.stack
        · obtain ⟨_,o',ho',hnf⟩:=Heap.FunFrames.mem fl0.2.2.1 hb
          obtain ⟨oe,vs,hoe,_,hd,_⟩:=fl0.first
          rw [hoe] at ho'; cases ho'
          exact hnf vs hd
        · obtain ⟨o',e⟩:=c2 ea o q hb
          rw [fl0.2.1] at e; cases e
    have neL:ea≠X.env.locals:=fun z=>by
      obtain ⟨m,⟨o,_,_,ho,_⟩,_⟩:=I1.loc
      rw [← z,new0] at ho; cases ho
    have neC:∀ x c,X.env.cells.lookup x=some c→c≠ea:=fun x c e z=>by
      obtain ⟨v,o,ho,_⟩:=I1.cell x c e
      rw [z,new0] at ho; cases ho
    have neP:∀ p∈X.pn ++ pins,p.1≠ea:=fun p hp z=>by
      have:=(I1.pin p hp).1
      rw [z,new0] at this; cases this
    have new1:X.s₀.heap.get? ea=none:=by
      cases q:X.s₀.heap.get? ea with
      | none=>rfl
      | some o=>obtain ⟨o',e⟩:=I1.base.there ea o q (by rw [hex]; simp); rw [new0] at e; cases e
    have land:∀ {h'':Heap},Bh.StaysIn h''→s1.heap.UpToSlots h''→Inv X pins σ1 H' { s1 with heap:=h'' }:=fun {h''} st up=>by
      obtain ⟨u,hok⟩:=fly_in F fl0 c1 c2 st up
      exact I1.call' (s':={ s1 with heap:=h'' }) (ch:=[]) F.os u hok F.bare (fun b z=>absurd z (by simp))
    refine wpAny_mono (kd_any (kd_note _ _) (wpAny_looks_onW (Q:=fun _ s''=>∃ h4,s''={ s1 with heap:=h4 }∧Heap.HeldW Bh (X.env :: X.outer) ea cls (.ref t) X.env.locals h4∧s1.heap.UpToSlots h4) hfr hf fl fun h4 held4 up4=>⟨h4,rfl,held4,up4⟩)) (fun _ s'' q=>?_) fun _ _ q=>q.1
    obtain ⟨⟨h4,rfl,held4,up4⟩,dk4⟩:=q
    refine wpAny_mono (kd_any (kd_setFlight _ _) (wpAny_landsW (Q:=fun _ s''=>∃ h5,s''={ s1 with heap:=h5 }∧Heap.FlyingW Bh (X.env :: X.outer) ea cls (.ref t) h5∧h4.UpToSlots h5) held4 fun h5 fl5 up5=>⟨h5,rfl,fl5,up5⟩)) (fun _ s'' q=>?_) fun _ _ q=>q.1
    obtain ⟨⟨h5,rfl,fl5,up5⟩,dk5⟩:=q
    have up5':s1.heap.UpToSlots h5:=up4.trans up5
    have I5:=land fl5.1 up5'
    refine wpAny_handleBy_cons (codeAny_handlers_test ?_) (by intro q; cases q)
    refine ld_glob (X:=X.inExc (X.A.mark (some (.ref ea)))) I5.excIn hg hm ?_ hdb
    obtain ⟨oe5,hoe5,hc5⟩:=fl5.there
    have LT:PySem.W.Looks (model X.prog X.w) h5 (typeOf (.ref ea)) cls:=by
      subst hc5
      exact (PySem.W.Looks.ld hoe5).andThen .now
    refine PySem.W.Looks.here (s:={ s1 with heap:=h5 }) (PySem.W.exm_one I5.kIn LT hx) ?_
    refine codeAny_handlers_suite_as ?_
    refine wpAny_mono (kd_any (kd_setFlight _ _) (lands_againW (Q:=fun _ s''=>∃ h6,s''={ s1 with heap:=h6 }∧Heap.FlyingW Bh (X.env :: X.outer) ea cls (.ref t) h6∧h5.UpToSlots h6) fl5 fun h6 fl6 up6=>⟨h6,rfl,fl6,up6⟩)) (fun _ s'' q=>?_) fun _ _ q=>q.1
    obtain ⟨⟨h6,rfl,fl6,up6⟩,dk6⟩:=q
    have I6:=land fl6.1 (up5'.trans up6)
    obtain ⟨oe,ws,hoe,hc,hfd,_⟩:=fl6.first
    have hdn:oe.dict=none:=by
      obtain ⟨o1,e1,d1⟩:=F.dict
      obtain ⟨o2,e2,d2⟩:=dk4 ea o1 e1
      obtain ⟨o3,e3,d3⟩:=dk5 ea o2 e2
      obtain ⟨o4,e4,d4⟩:=dk6 ea o3 e3
      have e4':h6.get? ea=some o4:=e4
      rw [hoe] at e4'; cases e4'
      rw [d4,d3,d2,d1]
    have hnc:PySem.W.notCls oe=true:=by unfold PySem.W.notCls; rw [hfd]
    have I7:=I6.track (ea:=ea) (oe:=oe) hoe F.new neL neC neP new1
    refine store_ok (X:=X) I7 hN hi (.inl hl) (v:=.ref ea) rfl (fun s8 I8=>?_) (.inr hl)
    refine wpAny_mono (hh (X.A.mark (some (.ref ea))) pins s8 _ _ (unE D i) I8.excIn (hth F.new oe hc hdn hnc)) (fun f s9 q=>?_) (fun _ _ z=>False.elim z)
    have hcls:(X.env.scope.kind == .class || (X.env.scope.kind == .module && X.env.locals != X.env.globals))=false:=by rw [I.ok.kind]; rfl
    have go:∀ {σ9:St} {H9:Hp},Inv (X.inExc (X.A.mark (some (.ref ea)))) pins σ9 H9 s9→∀ {Q:Unit→Shared→Prop},(∀ s',Inv X pins (σ9.set i none) H9 s'→Q () s') →
        wpAny (model X.prog X.w) X.A (do bindName X.env n .none; unbindBehindTheSuite X.env n hpos) Q X.xe s9:=fun {σ9 H9} J {Q} hQ=>by
      have J':=Inv.excOut I.ok J
      obtain ⟨m,hn,hlook⟩:=id J'.loc
      obtain ⟨o,_,_,ho,_⟩:=id hn
      exact wpAny_nameGoes_keeps hl hn hcls fun h' v hn' hs'=>hQ _ (J'.gone hN hi hlook hn' hs' ⟨o,ho⟩)
    cases f with
    | next=>obtain ⟨σ',H',I',q⟩:=q; exact go I' fun s' J=>⟨_,_,J,q⟩
    | brk=>obtain ⟨σ',H',I',q⟩:=q; exact go I' fun s' J=>⟨_,_,J,q⟩
    | cont=>obtain ⟨σ',H',I',q⟩:=q; exact go I' fun s' J=>⟨_,_,J,q⟩
    | ret u=>obtain ⟨v,σ',H',I',r,q⟩:=q; exact go I' fun s' J=>⟨v,_,_,J,r,q⟩
end
end L2
namespace PySem.W
open PySem PySem.Spec PySem.Calls PyProof.Rows
section
variable {prog:Program} {w:World} {A:Around} {E:Value→Shared→Prop} {s:Shared} {K:Frag} {x D:Addr} {ox:Obj}
theorem canon_bexc:Manifest.canonical "BaseException.__getattribute__" = "object.__getattribute__":=by decide +kernel
theorem method_exc {name:Str} {f:Addr} {pl:Sem Bool} {Q:Value × List Value→Shared→Prop} (X:K.In s.heap) (I:InstAt s.heap x ox D none) (hga:findIn K (.ref D) "__getattribute__"=some (some (.builtin "BaseException.__getattribute__"))) (hk:findIn K (.ref D) "__getattr__"=some none)
    (hf:findIn K (.ref D) name=some (some (.ref f))) (ht:typeIn K (.ref f)=some (.type "function")) (h:Q (.ref f,[.ref x]) s):wpAny (model prog w) A (getMethod (.ref x) name pl) Q E s:=by
  have hcan:=canon_bexc
  unfold getMethod specialOf
  refine wpAny_bind (wpAny_bind (I.type.here ((looks_findIn X hga).here ?_)))
  dsimp only
  rw [hcan,if_neg (by decide)]
  refine wpAny_bind (wpAny_bind (I.type.here ((looks_findIn X hk).here ?_)))
  refine wpAny_bind (wpAny_bind (I.type.here ((looks_findIn X hf).here (wpAny_bind ((looks_typeIn X ht).here ?_)))))
  rw [if_neg (by decide +kernel)]
  refine wpAny_bind (wpAny_loadPart I.at_ ?_)
  have hd:=I.dict
  cases e:ox.dict with
  | none=>exact wpAny_bind (wpAny_rule (wpAny_pure h))
  | some dx=>rw [e] at hd; exact hd.elim
theorem check_bexc {M:Model} {nameV:Value} {Q:Unit→Shared→Prop} (X:K.In s.heap) (I:InstAt s.heap x ox D none) (hb:mroIn K D (.type "BaseException")=some true) (hq:Q () s):wpAny M A (checkBuiltinCall "BaseException.__getattribute__" ⟨[.ref x,nameV],[]⟩) Q E s:=by
  have hk:builtinKind "BaseException.__getattribute__"=some .slot:=by decide +kernel
  have hsplit:splitId "BaseException.__getattribute__"=some ("BaseException", "__getattribute__"):=by decide +kernel
  have ha:=F.args_bexc_ga (.ref x) nameV
  have L:Looks M s.heap (isInstance (.ref x) (.type "BaseException")) true:=(I.type (M:=M)).andThen (looks_mroIn X hb)
  simp only [checkBuiltinCall,hk,hsplit]
  refine wpAny_bind ?_
  refine L.here ?_
  obtain ⟨h,g,d,t,os⟩:=s
  repeat (first | wp_step)
  all_goals exact hq
theorem exc_class {Q:Option Value→Shared→Prop} (X:K.In s.heap) (I:InstAt s.heap x ox D none) (hga:findIn K (.ref D) "__getattribute__"=some (some (.builtin "BaseException.__getattribute__"))) (hk:findIn K (.ref D) "__getattr__"=some none)
    (hb:mroIn K D (.type "BaseException")=some true) (hf:findObj K D none "__class__"=some (.bind (.builtin "getset_descriptor.__get__") (.builtin "object.__class__"))) (hm:mroIn K D (.type "object")=some true)
    (h:Q (some (.ref D)) { s with toks:=s.toks + 1 }):wpAny (model prog w) A (getAttr? (.ref x) "__class__") Q E s:=by
  obtain ⟨hh,g,d,t,os⟩:=s
  have L0:=I.type (M:=model prog w)
  have L1:=looks_findIn (M:=model prog w) X hga
  have L2:=looks_findIn (M:=model prog w) X hk
  have L3:=looks_find (M:=model prog w) X I hf
  unfold getAttr? getAttrBy? getAttrBy
  refine wpAny_bind (wpAny_mkText (wpAny_bind (wpAny_attempt (wpAny_holding (wpAny_bind (L0.at (wpAny_bind (L1.at ?_))))))))
  dsimp only
  have hne:(onTheHeap (Value.ref D) && Value.builtin "BaseException.__getattribute__" == Value.builtin "object.__getattribute__")=false:=by
    have hx2:(Value.builtin "BaseException.__getattribute__" == Value.builtin "object.__getattribute__")=false:=by decide +kernel
    rw [hx2]; rfl
  rw [if_neg (by rw [hne]; decide)]
  unfold getAttrByItsOwn hookBefore
  rw [show onTheHeap (Value.ref D)=true from rfl,if_pos rfl]
  refine wpAny_bind (L2.at ?_)
  refine wpAny_bind (wpAny_attempt (wpAny_holding ?_))
  unfold callGetattribute
  rw [if_neg (by decide)]
  unfold boundAndCalled
  refine wpAny_bind (wpAny_of_eq (PySem.F.attrBase_ValueError.ga.bind (.ref x)) ?_)
  refine wpAny_call (codeAny_call_builtin PySem.F.attrBase_ValueError.ga.plain F.entry_bexc_ga (check_bexc X I hb ?_))
  unfold Builtin.«object.__getattribute__»
  refine wpAny_bind (wpAny_pure ?_)
  refine wpAny_bind (wpAny_pure ?_)
  refine wpAny_bind (L0.at (wpAny_bind (L3.at ?_)))
  show wpAny _ _ (holding [Value.builtin "object.__class__"] (call (.builtin "getset_descriptor.__get__") [.builtin "object.__class__",.ref x,.ref D]) >>= fun v=>ret v) _ _ _
  refine wpAny_bind (wpAny_holding (wpAny_call (class_get (s:=⟨hh,g,d,t + 1,os⟩) (ox:=ox) (od:=none) X I hm ?_)))
  exact wpAny_pure (handed_on rfl (wpAny_pure h))
noncomputable def exOk (K:Frag) (D:Addr):Bool:=(findIn K (.ref D) "__getattribute__" == some (some (.builtin "BaseException.__getattribute__"))) && (findIn K (.ref D) "__getattr__" == some none) && (mroIn K D (.type "BaseException") == some true) && (mroIn K D (.type "object") == some true) &&
  (findIn K (.ref D) "__class__" == some (some (.builtin "object.__class__"))) && (specialIn K (.builtin "object.__class__") "__get__" == some (some (.builtin "getset_descriptor.__get__"))) && (takesIn K (.builtin "object.__class__") == some true) && (clsIn K D).isSome
theorem findObj_none {C:Addr} {name:Str} {a g:Value} (hc:(clsIn K C).isSome=true) (ha:findIn K (.ref C) name=some (some a)) (hg:specialIn K a "__get__"=some (some g)) (ht:takesIn K a=some true):findObj K C none name=some (.bind g a):=by
  obtain ⟨cd,hc⟩:=Option.isSome_iff_exists.mp hc
  unfold findObj
  rw [hc,Option.bind_some,ha,Option.bind_some]
  simp only [hg,ht,Option.bind_some]
theorem kitx_exc (h:exOk K D=true):KitX K (.ref x) (.ref D) (fun h=>∃ ox,InstAt h x ox D none):=by
  simp only [exOk,Bool.and_eq_true,beq_iff_eq] at h
  obtain ⟨⟨⟨⟨⟨⟨⟨h1,h2⟩,h3⟩,h4⟩,h5⟩,h6⟩,h7⟩,h8⟩:=h
  have hob:∃ c' d' cd' sl',K.lookup D=some ⟨c',d',.cls cd',sl'⟩:=by
    obtain ⟨cd,e⟩:=Option.isSome_iff_exists.mp h8
    unfold clsIn at e
    split at e
    · rename_i c' d' cd' sl' ho; exact ⟨_,_,_,_,ho⟩
    · cases e
  obtain ⟨c',d',cd',sl',ho⟩:=hob
  refine ⟨fun M h _ ⟨ox,I⟩=>I.type,fun M h X _=>?_,fun h tp dd its n sl X htp=>?_,fun X ⟨ox,I⟩ k=>exc_class X I h1 h2 h3 (findObj_none h8 h5 h6 h7) h4 k⟩
  · intro A' Q' E' s' k q
    unfold isType loadHead
    exact wpAny_bind (wpAny_loadPart (k _ _ (X _ _ ho)) (wpAny_pure q))
  · refine Bool.eq_false_iff.mpr fun q=>?_
    have e:D=tp:=Value.ref.inj (beq_iff_eq.mp q)
    subst e
    have z:=(X _ _ ho).symm.trans htp
    cases z
end
end PySem.W
namespace L2
open PySem PySem.Spec PyProof.Rows
noncomputable def OkX (P:Program) (w:World) (K:PySem.W.Frag) (mg:Str→Option Value) (base:Heap) (k:Nat) (x:Str) (ps:List Str) (sp:Sp):Prop :=
  ∃ f fd,FnOk P w K mg base (CX1 P w) k f fd ps sp∧mg x=some (.ref f)∧PySem.W.keepIn K (.ref f)=true∧Binds K fd ps []
theorem okOfX {P:Program} {w:World} {K:PySem.W.Frag} {mg:Str→Option Value} {base:Heap} {k:Nat} {x:Str} {st:Stmt} {ps:List Str} {sp:Sp} (d:Dfn K mg x st) (b:BindFact x st ps)
    (h:∀ {f fd},Fun K x x st f fd→FnOk P w K mg base (CX1 P w) k f fd ps sp):OkX P w K mg base k x ps sp:=by
  obtain ⟨f,fd,F,hm⟩:=d
  exact ⟨f,fd,h F,hm,F.kp,F.binds b⟩
section
variable {X:Cx} {k:Nat} {x:Str} {ps:List Str} {sp:Sp} {p pos:Pos} {e:Expr} {es:List Expr} {t:TA} {E:St→XK}
noncomputable def tCallS (sp:Sp) (E:St→XK) (t:TA):TE:=fun σ H Q=>t σ H fun vs H1=>sp vs H1 Q (E σ)
theorem pe_callX (G:OkX X.prog X.w X.K X.mg X.base k x ps sp) (hr:Room k X.A) (hg:Gl X x) (hx:PassS X E) (ha:PA X (e :: es) t) (hdb:(x == ("__debug__":Str))=false:=by decide)
    (he:starEach (e :: es) X.env=(false,eval e X.env) :: starEach es X.env:=by rfl) (hpl:(backTo pos (starEach es X.env)).any (·.1)=false:=by rfl):PE X (.Call (.Name x p) (e :: es) [] pos) (tCallS sp E t):=by
  obtain ⟨f,fd,F,hm,hk,hb⟩:=G
  intro pins s σ H Q I h
  refine wpAny_Call_Name_kw (ld_glob I hg hm ?_ hdb)
  refine PySem.W.callWith_K (h₀:=X.base) I.ok.mod.kin hk (thn (ha pos pins s σ H _ I h) fun us s1 ⟨vs,H1,I1,r,q⟩=>⟨I1.kIn, ?_⟩) he hpl
  have hl:(us ++ []).length=ps.length:=by rw [List.append_nil,← r.length]; exact F.len _ _ _ _ q
  have hb':=hb s1 us I1.kIn hl
  rw [List.append_nil] at hb'
  refine wpAny_call (codeAny_mono (F.run X.A X.stack s1 H1 ⟨us,[]⟩ us vs Q (E σ) hr I1.env0 hb' r q) fun r s' hq=>?_)
  cases r with
  | error e=>exact hx pins σ H1 s1 e s' I1 hq
  | ok fl =>
    cases fl with
    | ret u=>exact I1.after hq
    | next=>exact False.elim hq
    | brk=>exact False.elim hq
    | cont=>exact False.elim hq
end
noncomputable def W1 (K:PySem.W.Frag):PX→XK→Hp→Prop:=fun e E H'=>∀ C ea,XCls K e.1 C→H' ea=none→E (.ref C) (some ea) H'
section
variable {P:Program} {w:World} {K:PySem.W.Frag} {mg:Str→Option Value} {base:Heap}
theorem Fun.okX {x qual:Str} {st:Stmt} {f:Addr} {fd:FuncData} {N ps:List Str} {k n l:Nat} {kd:Kd} {m:List PV→Rr PV} (F:Fun K x qual st f fd) (S:FnScope N ps (defScope st)) (hn:ps.length=n) (hl:N.length - n=l)
    (hbody:∀ (cdv:Value) (A:Around) (outer:List Env) (s:Shared) (H:Hp) (E:XK),Room k (A.deeper (envOfC qual (defScope st) s.heap.objs.size f cdv)) →
      ∃ t g Y,Y.r=kd∧PSs (cxOf (CX1 P w) P w K mg base N qual (defScope st) f cdv A outer s H E) (defBody st) t∧DS K (fun e H'=>W1 K e E H') (List.replicate n .S ++ List.replicate l .U) Y t g∧∀ xs,Ref (m xs) (g (xs ++ List.replicate l .non)).out) (hkN:kd≠.N:=by nofun) :
    FnOk P w K mg base (CX1 P w) (k + 1) f fd ps (spF K n kd (W1 K) m):=by
  obtain ⟨oc,od,kV,doc,pm,an,cdv,ct,osl,rfl,lk,hcd⟩:=F.ex
  refine fn_of lk hcd S (fun vs H Q E h=>?_) fun A outer s H vs Q E hr h=>?_
  · obtain ⟨B,xs,h1,h2,_⟩:=h
    rw [h1.length,h2,hn]
  · obtain ⟨B,xs,h1,h2,dn⟩:=h
    obtain ⟨t,g,Y,hY,ht,hd,href⟩:=hbody cdv A outer s H E hr
    refine ⟨t,ht, ?_⟩
    have A0:=Ag.init (n:=l) h1
    have est:start N vs=vs.map some ++ List.replicate l none:=by
      unfold start
      rw [h1.length,h2,hl]
    rw [est]
    rw [h2] at A0
    refine hd _ H H _ _ _ _ A0 ?_
    have hdn:Dn (g (xs ++ List.replicate l .non)).out (fun x=>∀ v H',Same H H'→RetK K B H kd x v H'→Q v H') (fun e=>∀ H',Same H H'→W1 K e E H'):=by
      rcases href xs with e | e
      · rw [e] at dn; exact dn.elim
      · rw [← e]; exact dn
    have retK:∀ {x v H'},RetK K (fun a=>B a ∨ H a=none) H kd x v H'→RetK K B H kd x v H':=fun {x v H'} h=>by
      cases kd with
      | P=>exact h
      | F=>exact h
      | T=>exact Rep.mono (fun a us s r=>⟨r,s.elim id .inr⟩) (fun a us r=>r) h
      | Z=>exact Rep.mono (fun a us s r=>⟨r,s.elim id .inr⟩) (fun a us r=>r) h
      | A=>exact Rep.mono (fun a us s r=>⟨r,s.elim id .inr⟩) (fun a us r=>r) h
      | N=>exact h
    cases e:g (xs ++ List.replicate l .non) with
    | next ρ =>
      rw [e] at hdn
      refine fun σ' H' F' fr A'=>hdn .non H' A'.same ?_
      cases kd with
      | P=>exact ⟨rfl,rfl⟩
      | F=>exact ⟨[],⟨rfl,rfl⟩,by simp⟩
      | T=>exact rfl
      | Z=>exact rfl
      | A=>exact rfl
      | N=>exact absurd rfl hkN
    | ret x=>rw [e] at hdn; exact fun v H' s r=>hdn v H' s (retK (hY ▸ r))
    | exc q=>rw [e] at hdn; exact fun H' s=>hdn H' s
    | brk ρ=>rw [e] at hdn; exact hdn.elim
    | cont ρ=>rw [e] at hdn; exact hdn.elim
    | bad=>rw [e] at hdn; exact hdn.elim
end
section
variable {K:PySem.W.Frag} {n:Nat} {m:List PV→Rr PV} {ta:TA} {Γ Γ':List Md} {fa:List PV→Rr (List PV)} {E:XK}
noncomputable abbrev EX1 (K:PySem.W.Frag) (E:XK):PX→Hp→Prop:=fun e H'=>W1 K e E H'
theorem dx_F (hn:Len fa n) (ha:DAA K (EX1 K E) Γ Γ' ta fa):DE K (EX1 K E) Γ Γ' .F (tCallS (spF K n .F (W1 K) m) (fun _=>E) ta) (fun ρ=>(fa ρ).bind m):=de_callF (E:=E) (W:=W1 K) (fun σ H Q h=>h) (fun e H' h=>h) hn ha
theorem dx_P (hn:Len fa n) (ha:DAA K (EX1 K E) Γ Γ' ta fa):DE K (EX1 K E) Γ Γ' .P (tCallS (spF K n .P (W1 K) m) (fun _=>E) ta) (fun ρ=>(fa ρ).bind m):=de_callP (E:=E) (W:=W1 K) (fun σ H Q h=>h) (fun e H' h=>h) hn ha
theorem dy_P {EX:PX→Hp→Prop} (hn:Len fa n) (hm:∀ xs q,m xs≠.exc q) (ha:DAA K EX Γ Γ' ta fa):DE K EX Γ Γ' .P (tCallO (spF K n .P W0 m) ta) (fun ρ=>(fa ρ).bind m):=fun B H0 H σ ρ F R Q A d=>by
  refine ha B H0 H σ ρ F R _ A (d.bind.imp (fun xs hx d vs H1 F1 s1 f1 p1 A1=>?_) fun e q=>q)
  refine ⟨fun _=>True,xs,p1,hn ρ xs hx, ?_⟩
  cases e:m xs with
  | ok x=>rw [e] at d; exact fun v H2 s2 r=>d v H2 (s1.trans s2) ⟨F1,f1,r.1,r.2,A1.grow s2⟩
  | exc q=>exact (hm xs q e).elim
  | bad=>rw [e] at d; exact d.elim
noncomputable def Pm.calm (m:Pm):Prop:=∀ a q,m.out a≠.exc q
theorem Pm.calm_fn {m:Pm} (h:m.calm) (xs:List PV) (q:PX):m.fn xs≠.exc q:=by
  unfold Pm.fn
  by_cases hx:∃ a,m.enc a=xs∧m.pre a
  · rw [dif_pos hx]; exact h _ q
  · rw [dif_neg hx]; exact fun z=>by cases z
theorem ds_raise {C:Addr} {x:Str} {Y:Tys} (hC:XCls K x C) (hn:Len fa n) (hl:n≤1000) (ha:DAA K (EX1 K E) Γ Γ' ta fa):DS K (EX1 K E) Γ Y (tRaise C (fun _=>E) ta) (fun ρ=>(fa ρ).thenS fun _=>.exc (x,.non)):=fun B H0 H σ ρ F D A d=>by
  refine ha B H0 H σ ρ F [] _ A (d.thenS.imp (fun xs hx d vs H1 F1 s1 f1 p1 A1=>?_) fun e q=>q)
  exact ⟨by rw [p1.length,hn ρ xs hx]; exact hl,fun ea hea=>d H1 A1.same C ea hC hea⟩
end
end L2
namespace L2
open PySem PySem.Spec PyProof.Rows
theorem PS.nox {X:Cx} {st:Stmt} {t:TS} (h:PS X.nox st t):PS X st t:=fun pins s σ H D I hw =>
  wpAny_mono (h pins s σ H D (I.wish _) hw) (fun _ _ q=>q.unwish) fun _ _ z=>False.elim z
noncomputable def cvOf:V→Value
  | .ref a=>.ref a
  | .ty n=>.type n
  | _=>.none
noncomputable def isCls:V→Bool
  | .ref _=>true
  | .ty _=>true
  | _=>false
theorem cv_rel {c:V} {u:Value} (h:isCls c=true) (r:RelV c u):u=cvOf c:=by
  cases c <;> first | exact r | cases h
structure IsT (K:PySem.W.Frag) (c:V) (L:List (Str × Bool)):Prop where
  cls:isCls c=true
  non:PySem.W.kitOne K (.type "NoneType") (cvOf c)=some false
  own:∀ n b,L.lookup n=some b→∀ D,XCls K n D→PySem.W.exOk K D=true∧PySem.W.kitOne K (.ref D) (cvOf c)=some b
noncomputable def rIsX (K:PySem.W.Frag) (c:V) (L:List (Str × Bool)):List V→Hp→VK→Prop:=fun xs H Q=>∃ x,xs=[x,c]∧((x=.non∧Q (.bl false) H) ∨ ∃ n b,ExcAt K H n x∧L.lookup n=some b∧Q (.bl b) H)
theorem call_isX {X:Cx} {K:PySem.W.Frag} {c:V} {L:List (Str × Bool)} (T:IsT K c L) (e:X.K=K:=by rfl):CallR X (.builtin "isinstance") (rIsX K c L):=by
  subst e
  intro pins s σ H xs us Q I r h
  obtain ⟨x,rfl,h⟩:=h
  obtain ⟨u,w',rfl,rx,rn⟩:=vals2 r
  obtain rfl:=cv_rel T.cls rn
  rcases h with ⟨rfl,q⟩ | ⟨n,b,⟨a,o,C,rfl,h1,h2,h3,h4,h5⟩,hb,q⟩
  · cases rx
    exact PySem.W.kia_one PySem.W.kitx_none I.kIn True.intro T.non (fun z=>nomatch z) fun tk=>⟨.bl false,H,I.tok _,rfl,q⟩
  · cases rx
    obtain ⟨t1,t2⟩:=T.own n b hb C h5
    have ho:s.heap.get? a=some o:=(I.hok a _ h1.1).1
    have hI:PySem.W.InstAt s.heap a o C none:=⟨ho,h2,h4,by rw [h3]; trivial⟩
    exact PySem.W.kia_one (PySem.W.kitx_exc t1) I.kIn ⟨o,hI⟩ t2 (fun z=>nomatch z) fun tk=>⟨.bl b,H,I.tok _,rfl,q⟩
noncomputable def pIsX (L:List (Str × Bool)) (x:PV):Rr PV:=match x with
  | .non=>.ok (.bl false)
  | .exc n=>(match L.lookup n with | some b=>.ok (.bl b) | none=>.bad)
  | _=>.bad
section
variable {K:PySem.W.Frag} {EX:PX→Hp→Prop} {Γ Γ':List Md} {te:TE} {f:List PV→Rr PV}
theorem de_isX {c:V} {L:List (Str × Bool)} (he:DE K EX Γ Γ' .A te f):DE K EX Γ Γ' .P (tCB (rIsX K c L) (tCons te (tCons (tC c) tNil))) (fun ρ=>(f ρ).bind (pIsX L)):=fun B H0 H σ ρ F R Q A d=>by
  refine he B H0 H σ ρ F R _ A (d.bind.imp (fun x _ d v H1 s1 r1=>?_) fun e q=>q)
  obtain ⟨F1,f1,p1,A1⟩:=r1
  cases x with
  | non=>exact ⟨v,rfl,.inl ⟨p1,d _ H1 s1 ⟨F1,f1,rfl,rfl,A1⟩⟩⟩
  | exc n =>
    simp only [pIsX] at d
    cases hb:L.lookup n with
    | some b=>rw [hb] at d; exact ⟨v,rfl,.inr ⟨n,b,p1,hb,d _ H1 s1 ⟨F1,f1,rfl,rfl,A1⟩⟩⟩
    | none=>rw [hb] at d; exact d.elim
  | _=>exact d.elim
end
noncomputable def MOk (P:Program) (w:World) (K:PySem.W.Frag) (mg:Str→Option Value) (base:Heap) (k:Nat) (m n:Str):Prop :=
  ∃ C f fd,XCls K n C∧PySem.W.exOk K C=true∧PySem.W.findIn K (.ref C) m=some (some (.ref f))∧PySem.W.typeIn K (.ref f)=some (.type "function")∧PySem.W.keepIn K (.ref f)=true∧Binds K fd ["self"] [] ∧
    FnOk P w K mg base CX0 k f fd ["self"] (spF K 1 .P W0 fun _=>.ok (.str n))
noncomputable def tCalled (K:PySem.W.Frag) (L:List Str) (ta:TE):TE:=fun σ H Q=>ta σ H fun v H1=>∃ n,n∈L∧ExcAt K H1 n v∧∀ H2,Same H1 H2→Q (.str n) H2
theorem pe_called {X:Cx} {k:Nat} {m:Str} {L:List Str} {o:Expr} {ta:TE} {apos pos:Pos} {pl:Sem Bool} (hM:∀ n∈L,MOk X.prog X.w X.K X.mg X.base k m n) (hr:Room k X.A) (he:PE X o ta)
    (ht:eval (.Call (.Attribute o m apos) [] [] pos) X.env=(do
      let ov ← eval o X.env
      standAt apos.atName
      let (f,first) ← holding [ov] (getMethod ov m pl)
      callWith pos f first (backTo pos (starEach [] X.env)) (backToKw pos (keywordEach [] X.env))):=by rfl) :
    PE X (.Call (.Attribute o m apos) [] [] pos) (tCalled X.K L ta):=by
  intro pins s σ H Q I h
  refine PySem.W.methodCall_KW (pl:=pl) (thn (he pins s σ H _ I h) fun u s1 ⟨x,H1,I1,rx,n,hn,⟨a,oe,C,ex,h1,h2,h3,h4,h5⟩,q⟩=>?_) ht
  subst ex
  obtain rfl:u=Value.ref a:=rx
  obtain ⟨C',f,fd,c1,c2,c3,c4,c5,c6,c7⟩:=hM n hn
  have hCC:C'=C:=by have z:=c1.symm.trans h5; simpa using z
  subst hCC
  have ho:s1.heap.get? a=some oe:=(I1.hok a _ h1.1).1
  have hI:PySem.W.InstAt s1.heap a oe C' none:=⟨ho,h2,h4,by rw [h3]; trivial⟩
  simp only [PySem.W.exOk,Bool.and_eq_true,beq_iff_eq] at c2
  obtain ⟨⟨⟨⟨⟨⟨⟨d1,d2⟩,d3⟩,d4⟩,d5⟩,d6⟩,d7⟩,d8⟩:=c2
  refine PySem.W.method_exc I1.kIn hI d1 d2 c3 c4 ?_
  refine PySem.W.callWith_K0 (first:=[.ref a]) I1.kIn c5 (run_fn (us:=[.ref a]) (vs:=[.ref a]) (dvs:=[]) (E:=E0) c7 hr c6 .nil pass0 I1 (.cons rfl .nil) ?_)
  refine ⟨fun _=>True,[.exc n],⟨_,_,rfl,⟨a,oe,C',rfl,h1,h2,h3,h4,h5⟩,rfl⟩,rfl,fun v H' sm r=>?_⟩
  obtain rfl:v=.str n:=r.2
  exact q H' sm
noncomputable def pCalled (L:List Str) (x:PV):Rr PV:=match x with
  | .exc n=>if n∈L then .ok (.str n) else .bad
  | _=>.bad
section
variable {K:PySem.W.Frag} {EX:PX→Hp→Prop} {Γ Γ':List Md} {te:TE} {f:List PV→Rr PV}
theorem de_called {L:List Str} (he:DE K EX Γ Γ' .A te f):DE K EX Γ Γ' .P (tCalled K L te) (fun ρ=>(f ρ).bind (pCalled L)):=fun B H0 H σ ρ F R Q A d=>by
  refine he B H0 H σ ρ F R _ A (d.bind.imp (fun x _ d v H1 s1 r1=>?_) fun e q=>q)
  obtain ⟨F1,f1,p1,A1⟩:=r1
  cases x with
  | exc n =>
    simp only [pCalled] at d
    by_cases hn:n∈L
    · rw [if_pos hn] at d; exact ⟨n,hn,p1,fun H2 s2=>d _ H2 (s1.trans s2) ⟨F1,f1,rfl,rfl,A1.grow s2⟩⟩
    · rw [if_neg hn] at d; exact d.elim
  | _=>exact d.elim
end
noncomputable def noOwn (Γ:List Md):Bool:=Γ.all fun m=>m == .U || m == .P || m == .S
theorem noOwn_F {K:PySem.W.Frag} {B:Addr→Prop} {H0 H:Hp} {σ:St} {Γ:List Md} {ρ:List PV} {F:Nat→List Addr} {R:List Addr} (h:noOwn Γ=true) (A:Ag K B H0 H σ Γ ρ F R):∀ i,F i=[]:=fun i=>by
  have sl:=A.slot i
  by_cases hi:i < Γ.length
  · have hm:=List.all_eq_true.mp h Γ[i] (List.getElem_mem hi)
    have e:Γ.getD i .U=Γ[i]:=by rw [List.getD_eq_getElem?_getD,List.getElem?_eq_getElem hi]; rfl
    rw [e] at sl
    simp only [Bool.or_eq_true,beq_iff_eq] at hm
    rcases hm with (hm | hm) | hm
    · rw [hm] at sl; exact sl
    · rw [hm] at sl; exact sl.1
    · rw [hm] at sl; exact sl.1
  · have e:Γ.getD i .U=.U:=by rw [List.getD_eq_getElem?_getD,List.getElem?_eq_none (by omega)]; rfl
    rw [e] at sl
    exact sl
theorem Ag.near {K:PySem.W.Frag} {B:Addr→Prop} {H0 H:Hp} {σ:St} {Γ:List Md} {ρ:List PV} {F:Nat→List Addr} (A:Ag K B H0 H σ Γ ρ F []) (h:∀ i,F i=[]):Ag K B H H σ Γ ρ F [] :=
  ⟨Same.refl _,fun a q=>A.own a (A.same.free q),fun i a ha=>by rw [h i] at ha; simp at ha,by simp,A.live,A.liveR,A.disj,A.disjR,A.lenS,A.lenR,A.slot⟩
theorem Ag.far {K:PySem.W.Frag} {B:Addr→Prop} {H0 H1 H:Hp} {σ:St} {Γ:List Md} {ρ:List PV} {F:Nat→List Addr} (A:Ag K B H1 H σ Γ ρ F []) (s:Same H0 H1) (own:∀ a,H0 a=none→B a):Ag K B H0 H σ Γ ρ F [] :=
  ⟨s.trans A.same,own,fun i a ha=>s.free (A.young i a ha),by simp,A.live,A.liveR,A.disj,A.disjR,A.lenS,A.lenR,A.slot⟩
theorem Same.newO {H:Hp} {p:Addr} {o:HO} (hp:H p=none):Same H (L2.upd H p o):=fun b u h=>by rw [L2.upd_ne (ne_of_none h hp)]; exact h
theorem Ag.unset {K:PySem.W.Frag} {B:Addr→Prop} {H0 H:Hp} {σ:St} {Γ Γ':List Md} {ρ:List PV} {F:Nat→List Addr} (i:Nat) (A:Ag K B H0 H σ Γ ρ F []) (h:mles (Γ.set i .U) Γ'=true) :
    ∃ F',(∀ i,∀ a∈F' i,a∈F i)∧Ag K B H0 H (σ.set i none) Γ' ρ F' []:=by
  have h0:mles Γ (Γ.set i .U)=true:=by
    have:∀ (Γ:List Md) (i:Nat),mles Γ (Γ.set i .U)=true:=fun Γ=>by
      induction Γ with
      | nil=>intro i; rfl
      | cons m ms ih =>
        intro i
        have refl:∀ l:List Md,mles l l=true:=fun l=>by induction l with | nil=>rfl | cons a l ih=>simp [mles,mle,ih]
        cases i with
        | zero=>simp [mles,mle,refl]
        | succ i=>simp [mles,mle,ih i]
    exact this Γ i
  obtain ⟨F1,f1,A1⟩:=A.weak h0
  have hFi:F1 i=[]:=by
    have sl:=A1.slot i
    by_cases hi:i < Γ.length
    · have e:(Γ.set i .U).getD i .U=.U:=by rw [List.getD_eq_getElem?_getD,List.getElem?_set_self hi]; rfl
      rw [e] at sl; exact sl
    · have e:(Γ.set i .U).getD i .U=.U:=by rw [List.getD_eq_getElem?_getD,List.getElem?_eq_none (by simp; omega)]; rfl
      rw [e] at sl; exact sl
  have A2:Ag K B H0 H (σ.set i none) (Γ.set i .U) ρ F1 []:=⟨A1.same,A1.own,A1.young,A1.youngR,A1.live,A1.liveR,A1.disj,A1.disjR,by simpa using A1.lenS,A1.lenR,fun j=>by
    by_cases hj:j=i
    · subst hj
      have e:(Γ.set j .U).getD j .U=.U:=by
        by_cases hi:j < Γ.length
        · rw [List.getD_eq_getElem?_getD,List.getElem?_set_self hi]; rfl
        · rw [List.getD_eq_getElem?_getD,List.getElem?_eq_none (by simp; omega)]; rfl
      rw [e]; exact hFi
    · have sl:=A1.slot j
      rw [List.getElem?_set_ne (Ne.symm hj)]; exact sl⟩
  obtain ⟨F3,f3,A3⟩:=A2.weak h
  exact ⟨F3,fun j a ha=>f1 j a (f3 j a ha),A3⟩
noncomputable def tryR (L:List Str) (i:Nat) (gb gh:List PV→RS) (ρ:List PV):RS:=match gb ρ with
  | .exc e=>if e.1∈L then gh (ρ.set i (.exc e.1)) else .bad
  | r=>r
section
variable {K:PySem.W.Frag} {EX:PX→Hp→Prop} {Γ Γs:List Md} {Y Yh:Tys} {tb:(St→XK)→TS} {th:TS} {gb gh:List PV→RS} {C:Addr} {i:Nat} {L:List Str}
theorem ds_try (hL:∀ n∈L,∀ D,XCls K n D→PySem.W.exmOne K (.ref D) (.ref C)=some true) (hb:∀ E:XK,DS K (EX1 K E) Γs Y (tb fun _=>E) gb) (hloc:∀ (E:St→XK) D σ H,tb (fun _=>E σ) D σ H→tb E D σ H)
    (hh:DS K EX (Γs.set i .P) Yh th gh) (hs:mles Γ Γs=true) (ho:noOwn Γs=true) (hi:i < Γs.length) (hn:mles (Yh.n.set i .U) Y.n=true) (hbk:mles (Yh.b.set i .U) Y.b=true) (hct:mles (Yh.c.set i .U) Y.c=true) (hr:Yh.r=Y.r) :
    DS K EX Γ Y (tTry K C i tb th) (tryR L i gb gh):=fun B H0 H σ ρ F D A d=>by
  obtain ⟨F1,f1,A1⟩:=A.weak hs
  have hF:=noOwn_F ho A1
  have AN:=A1.near hF
  refine hloc _ D σ H (hb (eTry K C i th D σ) B H H σ ρ F1 D AN ?_)
  have frm0:∀ {H' F'},Frm H F1 H' F'→Frm H F H' F':=fun {H' F'} fr=>(Frm.of (Same.refl _) f1).trans fr
  unfold tryR at d
  cases e:gb ρ with
  | next ρ1=>rw [e] at d; exact fun σ' H' F' fr A'=>d σ' H' F' (frm0 fr) (A'.far A.same A.own)
  | brk ρ1=>rw [e] at d; exact fun σ' H' F' fr A'=>d σ' H' F' (frm0 fr) (A'.far A.same A.own)
  | cont ρ1=>rw [e] at d; exact fun σ' H' F' fr A'=>d σ' H' F' (frm0 fr) (A'.far A.same A.own)
  | ret x =>
    rw [e] at d
    refine fun v H' s r=>d v H' (A.same.trans s) ?_
    cases hk:Y.r with
    | P=>rw [hk] at r; exact r
    | F=>rw [hk] at r; obtain ⟨G,r1,r2⟩:=r; exact ⟨G,r1,fun a ha=>A.same.free (r2 a ha)⟩
    | T=>rw [hk] at r; exact Rep.mono (fun a us s r=>⟨r,s.elim .inl fun z=>.inr (A.same.free z)⟩) (fun a us r=>r) r
    | Z=>rw [hk] at r; exact Rep.mono (fun a us s r=>⟨r,s.elim .inl fun z=>.inr (A.same.free z)⟩) (fun a us r=>r) r
    | A=>rw [hk] at r; exact Rep.mono (fun a us s r=>⟨r,s.elim .inl fun z=>.inr (A.same.free z)⟩) (fun a us r=>r) r
    | N=>rw [hk] at r; obtain ⟨y,a,s,xs,G1,G2,r1,r2,r3,r4,r5,r6⟩:=r; exact ⟨y,a,s,xs,G1,G2,r1,r2,r3,r4,fun b hb=>A.same.free (r5 b hb),fun b hb=>A.same.free (r6 b hb)⟩
  | bad=>rw [e] at d; exact d
  | exc q =>
    rw [e] at d
    dsimp only at d
    by_cases hq:q.1∈L
    · rw [if_pos hq] at d
      intro H' sm C' ea hC' hea
      refine ⟨hL q.1 hq C' hC',ea,rfl,fun _ oe hc hdn hnc=>?_⟩
      have s2:Same H (upd H' ea (.frz oe (.own ea))):=sm.trans (Same.newO hea)
      have A2:Ag K B H0 (upd H' ea (.frz oe (.own ea))) σ Γs ρ F1 []:=A1.grow s2
      have A3:=Ag.put (i:=i) (m:=.P) (x:=.exc q.1) (v:=.ref ea) (G:=[]) (R:=[]) A2 hi (by simp) ⟨rfl,_,rfl,rfl,⟨ea,oe,C',rfl,⟨upd_same,trivial⟩,hc,hdn,hnc,hC'⟩⟩
      refine hh B H0 _ _ _ _ (unE D i) A3 ?_
      have fr3:Frm H F (upd H' ea (.frz oe (.own ea))) (own1 F1 i []):=frm0 (frm_put (G:=[]) s2 (fun _ _ h=>h) (by simp))
      cases e2:gh (ρ.set i (.exc q.1)) with
      | next ρ1 =>
        rw [e2] at d
        intro σ' H2 F2 fr A'
        obtain ⟨F4,f4,A4⟩:=A'.unset i hn
        exact d _ H2 F4 (fr3.trans (fr.trans (Frm.of (Same.refl _) f4))) A4
      | brk ρ1 =>
        rw [e2] at d
        intro σ' H2 F2 fr A'
        obtain ⟨F4,f4,A4⟩:=A'.unset i hbk
        exact d _ H2 F4 (fr3.trans (fr.trans (Frm.of (Same.refl _) f4))) A4
      | cont ρ1 =>
        rw [e2] at d
        intro σ' H2 F2 fr A'
        obtain ⟨F4,f4,A4⟩:=A'.unset i hct
        exact d _ H2 F4 (fr3.trans (fr.trans (Frm.of (Same.refl _) f4))) A4
      | ret x=>rw [e2] at d; exact fun v H2 s r=>d v H2 s (hr ▸ r)
      | exc q2=>rw [e2] at d; exact d
      | bad=>rw [e2] at d; exact d
    · rw [if_neg hq] at d; exact d.elim
end
end L2
namespace L2
open PySem PySem.Spec PyProof.Rows
noncomputable def xOne (K:PySem.W.Frag) (n:Str):Bool:=match PySem.W.nsIn K mainGlobals n with
  | some (some (.ref C))=>PySem.W.excIn K C bmVE "ValueError.__new__" && PySem.W.exOk K C && (PySem.W.kitOne K (.type "NoneType") (.ref C) == some false) && (PySem.W.kitOne K (.ref C) (.type "ValueError") == some true)
  | _=>false
noncomputable def xTwo (K:PySem.W.Frag) (q:Str × Str × Bool):Bool:=match PySem.W.nsIn K mainGlobals q.1,PySem.W.nsIn K mainGlobals q.2.1 with
  | some (some (.ref D)),some (some (.ref C))=>(PySem.W.kitOne K (.ref D) (.ref C) == some q.2.2) && (PySem.W.exmOne K (.ref D) (.ref C) == some q.2.2)
  | _,_=>false
noncomputable def xTab (K:PySem.W.Frag) (ns:List Str) (ss:List (Str × Str × Bool)):Bool:=(PySem.W.kitOne K (.type "NoneType") (.type "ValueError") == some false) && (ns.all (xOne K) && ss.all (xTwo K))
section
variable {K:PySem.W.Frag} {ns:List Str} {ss:List (Str × Str × Bool)} {n c:Str}
theorem xTab_one (h:xTab K ns ss=true) (hn:n∈ns):∃ C,XCls K n C∧PySem.W.excIn K C bmVE "ValueError.__new__"=true∧PySem.W.exOk K C=true∧PySem.W.kitOne K (.type "NoneType") (.ref C)=some false∧PySem.W.kitOne K (.ref C) (.type "ValueError")=some true:=by
  simp only [xTab,Bool.and_eq_true] at h
  have:=List.all_eq_true.mp h.2.1 n hn
  unfold xOne at this
  split at this
  · rename_i C e
    simp only [Bool.and_eq_true,beq_iff_eq] at this
    exact ⟨C,e,this.1.1.1,this.1.1.2,this.1.2,this.2⟩
  · cases this
theorem xTab_exc (h:xTab K ns ss=true) (hn:n∈ns):∃ C,XCls K n C∧PySem.W.excIn K C bmVE "ValueError.__new__"=true:=let ⟨C,a,b,_⟩:=xTab_one h hn; ⟨C,a,b⟩
theorem XCls.inj {C D:Addr} (a:XCls K n C) (b:XCls K n D):C=D:=by have z:=a.symm.trans b; simpa using z
theorem xTab_two (h:xTab K ns ss=true) {b:Bool} (hm:(n,c,b)∈ss) {D C:Addr} (hD:XCls K n D) (hC:XCls K c C):PySem.W.kitOne K (.ref D) (.ref C)=some b∧PySem.W.exmOne K (.ref D) (.ref C)=some b:=by
  simp only [xTab,Bool.and_eq_true] at h
  have:=List.all_eq_true.mp h.2.2 _ hm
  unfold xTwo at this
  have hD':PySem.W.nsIn K mainGlobals n=some (some (.ref D)):=hD
  have hC':PySem.W.nsIn K mainGlobals c=some (some (.ref C)):=hC
  simp only [hD',hC',Bool.and_eq_true,beq_iff_eq] at this
  exact this
theorem mem_of_look {L:List (Str × Bool)} {b:Bool} (h:L.lookup n=some b):(n,b)∈L:=PySem.mem_of_lookup h
theorem xTab_isT {L:List (Str × Bool)} (h:xTab K ns ss=true) (hc:c∈ns) (hL:(L.all fun p=>ns.contains p.1 && ss.contains (p.1,c,p.2))=true):∃ C,XCls K c C∧IsT K (.ref C) L:=by
  obtain ⟨C,e,_,_,e2,_⟩:=xTab_one h hc
  refine ⟨C,e,rfl,e2,fun n b hb D hD=>?_⟩
  have:=List.all_eq_true.mp hL _ (mem_of_look hb)
  simp only [Bool.and_eq_true,List.contains_iff_mem] at this
  obtain ⟨D',d1,_,d2,_⟩:=xTab_one h this.1
  obtain rfl:=d1.inj hD
  exact ⟨d2,(xTab_two h this.2 hD e).1⟩
theorem xTab_isV {L:List (Str × Bool)} (h:xTab K ns ss=true) (hL:(L.all fun p=>ns.contains p.1 && p.2)=true):IsT K (.ty "ValueError") L:=by
  have h0:=h
  simp only [xTab,Bool.and_eq_true,beq_iff_eq] at h0
  refine ⟨rfl,h0.1,fun n b hb D hD=>?_⟩
  have:=List.all_eq_true.mp hL _ (mem_of_look hb)
  simp only [Bool.and_eq_true,List.contains_iff_mem] at this
  obtain ⟨D',d1,_,d2,_,d3⟩:=xTab_one h this.1
  obtain rfl:=d1.inj hD
  have hb':b=true:=this.2
  rw [hb']
  exact ⟨d2,d3⟩
theorem xTab_exm {L:List Str} {C:Addr} (h:xTab K ns ss=true) (hC:XCls K c C) (hL:(L.all fun n=>ss.contains (n,c,true))=true):∀ n∈L,∀ D,XCls K n D→PySem.W.exmOne K (.ref D) (.ref C)=some true:=fun n hn D hD=>by
  have:=List.all_eq_true.mp hL n hn
  exact (xTab_two h (List.contains_iff_mem.mp this) hD hC).2
end
noncomputable def MDfn (K:PySem.W.Frag) (n m qual:Str) (st:Stmt):Prop:=∃ C f fd,XCls K n C∧PySem.W.findIn K (.ref C) m=some (some (.ref f))∧PySem.W.typeIn K (.ref f)=some (.type "function")∧Fun K m qual st f fd
theorem bt_ValueError:bootBuiltins "ValueError"=some (.type "ValueError"):=by decide +kernel
theorem pass_E0 {X:Cx}:PassS X (fun _=>E0):=fun _ _ _ _ _ _ _ h=>by obtain ⟨_,_,_,_,_,q⟩:=h; exact q.elim
section
variable {K:PySem.W.Frag} {n:Nat} {m:List PV→Rr PV} {ta:TA} {Γ Γ':List Md} {fa:List PV→Rr (List PV)}
theorem dz_F (hn:Len fa n) (ha:DAA K X0 Γ Γ' ta fa):DE K X0 Γ Γ' .F (tCallS (spF K n .F (W1 K) m) (fun _=>E0) ta) (fun ρ=>(fa ρ).bind m):=de_callF (E:=E0) (W:=W1 K) (fun σ H Q h=>h) (fun e H' h=>h.elim) hn ha
end
noncomputable def tryX (L:List Str) (i:Nat) (gh:List PV→RS) (ρ:List PV) (r:RS):RS:=match r with
  | .exc e=>if e.1∈L then gh (ρ.set i (.exc e.1)) else .bad
  | r=>r
@[simp] theorem tryR_eq {L:List Str} {i:Nat} {gb gh:List PV→RS} {ρ:List PV}:tryR L i gb gh ρ=tryX L i gh ρ (gb ρ):=by
  unfold tryR tryX
  cases gb ρ <;> rfl
@[simp] theorem tryX_exc {L:List Str} {i:Nat} {gh:List PV→RS} {ρ:List PV} {n:Str} {x:PV}:tryX L i gh ρ (.exc (n,x))=if n∈L then gh (ρ.set i (.exc n)) else .bad:=rfl
theorem pIsX_exc {L:List (Str × Bool)} {n:Str} {b:Bool} (h:L.lookup n=some b):pIsX L (.exc n)=.ok (.bl b):=by unfold pIsX; simp only [h]
theorem pCalled_exc {L:List Str} {n:Str} (h:n∈L):pCalled L (.exc n)=.ok (.str n):=by unfold pCalled; simp only [if_pos h]
end L2
namespace L2
open PySem PySem.Spec PyProof.Rows
section
variable {K:PySem.W.Frag} {H:Hp}
variable {EX:PX→Hp→Prop} {Γ Γ1 Γ2:List Md} {k:Kd}
end
end L2
namespace L2
open PySem PySem.Spec PyProof.Rows
theorem okD_str {x:Str} (h:PyData.canLay0 (.str x)=true):okD (.str x)=true:=by simp [okD,PV.noX,PV.dat,PyData.depth,h]
theorem pEq_str {g:Bool→Bool} {a b:Str} (ha:PyData.canLay0 (.str a)=true) (hb:PyData.canLay0 (.str b)=true):pEqG g (.str a) (.str b)=.ok (.bl (g (a == b))):=by
  unfold pEqG
  rw [okD_str ha,okD_str hb]
  simp only [Bool.and_self,if_true,PV.dat,PyData.eqv]
end L2
namespace L2
open PySem PySem.Spec PyProof.Rows
section
variable {X:Cx}
end
section
variable {K:PySem.W.Frag} {EX:PX→Hp→Prop} {Γ Γ1 Γ2:List Md} {ta:TE} {tb:TA} {f:List PV→Rr PV} {fb:List PV→Rr (List PV)}
end
end L2
namespace L2
open PySem PySem.Spec PyProof.Rows
section
variable {K:PySem.W.Frag} {EX:PX→Hp→Prop} {Γ Γ' Γ1 Γ2:List Md} {ta:TA} {fa:List PV→Rr (List PV)} {n:Nat} {W:PX→XK→Hp→Prop} {m:List PV→Rr PV} {E:XK}
end
section
variable {X:Cx} {tg:Expr}
end
end L2
namespace L2
open PySem PySem.Spec PyProof.Rows
theorem ints_iff {ns ms:List Int}:ns.map PV.int=ms.map PV.int ↔ ns=ms:=⟨ints_inj',fun h=>by rw [h]⟩
noncomputable def orX (o:Option Str) (x:PV):Rr PV:=match o with
  | none=>.ok x
  | some n=>.exc (n,.non)
theorem forR_inv' {b:PV→List PV→RS} {xs:List PV} {ρ:List PV} {W:RS} (hw:forR b xs ρ=W) (I:Nat→List PV→Prop) (h0:I 0 ρ) (h:∀ i x ρ,xs[i]?=some x→I i ρ→(b x ρ).good (I (i + 1))) :
    ∃ ρ',W=.next ρ'∧I xs.length ρ':=by
  obtain ⟨ρ',h1,h2⟩:=forR_inv I h0 h
  exact ⟨ρ',hw.symm.trans h1,h2⟩
theorem map_bls {f:PV→Rr PV} {g:Int→Bool} {ns:List Int} (h:∀ z∈ns,f (.int z)=.ok (.bl (g z))):mapR f (ns.map PV.int)=.ok ((ns.map g).map PV.bl):=by
  induction ns with
  | nil=>rfl
  | cons n ns ih =>
    simp only [List.map_cons,mapR,h n (by simp),Rr.bind_ok,ih fun z hz=>h z (by simp [hz])]
theorem pAll_bls (bs:List Bool):pAll [.lst (bs.map PV.bl)]=.ok (.bl (bs.all id)):=by simp only [pAll,blsOf_map]
theorem all_dec {ns:List Int} {p:Int→Prop} [DecidablePred p]:(ns.map fun z=>decide (p z)).all id=decide (∀ x∈ns,p x):=by
  rw [Bool.eq_iff_iff,List.all_eq_true,decide_eq_true_iff]
  simp
theorem cut_to {ns:List Int} {h:Int} (h0:0≤h):cutG (ns.map PV.int) none (some h)=(ns.take h.toNat).map PV.int:=by
  unfold cutG HT.sIx
  simp only [List.length_map,List.drop_zero,Nat.sub_zero]
  rw [if_neg (by omega),← List.map_take]
  congr 1
  rw [List.take_eq_take_iff]; omega
theorem orX_none {x:PV}:orX none x=.ok x:=rfl
theorem orX_some {x:PV} {n:Str}:orX (some n) x=.exc (n,.non):=rfl
theorem newF_cons {ns:List Int} {z:Int} (h:ns.length < 1000000):newF (.int z :: ns.map PV.int)=.ok (.lst ((z :: ns).map PV.int)):=newF_cat (ns:=[z]) (by simp only [List.length_cons,List.length_nil,List.length_append]; omega)
theorem tryX_in {L:List Str} {i:Nat} {gh:List PV→RS} {ρ:List PV} {n:Str} {x:PV} (h:n∈L):tryX L i gh ρ (.exc (n,x))=gh (ρ.set i (.exc n)):=by rw [tryX_exc,if_pos h]
theorem repN_succ {n:Nat}:List.replicate (n + 1) PV.non=PV.non :: List.replicate n PV.non:=rfl
theorem repN_zero:List.replicate 0 PV.non=[]:=rfl
end L2
namespace L2
open PySem PySem.Spec PyProof.Rows
section
variable {prog:Program} {w:World} {A:Around} {E:Value→Shared→Prop} {s:Shared}
end
section
variable {X:Cx} {pos:Pos}
end
section
variable {K:PySem.W.Frag} {EX:PX→Hp→Prop} {Γ Γ2:List Md}
end
theorem pEq_nn {g:Bool→Bool}:pEqG g (.lst []) (.lst [])=.ok (.bl (g true)):=pEq_ints [] []
end L2
namespace L2
open PySem PySem.Spec PyProof.Rows
section
variable {X:Cx} {pins:List (Addr × Obj)} {σ:St} {H:Hp} {s:Shared} {h':Heap}
end
section
variable {X:Cx} {elts:List Expr} {x1:Nat} {tpos:Pos}
end
section
variable {K:PySem.W.Frag} {H:Hp} {EX:PX→Hp→Prop} {Γ Γ':List Md} {te:TE} {f:List PV→Rr PV}
end
end L2
namespace L2
open PySem PySem.Spec PyProof.Rows
section
variable {prog:Program} {w:World} {A:Around} {E:Value→Shared→Prop} {R:Result→Shared→Prop} {s:Shared}
theorem codeAny_compLoop_go {elt target iter:Expr} {ifs:List Expr} {scope:Scope} {pos:Pos} {it acc:Value} {env:Env} (I:Nat→Shared→Prop)
    (turn:∀ n s,I n s→wpAny (model prog w) A (pyNext it) (fun r s₁=>match r with
      | none=>R (.ok .next) s₁
      | some v=>wpAny (model prog w) A (letOwnedTupleGo target it v) (fun _ s₁'=>wpAny (model prog w) A (assign target env v) (fun _ s₂ =>
          wpAny (model prog w) A (forIn ifs true fun c r=>if r=true then do let ok ← isTrue c env (eval c env); pure (ForInStep.yield ok) else pure (ForInStep.yield r)) (fun ok s₃ =>
            if ok=true then wpAny (model prog w) A (eval elt env) (fun x s₄ =>
              wpAny (model prog w) A (call (.builtin "list.append") [acc,x]) (fun _ s₅=>∃ m,m < n∧I m s₅) (notedBy (model prog w) A env fun e s'=>R (.error e) s') s₄) (notedBy (model prog w) A env fun e s'=>R (.error e) s') s₃
            else ∃ m,m < n∧I m s₃) (notedBy (model prog w) A env fun e s'=>R (.error e) s') s₂) (notedBy (model prog w) A env fun e s'=>R (.error e) s') s₁') (notedBy (model prog w) A env fun e s'=>R (.error e) s') s₁) (notedBy (model prog w) A env fun e s'=>R (.error e) s') s)
    (n:Nat) (h:I n s) :
    codeAny (model prog w) A (.compLoop (.ListComp elt [⟨target,iter,ifs,0⟩] scope pos) 0 it acc env) R s:=by
  refine codeAny_loop rfl I (fun n s hI=>?_) n h
  show wpAny _ A ((compTurn (.ListComp elt [⟨target,iter,ifs,0⟩] scope pos) 0 it acc env).onRaise (fun x=>do noteFrame x env; theTreesLotGoes x)) _ _ s
  refine wpAny_noted ?_
  rw [compTurn_list]
  refine wpAny_bind (wpAny_standAt (wpAny_bind (wpAny_mono (turn n s hI) (fun r s₁ h₁=>?_) fun _ _ h'=>h')))
  cases r with
  | none=>exact wpAny_pure h₁
  | some v =>
    refine wpAny_bind (wpAny_mono h₁ (fun _ s₁' h₁'=>?_) fun _ _ h'=>h')
    refine wpAny_bind (wpAny_mono h₁' (fun _ s₂ h₂=>wpAny_bind (wpAny_mono h₂ (fun ok s₃ h₃=>?_) fun _ _ h'=>h')) fun _ _ h'=>h')
    cases ok with
    | false=>exact wpAny_pure ⟨rfl,h₃⟩
    | true =>
      exact wpAny_bind (wpAny_bind (wpAny_mono h₃ (fun x s₄ h₄=>wpAny_bind (wpAny_mono h₄ (fun _ s₅ h₅=>wpAny_pure (wpAny_pure ⟨rfl,h₅⟩)) fun _ _ h'=>h')) fun _ _ h'=>h'))
end
noncomputable def hideN (xs:List Str) (y:Str):Str:=if xs.contains y then "" else y
noncomputable def blkN (X:Cx) (scope:Scope) (xs:List Str) (C:Addr) (ex:List Addr) (s₂:Shared) (H₂:Hp):Cx :=
  { X with N:=X.N.map (hideN xs) ++ xs,s₀:=s₂,H₀:=H₂,env:=compEnvC scope (clOf scope X.env) C X.env,outer:=X.stack,ex:=ex,fn:=fun _=>false,pn:=[],xe:=fun _ _=>False }
noncomputable abbrev TB:=V→Hp→List V→Prop
noncomputable def tB1:TB:=fun x _ vs=>vs=[x]
noncomputable def PB (X:Cx) (scope:Scope) (xs:List Str) (tg:Expr) (Bd:TB):Prop:=∀ C s₂ H₂ ex,∀ (pins:List (Addr × Obj)) (s:Shared) (σ σx:St) (H:Hp) (x:V) (u:Value) (vs:List V) (E:Value→Shared→Prop),σ.length=X.N.length→σx.length=xs.length →
  Inv (blkN X scope xs C ex s₂ H₂) pins (σ ++ σx) H s→RelV x u→Bd x H vs→wpAny (model X.prog X.w) X.A (assign tg (blkN X scope xs C ex s₂ H₂).env u) (fun _ s'=>Inv (blkN X scope xs C ex s₂ H₂) pins (σ ++ vs.map some) H s') E s
noncomputable def PCi (X:Cx) (ifs:List Expr) (t:TT):Prop:=∀ (pins:List (Addr × Obj)) (s:Shared) (σ:St) (H:Hp) (Q:Bool→Hp→Prop) (E:Value→Shared→Prop),Inv X pins σ H s→t σ H Q →
  wpAny (model X.prog X.w) X.A (forIn ifs true fun c r=>if r=true then do let ok ← isTrue c X.env (eval c X.env); pure (ForInStep.yield ok) else pure (ForInStep.yield r)) (TP X pins σ Q) E s
noncomputable def tYes:TT:=fun _ H Q=>Q true H
theorem pc_nil {X:Cx}:PCi X [] tYes:=fun pins s σ H Q E I h=>wpAny_tests_nil ⟨_,I,h⟩
noncomputable def tCompJG (σ:St) (Bd:TB) (tt:TT) (te:TE) (J:It) (H1:Hp) (Q:VK):Prop:=∃ W:Nat→Nat→List V→Hp→Prop,(∃ m,W 0 m [] H1)∧∀ i m ys H2,W i m ys H2→ys.length≤sizeLine ∧
  ((J.stop i H2∧∀ p,H2 p=none→Q (.ref p) (upd H2 p (.lst ys))) ∨
   (J.go i H2∧∃ N:List V→Hp→Prop,(∀ ys' H',N ys' H'→∃ m',m' < m∧W (i + 1) m' ys' H')∧∀ x H3,J.yld i H2 x H3→∃ vs,Bd x H3 vs∧tt (σ ++ vs.map some) H3 fun b H4=>if b=true then te (σ ++ vs.map some) H4 fun y H5=>N (ys ++ [y]) H5 else N ys H4))
noncomputable def tCompG (wi:TI) (Bd:TB) (tt:TT) (te:TE):TE:=fun σ H Q=>wi σ H fun J H1=>tCompJG σ Bd tt te J H1 Q
noncomputable def compChkN (N:List Str) (sc scope:Scope) (xs:List Str):Bool:=xs.all (fun x=>compChk [] sc scope x) && decide (N.map (hideN xs) ++ xs).Nodup && !xs.isEmpty && (N.all fun y=>xs.contains y || !(scope.names.lookup y == some .local)) && (scope.names.lookup (Str.ofString "") == none)
structure CkN (N:List Str) (sc scope:Scope) (xs:List Str):Prop where
  scs:∀ x∈xs,CompSc [] sc scope x
  nd:(N.map (hideN xs) ++ xs).Nodup
  ex:∃ x,x∈xs
  noN:∀ y∈N,y ∉ xs→scope.names.lookup y≠some .local
  noE:scope.names.lookup (Str.ofString "")=none
theorem compChkN_of {N:List Str} {sc scope:Scope} {xs:List Str} (h:compChkN N sc scope xs=true):CkN N sc scope xs:=by
  unfold compChkN at h
  simp only [Bool.and_eq_true,List.all_eq_true,decide_eq_true_eq,Bool.not_eq_true',Bool.or_eq_true,beq_iff_eq,beq_eq_false_iff_ne] at h
  obtain ⟨⟨⟨⟨h1,h2⟩,h3⟩,h4⟩,h5⟩:=h
  refine ⟨fun x hx=>CompSc.of (h1 x hx),h2, ?_,fun y hy hn=>?_,h5⟩
  · cases xs with
    | nil=>simp at h3
    | cons a l=>exact ⟨a,by simp⟩
  · rcases h4 y hy with z | z
    · exact absurd (List.contains_iff_mem.mp z) hn
    · exact z
section
variable {X:Cx} {pins:List (Addr × Obj)} {σ:St} {s₂:Shared} {H₂:Hp} {scope:Scope} {x:Str} {xs:List Str} {tg elt iter:Expr} {ifs:List Expr} {pos:Pos} {Bd:TB} {tt:TT} {te:TE} {J:It} {fp:List Addr} {it:Addr} {tn:Nat→Heap→Prop}
theorem clOf_some' {N0:List Str} (sc:CompSc N0 X.env.scope scope x) (ok:X.Ok) {y:Str} {c:Addr} (h:(clOf scope X.env).lookup y=some c):X.env.cells.lookup y=some c:=by
  have hm:=PySem.mem_of_lookup h
  unfold clOf at hm
  obtain ⟨p,hp,e⟩:=List.mem_map.mp hm
  have hp':=List.mem_filter.mp (List.mem_reverse.mp hp)
  obtain ⟨e1,e2⟩:=Prod.mk.inj e
  have hk:=sc.fr p hp'.1 (beq_iff_eq.mp hp'.2)
  obtain ⟨c',hc'⟩:=ok.has p.1 hk
  rw [hc'] at e2
  rw [← e1,hc']
  exact congrArg some e2
theorem blkN_ok {N0:List Str} (I:Inv X pins σ H₂ s₂) (sc:CompSc N0 X.env.scope scope x) {C:Addr} (hC:s₂.heap.objs.size≤C) (ff:∀ b∈fp,FpOk X pins H₂ b) (fo:∀ b∈fp,∃ o,s₂.heap.get? b=some o):(blkN X scope xs C fp s₂ H₂).Ok where
  mod:=I.ok.mod
  kind:=sc.kind
  glob:=I.ok.glob
  blt:=I.ok.blt
  above:=hC
  inj:=fun y z c h1 h2=>I.ok.inj y z c (clOf_some' sc I.ok h1) (clOf_some' sc I.ok h2)
  has:=fun y hy=>by
    have hy':(relabel scope X.env).names.lookup y=some .cell ∨ (relabel scope X.env).names.lookup y=some .free:=hy
    have hf:scope.names.lookup y=some .free:=by
      rcases hy' with z | z
      · exact (relabel_look sc.nc z).2 (.inl rfl)
      · exact (relabel_look sc.nc z).2 (.inr rfl)
    exact clOf_has hf
  cab:=fun y c h=>by cases h
  hd:=I.ok.hd
  frames:=I.ok.frames
  stk:=.inl rfl
  exf:=fun b hb=>by
    obtain ⟨f0,f1,f2,f3,f4,f5⟩:=ff b hb
    obtain ⟨o,ho⟩:=fo b hb
    exact ⟨Nat.ne_of_lt (Nat.lt_of_lt_of_le (Heap.lt_size ho) hC),fun y c h=>f4 y c (clOf_some' sc I.ok h)⟩
  bs:=I.bs
  bsz:=Nat.le_trans I.ok.bsz I.sz
  noex:=fun b o e hb=>by
    obtain ⟨f0,f1,f2,f3,f4,f5⟩:=ff b hb
    rcases f3 with z | z
    · exact I.ok.noex b o e z
    · exact absurd (Nat.lt_of_lt_of_le (Heap.lt_size e) (Nat.le_trans I.ok.bsz z)) (Nat.lt_irrefl _)
  exfs:=fun b hb z=>by
    obtain ⟨f0,f1,f2,f3,f4,f5⟩:=ff b hb
    rcases List.mem_cons.mp (I.stkSub b z) with e | e
    · exact f1 e
    · exact f2 e
  funs:=I.stack
  frf:=I.stkFree
theorem comp_runG {E:Value→Shared→Prop} {Q:VK} {RR:Value→Addr→Result→Shared→Prop} (I:Inv X pins σ H₂ s₂) (ck:CkN X.N X.env.scope scope xs) (hx:x∈xs) (hNd:X.N.Nodup) (hc:X.calm=true)
    (T:Turn X.prog X.w X.K tg J fp it tn) (st:tn 0 s₂.heap) (ff:∀ b∈fp,FpOk X pins H₂ b) (hw:tCompJG σ Bd tt te J H₂ Q)
    (hb:PB X scope xs tg Bd) (ht:∀ C s₂ H₂ ex,PCi (blkN X scope xs C ex s₂ H₂) ifs tt) (he:∀ C s₂ H₂ ex,PE (blkN X scope xs C ex s₂ H₂) elt te)
    (hvs:∀ x H vs,Bd x H vs→vs.length=xs.length)
    (hRR:∀ D C s' H' m',s₂.heap.objs.size≤C→Inv X pins σ H' s'→s'.heap.Ns C m'→H' C=none→Q (.ref D) H'→RR (.ref D) C (.ok .next) s') :
    wpAny (model X.prog X.w) X.A (newList []) (fun acc s₃=>wpAny (model X.prog X.w) X.A (newFunctionEnv scope X.env.globals (clOf scope X.env) [] X.env.qual none .none (some X.env)) (fun cenv s₄ =>
      codeAny (model X.prog X.w) X.A (.compStart (.ListComp elt [⟨tg,iter,ifs,0⟩] scope pos) 0 (.ref it) acc { cenv with scope:=relabel scope X.env }) (RR acc cenv.locals) s₄) E s₃) E s₂:=by
  have sc:=ck.scs x hx
  refine wpAny_newObj_type (wpAny_newFunctionEnv sc.nc (by intro y hy; simp at hy) (fun h₁ hns₁ hsb₁=>?_) sc.kind)
  dsimp only at hns₁ hsb₁ ⊢
  generalize hP2:s₂.heap.push { cls:=.type "list",dict:=none,data:=.seq ([]:List Value).toArray }=P2 at hns₁ hsb₁ ⊢
  have hCs:P2.objs.size=s₂.heap.objs.size + 1:=by rw [← hP2,Heap.size_push]
  have hCle:s₂.heap.objs.size≤P2.objs.size:=by rw [hCs]; exact Nat.le_succ _
  have hDC:s₂.heap.objs.size≠P2.objs.size:=by rw [hCs]; exact Nat.ne_of_lt (Nat.lt_succ_self _)
  generalize hCe:P2.objs.size=C at hns₁ hsb₁ hCs hCle hDC ⊢
  generalize hDe:s₂.heap.objs.size=D at hCs hCle hDC ⊢
  have fo:∀ b∈fp,∃ o,s₂.heap.get? b=some o:=fun b hb=>let ⟨o,e,_⟩:=T.obj _ _ st b hb; ⟨o,e⟩
  have flt:∀ b∈fp,b < D:=fun b hb=>by obtain ⟨o,e⟩:=fo b hb; rw [← hDe]; exact Heap.lt_size e
  have old:∀ b o,s₂.heap.get? b=some o→h₁.get? b=some o:=fun b o e=>by
    have hb:=Heap.lt_size e
    exact hsb₁.extBut b o (Nat.ne_of_lt (by rw [hCs]; exact Nat.lt_succ_of_lt (hDe ▸ hb))) (Heap.get?_push_of_some _ (hP2 ▸ Heap.get?_push_of_some _ e))
  have hacc:h₁.get? D=some { cls:=.type "list",data:=.seq ([]:List Value).toArray 0 }:=hsb₁.extBut _ _ hDC (Heap.get?_push_of_some _ (hP2 ▸ hDe ▸ Heap.get?_push_size _ rfl))
  have okB:=blkN_ok (x:=x) (xs:=xs) (C:=C) I sc (by rw [hDe]; exact hCle) ff fo
  have hfreshD:H₂ D=none:=I.hok.fresh (by rw [hDe]; exact Nat.le_refl _)
  have hfreshC:H₂ C=none:=I.hok.fresh (by rw [hDe]; exact hCle)
  have I0:Inv (blkN X scope xs C fp s₂ H₂) [(D,{ cls:=.type "list",data:=.seq ([]:List Value).toArray 0 })] (σ ++ List.replicate xs.length none) H₂ { s₂ with heap:=h₁,toks:=s₂.toks + ([]:List (Str × Value)).length }:=by
    refine ⟨okB,rfl,I.bare,Un.kept old,⟨_,hns₁,fun i y v e1 e2 e3=>?_⟩,fun y c e=>?_,hfreshC,fun y c e=>I.freeC y c (clOf_some' sc I.ok e),fun p hp=>?_,I.hok.kept old,by simp [blkN,I.len]⟩
    · have hi:i < σ.length:=by
        by_cases hi:i < σ.length
        · exact hi
        · rw [List.getElem?_append_right (by omega)] at e2
          rw [List.getElem?_replicate] at e2
          split at e2 <;> cases e2
      rw [List.getElem?_append_left hi] at e2
      have e1':(X.N.map (hideN xs) ++ xs)[i]?=some y:=e1
      rw [List.getElem?_append_left (by rw [List.length_map,← I.len]; exact hi),List.getElem?_map] at e1'
      have lk:scope.names.lookup y=some .local ∨ scope.names.lookup y=some .free:=by
        have e3':(relabel scope X.env).names.lookup y=some .local ∨ (relabel scope X.env).names.lookup y=some .cell ∨ (relabel scope X.env).names.lookup y=some .free:=e3
        rcases e3' with z | z | z
        · exact .inl ((relabel_look sc.nc z).1 rfl)
        · exact .inr ((relabel_look sc.nc z).2 (.inl rfl))
        · exact .inr ((relabel_look sc.nc z).2 (.inr rfl))
      obtain ⟨y0,ey0,ey⟩:∃ y0,X.N[i]?=some y0∧hideN xs y0=y:=by
        cases q:X.N[i]? with
        | none=>rw [q] at e1'; cases e1'
        | some y0=>rw [q] at e1'; exact ⟨y0,rfl,Option.some.inj e1'⟩
      have hy0:y0 ∉ xs:=fun z=>by
        have:y=Str.ofString "":=by rw [← ey]; unfold hideN; rw [if_pos (List.contains_iff_mem.mpr z)]
        rw [this,ck.noE] at lk
        rcases lk with z | z <;> cases z
      have ey2:y0=y:=by rw [← ey]; unfold hideN; rw [if_neg (fun z=>hy0 (List.contains_iff_mem.mp z))]
      rw [ey2] at ey0 hy0
      have e1':X.N[i]?=some y:=ey0
      have yN:y∈X.N:=List.mem_of_getElem? e1'
      have e3':(relabel scope X.env).names.lookup y=some .local ∨ (relabel scope X.env).names.lookup y=some .cell ∨ (relabel scope X.env).names.lookup y=some .free:=e3
      have hcf:(relabel scope X.env).names.lookup y=some .cell ∨ (relabel scope X.env).names.lookup y=some .free:=by
        rcases e3' with z | z
        · exact absurd ((relabel_look sc.nc z).1 rfl) (ck.noN y yN hy0)
        · exact z
      have hfree:scope.names.lookup y=some .free:=by
        rcases hcf with z | z
        · exact (relabel_look sc.nc z).2 (.inl rfl)
        · exact (relabel_look sc.nc z).2 (.inr rfl)
      obtain ⟨c,hcl⟩:=clOf_has (X:=X) hfree
      have hcx:=clOf_some' sc I.ok hcl
      have hvis:=sc.fr _ (PySem.mem_of_lookup hfree) rfl
      obtain ⟨m,hn,hl⟩:=I.loc
      obtain ⟨u,ru,hlook⟩:=hl i y v e1' e2 (.inr hvis)
      refine ⟨u,ru,.inr ⟨hcf,c,hcl, ?_⟩⟩
      rcases hlook with ⟨k,_⟩ | ⟨k,c',ec,hcell⟩
      · have k':X.env.scope.names.lookup y=some .local:=k
        have hv':X.env.scope.names.lookup y=some .cell ∨ X.env.scope.names.lookup y=some .free:=hvis
        rw [k'] at hv'
        rcases hv' with z | z <;> cases z
      · rw [hcx] at ec; cases ec
        obtain ⟨o,ho,hd⟩:=hcell
        exact ⟨o,old _ _ ho,hd⟩
    · obtain ⟨v,o,ho,hd⟩:=I.cell y c (clOf_some' sc I.ok e)
      exact ⟨v,o,old _ _ ho,hd⟩
    · have e:p=(D,{ cls:=.type "list",data:=.seq ([]:List Value).toArray 0 }):=by simpa [blkN] using hp
      subst e
      exact ⟨hacc,hfreshD,hDC,(fun z=>by
        rcases List.mem_cons.mp (I.stkSub D z) with e | e
        · exact absurd I.lt (by rw [← e,hDe]; exact Nat.lt_irrefl _)
        · exact I.nofs (by rw [hDe]; exact Nat.le_refl _) e),fun v z=>nomatch z⟩
  obtain ⟨W,⟨m0,w0⟩,turn⟩:=hw
  have fpB:∀ {H':Hp} {o:Obj},(∀ b∈fp,H' b=none)→∀ b∈fp,FpOk (blkN X scope xs C fp s₂ H₂) [(D,o)] H' b:=fun {H' o} hn b hb=>by
    obtain ⟨f0,f1,f2,f3,f4,f5⟩:=ff b hb
    obtain ⟨g1,g2⟩:=okB.exf b hb
    exact ⟨hn b hb,g1,okB.exfs b hb,.inl hb,g2,fun p hp=>by
      have e:p=(D,o):=by simpa [blkN] using hp
      subst e
      exact (Nat.ne_of_lt (flt b hb)).symm⟩
  have hσ:σ.length=X.N.length:=I.len
  have loop:∀ s₃:Shared,s₃={ s₂ with heap:=h₁,toks:=s₂.toks + ([]:List (Str × Value)).length } →
      codeAny (model X.prog X.w) X.A (.compLoop (.ListComp elt [⟨tg,iter,ifs,0⟩] scope pos) 0 (.ref it) (.ref D) (compEnvC scope (clOf scope X.env) C X.env)) (RR (.ref D) C) s₃:=by
    rintro s₃ rfl
    refine codeAny_compLoop_go
      (fun n s'=>∃ i ys its k σx H',σx.length=xs.length∧Inv (blkN X scope xs C fp s₂ H₂) [(D,{ cls:=.type "list",data:=.seq (List.toArray its) k })] (σ ++ σx) H' s'∧tn i s'.heap∧(∀ b∈fp,H' b=none)∧Vals ys its∧W i n ys H') ?_ m0
      ⟨0,[],[],0,List.replicate xs.length none,H₂,by simp,I0,T.keep _ _ _ st (fun b hb o e=>old b o e),fun b hb=>(ff b hb).1,.nil,w0⟩
    rintro n s' ⟨i,ys,its,k,σx,H',hσx,I',st',fr',rv,w'⟩
    obtain ⟨hz,hcase⟩:=turn i n ys H' w'
    have hpinD:=I'.pin (D,{ cls:=.type "list",data:=.seq (List.toArray its) k }) (by simp [blkN])
    rcases hcase with ⟨stop,q⟩ | ⟨go,N,hN,step⟩
    · refine thn (T.done (blkN X scope xs C fp s₂ H₂) rfl rfl rfl hc i _ s' _ H' _ I' (fpB fr') st' stop) fun r s4 ⟨hr,I4⟩=>?_
      subst hr
      have pD:=I4.pin (D,{ cls:=.type "list",data:=.seq (List.toArray its) k }) (by simp [blkN])
      obtain ⟨m4,hn4,_⟩:=I4.loc
      have IX:Inv X pins σ H' s4:=I.call' I4.os I4.base I4.hok I4.bare fun b hb=>by
        obtain ⟨f0,f1,f2,f3,f4,f5⟩:=ff b hb
        exact ⟨f3,f1,f4,f5⟩
      have IX2:=IX.adopt (D:=D) (ys:=ys) (its:=its) (n:=k) hpinD.2.1 (by rw [← hDe]; exact I.sz) (by rw [← hDe]; exact Nat.ne_of_gt I.lt)
        (fun y c e z=>by
          obtain ⟨v,o,ho,hd⟩:=I.cell y c e
          have:=Heap.lt_size ho
          rw [hDe,z] at this
          exact Nat.lt_irrefl _ this)
        (fun p hp z=>by
          have:=Heap.lt_size (I.pin p hp).1
          rw [hDe,z] at this
          exact Nat.lt_irrefl _ this) pD.1 rv hz
      refine hRR D C s4 _ m4 (by rw [hDe]; exact hCle) IX2 hn4 ?_ (q D hpinD.2.1)
      rw [upd_ne (Ne.symm hDC)]
      exact I4.free
    · refine thn (T.item (blkN X scope xs C fp s₂ H₂) rfl rfl rfl hc i _ s' _ H' _ I' (fpB fr') st' go) fun r s4 ⟨u,hr,h4⟩=>?_
      subst hr
      refine thn h4 fun _ s5 ⟨y,H5,I5,r5,y5,st5,fr5⟩=>?_
      have I5':=I5.pinned (fpB fr5) (T.obj _ _ st5)
      obtain ⟨vs,bd5,stp⟩:=step y H5 y5
      refine thn (hb C s₂ H₂ fp _ s5 σ σx H5 y u vs _ hσ hσx I5' r5 bd5) fun _ s6 I6=>?_
      refine thn (ht C s₂ H₂ fp _ s6 _ H5 _ _ I6 stp) fun ok s6' hok=>?_
      obtain ⟨H6',I6',q6'⟩:=hok
      have hvl:=hvs _ _ _ bd5
      have stay:∀ {s9:Shared} {H9:Hp} {ys':List V} {its':List Value} {k':Nat},True:=fun {_ _ _ _ _}=>trivial
      cases ok with
      | false =>
        rw [if_neg Bool.false_ne_true] at q6' ⊢
        have pD6:=I6'.pin (D,{ cls:=.type "list",data:=.seq (List.toArray its) k }) (by simp [blkN])
        obtain ⟨m',hm,w8⟩:=hN _ _ q6'
        refine ⟨m',hm,i + 1,ys,its,k,vs.map some,H6',by simp [hvl],I6'.pins_of fun p hp=>?_, ?_,fun b hb'=>?_,rv,w8⟩
        · have e:p=(D,{ cls:=.type "list",data:=.seq (List.toArray its) k }):=by simpa using hp
          subst e
          exact ⟨pD6.1,pD6.2.1,pD6.2.2.1,pD6.2.2.2.1,fun v z=>nomatch z⟩
        · refine T.keep _ _ _ st5 fun b hb' o e=>?_
          exact (I6'.pin (b,o) (List.mem_append_right _ (List.mem_append_right _ (mem_pinsAt hb' e)))).1
        · obtain ⟨o,e,d⟩:=T.obj _ _ st5 b hb'
          exact (I6'.pin (b,o) (List.mem_append_right _ (List.mem_append_right _ (mem_pinsAt hb' e)))).2.1
      | true =>
      rw [if_pos rfl] at q6' ⊢
      refine wpAny_mono (he C s₂ H₂ fp _ s6' _ H6' _ I6' q6') (fun u7 s7 h7=>?_) fun _ _ f=>f.elim
      obtain ⟨v7,H7,I7,r7,n7⟩:=h7
      have pD7:=I7.pin (D,{ cls:=.type "list",data:=.seq (List.toArray its) k }) (by simp [blkN])
      have hlen:=rv.length
      refine append_at (hsz:=by show its.toArray.size≤sizeLine; rw [List.size_toArray,← hlen]; exact hz) pD7.1 fun h8 hs8 hD8=>?_
      obtain ⟨m',hm,w8⟩:=hN _ _ n7
      have hD8':h8.get? D=some { cls:=.type "list",data:=.seq (its ++ [u7]).toArray (k + 1) }:=by rw [hD8,List.push_toArray]
      have I8:Inv (blkN X scope xs C fp s₂ H₂) [] (σ ++ vs.map some) H7 { s7 with heap:=h8 }:=by
        refine (I7.pins_of (pins':=[]) fun p hp=>absurd hp (by simp)).turned (t':=s7.toks) (it:=D) (fun b o hb e=>(hs8.2 b hb).trans e) pD7.2.1 pD7.2.2.1 (.inr (by show s₂.heap.objs.size≤D; rw [hDe]; exact Nat.le_refl _)) (fun y' c' e' z=>?_) fun p hp=>absurd (show p∈([]:List (Addr × Obj)) from by simpa [blkN] using hp) (by simp)
        obtain ⟨v,o,ho,hd⟩:=I.cell y' c' (clOf_some' sc I.ok e')
        have:=Heap.lt_size ho
        rw [hDe,z] at this
        exact Nat.lt_irrefl _ this
      refine ⟨m',hm,i + 1,ys ++ [v7],its ++ [u7],k + 1,vs.map some,H7,by simp [hvl],I8.pins_of fun p hp=>?_, ?_,fun b hb'=>?_,rv.append (.cons r7 .nil),w8⟩
      · have e:p=(D,{ cls:=.type "list",data:=.seq (its ++ [u7]).toArray (k + 1) }):=by simpa using hp
        subst e
        exact ⟨hD8',pD7.2.1,pD7.2.2.1,pD7.2.2.2.1,fun v z=>nomatch z⟩
      · refine T.keep _ _ _ st5 fun b hb' o e=>?_
        have hpb:=I7.pin (b,o) (List.mem_append_right _ (List.mem_append_right _ (mem_pinsAt hb' e)))
        exact (hs8.2 b (Nat.ne_of_lt (flt b hb'))).trans hpb.1
      · obtain ⟨o,e,d⟩:=T.obj _ _ st5 b hb'
        exact (I7.pin (b,o) (List.mem_append_right _ (List.mem_append_right _ (mem_pinsAt hb' e)))).2.1
  exact codeAny_compStart_list (loop _ rfl) (T.self _ 0 _ _ _ (T.keep _ _ _ st fun b hb o e=>old b o e) (loop _ rfl))
theorem pb_name {px:Pos} (hNd:X.N.Nodup) (hchk:compChkN X.N X.env.scope scope [x]=true:=by rfl):PB X scope [x] (.Name x px) tB1:=by
  intro C s₂ H₂ ex pins s σ σx H y u vs E hσ hσx I r hb
  have ck:=compChkN_of hchk
  have sc:=ck.scs x (by simp)
  have hb:vs=[y]:=hb
  subst hb
  have ndB:=ck.nd
  refine wpAny_assign_Name ?_
  refine store_ok (X:=blkN X scope [x] C ex s₂ H₂) (i:=X.N.length) (x:=x) (v:=y) I ndB (by simp [blkN]) (.inl (lookup_relabel_local sc.var)) r (fun s6 I6=>?_) (.inr (lookup_relabel_local sc.var))
  obtain ⟨o,rfl⟩:∃ o,σx=[o]:=by
    cases σx with
    | nil=>simp at hσx
    | cons a l =>
      cases l with
      | nil=>exact ⟨a,rfl⟩
      | cons b l=>simp at hσx
  have eσ:(σ ++ [o]).set X.N.length (some y)=σ ++ [some y]:=by
    rw [← hσ]; simp
  rw [eσ] at I6
  exact I6
theorem pe_compG {wi:TI} (hi:PI X tg iter wi) (hb:PB X scope xs tg Bd) (ht:∀ C s₂ H₂ ex,PCi (blkN X scope xs C ex s₂ H₂) ifs tt) (he:∀ C s₂ H₂ ex,PE (blkN X scope xs C ex s₂ H₂) elt te) (hvs:∀ x H vs,Bd x H vs→vs.length=xs.length) (hNd:X.N.Nodup) (hc:X.calm=true)
    (hclos:closureFor scope X.env=pure (clOf scope X.env):=by rfl) (hchk:compChkN X.N X.env.scope scope xs=true:=by rfl) (hs:∀ x,foldedSetIterable iter X.env x=pure x:=by exact fun _=>rfl) :
    PE X (.ListComp elt [⟨tg,iter,ifs,0⟩] scope pos) (tCompG wi Bd tt te):=by
  intro pins s σ H Q I h
  have ck:=compChkN_of hchk
  obtain ⟨x,hx⟩:=ck.ex
  have sc:=ck.scs x hx
  rw [eval_ListComp]
  refine wpAny_comprehension_free (use:=none) rfl hs hclos sc.kind sc.locs (thn (hi pins s σ H _ I h) fun xv s₁ h₁=>thn h₁ fun itv s₂ h₂=>?_)
  obtain ⟨it,fp,tn,J,H2,e,I2,T,st2,f2,q⟩:=h₂
  subst e
  refine comp_runG (RR:=fun acc C=>compPost (model X.prog X.w) X.A X.xe none (EP X pins σ Q) acc C) I2 ck hx hNd hc T st2 f2 q hb ht he hvs ?_
  intro D C s' H' m' hC I' hn hC0 hq
  refine ⟨m',hn,fun h'' hs''=>⟨.ref D,H', ?_,rfl,hq⟩⟩
  refine I'.turned (t':=s'.toks) (it:=C) (fun b o hb e=>(hs''.2 b hb).trans e) hC0 (Nat.ne_of_gt (Nat.lt_of_lt_of_le I2.lt hC)) (.inr (Nat.le_trans I2.sz hC)) (fun y c e z=>?_) fun p hp z=>?_
  · obtain ⟨v,o,ho,hd⟩:=I2.cell y c e
    exact absurd (Heap.lt_size ho) (Nat.not_lt.mpr (by rw [z]; exact hC))
  · exact absurd (Heap.lt_size (I2.pin p hp).1) (Nat.not_lt.mpr (by rw [z]; exact hC))
end
end L2
namespace L2
open PySem PySem.Spec PyProof.Rows
noncomputable def filR {α β:Type} (f:α→Rr (Option β)):List α→Rr (List β)
  | []=>.ok []
  | x :: xs=>(f x).bind fun o=>(filR f xs).bind fun ys=>.ok (o.toList ++ ys)
noncomputable def DB (K:PySem.W.Frag) (Bd:TB) (k:Nat) (hb:PV→Rr (List PV)):Prop:=(∀ x e,hb x≠.exc e)∧∀ (H:Hp) (S:Addr→Prop) (x:PV) (v:V) (xs:List PV),Rep K H S x v→hb x=.ok xs→xs.length=k∧∃ vs,Bd v H vs∧Reps K H S xs vs
theorem db_1 {K:PySem.W.Frag}:DB K tB1 1 (fun x=>.ok [x]):=⟨fun x e h=>(by cases h),fun H S x v xs r h=>by
  cases h
  exact ⟨rfl,[v],rfl,v,[],rfl,r,rfl⟩⟩
section
variable {K:PySem.W.Frag} {B:Addr→Prop} {EX:PX→Hp→Prop} {H0 H H':Hp} {σ:St} {Γ Γ' Γ1 Γ2 Γ3:List Md} {ρ:List PV} {F F':Nat→List Addr} {R:List Addr} {k:Nat} {x:PV} {v:V} {te tb tc:TE} {ta:TA} {tt:TT} {f fb fc fe:List PV→Rr PV} {c:List PV→Rr Bool} {fa:List PV→Rr (List PV)} {Bd:TB} {hb:PV→Rr (List PV)}
theorem dt_yes:DT K EX Γ Γ tYes (fun _=>.ok true):=fun B H0 H σ ρ F R Q A d=>d H F (Same.refl H) (fun _ _ h=>h) A
theorem Ag.pushN:∀ {xs:List PV} {vs:List V} {σ:St} {Γ:List Md} {ρ:List PV},Reps K H (NO B F R) xs vs→Ag K B H0 H σ Γ ρ F R→Ag K B H0 H (σ ++ vs.map some) (Γ ++ List.replicate xs.length .S) (ρ ++ xs) F R
  | [],vs,σ,Γ,ρ,h,A=>by
    have h:vs=[]:=h
    subst h
    simpa using A
  | x :: xs,vs,σ,Γ,ρ,h,A=>by
    obtain ⟨v,r,rfl,h1,h2⟩:=h
    have:=Ag.pushN (xs:=xs) (vs:=r) h2 (A.push h1)
    simpa [List.replicate_succ] using this
theorem Ag.popN {n:Nat} {τ:St} {xs:List PV} (A:Ag K B H0 H (σ ++ τ) (Γ ++ List.replicate n .S) (ρ ++ xs) F R) (l1:σ.length=Γ.length) (l2:ρ.length=Γ.length):Ag K B H0 H σ Γ ρ F R:=by
  refine ⟨A.same,A.own,A.young,A.youngR,A.live,A.liveR,A.disj,A.disjR,l1,l2,fun i=>?_⟩
  have:=A.slot i
  by_cases h1:i < Γ.length
  · rw [List.getD_eq_getElem?_getD,List.getD_eq_getElem?_getD,List.getElem?_append_left h1,List.getElem?_append_left (by rw [l2]; exact h1),List.getElem?_append_left (by rw [l1]; exact h1),← List.getD_eq_getElem?_getD,← List.getD_eq_getElem?_getD] at this
    exact this
  · rw [List.getD_eq_getElem?_getD,List.getElem?_eq_none (by omega)]
    by_cases h2:i < Γ.length + n
    · rw [List.getD_eq_getElem?_getD,List.getElem?_append_right (by omega),List.getElem?_replicate,if_pos (by omega)] at this
      simp only [Option.getD_some] at this
      exact this.1
    · exact A.outF (by simp; omega)
theorem de_compG {wi:TI} {fi:List PV→Rr (List PV)} (hi:DIc K EX Γ Γ1 wi fi) (hB:DB K Bd k hb) (ht:DT K EX (Γ1 ++ List.replicate k .S) (Γ1 ++ List.replicate k .S) tt c) (he:DE K EX (Γ1 ++ List.replicate k .S) (Γ1 ++ List.replicate k .S) .F te fe) :
    DE K EX Γ Γ1 .F (tCompG wi Bd tt te) (fun ρ=>(fi ρ).bind fun xs=>(lenM xs).bind fun _=>(filR (fun x=>(hb x).bind fun as=>(c (ρ ++ as)).bind fun b=>if b=true then (fe (ρ ++ as)).bind fun y=>.ok (some y) else .ok none) xs).bind fun ys=>.ok (.lst ys)):=fun B H0 H σ ρ F R Q A d=>by
  refine hi B H0 H σ ρ F R _ A (d.bind.imp (fun xs _ d J H1 F1 s1 f1 A1 it=>?_) fun e q=>q)
  obtain ⟨hlen,d⟩:=Dn.lenM d.bind
  generalize hgx:(fun x=>(hb x).bind fun as=>(c (ρ ++ as)).bind fun b=>if b=true then (fe (ρ ++ as)).bind fun y=>Rr.ok (some y) else .ok none)=gx at d
  have l1:=A1.lenS
  have l2:=A1.lenR
  refine ⟨fun i m ys H2=>∃ zs G F2,m=xs.length - i∧i≤xs.length∧ys.length≤i∧Same H1 H2∧Trees K H2 zs ys G∧(∀ a∈G,a ∉ R∧(H1 a=none ∨ ∃ j,a∈F1 j))∧(∀ i,∀ a∈F2 i,a∈F1 i)∧Ag K B H0 H2 σ Γ1 ρ F2 (G ++ R) ∧
    Dn ((filR gx (xs.drop i)).bind fun ys'=>.ok (.lst (zs ++ ys'))) (fun x=>∀ v H',Same H H'→Res K B H0 H σ Γ1 ρ F R .F x v H'→Q v H') (fun e=>∀ H',Same H0 H'→EX e H'),
    ⟨xs.length,[],[],F1,by simp,Nat.zero_le _,Nat.le_refl _,Same.refl _,⟨rfl,rfl⟩,by simp,fun _ _ h=>h,A1,by simpa using d⟩, ?_⟩
  rintro i m ys H2 ⟨zs,G,F2,rfl,hi',hl,s2,tr,o2,f2,A2,dn⟩
  refine ⟨line_mil (by omega), ?_⟩
  have itp:=it H2 F2 s2 f2 i
  cases hx:xs[i]? with
  | none =>
    refine .inl ⟨itp.2 hx,fun p hp=>?_⟩
    have hd:xs.drop i=[]:=List.drop_eq_nil_of_le (List.getElem?_eq_none_iff.mp hx)
    rw [hd] at dn
    have dn':∀ v H',Same H H'→Res K B H0 H σ Γ1 ρ F R .F (.lst (zs ++ [])) v H'→Q v H':=dn
    rw [List.append_nil] at dn'
    exact dn' _ _ ((s1.trans s2).trans (Same.new hp)) (Res.newF (s1.trans s2) (fun i a h=>f1 i a (f2 i a h)) tr (fun a ha=>⟨(o2 a ha).1,(o2 a ha).2.elim (fun z=>.inl (s1.free z)) fun ⟨j,z⟩=>.inr ⟨j,f1 j a z⟩⟩) A2 hp)
  | some x =>
    have hlt:i < xs.length:=(List.getElem?_eq_some_iff.mp hx).1
    obtain ⟨go,yl⟩:=itp.1 x hx
    have hdx:xs.drop i=x :: xs.drop (i + 1):=by
      rw [List.drop_eq_getElem_cons hlt]
      rw [List.getElem?_eq_getElem hlt] at hx; cases hx; rfl
    rw [hdx] at dn
    simp only [filR,Rr.assoc] at dn
    rw [← hgx] at dn
    simp only [Rr.assoc] at dn
    rw [hgx] at dn
    refine .inr ⟨go,fun ys' H'=>∃ zs G F2,ys'.length≤i + 1∧Same H1 H'∧Trees K H' zs ys' G∧(∀ a∈G,a ∉ R∧(H1 a=none ∨ ∃ j,a∈F1 j))∧(∀ i,∀ a∈F2 i,a∈F1 i)∧Ag K B H0 H' σ Γ1 ρ F2 (G ++ R) ∧
      Dn ((filR gx (xs.drop (i + 1))).bind fun ys'=>.ok (.lst (zs ++ ys'))) (fun x=>∀ v H',Same H H'→Res K B H0 H σ Γ1 ρ F R .F x v H'→Q v H') (fun e=>∀ H',Same H0 H'→EX e H'),
      fun ys' H' ⟨zs,G,F2,a1,a2,a3,a4,a5,a6,a7⟩=>⟨xs.length - (i + 1),by omega,zs,G,F2,rfl,hlt,a1,a2,a3,a4,a5,a6,a7⟩,fun v H3 y=>?_⟩
    obtain ⟨s3,rx⟩:=yl v H3 y
    have rx':Rep K H3 (NO B F2 (G ++ R)) x v:=Rep.mono (fun a us s r=>⟨r,s.1.1,fun z=>by
      rcases List.mem_append.mp z with z | z
      · rcases (o2 a z).2 with q | ⟨j,q⟩
        · exact s.2.1 q
        · exact s.2.2 j q
      · exact s.1.2.1 z,s.1.2.2⟩) (fun a us r=>r) rx
    cases hbx:hb x with
    | exc e=>exact absurd hbx (hB.1 x e)
    | bad=>rw [hbx] at dn; exact dn.elim
    | ok as =>
      rw [hbx] at dn
      simp only [Rr.bind_ok] at dn
      obtain ⟨hk,vs,bd,ra⟩:=hB.2 H3 _ x v as rx' hbx
      refine ⟨vs,bd, ?_⟩
      have A3:=Ag.pushN ra (A2.grow s3)
      rw [hk] at A3
      refine ht B H0 H3 _ _ F2 (G ++ R) _ A3 (dn.bind.imp (fun b _ dn H4 F4 s4 f4 A4=>?_) fun e q=>q)
      cases b with
      | false =>
        rw [if_neg Bool.false_ne_true] at dn ⊢
        simp only [Rr.bind_ok,Option.toList] at dn
        refine ⟨zs,G,F4,by omega,(s2.trans s3).trans s4,(tr.same s3).same s4,o2,fun i a h=>f2 i a (f4 i a h),A4.popN l1 l2, ?_⟩
        simp only [Rr.assoc,Rr.bind_ok,List.nil_append] at dn
        exact dn
      | true =>
        rw [if_pos rfl] at dn ⊢
        simp only [Rr.assoc] at dn
        refine he B H0 H4 _ _ F4 (G ++ R) _ A4 (dn.bind.imp (fun z _ dn w H5 s5 r5=>?_) fun e q=>q)
        obtain ⟨F5,f5,G5,t5,o5,A5⟩:=r5
        refine ⟨zs ++ [z],G ++ G5,F5,by simp; omega,((s2.trans s3).trans s4).trans s5,Trees.append (((tr.same s3).same s4).same s5) (Trees.one t5) (fun a ha z=>(o5 a z).1 (List.mem_append_left _ ha)),fun a ha=>?_,fun i a h=>f2 i a (f4 i a (f5 i a h)),(A5.popN l1 l2).less fun a ha=>?_, ?_⟩
        · rcases List.mem_append.mp ha with z | z
          · exact o2 a z
          · refine ⟨fun q=>(o5 a z).1 (List.mem_append_right _ q), ?_⟩
            rcases (o5 a z).2 with q | ⟨j,q⟩
            · exact .inl (((s2.trans s3).trans s4).free q)
            · exact .inr ⟨j,f2 j a (f4 j a q)⟩
        · simp only [List.mem_append] at ha ⊢
          rcases ha with (z | z) | z
          · exact .inr (.inl z)
          · exact .inl z
          · exact .inr (.inr z)
        · simp only [Rr.assoc,Rr.bind_ok,Option.toList,List.append_assoc,List.singleton_append] at dn ⊢
          exact dn
end
theorem hv1 {n:Str}:∀ (x:V) (H:Hp) (vs:List V),tB1 x H vs→vs.length=[n].length:=fun _ _ _ h=>congrArg List.length h
end L2
namespace L2
open PySem PySem.Spec PyProof.Rows
section
variable {X:Cx} {K:PySem.W.Frag}
end
section
variable {K:PySem.W.Frag} {EX:PX→Hp→Prop} {Γ Γ1 Γ2:List Md} {te:TE} {ta:TA} {f:List PV→Rr PV} {fa:List PV→Rr (List PV)}
end
end L2
namespace L2
open PySem PySem.Spec PyProof.Rows
noncomputable def BigB:Nat:=4000000
noncomputable def CMulC (i j:Int):Prop:=i.natAbs < 2 ^ BigB∧j.natAbs < 2 ^ BigB
noncomputable instance (i j:Int):Decidable (CMulC i j):=by unfold CMulC; infer_instance
end L2
namespace Att
open PySem PySem.W PySem.Calls PyProof.Rows
end Att
namespace L2
open PySem PySem.Spec PyProof.Rows
end L2
namespace L2
open PySem PySem.Spec PyProof.Rows
section
variable {X:Cx} {K:PySem.W.Frag}
end
section
variable {X:Cx} {K:PySem.W.Frag}
end
section
variable {K:PySem.W.Frag} {EX:PX→Hp→Prop} {Γ Γ' Γ1 Γ2:List Md} {tb tc:TE} {ta:TA} {fb fc:List PV→Rr PV} {fa:List PV→Rr (List PV)}
end
end L2
namespace L2
open PySem PySem.Spec PyProof.Rows
section
variable {K:PySem.W.Frag} {EX:PX→Hp→Prop} {Γ Γ1 Γ2 Γ3:List Md} {te:TE} {f:List PV→Rr PV}
end
end L2
namespace L2
open PySem PySem.Spec PyProof.Rows
section
variable {K:PySem.W.Frag} {H:Hp} {EX:PX→Hp→Prop} {Γ Γ':List Md} {te:TE} {f:List PV→Rr PV}
end
end L2
namespace L2
open PySem PySem.Spec PyProof.Rows
section
variable {K:PySem.W.Frag} {EX:PX→Hp→Prop} {Γ Γ1 Γ2 Γ3:List Md} {k:Kd} {H:Hp}
theorem Trees.dropLastP:∀ {xs:List PV} {vs:List V} {G:List Addr},Trees K H xs vs G→∃ G',(∀ a∈G',a∈G)∧Trees K H xs.dropLast vs.dropLast G'
  | [],_,_,h=>⟨[],by simp,by rw [h.1]; exact ⟨rfl,rfl⟩⟩
  | [x],_,_,h=>by
    obtain ⟨v,r,G1,G2,rfl,h1,h2,h3,rfl⟩:=h
    have:=h2.1
    subst this
    exact ⟨[],by simp,rfl,rfl⟩
  | x :: y :: xs,_,_,h=>by
    obtain ⟨v,r,G1,G2,rfl,h1,h2,h3,rfl⟩:=h
    obtain ⟨G',h4,h5⟩:=Trees.dropLastP h2
    have hr:r≠[]:=by
      obtain ⟨v',r',_,_,rfl,_⟩:=h2
      simp
    refine ⟨G1 ++ G',fun a ha=>?_,v,r.dropLast,G1,G',by rw [List.dropLast_cons_of_ne_nil hr],h1,h5,fun a ha z=>h3 a ha (h4 a z),rfl⟩
    rcases List.mem_append.mp ha with z | z
    · simp [z]
    · simp [h4 a z]
noncomputable def pPop (x:PV):Rr PV:=match x with
  | .lst xs=>if xs.length=0 then .bad else .ok (.lst xs.dropLast)
  | _=>.bad
theorem Dn.pPop {x:PV} {ok:PV→Prop} {ex:PX→Prop} (d:Dn (pPop x) ok ex):∃ xs,x=.lst xs∧0 < xs.length∧ok (.lst xs.dropLast):=by
  unfold L2.pPop at d
  split at d
  · rename_i xs
    by_cases h:xs.length=0
    · rw [if_pos h] at d; exact d.elim
    · rw [if_neg h] at d; exact ⟨xs,rfl,by omega,d⟩
  · exact d.elim
theorem ds_popO {i:Nat} (hm:Γ[i]?=some .O) :
    DS K EX Γ ⟨Γ,Γ1,Γ3,k⟩ (tDrop (tBM0 K "list" rPop (tVar i))) (fun ρ=>(pPop (gv i ρ)).thenS fun z=>.next (ρ.set i z)):=fun B H0 H σ ρ F D A d=>by
  obtain ⟨v,h1,h2⟩:=A.getO hm
  refine ⟨v,h1, ?_⟩
  obtain ⟨xs,e1,hp,d⟩:=Dn.pPop d.thenS
  rw [show ρ.getD i .non=.lst xs from e1] at h2
  obtain ⟨a,vs,G,rfl,hH,ht,hn,hF⟩:=h2
  have hl:=ht.length
  have hg:vs[vs.length - 1]?=some (vs[vs.length - 1]'(by omega)):=List.getElem?_eq_getElem (by omega)
  refine ⟨.inl ⟨rfl,_,SqL.of hH⟩,a,vs,_,rfl,rfl,hH,hg, ?_⟩
  obtain ⟨G',g1,g2⟩:=Trees.dropLastP ht
  have haF:a∈F i:=by rw [hF]; simp
  have hsub:∀ b∈a :: G',b∈F i:=fun b hb=>by
    rw [hF]
    rcases List.mem_cons.mp hb with rfl | hb
    · simp
    · simp [g1 b hb]
  refine d σ _ (own1 F i (a :: G')) (frm_chg (fun b u h=>h) (fun j b hb=>hb) haF fun b hb=>.inr ⟨i,hsub b hb⟩) (Ag.chg (G:=[]) A hm haF (fun b hb=>.inl (hsub b hb)) (by simp) ?_)
  exact ⟨_,h1,a,_,G',rfl,upd_same,g2.put hH (fun z=>hn (g1 a z)),fun z=>hn (g1 a z),rfl⟩
end
end L2
namespace L2
open PySem PySem.Spec PyProof.Rows
section
variable {K:PySem.W.Frag} {B:Addr→Prop} {EX:PX→Hp→Prop} {H0 H H':Hp} {σ:St} {Γ Γ' Γ1 Γ2 Γ3:List Md} {ρ:List PV} {F F':Nat→List Addr} {R:List Addr} {k:Nat} {kd:Kd} {x:PV} {v:V} {te ta tb tc:TE} {tt:TT} {f fa fb fc fe:List PV→Rr PV} {c:List PV→Rr Bool} {Bd:TB} {hb:PV→Rr (List PV)}
end
section
variable {X:Cx}
end
end L2
namespace L2
open PySem PySem.Spec PyProof.Rows
theorem pLen_lst {xs:List PV}:pLen [.lst xs]=.ok (.int xs.length):=by simp [pLen]
theorem pIx_lst {xs:List PV} {k:Int} (h0:0≤k) (h1:k < xs.length):pIx (.lst xs) (.int k)=.ok (xs.getD k.toNat .non):=by
  simp only [pIx,atI,ixN_of h0 h1,Option.bind_some]
  rw [List.getD_eq_getElem?_getD,List.getElem?_eq_getElem (by omega)]
  rfl
section
variable {K:PySem.W.Frag} {B:Addr→Prop} {EX:PX→Hp→Prop} {H0 H H':Hp} {σ:St} {Γ Γ' Γ1 Γ2 Γ3:List Md} {ρ:List PV} {F F':Nat→List Addr} {R:List Addr} {te:TE} {f:List PV→Rr PV}
end
section
variable {X:Cx} {K:PySem.W.Frag}
end
structure Dat (n:Nat) (x:PV):Prop where
  nx:x.noX=true
  can:x.dat.canLay0=true
  dep:x.dat.depth≤n
theorem pIx_q {α:Type} {q:α→PV} {L:List α} {k:Int} {d:α} (h0:0≤k) (h1:k < L.length):pIx (.lst (L.map q)) (.int k)=.ok (q (L.getD k.toNat d)):=by
  rw [pIx_lst h0 (by simpa using h1),List.getD_eq_getElem?_getD,List.getD_eq_getElem?_getD,List.getElem?_map,List.getElem?_eq_getElem (by omega)]
  rfl
section
variable {K:PySem.W.Frag} {EX:PX→Hp→Prop} {Γ Γ':List Md} {ta:TA} {fa:List PV→Rr (List PV)}
end
theorem us1 {α:Type} {us:List α} (h:us.length=1):∃ a,us=[a]:=match us,h with | [a],_=>⟨a,rfl⟩
theorem us2 {α:Type} {us:List α} (h:us.length=2):∃ a b,us=[a,b]:=match us,h with | [a,b],_=>⟨a,b,rfl⟩
theorem us3 {α:Type} {us:List α} (h:us.length=3):∃ a b c,us=[a,b,c]:=match us,h with | [a,b,c],_=>⟨a,b,c,rfl⟩
end L2
namespace L2
open PySem PySem.Spec PyProof.Rows
section
variable {prog:Program} {w:World} {A:Around} {s:Shared} {R:Result→Shared→Prop}
variable {I:Addr} {fp wr:List Addr} {G:Array GenState→Array GenState→Prop} {n:Nat} {P:Nat→Value→Prop} {St:Nat→Shared→Prop}
end
section
variable {prog:Program} {w:World} {A:Around} {E:Value→Shared→Prop} {s:Shared}
variable {I:Addr} {fp wr:List Addr} {G:Array GenState→Array GenState→Prop} {n:Nat} {P:Nat→Value→Prop} {St:Nat→Shared→Prop}
end
section
variable {X:Cx} {K:PySem.W.Frag} {e:Expr} {te:TE} {n1 n2 pos pos':Pos}
end
section
variable {K:PySem.W.Frag} {B:Addr→Prop} {EX:PX→Hp→Prop} {H0 H H':Hp} {σ:St} {Γ Γ':List Md} {ρ:List PV} {F F':Nat→List Addr} {R:List Addr} {te:TE} {f:List PV→Rr PV} {S:Addr→Prop}
end
end L2
namespace L2
open PySem PySem.Spec PyProof.Rows
section
variable {K:PySem.W.Frag} {n:Nat} {m:List PV→Rr PV} {ta:TA} {Γ Γ':List Md} {fa:List PV→Rr (List PV)} {E:XK}
end
end L2
namespace L2
open PySem PySem.Spec PyProof.Rows
end L2
namespace L2
open PySem PySem.Spec PyProof.Rows
section
variable {X:Cx}
end
section
variable {K:PySem.W.Frag} {B:Addr→Prop} {EX:PX→Hp→Prop} {H0 H H':Hp} {σ:St} {Γ Γ' Γ1 Γ2 Γ3:List Md} {ρ:List PV} {F F':Nat→List Addr} {R:List Addr} {te:TE} {f:List PV→Rr PV}
end
end L2
namespace L2
open PySem PySem.Spec PyProof.Rows
section
variable {K:PySem.W.Frag} {B:Addr→Prop} {EX:PX→Hp→Prop} {H0 H H':Hp} {σ:St} {Γ Γ' Γ1 Γ2 Γ3:List Md} {ρ:List PV} {F F':Nat→List Addr} {R:List Addr} {te tb:TE} {f fb:List PV→Rr PV}
end
end L2
namespace L2
open PySem PySem.Spec PyProof.Rows
section
variable {X:Cx} {K:PySem.W.Frag} {e tg:Expr} {te:TE} {n2 pos':Pos}
end
section
variable {K:PySem.W.Frag} {B:Addr→Prop} {EX:PX→Hp→Prop} {H0 H H':Hp} {σ:St} {Γ Γ':List Md} {ρ:List PV} {F F':Nat→List Addr} {R:List Addr} {te:TE} {f:List PV→Rr PV}
end
end L2
namespace L2
open PySem PySem.Spec PyProof.Rows
section
variable {X:Cx} {K:PySem.W.Frag}
end
section
variable {K:PySem.W.Frag} {EX:PX→Hp→Prop} {Γ Γ1 Γ2:List Md} {te:TE} {ta:TA} {f:List PV→Rr PV} {fa:List PV→Rr (List PV)}
end
end L2
namespace L2
open PySem PySem.Spec PyProof.Rows
section
variable {K:PySem.W.Frag} {B:Addr→Prop} {EX:PX→Hp→Prop} {H0 H H':Hp} {σ:St} {Γ Γ' Γ1 Γ2:List Md} {ρ:List PV} {F F':Nat→List Addr} {R:List Addr}
end
section
variable {P:Program} {w:World} {K:PySem.W.Frag} {mg:Str→Option Value} {base:Heap}
end
section
variable {K:PySem.W.Frag} {EX:PX→Hp→Prop} {Γ Γ' Γ1 Γ2:List Md} {c d:TT} {fc fd:List PV→Rr Bool} {ta:TA} {fa:List PV→Rr (List PV)} {Y:Tys} {t u:TS} {g g':List PV→RS} {n:Nat} {m:List PV→Rr PV}
end
section
variable {K:PySem.W.Frag} {H:Hp}
variable {Γ Γ1 Γ2:List Md} {i:Nat} {tp:TE} {ix:List PV→Rr (List Int)} {EX:PX→Hp→Prop} {k:Kd}
end
section
variable {X:Cx}
end
section
variable {K:PySem.W.Frag} {EX:PX→Hp→Prop} {Γ Γ':List Md} {ta:TA} {fa:List PV→Rr (List PV)}
end
section
variable {K:PySem.W.Frag} {EX:PX→Hp→Prop} {Γ:List Md} {tt:TT} {c:List PV→Rr Bool}
end
noncomputable def frz (m:Md):Md:=if m=.O ∨ m=.T then .S else m
section
variable {K:PySem.W.Frag} {B:Addr→Prop} {EX:PX→Hp→Prop} {H0 H H':Hp} {σ:St} {Γ:List Md} {ρ:List PV} {F:Nat→List Addr} {R:List Addr} {tt:TT} {c:List PV→Rr Bool} {te:TE} {fe:List PV→Rr PV}
end
section
variable {K:PySem.W.Frag} {B:Addr→Prop} {EX:PX→Hp→Prop} {H0 H H':Hp} {σ:St} {Γ Γ' Γ1 Γ2:List Md} {ρ:List PV} {F F':Nat→List Addr} {R:List Addr} {te tb:TE} {f fb:List PV→Rr PV} {S:Addr→Prop}
end
end L2
namespace HL
open PySem PyProof.Rows
section
open PySem.SeqAt
open PySem.AutoSeq1 (wpAny_loadPart')
open PySem.MeetsSeq PySem.MeetsSeq2 PySem.MeetsSeq3 SeqRoads2
end
section
variable {prog:Program} {w:World} {A:Around} {E:Value→Shared→Prop} {s:Shared}
end
end HL
namespace L2
open PySem PySem.Spec PyProof.Rows
section
variable {X:Cx} {K:PySem.W.Frag}
end
section
variable {X:Cx} {C:Addr} {tb:(St→XK)→TS} {th:TS} {c:Str} {np hpos pos:Pos} {body suite:List Stmt} {b₀:Stmt}
end
section
variable {K:PySem.W.Frag} {EX:PX→Hp→Prop} {Γ Γs:List Md} {Y:Tys} {tb:(St→XK)→TS} {th:TS} {gb gh:List PV→RS} {C:Addr} {L:List Str}
end
section
variable {K:PySem.W.Frag} {EX:PX→Hp→Prop} {Γ Γ1 Γ2:List Md} {tb tc:TE} {fb fc:List PV→Rr PV}
end
end L2
namespace L2
open PySem PySem.Spec PyProof.Rows
section
variable {K:PySem.W.Frag} {B:Addr→Prop} {EX:PX→Hp→Prop} {H0 H H':Hp} {σ:St} {Γ Γ' Γ1 Γ2:List Md} {ρ:List PV} {F F':Nat→List Addr} {R:List Addr}
end
section
variable {K:PySem.W.Frag} {B:Addr→Prop} {EX:PX→Hp→Prop} {H0 H H':Hp} {σ:St} {Γ Γb Γ0 Γf Γn Γ1 Γ2:List Md} {ρ:List PV} {F:Nat→List Addr} {L v x:Nat} {a:Addr} {vs:List V} {xs:List PV} {G Gx:List Addr}
end
end L2
namespace L2
open PySem PySem.Spec PyProof.Rows
section
variable {M:Model} {A:Around} {E:Value→Shared→Prop} {s:Shared}
end
section
variable {X:Cx} {pins:List (Addr × Obj)} {σ:St} {s₂:Shared} {H₂:Hp} {scope:Scope} {x:Str} {tg elt iter:Expr} {ifs:List Expr} {pos:Pos} {Bd:TB} {tt:TT} {te:TE} {J:It} {fp:List Addr} {it:Addr} {tn:Nat→Heap→Prop}
end
end L2
namespace L2
open PySem PySem.Spec PyProof.Rows
section
variable {K:PySem.W.Frag} {EX:PX→Hp→Prop} {Γ Γ1 Γ2 Γ3:List Md} {k:Kd} {te:TE} {f:List PV→Rr PV}
end
end L2
namespace L2
open PySem PySem.Spec PyProof.Rows
noncomputable abbrev rAddS:R2:=fun x y H Q=>∃ i j,x=.str i∧y=.str j∧i.length + j.length≤sizeLine∧Q (.str (i ++ j)) H
noncomputable abbrev rInS:R2:=fun x y H Q=>∃ i j,x=.str i∧y=.str j∧Q (.bl (!(Builtin.Str.occurrences j i 0 j.length 1).isEmpty)) H
noncomputable abbrev rStrI:List V→Hp→VK→Prop:=fun xs H Q=>∃ i,xs=[.int i]∧i.natAbs.log2 < 1920∧Q (.str (toString i)) H
noncomputable def rIntS:List V→Hp→VK→Prop:=fun xs H Q=>∃ x n,xs=[.str x]∧PySem.intText? x=some n∧x.length≤640∧Q (.int n) H
noncomputable abbrev rLenS:List V→Hp→VK→Prop:=fun xs H Q=>∃ z,xs=[.str z]∧z.length≤sizeLine∧Q (.int z.length) H
noncomputable def pAddS (x y:PV):Rr PV:=match x,y with
  | .str a,.str b=>if a.length + b.length≤1000000 then .ok (.str (a ++ b)) else .bad
  | _,_=>.bad
noncomputable def inS (i j:Str):Bool:=!(Builtin.Str.occurrences j i 0 j.length 1).isEmpty
noncomputable def pInS (x y:PV):Rr PV:=match x,y with
  | .str a,.str b=>.ok (.bl (inS a b))
  | _,_=>.bad
noncomputable def pStrI (xs:List PV):Rr PV:=match xs with
  | [.int i]=>if i.natAbs.log2 < 1920 then .ok (.str (toString i)) else .bad
  | _=>.bad
noncomputable def pIntS (xs:List PV):Rr PV:=match xs with
  | [.str x]=>match PySem.intText? x with
    | some n=>if x.length≤640 then .ok (.int n) else .bad
    | none=>.bad
  | _=>.bad
noncomputable def asS (x:PV):Rr Str:=match x with
  | .str z=>.ok z
  | _=>.bad
noncomputable def pLenS (xs:List PV):Rr PV:=match xs with
  | [.str x]=>if x.length≤1000000 then .ok (.int x.length) else .bad
  | _=>.bad
noncomputable def pIxS (x y:PV):Rr PV:=match x,y with
  | .str z,.int i=>if z.length≤1000000 then (match atI z.cps.toList i with | some c=>.ok (.str ⟨#[c]⟩) | none=>.bad) else .bad
  | _,_=>.bad
section
variable {X:Cx} {x:Str} {pos:Pos}
theorem pe_globS {z:Str} (hm:∃ t,X.mg x=some (.str z t)) (hg:Gl X x) (hd:(x == ("__debug__":Str))=false:=by decide):PE X (.Name x pos) (tC (.str z)):=by
  obtain ⟨t,hm⟩:=hm
  exact pe_glob (v:=.str z) hg hm ⟨t,rfl⟩ hd
theorem call_intS:CallR X (.type "int") rIntS:=by
  intro pins s σ H xs us Q I r h
  obtain ⟨x,n,rfl,hn,hl,q⟩:=h
  obtain ⟨u,rfl,rx⟩:=vals1 r
  obtain ⟨t,rfl⟩:=rx
  exact PySem.W.KIN.call_text hn hl ⟨.int n,H,I.tok _,⟨_,rfl⟩,q⟩
end
section
variable {K:PySem.W.Frag} {B:Addr→Prop} {EX:PX→Hp→Prop} {H0 H H':Hp} {σ:St} {Γ Γ' Γ1 Γ2 Γ3:List Md} {ρ:List PV} {F F':Nat→List Addr} {R:List Addr} {te tb ta':TE} {ta:TA} {f fb fa':List PV→Rr PV} {fa:List PV→Rr (List PV)}
theorem mil_line {n:Nat} (h:n≤1000000):n≤sizeLine:=line_mil h
theorem de_addS (ha:DE K EX Γ Γ1 .A te f) (hb:DE K EX Γ1 Γ2 .A tb fb):DE K EX Γ Γ2 .P (tOp rAddS te tb) (fun ρ=>(f ρ).bind fun x=>(fb ρ).bind fun y=>pAddS x y):=fun B H0 H σ ρ F R Q A d=>by
  refine two ha hb A d.bind2 fun x y v w H' F' d s hF p1 p2 A'=>?_
  unfold pAddS at d
  split at d
  · rename_i a b
    split at d
    · rename_i h
      cases p1; cases p2
      exact ⟨_,_,rfl,rfl,mil_line h,d _ H' s ⟨F',hF,rfl,rfl,A'⟩⟩
    · exact d.elim
  · exact d.elim
theorem de_inS (ha:DE K EX Γ Γ1 .A te f) (hb:DE K EX Γ1 Γ2 .A tb fb):DE K EX Γ Γ2 .P (tOp rInS te tb) (fun ρ=>(f ρ).bind fun x=>(fb ρ).bind fun y=>pInS x y):=fun B H0 H σ ρ F R Q A d=>by
  refine two ha hb A d.bind2 fun x y v w H' F' d s hF p1 p2 A'=>?_
  unfold pInS at d
  split at d
  · cases p1; cases p2
    exact ⟨_,_,rfl,rfl,d _ H' s ⟨F',hF,rfl,rfl,A'⟩⟩
  · exact d.elim
theorem de_ixS (ha:DE K EX Γ Γ1 .A ta' fa') (hb:DE K EX Γ1 Γ2 .A tb fb):DE K EX Γ Γ2 .P (tOp rIxS ta' tb) (fun ρ=>(fa' ρ).bind fun x=>(fb ρ).bind fun y=>pIxS x y):=fun B H0 H σ ρ F R Q A d=>by
  refine two ha hb A d.bind2 fun x y v w H' F' d s hF p1 p2 A'=>?_
  unfold pIxS at d
  split at d
  · split at d
    · rename_i h
      split at d
      · rename_i c e
        cases p1; cases p2
        exact ⟨_,_,c,rfl,rfl,mil_line h,e,d _ H' s ⟨F',hF,rfl,rfl,A'⟩⟩
      · exact d.elim
    · exact d.elim
  · exact d.elim
theorem de_strI (ha:DAA K EX Γ Γ' ta fa):DE K EX Γ Γ' .P (tCB rStrI ta) (fun ρ=>(fa ρ).bind pStrI):=by
  refine de_cb (fun {H xs vs Q} h z e=>?_) (fun xs e h=>?_) ha
  · unfold pStrI at e
    split at e <;> first | (cases e; done) | skip
    split at e <;> first | (cases e; done) | skip
    rename_i hl
    cases e
    obtain ⟨v,rfl,h1⟩:=reps1 h
    cases h1
    exact ⟨rfl,fun q=>⟨_,rfl,hl,q _ rfl⟩⟩
  · unfold pStrI at h; split at h <;> first | (cases h; done) | skip
    split at h <;> cases h
theorem de_intS (ha:DAA K EX Γ Γ' ta fa):DE K EX Γ Γ' .P (tCB rIntS ta) (fun ρ=>(fa ρ).bind pIntS):=by
  refine de_cb (fun {H xs vs Q} h z e=>?_) (fun xs e h=>?_) ha
  · unfold pIntS at e
    split at e <;> first | (cases e; done) | skip
    split at e <;> first | (cases e; done) | skip
    split at e <;> first | (cases e; done) | skip
    rename_i n hn hl
    cases e
    obtain ⟨v,rfl,h1⟩:=reps1 h
    cases h1
    exact ⟨rfl,fun q=>⟨_,n,rfl,hn,hl,q _ rfl⟩⟩
  · unfold pIntS at h; split at h <;> first | (cases h; done) | skip
    split at h <;> first | (cases h; done) | skip
    split at h <;> cases h
theorem de_lenS (ha:DAA K EX Γ Γ' ta fa):DE K EX Γ Γ' .P (tCB rLenS ta) (fun ρ=>(fa ρ).bind pLenS):=by
  refine de_cb (fun {H xs vs Q} h z e=>?_) (fun xs e h=>?_) ha
  · unfold pLenS at e
    split at e <;> first | (cases e; done) | skip
    split at e <;> first | (cases e; done) | skip
    rename_i hl
    cases e
    obtain ⟨v,rfl,h1⟩:=reps1 h
    cases h1
    exact ⟨rfl,fun q=>⟨_,rfl,mil_line hl,q _ rfl⟩⟩
  · unfold pLenS at h; split at h <;> first | (cases h; done) | skip
    split at h <;> cases h
end
noncomputable def Its (z:Str):It:=⟨fun i _=>i < z.cps.size,fun i H x H'=>H'=H∧∃ c,z.cps[i]?=some c∧x=.str ⟨#[c]⟩,fun i _=>z.cps.size≤i⟩
theorem turn_strA {P:Program} {w:World} {K:PySem.W.Frag} {tg:Expr} (it:Addr) (z:Str) (t:Tok):Turn P w K tg (Its z) [it] it (fun i h=>h.IsStrIter it "str_ascii_iterator" z t i) where
  mem:=by simp
  obj:=fun i h st b hb=>by
    have e:b=it:=by simpa using hb
    subst e
    obtain ⟨o,e,c,d⟩:=st
    exact ⟨o,e,fun v z=>by rw [d] at z; cases z⟩
  keep:=fun i h h' st k=>by
    obtain ⟨o,e,c,d⟩:=st
    exact ⟨o,k it (by simp) o e,c,d⟩
  item:=by
    intro X hP hw hK hc i pins s σ H E I hf st hg
    subst hP hw hK
    have hg:i < z.cps.size:=hg
    obtain ⟨f0,f1,f2,f3,f4,f5⟩:=hf it (by simp)
    have hc':z.cps[i]?=some (z.cps[i]):=by simp [hg]
    refine wpAny_pyNext_ascii_item st hc' fun h' st' sb=>?_
    have I1:Inv X pins σ H { s with heap:=h',toks:=s.toks + 1 }:=I.turned (t':=s.toks + 1) (fun b o hb e=>(sb.2 b hb).trans e) f0 f1 f3 f4 f5
    obtain ⟨o,e,c,d⟩:=id st'
    exact ⟨_,rfl,go_of (s:={ s with heap:=h',toks:=s.toks + 1 }) e c d (by decide) ⟨.str ⟨#[z.cps[i]]⟩,H,I1,⟨_,rfl⟩,⟨rfl,_,hc',rfl⟩,st',fun b hb=>(hf b hb).1⟩⟩
  done:=by
    intro X hP hw hK hc i pins s σ H E I hf st hg
    subst hP hw hK
    have hg:z.cps.size≤i:=hg
    obtain ⟨f0,f1,f2,f3,f4,f5⟩:=hf it (by simp)
    exact wpAny_pyNext_ascii_end (I.ok.hd hc) st (by simp; omega) fun h' eb=>⟨rfl,I.turned (t':=s.toks) (fun b o hb e=>eb b o hb e) f0 f1 f3 f4 f5⟩
  self:=fun _ _ _ _ _ st h=>wpAny_pyIter_striter_ascii st h
theorem turn_strW {P:Program} {w:World} {K:PySem.W.Frag} {tg:Expr} (it:Addr) (z:Str) (t:Tok):Turn P w K tg (Its z) [it] it (fun i h=>h.IsStrIter it "str_iterator" z t i) where
  mem:=by simp
  obj:=fun i h st b hb=>by
    have e:b=it:=by simpa using hb
    subst e
    obtain ⟨o,e,c,d⟩:=st
    exact ⟨o,e,fun v z=>by rw [d] at z; cases z⟩
  keep:=fun i h h' st k=>by
    obtain ⟨o,e,c,d⟩:=st
    exact ⟨o,k it (by simp) o e,c,d⟩
  item:=by
    intro X hP hw hK hc i pins s σ H E I hf st hg
    subst hP hw hK
    have hg:i < z.cps.size:=hg
    obtain ⟨f0,f1,f2,f3,f4,f5⟩:=hf it (by simp)
    have hc':z.cps[i]?=some (z.cps[i]):=by simp [hg]
    refine wpAny_pyNext_wide_item st hc' fun h' st' sb=>?_
    have I1:Inv X pins σ H { s with heap:=h',toks:=s.toks + 1 }:=I.turned (t':=s.toks + 1) (fun b o hb e=>(sb.2 b hb).trans e) f0 f1 f3 f4 f5
    obtain ⟨o,e,c,d⟩:=id st'
    exact ⟨_,rfl,go_of (s:={ s with heap:=h',toks:=s.toks + 1 }) e c d (by decide) ⟨.str ⟨#[z.cps[i]]⟩,H,I1,⟨_,rfl⟩,⟨rfl,_,hc',rfl⟩,st',fun b hb=>(hf b hb).1⟩⟩
  done:=by
    intro X hP hw hK hc i pins s σ H E I hf st hg
    subst hP hw hK
    have hg:z.cps.size≤i:=hg
    obtain ⟨f0,f1,f2,f3,f4,f5⟩:=hf it (by simp)
    exact wpAny_pyNext_wide_end (I.ok.hd hc) st (by simp; omega) fun h' eb=>⟨rfl,I.turned (t':=s.toks) (fun b o hb e=>eb b o hb e) f0 f1 f3 f4 f5⟩
  self:=fun _ _ _ _ _ st h=>wpAny_pyIter_striter_wide st h
noncomputable def iStr (tl:TE):TI:=fun σ H R=>tl σ H fun x H1=>∃ z,x=.str z∧R (Its z) H1
theorem pi_str {X:Cx} {tg l:Expr} {tl:TE} (hl:PE X l tl):PI X tg l (iStr tl):=by
  intro pins s σ H R I h
  refine thn (hl pins s σ H _ I h) fun v s1 ⟨x,H1,I1,r1,q1⟩=>?_
  obtain ⟨z,rfl,q⟩:=q1
  obtain ⟨t,rfl⟩:=r1
  have fp:∀ b∈[s1.heap.objs.size],FpOk X pins H1 b:=fun b hb=>by
    have e:b=s1.heap.objs.size:=by simpa using hb
    subst e
    exact I1.fpOk (Nat.le_refl _) (I1.hok.fresh (Nat.le_refl _))
  cases ha:z.cps.all (· < 128)
  · exact wpAny_pyIter_wide ha ⟨s1.heap.objs.size,[s1.heap.objs.size],_,_,H1,rfl,I1.kept (t':=s1.toks) fun b o e=>Heap.get?_push_of_some _ e,turn_strW _ z t,⟨_,Heap.get?_push_size _ rfl,rfl,rfl⟩,fp,q⟩
  · exact wpAny_pyIter_ascii ha ⟨s1.heap.objs.size,[s1.heap.objs.size],_,_,H1,rfl,I1.kept (t':=s1.toks) fun b o e=>Heap.get?_push_of_some _ e,turn_strA _ z t,⟨_,Heap.get?_push_size _ rfl,rfl,rfl⟩,fp,q⟩
noncomputable def asCh (x:PV):Rr (List PV):=match x with
  | .str z=>.ok (z.cps.toList.map fun c=>PV.str ⟨#[c]⟩)
  | _=>.bad
section
variable {K:PySem.W.Frag} {H:Hp} {EX:PX→Hp→Prop} {Γ Γ':List Md} {te:TE} {f:List PV→Rr PV}
theorem itp_str {z:Str} {S:Addr→Prop}:ItP K S (Its z) (z.cps.toList.map fun c=>PV.str ⟨#[c]⟩) H:=by
  intro i
  constructor
  · intro x hx
    rw [List.getElem?_map] at hx
    obtain ⟨c,hc,rfl⟩:=Option.map_eq_some_iff.mp hx
    have hc:z.cps[i]?=some c:=by simpa using hc
    refine ⟨(Array.getElem?_eq_some_iff.mp hc).1,fun v H' ⟨e,c',y,hv⟩=>?_⟩
    subst e
    rw [hc] at y; cases y
    subst hv
    exact ⟨Same.refl _,rfl⟩
  · intro hx
    have:=List.getElem?_eq_none_iff.mp hx
    show z.cps.size≤i
    simpa using this
theorem di_str (he:DE K EX Γ Γ' .A te f):DI K EX Γ Γ' (iStr te) (fun ρ=>(f ρ).bind asCh):=fun B H0 H σ ρ F R Q A d=>by
  refine he B H0 H σ ρ F R _ A (d.bind.imp (fun x _ d v H1 s1 r1=>?_) fun e q=>q)
  obtain ⟨F1,f1,p1,A1⟩:=r1
  cases x with
  | str z =>
    cases p1
    exact ⟨z,rfl,d _ H1 F1 s1 f1 A1 fun H2 F2 _=>itp_str⟩
  | _=>exact d.elim
end
section
variable {prog:Program} {w:World} {A:Around} {E:Value→Shared→Prop} {s:Shared} {x y:Str} {t u:Tok} {Q:Value→Shared→Prop}
open Builtin Builtin.Str
theorem split_push (hy:(y.length == 0)=false)
    (h:∀ (l:List (Str × Tok)) (k:Nat),l.map (·.1)=Txt.split x y→Q (.ref s.heap.objs.size) { s with heap:=s.heap.push { cls:=.type "list",data:=.seq (strValues l).toArray },toks:=k })
    (hsz:x.length + 2≤sizeLine):wpAny (model prog w) A (call (.builtin "str.split") [.str x t,.str y u]) Q E s:=by
  have hn:(partsBetween x (occurrences x y 0 x.length (x.length + 1)) y.length).length≤sizeLine:=by
    have e1:=StrLaws.occ_length_le x y 0 x.length (x.length + 1)
    rw [length_partsBetween]; omega
  cases h1:(decide (x.length < y.length) || decide (strKind x < strKind y))
  · cases hf:(occurrences x y 0 x.length (x.length + 1)).isEmpty
    · refine call_meets F.slot_str_split (typeIs_str _ _ _) F.entry_str_split (F.args_str_split_2 _ _) (meets_str_split_sep x y t u h1 hy hf (by omega) hn) ?_
      show wants Q E _ { s with toks:=_,heap:=s.heap.push { cls:=.type "list",data:=.seq (strsFrom s.toks (partsBetween x (occurrences x y 0 x.length (x.length + 1)) y.length)).toArray } }
      rw [strsFrom_eq]
      exact h (numbered s.toks _) _ ((numbered_texts _ _).trans ((if_neg (ne_true_of_eq_false h1)).trans (if_neg (ne_true_of_eq_false hf))).symm)
    · exact call_meets F.slot_str_split (typeIs_str _ _ _) F.entry_str_split (F.args_str_split_2 _ _) (meets_str_split_not_found x y t u h1 hy hf)
        (h [(x,t)] s.toks ((if_neg (ne_true_of_eq_false h1)).trans (if_pos hf)).symm)
  · exact call_meets F.slot_str_split (typeIs_str _ _ _) F.entry_str_split (F.args_str_split_2 _ _) (meets_str_split_cannot_occur x y t u h1)
      (h [(x,t)] s.toks (if_pos h1).symm)
theorem strs_vals:∀ (l:List (Str × Tok)),Vals ((l.map (·.1)).map V.str) (strValues l)
  | []=>.nil
  | p :: l=>.cons ⟨_,rfl⟩ (strs_vals l)
theorem vals_strs:∀ {ss:List Str} {us:List Value},Vals (ss.map V.str) us→StrsAre us ss
  | [],_,.nil=>.nil
  | _ :: _,_,.cons ⟨t,e⟩ h=>by subst e; exact .cons _ _ (vals_strs h)
end
noncomputable def rSplit:V→List V→Hp→VK→Prop:=fun x xs H Q=>∃ a b,x=.str a∧xs=[.str b]∧1≤b.length∧a.length + 2≤sizeLine∧(Txt.split a b).length≤sizeLine∧∀ l,H l=none→Q (.ref l) (upd H l (.lst ((Txt.split a b).map V.str)))
noncomputable def rJoin (K:PySem.W.Frag):V→List V→Hp→VK→Prop:=fun x xs H Q=>∃ a p ss,x=.str a∧xs=[.ref p]∧SqL K H p (ss.map V.str)∧(ss.map (·.length)).sum + ss.length * a.length≤16777216∧Q (.str (Txt.join a ss)) H
section
variable {X:Cx} {K:PySem.W.Frag}
theorem mt_split:MtR X "str.split" rSplit:=by
  intro pins s σ H x xs v us Q I rx r h
  obtain ⟨a,b,rfl,rfl,hb,hl,hn,q⟩:=h
  obtain ⟨t,rfl⟩:=rx
  obtain ⟨u,rfl,ru⟩:=vals1 r
  obtain ⟨t',rfl⟩:=ru
  refine split_push (by rw [beq_eq_false_iff_ne]; omega) (fun l k e=>?_) hl
  have hv:=strs_vals l
  rw [e] at hv
  exact ⟨.ref s.heap.objs.size,_,I.laid (t':=k) (fun b o e=>Heap.get?_push_of_some _ e) (Nat.le_refl _) (show ObjOk X.prog X.w _ _ _ (.lst ((Txt.split a b).map V.str)) from ⟨by rw [List.length_map]; exact hn,_,0,hv,Heap.get?_push_size _ rfl⟩),rfl,q _ (I.hok.fresh (Nat.le_refl _))⟩
theorem mt_join (e:X.K=K:=by rfl):MtR X "str.join" (rJoin K):=by
  subst e
  intro pins s σ H x xs v us Q I rx r h
  obtain ⟨a,p,ss,rfl,rfl,hq,hl,q⟩:=h
  obtain ⟨t,rfl⟩:=rx
  obtain ⟨u,rfl,ru⟩:=vals1 r
  cases ru
  obtain ⟨its,rv,pl,hz⟩:=I.list hq
  exact PyProof.Rows.join_list pl.isList (by simpa using vals_strs rv) hl fun t' k=>⟨.str _,H,I.tok k,⟨_,rfl⟩,q⟩
end
noncomputable def strsOf:List PV→Option (List Str)
  | []=>some []
  | .str z :: xs=>(strsOf xs).map (z :: ·)
  | _ :: _=>none
theorem strsOf_map (ss:List Str):strsOf (ss.map PV.str)=some ss:=by
  induction ss with
  | nil=>rfl
  | cons n ns ih=>simp [strsOf,ih]
theorem strsOf_eq:∀ {xs:List PV} {ss:List Str},strsOf xs=some ss→xs=ss.map PV.str
  | [],_,h=>by cases h; rfl
  | .str z :: xs,ss,h=>by
    simp only [strsOf,Option.map_eq_some_iff] at h
    obtain ⟨l,e,rfl⟩:=h
    rw [strsOf_eq e]; rfl
  | .non :: _,_,h=>by simp [strsOf] at h
  | .bl _ :: _,_,h=>by simp [strsOf] at h
  | .int _ :: _,_,h=>by simp [strsOf] at h
  | .exc _ :: _,_,h=>by simp [strsOf] at h
  | .lst _ :: _,_,h=>by simp [strsOf] at h
  | .tup _ :: _,_,h=>by simp [strsOf] at h
noncomputable def pSplit (a:Str) (as:List PV):Rr PV:=match as with
  | [.str b]=>if 1≤b.length∧a.length≤100000∧(Txt.split a b).length≤1000000 then .ok (.lst ((Txt.split a b).map PV.str)) else .bad
  | _=>.bad
noncomputable def pJoin (a:Str) (as:List PV):Rr PV:=match as with
  | [.lst xs]=>match strsOf xs with
    | some ss=>if (ss.map (·.length)).sum + ss.length * a.length≤1000000 then .ok (.str (Txt.join a ss)) else .bad
    | none=>.bad
  | _=>.bad
theorem flats_str:∀ {ss:List Str},PV.flats (ss.map PV.str)=true
  | []=>rfl
  | n :: ns=>by simp only [List.map_cons,PV.flats,PV.flat,flats_str,Bool.and_self]
section
variable {K:PySem.W.Frag} {H:Hp} {EX:PX→Hp→Prop} {Γ Γ1 Γ2:List Md} {te tb:TE} {ta:TA} {f fb:List PV→Rr PV} {fa:List PV→Rr (List PV)}
theorem reps_str {S:Addr→Prop}:∀ (ss:List Str),Reps K H S (ss.map PV.str) (ss.map V.str)
  | []=>rfl
  | z :: ss=>⟨_,_,rfl,rfl,reps_str ss⟩
theorem reps_str_eq {S:Addr→Prop}:∀ {ss:List Str} {vs:List V},Reps K H S (ss.map PV.str) vs→vs=ss.map V.str
  | [],_,h=>by cases h; rfl
  | z :: ss,_,h=>by
    obtain ⟨v,r,rfl,h1,h2⟩:=h
    cases h1
    rw [reps_str_eq h2]; rfl
theorem de_split (he:DE K EX Γ Γ1 .A te f) (ha:DAA K EX Γ1 Γ2 ta fa):DE K EX Γ Γ2 .F (tBM K "str" rSplit te ta) (fun ρ=>(f ρ).bind fun x=>(asS x).bind fun a=>(fa ρ).bind fun as=>pSplit a as):=fun B H0 H σ ρ F R Q A d=>by
  refine he B H0 H σ ρ F R _ A (d.bind.imp (fun x _ d v H1 s1 r1=>?_) fun e q=>q)
  obtain ⟨F1,f1,p1,A1⟩:=r1
  cases x with
  | str a =>
    cases p1
    refine ⟨rfl,ha B H0 H1 σ ρ F1 R _ A1 (Dn.imp (Dn.bind d) (fun as _ d us H2 F2 s2 f2 p2 A2=>?_) fun e q=>q)⟩
    unfold pSplit at d
    split at d
    · rename_i b _
      split at d
      · rename_i hc
        obtain ⟨u,rfl,hu⟩:=reps1 p2
        cases hu
        refine ⟨a,b,rfl,rfl,hc.1,line_mil (by omega),line_mil hc.2.2,fun l hl=>?_⟩
        exact d _ _ ((s1.trans s2).trans (Same.new hl)) (Res.newP (s1.trans s2) (fun i z h=>f1 i z (f2 i z h)) (reps_str (S:=fun _=>True) _) flats_str A2 hl)
      · exact d.elim
    · exact d.elim
  | _=>exact d.elim
theorem de_join (he:DE K EX Γ Γ1 .A te f) (ha:DAA K EX Γ1 Γ2 ta fa):DE K EX Γ Γ2 .P (tBM K "str" (rJoin K) te ta) (fun ρ=>(f ρ).bind fun x=>(asS x).bind fun a=>(fa ρ).bind fun as=>pJoin a as):=fun B H0 H σ ρ F R Q A d=>by
  refine he B H0 H σ ρ F R _ A (d.bind.imp (fun x _ d v H1 s1 r1=>?_) fun e q=>q)
  obtain ⟨F1,f1,p1,A1⟩:=r1
  cases x with
  | str a =>
    cases p1
    refine ⟨rfl,ha B H0 H1 σ ρ F1 R _ A1 (Dn.imp (Dn.bind d) (fun as _ d us H2 F2 s2 f2 p2 A2=>?_) fun e q=>q)⟩
    unfold pJoin at d
    split at d
    · rename_i xs _
      split at d
      · rename_i ss hs
        split at d
        · rename_i hc
          obtain ⟨u,rfl,b,vs,rfl,hn,hr⟩:=reps1 p2
          rw [strsOf_eq hs] at hr
          have:=reps_str_eq hr
          subst this
          exact ⟨a,b,ss,rfl,rfl,sq_of (S:=fun _=>True) hn,by omega,d _ H2 (s1.trans s2) ⟨F2,fun i z h=>f1 i z (f2 i z h),rfl,rfl,A2⟩⟩
        · exact d.elim
      · exact d.elim
    · exact d.elim
  | _=>exact d.elim
end
section
variable {K:PySem.W.Frag} {EX:PX→Hp→Prop} {Γ Γ1 Γ2:List Md} {te tb:TE} {f fb:List PV→Rr PV}
end
theorem asCh_ok {z:Str}:asCh (.str z)=.ok (z.cps.toList.map fun c=>PV.str ⟨#[c]⟩):=rfl
end L2
namespace L2
open PySem PySem.Spec PyProof.Rows
section
variable {K:PySem.W.Frag} {B:Addr→Prop} {EX:PX→Hp→Prop} {H0 H H':Hp} {σ:St} {Γ Γ' Γ1 Γ2 Γ3:List Md} {ρ:List PV} {F F':Nat→List Addr} {R:List Addr} {te tb:TE} {f fb:List PV→Rr PV}
end
end L2
namespace L2
open PySem PySem.Spec PyProof.Rows
section
variable {X:Cx}
end
section
variable {K:PySem.W.Frag} {B:Addr→Prop} {EX:PX→Hp→Prop} {H0 H H':Hp} {σ:St} {Γ Γ' Γ1 Γ2 Γ3:List Md} {ρ:List PV} {F F':Nat→List Addr} {R:List Addr} {ta:TA} {fa:List PV→Rr (List PV)}
end
end L2
namespace L2
open PySem PySem.Spec PyProof.Rows
section
variable {κ:Type} [DecidableEq κ]
noncomputable def valV (kvs:List (κ × V)) (k:κ):Option V:=(kvs.find? fun kv=>decide (kv.1=k)).map (·.2)
theorem valV_pos {p:κ × V} {r:List (κ × V)} {k:κ} (e:p.1=k):valV (p :: r) k=some p.2:=by simp [valV,List.find?_cons,e]
theorem valV_neg {p:κ × V} {r:List (κ × V)} {k:κ} (e:¬ p.1=k):valV (p :: r) k=valV r k:=by simp [valV,List.find?_cons,e]
theorem RelO.isSome_eq {o:Option V} {u:Option Value} (r:RelO o u):o.isSome=u.isSome:=by
  cases o with
  | none=>cases u with
    | none=>rfl
    | some _=>exact (show False from r).elim
  | some _=>cases u with
    | none=>exact (show False from r).elim
    | some _=>rfl
theorem KV.val {kvs:List (κ × V)} {vs:List (κ × Value)} (r:KV kvs vs) (k:κ):RelO (valV kvs k) (valueAt vs k):=by
  unfold KV at r
  induction r with
  | nil=>exact True.intro
  | @cons p q ps qs h t ih =>
    obtain ⟨h1,h2⟩:=h
    by_cases e:p.1=k
    · have e':q.1=k:=h1.symm.trans e
      have b:valueAt (q :: qs) k=some q.2:=by simp [valueAt,List.find?_cons,e']
      rw [valV_pos e,b]; exact h2
    · have e':¬ q.1=k:=fun z=>e (h1.trans z)
      have b:valueAt (q :: qs) k=valueAt qs k:=by simp [valueAt,List.find?_cons,e']
      rw [valV_neg e,b]; exact ih
end
theorem kV_is {P:Program} {w:World} {k:Key} {u:Value} (r:RelV (kV k) u):(mixKind P w).is k u=true:=by
  cases k with
  | inl i=>obtain ⟨t,e⟩:=(show ∃ t,u=Value.int i t from r); subst e; exact mixKind_int P w i t
  | inr x=>obtain ⟨t,e⟩:=(show ∃ t,u=Value.str x t from r); subst e; exact mixKind_str P w x t
theorem items_are {P:Program} {w:World}:∀ {ks:List Key} {us:List Value},Vals (ks.map kV) us→ItemsAre (mixKind P w) ks us
  | [],_,r=>by rw [List.map_nil] at r; cases r; exact .nil
  | k :: ks,_,r=>by
    rw [List.map_cons] at r
    cases r with
    | cons h t=>exact .cons (kV_is h) (items_are t)
noncomputable abbrev KT (H:Hp):List (List Key × V)→List (List Key × Addr × Value)→Prop:=Paired fun p q=>p.1=q.1∧H q.2.1=some (.tup (p.1.map kV))∧RelV p.2 q.2.2
theorem KT.val {H:Hp} {kvs:List (List Key × V)} {xs:List (List Key × Addr × Value)} (r:KT H kvs xs) (k:List Key):RelO (valV kvs k) ((atKey xs k).map (·.2)):=by
  induction r with
  | nil=>exact True.intro
  | @cons p q ps qs h t ih =>
    obtain ⟨h1,_,h2⟩:=h
    by_cases e:p.1=k
    · have e':q.1=k:=h1.symm.trans e
      have b:atKey (q :: qs) k=some q.2:=by simp [atKey,List.find?_cons,e']
      rw [valV_pos e,b]; exact h2
    · have e':¬ q.1=k:=fun z=>e (h1.trans z)
      have b:atKey (q :: qs) k=atKey qs k:=by simp [atKey,List.find?_cons,e']
      rw [valV_neg e,b]; exact ih
section
variable {P:Program} {w:World} {H:Hp} {h:Heap} {a:Addr}
theorem rd_of {u:HO} (ok:HOk P w H h) (e:Rd H a u):ObjOk P w H h a u:=e.ok ok
theorem dk_rd {kvs:List (Key × V)} (ok:HOk P w H h) (e:Rd H a (.dK kvs)):kvs.length≤sizeLine∧(a == sysModules)=false∧∃ vs,KV kvs vs∧h.DictOf (mixKind P w) a vs :=
  show ObjOk P w H h a (.dK kvs) from rd_of ok e
theorem key_of {ks:List Key} (ok:HOk P w H h) (e:H a=some (.tup (ks.map kV))):(tupleKind (mixKind P w)).is h ks a:=by
  obtain ⟨_,its,r,o,h1,h2,n,h3⟩:=(show ObjOk P w H h a (.tup (ks.map kV)) from ok a _ e)
  exact ⟨o,its.toArray,n,h1,h2,h3,by simpa using items_are r⟩
theorem dt_rd {kvs:List (List Key × V)} (ok:HOk P w H h) (e:Rd H a (.dT kvs)):kvs.length≤sizeLine∧(a == sysModules)=false ∧
    ∃ xs,KT H kvs xs∧h.DictOfH (tupleKind (mixKind P w)) a xs:=by
  obtain ⟨z,y,xs,r,o,es,ep,h1,h2,h3,h4,h5⟩:=(show ObjOk P w H h a (.dT kvs) from rd_of ok e)
  refine ⟨z,y,xs,r,o,es,ep,h1,h2,h3,h4,fun x hx=>?_,h5⟩
  have all:∀ {l:List (List Key × V)} {m:List (List Key × Addr × Value)},KT H l m→∀ x∈m,(tupleKind (mixKind P w)).is h x.1 x.2.1:=by
    intro l m q
    induction q with
    | nil=>intro x hx; exact nomatch hx
    | @cons p q ps qs hq t ih =>
      intro x hx
      rcases List.mem_cons.mp hx with e | hx
      · subst e
        exact key_of ok (by rw [← hq.1]; exact hq.2.1)
      · exact ih x hx
  exact all r x hx
end
noncomputable def DGet (H:Hp) (a:Addr) (y:V) (r:Option V):Prop :=
  (∃ kvs k,Rd H a (.dK kvs)∧y=kV k∧r=valV kvs k) ∨ ∃ kvs k b,Rd H a (.dT kvs)∧y=.ref b∧H b=some (.tup (k.map kV))∧r=valV kvs k
section
variable {X:Cx} {pins:List (Addr × Obj)} {σ:St} {H:Hp} {s:Shared} {a:Addr} {y v:V} {u r:Value} {o:Option V} {A:Around} {E:Value→Shared→Prop}
theorem Inv.big (I:Inv X pins σ H s):sysModules < s.heap.objs.size:=by
  have h:mainGlobals < s.heap.objs.size:=(I.mod.glob.keeps I.bk).lt
  exact Nat.lt_trans (by decide) h
theorem d_notIn {Q:Value→Shared→Prop} (hu:A.units + 1 < cLine) (I:Inv X pins σ H s) (g:DGet H a y o) (ry:RelV y u) (h:∀ s',Inv X pins σ H s'→Q (.bool (!o.isSome)) s') :
    wpAny (model X.prog X.w) A (compareOp .NotIn u (.ref a)) Q E s:=by
  rcases g with ⟨kvs,k,e,ey,l⟩ | ⟨kvs,k,b,e,ey,eb,l⟩
  · subst ey
    obtain ⟨z,hd,vs,rel,dd⟩:=dk_rd I.hok e
    refine wpAny_notIn_of (kV_is ry) hd dd.mapOf ?_
    rw [← (rel.val k).isSome_eq,← l]
    exact h _ (I.tok _)
  · subst ey
    cases (show u=Value.ref b from ry)
    obtain ⟨z,hd,xs,rel,dd⟩:=dt_rd I.hok e
    refine wpAny_notIn_heap (tupleKind_room_in1 hu) (key_of I.hok eb) hd dd ?_
    have q:=(rel.val k).isSome_eq
    rw [Option.isSome_map] at q
    rw [← q,← l]
    exact h _ (I.tok _)
end
section
variable {X:Cx} {pins:List (Addr × Obj)} {σ:St} {H:Hp} {s:Shared} {a:Addr} {kvs:List (Key × V)} {k:Key} {u:Value} {A:Around} {E:Value→Shared→Prop}
end
noncomputable def tDNotIn (ty td:TE):TE:=fun σ H Q=>ty σ H fun y H1=>td σ H1 fun x H2=>∃ a o,x=.ref a∧DGet H2 a y o∧Q (.bl (!o.isSome)) H2
section
variable {X:Cx} {o i e value:Expr} {pos pos' tpos:Pos} {td ty tv:TE}
theorem pc_dnotin (hu:X.A.units + 1 < cLine) (hi:PE X i ty) (ho:PE X o td):PC X .NotIn i o (tDNotIn ty td):=by
  intro pins s σ H Q I h
  refine thn (hi pins s σ H _ I h) fun iv s1 ⟨y,H1,I1,ry,q1⟩=>thn (ho pins s1 σ H1 _ I1 q1) fun u s2 ⟨x,H2,I2,rx,a,ov,ex,g,q2⟩=>?_
  subst ex
  obtain rfl:u=Value.ref a:=rx
  exact d_notIn hu I2 g ry fun s3 I3=>⟨.bl (!ov.isSome),H2,I3,rfl,q2⟩
end
theorem dk_empty {P:Program} {w:World} {H:Hp} (h:Heap) (hb:sysModules < h.objs.size):ObjOk P w H (h.push { cls:=.type "dict",data:=.dict #[] }) h.objs.size (.dK []) :=
  ⟨Nat.zero_le _,beq_eq_false_iff_ne.mpr (Ne.symm (Nat.ne_of_lt hb)),[],.nil,Heap.DictOf.new h⟩
noncomputable def tDNewK:TE:=fun _ H Q=>∀ p,H p=none→Q (.ref p) (upd H p (.dK []))
section
variable {X:Cx} {pos:Pos}
theorem pe_dnewK:PE X (.Dict [] [] pos) tDNewK:=fun pins s σ H Q I h =>
  wpAny_Dict_empty ⟨.ref s.heap.objs.size,_,I.laid (a:=s.heap.objs.size) (o:=.dK []) (t':=s.toks) (fun _ _ q=>Heap.get?_push_of_some _ q) (Nat.le_refl _) (dk_empty s.heap I.big),rfl,h _ (I.hok.fresh (Nat.le_refl _))⟩
end
section
variable {X:Cx} {pins:List (Addr × Obj)} {σ:St} {H:Hp} {s:Shared} {a:Addr} {y d:V} {u r:Value} {o:Option V} {A:Around} {E:Value→Shared→Prop}
end
section
variable {X:Cx} {o e f:Expr} {apos cpos:Pos} {td ty tx:TE}
end
section
variable {X:Cx} {pins:List (Addr × Obj)} {σ:St} {H:Hp} {s:Shared} {a:Addr} {kvs:List (Key × V)} {A:Around} {E:Value→Shared→Prop}
end
section
variable {X:Cx} {pins:List (Addr × Obj)} {σ:St} {H:Hp} {s:Shared} {a:Addr} {y:V} {u:Value} {A:Around} {E:Value→Shared→Prop}
end
end L2
namespace L2
open PySem PySem.Spec PyProof.Rows
noncomputable def keyP:Key→PV
  | .inl i=>.int i
  | .inr x=>.str x
noncomputable def keyOf:PV→Option Key
  | .int i=>some (.inl i)
  | .str x=>some (.inr x)
  | _=>none
noncomputable def keysOf:List PV→Option (List Key)
  | []=>some []
  | x :: xs=>match keyOf x,keysOf xs with
    | some k,some ks=>some (k :: ks)
    | _,_=>none
theorem keyOf_eq {x:PV} {k:Key} (h:keyOf x=some k):x=keyP k:=by
  cases x <;> first | (cases h; rfl) | cases h
theorem keysOf_eq:∀ {xs:List PV} {ks:List Key},keysOf xs=some ks→xs=ks.map keyP
  | [],ks,h=>by cases h; rfl
  | x :: xs,ks,h=>by
    unfold keysOf at h
    split at h
    · rename_i k ks' h1 h2
      cases h
      rw [keyOf_eq h1,keysOf_eq h2]; rfl
    · cases h
section
variable {K:PySem.W.Frag} {H:Hp} {S:Addr→Prop}
theorem rep_key {k:Key} {v:V} (h:Rep K H S (keyP k) v):v=kV k:=by cases k <;> exact h
theorem reps_keys:∀ {ks:List Key} {vs:List V},Reps K H S (ks.map keyP) vs→vs=ks.map kV
  | [],_,h=>h
  | k :: ks,_,h=>by
    obtain ⟨v,r,rfl,h1,h2⟩:=h
    rw [rep_key h1,reps_keys h2]; rfl
end
section
variable {κ:Type} [DecidableEq κ] {α β:Type}
noncomputable def atK:List κ→List α→κ→Option α
  | k' :: ks,x :: xs,k=>if k'=k then some x else atK ks xs k
  | _,_,_=>none
theorem valV_zip:∀ {ks:List κ} {vs:List V} {k:κ},ks.length=vs.length→valV (ks.zip vs) k=atK ks vs k
  | [],[],_,_=>rfl
  | k' :: ks,v :: vs,k,h=>by
    rw [List.zip_cons_cons]
    unfold atK
    by_cases e:k'=k
    · rw [valV_pos e,if_pos e]
    · rw [valV_neg e,if_neg e,valV_zip (by simpa using h)]
  | [],_ :: _,_,h=>by simp at h
  | _ :: _,[],_,h=>by simp at h
end
section
variable {κ:Type} [DecidableEq κ] {K:PySem.W.Frag} {H:Hp} {S:Addr→Prop}
theorem reps_atK:∀ {ks:List κ} {xs:List PV} {vs:List V} {k:κ},Reps K H S xs vs→match atK ks xs k with
    | some y=>∃ v,atK ks vs k=some v∧Rep K H S y v
    | none=>atK ks vs k=none
  | [],xs,vs,k,h=>by simp [atK]
  | k' :: ks,[],vs,k,h=>by rw [h]; simp [atK]
  | k' :: ks,x :: xs,vs,k,h=>by
    obtain ⟨v,r,rfl,h1,h2⟩:=h
    unfold atK
    by_cases e:k'=k
    · rw [if_pos e,if_pos e]; exact ⟨v,rfl,h1⟩
    · rw [if_neg e,if_neg e]; exact reps_atK h2
end
section
variable {K:PySem.W.Frag} {B:Addr→Prop} {EX:PX→Hp→Prop} {H0 H H':Hp} {σ:St} {Γ Γ' Γ1 Γ2 Γ3:List Md} {ρ:List PV} {F F':Nat→List Addr} {R:List Addr} {te ta tb tc:TE} {f fa fb fc:List PV→Rr PV} {k:Kd}
theorem Res.newBox {H1:Hp} {F1:Nat→List Addr} {s:Sh} {xs:List PV} {vs:List V} {u:HO} {p:Addr} {S:Addr→Prop} (s1:Same H H1) (f1:∀ i,∀ a∈F1 i,a∈F i) (hb:BoxO K s vs u) (p1:Reps K H1 S xs vs) (hx:PV.flats xs=true) (A1:Ag K B H0 H1 σ Γ' ρ F1 R) (hp:H1 p=none) :
    Res K B H0 H σ Γ' ρ F R .F (.box none s xs) (.ref p) (upd H1 p u):=by
  have e:Same H1 (upd H1 p u):=Same.new hp
  refine ⟨F1,f1,[p],⟨p,vs,u,[],rfl,upd_same,⟨trivial,hb⟩,(Reps.trees hx p1).same e,by simp,rfl⟩,fun a ha=>?_,A1.newB hb.lv hp⟩
  rw [List.mem_singleton.mp ha]
  exact ⟨(A1.fresh hp).1,.inl (s1.free hp)⟩
theorem de_dnewK:DE K EX Γ Γ .F tDNewK (fun _=>.ok (.box none (.dk []) [])):=fun B H0 H σ ρ F R Q A d p hp =>
  d _ _ (Same.new hp) (Res.newBox (S:=fun _=>True) (vs:=[]) (Same.refl _) (fun _ _ h=>h) ⟨rfl,rfl⟩ rfl rfl A hp)
noncomputable def dAt (x y:PV):Option (Option PV):=match x,y with
  | .box _ (.dk ks) xs,y=>(keyOf y).map fun k=>atK ks xs k
  | .box _ (.dt ks) xs,.tup ys=>(keysOf ys).map fun k=>atK ks xs k
  | _,_=>none
noncomputable def pDIn (g:Bool→Bool) (y x:PV):Rr PV:=match dAt x y with
  | some o=>.ok (.bl (g o.isSome))
  | none=>.bad
theorem dAt_get {x y:PV} {v w:V} {o:Option PV} {S:Addr→Prop} (hx:Rep K H S x v) (hy:Rep K H (fun _=>True) y w) (e:dAt x y=some o) :
    ∃ a r,v=.ref a∧DGet H a w r∧r.isSome=o.isSome∧∀ z,o=some z→∃ u,r=some u∧Rep K H S z u:=by
  have fin:∀ {κ:Type} [DecidableEq κ] {ks:List κ} {xs:List PV} {vs:List V} {k:κ},Reps K H S xs vs→o=atK ks xs k→(atK ks vs k).isSome=o.isSome∧∀ z,o=some z→∃ u,atK ks vs k=some u∧Rep K H S z u:=fun {κ} _ {ks xs vs k} h e=>by
    have:=reps_atK (ks:=ks) (k:=k) h
    rw [← e] at this
    cases o with
    | none=>exact ⟨by rw [this]; rfl,fun z q=>by cases q⟩
    | some z =>
      obtain ⟨u,e1,e2⟩:=this
      exact ⟨by rw [e1]; rfl,fun z' q=>by cases q; exact ⟨u,e1,e2⟩⟩
  unfold dAt at e
  split at e
  · rename_i p ks xs
    obtain ⟨a,vs,u,rfl,hr,⟨_,hl,rfl⟩,hxs⟩:=hx
    cases ek:keyOf y with
    | none=>rw [ek] at e; cases e
    | some k =>
      rw [ek] at e
      cases e
      rw [keyOf_eq ek] at hy
      obtain ⟨g1,g2⟩:=fin (ks:=ks) (k:=k) hxs rfl
      exact ⟨a,atK ks vs k,rfl,.inl ⟨_,k,hr.1,rep_key hy,(valV_zip hl).symm⟩,g1,g2⟩
  · rename_i p ks xs ys
    obtain ⟨a,vs,u,rfl,hr,⟨_,hl,rfl⟩,hxs⟩:=hx
    cases ek:keysOf ys with
    | none=>rw [ek] at e; cases e
    | some k =>
      rw [ek] at e
      cases e
      rw [keysOf_eq ek] at hy
      obtain ⟨b,ws,rfl,hb,hws⟩:=hy
      rw [reps_keys hws] at hb
      obtain ⟨g1,g2⟩:=fin (ks:=ks) (k:=k) hxs rfl
      exact ⟨a,atK ks vs k,rfl,.inr ⟨_,k,b,hr.1,rfl,hb.1,(valV_zip hl).symm⟩,g1,g2⟩
  · cases e
theorem de_dnotin (ha:DE K EX Γ Γ1 .A ta fa) (hb:DE K EX Γ1 Γ2 .A tb fb):DE K EX Γ Γ2 .P (tDNotIn ta tb) (fun ρ=>(fa ρ).bind fun y=>(fb ρ).bind fun x=>pDIn (!·) y x):=fun B H0 H σ ρ F R Q A d=>by
  refine two ha hb A d.bind2 fun y x w v H' F' d s f py px A'=>?_
  unfold pDIn at d
  cases e:dAt x y with
  | none=>rw [e] at d; exact d.elim
  | some o =>
    rw [e] at d
    obtain ⟨a,r,rfl,g1,g2,_⟩:=dAt_get px py e
    exact ⟨a,r,rfl,g1,by rw [g2]; exact d _ _ s ⟨F',f,rfl,rfl,A'⟩⟩
end
end L2
namespace L2
open PySem PySem.Spec PyProof.Rows
section
variable {K:PySem.W.Frag} {B:Addr→Prop} {EX:PX→Hp→Prop} {H0 H H':Hp} {σ:St} {Γ Γ' Γ1 Γ2 Γ3:List Md} {ρ:List PV} {F F':Nat→List Addr} {R:List Addr} {te ta tb tc:TE} {f fa fb fc:List PV→Rr PV} {k:Kd}
end
end L2
namespace L2
open PySem PySem.Spec PyProof.Rows
section
variable {X:Cx} {K:PySem.W.Frag}
end
section
variable {K:PySem.W.Frag} {B:Addr→Prop} {EX:PX→Hp→Prop} {H0 H H':Hp} {σ:St} {Γ Γ' Γ1 Γ2 Γ3:List Md} {ρ:List PV} {F F':Nat→List Addr} {R:List Addr} {te tb tc:TE} {ta:TA} {f fb fc:List PV→Rr PV} {fa:List PV→Rr (List PV)} {k:Kd}
noncomputable def tNevE:TE:=fun _ _ _=>False
theorem pe_nevE {X:Cx} {e:Expr}:PE X e tNevE:=fun _ _ _ _ _ _ h=>h.elim
theorem de_nevE:DE K EX Γ Γ k tNevE (fun _=>.bad):=fun _ _ _ _ _ _ _ _ _ d=>d.elim
end
end L2
namespace L2
open PySem PySem.Spec PyProof.Rows
noncomputable def ins {α:Type}:Nat→α→List α→List α
  | 0,v,us=>v :: us
  | _ + 1,v,[]=>[v]
  | j + 1,v,u :: us=>u :: ins j v us
section
variable {K:PySem.W.Frag} {H H':Hp} {B:Addr→Prop}
end
section
variable {K:PySem.W.Frag} {B:Addr→Prop} {EX:PX→Hp→Prop} {H0 H H':Hp} {σ:St} {Γ Γ' Γ1 Γ2 Γ3:List Md} {ρ:List PV} {F F':Nat→List Addr} {R:List Addr}
end
section
variable {P:Program} {w:World} {K:PySem.W.Frag} {mg:Str→Option Value} {base:Heap}
end
end L2
namespace L2
open PySem PySem.Spec PyProof.Rows
theorem bind_ok {α β:Type} {r:Rr α} {g:α→Rr β} {y:β} (h:r.bind g=.ok y):∃ x,r=.ok x∧g x=.ok y:=by
  cases r with
  | ok x=>exact ⟨x,rfl,h⟩
  | exc e=>cases h
  | bad=>cases h
section
variable {K:PySem.W.Frag} {B:Addr→Prop} {EX:PX→Hp→Prop} {H0 H H':Hp} {σ:St} {Γ Γ' Γ1 Γ2 Γ3:List Md} {ρ:List PV} {F F':Nat→List Addr} {R:List Addr} {te tb:TE} {ta:TA} {f fb:List PV→Rr PV} {fa:List PV→Rr (List PV)} {i j n:Nat} {m:PV→List PV→Rr PV}
variable {fm:List PV→Rr (PV × PV)} {k:Kd} {l:Nat}
end
theorem hu1 {n c:Nat} (h:n + 64 < c):n + 1 < c:=by omega
end L2
namespace L2
open PySem PySem.Spec PyProof.Rows
section
variable {X:Cx} {es fs:List Expr} {pos:Pos} {te:TE} {t:TA}
end
end L2
namespace L2
open PySem PySem.Spec PyProof.Rows
section
variable {X:Cx} {tg:Expr}
end
end L2
namespace L2
open PySem PySem.Spec PyProof.Rows
noncomputable abbrev rMulS:R2:=fun x y H Q=>∃ i n,x=.str i∧y=.int n∧MulOk i n∧Q (.str (Txt.mul i n)) H
theorem op_mulS {X:Cx}:OpR X (binaryOp .Mult) rMulS:=by
  intro pins s σ H x y v w Q I rx ry h
  obtain ⟨i,n,rfl,rfl,hok,q⟩:=h
  obtain ⟨t,rfl⟩:=rx
  obtain ⟨u,rfl⟩:=ry
  exact SB.mul hok fun t' k=>⟨.str (Txt.mul i n),H,I.kept (t':=k) fun _ _ e=>e,⟨t',rfl⟩,q⟩
open Classical in
noncomputable def pMulS (x y:PV):Rr PV:=match x,y with
  | .str a,.int n=>if MulOk a n then .ok (.str (Txt.mul a n)) else .bad
  | _,_=>.bad
section
variable {K:PySem.W.Frag} {EX:PX→Hp→Prop} {Γ Γ1 Γ2:List Md} {te tb:TE} {f fb:List PV→Rr PV}
theorem de_mulS (ha:DE K EX Γ Γ1 .A te f) (hb:DE K EX Γ1 Γ2 .A tb fb):DE K EX Γ Γ2 .P (tOp rMulS te tb) (fun ρ=>(f ρ).bind fun x=>(fb ρ).bind fun y=>pMulS x y):=fun B H0 H σ ρ F R Q A d=>by
  refine two ha hb A d.bind2 fun x y v w H' F' d s hF p1 p2 A'=>?_
  unfold pMulS at d
  split at d
  · rename_i a b
    split at d
    · rename_i h
      cases p1; cases p2
      exact ⟨_,_,rfl,rfl,h,d _ H' s ⟨F',hF,rfl,rfl,A'⟩⟩
    · exact d.elim
  · exact d.elim
end
theorem pMulS_ok {a:Str} {n:Int} (h:MulOk a n):pMulS (.str a) (.int n)=.ok (.str (Txt.mul a n)):=by
  classical
  exact if_pos h
end L2
namespace My
open PySem L2
noncomputable def foldI (ns:List Int) (m:Int):Nat→List Int
  | 0=>List.replicate m.toNat 0
  | i + 1=>(foldI ns m i).set ((i:Int) % m).toNat (((foldI ns m i).getD ((i:Int) % m).toNat 0 * 31 + ns.getD (i + 1) 0) % 10 ^ 60)
theorem foldI_succ (ns:List Int) (m:Int) (i:Nat):foldI ns m (i + 1)=(foldI ns m i).set ((i:Int) % m).toNat (((foldI ns m i).getD ((i:Int) % m).toNat 0 * 31 + ns.getD (i + 1) 0) % 10 ^ 60):=by rw [foldI]
noncomputable def folded (ns:List Int) (m:Int):List Int:=foldI ns m (ns.length - 1)
theorem foldI_length (ns:List Int) (m:Int):∀ i,(foldI ns m i).length=m.toNat
  | 0=>by simp [foldI]
  | i + 1=>by simp [foldI,foldI_length ns m i]
theorem foldI_bound (ns:List Int) (m:Int):∀ i,∀ x∈foldI ns m i,0≤x∧x < 10 ^ 60
  | 0=>fun x hx=>by rw [List.eq_of_mem_replicate hx]; decide
  | i + 1=>fun x hx=>by
    rcases List.mem_or_eq_of_mem_set hx with z | z
    · exact foldI_bound ns m i x z
    · rw [z]; exact ⟨Int.emod_nonneg _ (by decide),Int.emod_lt_of_pos _ (by decide)⟩
noncomputable def heldF (pits way number:Int):Int:=if way=3 then [0,1,number / 24,pits].getD (number / 7 % 4).toNat 0 else if way=2 then number / 24 else if way=1 then number / 11 % 30 else number / 11 % 4
noncomputable def lawBoard (ns:List Int) (pits way:Int):List Int:=(folded ns pits).map (heldF pits way)
noncomputable def BB:Int:=41666666666666666666666666666666666666666666666666666666666
theorem heldF_bound {pits way z:Int} (h1:2≤pits) (h2:pits≤24) (z0:0≤z) (z1:z < 10 ^ 60):0≤heldF pits way z∧heldF pits way z≤BB:=by
  unfold heldF BB
  split
  · have c4:z / 7 % 4=0 ∨ z / 7 % 4=1 ∨ z / 7 % 4=2 ∨ z / 7 % 4=3:=by omega
    rcases c4 with e | e | e | e <;> rw [e]
    · exact ⟨by show (0:Int)≤0; decide,by show (0:Int)≤41666666666666666666666666666666666666666666666666666666666; decide⟩
    · exact ⟨by show (0:Int)≤1; decide,by show (1:Int)≤41666666666666666666666666666666666666666666666666666666666; decide⟩
    · exact ⟨by show 0≤z / 24; omega,by show z / 24≤_; omega⟩
    · exact ⟨by show 0≤pits; omega,by show pits≤_; omega⟩
  · split
    · omega
    · split <;> omega
theorem sum_le_BB (ns:List Int) (h:∀ x∈ns,x≤BB):ns.sum≤ns.length * BB:=by
  induction ns with
  | nil=>simp
  | cons x xs ih =>
    have h1:=h x (by simp)
    have h2:=ih fun y hy=>h y (by simp [hy])
    simp only [List.sum_cons,List.length_cons]
    rw [Int.natCast_add,Int.add_mul]
    omega
theorem Board.of {ns:List Int} (h1:2≤ns.length) (h2:ns.length≤24) (h:∀ x∈ns,0≤x∧x≤BB):Board ns:=by
  refine ⟨h1,h2,fun x hx=>(h x hx).1, ?_⟩
  have a:=sum_le_BB ns fun x hx=>(h x hx).2
  have b:(ns.length:Int) * BB≤24 * BB:=Int.mul_le_mul_of_nonneg_right (by omega) (by decide)
  have c:(24:Int) * BB≤10 ^ 60:=by decide
  omega
theorem lawBoard_length (ns:List Int) {pits way:Int} (h:0≤pits):((lawBoard ns pits way).length:Int)=pits:=by
  unfold lawBoard folded
  rw [List.length_map,foldI_length]; omega
noncomputable def boardB (ns:List Int):Bool:=decide (2≤ns.length∧ns.length≤24∧(∀ x∈ns,0≤x)∧ns.sum≤10 ^ 60)
theorem boardB_iff {ns:List Int}:boardB ns=true ↔ Board ns:=by
  unfold boardB
  rw [decide_eq_true_iff]
  exact ⟨fun ⟨a,b,c,d⟩=>⟨a,b,c,d⟩,fun h=>⟨h.lo,h.hi,h.nn,h.sm⟩⟩
end My
namespace My
open PySem L2
end My
namespace L2
open PySem PySem.NumText PyProof.Rows
noncomputable def numS (n:Int):Str:=Str.ofString (toString n)
noncomputable def spS:Str:=⟨#[32]⟩
theorem spS_eq:Str.ofString " "=spS:=by decide
theorem numS_cps {n:Int} (h:0≤n):(numS n).cps.toList=(Nat.toDigits 10 n.toNat).map Char.toNat:=by
  obtain ⟨m,rfl⟩:=Int.eq_ofNat_of_zero_le h
  exact PySem.W.KIN.signs_num m
theorem dig_digits (m:Nat):AllDigits ((Nat.toDigits 10 m).map Char.toNat):=fun c hc=>by
  obtain ⟨ch,hch,e⟩:=List.mem_map.mp hc
  have r:=PyProof.Rows.digit_range (Nat.isDigit_of_mem_toDigits (by decide) (by decide) hch)
  rw [← e]
  exact r
theorem dig_ne (m:Nat):(Nat.toDigits 10 m).map Char.toNat≠[]:=fun e=>by
  have h:=toDigits_len_ge 10 m
  rw [List.map_eq_nil_iff.mp e] at h
  exact absurd h (by decide)
theorem numS_le {n:Int} {k:Nat} (h0:0≤n) (hk:0 < k) (h:n < 10 ^ k):(numS n).length≤k:=PyProof.Rows.toString_length_le h0 hk h
theorem numS_int {n:Int} (h0:0≤n) (hl:(numS n).length≤640):PySem.intText? (numS n)=some n:=by
  obtain ⟨m,rfl⟩:=Int.eq_ofNat_of_zero_le h0
  have e1:=numS_cps h0
  have hd:AllDigits (numS ((m:Nat):Int)).cps.toList:=by rw [e1]; exact dig_digits _
  have hne:(numS ((m:Nat):Int)).cps.toList≠[]:=by rw [e1]; exact dig_ne _
  have e:=intText_digits hd hne (by omega)
  rw [e1,Int.toNat_natCast,PySem.W.KIN.val_back] at e
  exact e
theorem numS_dig {n:Int} (h0:0≤n):∀ c∈(numS n).cps.toList,48≤c∧c≤57:=by rw [numS_cps h0]; exact dig_digits _
theorem dig_head (m:Nat):0 < m→∃ c r,(Nat.toDigits 10 m).map Char.toNat=c :: r∧c≠48:=by
  induction m using Nat.strongRecOn with
  | _ m ih =>
    intro h0
    by_cases h:m < 10
    · rw [Nat.toDigits_of_lt_base h]
      refine ⟨_,_,rfl, ?_⟩
      have:∀ d:Nat,d < 10→0 < d→(Nat.digitChar d).toNat≠48:=by decide
      exact this m h h0
    · have hm:m % 10 < 10:=Nat.mod_lt m (by decide)
      have t:Nat.toDigits 10 (m / 10) ++ Nat.toDigits 10 (m % 10)=Nat.toDigits 10 (10 * (m / 10) + m % 10):=Nat.toDigits_append_toDigits (by decide) (by omega) hm
      rw [Nat.div_add_mod] at t
      obtain ⟨c,r,e,hc⟩:=ih (m / 10) (by omega) (by omega)
      refine ⟨c,r ++ (Nat.toDigits 10 (m % 10)).map Char.toNat, ?_,hc⟩
      rw [← t,List.map_append,e]; rfl
theorem numS_ok {n:Int} (h0:0≤n):PyData.canLay0 (.str (numS n))=true:=by
  unfold PyData.canLay0 PyData.strOk
  rw [← Array.all_toList,List.all_eq_true]
  intro c hc
  have:=numS_dig h0 c hc
  exact decide_eq_true (by omega)
theorem numS_0:numS 0=("0":Str):=by decide
noncomputable def figS:Str := "0123456789"
theorem fig_in {c:Nat} (h:48≤c∧c≤57):inS ⟨#[c]⟩ figS=true:=by
  unfold inS
  rw [StrLaws.found_one]
  refine decide_eq_true ?_
  have e:figS.cps.toList=[48,49,50,51,52,53,54,55,56,57]:=by decide
  rw [e]
  simp only [List.mem_cons,List.not_mem_nil,or_false]
  omega
theorem two_cut {c:Nat}:∀ {x y A B:List Nat},c ∉ x→c ∉ y→x ++ c :: A=y ++ c :: B→x=y∧A=B
  | [],[],_,_,_,_,h=>⟨rfl,(List.cons.inj h).2⟩
  | [],b :: y,_,_,_,hy,h=>by
    have:=(List.cons.inj h).1
    exact absurd (by simp [this]) hy
  | a :: x,[],_,_,hx,_,h=>by
    have:=(List.cons.inj h).1
    exact absurd (by simp [this]) hx
  | a :: x,b :: y,A,B,hx,hy,h=>by
    obtain ⟨h1,h2⟩:=List.cons.inj h
    obtain ⟨e1,e2⟩:=two_cut (c:=c) (x:=x) (y:=y) (fun z=>hx (by simp [z])) (fun z=>hy (by simp [z])) h2
    exact ⟨by rw [h1,e1],e2⟩
theorem join_list (c:Nat) (x y:Str) (r:List Str):(Str.join ⟨#[c]⟩ (x :: y :: r)).cps.toList=x.cps.toList ++ c :: (Str.join ⟨#[c]⟩ (y :: r)).cps.toList:=by
  show (x ++ ⟨#[c]⟩ ++ Str.join ⟨#[c]⟩ (y :: r)).cps.toList=_
  simp [Str.cps_append]
theorem join_uniq (c:Nat):∀ {ws vs:List Str},ws≠[]→vs≠[]→(∀ w∈ws,c ∉ w.cps.toList)→(∀ w∈vs,c ∉ w.cps.toList)→Str.join ⟨#[c]⟩ ws=Str.join ⟨#[c]⟩ vs→ws=vs
  | [],_,h,_,_,_,_=>absurd rfl h
  | _,[],_,h,_,_,_=>absurd rfl h
  | [x],[y],_,_,_,_,h=>by rw [show x=y from h]
  | [x],y :: y' :: r,_,_,hx,_,h=>by
    have e:(Str.join _ _).cps.toList=(Str.join _ _).cps.toList:=congrArg (fun z:Str=>z.cps.toList) h
    rw [join_list] at e
    exact absurd (show c∈x.cps.toList by rw [show x.cps.toList=_ from e]; simp) (hx x (by simp))
  | x :: x' :: r,[y],_,_,_,hy,h=>by
    have e:(Str.join _ _).cps.toList=(Str.join _ _).cps.toList:=congrArg (fun z:Str=>z.cps.toList) h
    rw [join_list] at e
    exact absurd (show c∈y.cps.toList by rw [show y.cps.toList=_ from e.symm]; simp) (hy y (by simp))
  | x :: x' :: r,y :: y' :: q,_,_,hx,hy,h=>by
    have e:(Str.join _ _).cps.toList=(Str.join _ _).cps.toList:=congrArg (fun z:Str=>z.cps.toList) h
    rw [join_list,join_list] at e
    obtain ⟨e1,e2⟩:=two_cut (hx x (by simp)) (hy y (by simp)) e
    have e3:Str.join ⟨#[c]⟩ (x' :: r)=Str.join ⟨#[c]⟩ (y' :: q):=Str.ext' (Array.toList_inj.mp e2)
    have ih:=join_uniq c (by simp) (by simp) (fun w hw=>hx w (by simp at hw ⊢; exact .inr hw)) (fun w hw=>hy w (by simp at hw ⊢; exact .inr hw)) e3
    rw [ih,Str.ext' (Array.toList_inj.mp e1)]
theorem split_ne (x y:Str):Txt.split x y≠[]:=by
  unfold Txt.split
  split
  · simp
  · split
    · simp
    · rw [StrLaws.partsBetween_eq]
      obtain ⟨p,r,e⟩:=StrLaws.partsFrom_ne x y.length 0 (Builtin.Str.occurrences x y 0 x.length (x.length + 1))
      rw [e]; simp
theorem join_ok:∀ {ws:List Str},(∀ w∈ws,PyData.canLay0 (.str w)=true)→PyData.canLay0 (.str (Str.join spS ws))=true
  | [],_=>by unfold PyData.canLay0 PyData.strOk; rw [← Array.all_toList]; rfl
  | [w],h=>h w (by simp)
  | x :: y :: r,h=>by
    have ih:=join_ok (ws:=y :: r) fun w hw=>h w (by simp at hw ⊢; exact .inr hw)
    have hx:=h x (by simp)
    unfold PyData.canLay0 PyData.strOk at *
    rw [← Array.all_toList,List.all_eq_true] at *
    rw [show spS=⟨#[32]⟩ from rfl,join_list]
    intro c hc
    rcases List.mem_append.mp hc with z | z
    · exact hx c z
    · rcases List.mem_cons.mp z with z | z
      · subst z; decide
      · exact ih c z
theorem asS_ok {z:Str}:asS (.str z)=.ok z:=rfl
theorem log_num {n:Int} (h0:0≤n) (h:n < 10 ^ 110):n.natAbs.log2 < 1920:=by
  by_cases c:n.natAbs=0
  · rw [c]; decide
  · refine (Nat.log2_lt c).mpr ?_
    have h1:n.natAbs < 10 ^ 110:=by
      have:((n.natAbs:Nat):Int) < ((10 ^ 110:Nat):Int):=by
        rw [Int.natCast_pow]
        have e:((n.natAbs:Nat):Int)=n:=by omega
        rw [e]; exact h
      exact Int.ofNat_lt.mp this
    exact Nat.lt_of_lt_of_le h1 (by decide +kernel)
theorem pStrI_ok {n:Int} (h0:0≤n) (h:n < 10 ^ 110):pStrI [.int n]=.ok (.str (numS n)):=if_pos (log_num h0 h)
theorem pAddS_ok {a b:Str} (h:a.length + b.length≤1000000):pAddS (.str a) (.str b)=.ok (.str (a ++ b)):=if_pos h
end L2
namespace L2
open PySem PySem.NumText PyProof.Rows
noncomputable def layS (s:Str):Prop:=PyData.canLay0 (.str s)=true
theorem layS_iff {s:Str}:layS s ↔ ∀ c∈s.cps.toList,c < 1114112:=by
  unfold layS PyData.canLay0 PyData.strOk
  rw [← Array.all_toList,List.all_eq_true]
  constructor
  · intro h c hc
    have:=h c hc
    simpa using this
  · intro h c hc
    have:=h c hc
    simpa using this
theorem len_cps (s:Str):s.length=s.cps.toList.length:=by simp [Str.length]
theorem join_mem (c:Nat):∀ {ws:List Str} {w:Str},w∈ws→(∀ d∈w.cps.toList,d∈(Str.join ⟨#[c]⟩ ws).cps.toList)∧w.length≤(Str.join ⟨#[c]⟩ ws).length
  | [],w,h=>by simp at h
  | [x],w,h=>by
    rw [List.mem_singleton.mp h]
    exact ⟨fun d hd=>hd,Nat.le_refl _⟩
  | x :: y :: r,w,h=>by
    rw [len_cps,len_cps,join_list]
    rcases List.mem_cons.mp h with h | h
    · rw [h]
      exact ⟨fun d hd=>List.mem_append_left _ hd,by simp⟩
    · obtain ⟨h1,h2⟩:=join_mem c (ws:=y :: r) h
      rw [len_cps,len_cps] at h2
      exact ⟨fun d hd=>List.mem_append_right _ (List.mem_cons_of_mem _ (h1 d hd)),by rw [List.length_append,List.length_cons]; omega⟩
theorem split_word {s w:Str} {c:Nat} (h:w∈Txt.split s ⟨#[c]⟩):(layS s→layS w)∧w.length≤s.length:=by
  have e:=StrLaws.join_split s ⟨#[c]⟩
  obtain ⟨h1,h2⟩:=join_mem c h
  rw [e] at h1 h2
  exact ⟨fun hs=>layS_iff.mpr fun d hd=>layS_iff.mp hs d (h1 d hd),h2⟩
theorem split_join {c:Nat} {ws:List Str} (hn:ws≠[]) (h:∀ w∈ws,c ∉ w.cps.toList):Txt.split (Str.join ⟨#[c]⟩ ws) ⟨#[c]⟩=ws :=
  join_uniq c (split_ne _ _) hn (StrLaws.split_free _ c) h (StrLaws.join_split _ _)
noncomputable def isFig (c:Nat):Bool:=decide (48≤c∧c≤57)
theorem fig_eq (c:Nat):inS ⟨#[c]⟩ figS=isFig c:=by
  by_cases h:48≤c∧c≤57
  · rw [fig_in h]; exact (decide_eq_true h).symm
  · unfold inS isFig
    rw [StrLaws.found_one,decide_eq_false h]
    refine decide_eq_false fun z=>h ?_
    have e:figS.cps.toList=[48,49,50,51,52,53,54,55,56,57]:=by decide
    rw [e] at z
    simp only [List.mem_cons,List.not_mem_nil,or_false] at z
    omega
noncomputable def numL (cs:List Nat):Bool:=!cs.isEmpty && (cs.all isFig && (decide (cs=[48]) || !decide (cs.head?=some 48)))
noncomputable def numB (w:Str):Bool:=numL w.cps.toList
noncomputable def valW (w:Str):Int:=((w.cps.toList.foldl (fun acc c=>acc * 10 + (c - 48)) 0:Nat):Int)
theorem numB_dig {w:Str} (h:numB w=true):AllDigits w.cps.toList∧w.cps.toList≠[]:=by
  unfold numB numL at h
  simp only [Bool.and_eq_true,Bool.not_eq_true',List.all_eq_true] at h
  exact ⟨fun c hc=>of_decide_eq_true (h.2.1 c hc),fun z=>by rw [z] at h; simp at h⟩
theorem intW {w:Str} (h:numB w=true) (hl:w.length≤640):PySem.intText? w=some (valW w):=intText_digits (numB_dig h).1 (numB_dig h).2 (by omega)
theorem numB_num {n:Int} (h0:0≤n):numB (numS n)=true:=by
  unfold numB numL
  have h1:(numS n).cps.toList≠[]:=by rw [numS_cps h0]; exact dig_ne _
  have h2:(numS n).cps.toList.all isFig=true:=List.all_eq_true.mpr fun c hc=>decide_eq_true (numS_dig h0 c hc)
  rw [h2,show (!(numS n).cps.toList.isEmpty)=true by simpa using h1]
  simp only [Bool.true_and]
  by_cases hn:n=0
  · subst hn
    rw [numS_0]
    decide
  · obtain ⟨c,r,e1,e2⟩:=dig_head n.toNat (by omega)
    have h:=numS_cps h0
    rw [e1] at h
    rw [h]
    simp [e2]
theorem valW_num {n:Int} (h0:0≤n) (hl:(numS n).length≤640):valW (numS n)=n:=by
  have e1:=numS_int h0 hl
  rw [intW (numB_num h0) hl] at e1
  exact Option.some.inj e1
noncomputable def capW (w:Str):Int:=if 61 < w.length then 10 ^ 60 + 1 else valW w
noncomputable def wordsS (s:Str):List Str:=Txt.split s spS
noncomputable def linesS (s:Str):List Str:=Txt.split s ⟨#[10]⟩
theorem nlS_eq:Str.ofString "\n"=⟨#[10]⟩:=by decide
theorem pSplit_any {s:Str} {c:Nat} (h:s.length≤100000) (hc:(Txt.split s ⟨#[c]⟩).length≤1000000):pSplit s [.str ⟨#[c]⟩]=.ok (.lst ((Txt.split s ⟨#[c]⟩).map PV.str)):=if_pos ⟨Nat.le_refl 1,h,hc⟩
theorem pJoin_any {ws:List Str} (h:(ws.map (·.length)).sum + ws.length≤1000000):pJoin (" ":Str) [.lst (ws.map PV.str)]=.ok (.str (Str.join spS ws)):=by
  unfold pJoin
  simp only [strsOf_map]
  rw [show ((" ":Str))=spS from spS_eq,if_pos (by rw [show spS.length=1 from rfl]; omega)]
  rw [show Txt.join spS ws=Str.join spS ws from StrLaws.glued_eq_join spS _]
noncomputable def rdW (ws:List Str):Rr PV:=if ws.all numB=true then orX (if My.boardB (ws.map capW)=true then none else some "BadBoard") (.lst ((ws.map capW).map PV.int)) else .exc ("BadText",.non)
theorem rdW_bad {ws:List Str} {w:Str} (hw:w∈ws) (h:numB w=false):rdW ws=.exc ("BadText",.non):=by
  unfold rdW
  rw [if_neg]
  intro z
  have:=List.all_eq_true.mp z w hw
  rw [h] at this; cases this
end L2
namespace L2
open PySem PySem.NumText PyProof.Rows
structure OkW (w:Str):Prop where
  lay:layS w
  len:w.length≤100
  sp:32 ∉ w.cps.toList
  nl:10 ∉ w.cps.toList
theorem okW_num {n:Int} (h0:0≤n) (h:n≤10 ^ 60):OkW (numS n):=by
  refine ⟨numS_ok h0, ?_,fun z=>?_,fun z=>?_⟩
  · have:=numS_le (k:=61) h0 (by decide) (by omega)
    omega
  · have:=numS_dig h0 32 z; omega
  · have:=numS_dig h0 10 z; omega
theorem join_chars (c:Nat):∀ {ws:List Str} {d:Nat},d∈(Str.join ⟨#[c]⟩ ws).cps.toList→d=c ∨ ∃ w∈ws,d∈w.cps.toList
  | [],d,h=>by
    have h:d∈([]:List Nat):=h
    simp at h
  | [x],d,h=>.inr ⟨x,by simp,h⟩
  | x :: y :: r,d,h=>by
    rw [join_list] at h
    rcases List.mem_append.mp h with h | h
    · exact .inr ⟨x,by simp,h⟩
    · rcases List.mem_cons.mp h with h | h
      · exact .inl h
      · rcases join_chars c h with h | ⟨w,hw,hd⟩
        · exact .inl h
        · exact .inr ⟨w,List.mem_cons_of_mem _ hw,hd⟩
theorem join_len (c:Nat) {k:Nat}:∀ {ws:List Str},(∀ w∈ws,w.length≤k)→(Str.join ⟨#[c]⟩ ws).length≤ws.length * (k + 1)
  | [],_=>Nat.zero_le _
  | [x],h=>by
    have:=h x (by simp)
    show x.length≤_
    simp only [List.length_singleton]; omega
  | x :: y :: r,h=>by
    have ih:=join_len c (ws:=y :: r) fun w hw=>h w (List.mem_cons_of_mem _ hw)
    have hx:=h x (by simp)
    rw [len_cps] at ih ⊢
    rw [join_list,List.length_append,List.length_cons]
    rw [len_cps] at hx
    simp only [List.length_cons] at ih ⊢
    rw [Nat.add_mul,Nat.one_mul]
    omega
theorem join_cnt (c:Nat):∀ {ws:List Str},ws.length≤(Str.join ⟨#[c]⟩ ws).length + 1
  | []=>by simp
  | [x]=>by simp
  | x :: y :: r=>by
    have ih:=join_cnt c (ws:=y :: r)
    rw [len_cps] at ih ⊢
    rw [join_list,List.length_append,List.length_cons]
    simp only [List.length_cons] at ih ⊢
    omega
theorem split_cnt {s:Str} {c:Nat}:(Txt.split s ⟨#[c]⟩).length≤s.length + 1:=by
  have:=join_cnt c (ws:=Txt.split s ⟨#[c]⟩)
  rw [StrLaws.join_split] at this
  exact this
theorem rdW_char {s:Str} {c:Nat} (h:c∈s.cps.toList) (hc:c≠32) (hf:isFig c=false):rdW (wordsS s)=.exc ("BadText",.non):=by
  have e:=StrLaws.join_split s ⟨#[32]⟩
  rw [← e] at h
  rcases join_chars 32 h with h | ⟨w,hw,hd⟩
  · exact absurd h hc
  · refine rdW_bad (w:=w) hw ?_
    cases z:numB w with
    | false=>rfl
    | true =>
      have:=(numB_dig z).1 c hd
      rw [show isFig c=true from decide_eq_true this] at hf
      cases hf
structure RowW (ws:List Str):Prop where
  ne:ws≠[]
  len:ws.length≤60
  ok:∀ w∈ws,OkW w
section
variable {ws:List Str}
theorem RowW.lay (h:RowW ws):layS (Str.join spS ws):=join_ok fun w hw=>(h.ok w hw).lay
theorem RowW.jlen (h:RowW ws):(Str.join spS ws).length≤6060:=by
  have:=join_len 32 (k:=100) fun w hw=>(h.ok w hw).len
  have:=h.len
  have:ws.length * (100 + 1)≤6060:=by omega
  exact Nat.le_trans ‹_› this
theorem RowW.words (h:RowW ws):wordsS (Str.join spS ws)=ws:=split_join h.ne fun w hw=>(h.ok w hw).sp
theorem RowW.nl (h:RowW ws):10 ∉ (Str.join spS ws).cps.toList:=fun z=>by
  rcases join_chars 32 z with z | ⟨w,hw,hd⟩
  · cases z
  · exact (h.ok w hw).nl hd
theorem RowW.sum (h:RowW ws):(ws.map (·.length)).sum + ws.length≤1000000:=by
  have key:∀ l:List Str,(∀ w∈l,w.length≤100)→(l.map (·.length)).sum≤l.length * 100:=by
    intro l
    induction l with
    | nil=>simp
    | cons a l ih =>
      intro h
      have:=ih fun w hw=>h w (List.mem_cons_of_mem _ hw)
      have:=h a (by simp)
      simp only [List.map_cons,List.sum_cons,List.length_cons]
      omega
  have:=key ws fun w hw=>(h.ok w hw).len
  have:=h.len
  omega
theorem RowW.lines (h:RowW ws) {rs:List Str} (hr:∀ w∈rs,10 ∉ w.cps.toList):linesS (Str.join ⟨#[10]⟩ (Str.join spS ws :: rs))=Str.join spS ws :: rs:=split_join (by simp) fun w hw=>by
  rcases List.mem_cons.mp hw with hw | hw
  · rw [hw]; exact h.nl
  · exact hr w hw
end
noncomputable def oddL:List Str:=["", "00", "01", "-1", "-0", "+1", "1_0", "1.0", "x", "1x", "x1", "1-", ",", "1,", "0x1", "1e3", "None"]
noncomputable def oddOf (c:Int):Str:=oddL.getD (c % 17).toNat ""
noncomputable def oddAt (ws:List Str) (c:Int):Int:=c / 17 % (ws.length + 1)
noncomputable def oddW (ws:List Str) (c:Int):List Str:=if c / 200 % 3=0∧oddAt ws c < ws.length then ws.take (oddAt ws c).toNat ++ [oddOf c] ++ ws.drop ((oddAt ws c).toNat + 1)
  else if c / 200 % 3=1 then ws.take (oddAt ws c).toNat ++ [oddOf c] ++ ws.drop (oddAt ws c).toNat else [oddOf c]
theorem odd_all:∀ w∈oddL,numB w=false∧(∀ c∈w.cps.toList,c < 1114112)∧w.length≤100∧32 ∉ w.cps.toList∧10 ∉ w.cps.toList:=by decide +kernel
theorem odd_mem (c:Int):oddOf c∈oddL:=by
  unfold oddOf
  have h:(c % 17).toNat < oddL.length:=by show (c % 17).toNat < 17; omega
  rw [List.getD_eq_getElem?_getD,List.getElem?_eq_getElem h]
  exact List.getElem_mem h
theorem odd_ok (c:Int):OkW (oddOf c)∧numB (oddOf c)=false:=by
  obtain ⟨h1,h2,h3,h4,h5⟩:=odd_all _ (odd_mem c)
  exact ⟨⟨layS_iff.mpr h2,h3,h4,h5⟩,h1⟩
theorem oddW_has (ws:List Str) (c:Int):oddOf c∈oddW ws c:=by
  unfold oddW
  split
  · simp
  · split
    · simp
    · simp
theorem oddW_sub {ws:List Str} {c:Int} {w:Str} (h:w∈oddW ws c):w∈ws ∨ w=oddOf c:=by
  unfold oddW at h
  split at h
  · rcases List.mem_append.mp h with h | h
    · rcases List.mem_append.mp h with h | h
      · exact .inl (List.mem_of_mem_take h)
      · exact .inr (List.mem_singleton.mp h)
    · exact .inl (List.mem_of_mem_drop h)
  · split at h
    · rcases List.mem_append.mp h with h | h
      · rcases List.mem_append.mp h with h | h
        · exact .inl (List.mem_of_mem_take h)
        · exact .inr (List.mem_singleton.mp h)
      · exact .inl (List.mem_of_mem_drop h)
    · exact .inr (List.mem_singleton.mp h)
theorem oddW_len (ws:List Str) (c:Int):(oddW ws c).length≤ws.length + 1:=by
  have a0:0≤oddAt ws c:=Int.emod_nonneg _ (by omega)
  have a1:oddAt ws c < (ws.length:Int) + 1:=Int.emod_lt_of_pos _ (by omega)
  unfold oddW
  generalize oddAt ws c=a at a0 a1
  split
  · simp; omega
  · split
    · simp; omega
    · simp
theorem odd_row {ws:List Str} {c:Int} (h:∀ w∈ws,OkW w) (hl:ws.length < 60):RowW (oddW ws c):=by
  refine ⟨fun z=>?_,by have:=oddW_len ws c; omega,fun w hw=>?_⟩
  · have:=oddW_has ws c; rw [z] at this; simp at this
  · rcases oddW_sub hw with hw | hw
    · exact h w hw
    · rw [hw]; exact (odd_ok c).1
theorem odd_bad {ws:List Str} {c:Int}:rdW (oddW ws c)=.exc ("BadText",.non):=rdW_bad (oddW_has ws c) (odd_ok c).2
end L2
namespace L2
open PySem PySem.NumText PyProof.Rows
theorem rdW_good {bs:List Int} (hb:My.boardB bs=true) (h:∀ x∈bs,0≤x∧x≤10 ^ 60):rdW (bs.map numS)=.ok (.lst (bs.map PV.int)):=by
  have e1:(bs.map numS).all numB=true:=List.all_eq_true.mpr fun w hw=>by
    obtain ⟨x,hx,rfl⟩:=List.mem_map.mp hw
    exact numB_num (h x hx).1
  have e2:(bs.map numS).map capW=bs:=by
    clear hb e1
    induction bs with
    | nil=>rfl
    | cons a l ih =>
      have ha:=h a (by simp)
      have hl:=numS_le (k:=61) ha.1 (by decide) (by omega)
      rw [List.map_cons,List.map_cons,ih fun x hx=>h x (by simp [hx]),show capW (numS a)=a by
        unfold capW
        rw [if_neg (by omega),valW_num ha.1 (by omega)]]
  unfold rdW
  rw [if_pos e1,e2,if_pos hb]
  rfl
theorem num_row {bs:List Int} (hn:bs≠[]) (hl:bs.length≤60) (h:∀ x∈bs,0≤x∧x≤10 ^ 60):RowW (bs.map numS):=⟨by simpa using hn,by simpa using hl,fun w hw=>by
  obtain ⟨x,hx,rfl⟩:=List.mem_map.mp hw
  exact okW_num (h x hx).1 (h x hx).2⟩
theorem RowW.behind {ws rs:List Str} (h:RowW ws) (hr:∀ w∈rs,layS w∧w.length≤100∧10 ∉ w.cps.toList) (hl:rs.length≤5) :
    (layS (Str.join ⟨#[10]⟩ (Str.join spS ws :: rs))∧(Str.join ⟨#[10]⟩ (Str.join spS ws :: rs)).length≤100000)∧linesS (Str.join ⟨#[10]⟩ (Str.join spS ws :: rs))=Str.join spS ws :: rs:=by
  refine ⟨⟨layS_iff.mpr fun d hd=>?_, ?_⟩,h.lines fun w hw=>(hr w hw).2.2⟩
  · rcases join_chars 10 hd with z | ⟨w,hw,hd⟩
    · rw [z]; decide
    · rcases List.mem_cons.mp hw with z | hw
      · rw [z] at hd; exact layS_iff.mp h.lay d hd
      · exact layS_iff.mp (hr w hw).1 d hd
  · have:=join_len 10 (k:=6060) (ws:=Str.join spS ws :: rs) fun w hw=>by
      rcases List.mem_cons.mp hw with z | hw
      · rw [z]; exact h.jlen
      · have:=(hr w hw).2.1; omega
    simp only [List.length_cons] at this
    have:(rs.length + 1) * (6060 + 1)≤6 * 6061:=Nat.mul_le_mul_right _ (by omega)
    omega
noncomputable def sfxL:List Str:=["", "\n", "\nnumber", "\n\nring"]
noncomputable def rstL:List (List Str):=[[],[""],["number"],["", "ring"]]
theorem rst_ok:∀ rs∈rstL,rs.length≤5∧∀ w∈rs,(∀ c∈w.cps.toList,c < 1114112)∧w.length≤100∧10 ∉ w.cps.toList:=by decide +kernel
theorem sfx_eq (o:Str):∀ k:Nat,k < 4→o ++ sfxL.getD k ""=Str.join ⟨#[10]⟩ (o :: rstL.getD k []):=by
  have ap:∀ a b c:Str,a ++ b ++ c=a ++ (b ++ c):=fun a b c=>Str.ext' (by simp [Str.cps_append])
  intro k hk
  match k,hk with
  | 0,_=>exact Str.ext' (by
      show (o ++ ("":Str)).cps=o.cps
      rw [Str.cps_append]
      show o.cps ++ #[]=o.cps
      simp)
  | 1,_ =>
    show o ++ ("\n":Str)=o ++ (⟨#[10]⟩:Str) ++ ("":Str)
    rw [ap]; exact congrArg (o ++ ·) (by decide)
  | 2,_ =>
    show o ++ ("\nnumber":Str)=o ++ (⟨#[10]⟩:Str) ++ ("number":Str)
    rw [ap]; exact congrArg (o ++ ·) (by decide)
  | 3,_ =>
    show o ++ ("\n\nring":Str)=o ++ (⟨#[10]⟩:Str) ++ (("":Str) ++ (⟨#[10]⟩:Str) ++ ("ring":Str))
    rw [ap]; exact congrArg (o ++ ·) (by decide)
theorem sfx_len:∀ s∈sfxL,s.length≤100:=by decide +kernel
theorem nines:MulOk (Str.ofString "9") 70:=⟨by decide,fun _ _=>by decide,fun _ _=>by decide⟩
theorem nines_ok:OkW (Txt.mul (Str.ofString "9") 70):=by
  have h:(∀ c∈(Txt.mul (Str.ofString "9") 70).cps.toList,c < 1114112)∧(Txt.mul (Str.ofString "9") 70).length≤100∧32 ∉ (Txt.mul (Str.ofString "9") 70).cps.toList∧10 ∉ (Txt.mul (Str.ofString "9") 70).cps.toList:=by decide +kernel
  exact ⟨layS_iff.mpr h.1,h.2.1,h.2.2.1,h.2.2.2⟩
theorem zero_ok:OkW (Str.ofString "0"):=by
  have h:(∀ c∈(Str.ofString "0").cps.toList,c < 1114112)∧(Str.ofString "0").length≤100∧32 ∉ (Str.ofString "0").cps.toList∧10 ∉ (Str.ofString "0").cps.toList:=by decide +kernel
  exact ⟨layS_iff.mpr h.1,h.2.1,h.2.2.1,h.2.2.2⟩
theorem feed_bad {s:Str} (h:layS s) (hl:s.length≤900) (hc:10∈s.cps.toList):((layS s∧s.length≤100000)∧(wordsS s).length≤1000)∧rdW (wordsS s)=.exc ("BadText",.non) :=
  ⟨⟨⟨h,by omega⟩,by have:(wordsS s).length≤s.length + 1:=split_cnt; omega⟩,rdW_char hc (by decide) (by decide)⟩
theorem lay_app {a b:Str} (ha:layS a) (hb:layS b):layS (a ++ b):=layS_iff.mpr fun c hc=>by
  rw [Str.cps_append,Array.toList_append] at hc
  rcases List.mem_append.mp hc with z | z
  · exact layS_iff.mp ha c z
  · exact layS_iff.mp hb c z
theorem len_app (a b:Str):(a ++ b).length=a.length + b.length:=by
  rw [len_cps,len_cps,len_cps,Str.cps_append,Array.toList_append,List.length_append]
theorem mem_app {a b:Str} {c:Nat} (h:c∈a.cps.toList ∨ c∈b.cps.toList):c∈(a ++ b).cps.toList:=by
  rw [Str.cps_append,Array.toList_append]
  exact List.mem_append.mpr h
theorem feed_ok:layS (Str.ofString "\n")∧(Str.ofString "\n").length=1∧10∈(Str.ofString "\n").cps.toList:=⟨layS_iff.mpr (by decide +kernel),by decide +kernel,by decide +kernel⟩
theorem empty_bad:((layS (Str.ofString "")∧(Str.ofString "").length≤100000)∧(wordsS (Str.ofString "")).length≤1000)∧rdW (wordsS (Str.ofString ""))=.exc ("BadText",.non):=by
  have e:wordsS (Str.ofString "")=[Str.ofString ""]:=split_join (c:=32) (ws:=[Str.ofString ""]) (by simp) (by decide +kernel)
  rw [e]
  exact ⟨⟨⟨layS_iff.mpr (by decide +kernel),by decide +kernel⟩,by simp⟩,rdW_bad (List.mem_singleton.mpr rfl) (by decide +kernel)⟩
end L2
namespace My
open PySem L2
set_option hygiene false
local macro_rules | `(tactic| walk_at "pu")=>`(tactic| try simp -implicitDefEqProofs only [gv_zero,gv_succ,List.set_cons_zero,List.set_cons_succ,List.cons_append,List.nil_append,List.replicate_succ,List.replicate_zero,List.getElem?_cons_zero,Rr.bind_ok,Rr.bind_exc,Rr.bind_bad,Rr.thenS_ok,Rr.thenS_exc,RS.seq_next,RS.seq_ret,RS.seq_exc,RS.out_next,RS.out_ret,RS.out_exc,
  pAdd_ok,pSub_ok,pLt_ok,pLe_ok,pGt_ok,pGe_ok,grd_int,grd_str,asB_bl,asL_lst,asI_int,pIsi_i,pIsi_l,pNeg_ok,isSub_ii,isSub_ib,isSub_ll,pEq_int,pEq_ints,pLen_ints,pSum_ints,List.length_cons,List.length_nil,Bool.not_true,Bool.not_false,Bool.false_eq_true,if_true,if_false,Nat.reduceAdd,Nat.reduceSub,id,List.map_cons,List.map_nil,Int.reduceToNat,pDiv_small,pMod_ok,p1060,mkL_ok,Nat.reduceLeDiff,Nat.le_refl,Int.reduceLT,Int.reduceLE,Int.reduceEq,decide_true,decide_false])
set_option hygiene true
seal PE PT PA PS PSs DE DT DAA DAF DS
noncomputable def top (i:Nat):Stmt:=PySem.Challenge.pw_sowring_k63_texts_refused.main.body.getD i (.Pass ⟨0,0,0,0⟩)
noncomputable abbrev s__law_at:Stmt:=top 143
theorem sc__law_at:FnScope ["script", "k"] ["script", "k"] (defScope s__law_at):=⟨rfl,rfl,rfl,by decide +kernel,rfl,by decide +kernel,by decide +kernel⟩
theorem bd__law_at:BindFact "_law_at" s__law_at ["script", "k"]:=fun _ _ _ _ _ _ us hl=>by obtain ⟨_,_,rfl⟩:=us2 hl; rfl
noncomputable abbrev s__law_folded:Stmt:=top 144
theorem sc__law_folded:FnScope ["script", "many", "numbers", "k", "at"] ["script", "many"] (defScope s__law_folded):=⟨rfl,rfl,rfl,by decide +kernel,rfl,by decide +kernel,by decide +kernel⟩
theorem bd__law_folded:BindFact "_law_folded" s__law_folded ["script", "many"]:=fun _ _ _ _ _ _ us hl=>by obtain ⟨_,_,rfl⟩:=us2 hl; rfl
noncomputable abbrev s__law_board:Stmt:=top 145
theorem sc__law_board:FnScope ["script", "pits", "way", "board", "number", "held"] ["script", "pits", "way"] (defScope s__law_board):=⟨rfl,rfl,rfl,by decide +kernel,rfl,by decide +kernel,by decide +kernel⟩
theorem bd__law_board:BindFact "_law_board" s__law_board ["script", "pits", "way"]:=fun _ _ _ _ _ _ us hl=>by obtain ⟨_,_,_,rfl⟩:=us3 hl; rfl
noncomputable abbrev s_is_whole:Stmt:=top 21
theorem sc_is_whole:FnScope ["value"] ["value"] (defScope s_is_whole):=⟨rfl,rfl,rfl,by decide +kernel,rfl,by decide +kernel,by decide +kernel⟩
theorem bd_is_whole:BindFact "is_whole" s_is_whole ["value"]:=fun _ _ _ _ _ _ us hl=>by obtain ⟨_,rfl⟩:=us1 hl; rfl
noncomputable abbrev s_is_whole_from:Stmt:=top 22
theorem sc_is_whole_from:FnScope ["value", "least"] ["value", "least"] (defScope s_is_whole_from):=⟨rfl,rfl,rfl,by decide +kernel,rfl,by decide +kernel,by decide +kernel⟩
theorem bd_is_whole_from:BindFact "is_whole_from" s_is_whole_from ["value", "least"]:=fun _ _ _ _ _ _ us hl=>by obtain ⟨_,_,rfl⟩:=us2 hl; rfl
noncomputable abbrev s_is_list_from_nought:Stmt:=top 23
theorem sc_is_list_from_nought:FnScope ["values"] ["values"] (defScope s_is_list_from_nought):=⟨rfl,rfl,rfl,by decide +kernel,rfl,by decide +kernel,by decide +kernel⟩
theorem bd_is_list_from_nought:BindFact "is_list_from_nought" s_is_list_from_nought ["values"]:=fun _ _ _ _ _ _ us hl=>by obtain ⟨_,rfl⟩:=us1 hl; rfl
noncomputable abbrev s_most_seeds:Stmt:=top 20
theorem sc_most_seeds:FnScope [] [] (defScope s_most_seeds):=⟨rfl,rfl,rfl,by decide +kernel,rfl,by decide +kernel,by decide +kernel⟩
theorem bd_most_seeds:BindFact "most_seeds" s_most_seeds []:=fun _ _ _ _ _ _ us hl=>match us,hl with | [],_=>rfl
noncomputable abbrev s_is_board:Stmt:=top 24
theorem sc_is_board:FnScope ["board"] ["board"] (defScope s_is_board):=⟨rfl,rfl,rfl,by decide +kernel,rfl,by decide +kernel,by decide +kernel⟩
theorem bd_is_board:BindFact "is_board" s_is_board ["board"]:=fun _ _ _ _ _ _ us hl=>by obtain ⟨_,rfl⟩:=us1 hl; rfl
noncomputable abbrev s_check_board:Stmt:=top 25
theorem sc_check_board:FnScope ["board"] ["board"] (defScope s_check_board):=⟨rfl,rfl,rfl,by decide +kernel,rfl,by decide +kernel,by decide +kernel⟩
theorem bd_check_board:BindFact "check_board" s_check_board ["board"]:=fun _ _ _ _ _ _ us hl=>by obtain ⟨_,rfl⟩:=us1 hl; rfl
noncomputable abbrev s_number_or_too_many:Stmt:=top 40
theorem sc_number_or_too_many:FnScope ["word"] ["word"] (defScope s_number_or_too_many):=⟨rfl,rfl,rfl,by decide +kernel,rfl,by decide +kernel,by decide +kernel⟩
theorem bd_number_or_too_many:BindFact "number_or_too_many" s_number_or_too_many ["word"]:=fun _ _ _ _ _ _ us hl=>by obtain ⟨_,rfl⟩:=us1 hl; rfl
noncomputable abbrev s_is_number:Stmt:=top 39
theorem sc_is_number:FnScope ["word"] ["word"] (defScope s_is_number):=⟨rfl,rfl,rfl,by decide +kernel,rfl,by decide +kernel,by decide +kernel⟩
theorem bd_is_number:BindFact "is_number" s_is_number ["word"]:=fun _ _ _ _ _ _ us hl=>by obtain ⟨_,rfl⟩:=us1 hl; rfl
noncomputable abbrev s_read_board:Stmt:=top 38
theorem sc_read_board:FnScope ["text", "words", "board"] ["text"] (defScope s_read_board):=⟨rfl,rfl,rfl,by decide +kernel,rfl,by decide +kernel,by decide +kernel⟩
theorem bd_read_board:BindFact "read_board" s_read_board ["text"]:=fun _ _ _ _ _ _ us hl=>by obtain ⟨_,rfl⟩:=us1 hl; rfl
noncomputable abbrev s_answers_to:Stmt:=top 136
theorem sc_answers_to:FnScope ["text", "lines", "board", "questions", "answers", "question"] ["text"] (defScope s_answers_to):=⟨rfl,rfl,rfl,by decide +kernel,rfl,by decide +kernel,by decide +kernel⟩
theorem bd_answers_to:BindFact "answers_to" s_answers_to ["text"]:=fun _ _ _ _ _ _ us hl=>by obtain ⟨_,rfl⟩:=us1 hl; rfl
noncomputable abbrev s__law_refused:Stmt:=top 146
theorem sc__law_refused:FnScope ["way", "text", "caught", "e"] ["way", "text"] (defScope s__law_refused):=⟨rfl,rfl,rfl,by decide +kernel,rfl,by decide +kernel,by decide +kernel⟩
theorem bd__law_refused:BindFact "_law_refused" s__law_refused ["way", "text"]:=fun _ _ _ _ _ _ us hl=>by obtain ⟨_,_,rfl⟩:=us2 hl; rfl
noncomputable abbrev s__law_odd:Stmt:=top 147
theorem sc__law_odd:FnScope ["words", "cell", "some", "odd", "at"] ["words", "cell"] (defScope s__law_odd):=⟨rfl,rfl,rfl,by decide +kernel,rfl,by decide +kernel,by decide +kernel⟩
theorem bd__law_odd:BindFact "_law_odd" s__law_odd ["words", "cell"]:=fun _ _ _ _ _ _ us hl=>by obtain ⟨_,_,rfl⟩:=us2 hl; rfl
noncomputable abbrev s_law:Stmt:=top 148
theorem sc_law:FnScope ["script", "head", "pits", "board", "words", "text", "cell", "odd", "long"] ["script"] (defScope s_law):=⟨rfl,rfl,rfl,by decide +kernel,rfl,by decide +kernel,by decide +kernel⟩
theorem bd_law:BindFact "law" s_law ["script"]:=fun _ _ _ _ _ _ us hl=>by obtain ⟨_,rfl⟩:=us1 hl; rfl
noncomputable abbrev XN:List Str:=["SowError", "BadBoard", "BadPit", "BadPits", "BadCount", "NoSeeds", "Unlike", "TooLong", "TooMany", "BadLine", "BadYard", "BadText"]
noncomputable abbrev XS_SowError:List (Str × Str × Bool):=[("SowError", "SowError",true),("BadBoard", "SowError",true),("BadPit", "SowError",true),("BadPits", "SowError",true),("BadCount", "SowError",true),("NoSeeds", "SowError",true),("Unlike", "SowError",true),("TooLong", "SowError",true),("TooMany", "SowError",true),("BadLine", "SowError",true),("BadYard", "SowError",true),("BadText", "SowError",true)]
noncomputable abbrev XS_BadBoard:List (Str × Str × Bool):=[("SowError", "BadBoard",false),("BadBoard", "BadBoard",true),("BadPit", "BadBoard",false),("BadPits", "BadBoard",false),("BadCount", "BadBoard",false),("NoSeeds", "BadBoard",false),("Unlike", "BadBoard",false),("TooLong", "BadBoard",false),("TooMany", "BadBoard",false),("BadLine", "BadBoard",false),("BadYard", "BadBoard",false),("BadText", "BadBoard",false)]
noncomputable abbrev XS_BadPit:List (Str × Str × Bool):=[("SowError", "BadPit",false),("BadBoard", "BadPit",false),("BadPit", "BadPit",true),("BadPits", "BadPit",false),("BadCount", "BadPit",false),("NoSeeds", "BadPit",false),("Unlike", "BadPit",false),("TooLong", "BadPit",false),("TooMany", "BadPit",false),("BadLine", "BadPit",false),("BadYard", "BadPit",false),("BadText", "BadPit",false)]
noncomputable abbrev XS_BadPits:List (Str × Str × Bool):=[("SowError", "BadPits",false),("BadBoard", "BadPits",false),("BadPit", "BadPits",false),("BadPits", "BadPits",true),("BadCount", "BadPits",false),("NoSeeds", "BadPits",false),("Unlike", "BadPits",false),("TooLong", "BadPits",false),("TooMany", "BadPits",false),("BadLine", "BadPits",false),("BadYard", "BadPits",false),("BadText", "BadPits",false)]
noncomputable abbrev XS_BadCount:List (Str × Str × Bool):=[("SowError", "BadCount",false),("BadBoard", "BadCount",false),("BadPit", "BadCount",false),("BadPits", "BadCount",false),("BadCount", "BadCount",true),("NoSeeds", "BadCount",false),("Unlike", "BadCount",false),("TooLong", "BadCount",false),("TooMany", "BadCount",false),("BadLine", "BadCount",false),("BadYard", "BadCount",false),("BadText", "BadCount",false)]
noncomputable abbrev XS_NoSeeds:List (Str × Str × Bool):=[("SowError", "NoSeeds",false),("BadBoard", "NoSeeds",false),("BadPit", "NoSeeds",false),("BadPits", "NoSeeds",false),("BadCount", "NoSeeds",false),("NoSeeds", "NoSeeds",true),("Unlike", "NoSeeds",false),("TooLong", "NoSeeds",false),("TooMany", "NoSeeds",false),("BadLine", "NoSeeds",false),("BadYard", "NoSeeds",false),("BadText", "NoSeeds",false)]
noncomputable abbrev XS_Unlike:List (Str × Str × Bool):=[("SowError", "Unlike",false),("BadBoard", "Unlike",false),("BadPit", "Unlike",false),("BadPits", "Unlike",false),("BadCount", "Unlike",false),("NoSeeds", "Unlike",false),("Unlike", "Unlike",true),("TooLong", "Unlike",false),("TooMany", "Unlike",false),("BadLine", "Unlike",false),("BadYard", "Unlike",false),("BadText", "Unlike",false)]
noncomputable abbrev XS_TooLong:List (Str × Str × Bool):=[("SowError", "TooLong",false),("BadBoard", "TooLong",false),("BadPit", "TooLong",false),("BadPits", "TooLong",false),("BadCount", "TooLong",false),("NoSeeds", "TooLong",false),("Unlike", "TooLong",false),("TooLong", "TooLong",true),("TooMany", "TooLong",false),("BadLine", "TooLong",false),("BadYard", "TooLong",false),("BadText", "TooLong",false)]
noncomputable abbrev XS_TooMany:List (Str × Str × Bool):=[("SowError", "TooMany",false),("BadBoard", "TooMany",false),("BadPit", "TooMany",false),("BadPits", "TooMany",false),("BadCount", "TooMany",false),("NoSeeds", "TooMany",false),("Unlike", "TooMany",false),("TooLong", "TooMany",false),("TooMany", "TooMany",true),("BadLine", "TooMany",false),("BadYard", "TooMany",false),("BadText", "TooMany",false)]
noncomputable abbrev XS_BadLine:List (Str × Str × Bool):=[("SowError", "BadLine",false),("BadBoard", "BadLine",false),("BadPit", "BadLine",false),("BadPits", "BadLine",false),("BadCount", "BadLine",false),("NoSeeds", "BadLine",false),("Unlike", "BadLine",false),("TooLong", "BadLine",false),("TooMany", "BadLine",false),("BadLine", "BadLine",true),("BadYard", "BadLine",false),("BadText", "BadLine",false)]
noncomputable abbrev XS_BadYard:List (Str × Str × Bool):=[("SowError", "BadYard",false),("BadBoard", "BadYard",false),("BadPit", "BadYard",false),("BadPits", "BadYard",false),("BadCount", "BadYard",false),("NoSeeds", "BadYard",false),("Unlike", "BadYard",false),("TooLong", "BadYard",false),("TooMany", "BadYard",false),("BadLine", "BadYard",false),("BadYard", "BadYard",true),("BadText", "BadYard",false)]
noncomputable abbrev XS_BadText:List (Str × Str × Bool):=[("SowError", "BadText",false),("BadBoard", "BadText",false),("BadPit", "BadText",false),("BadPits", "BadText",false),("BadCount", "BadText",false),("NoSeeds", "BadText",false),("Unlike", "BadText",false),("TooLong", "BadText",false),("TooMany", "BadText",false),("BadLine", "BadText",false),("BadYard", "BadText",false),("BadText", "BadText",true)]
noncomputable abbrev XS:List (Str × Str × Bool):=XS_SowError ++ XS_BadBoard ++ XS_BadPit ++ XS_BadPits ++ XS_BadCount ++ XS_NoSeeds ++ XS_Unlike ++ XS_TooLong ++ XS_TooMany ++ XS_BadLine ++ XS_BadYard ++ XS_BadText
noncomputable abbrev XL_SowError:List (Str × Bool):=[("SowError",true),("BadBoard",true),("BadPit",true),("BadPits",true),("BadCount",true),("NoSeeds",true),("Unlike",true),("TooLong",true),("TooMany",true),("BadLine",true),("BadYard",true),("BadText",true)]
noncomputable abbrev XL_BadBoard:List (Str × Bool):=[("SowError",false),("BadBoard",true),("BadPit",false),("BadPits",false),("BadCount",false),("NoSeeds",false),("Unlike",false),("TooLong",false),("TooMany",false),("BadLine",false),("BadYard",false),("BadText",false)]
noncomputable abbrev XL_BadText:List (Str × Bool):=[("SowError",false),("BadBoard",false),("BadPit",false),("BadPits",false),("BadCount",false),("NoSeeds",false),("Unlike",false),("TooLong",false),("TooMany",false),("BadLine",false),("BadYard",false),("BadText",true)]
noncomputable abbrev XL_ValueError:List (Str × Bool):=[("SowError",true),("BadBoard",true),("BadPit",true),("BadPits",true),("BadCount",true),("NoSeeds",true),("Unlike",true),("TooLong",true),("TooMany",true),("BadLine",true),("BadYard",true),("BadText",true)]
noncomputable abbrev sm_SowError:Stmt:=inClass (top 1) 0
theorem scm_SowError:FnScope ["self"] ["self"] (defScope sm_SowError):=⟨rfl,rfl,rfl,by decide +kernel,rfl,by decide +kernel,by decide +kernel⟩
noncomputable abbrev sm_BadBoard:Stmt:=inClass (top 2) 0
theorem scm_BadBoard:FnScope ["self"] ["self"] (defScope sm_BadBoard):=⟨rfl,rfl,rfl,by decide +kernel,rfl,by decide +kernel,by decide +kernel⟩
noncomputable abbrev sm_BadPit:Stmt:=inClass (top 3) 0
theorem scm_BadPit:FnScope ["self"] ["self"] (defScope sm_BadPit):=⟨rfl,rfl,rfl,by decide +kernel,rfl,by decide +kernel,by decide +kernel⟩
noncomputable abbrev sm_BadPits:Stmt:=inClass (top 4) 0
theorem scm_BadPits:FnScope ["self"] ["self"] (defScope sm_BadPits):=⟨rfl,rfl,rfl,by decide +kernel,rfl,by decide +kernel,by decide +kernel⟩
noncomputable abbrev sm_BadCount:Stmt:=inClass (top 5) 0
theorem scm_BadCount:FnScope ["self"] ["self"] (defScope sm_BadCount):=⟨rfl,rfl,rfl,by decide +kernel,rfl,by decide +kernel,by decide +kernel⟩
noncomputable abbrev sm_NoSeeds:Stmt:=inClass (top 6) 0
theorem scm_NoSeeds:FnScope ["self"] ["self"] (defScope sm_NoSeeds):=⟨rfl,rfl,rfl,by decide +kernel,rfl,by decide +kernel,by decide +kernel⟩
noncomputable abbrev sm_Unlike:Stmt:=inClass (top 7) 0
theorem scm_Unlike:FnScope ["self"] ["self"] (defScope sm_Unlike):=⟨rfl,rfl,rfl,by decide +kernel,rfl,by decide +kernel,by decide +kernel⟩
noncomputable abbrev sm_TooLong:Stmt:=inClass (top 8) 0
theorem scm_TooLong:FnScope ["self"] ["self"] (defScope sm_TooLong):=⟨rfl,rfl,rfl,by decide +kernel,rfl,by decide +kernel,by decide +kernel⟩
noncomputable abbrev sm_TooMany:Stmt:=inClass (top 9) 0
theorem scm_TooMany:FnScope ["self"] ["self"] (defScope sm_TooMany):=⟨rfl,rfl,rfl,by decide +kernel,rfl,by decide +kernel,by decide +kernel⟩
noncomputable abbrev sm_BadLine:Stmt:=inClass (top 10) 0
theorem scm_BadLine:FnScope ["self"] ["self"] (defScope sm_BadLine):=⟨rfl,rfl,rfl,by decide +kernel,rfl,by decide +kernel,by decide +kernel⟩
noncomputable abbrev sm_BadYard:Stmt:=inClass (top 11) 0
theorem scm_BadYard:FnScope ["self"] ["self"] (defScope sm_BadYard):=⟨rfl,rfl,rfl,by decide +kernel,rfl,by decide +kernel,by decide +kernel⟩
noncomputable abbrev sm_BadText:Stmt:=inClass (top 12) 0
theorem scm_BadText:FnScope ["self"] ["self"] (defScope sm_BadText):=⟨rfl,rfl,rfl,by decide +kernel,rfl,by decide +kernel,by decide +kernel⟩
structure Txt (K:PySem.W.Frag) (mg:Str→Option Value):Prop where
  d__law_at:Dfn K mg "_law_at" s__law_at
  d__law_folded:Dfn K mg "_law_folded" s__law_folded
  d__law_board:Dfn K mg "_law_board" s__law_board
  d_is_whole:Dfn K mg "is_whole" s_is_whole
  d_is_whole_from:Dfn K mg "is_whole_from" s_is_whole_from
  d_is_list_from_nought:Dfn K mg "is_list_from_nought" s_is_list_from_nought
  d_most_seeds:Dfn K mg "most_seeds" s_most_seeds
  d_is_board:Dfn K mg "is_board" s_is_board
  d_check_board:Dfn K mg "check_board" s_check_board
  d_number_or_too_many:Dfn K mg "number_or_too_many" s_number_or_too_many
  d_is_number:Dfn K mg "is_number" s_is_number
  d_read_board:Dfn K mg "read_board" s_read_board
  d_answers_to:Dfn K mg "answers_to" s_answers_to
  d__law_refused:Dfn K mg "_law_refused" s__law_refused
  d__law_odd:Dfn K mg "_law_odd" s__law_odd
  d_law:Dfn K mg "law" s_law
  c_FEWEST_PITS:∃ t,mg "FEWEST_PITS"=some (.int 2 t)
  c_FIGURES:∃ t,mg "FIGURES"=some (.str "0123456789" t)
  c_MOST_FIGURES:∃ t,mg "MOST_FIGURES"=some (.int 61 t)
  c_MOST_PITS:∃ t,mg "MOST_PITS"=some (.int 24 t)
  z_ValueError:mg "ValueError"=none
  z_all:mg "all"=none
  z_bool:mg "bool"=none
  z_int:mg "int"=none
  z_isinstance:mg "isinstance"=none
  z_len:mg "len"=none
  z_list:mg "list"=none
  z_range:mg "range"=none
  z_str:mg "str"=none
  z_sum:mg "sum"=none
  x_tab:xTab K XN XS=true
  x_mg:∀ n C,XCls K n C→mg n=some (.ref C)
  m_SowError:MDfn K "SowError" "called" "SowError.called" sm_SowError
  m_BadBoard:MDfn K "BadBoard" "called" "BadBoard.called" sm_BadBoard
  m_BadPit:MDfn K "BadPit" "called" "BadPit.called" sm_BadPit
  m_BadPits:MDfn K "BadPits" "called" "BadPits.called" sm_BadPits
  m_BadCount:MDfn K "BadCount" "called" "BadCount.called" sm_BadCount
  m_NoSeeds:MDfn K "NoSeeds" "called" "NoSeeds.called" sm_NoSeeds
  m_Unlike:MDfn K "Unlike" "called" "Unlike.called" sm_Unlike
  m_TooLong:MDfn K "TooLong" "called" "TooLong.called" sm_TooLong
  m_TooMany:MDfn K "TooMany" "called" "TooMany.called" sm_TooMany
  m_BadLine:MDfn K "BadLine" "called" "BadLine.called" sm_BadLine
  m_BadYard:MDfn K "BadYard" "called" "BadYard.called" sm_BadYard
  m_BadText:MDfn K "BadText" "called" "BadText.called" sm_BadText
section
variable {P:Program} {w:World} {K:PySem.W.Frag} {mg:Str→Option Value} {base:Heap}
theorem mk_SowError (T:Txt K mg):MOk P w K mg base 1 "called" "SowError":=by
  obtain ⟨C,f,fd,h1,h2,h3,F⟩:=T.m_SowError
  obtain ⟨C2,c1,_,c2,_⟩:=xTab_one T.x_tab (n := "SowError") (by decide)
  obtain rfl:=c1.inj h1
  refine ⟨C2,f,fd,h1,c2,h2,h3,F.kp,F.binds (fun _ _ _ _ _ _ us hl=>match us,hl with | [_],_=>rfl), ?_⟩
  exact F.okP scm_SowError rfl rfl (fun cdv A outer s H E hr=>⟨_,_,⟨[],[],[],.P⟩,rfl,pss_one (ps_ret pe_str),ds_retP de_str,fun xs=>.inr rfl⟩)
theorem mk_BadBoard (T:Txt K mg):MOk P w K mg base 1 "called" "BadBoard":=by
  obtain ⟨C,f,fd,h1,h2,h3,F⟩:=T.m_BadBoard
  obtain ⟨C2,c1,_,c2,_⟩:=xTab_one T.x_tab (n := "BadBoard") (by decide)
  obtain rfl:=c1.inj h1
  refine ⟨C2,f,fd,h1,c2,h2,h3,F.kp,F.binds (fun _ _ _ _ _ _ us hl=>match us,hl with | [_],_=>rfl), ?_⟩
  exact F.okP scm_BadBoard rfl rfl (fun cdv A outer s H E hr=>⟨_,_,⟨[],[],[],.P⟩,rfl,pss_one (ps_ret pe_str),ds_retP de_str,fun xs=>.inr rfl⟩)
theorem mk_BadPit (T:Txt K mg):MOk P w K mg base 1 "called" "BadPit":=by
  obtain ⟨C,f,fd,h1,h2,h3,F⟩:=T.m_BadPit
  obtain ⟨C2,c1,_,c2,_⟩:=xTab_one T.x_tab (n := "BadPit") (by decide)
  obtain rfl:=c1.inj h1
  refine ⟨C2,f,fd,h1,c2,h2,h3,F.kp,F.binds (fun _ _ _ _ _ _ us hl=>match us,hl with | [_],_=>rfl), ?_⟩
  exact F.okP scm_BadPit rfl rfl (fun cdv A outer s H E hr=>⟨_,_,⟨[],[],[],.P⟩,rfl,pss_one (ps_ret pe_str),ds_retP de_str,fun xs=>.inr rfl⟩)
theorem mk_BadPits (T:Txt K mg):MOk P w K mg base 1 "called" "BadPits":=by
  obtain ⟨C,f,fd,h1,h2,h3,F⟩:=T.m_BadPits
  obtain ⟨C2,c1,_,c2,_⟩:=xTab_one T.x_tab (n := "BadPits") (by decide)
  obtain rfl:=c1.inj h1
  refine ⟨C2,f,fd,h1,c2,h2,h3,F.kp,F.binds (fun _ _ _ _ _ _ us hl=>match us,hl with | [_],_=>rfl), ?_⟩
  exact F.okP scm_BadPits rfl rfl (fun cdv A outer s H E hr=>⟨_,_,⟨[],[],[],.P⟩,rfl,pss_one (ps_ret pe_str),ds_retP de_str,fun xs=>.inr rfl⟩)
theorem mk_BadCount (T:Txt K mg):MOk P w K mg base 1 "called" "BadCount":=by
  obtain ⟨C,f,fd,h1,h2,h3,F⟩:=T.m_BadCount
  obtain ⟨C2,c1,_,c2,_⟩:=xTab_one T.x_tab (n := "BadCount") (by decide)
  obtain rfl:=c1.inj h1
  refine ⟨C2,f,fd,h1,c2,h2,h3,F.kp,F.binds (fun _ _ _ _ _ _ us hl=>match us,hl with | [_],_=>rfl), ?_⟩
  exact F.okP scm_BadCount rfl rfl (fun cdv A outer s H E hr=>⟨_,_,⟨[],[],[],.P⟩,rfl,pss_one (ps_ret pe_str),ds_retP de_str,fun xs=>.inr rfl⟩)
theorem mk_NoSeeds (T:Txt K mg):MOk P w K mg base 1 "called" "NoSeeds":=by
  obtain ⟨C,f,fd,h1,h2,h3,F⟩:=T.m_NoSeeds
  obtain ⟨C2,c1,_,c2,_⟩:=xTab_one T.x_tab (n := "NoSeeds") (by decide)
  obtain rfl:=c1.inj h1
  refine ⟨C2,f,fd,h1,c2,h2,h3,F.kp,F.binds (fun _ _ _ _ _ _ us hl=>match us,hl with | [_],_=>rfl), ?_⟩
  exact F.okP scm_NoSeeds rfl rfl (fun cdv A outer s H E hr=>⟨_,_,⟨[],[],[],.P⟩,rfl,pss_one (ps_ret pe_str),ds_retP de_str,fun xs=>.inr rfl⟩)
theorem mk_Unlike (T:Txt K mg):MOk P w K mg base 1 "called" "Unlike":=by
  obtain ⟨C,f,fd,h1,h2,h3,F⟩:=T.m_Unlike
  obtain ⟨C2,c1,_,c2,_⟩:=xTab_one T.x_tab (n := "Unlike") (by decide)
  obtain rfl:=c1.inj h1
  refine ⟨C2,f,fd,h1,c2,h2,h3,F.kp,F.binds (fun _ _ _ _ _ _ us hl=>match us,hl with | [_],_=>rfl), ?_⟩
  exact F.okP scm_Unlike rfl rfl (fun cdv A outer s H E hr=>⟨_,_,⟨[],[],[],.P⟩,rfl,pss_one (ps_ret pe_str),ds_retP de_str,fun xs=>.inr rfl⟩)
theorem mk_TooLong (T:Txt K mg):MOk P w K mg base 1 "called" "TooLong":=by
  obtain ⟨C,f,fd,h1,h2,h3,F⟩:=T.m_TooLong
  obtain ⟨C2,c1,_,c2,_⟩:=xTab_one T.x_tab (n := "TooLong") (by decide)
  obtain rfl:=c1.inj h1
  refine ⟨C2,f,fd,h1,c2,h2,h3,F.kp,F.binds (fun _ _ _ _ _ _ us hl=>match us,hl with | [_],_=>rfl), ?_⟩
  exact F.okP scm_TooLong rfl rfl (fun cdv A outer s H E hr=>⟨_,_,⟨[],[],[],.P⟩,rfl,pss_one (ps_ret pe_str),ds_retP de_str,fun xs=>.inr rfl⟩)
theorem mk_TooMany (T:Txt K mg):MOk P w K mg base 1 "called" "TooMany":=by
  obtain ⟨C,f,fd,h1,h2,h3,F⟩:=T.m_TooMany
  obtain ⟨C2,c1,_,c2,_⟩:=xTab_one T.x_tab (n := "TooMany") (by decide)
  obtain rfl:=c1.inj h1
  refine ⟨C2,f,fd,h1,c2,h2,h3,F.kp,F.binds (fun _ _ _ _ _ _ us hl=>match us,hl with | [_],_=>rfl), ?_⟩
  exact F.okP scm_TooMany rfl rfl (fun cdv A outer s H E hr=>⟨_,_,⟨[],[],[],.P⟩,rfl,pss_one (ps_ret pe_str),ds_retP de_str,fun xs=>.inr rfl⟩)
theorem mk_BadLine (T:Txt K mg):MOk P w K mg base 1 "called" "BadLine":=by
  obtain ⟨C,f,fd,h1,h2,h3,F⟩:=T.m_BadLine
  obtain ⟨C2,c1,_,c2,_⟩:=xTab_one T.x_tab (n := "BadLine") (by decide)
  obtain rfl:=c1.inj h1
  refine ⟨C2,f,fd,h1,c2,h2,h3,F.kp,F.binds (fun _ _ _ _ _ _ us hl=>match us,hl with | [_],_=>rfl), ?_⟩
  exact F.okP scm_BadLine rfl rfl (fun cdv A outer s H E hr=>⟨_,_,⟨[],[],[],.P⟩,rfl,pss_one (ps_ret pe_str),ds_retP de_str,fun xs=>.inr rfl⟩)
theorem mk_BadYard (T:Txt K mg):MOk P w K mg base 1 "called" "BadYard":=by
  obtain ⟨C,f,fd,h1,h2,h3,F⟩:=T.m_BadYard
  obtain ⟨C2,c1,_,c2,_⟩:=xTab_one T.x_tab (n := "BadYard") (by decide)
  obtain rfl:=c1.inj h1
  refine ⟨C2,f,fd,h1,c2,h2,h3,F.kp,F.binds (fun _ _ _ _ _ _ us hl=>match us,hl with | [_],_=>rfl), ?_⟩
  exact F.okP scm_BadYard rfl rfl (fun cdv A outer s H E hr=>⟨_,_,⟨[],[],[],.P⟩,rfl,pss_one (ps_ret pe_str),ds_retP de_str,fun xs=>.inr rfl⟩)
theorem mk_BadText (T:Txt K mg):MOk P w K mg base 1 "called" "BadText":=by
  obtain ⟨C,f,fd,h1,h2,h3,F⟩:=T.m_BadText
  obtain ⟨C2,c1,_,c2,_⟩:=xTab_one T.x_tab (n := "BadText") (by decide)
  obtain rfl:=c1.inj h1
  refine ⟨C2,f,fd,h1,c2,h2,h3,F.kp,F.binds (fun _ _ _ _ _ _ us hl=>match us,hl with | [_],_=>rfl), ?_⟩
  exact F.okP scm_BadText rfl rfl (fun cdv A outer s H E hr=>⟨_,_,⟨[],[],[],.P⟩,rfl,pss_one (ps_ret pe_str),ds_retP de_str,fun xs=>.inr rfl⟩)
theorem mk_all (T:Txt K mg):∀ n∈XN,MOk P w K mg base 1 "called" n:=fun n hn=>by
  simp only [XN,List.mem_cons,List.not_mem_nil,or_false] at hn
  rcases hn with rfl | rfl | rfl | rfl | rfl | rfl | rfl | rfl | rfl | rfl | rfl | rfl
  · exact mk_SowError T
  · exact mk_BadBoard T
  · exact mk_BadPit T
  · exact mk_BadPits T
  · exact mk_BadCount T
  · exact mk_NoSeeds T
  · exact mk_Unlike T
  · exact mk_TooLong T
  · exact mk_TooMany T
  · exact mk_BadLine T
  · exact mk_BadYard T
  · exact mk_BadText T
theorem lx_SowError_BadText:pIsX XL_SowError (.exc "BadText")=.ok (.bl true):=pIsX_exc (by decide)
theorem lx_BadBoard_BadText:pIsX XL_BadBoard (.exc "BadText")=.ok (.bl false):=pIsX_exc (by decide)
theorem lx_BadText_BadText:pIsX XL_BadText (.exc "BadText")=.ok (.bl true):=pIsX_exc (by decide)
theorem lc_BadText:pCalled XN (.exc "BadText")=.ok (.str "BadText"):=pCalled_exc (by decide)
theorem ls_BadText:PyData.canLay0 (.str "BadText")=true:=by rw [PyData.canLay0]; decide +kernel
theorem le_BadText_BadText {g:Bool→Bool}:pEqG g (.str "BadText") (.str "BadText")=.ok (.bl (g true)):=pEq_str ls_BadText ls_BadText
set_option hygiene false
local macro_rules | `(tactic| walk_at "pd")=>`(tactic| try simp -implicitDefEqProofs (disch:=first | omega | (simp only [List.length_map,List.length_append,List.length_set,List.length_replicate,List.length_cons,List.length_nil,List.length_take,List.length_drop,List.length_range,rngP_length]; omega) | decide) only [gv_zero,gv_succ,List.set_cons_zero,List.set_cons_succ,List.cons_append,List.nil_append,repN_succ,repN_zero,List.getElem?_cons_zero,Rr.bind_ok,Rr.bind_exc,Rr.bind_bad,Rr.thenS_ok,Rr.thenS_exc,RS.seq_next,RS.seq_ret,RS.seq_exc,RS.out_next,RS.out_ret,RS.out_exc,
  asS_ok,pAdd_ok,pSub_ok,pLt_ok,pLe_ok,pGt_ok,pGe_ok,grd_int,grd_str,asB_bl,asL_lst,asLf_int,asI_int,pIsi_i,pIsi_l,pNeg_ok,isSub_ii,isSub_ib,isSub_ll,pEq_int,pEq_ints,pEq_nn,pLen_ints,pSum_ints,List.length_cons,List.length_nil,Bool.not_true,Bool.not_false,Bool.false_eq_true,if_true,if_false,Nat.reduceAdd,Nat.reduceSub,id,List.map_cons,List.map_nil,Int.reduceToNat,pDiv_small,pMod_ok,p1060,mkL_ok,Nat.reduceLeDiff,Nat.le_refl,Int.reduceLT,Int.reduceLE,Int.reduceEq,decide_true,decide_false,
  pIx_ints,pSet_ints,pApp_ints,pRng2_ok,lenM_ok,newF_ints,newF_cat,cut_to,tryR_eq,tryX_in,orX_none,orX_some,newF_cons,pAll_bls,beq_self_eq_true,Bool.and_true,Bool.true_and,Bool.and_false,Bool.false_and,lx_SowError_BadText,lx_BadBoard_BadText,lx_BadText_BadText,lc_BadText,le_BadText_BadText])
set_option hygiene true
noncomputable def pm__law_at:Pm:=⟨List Int × Int,fun a=>[.lst (a.1.map PV.int),.int a.2],fun a=>0≤a.2,fun a=>.ok (.int (a.1.getD a.2.toNat 0))⟩
theorem fn__law_at (T:Txt K mg) {f:Addr} {fd:FuncData} (F:Fun K "_law_at" "_law_at" s__law_at f fd):FnOk P w K mg base CX0 1 f fd ["script", "k"] (spF K 2 .P W0 pm__law_at.fn):=by
  refine F.okP sc__law_at rfl rfl (fun cdv A outer s H E hr=>?_)
  have hu:=hr.units
  refine ⟨_,_,⟨[],[],[],.P⟩,rfl,(pss_cons (ps_if (pt_cmpR op_lt (pv 1) (pe_callB (call_lenK (K:=K)) rfl T.z_len bb_len (pa_cons (pv 0) pa_nil)) (nomark _)) (pss_one (ps_ret (pe_ix (ix_seqK (K:=K)) (pv 0) (pv 1) (fun _ _=>rfl)))) pss_nil)
      (pss_one (ps_ret pe_int))),
      (ds_seq (Γm:=[.S,.S]) (ds_if (dt_test (DE.toA (de_lt (de_varA (i:=1) (m:=.S) rfl (by decide)) (DE.toA (de_len (daa_cons (de_varA (i:=0) (m:=.S) rfl (by decide)) daa_nil))))))
      (ds_retP (DE.grd (de_ixA (te:=tC .non) (de_varA (i:=0) (m:=.S) rfl (by decide)) (de_varA (i:=1) (m:=.S) rfl (by decide)))))
      ds_next)
      (ds_retP de_int)), ?_⟩
  refine Pm.ref pm__law_at (g:=fun xs=>_) ?_
  rintro ⟨ns,k⟩ (hk:0≤k)
  simp only [pm__law_at]
  walk_at "pu"
  by_cases h:k < ns.length
  · rw [if_pos (decide_eq_true h),pIx_ints hk h]
    walk_at "pu"
  · rw [if_neg (by simpa using h)]
    walk_at "pu"
    rw [List.getD_eq_getElem?_getD,List.getElem?_eq_none (by omega)]; rfl
theorem c__law_at {ns:List Int} {k:Int} (h:0≤k):pm__law_at.fn [.lst (ns.map PV.int),.int k]=.ok (.int (ns.getD k.toNat 0)):=Pm.fn_eq pm__law_at (ns,k) h fun (a:List Int × Int) e=>by (simp only [pm__law_at,List.cons.injEq,PV.lst.injEq,PV.int.injEq,PV.str.injEq,PV.bl.injEq,PV.tup.injEq,ints_iff,and_true] at e ⊢; first | (simp only [e]; done) | (subst e; rfl) | (rw [e]))
noncomputable def pm__law_folded:Pm:=⟨List Int × Int,fun a=>[.lst (a.1.map PV.int),.int a.2],fun a=>a.1.length≤63∧1≤a.2∧a.2≤24,fun a=>.ok (.lst ((folded a.1 a.2).map PV.int))⟩
theorem fn__law_folded (T:Txt K mg) {f:Addr} {fd:FuncData} (F:Fun K "_law_folded" "_law_folded" s__law_folded f fd):FnOk P w K mg base CX0 1 f fd ["script", "many"] (spF K 2 .F W0 pm__law_folded.fn):=by
  refine F.okP sc__law_folded rfl rfl (fun cdv A outer s H E hr=>?_)
  have hu:=hr.units
  refine ⟨_,_,⟨[],[],[],.F⟩,rfl,(pss_cons (ps_set (i:=2) sc__law_folded.nd rfl (by first | exact Or.inl rfl | exact Or.inr rfl) (pe_op op_rep (pe_lst (pa_cons pe_int pa_nil)) (pv 1)))
      (pss_cons (ps_for PassesOwn.never rfl (pi_range2 rfl T.z_range (pa_cons pe_int (pa_cons (pe_callB (call_lenK (K:=K)) rfl T.z_len bb_len (pa_cons (pv 0) pa_nil)) pa_nil))) (pg_name (i:=3) sc__law_folded.nd rfl (by first | exact Or.inl rfl | exact Or.inr rfl)) (pss_cons (ps_set (i:=4) sc__law_folded.nd rfl (by first | exact Or.inl rfl | exact Or.inr rfl) (pe_op op_mod (pe_op op_sub (pv 3) pe_int) (pv 1)))
      (pss_one (ps_asg (pe_op op_mod (pe_op op_add (pe_op op_mulB (pe_ix (ix_seqK (K:=K)) (pv 2) (pv 4) (fun _ _=>rfl)) pe_int) (pe_ix (ix_seqK (K:=K)) (pv 0) (pv 3) (fun _ _=>rfl))) (pe_op op_pow pe_int pe_int)) (pg_sub (pv 2) (pv 4) set_list)))))
      (pss_one (ps_ret (pv 2))))),
      (ds_seq (Γm:=[.S,.S,.O,.U,.U]) (ds_setF (i:=2) (de_repF (daa_cons (DE.toA de_int) daa_nil) (de_varA (i:=1) (m:=.S) rfl (by decide))) (by decide))
      (ds_seq (Γm:=[.S,.S,.O,.U,.U]) (ds_for (Γl:=[.S,.S,.O,.U,.U]) (di_rng2 (daa_cons (DE.toA de_int) (daa_cons (DE.toA (de_len (daa_cons (de_varA (i:=0) (m:=.S) rfl (by decide)) daa_nil))) daa_nil))) rfl (dg_P (i:=3) (by decide))
      (DS.out (Y:=⟨[.S,.S,.O,.P,.P],[.S,.S,.O,.U,.U],[.S,.S,.O,.U,.U],.F⟩) (Y':=⟨[.S,.S,.O,.U,.U],[.S,.S,.O,.U,.U],[.S,.S,.O,.U,.U],.F⟩) (ds_seq (Γm:=[.S,.S,.O,.P,.P]) (ds_setP (i:=4) (de_mod (DE.toA (de_sub (DE.toA (de_varP (i:=3) rfl)) (DE.toA de_int))) (de_varA (i:=1) (m:=.S) rfl (by decide))) (by decide))
      (ds_setItO (i:=2) rfl (de_mod (DE.toA (de_add (DE.toA (de_mul (de_ixA (te:=tC .non) (de_varA (i:=2) (m:=.O) rfl (by decide)) (DE.toA (de_varP (i:=4) rfl))) (DE.toA de_int))) (de_ixA (te:=tC .non) (de_varA (i:=0) (m:=.S) rfl (by decide)) (DE.toA (de_varP (i:=3) rfl))))) (DE.toA (de_pow (DE.toA de_int) (DE.toA de_int)))) (DE.toA (de_varP (i:=4) rfl)))) rfl rfl rfl rfl))
      (ds_retF (de_varM (i:=2) rfl)))), ?_⟩
  refine Pm.ref pm__law_folded (g:=fun xs=>_) ?_
  rintro ⟨ns,m⟩ ⟨hn,hm1,hm2⟩
  simp only at hn hm1 hm2
  simp only [pm__law_folded]
  walk_at "pu"
  have e0:pRep [PV.int 0] (.int m)=.ok (.lst ((foldI ns m 0).map PV.int)):=by
    have:=pRep_ints (ns:=[0]) (k:=m) (by simp; omega) (by omega) (by omega)
    simp only [List.map_cons,List.map_nil] at this
    rw [this,List.flatten_replicate_singleton]; rfl
  rw [e0]
  walk_at "pu"
  rw [pRng2_ok (by omega) (by omega)]
  walk_at "pu"
  generalize hb:(fun (x:PV) (ρ:List PV)=>_)=body
  obtain ⟨ρ',h1,h2⟩:=forR_inv (b:=body) (xs:=rngP 1 ((ns.length:Int) - 1).toNat) (ρ:=[.lst (ns.map PV.int),.int m,.lst ((foldI ns m 0).map PV.int),.non,.non]) (fun i ρ=>∃ v3 v4,ρ=[.lst (ns.map PV.int),.int m,.lst ((foldI ns m i).map PV.int),v3,v4]) ⟨_,_,rfl⟩ (by
    rintro i x ρ hx ⟨v3,v4,rfl⟩
    obtain ⟨hi,rfl⟩:=rngP_get hx
    subst hb
    have a0:=Int.emod_nonneg (i:Int) (show m≠0 by omega)
    have a1:=Int.emod_lt_of_pos (i:Int) (show 0 < m by omega)
    have e1:(1:Int) + i - 1=i:=by omega
    have hl:=foldI_length ns m i
    walk_at "pu"
    rw [pMod_ok (by omega)]
    walk_at "pu"
    rw [e1,pIx_ints a0 (by omega),pIx_ints (by omega) (by omega)]
    walk_at "pu"
    have hb:=foldI_bound ns m i ((foldI ns m i).getD ((i:Int) % m).toNat 0) (getD_mem' (by omega))
    rw [pMul_ok (cmul_of 60 2 (by omega) (by decide))]
    walk_at "pu"
    rw [pMod_ok (by decide)]
    walk_at "pu"
    rw [pSet_ints a0 (by omega)]
    walk_at "pu"
    rw [show (1 + (i:Int)).toNat=i + 1 by omega,← foldI_succ]
    exact nextI ⟨_,_,rfl⟩)
  obtain ⟨v3,v4,rfl⟩:=h2
  rw [h1]
  walk_at "pu"
  rw [rngP_length]
  unfold folded
  rw [show ((ns.length:Int) - 1).toNat=ns.length - 1 by omega]
theorem c__law_folded {ns:List Int} {m:Int} (h:ns.length≤63∧1≤m∧m≤24):pm__law_folded.fn [.lst (ns.map PV.int),.int m]=.ok (.lst ((folded ns m).map PV.int)) :=
  Pm.fn_eq pm__law_folded (ns,m) h fun ⟨ns',k'⟩ e=>by
    simp only [pm__law_folded,List.cons.injEq,PV.lst.injEq,PV.int.injEq,and_true] at e ⊢
    rw [ints_inj' e.1,e.2]
noncomputable def pm__law_board:Pm:=⟨List Int × Int × Int,fun a=>[.lst (a.1.map PV.int),.int a.2.1,.int a.2.2],fun a=>a.1.length≤63∧2≤a.2.1∧a.2.1≤24,fun a=>.ok (.lst ((lawBoard a.1 a.2.1 a.2.2).map PV.int))⟩
theorem fn__law_board (T:Txt K mg) {f:Addr} {fd:FuncData} (F:Fun K "_law_board" "_law_board" s__law_board f fd):FnOk P w K mg base CX0 2 f fd ["script", "pits", "way"] (spF K 3 .F W0 pm__law_board.fn):=by
  have G__law_folded:=okOf (P:=P) (w:=w) (base:=base) T.d__law_folded bd__law_folded (fun F=>fn__law_folded T F)
  refine F.okP sc__law_board rfl rfl (fun cdv A outer s H E hr=>?_)
  have hu:=hr.units
  refine ⟨_,_,⟨[],[],[],.F⟩,rfl,(pss_cons (ps_set (i:=3) sc__law_board.nd rfl (by first | exact Or.inl rfl | exact Or.inr rfl) (pe_lst pa_nil))
      (pss_cons (ps_for PassesOwn.never rfl (pi_listK (K:=K) (pe_callO G__law_folded (hr.mono (by decide)) rfl (pa_cons (pv 0) (pa_cons (pv 1) pa_nil)))) (pg_name (i:=4) sc__law_board.nd rfl (by first | exact Or.inl rfl | exact Or.inr rfl)) (pss_cons (ps_set (i:=5) sc__law_board.nd rfl (by first | exact Or.inl rfl | exact Or.inr rfl) (pe_op op_mod (pe_op op_fdivB (pv 4) pe_int) pe_int))
      (pss_cons (ps_if (pt_cmpR (op_eqD (K:=K) hu) (pv 2) pe_int (nomark _)) (pss_one (ps_set (i:=5) sc__law_board.nd rfl (by first | exact Or.inl rfl | exact Or.inr rfl) (pe_op op_mod (pe_op op_fdivB (pv 4) pe_int) pe_int))) pss_nil)
      (pss_cons (ps_if (pt_cmpR (op_eqD (K:=K) hu) (pv 2) pe_int (nomark _)) (pss_one (ps_set (i:=5) sc__law_board.nd rfl (by first | exact Or.inl rfl | exact Or.inr rfl) (pe_op op_fdivB (pv 4) pe_int))) pss_nil)
      (pss_cons (ps_if (pt_cmpR (op_eqD (K:=K) hu) (pv 2) pe_int (nomark _)) (pss_one (ps_set (i:=5) sc__law_board.nd rfl (by first | exact Or.inl rfl | exact Or.inr rfl) (pe_ix (ix_seqK (K:=K)) (pe_lst (pa_cons pe_int (pa_cons pe_int (pa_cons (pe_op op_fdivB (pv 4) pe_int) (pa_cons (pv 1) pa_nil))))) (pe_op op_mod (pe_op op_fdivB (pv 4) pe_int) pe_int) (fun _ _=>rfl)))) pss_nil)
      (pss_one (ps_expr (pe_bm PySem.F.plainAttrs_list PySem.F.slot_list_append PySem.F.type_list_append mt_append (pv 3) (pa_cons (pv 5) pa_nil)))))))))
      (pss_one (ps_ret (pv 3))))),
      (ds_seq (Γm:=[.S,.S,.S,.O,.U,.U]) (ds_setF (i:=3) (de_lstF daf_nil) (by decide))
      (ds_seq (Γm:=[.S,.S,.S,.O,.U,.U]) (ds_for (Γl:=[.S,.S,.S,.O,.U,.U]) (di_list (DE.FZ (dc_F (len_cons (len_cons len_nil)) (daa_cons (de_varA (i:=0) (m:=.S) rfl (by decide)) (daa_cons (de_varA (i:=1) (m:=.S) rfl (by decide)) daa_nil))))) rfl (dg_P (i:=4) (by decide))
      (DS.out (Y:=⟨[.S,.S,.S,.O,.P,.P],[.S,.S,.S,.O,.U,.U],[.S,.S,.S,.O,.U,.U],.F⟩) (Y':=⟨[.S,.S,.S,.O,.U,.U],[.S,.S,.S,.O,.U,.U],[.S,.S,.S,.O,.U,.U],.F⟩) (ds_seq (Γm:=[.S,.S,.S,.O,.P,.P]) (ds_setP (i:=5) (de_mod (DE.toA (de_div (DE.toA (de_varP (i:=4) rfl)) (DE.toA de_int))) (DE.toA de_int)) (by decide))
      (ds_seq (Γm:=[.S,.S,.S,.O,.P,.P]) (ds_if (dt_test (DE.toA (de_eqG (g:=id) (de_varA (i:=2) (m:=.S) rfl (by decide)) (DE.toA de_int))))
      (ds_setP (i:=5) (de_mod (DE.toA (de_div (DE.toA (de_varP (i:=4) rfl)) (DE.toA de_int))) (DE.toA de_int)) (by decide))
      ds_next)
      (ds_seq (Γm:=[.S,.S,.S,.O,.P,.P]) (ds_if (dt_test (DE.toA (de_eqG (g:=id) (de_varA (i:=2) (m:=.S) rfl (by decide)) (DE.toA de_int))))
      (ds_setP (i:=5) (de_div (DE.toA (de_varP (i:=4) rfl)) (DE.toA de_int)) (by decide))
      ds_next)
      (ds_seq (Γm:=[.S,.S,.S,.O,.P,.P]) (ds_if (dt_test (DE.toA (de_eqG (g:=id) (de_varA (i:=2) (m:=.S) rfl (by decide)) (DE.toA de_int))))
      (ds_setP (i:=5) (DE.grd (de_ixA (te:=tC .non) (DE.toA (de_lstF (daf_cons (DE.PF de_int) (daf_cons (DE.PF de_int) (daf_cons (DE.PF (de_div (DE.toA (de_varP (i:=4) rfl)) (DE.toA de_int))) (daf_cons (DE.PF (DE.grd (de_varA (i:=1) (m:=.S) rfl (by decide)))) daf_nil)))))) (DE.toA (de_mod (DE.toA (de_div (DE.toA (de_varP (i:=4) rfl)) (DE.toA de_int))) (DE.toA de_int))))) (by decide))
      ds_next)
      (ds_appO (i:=3) rfl rfl (DE.PF (de_varP (i:=5) rfl))))))) rfl rfl rfl rfl))
      (ds_retF (de_varM (i:=3) rfl)))), ?_⟩
  refine Pm.ref pm__law_board (g:=fun xs=>_) ?_
  rintro ⟨ns,m,way⟩ ⟨hn,hm1,hm2⟩
  simp only at hn hm1 hm2
  simp only [pm__law_board]
  walk_at "pu"
  rw [c__law_folded ⟨hn,by omega,hm2⟩]
  walk_at "pu"
  have hfl:(folded ns m).length=m.toNat:=foldI_length ns m _
  generalize hb:(fun (x:PV) (ρ:List PV)=>_)=body
  obtain ⟨ρ',h1,h2⟩:=forR_inv (b:=body) (xs:=(folded ns m).map PV.int) (ρ:=[.lst (ns.map PV.int),.int m,.int way,.lst [],.non,.non])
    (fun i ρ=>∃ v4 v5,ρ=[.lst (ns.map PV.int),.int m,.int way,.lst ((((folded ns m).take i).map (heldF m way)).map PV.int),v4,v5]) ⟨_,_,rfl⟩ (by
    rintro i x ρ hx ⟨v4,v5,rfl⟩
    obtain ⟨z,rfl,hz,hi⟩:=ints_get hx
    obtain ⟨z0,z1⟩:=foldI_bound ns m _ z (List.mem_of_getElem? hz)
    have tk:(folded ns m).take (i + 1)=(folded ns m).take i ++ [z]:=by
      rw [List.take_succ,hz]; rfl
    have app:∀ v,v=heldF m way z→pApp (.lst ((((folded ns m).take i).map (heldF m way)).map PV.int)) (.int v)=.ok (.lst ((((folded ns m).take (i + 1)).map (heldF m way)).map PV.int)):=fun v hv=>by
      rw [pApp_ints (by simp; omega),hv,tk]
      simp
    subst hb
    by_cases w3:way=3
    · subst w3
      have e:pIx (.lst [.int 0,.int 1,.int (z / 24),.int m]) (.int (z / 7 % 4))=.ok (.int ([0,1,z / 24,m].getD (z / 7 % 4).toNat 0)):=pIx_ints (ns:=[0,1,z / 24,m]) (by omega) (by simp only [List.length_cons,List.length_nil]; omega)
      walk_at "pu"
      rw [e]
      walk_at "pu"
      rw [app _ (by unfold heldF; rw [if_pos rfl])]
      walk_at "pu"
      exact nextI ⟨_,_,rfl⟩
    · by_cases w2:way=2
      · subst w2
        walk_at "pu"
        rw [app _ (by unfold heldF; rw [if_neg (by decide),if_pos rfl])]
        walk_at "pu"
        exact nextI ⟨_,_,rfl⟩
      · by_cases w1:way=1
        · subst w1
          walk_at "pu"
          rw [app _ (by unfold heldF; rw [if_neg (by decide),if_neg (by decide),if_pos rfl])]
          walk_at "pu"
          exact nextI ⟨_,_,rfl⟩
        · walk_at "pu"
          rw [decide_eq_false w1]
          walk_at "pu"
          rw [decide_eq_false w2]
          walk_at "pu"
          rw [decide_eq_false w3]
          walk_at "pu"
          rw [app _ (by unfold heldF; rw [if_neg w3,if_neg w2,if_neg w1])]
          walk_at "pu"
          exact nextI ⟨_,_,rfl⟩)
  obtain ⟨v4,v5,rfl⟩:=h2
  rw [h1]
  walk_at "pu"
  rw [List.length_map,List.take_of_length_le (Nat.le_refl _)]
  rfl
theorem c__law_board {ns:List Int} {m way:Int} (h:ns.length≤63∧2≤m∧m≤24):pm__law_board.fn [.lst (ns.map PV.int),.int m,.int way]=.ok (.lst ((lawBoard ns m way).map PV.int)) :=
  Pm.fn_eq pm__law_board (ns,m,way) h fun ⟨ns',k',w'⟩ e=>by
    simp only [pm__law_board,List.cons.injEq,PV.lst.injEq,PV.int.injEq,and_true] at e ⊢
    obtain ⟨e1,e2,e3⟩:=e
    rw [ints_inj' e1,e2,e3]
noncomputable def pm_is_whole:Pm:=⟨Int,fun i=>[.int i],fun _=>True,fun _=>.ok (.bl true)⟩
theorem fn_is_whole (T:Txt K mg) {f:Addr} {fd:FuncData} (F:Fun K "is_whole" "is_whole" s_is_whole f fd):FnOk P w K mg base CX0 1 f fd ["value"] (spF K 1 .P W0 pm_is_whole.fn):=by
  refine F.okP sc_is_whole rfl rfl (fun cdv A outer s H E hr=>?_)
  have hu:=hr.units
  refine ⟨_,_,⟨[],[],[],.P⟩,rfl,(pss_one (ps_ret (pe_and (pe_callB (call_isiK (K:=K) (n := "int") rfl) rfl T.z_isinstance bb_isinstance (pa_cons (pv 0) (pa_cons (pe_bltn (v:=.ty "int") rfl T.z_int bt_int rfl) pa_nil))) (pe_one (pe_not (pe_callB (call_isiK (K:=K) (n := "bool") rfl) rfl T.z_isinstance bb_isinstance (pa_cons (pv 0) (pa_cons (pe_bltn (v:=.ty "bool") rfl T.z_bool bt_bool rfl) pa_nil)))))))),
      (ds_retP (de_and (DE.toA (de_isi (de_varA (i:=0) (m:=.S) rfl (by decide)))) (de_not (DE.toA (de_isi (de_varA (i:=0) (m:=.S) rfl (by decide))))))), ?_⟩
  refine Pm.ref pm_is_whole (g:=fun xs=>_) ?_
  intro (i:Int) _
  simp only [pm_is_whole]
  walk_at "pd"
theorem c_is_whole {i:Int}:pm_is_whole.fn [.int i]=.ok (.bl true):=Pm.fn_eq pm_is_whole i trivial fun _ _=>rfl
noncomputable def pm_is_whole_from:Pm:=⟨Int × Int,fun a=>[.int a.1,.int a.2],fun _=>True,fun a=>.ok (.bl (decide (a.2≤a.1)))⟩
theorem fn_is_whole_from (T:Txt K mg) {f:Addr} {fd:FuncData} (F:Fun K "is_whole_from" "is_whole_from" s_is_whole_from f fd):FnOk P w K mg base CX0 2 f fd ["value", "least"] (spF K 2 .P W0 pm_is_whole_from.fn):=by
  have G_is_whole:=okOf (P:=P) (w:=w) (base:=base) T.d_is_whole bd_is_whole (fun F=>fn_is_whole T F)
  refine F.okP sc_is_whole_from rfl rfl (fun cdv A outer s H E hr=>?_)
  have hu:=hr.units
  refine ⟨_,_,⟨[],[],[],.P⟩,rfl,(pss_one (ps_ret (pe_and (pe_callO G_is_whole (hr.mono (by decide)) rfl (pa_cons (pv 0) pa_nil)) (pe_one (pe_cmpR op_ge (pv 0) (pv 1) (nomark _)))))),
      (ds_retP (de_and (DE.toA (dc_P (len_cons len_nil) (daa_cons (de_varA (i:=0) (m:=.S) rfl (by decide)) daa_nil))) (de_ge (de_varA (i:=0) (m:=.S) rfl (by decide)) (de_varA (i:=1) (m:=.S) rfl (by decide))))), ?_⟩
  refine Pm.ref pm_is_whole_from (g:=fun xs=>_) ?_
  rintro ⟨i,j⟩ _
  simp only [pm_is_whole_from]
  walk_at "pd"
  rw [c_is_whole]
  walk_at "pd"
theorem c_is_whole_from {i j:Int}:pm_is_whole_from.fn [.int i,.int j]=.ok (.bl (decide (j≤i))):=Pm.fn_eq pm_is_whole_from (i,j) trivial fun (a:Int × Int) e=>by (simp only [pm_is_whole_from,List.cons.injEq,PV.lst.injEq,PV.int.injEq,PV.str.injEq,PV.bl.injEq,PV.tup.injEq,ints_iff,and_true] at e ⊢; first | (simp only [e]; done) | (subst e; rfl) | (rw [e]))
noncomputable def pm_is_list_from_nought:Pm:=⟨List Int,fun ns=>[.lst (ns.map PV.int)],fun ns=>ns.length≤1000000,fun ns=>.ok (.bl (decide (∀ x∈ns,0≤x)))⟩
theorem fn_is_list_from_nought (T:Txt K mg) {f:Addr} {fd:FuncData} (F:Fun K "is_list_from_nought" "is_list_from_nought" s_is_list_from_nought f fd):FnOk P w K mg base CX0 3 f fd ["values"] (spF K 1 .P W0 pm_is_list_from_nought.fn):=by
  have G_is_whole_from:=okOf (P:=P) (w:=w) (base:=base) T.d_is_whole_from bd_is_whole_from (fun F=>fn_is_whole_from T F)
  refine F.okP sc_is_list_from_nought rfl rfl (fun cdv A outer s H E hr=>?_)
  have hu:=hr.units
  refine ⟨_,_,⟨[],[],[],.P⟩,rfl,(pss_one (ps_ret (pe_and (pe_callB (call_isiK (K:=K) (n := "list") rfl) rfl T.z_isinstance bb_isinstance (pa_cons (pv 0) (pa_cons (pe_bltn (v:=.ty "list") rfl T.z_list bt_list rfl) pa_nil))) (pe_one (pe_callB (call_allK (K:=K) rfl) rfl T.z_all bb_all (pa_cons (pe_comp (pi_listK (K:=K) (pv 0)) (fun _ _ _ _=>(pe_callO G_is_whole_from (hr.mono (by decide)) rfl (pa_cons (pv 1) (pa_cons pe_int pa_nil)))) sc_is_list_from_nought.nd rfl) pa_nil)))))),
      (ds_retP (de_and (DE.toA (de_isi (de_varA (i:=0) (m:=.S) rfl (by decide)))) (de_all (daa_cons (DE.toA (de_compF (DI.c (di_list (de_varZ (i:=0) rfl))) (DE.PF (dc_P (len_cons (len_cons len_nil)) (daa_cons (de_varA (i:=1) (m:=.S) rfl (by decide)) (daa_cons (DE.toA de_int) daa_nil)))))) daa_nil)))), ?_⟩
  refine Pm.ref pm_is_list_from_nought (g:=fun xs=>_) ?_
  intro (ns:List Int) (hn:ns.length≤1000000)
  simp only [pm_is_list_from_nought]
  walk_at "pd"
  rw [map_bls (g:=fun z=>decide (0≤z)) (fun z _=>c_is_whole_from)]
  walk_at "pd"
  rw [all_dec]
theorem c_is_list_from_nought {ns:List Int} (h:ns.length≤1000000):pm_is_list_from_nought.fn [.lst (ns.map PV.int)]=.ok (.bl (decide (∀ x∈ns,0≤x))):=Pm.fn_eq pm_is_list_from_nought ns h fun (a:List Int) e=>by (simp only [pm_is_list_from_nought,List.cons.injEq,PV.lst.injEq,PV.int.injEq,PV.str.injEq,PV.bl.injEq,PV.tup.injEq,ints_iff,and_true] at e ⊢; first | (simp only [e]; done) | (subst e; rfl) | (rw [e]))
noncomputable def pm_most_seeds:Pm:=⟨Unit,fun _=>[],fun _=>True,fun _=>.ok (.int (10 ^ 60))⟩
theorem fn_most_seeds (T:Txt K mg) {f:Addr} {fd:FuncData} (F:Fun K "most_seeds" "most_seeds" s_most_seeds f fd):FnOk P w K mg base CX0 1 f fd [] (spF K 0 .P W0 pm_most_seeds.fn):=by
  refine F.okP sc_most_seeds rfl rfl (fun cdv A outer s H E hr=>?_)
  have hu:=hr.units
  refine ⟨_,_,⟨[],[],[],.P⟩,rfl,(pss_one (ps_ret (pe_op op_pow pe_int pe_int))),
      (ds_retP (de_pow (DE.toA de_int) (DE.toA de_int))), ?_⟩
  refine Pm.ref pm_most_seeds (g:=fun xs=>_) ?_
  rintro _ _
  simp only [pm_most_seeds]
  walk_at "pd"
theorem c_most_seeds:pm_most_seeds.fn []=.ok (.int (10 ^ 60)):=Pm.fn_eq pm_most_seeds () trivial fun _ _=>rfl
noncomputable def pm_is_board:Pm:=⟨List Int,fun ns=>[.lst (ns.map PV.int)],fun ns=>ns.length≤1000,fun ns=>.ok (.bl (boardB ns))⟩
theorem fn_is_board (T:Txt K mg) {f:Addr} {fd:FuncData} (F:Fun K "is_board" "is_board" s_is_board f fd):FnOk P w K mg base CX0 4 f fd ["board"] (spF K 1 .P W0 pm_is_board.fn):=by
  have G_is_list_from_nought:=okOf (P:=P) (w:=w) (base:=base) T.d_is_list_from_nought bd_is_list_from_nought (fun F=>fn_is_list_from_nought T F)
  have G_most_seeds:=okOf (P:=P) (w:=w) (base:=base) T.d_most_seeds bd_most_seeds (fun F=>fn_most_seeds T F)
  refine F.okP sc_is_board rfl rfl (fun cdv A outer s H E hr=>?_)
  have hu:=hr.units
  refine ⟨_,_,⟨[],[],[],.P⟩,rfl,(pss_cons (ps_if (pt_not (pt_val (pe_callO G_is_list_from_nought (hr.mono (by decide)) rfl (pa_cons (pv 0) pa_nil)))) (pss_one (ps_ret pe_bl)) pss_nil)
      (pss_cons (ps_if (PW.pt (pw_or (pt_cmpR op_lt (pe_callB (call_lenK (K:=K)) rfl T.z_len bb_len (pa_cons (pv 0) pa_nil)) (pe_globI T.c_FEWEST_PITS rfl) (nomark _)) (pw_or1 (pt_cmpR op_gt (pe_callB (call_lenK (K:=K)) rfl T.z_len bb_len (pa_cons (pv 0) pa_nil)) (pe_globI T.c_MOST_PITS rfl) (nomark _))))) (pss_one (ps_ret pe_bl)) pss_nil)
      (pss_one (ps_ret (pe_cmpR op_le (pe_callB (call_sumK (K:=K) rfl) rfl T.z_sum bb_sum (pa_cons (pv 0) pa_nil)) (pe_callO0 G_most_seeds (hr.mono (by decide)) rfl) (nomark _)))))),
      (ds_seq (Γm:=[.S]) (ds_if (dt_not (dt_b (DE.toA (dc_P (len_cons len_nil) (daa_cons (de_varA (i:=0) (m:=.S) rfl (by decide)) daa_nil)))))
      (ds_retP de_bl)
      ds_next)
      (ds_seq (Γm:=[.S]) (ds_if (dt_or (dt_test (DE.toA (de_lt (DE.toA (de_len (daa_cons (de_varA (i:=0) (m:=.S) rfl (by decide)) daa_nil))) (DE.toA de_int)))) (dt_test (DE.toA (de_gt (DE.toA (de_len (daa_cons (de_varA (i:=0) (m:=.S) rfl (by decide)) daa_nil))) (DE.toA de_int)))))
      (ds_retP de_bl)
      ds_next)
      (ds_retP (de_le (DE.toA (de_sum (daa_cons (de_varA (i:=0) (m:=.S) rfl (by decide)) daa_nil))) (DE.toA (dc_P len_nil daa_nil)))))), ?_⟩
  refine Pm.ref pm_is_board (g:=fun xs=>_) ?_
  intro (ns:List Int) (hn:ns.length≤1000)
  simp only [pm_is_board]
  walk_at "pd"
  rw [c_is_list_from_nought (by omega)]
  walk_at "pd"
  by_cases h3:∀ x∈ns,0≤x
  · rw [decide_eq_true h3]
    walk_at "pd"
    by_cases h1:(ns.length:Int) < 2
    · rw [decide_eq_true h1]
      walk_at "pd"
      rw [show boardB ns=false from decide_eq_false (by omega)]
    rw [decide_eq_false h1]
    walk_at "pd"
    by_cases h2:(24:Int) < ns.length
    · rw [decide_eq_true h2]
      walk_at "pd"
      rw [show boardB ns=false from decide_eq_false (by omega)]
    rw [decide_eq_false h2]
    walk_at "pd"
    rw [c_most_seeds]
    walk_at "pd"
    by_cases h4:ns.sum≤10 ^ 60
    · rw [decide_eq_true h4,boardB_iff.mpr ⟨by omega,by omega,h3,h4⟩]
    · rw [decide_eq_false h4,show boardB ns=false from decide_eq_false (fun z=>h4 z.2.2.2)]
  · rw [decide_eq_false h3]
    walk_at "pd"
    rw [show boardB ns=false from decide_eq_false (fun z=>h3 z.2.2.1)]
theorem c_is_board {ns:List Int} (h:ns.length≤1000):pm_is_board.fn [.lst (ns.map PV.int)]=.ok (.bl (boardB ns)):=Pm.fn_eq pm_is_board ns h fun (a:List Int) e=>by (simp only [pm_is_board,List.cons.injEq,PV.lst.injEq,PV.int.injEq,PV.str.injEq,PV.bl.injEq,PV.tup.injEq,ints_iff,and_true] at e ⊢; first | (simp only [e]; done) | (subst e; rfl) | (rw [e]))
theorem pc_is_board:pm_is_board.calm:=fun a q h=>by (simp only [pm_is_board] at h; cases h)
noncomputable def pm_check_board:Pm:=⟨List Int,fun ns=>[.lst (ns.map PV.int)],fun ns=>ns.length≤1000,fun ns=>orX (if boardB ns=true then none else some "BadBoard") .non⟩
theorem fn_check_board (T:Txt K mg) {f:Addr} {fd:FuncData} (F:Fun K "check_board" "check_board" s_check_board f fd):FnOk P w K mg base (CX1 P w) 5 f fd ["board"] (spF K 1 .P (W1 K) pm_check_board.fn):=by
  have G_is_board:=okOf (P:=P) (w:=w) (base:=base) T.d_is_board bd_is_board (fun F=>fn_is_board T F)
  obtain ⟨C_BadBoard,hC_BadBoard,hQ_BadBoard⟩:=xTab_exc T.x_tab (n := "BadBoard") (by decide)
  refine F.okX sc_check_board rfl rfl (fun cdv A outer s H E hr=>?_)
  have hu:=hr.units
  refine ⟨_,_,⟨[.S],[],[],.P⟩,rfl,(pss_one (ps_if (pt_not (pt_val (pe_callO G_is_board (hr.mono (by decide)) rfl (pa_cons (pv 0) pa_nil)))) (pss_one (ps_raise made_cx hQ_BadBoard rfl (T.x_mg _ _ hC_BadBoard) rfl (pa_cons pe_str pa_nil))) pss_nil)),
      (ds_if (dt_not (dt_b (DE.toA (dy_P (len_cons len_nil) (Pm.calm_fn pc_is_board) (daa_cons (de_varA (i:=0) (m:=.S) rfl (by decide)) daa_nil)))))
      (ds_raise hC_BadBoard (len_cons len_nil) (by decide) (daa_cons (DE.toA de_str) daa_nil))
      ds_next), ?_⟩
  refine Pm.ref pm_check_board (g:=fun xs=>_) ?_
  intro (ns:List Int) (hn:ns.length≤1000)
  simp only [pm_check_board]
  walk_at "pu"
  rw [c_is_board hn]
  walk_at "pu"
  by_cases h:boardB ns=true
  · rw [h]; walk_at "pu"; rfl
  · rw [Bool.not_eq_true] at h
    rw [h]; walk_at "pu"; rfl
theorem c_check_board {ns:List Int} (h:ns.length≤1000):pm_check_board.fn [.lst (ns.map PV.int)]=orX (if boardB ns=true then none else some "BadBoard") .non:=Pm.fn_eq pm_check_board ns h fun a e=>by
  simp only [pm_check_board,List.cons.injEq,PV.lst.injEq,and_true] at e ⊢
  rw [ints_inj' e]
noncomputable def pm_number_or_too_many:Pm:=⟨Str,fun w=>[.str w],fun w=>numB w=true∧w.length≤100000,fun w=>.ok (.int (capW w))⟩
theorem fn_number_or_too_many (T:Txt K mg) {f:Addr} {fd:FuncData} (F:Fun K "number_or_too_many" "number_or_too_many" s_number_or_too_many f fd):FnOk P w K mg base CX0 2 f fd ["word"] (spF K 1 .P W0 pm_number_or_too_many.fn):=by
  have G_most_seeds:=okOf (P:=P) (w:=w) (base:=base) T.d_most_seeds bd_most_seeds (fun F=>fn_most_seeds T F)
  refine F.okP sc_number_or_too_many rfl rfl (fun cdv A outer s H E hr=>?_)
  have hu:=hr.units
  refine ⟨_,_,⟨[],[],[],.P⟩,rfl,(pss_cons (ps_if (pt_cmpR op_gt (pe_callB call_len_str rfl T.z_len bb_len (pa_cons (pv 0) pa_nil)) (pe_globI T.c_MOST_FIGURES rfl) (nomark _)) (pss_one (ps_ret (pe_op op_add (pe_callO0 G_most_seeds (hr.mono (by decide)) rfl) pe_int))) pss_nil)
      (pss_one (ps_ret (pe_callTy call_intS rfl T.z_int bt_int (pa_cons (pv 0) pa_nil))))),
      (ds_seq (Γm:=[.S]) (ds_if (dt_test (DE.toA (de_gt (DE.toA (de_lenS (daa_cons (de_varA (i:=0) (m:=.S) rfl (by decide)) daa_nil))) (DE.toA de_int))))
      (ds_retP (de_add (DE.toA (dc_P len_nil daa_nil)) (DE.toA de_int)))
      ds_next)
      (ds_retP (de_intS (daa_cons (de_varA (i:=0) (m:=.S) rfl (by decide)) daa_nil)))), ?_⟩
  refine Pm.ref pm_number_or_too_many (g:=fun xs=>_) ?_
  rintro (w:Str) ⟨h0,h1⟩
  simp only [pm_number_or_too_many]
  walk_at "pd"
  rw [show pLenS [.str w]=.ok (.int w.length) from if_pos (by omega)]
  walk_at "pd"
  unfold capW
  by_cases c:61 < w.length
  · rw [decide_eq_true (show (61:Int) < (w.length:Int) by omega),if_pos c]
    walk_at "pd"
    rw [c_most_seeds]
    walk_at "pd"
  · rw [decide_eq_false (show ¬ (61:Int) < (w.length:Int) by omega),if_neg c]
    walk_at "pd"
    rw [show pIntS [.str w]=.ok (.int (valW w)) by
      unfold pIntS
      simp only [intW h0 (show w.length≤640 by omega)]
      rw [if_pos (by omega)]]
    walk_at "pd"
theorem c_number_or_too_many {w:Str} (h:numB w=true∧w.length≤100000):pm_number_or_too_many.fn [.str w]=.ok (.int (capW w)):=Pm.fn_eq pm_number_or_too_many w h fun (a:Str) e=>by (simp only [pm_number_or_too_many,List.cons.injEq,PV.lst.injEq,PV.int.injEq,PV.str.injEq,PV.bl.injEq,PV.tup.injEq,ints_iff,and_true] at e ⊢; first | (simp only [e]; done) | (subst e; rfl) | (rw [e]))
theorem pc_number_or_too_many:pm_number_or_too_many.calm:=fun a q h=>by (simp only [pm_number_or_too_many] at h; cases h)
theorem lay_0:PyData.canLay0 (.str ("0":Str))=true:=by unfold PyData.canLay0 PyData.strOk; rw [← Array.all_toList]; decide
theorem lay_e:PyData.canLay0 (.str ("":Str))=true:=by unfold PyData.canLay0 PyData.strOk; rw [← Array.all_toList]; decide
noncomputable def pm_is_number:Pm:=⟨Str,fun w=>[.str w],fun w=>layS w∧w.length≤100000,fun w=>.ok (.bl (numB w))⟩
theorem fn_is_number (T:Txt K mg) {f:Addr} {fd:FuncData} (F:Fun K "is_number" "is_number" s_is_number f fd):FnOk P w K mg base CX0 1 f fd ["word"] (spF K 1 .P W0 pm_is_number.fn):=by
  refine F.okP sc_is_number rfl rfl (fun cdv A outer s H E hr=>?_)
  have hu:=hr.units
  refine ⟨_,_,⟨[],[],[],.P⟩,rfl,(pss_cons (ps_if (PW.pt (pw_or (pt_cmpR (op_eqD (K:=K) hu) (pv 0) pe_str (nomark _)) (pw_or1 (pt_not (pt_val (pe_callB (call_allK (K:=K) rfl) rfl T.z_all bb_all (pa_cons (pe_comp (pi_str (pv 0)) (fun _ _ _ _=>(pe_cmpR op_in_str (pv 1) (pe_globS T.c_FIGURES rfl) rfl)) sc_is_number.nd rfl) pa_nil))))))) (pss_one (ps_ret pe_bl)) pss_nil)
      (pss_one (ps_ret (pe_or (pe_cmpR (op_eqD (K:=K) hu) (pv 0) pe_str (nomark _)) (pe_one (pe_cmpR (op_neD (K:=K) hu) (pe_ix ix_str (pv 0) pe_int (fun _ _=>rfl)) pe_str (nomark _))))))),
      (ds_seq (Γm:=[.S]) (ds_if (dt_or (dt_test (DE.toA (de_eqG (g:=id) (de_varA (i:=0) (m:=.S) rfl (by decide)) (DE.toA de_str)))) (dt_not (dt_b (DE.toA (de_all (daa_cons (DE.toA (de_compF (DI.c (di_str (de_varA (i:=0) (m:=.S) rfl (by decide)))) (DE.PF (de_inS (de_varA (i:=1) (m:=.S) rfl (by decide)) (DE.toA de_str))))) daa_nil))))))
      (ds_retP de_bl)
      ds_next)
      (ds_retP (de_or (DE.toA (de_eqG (g:=id) (de_varA (i:=0) (m:=.S) rfl (by decide)) (DE.toA de_str))) (de_eqG (g:=(!·)) (DE.toA (de_ixS (de_varA (i:=0) (m:=.S) rfl (by decide)) (DE.toA de_int))) (DE.toA de_str))))), ?_⟩
  refine Pm.ref pm_is_number (g:=fun xs=>_) ?_
  rintro (w:Str) ⟨h0,h1⟩
  simp only [pm_is_number]
  walk_at "pd"
  rw [pEq_str h0 lay_e]
  have hl:=h1
  rw [len_cps] at hl
  unfold numB
  have we:(w == ("":Str))=w.cps.toList.isEmpty:=by
    by_cases c:w.cps.toList=[]
    · have:w=("":Str):=Str.ext' (Array.toList_inj.mp (by rw [c]; rfl))
      rw [this]; decide
    · rw [show w.cps.toList.isEmpty=false by simpa using c,beq_eq_false_iff_ne]
      intro e; rw [e] at c; exact c rfl
  rw [we]
  have wz:(w == ("0":Str))=decide (w.cps.toList=[48]):=by
    by_cases c:w.cps.toList=[48]
    · have:w=("0":Str):=Str.ext' (Array.toList_inj.mp (by rw [c]; rfl))
      rw [this]; decide
    · rw [decide_eq_false c,beq_eq_false_iff_ne]
      intro e; rw [e] at c; exact c rfl
  have lay:=layS_iff.mp h0
  generalize hcs:w.cps.toList=cs at hl we wz lay
  unfold numL
  by_cases hz:cs=[]
  · subst hz
    rw [show ([]:List Nat).isEmpty=true from rfl]
    walk_at "pd"
  · obtain ⟨d,r,hL⟩:=List.exists_cons_of_ne_nil hz
    rw [show cs.isEmpty=false by simpa using hz]
    walk_at "pd"
    rw [asCh_ok,hcs]
    walk_at "pd"
    rw [mapR_ok (g:=fun x=>match x with | .str z=>PV.bl (inS z figS) | _=>.non) (fun x hx=>by
      obtain ⟨c,hc,rfl⟩:=List.mem_map.mp hx
      rfl)]
    rw [show (cs.map fun c=>PV.str ⟨#[c]⟩).map (fun x=>match x with | .str z=>PV.bl (inS z figS) | _=>.non)=(cs.map isFig).map PV.bl by
      rw [List.map_map,List.map_map]
      exact List.map_congr_left fun c _=>congrArg PV.bl (fig_eq c)]
    walk_at "pd"
    rw [show (cs.map isFig).all id=cs.all isFig by rw [List.all_map]; rfl]
    cases cs.all isFig with
    | false =>
      walk_at "pd"
    | true =>
      walk_at "pd"
      rw [pEq_str h0 lay_0,wz]
      by_cases c:cs=[48]
      · rw [decide_eq_true c]
        walk_at "pd"
        rfl
      · rw [decide_eq_false c]
        walk_at "pd"
        rw [show pIxS (.str w) (.int 0)=.ok (.str ⟨#[d]⟩) by
          unfold pIxS
          have e1:atI w.cps.toList 0=some d:=by
            rw [hcs,hL]
            unfold atI
            rw [ixN_of (by omega) (by simp only [List.length_cons]; omega)]; rfl
          simp only [e1]
          rw [if_pos (by omega)]]
        walk_at "pd"
        have ld:=lay d (by rw [hL]; simp)
        rw [pEq_str (by unfold PyData.canLay0 PyData.strOk; rw [← Array.all_toList]; simp; omega) lay_0]
        have e3:((⟨#[d]⟩:Str) == ("0":Str))=decide (d=48):=by
          by_cases c:d=48
          · subst c; decide
          · rw [decide_eq_false c,beq_eq_false_iff_ne]
            intro e
            have:(⟨#[d]⟩:Str).cps.toList=[48]:=by rw [e]; rfl
            simp at this
            exact c this
        rw [e3,hL]
        walk_at "pd"
        simp
theorem c_is_number {w:Str} (h:layS w∧w.length≤100000):pm_is_number.fn [.str w]=.ok (.bl (numB w)):=Pm.fn_eq pm_is_number w h fun (a:Str) e=>by (simp only [pm_is_number,List.cons.injEq,PV.lst.injEq,PV.int.injEq,PV.str.injEq,PV.bl.injEq,PV.tup.injEq,ints_iff,and_true] at e ⊢; first | (simp only [e]; done) | (subst e; rfl) | (rw [e]))
theorem pc_is_number:pm_is_number.calm:=fun a q h=>by (simp only [pm_is_number] at h; cases h)
noncomputable def pm_read_board:Pm:=⟨Str,fun s=>[.str s],fun s=>(layS s∧s.length≤100000)∧(wordsS s).length≤1000,fun s=>rdW (wordsS s)⟩
theorem fn_read_board (T:Txt K mg) {f:Addr} {fd:FuncData} (F:Fun K "read_board" "read_board" s_read_board f fd):FnOk P w K mg base (CX1 P w) 6 f fd ["text"] (spF K 1 .F (W1 K) pm_read_board.fn):=by
  have G_check_board:=okOfX (P:=P) (w:=w) (base:=base) T.d_check_board bd_check_board (fun F=>fn_check_board T F)
  have G_number_or_too_many:=okOf (P:=P) (w:=w) (base:=base) T.d_number_or_too_many bd_number_or_too_many (fun F=>fn_number_or_too_many T F)
  have G_is_number:=okOf (P:=P) (w:=w) (base:=base) T.d_is_number bd_is_number (fun F=>fn_is_number T F)
  obtain ⟨C_BadText,hC_BadText,hQ_BadText⟩:=xTab_exc T.x_tab (n := "BadText") (by decide)
  refine F.okX sc_read_board rfl rfl (fun cdv A outer s H E hr=>?_)
  have hu:=hr.units
  refine ⟨_,_,⟨[],[],[],.F⟩,rfl,(pss_cons (ps_set (i:=1) sc_read_board.nd rfl (by first | exact Or.inl rfl | exact Or.inr rfl) (pe_bm PySem.F.plainAttrs_str PySem.F.slot_str_split PySem.F.type_str_split mt_split (pv 0) (pa_cons pe_str pa_nil)))
      (pss_cons (ps_if (pt_not (pt_val (pe_callB (call_allK (K:=K) rfl) rfl T.z_all bb_all (pa_cons (pe_comp (pi_listK (K:=K) (pv 1)) (fun _ _ _ _=>(pe_callO G_is_number (hr.mono (by decide)) rfl (pa_cons (pv 3) pa_nil))) sc_read_board.nd rfl) pa_nil)))) (pss_one (ps_raise made_cx hQ_BadText rfl (T.x_mg _ _ hC_BadText) rfl (pa_cons pe_str pa_nil))) pss_nil)
      (pss_cons (ps_setComp (i:=2) sc_read_board.nd rfl (pi_listK (K:=K) (pv 1)) (fun _ _ _ _=>(pe_callO G_number_or_too_many (hr.mono (by decide)) rfl (pa_cons (pv 3) pa_nil))) rfl)
      (pss_cons (ps_expr (pe_callX G_check_board (hr.mono (by decide)) rfl pass_cx (pa_cons (pv 2) pa_nil)))
      (pss_one (ps_ret (pv 2))))))),
      (ds_seq (Γm:=[.S,.O,.U]) (ds_setF (i:=1) (de_split (de_varA (i:=0) (m:=.S) rfl (by decide)) (daa_cons (DE.toA de_str) daa_nil)) (by decide))
      (ds_seq (Γm:=[.S,.O,.U]) (ds_if (dt_not (dt_b (DE.toA (de_all (daa_cons (DE.toA (de_compF (di_listC (de_varA (i:=1) (m:=.O) rfl (by decide))) (DE.PF (dy_P (len_cons len_nil) (Pm.calm_fn pc_is_number) (daa_cons (de_varA (i:=3) (m:=.S) rfl (by decide)) daa_nil))))) daa_nil)))))
      (ds_raise hC_BadText (len_cons len_nil) (by decide) (daa_cons (DE.toA de_str) daa_nil))
      ds_next)
      (ds_seq (Γm:=[.S,.O,.O]) (ds_setComp (i:=2) (de_compF (di_listC (de_varA (i:=1) (m:=.O) rfl (by decide))) (DE.PF (dy_P (len_cons len_nil) (Pm.calm_fn pc_number_or_too_many) (daa_cons (de_varA (i:=3) (m:=.S) rfl (by decide)) daa_nil)))) (by decide))
      (ds_seq (Γm:=[.S,.O,.O]) (ds_expr (DE.toA (dx_P (len_cons len_nil) (daa_cons (de_varA (i:=2) (m:=.O) rfl (by decide)) daa_nil))))
      (ds_retF (de_varM (i:=2) rfl)))))), ?_⟩
  refine Pm.ref pm_read_board (g:=fun xs=>_) ?_
  rintro (s:Str) ⟨⟨h0,h1⟩,h2⟩
  simp only [pm_read_board]
  have hw:∀ w∈wordsS s,layS w∧w.length≤100000:=fun w hw=>⟨(split_word hw).1 h0,Nat.le_trans (split_word hw).2 h1⟩
  walk_at "pd"
  rw [show pSplit s [.str (" ":Str)]=.ok (.lst ((wordsS s).map PV.str)) from by rw [show ((" ":Str))=spS from spS_eq]; exact pSplit_any h1 (by have:=h2; unfold wordsS spS at this; omega)]
  generalize wordsS s=ws at h2 hw
  walk_at "pd"
  rw [show asLf (.lst (ws.map PV.str))=.ok (ws.map PV.str) from if_pos flats_str]
  walk_at "pd"
  rw [mapR_ok (g:=fun x=>match x with | .str z=>PV.bl (numB z) | _=>.non) (fun x hx=>by
    obtain ⟨w,hw',rfl⟩:=List.mem_map.mp hx
    exact c_is_number (hw w hw'))]
  rw [show (ws.map PV.str).map (fun x=>match x with | .str z=>PV.bl (numB z) | _=>.non)=(ws.map numB).map PV.bl by rw [List.map_map,List.map_map]; rfl]
  walk_at "pd"
  rw [show (ws.map numB).all id=ws.all numB by rw [List.all_map]; rfl]
  unfold rdW
  by_cases c:ws.all numB=true
  · rw [if_pos c,c]
    walk_at "pd"
    rw [show asLf (.lst (ws.map PV.str))=.ok (ws.map PV.str) from if_pos flats_str]
    walk_at "pd"
    rw [show mapR (fun x=>pm_number_or_too_many.fn [x]) (ws.map PV.str)=.ok ((ws.map capW).map PV.int) by
      clear h2
      have c:=List.all_eq_true.mp c
      induction ws with
      | nil=>rfl
      | cons a l ih =>
        rw [List.map_cons,mapR,c_number_or_too_many ⟨c a (by simp),(hw a (by simp)).2⟩,ih (fun x hx=>hw x (by simp [hx])) (List.all_eq_true.mpr fun x hx=>c x (by simp [hx])) fun x hx=>c x (by simp [hx])]
        rfl]
    walk_at "pd"
    rw [c_check_board (by rw [List.length_map]; omega)]
    by_cases h:boardB (ws.map capW)=true
    · rw [if_pos h]
      walk_at "pd"
    · rw [if_neg h]
      walk_at "pd"
  · rw [if_neg c,show ws.all numB=false by simpa using c]
    walk_at "pd"
theorem c_read_board {s:Str} (h:(layS s∧s.length≤100000)∧(wordsS s).length≤1000):pm_read_board.fn [.str s]=rdW (wordsS s):=Pm.fn_eq pm_read_board s h fun (a:Str) e=>by (simp only [pm_read_board,List.cons.injEq,PV.lst.injEq,PV.int.injEq,PV.str.injEq,PV.bl.injEq,PV.tup.injEq,ints_iff,and_true] at e ⊢; first | (simp only [e]; done) | (subst e; rfl) | (rw [e]))
theorem rdW_cases (ws:List Str):(∃ x,rdW ws=.ok x) ∨ ∃ n,rdW ws=.exc (n,.non):=by
  unfold rdW
  split
  · split
    · exact .inl ⟨_,rfl⟩
    · exact .inr ⟨_,rfl⟩
  · exact .inr ⟨_,rfl⟩
noncomputable def hdL (t:Str):Str:=(linesS t).headD ⟨#[]⟩
noncomputable def AnsP (t:Str):Prop:=(layS t∧t.length≤100000)∧((linesS t).length≤1000∧(wordsS (hdL t)).length≤1000)∧((linesS t).length=1 ∨ rdW (wordsS (hdL t))=.exc ("BadText",.non))
noncomputable def pm_answers_to:Pm:=⟨Str,fun t=>[.str t],AnsP,fun t=>(rdW (wordsS (hdL t))).bind fun _=>.ok (.lst [])⟩
theorem fn_answers_to (T:Txt K mg) {f:Addr} {fd:FuncData} (F:Fun K "answers_to" "answers_to" s_answers_to f fd):FnOk P w K mg base (CX1 P w) 7 f fd ["text"] (spF K 1 .F (W1 K) pm_answers_to.fn):=by
  have G_read_board:=okOfX (P:=P) (w:=w) (base:=base) T.d_read_board bd_read_board (fun F=>fn_read_board T F)
  refine F.okX sc_answers_to rfl rfl (fun cdv A outer s H E hr=>?_)
  have hu:=hr.units
  refine ⟨_,_,⟨[],[],[],.F⟩,rfl,(pss_cons (ps_set (i:=1) sc_answers_to.nd rfl (by first | exact Or.inl rfl | exact Or.inr rfl) (pe_bm PySem.F.plainAttrs_str PySem.F.slot_str_split PySem.F.type_str_split mt_split (pv 0) (pa_cons pe_str pa_nil)))
      (pss_cons (ps_set (i:=2) sc_answers_to.nd rfl (by first | exact Or.inl rfl | exact Or.inr rfl) (pe_callX G_read_board (hr.mono (by decide)) rfl pass_cx (pa_cons (pe_ix (ix_seqK (K:=K)) (pv 1) pe_int (fun _ _=>rfl)) pa_nil)))
      (pss_cons (ps_set (i:=3) sc_answers_to.nd rfl (by first | exact Or.inl rfl | exact Or.inr rfl) (pe_slice (sl_listK (K:=K)) (pv 1) (po_some pe_int) po_none))
      (pss_cons (ps_if (PW.pt (pw_and (pt_cmpR op_gt (pe_callB (call_lenK (K:=K)) rfl T.z_len bb_len (pa_cons (pv 3) pa_nil)) pe_int (nomark _)) (pw_and1 (pt_cmpR (op_eqD (K:=K) hu) (pe_ix (ix_seqK (K:=K)) (pv 3) (pe_un un_neg pe_int) (fun _ _=>rfl)) pe_str (nomark _))))) (pss_one (ps_expr (pe_bm0 PySem.F.plainAttrs_list PySem.F.slot_list_pop PySem.F.type_list_pop mt_pop (pv 3)))) pss_nil)
      (pss_cons (ps_set (i:=4) sc_answers_to.nd rfl (by first | exact Or.inl rfl | exact Or.inr rfl) pe_dnewK)
      (pss_cons (PS.nox (ps_for PassesOwn.never rfl (pi_listK (K:=K) (pv 3)) (pg_name (i:=5) sc_answers_to.nd rfl (by first | exact Or.inl rfl | exact Or.inr rfl)) (pss_one (ps_if (pt_cmp (pc_dnotin (hu1 hu) (pv 5) (pv 4))) pss_never pss_nil))))
      (pss_one (ps_ret (pe_compG (pi_listK (K:=K) (pv 3)) (pb_name sc_answers_to.nd) (fun _ _ _ _=>pc_nil) (fun _ _ _ _=>pe_nevE) hv1 sc_answers_to.nd rfl))))))))),
      (ds_seq (Γm:=[.S,.O,.U,.U,.U,.U]) (ds_setF (i:=1) (de_split (de_varA (i:=0) (m:=.S) rfl (by decide)) (daa_cons (DE.toA de_str) daa_nil)) (by decide))
      (ds_seq (Γm:=[.S,.O,.O,.U,.U,.U]) (ds_setF (i:=2) (dx_F (len_cons len_nil) (daa_cons (de_ixA (te:=tC .non) (de_varA (i:=1) (m:=.O) rfl (by decide)) (DE.toA de_int)) daa_nil)) (by decide))
      (ds_seq (Γm:=[.S,.O,.O,.O,.U,.U]) (ds_setF (i:=3) (de_slF (de_varA (i:=1) (m:=.O) rfl (by decide)) (do_some (DE.toA de_int)) do_none) (by decide))
      (ds_seq (Γm:=[.S,.O,.O,.O,.U,.U]) (ds_if (dt_and (dt_test (DE.toA (de_gt (DE.toA (de_len (daa_cons (de_varA (i:=3) (m:=.O) rfl (by decide)) daa_nil))) (DE.toA de_int)))) (dt_test (DE.toA (de_eqG (g:=id) (de_ixA (te:=tC .non) (de_varA (i:=3) (m:=.O) rfl (by decide)) (DE.toA (de_neg (DE.toA de_int)))) (DE.toA de_str)))))
      (ds_popO (i:=3) rfl)
      ds_next)
      (ds_seq (Γm:=[.S,.O,.O,.O,.O,.U]) (ds_setF (i:=4) de_dnewK (by decide))
      (ds_seq (Γm:=[.S,.O,.O,.S,.O,.U]) (ds_for (Γl:=[.S,.O,.O,.S,.O,.U]) (di_list (de_varS (i:=3) (m:=.O) rfl (by decide))) rfl (dg_P (i:=5) (by decide))
      (DS.out (Y:=⟨[.S,.O,.O,.S,.O,.P],[.S,.O,.O,.S,.O,.U],[.S,.O,.O,.S,.O,.U],.F⟩) (Y':=⟨[.S,.O,.O,.S,.O,.U],[.S,.O,.O,.S,.O,.U],[.S,.O,.O,.S,.O,.U],.F⟩) (ds_if (dt_b (DE.toA (de_dnotin (DE.toA (de_varP (i:=5) rfl)) (de_varA (i:=4) (m:=.O) rfl (by decide)))))
      ds_never
      ds_next) rfl rfl rfl rfl))
      (ds_retF (de_compG (k:=1) (DI.c (di_list (de_varZ (i:=3) rfl))) db_1 dt_yes de_nevE)))))))), ?_⟩
  refine Pm.ref pm_answers_to (g:=fun xs=>_) ?_
  rintro (t:Str) ⟨⟨h0,h1⟩,⟨h2,h3⟩,h4⟩
  simp only [pm_answers_to]
  walk_at "pd"
  rw [show pSplit t [.str ("\n":Str)]=.ok (.lst ((linesS t).map PV.str)) from by rw [show (("\n":Str))=⟨#[10]⟩ from nlS_eq]; exact pSplit_any h1 (by have:=h2; unfold linesS at this; omega)]
  obtain ⟨l,r,hL⟩:=List.exists_cons_of_ne_nil (split_ne t ⟨#[10]⟩)
  have hL:linesS t=l :: r:=hL
  have hh:hdL t=l:=by unfold hdL; rw [hL]; rfl
  have hw:=split_word (s:=t) (c:=10) (w:=l) (show l∈linesS t by rw [hL]; simp)
  rw [hh] at h3 h4
  rw [hh,hL]
  walk_at "pd"
  rw [show pIx (.lst (PV.str l :: r.map PV.str)) (.int 0)=.ok (.str l) from pIx_lst (by omega) (by simp only [List.length_cons]; omega)]
  walk_at "pd"
  rw [c_read_board ⟨⟨hw.1 h0,Nat.le_trans hw.2 h1⟩,h3⟩]
  rcases h4 with h4 | h4
  · have hr:r=[]:=by rw [hL] at h4; simpa using h4
    subst hr
    rcases rdW_cases (wordsS l) with ⟨x,e⟩ | ⟨n,e⟩
    · rw [e]
      walk_at "pd"
      rw [show newF (cutG [PV.str l] (some 1) none)=.ok (.lst []) from rfl]
      walk_at "pd"
      rw [show pLen [PV.lst []]=.ok (.int 0) from rfl]
      walk_at "pd"
      rfl
    · rw [e]
      walk_at "pd"
  · rw [h4]
    walk_at "pd"
theorem c_answers_to {t:Str} (h:AnsP t):pm_answers_to.fn [.str t]=(rdW (wordsS (hdL t))).bind fun _=>.ok (.lst []):=Pm.fn_eq pm_answers_to t h fun (a:Str) e=>by (simp only [pm_answers_to,List.cons.injEq,PV.lst.injEq,PV.int.injEq,PV.str.injEq,PV.bl.injEq,PV.tup.injEq,ints_iff,and_true] at e ⊢; first | (simp only [e]; done) | (subst e; rfl) | (rw [e]))
noncomputable def RfP (a:Int × Str):Prop:=(a.1=0∧((layS a.2∧a.2.length≤100000)∧(wordsS a.2).length≤1000)∧rdW (wordsS a.2)=.exc ("BadText",.non)) ∨ (a.1=1∧AnsP a.2∧rdW (wordsS (hdL a.2))=.exc ("BadText",.non))
noncomputable def pm__law_refused:Pm:=⟨Int × Str,fun a=>[.int a.1,.str a.2],RfP,fun _=>.ok (.bl true)⟩
theorem fn__law_refused (T:Txt K mg) {f:Addr} {fd:FuncData} (F:Fun K "_law_refused" "_law_refused" s__law_refused f fd):FnOk P w K mg base CX0 8 f fd ["way", "text"] (spF K 2 .P W0 pm__law_refused.fn):=by
  have G_read_board:=okOfX (P:=P) (w:=w) (base:=base) T.d_read_board bd_read_board (fun F=>fn_read_board T F)
  have G_answers_to:=okOfX (P:=P) (w:=w) (base:=base) T.d_answers_to bd_answers_to (fun F=>fn_answers_to T F)
  obtain ⟨C_SowError,hC_SowError,hQ_SowError⟩:=xTab_exc T.x_tab (n := "SowError") (by decide)
  obtain ⟨I_BadBoard,hI_BadBoard,hT_BadBoard⟩:=xTab_isT T.x_tab (c := "BadBoard") (L:=XL_BadBoard) (by decide) (by decide)
  have hT_V:=xTab_isV T.x_tab (L:=XL_ValueError) (by decide)
  obtain ⟨I_BadText,hI_BadText,hT_BadText⟩:=xTab_isT T.x_tab (c := "BadText") (L:=XL_BadText) (by decide) (by decide)
  refine F.okP sc__law_refused rfl rfl (fun cdv A outer s H E hr=>?_)
  have hu:=hr.units
  refine ⟨_,_,⟨[],[],[],.P⟩,rfl,(pss_cons (ps_set (i:=2) sc__law_refused.nd rfl (by first | exact Or.inl rfl | exact Or.inr rfl) pe_non)
      (pss_cons (ps_try (fun xe pn E hx=>(pss_one (ps_if (pt_cmpR (op_eqD (K:=K) hu) (pv 0) pe_int (nomark _)) (pss_one (ps_expr (pe_callX G_read_board (hr.mono (by decide)) rfl hx (pa_cons (pv 1) pa_nil)))) (pss_one (ps_expr (pe_callX G_answers_to (hr.mono (by decide)) rfl hx (pa_cons (pv 1) pa_nil))))))) (fun A=>(pss_one (ps_set (i:=2) sc__law_refused.nd rfl (by first | exact Or.inl rfl | exact Or.inr rfl) (pv 3)))) sc__law_refused.nd rfl rfl rfl (T.x_mg _ _ hC_SowError) rfl rfl rfl)
      (pss_cons (ps_if (PW.pt (pw_or (pt_not (pt_val (pe_callB (call_isX (K:=K) hT_BadText) rfl T.z_isinstance bb_isinstance (pa_cons (pv 2) (pa_cons (pe_glob (v:=.ref I_BadText) rfl (T.x_mg _ _ hI_BadText) rfl) pa_nil))))) (pw_or (pt_not (pt_val (pe_callB (call_isX (K:=K) hT_V) rfl T.z_isinstance bb_isinstance (pa_cons (pv 2) (pa_cons (pe_bltn (v:=.ty "ValueError") rfl T.z_ValueError bt_ValueError rfl) pa_nil))))) (pw_or1 (pt_val (pe_callB (call_isX (K:=K) hT_BadBoard) rfl T.z_isinstance bb_isinstance (pa_cons (pv 2) (pa_cons (pe_glob (v:=.ref I_BadBoard) rfl (T.x_mg _ _ hI_BadBoard) rfl) pa_nil)))))))) (pss_one (ps_ret pe_bl)) pss_nil)
      (pss_one (ps_ret (pe_cmpR (op_eqD (K:=K) hu) (pe_called (k:=1) (L:=XN) (mk_all T) (hr.mono (by decide)) (pv 2)) pe_str (nomark _))))))),
      (ds_seq (Γm:=[.S,.S,.P,.U]) (ds_setP (i:=2) de_non (by decide))
      (ds_seq (Γm:=[.S,.S,.P,.U]) (ds_try (i:=3) (Γs:=[.S,.S,.P,.U]) (Y:=⟨[.S,.S,.P,.U],[],[],.P⟩) (Yh:=⟨[.S,.S,.P,.P],[],[],.P⟩) (L:=["SowError", "BadBoard", "BadPit", "BadPits", "BadCount", "NoSeeds", "Unlike", "TooLong", "TooMany", "BadLine", "BadYard", "BadText"]) (xTab_exm T.x_tab hC_SowError (by decide)) (fun E=>(ds_if (dt_test (DE.toA (de_eqG (g:=id) (de_varA (i:=0) (m:=.S) rfl (by decide)) (DE.toA de_int))))
      (ds_expr (DE.toA (dx_F (len_cons len_nil) (daa_cons (de_varA (i:=1) (m:=.S) rfl (by decide)) daa_nil))))
      (ds_expr (DE.toA (dx_F (len_cons len_nil) (daa_cons (de_varA (i:=1) (m:=.S) rfl (by decide)) daa_nil)))))) (fun E D σ H h=>h) (show DS K _ [.S,.S,.P,.P] _ _ _ from (ds_setP (i:=2) (de_varP (i:=3) rfl) (by decide))) rfl rfl (by decide) rfl rfl rfl rfl)
      (ds_seq (Γm:=[.S,.S,.P,.U]) (ds_if (dt_or (dt_not (dt_b (DE.toA (de_isX (DE.toA (de_varP (i:=2) rfl)))))) (dt_or (dt_not (dt_b (DE.toA (de_isX (DE.toA (de_varP (i:=2) rfl)))))) (dt_b (DE.toA (de_isX (DE.toA (de_varP (i:=2) rfl)))))))
      (ds_retP de_bl)
      ds_next)
      (ds_retP (de_eqG (g:=id) (DE.toA (de_called (DE.toA (de_varP (i:=2) rfl)))) (DE.toA de_str)))))), ?_⟩
  refine Pm.ref pm__law_refused (g:=fun xs=>_) ?_
  rintro ⟨w,t⟩ h
  simp only [pm__law_refused]
  walk_at "pd"
  rcases h with ⟨h0,h1,h2⟩ | ⟨h0,h1,h2⟩
  · simp only at h0 h1 h2
    subst h0
    walk_at "pd"
    rw [c_read_board h1,h2]
    walk_at "pd"
    done
  · simp only at h0 h1 h2
    subst h0
    walk_at "pd"
    rw [c_answers_to h1,h2]
    walk_at "pd"
    done
theorem c__law_refused {w:Int} {t:Str} (h:RfP (w,t)):pm__law_refused.fn [.int w,.str t]=.ok (.bl true):=Pm.fn_eq pm__law_refused (w,t) h fun _ _=>rfl
theorem cut_toS {ns:List Str} {h:Int} (h0:0≤h):cutG (ns.map PV.str) none (some h)=(ns.take h.toNat).map PV.str:=by
  unfold cutG HT.sIx
  simp only [List.length_map,List.drop_zero,Nat.sub_zero]
  rw [if_neg (by omega),← List.map_take]
  congr 1
  rw [List.take_eq_take_iff]; omega
theorem cut_fromS {ns:List Str} {l:Int} (h0:0≤l):cutG (ns.map PV.str) (some l) none=(ns.drop l.toNat).map PV.str:=by
  unfold cutG HT.sIx
  simp only [List.length_map]
  rw [if_neg (by omega),← List.map_drop,← List.map_take]
  congr 1
  rw [List.take_of_length_le (by simp)]
  by_cases h:l.toNat≤ns.length
  · rw [Nat.min_eq_left h]
  · rw [List.drop_eq_nil_of_le (by omega),List.drop_eq_nil_of_le (by omega)]
theorem newF_of {xs:List PV} (h:PV.flats xs=true) (hl:xs.length≤1000000):newF xs=.ok (.lst xs):=by
  unfold newF
  rw [h,decide_eq_true hl]; rfl
noncomputable def pm__law_odd:Pm:=⟨List Str × Int,fun a=>[.lst (a.1.map PV.str),.int a.2],fun a=>a.1.length≤1000,fun a=>.ok (.lst ((oddW a.1 a.2).map PV.str))⟩
theorem fn__law_odd (T:Txt K mg) {f:Addr} {fd:FuncData} (F:Fun K "_law_odd" "_law_odd" s__law_odd f fd):FnOk P w K mg base CX0 1 f fd ["words", "cell"] (spF K 2 .F W0 pm__law_odd.fn):=by
  refine F.okP sc__law_odd rfl rfl (fun cdv A outer s H E hr=>?_)
  have hu:=hr.units
  refine ⟨_,_,⟨[],[],[],.F⟩,rfl,(pss_cons (ps_set (i:=2) sc__law_odd.nd rfl (by first | exact Or.inl rfl | exact Or.inr rfl) (pe_lst (pa_cons pe_str (pa_cons pe_str (pa_cons pe_str (pa_cons pe_str (pa_cons pe_str (pa_cons pe_str (pa_cons pe_str (pa_cons pe_str (pa_cons pe_str (pa_cons pe_str (pa_cons pe_str (pa_cons pe_str (pa_cons pe_str (pa_cons pe_str (pa_cons pe_str (pa_cons pe_str (pa_cons pe_str pa_nil)))))))))))))))))))
      (pss_cons (ps_set (i:=3) sc__law_odd.nd rfl (by first | exact Or.inl rfl | exact Or.inr rfl) (pe_ix (ix_seqK (K:=K)) (pv 2) (pe_op op_mod (pv 1) (pe_callB (call_lenK (K:=K)) rfl T.z_len bb_len (pa_cons (pv 2) pa_nil))) (fun _ _=>rfl)))
      (pss_cons (ps_set (i:=4) sc__law_odd.nd rfl (by first | exact Or.inl rfl | exact Or.inr rfl) (pe_op op_mod (pe_op op_fdivB (pv 1) pe_int) (pe_op op_add (pe_callB (call_lenK (K:=K)) rfl T.z_len bb_len (pa_cons (pv 0) pa_nil)) pe_int)))
      (pss_cons (ps_if (PW.pt (pw_and (pt_cmpR (op_eqD (K:=K) hu) (pe_op op_mod (pe_op op_fdivB (pv 1) pe_int) pe_int) pe_int (nomark _)) (pw_and1 (pt_cmpR op_lt (pv 4) (pe_callB (call_lenK (K:=K)) rfl T.z_len bb_len (pa_cons (pv 0) pa_nil)) (nomark _))))) (pss_one (ps_ret (pe_op (op_catK (K:=K)) (pe_op (op_catK (K:=K)) (pe_slice (sl_listK (K:=K)) (pv 0) po_none (po_some (pv 4))) (pe_lst (pa_cons (pv 3) pa_nil))) (pe_slice (sl_listK (K:=K)) (pv 0) (po_some (pe_op op_add (pv 4) pe_int)) po_none)))) pss_nil)
      (pss_cons (ps_if (pt_cmpR (op_eqD (K:=K) hu) (pe_op op_mod (pe_op op_fdivB (pv 1) pe_int) pe_int) pe_int (nomark _)) (pss_one (ps_ret (pe_op (op_catK (K:=K)) (pe_op (op_catK (K:=K)) (pe_slice (sl_listK (K:=K)) (pv 0) po_none (po_some (pv 4))) (pe_lst (pa_cons (pv 3) pa_nil))) (pe_slice (sl_listK (K:=K)) (pv 0) (po_some (pv 4)) po_none)))) pss_nil)
      (pss_one (ps_ret (pe_lst (pa_cons (pv 3) pa_nil))))))))),
      (ds_seq (Γm:=[.S,.S,.O,.U,.U]) (ds_setF (i:=2) (de_lstF (daf_cons (DE.PF de_str) (daf_cons (DE.PF de_str) (daf_cons (DE.PF de_str) (daf_cons (DE.PF de_str) (daf_cons (DE.PF de_str) (daf_cons (DE.PF de_str) (daf_cons (DE.PF de_str) (daf_cons (DE.PF de_str) (daf_cons (DE.PF de_str) (daf_cons (DE.PF de_str) (daf_cons (DE.PF de_str) (daf_cons (DE.PF de_str) (daf_cons (DE.PF de_str) (daf_cons (DE.PF de_str) (daf_cons (DE.PF de_str) (daf_cons (DE.PF de_str) (daf_cons (DE.PF de_str) daf_nil)))))))))))))))))) (by decide))
      (ds_seq (Γm:=[.S,.S,.O,.P,.U]) (ds_setP (i:=3) (DE.grd (de_ixA (te:=tC .non) (de_varA (i:=2) (m:=.O) rfl (by decide)) (DE.toA (de_mod (de_varA (i:=1) (m:=.S) rfl (by decide)) (DE.toA (de_len (daa_cons (de_varA (i:=2) (m:=.O) rfl (by decide)) daa_nil))))))) (by decide))
      (ds_seq (Γm:=[.S,.S,.O,.P,.P]) (ds_setP (i:=4) (de_mod (DE.toA (de_div (de_varA (i:=1) (m:=.S) rfl (by decide)) (DE.toA de_int))) (DE.toA (de_add (DE.toA (de_len (daa_cons (de_varA (i:=0) (m:=.S) rfl (by decide)) daa_nil))) (DE.toA de_int)))) (by decide))
      (ds_seq (Γm:=[.S,.S,.O,.P,.P]) (ds_if (dt_and (dt_test (DE.toA (de_eqG (g:=id) (DE.toA (de_mod (DE.toA (de_div (de_varA (i:=1) (m:=.S) rfl (by decide)) (DE.toA de_int))) (DE.toA de_int))) (DE.toA de_int)))) (dt_test (DE.toA (de_lt (DE.toA (de_varP (i:=4) rfl)) (DE.toA (de_len (daa_cons (de_varA (i:=0) (m:=.S) rfl (by decide)) daa_nil)))))))
      (ds_retF (de_catF (DE.toA (de_catF (DE.toA (de_slF (de_varA (i:=0) (m:=.S) rfl (by decide)) do_none (do_some (DE.toA (de_varP (i:=4) rfl))))) (DE.toA (de_lstF (daf_cons (DE.PF (de_varP (i:=3) rfl)) daf_nil))))) (DE.toA (de_slF (de_varA (i:=0) (m:=.S) rfl (by decide)) (do_some (DE.toA (de_add (DE.toA (de_varP (i:=4) rfl)) (DE.toA de_int)))) do_none))))
      ds_next)
      (ds_seq (Γm:=[.S,.S,.O,.P,.P]) (ds_if (dt_test (DE.toA (de_eqG (g:=id) (DE.toA (de_mod (DE.toA (de_div (de_varA (i:=1) (m:=.S) rfl (by decide)) (DE.toA de_int))) (DE.toA de_int))) (DE.toA de_int))))
      (ds_retF (de_catF (DE.toA (de_catF (DE.toA (de_slF (de_varA (i:=0) (m:=.S) rfl (by decide)) do_none (do_some (DE.toA (de_varP (i:=4) rfl))))) (DE.toA (de_lstF (daf_cons (DE.PF (de_varP (i:=3) rfl)) daf_nil))))) (DE.toA (de_slF (de_varA (i:=0) (m:=.S) rfl (by decide)) (do_some (DE.toA (de_varP (i:=4) rfl))) do_none))))
      ds_next)
      (ds_retF (de_lstF (daf_cons (DE.PF (de_varP (i:=3) rfl)) daf_nil)))))))), ?_⟩
  refine Pm.ref pm__law_odd (g:=fun xs=>_) ?_
  rintro ⟨ws,c⟩ (hl:ws.length≤1000)
  simp only [pm__law_odd]
  walk_at "pd"
  have hL:∀ L:List PV,L=oddL.map PV.str→pIx (.lst L) (.int (c % 17))=.ok (.str (oddOf c)):=fun L e=>by
    rw [e,pIx_q (d:=("":Str)) (by omega) (by show c % 17 < 17; omega)]; rfl
  rw [pLen_lst]
  walk_at "pd"
  rw [show ((17:Nat):Int)=17 from rfl,hL]
  rotate_left
  · rfl
  have a0:=Int.emod_nonneg (c / 17) (show ((ws.length:Int) + 1)≠0 by omega)
  have a1:=Int.emod_lt_of_pos (c / 17) (show (0:Int) < (ws.length:Int) + 1 by omega)
  walk_at "pd"
  rw [pLen_lst,List.length_map]
  walk_at "pd"
  unfold oddW oddAt
  have f1:∀ i:Int,0≤i→newF (cutG (ws.map PV.str) none (some i))=.ok (.lst ((ws.take i.toNat).map PV.str)):=fun i hi=>by
    rw [cut_toS hi]; exact newF_of flats_str (by simp; omega)
  have f2:∀ i:Int,0≤i→newF (cutG (ws.map PV.str) (some i) none)=.ok (.lst ((ws.drop i.toNat).map PV.str)):=fun i hi=>by
    rw [cut_fromS hi]; exact newF_of flats_str (by simp; omega)
  have f3:∀ (A:List Str) (o:Str),A.length≤1000→newF (A.map PV.str ++ [PV.str o])=.ok (.lst ((A ++ [o]).map PV.str)):=fun A o hA=>by
    rw [show A.map PV.str ++ [PV.str o]=(A ++ [o]).map PV.str by rw [List.map_append]; rfl]; exact newF_of flats_str (by simp; omega)
  have f4:∀ (A B:List Str),A.length≤2000→B.length≤1000→newF (A.map PV.str ++ B.map PV.str)=.ok (.lst ((A ++ B).map PV.str)):=fun A B hA hB=>by
    rw [← List.map_append]; exact newF_of flats_str (by simp; omega)
  have l1:∀ n,(ws.take n).length≤1000:=fun n=>by simp; omega
  have l2:∀ n,(ws.drop n).length≤1000:=fun n=>by simp; omega
  generalize c / 17 % ((ws.length:Int) + 1)=a at a0 a1
  by_cases h1:c / 200 % 3=0
  · rw [decide_eq_true h1]
    walk_at "pd"
    rw [pLen_lst,List.length_map]
    walk_at "pd"
    by_cases h2:a < ws.length
    · rw [decide_eq_true h2,if_pos (show c / 200 % 3=0∧a < ws.length from ⟨h1,h2⟩)]
      walk_at "pd"
      rw [f1 a a0]
      walk_at "pd"
      rw [f3 _ _ (l1 _)]
      walk_at "pd"
      rw [f2 _ (by omega)]
      walk_at "pd"
      rw [f4 _ _ (by rw [List.length_append]; have:=l1 a.toNat; simp only [List.length_singleton]; omega) (l2 _)]
      walk_at "pd"
      rw [show (a + 1).toNat=a.toNat + 1 by omega]
    · rw [decide_eq_false h2,if_neg (show ¬ (c / 200 % 3=0∧a < ws.length) from fun z=>h2 z.2),if_neg (show ¬ c / 200 % 3=1 by omega)]
      walk_at "pd"
      rw [decide_eq_false (show ¬ c / 200 % 3=1 by omega)]
      walk_at "pd"
      try rfl
  · rw [decide_eq_false h1,if_neg (show ¬ (c / 200 % 3=0∧a < ws.length) from fun z=>h1 z.1)]
    walk_at "pd"
    by_cases h3:c / 200 % 3=1
    · rw [decide_eq_true h3,if_pos h3]
      walk_at "pd"
      rw [f1 a a0]
      walk_at "pd"
      rw [f3 _ _ (l1 _)]
      walk_at "pd"
      rw [f2 _ a0]
      walk_at "pd"
      rw [f4 _ _ (by rw [List.length_append]; have:=l1 a.toNat; simp only [List.length_singleton]; omega) (l2 _)]
      walk_at "pd"
    · rw [decide_eq_false h3,if_neg h3]
      walk_at "pd"
      try rfl
theorem strs_inj:∀ {a b:List Str},a.map PV.str=b.map PV.str→a=b
  | [],[],_=>rfl
  | [],y :: b,h=>by simp at h
  | x :: a,[],h=>by simp at h
  | x :: a,y :: b,h=>by
    simp only [List.map_cons,List.cons.injEq,PV.str.injEq] at h
    rw [h.1,strs_inj h.2]
theorem c__law_odd {ws:List Str} {c:Int} (h:ws.length≤1000):pm__law_odd.fn [.lst (ws.map PV.str),.int c]=.ok (.lst ((oddW ws c).map PV.str)):=Pm.fn_eq pm__law_odd (ws,c) h (fun (a:List Str × Int) e=>by
  obtain ⟨ws',c'⟩:=a
  simp only [pm__law_odd,List.cons.injEq,PV.lst.injEq,PV.int.injEq,and_true] at e ⊢
  rw [strs_inj e.1,e.2])
theorem lawBoard_bd (ns:List Int) {pits way:Int} (h1:2≤pits) (h2:pits≤24):∀ x∈lawBoard ns pits way,0≤x∧x≤BB:=fun x hx=>by
  unfold lawBoard at hx
  obtain ⟨z,hz,rfl⟩:=List.mem_map.mp hx
  have:=foldI_bound ns pits _ z hz
  exact heldF_bound h1 h2 this.1 this.2
noncomputable def pm_law:Pm:=⟨List Int,fun ns=>[.lst (ns.map PV.int)],fun ns=>ns.length≤63,fun _=>.ok (.bl true)⟩
theorem fn_law (T:Txt K mg) {f:Addr} {fd:FuncData} (F:Fun K "law" "law" s_law f fd):FnOk P w K mg base CX0 9 f fd ["script"] (spF K 1 .P W0 pm_law.fn):=by
  have G__law_at:=okOf (P:=P) (w:=w) (base:=base) T.d__law_at bd__law_at (fun F=>fn__law_at T F)
  have G__law_board:=okOf (P:=P) (w:=w) (base:=base) T.d__law_board bd__law_board (fun F=>fn__law_board T F)
  have G__law_refused:=okOf (P:=P) (w:=w) (base:=base) T.d__law_refused bd__law_refused (fun F=>fn__law_refused T F)
  have G_read_board:=okOfX (P:=P) (w:=w) (base:=base) T.d_read_board bd_read_board (fun F=>fn_read_board T F)
  have G_answers_to:=okOfX (P:=P) (w:=w) (base:=base) T.d_answers_to bd_answers_to (fun F=>fn_answers_to T F)
  have G__law_odd:=okOf (P:=P) (w:=w) (base:=base) T.d__law_odd bd__law_odd (fun F=>fn__law_odd T F)
  refine F.okP sc_law rfl rfl (fun cdv A outer s H E hr=>?_)
  have hu:=hr.units
  refine ⟨_,_,⟨[],[],[],.P⟩,rfl,(pss_cons (ps_set (i:=1) sc_law.nd rfl (by first | exact Or.inl rfl | exact Or.inr rfl) (pe_callO G__law_at (hr.mono (by decide)) rfl (pa_cons (pv 0) (pa_cons pe_int pa_nil))))
      (pss_cons (ps_set (i:=2) sc_law.nd rfl (by first | exact Or.inl rfl | exact Or.inr rfl) (pe_op op_add pe_int (pe_op op_mod (pv 1) pe_int)))
      (pss_cons (ps_set (i:=3) sc_law.nd rfl (by first | exact Or.inl rfl | exact Or.inr rfl) (pe_callO G__law_board (hr.mono (by decide)) rfl (pa_cons (pv 0) (pa_cons (pv 2) (pa_cons (pe_op op_mod (pe_op op_fdivB (pv 1) pe_int) pe_int) pa_nil)))))
      (pss_cons (ps_setComp (i:=4) sc_law.nd rfl (pi_listK (K:=K) (pv 3)) (fun _ _ _ _=>(pe_callTy call_str_int rfl T.z_str bt_str (pa_cons (pv 9) pa_nil))) rfl)
      (pss_cons (ps_set (i:=5) sc_law.nd rfl (by first | exact Or.inl rfl | exact Or.inr rfl) (pe_bm PySem.F.plainAttrs_str PySem.F.slot_str_join PySem.F.type_str_join (mt_join (K:=K)) pe_str (pa_cons (pv 4) pa_nil)))
      (pss_cons (ps_if (PW.pt (pw_or (pt_cmpR (op_neD (K:=K) hu) (pe_callX G_read_board (hr.mono (by decide)) rfl pass_E0 (pa_cons (pv 5) pa_nil)) (pv 3) (nomark _)) (pw_or1 (pt_cmpR (op_neD (K:=K) hu) (pe_callX G_answers_to (hr.mono (by decide)) rfl pass_E0 (pa_cons (pv 5) pa_nil)) (pe_lst pa_nil) (nomark _))))) (pss_one (ps_ret pe_bl)) pss_nil)
      (pss_cons (ps_for PassesOwn.never rfl (pi_listK (K:=K) (pe_slice (sl_listK (K:=K)) (pe_op (op_catK (K:=K)) (pe_lst (pa_cons pe_int pa_nil)) (pv 0)) po_none (po_some pe_int))) (pg_name (i:=6) sc_law.nd rfl (by first | exact Or.inl rfl | exact Or.inr rfl)) (pss_cons (ps_set (i:=7) sc_law.nd rfl (by first | exact Or.inl rfl | exact Or.inr rfl) (pe_bm PySem.F.plainAttrs_str PySem.F.slot_str_join PySem.F.type_str_join (mt_join (K:=K)) pe_str (pa_cons (pe_callO G__law_odd (hr.mono (by decide)) rfl (pa_cons (pv 4) (pa_cons (pv 6) pa_nil))) pa_nil)))
      (pss_cons (ps_if (PW.pt (pw_or (pt_not (pt_val (pe_callO G__law_refused (hr.mono (by decide)) rfl (pa_cons pe_int (pa_cons (pv 7) pa_nil))))) (pw_or1 (pt_not (pt_val (pe_callO G__law_refused (hr.mono (by decide)) rfl (pa_cons pe_int (pa_cons (pe_op op_add_str (pv 7) (pe_ix (ix_seqK (K:=K)) (pe_lst (pa_cons pe_str (pa_cons pe_str (pa_cons pe_str (pa_cons pe_str pa_nil))))) (pe_op op_mod (pe_op op_fdivB (pv 6) pe_int) pe_int) (fun _ _=>rfl))) pa_nil)))))))) (pss_one (ps_ret pe_bl)) pss_nil)
      (pss_cons (ps_set (i:=8) sc_law.nd rfl (by first | exact Or.inl rfl | exact Or.inr rfl) (pe_bm PySem.F.plainAttrs_str PySem.F.slot_str_join PySem.F.type_str_join (mt_join (K:=K)) pe_str (pa_cons (pe_callO G__law_odd (hr.mono (by decide)) rfl (pa_cons (pe_op (op_catK (K:=K)) (pe_op (op_catK (K:=K)) (pv 4) (pe_op op_rep (pe_lst (pa_cons pe_str pa_nil)) pe_int)) (pe_lst (pa_cons (pe_op op_mulS pe_str pe_int) pa_nil))) (pa_cons (pv 6) pa_nil))) pa_nil)))
      (pss_one (ps_if (PW.pt (pw_and (pt_cmpR op_lt (pe_op op_mod (pe_op op_fdivB (pv 6) pe_int) pe_int) pe_int (nomark _)) (pw_and1 (pt_not (pt_val (pe_callO G__law_refused (hr.mono (by decide)) rfl (pa_cons pe_int (pa_cons (pv 8) pa_nil)))))))) (pss_one (ps_ret pe_bl)) pss_nil))))))
      (pss_one (ps_ret (pe_and (pe_callO G__law_refused (hr.mono (by decide)) rfl (pa_cons pe_int (pa_cons (pe_op op_add_str (pv 5) pe_str) pa_nil))) (pe_and (pe_callO G__law_refused (hr.mono (by decide)) rfl (pa_cons pe_int (pa_cons (pe_op op_add_str pe_str (pv 5)) pa_nil))) (pe_one (pe_callO G__law_refused (hr.mono (by decide)) rfl (pa_cons pe_int (pa_cons pe_str pa_nil))))))))))))))),
      (ds_seq (Γm:=[.S,.P,.U,.U,.U,.U,.U,.U,.U]) (ds_setP (i:=1) (dc_P (len_cons (len_cons len_nil)) (daa_cons (de_varA (i:=0) (m:=.S) rfl (by decide)) (daa_cons (DE.toA de_int) daa_nil))) (by decide))
      (ds_seq (Γm:=[.S,.P,.P,.U,.U,.U,.U,.U,.U]) (ds_setP (i:=2) (de_add (DE.toA de_int) (DE.toA (de_mod (DE.toA (de_varP (i:=1) rfl)) (DE.toA de_int)))) (by decide))
      (ds_seq (Γm:=[.S,.P,.P,.O,.U,.U,.U,.U,.U]) (ds_setF (i:=3) (dc_F (len_cons (len_cons (len_cons len_nil))) (daa_cons (de_varA (i:=0) (m:=.S) rfl (by decide)) (daa_cons (DE.toA (de_varP (i:=2) rfl)) (daa_cons (DE.toA (de_mod (DE.toA (de_div (DE.toA (de_varP (i:=1) rfl)) (DE.toA de_int))) (DE.toA de_int))) daa_nil)))) (by decide))
      (ds_seq (Γm:=[.S,.P,.P,.O,.O,.U,.U,.U,.U]) (ds_setComp (i:=4) (de_compF (di_listC (de_varA (i:=3) (m:=.O) rfl (by decide))) (DE.PF (de_strI (daa_cons (de_varA (i:=9) (m:=.S) rfl (by decide)) daa_nil)))) (by decide))
      (ds_seq (Γm:=[.S,.P,.P,.O,.O,.P,.U,.U,.U]) (ds_setP (i:=5) (de_join (DE.toA de_str) (daa_cons (de_varA (i:=4) (m:=.O) rfl (by decide)) daa_nil)) (by decide))
      (ds_seq (Γm:=[.S,.P,.P,.O,.O,.P,.U,.U,.U]) (ds_if (dt_or (dt_test (DE.toA (de_eqG (g:=(!·)) (DE.toA (dz_F (len_cons len_nil) (daa_cons (DE.toA (de_varP (i:=5) rfl)) daa_nil))) (de_varA (i:=3) (m:=.O) rfl (by decide))))) (dt_test (DE.toA (de_eqG (g:=(!·)) (DE.toA (dz_F (len_cons len_nil) (daa_cons (DE.toA (de_varP (i:=5) rfl)) daa_nil))) (DE.toA (de_lstF daf_nil))))))
      (ds_retP de_bl)
      ds_next)
      (ds_seq (Γm:=[.S,.P,.P,.O,.O,.P,.U,.U,.U]) (ds_for (Γl:=[.S,.P,.P,.O,.O,.P,.U,.U,.U]) (di_list (DE.FZ (de_slF (DE.toA (de_catF (DE.toA (de_lstF (daf_cons (DE.PF de_int) daf_nil))) (de_varA (i:=0) (m:=.S) rfl (by decide)))) do_none (do_some (DE.toA de_int))))) rfl (dg_P (i:=6) (by decide))
      (DS.out (Y:=⟨[.S,.P,.P,.O,.O,.P,.P,.P,.P],[.S,.P,.P,.O,.O,.P,.U,.U,.U],[.S,.P,.P,.O,.O,.P,.U,.U,.U],.P⟩) (Y':=⟨[.S,.P,.P,.O,.O,.P,.U,.U,.U],[.S,.P,.P,.O,.O,.P,.U,.U,.U],[.S,.P,.P,.O,.O,.P,.U,.U,.U],.P⟩) (ds_seq (Γm:=[.S,.P,.P,.O,.O,.P,.P,.P,.U]) (ds_setP (i:=7) (de_join (DE.toA de_str) (daa_cons (DE.toA (dc_F (len_cons (len_cons len_nil)) (daa_cons (de_varA (i:=4) (m:=.O) rfl (by decide)) (daa_cons (DE.toA (de_varP (i:=6) rfl)) daa_nil)))) daa_nil)) (by decide))
      (ds_seq (Γm:=[.S,.P,.P,.O,.O,.P,.P,.P,.U]) (ds_if (dt_or (dt_not (dt_b (DE.toA (dc_P (len_cons (len_cons len_nil)) (daa_cons (DE.toA de_int) (daa_cons (DE.toA (de_varP (i:=7) rfl)) daa_nil)))))) (dt_not (dt_b (DE.toA (dc_P (len_cons (len_cons len_nil)) (daa_cons (DE.toA de_int) (daa_cons (DE.toA (de_addS (DE.toA (de_varP (i:=7) rfl)) (de_ixA (te:=tC .non) (DE.toA (de_lstF (daf_cons (DE.PF de_str) (daf_cons (DE.PF de_str) (daf_cons (DE.PF de_str) (daf_cons (DE.PF de_str) daf_nil)))))) (DE.toA (de_mod (DE.toA (de_div (DE.toA (de_varP (i:=6) rfl)) (DE.toA de_int))) (DE.toA de_int)))))) daa_nil)))))))
      (ds_retP de_bl)
      ds_next)
      (ds_seq (Γm:=[.S,.P,.P,.O,.O,.P,.P,.P,.P]) (ds_setP (i:=8) (de_join (DE.toA de_str) (daa_cons (DE.toA (dc_F (len_cons (len_cons len_nil)) (daa_cons (DE.toA (de_catF (DE.toA (de_catF (de_varA (i:=4) (m:=.O) rfl (by decide)) (DE.toA (de_repF (daa_cons (DE.toA de_str) daa_nil) (DE.toA de_int))))) (DE.toA (de_lstF (daf_cons (DE.PF (de_mulS (DE.toA de_str) (DE.toA de_int))) daf_nil))))) (daa_cons (DE.toA (de_varP (i:=6) rfl)) daa_nil)))) daa_nil)) (by decide))
      (ds_if (dt_and (dt_test (DE.toA (de_lt (DE.toA (de_mod (DE.toA (de_div (DE.toA (de_varP (i:=6) rfl)) (DE.toA de_int))) (DE.toA de_int))) (DE.toA de_int)))) (dt_not (dt_b (DE.toA (dc_P (len_cons (len_cons len_nil)) (daa_cons (DE.toA de_int) (daa_cons (DE.toA (de_varP (i:=8) rfl)) daa_nil)))))))
      (ds_retP de_bl)
      ds_next)))) rfl rfl rfl rfl))
      (ds_retP (de_and (DE.toA (dc_P (len_cons (len_cons len_nil)) (daa_cons (DE.toA de_int) (daa_cons (DE.toA (de_addS (DE.toA (de_varP (i:=5) rfl)) (DE.toA de_str))) daa_nil)))) (de_and (DE.toA (dc_P (len_cons (len_cons len_nil)) (daa_cons (DE.toA de_int) (daa_cons (DE.toA (de_addS (DE.toA de_str) (DE.toA (de_varP (i:=5) rfl)))) daa_nil)))) (dc_P (len_cons (len_cons len_nil)) (daa_cons (DE.toA de_int) (daa_cons (DE.toA de_str) daa_nil))))))))))))), ?_⟩
  refine Pm.ref pm_law (g:=fun xs=>_) ?_
  intro (ns:List Int) (hn:ns.length≤63)
  simp only [pm_law]
  walk_at "pd"
  rw [c__law_at (by omega)]
  walk_at "pd"
  generalize ns.getD 0 0=head
  have p0:2≤2 + head % 6:=by omega
  have p1:2 + head % 6≤24:=by omega
  have p2:2 + head % 6≤7:=by omega
  generalize 2 + head % 6=pits at p0 p1 p2
  rw [c__law_board ⟨hn,p0,p1⟩]
  have hbd:=lawBoard_bd ns (pits:=pits) (way:=head / 6 % 4) p0 p1
  have hlen:=lawBoard_length ns (pits:=pits) (way:=head / 6 % 4) (by omega)
  generalize lawBoard ns pits (head / 6 % 4)=bs at hbd hlen
  have hB:Board bs:=Board.of (by omega) (by omega) hbd
  have b1:=hB.hi
  walk_at "pd"
  have hx:∀ x∈bs,0≤x∧x≤10 ^ 60:=fun x h=>⟨hB.nn x h,by have:=le_sum hB.nn h; have:=hB.sm; omega⟩
  have bne:bs≠[]:=fun z=>by have:=hB.lo; rw [z] at this; simp at this
  have RW:=num_row bne (by omega) hx
  have rg:=rdW_good (boardB_iff.mpr hB) hx
  rw [mapR_ok (g:=fun x=>match x with | .int z=>PV.str (numS z) | _=>.non) (fun x h=>by
    obtain ⟨z,hz,rfl⟩:=List.mem_map.mp h
    have:=hx z hz
    exact pStrI_ok this.1 (Int.lt_of_le_of_lt this.2 (by decide)))]
  rw [show (bs.map PV.int).map (fun x=>match x with | .int z=>PV.str (numS z) | _=>.non)=(bs.map numS).map PV.str by rw [List.map_map,List.map_map]; rfl]
  have wl:(bs.map numS).length≤7:=by rw [List.length_map]; omega
  have tl:(Str.join spS (bs.map numS)).length≤7 * 101:=by
    have:=join_len 32 (k:=100) (ws:=bs.map numS) fun w hw=>(RW.ok w hw).len
    exact Nat.le_trans this (Nat.mul_le_mul_right _ wl)
  generalize bs.map numS=W at RW rg wl tl
  walk_at "pd"
  rw [pJoin_any RW.sum]
  have rw1:=RW.words
  have rl1:=RW.lay
  have ll:linesS (Str.join spS W)=[Str.join spS W]:=RW.lines (rs:=[]) (by simp)
  have hh:hdL (Str.join spS W)=Str.join spS W:=by unfold hdL; rw [ll]; rfl
  walk_at "pd"
  rw [c_read_board ⟨⟨rl1,by omega⟩,by rw [rw1]; omega⟩,rw1,rg]
  walk_at "pd"
  rw [c_answers_to ⟨⟨rl1,by omega⟩,⟨by rw [ll]; simp,by rw [hh,rw1]; omega⟩,.inl (by rw [ll]; rfl)⟩,hh,rw1,rg]
  walk_at "pd"
  rw [show newF (cutG (PV.int 0 :: ns.map PV.int) none (some 13))=.ok (.lst (((0 :: ns).take 13).map PV.int)) from by
    rw [show PV.int 0 :: ns.map PV.int=(0 :: ns).map PV.int from rfl,cut_to (by decide)]
    exact newF_ints (by simp; omega)]
  walk_at "pd"
  generalize (0 :: ns).take 13=cs
  generalize hw:forR _ _ _=V
  obtain ⟨ρ',rfl,a,b,c,rfl⟩:=forR_inv' hw (fun i ρ=>∃ a b c,ρ=[.lst (ns.map PV.int),.int head,.int pits,.lst (bs.map PV.int),.lst (W.map PV.str),.str (Str.join spS W),a,b,c]) ⟨_,_,_,rfl⟩ (by
    rintro i x ρ hxi ⟨a,b,c,rfl⟩
    rw [List.getElem?_map] at hxi
    obtain ⟨cell,-,rfl⟩:∃ z,cs[i]?=some z∧PV.int z=x:=by
      cases hz:cs[i]? with
      | none=>rw [hz] at hxi; cases hxi
      | some z=>rw [hz] at hxi; exact ⟨z,rfl,by simpa using hxi⟩
    walk_at "pd"
    rw [c__law_odd (by omega)]
    have OR:=odd_row (c:=cell) RW.ok (by omega)
    have ow:=OR.words
    have ol:=OR.lay
    have oj:=OR.jlen
    have o1:=oddW_len W cell
    walk_at "pd"
    rw [pJoin_any OR.sum]
    walk_at "pd"
    rw [c__law_refused (.inl ⟨rfl,⟨⟨ol,Nat.le_trans oj (by decide)⟩,by rw [ow]; omega⟩,by rw [ow]; exact odd_bad⟩)]
    walk_at "pd"
    have k0:(cell / 7 % 4).toNat < 4:=by omega
    have hS:∀ L:List PV,L=sfxL.map PV.str→pIx (.lst L) (.int (cell / 7 % 4))=.ok (.str (sfxL.getD (cell / 7 % 4).toNat "")):=fun L e=>by
      rw [e,pIx_q (d:=("":Str)) (by omega) (by show cell / 7 % 4 < 4; omega)]
    rw [hS]
    rotate_left
    · rfl
    generalize (cell / 7 % 4).toNat=k at k0
    walk_at "pd"
    have sm:sfxL.getD k ""∈sfxL:=by
      rw [List.getD_eq_getElem?_getD,List.getElem?_eq_getElem (show k < sfxL.length from k0)]; exact List.getElem_mem _
    have rm:rstL.getD k []∈rstL:=by
      rw [List.getD_eq_getElem?_getD,List.getElem?_eq_getElem (show k < rstL.length from k0)]; exact List.getElem_mem _
    have sl:=sfx_len _ sm
    obtain ⟨r1,r2⟩:=rst_ok _ rm
    rw [pAddS_ok (by omega),sfx_eq _ k k0]
    generalize rstL.getD k []=rs at r1 r2
    obtain ⟨q1,q2⟩:=OR.behind (rs:=rs) (fun w hw=>⟨layS_iff.mpr (r2 w hw).1,(r2 w hw).2⟩) r1
    have q3:hdL (Str.join ⟨#[10]⟩ (Str.join spS (oddW W cell) :: rs))=Str.join spS (oddW W cell):=by unfold hdL; rw [q2]; rfl
    walk_at "pd"
    rw [c__law_refused (.inr ⟨rfl,⟨q1,⟨by rw [q2]; simp only [List.length_cons]; omega,by rw [q3,ow]; omega⟩,.inr (by rw [q3,ow]; exact odd_bad)⟩,by rw [q3,ow]; exact odd_bad⟩)]
    walk_at "pd"
    rw [show pRep [PV.str (Str.ofString "0")] (.int 25)=.ok (.lst ((List.replicate 25 (Str.ofString "0")).map PV.str)) from rfl]
    walk_at "pd"
    rw [show newF (W.map PV.str ++ (List.replicate 25 (Str.ofString "0")).map PV.str)=.ok (.lst ((W ++ List.replicate 25 (Str.ofString "0")).map PV.str)) from by
      rw [← List.map_append]; exact newF_of flats_str (by simp; omega)]
    walk_at "pd"
    rw [pMulS_ok nines]
    walk_at "pd"
    rw [show newF ((W ++ List.replicate 25 (Str.ofString "0")).map PV.str ++ [PV.str (Txt.mul (Str.ofString "9") 70)])=.ok (.lst ((W ++ List.replicate 25 (Str.ofString "0") ++ [Txt.mul (Str.ofString "9") 70]).map PV.str)) from by
      rw [show (W ++ List.replicate 25 (Str.ofString "0")).map PV.str ++ [PV.str (Txt.mul (Str.ofString "9") 70)]=(W ++ List.replicate 25 (Str.ofString "0") ++ [Txt.mul (Str.ofString "9") 70]).map PV.str by rw [List.map_append (l₂:=[Txt.mul (Str.ofString "9") 70])]; rfl]
      exact newF_of flats_str (by simp; omega)]
    have W1l:(W ++ List.replicate 25 (Str.ofString "0") ++ [Txt.mul (Str.ofString "9") 70]).length≤33:=by simp; omega
    have W1o:∀ w∈W ++ List.replicate 25 (Str.ofString "0") ++ [Txt.mul (Str.ofString "9") 70],OkW w:=fun w hw=>by
      rcases List.mem_append.mp hw with hw | hw
      · rcases List.mem_append.mp hw with hw | hw
        · exact RW.ok w hw
        · rw [List.eq_of_mem_replicate hw]; exact zero_ok
      · rw [List.mem_singleton.mp hw]; exact nines_ok
    generalize W ++ List.replicate 25 (Str.ofString "0") ++ [Txt.mul (Str.ofString "9") 70]=W1 at W1l W1o
    walk_at "pd"
    rw [c__law_odd (by omega)]
    have PR:=odd_row (c:=cell) W1o (by omega)
    have pw:=PR.words
    have o2:=oddW_len W1 cell
    walk_at "pd"
    rw [pJoin_any PR.sum]
    walk_at "pd"
    have rf:=c__law_refused (w:=0) (t:=Str.join spS (oddW W1 cell)) (.inl ⟨rfl,⟨⟨PR.lay,Nat.le_trans PR.jlen (by decide)⟩,by rw [pw]; omega⟩,by rw [pw]; exact odd_bad⟩)
    by_cases c2:cell / 200 % 3 < 2
    · rw [decide_eq_true c2]
      walk_at "pd"
      rw [rf]
      walk_at "pd"
      exact nextI ⟨_,_,_,rfl⟩
    · rw [decide_eq_false c2]
      walk_at "pd"
      exact nextI ⟨_,_,_,rfl⟩)
  walk_at "pd"
  obtain ⟨f1,f2,f3⟩:=feed_ok
  have g1:=feed_bad (s:=Str.join spS W ++ Str.ofString "\n") (lay_app rl1 f1) (by rw [len_app,f2]; omega) (mem_app (.inr f3))
  have g2:=feed_bad (s:=Str.ofString "\n" ++ Str.join spS W) (lay_app f1 rl1) (by rw [len_app,f2]; omega) (mem_app (.inl f3))
  rw [pAddS_ok (by rw [f2]; omega)]
  walk_at "pd"
  rw [c__law_refused (.inl ⟨rfl,g1.1,g1.2⟩)]
  walk_at "pd"
  rw [pAddS_ok (by rw [f2]; omega)]
  walk_at "pd"
  rw [c__law_refused (.inl ⟨rfl,g2.1,g2.2⟩)]
  walk_at "pd"
  rw [c__law_refused (w:=0) (t:=Str.ofString "") (.inl ⟨rfl,empty_bad.1,empty_bad.2⟩)]
  walk_at "pd"
noncomputable def sp_law (K:PySem.W.Frag):Sp:=spF K 1 .P W0 pm_law.fn
theorem law_fn {l:PySem.W.OpenLaw} (T:Txt K mg) {fa:Addr} (hmg:mg "law"=some (.ref fa)):∃ fd:FuncData,(∀ (s:Shared) (u:Value),BindsTo s fd ⟨[u],[]⟩ [("script",u)]) ∧
    ∀ base:Heap,K.In base→base.Ns mainGlobals mg→FnOk l.prog w K mg base CX0 9 fa fd ["script"] (sp_law K):=by
  obtain ⟨f,fd,F,hm⟩:=T.d_law
  rw [hmg] at hm
  cases hm
  refine ⟨fd,fun s u=>?_,fun base _ _=>fn_law T F⟩
  obtain ⟨oc,od,kV,doc,pm,an,cdv,ct,osl,rfl,lk,hcd⟩:=F.ex
  exact .of_eq (bd_law kV doc pm an cdv ct [u] rfl)
theorem law_start {H:Hp} {a:Addr} {ns:List Int} (hl:ns.length≤63) (hO:Only H) (hS:SqL K H a (ns.map V.int)):sp_law K [.ref a] H (fun v _=>v=.bl true) fun _ _ _=>False :=
  law_startP (Pm.fn_eq pm_law ns hl fun _ _=>rfl) hS
end
theorem txt_mk {K:PySem.W.Frag} {h:Heap} {mg:Str→Option Value} {f__law_at f__law_folded f__law_board f_is_whole f_is_whole_from f_is_list_from_nought f_most_seeds f_is_board f_check_board f_number_or_too_many f_is_number f_read_board f_answers_to f__law_refused f__law_odd f_law:Addr} (X:K.In h) (G:h.Ns mainGlobals mg)
    {od__law_at an__law_at:Option Addr} {sl__law_at:Array (Option Value)} {oc__law_at kV__law_at dc__law_at pm__law_at cd__law_at ct__law_at:Value}
    {od__law_folded an__law_folded:Option Addr} {sl__law_folded:Array (Option Value)} {oc__law_folded kV__law_folded dc__law_folded pm__law_folded cd__law_folded ct__law_folded:Value}
    {od__law_board an__law_board:Option Addr} {sl__law_board:Array (Option Value)} {oc__law_board kV__law_board dc__law_board pm__law_board cd__law_board ct__law_board:Value}
    {od_is_whole an_is_whole:Option Addr} {sl_is_whole:Array (Option Value)} {oc_is_whole kV_is_whole dc_is_whole pm_is_whole cd_is_whole ct_is_whole:Value}
    {od_is_whole_from an_is_whole_from:Option Addr} {sl_is_whole_from:Array (Option Value)} {oc_is_whole_from kV_is_whole_from dc_is_whole_from pm_is_whole_from cd_is_whole_from ct_is_whole_from:Value}
    {od_is_list_from_nought an_is_list_from_nought:Option Addr} {sl_is_list_from_nought:Array (Option Value)} {oc_is_list_from_nought kV_is_list_from_nought dc_is_list_from_nought pm_is_list_from_nought cd_is_list_from_nought ct_is_list_from_nought:Value}
    {od_most_seeds an_most_seeds:Option Addr} {sl_most_seeds:Array (Option Value)} {oc_most_seeds kV_most_seeds dc_most_seeds pm_most_seeds cd_most_seeds ct_most_seeds:Value}
    {od_is_board an_is_board:Option Addr} {sl_is_board:Array (Option Value)} {oc_is_board kV_is_board dc_is_board pm_is_board cd_is_board ct_is_board:Value}
    {od_check_board an_check_board:Option Addr} {sl_check_board:Array (Option Value)} {oc_check_board kV_check_board dc_check_board pm_check_board cd_check_board ct_check_board:Value}
    {od_number_or_too_many an_number_or_too_many:Option Addr} {sl_number_or_too_many:Array (Option Value)} {oc_number_or_too_many kV_number_or_too_many dc_number_or_too_many pm_number_or_too_many cd_number_or_too_many ct_number_or_too_many:Value}
    {od_is_number an_is_number:Option Addr} {sl_is_number:Array (Option Value)} {oc_is_number kV_is_number dc_is_number pm_is_number cd_is_number ct_is_number:Value}
    {od_read_board an_read_board:Option Addr} {sl_read_board:Array (Option Value)} {oc_read_board kV_read_board dc_read_board pm_read_board cd_read_board ct_read_board:Value}
    {od_answers_to an_answers_to:Option Addr} {sl_answers_to:Array (Option Value)} {oc_answers_to kV_answers_to dc_answers_to pm_answers_to cd_answers_to ct_answers_to:Value}
    {od__law_refused an__law_refused:Option Addr} {sl__law_refused:Array (Option Value)} {oc__law_refused kV__law_refused dc__law_refused pm__law_refused cd__law_refused ct__law_refused:Value}
    {od__law_odd an__law_odd:Option Addr} {sl__law_odd:Array (Option Value)} {oc__law_odd kV__law_odd dc__law_odd pm__law_odd cd__law_odd ct__law_odd:Value}
    {od_law an_law:Option Addr} {sl_law:Array (Option Value)} {oc_law kV_law dc_law pm_law cd_law ct_law:Value}
    (a__law_at:PySem.W.nsIn K mainGlobals "_law_at"=some (some (.ref f__law_at))) (l__law_at:K.lookup f__law_at=some ⟨oc__law_at,od__law_at,.func (PySem.W.fnOf "_law_at" "_law_at" (defArgs s__law_at) (defBody s__law_at) (defScope s__law_at) .none kV__law_at dc__law_at pm__law_at an__law_at cd__law_at ct__law_at),sl__law_at⟩) (c__law_at:PySem.W.codeIn K cd__law_at "_law_at"=true) (k__law_at:PySem.W.keepIn K (.ref f__law_at)=true)
    (a__law_folded:PySem.W.nsIn K mainGlobals "_law_folded"=some (some (.ref f__law_folded))) (l__law_folded:K.lookup f__law_folded=some ⟨oc__law_folded,od__law_folded,.func (PySem.W.fnOf "_law_folded" "_law_folded" (defArgs s__law_folded) (defBody s__law_folded) (defScope s__law_folded) .none kV__law_folded dc__law_folded pm__law_folded an__law_folded cd__law_folded ct__law_folded),sl__law_folded⟩) (c__law_folded:PySem.W.codeIn K cd__law_folded "_law_folded"=true) (k__law_folded:PySem.W.keepIn K (.ref f__law_folded)=true)
    (a__law_board:PySem.W.nsIn K mainGlobals "_law_board"=some (some (.ref f__law_board))) (l__law_board:K.lookup f__law_board=some ⟨oc__law_board,od__law_board,.func (PySem.W.fnOf "_law_board" "_law_board" (defArgs s__law_board) (defBody s__law_board) (defScope s__law_board) .none kV__law_board dc__law_board pm__law_board an__law_board cd__law_board ct__law_board),sl__law_board⟩) (c__law_board:PySem.W.codeIn K cd__law_board "_law_board"=true) (k__law_board:PySem.W.keepIn K (.ref f__law_board)=true)
    (a_is_whole:PySem.W.nsIn K mainGlobals "is_whole"=some (some (.ref f_is_whole))) (l_is_whole:K.lookup f_is_whole=some ⟨oc_is_whole,od_is_whole,.func (PySem.W.fnOf "is_whole" "is_whole" (defArgs s_is_whole) (defBody s_is_whole) (defScope s_is_whole) .none kV_is_whole dc_is_whole pm_is_whole an_is_whole cd_is_whole ct_is_whole),sl_is_whole⟩) (c_is_whole:PySem.W.codeIn K cd_is_whole "is_whole"=true) (k_is_whole:PySem.W.keepIn K (.ref f_is_whole)=true)
    (a_is_whole_from:PySem.W.nsIn K mainGlobals "is_whole_from"=some (some (.ref f_is_whole_from))) (l_is_whole_from:K.lookup f_is_whole_from=some ⟨oc_is_whole_from,od_is_whole_from,.func (PySem.W.fnOf "is_whole_from" "is_whole_from" (defArgs s_is_whole_from) (defBody s_is_whole_from) (defScope s_is_whole_from) .none kV_is_whole_from dc_is_whole_from pm_is_whole_from an_is_whole_from cd_is_whole_from ct_is_whole_from),sl_is_whole_from⟩) (c_is_whole_from:PySem.W.codeIn K cd_is_whole_from "is_whole_from"=true) (k_is_whole_from:PySem.W.keepIn K (.ref f_is_whole_from)=true)
    (a_is_list_from_nought:PySem.W.nsIn K mainGlobals "is_list_from_nought"=some (some (.ref f_is_list_from_nought))) (l_is_list_from_nought:K.lookup f_is_list_from_nought=some ⟨oc_is_list_from_nought,od_is_list_from_nought,.func (PySem.W.fnOf "is_list_from_nought" "is_list_from_nought" (defArgs s_is_list_from_nought) (defBody s_is_list_from_nought) (defScope s_is_list_from_nought) .none kV_is_list_from_nought dc_is_list_from_nought pm_is_list_from_nought an_is_list_from_nought cd_is_list_from_nought ct_is_list_from_nought),sl_is_list_from_nought⟩) (c_is_list_from_nought:PySem.W.codeIn K cd_is_list_from_nought "is_list_from_nought"=true) (k_is_list_from_nought:PySem.W.keepIn K (.ref f_is_list_from_nought)=true)
    (a_most_seeds:PySem.W.nsIn K mainGlobals "most_seeds"=some (some (.ref f_most_seeds))) (l_most_seeds:K.lookup f_most_seeds=some ⟨oc_most_seeds,od_most_seeds,.func (PySem.W.fnOf "most_seeds" "most_seeds" (defArgs s_most_seeds) (defBody s_most_seeds) (defScope s_most_seeds) .none kV_most_seeds dc_most_seeds pm_most_seeds an_most_seeds cd_most_seeds ct_most_seeds),sl_most_seeds⟩) (c_most_seeds:PySem.W.codeIn K cd_most_seeds "most_seeds"=true) (k_most_seeds:PySem.W.keepIn K (.ref f_most_seeds)=true)
    (a_is_board:PySem.W.nsIn K mainGlobals "is_board"=some (some (.ref f_is_board))) (l_is_board:K.lookup f_is_board=some ⟨oc_is_board,od_is_board,.func (PySem.W.fnOf "is_board" "is_board" (defArgs s_is_board) (defBody s_is_board) (defScope s_is_board) .none kV_is_board dc_is_board pm_is_board an_is_board cd_is_board ct_is_board),sl_is_board⟩) (c_is_board:PySem.W.codeIn K cd_is_board "is_board"=true) (k_is_board:PySem.W.keepIn K (.ref f_is_board)=true)
    (a_check_board:PySem.W.nsIn K mainGlobals "check_board"=some (some (.ref f_check_board))) (l_check_board:K.lookup f_check_board=some ⟨oc_check_board,od_check_board,.func (PySem.W.fnOf "check_board" "check_board" (defArgs s_check_board) (defBody s_check_board) (defScope s_check_board) .none kV_check_board dc_check_board pm_check_board an_check_board cd_check_board ct_check_board),sl_check_board⟩) (c_check_board:PySem.W.codeIn K cd_check_board "check_board"=true) (k_check_board:PySem.W.keepIn K (.ref f_check_board)=true)
    (a_number_or_too_many:PySem.W.nsIn K mainGlobals "number_or_too_many"=some (some (.ref f_number_or_too_many))) (l_number_or_too_many:K.lookup f_number_or_too_many=some ⟨oc_number_or_too_many,od_number_or_too_many,.func (PySem.W.fnOf "number_or_too_many" "number_or_too_many" (defArgs s_number_or_too_many) (defBody s_number_or_too_many) (defScope s_number_or_too_many) .none kV_number_or_too_many dc_number_or_too_many pm_number_or_too_many an_number_or_too_many cd_number_or_too_many ct_number_or_too_many),sl_number_or_too_many⟩) (c_number_or_too_many:PySem.W.codeIn K cd_number_or_too_many "number_or_too_many"=true) (k_number_or_too_many:PySem.W.keepIn K (.ref f_number_or_too_many)=true)
    (a_is_number:PySem.W.nsIn K mainGlobals "is_number"=some (some (.ref f_is_number))) (l_is_number:K.lookup f_is_number=some ⟨oc_is_number,od_is_number,.func (PySem.W.fnOf "is_number" "is_number" (defArgs s_is_number) (defBody s_is_number) (defScope s_is_number) .none kV_is_number dc_is_number pm_is_number an_is_number cd_is_number ct_is_number),sl_is_number⟩) (c_is_number:PySem.W.codeIn K cd_is_number "is_number"=true) (k_is_number:PySem.W.keepIn K (.ref f_is_number)=true)
    (a_read_board:PySem.W.nsIn K mainGlobals "read_board"=some (some (.ref f_read_board))) (l_read_board:K.lookup f_read_board=some ⟨oc_read_board,od_read_board,.func (PySem.W.fnOf "read_board" "read_board" (defArgs s_read_board) (defBody s_read_board) (defScope s_read_board) .none kV_read_board dc_read_board pm_read_board an_read_board cd_read_board ct_read_board),sl_read_board⟩) (c_read_board:PySem.W.codeIn K cd_read_board "read_board"=true) (k_read_board:PySem.W.keepIn K (.ref f_read_board)=true)
    (a_answers_to:PySem.W.nsIn K mainGlobals "answers_to"=some (some (.ref f_answers_to))) (l_answers_to:K.lookup f_answers_to=some ⟨oc_answers_to,od_answers_to,.func (PySem.W.fnOf "answers_to" "answers_to" (defArgs s_answers_to) (defBody s_answers_to) (defScope s_answers_to) .none kV_answers_to dc_answers_to pm_answers_to an_answers_to cd_answers_to ct_answers_to),sl_answers_to⟩) (c_answers_to:PySem.W.codeIn K cd_answers_to "answers_to"=true) (k_answers_to:PySem.W.keepIn K (.ref f_answers_to)=true)
    (a__law_refused:PySem.W.nsIn K mainGlobals "_law_refused"=some (some (.ref f__law_refused))) (l__law_refused:K.lookup f__law_refused=some ⟨oc__law_refused,od__law_refused,.func (PySem.W.fnOf "_law_refused" "_law_refused" (defArgs s__law_refused) (defBody s__law_refused) (defScope s__law_refused) .none kV__law_refused dc__law_refused pm__law_refused an__law_refused cd__law_refused ct__law_refused),sl__law_refused⟩) (c__law_refused:PySem.W.codeIn K cd__law_refused "_law_refused"=true) (k__law_refused:PySem.W.keepIn K (.ref f__law_refused)=true)
    (a__law_odd:PySem.W.nsIn K mainGlobals "_law_odd"=some (some (.ref f__law_odd))) (l__law_odd:K.lookup f__law_odd=some ⟨oc__law_odd,od__law_odd,.func (PySem.W.fnOf "_law_odd" "_law_odd" (defArgs s__law_odd) (defBody s__law_odd) (defScope s__law_odd) .none kV__law_odd dc__law_odd pm__law_odd an__law_odd cd__law_odd ct__law_odd),sl__law_odd⟩) (c__law_odd:PySem.W.codeIn K cd__law_odd "_law_odd"=true) (k__law_odd:PySem.W.keepIn K (.ref f__law_odd)=true)
    (a_law:PySem.W.nsIn K mainGlobals "law"=some (some (.ref f_law))) (l_law:K.lookup f_law=some ⟨oc_law,od_law,.func (PySem.W.fnOf "law" "law" (defArgs s_law) (defBody s_law) (defScope s_law) .none kV_law dc_law pm_law an_law cd_law ct_law),sl_law⟩) (c_law:PySem.W.codeIn K cd_law "law"=true) (k_law:PySem.W.keepIn K (.ref f_law)=true)
    {t_FEWEST_PITS:Tok} (a_FEWEST_PITS:PySem.W.nsIn K mainGlobals "FEWEST_PITS"=some (some (.int 2 t_FEWEST_PITS)))
    {t_FIGURES:Tok} (a_FIGURES:PySem.W.nsIn K mainGlobals "FIGURES"=some (some (.str "0123456789" t_FIGURES)))
    {t_MOST_FIGURES:Tok} (a_MOST_FIGURES:PySem.W.nsIn K mainGlobals "MOST_FIGURES"=some (some (.int 61 t_MOST_FIGURES)))
    {t_MOST_PITS:Tok} (a_MOST_PITS:PySem.W.nsIn K mainGlobals "MOST_PITS"=some (some (.int 24 t_MOST_PITS)))
    (z_ValueError:PySem.W.nsIn K mainGlobals "ValueError"=some none)
    (z_all:PySem.W.nsIn K mainGlobals "all"=some none)
    (z_bool:PySem.W.nsIn K mainGlobals "bool"=some none)
    (z_int:PySem.W.nsIn K mainGlobals "int"=some none)
    (z_isinstance:PySem.W.nsIn K mainGlobals "isinstance"=some none)
    (z_len:PySem.W.nsIn K mainGlobals "len"=some none)
    (z_list:PySem.W.nsIn K mainGlobals "list"=some none)
    (z_range:PySem.W.nsIn K mainGlobals "range"=some none)
    (z_str:PySem.W.nsIn K mainGlobals "str"=some none)
    (z_sum:PySem.W.nsIn K mainGlobals "sum"=some none)
    (x_tab:xTab K XN XS=true)
    {C_SowError fm_SowError:Addr} {odm_SowError anm_SowError:Option Addr} {slm_SowError:Array (Option Value)} {ocm_SowError kVm_SowError dcm_SowError pmm_SowError cdm_SowError ctm_SowError:Value}
    (am_SowError:PySem.W.nsIn K mainGlobals "SowError"=some (some (.ref C_SowError))) (fm1_SowError:PySem.W.findIn K (.ref C_SowError) "called"=some (some (.ref fm_SowError))) (tm_SowError:PySem.W.typeIn K (.ref fm_SowError)=some (.type "function")) (lm_SowError:K.lookup fm_SowError=some ⟨ocm_SowError,odm_SowError,.func (PySem.W.fnOf "called" "SowError.called" (defArgs sm_SowError) (defBody sm_SowError) (defScope sm_SowError) .none kVm_SowError dcm_SowError pmm_SowError anm_SowError cdm_SowError ctm_SowError),slm_SowError⟩) (cm_SowError:PySem.W.codeIn K cdm_SowError "SowError.called"=true) (km_SowError:PySem.W.keepIn K (.ref fm_SowError)=true)
    {C_BadBoard fm_BadBoard:Addr} {odm_BadBoard anm_BadBoard:Option Addr} {slm_BadBoard:Array (Option Value)} {ocm_BadBoard kVm_BadBoard dcm_BadBoard pmm_BadBoard cdm_BadBoard ctm_BadBoard:Value}
    (am_BadBoard:PySem.W.nsIn K mainGlobals "BadBoard"=some (some (.ref C_BadBoard))) (fm1_BadBoard:PySem.W.findIn K (.ref C_BadBoard) "called"=some (some (.ref fm_BadBoard))) (tm_BadBoard:PySem.W.typeIn K (.ref fm_BadBoard)=some (.type "function")) (lm_BadBoard:K.lookup fm_BadBoard=some ⟨ocm_BadBoard,odm_BadBoard,.func (PySem.W.fnOf "called" "BadBoard.called" (defArgs sm_BadBoard) (defBody sm_BadBoard) (defScope sm_BadBoard) .none kVm_BadBoard dcm_BadBoard pmm_BadBoard anm_BadBoard cdm_BadBoard ctm_BadBoard),slm_BadBoard⟩) (cm_BadBoard:PySem.W.codeIn K cdm_BadBoard "BadBoard.called"=true) (km_BadBoard:PySem.W.keepIn K (.ref fm_BadBoard)=true)
    {C_BadPit fm_BadPit:Addr} {odm_BadPit anm_BadPit:Option Addr} {slm_BadPit:Array (Option Value)} {ocm_BadPit kVm_BadPit dcm_BadPit pmm_BadPit cdm_BadPit ctm_BadPit:Value}
    (am_BadPit:PySem.W.nsIn K mainGlobals "BadPit"=some (some (.ref C_BadPit))) (fm1_BadPit:PySem.W.findIn K (.ref C_BadPit) "called"=some (some (.ref fm_BadPit))) (tm_BadPit:PySem.W.typeIn K (.ref fm_BadPit)=some (.type "function")) (lm_BadPit:K.lookup fm_BadPit=some ⟨ocm_BadPit,odm_BadPit,.func (PySem.W.fnOf "called" "BadPit.called" (defArgs sm_BadPit) (defBody sm_BadPit) (defScope sm_BadPit) .none kVm_BadPit dcm_BadPit pmm_BadPit anm_BadPit cdm_BadPit ctm_BadPit),slm_BadPit⟩) (cm_BadPit:PySem.W.codeIn K cdm_BadPit "BadPit.called"=true) (km_BadPit:PySem.W.keepIn K (.ref fm_BadPit)=true)
    {C_BadPits fm_BadPits:Addr} {odm_BadPits anm_BadPits:Option Addr} {slm_BadPits:Array (Option Value)} {ocm_BadPits kVm_BadPits dcm_BadPits pmm_BadPits cdm_BadPits ctm_BadPits:Value}
    (am_BadPits:PySem.W.nsIn K mainGlobals "BadPits"=some (some (.ref C_BadPits))) (fm1_BadPits:PySem.W.findIn K (.ref C_BadPits) "called"=some (some (.ref fm_BadPits))) (tm_BadPits:PySem.W.typeIn K (.ref fm_BadPits)=some (.type "function")) (lm_BadPits:K.lookup fm_BadPits=some ⟨ocm_BadPits,odm_BadPits,.func (PySem.W.fnOf "called" "BadPits.called" (defArgs sm_BadPits) (defBody sm_BadPits) (defScope sm_BadPits) .none kVm_BadPits dcm_BadPits pmm_BadPits anm_BadPits cdm_BadPits ctm_BadPits),slm_BadPits⟩) (cm_BadPits:PySem.W.codeIn K cdm_BadPits "BadPits.called"=true) (km_BadPits:PySem.W.keepIn K (.ref fm_BadPits)=true)
    {C_BadCount fm_BadCount:Addr} {odm_BadCount anm_BadCount:Option Addr} {slm_BadCount:Array (Option Value)} {ocm_BadCount kVm_BadCount dcm_BadCount pmm_BadCount cdm_BadCount ctm_BadCount:Value}
    (am_BadCount:PySem.W.nsIn K mainGlobals "BadCount"=some (some (.ref C_BadCount))) (fm1_BadCount:PySem.W.findIn K (.ref C_BadCount) "called"=some (some (.ref fm_BadCount))) (tm_BadCount:PySem.W.typeIn K (.ref fm_BadCount)=some (.type "function")) (lm_BadCount:K.lookup fm_BadCount=some ⟨ocm_BadCount,odm_BadCount,.func (PySem.W.fnOf "called" "BadCount.called" (defArgs sm_BadCount) (defBody sm_BadCount) (defScope sm_BadCount) .none kVm_BadCount dcm_BadCount pmm_BadCount anm_BadCount cdm_BadCount ctm_BadCount),slm_BadCount⟩) (cm_BadCount:PySem.W.codeIn K cdm_BadCount "BadCount.called"=true) (km_BadCount:PySem.W.keepIn K (.ref fm_BadCount)=true)
    {C_NoSeeds fm_NoSeeds:Addr} {odm_NoSeeds anm_NoSeeds:Option Addr} {slm_NoSeeds:Array (Option Value)} {ocm_NoSeeds kVm_NoSeeds dcm_NoSeeds pmm_NoSeeds cdm_NoSeeds ctm_NoSeeds:Value}
    (am_NoSeeds:PySem.W.nsIn K mainGlobals "NoSeeds"=some (some (.ref C_NoSeeds))) (fm1_NoSeeds:PySem.W.findIn K (.ref C_NoSeeds) "called"=some (some (.ref fm_NoSeeds))) (tm_NoSeeds:PySem.W.typeIn K (.ref fm_NoSeeds)=some (.type "function")) (lm_NoSeeds:K.lookup fm_NoSeeds=some ⟨ocm_NoSeeds,odm_NoSeeds,.func (PySem.W.fnOf "called" "NoSeeds.called" (defArgs sm_NoSeeds) (defBody sm_NoSeeds) (defScope sm_NoSeeds) .none kVm_NoSeeds dcm_NoSeeds pmm_NoSeeds anm_NoSeeds cdm_NoSeeds ctm_NoSeeds),slm_NoSeeds⟩) (cm_NoSeeds:PySem.W.codeIn K cdm_NoSeeds "NoSeeds.called"=true) (km_NoSeeds:PySem.W.keepIn K (.ref fm_NoSeeds)=true)
    {C_Unlike fm_Unlike:Addr} {odm_Unlike anm_Unlike:Option Addr} {slm_Unlike:Array (Option Value)} {ocm_Unlike kVm_Unlike dcm_Unlike pmm_Unlike cdm_Unlike ctm_Unlike:Value}
    (am_Unlike:PySem.W.nsIn K mainGlobals "Unlike"=some (some (.ref C_Unlike))) (fm1_Unlike:PySem.W.findIn K (.ref C_Unlike) "called"=some (some (.ref fm_Unlike))) (tm_Unlike:PySem.W.typeIn K (.ref fm_Unlike)=some (.type "function")) (lm_Unlike:K.lookup fm_Unlike=some ⟨ocm_Unlike,odm_Unlike,.func (PySem.W.fnOf "called" "Unlike.called" (defArgs sm_Unlike) (defBody sm_Unlike) (defScope sm_Unlike) .none kVm_Unlike dcm_Unlike pmm_Unlike anm_Unlike cdm_Unlike ctm_Unlike),slm_Unlike⟩) (cm_Unlike:PySem.W.codeIn K cdm_Unlike "Unlike.called"=true) (km_Unlike:PySem.W.keepIn K (.ref fm_Unlike)=true)
    {C_TooLong fm_TooLong:Addr} {odm_TooLong anm_TooLong:Option Addr} {slm_TooLong:Array (Option Value)} {ocm_TooLong kVm_TooLong dcm_TooLong pmm_TooLong cdm_TooLong ctm_TooLong:Value}
    (am_TooLong:PySem.W.nsIn K mainGlobals "TooLong"=some (some (.ref C_TooLong))) (fm1_TooLong:PySem.W.findIn K (.ref C_TooLong) "called"=some (some (.ref fm_TooLong))) (tm_TooLong:PySem.W.typeIn K (.ref fm_TooLong)=some (.type "function")) (lm_TooLong:K.lookup fm_TooLong=some ⟨ocm_TooLong,odm_TooLong,.func (PySem.W.fnOf "called" "TooLong.called" (defArgs sm_TooLong) (defBody sm_TooLong) (defScope sm_TooLong) .none kVm_TooLong dcm_TooLong pmm_TooLong anm_TooLong cdm_TooLong ctm_TooLong),slm_TooLong⟩) (cm_TooLong:PySem.W.codeIn K cdm_TooLong "TooLong.called"=true) (km_TooLong:PySem.W.keepIn K (.ref fm_TooLong)=true)
    {C_TooMany fm_TooMany:Addr} {odm_TooMany anm_TooMany:Option Addr} {slm_TooMany:Array (Option Value)} {ocm_TooMany kVm_TooMany dcm_TooMany pmm_TooMany cdm_TooMany ctm_TooMany:Value}
    (am_TooMany:PySem.W.nsIn K mainGlobals "TooMany"=some (some (.ref C_TooMany))) (fm1_TooMany:PySem.W.findIn K (.ref C_TooMany) "called"=some (some (.ref fm_TooMany))) (tm_TooMany:PySem.W.typeIn K (.ref fm_TooMany)=some (.type "function")) (lm_TooMany:K.lookup fm_TooMany=some ⟨ocm_TooMany,odm_TooMany,.func (PySem.W.fnOf "called" "TooMany.called" (defArgs sm_TooMany) (defBody sm_TooMany) (defScope sm_TooMany) .none kVm_TooMany dcm_TooMany pmm_TooMany anm_TooMany cdm_TooMany ctm_TooMany),slm_TooMany⟩) (cm_TooMany:PySem.W.codeIn K cdm_TooMany "TooMany.called"=true) (km_TooMany:PySem.W.keepIn K (.ref fm_TooMany)=true)
    {C_BadLine fm_BadLine:Addr} {odm_BadLine anm_BadLine:Option Addr} {slm_BadLine:Array (Option Value)} {ocm_BadLine kVm_BadLine dcm_BadLine pmm_BadLine cdm_BadLine ctm_BadLine:Value}
    (am_BadLine:PySem.W.nsIn K mainGlobals "BadLine"=some (some (.ref C_BadLine))) (fm1_BadLine:PySem.W.findIn K (.ref C_BadLine) "called"=some (some (.ref fm_BadLine))) (tm_BadLine:PySem.W.typeIn K (.ref fm_BadLine)=some (.type "function")) (lm_BadLine:K.lookup fm_BadLine=some ⟨ocm_BadLine,odm_BadLine,.func (PySem.W.fnOf "called" "BadLine.called" (defArgs sm_BadLine) (defBody sm_BadLine) (defScope sm_BadLine) .none kVm_BadLine dcm_BadLine pmm_BadLine anm_BadLine cdm_BadLine ctm_BadLine),slm_BadLine⟩) (cm_BadLine:PySem.W.codeIn K cdm_BadLine "BadLine.called"=true) (km_BadLine:PySem.W.keepIn K (.ref fm_BadLine)=true)
    {C_BadYard fm_BadYard:Addr} {odm_BadYard anm_BadYard:Option Addr} {slm_BadYard:Array (Option Value)} {ocm_BadYard kVm_BadYard dcm_BadYard pmm_BadYard cdm_BadYard ctm_BadYard:Value}
    (am_BadYard:PySem.W.nsIn K mainGlobals "BadYard"=some (some (.ref C_BadYard))) (fm1_BadYard:PySem.W.findIn K (.ref C_BadYard) "called"=some (some (.ref fm_BadYard))) (tm_BadYard:PySem.W.typeIn K (.ref fm_BadYard)=some (.type "function")) (lm_BadYard:K.lookup fm_BadYard=some ⟨ocm_BadYard,odm_BadYard,.func (PySem.W.fnOf "called" "BadYard.called" (defArgs sm_BadYard) (defBody sm_BadYard) (defScope sm_BadYard) .none kVm_BadYard dcm_BadYard pmm_BadYard anm_BadYard cdm_BadYard ctm_BadYard),slm_BadYard⟩) (cm_BadYard:PySem.W.codeIn K cdm_BadYard "BadYard.called"=true) (km_BadYard:PySem.W.keepIn K (.ref fm_BadYard)=true)
    {C_BadText fm_BadText:Addr} {odm_BadText anm_BadText:Option Addr} {slm_BadText:Array (Option Value)} {ocm_BadText kVm_BadText dcm_BadText pmm_BadText cdm_BadText ctm_BadText:Value}
    (am_BadText:PySem.W.nsIn K mainGlobals "BadText"=some (some (.ref C_BadText))) (fm1_BadText:PySem.W.findIn K (.ref C_BadText) "called"=some (some (.ref fm_BadText))) (tm_BadText:PySem.W.typeIn K (.ref fm_BadText)=some (.type "function")) (lm_BadText:K.lookup fm_BadText=some ⟨ocm_BadText,odm_BadText,.func (PySem.W.fnOf "called" "BadText.called" (defArgs sm_BadText) (defBody sm_BadText) (defScope sm_BadText) .none kVm_BadText dcm_BadText pmm_BadText anm_BadText cdm_BadText ctm_BadText),slm_BadText⟩) (cm_BadText:PySem.W.codeIn K cdm_BadText "BadText.called"=true) (km_BadText:PySem.W.keepIn K (.ref fm_BadText)=true)
   :Txt K mg:=by
  refine ⟨?_, ?_, ?_, ?_, ?_, ?_, ?_, ?_, ?_, ?_, ?_, ?_, ?_, ?_, ?_, ?_, ?_, ?_, ?_, ?_, ?_, ?_, ?_, ?_, ?_, ?_, ?_, ?_, ?_, ?_,x_tab,fun n C e=>PySem.W.mg_of X G e,⟨_,_,_,am_SowError,fm1_SowError,tm_SowError,fun_mk (st:=sm_SowError) lm_SowError cm_SowError km_SowError⟩,⟨_,_,_,am_BadBoard,fm1_BadBoard,tm_BadBoard,fun_mk (st:=sm_BadBoard) lm_BadBoard cm_BadBoard km_BadBoard⟩,⟨_,_,_,am_BadPit,fm1_BadPit,tm_BadPit,fun_mk (st:=sm_BadPit) lm_BadPit cm_BadPit km_BadPit⟩,⟨_,_,_,am_BadPits,fm1_BadPits,tm_BadPits,fun_mk (st:=sm_BadPits) lm_BadPits cm_BadPits km_BadPits⟩,⟨_,_,_,am_BadCount,fm1_BadCount,tm_BadCount,fun_mk (st:=sm_BadCount) lm_BadCount cm_BadCount km_BadCount⟩,⟨_,_,_,am_NoSeeds,fm1_NoSeeds,tm_NoSeeds,fun_mk (st:=sm_NoSeeds) lm_NoSeeds cm_NoSeeds km_NoSeeds⟩,⟨_,_,_,am_Unlike,fm1_Unlike,tm_Unlike,fun_mk (st:=sm_Unlike) lm_Unlike cm_Unlike km_Unlike⟩,⟨_,_,_,am_TooLong,fm1_TooLong,tm_TooLong,fun_mk (st:=sm_TooLong) lm_TooLong cm_TooLong km_TooLong⟩,⟨_,_,_,am_TooMany,fm1_TooMany,tm_TooMany,fun_mk (st:=sm_TooMany) lm_TooMany cm_TooMany km_TooMany⟩,⟨_,_,_,am_BadLine,fm1_BadLine,tm_BadLine,fun_mk (st:=sm_BadLine) lm_BadLine cm_BadLine km_BadLine⟩,⟨_,_,_,am_BadYard,fm1_BadYard,tm_BadYard,fun_mk (st:=sm_BadYard) lm_BadYard cm_BadYard km_BadYard⟩,⟨_,_,_,am_BadText,fm1_BadText,tm_BadText,fun_mk (st:=sm_BadText) lm_BadText cm_BadText km_BadText⟩⟩
  · exact ⟨_,_,fun_mk (st:=s__law_at) l__law_at c__law_at k__law_at,PySem.W.mg_of X G a__law_at⟩
  · exact ⟨_,_,fun_mk (st:=s__law_folded) l__law_folded c__law_folded k__law_folded,PySem.W.mg_of X G a__law_folded⟩
  · exact ⟨_,_,fun_mk (st:=s__law_board) l__law_board c__law_board k__law_board,PySem.W.mg_of X G a__law_board⟩
  · exact ⟨_,_,fun_mk (st:=s_is_whole) l_is_whole c_is_whole k_is_whole,PySem.W.mg_of X G a_is_whole⟩
  · exact ⟨_,_,fun_mk (st:=s_is_whole_from) l_is_whole_from c_is_whole_from k_is_whole_from,PySem.W.mg_of X G a_is_whole_from⟩
  · exact ⟨_,_,fun_mk (st:=s_is_list_from_nought) l_is_list_from_nought c_is_list_from_nought k_is_list_from_nought,PySem.W.mg_of X G a_is_list_from_nought⟩
  · exact ⟨_,_,fun_mk (st:=s_most_seeds) l_most_seeds c_most_seeds k_most_seeds,PySem.W.mg_of X G a_most_seeds⟩
  · exact ⟨_,_,fun_mk (st:=s_is_board) l_is_board c_is_board k_is_board,PySem.W.mg_of X G a_is_board⟩
  · exact ⟨_,_,fun_mk (st:=s_check_board) l_check_board c_check_board k_check_board,PySem.W.mg_of X G a_check_board⟩
  · exact ⟨_,_,fun_mk (st:=s_number_or_too_many) l_number_or_too_many c_number_or_too_many k_number_or_too_many,PySem.W.mg_of X G a_number_or_too_many⟩
  · exact ⟨_,_,fun_mk (st:=s_is_number) l_is_number c_is_number k_is_number,PySem.W.mg_of X G a_is_number⟩
  · exact ⟨_,_,fun_mk (st:=s_read_board) l_read_board c_read_board k_read_board,PySem.W.mg_of X G a_read_board⟩
  · exact ⟨_,_,fun_mk (st:=s_answers_to) l_answers_to c_answers_to k_answers_to,PySem.W.mg_of X G a_answers_to⟩
  · exact ⟨_,_,fun_mk (st:=s__law_refused) l__law_refused c__law_refused k__law_refused,PySem.W.mg_of X G a__law_refused⟩
  · exact ⟨_,_,fun_mk (st:=s__law_odd) l__law_odd c__law_odd k__law_odd,PySem.W.mg_of X G a__law_odd⟩
  · exact ⟨_,_,fun_mk (st:=s_law) l_law c_law k_law,PySem.W.mg_of X G a_law⟩
  · exact ⟨_,PySem.W.mg_of X G a_FEWEST_PITS⟩
  · exact ⟨_,PySem.W.mg_of X G a_FIGURES⟩
  · exact ⟨_,PySem.W.mg_of X G a_MOST_FIGURES⟩
  · exact ⟨_,PySem.W.mg_of X G a_MOST_PITS⟩
  · exact PySem.W.mg_none_of X G z_ValueError
  · exact PySem.W.mg_none_of X G z_all
  · exact PySem.W.mg_none_of X G z_bool
  · exact PySem.W.mg_none_of X G z_int
  · exact PySem.W.mg_none_of X G z_isinstance
  · exact PySem.W.mg_none_of X G z_len
  · exact PySem.W.mg_none_of X G z_list
  · exact PySem.W.mg_none_of X G z_range
  · exact PySem.W.mg_none_of X G z_str
  · exact PySem.W.mg_none_of X G z_sum
end My
namespace PySem.W.Fast
noncomputable def tw3340865406150677536 := ()
noncomputable def tw2276247173569966112 := ()
noncomputable def tw12668117916053958688 := ()
noncomputable def tw6270883743919945792 := ()
noncomputable def tw4195041749342043200 := ()
noncomputable def tw5230871008444574784 := ()
noncomputable def tw18024632788191282272 := ()
noncomputable def tw15525484634198370496 := ()
noncomputable def tw4626680601512589568 := ()
noncomputable def tw5437815836966686048 := ()
noncomputable def tw8883125206472439136 := ()
noncomputable def tw9676943684746765696 := ()
noncomputable def tw7919473011507042784 := ()
noncomputable def tw8759637473521211968 := ()
noncomputable def tw3096280490049701472 := ()
noncomputable def tw17522910462271597184 := ()
noncomputable def tw13830010729850711680 := ()
noncomputable def tw9519508594892469952 := ()
noncomputable def tw2242073336181333728 := ()
noncomputable def tw17600157955165178592 := ()
noncomputable def tw14085119899264614144 := ()
noncomputable def tw6532057409570527040 := ()
noncomputable def tw10945155295312695232 := ()
noncomputable def tw8010182522706599937 := ()
noncomputable def tw2493527213414527041 := ()
noncomputable def tw15334018522928110689 := ()
noncomputable def tw16124969823786518689 := ()
noncomputable def tw345190504467707169 := ()
noncomputable def tw16013881700473005345 := ()
noncomputable def tw6766928292698155297 := ()
noncomputable def tw17046341641899004257 := ()
noncomputable def tw5642996941272650113 := ()
noncomputable def tw17346096124674042273 := ()
noncomputable def tw1721495169936960961 := ()
noncomputable def tw84380711365994945 := ()
noncomputable def tw4757255490093345313 := ()
noncomputable def tw12487050785546384929 := ()
noncomputable def tw8952435280252124737 := ()
noncomputable def tw1460061517454212769 := ()
noncomputable def tw13801493053272631137 := ()
noncomputable def tw15087012800536347585 := ()
noncomputable def tw8725275187537998817 := ()
noncomputable def tw17113690036458803234 := ()
noncomputable def tw8252260777634783266 := ()
noncomputable def tw7730728802780322882 := ()
noncomputable def tw11836165029989134402 := ()
noncomputable def tw15839772092085976194 := ()
noncomputable def tw772731816539837602 := ()
noncomputable def tw1319050545703481506 := ()
noncomputable def tw14607369684703954114 := ()
noncomputable def tw6297530240534260930 := ()
noncomputable def tw16054255628600879330 := ()
noncomputable def tw8040821963149437186 := ()
noncomputable def tw6761579486290181442 := ()
noncomputable def tw4990947678425083202 := ()
noncomputable def tw18374061993973520834 := ()
noncomputable def tw2105988507225430466 := ()
noncomputable def tw3257479035452001858 := ()
noncomputable def tw3860181977302479522 := ()
noncomputable def tw8807761181602625186 := ()
noncomputable def tw13911482853689311906 := ()
noncomputable def tw8119224329863821986 := ()
noncomputable def tw5578339448637529794 := ()
noncomputable def tw18187158984785114818 := ()
noncomputable def tw935582952151433922 := ()
noncomputable def tw16935765714446401250 := ()
noncomputable def tw10195768821463674594 := ()
noncomputable def tw15855550572856112866 := ()
noncomputable def tw11780565522528144130 := ()
noncomputable def tw4498498557760715554 := ()
noncomputable def tw3399575052001487971 := ()
noncomputable def tw7250034168373980259 := ()
noncomputable def tw8279533469909386403 := ()
noncomputable def tw8597501862207533219 := ()
noncomputable def tw4954587754065540259 := ()
noncomputable def tw16106475351772945571 := ()
noncomputable def tw4687299302111684835 := ()
noncomputable def tw7351056784860650755 := ()
noncomputable def tw3812059284960148803 := ()
noncomputable def tw7494584333327742435 := ()
noncomputable def tw5962326413937198563 := ()
noncomputable def tw4795183960433544739 := ()
noncomputable def tw4870816528612519491 := ()
noncomputable def tw17366540600868784771 := ()
noncomputable def tw17129914513853275779 := ()
noncomputable def tw17598193528715409027 := ()
noncomputable def tw13355326951871981219 := ()
noncomputable def tw6401898458548316835 := ()
noncomputable def tw17779327914557572803 := ()
noncomputable def tw169435135410179779 := ()
noncomputable def tw5905841148430995139 := ()
noncomputable def tw5130886417952926467 := ()
noncomputable def tw9834317853062762275 := ()
noncomputable def tw16905272709155421987 := ()
noncomputable def tw17872254579224182595 := ()
noncomputable def tw16728740514181350243 := ()
noncomputable def tw1856298774355977059 := ()
noncomputable def tw1645346623314639747 := ()
noncomputable def tw3106711916083432355 := ()
noncomputable def tw9126516294888836003 := ()
noncomputable def tw14132207888432690115 := ()
noncomputable def tw17091426611064538083 := ()
noncomputable def tw3466456020690942020 := ()
noncomputable def tw2021749581916886084 := ()
noncomputable def tw9157975650856097860 := ()
noncomputable def tw13297988294396195972 := ()
noncomputable def tw4628936328014650660 := ()
noncomputable def tw7195966326433005956 := ()
noncomputable def tw4893662733218616740 := ()
noncomputable def tw11567165871091529124 := ()
noncomputable def tw17814473822452861444 := ()
noncomputable def tw4059862858660238916 := ()
noncomputable def tw12212643264112012868 := ()
noncomputable def tw1137162116311099108 := ()
noncomputable def tw6185435248597675844 := ()
noncomputable def tw4308930788130984804 := ()
noncomputable def tw2939121998234382180 := ()
noncomputable def tw7668641340008857508 := ()
noncomputable def tw3650655772022018020 := ()
noncomputable def tw458435168152283108 := ()
noncomputable def tw13378966259025614853 := ()
noncomputable def tw7409983353208608773 := ()
noncomputable def tw13716896900424941573 := ()
noncomputable def tw16833651304170751013 := ()
noncomputable def tw11708885309239135269 := ()
noncomputable def tw1664594465806478405 := ()
noncomputable def tw972252571765641381 := ()
noncomputable def tw10916534230216898757 := ()
noncomputable def tw4516194186882595077 := ()
noncomputable def tw11455857628945625349 := ()
noncomputable def tw15687949890615963941 := ()
noncomputable def tw836058252373852485 := ()
noncomputable def tw5641766545878556997 := ()
noncomputable def tw9359688730301548901 := ()
noncomputable def tw2709879071655955877 := ()
noncomputable def tw3688080571382140389 := ()
noncomputable def tw5490032537605937637 := ()
noncomputable def tw7077444273110958565 := ()
noncomputable def tw2378491549433835013 := ()
noncomputable def tw17707222346118615557 := ()
noncomputable def tw17270847670837543461 := ()
noncomputable def tw4751846179372308005 := ()
noncomputable def tw15486188033026859557 := ()
noncomputable def tw1385666626680245829 := ()
noncomputable def tw7698176604521866821 := ()
noncomputable def tw14409717382101003877 := ()
noncomputable def tw9057005791357745797 := ()
noncomputable def tw1946710800938019461 := ()
noncomputable def tw17626903072276388517 := ()
noncomputable def tw15944064152353126053 := ()
noncomputable def tw2822033805366916805 := ()
noncomputable def tw1614439808077130437 := ()
noncomputable def tw11505155505437427429 := ()
noncomputable def tw9943192234670795525 := ()
noncomputable def tw11821413655600036645 := ()
noncomputable def tw7404494736946116421 := ()
noncomputable def tw10547676266553065349 := ()
noncomputable def tw15825369950276679557 := ()
noncomputable def tw587072373708540837 := ()
noncomputable def tw14512847161654048709 := ()
noncomputable def tw17430432370348937222 := ()
noncomputable def tw9827180678064203846 := ()
noncomputable def tw12780045861714782310 := ()
noncomputable def tw3767291846688527462 := ()
noncomputable def tw3069359400768260230 := ()
noncomputable def tw4752063816393745542 := ()
noncomputable def tw13830260905639077030 := ()
noncomputable def tw17823761712379268294 := ()
noncomputable def tw13280699534964703462 := ()
noncomputable def tw15298936227929226470 := ()
noncomputable def tw7042008833963062534 := ()
noncomputable def tw8570667880438475078 := ()
noncomputable def tw4903711877146498438 := ()
noncomputable def tw15615698644310536614 := ()
noncomputable def tw13859491813685474758 := ()
noncomputable def tw11550195436779097606 := ()
noncomputable def tw1315256213679451686 := ()
noncomputable def tw15280890937987260006 := ()
noncomputable def tw3450917088625492774 := ()
noncomputable def tw5071237515202028390 := ()
noncomputable def tw13921186492680199046 := ()
noncomputable def tw1806782866475880358 := ()
noncomputable def tw7308575632965982118 := ()
noncomputable def tw11027833366217516966 := ()
noncomputable def tw16689788907753967590 := ()
noncomputable def tw14654594719823034407 := ()
noncomputable def tw14879060283300023431 := ()
noncomputable def tw12924475107319289991 := ()
noncomputable def tw16327225161975000231 := ()
noncomputable def tw2647677564040640775 := ()
noncomputable def tw9556655506789198183 := ()
noncomputable def tw16770269518744672647 := ()
noncomputable def tw7526811333030859175 := ()
noncomputable def tw14193340375601219015 := ()
noncomputable def tw10140751377924266471 := ()
noncomputable def tw13214617807501406727 := ()
noncomputable def tw3738354143029211687 := ()
noncomputable def tw16176916221527152167 := ()
noncomputable def tw16385166719325446727 := ()
noncomputable def tw1789497681280235175 := ()
noncomputable def tw18171290539790842599 := ()
noncomputable def tw16471750392698481383 := ()
noncomputable def tw13630174956057416455 := ()
noncomputable def tw17972744195919556391 := ()
noncomputable def tw18188237084625735 := ()
noncomputable def tw10299223266681980743 := ()
noncomputable def tw7347193114697149287 := ()
noncomputable def tw13856884968624584551 := ()
noncomputable def tw8059944926738982791 := ()
noncomputable def tw12877791293220109191 := ()
noncomputable def tw12933621796307503079 := ()
noncomputable def tw13826292600786978791 := ()
noncomputable def tw11310764316924546023 := ()
noncomputable def tw9722182014208675976 := ()
noncomputable def tw3614421549785784488 := ()
noncomputable def tw8062398770876177576 := ()
noncomputable def tw11073507754239548584 := ()
noncomputable def tw8034753350434994376 := ()
noncomputable def tw762404477468728552 := ()
noncomputable def tw9189339683895574760 := ()
noncomputable def tw13732465378875558312 := ()
noncomputable def tw15409325241705991624 := ()
noncomputable def tw17278044631635762696 := ()
noncomputable def tw17100558705669627560 := ()
noncomputable def tw331330255537925864 := ()
noncomputable def tw13644567909427869512 := ()
noncomputable def tw2572216663621867400 := ()
noncomputable def tw4392854198454886280 := ()
noncomputable def tw1060531625952188328 := ()
noncomputable def tw8679603964674181096 := ()
noncomputable def tw10505768327258711177 := ()
noncomputable def tw1146029028990659785 := ()
noncomputable def tw9258910864983504137 := ()
noncomputable def tw14138562573809260873 := ()
noncomputable def tw941125679859152297 := ()
noncomputable def tw3801285736376396201 := ()
noncomputable def tw472287904137235945 := ()
noncomputable def tw16005331375721298409 := ()
noncomputable def tw4313111865134107369 := ()
noncomputable def tw12218203353597121321 := ()
noncomputable def tw7542415078153375529 := ()
noncomputable def tw12921995679575778153 := ()
noncomputable def tw12496769068625510313 := ()
noncomputable def tw10798234611021928361 := ()
noncomputable def tw9570866560802889738 := ()
noncomputable def tw16687815916752525322 := ()
noncomputable def tw3974461369789674506 := ()
noncomputable def tw3305288311371117674 := ()
noncomputable def tw641395483546676426 := ()
noncomputable def tw13724902259394352362 := ()
noncomputable def tw8334365579134729450 := ()
noncomputable def tw284858844628926858 := ()
noncomputable def tw16465145124212000138 := ()
noncomputable def tw17183063044889175466 := ()
noncomputable def tw9536601474195657130 := ()
noncomputable def tw9140321197806135754 := ()
noncomputable def tw17374747317544214986 := ()
noncomputable def tw9442021261438122506 := ()
noncomputable def tw16943525195853555242 := ()
noncomputable def tw4262323270493241994 := ()
noncomputable def tw10853845817462814378 := ()
noncomputable def tw13740626916316002986 := ()
noncomputable def tw7288028177163745962 := ()
noncomputable def tw5760055581013593834 := ()
noncomputable def tw18164336951449344746 := ()
noncomputable def tw10770110533417357066 := ()
noncomputable def tw17256112835077671722 := ()
noncomputable def tw8953271438290813802 := ()
noncomputable def tw3429000772637730666 := ()
noncomputable def tw3415178082327902058 := ()
noncomputable def tw14567267002436924330 := ()
noncomputable def tw8528033785519576010 := ()
noncomputable def tw14410630066811075562 := ()
noncomputable def tw553854318188078155 := ()
noncomputable def tw9379924035788203147 := ()
noncomputable def tw12651129655247420619 := ()
noncomputable def tw2482782334751894731 := ()
noncomputable def tw13661642813986247915 := ()
noncomputable def tw14870053122054595819 := ()
noncomputable def tw327483420157617451 := ()
noncomputable def tw3057807753716255115 := ()
noncomputable def tw10818504140990294443 := ()
noncomputable def tw4958866523632525803 := ()
noncomputable def tw5235157217293755915 := ()
noncomputable def tw17520314620653557451 := ()
noncomputable def tw139123802603551499 := ()
noncomputable def tw7905437446351163275 := ()
noncomputable def tw14478285085440039819 := ()
noncomputable def tw4227347790313156491 := ()
noncomputable def tw6951271460864095147 := ()
noncomputable def tw10853461439900969899 := ()
noncomputable def tw12127580773087858603 := ()
noncomputable def tw6315215711089953771 := ()
noncomputable def tw12291641515758200811 := ()
noncomputable def tw15012319470679880683 := ()
noncomputable def tw8051258872396374092 := ()
noncomputable def tw17723760574209955948 := ()
noncomputable def tw5831683753271382188 := ()
noncomputable def tw3956029940688438508 := ()
noncomputable def tw9955474042365619468 := ()
noncomputable def tw13454335274685259084 := ()
noncomputable def tw498631772005783948 := ()
noncomputable def tw267172793380177356 := ()
noncomputable def tw4700489703898467820 := ()
noncomputable def tw6371798940573174316 := ()
noncomputable def tw11660057094416613932 := ()
noncomputable def tw4125731473570763340 := ()
noncomputable def tw5578181142528551724 := ()
noncomputable def tw14203711927183448940 := ()
noncomputable def tw8692583740150915980 := ()
noncomputable def tw3473076259030590380 := ()
noncomputable def tw4482712800882817037 := ()
noncomputable def tw10444428924130421837 := ()
noncomputable def tw17721154099426559085 := ()
noncomputable def tw1538657797084050573 := ()
noncomputable def tw15864670506300952781 := ()
noncomputable def tw4564676298438086893 := ()
noncomputable def tw8946847190614053133 := ()
noncomputable def tw15635006933413284109 := ()
noncomputable def tw12415201519168935213 := ()
noncomputable def tw12838659428813150605 := ()
noncomputable def tw16584187513003431469 := ()
noncomputable def tw15402310234185036365 := ()
noncomputable def tw2518640359772493421 := ()
noncomputable def tw6232074275746414221 := ()
noncomputable def tw5195944109869293261 := ()
noncomputable def tw10774575698152547021 := ()
noncomputable def tw14312045004960772877 := ()
noncomputable def tw8936650644273508237 := ()
noncomputable def tw12902024826484951981 := ()
noncomputable def tw2967926386312968109 := ()
noncomputable def tw9773003089946094573 := ()
noncomputable def tw7371938236281473038 := ()
noncomputable def tw9034758442218605646 := ()
noncomputable def tw2504732123015706734 := ()
noncomputable def tw16699099582919844046 := ()
noncomputable def tw17358893512237697358 := ()
noncomputable def tw7441486829019069774 := ()
noncomputable def tw15164450446931036526 := ()
noncomputable def tw11895251526361844078 := ()
noncomputable def tw13697535270926853550 := ()
noncomputable def tw8529750323736166926 := ()
noncomputable def tw16935567534921545262 := ()
noncomputable def tw10270379385320322670 := ()
noncomputable def tw852304082248329870 := ()
noncomputable def tw582965745697188558 := ()
noncomputable def tw11567814692434864878 := ()
noncomputable def tw17932714804250746670 := ()
noncomputable def tw514479066293951310 := ()
noncomputable def tw8613995946206292814 := ()
noncomputable def tw11195646172233404270 := ()
noncomputable def tw2540014218038826862 := ()
noncomputable def tw8080177908798364654 := ()
noncomputable def tw5453200385871183983 := ()
noncomputable def tw14743619468356607119 := ()
noncomputable def tw1301623421163422927 := ()
noncomputable def tw11207587770365156559 := ()
noncomputable def tw17109663163756652847 := ()
noncomputable def tw11043926309923781999 := ()
noncomputable def tw17597296799818406255 := ()
noncomputable def tw6474612374470889903 := ()
noncomputable def tw1308781530025867695 := ()
noncomputable def tw4082663603135145391 := ()
noncomputable def tw6235038334364244463 := ()
noncomputable def tw9676521279448540655 := ()
noncomputable def tw14469716998104996367 := ()
noncomputable def tw5226394926334619183 := ()
noncomputable def tw8043939351149380175 := ()
noncomputable def tw2973673925504204367 := ()
noncomputable def tw1887967694453365359 := ()
noncomputable def tw9056880179457848943 := ()
noncomputable def tw13209500362681027215 := ()
noncomputable def tw11416782222297422479 := ()
noncomputable def tw6269818751140831983 := ()
noncomputable def tw16157585392563151599 := ()
noncomputable def tw8630821337470786319 := ()
noncomputable def tw3254615540021523407 := ()
noncomputable def tw2457417676394604495 := ()
noncomputable def tw8748657215307092048 := ()
noncomputable def tw14455266254300724304 := ()
noncomputable def tw1916141194569061488 := ()
noncomputable def tw15162764534346250352 := ()
noncomputable def tw11405989825746702480 := ()
noncomputable def tw4077292883494513808 := ()
noncomputable def tw10835876896416939152 := ()
noncomputable def tw9445681104602713232 := ()
noncomputable def tw5754791638503181456 := ()
noncomputable def tw1766349123013239984 := ()
noncomputable def tw17830994416497331408 := ()
noncomputable def tw3744993919723006192 := ()
noncomputable def tw7600597848918223120 := ()
noncomputable def tw8747448235256773904 := ()
noncomputable def tw14952533891720645936 := ()
noncomputable def tw5438550449313435952 := ()
noncomputable def tw11957343083541842256 := ()
noncomputable def tw6663754203081840016 := ()
noncomputable def tw763254034605530544 := ()
noncomputable def tw7321971162056705520 := ()
noncomputable def tw10090286026396667504 := ()
noncomputable def tw918753427148291696 := ()
noncomputable def tw14866784847196103376 := ()
noncomputable def tw11132403904261958384 := ()
noncomputable def tw13854912936927923984 := ()
noncomputable def tw15274874436171181872 := ()
noncomputable def tw1891603524891011888 := ()
noncomputable def tw6773243224308776752 := ()
noncomputable def tw4236269503937232720 := ()
noncomputable def tw13381832650573209424 := ()
noncomputable def tw1635712213452881808 := ()
noncomputable def tw11836036872957860784 := ()
noncomputable def tw11392271184966348720 := ()
noncomputable def tw6470309761645653968 := ()
noncomputable def tw6472540237328458704 := ()
noncomputable def tw7487743642143344624 := ()
noncomputable def tw5198213345502853137 := ()
noncomputable def tw9745395705345494225 := ()
noncomputable def tw3139268546377787633 := ()
noncomputable def tw4171174122812876113 := ()
noncomputable def tw13643404732008232305 := ()
noncomputable def tw10658999490006941169 := ()
noncomputable def tw7555876409227137553 := ()
noncomputable def tw17438692115686440497 := ()
noncomputable def tw16309187845823118897 := ()
noncomputable def tw10698702578612704849 := ()
noncomputable def tw13070787085131212369 := ()
noncomputable def tw4073587046969845393 := ()
noncomputable def tw16482555240948979345 := ()
noncomputable def tw6131743331943827121 := ()
noncomputable def tw3241932928039196433 := ()
noncomputable def tw11857542156245327633 := ()
noncomputable def tw4928957173945782065 := ()
noncomputable def tw219987392679670577 := ()
noncomputable def tw253373233551437681 := ()
noncomputable def tw4519217215580835761 := ()
noncomputable def tw12892854663103841233 := ()
noncomputable def tw13582453693511158737 := ()
noncomputable def tw12074125706410879953 := ()
noncomputable def tw7394917797339458674 := ()
noncomputable def tw16019736728843001106 := ()
noncomputable def tw12477606754072433938 := ()
noncomputable def tw7403034065354046770 := ()
noncomputable def tw5062832694737326386 := ()
noncomputable def tw3590991777430463794 := ()
noncomputable def tw1934341795727410514 := ()
noncomputable def tw5107966485408391506 := ()
noncomputable def tw16901930982665957714 := ()
noncomputable def tw13541267518695470450 := ()
noncomputable def tw17006319950277467570 := ()
noncomputable def tw8962528142974807506 := ()
noncomputable def tw15276452914913259026 := ()
noncomputable def tw3271564711032345106 := ()
noncomputable def tw11277019038443767410 := ()
noncomputable def tw12920153712458424946 := ()
noncomputable def tw11124492991091664498 := ()
noncomputable def tw2099264887968539282 := ()
noncomputable def tw14152202437926467250 := ()
noncomputable def tw10794970729503320850 := ()
noncomputable def tw7739762875338816306 := ()
noncomputable def tw7216893149310582610 := ()
noncomputable def tw2081441682814602098 := ()
noncomputable def tw14135200388819115922 := ()
noncomputable def tw1442152804701058002 := ()
noncomputable def tw13136906181284804562 := ()
noncomputable def tw5672841772522507283 := ()
noncomputable def tw1485676341655871507 := ()
noncomputable def tw15262327227779343379 := ()
noncomputable def tw9225642522317532211 := ()
noncomputable def tw1091074418451555411 := ()
noncomputable def tw4583055759638684819 := ()
noncomputable def tw903792911950611667 := ()
noncomputable def tw15957844075353102579 := ()
noncomputable def tw8248215287198782739 := ()
noncomputable def tw7157331466805998899 := ()
noncomputable def tw9487337308744510803 := ()
noncomputable def tw11485262483321504147 := ()
noncomputable def tw11654528698966634899 := ()
noncomputable def tw10808523732026529203 := ()
noncomputable def tw5196229539900182963 := ()
noncomputable def tw18213550111128282579 := ()
noncomputable def tw5040724870086128083 := ()
noncomputable def tw5618090036570625523 := ()
noncomputable def tw10449787608415806963 := ()
noncomputable def tw1919950746445055507 := ()
noncomputable def tw10094740369114087091 := ()
noncomputable def tw16569203536179485363 := ()
noncomputable def tw7412793595934138035 := ()
noncomputable def tw5300153304811432723 := ()
noncomputable def tw420704355632433043 := ()
noncomputable def tw8550927830427718611 := ()
noncomputable def tw11087234706123638739 := ()
noncomputable def tw7620222705805890612 := ()
noncomputable def tw3777793649098796116 := ()
noncomputable def tw8100658715556235380 := ()
noncomputable def tw3903448579753318580 := ()
noncomputable def tw7587947221885857012 := ()
noncomputable def tw1535923397307692276 := ()
noncomputable def tw7434225288354510100 := ()
noncomputable def tw9973843938909483284 := ()
noncomputable def tw10583330095424508244 := ()
noncomputable def tw16242899280820629844 := ()
noncomputable def tw1451153181596815732 := ()
noncomputable def tw9574829668288386452 := ()
noncomputable def tw17861288693174139380 := ()
noncomputable def tw9346369139451144724 := ()
noncomputable def tw3179139135150432788 := ()
noncomputable def tw5911306590943975988 := ()
noncomputable def tw6579437999634643668 := ()
noncomputable def tw2541756395590665972 := ()
noncomputable def tw8405873475818693396 := ()
noncomputable def tw18066093322525981460 := ()
noncomputable def tw4746671270363421460 := ()
noncomputable def tw5618092905305968436 := ()
noncomputable def tw6831230872085078932 := ()
noncomputable def tw6411991190214727572 := ()
noncomputable def tw4790735753249505236 := ()
noncomputable def tw15727451748728016917 := ()
noncomputable def tw1302779876331314261 := ()
noncomputable def tw528317404082896021 := ()
noncomputable def tw13451673688820103381 := ()
noncomputable def tw7940943610438276309 := ()
noncomputable def tw9062783229550382325 := ()
noncomputable def tw3710084893381779797 := ()
noncomputable def tw5134079366006748565 := ()
noncomputable def tw15619819429015075285 := ()
noncomputable def tw86725699252381269 := ()
noncomputable def tw15650300572602209909 := ()
noncomputable def tw18430830979676116597 := ()
noncomputable def tw2548732457619874421 := ()
noncomputable def tw2178360901421603477 := ()
noncomputable def tw10424847382271019669 := ()
noncomputable def tw16113661940068076341 := ()
noncomputable def tw4633110567016410005 := ()
noncomputable def tw5517575506260687765 := ()
noncomputable def tw5563200842629528565 := ()
noncomputable def tw7559191703301887030 := ()
noncomputable def tw2092801807399873590 := ()
noncomputable def tw4491703192781017174 := ()
noncomputable def tw8848657184749567094 := ()
noncomputable def tw12340215418302667062 := ()
noncomputable def tw12421632957867410742 := ()
noncomputable def tw15097000747678269782 := ()
noncomputable def tw9789207156141649238 := ()
noncomputable def tw16083036889084180886 := ()
noncomputable def tw18145874924629439990 := ()
noncomputable def tw5689792141433908790 := ()
noncomputable def tw18028214219470976662 := ()
noncomputable def tw10817768912509451958 := ()
noncomputable def tw12843979665543653078 := ()
noncomputable def tw4563274265051082775 := ()
noncomputable def tw9585286002618318903 := ()
noncomputable def tw12864184756475470935 := ()
noncomputable def tw16905615170866141271 := ()
noncomputable def tw10308036536315672791 := ()
noncomputable def tw12313660421005256983 := ()
noncomputable def tw4338942817435410743 := ()
noncomputable def tw16773076210400368983 := ()
noncomputable def tw6154287305755722071 := ()
noncomputable def tw8385264622716125559 := ()
noncomputable def tw13299966406112781687 := ()
noncomputable def tw956344487453159799 := ()
noncomputable def tw13334375462480659959 := ()
noncomputable def tw13880294428895439383 := ()
noncomputable def tw13853244208099414583 := ()
noncomputable def tw2902301843366042167 := ()
noncomputable def tw11759380650765589207 := ()
noncomputable def tw6448944108236028823 := ()
noncomputable def tw16646250007669375032 := ()
noncomputable def tw11628504527080658008 := ()
noncomputable def tw14800165991073250520 := ()
noncomputable def tw17774064212316066008 := ()
noncomputable def tw10080456590855493880 := ()
noncomputable def tw14623898758803926264 := ()
noncomputable def tw8431584694515144024 := ()
noncomputable def tw16963210051066392920 := ()
noncomputable def tw7457567468257587576 := ()
noncomputable def tw10843927812284216760 := ()
noncomputable def tw15657845440767169016 := ()
noncomputable def tw2457061983777524248 := ()
noncomputable def tw16087940056148722232 := ()
noncomputable def tw1634649997704270424 := ()
noncomputable def tw943887793316309592 := ()
noncomputable def tw7838061184629076696 := ()
noncomputable def tw15218241009935322840 := ()
noncomputable def tw7410966425607181048 := ()
noncomputable def tw14837446060170633080 := ()
noncomputable def tw7115000689812990872 := ()
noncomputable def tw728530158152386520 := ()
noncomputable def tw15370395965287425049 := ()
noncomputable def tw5462785906702028825 := ()
noncomputable def tw9352717179451271257 := ()
noncomputable def tw15670125077526828121 := ()
noncomputable def tw12511437007564688505 := ()
noncomputable def tw6806748674626334841 := ()
noncomputable def tw13207219378996841625 := ()
noncomputable def tw11967554434015359129 := ()
noncomputable def tw6895548269400260793 := ()
noncomputable def tw16249754105263430841 := ()
noncomputable def tw8186192943689066681 := ()
noncomputable def tw8886044974574109017 := ()
noncomputable def tw17454508751462021561 := ()
noncomputable def tw12942266858824640057 := ()
noncomputable def tw12466228510625417785 := ()
noncomputable def tw10983737309092473401 := ()
noncomputable def tw9400794938817477177 := ()
noncomputable def tw393071771454930489 := ()
noncomputable def tw445330347629245049 := ()
noncomputable def tw3646550996331460249 := ()
noncomputable def tw14364865773922876057 := ()
noncomputable def tw1851841863759090585 := ()
noncomputable def tw15349601077322738649 := ()
noncomputable def tw3903520763384916953 := ()
noncomputable def tw15415602840322012121 := ()
noncomputable def tw4812887614071259226 := ()
noncomputable def tw813963729301497946 := ()
noncomputable def tw10047731076751684698 := ()
noncomputable def tw7916112101326400634 := ()
noncomputable def tw15319780427593153786 := ()
noncomputable def tw9457763759039820058 := ()
noncomputable def tw11087146768654548250 := ()
noncomputable def tw13729986958097986938 := ()
noncomputable def tw11896123325311072762 := ()
noncomputable def tw14283812994754217530 := ()
noncomputable def tw15671031013643361850 := ()
noncomputable def tw10636030159174339162 := ()
noncomputable def tw6911454848739587834 := ()
noncomputable def tw12557316420800740122 := ()
noncomputable def tw11657814313695449914 := ()
noncomputable def tw9297310869573965658 := ()
noncomputable def tw10567465588404818778 := ()
noncomputable def tw5103022693001963579 := ()
noncomputable def tw4936913930284813371 := ()
noncomputable def tw2257463168881733787 := ()
noncomputable def tw8587261806971906235 := ()
noncomputable def tw9407848199053325499 := ()
noncomputable def tw17281888531501631739 := ()
noncomputable def tw3362651680977838331 := ()
noncomputable def tw9763847520885558555 := ()
noncomputable def tw646289064280164731 := ()
noncomputable def tw1168302823695579515 := ()
noncomputable def tw16035763590573962651 := ()
noncomputable def tw4093529240245379547 := ()
noncomputable def tw13504733288817406491 := ()
noncomputable def tw12166671497722250811 := ()
noncomputable def tw3749468002719621691 := ()
noncomputable def tw7857965863292105403 := ()
noncomputable def tw13811638245119715035 := ()
noncomputable def tw14187484942826756859 := ()
noncomputable def tw13807128262956149627 := ()
noncomputable def tw9647454638242658203 := ()
noncomputable def tw16398258141092717499 := ()
noncomputable def tw10398237772527594427 := ()
noncomputable def tw8621743607714659356 := ()
noncomputable def tw14483111216692772924 := ()
noncomputable def tw3777045211668534332 := ()
noncomputable def tw10309304243565339740 := ()
noncomputable def tw14009565606522585308 := ()
noncomputable def tw3027272232334066908 := ()
noncomputable def tw11726497442498914524 := ()
noncomputable def tw6894913714221768988 := ()
noncomputable def tw13559687591481497916 := ()
noncomputable def tw15198334836189595996 := ()
noncomputable def tw16196321663305222748 := ()
noncomputable def tw11273613899270593116 := ()
noncomputable def tw10371646685129560668 := ()
noncomputable def tw1801803811632751228 := ()
noncomputable def tw203163122684570236 := ()
noncomputable def tw6453121585496110716 := ()
noncomputable def tw9435473310229511836 := ()
noncomputable def tw5113269980752778972 := ()
noncomputable def tw11095858142756359900 := ()
noncomputable def tw6996630181286058748 := ()
noncomputable def tw7818223798850261820 := ()
noncomputable def tw814690343947039548 := ()
noncomputable def tw8025392913055592412 := ()
noncomputable def tw18057944791591961661 := ()
noncomputable def tw3308588711337870429 := ()
noncomputable def tw12851884438965933181 := ()
noncomputable def tw16719040438929183869 := ()
noncomputable def tw3900992950240062653 := ()
noncomputable def tw16766091053869074685 := ()
noncomputable def tw13363820150523545885 := ()
noncomputable def tw887062909314542909 := ()
noncomputable def tw7140375914381455741 := ()
noncomputable def tw3713679668580413821 := ()
noncomputable def tw4035222307537538525 := ()
noncomputable def tw2316887471146330621 := ()
noncomputable def tw13512480294933227101 := ()
noncomputable def tw450775541354253053 := ()
noncomputable def tw12828358942043443965 := ()
noncomputable def tw13842440167138563869 := ()
noncomputable def tw16016610191891848989 := ()
noncomputable def tw1004447228458508221 := ()
noncomputable def tw15642597624876089309 := ()
noncomputable def tw5516886504665112573 := ()
noncomputable def tw10492781044805730334 := ()
noncomputable def tw9888782316811381790 := ()
noncomputable def tw12997227796651407390 := ()
noncomputable def tw17920509166004756542 := ()
noncomputable def tw17030262004803095678 := ()
noncomputable def tw11670090271658114174 := ()
noncomputable def tw8112705025128119454 := ()
noncomputable def tw2679196997204836574 := ()
noncomputable def tw6337132424563469566 := ()
noncomputable def tw8496695287205444862 := ()
noncomputable def tw8000910913735007518 := ()
noncomputable def tw1943902543359131934 := ()
noncomputable def tw13575599859550833950 := ()
noncomputable def tw5842839380339530078 := ()
noncomputable def tw14569062964239560062 := ()
noncomputable def tw4472427662436390334 := ()
noncomputable def tw10456844361352138238 := ()
noncomputable def tw17302171035852539486 := ()
noncomputable def tw11878606415106704990 := ()
noncomputable def tw8858488185971358302 := ()
noncomputable def tw13362917412246863454 := ()
noncomputable def tw1646739181144728190 := ()
noncomputable def tw7492561464044008126 := ()
noncomputable def tw13433178394875325150 := ()
noncomputable def tw17393101402081253118 := ()
noncomputable def tw2990467002648908574 := ()
noncomputable def tw5586002316685144862 := ()
noncomputable def tw14063426043440345022 := ()
noncomputable def tw15313980629762096094 := ()
noncomputable def tw13370865776994551806 := ()
noncomputable def tw12303780585019872254 := ()
noncomputable def tw8142819095350733887 := ()
noncomputable def tw1799541075244146783 := ()
noncomputable def tw17955196772911241375 := ()
noncomputable def tw8472829476165302495 := ()
noncomputable def tw13733413263517069599 := ()
noncomputable def tw13909686558427909471 := ()
noncomputable def tw2015552844645120383 := ()
noncomputable def tw7468087396184510015 := ()
noncomputable def tw5763014070664671903 := ()
noncomputable def tw18218028622440227487 := ()
noncomputable def tw15904917074253319935 := ()
noncomputable def tw14200570793528517407 := ()
noncomputable def tw13530814681677155167 := ()
noncomputable def tw9540683562383864671 := ()
noncomputable def tw430923670834466687 := ()
noncomputable def tw10311770634771574687 := ()
noncomputable def tw4499288788701883295 := ()
noncomputable def tw782747059535481791 := ()
noncomputable def tw300159903394462655 := ()
noncomputable def tw4292813812079215583 := ()
noncomputable def tw9705918993170180341 := ()
noncomputable def tw7573181124040783060 := ()
noncomputable def tw11513193907700653275 := ()
noncomputable def tw12375374444033279615 := ()
noncomputable def tw5817963865781843549 := ()
noncomputable def tw13743097840718773728 := ()
noncomputable def tw6482651118276094351 := ()
noncomputable def tw6481493066343580876 := ()
noncomputable def tw13985811709329825068 := ()
noncomputable def tw9469585291395847310 := ()
noncomputable def tw3014676228984176273 := ()
end PySem.W.Fast
open PySem PySem.W PyProof.Rows
set_option maxRecDepth 100000 in
set_option maxHeartbeats 0 in
theorem PySem.Challenge.cw_sowring_k63_texts_refused_holds : PySem.Challenge.rw_sowring_k63_texts_refused.Holds := by
  w_on; o_law; k_head; (case hw=>w_witness2)
  k_fill
  refine L2.walk_ofK (l:=PySem.Challenge.rw_sowring_k63_texts_refused) (n:=63) (k:=9) (x := "script") (CX:=L2.CX0) (sp:=My.sp_law) rfl (by decide) rfl ⟨rfl,by decide,by decide⟩ (fun w h Y=>by first | exact PySem.W.kIn_of Y | exact PySem.W.km_in_of Y) ?F ?S ?C
  case F =>
    intro w mg fa h KX G hmg
    have T:My.Txt (L2.KOf KX) mg:=by
      dsimp only [L2.KOf]
      refine' My.txt_mk KX G ?a__law_at ?l__law_at ?c__law_at ?k__law_at ?a__law_folded ?l__law_folded ?c__law_folded ?k__law_folded ?a__law_board ?l__law_board ?c__law_board ?k__law_board ?a_is_whole ?l_is_whole ?c_is_whole ?k_is_whole ?a_is_whole_from ?l_is_whole_from ?c_is_whole_from ?k_is_whole_from ?a_is_list_from_nought ?l_is_list_from_nought ?c_is_list_from_nought ?k_is_list_from_nought ?a_most_seeds ?l_most_seeds ?c_most_seeds ?k_most_seeds ?a_is_board ?l_is_board ?c_is_board ?k_is_board ?a_check_board ?l_check_board ?c_check_board ?k_check_board ?a_number_or_too_many ?l_number_or_too_many ?c_number_or_too_many ?k_number_or_too_many ?a_is_number ?l_is_number ?c_is_number ?k_is_number ?a_read_board ?l_read_board ?c_read_board ?k_read_board ?a_answers_to ?l_answers_to ?c_answers_to ?k_answers_to ?a__law_refused ?l__law_refused ?c__law_refused ?k__law_refused ?a__law_odd ?l__law_odd ?c__law_odd ?k__law_odd ?a_law ?l_law ?c_law ?k_law ?a_FEWEST_PITS ?a_FIGURES ?a_MOST_FIGURES ?a_MOST_PITS ?z_ValueError ?z_all ?z_bool ?z_int ?z_isinstance ?z_len ?z_list ?z_range ?z_str ?z_sum ?x_tab ?am_SowError ?fm1_SowError ?tm_SowError ?lm_SowError ?cm_SowError ?km_SowError ?am_BadBoard ?fm1_BadBoard ?tm_BadBoard ?lm_BadBoard ?cm_BadBoard ?km_BadBoard ?am_BadPit ?fm1_BadPit ?tm_BadPit ?lm_BadPit ?cm_BadPit ?km_BadPit ?am_BadPits ?fm1_BadPits ?tm_BadPits ?lm_BadPits ?cm_BadPits ?km_BadPits ?am_BadCount ?fm1_BadCount ?tm_BadCount ?lm_BadCount ?cm_BadCount ?km_BadCount ?am_NoSeeds ?fm1_NoSeeds ?tm_NoSeeds ?lm_NoSeeds ?cm_NoSeeds ?km_NoSeeds ?am_Unlike ?fm1_Unlike ?tm_Unlike ?lm_Unlike ?cm_Unlike ?km_Unlike ?am_TooLong ?fm1_TooLong ?tm_TooLong ?lm_TooLong ?cm_TooLong ?km_TooLong ?am_TooMany ?fm1_TooMany ?tm_TooMany ?lm_TooMany ?cm_TooMany ?km_TooMany ?am_BadLine ?fm1_BadLine ?tm_BadLine ?lm_BadLine ?cm_BadLine ?km_BadLine ?am_BadYard ?fm1_BadYard ?tm_BadYard ?lm_BadYard ?cm_BadYard ?km_BadYard ?am_BadText ?fm1_BadText ?tm_BadText ?lm_BadText ?cm_BadText ?km_BadText
      (case a__law_at=>k_is)
      (case l__law_at=>k_is)
      (case c__law_at=>k_is)
      (case k__law_at=>k_is)
      (case a__law_folded=>k_is)
      (case l__law_folded=>k_is)
      (case c__law_folded=>k_is)
      (case k__law_folded=>k_is)
      (case a__law_board=>k_is)
      (case l__law_board=>k_is)
      (case c__law_board=>k_is)
      (case k__law_board=>k_is)
      (case a_is_whole=>k_is)
      (case l_is_whole=>k_is)
      (case c_is_whole=>k_is)
      (case k_is_whole=>k_is)
      (case a_is_whole_from=>k_is)
      (case l_is_whole_from=>k_is)
      (case c_is_whole_from=>k_is)
      (case k_is_whole_from=>k_is)
      (case a_is_list_from_nought=>k_is)
      (case l_is_list_from_nought=>k_is)
      (case c_is_list_from_nought=>k_is)
      (case k_is_list_from_nought=>k_is)
      (case a_most_seeds=>k_is)
      (case l_most_seeds=>k_is)
      (case c_most_seeds=>k_is)
      (case k_most_seeds=>k_is)
      (case a_is_board=>k_is)
      (case l_is_board=>k_is)
      (case c_is_board=>k_is)
      (case k_is_board=>k_is)
      (case a_check_board=>k_is)
      (case l_check_board=>k_is)
      (case c_check_board=>k_is)
      (case k_check_board=>k_is)
      (case a_number_or_too_many=>k_is)
      (case l_number_or_too_many=>k_is)
      (case c_number_or_too_many=>k_is)
      (case k_number_or_too_many=>k_is)
      (case a_is_number=>k_is)
      (case l_is_number=>k_is)
      (case c_is_number=>k_is)
      (case k_is_number=>k_is)
      (case a_read_board=>k_is)
      (case l_read_board=>k_is)
      (case c_read_board=>k_is)
      (case k_read_board=>k_is)
      (case a_answers_to=>k_is)
      (case l_answers_to=>k_is)
      (case c_answers_to=>k_is)
      (case k_answers_to=>k_is)
      (case a__law_refused=>k_is)
      (case l__law_refused=>k_is)
      (case c__law_refused=>k_is)
      (case k__law_refused=>k_is)
      (case a__law_odd=>k_is)
      (case l__law_odd=>k_is)
      (case c__law_odd=>k_is)
      (case k__law_odd=>k_is)
      (case a_law=>k_is)
      (case l_law=>k_is)
      (case c_law=>k_is)
      (case k_law=>k_is)
      (case a_FEWEST_PITS=>k_is)
      (case a_FIGURES=>k_is)
      (case a_MOST_FIGURES=>k_is)
      (case a_MOST_PITS=>k_is)
      (case z_ValueError=>k_is)
      (case z_all=>k_is)
      (case z_bool=>k_is)
      (case z_int=>k_is)
      (case z_isinstance=>k_is)
      (case z_len=>k_is)
      (case z_list=>k_is)
      (case z_range=>k_is)
      (case z_str=>k_is)
      (case z_sum=>k_is)
      (case x_tab=>kernel_rfl)
      (case am_SowError=>k_is)
      (case fm1_SowError=>k_is)
      (case tm_SowError=>k_is)
      (case lm_SowError=>k_is)
      (case cm_SowError=>k_is)
      (case km_SowError=>k_is)
      (case am_BadBoard=>k_is)
      (case fm1_BadBoard=>k_is)
      (case tm_BadBoard=>k_is)
      (case lm_BadBoard=>k_is)
      (case cm_BadBoard=>k_is)
      (case km_BadBoard=>k_is)
      (case am_BadPit=>k_is)
      (case fm1_BadPit=>k_is)
      (case tm_BadPit=>k_is)
      (case lm_BadPit=>k_is)
      (case cm_BadPit=>k_is)
      (case km_BadPit=>k_is)
      (case am_BadPits=>k_is)
      (case fm1_BadPits=>k_is)
      (case tm_BadPits=>k_is)
      (case lm_BadPits=>k_is)
      (case cm_BadPits=>k_is)
      (case km_BadPits=>k_is)
      (case am_BadCount=>k_is)
      (case fm1_BadCount=>k_is)
      (case tm_BadCount=>k_is)
      (case lm_BadCount=>k_is)
      (case cm_BadCount=>k_is)
      (case km_BadCount=>k_is)
      (case am_NoSeeds=>k_is)
      (case fm1_NoSeeds=>k_is)
      (case tm_NoSeeds=>k_is)
      (case lm_NoSeeds=>k_is)
      (case cm_NoSeeds=>k_is)
      (case km_NoSeeds=>k_is)
      (case am_Unlike=>k_is)
      (case fm1_Unlike=>k_is)
      (case tm_Unlike=>k_is)
      (case lm_Unlike=>k_is)
      (case cm_Unlike=>k_is)
      (case km_Unlike=>k_is)
      (case am_TooLong=>k_is)
      (case fm1_TooLong=>k_is)
      (case tm_TooLong=>k_is)
      (case lm_TooLong=>k_is)
      (case cm_TooLong=>k_is)
      (case km_TooLong=>k_is)
      (case am_TooMany=>k_is)
      (case fm1_TooMany=>k_is)
      (case tm_TooMany=>k_is)
      (case lm_TooMany=>k_is)
      (case cm_TooMany=>k_is)
      (case km_TooMany=>k_is)
      (case am_BadLine=>k_is)
      (case fm1_BadLine=>k_is)
      (case tm_BadLine=>k_is)
      (case lm_BadLine=>k_is)
      (case cm_BadLine=>k_is)
      (case km_BadLine=>k_is)
      (case am_BadYard=>k_is)
      (case fm1_BadYard=>k_is)
      (case tm_BadYard=>k_is)
      (case lm_BadYard=>k_is)
      (case cm_BadYard=>k_is)
      (case km_BadYard=>k_is)
      (case am_BadText=>k_is)
      (case fm1_BadText=>k_is)
      (case tm_BadText=>k_is)
      (case lm_BadText=>k_is)
      (case cm_BadText=>k_is)
      (case km_BadText=>k_is)
    exact My.law_fn T hmg
  case S=>exact fun K H a ns hl hO hS=>My.law_start hl hO hS
  case C=>exact fun _ _ _ _ z=>z

